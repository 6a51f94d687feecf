/- session: steps that leave a finished request what it is. -/
import Derived.Test.YteikhbfdegmffaaB1
namespace Go.Proofs.Yteikhbfdegmffaa.Se
open Go Go.RowKit
/-- Of the client c the last that was finished is seq, with a. -/
def OnceS (w0 : World) (b c : Nat) (seq : Int) (a : An) (w : World) : Prop := ∃ K, TabS w0 b (fun k => k = b) K w ∧ (K c).last = seq ∧ (K c).a = a
section
variable {w0 w : World} {b c : Nat} {seq : Int} {a : An}
theorem OnceS.below {w' : World} (h : OnceS w0 b c seq a w) (hb : Below w.heap.size w w') : OnceS w0 b c seq a w' := by
  obtain ⟨K, h1, h2⟩ := h
  exact ⟨K, h1.below hb, h2⟩
theorem OnceS.low (h : OnceS w0 b c seq a w) : Below w0.heap.size w0 w := by
  obtain ⟨K, h1, _⟩ := h
  exact h1.low
theorem ok_or (cl sq : Int) (h0 : 0 ≤ cl) (h1 : 0 ≤ sq) : (4 ≤ cl ∨ sq = 0) ∨ ∃ i : Nat, cl = (i : Int) ∧ i < 4 ∧ 0 < sq := by
  by_cases h : 4 ≤ cl ∨ sq = 0
  · exact .inl h
  · exact .inr ⟨cl.toNat, by omega, by omega, by omega⟩
theorem OnceS.put {K : Nat → Sm} {w' : World} {i : Nat} {k : Sm} (h : TabS w0 b (fun k => k = b) (put K i k) w') (hl : (K c).last = seq) (ha : (K c).a = a) (hk : i = c → k.last = (K c).last ∧ k.a = (K c).a) : OnceS w0 b c seq a w' := by
  refine ⟨_, h, ?_⟩
  by_cases e : c = i
  · subst e
    rw [put_at, (hk rfl).1, (hk rfl).2]
    exact ⟨hl, ha⟩
  · rw [put_ne _ _ e]; exact ⟨hl, ha⟩
theorem start_keeps (k : Sm) (sq : Int) : (startK k sq).last = k.last ∧ (startK k sq).a = k.a := by
  unfold startK; split <;> exact ⟨rfl, rfl⟩
theorem fail_keeps (k : Sm) (sq : Int) : (failK k sq).last = k.last ∧ (failK k sq).a = k.a := by
  unfold failK; split <;> exact ⟨rfl, rfl⟩
theorem OnceS.start (h : OnceS w0 b c seq a w) (cl sq : Int) (c0 : 0 ≤ cl) (s0 : 0 ≤ sq) (s1 : sq ≤ 4294967295) :
    Calls Try.prog 7 #[.pointer (some ⟨b, 0, none⟩), .int .u8 cl, .int .u32 sq] w fun e w' => (∃ q, e = .returned (.int .i64 q)) ∧ OnceS w0 b c seq a w' := by
  rcases ok_or cl sq c0 s0 with hb | ⟨i, rfl, hi, hs⟩
  · refine (start_bad _ cl sq w hb).mono ?_
    rintro e w' ⟨rfl, rfl⟩
    exact ⟨⟨_, rfl⟩, h⟩
  · obtain ⟨K, h1, h2, h3⟩ := h
    refine (start_ok h1 hi hs s1).mono ?_
    rintro e w' ⟨rfl, h4, _⟩
    exact ⟨⟨_, rfl⟩, OnceS.put h4 h2 h3 (fun e => by subst e; exact start_keeps _ _)⟩
theorem OnceS.fail (h : OnceS w0 b c seq a w) (cl sq : Int) (c0 : 0 ≤ cl) (s0 : 0 ≤ sq) :
    Calls Try.prog 11 #[.pointer (some ⟨b, 0, none⟩), .int .u8 cl, .int .u32 sq] w fun e w' => (∃ q, e = .returned (.int .i64 q)) ∧ OnceS w0 b c seq a w' := by
  rcases ok_or cl sq c0 s0 with hb | ⟨i, rfl, hi, hs⟩
  · refine (fail_bad _ cl sq w hb).mono ?_
    rintro e w' ⟨rfl, rfl⟩
    exact ⟨⟨_, rfl⟩, h⟩
  · obtain ⟨K, h1, h2, h3⟩ := h
    refine (fail_ok h1 hi hs).mono ?_
    rintro e w' ⟨rfl, h4, _⟩
    exact ⟨⟨_, rfl⟩, OnceS.put h4 h2 h3 (fun e => by subst e; exact fail_keeps _ _)⟩
theorem OnceS.fin (h : OnceS w0 b c seq a w) (cl sq : Int) (c0 : 0 ≤ cl) (s0 : 0 ≤ sq) (s1 : sq ≤ 4294967295) (hq : cl ≠ (c : Int) ∨ sq ≤ seq) {a' : An} {p' : Pl} (ha : AnAt w a' p') :
    Calls Try.prog 8 #[.pointer (some ⟨b, 0, none⟩), .int .u8 cl, .int .u32 sq, a'.val p'] w fun e w' => (∃ q, e = .returned (.int .i64 q)) ∧ OnceS w0 b c seq a w' ∧ Did b w w' := by
  rcases ok_or cl sq c0 s0 with hb | ⟨i, rfl, hi, hs⟩
  · refine (fin_bad a' p' _ cl sq w hb).mono ?_
    rintro e w' ⟨rfl, hb'⟩
    exact ⟨⟨_, rfl⟩, h.below hb', below_any hb'⟩
  · obtain ⟨K, h1, h2, h3⟩ := h
    refine (fin_ok h1 hi hs s1 ha).mono ?_
    rintro e w' ⟨rfl, h4, hd⟩
    refine ⟨⟨_, rfl⟩, OnceS.put h4 h2 h3 (fun e => ?_), hd⟩
    subst e
    have : sq ≤ (K i).last := by rw [h2]; exact hq.resolve_left (fun h => h rfl)
    unfold finK
    rw [if_pos this]
    exact ⟨rfl, rfl⟩
theorem OnceS.ask (h : OnceS w0 b c seq a w) (cl sq : Int) (c0 : 0 ≤ cl) (s0 : 0 ≤ sq) (s1 : sq ≤ 4294967295) :
    Calls Try.prog 10 #[.pointer (some ⟨b, 0, none⟩), .int .u8 cl, .int .u32 sq] w fun e w' => (∃ x y z, e = .returned (.tuple #[x, y, z])) ∧ OnceS w0 b c seq a w' := by
  rcases ok_or cl sq c0 s0 with hb | ⟨i, rfl, hi, hs⟩
  · refine (ask_bad _ cl sq w hb).mono ?_
    rintro e w' ⟨p, rfl, _, hb'⟩
    exact ⟨⟨_, _, _, rfl⟩, h.below hb'⟩
  · have h' := h
    obtain ⟨K, h1, h2, h3⟩ := h
    refine (ask_ok h1 hi hs s1).mono ?_
    rintro e w' ⟨p, rfl, _, hb'⟩
    exact ⟨⟨_, _, _, rfl⟩, h'.below hb'⟩
theorem far_self (n : Int) : farB n n = false := by simp [farB]
theorem OnceS.done (h : OnceS w0 b c seq a w) (hc : c < 4) (s0 : 0 < seq) (s1 : seq ≤ 4294967295) :
    Calls Try.prog 10 #[.pointer (some ⟨b, 0, none⟩), .int .u8 c, .int .u32 seq] w fun e w' => ∃ p, e = .returned (.tuple #[.int .i64 2, a.val p, .int .i64 0]) ∧ AnAt w' a p ∧ OnceS w0 b c seq a w' := by
  have h' := h
  obtain ⟨K, h1, h2, h3⟩ := h
  have hr : askR (K c) seq = (2, a, 0) := by unfold askR; rw [h2, h3, far_self, if_neg (by decide), if_neg (by omega), if_pos rfl]
  refine (ask_ok h1 hc s0 s1).mono ?_
  rw [hr]
  rintro e w' ⟨p, rfl, h4, hb'⟩
  exact ⟨p, rfl, h4, h'.below hb'⟩
theorem OnceS.state (h : OnceS w0 b c seq a w) (hc : c < 4) (s0 : 0 < seq) (s1 : seq ≤ 4294967295) :
    Calls Try.prog 7 #[.pointer (some ⟨b, 0, none⟩), .int .u8 c, .int .u32 seq] w fun e w' => e = .returned (.int .i64 9) ∧ OnceS w0 b c seq a w' := by
  obtain ⟨K, h1, h2, h3⟩ := h
  have hr : startE (K c) seq = 9 := by unfold startE; rw [h2, far_self, if_neg (by decide), if_pos (Int.le_refl _)]
  refine (start_ok h1 hc s0 s1).mono ?_
  rw [hr]
  rintro e w' ⟨rfl, h4, _⟩
  exact ⟨rfl, OnceS.put h4 h2 h3 (fun _ => start_keeps _ _)⟩
end
/-- The first steps: begun, busy, finished. -/
theorem first_start {w0 w : World} {b c : Nat} (h : TabS w0 b (fun k => k = b) (fun _ => Sm.zero) w) (hc : c < 4) {seq : Int} (s0 : 0 < seq) (s1 : seq ≤ 4) :
    Calls Try.prog 7 #[.pointer (some ⟨b, 0, none⟩), .int .u8 c, .int .u32 seq] w fun e w' => e = .returned (.int .i64 0) ∧ TabS w0 b (fun k => k = b) (put (fun _ => Sm.zero) c { Sm.zero with run := seq }) w' := by
  have hr : startE Sm.zero seq = 0 := by
    unfold startE farB
    rw [show decide ((4 : Int) < seq - Sm.zero.last) = false from decide_eq_false (by simp only [Sm.zero]; omega), Bool.and_false, if_neg (by decide), if_neg (by simp only [Sm.zero]; omega), if_neg (by simp [Sm.zero])]
  have hk : startK Sm.zero seq = { Sm.zero with run := seq } := by unfold startK; rw [hr]; rfl
  refine (start_ok h hc s0 (by omega)).mono ?_
  rw [hr, hk]
  rintro e w' ⟨rfl, h4, _⟩
  exact ⟨rfl, h4⟩
theorem first_busy {w0 w : World} {b c : Nat} {seq : Int} (h : TabS w0 b (fun k => k = b) (put (fun _ => Sm.zero) c { Sm.zero with run := seq }) w) (hc : c < 4) (s0 : 0 < seq) (s1 : seq ≤ 4) :
    Calls Try.prog 7 #[.pointer (some ⟨b, 0, none⟩), .int .u8 c, .int .u32 seq] w fun e w' => e = .returned (.int .i64 14) ∧ TabS w0 b (fun k => k = b) (put (fun _ => Sm.zero) c { Sm.zero with run := seq }) w' := by
  have hr : startE { Sm.zero with run := seq } seq = 14 := by
    unfold startE farB
    rw [show decide ((4 : Int) < seq - Sm.zero.last) = false from decide_eq_false (by simp only [Sm.zero]; omega), Bool.and_false, if_neg (by decide), if_neg (by simp only [Sm.zero]; omega), if_pos (by simp only; omega)]
  have hk : startK { Sm.zero with run := seq } seq = { Sm.zero with run := seq } := by unfold startK; rw [hr]; rfl
  refine (start_ok h hc s0 (by omega)).mono ?_
  rw [put_at, hr, hk, put_put]
  rintro e w' ⟨rfl, h4, _⟩
  exact ⟨rfl, h4⟩
theorem first_fin {w0 w : World} {b c : Nat} {seq : Int} (h : TabS w0 b (fun k => k = b) (put (fun _ => Sm.zero) c { Sm.zero with run := seq }) w) (hc : c < 4) (s0 : 0 < seq) (s1 : seq ≤ 4) {a : An} {p : Pl} (ha : AnAt w a p) :
    Calls Try.prog 8 #[.pointer (some ⟨b, 0, none⟩), .int .u8 c, .int .u32 seq, a.val p] w fun e w' => e = .returned (.int .i64 0) ∧ OnceS w0 b c seq a w' := by
  have hn : ¬ seq ≤ Sm.zero.last := by simp only [Sm.zero]; omega
  have hr : finE { Sm.zero with run := seq } seq = 0 := by unfold finE; exact if_neg hn
  refine (fin_ok h hc s0 (by omega) ha).mono ?_
  rw [put_at, hr, put_put]
  rintro e w' ⟨rfl, h4, _⟩
  refine ⟨rfl, _, h4, ?_⟩
  rw [put_at]
  unfold finK
  rw [if_neg (show ¬ seq ≤ (({ Sm.zero with run := seq } : Sm)).last from hn)]
  exact ⟨rfl, rfl⟩
/-- A step of the law's, by what it holds. -/
structure OpS where
  kd : Int
  cl : Int
  sq : Int
  a : An
  p : Pl
def OpS.cells (o : OpS) : List Value := [.int .u8 o.kd, .int .u8 o.cl, .int .u32 o.sq, .int .i64 o.a.E, .int .i64 o.a.At, .slice o.p.vo o.a.V.length o.p.vc, .slice o.p.lo o.a.L.length o.p.lc]
def RdS (w : World) (ao : Option Addr) (Os : List OpS) : Prop :=
  ∀ i o, Os[i]? = some o → ∃ b off, ao = some ⟨b, off, none⟩ ∧ b < w.heap.size ∧ ∀ j v, o.cells[j]? = some v → w.cell? ⟨b, off + i * 7 + j, none⟩ = some v
def OkS (w : World) (o : OpS) : Prop := AnAt w o.a o.p ∧ (0 ≤ o.cl ∧ o.cl ≤ 255) ∧ (0 ≤ o.sq ∧ o.sq ≤ 4294967295)
theorem RdS.at_ {w w' : World} {ao : Option Addr} {Os : List OpS} (h : RdS w ao Os) (hb : Below w.heap.size w w') {i : Nat} {o : OpS} (ho : Os[i]? = some o) :
    ∃ b off, ao = some ⟨b, off, none⟩ ∧ w'.cell? ⟨b, off + i * 7, none⟩ = some (.int .u8 o.kd) ∧ w'.cell? ⟨b, off + i * 7 + 1, none⟩ = some (.int .u8 o.cl) ∧ w'.cell? ⟨b, off + i * 7 + 2, none⟩ = some (.int .u32 o.sq) ∧ w'.cell? ⟨b, off + i * 7 + 3, none⟩ = some (.int .i64 o.a.E) ∧ w'.cell? ⟨b, off + i * 7 + 4, none⟩ = some (.int .i64 o.a.At) ∧ w'.cell? ⟨b, off + i * 7 + 5, none⟩ = some (.slice o.p.vo o.a.V.length o.p.vc) ∧ w'.cell? ⟨b, off + i * 7 + 6, none⟩ = some (.slice o.p.lo o.a.L.length o.p.lc) := by
  obtain ⟨b, off, h1, h2, h3⟩ := h i o ho
  have hc : ∀ j v, o.cells[j]? = some v → w'.cell? ⟨b, off + i * 7 + j, none⟩ = some v := fun j v hv => (hb.cell (p := ⟨b, off + i * 7 + j, none⟩) h2).trans (h3 j v hv)
  exact ⟨b, off, h1, hc 0 _ rfl, hc 1 _ rfl, hc 2 _ rfl, hc 3 _ rfl, hc 4 _ rfl, hc 5 _ rfl, hc 6 _ rfl⟩
/-- The cells of a step's copy. -/
def OpC (x : Nat) (o : OpS) (w : World) : Prop := w.cell? ⟨x, 1, none⟩ = some (.int .u8 o.cl) ∧ w.cell? ⟨x, 2, none⟩ = some (.int .u32 o.sq) ∧ w.cell? ⟨x, 3, none⟩ = some (.int .i64 o.a.E) ∧ w.cell? ⟨x, 4, none⟩ = some (.int .i64 o.a.At) ∧ w.cell? ⟨x, 5, none⟩ = some (.slice o.p.vo o.a.V.length o.p.vc) ∧ w.cell? ⟨x, 6, none⟩ = some (.slice o.p.lo o.a.L.length o.p.lc)
theorem OpC.on {Z : Nat → Prop} {x : Nat} {o : OpS} {w w' : World} (h : OpC x o w) (ht : Turned Z w w') (hx : ¬ Z x) : OpC x o w' := by
  have hb := ht.block x (World.block_lt_of_cell? w _ h.1) hx
  unfold OpC World.cell? at *
  simp only [hb]
  exact h
theorem OpC.made (w : World) (o : OpS) : OpC w.heap.size o (w.alloc (.cells #[.int .u8 o.kd, .int .u8 o.cl, .int .u32 o.sq, .int .i64 o.a.E, .int .i64 o.a.At, .slice o.p.vo o.a.V.length o.p.vc, .slice o.p.lo o.a.L.length o.p.lc] 36)) := by
  have h := heap_alloc_new w (.cells #[.int .u8 o.kd, .int .u8 o.cl, .int .u32 o.sq, .int .i64 o.a.E, .int .i64 o.a.At, .slice o.p.vo o.a.V.length o.p.vc, .slice o.p.lo o.a.L.length o.p.lc] 36)
  unfold OpC World.cell?
  simp only [h]
  exact ⟨rfl, rfl, rfl, rfl, rfl, rfl⟩
theorem OnceS.blk {w0 w : World} {b c : Nat} {seq : Int} {a : An} (h : OnceS w0 b c seq a w) : b < w.heap.size := by
  obtain ⟨K, ⟨F, h⟩, _⟩ := h
  exact h.tab.lt
end Go.Proofs.Yteikhbfdegmffaa.Se
