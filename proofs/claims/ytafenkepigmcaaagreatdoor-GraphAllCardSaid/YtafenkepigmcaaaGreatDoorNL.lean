/- graph: a vertex' half, walked. -/
import Derived.Test.YtafenkepigmcaaaGreatDoorNK
namespace Go.Proofs.YtafenkepigmcaaaGreatDoor.Gr
open Go Go.RowKit YtafenkepigmcaaaGreatDoor.So
def HalfPost (w : World) (L : EL Av) (b : Int) (e : Ending) (w' : World) : Prop := e = .returned (.tuple #[((getE L b).getD zA).val, .bool (getE L b).isSome]) ∧ Below w.heap.size w w'
theorem HalfPost.got {w w' : World} {L : EL Av} {b : Int} {a : Av} {v : Value} (h : getE L b = some a) (hv : a.val = v) (hb : Below w.heap.size w w') : HalfPost w L b (.returned (.tuple #[v, .bool true])) w' := ⟨by rw [h, ← hv]; rfl, hb⟩
theorem HalfPost.no {w w' : World} {L : EL Av} {b : Int} (h : getE L b = none) (hb : Below w.heap.size w w') : HalfPost w L b (.returned (.tuple #[zV, .bool false])) w' := ⟨by rw [h]; rfl, hb⟩
theorem three_turned (w : World) (b : Nat) (u0 u1 u2 : Value) : Turned (fun k => k = b) w (((w.setCell ⟨b, 0, none⟩ u0).setCell ⟨b, 1, none⟩ u1).setCell ⟨b, 2, none⟩ u2) :=
  ((turned_set w b 0 u0).then (turned_set _ b 1 u1)).then (turned_set _ b 2 u2)
set_option maxRecDepth 100000 in
set_option maxHeartbeats 2000000 in
theorem half_any (v b : Int) (th : Bool) (po ho : Option Addr) (np cp cl : Nat) (L : EL Av) (w : World) (hr : RdE .u32 w ho L) (hL : RiseE L) (hl : L.length ≤ 1000000) :
    Calls Tryz.prog 31 #[.agg #[.int .u32 v, .bool th, .slice po np cp, .slice ho L.length cl], .int .u32 b] w (HalfPost w L b) := by
  have b1 := (Below.refl w.heap.size w).alloc (Nat.le_refl _) (.cells #[.int .u32 v, .bool th, .slice po np cp, .slice ho L.length cl] 51)
  have b2 := b1.alloc b1.size (.cells #[.int .u8 0, .int .i64 0, .string ⟨#[]⟩] 47)
  have k1 := (heap_alloc_old (w.alloc (.cells #[.int .u32 v, .bool th, .slice po np cp, .slice ho L.length cl] 51)) (.cells #[.int .u8 0, .int .i64 0, .string ⟨#[]⟩] 47) (by simp)).trans (heap_alloc_new w (.cells #[.int .u32 v, .bool th, .slice po np cp, .slice ho L.length cl] 51))
  have k2 := heap_alloc2_new w (.cells #[.int .u32 v, .bool th, .slice po np cp, .slice ho L.length cl] 51) (.cells #[.int .u8 0, .int .i64 0, .string ⟨#[]⟩] 47)
  have hr2 := hr.on (K := fun _ => False) (below_any b2) (fun _ _ _ h => h)
  obtain ⟨z, hz⟩ : ∃ z, w.heap.size = z := ⟨_, rfl⟩
  obtain ⟨N, hN⟩ : ∃ N, L.length = N := ⟨_, rfl⟩
  have hl' : (N : Int) ≤ 1000000 := by omega
  rw [hN] at b1 b2 k1 k2 hr2 ⊢
  obtain ⟨W, hW⟩ : ∃ W, (w.alloc (.cells #[.int .u32 v, .bool th, .slice po np cp, .slice ho N cl] 51)).alloc (.cells #[.int .u8 0, .int .i64 0, .string ⟨#[]⟩] 47) = W := ⟨_, rfl⟩
  rw [hW] at b2 k1 k2 hr2
  rw [hz] at k1 k2
  have hz1 : z + 1 < W.heap.size := (Array.getElem?_eq_some_iff.1 k2).1
  have HK := Lib.hid (And.intro b2 (And.intro k1 (And.intro k2 (And.intro hr2 (And.intro hz (And.intro hN (And.intro hL hz1)))))))
  have hc3 : W.cell? ⟨z, 3, none⟩ = some (.slice ho N cl) := by simp [World.cell?, k1]
  clear hr hL hl b1 b2 k1 k2 hr2 hN hz1
  go_enter Tryz.func31, Tryz.ntmps31
  go_wp2_with fail
  clear hW hz
  go_loopw [11] (fun u wr => ∃ i : Nat, u = .int .i64 i ∧ i ≤ N ∧ Hid ((∀ e ∈ L.take i, e.1 ≠ b) ∧ Below W.heap.size W wr)) (fun u _ => N + 1 - (intOf u).toNat)
  case atStart => exact ⟨0, rfl, Nat.zero_le _, Lib.hid ⟨by simp, .refl _ _⟩⟩
  case round =>
    obtain ⟨i, rfl, hi, HI⟩ := hrel
    by_cases hiN : i < N
    · obtain ⟨⟨j, ⟨k, m, s⟩⟩, ho'⟩ : ∃ e, L[i]? = some e := ⟨_, List.getElem?_eq_getElem (by have := HK.out.2.2.2.2.2.1; omega)⟩
      obtain ⟨bb, off, rfl, hb, q0, q1, q2, q3⟩ := (HK.out.2.2.2.1.on (K := fun _ => False) (below_any HI.out.2) (fun _ _ _ h => h)) i _ ho'
      simp only at q0 q1 q2 q3
      have HO := Lib.hid ho'
      have hi1 : i + 1 ≤ N := hiN
      have HB1 := Lib.hid (HI.out.2.alloc HI.out.2.size (.cells #[.int .u32 j, .int .u8 k, .int .i64 m, .string s] 58))
      have hkb := (HB1.out.block (z + 1) HK.out.2.2.2.2.2.2.2).trans HK.out.2.2.1
      have HKb := Lib.hid hkb
      clear ho' hb hkb
      by_cases hjb : j = b
      · have hjb' : (j == b) = true := by simpa using hjb
        have HE := Lib.hid (show getE L b = some ⟨k, m, s⟩ from hjb ▸ get_of_mem HK.out.2.2.2.2.2.2.1 (List.mem_of_getElem? HO.out))
        clear hjb
        obtain ⟨p0, f0, p1, f1, p2, f2, hend⟩ := three (.int .u8 k) (.int .i64 m) (.string s) HKb.out
        have HEnd := Lib.hid hend
        clear hend
        go_wp2_with fail
        refine bodyPost_ret (v := .tuple #[.agg #[.int .u8 k, .int .i64 m, .string s], .bool true]) ?_ rfl ?_
        · exact results_75_tmp (p := 4) (u := 5) rfl _ _ (z + 1) _ _ _ (0, 0) rfl HEnd.out
        · exact .got HE.out rfl ((HK.out.1.trans (HB1.out.mono HK.out.1.size)).trans ((three_turned _ (z + 1) _ _ _).below (HK.out.1.trans (HB1.out.mono HK.out.1.size)).size (fun k hk => by have := HK.out.2.2.2.2.1; omega)))
      · have hjb' : (j == b) = false := by simpa using hjb
        have HE := Lib.hid (show ∀ e ∈ L.take (i + 1), e.1 ≠ b from fun e he => by
          rw [List.take_add_one, HO.out] at he
          rcases List.mem_append.1 he with he | he
          · exact HI.out.1 e he
          · simp at he; rw [he]; exact hjb)
        clear hjb
        go_wp2_with fail
        go_roundw
        case rel => exact ⟨i + 1, by go_num, hi1, Lib.hid ⟨HE.out, HB1.out⟩⟩
        case measure => simp [intOf] <;> omega
    · have hiE : N = i := by omega
      subst hiE
      have hg : getE L b = none := getE_none (by have := HI.out.1; rw [show L.take N = L by rw [← HK.out.2.2.2.2.2.1]; exact List.take_length] at this; exact this)
      have HE := Lib.hid (And.intro hg HI.out.2)
      have hkb := (HE.out.2.block (z + 1) HK.out.2.2.2.2.2.2.2).trans HK.out.2.2.1
      obtain ⟨p0, f0, p1, f1, p2, f2, hend⟩ := three (.int .u8 0) (.int .i64 0) (.string ⟨#[]⟩) hkb
      have HEnd := Lib.hid hend
      clear hend hkb hg HI hi
      go_wp2_with fail
      refine bodyPost_ret (v := .tuple #[zV, .bool false]) ?_ rfl ?_
      · exact results_75_tmp (p := 4) (u := 5) rfl _ _ (z + 1) _ _ _ (0, 0) rfl HEnd.out
      · exact .no HE.out.1 ((HK.out.1.trans (HE.out.2.mono HK.out.1.size)).trans ((three_turned _ (z + 1) _ _ _).below (HK.out.1.trans (HE.out.2.mono HK.out.1.size)).size (fun k hk => by have := HK.out.2.2.2.2.1; omega)))
end Go.Proofs.YtafenkepigmcaaaGreatDoor.Gr
/- graph: a script, request by request; a vertex that is there. -/
namespace Go.Proofs.YtafenkepigmcaaaGreatDoor.Gr
open Go Go.RowKit YtafenkepigmcaaaGreatDoor.So
/-- The requests as they were handed in. -/
def RdS (w : World) (so : Option Addr) (rs : List Rq) : Prop :=
  ∀ (i : Nat) (r : Rq), rs[i]? = some r → ∃ b off ao cap, so = some ⟨b, off, none⟩ ∧ b < w.heap.size ∧ w.cell? ⟨b, off + i * 5, none⟩ = some (.int .u8 r.kd) ∧ w.cell? ⟨b, off + i * 5 + 1, none⟩ = some (.slice ao r.os.length cap) ∧ w.cell? ⟨b, off + i * 5 + 2, none⟩ = some (.int .u32 r.V) ∧ w.cell? ⟨b, off + i * 5 + 3, none⟩ = some (.int .i64 r.K) ∧ w.cell? ⟨b, off + i * 5 + 4, none⟩ = some (.int .i64 r.To) ∧ RdO w ao r.os ∧ (ao = none → cap = 0) ∧ r.os.length * 48 ≤ 140737488355328 ∧ (∀ o ∈ r.os, o.wf) ∧ In32 r.V
theorem RdS.below {w w' : World} {so : Option Addr} {rs : List Rq} (h : RdS w so rs) (hb : Below w.heap.size w w') : RdS w' so rs := by
  intro i r hi
  obtain ⟨b, off, ao, cap, rfl, hbl, q0, q1, q2, q3, q4, q5, q7⟩ := h i r hi
  have hc : ∀ k, w'.cell? ⟨b, k, none⟩ = w.cell? ⟨b, k, none⟩ := fun k => hb.cell hbl
  exact ⟨b, off, ao, cap, rfl, Nat.lt_of_lt_of_le hbl hb.size, (hc _).trans q0, (hc _).trans q1, (hc _).trans q2, (hc _).trans q3, (hc _).trans q4, q5.on (K := fun _ => False) (below_any hb) (fun _ _ h => h), q7⟩
/-- Behind so many requests. -/
def LawAt (w : World) (g i : Nat) (wr : World) : Prop := ∃ F n G, Gp wr n F g G ∧ OkG G ∧ 40 ≤ n ∧ n ≤ 40 + 24 * min i 80 ∧ (∀ k, F k → w.heap.size ≤ k) ∧ Below w.heap.size w wr
theorem LawAt.below {w wr w' : World} {g i : Nat} (h : LawAt w g i wr) (hb : Below wr.heap.size wr w') : LawAt w g i w' := by
  obtain ⟨F, n, G, h1, h2, h3, h4, h5, h6⟩ := h
  exact ⟨F, n, G, h1.below hb, h2, h3, h4, h5, h6.trans (hb.mono h6.size)⟩
theorem LawAt.skip {w wr : World} {g i : Nat} (h : LawAt w g i wr) : LawAt w g (i + 1) wr := by
  obtain ⟨F, n, G, h1, h2, h3, h4, h5, h6⟩ := h
  exact ⟨F, n, G, h1, h2, h3, by omega, h5, h6⟩
theorem LawAt.bel {w wr : World} {g i : Nat} (h : LawAt w g i wr) : Below w.heap.size w wr := by
  obtain ⟨F, n, G, h1, h2, h3, h4, h5, h6⟩ := h
  exact h6
theorem LawAt.start {w w2 : World} {g : Nat} {F : Nat → Prop} (h : Gp w2 0 F g []) (hF : ∀ k, F k → w.heap.size ≤ k) (hb : Below w.heap.size w w2) : LawAt w g 0 w2 :=
  ⟨F, 40, [], h.mono (by omega), okG_nil, by omega, by omega, hF, hb⟩
def LawDone (w : World) (g i : Nat) (e : Ending) (w' : World) : Prop := ∃ v, e = .returned v ∧ LawAt w g i w'
theorem LawAt.ask {w wr : World} {g i : Nat} {r : Rq} {ao : Option Addr} {cap : Nat} (h : LawAt w g i wr) (hi : i < 80) (he : Flt.ErrT w) (hO : RdO wr ao r.os) (hno : ao = none → cap = 0) (hl : r.os.length * 48 ≤ 140737488355328) (hwf : ∀ o ∈ r.os, o.wf) (hv : In32 r.V) :
    Calls Tryz.prog 30 #[.pointer (some ⟨g, 0, none⟩), r.val ao cap] wr (LawDone w g (i + 1)) := by
  obtain ⟨F, n, G, h1, h2, h3, h4, h5, h6⟩ := h
  refine (do_law g n F G r ao cap wr ⟨h1, h3, by omega, h2.sizes, h2.closed, fun i o hi => (by simp at hi), fun ad e => (by cases e), fun o ho => (by simp at ho), hv, Flt.ErrT.on he h6, fun hf => by have := h5 _ hf; have := World.block_lt_of_cell? _ _ he; omega⟩ hO hwf hno hl).mono ?_
  rintro e w' ⟨vv, lv, rfl, ha⟩
  obtain ⟨F', g1, g2, _, _⟩ := ha.gr
  refine ⟨_, rfl, F', n + 24, nextG G r, g1, h2.next hwf, by omega, by omega, fun k hk => ?_, h6.trans (ha.tur.below h6.size h5)⟩
  rcases g2 k hk with q | q
  · exact h5 k q
  · have := h6.size; omega
/-- A vertex that is there, and its halves. -/
def ThereV (v : Int) (P L : EL Av) (w : World) (e : Ending) (w' : World) : Prop := ∃ po pc ho hc, e = .returned (.agg #[.int .u32 v, .bool true, .slice po P.length pc, .slice ho L.length hc]) ∧ RdE .u8 w' po P ∧ RdE .u32 w' ho L ∧ Below w.heap.size w w'
theorem vertex_there (g n : Nat) (F : Nat → Prop) (G : GV) (v : Int) (P L : EL Av) (w : World) (h : Gp w n F g G) (hn : n ≤ 1000000000000) (hP : ∀ e ∈ G, e.2.1.length ≤ 12) (hv : In32 v) (hx : getE G v = some (P, L)) :
    Calls Tryz.prog 24 #[.pointer (some ⟨g, 0, none⟩), .int .u32 v] w (ThereV v P L w) := by
  refine (vertex_any g n F G v w h hn hP hv).mono ?_
  rintro e w' ⟨th, pv, hv, rfl, ht, hb⟩
  rw [hx] at ht
  obtain ⟨h1, h2, h3⟩ := ht
  simp only at h1 h2 h3
  obtain ⟨po, pc, rfl, r1, _⟩ := row_rd h2 rfl
  obtain ⟨ho, hc, rfl, r2, _⟩ := row_rd h3 rfl
  rw [h1]
  exact ⟨po, pc, ho, hc, rfl, r1, r2, hb⟩
theorem RdE.below {q : IntKind} {w w' : World} {ao : Option Addr} {E : EL Av} (h : RdE q w ao E) (hb : Below w.heap.size w w') : RdE q w' ao E := h.on (K := fun _ => False) (below_any hb) (fun _ _ _ h => h)
/-- What a graph's numbers are. -/
theorem OkG.in32 {G : GV} (h : OkG G) {v : Int} (hv : (getE G v).isSome = true) : In32 v := by
  obtain ⟨x, hx⟩ := Option.isSome_iff_exists.1 hv
  have := h.key v x hx
  unfold In32 InQ
  simp [Lit.wf, IntKind.min, IntKind.max, IntKind.signed, IntKind.bits]
  omega
theorem avEq_self (a : Av) : avEq a a = true := (avEq_iff a a).2 rfl
theorem neq_self (k m : Int) (s : ByteArray) (w : World) : (binOp .neq 47 (.agg #[.int .u8 k, .int .i64 m, .string s]) (.agg #[.int .u8 k, .int .i64 m, .string s])).run Tryz.prog w = .ok (.bool false) w := by
  have := run_neq47 ⟨k, m, s⟩ ⟨k, m, s⟩ w
  rw [avEq_self] at this
  exact this
end Go.Proofs.YtafenkepigmcaaaGreatDoor.Gr
