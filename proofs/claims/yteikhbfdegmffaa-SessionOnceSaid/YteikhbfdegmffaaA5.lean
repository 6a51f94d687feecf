/- session: the table's block; New, find, request, isFar, Start, Fail, walked. -/
import Derived.Test.YteikhbfdegmffaaA4
namespace Go.Proofs.Yteikhbfdegmffaa.Se
open Go Go.RowKit
/-- What is known of a client: the last that was finished, its answer, what is running. -/
structure Sm where
  last : Int
  a : An
  run : Int
def Sm.zero : Sm := ⟨0, .zero, 0⟩
def Sm.cells (k : Sm) (p : Pl) : List Value := [.int .u32 k.last, .int .i64 k.a.E, .int .i64 k.a.At, .slice p.vo k.a.V.length p.vc, .slice p.lo k.a.L.length p.lc, .int .u32 k.run]
def put {α : Type} (f : Nat → α) (i : Nat) (x : α) : Nat → α := fun j => if j = i then x else f j
theorem put_same {α : Type} (f : Nat → α) (i : Nat) : put f i (f i) = f := by
  funext j
  unfold put
  by_cases h : j = i <;> simp [h]
theorem put_at {α : Type} (f : Nat → α) (i : Nat) (x : α) : put f i x i = x := by simp [put]
theorem put_ne {α : Type} (f : Nat → α) {i j : Nat} (x : α) (h : j ≠ i) : put f i x j = f j := by simp [put, h]
def tabL (K : Nat → Sm) (F : Nat → Pl) : List Value := (K 0).cells (F 0) ++ ((K 1).cells (F 1) ++ ((K 2).cells (F 2) ++ (K 3).cells (F 3)))
theorem tab_at (K : Nat → Sm) (F : Nat → Pl) {i j : Nat} (hi : i < 4) (hj : j < 6) : (tabL K F)[i * 6 + j]? = ((K i).cells (F i))[j]? := by
  obtain rfl | rfl | rfl | rfl : i = 0 ∨ i = 1 ∨ i = 2 ∨ i = 3 := by omega
  all_goals (obtain rfl | rfl | rfl | rfl | rfl | rfl : j = 0 ∨ j = 1 ∨ j = 2 ∨ j = 3 ∨ j = 4 ∨ j = 5 := by omega) <;> rfl
theorem tab_set (K : Nat → Sm) (F : Nat → Pl) {i j : Nat} (hi : i < 4) (hj : j < 6) (u : Value) (k : Sm) (p : Pl) (h : k.cells p = ((K i).cells (F i)).set j u) : tabL (put K i k) (put F i p) = (tabL K F).set (i * 6 + j) u := by
  unfold tabL
  obtain rfl | rfl | rfl | rfl : i = 0 ∨ i = 1 ∨ i = 2 ∨ i = 3 := by omega
  all_goals (simp only [put_at, put_ne K _ (show (1 : Nat) ≠ 0 by decide), put_ne K _ (show (2 : Nat) ≠ 0 by decide), put_ne K _ (show (3 : Nat) ≠ 0 by decide), put_ne K _ (show (0 : Nat) ≠ 1 by decide), put_ne K _ (show (2 : Nat) ≠ 1 by decide), put_ne K _ (show (3 : Nat) ≠ 1 by decide), put_ne K _ (show (0 : Nat) ≠ 2 by decide), put_ne K _ (show (1 : Nat) ≠ 2 by decide), put_ne K _ (show (3 : Nat) ≠ 2 by decide), put_ne K _ (show (0 : Nat) ≠ 3 by decide), put_ne K _ (show (1 : Nat) ≠ 3 by decide), put_ne K _ (show (2 : Nat) ≠ 3 by decide), put_ne F _ (show (1 : Nat) ≠ 0 by decide), put_ne F _ (show (2 : Nat) ≠ 0 by decide), put_ne F _ (show (3 : Nat) ≠ 0 by decide), put_ne F _ (show (0 : Nat) ≠ 1 by decide), put_ne F _ (show (2 : Nat) ≠ 1 by decide), put_ne F _ (show (3 : Nat) ≠ 1 by decide), put_ne F _ (show (0 : Nat) ≠ 2 by decide), put_ne F _ (show (1 : Nat) ≠ 2 by decide), put_ne F _ (show (3 : Nat) ≠ 2 by decide), put_ne F _ (show (0 : Nat) ≠ 3 by decide), put_ne F _ (show (1 : Nat) ≠ 3 by decide), put_ne F _ (show (2 : Nat) ≠ 3 by decide), h])
  all_goals (obtain rfl | rfl | rfl | rfl | rfl | rfl : j = 0 ∨ j = 1 ∨ j = 2 ∨ j = 3 ∨ j = 4 ∨ j = 5 := by omega) <;> rfl
/-- A table's block. -/
def TabAt (w : World) (b : Nat) (K : Nat → Sm) (F : Nat → Pl) : Prop := w.heap[b]? = some (.cells (tabL K F).toArray 49 (0, 0))
section
variable {w w' : World} {b : Nat} {K : Nat → Sm} {F : Nat → Pl}
theorem TabAt.lt (h : TabAt w b K F) : b < w.heap.size := (Array.getElem?_eq_some_iff.1 h).1
theorem TabAt.cell (h : TabAt w b K F) {i j : Nat} (hi : i < 4) (hj : j < 6) : w.cell? ⟨b, i * 6 + j, none⟩ = ((K i).cells (F i))[j]? := by
  rw [← tab_at K F hi hj]
  unfold TabAt at h
  simp [World.cell?, h]
theorem TabAt.free (h : TabAt w b K F) (i : Nat) : w.frozen? ⟨b, i, none⟩ = false := by
  unfold TabAt at h
  simp [World.frozen?, h]
theorem TabAt.put1 (h : TabAt w b K F) {i j : Nat} (hi : i < 4) (hj : j < 6) (u : Value) (k : Sm) (p : Pl) (hk : k.cells p = ((K i).cells (F i)).set j u) : TabAt (w.setCell ⟨b, i * 6 + j, none⟩ u) b (put K i k) (put F i p) := by
  unfold TabAt at h ⊢
  rw [set_block h, tab_set K F hi hj u k p hk]
  simp
end
def InK (k : Sm) : Prop := (0 ≤ k.last ∧ k.last ≤ 4294967295) ∧ (0 ≤ k.run ∧ k.run ≤ 4294967295)
/-- A table of the call's own, by what it holds. -/
structure TabF (w0 : World) (b : Nat) (P : Nat → Prop) (K : Nat → Sm) (F : Nat → Pl) (w : World) : Prop where
  tab : TabAt w b K F
  ans : ∀ i, i < 4 → AnAt w (K i).a (F i) ∧ (F i).off P ∧ InK (K i)
  low : Below w0.heap.size w0 w
  b0 : w0.heap.size ≤ b
  pb : P b
  pl : ∀ k, P k → k < w.heap.size
theorem Pl.off.one {p : Pl} {P : Nat → Prop} {b : Nat} (h : p.off P) (hb : P b) : p.off (fun k => k = b) := ⟨fun c o e e2 => h.1 c o e (by rw [e2]; exact hb), fun c o e e2 => h.2 c o e (by rw [e2]; exact hb)⟩
def TabS (w0 : World) (b : Nat) (P : Nat → Prop) (K : Nat → Sm) (w : World) : Prop := ∃ F, TabF w0 b P K F w
def Did (b : Nat) (w w' : World) : Prop := Turned (fun k => k = b) w w'
theorem did_below {b : Nat} {W w w' : World} {B : Nat} (h : Below B W w) (hd : Did b w w') (hB : B ≤ b) (hs : B ≤ w.heap.size) : Below B W w' :=
  h.trans (hd.below hs (fun k e => by have : k = b := e; omega))
section
variable {w0 w w' : World} {b : Nat} {P : Nat → Prop} {K : Nat → Sm} {F : Nat → Pl}
theorem TabF.on {Z : Nat → Prop} (h : TabF w0 b P K F w) (ht : Turned Z w w') (hb : ¬ Z b) (hF : ∀ i, i < 4 → (F i).off Z) (hZ : ∀ k, Z k → w0.heap.size ≤ k) : TabF w0 b P K F w' :=
  ⟨(ht.block b h.tab.lt hb).trans h.tab, fun i hi => ⟨(h.ans i hi).1.on ht (hF i hi), (h.ans i hi).2⟩, h.low.trans (ht.below h.low.size hZ), h.b0, h.pb, fun k hk => Nat.lt_of_lt_of_le (h.pl k hk) ht.size⟩
theorem TabF.below (h : TabF w0 b P K F w) (hb : Below w.heap.size w w') : TabF w0 b P K F w' := h.on (Z := fun _ => False) (below_any hb) id (fun _ _ => ⟨fun _ _ _ => id, fun _ _ _ => id⟩) (fun _ => False.elim)
theorem TabS.below (h : TabS w0 b P K w) (hb : Below w.heap.size w w') : TabS w0 b P K w' := by
  obtain ⟨F, h⟩ := h
  exact ⟨F, h.below hb⟩
theorem TabS.low (h : TabS w0 b P K w) : Below w0.heap.size w0 w := by
  obtain ⟨F, h⟩ := h
  exact h.low
theorem TabF.cells (h : TabF w0 b P K F w) {i : Nat} (hi : i < 4) : w.cell? ⟨b, i * 6, none⟩ = some (.int .u32 (K i).last) ∧ w.cell? ⟨b, i * 6 + 1, none⟩ = some (.int .i64 (K i).a.E) ∧ w.cell? ⟨b, i * 6 + 2, none⟩ = some (.int .i64 (K i).a.At) ∧ w.cell? ⟨b, i * 6 + 3, none⟩ = some (.slice (F i).vo (K i).a.V.length (F i).vc) ∧ w.cell? ⟨b, i * 6 + 4, none⟩ = some (.slice (F i).lo (K i).a.L.length (F i).lc) ∧ w.cell? ⟨b, i * 6 + 5, none⟩ = some (.int .u32 (K i).run) :=
  ⟨h.tab.cell hi (show 0 < 6 by decide), h.tab.cell hi (show 1 < 6 by decide), h.tab.cell hi (show 2 < 6 by decide), h.tab.cell hi (show 3 < 6 by decide), h.tab.cell hi (show 4 < 6 by decide), h.tab.cell hi (show 5 < 6 by decide)⟩
/-- What runs is another one. -/
theorem TabF.run (h : TabF w0 b P K F w) {i : Nat} (hi : i < 4) {r : Int} (h0 : 0 ≤ r) (h1 : r ≤ 4294967295) : TabF w0 b P (put K i { K i with run := r }) F (w.setCell ⟨b, i * 6 + 5, none⟩ (.int .u32 r)) ∧ Did b w (w.setCell ⟨b, i * 6 + 5, none⟩ (.int .u32 r)) := by
  have ht := turned_set w b (i * 6 + 5) (.int .u32 r)
  refine ⟨⟨?_, fun j hj => ?_, did_below h.low ht h.b0 h.low.size, h.b0, h.pb, fun k hk => Nat.lt_of_lt_of_le (h.pl k hk) ht.size⟩, ht⟩
  · have := h.tab.put1 hi (show 5 < 6 by decide) (.int .u32 r) { K i with run := r } (F i) rfl
    rwa [put_same F i] at this
  · obtain ⟨a1, a2, a3⟩ := h.ans j hj
    by_cases e : j = i
    · subst e
      rw [put_at]
      exact ⟨a1.on ht (a2.one h.pb), a2, a3.1, h0, h1⟩
    · rw [put_ne _ _ e]
      exact ⟨a1.on ht (a2.one h.pb), a2, a3⟩
end
theorem find_bad (v : Value) (c : Int) (w : World) (h : 4 ≤ c) : Calls Try.prog 19 #[v, .int .u8 c] w fun e w' => e = .returned (.tuple #[.pointer none, .int .i64 1]) ∧ w = w' := by
  go_enter Try.func19, Try.ntmps19
  go_wp2
  go_ret2
  exact ⟨rfl, rfl⟩
theorem find_ok (b i : Nat) (w : World) (h : i < 4) : Calls Try.prog 19 #[.pointer (some ⟨b, 0, none⟩), .int .u8 i] w fun e w' => e = .returned (.tuple #[.pointer (some ⟨b, i * 6, none⟩), .int .i64 0]) ∧ w = w' := by
  have h1 : ¬ (4 ≤ (i : Int)) := by omega
  have h2 : (i : Int) < 4 := by omega
  go_enter Try.func19, Try.ntmps19
  go_wp2
  go_ret2
  exact ⟨rfl, rfl⟩
theorem req_bad (v : Value) (c seq : Int) (w : World) (h : 4 ≤ c ∨ seq = 0) : Calls Try.prog 14 #[v, .int .u8 c, .int .u32 seq] w fun e w' => e = .returned (.tuple #[.pointer none, .int .i64 1]) ∧ w = w' := by
  by_cases h0 : (seq == 0) = true
  · clear h
    go_enter Try.func14, Try.ntmps14
    go_wp2
    go_ret2
    exact ⟨rfl, rfl⟩
  · have h4 : 4 ≤ c := h.resolve_right (by simpa using h0)
    have h0' : (seq == 0) = false := by simpa using h0
    have hf := find_bad v c w h4
    clear h h4 h0
    go_enter Try.func14, Try.ntmps14
    go_wp2_with (go_at_call 19; refine hf.mono ?_; rintro e w1 ⟨rfl, rfl⟩)
    go_ret2
    exact ⟨rfl, rfl⟩
theorem req_ok (b i : Nat) (seq : Int) (w : World) (h : i < 4) (h0 : seq ≠ 0) : Calls Try.prog 14 #[.pointer (some ⟨b, 0, none⟩), .int .u8 i, .int .u32 seq] w fun e w' => e = .returned (.tuple #[.pointer (some ⟨b, i * 6, none⟩), .int .i64 0]) ∧ w = w' := by
  have h0' : (seq == 0) = false := by simpa using h0
  have hf := find_ok b i w h
  clear h h0
  go_enter Try.func14, Try.ntmps14
  go_wp2_with (go_at_call 19; refine hf.mono ?_; rintro e w1 ⟨rfl, rfl⟩)
  go_ret2
  exact ⟨rfl, rfl⟩
def farB (last seq : Int) : Bool := decide (last < seq) && decide (4 < seq - last)
theorem far_any {w : World} {b o : Nat} {last : Int} (hc : w.cell? ⟨b, o, none⟩ = some (.int .u32 last)) (seq : Int) (h0 : 0 ≤ last) (h1 : last ≤ 4294967295) (s0 : 0 ≤ seq) (s1 : seq ≤ 4294967295) :
    Calls Try.prog 15 #[.pointer (some ⟨b, o, none⟩), .int .u32 seq] w fun e w' => e = .returned (.bool (farB last seq)) ∧ w = w' := by
  by_cases hl : last < seq
  · have e1 : IntKind.u32.wrap (seq - last) = seq - last := by simp [IntKind.wrap, IntKind.bits, IntKind.signed]; omega
    have HF := Lib.hid (show farB last seq = decide (4 < seq - last) from by unfold farB; rw [decide_eq_true hl]; rfl)
    go_enter Try.func15, Try.ntmps15
    go_wp2
    go_ret
    exact ⟨by rw [HF.out]; rfl, rfl⟩
  · have HF := Lib.hid (show farB last seq = false from by unfold farB; rw [decide_eq_false hl]; rfl)
    go_enter Try.func15, Try.ntmps15
    go_wp2
    go_ret
    exact ⟨by rw [HF.out]; rfl, rfl⟩
def startE (k : Sm) (seq : Int) : Int := if farB k.last seq = true then 4 else if seq ≤ k.last then 9 else if k.run ≠ 0 then 14 else 0
def startK (k : Sm) (seq : Int) : Sm := if startE k seq = 0 then { k with run := seq } else k
theorem start_bad (v : Value) (c seq : Int) (w : World) (h : 4 ≤ c ∨ seq = 0) : Calls Try.prog 7 #[v, .int .u8 c, .int .u32 seq] w fun e w' => e = .returned (.int .i64 1) ∧ w = w' := by
  have hr := req_bad v c seq w h
  clear h
  go_enter Try.func7, Try.ntmps7
  go_wp2_with (go_at_call 14; refine hr.mono ?_; rintro e w1 ⟨rfl, rfl⟩)
  go_ret
  exact ⟨rfl, rfl⟩
set_option maxHeartbeats 1000000 in
theorem start_ok {w0 w : World} {b i : Nat} {P : Nat → Prop} {K : Nat → Sm} (h : TabS w0 b P K w) (hi : i < 4) {seq : Int} (s0 : 0 < seq) (s1 : seq ≤ 4294967295) :
    Calls Try.prog 7 #[.pointer (some ⟨b, 0, none⟩), .int .u8 i, .int .u32 seq] w fun e w' => e = .returned (.int .i64 (startE (K i) seq)) ∧ TabS w0 b P (put K i (startK (K i) seq)) w' ∧ Did b w w' := by
  obtain ⟨F, h⟩ := h
  obtain ⟨c0, _, _, _, _, c5⟩ := h.cells hi
  obtain ⟨_, _, ⟨k0, k1⟩, k2, k3⟩ := h.ans i hi
  have hr := req_ok b i seq w hi (by omega)
  have hf := far_any c0 seq k0 k1 (by omega) s1
  have fz := h.tab.free (i * 6 + 5)
  by_cases q1 : farB (K i).last seq = true
  · have e1 : startE (K i) seq = 4 := by unfold startE; rw [if_pos q1]
    have e2 : startK (K i) seq = K i := by unfold startK; rw [e1]; rfl
    rw [e1, e2, put_same]
    rw [q1] at hf
    have H := Lib.hid h
    clear e1 e2 q1 h hi k0 k1 k2 k3 s0 s1
    go_enter Try.func7, Try.ntmps7
    go_wp2_with (first | (go_at_call 14; refine hr.mono ?_; rintro e w1 ⟨rfl, rfl⟩) | (go_at_call 15; refine hf.mono ?_; rintro e w1 ⟨rfl, rfl⟩))
    go_ret
    exact ⟨rfl, ⟨F, H.out⟩, .refl _ _⟩
  · rw [Bool.not_eq_true] at q1
    rw [q1] at hf
    by_cases q2 : seq ≤ (K i).last
    · have e1 : startE (K i) seq = 9 := by unfold startE; rw [q1, if_neg (by decide), if_pos q2]
      have e2 : startK (K i) seq = K i := by unfold startK; rw [e1]; rfl
      rw [e1, e2, put_same]
      have H := Lib.hid h
      clear e1 e2 q1 h hi k0 k1 k2 k3 s0 s1
      go_enter Try.func7, Try.ntmps7
      go_wp2_with (first | (go_at_call 14; refine hr.mono ?_; rintro e w1 ⟨rfl, rfl⟩) | (go_at_call 15; refine hf.mono ?_; rintro e w1 ⟨rfl, rfl⟩))
      go_ret
      exact ⟨rfl, ⟨F, H.out⟩, .refl _ _⟩
    · by_cases q3 : (K i).run ≠ 0
      · have e1 : startE (K i) seq = 14 := by unfold startE; rw [q1, if_neg (by decide), if_neg q2, if_pos q3]
        have e2 : startK (K i) seq = K i := by unfold startK; rw [e1]; rfl
        rw [e1, e2, put_same]
        have q3' : ((K i).run != 0) = true := by simpa using q3
        have H := Lib.hid h
        clear e1 e2 q1 h hi k0 k1 k2 k3 s0 s1 q3
        go_enter Try.func7, Try.ntmps7
        go_wp2_with (first | (go_at_call 14; refine hr.mono ?_; rintro e w1 ⟨rfl, rfl⟩) | (go_at_call 15; refine hf.mono ?_; rintro e w1 ⟨rfl, rfl⟩))
        go_ret
        exact ⟨rfl, ⟨F, H.out⟩, .refl _ _⟩
      · have e1 : startE (K i) seq = 0 := by unfold startE; rw [q1, if_neg (by decide), if_neg q2, if_neg q3]
        have e2 : startK (K i) seq = { K i with run := seq } := by unfold startK; rw [e1]; rfl
        rw [e1, e2]
        have q3' : ((K i).run != 0) = false := by simpa using q3
        have H := Lib.hid (h.run hi (r := seq) (by omega) s1)
        clear e1 e2 q1 h hi k0 k1 k2 k3 s0 s1 q3
        go_enter Try.func7, Try.ntmps7
        go_wp2_with (first | (go_at_call 14; refine hr.mono ?_; rintro e w1 ⟨rfl, rfl⟩) | (go_at_call 15; refine hf.mono ?_; rintro e w1 ⟨rfl, rfl⟩))
        go_ret
        exact ⟨rfl, ⟨F, H.out.1⟩, H.out.2⟩
def failK (k : Sm) (seq : Int) : Sm := if k.run = seq then { k with run := 0 } else k
theorem fail_bad (v : Value) (c seq : Int) (w : World) (h : 4 ≤ c ∨ seq = 0) : Calls Try.prog 11 #[v, .int .u8 c, .int .u32 seq] w fun e w' => e = .returned (.int .i64 1) ∧ w = w' := by
  have hr := req_bad v c seq w h
  clear h
  go_enter Try.func11, Try.ntmps11
  go_wp2_with (go_at_call 14; refine hr.mono ?_; rintro e w1 ⟨rfl, rfl⟩)
  go_ret
  exact ⟨rfl, rfl⟩
theorem fail_ok {w0 w : World} {b i : Nat} {P : Nat → Prop} {K : Nat → Sm} (h : TabS w0 b P K w) (hi : i < 4) {seq : Int} (s0 : 0 < seq) :
    Calls Try.prog 11 #[.pointer (some ⟨b, 0, none⟩), .int .u8 i, .int .u32 seq] w fun e w' => e = .returned (.int .i64 0) ∧ TabS w0 b P (put K i (failK (K i) seq)) w' ∧ Did b w w' := by
  obtain ⟨F, h⟩ := h
  obtain ⟨_, _, _, _, _, c5⟩ := h.cells hi
  have hr := req_ok b i seq w hi (by omega)
  have fz := h.tab.free (i * 6 + 5)
  by_cases q1 : (K i).run = seq
  · have e2 : failK (K i) seq = { K i with run := 0 } := by unfold failK; rw [if_pos q1]
    rw [e2]
    have q1' : ((K i).run == seq) = true := by simpa using q1
    have H := Lib.hid (h.run hi (r := 0) (by decide) (by decide))
    clear e2 q1 h hi s0
    go_enter Try.func11, Try.ntmps11
    go_wp2_with (go_at_call 14; refine hr.mono ?_; rintro e w1 ⟨rfl, rfl⟩)
    go_ret
    exact ⟨rfl, ⟨F, H.out.1⟩, H.out.2⟩
  · have e2 : failK (K i) seq = K i := by unfold failK; rw [if_neg q1]
    rw [e2, put_same]
    have q1' : ((K i).run == seq) = false := by simpa using q1
    have H := Lib.hid h
    clear e2 q1 h hi s0
    go_enter Try.func11, Try.ntmps11
    go_wp2_with (go_at_call 14; refine hr.mono ?_; rintro e w1 ⟨rfl, rfl⟩)
    go_ret
    exact ⟨rfl, ⟨F, H.out⟩, .refl _ _⟩
end Go.Proofs.Yteikhbfdegmffaa.Se
