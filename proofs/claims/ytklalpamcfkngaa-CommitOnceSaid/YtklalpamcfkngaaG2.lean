/- commit: play: what it asks of the two books; its walk. -/
import Derived.Test.YtklalpamcfkngaaG1
import Derived.Test.YtklalpamcfkngaaC1
namespace Go.Proofs.Ytklalpamcfkngaa.Cm
open Go Go.RowKit
/-- A state of the two books beside blocks that are none of theirs. -/
structure Abs (w0 : World) (A : (Nat → Prop) → World → Prop) : Prop where
  more : ∀ {Y w w'}, A Y w → Below w.heap.size w w' → A (fun k => Y k ∨ (w.heap.size ≤ k ∧ k < w'.heap.size)) w'
  less : ∀ {Y Y' : Nat → Prop} {w : World}, A Y w → (∀ k, Y' k → Y k) → A Y' w
  turn : ∀ {Y G : Nat → Prop} {w w' : World}, A Y w → Turned G w w' → (∀ k, G k → Y k ∧ w0.heap.size ≤ k) → A Y w'
  ahead : ∀ {Y w}, A Y w → Below w0.heap.size w0 w
theorem Abs.below {w0 w w' : World} {A : (Nat → Prop) → World → Prop} {Y : Nat → Prop} (h : Abs w0 A) (ha : A Y w) (hb : Below w.heap.size w w') : A Y w' := h.less (h.more ha hb) (fun _ hk => .inl hk)
abbrev kvv (t : TK) : Value := .agg #[.int .u8 t.1, .int .u32 t.2.1, .int .u32 t.2.2]
/-- What play asks of the two books. -/
structure Plays (w0 : World) (A M Z : (Nat → Prop) → World → Prop) (pv qv : Option Addr) (kd : Int) (t : TK) (L : List Int) (n : Nat) (x : Int) (yes : Bool) (nn : Int) : Prop where
  a : Abs w0 A
  m : Abs w0 M
  z : Abs w0 Z
  k0 : kd = 0 → ∃ v : Int, (∀ Y w ao c, A Y w → Rd w ao L → Calls Try.prog 12 #[.pointer pv, .agg #[.int .u8 t.1, .int .u32 t.2.1, .int .u32 t.2.2], .slice ao n c] w fun e w' => e = .returned (.int .i64 v) ∧ M Y w' ∧ Kept Y w w') ∧ (∀ Y w ao c, M Y w → Rd w ao L → Calls Try.prog 18 #[.pointer qv, .agg #[.int .u8 t.1, .int .u32 t.2.1, .int .u32 t.2.2], .slice ao n c] w fun e w' => e = .returned (.int .i64 v) ∧ Z Y w' ∧ Kept Y w w')
  k1 : kd = 1 → ∃ v u : Int, (∀ Y w, A Y w → Calls Try.prog 13 #[.pointer pv, .agg #[.int .u8 t.1, .int .u32 t.2.1, .int .u32 t.2.2], .int .u8 x, .bool yes] w fun e w' => e = .returned (two v u) ∧ M Y w' ∧ Kept Y w w') ∧ (∀ Y w, M Y w → Calls Try.prog 20 #[.pointer qv, .agg #[.int .u8 t.1, .int .u32 t.2.1, .int .u32 t.2.2], .int .u8 x, .bool yes] w fun e w' => e = .returned (two v u) ∧ Z Y w' ∧ Kept Y w w')
  k2 : kd = 2 → ∃ v : Int, (∀ Y w, A Y w → Calls Try.prog 14 #[.pointer pv, .agg #[.int .u8 t.1, .int .u32 t.2.1, .int .u32 t.2.2]] w fun e w' => e = .returned (.int .i64 v) ∧ M Y w' ∧ Kept Y w w') ∧ (∀ Y w, M Y w → Calls Try.prog 21 #[.pointer qv, .agg #[.int .u8 t.1, .int .u32 t.2.1, .int .u32 t.2.2]] w fun e w' => e = .returned (.int .i64 v) ∧ Z Y w' ∧ Kept Y w w')
  k3 : kd = 3 → ∃ (v : Bool) (u : Int), (∀ Y w, A Y w → Calls Try.prog 22 #[.pointer pv, .agg #[.int .u8 t.1, .int .u32 t.2.1, .int .u32 t.2.2], .int .u8 x] w fun e w' => e = .returned (bi v u) ∧ M Y w' ∧ Kept Y w w') ∧ (∀ Y w, M Y w → Calls Try.prog 23 #[.pointer qv, .agg #[.int .u8 t.1, .int .u32 t.2.1, .int .u32 t.2.2], .int .u8 x] w fun e w' => e = .returned (bi v u) ∧ Z Y w' ∧ Kept Y w w')
  k4 : kd = 4 → ∃ v : Int, (∀ Y w, A Y w → Calls Try.prog 24 #[.pointer pv, .agg #[.int .u8 t.1, .int .u32 t.2.1, .int .u32 t.2.2]] w fun e w' => e = .returned (.int .i64 v) ∧ M Y w' ∧ Kept Y w w') ∧ (∀ Y w, M Y w → Calls Try.prog 25 #[.pointer qv, .agg #[.int .u8 t.1, .int .u32 t.2.1, .int .u32 t.2.2]] w fun e w' => e = .returned (.int .i64 v) ∧ Z Y w' ∧ Kept Y w w')
  k5 : kd = 5 → ∃ v : Int, (∀ Y w, A Y w → Calls Try.prog 26 #[.pointer pv, .agg #[.int .u8 t.1, .int .u32 t.2.1, .int .u32 t.2.2], .int .i64 nn] w fun e w' => e = .returned (.int .i64 v) ∧ M Y w' ∧ Kept Y w w') ∧ (∀ Y w, M Y w → Calls Try.prog 27 #[.pointer qv, .agg #[.int .u8 t.1, .int .u32 t.2.1, .int .u32 t.2.2], .int .i64 nn] w fun e w' => e = .returned (.int .i64 v) ∧ Z Y w' ∧ Kept Y w w')
  k6 : kd ≠ 0 → kd ≠ 1 → kd ≠ 2 → kd ≠ 3 → kd ≠ 4 → kd ≠ 5 → ∀ Y w, A Y w → Z Y w
  tells : ∃ (LO : List Int) (ru st : Int) (LD : List TK), (LO.length ≤ 1000000 ∧ LD.length ≤ 1000000) ∧ ∀ Y w, Z Y w →
    (Calls Try.prog 16 #[.pointer pv, .agg #[.int .u8 t.1, .int .u32 t.2.1, .int .u32 t.2.2]] w fun e w' => OwR w LO e w') ∧ (Calls Try.prog 29 #[.pointer qv, .agg #[.int .u8 t.1, .int .u32 t.2.1, .int .u32 t.2.2]] w fun e w' => OwR w LO e w')
    ∧ (Calls Try.prog 28 #[.pointer pv] w fun e w' => DkR w LD e w') ∧ (Calls Try.prog 33 #[.pointer qv] w fun e w' => DkR w LD e w')
    ∧ (Calls Try.prog 10 #[.pointer pv, .agg #[.int .u8 t.1, .int .u32 t.2.1, .int .u32 t.2.2]] w fun e w' => e = .returned (.int .i64 ru) ∧ Below w.heap.size w w') ∧ (Calls Try.prog 30 #[.pointer qv, .agg #[.int .u8 t.1, .int .u32 t.2.1, .int .u32 t.2.2]] w fun e w' => e = .returned (.int .i64 ru) ∧ Below w.heap.size w w')
    ∧ (Calls Try.prog 11 #[.pointer pv, .agg #[.int .u8 t.1, .int .u32 t.2.1, .int .u32 t.2.2]] w fun e w' => e = .returned (.int .i64 st) ∧ Below w.heap.size w w') ∧ (Calls Try.prog 31 #[.pointer qv, .agg #[.int .u8 t.1, .int .u32 t.2.1, .int .u32 t.2.2]] w fun e w' => e = .returned (.int .i64 st) ∧ Below w.heap.size w w')
def Op8 (w : World) (b : Nat) (kd : Int) (t : TK) (ao : Option Addr) (n c : Nat) (x : Int) (yes : Bool) (nn : Int) : Prop := w.heap[b]? = some (.cells #[.int .u8 kd, .int .u8 t.1, .int .u32 t.2.1, .int .u32 t.2.2, .slice ao n c, .int .u8 x, .bool yes, .int .i64 nn] 36 (0, 0))
theorem Op8.cells {w : World} {b : Nat} {kd : Int} {t : TK} {ao : Option Addr} {n c : Nat} {x : Int} {yes : Bool} {nn : Int} (h : Op8 w b kd t ao n c x yes nn) :
    w.cell? ⟨b, 0, none⟩ = some (.int .u8 kd) ∧ w.cell? ⟨b, 1, none⟩ = some (.int .u8 t.1) ∧ w.cell? ⟨b, 2, none⟩ = some (.int .u32 t.2.1) ∧ w.cell? ⟨b, 3, none⟩ = some (.int .u32 t.2.2) ∧ w.cell? ⟨b, 4, none⟩ = some (.slice ao n c) ∧ w.cell? ⟨b, 5, none⟩ = some (.int .u8 x) ∧ w.cell? ⟨b, 6, none⟩ = some (.bool yes) ∧ w.cell? ⟨b, 7, none⟩ = some (.int .i64 nn) := by
  unfold Op8 at h
  simp [World.cell?, h]
theorem kept_drew (Y : Nat → Prop) (w : World) : Kept Y w w.drew := ⟨Nat.le_refl _, fun _ _ => rfl⟩
theorem below_drew (w : World) : Below w.heap.size w w.drew := ⟨rfl, rfl, rfl, Nat.le_refl _, fun _ _ => rfl⟩
/-- What stands behind the switch. -/
structure Cut (Z : (Nat → Prop) → World → Prop) (w1 : World) (b : Nat) (kd : Int) (t : TK) (ao : Option Addr) (n c : Nat) (x : Int) (yes : Bool) (nn : Int) (wx : World) : Prop where
  z : Z (fun k => k = b) wx
  o : Op8 wx b kd t ao n c x yes nn
  s : w1.heap.size ≤ wx.heap.size
theorem OwR.open {w w' : World} {L : List Int} {e : Ending} {n : Nat} (hl : L.length = n) (h : OwR w L e w') : ∃ ao cap, e = .returned (.slice ao n cap) ∧ w'.ownsRow w.heap.size 5 1 (.slice ao n cap) n (u8s L) ∧ Below w.heap.size w w' := by
  obtain ⟨v, rfl, h1, h2⟩ := h
  rw [hl] at h1
  obtain ⟨ao, cap, rfl, _, _⟩ := own_slice h1
  exact ⟨ao, cap, rfl, h1, h2⟩
theorem DkR.open {w w' : World} {L : List TK} {e : Ending} {n : Nat} (hl : L.length = n) (h : DkR w L e w') : ∃ ao cap, e = .returned (.slice ao n cap) ∧ w'.ownsRow w.heap.size 33 3 (.slice ao n cap) n (L.flatMap encK) ∧ Below w.heap.size w w' := by
  obtain ⟨v, rfl, h1, h2⟩ := h
  unfold OwnK at h1
  rw [hl] at h1
  obtain ⟨ao, cap, rfl, _, _⟩ := own_slice h1
  exact ⟨ao, cap, rfl, h1, h2⟩
theorem u8_get {L : List Int} {j : Nat} {x : Int} (h : L[j]? = some x) : (u8s L)[j]? = some (.int .u8 x) := by unfold u8s; rw [List.getElem?_map, h]; rfl
theorem u8_set (L : List Int) (j : Nat) (x : Int) : (u8s L).set j (.int .u8 x) = u8s (L.set j x) := by unfold u8s; rw [List.map_set]
theorem seq_set (x : TK) (y : Int) : (encK x).set 2 (.int .u32 y) = encK (x.1, x.2.1, y) := rfl
theorem dk_rd {w : World} {B n cap : Nat} {ao : Option Addr} {L : List TK} (h : w.ownsRow B 33 3 (.slice ao n cap) n (L.flatMap encK)) (hl : L.length = n) : RdK w ao L := (rdk_own (B := B) (n := n) (cap := cap) (by unfold OwnK; rw [hl]; exact h)).2
theorem dk_len {w : World} {B n : Nat} {v : Value} {L : List TK} (h : w.ownsRow B 33 3 v n (L.flatMap encK)) : L.length = n := by have := h.1; rw [fm_len len3] at this; omega
/-- Behind the switch: both lists that the program has answered. -/
structure Tail (wx w2 : World) (lo : Option Addr) (nO co : Nat) (LO : List Int) (ld : Option Addr) (nD cd : Nat) (LD : List TK) (x : World) : Prop where
  b : Below wx.heap.size wx x
  o : x.ownsRow wx.heap.size 5 1 (.slice lo nO co) nO (u8s LO)
  d : x.ownsRow w2.heap.size 33 3 (.slice ld nD cd) nD (LD.flatMap encK)
theorem Tail.step {wx w2 x x' : World} {lo ld : Option Addr} {nO co nD cd : Nat} {LO : List Int} {LD : List TK} (h : Tail wx w2 lo nO co LO ld nD cd LD x) (hb : Below x.heap.size x x') : Tail wx w2 lo nO co LO ld nD cd LD x' :=
  ⟨h.b.trans (hb.mono h.b.size), own_on h.o (fun k hk => hb.block k (World.ownsRow.lt h.o k hk).2), own_on h.d (fun k hk => hb.block k (World.ownsRow.lt h.d k hk).2)⟩
theorem row_some {w : World} {B E s n cap : Nat} {ao : Option Addr} {xs : List Value} (h : w.ownsRow B E s (.slice ao n cap) n xs) (hn : 0 < n) : ∃ g, ao = some ⟨g, 0, none⟩ := by
  rcases h.2 with ⟨e, _⟩ | ⟨g, cap', cur, e, _⟩
  · cases e; omega
  · cases e; exact ⟨g, rfl⟩
/-- What is left at the end: lists of the call's own. -/
structure EndR (wx w2 : World) (lo : Option Addr) (nO co : Nat) (ld : Option Addr) (nD cd : Nat) (wr : World) : Prop where
  b : Below wx.heap.size wx wr
  o : ∃ L', wr.ownsRow wx.heap.size 5 1 (.slice lo nO co) nO (u8s L')
  d : ∃ L' : List TK, wr.ownsRow w2.heap.size 33 3 (.slice ld nD cd) nD (L'.flatMap encK)
  s : wx.heap.size ≤ w2.heap.size
  ne : ∀ g h, lo = some ⟨g, 0, none⟩ → ld = some ⟨h, 0, none⟩ → g ≠ h
theorem EndR.put8 {wx w2 wr : World} {g nO co nD cd : Nat} {ld : Option Addr} (h : EndR wx w2 (some ⟨g, 0, none⟩) nO co ld nD cd wr) (j : Nat) (y : Int) : EndR wx w2 (some ⟨g, 0, none⟩) nO co ld nD cd (wr.setCell ⟨g, j, none⟩ (.int .u8 y)) := by
  obtain ⟨L, ho⟩ := h.o
  obtain ⟨M, hd⟩ := h.d
  have hg := World.ownsRow.lt ho g rfl
  refine ⟨h.b.setCell (by exact hg.1) _, ⟨L.set j y, by rw [← u8_set]; exact (ho.stored _ _).1⟩, ⟨M, own_on hd (fun k hk => (turned_set wr g j _).block k (World.ownsRow.lt hd k hk).2 (fun e => ?_))⟩, h.s, h.ne⟩
  cases ld with
  | none => cases hk
  | some ad =>
    obtain ⟨h', rfl⟩ : ∃ h', ad = ⟨h', 0, none⟩ := by
      rcases hd.2 with ⟨e, _⟩ | ⟨g', cap', cur, e, _⟩
      · cases e
      · cases e; exact ⟨g', rfl⟩
    have : h' = k := by simpa [Value.ownBlock] using hk
    exact h.ne g h' rfl rfl (by omega)
theorem EndR.put3 {wx w2 wr : World} {g nO co nD cd i : Nat} {lo : Option Addr} {L : List TK} {t : TK} (h : EndR wx w2 lo nO co (some ⟨g, 0, none⟩) nD cd wr) (hd : wr.ownsRow w2.heap.size 33 3 (.slice (some ⟨g, 0, none⟩) nD cd) nD (L.flatMap encK)) (ht : L[i]? = some t) (y : Int) : EndR wx w2 lo nO co (some ⟨g, 0, none⟩) nD cd (wr.setCell ⟨g, i * 3 + 2, none⟩ (.int .u32 y)) := by
  obtain ⟨M, ho⟩ := h.o
  have hg := World.ownsRow.lt hd g rfl
  refine ⟨h.b.setCell (by exact Nat.le_trans h.s hg.1) _, ⟨M, own_on ho (fun k hk => (turned_set wr g _ _).block k (World.ownsRow.lt ho k hk).2 (fun e => ?_))⟩, ⟨L.set i (t.1, t.2.1, y), by rw [← fm_set len3 ht (show 2 < 3 by decide) (seq_set t y)]; exact (hd.stored _ _).1⟩, h.s, h.ne⟩
  cases lo with
  | none => cases hk
  | some ad =>
    obtain ⟨h', rfl⟩ : ∃ h', ad = ⟨h', 0, none⟩ := by
      rcases ho.2 with ⟨e, _⟩ | ⟨g', cap', cur, e, _⟩
      · cases e
      · cases e; exact ⟨g', rfl⟩
    have : h' = k := by simpa [Value.ownBlock] using hk
    exact h.ne h' g rfl rfl (by omega)
section
variable {w0 : World} {A M Z : (Nat → Prop) → World → Prop} {pv qv : Option Addr} {kd : Int} {t : TK} {L : List Int} {n : Nat} {x : Int} {yes : Bool} {nn : Int}
set_option maxRecDepth 100000 in
set_option maxHeartbeats 8000000 in
theorem play_any (HPl : Plays w0 A M Z pv qv kd t L n x yes nn) (ao : Option Addr) (c : Nat) (w : World) (ha : A (fun _ => False) w) (hl : L.length = n) (hn : n + 3 ≤ 140737488355328) (hr : Rd w0 ao L) (h0 : ao = none → c = 0) :
    Calls Try.prog 9 #[.pointer pv, .pointer qv, .agg #[.int .u8 kd, .int .u8 t.1, .int .u32 t.2.1, .int .u32 t.2.2, .slice ao n c, .int .u8 x, .bool yes, .int .i64 nn]] w fun e w' => e = .returned (.bool true) ∧ Z (fun _ => False) w' ∧ w.heap.size ≤ w'.heap.size := by
  have hb0 : Below w.heap.size w (w.alloc (.cells #[.int .u8 kd, .int .u8 t.1, .int .u32 t.2.1, .int .u32 t.2.2, .slice ao n c, .int .u8 x, .bool yes, .int .i64 nn] 36)) := (Below.refl _ w).alloc (Nat.le_refl _) _
  have ho := heap_alloc_new w (.cells #[.int .u8 kd, .int .u8 t.1, .int .u32 t.2.1, .int .u32 t.2.2, .slice ao n c, .int .u8 x, .bool yes, .int .i64 nn] 36)
  obtain ⟨w1, hw1⟩ : ∃ w1, w.alloc (.cells #[.int .u8 kd, .int .u8 t.1, .int .u32 t.2.1, .int .u32 t.2.2, .slice ao n c, .int .u8 x, .bool yes, .int .i64 nn] 36) = w1 := ⟨_, rfl⟩
  have HP := Lib.hid HPl
  have HA := HP
  have hA1 := HPl.a.less (HPl.a.more ha hb0) (Y' := fun k => k = w.heap.size) (fun k hk => .inr (by subst hk; simp))
  rw [hw1] at hb0 ho hA1
  obtain ⟨b, hbb⟩ : ∃ b, w.heap.size = b := ⟨_, rfl⟩
  rw [hbb] at ho hA1
  have hs1 : b < w1.heap.size := (Array.getElem?_eq_some_iff.1 ho).1
  have H1 := Lib.hid (And.intro hA1 (show Op8 w1 b kd t ao n c x yes nn from ho))
  have HW := Lib.hid (And.intro hw1 (And.intro hbb (And.intro hb0.size hs1)))
  have HR := Lib.hid (And.intro hr (And.intro hl h0))
  obtain ⟨a0, a1, a2, a3, a4, a5, a6, a7⟩ := H1.out.2.cells
  clear hr hl h0 hs1 hA1 ho hb0 ha HPl
  go_enter Try.func9, Try.ntmps9
  go_upto_block 0 with (fail)
  clear hw1 hbb
  go_cut [7] from 8 (fun s7 wx => s7 = .bool true ∧ Hid (Cut Z w1 b kd t ao n c x yes nn wx))
  case first =>
    as_aux_lemma =>
      by_cases hk0 : kd = 0
      · subst hk0
        obtain ⟨v, hc1, hc2⟩ := HP.out.k0 rfl
        have HC := Lib.hid (And.intro hc1 hc2)
        have HAH := Lib.hid (HP.out.a.ahead H1.out.1)
        clear hc1 hc2
        go_wp2_with (go_at_call 17; refine (spare_any ao n c L _ hn HR.out.2.1 (HR.out.1.on HAH.out (Nat.le_refl _)) HR.out.2.2).mono ?_; rintro e w2 ⟨g, cc, rfl, hrow, hb⟩)
        have hg := (World.ownsRow.lt hrow g rfl)
        have HG := Lib.hid hg
        have H2 := Lib.hid (show A (fun k => k = b ∨ k = g) w2 ∧ Op8 w2 b 0 t ao n c x yes nn ∧ w2.ownsRow w1.heap.size 5 1 (.slice (some ⟨g, 0, none⟩) (n + 3) cc) (n + 3) (u8s (full L)) from ⟨HP.out.a.less (HP.out.a.more H1.out.1 hb) (fun k hk => by rcases hk with rfl | rfl; (exact .inl rfl); (exact .inr hg)), (hb.block b HW.out.2.2.2).trans H1.out.2, hrow⟩)
        have HCC := Lib.hid (row_cap hrow)
        have HS2 := Lib.hid hb.size
        obtain ⟨b0, b1, b2, b3, b4, b5, b6, b7⟩ := H2.out.2.1.cells
        clear a1 a2 a3 a4 a5 a6 a7 hrow hb hg
        go_region_held3 (fun w' => w'.cell? ⟨b, 0, none⟩ = some (.int .u8 0) ∧ w'.cell? ⟨b, 1, none⟩ = some (.int .u8 t.1) ∧ w'.cell? ⟨b, 2, none⟩ = some (.int .u32 t.2.1) ∧ w'.cell? ⟨b, 3, none⟩ = some (.int .u32 t.2.2) ∧ w'.cell? ⟨b, 4, none⟩ = some (.slice ao n c) ∧ w'.cell? ⟨b, 5, none⟩ = some (.int .u8 x) ∧ w'.cell? ⟨b, 6, none⟩ = some (.bool yes) ∧ w'.cell? ⟨b, 7, none⟩ = some (.int .i64 nn)) (first | exact ⟨b0, b1, b2, b3, b4, b5, b6, b7⟩ | exact ⟨c0, c1, c2, c3, c4, c5, c6, c7⟩ | exact ⟨d0, d1, d2, d3, d4, d5, d6, d7⟩ | exact ⟨f0, f1, f2, f3, f4, f5, f6, f7⟩)
          (first
            | (have hh := H4; clear hh; go_at_call 19; refine (kept_any g cc ao n c L _ HCC.out.1 HCC.out.2 hn HR.out.2.1 (rd_row H4.out.2.2) (HR.out.1.on (HP.out.z.ahead H4.out.1) (Nat.le_refl _))).mono ?_; rintro e w5 ⟨rfl, hb⟩; have H5 := Lib.hid (show Z (fun k => k = b ∨ k = g) w5 ∧ Op8 w5 b 0 t ao n c x yes nn ∧ w5.ownsRow w1.heap.size 5 1 (.slice (some ⟨g, 0, none⟩) (n + 3) cc) (n + 3) (u8s (full L)) from ⟨HP.out.z.below H4.out.1 hb, (hb.block b (Array.getElem?_eq_some_iff.1 H4.out.2.1).1).trans H4.out.2.1, own_on H4.out.2.2 (fun k hk => hb.block k (World.ownsRow.lt H4.out.2.2 k hk).2)⟩); obtain ⟨f0, f1, f2, f3, f4, f5, f6, f7⟩ := H5.out.2.1.cells; clear hb)
            | (have hh := H3; clear hh; go_at_call 18; refine (HC.out.2 _ _ ao c H3.out.1 (HR.out.1.on (HP.out.m.ahead H3.out.1) (Nat.le_refl _))).mono ?_; rintro e w4 ⟨rfl, hz, hk⟩; have H4 := Lib.hid (show Z (fun k => k = b ∨ k = g) w4 ∧ Op8 w4 b 0 t ao n c x yes nn ∧ w4.ownsRow w1.heap.size 5 1 (.slice (some ⟨g, 0, none⟩) (n + 3) cc) (n + 3) (u8s (full L)) from ⟨hz, (hk.block b (.inl rfl)).trans H3.out.2.1, own_on H3.out.2.2 (fun k hkk => hk.block k (by obtain rfl := Option.some.inj hkk; exact .inr rfl))⟩); obtain ⟨d0, d1, d2, d3, d4, d5, d6, d7⟩ := H4.out.2.1.cells; clear hz hk)
            | (go_at_call 12; refine (HC.out.1 _ _ (some ⟨g, 0, none⟩) cc (HP.out.a.below H2.out.1 (below_drew _)) (rd_full (rd_row (own_on H2.out.2.2 (fun _ _ => rfl))))).mono ?_; rintro e w3 ⟨rfl, hm, hk⟩; have H3 := Lib.hid (show M (fun k => k = b ∨ k = g) w3 ∧ Op8 w3 b 0 t ao n c x yes nn ∧ w3.ownsRow w1.heap.size 5 1 (.slice (some ⟨g, 0, none⟩) (n + 3) cc) (n + 3) (u8s (full L)) from ⟨hm, (hk.block b (.inl rfl)).trans H2.out.2.1, own_on H2.out.2.2 (fun k hkk => hk.block k (by obtain rfl := Option.some.inj hkk; exact .inr rfl))⟩); obtain ⟨c0, c1, c2, c3, c4, c5, c6, c7⟩ := H3.out.2.1.cells; clear hm hk))
        go_wp2_with fail
        go_loopw [53] (fun iv wr => ∃ (j : Nat), j ≤ n + 3 ∧ iv = .int .i64 j ∧ Hid (∃ Lx, Z (fun k => k = b ∨ k = g) wr ∧ Op8 wr b 0 t ao n c x yes nn ∧ wr.ownsRow w1.heap.size 5 1 (.slice (some ⟨g, 0, none⟩) (n + 3) cc) (n + 3) (u8s Lx))) (fun i _ => n + 3 - (intOf i).toNat)
        case atStart => exact ⟨0, Nat.zero_le _, rfl, Lib.hid ⟨_, H5.out⟩⟩
        case round =>
          obtain ⟨j, hj, rfl, HRR⟩ := hrel
          obtain ⟨Lx, hz, hop, hrow⟩ := HRR.out
          have HQ := Lib.hid (And.intro hz (And.intro hop hrow))
          by_cases hlt : j < n + 3
          · obtain ⟨y, hy⟩ : ∃ y, Lx[j]? = some y := ⟨_, List.getElem?_eq_getElem (by rw [row_len hrow]; exact hlt)⟩
            have hc : wr.cell? ⟨g, j, none⟩ = some (.int .u8 y) := by rw [hrow.cellAt j (by omega), u8_get hy]
            have hf : wr.frozen? ⟨g, j, none⟩ = false := hrow.frozenAt j
            clear hy hz hop hrow HRR
            go_wp2_with fail
            have HN := Lib.hid (show ∃ Lx', Z (fun k => k = b ∨ k = g) (wr.setCell ⟨g, j, none⟩ (.int .u8 (bits BinOp.xor IntKind.u8 y 1))) ∧ Op8 (wr.setCell ⟨g, j, none⟩ (.int .u8 (bits BinOp.xor IntKind.u8 y 1))) b 0 t ao n c x yes nn ∧ (wr.setCell ⟨g, j, none⟩ (.int .u8 (bits BinOp.xor IntKind.u8 y 1))).ownsRow w1.heap.size 5 1 (.slice (some ⟨g, 0, none⟩) (n + 3) cc) (n + 3) (u8s Lx') from ⟨Lx.set j (bits BinOp.xor IntKind.u8 y 1), HP.out.z.turn HQ.out.1 (turned_set wr g j _) (fun k hk => by have h1 := HAH.out.size; have h2 := HG.out; exact ⟨.inr hk, by omega⟩), ((turned_set wr g j _).block b (Array.getElem?_eq_some_iff.1 HQ.out.2.1).1 (fun e => by have h1 := HW.out.2.2.2; have h2 := HG.out; omega)).trans HQ.out.2.1, by rw [← u8_set]; exact (HQ.out.2.2.stored _ _).1⟩)
            go_roundw
            case rel => exact ⟨j + 1, by omega, by go_num, HN⟩
            case measure => simp [intOf]; omega
          · have HF := Lib.hid (show Cut Z w1 b 0 t ao n c x yes nn wr from ⟨HP.out.z.less hz (fun k hk => .inl hk), hop, by have h1 := (World.ownsRow.lt hrow g rfl).2; have h2 := HG.out; omega⟩)
            clear hz hop hrow HRR HQ
            go_wp2_with fail
            go_meet
            exact ⟨by simp, HF⟩
      by_cases hk1 : kd = 1
      · subst hk1
        obtain ⟨v, u, hc1, hc2⟩ := HP.out.k1 rfl
        have HC := Lib.hid (And.intro hc1 hc2)
        clear hc1 hc2
        go_wp2_with (first
            | (have hh := H2; clear hh; go_at_call 20; refine (HC.out.2 _ _ H2.out.1).mono ?_; rintro e w3 ⟨rfl, hz, hk⟩; have H3 := Lib.hid (show Cut Z w1 b 1 t ao n c x yes nn w3 from ⟨hz, (hk.block b rfl).trans H2.out.2.1, Nat.le_trans H2.out.2.2 hk.size⟩); obtain ⟨d0, d1, d2, d3, d4, d5, d6, d7⟩ := H3.out.o.cells; clear hz hk)
            | (go_at_call 13; refine (HC.out.1 _ _ H1.out.1).mono ?_; rintro e w2 ⟨rfl, hm, hk⟩; have H2 := Lib.hid (And.intro hm (And.intro (show Op8 w2 b 1 t ao n c x yes nn from (hk.block b rfl).trans H1.out.2) (show w1.heap.size ≤ w2.heap.size from hk.size))); obtain ⟨c0, c1, c2, c3, c4, c5, c6, c7⟩ := H2.out.2.1.cells; clear hm hk; simp only [two] at *))
        go_meet
        exact ⟨by simp, H3⟩
      by_cases hk2 : kd = 2
      · subst hk2
        obtain ⟨v, hc1, hc2⟩ := HP.out.k2 rfl
        have HC := Lib.hid (And.intro hc1 hc2)
        clear hc1 hc2
        go_wp2_with fail
        go_region_held3 (fun w' => w'.cell? ⟨b, 0, none⟩ = some (.int .u8 2) ∧ w'.cell? ⟨b, 1, none⟩ = some (.int .u8 t.1) ∧ w'.cell? ⟨b, 2, none⟩ = some (.int .u32 t.2.1) ∧ w'.cell? ⟨b, 3, none⟩ = some (.int .u32 t.2.2) ∧ w'.cell? ⟨b, 4, none⟩ = some (.slice ao n c) ∧ w'.cell? ⟨b, 5, none⟩ = some (.int .u8 x) ∧ w'.cell? ⟨b, 6, none⟩ = some (.bool yes) ∧ w'.cell? ⟨b, 7, none⟩ = some (.int .i64 nn)) (first | exact ⟨a0, a1, a2, a3, a4, a5, a6, a7⟩ | exact ⟨c0, c1, c2, c3, c4, c5, c6, c7⟩ | exact ⟨d0, d1, d2, d3, d4, d5, d6, d7⟩)
          (first
            | (have hh := H2; clear hh; go_at_call 21; refine (HC.out.2 _ _ H2.out.1).mono ?_; rintro e w3 ⟨rfl, hz, hk⟩; have H3 := Lib.hid (show Cut Z w1 b 2 t ao n c x yes nn w3 from ⟨hz, (hk.block b rfl).trans H2.out.2.1, Nat.le_trans H2.out.2.2 hk.size⟩); obtain ⟨d0, d1, d2, d3, d4, d5, d6, d7⟩ := H3.out.o.cells; clear hz hk)
            | (go_at_call 14; refine (HC.out.1 _ _ (HP.out.a.below H1.out.1 (below_drew _))).mono ?_; rintro e w2 ⟨rfl, hm, hk⟩; have H2 := Lib.hid (And.intro hm (And.intro (show Op8 w2 b 2 t ao n c x yes nn from (hk.block b rfl).trans H1.out.2) (show w1.heap.size ≤ w2.heap.size from hk.size))); obtain ⟨c0, c1, c2, c3, c4, c5, c6, c7⟩ := H2.out.2.1.cells; clear hm hk))
        go_wp2_with fail
        go_meet
        exact ⟨by simp, H3⟩
      by_cases hk3 : kd = 3
      · subst hk3
        obtain ⟨v, u, hc1, hc2⟩ := HP.out.k3 rfl
        have HC := Lib.hid (And.intro hc1 hc2)
        clear hc1 hc2
        go_wp2_with (first
            | (have hh := H2; clear hh; go_at_call 23; refine (HC.out.2 _ _ H2.out.1).mono ?_; rintro e w3 ⟨rfl, hz, hk⟩; have H3 := Lib.hid (show Cut Z w1 b 3 t ao n c x yes nn w3 from ⟨hz, (hk.block b rfl).trans H2.out.2.1, Nat.le_trans H2.out.2.2 hk.size⟩); obtain ⟨d0, d1, d2, d3, d4, d5, d6, d7⟩ := H3.out.o.cells; clear hz hk)
            | (go_at_call 22; refine (HC.out.1 _ _ H1.out.1).mono ?_; rintro e w2 ⟨rfl, hm, hk⟩; have H2 := Lib.hid (And.intro hm (And.intro (show Op8 w2 b 3 t ao n c x yes nn from (hk.block b rfl).trans H1.out.2) (show w1.heap.size ≤ w2.heap.size from hk.size))); obtain ⟨c0, c1, c2, c3, c4, c5, c6, c7⟩ := H2.out.2.1.cells; clear hm hk; simp only [bi] at *))
        go_meet
        exact ⟨by simp, H3⟩
      by_cases hk4 : kd = 4
      · subst hk4
        obtain ⟨v, hc1, hc2⟩ := HP.out.k4 rfl
        have HC := Lib.hid (And.intro hc1 hc2)
        clear hc1 hc2
        go_wp2_with fail
        go_region_held3 (fun w' => w'.cell? ⟨b, 0, none⟩ = some (.int .u8 4) ∧ w'.cell? ⟨b, 1, none⟩ = some (.int .u8 t.1) ∧ w'.cell? ⟨b, 2, none⟩ = some (.int .u32 t.2.1) ∧ w'.cell? ⟨b, 3, none⟩ = some (.int .u32 t.2.2) ∧ w'.cell? ⟨b, 4, none⟩ = some (.slice ao n c) ∧ w'.cell? ⟨b, 5, none⟩ = some (.int .u8 x) ∧ w'.cell? ⟨b, 6, none⟩ = some (.bool yes) ∧ w'.cell? ⟨b, 7, none⟩ = some (.int .i64 nn)) (first | exact ⟨a0, a1, a2, a3, a4, a5, a6, a7⟩ | exact ⟨c0, c1, c2, c3, c4, c5, c6, c7⟩ | exact ⟨d0, d1, d2, d3, d4, d5, d6, d7⟩)
          (first
            | (have hh := H2; clear hh; go_at_call 25; refine (HC.out.2 _ _ H2.out.1).mono ?_; rintro e w3 ⟨rfl, hz, hk⟩; have H3 := Lib.hid (show Cut Z w1 b 4 t ao n c x yes nn w3 from ⟨hz, (hk.block b rfl).trans H2.out.2.1, Nat.le_trans H2.out.2.2 hk.size⟩); obtain ⟨d0, d1, d2, d3, d4, d5, d6, d7⟩ := H3.out.o.cells; clear hz hk)
            | (go_at_call 24; refine (HC.out.1 _ _ (HP.out.a.below H1.out.1 (below_drew _))).mono ?_; rintro e w2 ⟨rfl, hm, hk⟩; have H2 := Lib.hid (And.intro hm (And.intro (show Op8 w2 b 4 t ao n c x yes nn from (hk.block b rfl).trans H1.out.2) (show w1.heap.size ≤ w2.heap.size from hk.size))); obtain ⟨c0, c1, c2, c3, c4, c5, c6, c7⟩ := H2.out.2.1.cells; clear hm hk))
        go_wp2_with fail
        go_meet
        exact ⟨by simp, H3⟩
      by_cases hk5 : kd = 5
      · subst hk5
        obtain ⟨v, hc1, hc2⟩ := HP.out.k5 rfl
        have HC := Lib.hid (And.intro hc1 hc2)
        clear hc1 hc2
        go_wp2_with fail
        go_region_held3 (fun w' => w'.cell? ⟨b, 0, none⟩ = some (.int .u8 5) ∧ w'.cell? ⟨b, 1, none⟩ = some (.int .u8 t.1) ∧ w'.cell? ⟨b, 2, none⟩ = some (.int .u32 t.2.1) ∧ w'.cell? ⟨b, 3, none⟩ = some (.int .u32 t.2.2) ∧ w'.cell? ⟨b, 4, none⟩ = some (.slice ao n c) ∧ w'.cell? ⟨b, 5, none⟩ = some (.int .u8 x) ∧ w'.cell? ⟨b, 6, none⟩ = some (.bool yes) ∧ w'.cell? ⟨b, 7, none⟩ = some (.int .i64 nn)) (first | exact ⟨a0, a1, a2, a3, a4, a5, a6, a7⟩ | exact ⟨c0, c1, c2, c3, c4, c5, c6, c7⟩ | exact ⟨d0, d1, d2, d3, d4, d5, d6, d7⟩)
          (first
            | (have hh := H2; clear hh; go_at_call 27; refine (HC.out.2 _ _ H2.out.1).mono ?_; rintro e w3 ⟨rfl, hz, hk⟩; have H3 := Lib.hid (show Cut Z w1 b 5 t ao n c x yes nn w3 from ⟨hz, (hk.block b rfl).trans H2.out.2.1, Nat.le_trans H2.out.2.2 hk.size⟩); obtain ⟨d0, d1, d2, d3, d4, d5, d6, d7⟩ := H3.out.o.cells; clear hz hk)
            | (go_at_call 26; refine (HC.out.1 _ _ (HP.out.a.below H1.out.1 (below_drew _))).mono ?_; rintro e w2 ⟨rfl, hm, hk⟩; have H2 := Lib.hid (And.intro hm (And.intro (show Op8 w2 b 5 t ao n c x yes nn from (hk.block b rfl).trans H1.out.2) (show w1.heap.size ≤ w2.heap.size from hk.size))); obtain ⟨c0, c1, c2, c3, c4, c5, c6, c7⟩ := H2.out.2.1.cells; clear hm hk))
        go_wp2_with fail
        go_meet
        exact ⟨by simp, H3⟩
      have e0 : (kd == 0) = false := by simpa using hk0
      have e1 : (kd == 1) = false := by simpa using hk1
      have e2 : (kd == 2) = false := by simpa using hk2
      have e3 : (kd == 3) = false := by simpa using hk3
      have e4 : (kd == 4) = false := by simpa using hk4
      have e5 : (kd == 5) = false := by simpa using hk5
      have H3 := Lib.hid (show Cut Z w1 b kd t ao n c x yes nn w1 from ⟨HP.out.k6 hk0 hk1 hk2 hk3 hk4 hk5 _ _ H1.out.1, H1.out.2, Nat.le_refl _⟩)
      clear hk0 hk1 hk2 hk3 hk4 hk5
      go_wp2_with fail
      go_meet
      exact ⟨rfl, H3⟩
  case rest =>
    as_aux_lemma =>
      obtain ⟨rfl, HX⟩ := hcut
      obtain ⟨LO, ru, st, LD, ⟨hlo, hld⟩, htl⟩ := HP.out.tells
      obtain ⟨nO, hnO⟩ : ∃ k, LO.length = k := ⟨_, rfl⟩
      obtain ⟨nD, hnD⟩ : ∃ k, LD.length = k := ⟨_, rfl⟩
      rw [hnO] at hlo
      rw [hnD] at hld
      have TS := Lib.hid htl
      have HO := Lib.hid hnO
      have HD := Lib.hid hnD
      have HBX := Lib.hid (Array.getElem?_eq_some_iff.1 HX.out.o).1
      have HWS := Lib.hid (Nat.le_trans HW.out.2.2.1 HX.out.s)
      obtain ⟨_, a1, a2, a3, _⟩ := HX.out.o.cells
      clear htl hnO hnD
      go_wp2_with (first
        | (have hh := Q1; clear hh; go_at_call 28; refine ((TS.out _ _ (HP.out.z.below HX.out.z Q1.out.2)).2.2.1).mono ?_; intro e w3 he; obtain ⟨ld, cd, rfl, hd, hb⟩ := DkR.open HD.out he; have P0 := Lib.hid (show Tail wc w2 lo nO co LO ld nD cd LD w3 from ⟨Q1.out.2.trans (hb.mono Q1.out.2.size), own_on Q1.out.1 (fun k hk => hb.block k (World.ownsRow.lt Q1.out.1 k hk).2), hd⟩); obtain ⟨_, P01, P02, P03, _⟩ := (show Op8 w3 b kd t ao n c x yes nn from ((P0.out.b).block b HBX.out).trans HX.out.o).cells; clear hb hd he)
        | (go_at_call 16; refine ((TS.out _ _ HX.out.z).1).mono ?_; intro e w2 he; obtain ⟨lo, co, rfl, hd, hb⟩ := OwR.open HO.out he; have Q1 := Lib.hid (And.intro hd hb); clear hb hd he))
      have D0 := Lib.hid (P0.out.step (below_drew w3))
      go_region_held3 (fun w' => w'.cell? ⟨b, 1, none⟩ = some (.int .u8 t.1) ∧ w'.cell? ⟨b, 2, none⟩ = some (.int .u32 t.2.1) ∧ w'.cell? ⟨b, 3, none⟩ = some (.int .u32 t.2.2)) (first | exact ⟨P01, P02, P03⟩ | exact ⟨P11, P12, P13⟩ | exact ⟨P21, P22, P23⟩ | exact ⟨P31, P32, P33⟩ | exact ⟨P41, P42, P43⟩ | exact ⟨P51, P52, P53⟩ | exact ⟨P61, P62, P63⟩ | exact ⟨P71, P72, P73⟩ | exact ⟨P81, P82, P83⟩)
        (first
          | (have hh := P7; clear hh; go_at_call 32; refine (sameK_any ld ld7 nD cd cd7 LD _ HD.out hld (dk_rd P7.out.d HD.out) (dk_rd PD.out HD.out)).mono ?_; rintro e x8 ⟨rfl, hb⟩; have P8 := Lib.hid (P7.out.step hb); obtain ⟨_, P81, P82, P83, _⟩ := (show Op8 x8 b kd t ao n c x yes nn from ((P8.out.b).block b HBX.out).trans HX.out.o).cells; clear hb)
          | (have hh := P6; clear hh; go_at_call 33; refine ((TS.out _ _ (HP.out.z.below HX.out.z P6.out.b)).2.2.2.1).mono ?_; intro e x7 he; obtain ⟨ld7, cd7, rfl, hd, hb⟩ := DkR.open HD.out he; have P7 := Lib.hid (P6.out.step hb); have PD := Lib.hid hd; obtain ⟨_, P71, P72, P73, _⟩ := (show Op8 x7 b kd t ao n c x yes nn from ((P7.out.b).block b HBX.out).trans HX.out.o).cells; clear hb hd he)
          | (have hh := P5; clear hh; go_at_call 31; refine ((TS.out _ _ (HP.out.z.below HX.out.z P5.out.b)).2.2.2.2.2.2.2).mono ?_; rintro e x6 ⟨rfl, hb⟩; have P6 := Lib.hid (P5.out.step hb); obtain ⟨_, P61, P62, P63, _⟩ := (show Op8 x6 b kd t ao n c x yes nn from ((P6.out.b).block b HBX.out).trans HX.out.o).cells; clear hb)
          | (have hh := P4; clear hh; go_at_call 11; refine ((TS.out _ _ (HP.out.z.below HX.out.z P4.out.b)).2.2.2.2.2.2.1).mono ?_; rintro e x5 ⟨rfl, hb⟩; have P5 := Lib.hid (P4.out.step hb); obtain ⟨_, P51, P52, P53, _⟩ := (show Op8 x5 b kd t ao n c x yes nn from ((P5.out.b).block b HBX.out).trans HX.out.o).cells; clear hb)
          | (have hh := P3; clear hh; go_at_call 30; refine ((TS.out _ _ (HP.out.z.below HX.out.z P3.out.b)).2.2.2.2.2.1).mono ?_; rintro e x4 ⟨rfl, hb⟩; have P4 := Lib.hid (P3.out.step hb); obtain ⟨_, P41, P42, P43, _⟩ := (show Op8 x4 b kd t ao n c x yes nn from ((P4.out.b).block b HBX.out).trans HX.out.o).cells; clear hb)
          | (have hh := P2; clear hh; go_at_call 10; refine ((TS.out _ _ (HP.out.z.below HX.out.z P2.out.b)).2.2.2.2.1).mono ?_; rintro e x3 ⟨rfl, hb⟩; have P3 := Lib.hid (P2.out.step hb); obtain ⟨_, P31, P32, P33, _⟩ := (show Op8 x3 b kd t ao n c x yes nn from ((P3.out.b).block b HBX.out).trans HX.out.o).cells; clear hb)
          | (have hh := P1; clear hh; go_at_call 15; refine (same_any lo lo1 nO co co1 LO _ HO.out (by omega) (rd_row P1.out.o) (rd_row PO.out)).mono ?_; rintro e x2 ⟨rfl, hb⟩; have P2 := Lib.hid (P1.out.step hb); obtain ⟨_, P21, P22, P23, _⟩ := (show Op8 x2 b kd t ao n c x yes nn from ((P2.out.b).block b HBX.out).trans HX.out.o).cells; clear hb)
          | (go_at_call 29; refine ((TS.out _ _ (HP.out.z.below HX.out.z D0.out.b)).2.1).mono ?_; intro e x1 he; obtain ⟨lo1, co1, rfl, hd, hb⟩ := OwR.open HO.out he; have P1 := Lib.hid (D0.out.step hb); have PO := Lib.hid hd; obtain ⟨_, P11, P12, P13, _⟩ := (show Op8 x1 b kd t ao n c x yes nn from ((P1.out.b).block b HBX.out).trans HX.out.o).cells; clear hb hd he))
      have HNE := Lib.hid (show ∀ g h, lo = some ⟨g, 0, none⟩ → ld = some ⟨h, 0, none⟩ → g ≠ h from fun g h e1 e2 => by subst e1; subst e2; have h1 := (World.ownsRow.lt Q1.out.1 g rfl).2; have h2 := (World.ownsRow.lt P8.out.d h rfl).1; omega)
      have HE := Lib.hid (And.intro P8.out.b (And.intro (show ∃ L', x8.ownsRow wc.heap.size 5 1 (.slice lo nO co) nO (u8s L') from ⟨_, P8.out.o⟩) (And.intro (show ∃ L' : List TK, x8.ownsRow w2.heap.size 33 3 (.slice ld nD cd) nD (L'.flatMap encK) from ⟨_, P8.out.d⟩) Q1.out.2.size)))
      go_wp2_with fail
      go_loopw [205] (fun iv wr => ∃ (j : Nat), j ≤ nO ∧ iv = .int .i64 j ∧ Hid (EndR wc w2 lo nO co ld nD cd wr)) (fun i _ => nO - (intOf i).toNat)
      case atStart => exact ⟨0, Nat.zero_le _, rfl, Lib.hid ⟨HE.out.1, HE.out.2.1, HE.out.2.2.1, HE.out.2.2.2, HNE.out⟩⟩
      case round =>
        obtain ⟨j, hj, rfl, HRR⟩ := hrel
        by_cases hlt : j < nO
        · obtain ⟨Lx, hrow⟩ := HRR.out.o
          obtain ⟨y, hy⟩ : ∃ y, Lx[j]? = some y := ⟨_, List.getElem?_eq_getElem (by rw [row_len hrow]; exact hlt)⟩
          obtain ⟨g, rfl⟩ := row_some hrow (by omega)
          have hc : wr.cell? ⟨g, j, none⟩ = some (.int .u8 y) := by rw [hrow.cellAt j (by omega), u8_get hy]
          have hf : wr.frozen? ⟨g, j, none⟩ = false := hrow.frozenAt j
          have HN := Lib.hid (HRR.out.put8 j (bits BinOp.xor IntKind.u8 y 1))
          clear hy hrow HRR
          go_wp2_with fail
          go_roundw
          case rel => exact ⟨j + 1, by omega, by go_num, HN⟩
          case measure => simp [intOf]; omega
        · have HF := HRR
          clear HRR HE
          go_wp2_with fail
          go_loopw [217] (fun iv wq => ∃ (j : Nat), j ≤ nD ∧ iv = .int .i64 j ∧ Hid (EndR wc w2 lo nO co ld nD cd wq)) (fun i _ => nD - (intOf i).toNat)
          case atStart => exact ⟨0, Nat.zero_le _, rfl, HF⟩
          case round =>
            obtain ⟨i, hi, rfl, HRR⟩ := hrel
            clear HF
            by_cases hlt2 : i < nD
            · obtain ⟨Lx, hrow⟩ := HRR.out.d
              obtain ⟨y, hy⟩ : ∃ y, Lx[i]? = some y := ⟨_, List.getElem?_eq_getElem (by rw [dk_len hrow]; exact hlt2)⟩
              obtain ⟨g, rfl⟩ := row_some hrow (by omega)
              have hc : wr.cell? ⟨g, i * 3 + 2, none⟩ = some (.int .u32 y.2.2) := by rw [hrow.cellAt (i * 3 + 2) (by omega), fm_at len3 hy (by decide)]; rfl
              have hf : wr.frozen? ⟨g, i * 3 + 2, none⟩ = false := hrow.frozenAt (i * 3 + 2)
              have HN := Lib.hid (HRR.out.put3 hrow hy (bits BinOp.xor IntKind.u32 y.2.2 1))
              clear hy hrow HRR
              go_wp2_with fail
              go_roundw
              case rel => exact ⟨i + 1, by omega, by go_num, HN⟩
              case measure => simp [intOf]; omega
            · have HF := HRR
              clear HRR
              go_wp2_with fail
              go_ret
              exact ⟨rfl, HP.out.z.less (HP.out.z.below HX.out.z HF.out.b) (fun _ h => h.elim), Nat.le_trans HWS.out HF.out.b.size⟩

end
end Go.Proofs.Ytklalpamcfkngaa.Cm
