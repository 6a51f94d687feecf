/- The eldest of a list, walked. -/
import Derived.Test.YtfennglfmngeiaaRow
import Derived.Test.YtfennglfmngeiaaW5
import Derived.OwnWalk
import Derived.IntWalk
namespace Go.Proofs.Ytfennglfmngeiaa.St
open Go Go.RowKit Go.Sort
def q0 : Q := ⟨0, 0, 0, 0⟩
/-- From an address on these stamps stand. -/
def Qs (w : World) (ao : Option Addr) (l : List Q) : Prop := Rq w ao 4 (fun i => encQ (l.getD i q0)) l.length
theorem Qs.on {w w' : World} {ao : Option Addr} {l : List Q} (h : Qs w ao l) {B : Nat} (hb : Below B w w') (hB : w.heap.size ≤ B) : Qs w' ao l := Rq.on h hb hB
theorem Qs.nil (w : World) (ao : Option Addr) : Qs w ao [] := fun i hi => absurd hi (Nat.not_lt_zero _)
/-- Four cells hold a stamp. -/
def Four (w : World) (b o : Nat) (x : Q) : Prop :=
  w.cell? ⟨b, o, none⟩ = some (.int .u64 x.n) ∧ w.cell? ⟨b, o + 1, none⟩ = some (.int .u8 x.node) ∧ w.cell? ⟨b, o + 2, none⟩ = some (.int .u32 x.inc) ∧ w.cell? ⟨b, o + 3, none⟩ = some (.int .u32 x.seq)
theorem Qs.at {w : World} {ao : Option Addr} {l : List Q} (h : Qs w ao l) {k : Nat} (hk : k < l.length) : ∃ b off, ao = some ⟨b, off, none⟩ ∧ b < w.heap.size ∧ Four w b (off + k * 4) (l.getD k q0) := by
  obtain ⟨b, off, h1, h2, _, h4⟩ := h k hk
  exact ⟨b, off, h1, h2, h4 0 (by decide), h4 1 (by decide), h4 2 (by decide), h4 3 (by decide)⟩
theorem Four.on {w w' : World} {b o : Nat} {x : Q} (h : Four w b o x) {B : Nat} (hb : Below B w w') (hB : b < B) : Four w' b o x :=
  ⟨(hb.cell (p := ⟨b, o, none⟩) hB).trans h.1, (hb.cell (p := ⟨b, o + 1, none⟩) hB).trans h.2.1, (hb.cell (p := ⟨b, o + 2, none⟩) hB).trans h.2.2.1, (hb.cell (p := ⟨b, o + 3, none⟩) hB).trans h.2.2.2⟩
/-- A block of the call's own that holds a stamp. -/
def Box4 (w : World) (b : Nat) (x : Q) : Prop := Four w b 0 x ∧ (∀ j, w.frozen? ⟨b, j, none⟩ = false) ∧ b < w.heap.size
theorem Box4.on {w w' : World} {b : Nat} {x : Q} (h : Box4 w b x) {B : Nat} (hb : Below B w w') (hB : b < B) : Box4 w' b x :=
  ⟨h.1.on hb hB, fun j => (hb.frozen (p := ⟨b, j, none⟩) hB).trans (h.2.1 j), Nat.lt_of_lt_of_le h.2.2 hb.size⟩
theorem Box4.new (w : World) (x : Q) (t : TypeId) : Box4 (w.alloc (.cells #[.int .u64 x.n, .int .u8 x.node, .int .u32 x.inc, .int .u32 x.seq] t)) w.heap.size x :=
  ⟨⟨by simp, by simp, by simp, by simp⟩, fun j => by simp, by simp⟩
/-- A stamp is written over a block's four cells. -/
def put4 (w : World) (b : Nat) (x : Q) : World :=
  (((w.setCell ⟨b, 0, none⟩ (.int .u64 x.n)).setCell ⟨b, 1, none⟩ (.int .u8 x.node)).setCell ⟨b, 2, none⟩ (.int .u32 x.inc)).setCell ⟨b, 3, none⟩ (.int .u32 x.seq)
theorem set_at {w : World} {b i : Nat} {u v : Value} (h : w.cell? ⟨b, i, none⟩ = some u) : (w.setCell ⟨b, i, none⟩ v).cell? ⟨b, i, none⟩ = some v := World.cell?_setCell_same _ _ _ h
theorem set_by {w : World} {b i j : Nat} {u v : Value} (h : w.cell? ⟨b, i, none⟩ = some u) (hne : j ≠ i) : (w.setCell ⟨b, j, none⟩ v).cell? ⟨b, i, none⟩ = some u :=
  (World.cell?_setCell_other _ _ _ _ (by intro e; cases e; exact hne rfl)).trans h
theorem size_put4 (w : World) (b : Nat) (x : Q) : (put4 w b x).heap.size = w.heap.size := by simp [put4]
theorem Box4.put {w : World} {b : Nat} {m : Q} (h : Box4 w b m) (y : Q) : Box4 (put4 w b y) b y := by
  obtain ⟨⟨h0, h1, h2, h3⟩, hf, hs⟩ := h
  refine ⟨⟨?_, ?_, ?_, ?_⟩, fun j => ?_, by rw [size_put4]; exact hs⟩
  · exact set_by (set_by (set_by (set_at h0) (by decide)) (by decide)) (by decide)
  · exact set_by (set_by (set_at (set_by h1 (by decide))) (by decide)) (by decide)
  · exact set_by (set_at (set_by (set_by h2 (by decide)) (by decide))) (by decide)
  · exact set_at (set_by (set_by (set_by h3 (by decide)) (by decide)) (by decide))
  · simp only [put4, World.frozen?_setCell]; exact hf j
theorem Box4.put_far {w : World} {b c : Nat} {m : Q} (h : Box4 w b m) (y : Q) (hne : b ≠ c) : Box4 (put4 w c y) b m := by
  obtain ⟨⟨h0, h1, h2, h3⟩, hf, hs⟩ := h
  refine ⟨⟨?_, ?_, ?_, ?_⟩, fun j => ?_, by rw [size_put4]; exact hs⟩
  · exact cell_set (cell_set (cell_set (cell_set h0 hne) hne) hne) hne
  · exact cell_set (cell_set (cell_set (cell_set h1 hne) hne) hne) hne
  · exact cell_set (cell_set (cell_set (cell_set h2 hne) hne) hne) hne
  · exact cell_set (cell_set (cell_set (cell_set h3 hne) hne) hne) hne
  · simp only [put4, World.frozen?_setCell]; exact hf j
theorem below_put4 {B : Nat} {w w' : World} {b : Nat} (h : Below B w w') (hb : B ≤ b) (x : Q) : Below B w (put4 w' b x) :=
  (((h.setCell (p := ⟨b, 0, none⟩) hb _).setCell (p := ⟨b, 1, none⟩) hb _).setCell (p := ⟨b, 2, none⟩) hb _).setCell (p := ⟨b, 3, none⟩) hb _
/-- The elder of two: the first one, unless the second one is elder. -/
def elder (m x : Q) : Q := if ordQ x m < 0 then x else m
/-- The eldest of a list, as MinFunc finds it. -/
def minQ : List Q → Q
  | [] => q0
  | x :: l => l.foldl elder x
theorem minQ_snoc (l : List Q) (x : Q) (h : 0 < l.length) : minQ (l ++ [x]) = elder (minQ l) x := by
  cases l with
  | nil => simp at h
  | cons y l => simp [minQ, List.foldl_append]
theorem take_more {l : List Q} {k : Nat} (h : k < l.length) : l.take (k + 1) = l.take k ++ [l.getD k q0] := by
  rw [List.take_succ_eq_append_getElem h, List.getD_eq_getElem?_getD, List.getElem?_eq_getElem h]; rfl
set_option maxHeartbeats 2000000 in
theorem min_any (ao : Option Addr) (n c : Nat) (l : List Q) (w : World) (_hn : n ≤ maxLen) (hl : l.length = n) (h0 : 0 < n) (ha : Qs w ao l) :
    Calls Try.prog 29 #[.slice ao n c, .func (.func 13) #[] #[]] w fun e w' => e = .returned (.agg (encQ (minQ l)).toArray) ∧ Below w.heap.size w w' := by
  unfold maxLen at _hn
  obtain ⟨b, off, rfl, hb, hf⟩ := ha.at (k := 0) (by omega)
  obtain ⟨e0, e1, e2, e3⟩ := hf
  generalize hx : l.getD 0 q0 = x at *
  rw [show off + 0 * 4 = off by omega] at e0 e1 e2 e3
  have HX := Lib.hid hx
  have HL := Lib.hid hl
  have HA := Lib.hid ha
  clear hx hl ha
  go_enter Try.func29, Try.ntmps29
  go_wp2_with fail
  have hE := (Below.refl w.heap.size w).alloc (Nat.le_refl _) (.cells #[.int .u64 0, .int .u8 0, .int .u32 0, .int .u32 0] 39)
  go_loopw [6] (fun i wr => ∃ k : Nat, 1 ≤ k ∧ k ≤ n ∧ i = .int .i64 k ∧ Box4 wr (w.heap.size + 1) (minQ (l.take k)) ∧ Box4 wr w.heap.size q0 ∧ Below w.heap.size w wr) (fun i _ => n - (intOf i).toNat)
  case atStart =>
    refine ⟨1, Nat.le_refl _, h0, rfl, ?_, (Box4.new w q0 39).on ((Below.refl _ _).alloc (Nat.le_refl _) _) (by simp), hE.alloc (by simp) _⟩
    have e : minQ (l.take 1) = x := by
      rw [take_more (k := 0) (by have := HL.out; omega), HX.out]; rfl
    rw [e]
    have := Box4.new (w.alloc (.cells #[.int .u64 0, .int .u8 0, .int .u32 0, .int .u32 0] 39)) x 39
    rwa [World.size_alloc] at this
  case round =>
    obtain ⟨k, k1, hk, rfl, hM, hZ, hB⟩ := hrel
    by_cases hlt : k < n
    · obtain ⟨b', off', he, hb', hf⟩ := (HA.out.on hB (Nat.le_refl _)).at (k := k) (by have := HL.out; omega)
      cases he
      have hm := minQ_snoc (l.take k) (l.getD k q0) (by rw [List.length_take]; have := HL.out; omega)
      rw [← take_more (by have := HL.out; omega)] at hm
      unfold elder at hm
      have HM := Lib.hid hm
      have HF := Lib.hid hf
      have HMm := Lib.hid hM
      have HZ := Lib.hid hZ
      obtain ⟨g0, g1, g2, g3⟩ := hf
      obtain ⟨⟨m0, m1, m2, m3⟩, mf, ms⟩ := hM
      clear hm hZ e0 e1 e2 e3
      generalize minQ (l.take k) = m at *
      generalize l.getD k q0 = y at *
      by_cases ho : ordQ y m < 0
      · have hd : decide (ordQ y m < 0) = true := decide_eq_true ho
        go_wp2_with fail
        go_region_held3 (fun w' => (w'.cell? ⟨b, off + k * 4, none⟩ = some (.int .u64 y.n) ∧ w'.cell? ⟨b, off + k * 4 + 1, none⟩ = some (.int .u8 y.node) ∧ w'.cell? ⟨b, off + k * 4 + 2, none⟩ = some (.int .u32 y.inc) ∧ w'.cell? ⟨b, off + k * 4 + 3, none⟩ = some (.int .u32 y.seq))
          ∧ (w'.cell? ⟨w.heap.size + 1, 0, none⟩ = some (.int .u64 m.n) ∧ w'.cell? ⟨w.heap.size + 1, 1, none⟩ = some (.int .u8 m.node) ∧ w'.cell? ⟨w.heap.size + 1, 2, none⟩ = some (.int .u32 m.inc) ∧ w'.cell? ⟨w.heap.size + 1, 3, none⟩ = some (.int .u32 m.seq)))
          (first | exact ⟨⟨g0, g1, g2, g3⟩, m0, m1, m2, m3⟩ | exact ⟨HFF.out, HMM.out.1⟩)
          ((go_at_call 13; refine (order_calls y m _).mono ?_; rintro e w1 ⟨rfl, hg⟩; have hG : Below wr.heap.size wr w1 := below_grown ((Below.refl _ _).drew) (Nat.le_refl _) hg; have HFF := Lib.hid (HF.out.on hG hb'); have HMM := Lib.hid (HMm.out.on hG ms); clear hg))
        have hB1 := hB.trans (hG.mono hB.size)
        obtain ⟨a0, a1, a2, a3⟩ := HFF.out
        have af := fun j => HMM.out.2.1 j
        obtain ⟨c0, c1, c2, c3⟩ := HMM.out.1
        go_wp2_with fail
        go_roundw
        case rel =>
          have e : minQ (l.take (k + 1)) = y := by rw [HM.out, if_pos ho]
          exact ⟨k + 1, by omega, by omega, by go_num, by rw [e]; exact HMM.out.put y, (HZ.out.on hG (by omega)).put_far y (by omega), below_put4 hB1 (by omega) y⟩
        case measure => simp [intOf]; omega
      · have hd : decide (ordQ y m < 0) = false := decide_eq_false ho
        go_wp2_with fail
        go_region_held3 (fun w' => (w'.cell? ⟨b, off + k * 4, none⟩ = some (.int .u64 y.n) ∧ w'.cell? ⟨b, off + k * 4 + 1, none⟩ = some (.int .u8 y.node) ∧ w'.cell? ⟨b, off + k * 4 + 2, none⟩ = some (.int .u32 y.inc) ∧ w'.cell? ⟨b, off + k * 4 + 3, none⟩ = some (.int .u32 y.seq))
          ∧ (w'.cell? ⟨w.heap.size + 1, 0, none⟩ = some (.int .u64 m.n) ∧ w'.cell? ⟨w.heap.size + 1, 1, none⟩ = some (.int .u8 m.node) ∧ w'.cell? ⟨w.heap.size + 1, 2, none⟩ = some (.int .u32 m.inc) ∧ w'.cell? ⟨w.heap.size + 1, 3, none⟩ = some (.int .u32 m.seq)))
          (first | exact ⟨⟨g0, g1, g2, g3⟩, m0, m1, m2, m3⟩ | exact ⟨HFF.out, HMM.out.1⟩)
          ((go_at_call 13; refine (order_calls y m _).mono ?_; rintro e w1 ⟨rfl, hg⟩; have hG : Below wr.heap.size wr w1 := below_grown ((Below.refl _ _).drew) (Nat.le_refl _) hg; have HFF := Lib.hid (HF.out.on hG hb'); have HMM := Lib.hid (HMm.out.on hG ms); clear hg))
        have hB1 := hB.trans (hG.mono hB.size)
        go_wp2_with fail
        go_roundw
        case rel =>
          have e : minQ (l.take (k + 1)) = m := by rw [HM.out, if_neg (by omega)]
          exact ⟨k + 1, by omega, by omega, by go_num, by rw [e]; exact HMM.out, HZ.out.on hG (by omega), hB1⟩
        case measure => simp [intOf]; omega
    · obtain rfl : n = k := by omega
      rw [show l.take n = l by rw [← HL.out, List.take_length]] at hM
      generalize hmm : minQ l = m at *
      have HE := Lib.hid hmm
      clear hmm
      obtain ⟨⟨m0, m1, m2, m3⟩, mf, ms⟩ := hM
      have HZ := Lib.hid (hZ.put m)
      have HB := Lib.hid (below_put4 hB (Nat.le_refl _) m)
      obtain ⟨⟨z0, z1, z2, z3⟩, zf, zs⟩ := hZ
      clear e0 e1 e2 e3 hB hE
      go_wp2_with fail
      obtain ⟨⟨y0, y1, y2, y3⟩, _, _⟩ := HZ.out
      unfold put4 at y0 y1 y2 y3
      exact bodyPost_ret (v := .agg #[.int .u64 m.n, .int .u8 m.node, .int .u32 m.inc, .int .u32 m.seq]) (by simp [results, Try.results29, go_sem, y0, y1, y2, y3]) rfl ⟨by rw [HE.out]; rfl, HB.out⟩
end Go.Proofs.Ytfennglfmngeiaa.St
