/- The law on orders, walked. -/
import Derived.Test.YtfennglfmngeiaaW14
import Derived.Test.YtfennglfmngeiaaW16
import Derived.Deep.QuietTactic
import Derived.Deep.DeepCutAuto
import Derived.Deep.CutRange
namespace Go.Proofs.Ytfennglfmngeiaa.St
open Go Go.RowKit Go.Sort Go.Lib
theorem or4_range (x y : Q) : ordQ x y = -1 ∨ ordQ x y = 0 ∨ ordQ x y = 1 := by
  unfold ordQ or4
  rcases c3_three x.n y.n with ⟨h, e⟩ | ⟨h, e⟩ | ⟨h, e⟩ <;> rcases c3_three x.node y.node with ⟨h2, e2⟩ | ⟨h2, e2⟩ | ⟨h2, e2⟩ <;> rcases c3_three x.inc y.inc with ⟨h3, e3⟩ | ⟨h3, e3⟩ | ⟨h3, e3⟩ <;> rcases c3_three x.seq y.seq with ⟨h4, e4⟩ | ⟨h4, e4⟩ | ⟨h4, e4⟩ <;> simp [e, e2, e3, e4]
theorem ordQ_zero (x y : Q) : ordQ x y = 0 ↔ (x.n = y.n ∧ x.node = y.node ∧ x.inc = y.inc ∧ x.seq = y.seq) := by
  unfold ordQ or4
  rcases c3_three x.n y.n with ⟨h, e⟩ | ⟨h, e⟩ | ⟨h, e⟩ <;> rcases c3_three x.node y.node with ⟨h2, e2⟩ | ⟨h2, e2⟩ | ⟨h2, e2⟩ <;> rcases c3_three x.inc y.inc with ⟨h3, e3⟩ | ⟨h3, e3⟩ | ⟨h3, e3⟩ <;> rcases c3_three x.seq y.seq with ⟨h4, e4⟩ | ⟨h4, e4⟩ | ⟨h4, e4⟩ <;> simp [e, e2, e3, e4] <;> omega
theorem ordQ_pos (x y : Q) : 0 < ordQ x y ↔ eld y x := by
  have h1 := ordQ_neg x y
  have h2 := ordQ_zero x y
  have h3 := or4_range x y
  have h4 := eld_total x y
  constructor
  · intro h
    rcases h4 with e | e | e
    · have := h1.2 e; omega
    · subst e; have := h2.2 ⟨rfl, rfl, rfl, rfl⟩; omega
    · exact e
  · intro h
    have a1 : ¬ ordQ x y < 0 := fun k => eld_irrefl x (eld_trans (h1.1 k) h)
    have a2 : ¬ ordQ x y = 0 := fun k => by
      obtain ⟨e1, e2, e3, e4⟩ := h2.1 k
      have := Q.ext' e1 e2 e3 e4
      subst this; exact eld_irrefl x h
    omega
/-- What was sorted stands where it stood. -/
theorem holds_on {w w' : World} {g : Nat} {d : Array Q} (h : HoldsK encQ 4 w g 0 d) (hg : g < w.heap.size) (hb : RowKit.Below w.heap.size w w') : HoldsK encQ 4 w' g 0 d := fun j hj =>
  ⟨(hb.cell (p := ⟨g, 0 + j, none⟩) hg).trans (h j hj).1, (hb.frozen (p := ⟨g, 0 + j, none⟩) hg).trans (h j hj).2⟩
/-- What the law's great region reads. -/
structure Bo (w : World) (s g : Nat) (x : Q) (ao : Option Addr) (l : List Q) : Prop where
  b : Box4 w s x
  h : HoldsK encQ 4 w g 0 l.toArray
  lt : g < w.heap.size
  r : Qs w ao l
theorem Bo.on {w w' : World} {s g : Nat} {x : Q} {ao : Option Addr} {l : List Q} (h : Bo w s g x ao l) (hb : RowKit.Below w.heap.size w w') : Bo w' s g x ao l :=
  ⟨h.b.on hb h.b.2.2, holds_on h.h h.lt hb, Nat.lt_of_lt_of_le h.lt hb.size, h.r.on hb (Nat.le_refl _)⟩
theorem Bo.s {w : World} {s g : Nat} {x : Q} {ao : Option Addr} {l : List Q} (h : Bo w s g x ao l) : Qs w (some ⟨g, 0, none⟩) l := qs_of_holds h.lt h.h
theorem Bo.all {w : World} {s g b o : Nat} {x : Q} {l : List Q} (h : Bo w s g x (some ⟨b, o, none⟩) l) (hx : ∃ r, l = x :: r) :
    (w.cell? ⟨s, 0, none⟩ = some (.int .u64 x.n) ∧ w.cell? ⟨s, 1, none⟩ = some (.int .u8 x.node) ∧ w.cell? ⟨s, 2, none⟩ = some (.int .u32 x.inc) ∧ w.cell? ⟨s, 3, none⟩ = some (.int .u32 x.seq)) ∧
    (w.cell? ⟨b, o, none⟩ = some (.int .u64 x.n) ∧ w.cell? ⟨b, o + 1, none⟩ = some (.int .u8 x.node) ∧ w.cell? ⟨b, o + 2, none⟩ = some (.int .u32 x.inc) ∧ w.cell? ⟨b, o + 3, none⟩ = some (.int .u32 x.seq)) := by
  obtain ⟨r, rfl⟩ := hx
  obtain ⟨b', off, h1, _, h2⟩ := h.r.at (k := 0) (by simp)
  cases h1
  exact ⟨h.b.1, h2⟩
/-- The numbers that stand in a row of stamps, whatever they are. -/
def Nums (w : World) (g n : Nat) : Prop := ∀ q, q < n → ∃ u : Int, w.cell? ⟨g, q * 4, none⟩ = some (.int .u64 u) ∧ w.frozen? ⟨g, q * 4, none⟩ = false
theorem nums_of {w : World} {g n : Nat} {l : List Q} (h : HoldsK encQ 4 w g 0 l.toArray) (hl : l.length = n) : Nums w g n := by
  subst hl
  intro q hq
  have hk : q * 4 < l.length * 4 := by omega
  obtain ⟨h1, h2⟩ := h (q * 4) (by rw [size_flatK]; simpa using hk)
  rw [Nat.zero_add] at h1 h2
  refine ⟨(l.getD q q0).n, ?_, h2⟩
  have h3 := flatB (l := l) hk
  have h4 := flat_get l q 0 hq (by decide)
  rw [Nat.add_zero] at h4
  rw [h4] at h3
  have h5 : (some (Value.int .u64 (l.getD q q0).n) : Option Value) = some (flatK encQ 4 l.toArray)[q * 4]! := h3
  rw [h5]; exact h1
theorem Nums.set {w : World} {g n j : Nat} (h : Nums w g n) (u : Int) : Nums (w.setCell ⟨g, j * 4, none⟩ (.int .u64 u)) g n := by
  intro q hq
  obtain ⟨v, h1, h2⟩ := h q hq
  by_cases e : q = j
  · subst e
    exact ⟨u, World.cell?_setCell_same _ _ _ h1, (World.frozen?_setCell _ _ _ _).trans h2⟩
  · exact ⟨v, set_by h1 (by omega), (World.frozen?_setCell _ _ _ _).trans h2⟩
theorem last_cell {w : World} {g : Nat} {l : List Q} {n : Nat} (h : Qs w (some ⟨g, 0, none⟩) (l ++ [q77])) (hl : l.length = n) : w.cell? ⟨g, n * 4, none⟩ = some (.int .u64 77) := by
  subst hl
  obtain ⟨b, off, h1, _, h2, _⟩ := h.at (k := l.length) (by simp)
  cases h1
  rw [Nat.zero_add] at h2
  rw [h2]
  simp [q77]
set_option maxRecDepth 100000 in
set_option maxHeartbeats 8000000 in
theorem orders_pos (hS : SortsQ) (ao : Option Addr) (n c : Nat) (la : List Q) (a b : Q) (w : World) (hnc : n ≤ c) (_hc : c ≤ maxLen) (hla : la.length = n) (ha : Qs w ao la)
    (hoA : decide (0 < min n 100) = true) :
    Calls Try.prog 4 #[.slice ao n c, .agg #[.int .u64 a.n, .int .u8 a.node, .int .u32 a.inc, .int .u32 a.seq], .agg #[.int .u64 b.n, .int .u8 b.node, .int .u32 b.inc, .int .u32 b.seq]] w fun e w' => e = .returned (.bool true) ∧ Below w.heap.size w w' := by
  unfold maxLen at _hc
  obtain ⟨n', hn'⟩ : ∃ n', n' = min n 100 := ⟨_, rfl⟩
  have en : (min (n : Int) 100).toNat = n' := by omega
  have q1 : (min (n : Int) 100) ≤ c := by omega
  have q3 : 0 ≤ (min (n : Int) 100) := by omega
  have la' : (la.take 100).length = n' := by rw [List.length_take]; omega
  have ra0 := ha.take 100
  clear ha hla
  generalize la.take 100 = A at *
  have hn6 : n' ≤ 100 := by omega
  have SA := Lib.hid (fun w h => stamps_any ao n' c A w (by omega) la' h)
  have EA := Lib.hid (fun g cap w h => eldest_q (some ⟨g, 0, none⟩) n' cap A w (by unfold maxLen; omega) la' h true (by rw [hn', hoA]))
  have SO := Lib.hid (fun g cap w h => sort_any hS g 0 n' cap A w (by omega) la' h)
  have LS : (srt A).length = n' := by rw [srt_length]; exact la'
  have BK := Lib.hid (fun g cap w h => back_q (some ⟨g, 0, none⟩) n' cap (srt A) w (by omega) LS h)
  have BA := Lib.hid (fun g cap w h => back_q (some ⟨g, 0, none⟩) n' cap A w (by omega) la' h)
  have RS := Lib.hid (fun w h => ref_sort ao n' c A w (by omega) la' h)
  have SM := Lib.hid (fun ao bo c d w h h' => same_true ao bo n' c d (srt A) w (by omega) LS h h')
  have SM2 := Lib.hid (fun ao bo c d w h h' => same_true ao bo n' c d A w (by omega) la' h h')
  have OR := Lib.hid (fun w => order4 a.n a.node a.inc a.seq b.n b.node b.inc b.seq w)
  have E1 := Lib.hid (fun w => elder4 a b w)
  have E2 := Lib.hid (fun w => elder4 b a w)
  have LA := Lib.hid la'
  have LSh := Lib.hid LS
  have NM := Lib.hid hn6
  have RA0 := Lib.hid ra0
  obtain ⟨K, hK⟩ : ∃ K, K = ordQ a b := ⟨_, rfl⟩
  have k1 : decide (K < 0) = ltQ a b := by rw [hK]; rfl
  have k2 : decide (0 < K) = ltQ b a := by rw [Bool.eq_iff_iff, decide_eq_true_iff, ltQ_iff, hK]; exact ordQ_pos a b
  have k3 : decide (K < -1) = false := decide_eq_false (by have := or4_range a b; omega)
  have k4 : decide (1 < K) = false := decide_eq_false (by have := or4_range a b; omega)
  have k5 := ordQ_zero a b
  rw [show or4 (c3 a.n b.n) (c3 a.node b.node) (c3 a.inc b.inc) (c3 a.seq b.seq) = K from hK.symm] at OR
  rw [← hK] at k5
  generalize ltQ a b = t1 at *
  generalize ltQ b a = t2 at *
  have K3 := Lib.hid k3
  have K5 := Lib.hid k5
  clear k5
  clear hK
  have hpos : 0 < n' := by rw [hn']; exact of_decide_eq_true hoA
  have hgt : decide ((0 : Int) < (n' : Int)) = true := by rw [decide_eq_true_iff]; omega
  have HD : Hid (∃ r, srt A = minQ A :: r) := Lib.hid (by
    cases hs : srt A with
    | nil => rw [hs] at LS; simp at LS; omega
    | cons a r => exact ⟨r, by rw [srt_head hs]⟩)
  clear hn' hoA la' ra0 LS hn6
  go_enter Try.func4, Try.ntmps4
  go_wp2_with fail
  have D := ((Below.refl w.heap.size w).alloc (Nat.le_refl _) (.cells #[.int .u64 a.n, .int .u8 a.node, .int .u32 a.inc, .int .u32 a.seq] 37)).alloc (by simp) (.cells #[.int .u64 b.n, .int .u8 b.node, .int .u32 b.inc, .int .u32 b.seq] 37)
  have P4 := (Box4.new w a 37).on ((Below.refl _ _).alloc (Nat.le_refl _) (.cells #[.int .u64 b.n, .int .u8 b.node, .int .u32 b.inc, .int .u32 b.seq] 37)) (by simp)
  have P5 := Box4.new (w.alloc (.cells #[.int .u64 a.n, .int .u8 a.node, .int .u32 a.inc, .int .u32 a.seq] 37)) b 37
  rw [World.size_alloc] at P5
  generalize ((w.alloc (.cells #[.int .u64 a.n, .int .u8 a.node, .int .u32 a.inc, .int .u32 a.seq] 37)).alloc (.cells #[.int .u64 b.n, .int .u8 b.node, .int .u32 b.inc, .int .u32 b.seq] 37)) = v0 at *
  refine (awake_any _).mono ?_
  rintro e w1 ⟨rfl, b1⟩
  have h1 := D.trans (b1.mono D.size)
  have Q4 := P4.on b1 P4.2.2
  have Q5 := P5.on b1 P5.2.2
  have RA := Lib.hid (RA0.out.on h1 (Nat.le_refl _))
  clear D P4 P5 b1 RA0
  have Q4' := Lib.hid Q4
  have Q5' := Lib.hid Q5
  obtain ⟨⟨p0, p1, p2, p3⟩, _, _⟩ := Q4
  obtain ⟨⟨r0, r1, r2, r3⟩, _, _⟩ := Q5
  go_wp2_with fail
  refine (OR.out _).mono ?_
  rintro e w2 ⟨rfl, hg⟩
  have bb : RowKit.Below w1.heap.size w1 w2 := below_grown (Below.refl _ _) (Nat.le_refl _) hg
  have h2 := h1.trans (bb.mono h1.size)
  have Q4 := Q4'.out.on bb Q4'.out.2.2
  have Q5 := Q5'.out.on bb Q5'.out.2.2
  have RB := Lib.hid (RA.out.on bb (Nat.le_refl _))
  clear p0 p1 p2 p3 r0 r1 r2 r3 Q4' Q5' hg bb RA h1
  have Q4' := Lib.hid Q4
  have Q5' := Lib.hid Q5
  obtain ⟨⟨p0, p1, p2, p3⟩, _, _⟩ := Q4
  obtain ⟨⟨r0, r1, r2, r3⟩, _, _⟩ := Q5
  go_upto_region 5 with fail
  go_cut [1, 2, 21, 22, 53] from 24 (fun _s1 _s2 _s21 _s22 s53 wx => s53 = .bool false ∧ RowKit.Below w2.heap.size w2 wx)
  case first =>
    as_aux_lemma =>
      rename_i _ hbig _ _ _ _
      clear hbig
      go_wp2_with fail
      refine (E1.out _).mono ?_
      rintro e w3 ⟨rfl, hg⟩
      have bb : RowKit.Below w2.heap.size w2 w3 := below_grown (Below.refl _ _) (Nat.le_refl _) hg
      have Q4 := Q4'.out.on bb Q4'.out.2.2
      have Q5 := Q5'.out.on bb Q5'.out.2.2
      clear p0 p1 p2 p3 r0 r1 r2 r3 Q4' Q5' hg RB
      have Q4' := Lib.hid Q4
      have Q5' := Lib.hid Q5
      obtain ⟨⟨p0, p1, p2, p3⟩, _, _⟩ := Q4
      obtain ⟨⟨r0, r1, r2, r3⟩, _, _⟩ := Q5
      go_wp2_with fail
      refine (E2.out _).mono ?_
      rintro e w4 ⟨rfl, hg⟩
      have bc : RowKit.Below w3.heap.size w3 w4 := below_grown (Below.refl _ _) (Nat.le_refl _) hg
      have b4 : RowKit.Below w2.heap.size w2 w4 := bb.trans (bc.mono bb.size)
      have Q4 := Q4'.out.on bc Q4'.out.2.2
      have Q5 := Q5'.out.on bc Q5'.out.2.2
      clear p0 p1 p2 p3 r0 r1 r2 r3 Q4' Q5' hg bb bc
      obtain ⟨⟨p0, p1, p2, p3⟩, _, _⟩ := Q4
      obtain ⟨⟨r0, r1, r2, r3⟩, _, _⟩ := Q5
      go_wp2_with fail
      all_goals
        go_meet
        refine ⟨congrArg Value.bool ?_, b4⟩
        have k := K5.out
        first
          | (rw [Bool.not_eq_false', beq_iff_eq]; omega)
          | (rw [beq_eq_false_iff_ne]; omega)
  case rest =>
    obtain ⟨rfl, bb⟩ := hcut
    have h1 := h2.trans (bb.mono h2.size)
    have RA := Lib.hid (RB.out.on bb (Nat.le_refl _))
    clear p0 p1 p2 p3 r0 r1 r2 r3 Q4' Q5' bb RB h2 OR E1 E2 k1 k2 k3 k4 K5 K3
    go_wp2_with fail
    refine (SA.out _ RA.out).mono ?_
    rintro e w5 ⟨g, k, rfl, ho, b⟩
    have h3 := h1.trans (b.mono h1.size)
    have hcap : n' + 1 ≤ k := own_cap (show w5.ownsRow wc.heap.size 39 4 (.slice (some ⟨g, 0, none⟩) (n' + 1) k) (A ++ [q77]).length (flat (A ++ [q77])) from ho)
    have M := Lib.hid ho.qs
    have I := Lib.hid (RA.out.on b (Nat.le_refl _))
    clear ho b h1 RA
    go_wp2_with fail
    refine (SO.out g k _ M.out.pre).mono ?_
    rintro e w6 ⟨g2, k2, rfl, hH, hg2, hg3, C1⟩
    have HH := Lib.hid hH
    clear hH
    go_wp2_with fail
    refine (EA.out g k _ (M.out.pre.on C1 (Nat.le_refl _))).mono ?_
    rintro e w7 ⟨rfl, b⟩
    have C2 := C1.trans (b.mono C1.size)
    have H2 := Lib.hid (holds_on HH.out hg3 b)
    have hg4 : g2 < w7.heap.size := Nat.lt_of_lt_of_le hg3 b.size
    have c2s := C2.size
    clear HH C1 b hg3
    generalize minQ A = x at *
    unfold aggQ at *
    go_wp2_with fail
    have bb := (Below.refl w7.heap.size w7).alloc (Nat.le_refl _) (.cells #[.int .u64 x.n, .int .u8 x.node, .int .u32 x.inc, .int .u32 x.seq] 39)
    have C3 := C2.trans (bb.mono C2.size)
    have H3 := Lib.hid (holds_on H2.out hg4 bb)
    have B10 := Box4.new w7 x 39
    have hg5 : g2 < (w7.alloc (.cells #[.int .u64 x.n, .int .u8 x.node, .int .u32 x.inc, .int .u32 x.seq] 39)).heap.size := Nat.lt_of_lt_of_le hg4 bb.size
    clear C2 H2 hg4 bb
    generalize (w7.alloc (.cells #[.int .u64 x.n, .int .u8 x.node, .int .u32 x.inc, .int .u32 x.seq] 39)) = v7 at *
    generalize w7.heap.size = s10 at *
    refine (RS.out _ (I.out.on C3 (Nat.le_refl _))).mono ?_
    rintro e w9 ⟨v, rfl, ho, b⟩
    have C4 := C3.trans (b.mono C3.size)
    have H4 := holds_on H3.out hg5 b
    have hg6 : g2 < w9.heap.size := Nat.lt_of_lt_of_le hg5 b.size
    obtain ⟨ao2, c2, rfl, hq⟩ := ho.rd
    rw [refSort_srt, LSh.out]
    rw [refSort_srt] at hq
    have BN : Bo w9 s10 g2 x ao2 (srt A) := ⟨B10.on b B10.2.2, H4, hg6, hq⟩
    clear C3 H3 H4 B10 hg5 hg6 ho hq b
    have M1 := Lib.hid (M.out.on C4 (Nat.le_refl _))
    have hc1 : ((n' : Int) + 1) ≤ (k : Int) := by omega
    have hc2 : (0 : Int) ≤ (n' : Int) + 1 := by omega
    have hc3 : ((n' : Int) + 1).toNat = n' + 1 := by omega
    have hc4 : n' < n' + 1 := by omega
    have hc5 : (n' : Int) < (n' : Int) + 1 := by omega
    have hc6 : (0 : Int) ≤ (n' : Int) := by omega
    have hw : IntKind.i64.wrap ((n' : Int) + 1) = (n' : Int) + 1 := by have := NM.out; simp [IntKind.wrap, IntKind.bits, IntKind.signed]; omega
    have hw1 : (0 : Int) ≤ IntKind.i64.wrap ((n' : Int) + 1) := by omega
    have hw2 : IntKind.i64.wrap ((n' : Int) + 1) ≤ (k : Int) := by omega
    have hw3 : (IntKind.i64.wrap ((n' : Int) + 1)).toNat = n' + 1 := by omega
    go_wp2_with fail
    obtain ⟨b2, o2, he2, _, _⟩ := BN.r.at (k := 0) (by have := LSh.out; omega)
    subst he2
    have b0 := BN.all HD.out
    have l0 := last_cell M1.out LA.out
    go_region_held3 (fun w' => (w'.cell? ⟨s10, 0, none⟩ = some (.int .u64 x.n) ∧ w'.cell? ⟨s10, 1, none⟩ = some (.int .u8 x.node) ∧ w'.cell? ⟨s10, 2, none⟩ = some (.int .u32 x.inc) ∧ w'.cell? ⟨s10, 3, none⟩ = some (.int .u32 x.seq)) ∧ (w'.cell? ⟨b2, o2, none⟩ = some (.int .u64 x.n) ∧ w'.cell? ⟨b2, o2 + 1, none⟩ = some (.int .u8 x.node) ∧ w'.cell? ⟨b2, o2 + 2, none⟩ = some (.int .u32 x.inc) ∧ w'.cell? ⟨b2, o2 + 3, none⟩ = some (.int .u32 x.seq)) ∧ w'.cell? ⟨g, n' * 4, none⟩ = some (.int .u64 77))
      (first | exact ⟨b0.1, b0.2, l0⟩ | exact ⟨b4.1, b4.2, l4⟩ | exact ⟨b3.1, b3.2, l3⟩ | exact ⟨b22.1, b22.2, l22⟩ | exact ⟨b1.1, b1.2, l1⟩)
      (first
        | (have hh := q6; clear hh; go_at_call 19; refine (SM2.out _ _ c6 c _ q6 (I.out.on C7 (Nat.le_refl _))).mono ?_; rintro e x4 ⟨rfl, hX4⟩; have BN4 := BN3.on hX4; have C8 := C7.trans (hX4.mono C7.size); have b4 := BN4.all HD.out; have l4 := last_cell (M.out.on C8 (Nat.le_refl _)) LA.out)
        | (have hh := C6; clear hh; go_at_call 20; refine (BA.out g k _ (M.out.pre.on C6 (Nat.le_refl _))).mono ?_; rintro e x3 ⟨ao6, c6, rfl, q6, hX3⟩; have BN3 := BN2.on hX3; have C7 := C6.trans (hX3.mono C6.size); have b3 := BN3.all HD.out; have l3 := last_cell (M.out.on C7 (Nat.le_refl _)) LA.out)
        | (have hh := q3; clear hh; go_at_call 19; refine (SM.out _ _ c3 c2 _ q3 BN1.r).mono ?_; rintro e x2 ⟨rfl, hX2⟩; have BN2 := BN1.on hX2; have C6 := C5.trans (hX2.mono C5.size); have b22 := BN2.all HD.out; have l22 := last_cell (M.out.on C6 (Nat.le_refl _)) LA.out)
        | (go_at_call 20; refine (BK.out g2 k2 _ (BN.on (Below.refl _ _).drew).s).mono ?_; rintro e x1 ⟨ao3, c3, rfl, q3, hX1⟩; have BN1 := (BN.on (Below.refl _ _).drew).on hX1; have C5 := C4.drew.trans (hX1.mono C4.size); have b1 := BN1.all HD.out; have l1 := last_cell (M.out.on C5 (Nat.le_refl _)) LA.out))
    have NU := nums_of BN4.h LSh.out
    have hg7 : w5.heap.size ≤ g2 := hg2
    clear b0 b1 b22 b3 b4 l0 l1 l22 l3 l4 hX1 hX2 hX3 hX4 C4 C5 C6 C7 BN BN1 BN2 BN3 BN4 q3 q6 M1 hg2 hc1 hc2 hc3 hc4 hc5 hc6 hw hw1 hw2 hw3
    go_wp2_with fail
    go_loopw [109] (fun i wr => ∃ j : Nat, j ≤ n' ∧ i = .int .i64 j ∧ Nums wr g2 n' ∧ RowKit.Below w5.heap.size w5 wr) (fun i _ => n' - (intOf i).toNat)
    case atStart => exact ⟨0, Nat.zero_le _, rfl, NU, C8⟩
    case round =>
      obtain ⟨j, hj, rfl, hN, hB⟩ := hrel
      by_cases hlt : j < n'
      · obtain ⟨u, hu, hf⟩ := hN j hlt
        have HN := Lib.hid hN
        clear hN NU C8
        go_wp2_with fail
        go_roundw
        case rel =>
          exact ⟨j + 1, by omega, by go_num, HN.out.set _, hB.setCell (p := ⟨g2, j * 4, none⟩) hg7 _⟩
        case measure => simp [intOf]; omega
      · obtain rfl : n' = j := by omega
        go_wp2_with fail
        refine (BA.out g k _ (M.out.pre.on hB (Nat.le_refl _))).mono ?_
        rintro e x5 ⟨ao7, c7, rfl, q7, b⟩
        have D1 := hB.trans (b.mono hB.size)
        go_wp2_with fail
        refine (SM2.out _ ao c7 c _ q7 (I.out.on D1 (Nat.le_refl _))).mono ?_
        rintro e x6 ⟨rfl, b⟩
        have D2 := D1.trans (b.mono D1.size)
        go_wp2_with fail
        go_ret
        exact ⟨rfl, h3.trans (D2.mono h3.size)⟩


set_option maxRecDepth 100000 in
set_option maxHeartbeats 8000000 in
theorem orders_zero (hS : SortsQ) (ao : Option Addr) (n c : Nat) (la : List Q) (a b : Q) (w : World) (hnc : n ≤ c) (_hc : c ≤ maxLen) (hla : la.length = n) (ha : Qs w ao la)
    (hoA : decide (0 < min n 100) = false) :
    Calls Try.prog 4 #[.slice ao n c, .agg #[.int .u64 a.n, .int .u8 a.node, .int .u32 a.inc, .int .u32 a.seq], .agg #[.int .u64 b.n, .int .u8 b.node, .int .u32 b.inc, .int .u32 b.seq]] w fun e w' => e = .returned (.bool true) ∧ Below w.heap.size w w' := by
  unfold maxLen at _hc
  obtain ⟨n', hn'⟩ : ∃ n', n' = min n 100 := ⟨_, rfl⟩
  have en : (min (n : Int) 100).toNat = n' := by omega
  have q1 : (min (n : Int) 100) ≤ c := by omega
  have q3 : 0 ≤ (min (n : Int) 100) := by omega
  have la' : (la.take 100).length = n' := by rw [List.length_take]; omega
  have ra0 := ha.take 100
  clear ha hla
  generalize la.take 100 = A at *
  have hn6 : n' ≤ 100 := by omega
  have SA := Lib.hid (fun w h => stamps_any ao n' c A w (by omega) la' h)
  have EA := Lib.hid (fun g cap w h => eldest_q (some ⟨g, 0, none⟩) n' cap A w (by unfold maxLen; omega) la' h false (by rw [hn', hoA]))
  have SO := Lib.hid (fun g cap w h => sort_any hS g 0 n' cap A w (by omega) la' h)
  have LS : (srt A).length = n' := by rw [srt_length]; exact la'
  have BK := Lib.hid (fun g cap w h => back_q (some ⟨g, 0, none⟩) n' cap (srt A) w (by omega) LS h)
  have BA := Lib.hid (fun g cap w h => back_q (some ⟨g, 0, none⟩) n' cap A w (by omega) la' h)
  have RS := Lib.hid (fun w h => ref_sort ao n' c A w (by omega) la' h)
  have SM := Lib.hid (fun ao bo c d w h h' => same_true ao bo n' c d (srt A) w (by omega) LS h h')
  have SM2 := Lib.hid (fun ao bo c d w h h' => same_true ao bo n' c d A w (by omega) la' h h')
  have OR := Lib.hid (fun w => order4 a.n a.node a.inc a.seq b.n b.node b.inc b.seq w)
  have E1 := Lib.hid (fun w => elder4 a b w)
  have E2 := Lib.hid (fun w => elder4 b a w)
  have LA := Lib.hid la'
  have LSh := Lib.hid LS
  have NM := Lib.hid hn6
  have RA0 := Lib.hid ra0
  obtain ⟨K, hK⟩ : ∃ K, K = ordQ a b := ⟨_, rfl⟩
  have k1 : decide (K < 0) = ltQ a b := by rw [hK]; rfl
  have k2 : decide (0 < K) = ltQ b a := by rw [Bool.eq_iff_iff, decide_eq_true_iff, ltQ_iff, hK]; exact ordQ_pos a b
  have k3 : decide (K < -1) = false := decide_eq_false (by have := or4_range a b; omega)
  have k4 : decide (1 < K) = false := decide_eq_false (by have := or4_range a b; omega)
  have k5 := ordQ_zero a b
  rw [show or4 (c3 a.n b.n) (c3 a.node b.node) (c3 a.inc b.inc) (c3 a.seq b.seq) = K from hK.symm] at OR
  rw [← hK] at k5
  generalize ltQ a b = t1 at *
  generalize ltQ b a = t2 at *
  have K3 := Lib.hid k3
  have K5 := Lib.hid k5
  clear k5
  clear hK
  have hnil : n' = 0 := by rw [hn']; have := of_decide_eq_false hoA; omega
  subst hnil
  clear hn'
  clear hoA la' ra0 LS hn6
  go_enter Try.func4, Try.ntmps4
  go_wp2_with fail
  have D := ((Below.refl w.heap.size w).alloc (Nat.le_refl _) (.cells #[.int .u64 a.n, .int .u8 a.node, .int .u32 a.inc, .int .u32 a.seq] 37)).alloc (by simp) (.cells #[.int .u64 b.n, .int .u8 b.node, .int .u32 b.inc, .int .u32 b.seq] 37)
  have P4 := (Box4.new w a 37).on ((Below.refl _ _).alloc (Nat.le_refl _) (.cells #[.int .u64 b.n, .int .u8 b.node, .int .u32 b.inc, .int .u32 b.seq] 37)) (by simp)
  have P5 := Box4.new (w.alloc (.cells #[.int .u64 a.n, .int .u8 a.node, .int .u32 a.inc, .int .u32 a.seq] 37)) b 37
  rw [World.size_alloc] at P5
  generalize ((w.alloc (.cells #[.int .u64 a.n, .int .u8 a.node, .int .u32 a.inc, .int .u32 a.seq] 37)).alloc (.cells #[.int .u64 b.n, .int .u8 b.node, .int .u32 b.inc, .int .u32 b.seq] 37)) = v0 at *
  refine (awake_any _).mono ?_
  rintro e w1 ⟨rfl, b1⟩
  have h1 := D.trans (b1.mono D.size)
  have Q4 := P4.on b1 P4.2.2
  have Q5 := P5.on b1 P5.2.2
  have RA := Lib.hid (RA0.out.on h1 (Nat.le_refl _))
  clear D P4 P5 b1 RA0
  have Q4' := Lib.hid Q4
  have Q5' := Lib.hid Q5
  obtain ⟨⟨p0, p1, p2, p3⟩, _, _⟩ := Q4
  obtain ⟨⟨r0, r1, r2, r3⟩, _, _⟩ := Q5
  go_wp2_with fail
  refine (OR.out _).mono ?_
  rintro e w2 ⟨rfl, hg⟩
  have bb : RowKit.Below w1.heap.size w1 w2 := below_grown (Below.refl _ _) (Nat.le_refl _) hg
  have h2 := h1.trans (bb.mono h1.size)
  have Q4 := Q4'.out.on bb Q4'.out.2.2
  have Q5 := Q5'.out.on bb Q5'.out.2.2
  have RB := Lib.hid (RA.out.on bb (Nat.le_refl _))
  clear p0 p1 p2 p3 r0 r1 r2 r3 Q4' Q5' hg bb RA h1
  have Q4' := Lib.hid Q4
  have Q5' := Lib.hid Q5
  obtain ⟨⟨p0, p1, p2, p3⟩, _, _⟩ := Q4
  obtain ⟨⟨r0, r1, r2, r3⟩, _, _⟩ := Q5
  go_upto_region 5 with fail
  go_cut [1, 2, 21, 22, 53] from 24 (fun _s1 _s2 _s21 _s22 s53 wx => s53 = .bool false ∧ RowKit.Below w2.heap.size w2 wx)
  case first =>
    as_aux_lemma =>
      rename_i _ hbig _ _ _ _
      clear hbig
      go_wp2_with fail
      refine (E1.out _).mono ?_
      rintro e w3 ⟨rfl, hg⟩
      have bb : RowKit.Below w2.heap.size w2 w3 := below_grown (Below.refl _ _) (Nat.le_refl _) hg
      have Q4 := Q4'.out.on bb Q4'.out.2.2
      have Q5 := Q5'.out.on bb Q5'.out.2.2
      clear p0 p1 p2 p3 r0 r1 r2 r3 Q4' Q5' hg RB
      have Q4' := Lib.hid Q4
      have Q5' := Lib.hid Q5
      obtain ⟨⟨p0, p1, p2, p3⟩, _, _⟩ := Q4
      obtain ⟨⟨r0, r1, r2, r3⟩, _, _⟩ := Q5
      go_wp2_with fail
      refine (E2.out _).mono ?_
      rintro e w4 ⟨rfl, hg⟩
      have bc : RowKit.Below w3.heap.size w3 w4 := below_grown (Below.refl _ _) (Nat.le_refl _) hg
      have b4 : RowKit.Below w2.heap.size w2 w4 := bb.trans (bc.mono bb.size)
      have Q4 := Q4'.out.on bc Q4'.out.2.2
      have Q5 := Q5'.out.on bc Q5'.out.2.2
      clear p0 p1 p2 p3 r0 r1 r2 r3 Q4' Q5' hg bb bc
      obtain ⟨⟨p0, p1, p2, p3⟩, _, _⟩ := Q4
      obtain ⟨⟨r0, r1, r2, r3⟩, _, _⟩ := Q5
      go_wp2_with fail
      all_goals
        go_meet
        refine ⟨congrArg Value.bool ?_, b4⟩
        have k := K5.out
        first
          | (rw [Bool.not_eq_false', beq_iff_eq]; omega)
          | (rw [beq_eq_false_iff_ne]; omega)
  case rest =>
    obtain ⟨rfl, bb⟩ := hcut
    have h1 := h2.trans (bb.mono h2.size)
    have RA := Lib.hid (RB.out.on bb (Nat.le_refl _))
    clear p0 p1 p2 p3 r0 r1 r2 r3 Q4' Q5' bb RB h2 OR E1 E2 k1 k2 k3 k4 K5 K3
    go_wp2_with fail
    refine (SA.out _ RA.out).mono ?_
    rintro e w5 ⟨g, k, rfl, ho, b⟩
    have h3 := h1.trans (b.mono h1.size)
    have hcap : 0 + 1 ≤ k := own_cap (show w5.ownsRow wc.heap.size 39 4 (.slice (some ⟨g, 0, none⟩) (0 + 1) k) (A ++ [q77]).length (flat (A ++ [q77])) from ho)
    have M := Lib.hid ho.qs
    have I := Lib.hid (RA.out.on b (Nat.le_refl _))
    clear ho b h1 RA
    go_wp2_with fail
    refine (SO.out g k _ M.out.pre).mono ?_
    rintro e w6 ⟨g2, k2, rfl, hH, hg2, hg3, C1⟩
    have HH := Lib.hid hH
    clear hH
    go_wp2_with fail
    refine (EA.out g k _ (M.out.pre.on C1 (Nat.le_refl _))).mono ?_
    rintro e w7 ⟨rfl, b⟩
    have C2 := C1.trans (b.mono C1.size)
    have H2 := Lib.hid (holds_on HH.out hg3 b)
    have hg4 : g2 < w7.heap.size := Nat.lt_of_lt_of_le hg3 b.size
    have c2s := C2.size
    clear HH C1 b hg3
    generalize minQ A = x at *
    unfold aggQ at *
    go_wp2_with fail
    have bb := (Below.refl w7.heap.size w7).alloc (Nat.le_refl _) (.cells #[.int .u64 x.n, .int .u8 x.node, .int .u32 x.inc, .int .u32 x.seq] 39)
    have C3 := C2.trans (bb.mono C2.size)
    have H3 := Lib.hid (holds_on H2.out hg4 bb)
    have B10 := Box4.new w7 x 39
    have hg5 : g2 < (w7.alloc (.cells #[.int .u64 x.n, .int .u8 x.node, .int .u32 x.inc, .int .u32 x.seq] 39)).heap.size := Nat.lt_of_lt_of_le hg4 bb.size
    clear C2 H2 hg4 bb
    generalize (w7.alloc (.cells #[.int .u64 x.n, .int .u8 x.node, .int .u32 x.inc, .int .u32 x.seq] 39)) = v7 at *
    generalize w7.heap.size = s10 at *
    refine (RS.out _ (I.out.on C3 (Nat.le_refl _))).mono ?_
    rintro e w9 ⟨v, rfl, ho, b⟩
    have C4 := C3.trans (b.mono C3.size)
    have H4 := holds_on H3.out hg5 b
    have hg6 : g2 < w9.heap.size := Nat.lt_of_lt_of_le hg5 b.size
    obtain ⟨ao2, c2, rfl, hq⟩ := ho.rd
    rw [refSort_srt, LSh.out]
    rw [refSort_srt] at hq
    have BN : Bo w9 s10 g2 x ao2 (srt A) := ⟨B10.on b B10.2.2, H4, hg6, hq⟩
    clear C3 H3 H4 B10 hg5 hg6 ho hq b
    have M1 := Lib.hid (M.out.on C4 (Nat.le_refl _))
    have hc1 : ((0 : Int) + 1) ≤ (k : Int) := by omega
    have hc2 : (0 : Int) ≤ (0 : Int) + 1 := by omega
    have hc3 : ((0 : Int) + 1).toNat = 0 + 1 := by omega
    have hc4 : 0 < 0 + 1 := by omega
    have hc5 : (0 : Int) < (0 : Int) + 1 := by omega
    have hc6 : (0 : Int) ≤ (0 : Int) := by omega
    have hk1 : (1 : Int) ≤ (k : Int) := by omega
    have hk2 : 1 ≤ k := by omega
    have hw : IntKind.i64.wrap 1 = 1 := by decide
    have hw1 : (0 : Int) ≤ IntKind.i64.wrap 1 := by omega
    have hw2 : IntKind.i64.wrap 1 ≤ (k : Int) := by omega
    have hw3 : (IntKind.i64.wrap 1).toNat = 1 := by omega
    go_wp2_with fail
    have l0 : w9.cell? ⟨g, 0, none⟩ = some (.int .u64 77) := last_cell M1.out LA.out
    refine wp_region_held_drew (S := (fun w' => w'.cell? ⟨g, 0, none⟩ = some (.int .u64 77))) (by kernel_rfl) l0 (fun hHeld => ?_)
    refine wpAnyH_take (i := 0) (oi := { dst := some 65, op := Op.move (Operand.tmp 9), type := 41, pos := "law.go:86", after := #[], guard := none }) (v := ?_) rfl (by kernel_rfl) (by kernel_rfl) (by kernel_rfl) (fun _ _ _ h => h) (Or.inl ⟨by rfl, ?_⟩) (by assumption) ?_
    rotate_left
    focus (intro w' hSw; (try dsimp only at hSw); go_simp; try with_reducible rfl)
    try simp only [Act.put, List.setIfInBounds_toArray, List.set_cons_zero, List.set_cons_succ]
    refine wpAnyH_take (i := 2) (oi := { dst := some 67, op := Op.move (Operand.tmp 12), type := 32, pos := "law.go:86", after := #[], guard := none }) (v := ?_) rfl (by kernel_rfl) (by kernel_rfl) (by kernel_rfl) (fun _ _ _ h => h) (Or.inl ⟨by rfl, ?_⟩) (by assumption) ?_
    rotate_left
    focus (intro w' hSw; (try dsimp only at hSw); go_simp; try with_reducible rfl)
    try simp only [Act.put, List.setIfInBounds_toArray, List.set_cons_zero, List.set_cons_succ]
    refine wpAnyH_ready (rs := [1]) (by kernel_rfl) (by simp) ?_
    refine AllReadyH.cons (o := { dst := some 66, op := Op.call { callee := Callee.value (Operand.func 20), args := #[Operand.tmp 65], argTypes := #[41] }, type := 32, pos := "law.go:86", after := #[{ on := 0, ground := Ground.data }], guard := none }) rfl (fun K hK => ?_) AllReadyH.nil
    go_simp
    go_at_call 20; refine (BK.out g2 k2 _ (BN.on (Below.refl _ _).drew).s).mono ?_; rintro e x1 ⟨ao3, c3, rfl, q3, hX1⟩; have BN1 := (BN.on (Below.refl _ _).drew).on hX1; have C5 := C4.drew.trans (hX1.mono C4.size); have l1 : x1.cell? ⟨g, 0, none⟩ = some (.int .u64 77) := last_cell (M.out.on C5 (Nat.le_refl _)) LA.out
    refine hK.out _ _ l1 (fun hHeld => ?_)
    clear hK K
    try simp only [Act.put, List.setIfInBounds_toArray, List.set_cons_zero, List.set_cons_succ]
    refine wpAnyH_ready (rs := [3]) (by kernel_rfl) (by simp) ?_
    refine AllReadyH.cons (o := { dst := some 68, op := Op.call { callee := Callee.value (Operand.func 19), args := #[Operand.tmp 66, Operand.tmp 67], argTypes := #[32, 32] }, type := 4, pos := "law.go:86", after := #[{ on := 1, ground := Ground.data }, { on := 2, ground := Ground.data }, { on := 1, ground := Ground.chain }], guard := none }) rfl (fun K hK => ?_) AllReadyH.nil
    go_simp
    go_at_call 19; refine (SM.out _ _ c3 c2 _ q3 BN1.r).mono ?_; rintro e x2 ⟨rfl, hX2⟩; have BN2 := BN1.on hX2; have C6 := C5.trans (hX2.mono C5.size); have l22 : x2.cell? ⟨g, 0, none⟩ = some (.int .u64 77) := last_cell (M.out.on C6 (Nat.le_refl _)) LA.out
    refine hK.out _ _ l22 (fun hHeld => ?_)
    clear hK K
    try simp only [Act.put, List.setIfInBounds_toArray, List.set_cons_zero, List.set_cons_succ]
    refine wpAnyH_take (i := 4) (oi := { dst := some 69, op := Op.unOp UnOp.not 4 (Operand.tmp 68), type := 4, pos := "law.go:86", after := #[{ on := 3, ground := Ground.data }], guard := none }) (v := ?_) rfl (by kernel_rfl) (by kernel_rfl) (by kernel_rfl) (fun _ _ _ h => h) (Or.inl ⟨by rfl, ?_⟩) (by assumption) ?_
    rotate_left
    focus (intro w' hSw; (try dsimp only at hSw); go_simp; try with_reducible rfl)
    try simp only [Act.put, List.setIfInBounds_toArray, List.set_cons_zero, List.set_cons_succ]
    refine wpAnyH_take (i := 5) (oi := { dst := some 70, op := Op.move (Operand.tmp 69), type := 4, pos := "law.go:86", after := #[{ on := 4, ground := Ground.data }, { on := 3, ground := Ground.chain }], guard := none }) (v := ?_) rfl (by kernel_rfl) (by kernel_rfl) (by kernel_rfl) (fun _ _ _ h => h) (Or.inl ⟨by rfl, ?_⟩) (by assumption) ?_
    rotate_left
    focus (intro w' hSw; (try dsimp only at hSw); go_simp; try with_reducible rfl)
    try simp only [Act.put, List.setIfInBounds_toArray, List.set_cons_zero, List.set_cons_succ]
    refine wpAnyH_take (i := 6) (oi := { dst := some 71, op := Op.move (Operand.tmp 11), type := 4, pos := "law.go:86", after := #[{ on := 5, ground := Ground.guard }], guard := some (5, false) }) (v := ?_) rfl (by kernel_rfl) (by kernel_rfl) (by kernel_rfl) (fun _ _ _ h => h) (Or.inl ⟨by rfl, ?_⟩) (by assumption) ?_
    rotate_left
    focus (intro w' hSw; (try dsimp only at hSw); go_simp; try with_reducible rfl)
    try simp only [Act.put, List.setIfInBounds_toArray, List.set_cons_zero, List.set_cons_succ]
    refine wpAnyH_take (i := 7) (oi := { dst := some 72, op := Op.move (Operand.tmp 0), type := 32, pos := "law.go:86", after := #[{ on := 5, ground := Ground.guard }], guard := some (5, false) }) (v := ?_) rfl (by kernel_rfl) (by kernel_rfl) (by kernel_rfl) (fun _ _ _ h => h) (Or.inl ⟨by rfl, ?_⟩) (by assumption) ?_
    rotate_left
    focus (intro w' hSw; (try dsimp only at hSw); go_simp; try with_reducible rfl)
    try simp only [Act.put, List.setIfInBounds_toArray, List.set_cons_zero, List.set_cons_succ]
    refine wpAnyH_take (i := 8) (oi := { dst := some 73, op := Op.call { callee := Callee.builtin Builtin.len, args := #[Operand.tmp 72], argTypes := #[32] }, type := 3, pos := "law.go:86", after := #[{ on := 7, ground := Ground.data }, { on := 5, ground := Ground.guard }], guard := some (5, false) }) (v := ?_) rfl (by kernel_rfl) (by kernel_rfl) (by kernel_rfl) (fun _ _ _ h => h) (Or.inl ⟨by rfl, ?_⟩) (by assumption) ?_
    rotate_left
    focus (intro w' hSw; (try dsimp only at hSw); go_simp; try with_reducible rfl)
    try simp only [Act.put, List.setIfInBounds_toArray, List.set_cons_zero, List.set_cons_succ]
    refine wpAnyH_take (i := 9) (oi := { dst := some 74, op := Op.binOp BinOp.gtr 3 (Operand.tmp 73) (Operand.const (Value.int IntKind.i64 0)) 3, type := 4, pos := "law.go:86", after := #[{ on := 8, ground := Ground.data }, { on := 5, ground := Ground.guard }], guard := some (5, false) }) (v := ?_) rfl (by kernel_rfl) (by kernel_rfl) (by kernel_rfl) (fun _ _ _ h => h) (Or.inl ⟨by rfl, ?_⟩) (by assumption) ?_
    rotate_left
    focus (intro w' hSw; (try dsimp only at hSw); go_simp; try with_reducible rfl)
    try simp only [Act.put, List.setIfInBounds_toArray, List.set_cons_zero, List.set_cons_succ]
    refine wpAnyH_take (i := 10) (oi := { dst := some 75, op := Op.binOp BinOp.neq 4 (Operand.tmp 71) (Operand.tmp 74) 4, type := 4, pos := "law.go:86", after := #[{ on := 6, ground := Ground.data }, { on := 9, ground := Ground.data }, { on := 5, ground := Ground.guard }], guard := some (5, false) }) (v := ?_) rfl (by kernel_rfl) (by kernel_rfl) (by kernel_rfl) (fun _ _ _ h => h) (Or.inl ⟨by rfl, ?_⟩) (by assumption) ?_
    rotate_left
    focus (intro w' hSw; (try dsimp only at hSw); go_simp; try with_reducible rfl)
    try simp only [Act.put, List.setIfInBounds_toArray, List.set_cons_zero, List.set_cons_succ]
    refine wpAnyH_take (i := 11) (oi := { dst := some 76, op := Op.pick (Operand.tmp 70) (Operand.const (Value.bool true)) (Operand.tmp 75), type := 4, pos := "law.go:86", after := #[{ on := 5, ground := Ground.data }, { on := 10, ground := Ground.data }], guard := none }) (v := ?_) rfl (by kernel_rfl) (by kernel_rfl) (by kernel_rfl) (fun _ _ _ h => h) (Or.inl ⟨by rfl, ?_⟩) (by assumption) ?_
    rotate_left
    focus (intro w' hSw; (try dsimp only at hSw); go_simp; try with_reducible rfl)
    try simp only [Act.put, List.setIfInBounds_toArray, List.set_cons_zero, List.set_cons_succ]
    refine wpAnyH_take (i := 12) (oi := { dst := some 77, op := Op.move (Operand.tmp 76), type := 4, pos := "law.go:86", after := #[{ on := 11, ground := Ground.data }, { on := 5, ground := Ground.chain }], guard := none }) (v := ?_) rfl (by kernel_rfl) (by kernel_rfl) (by kernel_rfl) (fun _ _ _ h => h) (Or.inl ⟨by rfl, ?_⟩) (by assumption) ?_
    rotate_left
    focus (intro w' hSw; (try dsimp only at hSw); go_simp; try with_reducible rfl)
    try simp only [Act.put, List.setIfInBounds_toArray, List.set_cons_zero, List.set_cons_succ]
    refine wpAnyH_take (i := 13) (oi := { dst := some 78, op := Op.move (Operand.tmp 11), type := 4, pos := "law.go:86", after := #[{ on := 12, ground := Ground.guard }], guard := some (12, false) }) (v := ?_) rfl (by kernel_rfl) (by kernel_rfl) (by kernel_rfl) (fun _ _ _ h => h) (Or.inl ⟨by rfl, ?_⟩) (by assumption) ?_
    rotate_left
    focus (intro w' hSw; (try dsimp only at hSw); go_simp; try with_reducible rfl)
    try simp only [Act.put, List.setIfInBounds_toArray, List.set_cons_zero, List.set_cons_succ]
    refine wpAnyH_take (i := 14) (oi := { dst := some 79, op := Op.move (Operand.tmp 78), type := 4, pos := "law.go:86", after := #[{ on := 13, ground := Ground.data }, { on := 12, ground := Ground.chain }, { on := 12, ground := Ground.guard }], guard := some (12, false) }) (v := ?_) rfl (by kernel_rfl) (by kernel_rfl) (by kernel_rfl) (fun _ _ _ h => h) (Or.inl ⟨by rfl, ?_⟩) (by assumption) ?_
    rotate_left
    focus (intro w' hSw; (try dsimp only at hSw); go_simp; try with_reducible rfl)
    try simp only [Act.put, List.setIfInBounds_toArray, List.set_cons_zero, List.set_cons_succ]
    refine wpAnyH_take (i := 15) (oi := { dst := some 80, op := Op.load 39 (Operand.tmp 10), type := 39, pos := "law.go:86", after := #[{ on := 14, ground := Ground.guard }], guard := some (14, true) }) (v := undef) rfl (by kernel_rfl) (by kernel_rfl) (by kernel_rfl) (fun _ _ _ h => h) (Or.inr ⟨by rfl, rfl⟩) (by assumption) ?_
    try simp only [Act.put, List.setIfInBounds_toArray, List.set_cons_zero, List.set_cons_succ]
    refine wpAnyH_take (i := 16) (oi := { dst := some 81, op := Op.move (Operand.tmp 12), type := 32, pos := "law.go:86", after := #[{ on := 14, ground := Ground.guard }], guard := some (14, true) }) (v := undef) rfl (by kernel_rfl) (by kernel_rfl) (by kernel_rfl) (fun _ _ _ h => h) (Or.inr ⟨by rfl, rfl⟩) (by assumption) ?_
    try simp only [Act.put, List.setIfInBounds_toArray, List.set_cons_zero, List.set_cons_succ]
    refine wpAnyH_take (i := 17) (oi := { dst := some 82, op := Op.indexAddr 32 (Operand.tmp 81) (Operand.const (Value.int IntKind.i64 0)), type := 0, pos := "law.go:86", after := #[{ on := 16, ground := Ground.data }, { on := 14, ground := Ground.guard }], guard := some (14, true) }) (v := undef) rfl (by kernel_rfl) (by kernel_rfl) (by kernel_rfl) (fun _ _ _ h => h) (Or.inr ⟨by rfl, rfl⟩) (by assumption) ?_
    try simp only [Act.put, List.setIfInBounds_toArray, List.set_cons_zero, List.set_cons_succ]
    refine wpAnyH_take (i := 18) (oi := { dst := some 83, op := Op.load 37 (Operand.tmp 82), type := 37, pos := "law.go:86", after := #[{ on := 17, ground := Ground.data }, { on := 14, ground := Ground.guard }], guard := some (14, true) }) (v := undef) rfl (by kernel_rfl) (by kernel_rfl) (by kernel_rfl) (fun _ _ _ h => h) (Or.inr ⟨by rfl, rfl⟩) (by assumption) ?_
    try simp only [Act.put, List.setIfInBounds_toArray, List.set_cons_zero, List.set_cons_succ]
    refine wpAnyH_take (i := 19) (oi := { dst := some 84, op := Op.binOp BinOp.neq 37 (Operand.tmp 80) (Operand.tmp 83) 37, type := 4, pos := "law.go:86", after := #[{ on := 15, ground := Ground.data }, { on := 18, ground := Ground.data }, { on := 14, ground := Ground.guard }], guard := some (14, true) }) (v := undef) rfl (by kernel_rfl) (by kernel_rfl) (by kernel_rfl) (fun _ _ _ h => h) (Or.inr ⟨by rfl, rfl⟩) (by assumption) ?_
    try simp only [Act.put, List.setIfInBounds_toArray, List.set_cons_zero, List.set_cons_succ]
    refine wpAnyH_take (i := 20) (oi := { dst := some 85, op := Op.pick (Operand.tmp 79) (Operand.tmp 84) (Operand.const (Value.bool false)), type := 4, pos := "law.go:86", after := #[{ on := 14, ground := Ground.data }, { on := 19, ground := Ground.data }, { on := 12, ground := Ground.guard }], guard := some (12, false) }) (v := ?_) rfl (by kernel_rfl) (by kernel_rfl) (by kernel_rfl) (fun _ _ _ h => h) (Or.inl ⟨by rfl, ?_⟩) (by assumption) ?_
    rotate_left
    focus (intro w' hSw; (try dsimp only at hSw); go_simp; try with_reducible rfl)
    try simp only [Act.put, List.setIfInBounds_toArray, List.set_cons_zero, List.set_cons_succ]
    refine wpAnyH_take (i := 21) (oi := { dst := some 86, op := Op.pick (Operand.tmp 77) (Operand.const (Value.bool true)) (Operand.tmp 85), type := 4, pos := "law.go:86", after := #[{ on := 12, ground := Ground.data }, { on := 20, ground := Ground.data }], guard := none }) (v := ?_) rfl (by kernel_rfl) (by kernel_rfl) (by kernel_rfl) (fun _ _ _ h => h) (Or.inl ⟨by rfl, ?_⟩) (by assumption) ?_
    rotate_left
    focus (intro w' hSw; (try dsimp only at hSw); go_simp; try with_reducible rfl)
    try simp only [Act.put, List.setIfInBounds_toArray, List.set_cons_zero, List.set_cons_succ]
    refine wpAnyH_take (i := 22) (oi := { dst := some 87, op := Op.move (Operand.tmp 86), type := 4, pos := "law.go:86", after := #[{ on := 21, ground := Ground.data }, { on := 14, ground := Ground.chain }], guard := none }) (v := ?_) rfl (by kernel_rfl) (by kernel_rfl) (by kernel_rfl) (fun _ _ _ h => h) (Or.inl ⟨by rfl, ?_⟩) (by assumption) ?_
    rotate_left
    focus (intro w' hSw; (try dsimp only at hSw); go_simp; try with_reducible rfl)
    try simp only [Act.put, List.setIfInBounds_toArray, List.set_cons_zero, List.set_cons_succ]
    refine wpAnyH_take (i := 23) (oi := { dst := some 88, op := Op.move (Operand.tmp 8), type := 41, pos := "law.go:86", after := #[{ on := 22, ground := Ground.guard }], guard := some (22, false) }) (v := ?_) rfl (by kernel_rfl) (by kernel_rfl) (by kernel_rfl) (fun _ _ _ h => h) (Or.inl ⟨by rfl, ?_⟩) (by assumption) ?_
    rotate_left
    focus (intro w' hSw; (try dsimp only at hSw); go_simp; try with_reducible rfl)
    try simp only [Act.put, List.setIfInBounds_toArray, List.set_cons_zero, List.set_cons_succ]
    refine wpAnyH_take (i := 25) (oi := { dst := some 90, op := Op.move (Operand.tmp 0), type := 32, pos := "law.go:86", after := #[{ on := 22, ground := Ground.guard }], guard := some (22, false) }) (v := ?_) rfl (by kernel_rfl) (by kernel_rfl) (by kernel_rfl) (fun _ _ _ h => h) (Or.inl ⟨by rfl, ?_⟩) (by assumption) ?_
    rotate_left
    focus (intro w' hSw; (try dsimp only at hSw); go_simp; try with_reducible rfl)
    try simp only [Act.put, List.setIfInBounds_toArray, List.set_cons_zero, List.set_cons_succ]
    refine wpAnyH_ready (rs := [24]) (by kernel_rfl) (by simp) ?_
    refine AllReadyH.cons (o := { dst := some 89, op := Op.call { callee := Callee.value (Operand.func 20), args := #[Operand.tmp 88], argTypes := #[41] }, type := 32, pos := "law.go:86", after := #[{ on := 23, ground := Ground.data }, { on := 22, ground := Ground.chain }, { on := 22, ground := Ground.guard }], guard := some (22, false) }) rfl (fun K hK => ?_) AllReadyH.nil
    go_simp
    go_at_call 20; refine (BA.out g k _ (M.out.pre.on C6 (Nat.le_refl _))).mono ?_; rintro e x3 ⟨ao6, c6, rfl, q6, hX3⟩; have BN3 := BN2.on hX3; have C7 := C6.trans (hX3.mono C6.size); have l3 : x3.cell? ⟨g, 0, none⟩ = some (.int .u64 77) := last_cell (M.out.on C7 (Nat.le_refl _)) LA.out
    refine hK.out _ _ l3 (fun hHeld => ?_)
    clear hK K
    try simp only [Act.put, List.setIfInBounds_toArray, List.set_cons_zero, List.set_cons_succ]
    refine wpAnyH_ready (rs := [26]) (by kernel_rfl) (by simp) ?_
    refine AllReadyH.cons (o := { dst := some 91, op := Op.call { callee := Callee.value (Operand.func 19), args := #[Operand.tmp 89, Operand.tmp 90], argTypes := #[32, 32] }, type := 4, pos := "law.go:86", after := #[{ on := 24, ground := Ground.data }, { on := 25, ground := Ground.data }, { on := 24, ground := Ground.chain }, { on := 22, ground := Ground.guard }], guard := some (22, false) }) rfl (fun K hK => ?_) AllReadyH.nil
    go_simp
    go_at_call 19; refine (SM2.out _ ao c6 c _ q6 (I.out.on C7 (Nat.le_refl _))).mono ?_; rintro e x4 ⟨rfl, hX4⟩; have BN4 := BN3.on hX4; have C8 := C7.trans (hX4.mono C7.size); have l4 : x4.cell? ⟨g, 0, none⟩ = some (.int .u64 77) := last_cell (M.out.on C8 (Nat.le_refl _)) LA.out
    refine hK.out _ _ l4 (fun hHeld => ?_)
    clear hK K
    try simp only [Act.put, List.setIfInBounds_toArray, List.set_cons_zero, List.set_cons_succ]
    refine wpAnyH_take (i := 27) (oi := { dst := some 92, op := Op.unOp UnOp.not 4 (Operand.tmp 91), type := 4, pos := "law.go:86", after := #[{ on := 26, ground := Ground.data }, { on := 22, ground := Ground.guard }], guard := some (22, false) }) (v := ?_) rfl (by kernel_rfl) (by kernel_rfl) (by kernel_rfl) (fun _ _ _ h => h) (Or.inl ⟨by rfl, ?_⟩) (by assumption) ?_
    rotate_left
    focus (intro w' hSw; (try dsimp only at hSw); go_simp; try with_reducible rfl)
    try simp only [Act.put, List.setIfInBounds_toArray, List.set_cons_zero, List.set_cons_succ]
    refine wpAnyH_take (i := 28) (oi := { dst := some 93, op := Op.pick (Operand.tmp 87) (Operand.const (Value.bool true)) (Operand.tmp 92), type := 4, pos := "law.go:86", after := #[{ on := 22, ground := Ground.data }, { on := 27, ground := Ground.data }], guard := none }) (v := ?_) rfl (by kernel_rfl) (by kernel_rfl) (by kernel_rfl) (fun _ _ _ h => h) (Or.inl ⟨by rfl, ?_⟩) (by assumption) ?_
    rotate_left
    focus (intro w' hSw; (try dsimp only at hSw); go_simp; try with_reducible rfl)
    try simp only [Act.put, List.setIfInBounds_toArray, List.set_cons_zero, List.set_cons_succ]
    refine wpAnyH_take (i := 29) (oi := { dst := some 94, op := Op.move (Operand.tmp 93), type := 4, pos := "law.go:86", after := #[{ on := 28, ground := Ground.data }, { on := 26, ground := Ground.chain }], guard := none }) (v := ?_) rfl (by kernel_rfl) (by kernel_rfl) (by kernel_rfl) (fun _ _ _ h => h) (Or.inl ⟨by rfl, ?_⟩) (by assumption) ?_
    rotate_left
    focus (intro w' hSw; (try dsimp only at hSw); go_simp; try with_reducible rfl)
    try simp only [Act.put, List.setIfInBounds_toArray, List.set_cons_zero, List.set_cons_succ]
    refine wpAnyH_take (i := 30) (oi := { dst := some 95, op := Op.move (Operand.tmp 8), type := 41, pos := "law.go:86", after := #[{ on := 29, ground := Ground.guard }], guard := some (29, false) }) (v := ?_) rfl (by kernel_rfl) (by kernel_rfl) (by kernel_rfl) (fun _ _ _ h => h) (Or.inl ⟨by rfl, ?_⟩) (by assumption) ?_
    rotate_left
    focus (intro w' hSw; (try dsimp only at hSw); go_simp; try with_reducible rfl)
    try simp only [Act.put, List.setIfInBounds_toArray, List.set_cons_zero, List.set_cons_succ]
    refine wpAnyH_take (i := 31) (oi := { dst := some 96, op := Op.move (Operand.tmp 0), type := 32, pos := "law.go:86", after := #[{ on := 29, ground := Ground.guard }], guard := some (29, false) }) (v := ?_) rfl (by kernel_rfl) (by kernel_rfl) (by kernel_rfl) (fun _ _ _ h => h) (Or.inl ⟨by rfl, ?_⟩) (by assumption) ?_
    rotate_left
    focus (intro w' hSw; (try dsimp only at hSw); go_simp; try with_reducible rfl)
    try simp only [Act.put, List.setIfInBounds_toArray, List.set_cons_zero, List.set_cons_succ]
    refine wpAnyH_take (i := 32) (oi := { dst := some 97, op := Op.call { callee := Callee.builtin Builtin.len, args := #[Operand.tmp 96], argTypes := #[32] }, type := 3, pos := "law.go:86", after := #[{ on := 31, ground := Ground.data }, { on := 29, ground := Ground.guard }], guard := some (29, false) }) (v := ?_) rfl (by kernel_rfl) (by kernel_rfl) (by kernel_rfl) (fun _ _ _ h => h) (Or.inl ⟨by rfl, ?_⟩) (by assumption) ?_
    rotate_left
    focus (intro w' hSw; (try dsimp only at hSw); go_simp; try with_reducible rfl)
    try simp only [Act.put, List.setIfInBounds_toArray, List.set_cons_zero, List.set_cons_succ]
    refine wpAnyH_take (i := 33) (oi := { dst := some 98, op := Op.binOp BinOp.add 3 (Operand.tmp 97) (Operand.const (Value.int IntKind.i64 1)) 3, type := 3, pos := "law.go:86", after := #[{ on := 32, ground := Ground.data }, { on := 29, ground := Ground.guard }], guard := some (29, false) }) (v := ?_) rfl (by kernel_rfl) (by kernel_rfl) (by kernel_rfl) (fun _ _ _ h => h) (Or.inl ⟨by rfl, ?_⟩) (by assumption) ?_
    rotate_left
    focus (intro w' hSw; (try dsimp only at hSw); go_simp; try with_reducible rfl)
    try simp only [Act.put, List.setIfInBounds_toArray, List.set_cons_zero, List.set_cons_succ]
    refine wpAnyH_take (i := 34) (oi := { dst := some 99, op := Op.slice 41 (Operand.tmp 95) none (some (Operand.tmp 98)) none, type := 41, pos := "law.go:86", after := #[{ on := 30, ground := Ground.data }, { on := 33, ground := Ground.data }, { on := 29, ground := Ground.guard }], guard := some (29, false) }) (v := ?_) rfl (by kernel_rfl) (by kernel_rfl) (by kernel_rfl) (fun _ _ _ h => h) (Or.inl ⟨by rfl, ?_⟩) (by assumption) ?_
    rotate_left
    focus (intro w' hSw; (try dsimp only at hSw); go_simp; try with_reducible rfl)
    try simp only [Act.put, List.setIfInBounds_toArray, List.set_cons_zero, List.set_cons_succ]
    refine wpAnyH_take (i := 35) (oi := { dst := some 100, op := Op.move (Operand.tmp 0), type := 32, pos := "law.go:86", after := #[{ on := 29, ground := Ground.guard }], guard := some (29, false) }) (v := ?_) rfl (by kernel_rfl) (by kernel_rfl) (by kernel_rfl) (fun _ _ _ h => h) (Or.inl ⟨by rfl, ?_⟩) (by assumption) ?_
    rotate_left
    focus (intro w' hSw; (try dsimp only at hSw); go_simp; try with_reducible rfl)
    try simp only [Act.put, List.setIfInBounds_toArray, List.set_cons_zero, List.set_cons_succ]
    refine wpAnyH_take (i := 36) (oi := { dst := some 101, op := Op.call { callee := Callee.builtin Builtin.len, args := #[Operand.tmp 100], argTypes := #[32] }, type := 3, pos := "law.go:86", after := #[{ on := 35, ground := Ground.data }, { on := 29, ground := Ground.guard }], guard := some (29, false) }) (v := ?_) rfl (by kernel_rfl) (by kernel_rfl) (by kernel_rfl) (fun _ _ _ h => h) (Or.inl ⟨by rfl, ?_⟩) (by assumption) ?_
    rotate_left
    focus (intro w' hSw; (try dsimp only at hSw); go_simp; try with_reducible rfl)
    try simp only [Act.put, List.setIfInBounds_toArray, List.set_cons_zero, List.set_cons_succ]
    refine wpAnyH_take (i := 37) (oi := { dst := some 102, op := Op.indexAddr 41 (Operand.tmp 99) (Operand.tmp 101), type := 0, pos := "law.go:86", after := #[{ on := 34, ground := Ground.data }, { on := 36, ground := Ground.data }, { on := 29, ground := Ground.guard }], guard := some (29, false) }) (v := ?_) rfl (by kernel_rfl) (by kernel_rfl) (by kernel_rfl) (fun _ _ _ h => h) (Or.inl ⟨by rfl, ?_⟩) (by assumption) ?_
    rotate_left
    focus (intro w' hSw; (try dsimp only at hSw); go_simp; try with_reducible rfl)
    try simp only [Act.put, List.setIfInBounds_toArray, List.set_cons_zero, List.set_cons_succ]
    refine wpAnyH_take (i := 38) (oi := { dst := some 103, op := Op.fieldAddr 39 (Operand.tmp 102) 0, type := 0, pos := "law.go:86", after := #[{ on := 37, ground := Ground.data }, { on := 29, ground := Ground.guard }], guard := some (29, false) }) (v := ?_) rfl (by kernel_rfl) (by kernel_rfl) (by kernel_rfl) (fun _ _ _ h => h) (Or.inl ⟨by rfl, ?_⟩) (by assumption) ?_
    rotate_left
    focus (intro w' hSw; (try dsimp only at hSw); go_simp; try with_reducible rfl)
    try simp only [Act.put, List.setIfInBounds_toArray, List.set_cons_zero, List.set_cons_succ]
    refine wpAnyH_take (i := 39) (oi := { dst := some 104, op := Op.load 27 (Operand.tmp 103), type := 27, pos := "law.go:86", after := #[{ on := 38, ground := Ground.data }, { on := 29, ground := Ground.guard }], guard := some (29, false) }) (v := ?_) rfl (by kernel_rfl) (by kernel_rfl) (by kernel_rfl) (fun _ _ _ h => h) (Or.inl ⟨by rfl, ?_⟩) (by assumption) ?_
    rotate_left
    focus (intro w' hSw; (try dsimp only at hSw); go_simp; try with_reducible rfl)
    try simp only [Act.put, List.setIfInBounds_toArray, List.set_cons_zero, List.set_cons_succ]
    refine wpAnyH_take (i := 40) (oi := { dst := some 105, op := Op.binOp BinOp.neq 27 (Operand.tmp 104) (Operand.const (Value.int IntKind.u64 77)) 27, type := 4, pos := "law.go:86", after := #[{ on := 39, ground := Ground.data }, { on := 29, ground := Ground.guard }], guard := some (29, false) }) (v := ?_) rfl (by kernel_rfl) (by kernel_rfl) (by kernel_rfl) (fun _ _ _ h => h) (Or.inl ⟨by rfl, ?_⟩) (by assumption) ?_
    rotate_left
    focus (intro w' hSw; (try dsimp only at hSw); go_simp; try with_reducible rfl)
    try simp only [Act.put, List.setIfInBounds_toArray, List.set_cons_zero, List.set_cons_succ]
    refine wpAnyH_take (i := 41) (oi := { dst := some 106, op := Op.pick (Operand.tmp 94) (Operand.const (Value.bool true)) (Operand.tmp 105), type := 4, pos := "law.go:86", after := #[{ on := 29, ground := Ground.data }, { on := 40, ground := Ground.data }], guard := none }) (v := ?_) rfl (by kernel_rfl) (by kernel_rfl) (by kernel_rfl) (fun _ _ _ h => h) (Or.inl ⟨by rfl, ?_⟩) (by assumption) ?_
    rotate_left
    focus (intro w' hSw; (try dsimp only at hSw); go_simp; try with_reducible rfl)
    try simp only [Act.put, List.setIfInBounds_toArray, List.set_cons_zero, List.set_cons_succ]
    refine wpAnyH_done (by kernel_rfl) ?_ _
    have NU := nums_of BN4.h LSh.out
    have hg7 : w5.heap.size ≤ g2 := hg2
    clear l0 l1 l22 l3 l4 hX1 hX2 hX3 hX4 C4 C5 C6 C7 BN BN1 BN2 BN3 BN4 q3 q6 M1 hg2 hc1 hc2 hc3 hc4 hc5 hc6
    go_wp2_with fail
    go_loopw [109] (fun i wr => ∃ j : Nat, j ≤ 0 ∧ i = .int .i64 j ∧ Nums wr g2 0 ∧ RowKit.Below w5.heap.size w5 wr) (fun i _ => 0 - (intOf i).toNat)
    case atStart => exact ⟨0, Nat.zero_le _, rfl, NU, C8⟩
    case round =>
      obtain ⟨j, hj, rfl, hN, hB⟩ := hrel
      by_cases hlt : j < 0
      · exact absurd hlt (Nat.not_lt_zero _)
      · obtain rfl : 0 = j := by omega
        go_wp2_with fail
        refine (BA.out g k _ (M.out.pre.on hB (Nat.le_refl _))).mono ?_
        rintro e x5 ⟨ao7, c7, rfl, q7, b⟩
        have D1 := hB.trans (b.mono hB.size)
        go_wp2_with fail
        refine (SM2.out _ ao c7 c _ q7 (I.out.on D1 (Nat.le_refl _))).mono ?_
        rintro e x6 ⟨rfl, b⟩
        have D2 := D1.trans (b.mono D1.size)
        go_wp2_with fail
        go_ret
        exact ⟨rfl, h3.trans (D2.mono h3.size)⟩

theorem orders_law (hS : SortsQ) (ao : Option Addr) (n c : Nat) (la : List Q) (a b : Q) (w : World) (hnc : n ≤ c) (_hc : c ≤ maxLen) (hla : la.length = n) (ha : Qs w ao la) :
    Calls Try.prog 4 #[.slice ao n c, .agg #[.int .u64 a.n, .int .u8 a.node, .int .u32 a.inc, .int .u32 a.seq], .agg #[.int .u64 b.n, .int .u8 b.node, .int .u32 b.inc, .int .u32 b.seq]] w fun e w' => e = .returned (.bool true) ∧ Below w.heap.size w w' := by
  by_cases h1 : 0 < min n 100
  · exact orders_pos hS ao n c la a b w hnc _hc hla ha (decide_eq_true h1)
  · exact orders_zero hS ao n c la a b w hnc _hc hla ha (decide_eq_false h1)
end Go.Proofs.Ytfennglfmngeiaa.St
