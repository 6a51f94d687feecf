/- The law on the eldest, walked. -/
import Derived.Test.YtfennglfmngeiaaW13
import Derived.Deep.QuietTactic
namespace Go.Proofs.Ytfennglfmngeiaa.St
open Go Go.RowKit Go.Sort Go.Lib
theorem Qs.take {w : World} {ao : Option Addr} {l : List Q} (h : Qs w ao l) (k : Nat) : Qs w ao (l.take k) := by
  have h' : Qs w ao (l.take k ++ l.drop k) := by rw [List.take_append_drop]; exact h
  exact h'.pre
theorem Qs.app {w : World} {ao : Option Addr} {l : List Q} (h : Qs w ao l) {B : Nat} {w' : World} (hb : Below B w w') (hB : w.heap.size ≤ B) : Qs w' ao l := h.on hb hB
/-- What the law wants of two lists. -/
theorem eldest_math (A B : List Q) (oa ob oz : Bool) (ha : oa = decide (0 < A.length)) (hb : ob = decide (0 < B.length)) (hz : oz = decide (0 < A.length + B.length)) :
    (ob = false → oz = oa ∧ minQ (A ++ B) = minQ A) ∧ (ob = true → oz = true) ∧ (ob = true → oa = false → minQ (A ++ B) = minQ B) ∧ (ob = true → oa = true → ordQ (minQ B) (minQ A) < 0 → minQ (A ++ B) = minQ B) ∧ (ob = true → oa = true → ¬ ordQ (minQ B) (minQ A) < 0 → minQ (A ++ B) = minQ A) := by
  subst ha hb hz
  cases A with
  | nil => cases B <;> simp [minQ]
  | cons x A =>
    cases B with
    | nil => simp
    | cons y B =>
      have h := minQ_app (a := x :: A) (b := y :: B) (by simp) (by simp)
      rw [h]
      unfold elder
      simp
      exact ⟨by omega, fun h k => by omega, fun h k => by omega⟩
theorem back_q (ao : Option Addr) (n c : Nat) (l : List Q) (w : World) (hn : n ≤ 1000) (hl : l.length = n) (ha : Qs w ao l) :
    Calls Try.prog 20 #[.slice ao n c] w fun e w' => ∃ ao' c', e = .returned (.slice ao' n c') ∧ Qs w' ao' l ∧ RowKit.Below w.heap.size w w' :=
  (back_any ao n c l w hn hl ha).mono fun e w' ⟨v, he, ho, hb⟩ => by
    subst hl
    have h' := ho
    unfold Own at h'
    rcases h'.2 with ⟨h1, h2⟩ | ⟨g, cap, _, h1, _⟩
    · subst h1
      have e0 : l = [] := List.length_eq_zero_iff.1 h2
      subst e0
      exact ⟨none, 0, he, Qs.nil _ _, hb⟩
    · subst h1
      exact ⟨_, _, he, ho.qs, hb⟩
/-- What the law's last region reads. -/
structure Bun (w : World) (a b c g : Nat) (x y z : Q) (l : List Q) : Prop where
  p : Box4 w a x
  q : Box4 w b y
  r : Box4 w c z
  s : Qs w (some ⟨g, 0, none⟩) l
theorem Bun.on {w w' : World} {a b c g : Nat} {x y z : Q} {l : List Q} (h : Bun w a b c g x y z l) (hb : RowKit.Below w.heap.size w w') : Bun w' a b c g x y z l :=
  ⟨h.p.on hb h.p.2.2, h.q.on hb h.q.2.2, h.r.on hb h.r.2.2, h.s.on hb (Nat.le_refl _)⟩
theorem head_four {w : World} {g : Nat} {x : Q} {l : List Q} (h : Qs w (some ⟨g, 0, none⟩) l) (hx : ∃ r, l = x :: r) : Four w g 0 x := by
  obtain ⟨r, rfl⟩ := hx
  obtain ⟨b, off, h1, _, h2⟩ := h.at (k := 0) (by simp)
  cases h1
  exact h2
theorem Bun.all {w : World} {a b c g : Nat} {x y z : Q} {l : List Q} (h : Bun w a b c g x y z l) (hx : ∃ r, l = x :: r) :
    (w.cell? ⟨a, 0, none⟩ = some (.int .u64 x.n) ∧ w.cell? ⟨a, 1, none⟩ = some (.int .u8 x.node) ∧ w.cell? ⟨a, 2, none⟩ = some (.int .u32 x.inc) ∧ w.cell? ⟨a, 3, none⟩ = some (.int .u32 x.seq)) ∧ (w.cell? ⟨b, 0, none⟩ = some (.int .u64 y.n) ∧ w.cell? ⟨b, 1, none⟩ = some (.int .u8 y.node) ∧ w.cell? ⟨b, 2, none⟩ = some (.int .u32 y.inc) ∧ w.cell? ⟨b, 3, none⟩ = some (.int .u32 y.seq)) ∧ (w.cell? ⟨c, 0, none⟩ = some (.int .u64 z.n) ∧ w.cell? ⟨c, 1, none⟩ = some (.int .u8 z.node) ∧ w.cell? ⟨c, 2, none⟩ = some (.int .u32 z.inc) ∧ w.cell? ⟨c, 3, none⟩ = some (.int .u32 z.seq)) ∧ (w.cell? ⟨g, 0, none⟩ = some (.int .u64 x.n) ∧ w.cell? ⟨g, 1, none⟩ = some (.int .u8 x.node) ∧ w.cell? ⟨g, 2, none⟩ = some (.int .u32 x.inc) ∧ w.cell? ⟨g, 3, none⟩ = some (.int .u32 x.seq)) :=
  ⟨h.p.1, h.q.1, h.r.1, head_four h.s hx⟩
theorem Bun.two {w : World} {a b c g : Nat} {x y z : Q} {l : List Q} (h : Bun w a b c g x y z l) :
    (w.cell? ⟨b, 0, none⟩ = some (.int .u64 y.n) ∧ w.cell? ⟨b, 1, none⟩ = some (.int .u8 y.node) ∧ w.cell? ⟨b, 2, none⟩ = some (.int .u32 y.inc) ∧ w.cell? ⟨b, 3, none⟩ = some (.int .u32 y.seq)) ∧ (w.cell? ⟨c, 0, none⟩ = some (.int .u64 z.n) ∧ w.cell? ⟨c, 1, none⟩ = some (.int .u8 z.node) ∧ w.cell? ⟨c, 2, none⟩ = some (.int .u32 z.inc) ∧ w.cell? ⟨c, 3, none⟩ = some (.int .u32 z.seq)) :=
  ⟨h.q.1, h.r.1⟩
set_option maxRecDepth 100000 in
set_option maxHeartbeats 8000000 in
theorem eldest_lt (hS : SortsQ) (ao bo : Option Addr) (n m c d : Nat) (la lb : List Q) (w : World) (hnc : n ≤ c) (hmd : m ≤ d) (_hc : c ≤ maxLen) (_hd : d ≤ maxLen) (hla : la.length = n) (hlb : lb.length = m) (ha : Qs w ao la) (hb : Qs w bo lb)
    (hoA : decide (0 < min n 60) = true) (hoB : decide (0 < min m 60) = true) (ho : ordQ (minQ (lb.take 60)) (minQ (la.take 60)) < 0) :
    Calls Try.prog 6 #[.slice ao n c, .slice bo m d] w fun e w' => e = .returned (.bool true) ∧ Below w.heap.size w w' := by
  unfold maxLen at _hc _hd
  obtain ⟨n', hn'⟩ : ∃ n', n' = min n 60 := ⟨_, rfl⟩
  obtain ⟨m', hm'⟩ : ∃ m', m' = min m 60 := ⟨_, rfl⟩
  have en : (min (n : Int) 60).toNat = n' := by omega
  have em : (min (m : Int) 60).toNat = m' := by omega
  have q1 : (min (n : Int) 60) ≤ c := by omega
  have q2 : (min (m : Int) 60) ≤ d := by omega
  have q3 : 0 ≤ (min (n : Int) 60) := by omega
  have q4 : 0 ≤ (min (m : Int) 60) := by omega
  have la' : (la.take 60).length = n' := by rw [List.length_take]; omega
  have lb' : (lb.take 60).length = m' := by rw [List.length_take]; omega
  have ra0 := ha.take 60
  have rb0 := hb.take 60
  clear ha hb hla hlb
  generalize la.take 60 = A at *
  generalize lb.take 60 = B at *
  have hn6 : n' ≤ 60 := by omega
  have hm6 : m' ≤ 60 := by omega
  obtain ⟨oa, hoa⟩ : ∃ z, z = decide (0 < n') := ⟨_, rfl⟩
  obtain ⟨ob, hob⟩ : ∃ z, z = decide (0 < m') := ⟨_, rfl⟩
  obtain ⟨oz, hoz⟩ : ∃ z, z = decide (0 < n' + m') := ⟨_, rfl⟩
  have SA := Lib.hid (fun w h => stamps_q ao n' c A w (by omega) la' h)
  have SB := Lib.hid (fun w h => stamps_q bo m' d B w (by omega) lb' h)
  have EA := Lib.hid (fun g cap w h => eldest_q (some ⟨g, 0, none⟩) n' cap A w (by unfold maxLen; omega) la' h oa hoa)
  have EB := Lib.hid (fun g cap w h => eldest_q (some ⟨g, 0, none⟩) m' cap B w (by unfold maxLen; omega) lb' h ob hob)
  have EZ := Lib.hid (fun g cap w h => eldest_q (some ⟨g, 0, none⟩) (n' + m') cap (A ++ B) w (by unfold maxLen; omega) (by rw [List.length_append, la', lb']) h oz hoz)
  have SO := Lib.hid (fun g cap w h => sort_any hS g 0 n' cap A w (by omega) la' h)
  have LS : (srt A).length = n' := by rw [srt_length]; exact la'
  have SS := Lib.hid (fun g cap w h => sort_any hS g 0 n' cap (srt A) w (by omega) LS h)
  have HSS := Lib.hid (srt_srt A)
  have BK := Lib.hid (fun g cap w h => back_q (some ⟨g, 0, none⟩) n' cap (srt A) w (by omega) LS h)
  have SM := Lib.hid (fun ao bo c d w h h' => same_true ao bo n' c d (srt A) w (by omega) LS h h')
  have MA := eldest_math A B oa ob oz (by rw [la']; exact hoa) (by rw [lb']; exact hob) (by rw [la', lb']; exact hoz)
  have LA := Lib.hid la'
  have LB := Lib.hid lb'
  have LSh := Lib.hid LS
  have NM := Lib.hid (And.intro hn6 hm6)
  have RA0 := Lib.hid ra0
  have RB0 := Lib.hid rb0
  obtain rfl : oa = true := by rw [hoa, hn']; exact hoA
  obtain rfl : ob = true := by rw [hob, hm']; exact hoB
  have hpos : 0 < n' := by rw [hn']; exact of_decide_eq_true hoA
  have hne : ((n' : Int) == 0) = false := by rw [beq_eq_false_iff_ne]; omega
  have HD : Hid (∃ r, srt A = minQ A :: r) := Lib.hid (by
    cases hs : srt A with
    | nil => rw [hs] at LS; simp at LS; omega
    | cons a r => exact ⟨r, by rw [srt_head hs]⟩)
  obtain rfl : oz = true := MA.2.1 rfl
  have hz : minQ (A ++ B) = minQ B := MA.2.2.2.1 rfl rfl ho
  rw [hz] at EZ
  clear MA hoA hoB hoa hob hoz la' lb' LS hz ra0 rb0 hn6 hm6
  generalize minQ A = x at *
  generalize minQ B = y at *
  clear hn' hm'
  go_enter Try.func6, Try.ntmps6
  go_wp2_with fail
  refine (awake_any _).mono ?_
  rintro e w1 ⟨rfl, hB1⟩
  go_wp2_with fail
  go_region
  have h0 := hB1.drew
  have RA := Lib.hid (RA0.out.on h0 (Nat.le_refl _))
  have RB := Lib.hid (RB0.out.on h0 (Nat.le_refl _))
  clear hB1 RA0 RB0
  generalize w1.drew = v1 at *
  go_wp2_with fail
  refine (SA.out _ RA.out).mono ?_
  rintro e w2 ⟨g, k, rfl, hq, b⟩
  have h1 := h0.trans (b.mono h0.size)
  have RA1 := Lib.hid (RA.out.on b (Nat.le_refl _))
  have RB1 := Lib.hid (RB.out.on b (Nat.le_refl _))
  clear RA RB b h0
  go_wp2_with fail
  refine (EA.out g k _ hq).mono ?_
  rintro e w3 ⟨rfl, b⟩
  have h2 := h1.trans (b.mono h1.size)
  have RA := Lib.hid (RA1.out.on b (Nat.le_refl _))
  have RB := Lib.hid (RB1.out.on b (Nat.le_refl _))
  clear RA1 RB1 b h1 hq
  unfold aggQ at *
  go_wp2_with fail
  have h3 := h2.alloc h2.size (.cells #[.int .u64 x.n, .int .u8 x.node, .int .u32 x.inc, .int .u32 x.seq] 39)
  have RA1 := Lib.hid (RA.out.on ((Below.refl w3.heap.size w3).alloc (Nat.le_refl _) (.cells #[.int .u64 x.n, .int .u8 x.node, .int .u32 x.inc, .int .u32 x.seq] 39)) (Nat.le_refl _))
  have RB1 := Lib.hid (RB.out.on ((Below.refl w3.heap.size w3).alloc (Nat.le_refl _) (.cells #[.int .u64 x.n, .int .u8 x.node, .int .u32 x.inc, .int .u32 x.seq] 39)) (Nat.le_refl _))
  have B5 := Box4.new w3 x 39
  have l5 := h2.size
  clear h2 RA RB
  generalize (w3.alloc (.cells #[.int .u64 x.n, .int .u8 x.node, .int .u32 x.inc, .int .u32 x.seq] 39)) = v3 at *
  generalize w3.heap.size = s5 at *
  refine (SB.out _ RB1.out).mono ?_
  rintro e w4 ⟨g', k', rfl, hq, b⟩
  have h4 := h3.trans (b.mono h3.size)
  have B5' := B5.on b B5.2.2
  have RA := Lib.hid (RA1.out.on b (Nat.le_refl _))
  have RB := Lib.hid (RB1.out.on b (Nat.le_refl _))
  clear RA1 RB1 b h3 B5
  go_wp2_with fail
  refine (EB.out g' k' _ hq).mono ?_
  rintro e w5 ⟨rfl, b⟩
  have h5 := h4.trans (b.mono h4.size)
  have B5 := B5'.on b B5'.2.2
  have RA1 := Lib.hid (RA.out.on b (Nat.le_refl _))
  have RB1 := Lib.hid (RB.out.on b (Nat.le_refl _))
  clear RA RB b h4 B5' hq
  unfold aggQ at *
  go_wp2_with fail
  have al := fun (l : List Q) (ao : Option Addr) (h : Qs w5 ao l) => h.on (((Below.refl w5.heap.size w5).alloc (Nat.le_refl _) (.cells #[.int .u64 y.n, .int .u8 y.node, .int .u32 y.inc, .int .u32 y.seq] 39))) (Nat.le_refl _)
  have h6 := h5.alloc h5.size (.cells #[.int .u64 y.n, .int .u8 y.node, .int .u32 y.inc, .int .u32 y.seq] 39)
  have RA := Lib.hid (al _ _ RA1.out)
  have RB := Lib.hid (al _ _ RB1.out)
  have B7 := Box4.new w5 y 39
  have B5' := B5.on ((Below.refl w5.heap.size w5).alloc (Nat.le_refl _) (.cells #[.int .u64 y.n, .int .u8 y.node, .int .u32 y.inc, .int .u32 y.seq] 39)) B5.2.2
  have l7 := h5.size
  have n57 : s5 < w5.heap.size := B5.2.2
  have e5 : (w5.alloc (.cells #[.int .u64 y.n, .int .u8 y.node, .int .u32 y.inc, .int .u32 y.seq] 39)).heap.size = w5.heap.size + 1 := World.size_alloc _ _
  clear h5 RA1 RB1 al B5
  generalize (w5.alloc (.cells #[.int .u64 y.n, .int .u8 y.node, .int .u32 y.inc, .int .u32 y.seq] 39)) = v5 at *
  generalize w5.heap.size = s7 at *
  have C0 : RowKit.Below (s7 + 1) v5 (v5.alloc (.cells #[] 39)) := (Below.refl _ _).alloc (Nat.le_of_eq e5.symm) _
  have O0 := lit_row v5
  rw [e5] at O0
  generalize (v5.alloc (.cells #[] 39)) = v6 at *
  refine (SA.out _ (RA.out.on C0 (Nat.le_of_eq e5))).mono ?_
  rintro e w6 ⟨g1, k1, rfl, hq, b⟩
  have C1 := C0.trans (b.mono (e5 ▸ C0.size))
  have O1 := row_on O0 b
  have nm := NM.out
  clear O0 C0 b
  go_wp2_with (at_builtin; refine app_any _ rfl (.tmp 39) (.tmp 41) rfl (s7 + 1) (s7 + 1) 0 0 [] A rfl O1 ⟨g1, 0, none⟩ n' k1 rfl LA.out hq (by omega) (e5 ▸ C1.size) ?_; intro g2 c2 w7 O2 G2)
  have C2 : RowKit.Below (s7 + 1) v5 w7 := grown_own C1 O1 G2 (e5 ▸ C1.size)
  clear C1 O1 G2 hq
  refine (SB.out _ (RB.out.on C2 (Nat.le_of_eq e5))).mono ?_
  rintro e w8 ⟨g3, k3, rfl, hq, b⟩
  have C3 := C2.trans (b.mono (e5 ▸ C2.size))
  have O3 : w8.ownsRow (s7 + 1) 39 4 (.slice (some ⟨g2, 0, none⟩) n' c2) n' (flat A) := row_on (by simpa [flat] using O2) b
  clear C2 O2 b
  go_wp2_with (at_builtin; refine app_any _ rfl (.tmp 42) (.tmp 44) rfl (s7 + 1) g2 n' c2 A B rfl O3 ⟨g3, 0, none⟩ m' k3 rfl LB.out hq (by omega) (e5 ▸ C3.size) ?_; intro g4 c4 w9 O4 G4)
  have C4 : RowKit.Below (s7 + 1) v5 w9 := grown_own C3 O3 G4 (e5 ▸ C3.size)
  clear C3 O3 G4 hq
  refine (EZ.out g4 c4 _ (Qs.of_row (by rw [flat_app]; exact O4) (by rw [List.length_append, LA.out, LB.out]))).mono ?_
  rintro e w10 ⟨rfl, b⟩
  have C5 := C4.trans (b.mono (e5 ▸ C4.size))
  clear C4 O4 b
  have E5 := B5'.on C5 (by omega)
  have E7 := B7.on C5 (by omega)
  have F5 := Lib.hid E5
  have F7 := Lib.hid E7
  obtain ⟨⟨p0, p1, p2, p3⟩, _, _⟩ := E5
  obtain ⟨⟨r0, r1, r2, r3⟩, _, _⟩ := E7
  have p0' := fun o => cell_old p0 (o := o)
  have p1' := fun o => cell_old p1 (o := o)
  have p2' := fun o => cell_old p2 (o := o)
  have p3' := fun o => cell_old p3 (o := o)
  have p0'' := fun o o' => cell_old (p0' o) (o := o')
  have p1'' := fun o o' => cell_old (p1' o) (o := o')
  have p2'' := fun o o' => cell_old (p2' o) (o := o')
  have p3'' := fun o o' => cell_old (p3' o) (o := o')
  have r0'' := fun o o' => cell_old (cell_old r0 (o := o)) (o := o')
  have r1'' := fun o o' => cell_old (cell_old r1 (o := o)) (o := o')
  have r2'' := fun o o' => cell_old (cell_old r2 (o := o)) (o := o')
  have r3'' := fun o o' => cell_old (cell_old r3 (o := o)) (o := o')
  clear B5' B7
  go_wp2_with fail
  have C6 := (C5.alloc (e5 ▸ C5.size) (.cells #[.int .u64 y.n, .int .u8 y.node, .int .u32 y.inc, .int .u32 y.seq] 39)).alloc (by rw [World.size_alloc]; exact Nat.le_succ_of_le (e5 ▸ C5.size)) (.cells #[.int .u64 x.n, .int .u8 x.node, .int .u32 x.inc, .int .u32 x.seq] 39)
  have D := ((Below.refl w10.heap.size w10).alloc (Nat.le_refl _) (.cells #[.int .u64 y.n, .int .u8 y.node, .int .u32 y.inc, .int .u32 y.seq] 39)).alloc (by simp) (.cells #[.int .u64 x.n, .int .u8 x.node, .int .u32 x.inc, .int .u32 x.seq] 39)
  have K5 := F5.out.on D F5.out.2.2
  have K7 := F7.out.on D F7.out.2.2
  have K9 := (Box4.new w10 y 39).on ((Below.refl _ _).alloc (Nat.le_refl _) (.cells #[.int .u64 x.n, .int .u8 x.node, .int .u32 x.inc, .int .u32 x.seq] 39)) (by simp)
  have K11 := Box4.new (w10.alloc (.cells #[.int .u64 y.n, .int .u8 y.node, .int .u32 y.inc, .int .u32 y.seq] 39)) x 39
  rw [World.size_alloc] at K11
  have hs10 : s7 + 1 ≤ w10.heap.size := e5 ▸ C5.size
  clear p0 p1 p2 p3 r0 r1 r2 r3 p0' p1' p2' p3' p0'' p1'' p2'' p3'' r0'' r1'' r2'' r3'' D C5 F5 F7
  generalize ((w10.alloc (.cells #[.int .u64 y.n, .int .u8 y.node, .int .u32 y.inc, .int .u32 y.seq] 39)).alloc (.cells #[.int .u64 x.n, .int .u8 x.node, .int .u32 x.inc, .int .u32 x.seq] 39)) = v10 at *
  generalize w10.heap.size = s9 at *
  refine (order_calls y x _).mono ?_
  rintro e w11 ⟨rfl, hg⟩
  have b : RowKit.Below v10.heap.size v10 w11 := below_grown (Below.refl _ _) (Nat.le_refl _) hg
  have C7 := C6.trans (b.mono (e5 ▸ C6.size))
  have M5 := Lib.hid (K5.on b K5.2.2)
  have M7 := Lib.hid (K7.on b K7.2.2)
  have M9 := Lib.hid (K9.on b K9.2.2)
  have M11 := Lib.hid (K11.on b K11.2.2)
  clear C6 K5 K7 K9 K11 b hg
  obtain ⟨⟨r0, r1, r2, r3⟩, _, _⟩ := M7.out
  obtain ⟨⟨p0, p1, p2, p3⟩, pf, _⟩ := M11.out
  have hd : decide (ordQ y x < 0) = true := decide_eq_true ho
  go_wp2_with fail
  have C8 := below_put4 C7 (b := s9 + 1) (by omega) y
  have N5 := M5.out.put_far y (c := s9 + 1) (by omega)
  have N9 := M9.out.put_far y (c := s9 + 1) (by omega)
  have N11 := M11.out.put y
  clear M5 M7 M9 M11 r0 r1 r2 r3 p0 p1 p2 p3 pf C7 hd
  show Calls Try.prog 15 _ (put4 w11 (s9 + 1) y) _
  generalize put4 w11 (s9 + 1) y = v11 at *
  refine (SA.out _ (RA.out.on C8 (Nat.le_of_eq e5))).mono ?_
  rintro e w13 ⟨g5, k5, rfl, hq, b⟩
  have C9 := C8.trans (b.mono (e5 ▸ C8.size))
  have M5 := N5.on b N5.2.2
  have M9 := N9.on b N9.2.2
  have M11 := N11.on b N11.2.2
  clear N5 N9 N11 b C8
  go_wp2_with fail
  refine (SO.out g5 k5 _ hq).mono ?_
  rintro e w14 ⟨g6, k6, rfl, hH, _, hg1, b⟩
  have C10 := C9.trans (b.mono (e5 ▸ C9.size))
  have BN : Bun w14 s5 s9 (s9 + 1) g6 x y y (srt A) := ⟨M5.on b M5.2.2, M9.on b M9.2.2, M11.on b M11.2.2, qs_of_holds hg1 hH⟩
  clear M5 M9 M11 b C9 hq hH hg1
  go_wp2_with fail
  have b0 := BN.all HD.out
  go_region_held3 (fun w' => (w'.cell? ⟨s5, 0, none⟩ = some (.int .u64 x.n) ∧ w'.cell? ⟨s5, 1, none⟩ = some (.int .u8 x.node) ∧ w'.cell? ⟨s5, 2, none⟩ = some (.int .u32 x.inc) ∧ w'.cell? ⟨s5, 3, none⟩ = some (.int .u32 x.seq)) ∧ (w'.cell? ⟨s9, 0, none⟩ = some (.int .u64 y.n) ∧ w'.cell? ⟨s9, 1, none⟩ = some (.int .u8 y.node) ∧ w'.cell? ⟨s9, 2, none⟩ = some (.int .u32 y.inc) ∧ w'.cell? ⟨s9, 3, none⟩ = some (.int .u32 y.seq)) ∧ (w'.cell? ⟨(s9 + 1), 0, none⟩ = some (.int .u64 y.n) ∧ w'.cell? ⟨(s9 + 1), 1, none⟩ = some (.int .u8 y.node) ∧ w'.cell? ⟨(s9 + 1), 2, none⟩ = some (.int .u32 y.inc) ∧ w'.cell? ⟨(s9 + 1), 3, none⟩ = some (.int .u32 y.seq)) ∧ (w'.cell? ⟨g6, 0, none⟩ = some (.int .u64 x.n) ∧ w'.cell? ⟨g6, 1, none⟩ = some (.int .u8 x.node) ∧ w'.cell? ⟨g6, 2, none⟩ = some (.int .u32 x.inc) ∧ w'.cell? ⟨g6, 3, none⟩ = some (.int .u32 x.seq)))
    (first | exact b0 | exact b1 | exact b2 | exact b3 | exact b4)
    (first
      | (have hh := b1; clear hh; go_at_call 19; refine (SM.out _ _ k8 k9 _ q8 q9).mono ?_; rintro e x4 ⟨rfl, hX4⟩; have BN4 := BN3.on hX4; have b4 := BN4.all HD.out; have C14 := C13.trans (hX4.mono (e5 ▸ C13.size)))
      | (have hh := q80; clear hh; go_at_call 20; refine (BK.out g6 k6 _ BN2.s).mono ?_; rintro e x3 ⟨ao3, k9, rfl, q9, hX3⟩; have BN3 := BN2.on hX3; have b3 := BN3.all HD.out; have q8 := q80.on hX3 (Nat.le_refl _); have C13 := C12.trans (hX3.mono (e5 ▸ C12.size)))
      | (go_at_call 20; refine (BK.out g7 k7 _ q7).mono ?_; rintro e x2 ⟨ao2, k8, rfl, q80, hX2⟩; have BN2 := BN1.on hX2; have b2 := BN2.all HD.out; have C12 := C11.trans (hX2.mono (e5 ▸ C11.size)))
      | (go_at_call 16; refine (SS.out g6 k6 _ (BN.s.on (Below.refl _ _).drew (Nat.le_refl _))).mono ?_; rintro e x1 ⟨g7, k7, rfl, hH7, _, hg7, hX1⟩; have BN1 := (BN.on (Below.refl _ _).drew).on hX1; have b1 := BN1.all HD.out; have C11 := C10.drew.trans (hX1.mono (e5 ▸ C10.size)); have q7 : Qs x1 (some ⟨g7, 0, none⟩) (srt A) := (by have hq7 := qs_of_holds hg7 hH7; rwa [HSS.out] at hq7); clear hH7))
  go_wp2_with fail
  go_ret
  exact ⟨rfl, h6.trans (C14.mono (by omega))⟩

set_option maxRecDepth 100000 in
set_option maxHeartbeats 8000000 in
theorem eldest_ge (hS : SortsQ) (ao bo : Option Addr) (n m c d : Nat) (la lb : List Q) (w : World) (hnc : n ≤ c) (hmd : m ≤ d) (_hc : c ≤ maxLen) (_hd : d ≤ maxLen) (hla : la.length = n) (hlb : lb.length = m) (ha : Qs w ao la) (hb : Qs w bo lb)
    (hoA : decide (0 < min n 60) = true) (hoB : decide (0 < min m 60) = true) (ho : ¬ ordQ (minQ (lb.take 60)) (minQ (la.take 60)) < 0) :
    Calls Try.prog 6 #[.slice ao n c, .slice bo m d] w fun e w' => e = .returned (.bool true) ∧ Below w.heap.size w w' := by
  unfold maxLen at _hc _hd
  obtain ⟨n', hn'⟩ : ∃ n', n' = min n 60 := ⟨_, rfl⟩
  obtain ⟨m', hm'⟩ : ∃ m', m' = min m 60 := ⟨_, rfl⟩
  have en : (min (n : Int) 60).toNat = n' := by omega
  have em : (min (m : Int) 60).toNat = m' := by omega
  have q1 : (min (n : Int) 60) ≤ c := by omega
  have q2 : (min (m : Int) 60) ≤ d := by omega
  have q3 : 0 ≤ (min (n : Int) 60) := by omega
  have q4 : 0 ≤ (min (m : Int) 60) := by omega
  have la' : (la.take 60).length = n' := by rw [List.length_take]; omega
  have lb' : (lb.take 60).length = m' := by rw [List.length_take]; omega
  have ra0 := ha.take 60
  have rb0 := hb.take 60
  clear ha hb hla hlb
  generalize la.take 60 = A at *
  generalize lb.take 60 = B at *
  have hn6 : n' ≤ 60 := by omega
  have hm6 : m' ≤ 60 := by omega
  obtain ⟨oa, hoa⟩ : ∃ z, z = decide (0 < n') := ⟨_, rfl⟩
  obtain ⟨ob, hob⟩ : ∃ z, z = decide (0 < m') := ⟨_, rfl⟩
  obtain ⟨oz, hoz⟩ : ∃ z, z = decide (0 < n' + m') := ⟨_, rfl⟩
  have SA := Lib.hid (fun w h => stamps_q ao n' c A w (by omega) la' h)
  have SB := Lib.hid (fun w h => stamps_q bo m' d B w (by omega) lb' h)
  have EA := Lib.hid (fun g cap w h => eldest_q (some ⟨g, 0, none⟩) n' cap A w (by unfold maxLen; omega) la' h oa hoa)
  have EB := Lib.hid (fun g cap w h => eldest_q (some ⟨g, 0, none⟩) m' cap B w (by unfold maxLen; omega) lb' h ob hob)
  have EZ := Lib.hid (fun g cap w h => eldest_q (some ⟨g, 0, none⟩) (n' + m') cap (A ++ B) w (by unfold maxLen; omega) (by rw [List.length_append, la', lb']) h oz hoz)
  have SO := Lib.hid (fun g cap w h => sort_any hS g 0 n' cap A w (by omega) la' h)
  have LS : (srt A).length = n' := by rw [srt_length]; exact la'
  have SS := Lib.hid (fun g cap w h => sort_any hS g 0 n' cap (srt A) w (by omega) LS h)
  have HSS := Lib.hid (srt_srt A)
  have BK := Lib.hid (fun g cap w h => back_q (some ⟨g, 0, none⟩) n' cap (srt A) w (by omega) LS h)
  have SM := Lib.hid (fun ao bo c d w h h' => same_true ao bo n' c d (srt A) w (by omega) LS h h')
  have MA := eldest_math A B oa ob oz (by rw [la']; exact hoa) (by rw [lb']; exact hob) (by rw [la', lb']; exact hoz)
  have LA := Lib.hid la'
  have LB := Lib.hid lb'
  have LSh := Lib.hid LS
  have NM := Lib.hid (And.intro hn6 hm6)
  have RA0 := Lib.hid ra0
  have RB0 := Lib.hid rb0
  obtain rfl : oa = true := by rw [hoa, hn']; exact hoA
  obtain rfl : ob = true := by rw [hob, hm']; exact hoB
  have hpos : 0 < n' := by rw [hn']; exact of_decide_eq_true hoA
  have hne : ((n' : Int) == 0) = false := by rw [beq_eq_false_iff_ne]; omega
  have HD : Hid (∃ r, srt A = minQ A :: r) := Lib.hid (by
    cases hs : srt A with
    | nil => rw [hs] at LS; simp at LS; omega
    | cons a r => exact ⟨r, by rw [srt_head hs]⟩)
  obtain rfl : oz = true := MA.2.1 rfl
  have hz : minQ (A ++ B) = minQ A := MA.2.2.2.2 rfl rfl ho
  rw [hz] at EZ
  clear MA hoA hoB hoa hob hoz la' lb' LS hz ra0 rb0 hn6 hm6
  generalize minQ A = x at *
  generalize minQ B = y at *
  clear hn' hm'
  go_enter Try.func6, Try.ntmps6
  go_wp2_with fail
  refine (awake_any _).mono ?_
  rintro e w1 ⟨rfl, hB1⟩
  go_wp2_with fail
  go_region
  have h0 := hB1.drew
  have RA := Lib.hid (RA0.out.on h0 (Nat.le_refl _))
  have RB := Lib.hid (RB0.out.on h0 (Nat.le_refl _))
  clear hB1 RA0 RB0
  generalize w1.drew = v1 at *
  go_wp2_with fail
  refine (SA.out _ RA.out).mono ?_
  rintro e w2 ⟨g, k, rfl, hq, b⟩
  have h1 := h0.trans (b.mono h0.size)
  have RA1 := Lib.hid (RA.out.on b (Nat.le_refl _))
  have RB1 := Lib.hid (RB.out.on b (Nat.le_refl _))
  clear RA RB b h0
  go_wp2_with fail
  refine (EA.out g k _ hq).mono ?_
  rintro e w3 ⟨rfl, b⟩
  have h2 := h1.trans (b.mono h1.size)
  have RA := Lib.hid (RA1.out.on b (Nat.le_refl _))
  have RB := Lib.hid (RB1.out.on b (Nat.le_refl _))
  clear RA1 RB1 b h1 hq
  unfold aggQ at *
  go_wp2_with fail
  have h3 := h2.alloc h2.size (.cells #[.int .u64 x.n, .int .u8 x.node, .int .u32 x.inc, .int .u32 x.seq] 39)
  have RA1 := Lib.hid (RA.out.on ((Below.refl w3.heap.size w3).alloc (Nat.le_refl _) (.cells #[.int .u64 x.n, .int .u8 x.node, .int .u32 x.inc, .int .u32 x.seq] 39)) (Nat.le_refl _))
  have RB1 := Lib.hid (RB.out.on ((Below.refl w3.heap.size w3).alloc (Nat.le_refl _) (.cells #[.int .u64 x.n, .int .u8 x.node, .int .u32 x.inc, .int .u32 x.seq] 39)) (Nat.le_refl _))
  have B5 := Box4.new w3 x 39
  have l5 := h2.size
  clear h2 RA RB
  generalize (w3.alloc (.cells #[.int .u64 x.n, .int .u8 x.node, .int .u32 x.inc, .int .u32 x.seq] 39)) = v3 at *
  generalize w3.heap.size = s5 at *
  refine (SB.out _ RB1.out).mono ?_
  rintro e w4 ⟨g', k', rfl, hq, b⟩
  have h4 := h3.trans (b.mono h3.size)
  have B5' := B5.on b B5.2.2
  have RA := Lib.hid (RA1.out.on b (Nat.le_refl _))
  have RB := Lib.hid (RB1.out.on b (Nat.le_refl _))
  clear RA1 RB1 b h3 B5
  go_wp2_with fail
  refine (EB.out g' k' _ hq).mono ?_
  rintro e w5 ⟨rfl, b⟩
  have h5 := h4.trans (b.mono h4.size)
  have B5 := B5'.on b B5'.2.2
  have RA1 := Lib.hid (RA.out.on b (Nat.le_refl _))
  have RB1 := Lib.hid (RB.out.on b (Nat.le_refl _))
  clear RA RB b h4 B5' hq
  unfold aggQ at *
  go_wp2_with fail
  have al := fun (l : List Q) (ao : Option Addr) (h : Qs w5 ao l) => h.on (((Below.refl w5.heap.size w5).alloc (Nat.le_refl _) (.cells #[.int .u64 y.n, .int .u8 y.node, .int .u32 y.inc, .int .u32 y.seq] 39))) (Nat.le_refl _)
  have h6 := h5.alloc h5.size (.cells #[.int .u64 y.n, .int .u8 y.node, .int .u32 y.inc, .int .u32 y.seq] 39)
  have RA := Lib.hid (al _ _ RA1.out)
  have RB := Lib.hid (al _ _ RB1.out)
  have B7 := Box4.new w5 y 39
  have B5' := B5.on ((Below.refl w5.heap.size w5).alloc (Nat.le_refl _) (.cells #[.int .u64 y.n, .int .u8 y.node, .int .u32 y.inc, .int .u32 y.seq] 39)) B5.2.2
  have l7 := h5.size
  have n57 : s5 < w5.heap.size := B5.2.2
  have e5 : (w5.alloc (.cells #[.int .u64 y.n, .int .u8 y.node, .int .u32 y.inc, .int .u32 y.seq] 39)).heap.size = w5.heap.size + 1 := World.size_alloc _ _
  clear h5 RA1 RB1 al B5
  generalize (w5.alloc (.cells #[.int .u64 y.n, .int .u8 y.node, .int .u32 y.inc, .int .u32 y.seq] 39)) = v5 at *
  generalize w5.heap.size = s7 at *
  have C0 : RowKit.Below (s7 + 1) v5 (v5.alloc (.cells #[] 39)) := (Below.refl _ _).alloc (Nat.le_of_eq e5.symm) _
  have O0 := lit_row v5
  rw [e5] at O0
  generalize (v5.alloc (.cells #[] 39)) = v6 at *
  refine (SA.out _ (RA.out.on C0 (Nat.le_of_eq e5))).mono ?_
  rintro e w6 ⟨g1, k1, rfl, hq, b⟩
  have C1 := C0.trans (b.mono (e5 ▸ C0.size))
  have O1 := row_on O0 b
  have nm := NM.out
  clear O0 C0 b
  go_wp2_with (at_builtin; refine app_any _ rfl (.tmp 39) (.tmp 41) rfl (s7 + 1) (s7 + 1) 0 0 [] A rfl O1 ⟨g1, 0, none⟩ n' k1 rfl LA.out hq (by omega) (e5 ▸ C1.size) ?_; intro g2 c2 w7 O2 G2)
  have C2 : RowKit.Below (s7 + 1) v5 w7 := grown_own C1 O1 G2 (e5 ▸ C1.size)
  clear C1 O1 G2 hq
  refine (SB.out _ (RB.out.on C2 (Nat.le_of_eq e5))).mono ?_
  rintro e w8 ⟨g3, k3, rfl, hq, b⟩
  have C3 := C2.trans (b.mono (e5 ▸ C2.size))
  have O3 : w8.ownsRow (s7 + 1) 39 4 (.slice (some ⟨g2, 0, none⟩) n' c2) n' (flat A) := row_on (by simpa [flat] using O2) b
  clear C2 O2 b
  go_wp2_with (at_builtin; refine app_any _ rfl (.tmp 42) (.tmp 44) rfl (s7 + 1) g2 n' c2 A B rfl O3 ⟨g3, 0, none⟩ m' k3 rfl LB.out hq (by omega) (e5 ▸ C3.size) ?_; intro g4 c4 w9 O4 G4)
  have C4 : RowKit.Below (s7 + 1) v5 w9 := grown_own C3 O3 G4 (e5 ▸ C3.size)
  clear C3 O3 G4 hq
  refine (EZ.out g4 c4 _ (Qs.of_row (by rw [flat_app]; exact O4) (by rw [List.length_append, LA.out, LB.out]))).mono ?_
  rintro e w10 ⟨rfl, b⟩
  have C5 := C4.trans (b.mono (e5 ▸ C4.size))
  clear C4 O4 b
  have E5 := B5'.on C5 (by omega)
  have E7 := B7.on C5 (by omega)
  have F5 := Lib.hid E5
  have F7 := Lib.hid E7
  obtain ⟨⟨p0, p1, p2, p3⟩, _, _⟩ := E5
  obtain ⟨⟨r0, r1, r2, r3⟩, _, _⟩ := E7
  have p0' := fun o => cell_old p0 (o := o)
  have p1' := fun o => cell_old p1 (o := o)
  have p2' := fun o => cell_old p2 (o := o)
  have p3' := fun o => cell_old p3 (o := o)
  have p0'' := fun o o' => cell_old (p0' o) (o := o')
  have p1'' := fun o o' => cell_old (p1' o) (o := o')
  have p2'' := fun o o' => cell_old (p2' o) (o := o')
  have p3'' := fun o o' => cell_old (p3' o) (o := o')
  have r0'' := fun o o' => cell_old (cell_old r0 (o := o)) (o := o')
  have r1'' := fun o o' => cell_old (cell_old r1 (o := o)) (o := o')
  have r2'' := fun o o' => cell_old (cell_old r2 (o := o)) (o := o')
  have r3'' := fun o o' => cell_old (cell_old r3 (o := o)) (o := o')
  clear B5' B7
  go_wp2_with fail
  have C6 := (C5.alloc (e5 ▸ C5.size) (.cells #[.int .u64 x.n, .int .u8 x.node, .int .u32 x.inc, .int .u32 x.seq] 39)).alloc (by rw [World.size_alloc]; exact Nat.le_succ_of_le (e5 ▸ C5.size)) (.cells #[.int .u64 x.n, .int .u8 x.node, .int .u32 x.inc, .int .u32 x.seq] 39)
  have D := ((Below.refl w10.heap.size w10).alloc (Nat.le_refl _) (.cells #[.int .u64 x.n, .int .u8 x.node, .int .u32 x.inc, .int .u32 x.seq] 39)).alloc (by simp) (.cells #[.int .u64 x.n, .int .u8 x.node, .int .u32 x.inc, .int .u32 x.seq] 39)
  have K5 := F5.out.on D F5.out.2.2
  have K7 := F7.out.on D F7.out.2.2
  have K9 := (Box4.new w10 x 39).on ((Below.refl _ _).alloc (Nat.le_refl _) (.cells #[.int .u64 x.n, .int .u8 x.node, .int .u32 x.inc, .int .u32 x.seq] 39)) (by simp)
  have K11 := Box4.new (w10.alloc (.cells #[.int .u64 x.n, .int .u8 x.node, .int .u32 x.inc, .int .u32 x.seq] 39)) x 39
  rw [World.size_alloc] at K11
  have hs10 : s7 + 1 ≤ w10.heap.size := e5 ▸ C5.size
  clear p0 p1 p2 p3 r0 r1 r2 r3 p0' p1' p2' p3' p0'' p1'' p2'' p3'' r0'' r1'' r2'' r3'' D C5 F5 F7
  generalize ((w10.alloc (.cells #[.int .u64 x.n, .int .u8 x.node, .int .u32 x.inc, .int .u32 x.seq] 39)).alloc (.cells #[.int .u64 x.n, .int .u8 x.node, .int .u32 x.inc, .int .u32 x.seq] 39)) = v10 at *
  generalize w10.heap.size = s9 at *
  refine (order_calls y x _).mono ?_
  rintro e w11 ⟨rfl, hg⟩
  have b : RowKit.Below v10.heap.size v10 w11 := below_grown (Below.refl _ _) (Nat.le_refl _) hg
  have C8 := C6.trans (b.mono (e5 ▸ C6.size))
  have N5 := K5.on b K5.2.2
  have N9 := K9.on b K9.2.2
  have N11 := K11.on b K11.2.2
  clear C6 K5 K7 K9 K11 b hg
  have hd : decide (ordQ y x < 0) = false := decide_eq_false (by omega)
  go_wp2_with fail
  refine (SA.out _ (RA.out.on C8 (Nat.le_of_eq e5))).mono ?_
  rintro e w13 ⟨g5, k5, rfl, hq, b⟩
  have C9 := C8.trans (b.mono (e5 ▸ C8.size))
  have M5 := N5.on b N5.2.2
  have M9 := N9.on b N9.2.2
  have M11 := N11.on b N11.2.2
  clear N5 N9 N11 b C8
  go_wp2_with fail
  refine (SO.out g5 k5 _ hq).mono ?_
  rintro e w14 ⟨g6, k6, rfl, hH, _, hg1, b⟩
  have C10 := C9.trans (b.mono (e5 ▸ C9.size))
  have BN : Bun w14 s5 s9 (s9 + 1) g6 x x x (srt A) := ⟨M5.on b M5.2.2, M9.on b M9.2.2, M11.on b M11.2.2, qs_of_holds hg1 hH⟩
  clear M5 M9 M11 b C9 hq hH hg1
  go_wp2_with fail
  have b0 := BN.all HD.out
  go_region_held3 (fun w' => (w'.cell? ⟨s5, 0, none⟩ = some (.int .u64 x.n) ∧ w'.cell? ⟨s5, 1, none⟩ = some (.int .u8 x.node) ∧ w'.cell? ⟨s5, 2, none⟩ = some (.int .u32 x.inc) ∧ w'.cell? ⟨s5, 3, none⟩ = some (.int .u32 x.seq)) ∧ (w'.cell? ⟨s9, 0, none⟩ = some (.int .u64 x.n) ∧ w'.cell? ⟨s9, 1, none⟩ = some (.int .u8 x.node) ∧ w'.cell? ⟨s9, 2, none⟩ = some (.int .u32 x.inc) ∧ w'.cell? ⟨s9, 3, none⟩ = some (.int .u32 x.seq)) ∧ (w'.cell? ⟨(s9 + 1), 0, none⟩ = some (.int .u64 x.n) ∧ w'.cell? ⟨(s9 + 1), 1, none⟩ = some (.int .u8 x.node) ∧ w'.cell? ⟨(s9 + 1), 2, none⟩ = some (.int .u32 x.inc) ∧ w'.cell? ⟨(s9 + 1), 3, none⟩ = some (.int .u32 x.seq)) ∧ (w'.cell? ⟨g6, 0, none⟩ = some (.int .u64 x.n) ∧ w'.cell? ⟨g6, 1, none⟩ = some (.int .u8 x.node) ∧ w'.cell? ⟨g6, 2, none⟩ = some (.int .u32 x.inc) ∧ w'.cell? ⟨g6, 3, none⟩ = some (.int .u32 x.seq)))
    (first | exact b0 | exact b1 | exact b2 | exact b3 | exact b4)
    (first
      | (have hh := b1; clear hh; go_at_call 19; refine (SM.out _ _ k8 k9 _ q8 q9).mono ?_; rintro e x4 ⟨rfl, hX4⟩; have BN4 := BN3.on hX4; have b4 := BN4.all HD.out; have C14 := C13.trans (hX4.mono (e5 ▸ C13.size)))
      | (have hh := q80; clear hh; go_at_call 20; refine (BK.out g6 k6 _ BN2.s).mono ?_; rintro e x3 ⟨ao3, k9, rfl, q9, hX3⟩; have BN3 := BN2.on hX3; have b3 := BN3.all HD.out; have q8 := q80.on hX3 (Nat.le_refl _); have C13 := C12.trans (hX3.mono (e5 ▸ C12.size)))
      | (go_at_call 20; refine (BK.out g7 k7 _ q7).mono ?_; rintro e x2 ⟨ao2, k8, rfl, q80, hX2⟩; have BN2 := BN1.on hX2; have b2 := BN2.all HD.out; have C12 := C11.trans (hX2.mono (e5 ▸ C11.size)))
      | (go_at_call 16; refine (SS.out g6 k6 _ (BN.s.on (Below.refl _ _).drew (Nat.le_refl _))).mono ?_; rintro e x1 ⟨g7, k7, rfl, hH7, _, hg7, hX1⟩; have BN1 := (BN.on (Below.refl _ _).drew).on hX1; have b1 := BN1.all HD.out; have C11 := C10.drew.trans (hX1.mono (e5 ▸ C10.size)); have q7 : Qs x1 (some ⟨g7, 0, none⟩) (srt A) := (by have hq7 := qs_of_holds hg7 hH7; rwa [HSS.out] at hq7); clear hH7))
  go_wp2_with fail
  go_ret
  exact ⟨rfl, h6.trans (C14.mono (by omega))⟩

set_option maxRecDepth 100000 in
set_option maxHeartbeats 8000000 in
theorem eldest_only (hS : SortsQ) (ao bo : Option Addr) (n m c d : Nat) (la lb : List Q) (w : World) (hnc : n ≤ c) (hmd : m ≤ d) (_hc : c ≤ maxLen) (_hd : d ≤ maxLen) (hla : la.length = n) (hlb : lb.length = m) (ha : Qs w ao la) (hb : Qs w bo lb)
    (hoA : decide (0 < min n 60) = true) (hoB : decide (0 < min m 60) = false) :
    Calls Try.prog 6 #[.slice ao n c, .slice bo m d] w fun e w' => e = .returned (.bool true) ∧ Below w.heap.size w w' := by
  unfold maxLen at _hc _hd
  obtain ⟨n', hn'⟩ : ∃ n', n' = min n 60 := ⟨_, rfl⟩
  obtain ⟨m', hm'⟩ : ∃ m', m' = min m 60 := ⟨_, rfl⟩
  have en : (min (n : Int) 60).toNat = n' := by omega
  have em : (min (m : Int) 60).toNat = m' := by omega
  have q1 : (min (n : Int) 60) ≤ c := by omega
  have q2 : (min (m : Int) 60) ≤ d := by omega
  have q3 : 0 ≤ (min (n : Int) 60) := by omega
  have q4 : 0 ≤ (min (m : Int) 60) := by omega
  have la' : (la.take 60).length = n' := by rw [List.length_take]; omega
  have lb' : (lb.take 60).length = m' := by rw [List.length_take]; omega
  have ra0 := ha.take 60
  have rb0 := hb.take 60
  clear ha hb hla hlb
  generalize la.take 60 = A at *
  generalize lb.take 60 = B at *
  have hn6 : n' ≤ 60 := by omega
  have hm6 : m' ≤ 60 := by omega
  obtain ⟨oa, hoa⟩ : ∃ z, z = decide (0 < n') := ⟨_, rfl⟩
  obtain ⟨ob, hob⟩ : ∃ z, z = decide (0 < m') := ⟨_, rfl⟩
  obtain ⟨oz, hoz⟩ : ∃ z, z = decide (0 < n' + m') := ⟨_, rfl⟩
  have SA := Lib.hid (fun w h => stamps_q ao n' c A w (by omega) la' h)
  have SB := Lib.hid (fun w h => stamps_q bo m' d B w (by omega) lb' h)
  have EA := Lib.hid (fun g cap w h => eldest_q (some ⟨g, 0, none⟩) n' cap A w (by unfold maxLen; omega) la' h oa hoa)
  have EB := Lib.hid (fun g cap w h => eldest_q (some ⟨g, 0, none⟩) m' cap B w (by unfold maxLen; omega) lb' h ob hob)
  have EZ := Lib.hid (fun g cap w h => eldest_q (some ⟨g, 0, none⟩) (n' + m') cap (A ++ B) w (by unfold maxLen; omega) (by rw [List.length_append, la', lb']) h oz hoz)
  have SO := Lib.hid (fun g cap w h => sort_any hS g 0 n' cap A w (by omega) la' h)
  have LS : (srt A).length = n' := by rw [srt_length]; exact la'
  have SS := Lib.hid (fun g cap w h => sort_any hS g 0 n' cap (srt A) w (by omega) LS h)
  have HSS := Lib.hid (srt_srt A)
  have BK := Lib.hid (fun g cap w h => back_q (some ⟨g, 0, none⟩) n' cap (srt A) w (by omega) LS h)
  have SM := Lib.hid (fun ao bo c d w h h' => same_true ao bo n' c d (srt A) w (by omega) LS h h')
  have MA := eldest_math A B oa ob oz (by rw [la']; exact hoa) (by rw [lb']; exact hob) (by rw [la', lb']; exact hoz)
  have LA := Lib.hid la'
  have LB := Lib.hid lb'
  have LSh := Lib.hid LS
  have NM := Lib.hid (And.intro hn6 hm6)
  have RA0 := Lib.hid ra0
  have RB0 := Lib.hid rb0
  obtain rfl : oa = true := by rw [hoa, hn']; exact hoA
  obtain rfl : ob = false := by rw [hob, hm']; exact hoB
  have hpos : 0 < n' := by rw [hn']; exact of_decide_eq_true hoA
  have hne : ((n' : Int) == 0) = false := by rw [beq_eq_false_iff_ne]; omega
  have HD : Hid (∃ r, srt A = minQ A :: r) := Lib.hid (by
    cases hs : srt A with
    | nil => rw [hs] at LS; simp at LS; omega
    | cons a r => exact ⟨r, by rw [srt_head hs]⟩)
  obtain ⟨ez, hz⟩ := MA.1 rfl
  obtain rfl : oz = true := ez
  rw [hz] at EZ
  clear MA hoA hoB hoa hob hoz la' lb' LS hz ra0 rb0 hn6 hm6
  generalize minQ A = x at *
  generalize minQ B = y at *
  clear hn' hm'
  go_enter Try.func6, Try.ntmps6
  go_wp2_with fail
  refine (awake_any _).mono ?_
  rintro e w1 ⟨rfl, hB1⟩
  go_wp2_with fail
  go_region
  have h0 := hB1.drew
  have RA := Lib.hid (RA0.out.on h0 (Nat.le_refl _))
  have RB := Lib.hid (RB0.out.on h0 (Nat.le_refl _))
  clear hB1 RA0 RB0
  generalize w1.drew = v1 at *
  go_wp2_with fail
  refine (SA.out _ RA.out).mono ?_
  rintro e w2 ⟨g, k, rfl, hq, b⟩
  have h1 := h0.trans (b.mono h0.size)
  have RA1 := Lib.hid (RA.out.on b (Nat.le_refl _))
  have RB1 := Lib.hid (RB.out.on b (Nat.le_refl _))
  clear RA RB b h0
  go_wp2_with fail
  refine (EA.out g k _ hq).mono ?_
  rintro e w3 ⟨rfl, b⟩
  have h2 := h1.trans (b.mono h1.size)
  have RA := Lib.hid (RA1.out.on b (Nat.le_refl _))
  have RB := Lib.hid (RB1.out.on b (Nat.le_refl _))
  clear RA1 RB1 b h1 hq
  unfold aggQ at *
  go_wp2_with fail
  have h3 := h2.alloc h2.size (.cells #[.int .u64 x.n, .int .u8 x.node, .int .u32 x.inc, .int .u32 x.seq] 39)
  have RA1 := Lib.hid (RA.out.on ((Below.refl w3.heap.size w3).alloc (Nat.le_refl _) (.cells #[.int .u64 x.n, .int .u8 x.node, .int .u32 x.inc, .int .u32 x.seq] 39)) (Nat.le_refl _))
  have RB1 := Lib.hid (RB.out.on ((Below.refl w3.heap.size w3).alloc (Nat.le_refl _) (.cells #[.int .u64 x.n, .int .u8 x.node, .int .u32 x.inc, .int .u32 x.seq] 39)) (Nat.le_refl _))
  have B5 := Box4.new w3 x 39
  have l5 := h2.size
  clear h2 RA RB
  generalize (w3.alloc (.cells #[.int .u64 x.n, .int .u8 x.node, .int .u32 x.inc, .int .u32 x.seq] 39)) = v3 at *
  generalize w3.heap.size = s5 at *
  refine (SB.out _ RB1.out).mono ?_
  rintro e w4 ⟨g', k', rfl, hq, b⟩
  have h4 := h3.trans (b.mono h3.size)
  have B5' := B5.on b B5.2.2
  have RA := Lib.hid (RA1.out.on b (Nat.le_refl _))
  have RB := Lib.hid (RB1.out.on b (Nat.le_refl _))
  clear RA1 RB1 b h3 B5
  go_wp2_with fail
  refine (EB.out g' k' _ hq).mono ?_
  rintro e w5 ⟨rfl, b⟩
  have h5 := h4.trans (b.mono h4.size)
  have B5 := B5'.on b B5'.2.2
  have RA1 := Lib.hid (RA.out.on b (Nat.le_refl _))
  have RB1 := Lib.hid (RB.out.on b (Nat.le_refl _))
  clear RA RB b h4 B5' hq
  unfold aggQ at *
  go_wp2_with fail
  have al := fun (l : List Q) (ao : Option Addr) (h : Qs w5 ao l) => h.on (((Below.refl w5.heap.size w5).alloc (Nat.le_refl _) (.cells #[.int .u64 y.n, .int .u8 y.node, .int .u32 y.inc, .int .u32 y.seq] 39))) (Nat.le_refl _)
  have h6 := h5.alloc h5.size (.cells #[.int .u64 y.n, .int .u8 y.node, .int .u32 y.inc, .int .u32 y.seq] 39)
  have RA := Lib.hid (al _ _ RA1.out)
  have RB := Lib.hid (al _ _ RB1.out)
  have B7 := Box4.new w5 y 39
  have B5' := B5.on ((Below.refl w5.heap.size w5).alloc (Nat.le_refl _) (.cells #[.int .u64 y.n, .int .u8 y.node, .int .u32 y.inc, .int .u32 y.seq] 39)) B5.2.2
  have l7 := h5.size
  have n57 : s5 < w5.heap.size := B5.2.2
  have e5 : (w5.alloc (.cells #[.int .u64 y.n, .int .u8 y.node, .int .u32 y.inc, .int .u32 y.seq] 39)).heap.size = w5.heap.size + 1 := World.size_alloc _ _
  clear h5 RA1 RB1 al B5
  generalize (w5.alloc (.cells #[.int .u64 y.n, .int .u8 y.node, .int .u32 y.inc, .int .u32 y.seq] 39)) = v5 at *
  generalize w5.heap.size = s7 at *
  have C0 : RowKit.Below (s7 + 1) v5 (v5.alloc (.cells #[] 39)) := (Below.refl _ _).alloc (Nat.le_of_eq e5.symm) _
  have O0 := lit_row v5
  rw [e5] at O0
  generalize (v5.alloc (.cells #[] 39)) = v6 at *
  refine (SA.out _ (RA.out.on C0 (Nat.le_of_eq e5))).mono ?_
  rintro e w6 ⟨g1, k1, rfl, hq, b⟩
  have C1 := C0.trans (b.mono (e5 ▸ C0.size))
  have O1 := row_on O0 b
  have nm := NM.out
  clear O0 C0 b
  go_wp2_with (at_builtin; refine app_any _ rfl (.tmp 39) (.tmp 41) rfl (s7 + 1) (s7 + 1) 0 0 [] A rfl O1 ⟨g1, 0, none⟩ n' k1 rfl LA.out hq (by omega) (e5 ▸ C1.size) ?_; intro g2 c2 w7 O2 G2)
  have C2 : RowKit.Below (s7 + 1) v5 w7 := grown_own C1 O1 G2 (e5 ▸ C1.size)
  clear C1 O1 G2 hq
  refine (SB.out _ (RB.out.on C2 (Nat.le_of_eq e5))).mono ?_
  rintro e w8 ⟨g3, k3, rfl, hq, b⟩
  have C3 := C2.trans (b.mono (e5 ▸ C2.size))
  have O3 : w8.ownsRow (s7 + 1) 39 4 (.slice (some ⟨g2, 0, none⟩) n' c2) n' (flat A) := row_on (by simpa [flat] using O2) b
  clear C2 O2 b
  go_wp2_with (at_builtin; refine app_any _ rfl (.tmp 42) (.tmp 44) rfl (s7 + 1) g2 n' c2 A B rfl O3 ⟨g3, 0, none⟩ m' k3 rfl LB.out hq (by omega) (e5 ▸ C3.size) ?_; intro g4 c4 w9 O4 G4)
  have C4 : RowKit.Below (s7 + 1) v5 w9 := grown_own C3 O3 G4 (e5 ▸ C3.size)
  clear C3 O3 G4 hq
  refine (EZ.out g4 c4 _ (Qs.of_row (by rw [flat_app]; exact O4) (by rw [List.length_append, LA.out, LB.out]))).mono ?_
  rintro e w10 ⟨rfl, b⟩
  have C5 := C4.trans (b.mono (e5 ▸ C4.size))
  clear C4 O4 b
  have E5 := B5'.on C5 (by omega)
  have E7 := B7.on C5 (by omega)
  have F5 := Lib.hid E5
  have F7 := Lib.hid E7
  obtain ⟨⟨p0, p1, p2, p3⟩, _, _⟩ := E5
  obtain ⟨⟨r0, r1, r2, r3⟩, _, _⟩ := E7
  have p0' := fun o => cell_old p0 (o := o)
  have p1' := fun o => cell_old p1 (o := o)
  have p2' := fun o => cell_old p2 (o := o)
  have p3' := fun o => cell_old p3 (o := o)
  have p0'' := fun o o' => cell_old (p0' o) (o := o')
  have p1'' := fun o o' => cell_old (p1' o) (o := o')
  have p2'' := fun o o' => cell_old (p2' o) (o := o')
  have p3'' := fun o o' => cell_old (p3' o) (o := o')
  have r0'' := fun o o' => cell_old (cell_old r0 (o := o)) (o := o')
  have r1'' := fun o o' => cell_old (cell_old r1 (o := o)) (o := o')
  have r2'' := fun o o' => cell_old (cell_old r2 (o := o)) (o := o')
  have r3'' := fun o o' => cell_old (cell_old r3 (o := o)) (o := o')
  clear B5' B7
  go_wp2_with fail
  have C6 := (C5.alloc (e5 ▸ C5.size) (.cells #[.int .u64 x.n, .int .u8 x.node, .int .u32 x.inc, .int .u32 x.seq] 39)).alloc (by rw [World.size_alloc]; exact Nat.le_succ_of_le (e5 ▸ C5.size)) (.cells #[.int .u64 x.n, .int .u8 x.node, .int .u32 x.inc, .int .u32 x.seq] 39)
  have D := ((Below.refl w10.heap.size w10).alloc (Nat.le_refl _) (.cells #[.int .u64 x.n, .int .u8 x.node, .int .u32 x.inc, .int .u32 x.seq] 39)).alloc (by simp) (.cells #[.int .u64 x.n, .int .u8 x.node, .int .u32 x.inc, .int .u32 x.seq] 39)
  have K5 := F5.out.on D F5.out.2.2
  have K7 := F7.out.on D F7.out.2.2
  have K9 := (Box4.new w10 x 39).on ((Below.refl _ _).alloc (Nat.le_refl _) (.cells #[.int .u64 x.n, .int .u8 x.node, .int .u32 x.inc, .int .u32 x.seq] 39)) (by simp)
  have K11 := Box4.new (w10.alloc (.cells #[.int .u64 x.n, .int .u8 x.node, .int .u32 x.inc, .int .u32 x.seq] 39)) x 39
  rw [World.size_alloc] at K11
  have hs10 : s7 + 1 ≤ w10.heap.size := e5 ▸ C5.size
  clear p0 p1 p2 p3 r0 r1 r2 r3 p0' p1' p2' p3' p0'' p1'' p2'' p3'' r0'' r1'' r2'' r3'' D C5 F5 F7
  generalize ((w10.alloc (.cells #[.int .u64 x.n, .int .u8 x.node, .int .u32 x.inc, .int .u32 x.seq] 39)).alloc (.cells #[.int .u64 x.n, .int .u8 x.node, .int .u32 x.inc, .int .u32 x.seq] 39)) = v10 at *
  generalize w10.heap.size = s9 at *
  have C8 := C6
  have N5 := K5
  have N9 := K9
  have N11 := K11
  clear C6 K5 K7 K9 K11
  refine (SA.out _ (RA.out.on C8 (Nat.le_of_eq e5))).mono ?_
  rintro e w13 ⟨g5, k5, rfl, hq, b⟩
  have C9 := C8.trans (b.mono (e5 ▸ C8.size))
  have M5 := N5.on b N5.2.2
  have M9 := N9.on b N9.2.2
  have M11 := N11.on b N11.2.2
  clear N5 N9 N11 b C8
  go_wp2_with fail
  refine (SO.out g5 k5 _ hq).mono ?_
  rintro e w14 ⟨g6, k6, rfl, hH, _, hg1, b⟩
  have C10 := C9.trans (b.mono (e5 ▸ C9.size))
  have BN : Bun w14 s5 s9 (s9 + 1) g6 x x x (srt A) := ⟨M5.on b M5.2.2, M9.on b M9.2.2, M11.on b M11.2.2, qs_of_holds hg1 hH⟩
  clear M5 M9 M11 b C9 hq hH hg1
  go_wp2_with fail
  have b0 := BN.all HD.out
  go_region_held3 (fun w' => (w'.cell? ⟨s5, 0, none⟩ = some (.int .u64 x.n) ∧ w'.cell? ⟨s5, 1, none⟩ = some (.int .u8 x.node) ∧ w'.cell? ⟨s5, 2, none⟩ = some (.int .u32 x.inc) ∧ w'.cell? ⟨s5, 3, none⟩ = some (.int .u32 x.seq)) ∧ (w'.cell? ⟨s9, 0, none⟩ = some (.int .u64 x.n) ∧ w'.cell? ⟨s9, 1, none⟩ = some (.int .u8 x.node) ∧ w'.cell? ⟨s9, 2, none⟩ = some (.int .u32 x.inc) ∧ w'.cell? ⟨s9, 3, none⟩ = some (.int .u32 x.seq)) ∧ (w'.cell? ⟨(s9 + 1), 0, none⟩ = some (.int .u64 x.n) ∧ w'.cell? ⟨(s9 + 1), 1, none⟩ = some (.int .u8 x.node) ∧ w'.cell? ⟨(s9 + 1), 2, none⟩ = some (.int .u32 x.inc) ∧ w'.cell? ⟨(s9 + 1), 3, none⟩ = some (.int .u32 x.seq)) ∧ (w'.cell? ⟨g6, 0, none⟩ = some (.int .u64 x.n) ∧ w'.cell? ⟨g6, 1, none⟩ = some (.int .u8 x.node) ∧ w'.cell? ⟨g6, 2, none⟩ = some (.int .u32 x.inc) ∧ w'.cell? ⟨g6, 3, none⟩ = some (.int .u32 x.seq)))
    (first | exact b0 | exact b1 | exact b2 | exact b3 | exact b4)
    (first
      | (have hh := b1; clear hh; go_at_call 19; refine (SM.out _ _ k8 k9 _ q8 q9).mono ?_; rintro e x4 ⟨rfl, hX4⟩; have BN4 := BN3.on hX4; have b4 := BN4.all HD.out; have C14 := C13.trans (hX4.mono (e5 ▸ C13.size)))
      | (have hh := q80; clear hh; go_at_call 20; refine (BK.out g6 k6 _ BN2.s).mono ?_; rintro e x3 ⟨ao3, k9, rfl, q9, hX3⟩; have BN3 := BN2.on hX3; have b3 := BN3.all HD.out; have q8 := q80.on hX3 (Nat.le_refl _); have C13 := C12.trans (hX3.mono (e5 ▸ C12.size)))
      | (go_at_call 20; refine (BK.out g7 k7 _ q7).mono ?_; rintro e x2 ⟨ao2, k8, rfl, q80, hX2⟩; have BN2 := BN1.on hX2; have b2 := BN2.all HD.out; have C12 := C11.trans (hX2.mono (e5 ▸ C11.size)))
      | (go_at_call 16; refine (SS.out g6 k6 _ (BN.s.on (Below.refl _ _).drew (Nat.le_refl _))).mono ?_; rintro e x1 ⟨g7, k7, rfl, hH7, _, hg7, hX1⟩; have BN1 := (BN.on (Below.refl _ _).drew).on hX1; have b1 := BN1.all HD.out; have C11 := C10.drew.trans (hX1.mono (e5 ▸ C10.size)); have q7 : Qs x1 (some ⟨g7, 0, none⟩) (srt A) := (by have hq7 := qs_of_holds hg7 hH7; rwa [HSS.out] at hq7); clear hH7))
  go_wp2_with fail
  go_ret
  exact ⟨rfl, h6.trans (C14.mono (by omega))⟩

set_option maxRecDepth 100000 in
set_option maxHeartbeats 8000000 in
theorem eldest_no (hS : SortsQ) (ao bo : Option Addr) (n m c d : Nat) (la lb : List Q) (w : World) (hnc : n ≤ c) (hmd : m ≤ d) (_hc : c ≤ maxLen) (_hd : d ≤ maxLen) (hla : la.length = n) (hlb : lb.length = m) (ha : Qs w ao la) (hb : Qs w bo lb)
    (hoA : decide (0 < min n 60) = false) (hoB : decide (0 < min m 60) = false) :
    Calls Try.prog 6 #[.slice ao n c, .slice bo m d] w fun e w' => e = .returned (.bool true) ∧ Below w.heap.size w w' := by
  unfold maxLen at _hc _hd
  obtain ⟨n', hn'⟩ : ∃ n', n' = min n 60 := ⟨_, rfl⟩
  obtain ⟨m', hm'⟩ : ∃ m', m' = min m 60 := ⟨_, rfl⟩
  have en : (min (n : Int) 60).toNat = n' := by omega
  have em : (min (m : Int) 60).toNat = m' := by omega
  have q1 : (min (n : Int) 60) ≤ c := by omega
  have q2 : (min (m : Int) 60) ≤ d := by omega
  have q3 : 0 ≤ (min (n : Int) 60) := by omega
  have q4 : 0 ≤ (min (m : Int) 60) := by omega
  have la' : (la.take 60).length = n' := by rw [List.length_take]; omega
  have lb' : (lb.take 60).length = m' := by rw [List.length_take]; omega
  have ra0 := ha.take 60
  have rb0 := hb.take 60
  clear ha hb hla hlb
  generalize la.take 60 = A at *
  generalize lb.take 60 = B at *
  have hn6 : n' ≤ 60 := by omega
  have hm6 : m' ≤ 60 := by omega
  obtain ⟨oa, hoa⟩ : ∃ z, z = decide (0 < n') := ⟨_, rfl⟩
  obtain ⟨ob, hob⟩ : ∃ z, z = decide (0 < m') := ⟨_, rfl⟩
  obtain ⟨oz, hoz⟩ : ∃ z, z = decide (0 < n' + m') := ⟨_, rfl⟩
  have SA := Lib.hid (fun w h => stamps_q ao n' c A w (by omega) la' h)
  have SB := Lib.hid (fun w h => stamps_q bo m' d B w (by omega) lb' h)
  have EA := Lib.hid (fun g cap w h => eldest_q (some ⟨g, 0, none⟩) n' cap A w (by unfold maxLen; omega) la' h oa hoa)
  have EB := Lib.hid (fun g cap w h => eldest_q (some ⟨g, 0, none⟩) m' cap B w (by unfold maxLen; omega) lb' h ob hob)
  have EZ := Lib.hid (fun g cap w h => eldest_q (some ⟨g, 0, none⟩) (n' + m') cap (A ++ B) w (by unfold maxLen; omega) (by rw [List.length_append, la', lb']) h oz hoz)
  have SO := Lib.hid (fun g cap w h => sort_any hS g 0 n' cap A w (by omega) la' h)
  have LS : (srt A).length = n' := by rw [srt_length]; exact la'
  have SS := Lib.hid (fun g cap w h => sort_any hS g 0 n' cap (srt A) w (by omega) LS h)
  have HSS := Lib.hid (srt_srt A)
  have BK := Lib.hid (fun g cap w h => back_q (some ⟨g, 0, none⟩) n' cap (srt A) w (by omega) LS h)
  have SM := Lib.hid (fun ao bo c d w h h' => same_true ao bo n' c d (srt A) w (by omega) LS h h')
  have MA := eldest_math A B oa ob oz (by rw [la']; exact hoa) (by rw [lb']; exact hob) (by rw [la', lb']; exact hoz)
  have LA := Lib.hid la'
  have LB := Lib.hid lb'
  have LSh := Lib.hid LS
  have NM := Lib.hid (And.intro hn6 hm6)
  have RA0 := Lib.hid ra0
  have RB0 := Lib.hid rb0
  obtain rfl : oa = false := by rw [hoa, hn']; exact hoA
  obtain rfl : ob = false := by rw [hob, hm']; exact hoB
  have hnil : n' = 0 := by rw [hn']; have := of_decide_eq_false hoA; omega
  subst hnil
  obtain ⟨ez, hz⟩ := MA.1 rfl
  obtain rfl : oz = false := ez
  rw [hz] at EZ
  clear MA hoA hoB hoa hob hoz la' lb' LS hz ra0 rb0 hn6 hm6
  generalize minQ A = x at *
  generalize minQ B = y at *
  clear hn' hm'
  rw [Nat.zero_add] at EZ
  go_enter Try.func6, Try.ntmps6
  go_wp2_with fail
  refine (awake_any _).mono ?_
  rintro e w1 ⟨rfl, hB1⟩
  go_wp2_with fail
  go_region
  have h0 := hB1.drew
  have RA := Lib.hid (RA0.out.on h0 (Nat.le_refl _))
  have RB := Lib.hid (RB0.out.on h0 (Nat.le_refl _))
  clear hB1 RA0 RB0
  generalize w1.drew = v1 at *
  go_wp2_with fail
  refine (SA.out _ RA.out).mono ?_
  rintro e w2 ⟨g, k, rfl, hq, b⟩
  have h1 := h0.trans (b.mono h0.size)
  have RA1 := Lib.hid (RA.out.on b (Nat.le_refl _))
  have RB1 := Lib.hid (RB.out.on b (Nat.le_refl _))
  clear RA RB b h0
  go_wp2_with fail
  refine (EA.out g k _ hq).mono ?_
  rintro e w3 ⟨rfl, b⟩
  have h2 := h1.trans (b.mono h1.size)
  have RA := Lib.hid (RA1.out.on b (Nat.le_refl _))
  have RB := Lib.hid (RB1.out.on b (Nat.le_refl _))
  clear RA1 RB1 b h1 hq
  unfold aggQ at *
  go_wp2_with fail
  have h3 := h2.alloc h2.size (.cells #[.int .u64 x.n, .int .u8 x.node, .int .u32 x.inc, .int .u32 x.seq] 39)
  have RA1 := Lib.hid (RA.out.on ((Below.refl w3.heap.size w3).alloc (Nat.le_refl _) (.cells #[.int .u64 x.n, .int .u8 x.node, .int .u32 x.inc, .int .u32 x.seq] 39)) (Nat.le_refl _))
  have RB1 := Lib.hid (RB.out.on ((Below.refl w3.heap.size w3).alloc (Nat.le_refl _) (.cells #[.int .u64 x.n, .int .u8 x.node, .int .u32 x.inc, .int .u32 x.seq] 39)) (Nat.le_refl _))
  have B5 := Box4.new w3 x 39
  have l5 := h2.size
  clear h2 RA RB
  generalize (w3.alloc (.cells #[.int .u64 x.n, .int .u8 x.node, .int .u32 x.inc, .int .u32 x.seq] 39)) = v3 at *
  generalize w3.heap.size = s5 at *
  refine (SB.out _ RB1.out).mono ?_
  rintro e w4 ⟨g', k', rfl, hq, b⟩
  have h4 := h3.trans (b.mono h3.size)
  have B5' := B5.on b B5.2.2
  have RA := Lib.hid (RA1.out.on b (Nat.le_refl _))
  have RB := Lib.hid (RB1.out.on b (Nat.le_refl _))
  clear RA1 RB1 b h3 B5
  go_wp2_with fail
  refine (EB.out g' k' _ hq).mono ?_
  rintro e w5 ⟨rfl, b⟩
  have h5 := h4.trans (b.mono h4.size)
  have B5 := B5'.on b B5'.2.2
  have RA1 := Lib.hid (RA.out.on b (Nat.le_refl _))
  have RB1 := Lib.hid (RB.out.on b (Nat.le_refl _))
  clear RA RB b h4 B5' hq
  unfold aggQ at *
  go_wp2_with fail
  have al := fun (l : List Q) (ao : Option Addr) (h : Qs w5 ao l) => h.on (((Below.refl w5.heap.size w5).alloc (Nat.le_refl _) (.cells #[.int .u64 y.n, .int .u8 y.node, .int .u32 y.inc, .int .u32 y.seq] 39))) (Nat.le_refl _)
  have h6 := h5.alloc h5.size (.cells #[.int .u64 y.n, .int .u8 y.node, .int .u32 y.inc, .int .u32 y.seq] 39)
  have RA := Lib.hid (al _ _ RA1.out)
  have RB := Lib.hid (al _ _ RB1.out)
  have B7 := Box4.new w5 y 39
  have B5' := B5.on ((Below.refl w5.heap.size w5).alloc (Nat.le_refl _) (.cells #[.int .u64 y.n, .int .u8 y.node, .int .u32 y.inc, .int .u32 y.seq] 39)) B5.2.2
  have l7 := h5.size
  have n57 : s5 < w5.heap.size := B5.2.2
  have e5 : (w5.alloc (.cells #[.int .u64 y.n, .int .u8 y.node, .int .u32 y.inc, .int .u32 y.seq] 39)).heap.size = w5.heap.size + 1 := World.size_alloc _ _
  clear h5 RA1 RB1 al B5
  generalize (w5.alloc (.cells #[.int .u64 y.n, .int .u8 y.node, .int .u32 y.inc, .int .u32 y.seq] 39)) = v5 at *
  generalize w5.heap.size = s7 at *
  have C0 : RowKit.Below (s7 + 1) v5 (v5.alloc (.cells #[] 39)) := (Below.refl _ _).alloc (Nat.le_of_eq e5.symm) _
  have O0 := lit_row v5
  rw [e5] at O0
  generalize (v5.alloc (.cells #[] 39)) = v6 at *
  refine (SA.out _ (RA.out.on C0 (Nat.le_of_eq e5))).mono ?_
  rintro e w6 ⟨g1, k1, rfl, hq, b⟩
  have C1 := C0.trans (b.mono (e5 ▸ C0.size))
  have O1 := row_on O0 b
  have nm := NM.out
  clear O0 C0 b
  go_wp2_with (at_builtin; refine app_any _ rfl (.tmp 39) (.tmp 41) rfl (s7 + 1) (s7 + 1) 0 0 [] A rfl O1 ⟨g1, 0, none⟩ 0 k1 rfl LA.out hq (by omega) (e5 ▸ C1.size) ?_; intro g2 c2 w7 O2 G2)
  have C2 : RowKit.Below (s7 + 1) v5 w7 := grown_own C1 O1 G2 (e5 ▸ C1.size)
  clear C1 O1 G2 hq
  refine (SB.out _ (RB.out.on C2 (Nat.le_of_eq e5))).mono ?_
  rintro e w8 ⟨g3, k3, rfl, hq, b⟩
  have C3 := C2.trans (b.mono (e5 ▸ C2.size))
  have O3 : w8.ownsRow (s7 + 1) 39 4 (.slice (some ⟨g2, 0, none⟩) 0 c2) 0 (flat A) := row_on (by simpa [flat] using O2) b
  clear C2 O2 b
  go_wp2_with (at_builtin; refine app_any _ rfl (.tmp 42) (.tmp 44) rfl (s7 + 1) g2 0 c2 A B rfl O3 ⟨g3, 0, none⟩ m' k3 rfl LB.out hq (by omega) (e5 ▸ C3.size) ?_; intro g4 c4 w9 O4 G4)
  have C4 : RowKit.Below (s7 + 1) v5 w9 := grown_own C3 O3 G4 (e5 ▸ C3.size)
  clear C3 O3 G4 hq
  refine (EZ.out g4 c4 _ (Qs.of_row (by rw [flat_app]; rw [Nat.zero_add] at O4; exact O4) (by rw [List.length_append, LA.out, LB.out, Nat.zero_add]))).mono ?_
  rintro e w10 ⟨rfl, b⟩
  have C5 := C4.trans (b.mono (e5 ▸ C4.size))
  clear C4 O4 b
  have E5 := B5'.on C5 (by omega)
  have E7 := B7.on C5 (by omega)
  have F5 := Lib.hid E5
  have F7 := Lib.hid E7
  obtain ⟨⟨p0, p1, p2, p3⟩, _, _⟩ := E5
  obtain ⟨⟨r0, r1, r2, r3⟩, _, _⟩ := E7
  have p0' := fun o => cell_old p0 (o := o)
  have p1' := fun o => cell_old p1 (o := o)
  have p2' := fun o => cell_old p2 (o := o)
  have p3' := fun o => cell_old p3 (o := o)
  have p0'' := fun o o' => cell_old (p0' o) (o := o')
  have p1'' := fun o o' => cell_old (p1' o) (o := o')
  have p2'' := fun o o' => cell_old (p2' o) (o := o')
  have p3'' := fun o o' => cell_old (p3' o) (o := o')
  have r0'' := fun o o' => cell_old (cell_old r0 (o := o)) (o := o')
  have r1'' := fun o o' => cell_old (cell_old r1 (o := o)) (o := o')
  have r2'' := fun o o' => cell_old (cell_old r2 (o := o)) (o := o')
  have r3'' := fun o o' => cell_old (cell_old r3 (o := o)) (o := o')
  clear B5' B7
  go_wp2_with fail
  have C6 := (C5.alloc (e5 ▸ C5.size) (.cells #[.int .u64 x.n, .int .u8 x.node, .int .u32 x.inc, .int .u32 x.seq] 39)).alloc (by rw [World.size_alloc]; exact Nat.le_succ_of_le (e5 ▸ C5.size)) (.cells #[.int .u64 x.n, .int .u8 x.node, .int .u32 x.inc, .int .u32 x.seq] 39)
  have D := ((Below.refl w10.heap.size w10).alloc (Nat.le_refl _) (.cells #[.int .u64 x.n, .int .u8 x.node, .int .u32 x.inc, .int .u32 x.seq] 39)).alloc (by simp) (.cells #[.int .u64 x.n, .int .u8 x.node, .int .u32 x.inc, .int .u32 x.seq] 39)
  have K5 := F5.out.on D F5.out.2.2
  have K7 := F7.out.on D F7.out.2.2
  have K9 := (Box4.new w10 x 39).on ((Below.refl _ _).alloc (Nat.le_refl _) (.cells #[.int .u64 x.n, .int .u8 x.node, .int .u32 x.inc, .int .u32 x.seq] 39)) (by simp)
  have K11 := Box4.new (w10.alloc (.cells #[.int .u64 x.n, .int .u8 x.node, .int .u32 x.inc, .int .u32 x.seq] 39)) x 39
  rw [World.size_alloc] at K11
  have hs10 : s7 + 1 ≤ w10.heap.size := e5 ▸ C5.size
  clear p0 p1 p2 p3 r0 r1 r2 r3 p0' p1' p2' p3' p0'' p1'' p2'' p3'' r0'' r1'' r2'' r3'' D C5 F5 F7
  generalize ((w10.alloc (.cells #[.int .u64 x.n, .int .u8 x.node, .int .u32 x.inc, .int .u32 x.seq] 39)).alloc (.cells #[.int .u64 x.n, .int .u8 x.node, .int .u32 x.inc, .int .u32 x.seq] 39)) = v10 at *
  generalize w10.heap.size = s9 at *
  have C8 := C6
  have N5 := K5
  have N9 := K9
  have N11 := K11
  clear C6 K5 K7 K9 K11
  refine (SA.out _ (RA.out.on C8 (Nat.le_of_eq e5))).mono ?_
  rintro e w13 ⟨g5, k5, rfl, hq, b⟩
  have C9 := C8.trans (b.mono (e5 ▸ C8.size))
  have M5 := N5.on b N5.2.2
  have M9 := N9.on b N9.2.2
  have M11 := N11.on b N11.2.2
  clear N5 N9 N11 b C8
  go_wp2_with fail
  refine (SO.out g5 k5 _ hq).mono ?_
  rintro e w14 ⟨g6, k6, rfl, hH, _, hg1, b⟩
  have C10 := C9.trans (b.mono (e5 ▸ C9.size))
  have BN : Bun w14 s5 s9 (s9 + 1) g6 x x x (srt A) := ⟨M5.on b M5.2.2, M9.on b M9.2.2, M11.on b M11.2.2, qs_of_holds hg1 hH⟩
  clear M5 M9 M11 b C9 hq hH hg1
  go_wp2_with fail
  have b0 := BN.two
  refine wp_region_held_drew (S := (fun w' => (w'.cell? ⟨s9, 0, none⟩ = some (.int .u64 x.n) ∧ w'.cell? ⟨s9, 1, none⟩ = some (.int .u8 x.node) ∧ w'.cell? ⟨s9, 2, none⟩ = some (.int .u32 x.inc) ∧ w'.cell? ⟨s9, 3, none⟩ = some (.int .u32 x.seq)) ∧ (w'.cell? ⟨(s9 + 1), 0, none⟩ = some (.int .u64 x.n) ∧ w'.cell? ⟨(s9 + 1), 1, none⟩ = some (.int .u8 x.node) ∧ w'.cell? ⟨(s9 + 1), 2, none⟩ = some (.int .u32 x.inc) ∧ w'.cell? ⟨(s9 + 1), 3, none⟩ = some (.int .u32 x.seq)))) (by kernel_rfl) b0 (fun hHeld => ?_)
  refine wpAnyH_take (i := 0) (oi := { dst := some 66, op := Op.load 39 (Operand.tmp 9), type := 39, pos := "law.go:164", after := #[], guard := none }) (v := ?_) rfl (by kernel_rfl) (by kernel_rfl) (by kernel_rfl) (fun _ _ _ h => h) (Or.inl ⟨by rfl, ?_⟩) (by assumption) ?_
  rotate_left
  focus (intro w' hSw; (try dsimp only at hSw); go_simp; try with_reducible rfl)
  try simp only [Act.put, List.setIfInBounds_toArray, List.set_cons_zero, List.set_cons_succ]
  refine wpAnyH_take (i := 1) (oi := { dst := some 67, op := Op.load 39 (Operand.tmp 11), type := 39, pos := "law.go:164", after := #[], guard := none }) (v := ?_) rfl (by kernel_rfl) (by kernel_rfl) (by kernel_rfl) (fun _ _ _ h => h) (Or.inl ⟨by rfl, ?_⟩) (by assumption) ?_
  rotate_left
  focus (intro w' hSw; (try dsimp only at hSw); go_simp; try with_reducible rfl)
  try simp only [Act.put, List.setIfInBounds_toArray, List.set_cons_zero, List.set_cons_succ]
  refine wpAnyH_take (i := 2) (oi := { dst := some 68, op := Op.binOp BinOp.eql 39 (Operand.tmp 66) (Operand.tmp 67) 39, type := 4, pos := "law.go:164", after := #[{ on := 0, ground := Ground.data }, { on := 1, ground := Ground.data }], guard := none }) (v := ?_) rfl (by kernel_rfl) (by kernel_rfl) (by kernel_rfl) (fun _ _ _ h => h) (Or.inl ⟨by rfl, ?_⟩) (by assumption) ?_
  rotate_left
  focus (intro w' hSw; (try dsimp only at hSw); go_simp; try with_reducible rfl)
  try simp only [Act.put, List.setIfInBounds_toArray, List.set_cons_zero, List.set_cons_succ]
  refine wpAnyH_take (i := 3) (oi := { dst := some 69, op := Op.move (Operand.tmp 68), type := 4, pos := "law.go:164", after := #[{ on := 2, ground := Ground.data }], guard := none }) (v := ?_) rfl (by kernel_rfl) (by kernel_rfl) (by kernel_rfl) (fun _ _ _ h => h) (Or.inl ⟨by rfl, ?_⟩) (by assumption) ?_
  rotate_left
  focus (intro w' hSw; (try dsimp only at hSw); go_simp; try with_reducible rfl)
  try simp only [Act.put, List.setIfInBounds_toArray, List.set_cons_zero, List.set_cons_succ]
  refine wpAnyH_take (i := 4) (oi := { dst := some 70, op := Op.move (Operand.tmp 10), type := 4, pos := "law.go:164", after := #[{ on := 3, ground := Ground.guard }], guard := some (3, true) }) (v := ?_) rfl (by kernel_rfl) (by kernel_rfl) (by kernel_rfl) (fun _ _ _ h => h) (Or.inl ⟨by rfl, ?_⟩) (by assumption) ?_
  rotate_left
  focus (intro w' hSw; (try dsimp only at hSw); go_simp; try with_reducible rfl)
  try simp only [Act.put, List.setIfInBounds_toArray, List.set_cons_zero, List.set_cons_succ]
  refine wpAnyH_take (i := 5) (oi := { dst := some 71, op := Op.move (Operand.tmp 12), type := 4, pos := "law.go:164", after := #[{ on := 3, ground := Ground.guard }], guard := some (3, true) }) (v := ?_) rfl (by kernel_rfl) (by kernel_rfl) (by kernel_rfl) (fun _ _ _ h => h) (Or.inl ⟨by rfl, ?_⟩) (by assumption) ?_
  rotate_left
  focus (intro w' hSw; (try dsimp only at hSw); go_simp; try with_reducible rfl)
  try simp only [Act.put, List.setIfInBounds_toArray, List.set_cons_zero, List.set_cons_succ]
  refine wpAnyH_take (i := 6) (oi := { dst := some 72, op := Op.binOp BinOp.eql 4 (Operand.tmp 70) (Operand.tmp 71) 4, type := 4, pos := "law.go:164", after := #[{ on := 4, ground := Ground.data }, { on := 5, ground := Ground.data }, { on := 3, ground := Ground.guard }], guard := some (3, true) }) (v := ?_) rfl (by kernel_rfl) (by kernel_rfl) (by kernel_rfl) (fun _ _ _ h => h) (Or.inl ⟨by rfl, ?_⟩) (by assumption) ?_
  rotate_left
  focus (intro w' hSw; (try dsimp only at hSw); go_simp; try with_reducible rfl)
  try simp only [Act.put, List.setIfInBounds_toArray, List.set_cons_zero, List.set_cons_succ]
  refine wpAnyH_take (i := 7) (oi := { dst := some 73, op := Op.pick (Operand.tmp 69) (Operand.tmp 72) (Operand.const (Value.bool false)), type := 4, pos := "law.go:164", after := #[{ on := 3, ground := Ground.data }, { on := 6, ground := Ground.data }], guard := none }) (v := ?_) rfl (by kernel_rfl) (by kernel_rfl) (by kernel_rfl) (fun _ _ _ h => h) (Or.inl ⟨by rfl, ?_⟩) (by assumption) ?_
  rotate_left
  focus (intro w' hSw; (try dsimp only at hSw); go_simp; try with_reducible rfl)
  try simp only [Act.put, List.setIfInBounds_toArray, List.set_cons_zero, List.set_cons_succ]
  refine wpAnyH_take (i := 8) (oi := { dst := some 74, op := Op.move (Operand.tmp 73), type := 4, pos := "law.go:164", after := #[{ on := 7, ground := Ground.data }, { on := 3, ground := Ground.chain }], guard := none }) (v := ?_) rfl (by kernel_rfl) (by kernel_rfl) (by kernel_rfl) (fun _ _ _ h => h) (Or.inl ⟨by rfl, ?_⟩) (by assumption) ?_
  rotate_left
  focus (intro w' hSw; (try dsimp only at hSw); go_simp; try with_reducible rfl)
  try simp only [Act.put, List.setIfInBounds_toArray, List.set_cons_zero, List.set_cons_succ]
  refine wpAnyH_take (i := 9) (oi := { dst := some 75, op := Op.move (Operand.tmp 13), type := 41, pos := "law.go:164", after := #[{ on := 8, ground := Ground.guard }], guard := some (8, true) }) (v := ?_) rfl (by kernel_rfl) (by kernel_rfl) (by kernel_rfl) (fun _ _ _ h => h) (Or.inl ⟨by rfl, ?_⟩) (by assumption) ?_
  rotate_left
  focus (intro w' hSw; (try dsimp only at hSw); go_simp; try with_reducible rfl)
  try simp only [Act.put, List.setIfInBounds_toArray, List.set_cons_zero, List.set_cons_succ]
  refine wpAnyH_take (i := 12) (oi := { dst := some 78, op := Op.move (Operand.tmp 13), type := 41, pos := "law.go:164", after := #[{ on := 8, ground := Ground.guard }], guard := some (8, true) }) (v := ?_) rfl (by kernel_rfl) (by kernel_rfl) (by kernel_rfl) (fun _ _ _ h => h) (Or.inl ⟨by rfl, ?_⟩) (by assumption) ?_
  rotate_left
  focus (intro w' hSw; (try dsimp only at hSw); go_simp; try with_reducible rfl)
  try simp only [Act.put, List.setIfInBounds_toArray, List.set_cons_zero, List.set_cons_succ]
  refine wpAnyH_ready (rs := [10]) (by kernel_rfl) (by simp) ?_
  refine AllReadyH.cons (o := { dst := some 76, op := Op.call { callee := Callee.value (Operand.func 16), args := #[Operand.tmp 75], argTypes := #[41] }, type := 41, pos := "law.go:164", after := #[{ on := 9, ground := Ground.data }, { on := 8, ground := Ground.chain }, { on := 8, ground := Ground.guard }], guard := some (8, true) }) rfl (fun K hK => ?_) AllReadyH.nil
  go_simp
  go_at_call 16; refine (SS.out g6 k6 _ (BN.s.on (Below.refl _ _).drew (Nat.le_refl _))).mono ?_; rintro e x1 ⟨g7, k7, rfl, hH7, _, hg7, hX1⟩; have BN1 := (BN.on (Below.refl _ _).drew).on hX1; have b1 := BN1.two; have C11 := C10.drew.trans (hX1.mono (e5 ▸ C10.size)); have q7 : Qs x1 (some ⟨g7, 0, none⟩) (srt A) := (by have hq7 := qs_of_holds hg7 hH7; rwa [HSS.out] at hq7); clear hH7
  refine hK.out _ _ b1 (fun hHeld => ?_)
  clear hK K
  try simp only [Act.put, List.setIfInBounds_toArray, List.set_cons_zero, List.set_cons_succ]
  refine wpAnyH_ready (rs := [11]) (by kernel_rfl) (by simp) ?_
  refine AllReadyH.cons (o := { dst := some 77, op := Op.call { callee := Callee.value (Operand.func 20), args := #[Operand.tmp 76], argTypes := #[41] }, type := 32, pos := "law.go:164", after := #[{ on := 10, ground := Ground.data }, { on := 10, ground := Ground.chain }, { on := 8, ground := Ground.guard }], guard := some (8, true) }) rfl (fun K hK => ?_) AllReadyH.nil
  go_simp
  go_at_call 20; refine (BK.out g7 k7 _ q7).mono ?_; rintro e x2 ⟨ao2, k8, rfl, q80, hX2⟩; have BN2 := BN1.on hX2; have b2 := BN2.two; have C12 := C11.trans (hX2.mono (e5 ▸ C11.size))
  refine hK.out _ _ b2 (fun hHeld => ?_)
  clear hK K
  try simp only [Act.put, List.setIfInBounds_toArray, List.set_cons_zero, List.set_cons_succ]
  refine wpAnyH_ready (rs := [13]) (by kernel_rfl) (by simp) ?_
  refine AllReadyH.cons (o := { dst := some 79, op := Op.call { callee := Callee.value (Operand.func 20), args := #[Operand.tmp 78], argTypes := #[41] }, type := 32, pos := "law.go:164", after := #[{ on := 12, ground := Ground.data }, { on := 11, ground := Ground.chain }, { on := 8, ground := Ground.guard }], guard := some (8, true) }) rfl (fun K hK => ?_) AllReadyH.nil
  go_simp
  go_at_call 20; refine (BK.out g6 k6 _ BN2.s).mono ?_; rintro e x3 ⟨ao3, k9, rfl, q9, hX3⟩; have BN3 := BN2.on hX3; have b3 := BN3.two; have q8 := q80.on hX3 (Nat.le_refl _); have C13 := C12.trans (hX3.mono (e5 ▸ C12.size))
  refine hK.out _ _ b3 (fun hHeld => ?_)
  clear hK K
  try simp only [Act.put, List.setIfInBounds_toArray, List.set_cons_zero, List.set_cons_succ]
  refine wpAnyH_ready (rs := [14]) (by kernel_rfl) (by simp) ?_
  refine AllReadyH.cons (o := { dst := some 80, op := Op.call { callee := Callee.value (Operand.func 19), args := #[Operand.tmp 77, Operand.tmp 79], argTypes := #[32, 32] }, type := 4, pos := "law.go:164", after := #[{ on := 11, ground := Ground.data }, { on := 13, ground := Ground.data }, { on := 13, ground := Ground.chain }, { on := 8, ground := Ground.guard }], guard := some (8, true) }) rfl (fun K hK => ?_) AllReadyH.nil
  go_simp
  go_at_call 19; refine (SM.out _ _ k8 k9 _ q8 q9).mono ?_; rintro e x4 ⟨rfl, hX4⟩; have BN4 := BN3.on hX4; have b4 := BN4.two; have C14 := C13.trans (hX4.mono (e5 ▸ C13.size))
  refine hK.out _ _ b4 (fun hHeld => ?_)
  clear hK K
  try simp only [Act.put, List.setIfInBounds_toArray, List.set_cons_zero, List.set_cons_succ]
  refine wpAnyH_take (i := 15) (oi := { dst := some 81, op := Op.pick (Operand.tmp 74) (Operand.tmp 80) (Operand.const (Value.bool false)), type := 4, pos := "law.go:164", after := #[{ on := 8, ground := Ground.data }, { on := 14, ground := Ground.data }], guard := none }) (v := ?_) rfl (by kernel_rfl) (by kernel_rfl) (by kernel_rfl) (fun _ _ _ h => h) (Or.inl ⟨by rfl, ?_⟩) (by assumption) ?_
  rotate_left
  focus (intro w' hSw; (try dsimp only at hSw); go_simp; try with_reducible rfl)
  try simp only [Act.put, List.setIfInBounds_toArray, List.set_cons_zero, List.set_cons_succ]
  refine wpAnyH_take (i := 16) (oi := { dst := some 82, op := Op.move (Operand.tmp 81), type := 4, pos := "law.go:164", after := #[{ on := 15, ground := Ground.data }, { on := 14, ground := Ground.chain }], guard := none }) (v := ?_) rfl (by kernel_rfl) (by kernel_rfl) (by kernel_rfl) (fun _ _ _ h => h) (Or.inl ⟨by rfl, ?_⟩) (by assumption) ?_
  rotate_left
  focus (intro w' hSw; (try dsimp only at hSw); go_simp; try with_reducible rfl)
  try simp only [Act.put, List.setIfInBounds_toArray, List.set_cons_zero, List.set_cons_succ]
  refine wpAnyH_take (i := 17) (oi := { dst := some 83, op := Op.move (Operand.tmp 13), type := 41, pos := "law.go:164", after := #[{ on := 16, ground := Ground.guard }], guard := some (16, true) }) (v := ?_) rfl (by kernel_rfl) (by kernel_rfl) (by kernel_rfl) (fun _ _ _ h => h) (Or.inl ⟨by rfl, ?_⟩) (by assumption) ?_
  rotate_left
  focus (intro w' hSw; (try dsimp only at hSw); go_simp; try with_reducible rfl)
  try simp only [Act.put, List.setIfInBounds_toArray, List.set_cons_zero, List.set_cons_succ]
  refine wpAnyH_take (i := 18) (oi := { dst := some 84, op := Op.call { callee := Callee.builtin Builtin.len, args := #[Operand.tmp 83], argTypes := #[41] }, type := 3, pos := "law.go:164", after := #[{ on := 17, ground := Ground.data }, { on := 16, ground := Ground.guard }], guard := some (16, true) }) (v := ?_) rfl (by kernel_rfl) (by kernel_rfl) (by kernel_rfl) (fun _ _ _ h => h) (Or.inl ⟨by rfl, ?_⟩) (by assumption) ?_
  rotate_left
  focus (intro w' hSw; (try dsimp only at hSw); go_simp; try with_reducible rfl)
  try simp only [Act.put, List.setIfInBounds_toArray, List.set_cons_zero, List.set_cons_succ]
  refine wpAnyH_take (i := 19) (oi := { dst := some 85, op := Op.binOp BinOp.eql 3 (Operand.tmp 84) (Operand.const (Value.int IntKind.i64 0)) 3, type := 4, pos := "law.go:164", after := #[{ on := 18, ground := Ground.data }, { on := 16, ground := Ground.guard }], guard := some (16, true) }) (v := ?_) rfl (by kernel_rfl) (by kernel_rfl) (by kernel_rfl) (fun _ _ _ h => h) (Or.inl ⟨by rfl, ?_⟩) (by assumption) ?_
  rotate_left
  focus (intro w' hSw; (try dsimp only at hSw); go_simp; try with_reducible rfl)
  try simp only [Act.put, List.setIfInBounds_toArray, List.set_cons_zero, List.set_cons_succ]
  refine wpAnyH_take (i := 20) (oi := { dst := some 86, op := Op.move (Operand.tmp 85), type := 4, pos := "law.go:164", after := #[{ on := 19, ground := Ground.data }, { on := 16, ground := Ground.chain }, { on := 16, ground := Ground.guard }], guard := some (16, true) }) (v := ?_) rfl (by kernel_rfl) (by kernel_rfl) (by kernel_rfl) (fun _ _ _ h => h) (Or.inl ⟨by rfl, ?_⟩) (by assumption) ?_
  rotate_left
  focus (intro w' hSw; (try dsimp only at hSw); go_simp; try with_reducible rfl)
  try simp only [Act.put, List.setIfInBounds_toArray, List.set_cons_zero, List.set_cons_succ]
  refine wpAnyH_take (i := 21) (oi := { dst := some 87, op := Op.move (Operand.tmp 13), type := 41, pos := "law.go:164", after := #[{ on := 20, ground := Ground.guard }], guard := some (20, false) }) (v := undef) rfl (by kernel_rfl) (by kernel_rfl) (by kernel_rfl) (fun _ _ _ h => h) (Or.inr ⟨by rfl, rfl⟩) (by assumption) ?_
  try simp only [Act.put, List.setIfInBounds_toArray, List.set_cons_zero, List.set_cons_succ]
  refine wpAnyH_take (i := 22) (oi := { dst := some 88, op := Op.indexAddr 41 (Operand.tmp 87) (Operand.const (Value.int IntKind.i64 0)), type := 0, pos := "law.go:164", after := #[{ on := 21, ground := Ground.data }, { on := 20, ground := Ground.guard }], guard := some (20, false) }) (v := undef) rfl (by kernel_rfl) (by kernel_rfl) (by kernel_rfl) (fun _ _ _ h => h) (Or.inr ⟨by rfl, rfl⟩) (by assumption) ?_
  try simp only [Act.put, List.setIfInBounds_toArray, List.set_cons_zero, List.set_cons_succ]
  refine wpAnyH_take (i := 23) (oi := { dst := some 89, op := Op.load 39 (Operand.tmp 88), type := 39, pos := "law.go:164", after := #[{ on := 22, ground := Ground.data }, { on := 20, ground := Ground.guard }], guard := some (20, false) }) (v := undef) rfl (by kernel_rfl) (by kernel_rfl) (by kernel_rfl) (fun _ _ _ h => h) (Or.inr ⟨by rfl, rfl⟩) (by assumption) ?_
  try simp only [Act.put, List.setIfInBounds_toArray, List.set_cons_zero, List.set_cons_succ]
  refine wpAnyH_take (i := 24) (oi := { dst := some 90, op := Op.load 39 (Operand.tmp 5), type := 39, pos := "law.go:164", after := #[{ on := 20, ground := Ground.guard }], guard := some (20, false) }) (v := undef) rfl (by kernel_rfl) (by kernel_rfl) (by kernel_rfl) (fun _ _ _ h => h) (Or.inr ⟨by rfl, rfl⟩) (by assumption) ?_
  try simp only [Act.put, List.setIfInBounds_toArray, List.set_cons_zero, List.set_cons_succ]
  refine wpAnyH_take (i := 25) (oi := { dst := some 91, op := Op.binOp BinOp.eql 39 (Operand.tmp 89) (Operand.tmp 90) 39, type := 4, pos := "law.go:164", after := #[{ on := 23, ground := Ground.data }, { on := 24, ground := Ground.data }, { on := 20, ground := Ground.guard }], guard := some (20, false) }) (v := undef) rfl (by kernel_rfl) (by kernel_rfl) (by kernel_rfl) (fun _ _ _ h => h) (Or.inr ⟨by rfl, rfl⟩) (by assumption) ?_
  try simp only [Act.put, List.setIfInBounds_toArray, List.set_cons_zero, List.set_cons_succ]
  refine wpAnyH_take (i := 26) (oi := { dst := some 92, op := Op.pick (Operand.tmp 86) (Operand.const (Value.bool true)) (Operand.tmp 91), type := 4, pos := "law.go:164", after := #[{ on := 20, ground := Ground.data }, { on := 25, ground := Ground.data }, { on := 16, ground := Ground.guard }], guard := some (16, true) }) (v := ?_) rfl (by kernel_rfl) (by kernel_rfl) (by kernel_rfl) (fun _ _ _ h => h) (Or.inl ⟨by rfl, ?_⟩) (by assumption) ?_
  rotate_left
  focus (intro w' hSw; (try dsimp only at hSw); go_simp; try with_reducible rfl)
  try simp only [Act.put, List.setIfInBounds_toArray, List.set_cons_zero, List.set_cons_succ]
  refine wpAnyH_take (i := 27) (oi := { dst := some 93, op := Op.pick (Operand.tmp 82) (Operand.tmp 92) (Operand.const (Value.bool false)), type := 4, pos := "law.go:164", after := #[{ on := 16, ground := Ground.data }, { on := 26, ground := Ground.data }], guard := none }) (v := ?_) rfl (by kernel_rfl) (by kernel_rfl) (by kernel_rfl) (fun _ _ _ h => h) (Or.inl ⟨by rfl, ?_⟩) (by assumption) ?_
  rotate_left
  focus (intro w' hSw; (try dsimp only at hSw); go_simp; try with_reducible rfl)
  try simp only [Act.put, List.setIfInBounds_toArray, List.set_cons_zero, List.set_cons_succ]
  refine wpAnyH_take (i := 28) (oi := { dst := some 4, op := Op.assign (Operand.tmp 93), type := 4, pos := "law.go:164", after := #[{ on := 27, ground := Ground.data }, { on := 20, ground := Ground.chain }, { on := 0, ground := Ground.phase }, { on := 1, ground := Ground.phase }, { on := 2, ground := Ground.phase }, { on := 3, ground := Ground.phase }, { on := 4, ground := Ground.phase }, { on := 5, ground := Ground.phase }, { on := 6, ground := Ground.phase }, { on := 7, ground := Ground.phase }, { on := 8, ground := Ground.phase }, { on := 9, ground := Ground.phase }, { on := 10, ground := Ground.phase }, { on := 11, ground := Ground.phase }, { on := 12, ground := Ground.phase }, { on := 13, ground := Ground.phase }, { on := 14, ground := Ground.phase }, { on := 15, ground := Ground.phase }, { on := 16, ground := Ground.phase }, { on := 17, ground := Ground.phase }, { on := 18, ground := Ground.phase }, { on := 19, ground := Ground.phase }, { on := 20, ground := Ground.phase }, { on := 21, ground := Ground.phase }, { on := 22, ground := Ground.phase }, { on := 23, ground := Ground.phase }, { on := 24, ground := Ground.phase }, { on := 25, ground := Ground.phase }, { on := 26, ground := Ground.phase }, { on := 27, ground := Ground.phase }], guard := none }) (v := ?_) rfl (by kernel_rfl) (by kernel_rfl) (by kernel_rfl) (fun _ _ _ h => h) (Or.inl ⟨by rfl, ?_⟩) (by assumption) ?_
  rotate_left
  focus (intro w' hSw; (try dsimp only at hSw); go_simp; try with_reducible rfl)
  try simp only [Act.put, List.setIfInBounds_toArray, List.set_cons_zero, List.set_cons_succ]
  refine wpAnyH_done (by kernel_rfl) ?_ _
  go_wp2_with fail
  go_ret
  exact ⟨rfl, h6.trans (C14.mono (by omega))⟩

set_option maxRecDepth 100000 in
set_option maxHeartbeats 8000000 in
theorem eldest_other (hS : SortsQ) (ao bo : Option Addr) (n m c d : Nat) (la lb : List Q) (w : World) (hnc : n ≤ c) (hmd : m ≤ d) (_hc : c ≤ maxLen) (_hd : d ≤ maxLen) (hla : la.length = n) (hlb : lb.length = m) (ha : Qs w ao la) (hb : Qs w bo lb)
    (hoA : decide (0 < min n 60) = false) (hoB : decide (0 < min m 60) = true) :
    Calls Try.prog 6 #[.slice ao n c, .slice bo m d] w fun e w' => e = .returned (.bool true) ∧ Below w.heap.size w w' := by
  unfold maxLen at _hc _hd
  obtain ⟨n', hn'⟩ : ∃ n', n' = min n 60 := ⟨_, rfl⟩
  obtain ⟨m', hm'⟩ : ∃ m', m' = min m 60 := ⟨_, rfl⟩
  have en : (min (n : Int) 60).toNat = n' := by omega
  have em : (min (m : Int) 60).toNat = m' := by omega
  have q1 : (min (n : Int) 60) ≤ c := by omega
  have q2 : (min (m : Int) 60) ≤ d := by omega
  have q3 : 0 ≤ (min (n : Int) 60) := by omega
  have q4 : 0 ≤ (min (m : Int) 60) := by omega
  have la' : (la.take 60).length = n' := by rw [List.length_take]; omega
  have lb' : (lb.take 60).length = m' := by rw [List.length_take]; omega
  have ra0 := ha.take 60
  have rb0 := hb.take 60
  clear ha hb hla hlb
  generalize la.take 60 = A at *
  generalize lb.take 60 = B at *
  have hn6 : n' ≤ 60 := by omega
  have hm6 : m' ≤ 60 := by omega
  obtain ⟨oa, hoa⟩ : ∃ z, z = decide (0 < n') := ⟨_, rfl⟩
  obtain ⟨ob, hob⟩ : ∃ z, z = decide (0 < m') := ⟨_, rfl⟩
  obtain ⟨oz, hoz⟩ : ∃ z, z = decide (0 < n' + m') := ⟨_, rfl⟩
  have SA := Lib.hid (fun w h => stamps_q ao n' c A w (by omega) la' h)
  have SB := Lib.hid (fun w h => stamps_q bo m' d B w (by omega) lb' h)
  have EA := Lib.hid (fun g cap w h => eldest_q (some ⟨g, 0, none⟩) n' cap A w (by unfold maxLen; omega) la' h oa hoa)
  have EB := Lib.hid (fun g cap w h => eldest_q (some ⟨g, 0, none⟩) m' cap B w (by unfold maxLen; omega) lb' h ob hob)
  have EZ := Lib.hid (fun g cap w h => eldest_q (some ⟨g, 0, none⟩) (n' + m') cap (A ++ B) w (by unfold maxLen; omega) (by rw [List.length_append, la', lb']) h oz hoz)
  have SO := Lib.hid (fun g cap w h => sort_any hS g 0 n' cap A w (by omega) la' h)
  have LS : (srt A).length = n' := by rw [srt_length]; exact la'
  have SS := Lib.hid (fun g cap w h => sort_any hS g 0 n' cap (srt A) w (by omega) LS h)
  have HSS := Lib.hid (srt_srt A)
  have BK := Lib.hid (fun g cap w h => back_q (some ⟨g, 0, none⟩) n' cap (srt A) w (by omega) LS h)
  have SM := Lib.hid (fun ao bo c d w h h' => same_true ao bo n' c d (srt A) w (by omega) LS h h')
  have MA := eldest_math A B oa ob oz (by rw [la']; exact hoa) (by rw [lb']; exact hob) (by rw [la', lb']; exact hoz)
  have LA := Lib.hid la'
  have LB := Lib.hid lb'
  have LSh := Lib.hid LS
  have NM := Lib.hid (And.intro hn6 hm6)
  have RA0 := Lib.hid ra0
  have RB0 := Lib.hid rb0
  obtain rfl : oa = false := by rw [hoa, hn']; exact hoA
  obtain rfl : ob = true := by rw [hob, hm']; exact hoB
  have hnil : n' = 0 := by rw [hn']; have := of_decide_eq_false hoA; omega
  subst hnil
  obtain rfl : oz = true := MA.2.1 rfl
  have hz : minQ (A ++ B) = minQ B := MA.2.2.1 rfl rfl
  rw [hz] at EZ
  clear MA hoA hoB hoa hob hoz la' lb' LS hz ra0 rb0 hn6 hm6
  generalize minQ A = x at *
  generalize minQ B = y at *
  clear hn' hm'
  rw [Nat.zero_add] at EZ
  go_enter Try.func6, Try.ntmps6
  go_wp2_with fail
  refine (awake_any _).mono ?_
  rintro e w1 ⟨rfl, hB1⟩
  go_wp2_with fail
  go_region
  have h0 := hB1.drew
  have RA := Lib.hid (RA0.out.on h0 (Nat.le_refl _))
  have RB := Lib.hid (RB0.out.on h0 (Nat.le_refl _))
  clear hB1 RA0 RB0
  generalize w1.drew = v1 at *
  go_wp2_with fail
  refine (SA.out _ RA.out).mono ?_
  rintro e w2 ⟨g, k, rfl, hq, b⟩
  have h1 := h0.trans (b.mono h0.size)
  have RA1 := Lib.hid (RA.out.on b (Nat.le_refl _))
  have RB1 := Lib.hid (RB.out.on b (Nat.le_refl _))
  clear RA RB b h0
  go_wp2_with fail
  refine (EA.out g k _ hq).mono ?_
  rintro e w3 ⟨rfl, b⟩
  have h2 := h1.trans (b.mono h1.size)
  have RA := Lib.hid (RA1.out.on b (Nat.le_refl _))
  have RB := Lib.hid (RB1.out.on b (Nat.le_refl _))
  clear RA1 RB1 b h1 hq
  unfold aggQ at *
  go_wp2_with fail
  have h3 := h2.alloc h2.size (.cells #[.int .u64 x.n, .int .u8 x.node, .int .u32 x.inc, .int .u32 x.seq] 39)
  have RA1 := Lib.hid (RA.out.on ((Below.refl w3.heap.size w3).alloc (Nat.le_refl _) (.cells #[.int .u64 x.n, .int .u8 x.node, .int .u32 x.inc, .int .u32 x.seq] 39)) (Nat.le_refl _))
  have RB1 := Lib.hid (RB.out.on ((Below.refl w3.heap.size w3).alloc (Nat.le_refl _) (.cells #[.int .u64 x.n, .int .u8 x.node, .int .u32 x.inc, .int .u32 x.seq] 39)) (Nat.le_refl _))
  have B5 := Box4.new w3 x 39
  have l5 := h2.size
  clear h2 RA RB
  generalize (w3.alloc (.cells #[.int .u64 x.n, .int .u8 x.node, .int .u32 x.inc, .int .u32 x.seq] 39)) = v3 at *
  generalize w3.heap.size = s5 at *
  refine (SB.out _ RB1.out).mono ?_
  rintro e w4 ⟨g', k', rfl, hq, b⟩
  have h4 := h3.trans (b.mono h3.size)
  have B5' := B5.on b B5.2.2
  have RA := Lib.hid (RA1.out.on b (Nat.le_refl _))
  have RB := Lib.hid (RB1.out.on b (Nat.le_refl _))
  clear RA1 RB1 b h3 B5
  go_wp2_with fail
  refine (EB.out g' k' _ hq).mono ?_
  rintro e w5 ⟨rfl, b⟩
  have h5 := h4.trans (b.mono h4.size)
  have B5 := B5'.on b B5'.2.2
  have RA1 := Lib.hid (RA.out.on b (Nat.le_refl _))
  have RB1 := Lib.hid (RB.out.on b (Nat.le_refl _))
  clear RA RB b h4 B5' hq
  unfold aggQ at *
  go_wp2_with fail
  have al := fun (l : List Q) (ao : Option Addr) (h : Qs w5 ao l) => h.on (((Below.refl w5.heap.size w5).alloc (Nat.le_refl _) (.cells #[.int .u64 y.n, .int .u8 y.node, .int .u32 y.inc, .int .u32 y.seq] 39))) (Nat.le_refl _)
  have h6 := h5.alloc h5.size (.cells #[.int .u64 y.n, .int .u8 y.node, .int .u32 y.inc, .int .u32 y.seq] 39)
  have RA := Lib.hid (al _ _ RA1.out)
  have RB := Lib.hid (al _ _ RB1.out)
  have B7 := Box4.new w5 y 39
  have B5' := B5.on ((Below.refl w5.heap.size w5).alloc (Nat.le_refl _) (.cells #[.int .u64 y.n, .int .u8 y.node, .int .u32 y.inc, .int .u32 y.seq] 39)) B5.2.2
  have l7 := h5.size
  have n57 : s5 < w5.heap.size := B5.2.2
  have e5 : (w5.alloc (.cells #[.int .u64 y.n, .int .u8 y.node, .int .u32 y.inc, .int .u32 y.seq] 39)).heap.size = w5.heap.size + 1 := World.size_alloc _ _
  clear h5 RA1 RB1 al B5
  generalize (w5.alloc (.cells #[.int .u64 y.n, .int .u8 y.node, .int .u32 y.inc, .int .u32 y.seq] 39)) = v5 at *
  generalize w5.heap.size = s7 at *
  have C0 : RowKit.Below (s7 + 1) v5 (v5.alloc (.cells #[] 39)) := (Below.refl _ _).alloc (Nat.le_of_eq e5.symm) _
  have O0 := lit_row v5
  rw [e5] at O0
  generalize (v5.alloc (.cells #[] 39)) = v6 at *
  refine (SA.out _ (RA.out.on C0 (Nat.le_of_eq e5))).mono ?_
  rintro e w6 ⟨g1, k1, rfl, hq, b⟩
  have C1 := C0.trans (b.mono (e5 ▸ C0.size))
  have O1 := row_on O0 b
  have nm := NM.out
  clear O0 C0 b
  go_wp2_with (at_builtin; refine app_any _ rfl (.tmp 39) (.tmp 41) rfl (s7 + 1) (s7 + 1) 0 0 [] A rfl O1 ⟨g1, 0, none⟩ 0 k1 rfl LA.out hq (by omega) (e5 ▸ C1.size) ?_; intro g2 c2 w7 O2 G2)
  have C2 : RowKit.Below (s7 + 1) v5 w7 := grown_own C1 O1 G2 (e5 ▸ C1.size)
  clear C1 O1 G2 hq
  refine (SB.out _ (RB.out.on C2 (Nat.le_of_eq e5))).mono ?_
  rintro e w8 ⟨g3, k3, rfl, hq, b⟩
  have C3 := C2.trans (b.mono (e5 ▸ C2.size))
  have O3 : w8.ownsRow (s7 + 1) 39 4 (.slice (some ⟨g2, 0, none⟩) 0 c2) 0 (flat A) := row_on (by simpa [flat] using O2) b
  clear C2 O2 b
  go_wp2_with (at_builtin; refine app_any _ rfl (.tmp 42) (.tmp 44) rfl (s7 + 1) g2 0 c2 A B rfl O3 ⟨g3, 0, none⟩ m' k3 rfl LB.out hq (by omega) (e5 ▸ C3.size) ?_; intro g4 c4 w9 O4 G4)
  have C4 : RowKit.Below (s7 + 1) v5 w9 := grown_own C3 O3 G4 (e5 ▸ C3.size)
  clear C3 O3 G4 hq
  refine (EZ.out g4 c4 _ (Qs.of_row (by rw [flat_app]; rw [Nat.zero_add] at O4; exact O4) (by rw [List.length_append, LA.out, LB.out, Nat.zero_add]))).mono ?_
  rintro e w10 ⟨rfl, b⟩
  have C5 := C4.trans (b.mono (e5 ▸ C4.size))
  clear C4 O4 b
  have E5 := B5'.on C5 (by omega)
  have E7 := B7.on C5 (by omega)
  have F5 := Lib.hid E5
  have F7 := Lib.hid E7
  obtain ⟨⟨p0, p1, p2, p3⟩, _, _⟩ := E5
  obtain ⟨⟨r0, r1, r2, r3⟩, _, _⟩ := E7
  have p0' := fun o => cell_old p0 (o := o)
  have p1' := fun o => cell_old p1 (o := o)
  have p2' := fun o => cell_old p2 (o := o)
  have p3' := fun o => cell_old p3 (o := o)
  have p0'' := fun o o' => cell_old (p0' o) (o := o')
  have p1'' := fun o o' => cell_old (p1' o) (o := o')
  have p2'' := fun o o' => cell_old (p2' o) (o := o')
  have p3'' := fun o o' => cell_old (p3' o) (o := o')
  have r0'' := fun o o' => cell_old (cell_old r0 (o := o)) (o := o')
  have r1'' := fun o o' => cell_old (cell_old r1 (o := o)) (o := o')
  have r2'' := fun o o' => cell_old (cell_old r2 (o := o)) (o := o')
  have r3'' := fun o o' => cell_old (cell_old r3 (o := o)) (o := o')
  clear B5' B7
  go_wp2_with fail
  have C6 := (C5.alloc (e5 ▸ C5.size) (.cells #[.int .u64 y.n, .int .u8 y.node, .int .u32 y.inc, .int .u32 y.seq] 39)).alloc (by rw [World.size_alloc]; exact Nat.le_succ_of_le (e5 ▸ C5.size)) (.cells #[.int .u64 y.n, .int .u8 y.node, .int .u32 y.inc, .int .u32 y.seq] 39)
  have D := ((Below.refl w10.heap.size w10).alloc (Nat.le_refl _) (.cells #[.int .u64 y.n, .int .u8 y.node, .int .u32 y.inc, .int .u32 y.seq] 39)).alloc (by simp) (.cells #[.int .u64 y.n, .int .u8 y.node, .int .u32 y.inc, .int .u32 y.seq] 39)
  have K5 := F5.out.on D F5.out.2.2
  have K7 := F7.out.on D F7.out.2.2
  have K9 := (Box4.new w10 y 39).on ((Below.refl _ _).alloc (Nat.le_refl _) (.cells #[.int .u64 y.n, .int .u8 y.node, .int .u32 y.inc, .int .u32 y.seq] 39)) (by simp)
  have K11 := Box4.new (w10.alloc (.cells #[.int .u64 y.n, .int .u8 y.node, .int .u32 y.inc, .int .u32 y.seq] 39)) y 39
  rw [World.size_alloc] at K11
  have hs10 : s7 + 1 ≤ w10.heap.size := e5 ▸ C5.size
  clear p0 p1 p2 p3 r0 r1 r2 r3 p0' p1' p2' p3' p0'' p1'' p2'' p3'' r0'' r1'' r2'' r3'' D C5 F5 F7
  generalize ((w10.alloc (.cells #[.int .u64 y.n, .int .u8 y.node, .int .u32 y.inc, .int .u32 y.seq] 39)).alloc (.cells #[.int .u64 y.n, .int .u8 y.node, .int .u32 y.inc, .int .u32 y.seq] 39)) = v10 at *
  generalize w10.heap.size = s9 at *
  have C8 := C6
  have N5 := K5
  have N9 := K9
  have N11 := K11
  clear C6 K5 K7 K9 K11
  refine (SA.out _ (RA.out.on C8 (Nat.le_of_eq e5))).mono ?_
  rintro e w13 ⟨g5, k5, rfl, hq, b⟩
  have C9 := C8.trans (b.mono (e5 ▸ C8.size))
  have M5 := N5.on b N5.2.2
  have M9 := N9.on b N9.2.2
  have M11 := N11.on b N11.2.2
  clear N5 N9 N11 b C8
  go_wp2_with fail
  refine (SO.out g5 k5 _ hq).mono ?_
  rintro e w14 ⟨g6, k6, rfl, hH, _, hg1, b⟩
  have C10 := C9.trans (b.mono (e5 ▸ C9.size))
  have BN : Bun w14 s5 s9 (s9 + 1) g6 x y y (srt A) := ⟨M5.on b M5.2.2, M9.on b M9.2.2, M11.on b M11.2.2, qs_of_holds hg1 hH⟩
  clear M5 M9 M11 b C9 hq hH hg1
  go_wp2_with fail
  have b0 := BN.two
  refine wp_region_held_drew (S := (fun w' => (w'.cell? ⟨s9, 0, none⟩ = some (.int .u64 y.n) ∧ w'.cell? ⟨s9, 1, none⟩ = some (.int .u8 y.node) ∧ w'.cell? ⟨s9, 2, none⟩ = some (.int .u32 y.inc) ∧ w'.cell? ⟨s9, 3, none⟩ = some (.int .u32 y.seq)) ∧ (w'.cell? ⟨(s9 + 1), 0, none⟩ = some (.int .u64 y.n) ∧ w'.cell? ⟨(s9 + 1), 1, none⟩ = some (.int .u8 y.node) ∧ w'.cell? ⟨(s9 + 1), 2, none⟩ = some (.int .u32 y.inc) ∧ w'.cell? ⟨(s9 + 1), 3, none⟩ = some (.int .u32 y.seq)))) (by kernel_rfl) b0 (fun hHeld => ?_)
  refine wpAnyH_take (i := 0) (oi := { dst := some 66, op := Op.load 39 (Operand.tmp 9), type := 39, pos := "law.go:164", after := #[], guard := none }) (v := ?_) rfl (by kernel_rfl) (by kernel_rfl) (by kernel_rfl) (fun _ _ _ h => h) (Or.inl ⟨by rfl, ?_⟩) (by assumption) ?_
  rotate_left
  focus (intro w' hSw; (try dsimp only at hSw); go_simp; try with_reducible rfl)
  try simp only [Act.put, List.setIfInBounds_toArray, List.set_cons_zero, List.set_cons_succ]
  refine wpAnyH_take (i := 1) (oi := { dst := some 67, op := Op.load 39 (Operand.tmp 11), type := 39, pos := "law.go:164", after := #[], guard := none }) (v := ?_) rfl (by kernel_rfl) (by kernel_rfl) (by kernel_rfl) (fun _ _ _ h => h) (Or.inl ⟨by rfl, ?_⟩) (by assumption) ?_
  rotate_left
  focus (intro w' hSw; (try dsimp only at hSw); go_simp; try with_reducible rfl)
  try simp only [Act.put, List.setIfInBounds_toArray, List.set_cons_zero, List.set_cons_succ]
  refine wpAnyH_take (i := 2) (oi := { dst := some 68, op := Op.binOp BinOp.eql 39 (Operand.tmp 66) (Operand.tmp 67) 39, type := 4, pos := "law.go:164", after := #[{ on := 0, ground := Ground.data }, { on := 1, ground := Ground.data }], guard := none }) (v := ?_) rfl (by kernel_rfl) (by kernel_rfl) (by kernel_rfl) (fun _ _ _ h => h) (Or.inl ⟨by rfl, ?_⟩) (by assumption) ?_
  rotate_left
  focus (intro w' hSw; (try dsimp only at hSw); go_simp; try with_reducible rfl)
  try simp only [Act.put, List.setIfInBounds_toArray, List.set_cons_zero, List.set_cons_succ]
  refine wpAnyH_take (i := 3) (oi := { dst := some 69, op := Op.move (Operand.tmp 68), type := 4, pos := "law.go:164", after := #[{ on := 2, ground := Ground.data }], guard := none }) (v := ?_) rfl (by kernel_rfl) (by kernel_rfl) (by kernel_rfl) (fun _ _ _ h => h) (Or.inl ⟨by rfl, ?_⟩) (by assumption) ?_
  rotate_left
  focus (intro w' hSw; (try dsimp only at hSw); go_simp; try with_reducible rfl)
  try simp only [Act.put, List.setIfInBounds_toArray, List.set_cons_zero, List.set_cons_succ]
  refine wpAnyH_take (i := 4) (oi := { dst := some 70, op := Op.move (Operand.tmp 10), type := 4, pos := "law.go:164", after := #[{ on := 3, ground := Ground.guard }], guard := some (3, true) }) (v := ?_) rfl (by kernel_rfl) (by kernel_rfl) (by kernel_rfl) (fun _ _ _ h => h) (Or.inl ⟨by rfl, ?_⟩) (by assumption) ?_
  rotate_left
  focus (intro w' hSw; (try dsimp only at hSw); go_simp; try with_reducible rfl)
  try simp only [Act.put, List.setIfInBounds_toArray, List.set_cons_zero, List.set_cons_succ]
  refine wpAnyH_take (i := 5) (oi := { dst := some 71, op := Op.move (Operand.tmp 12), type := 4, pos := "law.go:164", after := #[{ on := 3, ground := Ground.guard }], guard := some (3, true) }) (v := ?_) rfl (by kernel_rfl) (by kernel_rfl) (by kernel_rfl) (fun _ _ _ h => h) (Or.inl ⟨by rfl, ?_⟩) (by assumption) ?_
  rotate_left
  focus (intro w' hSw; (try dsimp only at hSw); go_simp; try with_reducible rfl)
  try simp only [Act.put, List.setIfInBounds_toArray, List.set_cons_zero, List.set_cons_succ]
  refine wpAnyH_take (i := 6) (oi := { dst := some 72, op := Op.binOp BinOp.eql 4 (Operand.tmp 70) (Operand.tmp 71) 4, type := 4, pos := "law.go:164", after := #[{ on := 4, ground := Ground.data }, { on := 5, ground := Ground.data }, { on := 3, ground := Ground.guard }], guard := some (3, true) }) (v := ?_) rfl (by kernel_rfl) (by kernel_rfl) (by kernel_rfl) (fun _ _ _ h => h) (Or.inl ⟨by rfl, ?_⟩) (by assumption) ?_
  rotate_left
  focus (intro w' hSw; (try dsimp only at hSw); go_simp; try with_reducible rfl)
  try simp only [Act.put, List.setIfInBounds_toArray, List.set_cons_zero, List.set_cons_succ]
  refine wpAnyH_take (i := 7) (oi := { dst := some 73, op := Op.pick (Operand.tmp 69) (Operand.tmp 72) (Operand.const (Value.bool false)), type := 4, pos := "law.go:164", after := #[{ on := 3, ground := Ground.data }, { on := 6, ground := Ground.data }], guard := none }) (v := ?_) rfl (by kernel_rfl) (by kernel_rfl) (by kernel_rfl) (fun _ _ _ h => h) (Or.inl ⟨by rfl, ?_⟩) (by assumption) ?_
  rotate_left
  focus (intro w' hSw; (try dsimp only at hSw); go_simp; try with_reducible rfl)
  try simp only [Act.put, List.setIfInBounds_toArray, List.set_cons_zero, List.set_cons_succ]
  refine wpAnyH_take (i := 8) (oi := { dst := some 74, op := Op.move (Operand.tmp 73), type := 4, pos := "law.go:164", after := #[{ on := 7, ground := Ground.data }, { on := 3, ground := Ground.chain }], guard := none }) (v := ?_) rfl (by kernel_rfl) (by kernel_rfl) (by kernel_rfl) (fun _ _ _ h => h) (Or.inl ⟨by rfl, ?_⟩) (by assumption) ?_
  rotate_left
  focus (intro w' hSw; (try dsimp only at hSw); go_simp; try with_reducible rfl)
  try simp only [Act.put, List.setIfInBounds_toArray, List.set_cons_zero, List.set_cons_succ]
  refine wpAnyH_take (i := 9) (oi := { dst := some 75, op := Op.move (Operand.tmp 13), type := 41, pos := "law.go:164", after := #[{ on := 8, ground := Ground.guard }], guard := some (8, true) }) (v := ?_) rfl (by kernel_rfl) (by kernel_rfl) (by kernel_rfl) (fun _ _ _ h => h) (Or.inl ⟨by rfl, ?_⟩) (by assumption) ?_
  rotate_left
  focus (intro w' hSw; (try dsimp only at hSw); go_simp; try with_reducible rfl)
  try simp only [Act.put, List.setIfInBounds_toArray, List.set_cons_zero, List.set_cons_succ]
  refine wpAnyH_take (i := 12) (oi := { dst := some 78, op := Op.move (Operand.tmp 13), type := 41, pos := "law.go:164", after := #[{ on := 8, ground := Ground.guard }], guard := some (8, true) }) (v := ?_) rfl (by kernel_rfl) (by kernel_rfl) (by kernel_rfl) (fun _ _ _ h => h) (Or.inl ⟨by rfl, ?_⟩) (by assumption) ?_
  rotate_left
  focus (intro w' hSw; (try dsimp only at hSw); go_simp; try with_reducible rfl)
  try simp only [Act.put, List.setIfInBounds_toArray, List.set_cons_zero, List.set_cons_succ]
  refine wpAnyH_ready (rs := [10]) (by kernel_rfl) (by simp) ?_
  refine AllReadyH.cons (o := { dst := some 76, op := Op.call { callee := Callee.value (Operand.func 16), args := #[Operand.tmp 75], argTypes := #[41] }, type := 41, pos := "law.go:164", after := #[{ on := 9, ground := Ground.data }, { on := 8, ground := Ground.chain }, { on := 8, ground := Ground.guard }], guard := some (8, true) }) rfl (fun K hK => ?_) AllReadyH.nil
  go_simp
  go_at_call 16; refine (SS.out g6 k6 _ (BN.s.on (Below.refl _ _).drew (Nat.le_refl _))).mono ?_; rintro e x1 ⟨g7, k7, rfl, hH7, _, hg7, hX1⟩; have BN1 := (BN.on (Below.refl _ _).drew).on hX1; have b1 := BN1.two; have C11 := C10.drew.trans (hX1.mono (e5 ▸ C10.size)); have q7 : Qs x1 (some ⟨g7, 0, none⟩) (srt A) := (by have hq7 := qs_of_holds hg7 hH7; rwa [HSS.out] at hq7); clear hH7
  refine hK.out _ _ b1 (fun hHeld => ?_)
  clear hK K
  try simp only [Act.put, List.setIfInBounds_toArray, List.set_cons_zero, List.set_cons_succ]
  refine wpAnyH_ready (rs := [11]) (by kernel_rfl) (by simp) ?_
  refine AllReadyH.cons (o := { dst := some 77, op := Op.call { callee := Callee.value (Operand.func 20), args := #[Operand.tmp 76], argTypes := #[41] }, type := 32, pos := "law.go:164", after := #[{ on := 10, ground := Ground.data }, { on := 10, ground := Ground.chain }, { on := 8, ground := Ground.guard }], guard := some (8, true) }) rfl (fun K hK => ?_) AllReadyH.nil
  go_simp
  go_at_call 20; refine (BK.out g7 k7 _ q7).mono ?_; rintro e x2 ⟨ao2, k8, rfl, q80, hX2⟩; have BN2 := BN1.on hX2; have b2 := BN2.two; have C12 := C11.trans (hX2.mono (e5 ▸ C11.size))
  refine hK.out _ _ b2 (fun hHeld => ?_)
  clear hK K
  try simp only [Act.put, List.setIfInBounds_toArray, List.set_cons_zero, List.set_cons_succ]
  refine wpAnyH_ready (rs := [13]) (by kernel_rfl) (by simp) ?_
  refine AllReadyH.cons (o := { dst := some 79, op := Op.call { callee := Callee.value (Operand.func 20), args := #[Operand.tmp 78], argTypes := #[41] }, type := 32, pos := "law.go:164", after := #[{ on := 12, ground := Ground.data }, { on := 11, ground := Ground.chain }, { on := 8, ground := Ground.guard }], guard := some (8, true) }) rfl (fun K hK => ?_) AllReadyH.nil
  go_simp
  go_at_call 20; refine (BK.out g6 k6 _ BN2.s).mono ?_; rintro e x3 ⟨ao3, k9, rfl, q9, hX3⟩; have BN3 := BN2.on hX3; have b3 := BN3.two; have q8 := q80.on hX3 (Nat.le_refl _); have C13 := C12.trans (hX3.mono (e5 ▸ C12.size))
  refine hK.out _ _ b3 (fun hHeld => ?_)
  clear hK K
  try simp only [Act.put, List.setIfInBounds_toArray, List.set_cons_zero, List.set_cons_succ]
  refine wpAnyH_ready (rs := [14]) (by kernel_rfl) (by simp) ?_
  refine AllReadyH.cons (o := { dst := some 80, op := Op.call { callee := Callee.value (Operand.func 19), args := #[Operand.tmp 77, Operand.tmp 79], argTypes := #[32, 32] }, type := 4, pos := "law.go:164", after := #[{ on := 11, ground := Ground.data }, { on := 13, ground := Ground.data }, { on := 13, ground := Ground.chain }, { on := 8, ground := Ground.guard }], guard := some (8, true) }) rfl (fun K hK => ?_) AllReadyH.nil
  go_simp
  go_at_call 19; refine (SM.out _ _ k8 k9 _ q8 q9).mono ?_; rintro e x4 ⟨rfl, hX4⟩; have BN4 := BN3.on hX4; have b4 := BN4.two; have C14 := C13.trans (hX4.mono (e5 ▸ C13.size))
  refine hK.out _ _ b4 (fun hHeld => ?_)
  clear hK K
  try simp only [Act.put, List.setIfInBounds_toArray, List.set_cons_zero, List.set_cons_succ]
  refine wpAnyH_take (i := 15) (oi := { dst := some 81, op := Op.pick (Operand.tmp 74) (Operand.tmp 80) (Operand.const (Value.bool false)), type := 4, pos := "law.go:164", after := #[{ on := 8, ground := Ground.data }, { on := 14, ground := Ground.data }], guard := none }) (v := ?_) rfl (by kernel_rfl) (by kernel_rfl) (by kernel_rfl) (fun _ _ _ h => h) (Or.inl ⟨by rfl, ?_⟩) (by assumption) ?_
  rotate_left
  focus (intro w' hSw; (try dsimp only at hSw); go_simp; try with_reducible rfl)
  try simp only [Act.put, List.setIfInBounds_toArray, List.set_cons_zero, List.set_cons_succ]
  refine wpAnyH_take (i := 16) (oi := { dst := some 82, op := Op.move (Operand.tmp 81), type := 4, pos := "law.go:164", after := #[{ on := 15, ground := Ground.data }, { on := 14, ground := Ground.chain }], guard := none }) (v := ?_) rfl (by kernel_rfl) (by kernel_rfl) (by kernel_rfl) (fun _ _ _ h => h) (Or.inl ⟨by rfl, ?_⟩) (by assumption) ?_
  rotate_left
  focus (intro w' hSw; (try dsimp only at hSw); go_simp; try with_reducible rfl)
  try simp only [Act.put, List.setIfInBounds_toArray, List.set_cons_zero, List.set_cons_succ]
  refine wpAnyH_take (i := 17) (oi := { dst := some 83, op := Op.move (Operand.tmp 13), type := 41, pos := "law.go:164", after := #[{ on := 16, ground := Ground.guard }], guard := some (16, true) }) (v := ?_) rfl (by kernel_rfl) (by kernel_rfl) (by kernel_rfl) (fun _ _ _ h => h) (Or.inl ⟨by rfl, ?_⟩) (by assumption) ?_
  rotate_left
  focus (intro w' hSw; (try dsimp only at hSw); go_simp; try with_reducible rfl)
  try simp only [Act.put, List.setIfInBounds_toArray, List.set_cons_zero, List.set_cons_succ]
  refine wpAnyH_take (i := 18) (oi := { dst := some 84, op := Op.call { callee := Callee.builtin Builtin.len, args := #[Operand.tmp 83], argTypes := #[41] }, type := 3, pos := "law.go:164", after := #[{ on := 17, ground := Ground.data }, { on := 16, ground := Ground.guard }], guard := some (16, true) }) (v := ?_) rfl (by kernel_rfl) (by kernel_rfl) (by kernel_rfl) (fun _ _ _ h => h) (Or.inl ⟨by rfl, ?_⟩) (by assumption) ?_
  rotate_left
  focus (intro w' hSw; (try dsimp only at hSw); go_simp; try with_reducible rfl)
  try simp only [Act.put, List.setIfInBounds_toArray, List.set_cons_zero, List.set_cons_succ]
  refine wpAnyH_take (i := 19) (oi := { dst := some 85, op := Op.binOp BinOp.eql 3 (Operand.tmp 84) (Operand.const (Value.int IntKind.i64 0)) 3, type := 4, pos := "law.go:164", after := #[{ on := 18, ground := Ground.data }, { on := 16, ground := Ground.guard }], guard := some (16, true) }) (v := ?_) rfl (by kernel_rfl) (by kernel_rfl) (by kernel_rfl) (fun _ _ _ h => h) (Or.inl ⟨by rfl, ?_⟩) (by assumption) ?_
  rotate_left
  focus (intro w' hSw; (try dsimp only at hSw); go_simp; try with_reducible rfl)
  try simp only [Act.put, List.setIfInBounds_toArray, List.set_cons_zero, List.set_cons_succ]
  refine wpAnyH_take (i := 20) (oi := { dst := some 86, op := Op.move (Operand.tmp 85), type := 4, pos := "law.go:164", after := #[{ on := 19, ground := Ground.data }, { on := 16, ground := Ground.chain }, { on := 16, ground := Ground.guard }], guard := some (16, true) }) (v := ?_) rfl (by kernel_rfl) (by kernel_rfl) (by kernel_rfl) (fun _ _ _ h => h) (Or.inl ⟨by rfl, ?_⟩) (by assumption) ?_
  rotate_left
  focus (intro w' hSw; (try dsimp only at hSw); go_simp; try with_reducible rfl)
  try simp only [Act.put, List.setIfInBounds_toArray, List.set_cons_zero, List.set_cons_succ]
  refine wpAnyH_take (i := 21) (oi := { dst := some 87, op := Op.move (Operand.tmp 13), type := 41, pos := "law.go:164", after := #[{ on := 20, ground := Ground.guard }], guard := some (20, false) }) (v := undef) rfl (by kernel_rfl) (by kernel_rfl) (by kernel_rfl) (fun _ _ _ h => h) (Or.inr ⟨by rfl, rfl⟩) (by assumption) ?_
  try simp only [Act.put, List.setIfInBounds_toArray, List.set_cons_zero, List.set_cons_succ]
  refine wpAnyH_take (i := 22) (oi := { dst := some 88, op := Op.indexAddr 41 (Operand.tmp 87) (Operand.const (Value.int IntKind.i64 0)), type := 0, pos := "law.go:164", after := #[{ on := 21, ground := Ground.data }, { on := 20, ground := Ground.guard }], guard := some (20, false) }) (v := undef) rfl (by kernel_rfl) (by kernel_rfl) (by kernel_rfl) (fun _ _ _ h => h) (Or.inr ⟨by rfl, rfl⟩) (by assumption) ?_
  try simp only [Act.put, List.setIfInBounds_toArray, List.set_cons_zero, List.set_cons_succ]
  refine wpAnyH_take (i := 23) (oi := { dst := some 89, op := Op.load 39 (Operand.tmp 88), type := 39, pos := "law.go:164", after := #[{ on := 22, ground := Ground.data }, { on := 20, ground := Ground.guard }], guard := some (20, false) }) (v := undef) rfl (by kernel_rfl) (by kernel_rfl) (by kernel_rfl) (fun _ _ _ h => h) (Or.inr ⟨by rfl, rfl⟩) (by assumption) ?_
  try simp only [Act.put, List.setIfInBounds_toArray, List.set_cons_zero, List.set_cons_succ]
  refine wpAnyH_take (i := 24) (oi := { dst := some 90, op := Op.load 39 (Operand.tmp 5), type := 39, pos := "law.go:164", after := #[{ on := 20, ground := Ground.guard }], guard := some (20, false) }) (v := undef) rfl (by kernel_rfl) (by kernel_rfl) (by kernel_rfl) (fun _ _ _ h => h) (Or.inr ⟨by rfl, rfl⟩) (by assumption) ?_
  try simp only [Act.put, List.setIfInBounds_toArray, List.set_cons_zero, List.set_cons_succ]
  refine wpAnyH_take (i := 25) (oi := { dst := some 91, op := Op.binOp BinOp.eql 39 (Operand.tmp 89) (Operand.tmp 90) 39, type := 4, pos := "law.go:164", after := #[{ on := 23, ground := Ground.data }, { on := 24, ground := Ground.data }, { on := 20, ground := Ground.guard }], guard := some (20, false) }) (v := undef) rfl (by kernel_rfl) (by kernel_rfl) (by kernel_rfl) (fun _ _ _ h => h) (Or.inr ⟨by rfl, rfl⟩) (by assumption) ?_
  try simp only [Act.put, List.setIfInBounds_toArray, List.set_cons_zero, List.set_cons_succ]
  refine wpAnyH_take (i := 26) (oi := { dst := some 92, op := Op.pick (Operand.tmp 86) (Operand.const (Value.bool true)) (Operand.tmp 91), type := 4, pos := "law.go:164", after := #[{ on := 20, ground := Ground.data }, { on := 25, ground := Ground.data }, { on := 16, ground := Ground.guard }], guard := some (16, true) }) (v := ?_) rfl (by kernel_rfl) (by kernel_rfl) (by kernel_rfl) (fun _ _ _ h => h) (Or.inl ⟨by rfl, ?_⟩) (by assumption) ?_
  rotate_left
  focus (intro w' hSw; (try dsimp only at hSw); go_simp; try with_reducible rfl)
  try simp only [Act.put, List.setIfInBounds_toArray, List.set_cons_zero, List.set_cons_succ]
  refine wpAnyH_take (i := 27) (oi := { dst := some 93, op := Op.pick (Operand.tmp 82) (Operand.tmp 92) (Operand.const (Value.bool false)), type := 4, pos := "law.go:164", after := #[{ on := 16, ground := Ground.data }, { on := 26, ground := Ground.data }], guard := none }) (v := ?_) rfl (by kernel_rfl) (by kernel_rfl) (by kernel_rfl) (fun _ _ _ h => h) (Or.inl ⟨by rfl, ?_⟩) (by assumption) ?_
  rotate_left
  focus (intro w' hSw; (try dsimp only at hSw); go_simp; try with_reducible rfl)
  try simp only [Act.put, List.setIfInBounds_toArray, List.set_cons_zero, List.set_cons_succ]
  refine wpAnyH_take (i := 28) (oi := { dst := some 4, op := Op.assign (Operand.tmp 93), type := 4, pos := "law.go:164", after := #[{ on := 27, ground := Ground.data }, { on := 20, ground := Ground.chain }, { on := 0, ground := Ground.phase }, { on := 1, ground := Ground.phase }, { on := 2, ground := Ground.phase }, { on := 3, ground := Ground.phase }, { on := 4, ground := Ground.phase }, { on := 5, ground := Ground.phase }, { on := 6, ground := Ground.phase }, { on := 7, ground := Ground.phase }, { on := 8, ground := Ground.phase }, { on := 9, ground := Ground.phase }, { on := 10, ground := Ground.phase }, { on := 11, ground := Ground.phase }, { on := 12, ground := Ground.phase }, { on := 13, ground := Ground.phase }, { on := 14, ground := Ground.phase }, { on := 15, ground := Ground.phase }, { on := 16, ground := Ground.phase }, { on := 17, ground := Ground.phase }, { on := 18, ground := Ground.phase }, { on := 19, ground := Ground.phase }, { on := 20, ground := Ground.phase }, { on := 21, ground := Ground.phase }, { on := 22, ground := Ground.phase }, { on := 23, ground := Ground.phase }, { on := 24, ground := Ground.phase }, { on := 25, ground := Ground.phase }, { on := 26, ground := Ground.phase }, { on := 27, ground := Ground.phase }], guard := none }) (v := ?_) rfl (by kernel_rfl) (by kernel_rfl) (by kernel_rfl) (fun _ _ _ h => h) (Or.inl ⟨by rfl, ?_⟩) (by assumption) ?_
  rotate_left
  focus (intro w' hSw; (try dsimp only at hSw); go_simp; try with_reducible rfl)
  try simp only [Act.put, List.setIfInBounds_toArray, List.set_cons_zero, List.set_cons_succ]
  refine wpAnyH_done (by kernel_rfl) ?_ _
  go_wp2_with fail
  go_ret
  exact ⟨rfl, h6.trans (C14.mono (by omega))⟩

theorem eldest_law (hS : SortsQ) (ao bo : Option Addr) (n m c d : Nat) (la lb : List Q) (w : World) (hnc : n ≤ c) (hmd : m ≤ d) (_hc : c ≤ maxLen) (_hd : d ≤ maxLen) (hla : la.length = n) (hlb : lb.length = m) (ha : Qs w ao la) (hb : Qs w bo lb) :
    Calls Try.prog 6 #[.slice ao n c, .slice bo m d] w fun e w' => e = .returned (.bool true) ∧ Below w.heap.size w w' := by
  by_cases h1 : 0 < min n 60
  · by_cases h2 : 0 < min m 60
    · by_cases h3 : ordQ (minQ (lb.take 60)) (minQ (la.take 60)) < 0
      · exact eldest_lt hS ao bo n m c d la lb w hnc hmd _hc _hd hla hlb ha hb (decide_eq_true h1) (decide_eq_true h2) h3
      · exact eldest_ge hS ao bo n m c d la lb w hnc hmd _hc _hd hla hlb ha hb (decide_eq_true h1) (decide_eq_true h2) h3
    · exact eldest_only hS ao bo n m c d la lb w hnc hmd _hc _hd hla hlb ha hb (decide_eq_true h1) (decide_eq_false h2)
  · by_cases h2 : 0 < min m 60
    · exact eldest_other hS ao bo n m c d la lb w hnc hmd _hc _hd hla hlb ha hb (decide_eq_false h1) (decide_eq_true h2)
    · exact eldest_no hS ao bo n m c d la lb w hnc hmd _hc _hd hla hlb ha hb (decide_eq_false h1) (decide_eq_false h2)
end Go.Proofs.Ytfennglfmngeiaa.St
