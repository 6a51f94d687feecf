/- index: lay, walked. -/
import Derived.Test.YthjcohaldjfniaaI7
namespace Go.Proofs.Ythjcohaldjfniaa.Ix
open Go Go.RowKit
open Pq (Pg pv fq)
open It (fl)
/-- The pages' row behind p. -/
def RowAt (w : World) (B p : Nat) (n : Int) (v : Value) (X : List Pg) : Prop := w.heap[p]? = some (.cells #[v, .int .i64 n] 63 (0, 0)) ∧ w.ownsRow B 52 1 v X.length (fq X) ∧ B ≤ w.heap.size
theorem RowAt.apart {w : World} {B p : Nat} {n : Int} {v : Value} {X : List Pg} (h : RowAt w B p n v X) : v.ownBlock ≠ some p := by
  intro e
  rcases h.2.1.2 with ⟨rfl, _⟩ | ⟨g, cap, cur, rfl, _, hg, _⟩
  · simp [Value.ownBlock] at e
  · have : g = p := by simpa [Value.ownBlock] using e
    subst this
    have h1 := h.1
    rw [hg] at h1
    simp at h1
theorem RowAt.on {w w' : World} {B p : Nat} {n : Int} {v : Value} {X : List Pg} (h : RowAt w B p n v X) (hp : w'.heap[p]? = w.heap[p]?) (hv : ∀ g, v.ownBlock = some g → w'.heap[g]? = w.heap[g]?) (hs : w.heap.size ≤ w'.heap.size) : RowAt w' B p n v X :=
  ⟨hp.trans h.1, own_on h.2.1 hv, Nat.le_trans h.2.2 hs⟩
theorem RowAt.lt {w : World} {B p : Nat} {n : Int} {v : Value} {X : List Pg} (h : RowAt w B p n v X) : p < w.heap.size := (Array.getElem?_eq_some_iff.1 h.1).1
theorem RowAt.below {w w' : World} {B p : Nat} {n : Int} {v : Value} {X : List Pg} (h : RowAt w B p n v X) (hb : Below w.heap.size w w') : RowAt w' B p n v X :=
  h.on (hb.block p h.lt) (fun g e => hb.block g (World.ownsRow.lt h.2.1 g e).2) hb.size
def LaidR (w : World) (B p : Nat) (n : Int) (v : Value) (M : List Pg) (v' : Value) (w' : World) : Prop :=
  RowAt w' B p n v' M ∧ Turned (fun k => k = p ∨ v.ownBlock = some k) w w' ∧ (∀ g, v'.ownBlock = some g → v.ownBlock = some g ∨ w.heap.size ≤ g)
theorem lay_fin {w w1 : World} {B p : Nat} {n : Int} {v v' : Value} {X M : List Pg} (h : RowAt w B p n v X) (hown : w1.ownsRow B 52 1 v' M.length (fq M)) (hg : w.grownBy w1 v.ownBlock) (hv' : ∀ g, v'.ownBlock = some g → v.ownBlock = some g ∨ w.heap.size ≤ g) : LaidR w B p n v M v' (w1.setCell ⟨p, 0, none⟩ v') := by
  have hb1 : w1.heap[p]? = some (.cells #[v, .int .i64 n] 63 (0, 0)) := (hg.block p h.lt (fun e => h.apart e.symm)).trans h.1
  have hgs := grown_set w1 p 0 v'
  have hne : v'.ownBlock ≠ some p := fun e => by
    rcases hv' p e with h2 | h2
    · exact h.apart h2
    · have := h.lt; omega
  refine ⟨⟨by rw [set_block hb1]; rfl, own_on hown (fun g e => hgs.block g (World.ownsRow.lt hown g e).2 (fun e2 => hne (by rw [e]; exact e2))), Nat.le_trans h.2.2 (Nat.le_trans hg.size hgs.size)⟩, ?_, hv'⟩
  exact (Turned.of_grown hg (fun k e => .inr e)).trans (Turned.of_grown hgs (fun k e => by injection e with e; exact .inl e.symm)) (fun j hj => .inl hj)
/-- The pages that the items become. -/
def YsR (w : World) (t : Pg) (ys : List Pg) (wa : World) : Prop :=
  (t.P.length = 0 ∧ ys = []) ∨ (0 < t.P.length ∧ t.P.length ≤ 8 ∧ ys = [t]) ∨
  (8 < t.P.length ∧ ∃ t1 t2 : Pg, ys = [t1, t2] ∧ t1.P = t.P.take (t.P.length / 2) ∧ t2.P = t.P.drop (t.P.length / 2) ∧ PgAt wa t1 ∧ PgAt wa t2 ∧ w.heap.size ≤ t1.g ∧ w.heap.size ≤ t2.g ∧ t1.g ≠ t2.g)
def LayR (w : World) (B p : Nat) (n : Int) (v : Value) (X : List Pg) (fr tu : Nat) (t : Pg) (e : Ending) (w' : World) : Prop :=
  e = .returned (.tuple #[]) ∧ ∃ (wa : World) (ys : List Pg) (v' : Value), Below w.heap.size w wa ∧ YsR w t ys wa ∧ LaidR wa B p n v (X.take fr ++ ys ++ X.drop tu) v' w'
theorem PgAt.part {w : World} {t : Pg} (h : PgAt w t) (lo n : Nat) : ∀ j u, (fl ((t.P.drop lo).take n))[j]? = some u → w.cell? ((⟨t.g, lo * 2, none⟩ : Addr).add j) = some u := by
  intro j u hu
  have h1 := (h.own (Nat.zero_le t.g)).cells (g := t.g) rfl (lo * 2 + j) u
  rw [Go.WideShapes.add_plain] at h1 ⊢
  simp only [Nat.zero_add] at h1
  apply h1
  rw [It.fl_take, It.fl_drop, List.getElem?_take] at hu
  split at hu
  · rw [List.getElem?_drop] at hu
    exact hu
  · cases hu
set_option maxRecDepth 100000 in
set_option maxHeartbeats 1000000 in
theorem lay_few (B p : Nat) (n : Int) (v : Value) (X : List Pg) (fr tu : Nat) (t : Pg) (w : World) (h : RowAt w B p n v X) (hft : fr ≤ tu) (hto : tu ≤ X.length) (hX : X.length ≤ 99990) (hv : v.ownBlock ≠ some w.heap.size) (hl : 0 < t.P.length) (hm : t.P.length ≤ 8) :
    Calls Try.prog 25 #[.pointer (some ⟨p, 0, none⟩), .int .i64 fr, .int .i64 tu, pv t] w (LayR w B p n v X fr tu t) := by
  have hb := (Below.refl w.heap.size w).alloc (Nat.le_refl _) (.cells #[pv t] 52)
  have h2 := h.below hb
  have c0 : (w.alloc (.cells #[pv t] 52)).cell? ⟨p, 0, none⟩ = some v := by simp [World.cell?, h2.1]
  have HR := Lib.hid (Pq.replace_any B v X fr tu (some ⟨w.heap.size, 0, none⟩) 1 1 [t] _ h2.2.1 hft hto h2.2.2 (by omega) (by omega) ⟨rfl, fun _ => ⟨w.heap.size, rfl, hv, _, heap_alloc_new w _, fun k u hu => by simpa [fq] using hu⟩⟩)
  have H2 := Lib.hid h2
  have HB := Lib.hid hb
  have HL := Lib.hid hm
  have l1 : ¬ (8 : Int) < (t.P.length : Int) := by omega
  have l2 : (0 : Int) < (t.P.length : Int) := by omega
  have HM := Lib.hid (show ∃ M, M = X.take fr ++ [t] ++ X.drop tu from ⟨_, rfl⟩)
  obtain ⟨M, eM⟩ := HM.out
  rw [← eM] at HR
  have EM := Lib.hid eM
  obtain ⟨ao, cap, ev, _⟩ := Pq.own_slice h.2.1
  subst ev
  clear h h2 hb eM hv hm HM
  unfold pv at c0 HR H2 HB ⊢
  go_enter Try.func25, Try.ntmps25
  go_wp2_with fail
  refine HR.out.mono ?_
  rintro e w1 ⟨v', rfl, hown, hg, hv'⟩
  have hb1 : w1.heap[p]? = some (.cells #[.slice ao X.length cap, .int .i64 n] 63 (0, 0)) := (hg.block p H2.out.lt (fun e => H2.out.apart e.symm)).trans H2.out.1
  have f0 := free1 (i := 0) hb1
  have c1 : w1.cell? ⟨p, 0, none⟩ = some (.slice ao X.length cap) := by simp [World.cell?, hb1]
  obtain ⟨ao', cap', ev', _⟩ := Pq.own_slice hown
  subst ev'
  have H3 := Lib.hid (lay_fin H2.out hown hg hv')
  clear hown hg hv' hb1
  go_wp2_with fail
  refine bodyPost_end (v := .tuple #[]) (results_none rfl _ _ _) rfl ?_
  exact ⟨rfl, _, [t], _, HB.out, .inr (.inl ⟨by omega, HL.out, rfl⟩), by rw [← EM.out]; exact H3.out⟩
set_option maxRecDepth 100000 in
set_option maxHeartbeats 1000000 in
theorem lay_none (B p : Nat) (n : Int) (v : Value) (X : List Pg) (fr tu : Nat) (t : Pg) (w : World) (h : RowAt w B p n v X) (hft : fr ≤ tu) (hto : tu ≤ X.length) (hX : X.length ≤ 99990) (hl : t.P.length = 0) :
    Calls Try.prog 25 #[.pointer (some ⟨p, 0, none⟩), .int .i64 fr, .int .i64 tu, pv t] w (LayR w B p n v X fr tu t) := by
  have h2 := h
  have c0 : w.cell? ⟨p, 0, none⟩ = some v := by simp [World.cell?, h2.1]
  have HR := Lib.hid (Pq.replace_any B v X fr tu none 0 0 [] _ h2.2.1 hft hto h2.2.2 (by omega) (by omega) ⟨rfl, fun h => by omega⟩)
  have H2 := Lib.hid h2
  have HL := Lib.hid hl
  have l1 : ¬ (8 : Int) < (0 : Int) := by omega
  have HM := Lib.hid (show ∃ M, M = X.take fr ++ [] ++ X.drop tu from ⟨_, rfl⟩)
  obtain ⟨M, eM⟩ := HM.out
  rw [← eM] at HR
  have EM := Lib.hid eM
  obtain ⟨ao, cap, ev, _⟩ := Pq.own_slice h.2.1
  subst ev
  clear h h2 eM HM
  unfold pv
  rw [hl]
  clear hl
  go_enter Try.func25, Try.ntmps25
  go_wp2_with fail
  refine HR.out.mono ?_
  rintro e w1 ⟨v', rfl, hown, hg, hv'⟩
  have hb1 : w1.heap[p]? = some (.cells #[.slice ao X.length cap, .int .i64 n] 63 (0, 0)) := (hg.block p H2.out.lt (fun e => H2.out.apart e.symm)).trans H2.out.1
  have f0 := free1 (i := 0) hb1
  have c1 : w1.cell? ⟨p, 0, none⟩ = some (.slice ao X.length cap) := by simp [World.cell?, hb1]
  obtain ⟨ao', cap', ev', _⟩ := Pq.own_slice hown
  subst ev'
  have H3 := Lib.hid (lay_fin H2.out hown hg hv')
  clear hown hg hv' hb1
  go_wp2_with fail
  refine bodyPost_end (v := .tuple #[]) (results_none rfl _ _ _) rfl ?_
  exact ⟨rfl, _, [], _, Below.refl _ _, .inl ⟨HL.out, rfl⟩, by rw [← EM.out]; exact H3.out⟩
def NewPgS (w : World) (P : IL) (e : Ending) (w' : World) : Prop :=
  ∃ t : Pg, e = .returned (.slice (some ⟨t.g, 0, none⟩) t.P.length t.cap) ∧ t.P = P ∧ PgAt w' t ∧ w.heap.size ≤ t.g ∧ Below w.heap.size w w'
set_option maxRecDepth 100000 in
set_option maxHeartbeats 1000000 in
theorem lay_many (B p : Nat) (n : Int) (v : Value) (X : List Pg) (fr tu : Nat) (t : Pg) (w : World) (h : RowAt w B p n v X) (hft : fr ≤ tu) (htu : tu ≤ X.length) (hX : X.length ≤ 99990) (hP : PgAt w t) (hm : 8 < t.P.length) (hm2 : t.P.length ≤ 1000) :
    Calls Try.prog 25 #[.pointer (some ⟨p, 0, none⟩), .int .i64 fr, .int .i64 tu, pv t] w (LayR w B p n v X fr tu t) := by
  obtain ⟨m, em⟩ : ∃ m, t.P.length = m := ⟨_, rfl⟩
  obtain ⟨k, ek⟩ : ∃ k, m / 2 = k := ⟨_, rfl⟩
  have hk : k < m := by omega
  have ik : (m : Int) / 2 = (k : Int) := by omega
  have k9 : k ≤ 1000 := by omega
  have EK := Lib.hid (And.intro em ek)
  have l1 : (8 : Int) < (m : Int) := by omega
  have hcm : m ≤ t.cap := by obtain ⟨_, _, _, h3, _⟩ := hP; omega
  have hck : ¬ t.cap = k := by omega
  have ikm : (k : Int) ≤ (m : Int) := by omega
  have ikc : (k : Int) ≤ (t.cap : Int) := by omega
  obtain ⟨ao, cap, ev, _⟩ := Pq.own_slice h.2.1
  subst ev
  have H := Lib.hid h
  have HP := Lib.hid hP
  have e1 : (t.P.take k).length = k := by rw [List.length_take]; omega
  have e2 : (t.P.drop k).length = m - k := by rw [List.length_drop]; omega
  have C1 := Lib.hid (fun (wb : World) (hw : Below w.heap.size w wb) => (show Calls Try.prog 30 #[.slice (some ⟨t.g, 0, none⟩) k t.cap] wb (NewPgS wb (t.P.take k)) from by
    have := clone_any (t.P.take k) t.g 0 t.cap wb (by omega) (by omega) (Nat.lt_of_lt_of_le hP.lt hw.size) (fun j u hu => by
      have := (hP.on (hw.block _ hP.lt)).part 0 k j u (by rw [List.drop_zero]; exact hu)
      rwa [Nat.zero_mul] at this)
    rwa [e1] at this))
  have C2 := Lib.hid (fun (wb : World) (hw : Below w.heap.size w wb) => (show Calls Try.prog 30 #[.slice (some ⟨t.g, k * 2, none⟩) (m - k) (t.cap - k)] wb (NewPgS wb (t.P.drop k)) from by
    have := clone_any (t.P.drop k) t.g (k * 2) (t.cap - k) wb (by omega) (by omega) (Nat.lt_of_lt_of_le hP.lt hw.size) (fun j u hu => by
      have := (hP.on (hw.block _ hP.lt)).part k (m - k) j u (by rw [List.take_of_length_le (by omega)]; exact hu)
      exact this)
    rwa [e2] at this))
  have M8 := Lib.hid hm
  unfold pv
  rw [em]
  clear h hP em ek hk hm hm2 e1 e2
  go_enter Try.func25, Try.ntmps25
  go_wp2_with fail
  have hB0 := Lib.hid (Below.refl w.heap.size w).drew
  go_region_held3 (fun w' => Hid (Below w.heap.size w w'))
    (first | exact hB0 | exact hB1 | exact hB2 | exact Lib.hid (hB2.out.alloc hB2.out.size _))
    (first
      | (have hh := hB1; clear hh; go_at_call 30; refine (C2.out _ hB1.out).mono ?_; rintro e w2 ⟨t2, rfl, a2, p2, g2, b2⟩; have hB2 := Lib.hid (hB1.out.trans (b2.mono hB1.out.size)); have R2 := Lib.hid (And.intro a2 (And.intro p2 (And.intro g2 b2))); clear a2 p2 g2 b2)
      | (go_at_call 30; refine (C1.out _ hB0.out).mono ?_; rintro e w1 ⟨t1, rfl, a1, p1, g1, b1⟩; have hB1 := Lib.hid (hB0.out.trans (b1.mono hB0.out.size)); have R1 := Lib.hid (And.intro a1 (And.intro p1 (And.intro g1 b1))); clear a1 p1 g1 b1))
  obtain ⟨a1, p1, g1, b1⟩ := R1.out
  obtain ⟨a2, p2, g2, b2⟩ := R2.out
  have s1 : w.heap.size ≤ t1.g := Nat.le_trans (Below.size hB0.out) g1
  have s2 : w1.heap.size ≤ t2.g := g2
  have s0 := p1.lt
  have hba : Below w.heap.size w (w2.alloc (.cells #[pv t1, pv t2] 52)) := hB2.out.alloc hB2.out.size _
  have h2 := H.out.below hba
  have q1 : PgAt (w2.alloc (.cells #[pv t1, pv t2] 52)) t1 := (p1.on (b2.block _ p1.lt)).on (heap_alloc_old w2 _ (Nat.lt_of_lt_of_le p1.lt b2.size))
  have q2 : PgAt (w2.alloc (.cells #[pv t1, pv t2] 52)) t2 := p2.on (heap_alloc_old w2 _ p2.lt)
  have hY : YsR w t [t1, t2] (w2.alloc (.cells #[pv t1, pv t2] 52)) := .inr (.inr ⟨M8.out, t1, t2, rfl, by rw [a1, EK.out.1, EK.out.2], by rw [a2, EK.out.1, EK.out.2], q1, q2, s1, by have := Below.size hB1.out; omega, by omega⟩)
  have c0 : (w2.alloc (.cells #[pv t1, pv t2] 52)).cell? ⟨p, 0, none⟩ = some (.slice ao X.length cap) := by simp [World.cell?, h2.1]
  have hv : (Value.slice ao X.length cap).ownBlock ≠ some w2.heap.size := fun e => by
    have := (World.ownsRow.lt H.out.2.1 _ e).2
    have := Below.size hB2.out
    omega
  have HR := Lib.hid (Pq.replace_any B (.slice ao X.length cap) X fr tu (some ⟨w2.heap.size, 0, none⟩) 2 2 [t1, t2] _ h2.2.1 hft htu h2.2.2 (by omega) (by omega) ⟨rfl, fun _ => ⟨w2.heap.size, rfl, hv, _, heap_alloc_new w2 _, fun k u hu => by simpa [fq] using hu⟩⟩)
  have H2 := Lib.hid h2
  have HB := Lib.hid hba
  have HY := Lib.hid hY
  have HM := Lib.hid (show ∃ M, M = X.take fr ++ [t1, t2] ++ X.drop tu from ⟨_, rfl⟩)
  obtain ⟨M, eM⟩ := HM.out
  rw [← eM] at HR
  have EM := Lib.hid eM
  clear h2 hba hY eM hv HM q1 q2 s0 s1 s2 a1 p1 g1 b1 a2 p2 g2 b2
  unfold pv at c0 HR H2 HB
  go_wp2_with fail
  refine HR.out.mono ?_
  rintro e w3 ⟨v', rfl, hown, hg, hv'⟩
  have hb1 : w3.heap[p]? = some (.cells #[.slice ao X.length cap, .int .i64 n] 63 (0, 0)) := (hg.block p H2.out.lt (fun e => H2.out.apart e.symm)).trans H2.out.1
  have f0 := free1 (i := 0) hb1
  have c1 : w3.cell? ⟨p, 0, none⟩ = some (.slice ao X.length cap) := by simp [World.cell?, hb1]
  obtain ⟨ao', cap', ev', _⟩ := Pq.own_slice hown
  subst ev'
  have H3 := Lib.hid (lay_fin H2.out hown hg hv')
  clear hown hg hv' hb1
  go_wp2_with fail
  refine bodyPost_end (v := .tuple #[]) (results_none rfl _ _ _) rfl ?_
  exact ⟨rfl, _, [t1, t2], _, HB.out, HY.out, by rw [← EM.out]; exact H3.out⟩
theorem lay_any (B p : Nat) (n : Int) (v : Value) (X : List Pg) (fr tu : Nat) (t : Pg) (w : World) (h : RowAt w B p n v X) (hft : fr ≤ tu) (htu : tu ≤ X.length) (hX : X.length ≤ 99990) (hP : PgAt w t) (hm2 : t.P.length ≤ 1000) :
    Calls Try.prog 25 #[.pointer (some ⟨p, 0, none⟩), .int .i64 fr, .int .i64 tu, pv t] w (LayR w B p n v X fr tu t) := by
  by_cases h0 : t.P.length = 0
  · exact lay_none B p n v X fr tu t w h hft htu hX h0
  · by_cases h8 : t.P.length ≤ 8
    · exact lay_few B p n v X fr tu t w h hft htu hX (fun e => by have := (World.ownsRow.lt h.2.1 _ e).2; omega) (by omega) h8
    · exact lay_many B p n v X fr tu t w h hft htu hX hP (by omega) hm2
end Go.Proofs.Ythjcohaldjfniaa.Ix
