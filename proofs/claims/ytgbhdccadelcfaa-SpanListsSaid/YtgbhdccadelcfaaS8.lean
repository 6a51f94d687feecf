/- span: Add, walked. -/
import Derived.Test.YtgbhdccadelcfaaS7
namespace Go.Proofs.Ytgbhdccadelcfaa.Sp
open Go Go.RowKit
def AddR (w : World) (B : Nat) (F : Nat → Prop) (p : Nat) (L : SL) (a b : Int) (e : Ending) (w' : World) : Prop :=
  e = .returned (.int .i64 0) ∧ ∃ M : SL, (∀ n, mem M n ↔ mem L n ∨ (a ≤ n ∧ n ≤ b)) ∧ M.length ≤ L.length + 1 ∧ Did w B F p M w'
theorem Did.ahead {w w1 w' : World} {B p : Nat} {F : Nat → Prop} {M : SL} (h : Did w1 B F p M w') (hb : Below w.heap.size w w1) : Did w B F p M w' := by
  obtain ⟨v, F', h1, h2, h3⟩ := h
  have hs := hb.size
  exact ⟨v, F', h1, fun k hk => (h2 k hk).imp id (fun h => by omega), (below_any (G := F) hb).trans h3 (fun j hj => .inl hj)⟩
/-- The places that Add looks up. -/
def Place (L : SL) (a b : Int) (i k : Nat) : Prop :=
  i ≤ k ∧ k ≤ L.length ∧ Canon (addL L a b i k) ∧ ∀ n, mem (addL L a b i k) n ↔ mem L n ∨ (a ≤ n ∧ n ≤ b)
theorem place_add {L : SL} (hc : Canon L) (a b : Int) (i k : Nat) (h0 : 0 ≤ a) (hab : a ≤ b) (hb : b ≤ 4294967295) (hi : i ≤ L.length) (i1 : i = 0 ∨ (L.getD (i - 1) (0, 0)).2 < less1 a) (i2 : i = L.length ∨ less1 a ≤ (L.getD i (0, 0)).2)
    (hk : k ≤ L.length) (k1 : k = 0 ∨ (L.getD (k - 1) (0, 0)).1 ≤ more1 b) (k2 : k = L.length ∨ more1 b < (L.getD k (0, 0)).1) : Place L a b i k := by
  have e1 := ends_take hc i _ hi i1
  have e2 := ends_drop hc i _ hi i2
  have e3 := begins_take hc k _ hk k1
  have e4 := begins_drop hc k _ hk k2
  have hik := places hc (less1 a) (more1 b) i k hi (by have := less1_le a; have := le_more1 b; omega) e1 e4
  exact ⟨hik, hk, add_math L a b i k hc h0 hab hb hik e1 e2 e3 e4⟩
theorem mid_len (L : SL) (i k : Nat) (hk : k ≤ L.length) : (mid L i k).length = k - i := by simp [mid]; omega
theorem add_len (L : SL) (a b : Int) (i k : Nat) (hik : i ≤ k) (hk : k ≤ L.length) : (addL L a b i k).length ≤ L.length + 1 := by simp [addL]; omega
theorem src_one (w : World) (v : Value) (q : Nat) (x y : Int) (h : w.heap[q]? = some (.cells #[.int .u32 x, .int .u32 y] 46 (0, 0))) (hv : v.ownBlock ≠ some q) : SrcY w v (some ⟨q, 0, none⟩) 1 [(x, y)] :=
  ⟨rfl, fun _ => ⟨q, rfl, hv, _, h, fun k u hu => by simpa [fl] using hu⟩⟩
theorem row_at {w : World} {B g n cap k : Nat} {L : SL} {t : Int × Int} (h : w.ownsRow B 46 2 (.slice (some ⟨g, 0, none⟩) n cap) n (fl L)) (ht : L[k]? = some t) : w.cell? ⟨g, k * 2, none⟩ = some (.int .u32 t.1) ∧ w.cell? ⟨g, k * 2 + 1, none⟩ = some (.int .u32 t.2) := by
  obtain ⟨e1, e2⟩ := fl_at ht
  have f := fun j u hu => h.cells (g := g) rfl j u hu
  simp only [Go.WideShapes.add_plain, Nat.zero_add] at f
  exact ⟨f _ _ e1, f _ _ e2⟩
theorem mid_at (L : SL) (i k j : Nat) (hj : j < k - i) (hk : k ≤ L.length) : ∃ t, (mid L i k)[j]? = some t ∧ L[i + j]? = some t := by
  have h : i + j < L.length := by omega
  refine ⟨L[i + j], ?_, List.getElem?_eq_getElem h⟩
  unfold mid
  rw [List.getElem?_take, if_pos hj, List.getElem?_drop, List.getElem?_eq_getElem h]
theorem fold_next (X : SL) (j : Nat) (t s : Int × Int) (h : X[j]? = some t) : (X.take (j + 1)).foldl grow s = grow ((X.take j).foldl grow s) t := by
  obtain ⟨hj, e⟩ := List.getElem?_eq_some_iff.1 h
  rw [List.take_succ_eq_append_getElem hj, List.foldl_append, e]
  rfl
theorem min_if (a b : Int) : (if b < a then b else a) = min a b := by split <;> omega
theorem max_if (a b : Int) : (if a < b then b else a) = max a b := by split <;> omega
theorem add_below {w wr : World} (h : Below w.heap.size w wr) {z : Nat} (hz : w.heap.size ≤ z) (x y : Value) (o : Obj) : Below w.heap.size w (((wr.setCell ⟨z, 0, none⟩ x).setCell ⟨z, 1, none⟩ y).alloc o) := by
  have g1 := grown_set wr z 0 x
  have g2 := grown_set (wr.setCell ⟨z, 0, none⟩ x) z 1 y
  have g := g1.trans g2
  have h2 : Below w.heap.size w ((wr.setCell ⟨z, 0, none⟩ x).setCell ⟨z, 1, none⟩ y) := ⟨g.os.trans h.os, g.tape.trans h.tape, g.output.trans h.output, Nat.le_trans h.size g.size, fun j hj => (g.block j (by have := h.size; omega) (fun e => by injection e with e; omega)).trans (h.block j hj)⟩
  exact h2.alloc h2.size o
theorem add_tail (B p : Nat) (F : Nat → Prop) (v : Value) (L : SL) (a b : Int) (i k : Nat) (s : Int × Int) (w : World) (h : SpanAt w B F p v L) (hp : Place L a b i k) (hs : addL L a b i k = L.take i ++ [s] ++ L.drop k) (hL : L.length ≤ 1000) :
    Calls Try.prog 30 #[.pointer (some ⟨p, 0, none⟩), .int .i64 i, .int .i64 k, .slice (some ⟨w.heap.size, 0, none⟩) 1 1] (w.alloc (.cells #[.int .u32 s.1, .int .u32 s.2] 46)) fun e w' => e = .returned (.tuple #[]) ∧ Did w B F p (addL L a b i k) w' := by
  have hb := (Below.refl w.heap.size w).alloc (Nat.le_refl _) (.cells #[.int .u32 s.1, .int .u32 s.2] 46)
  have h2 := h.below hb
  have hc := hp.2.2.1
  rw [hs] at hc ⊢
  refine (put_any B p F v L i k (some ⟨w.heap.size, 0, none⟩) 1 1 [s] _ h2 hp.1 hp.2.1 (by omega) (by omega) (src_one _ v w.heap.size s.1 s.2 (heap_alloc_new w _) (fun e => by have := h.hi _ (h.fv _ e); omega)) hc).mono ?_
  rintro e w' ⟨rfl, hd⟩
  exact ⟨rfl, hd.ahead hb⟩
/-- The loop over the spans that touch: the whole so far. -/
def AddI (w : World) (z : Nat) (X : SL) (a b : Int) (j : Nat) (wr : World) : Prop :=
  wr.heap[z]? = some (.cells #[.int .u32 ((X.take j).foldl grow (a, b)).1, .int .u32 ((X.take j).foldl grow (a, b)).2] 46 (0, 0)) ∧ Below w.heap.size w wr
set_option maxRecDepth 100000 in
set_option maxHeartbeats 1000000 in
theorem add_ok (B p : Nat) (F : Nat → Prop) (v : Value) (L : SL) (a b : Int) (w : World) (h : SpanAt w B F p v L) (h0 : 0 ≤ a) (hab : a ≤ b) (hb : b ≤ 4294967295) (hL : L.length ≤ 1000) :
    Calls Try.prog 10 #[.pointer (some ⟨p, 0, none⟩), .int .u32 a, .int .u32 b] w (AddR w B F p L a b) := by
  have H := Lib.hid h
  have HR := Lib.hid h0
  clear h
  go_enter Try.func10, Try.ntmps10
  go_upto_region 5 with (first
    | (go_at_call 25; refine (check_ok p a b w hab).mono ?_; rintro e _ ⟨rfl, rfl⟩)
    | (go_at_call 27; refine (less_any a w h0 (by omega)).mono ?_; rintro e _ ⟨rfl, rfl⟩)
    | (go_at_call 26; refine (end_any B p v L (less1 a) w H.out.at_ (by omega)).mono ?_; rintro e w1 ⟨i, rfl, hi, i1, i2, hb1⟩; have HI := Lib.hid (And.intro i1 (And.intro i2 hb1)); clear i1 i2 hb1)
    | (go_at_call 29; refine (more_any b w1 (by omega) hb).mono ?_; rintro e _ ⟨rfl, rfl⟩)
    | (go_at_call 28; refine (begin_any B p v L (more1 b) w1 (H.out.below HI.out.2.2).at_ (by omega)).mono ?_; rintro e w2 ⟨k, rfl, hk, k1, k2, hb2⟩; have HK := Lib.hid (And.intro k1 (And.intro k2 (HI.out.2.2.trans (hb2.mono HI.out.2.2.size)))); clear k1 k2 hb2))
  have hp := place_add H.out.can a b i k HR.out hab hb hi HI.out.1 HI.out.2.1 hk HK.out.1 HK.out.2.1
  have hik := hp.1
  have HP := Lib.hid hp
  have hB2 := HK.out.2.2
  have h3 := (H.out.below hB2).below (((Below.refl w2.heap.size w2).alloc (Nat.le_refl _) (.cells #[.int .u32 a, .int .u32 b] 46)))
  have H3 := Lib.hid h3
  have c0 := cell1 h3.at_.1
  obtain ⟨ao, cap, ev, hnc, hno, hcells⟩ := own_slice h3.at_.2
  have hz := heap_alloc_new w2 (.cells #[.int .u32 a, .int .u32 b] 46)
  have sz2 := hB2.size
  have hB3 := hB2.alloc sz2 (.cells #[.int .u32 a, .int .u32 b] 46)
  rcases Nat.lt_or_ge i k with hlt | hge
  · obtain ⟨g, rfl, hcells⟩ := hcells (by omega)
    subst ev
    have HC := Lib.hid hcells
    have HB3 := Lib.hid (And.intro hB3 hz)
    have q1 : (i : Int) ≤ (k : Int) := by omega
    have q2 : (k : Int) ≤ (cap : Int) := by omega
    have hci : ¬ cap = i := by omega
    clear hp hB2 h3 hno hcells hz hB3
    go_wp2_with fail
    go_loopw [39] (fun u wr => ∃ j : Nat, j ≤ k - i ∧ u = .int .i64 j ∧ Hid (AddI w w2.heap.size (mid L i k) a b j wr)) (fun u _ => k - i - (intOf u).toNat)
    case atStart => exact ⟨0, by omega, rfl, Lib.hid ⟨HB3.out.2, HB3.out.1⟩⟩
    case round =>
      obtain ⟨j, hj, rfl, HA⟩ := hrel
      by_cases hlt2 : j < k - i
      · obtain ⟨t, ht1, ht2⟩ := mid_at L i k j hlt2 hk
        obtain ⟨d1, d2⟩ := row_at (H.out.below HA.out.2).at_.2 ht2
        rw [show (i + j) * 2 = i * 2 + j * 2 by omega] at d1 d2
        have hN := fold_next (mid L i k) j t (a, b) ht1
        obtain ⟨s, hs⟩ : ∃ s, s = ((mid L i k).take j).foldl grow (a, b) := ⟨_, rfl⟩
        have hzr := HA.out.1
        rw [← hs] at hzr hN
        have g1 : wr.cell? ⟨w2.heap.size, 0, none⟩ = some (.int .u32 s.1) := by simp [World.cell?, hzr]
        have g2 : wr.cell? ⟨w2.heap.size, 1, none⟩ = some (.int .u32 s.2) := by simp [World.cell?, hzr]
        have gf0 := free1 (i := 0) hzr
        have gf1 := free1 (i := 1) hzr
        have hzl : w2.heap.size < wr.heap.size := (Array.getElem?_eq_some_iff.1 hzr).1
        have HN := Lib.hid (And.intro hN hzr)
        clear ht1 ht2 hN hs hzr
        go_wp2_with fail
        refine ⟨⟨j + 1, by omega, rfl, Lib.hid ⟨?_, ?_⟩⟩, by simp [intOf]; omega⟩
        · rw [HN.out.1, heap_alloc_old _ _ (by simpa using hzl), set_block (set_block HN.out.2)]
          simp only [grow, min_if, max_if]
          rfl
        · exact add_below HA.out.2 (Nat.le_trans sz2 (Nat.le_refl _)) _ _ _
      · obtain rfl : j = k - i := by omega
        have hzr := HA.out.1
        rw [List.take_of_length_le (by rw [mid_len L i k hk]; omega)] at hzr
        have HP2 := HP.out
        obtain ⟨s, hs⟩ : ∃ s, s = (mid L i k).foldl grow (a, b) := ⟨_, rfl⟩
        have ea : addL L a b i k = L.take i ++ [s] ++ L.drop k := by rw [hs]; rfl
        rw [← hs] at hzr
        have g1 : wr.cell? ⟨w2.heap.size, 0, none⟩ = some (.int .u32 s.1) := by simp [World.cell?, hzr]
        have g2 : wr.cell? ⟨w2.heap.size, 1, none⟩ = some (.int .u32 s.2) := by simp [World.cell?, hzr]
        have HE := Lib.hid (And.intro ea HP2)
        clear hs ea hzr HP2
        go_wp2_with fail
        refine (add_tail B p F _ L a b i k s wr (H.out.below HA.out.2) HE.out.2 HE.out.1 hL).mono ?_
        rintro e w6 ⟨rfl, hd⟩
        have HD := Lib.hid (hd.ahead HA.out.2)
        clear hd
        go_wp2_with fail
        go_ret
        exact ⟨rfl, _, HP.out.2.2.2, add_len L a b i k hik hk, HD.out⟩
  · obtain rfl : i = k := by omega
    subst ev
    have ea : addL L a b i i = L.take i ++ [(a, b)] ++ L.drop i := by simp [addL, mid]
    have HB3 := Lib.hid (And.intro hB3 (And.intro hz ea))
    have q2 : (i : Int) ≤ (cap : Int) := by omega
    clear hp hB2 h3 hno hcells hz hB3 ea
    by_cases hci : cap = i
    all_goals
      go_wp2_with fail
      go_loopw [39] (fun u wr => u = .int .i64 0 ∧ Hid (AddI w w2.heap.size (mid L i i) a b 0 wr)) (fun _ _ => 0)
      case atStart => exact ⟨rfl, Lib.hid ⟨HB3.out.2.1, HB3.out.1⟩⟩
      case round =>
        obtain ⟨rfl, HA⟩ := hrel
        have hzr := HA.out.1
        simp only [List.take_zero, List.foldl_nil] at hzr
        have g1 : wr.cell? ⟨w2.heap.size, 0, none⟩ = some (.int .u32 a) := by simp [World.cell?, hzr]
        have g2 : wr.cell? ⟨w2.heap.size, 1, none⟩ = some (.int .u32 b) := by simp [World.cell?, hzr]
        clear hzr
        go_wp2_with fail
        refine (add_tail B p F _ L a b i i (a, b) wr (H.out.below HA.out.2) HP.out HB3.out.2.2 hL).mono ?_
        rintro e w6 ⟨rfl, hd⟩
        have HD := Lib.hid (hd.ahead HA.out.2)
        clear hd
        go_wp2_with fail
        go_ret
        exact ⟨rfl, _, HP.out.2.2.2, add_len L a b i i (Nat.le_refl _) hk, HD.out⟩
end Go.Proofs.Ytgbhdccadelcfaa.Sp
