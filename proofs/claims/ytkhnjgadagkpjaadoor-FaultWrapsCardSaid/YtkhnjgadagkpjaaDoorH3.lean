/- fault: the law's chain built, walked. -/
import Derived.Test.YtkhnjgadagkpjaaDoorH2
namespace Go.Proofs.YtkhnjgadagkpjaaDoor.Flt
open Go Go.RowKit Go.Stop Go.Shelf
theorem lst_get (X : Nat → Int × Int) (n i : Nat) (h : i < n) : (lst X n)[i]? = some (X i) := by
  induction n with
  | zero => omega
  | succ n ih =>
    rw [lst]
    by_cases h2 : i < n
    · rw [List.getElem?_append_left (by rw [lst_length]; exact h2), ih h2]
    · obtain rfl : i = n := by omega
      rw [List.getElem?_append_right (by rw [lst_length]; omega), lst_length]; simp
theorem lst_drop (X : Nat → Int × Int) (n i : Nat) (h : i < n) : (lst X n).drop i = X i :: (lst X n).drop (i + 1) := by
  have h1 : i < (lst X n).length := by rw [lst_length]; exact h
  rw [List.drop_eq_getElem_cons h1]
  congr 1
  have := lst_get X n i h
  rw [List.getElem?_eq_getElem h1] at this
  exact Option.some.inj this
/-- What build hands back. -/
def Built (w0 w' : World) (r : Int) (e : Ending) : Prop :=
  ∃ v ao n c X, e = .returned (.tuple #[v, .agg #[.slice ao n c, .int .i64 r]]) ∧ n ≤ c ∧ At2 w' ao X n ∧ 1 ≤ n ∧ n ≤ 30 ∧ (∀ i, i < n → InR (X i)) ∧ ((r ≠ 0 ∧ Chain w' v (lst X n) r) ∨ (r = 0 ∧ v = .nilIface)) ∧ Below w0.heap.size w0 w'
theorem cell_old {w : World} {b i : Nat} {u : Value} (h : w.cell? ⟨b, i, none⟩ = some u) (o : Obj) : (w.alloc o).cell? ⟨b, i, none⟩ = some u := (World.cell?_alloc_past o b i (World.block_lt_of_cell? w ⟨b, i, none⟩ h)).trans h
theorem set_block {w : World} {q i : Nat} {u : Value} {A : Array Value} {k0 : Nat × Nat} (h : w.heap[q]? = some (.cells A 24 k0)) : ∃ A', (w.setCell ⟨q, i, none⟩ u).heap[q]? = some (.cells A' 24 k0) := by
  simp [World.setCell, Array.getElem?_modify, h]
theorem Chain.put {w : World} {q i : Nat} {u : Value} {A : Array Value} {k0 : Nat × Nat} (hq : w.heap[q]? = some (.cells A 24 k0)) : ∀ {v : Value} {L : List (Int × Int)} {r : Int}, Chain w v L r → Chain (w.setCell ⟨q, i, none⟩ u) v L r
  | v, [], r, h => h
  | v, l :: L, r, ⟨p, x, e, hp, h⟩ => by
    have hne : p ≠ q := by
      intro hpq
      subst hpq
      rw [hq] at hp
      simp at hp
    exact ⟨p, x, e, (Below.heap_setCell w ⟨q, i, none⟩ u p hne).trans hp, Chain.put hq h⟩
theorem at2_cells {w : World} {b off i : Nat} {X : Nat → Int × Int} {n : Nat} (h : At2 w (some ⟨b, off, none⟩) X n) (hi : i < n) : w.cell? ⟨b, off + i * 2, none⟩ = some (.int .i64 (X i).1) ∧ w.cell? ⟨b, off + i * 2 + 1, none⟩ = some (.int .u32 (X i).2) := by
  obtain ⟨b', off', h1, _, h3, h4⟩ := h i hi
  cases h1
  exact ⟨h3, h4⟩
set_option maxRecDepth 100000 in
set_option maxHeartbeats 8000000 in
theorem build_pos (ao : Option Addr) (n c : Nat) (X : Nat → Int × Int) (r : Int) (w : World) (hnc : n ≤ c) (_hc : c ≤ maxLen) (hA : At2 w ao X n) (hX : ∀ i, i < n → InR (X i)) (hn : 0 < n) (hr : (r == 0) = false) :
    Calls Tryd.prog 7 #[.agg #[.slice ao n c, .int .i64 r]] w fun e w' => Built w w' r e := by
  unfold maxLen at _hc
  obtain ⟨n', hn'⟩ : ∃ n', n' = min n 30 := ⟨_, rfl⟩
  have en : (min (n : Int) 30).toNat = n' := by omega
  have q1 : (min (n : Int) 30) ≤ c := by omega
  have q3 : 0 ≤ (min (n : Int) 30) := by omega
  have HA := Lib.hid hA
  have HX := Lib.hid hX
  have hle : n' ≤ n := by omega
  have n30 : n' ≤ 30 := by omega
  have n1 : 0 < n' := by omega
  have hne : ((n' : Int) == 0) = false := by rw [beq_eq_false_iff_ne]; omega
  clear hA hX hn'
  go_enter Tryd.func7, Tryd.ntmps7
  go_wp2_with fail
  obtain ⟨b, off, rfl, _, _, _⟩ := HA.out 0 hn
  have hb := (box_below w (.cells #[.slice (some ⟨b, off, none⟩) n c, .int .i64 r] 24)).trans ((box_below (w.alloc (.cells #[.slice (some ⟨b, off, none⟩) n c, .int .i64 r] 24)) (.cells #[.slice none 0 0, .int .i64 0] 24)).mono (by simp))
  have k1 : ((w.alloc (.cells #[.slice (some ⟨b, off, none⟩) n c, .int .i64 r] 24)).alloc (.cells #[.slice none 0 0, .int .i64 0] 24)).cell? ⟨w.heap.size, 1, none⟩ = some (.int .i64 r) := cell_old (by rw [World.cell?_alloc_new]; rfl) _
  have k3 : (∃ v, ((w.alloc (.cells #[.slice (some ⟨b, off, none⟩) n c, .int .i64 r] 24)).alloc (.cells #[.slice none 0 0, .int .i64 0] 24)).cell? ⟨w.heap.size + 1, 0, none⟩ = some v) ∧ (∃ v, ((w.alloc (.cells #[.slice (some ⟨b, off, none⟩) n c, .int .i64 r] 24)).alloc (.cells #[.slice none 0 0, .int .i64 0] 24)).cell? ⟨w.heap.size + 1, 1, none⟩ = some v) ∧ ∀ j, ((w.alloc (.cells #[.slice (some ⟨b, off, none⟩) n c, .int .i64 r] 24)).alloc (.cells #[.slice none 0 0, .int .i64 0] 24)).frozen? ⟨w.heap.size + 1, j, none⟩ = false := by
    have hs : (w.alloc (.cells #[.slice (some ⟨b, off, none⟩) n c, .int .i64 r] 24)).heap.size = w.heap.size + 1 := World.size_alloc _ _
    rw [← hs]
    exact ⟨⟨.slice none 0 0, by rw [World.cell?_alloc_new]; rfl⟩, ⟨.int .i64 0, by rw [World.cell?_alloc_new]; rfl⟩, fun j => World.frozen?_alloc_new _ _ _ _⟩
  have k6 : ((w.alloc (.cells #[.slice (some ⟨b, off, none⟩) n c, .int .i64 r] 24)).alloc (.cells #[.slice none 0 0, .int .i64 0] 24)).heap[w.heap.size + 1]? = some (.cells #[.slice none 0 0, .int .i64 0] 24 (0, 0)) := by
    have h := World.alloc_heap_new (w.alloc (.cells #[.slice (some ⟨b, off, none⟩) n c, .int .i64 r] 24)) (.cells #[.slice none 0 0, .int .i64 0] 24)
    rwa [World.size_alloc] at h
  have hA1 : At2 ((w.alloc (.cells #[.slice (some ⟨b, off, none⟩) n c, .int .i64 r] 24)).alloc (.cells #[.slice none 0 0, .int .i64 0] 24)) (some ⟨b, off, none⟩) X n' := fun i hi => (HA.out.on hb (Nat.le_refl _)) i (by omega)
  generalize ((w.alloc (.cells #[.slice (some ⟨b, off, none⟩) n c, .int .i64 r] 24)).alloc (.cells #[.slice none 0 0, .int .i64 0] 24)) = w1 at *
  obtain ⟨e0, e1⟩ := at2_cells hA1 (show n' - 1 < n' by omega)
  have hw : IntKind.i64.wrap ((n' : Int) - 1) = (n' : Int) - 1 := by simp [IntKind.wrap, IntKind.bits, IntKind.signed]; omega
  have i0 : (0 : Int) ≤ IntKind.i64.wrap ((n' : Int) - 1) := by omega
  have i1 : IntKind.i64.wrap ((n' : Int) - 1) < (n' : Int) := by omega
  have i2 : (IntKind.i64.wrap ((n' : Int) - 1)).toNat = n' - 1 := by omega
  have j0 : (0 : Int) ≤ (n' : Int) - 1 := by omega
  have j1 : (n' : Int) - 1 < (n' : Int) := by omega
  have j2 : ((n' : Int) - 1).toNat = n' - 1 := by omega
  have j3 : (1 : Int) ≤ (n' : Int) := by omega
  have HA1 := Lib.hid hA1
  have HK := Lib.hid (And.intro k1 (And.intro k3 k6))
  have HBb := Lib.hid hb
  clear hA1 k3 k6 hb
  go_region_held3 (fun w' => w'.cell? ⟨w.heap.size, 1, none⟩ = some (.int .i64 r) ∧ w'.cell? ⟨b, off + (n' - 1) * 2, none⟩ = some (.int .i64 (X (n' - 1)).1) ∧ w'.cell? ⟨b, off + (n' - 1) * 2 + 1, none⟩ = some (.int .u32 (X (n' - 1)).2))
    (first | exact ⟨k1, e0, e1⟩ | exact ⟨cell_old k1 _, cell_old e0 _, cell_old e1 _⟩)
    ((go_at_call 16; refine (new_ok r (X (n' - 1)).1 (X (n' - 1)).2 _ hr).mono ?_; rintro e w5 ⟨rfl, rfl⟩))
  have hb2 : Below w1.heap.size w1 (w1.alloc (.cells #[.int .i64 (X (n' - 1)).1, .int .u32 (X (n' - 1)).2, .iface 30 (.int .i64 r)] 55)).drew := (box_below w1 _).drew
  have hC2 := (chain_wrap (show Chain w1 (.iface 30 (.int .i64 r)) [] r from rfl) (X (n' - 1)).1 (X (n' - 1)).2).on (Below.refl _ _).drew (Nat.le_refl _)
  have hl : [((X (n' - 1)).1, (X (n' - 1)).2)] = (lst X n').drop (n' - 1) := by
    rw [lst_drop X n' (n' - 1) (by omega), show n' - 1 + 1 = n' by omega, List.drop_of_length_le (by rw [lst_length]; omega)]
  rw [hl] at hC2
  have HC2 := Lib.hid hC2
  have HB2 := Lib.hid hb2
  clear hb2 hC2 hl k1 e0 e1
  generalize (w1.alloc (.cells #[.int .i64 (X (n' - 1)).1, .int .u32 (X (n' - 1)).2, .iface 30 (.int .i64 r)] 55)).drew = w2 at *
  generalize hz1 : w1.heap.size = z1 at *
  have EZ := Lib.hid hz1
  clear hz1
  clear hw i0 i1 i2 j0 j1 j2
  go_wp2_with fail
  go_loopw [6, 7] (fun v i wr => ∃ k : Nat, k < n' ∧ i = .int .i64 ((k : Int) - 1) ∧ Chain wr v ((lst X n').drop k) r ∧ Below z1 w1 wr) (fun _ i _ => (intOf i + 1).toNat)
  case atStart => exact ⟨n' - 1, by omega, by congr 1; omega, HC2.out, HB2.out⟩
  case round =>
    obtain ⟨k, hk, rfl, hch, hbl⟩ := hrel
    cases k with
    | zero =>
      have HC := Lib.hid hch
      have HB := Lib.hid hbl
      clear hch hbl HC2 HB2
      obtain ⟨k1, ⟨⟨v0, k3⟩, ⟨v1, k4⟩, k5⟩, k6⟩ := HK.out
      have zr : w.heap.size < z1 := EZ.out ▸ World.block_lt_of_cell? w1 ⟨w.heap.size, 1, none⟩ k1
      have z3 : w.heap.size + 1 < z1 := EZ.out ▸ World.block_lt_of_cell? w1 ⟨w.heap.size + 1, 0, none⟩ k3
      have m1 := (HB.out.cell (p := ⟨w.heap.size, 1, none⟩) zr).trans k1
      have m3 := (HB.out.cell (p := ⟨w.heap.size + 1, 0, none⟩) z3).trans k3
      have m4 := (HB.out.cell (p := ⟨w.heap.size + 1, 1, none⟩) z3).trans k4
      have m5 := (HB.out.frozen (p := ⟨w.heap.size + 1, 0, none⟩) z3).trans (k5 0)
      have m6 := (HB.out.frozen (p := ⟨w.heap.size + 1, 1, none⟩) z3).trans (k5 1)
      have m7 := (HB.out.block (w.heap.size + 1) z3).trans k6
      have M7 := Lib.hid m7
      clear k1 k3 k4 k5 k6 m7
      go_wp2_with fail
      go_region
      obtain ⟨A', hA'⟩ := set_block (i := 0) (u := .slice (some ⟨b, off, none⟩) n' c) M7.out
      have hCh : Chain ((wr.setCell ⟨w.heap.size + 1, 0, none⟩ (.slice (some ⟨b, off, none⟩) n' c)).setCell ⟨w.heap.size + 1, 1, none⟩ (.int .i64 r)).drew _ (lst X n') r := (Chain.put hA' (Chain.put M7.out HC.out)).on (Below.refl _ _).drew (Nat.le_refl _)
      have y0 : ((wr.setCell ⟨w.heap.size + 1, 0, none⟩ (.slice (some ⟨b, off, none⟩) n' c)).setCell ⟨w.heap.size + 1, 1, none⟩ (.int .i64 r)).drew.cell? ⟨w.heap.size + 1, 0, none⟩ = some (.slice (some ⟨b, off, none⟩) n' c) := (World.cell?_setCell_other _ _ _ _ (by simp)).trans (World.cell?_setCell_same _ _ _ m3)
      have y1 : ((wr.setCell ⟨w.heap.size + 1, 0, none⟩ (.slice (some ⟨b, off, none⟩) n' c)).setCell ⟨w.heap.size + 1, 1, none⟩ (.int .i64 r)).drew.cell? ⟨w.heap.size + 1, 1, none⟩ = some (.int .i64 r) := World.cell?_setCell_same _ _ _ ((World.cell?_setCell_other _ _ _ _ (by simp)).trans m4)
      have hW : Below w.heap.size w ((wr.setCell ⟨w.heap.size + 1, 0, none⟩ (.slice (some ⟨b, off, none⟩) n' c)).setCell ⟨w.heap.size + 1, 1, none⟩ (.int .i64 r)).drew :=
        (((HBb.out.trans (HB.out.mono (Nat.le_of_lt zr))).setCell (p := ⟨w.heap.size + 1, 0, none⟩) (by simp) _).setCell (p := ⟨w.heap.size + 1, 1, none⟩) (by simp) _).drew
      generalize ((wr.setCell ⟨w.heap.size + 1, 0, none⟩ (.slice (some ⟨b, off, none⟩) n' c)).setCell ⟨w.heap.size + 1, 1, none⟩ (.int .i64 r)).drew = w9 at *
      have hne0 : r ≠ 0 := by rw [beq_eq_false_iff_ne] at hr; exact hr
      have HF := Lib.hid (And.intro (And.intro hne0 hCh) hW)
      clear hCh hW hne0
      go_wp2_with fail
      exact bodyPost_ret (v := .tuple #[_, .agg #[.slice (some ⟨b, off, none⟩) n' c, .int .i64 r]]) (by simp [results, Tryd.results7, go_sem, y0, y1]) rfl
        ⟨_, some ⟨b, off, none⟩, n', c, X, rfl, by omega, fun i hi => (HA.out.on HF.out.2 (Nat.le_refl _)) i (by omega), n1, n30, fun i hi => HX.out i (by omega), .inl HF.out.1, HF.out.2⟩
    | succ k =>
      have ei : ((k + 1 : Nat) : Int) - 1 = (k : Int) := by omega
      rw [ei]
      obtain ⟨t, x, rfl⟩ := chain_some hch
      have HC := Lib.hid hch
      have HB := Lib.hid hbl
      clear hch hbl HC2 HB2
      obtain ⟨e0, e1⟩ := at2_cells (HA1.out.on HB.out (Nat.le_of_eq EZ.out)) (show k < n' by omega)
      have i0 : (0 : Int) ≤ (k : Int) := by omega
      have i1 : (k : Int) < (n' : Int) := by omega
      go_wp2_with fail
      go_region_held3 (fun w' => w'.cell? ⟨b, off + k * 2, none⟩ = some (.int .i64 (X k).1) ∧ w'.cell? ⟨b, off + k * 2 + 1, none⟩ = some (.int .u32 (X k).2))
        (first | exact ⟨e0, e1⟩ | exact ⟨cell_old e0 _, cell_old e1 _⟩)
        ((go_at_call 15; refine (wrap_any t x (X k).1 (X k).2 _).mono ?_; rintro e w5 ⟨rfl, rfl⟩))
      go_wp2_with fail
      go_roundw
      case rel =>
        refine ⟨k, by omega, by go_num, ?_, ?_⟩
        · rw [lst_drop X n' k (by omega)]
          exact (chain_wrap HC.out (X k).1 (X k).2).on (Below.refl _ _).drew (Nat.le_refl _)
        · exact (HB.out.alloc (EZ.out ▸ HB.out.size) _).drew
      case measure => first | (simp [intOf]; done) | (simp [intOf]; omega)
set_option maxRecDepth 100000 in
set_option maxHeartbeats 8000000 in
theorem build_nil (ao : Option Addr) (n c : Nat) (X : Nat → Int × Int) (w : World) (hnc : n ≤ c) (_hc : c ≤ maxLen) (hA : At2 w ao X n) (hX : ∀ i, i < n → InR (X i)) (hn : 0 < n) :
    Calls Tryd.prog 7 #[.agg #[.slice ao n c, .int .i64 0]] w fun e w' => Built w w' 0 e := by
  unfold maxLen at _hc
  obtain ⟨n', hn'⟩ : ∃ n', n' = min n 30 := ⟨_, rfl⟩
  have en : (min (n : Int) 30).toNat = n' := by omega
  have q1 : (min (n : Int) 30) ≤ c := by omega
  have q3 : 0 ≤ (min (n : Int) 30) := by omega
  have HA := Lib.hid hA
  have HX := Lib.hid hX
  have hle : n' ≤ n := by omega
  have n30 : n' ≤ 30 := by omega
  have n1 : 0 < n' := by omega
  have hne : ((n' : Int) == 0) = false := by rw [beq_eq_false_iff_ne]; omega
  clear hA hX hn'
  go_enter Tryd.func7, Tryd.ntmps7
  go_wp2_with fail
  obtain ⟨b, off, rfl, _, _, _⟩ := HA.out 0 hn
  have hb := (box_below w (.cells #[.slice (some ⟨b, off, none⟩) n c, .int .i64 0] 24)).trans ((box_below (w.alloc (.cells #[.slice (some ⟨b, off, none⟩) n c, .int .i64 0] 24)) (.cells #[.slice none 0 0, .int .i64 0] 24)).mono (by simp))
  have k1 : ((w.alloc (.cells #[.slice (some ⟨b, off, none⟩) n c, .int .i64 0] 24)).alloc (.cells #[.slice none 0 0, .int .i64 0] 24)).cell? ⟨w.heap.size, 1, none⟩ = some (.int .i64 0) := cell_old (by rw [World.cell?_alloc_new]; rfl) _
  have k3 : (∃ v, ((w.alloc (.cells #[.slice (some ⟨b, off, none⟩) n c, .int .i64 0] 24)).alloc (.cells #[.slice none 0 0, .int .i64 0] 24)).cell? ⟨w.heap.size + 1, 0, none⟩ = some v) ∧ (∃ v, ((w.alloc (.cells #[.slice (some ⟨b, off, none⟩) n c, .int .i64 0] 24)).alloc (.cells #[.slice none 0 0, .int .i64 0] 24)).cell? ⟨w.heap.size + 1, 1, none⟩ = some v) ∧ ∀ j, ((w.alloc (.cells #[.slice (some ⟨b, off, none⟩) n c, .int .i64 0] 24)).alloc (.cells #[.slice none 0 0, .int .i64 0] 24)).frozen? ⟨w.heap.size + 1, j, none⟩ = false := by
    have hs : (w.alloc (.cells #[.slice (some ⟨b, off, none⟩) n c, .int .i64 0] 24)).heap.size = w.heap.size + 1 := World.size_alloc _ _
    rw [← hs]
    exact ⟨⟨.slice none 0 0, by rw [World.cell?_alloc_new]; rfl⟩, ⟨.int .i64 0, by rw [World.cell?_alloc_new]; rfl⟩, fun j => World.frozen?_alloc_new _ _ _ _⟩
  have k6 : ((w.alloc (.cells #[.slice (some ⟨b, off, none⟩) n c, .int .i64 0] 24)).alloc (.cells #[.slice none 0 0, .int .i64 0] 24)).heap[w.heap.size + 1]? = some (.cells #[.slice none 0 0, .int .i64 0] 24 (0, 0)) := by
    have h := World.alloc_heap_new (w.alloc (.cells #[.slice (some ⟨b, off, none⟩) n c, .int .i64 0] 24)) (.cells #[.slice none 0 0, .int .i64 0] 24)
    rwa [World.size_alloc] at h
  have hA1 : At2 ((w.alloc (.cells #[.slice (some ⟨b, off, none⟩) n c, .int .i64 0] 24)).alloc (.cells #[.slice none 0 0, .int .i64 0] 24)) (some ⟨b, off, none⟩) X n' := fun i hi => (HA.out.on hb (Nat.le_refl _)) i (by omega)
  generalize ((w.alloc (.cells #[.slice (some ⟨b, off, none⟩) n c, .int .i64 0] 24)).alloc (.cells #[.slice none 0 0, .int .i64 0] 24)) = w1 at *
  obtain ⟨e0, e1⟩ := at2_cells hA1 (show n' - 1 < n' by omega)
  have hw : IntKind.i64.wrap ((n' : Int) - 1) = (n' : Int) - 1 := by simp [IntKind.wrap, IntKind.bits, IntKind.signed]; omega
  have i0 : (0 : Int) ≤ IntKind.i64.wrap ((n' : Int) - 1) := by omega
  have i1 : IntKind.i64.wrap ((n' : Int) - 1) < (n' : Int) := by omega
  have i2 : (IntKind.i64.wrap ((n' : Int) - 1)).toNat = n' - 1 := by omega
  have j0 : (0 : Int) ≤ (n' : Int) - 1 := by omega
  have j1 : (n' : Int) - 1 < (n' : Int) := by omega
  have j2 : ((n' : Int) - 1).toNat = n' - 1 := by omega
  have j3 : (1 : Int) ≤ (n' : Int) := by omega
  have HA1 := Lib.hid hA1
  have HK := Lib.hid (And.intro k1 (And.intro k3 k6))
  have HBb := Lib.hid hb
  clear hA1 k3 k6 hb
  go_region_held3 (fun w' => w'.cell? ⟨w.heap.size, 1, none⟩ = some (.int .i64 0) ∧ w'.cell? ⟨b, off + (n' - 1) * 2, none⟩ = some (.int .i64 (X (n' - 1)).1) ∧ w'.cell? ⟨b, off + (n' - 1) * 2 + 1, none⟩ = some (.int .u32 (X (n' - 1)).2))
    (first | exact ⟨k1, e0, e1⟩ | exact ⟨cell_old k1 _, cell_old e0 _, cell_old e1 _⟩)
    ((go_at_call 16; refine (new_nil (X (n' - 1)).1 (X (n' - 1)).2 _).mono ?_; rintro e w5 ⟨rfl, rfl⟩))
  have HB2 := Lib.hid ((Below.refl w1.heap.size w1).drew)
  clear k1 e0 e1
  generalize w1.drew = w2 at *
  generalize hz1 : w1.heap.size = z1 at *
  have EZ := Lib.hid hz1
  clear hz1
  clear hw i0 i1 i2 j0 j1 j2
  go_wp2_with fail
  go_loopw [6, 7] (fun v i wr => ∃ k : Nat, k < n' ∧ i = .int .i64 ((k : Int) - 1) ∧ v = .nilIface ∧ Below z1 w1 wr) (fun _ i _ => (intOf i + 1).toNat)
  case atStart => exact ⟨n' - 1, by omega, by congr 1; omega, rfl, HB2.out⟩
  case round =>
    obtain ⟨k, hk, rfl, rfl, hbl⟩ := hrel
    cases k with
    | zero =>
      have HB := Lib.hid hbl
      clear hbl HB2
      obtain ⟨k1, ⟨⟨v0, k3⟩, ⟨v1, k4⟩, k5⟩, k6⟩ := HK.out
      have zr : w.heap.size < z1 := EZ.out ▸ World.block_lt_of_cell? w1 ⟨w.heap.size, 1, none⟩ k1
      have z3 : w.heap.size + 1 < z1 := EZ.out ▸ World.block_lt_of_cell? w1 ⟨w.heap.size + 1, 0, none⟩ k3
      have m1 := (HB.out.cell (p := ⟨w.heap.size, 1, none⟩) zr).trans k1
      have m3 := (HB.out.cell (p := ⟨w.heap.size + 1, 0, none⟩) z3).trans k3
      have m4 := (HB.out.cell (p := ⟨w.heap.size + 1, 1, none⟩) z3).trans k4
      have m5 := (HB.out.frozen (p := ⟨w.heap.size + 1, 0, none⟩) z3).trans (k5 0)
      have m6 := (HB.out.frozen (p := ⟨w.heap.size + 1, 1, none⟩) z3).trans (k5 1)
      have m7 := (HB.out.block (w.heap.size + 1) z3).trans k6
      have M7 := Lib.hid m7
      clear k1 k3 k4 k5 k6 m7
      go_wp2_with fail
      go_region
      have y0 : ((wr.setCell ⟨w.heap.size + 1, 0, none⟩ (.slice (some ⟨b, off, none⟩) n' c)).setCell ⟨w.heap.size + 1, 1, none⟩ (.int .i64 0)).drew.cell? ⟨w.heap.size + 1, 0, none⟩ = some (.slice (some ⟨b, off, none⟩) n' c) := (World.cell?_setCell_other _ _ _ _ (by simp)).trans (World.cell?_setCell_same _ _ _ m3)
      have y1 : ((wr.setCell ⟨w.heap.size + 1, 0, none⟩ (.slice (some ⟨b, off, none⟩) n' c)).setCell ⟨w.heap.size + 1, 1, none⟩ (.int .i64 0)).drew.cell? ⟨w.heap.size + 1, 1, none⟩ = some (.int .i64 0) := World.cell?_setCell_same _ _ _ ((World.cell?_setCell_other _ _ _ _ (by simp)).trans m4)
      have hW : Below w.heap.size w ((wr.setCell ⟨w.heap.size + 1, 0, none⟩ (.slice (some ⟨b, off, none⟩) n' c)).setCell ⟨w.heap.size + 1, 1, none⟩ (.int .i64 0)).drew :=
        (((HBb.out.trans (HB.out.mono (Nat.le_of_lt zr))).setCell (p := ⟨w.heap.size + 1, 0, none⟩) (by simp) _).setCell (p := ⟨w.heap.size + 1, 1, none⟩) (by simp) _).drew
      generalize ((wr.setCell ⟨w.heap.size + 1, 0, none⟩ (.slice (some ⟨b, off, none⟩) n' c)).setCell ⟨w.heap.size + 1, 1, none⟩ (.int .i64 0)).drew = w9 at *
      have HF := Lib.hid (And.intro trivial hW)
      clear hW
      go_wp2_with fail
      exact bodyPost_ret (v := .tuple #[_, .agg #[.slice (some ⟨b, off, none⟩) n' c, .int .i64 0]]) (by simp [results, Tryd.results7, go_sem, y0, y1]) rfl
        ⟨_, some ⟨b, off, none⟩, n', c, X, rfl, by omega, fun i hi => (HA.out.on HF.out.2 (Nat.le_refl _)) i (by omega), n1, n30, fun i hi => HX.out i (by omega), .inr ⟨rfl, rfl⟩, HF.out.2⟩
    | succ k =>
      have ei : ((k + 1 : Nat) : Int) - 1 = (k : Int) := by omega
      rw [ei]
      have HB := Lib.hid hbl
      clear hbl HB2
      obtain ⟨e0, e1⟩ := at2_cells (HA1.out.on HB.out (Nat.le_of_eq EZ.out)) (show k < n' by omega)
      have i0 : (0 : Int) ≤ (k : Int) := by omega
      have i1 : (k : Int) < (n' : Int) := by omega
      go_wp2_with fail
      go_region_held3 (fun w' => w'.cell? ⟨b, off + k * 2, none⟩ = some (.int .i64 (X k).1) ∧ w'.cell? ⟨b, off + k * 2 + 1, none⟩ = some (.int .u32 (X k).2))
        (first | exact ⟨e0, e1⟩ | exact ⟨cell_old e0 _, cell_old e1 _⟩)
        ((go_at_call 15; refine (wrap_nil (X k).1 (X k).2 _).mono ?_; rintro e w5 ⟨rfl, rfl⟩))
      go_wp2_with fail
      go_roundw
      case rel =>
        exact ⟨k, by omega, by go_num, rfl, HB.out.drew⟩
      case measure => first | (simp [intOf]; done) | (simp [intOf]; omega)
set_option maxRecDepth 100000 in
set_option maxHeartbeats 8000000 in
theorem build_one (ao : Option Addr) (c : Nat) (r : Int) (w : World) (hr : (r == 0) = false) :
    Calls Tryd.prog 7 #[.agg #[.slice ao 0 c, .int .i64 r]] w fun e w' => Built w w' r e := by
  have hc0 : (0 : Int) ≤ (c : Int) := by omega
  go_enter Tryd.func7, Tryd.ntmps7
  go_wp2_with fail
  have ha := box_below w (.cells #[.slice ao 0 c, .int .i64 r] 24)
  have hb1 := ha.trans ((box_below (w.alloc (.cells #[.slice ao 0 c, .int .i64 r] 24)) (.cells #[.slice none 0 0, .int .i64 0] 24)).mono (by simp))
  have hb := hb1.trans ((box_below ((w.alloc (.cells #[.slice ao 0 c, .int .i64 r] 24)).alloc (.cells #[.slice none 0 0, .int .i64 0] 24)) (.cells #[.int .i64 0, .int .u32 0] 42)).mono (by simp; omega))
  have hs1 : (w.alloc (.cells #[.slice ao 0 c, .int .i64 r] 24)).heap.size = w.heap.size + 1 := World.size_alloc _ _
  have hs2 : ((w.alloc (.cells #[.slice ao 0 c, .int .i64 r] 24)).alloc (.cells #[.slice none 0 0, .int .i64 0] 24)).heap.size = w.heap.size + 2 := by rw [World.size_alloc, hs1]
  have k1 : (((w.alloc (.cells #[.slice ao 0 c, .int .i64 r] 24)).alloc (.cells #[.slice none 0 0, .int .i64 0] 24)).alloc (.cells #[.int .i64 0, .int .u32 0] 42)).cell? ⟨w.heap.size, 1, none⟩ = some (.int .i64 r) := cell_old (cell_old (by rw [World.cell?_alloc_new]; rfl) _) _
  have k6 : (((w.alloc (.cells #[.slice ao 0 c, .int .i64 r] 24)).alloc (.cells #[.slice none 0 0, .int .i64 0] 24)).alloc (.cells #[.int .i64 0, .int .u32 0] 42)).heap[w.heap.size + 1]? = some (.cells #[.slice none 0 0, .int .i64 0] 24 (0, 0)) := by
    have h := World.alloc_heap_new (w.alloc (.cells #[.slice ao 0 c, .int .i64 r] 24)) (.cells #[.slice none 0 0, .int .i64 0] 24)
    rw [hs1] at h
    exact (Below.heap_alloc _ _ _ (by rw [hs2]; omega)).trans h
  have e0 : (((w.alloc (.cells #[.slice ao 0 c, .int .i64 r] 24)).alloc (.cells #[.slice none 0 0, .int .i64 0] 24)).alloc (.cells #[.int .i64 0, .int .u32 0] 42)).cell? ⟨w.heap.size + 2, 0, none⟩ = some (.int .i64 0) := by rw [← hs2, World.cell?_alloc_new]; rfl
  have e1 : (((w.alloc (.cells #[.slice ao 0 c, .int .i64 r] 24)).alloc (.cells #[.slice none 0 0, .int .i64 0] 24)).alloc (.cells #[.int .i64 0, .int .u32 0] 42)).cell? ⟨w.heap.size + 2, 1, none⟩ = some (.int .u32 0) := by rw [← hs2, World.cell?_alloc_new]; rfl
  have hbl : w.heap.size + 2 < (((w.alloc (.cells #[.slice ao 0 c, .int .i64 r] 24)).alloc (.cells #[.slice none 0 0, .int .i64 0] 24)).alloc (.cells #[.int .i64 0, .int .u32 0] 42)).heap.size := by rw [World.size_alloc, hs2]; omega
  clear hb1 ha hs1 hs2
  generalize (((w.alloc (.cells #[.slice ao 0 c, .int .i64 r] 24)).alloc (.cells #[.slice none 0 0, .int .i64 0] 24)).alloc (.cells #[.int .i64 0, .int .u32 0] 42)) = w1 at *
  have HB := Lib.hid hb
  have HK := Lib.hid k6
  have HE := Lib.hid (And.intro e0 e1)
  clear hb k6
  have i0 : (0 : Int) ≤ IntKind.i64.wrap 0 := by decide
  have i1 : IntKind.i64.wrap 0 < (1 : Int) := by decide
  have i2 : (IntKind.i64.wrap 0).toNat = 0 := by decide
  go_region_held3 (fun w' => w'.cell? ⟨w.heap.size, 1, none⟩ = some (.int .i64 r) ∧ w'.cell? ⟨w.heap.size + 2, 0, none⟩ = some (.int .i64 0) ∧ w'.cell? ⟨w.heap.size + 2, 1, none⟩ = some (.int .u32 0))
    (first | exact ⟨k1, e0, e1⟩ | exact ⟨cell_old k1 _, cell_old e0 _, cell_old e1 _⟩)
    ((go_at_call 16; refine (new_ok r 0 0 _ hr).mono ?_; rintro e w5 ⟨rfl, rfl⟩))
  have HC2 := Lib.hid ((chain_wrap (show Chain w1 (.iface 30 (.int .i64 r)) [] r from rfl) 0 0).on (Below.refl _ _).drew (Nat.le_refl _))
  have HB2 := Lib.hid ((box_below w1 (.cells #[.int .i64 0, .int .u32 0, .iface 30 (.int .i64 r)] 55)).drew)
  generalize (w1.alloc (.cells #[.int .i64 0, .int .u32 0, .iface 30 (.int .i64 r)] 55)).drew = w2 at *
  have m7 := HB2.out.block (w.heap.size + 1) (by omega)
  rw [HK.out] at m7
  have m1 := (HB2.out.cell (p := ⟨w.heap.size, 1, none⟩) (by simp; omega)).trans k1
  have m3 : w2.cell? ⟨w.heap.size + 1, 0, none⟩ = some (.slice none 0 0) := by simp [World.cell?, m7]
  have m4 : w2.cell? ⟨w.heap.size + 1, 1, none⟩ = some (.int .i64 0) := by simp [World.cell?, m7]
  have m5 : w2.frozen? ⟨w.heap.size + 1, 0, none⟩ = false := by simp [World.frozen?, m7]
  have m6 : w2.frozen? ⟨w.heap.size + 1, 1, none⟩ = false := by simp [World.frozen?, m7]
  have M7 := Lib.hid m7
  clear m7 k1 e0 e1
  go_wp2_with fail
  refine wp_loop_rounds 1 ?_
  rw [rounds_succ]
  go_wp2_with fail
  go_region
  obtain ⟨A', hA'⟩ := set_block (i := 0) (u := .slice (some ⟨w.heap.size + 2, 0, none⟩) 1 1) M7.out
  have hne0 : r ≠ 0 := by rw [beq_eq_false_iff_ne] at hr; exact hr
  have hCh : Chain ((w2.setCell ⟨w.heap.size + 1, 0, none⟩ (.slice (some ⟨w.heap.size + 2, 0, none⟩) 1 1)).setCell ⟨w.heap.size + 1, 1, none⟩ (.int .i64 r)).drew _ (lst (fun _ => (0, 0)) 1) r := (Chain.put hA' (Chain.put M7.out HC2.out)).on (Below.refl _ _).drew (Nat.le_refl _)
  have y0 : ((w2.setCell ⟨w.heap.size + 1, 0, none⟩ (.slice (some ⟨w.heap.size + 2, 0, none⟩) 1 1)).setCell ⟨w.heap.size + 1, 1, none⟩ (.int .i64 r)).drew.cell? ⟨w.heap.size + 1, 0, none⟩ = some (.slice (some ⟨w.heap.size + 2, 0, none⟩) 1 1) := (World.cell?_setCell_other _ _ _ _ (by simp)).trans (World.cell?_setCell_same _ _ _ m3)
  have y1 : ((w2.setCell ⟨w.heap.size + 1, 0, none⟩ (.slice (some ⟨w.heap.size + 2, 0, none⟩) 1 1)).setCell ⟨w.heap.size + 1, 1, none⟩ (.int .i64 r)).drew.cell? ⟨w.heap.size + 1, 1, none⟩ = some (.int .i64 r) := World.cell?_setCell_same _ _ _ ((World.cell?_setCell_other _ _ _ _ (by simp)).trans m4)
  have a0 : ((w2.setCell ⟨w.heap.size + 1, 0, none⟩ (.slice (some ⟨w.heap.size + 2, 0, none⟩) 1 1)).setCell ⟨w.heap.size + 1, 1, none⟩ (.int .i64 r)).drew.cell? ⟨w.heap.size + 2, 0, none⟩ = some (.int .i64 0) := (World.cell?_setCell_other _ _ _ _ (by simp)).trans ((World.cell?_setCell_other _ _ _ _ (by simp)).trans ((HB2.out.cell (p := ⟨w.heap.size + 2, 0, none⟩) hbl).trans HE.out.1))
  have a1 : ((w2.setCell ⟨w.heap.size + 1, 0, none⟩ (.slice (some ⟨w.heap.size + 2, 0, none⟩) 1 1)).setCell ⟨w.heap.size + 1, 1, none⟩ (.int .i64 r)).drew.cell? ⟨w.heap.size + 2, 1, none⟩ = some (.int .u32 0) := (World.cell?_setCell_other _ _ _ _ (by simp)).trans ((World.cell?_setCell_other _ _ _ _ (by simp)).trans ((HB2.out.cell (p := ⟨w.heap.size + 2, 1, none⟩) hbl).trans HE.out.2))
  have hW : Below w.heap.size w ((w2.setCell ⟨w.heap.size + 1, 0, none⟩ (.slice (some ⟨w.heap.size + 2, 0, none⟩) 1 1)).setCell ⟨w.heap.size + 1, 1, none⟩ (.int .i64 r)).drew :=
    (((HB.out.trans (HB2.out.mono (by omega))).setCell (p := ⟨w.heap.size + 1, 0, none⟩) (by simp) _).setCell (p := ⟨w.heap.size + 1, 1, none⟩) (by simp) _).drew
  have hsz : w.heap.size + 2 < ((w2.setCell ⟨w.heap.size + 1, 0, none⟩ (.slice (some ⟨w.heap.size + 2, 0, none⟩) 1 1)).setCell ⟨w.heap.size + 1, 1, none⟩ (.int .i64 r)).drew.heap.size := World.block_lt_of_cell? _ ⟨w.heap.size + 2, 0, none⟩ a0
  generalize ((w2.setCell ⟨w.heap.size + 1, 0, none⟩ (.slice (some ⟨w.heap.size + 2, 0, none⟩) 1 1)).setCell ⟨w.heap.size + 1, 1, none⟩ (.int .i64 r)).drew = w9 at *
  have HF := Lib.hid (And.intro (And.intro hne0 hCh) (And.intro hW (And.intro a0 (And.intro a1 hsz))))
  clear hW a0 a1 hsz hCh hne0
  go_wp2_with fail
  exact bodyPost_ret (v := .tuple #[_, .agg #[.slice (some ⟨w.heap.size + 2, 0, none⟩) 1 1, .int .i64 r]]) (by simp [results, Tryd.results7, go_sem, y0, y1]) rfl
    ⟨_, some ⟨w.heap.size + 2, 0, none⟩, 1, 1, fun _ => (0, 0), rfl, by omega, fun i hi => by
      obtain rfl : i = 0 := by omega
      exact ⟨w.heap.size + 2, 0, rfl, HF.out.2.2.2.2, HF.out.2.2.1, HF.out.2.2.2.1⟩, by omega, by omega, fun _ _ => by simp [InR], .inl HF.out.1, HF.out.2.1⟩
set_option maxRecDepth 100000 in
set_option maxHeartbeats 8000000 in
theorem build_nul (ao : Option Addr) (c : Nat) (w : World) :
    Calls Tryd.prog 7 #[.agg #[.slice ao 0 c, .int .i64 0]] w fun e w' => Built w w' 0 e := by
  have hc0 : (0 : Int) ≤ (c : Int) := by omega
  go_enter Tryd.func7, Tryd.ntmps7
  go_wp2_with fail
  have ha := box_below w (.cells #[.slice ao 0 c, .int .i64 0] 24)
  have hb1 := ha.trans ((box_below (w.alloc (.cells #[.slice ao 0 c, .int .i64 0] 24)) (.cells #[.slice none 0 0, .int .i64 0] 24)).mono (by simp))
  have hb := hb1.trans ((box_below ((w.alloc (.cells #[.slice ao 0 c, .int .i64 0] 24)).alloc (.cells #[.slice none 0 0, .int .i64 0] 24)) (.cells #[.int .i64 0, .int .u32 0] 42)).mono (by simp; omega))
  have hs1 : (w.alloc (.cells #[.slice ao 0 c, .int .i64 0] 24)).heap.size = w.heap.size + 1 := World.size_alloc _ _
  have hs2 : ((w.alloc (.cells #[.slice ao 0 c, .int .i64 0] 24)).alloc (.cells #[.slice none 0 0, .int .i64 0] 24)).heap.size = w.heap.size + 2 := by rw [World.size_alloc, hs1]
  have k1 : (((w.alloc (.cells #[.slice ao 0 c, .int .i64 0] 24)).alloc (.cells #[.slice none 0 0, .int .i64 0] 24)).alloc (.cells #[.int .i64 0, .int .u32 0] 42)).cell? ⟨w.heap.size, 1, none⟩ = some (.int .i64 0) := cell_old (cell_old (by rw [World.cell?_alloc_new]; rfl) _) _
  have k6 : (((w.alloc (.cells #[.slice ao 0 c, .int .i64 0] 24)).alloc (.cells #[.slice none 0 0, .int .i64 0] 24)).alloc (.cells #[.int .i64 0, .int .u32 0] 42)).heap[w.heap.size + 1]? = some (.cells #[.slice none 0 0, .int .i64 0] 24 (0, 0)) := by
    have h := World.alloc_heap_new (w.alloc (.cells #[.slice ao 0 c, .int .i64 0] 24)) (.cells #[.slice none 0 0, .int .i64 0] 24)
    rw [hs1] at h
    exact (Below.heap_alloc _ _ _ (by rw [hs2]; omega)).trans h
  have e0 : (((w.alloc (.cells #[.slice ao 0 c, .int .i64 0] 24)).alloc (.cells #[.slice none 0 0, .int .i64 0] 24)).alloc (.cells #[.int .i64 0, .int .u32 0] 42)).cell? ⟨w.heap.size + 2, 0, none⟩ = some (.int .i64 0) := by rw [← hs2, World.cell?_alloc_new]; rfl
  have e1 : (((w.alloc (.cells #[.slice ao 0 c, .int .i64 0] 24)).alloc (.cells #[.slice none 0 0, .int .i64 0] 24)).alloc (.cells #[.int .i64 0, .int .u32 0] 42)).cell? ⟨w.heap.size + 2, 1, none⟩ = some (.int .u32 0) := by rw [← hs2, World.cell?_alloc_new]; rfl
  have hbl : w.heap.size + 2 < (((w.alloc (.cells #[.slice ao 0 c, .int .i64 0] 24)).alloc (.cells #[.slice none 0 0, .int .i64 0] 24)).alloc (.cells #[.int .i64 0, .int .u32 0] 42)).heap.size := by rw [World.size_alloc, hs2]; omega
  clear hb1 ha hs1 hs2
  generalize (((w.alloc (.cells #[.slice ao 0 c, .int .i64 0] 24)).alloc (.cells #[.slice none 0 0, .int .i64 0] 24)).alloc (.cells #[.int .i64 0, .int .u32 0] 42)) = w1 at *
  have HB := Lib.hid hb
  have HK := Lib.hid k6
  have HE := Lib.hid (And.intro e0 e1)
  clear hb k6
  have i0 : (0 : Int) ≤ IntKind.i64.wrap 0 := by decide
  have i1 : IntKind.i64.wrap 0 < (1 : Int) := by decide
  have i2 : (IntKind.i64.wrap 0).toNat = 0 := by decide
  go_region_held3 (fun w' => w'.cell? ⟨w.heap.size, 1, none⟩ = some (.int .i64 0) ∧ w'.cell? ⟨w.heap.size + 2, 0, none⟩ = some (.int .i64 0) ∧ w'.cell? ⟨w.heap.size + 2, 1, none⟩ = some (.int .u32 0))
    (first | exact ⟨k1, e0, e1⟩ | exact ⟨cell_old k1 _, cell_old e0 _, cell_old e1 _⟩)
    ((go_at_call 16; refine (new_nil 0 0 _).mono ?_; rintro e w5 ⟨rfl, rfl⟩))
  have HB2 := Lib.hid ((Below.refl w1.heap.size w1).drew)
  generalize w1.drew = w2 at *
  have m7 := HB2.out.block (w.heap.size + 1) (by omega)
  rw [HK.out] at m7
  have m1 := (HB2.out.cell (p := ⟨w.heap.size, 1, none⟩) (by simp; omega)).trans k1
  have m3 : w2.cell? ⟨w.heap.size + 1, 0, none⟩ = some (.slice none 0 0) := by simp [World.cell?, m7]
  have m4 : w2.cell? ⟨w.heap.size + 1, 1, none⟩ = some (.int .i64 0) := by simp [World.cell?, m7]
  have m5 : w2.frozen? ⟨w.heap.size + 1, 0, none⟩ = false := by simp [World.frozen?, m7]
  have m6 : w2.frozen? ⟨w.heap.size + 1, 1, none⟩ = false := by simp [World.frozen?, m7]
  have M7 := Lib.hid m7
  clear m7 k1 e0 e1
  go_wp2_with fail
  refine wp_loop_rounds 1 ?_
  rw [rounds_succ]
  go_wp2_with fail
  go_region
  have y0 : ((w2.setCell ⟨w.heap.size + 1, 0, none⟩ (.slice (some ⟨w.heap.size + 2, 0, none⟩) 1 1)).setCell ⟨w.heap.size + 1, 1, none⟩ (.int .i64 0)).drew.cell? ⟨w.heap.size + 1, 0, none⟩ = some (.slice (some ⟨w.heap.size + 2, 0, none⟩) 1 1) := (World.cell?_setCell_other _ _ _ _ (by simp)).trans (World.cell?_setCell_same _ _ _ m3)
  have y1 : ((w2.setCell ⟨w.heap.size + 1, 0, none⟩ (.slice (some ⟨w.heap.size + 2, 0, none⟩) 1 1)).setCell ⟨w.heap.size + 1, 1, none⟩ (.int .i64 0)).drew.cell? ⟨w.heap.size + 1, 1, none⟩ = some (.int .i64 0) := World.cell?_setCell_same _ _ _ ((World.cell?_setCell_other _ _ _ _ (by simp)).trans m4)
  have a0 : ((w2.setCell ⟨w.heap.size + 1, 0, none⟩ (.slice (some ⟨w.heap.size + 2, 0, none⟩) 1 1)).setCell ⟨w.heap.size + 1, 1, none⟩ (.int .i64 0)).drew.cell? ⟨w.heap.size + 2, 0, none⟩ = some (.int .i64 0) := (World.cell?_setCell_other _ _ _ _ (by simp)).trans ((World.cell?_setCell_other _ _ _ _ (by simp)).trans ((HB2.out.cell (p := ⟨w.heap.size + 2, 0, none⟩) hbl).trans HE.out.1))
  have a1 : ((w2.setCell ⟨w.heap.size + 1, 0, none⟩ (.slice (some ⟨w.heap.size + 2, 0, none⟩) 1 1)).setCell ⟨w.heap.size + 1, 1, none⟩ (.int .i64 0)).drew.cell? ⟨w.heap.size + 2, 1, none⟩ = some (.int .u32 0) := (World.cell?_setCell_other _ _ _ _ (by simp)).trans ((World.cell?_setCell_other _ _ _ _ (by simp)).trans ((HB2.out.cell (p := ⟨w.heap.size + 2, 1, none⟩) hbl).trans HE.out.2))
  have hW : Below w.heap.size w ((w2.setCell ⟨w.heap.size + 1, 0, none⟩ (.slice (some ⟨w.heap.size + 2, 0, none⟩) 1 1)).setCell ⟨w.heap.size + 1, 1, none⟩ (.int .i64 0)).drew :=
    (((HB.out.trans (HB2.out.mono (by omega))).setCell (p := ⟨w.heap.size + 1, 0, none⟩) (by simp) _).setCell (p := ⟨w.heap.size + 1, 1, none⟩) (by simp) _).drew
  have hsz : w.heap.size + 2 < ((w2.setCell ⟨w.heap.size + 1, 0, none⟩ (.slice (some ⟨w.heap.size + 2, 0, none⟩) 1 1)).setCell ⟨w.heap.size + 1, 1, none⟩ (.int .i64 0)).drew.heap.size := World.block_lt_of_cell? _ ⟨w.heap.size + 2, 0, none⟩ a0
  generalize ((w2.setCell ⟨w.heap.size + 1, 0, none⟩ (.slice (some ⟨w.heap.size + 2, 0, none⟩) 1 1)).setCell ⟨w.heap.size + 1, 1, none⟩ (.int .i64 0)).drew = w9 at *
  have HF := Lib.hid (And.intro trivial (And.intro hW (And.intro a0 (And.intro a1 hsz))))
  clear hW a0 a1 hsz 
  go_wp2_with fail
  exact bodyPost_ret (v := .tuple #[_, .agg #[.slice (some ⟨w.heap.size + 2, 0, none⟩) 1 1, .int .i64 0]]) (by simp [results, Tryd.results7, go_sem, y0, y1]) rfl
    ⟨_, some ⟨w.heap.size + 2, 0, none⟩, 1, 1, fun _ => (0, 0), rfl, by omega, fun i hi => by
      obtain rfl : i = 0 := by omega
      exact ⟨w.heap.size + 2, 0, rfl, HF.out.2.2.2.2, HF.out.2.2.1, HF.out.2.2.2.1⟩, by omega, by omega, fun _ _ => by simp [InR], .inr ⟨rfl, rfl⟩, HF.out.2.1⟩
theorem build_any (ao : Option Addr) (n c : Nat) (X : Nat → Int × Int) (r : Int) (w : World) (hnc : n ≤ c) (hc : c ≤ maxLen) (hA : At2 w ao X n) (hX : ∀ i, i < n → InR (X i)) :
    Calls Tryd.prog 7 #[.agg #[.slice ao n c, .int .i64 r]] w fun e w' => Built w w' r e := by
  by_cases hn : 0 < n
  · by_cases hr : r = 0
    · subst hr; exact build_nil ao n c X w hnc hc hA hX hn
    · exact build_pos ao n c X r w hnc hc hA hX hn (by simpa using hr)
  · obtain rfl : n = 0 := by omega
    by_cases hr : r = 0
    · subst hr; exact build_nul ao c w
    · exact build_one ao c r w (by simpa using hr)
end Go.Proofs.YtkhnjgadagkpjaaDoor.Flt
