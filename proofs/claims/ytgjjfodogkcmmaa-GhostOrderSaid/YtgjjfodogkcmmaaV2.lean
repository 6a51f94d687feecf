/- ghost: the law's vertex, walked. -/
import Derived.Test.YtgjjfodogkcmmaaV1
import Derived.Test.YtgjjfodogkcmmaaU1
namespace Go.Proofs.Ytgjjfodogkcmmaa.Gh
open Go Go.RowKit Ytgjjfodogkcmmaa.So
theorem free4 {w : World} {b i : Nat} {cs : Array Value} {t : TypeId} (h : w.heap[b]? = some (.cells cs t (0, 0))) : w.frozen? ⟨b, i, none⟩ = false := by
  simp [World.frozen?, h]
theorem info76 : (Try.prog.info? 76).map (fun i => (i.zero, i.size, i.bytes)) = some (some (.agg #[.int .u32 0, .int .u8 0, .int .i64 0, .string ⟨#[]⟩]), 4, 40) := by kernel_rfl
theorem size28 : (Try.prog.info? 28).map (·.size) = some 4 := by kernel_rfl
/-- A vertex's variable, filled cell by cell. -/
theorem four {w : World} {b : Nat} {c0 c1 c2 c3 : Value} {t : TypeId} (u0 u1 u2 u3 : Value) (h : w.heap[b]? = some (.cells #[c0, c1, c2, c3] t (0, 0))) :
    w.cell? ⟨b, 0, none⟩ = some c0 ∧ w.frozen? ⟨b, 0, none⟩ = false ∧
    (w.setCell ⟨b, 0, none⟩ u0).cell? ⟨b, 1, none⟩ = some c1 ∧ (w.setCell ⟨b, 0, none⟩ u0).frozen? ⟨b, 1, none⟩ = false ∧
    ((w.setCell ⟨b, 0, none⟩ u0).setCell ⟨b, 1, none⟩ u1).cell? ⟨b, 2, none⟩ = some c2 ∧ ((w.setCell ⟨b, 0, none⟩ u0).setCell ⟨b, 1, none⟩ u1).frozen? ⟨b, 2, none⟩ = false ∧
    (((w.setCell ⟨b, 0, none⟩ u0).setCell ⟨b, 1, none⟩ u1).setCell ⟨b, 2, none⟩ u2).cell? ⟨b, 3, none⟩ = some c3 ∧ (((w.setCell ⟨b, 0, none⟩ u0).setCell ⟨b, 1, none⟩ u1).setCell ⟨b, 2, none⟩ u2).frozen? ⟨b, 3, none⟩ = false ∧
    ((((w.setCell ⟨b, 0, none⟩ u0).setCell ⟨b, 1, none⟩ u1).setCell ⟨b, 2, none⟩ u2).setCell ⟨b, 3, none⟩ u3).heap[b]? = some (.cells #[u0, u1, u2, u3] t (0, 0)) := by
  have h1 := set_block (i := 0) (v := u0) h
  have h2 := set_block (i := 1) (v := u1) h1
  have h3 := set_block (i := 2) (v := u2) h2
  have h4 := set_block (i := 3) (v := u3) h3
  exact ⟨by simp [World.cell?, h], free4 h, by simp [World.cell?, h1], free4 h1, by simp [World.cell?, h2], free4 h2, by simp [World.cell?, h3], free4 h3, h4.trans rfl⟩
theorem grown4 (w : World) (b : Nat) (u0 u1 u2 u3 : Value) : w.grownBy ((((w.setCell ⟨b, 0, none⟩ u0).setCell ⟨b, 1, none⟩ u1).setCell ⟨b, 2, none⟩ u2).setCell ⟨b, 3, none⟩ u3) (some b) :=
  (((grown_set w b 0 u0).trans (grown_set _ b 1 u1)).trans (grown_set _ b 2 u2)).trans (grown_set _ b 3 u3)
def h4 (M : List Hf) : List Value := M.flatMap hc
theorem h4_app (A B : List Hf) : h4 (A ++ B) = h4 A ++ h4 B := by simp [h4]
theorem h4_len (M : List Hf) : (h4 M).length = M.length * 4 := by
  induction M with
  | nil => rfl
  | cons t M ih => rw [show t :: M = [t] ++ M from rfl, h4_app, List.length_append, ih]; simp [h4, hc]; omega
theorem h4_at {M : List Hf} {i : Nat} {t : Hf} (h : M[i]? = some t) (j : Nat) (hj : j < 4) : (h4 M)[i * 4 + j]? = (hc t)[j]? := by
  induction M generalizing i with
  | nil => simp at h
  | cons a M ih =>
    rw [show a :: M = [a] ++ M from rfl, h4_app]
    have hl : (h4 [a]).length = 4 := by simp [h4, hc]
    cases i with
    | zero =>
      simp at h; subst h
      rw [List.getElem?_append_left (by rw [hl]; omega)]
      simp [h4]
    | succ i =>
      have := ih (i := i) (by simpa using h)
      rw [List.getElem?_append_right (by rw [hl]; omega), hl, show (i + 1) * 4 + j - 4 = i * 4 + j by omega]
      exact this
theorem own4_slice {w : World} {B : Nat} {T : TypeId} {v : Value} {n : Nat} {xs : List Value} (h : w.ownsRow B T 4 v n xs) : ∃ ao cap, v = .slice ao n cap ∧ n ≤ cap := by
  rcases h.2 with ⟨rfl, h0⟩ | ⟨g, cap, cur, rfl, _, _, h3, _⟩
  · exact ⟨none, 0, by rw [h0], by omega⟩
  · exact ⟨_, cap, rfl, h3⟩
theorem rdh_own {w : World} {B : Nat} {T : TypeId} {ao : Option Addr} {cap n : Nat} {L : List Hf} (h : w.ownsRow B T 4 (.slice ao n cap) L.length (h4 L)) : RdH w ao L := by
  intro i t ht
  rcases h.2 with ⟨h0, h1⟩ | ⟨g, cap', cur, h0, h1, h2, h3, h4⟩
  · rw [List.eq_nil_of_length_eq_zero h1] at ht; simp at ht
  · simp only [Value.slice.injEq] at h0
    obtain ⟨rfl, _, _⟩ := h0
    have hcell : ∀ j x, j < 4 → (hc t)[j]? = some x → w.cell? ⟨g, i * 4 + j, none⟩ = some x := fun j x hj hx => by
      have := h.cells (g := g) rfl (i * 4 + j) x (by rw [h4_at ht j hj]; exact hx)
      rwa [Go.WideShapes.add_plain, Nat.zero_add] at this
    refine ⟨g, 0, rfl, (Array.getElem?_eq_some_iff.1 h2).1, ?_, ?_, ?_, ?_⟩
    · rw [Nat.zero_add]; exact hcell 0 _ (by omega) rfl
    · rw [Nat.zero_add]; exact hcell 1 _ (by omega) rfl
    · rw [Nat.zero_add]; exact hcell 2 _ (by omega) rfl
    · rw [Nat.zero_add]; exact hcell 3 _ (by omega) rfl
theorem one4 (t : Hf) : ∀ u ∈ h4 [t], u.oneCell' = true := by
  intro u hu; simp [h4, hc] at hu; rcases hu with rfl | rfl | rfl | rfl <;> rfl
theorem news76 (w : World) (t : Hf) (T : TypeId) : ∀ j u, (h4 [t])[j]? = some u → (w.alloc (.cells #[.int .u32 t.1, .int .u8 t.2.1, .int .i64 t.2.2.1, .string t.2.2.2] T)).cell? ((⟨w.heap.size, 0, none⟩ : Addr).add j) = some u :=
  World.news_of_block (heap_alloc_new w (.cells #[.int .u32 t.1, .int .u8 t.2.1, .int .i64 t.2.2.1, .string t.2.2.2] T))
/-- A far number, as a half. -/
def fh (x : Int) : Hf := (x, 0, 0, ⟨#[]⟩)
def VI (w : World) (id : Int) (X : List Int) (j : Nat) (v : Value) (wr : World) : Prop :=
  wr.heap[w.heap.size]? = some (.cells #[.int .u32 0, .bool false, .slice none 0 0, .slice none 0 0] 28 (0, 0)) ∧
  wr.heap[w.heap.size + 1]? = some (.cells #[.int .u32 id, .bool true, .slice none 0 0, v] 28 (0, 0)) ∧
  wr.ownsRow (w.heap.size + 2) 76 4 v j (h4 ((X.take j).map fh)) ∧ Below w.heap.size w wr
theorem VI.cells {w wr : World} {id : Int} {X : List Int} {j : Nat} {v : Value} (h : VI w id X j v wr) :
    wr.cell? ⟨w.heap.size + 1, 0, none⟩ = some (.int .u32 id) ∧ wr.cell? ⟨w.heap.size + 1, 1, none⟩ = some (.bool true) ∧ wr.cell? ⟨w.heap.size + 1, 2, none⟩ = some (.slice none 0 0) ∧ wr.cell? ⟨w.heap.size + 1, 3, none⟩ = some v := by
  simp [World.cell?, h.2.1]
theorem VI.step {w wr w4 : World} {id x : Int} {X : List Int} {j : Nat} {v v4 : Value} (h : VI w id X j v wr) (hx : X[j]? = some x)
    (ho : w4.ownsRow (w.heap.size + 2) 76 4 v4 (j + 1) (h4 ((X.take j).map fh) ++ h4 [fh x])) (hg : (wr.alloc (.cells #[.int .u32 x, .int .u8 0, .int .i64 0, .string ⟨#[]⟩] 76)).grownBy w4 v.ownBlock) : VI w id X (j + 1) v4 (w4.setCell ⟨w.heap.size + 1, 3, none⟩ v4) := by
  have hlt : ∀ g, v.ownBlock = some g → w.heap.size + 2 ≤ g := fun g e => (World.ownsRow.lt h.2.2.1 g e).1
  have hs : w.heap.size + 1 < wr.heap.size := (Array.getElem?_eq_some_iff.1 h.2.1).1
  have b0 : w4.heap[w.heap.size]? = some (.cells #[.int .u32 0, .bool false, .slice none 0 0, .slice none 0 0] 28 (0, 0)) :=
    (hg.block _ (by simp; omega) (fun e => by have := hlt _ e.symm; omega)).trans ((heap_alloc_old _ _ (by omega)).trans h.1)
  have b1 : w4.heap[w.heap.size + 1]? = some (.cells #[.int .u32 id, .bool true, .slice none 0 0, v] 28 (0, 0)) :=
    (hg.block _ (by simp; omega) (fun e => by have := hlt _ e.symm; omega)).trans ((heap_alloc_old _ _ (by omega)).trans h.2.1)
  have hset := grown_set w4 (w.heap.size + 1) 3 v4
  refine ⟨(hset.block _ (by have := (Array.getElem?_eq_some_iff.1 b0).1; omega) (by simp)).trans b0, (set_block b1).trans rfl, ?_, ?_⟩
  · rw [List.take_add_one, hx, List.map_append, h4_app]
    refine own_on ho (fun g e => hset.block g (World.ownsRow.lt ho g e).2 (fun e2 => ?_))
    have h1 := (World.ownsRow.lt ho g e).1
    have := Option.some.inj e2
    omega
  · have hb : Below w.heap.size w w4 := (h.2.2.2.alloc h.2.2.2.size (.cells #[.int .u32 x, .int .u8 0, .int .i64 0, .string ⟨#[]⟩] 76)).grown hg (by have := h.2.2.2.size; simp; omega) (fun g e => by have := hlt g e; omega)
    exact hb.setCell (p := ⟨w.heap.size + 1, 3, none⟩) (by simp) _
theorem VI.box {w wr w4 : World} {id : Int} {X : List Int} {j : Nat} {v : Value} {o : Obj} (h : VI w id X j v wr) (hg : (wr.alloc o).grownBy w4 v.ownBlock) : w4.cell? ⟨w.heap.size + 1, 3, none⟩ = some v ∧ w4.frozen? ⟨w.heap.size + 1, 3, none⟩ = false := by
  have hlt : ∀ g, v.ownBlock = some g → w.heap.size + 2 ≤ g := fun g e => (World.ownsRow.lt h.2.2.1 g e).1
  have hs : w.heap.size + 1 < wr.heap.size := (Array.getElem?_eq_some_iff.1 h.2.1).1
  have b1 : w4.heap[w.heap.size + 1]? = some (.cells #[.int .u32 id, .bool true, .slice none 0 0, v] 28 (0, 0)) :=
    (hg.block _ (by simp; omega) (fun e => by have := hlt _ e.symm; omega)).trans ((heap_alloc_old _ _ (by omega)).trans h.2.1)
  exact ⟨by simp [World.cell?, b1], free4 b1⟩
/-- From an address on these numbers stand. -/
def Rd4 (w : World) (ao : Option Addr) (X : List Int) : Prop :=
  ∀ i x, X[i]? = some x → ∃ b off, ao = some ⟨b, off, none⟩ ∧ b < w.heap.size ∧ w.cell? ⟨b, off + i, none⟩ = some (.int .u32 x)
theorem Rd4.on {w w' : World} {ao : Option Addr} {X : List Int} (h : Rd4 w ao X) {B : Nat} (hb : Below B w w') (hB : w.heap.size ≤ B) : Rd4 w' ao X := fun i t ht => by
  obtain ⟨b, off, h1, h2, h3⟩ := h i t ht
  exact ⟨b, off, h1, Nat.lt_of_lt_of_le h2 hb.size, (hb.cell (p := ⟨b, off + i, none⟩) (by simp; omega)).trans h3⟩
/-- A vertex of the law's own making. -/
def MadeV (w : World) (id : Int) (X : List Int) (e : Ending) (w' : World) : Prop :=
  ∃ ho cap, e = .returned (.agg #[.int .u32 id, .bool true, .slice none 0 0, .slice ho X.length cap]) ∧ w'.ownsRow w.heap.size 76 4 (.slice ho X.length cap) X.length (h4 (X.map fh)) ∧ Below w.heap.size w w'
set_option maxRecDepth 100000 in
set_option maxHeartbeats 1000000 in
theorem vertex_any (id : Int) (ao : Option Addr) (c : Nat) (X : List Int) (w : World) (hX : Rd4 w ao X) (hn : X.length ≤ 1000000000) :
    Calls Try.prog 27 #[.int .u32 id, .slice ao X.length c] w (MadeV w id X) := by
  obtain ⟨i0, hi0, hz0, hz1, hz2⟩ := info_parts info76
  have HL := Lib.hid hX
  have HZ := Lib.hid (And.intro hi0 (And.intro hz0 (And.intro hz1 hz2)))
  clear hX hi0 hz0 hz1 hz2
  obtain ⟨n, hn2⟩ : ∃ n, X.length = n := ⟨_, rfl⟩
  rw [hn2]
  rw [hn2] at hn
  have HN := Lib.hid hn2
  clear hn2
  have hI0 := Lib.hid (show VI w id X 0 (.slice none 0 0) ((w.alloc (.cells #[.int .u32 0, .bool false, .slice none 0 0, .slice none 0 0] 28)).alloc (.cells #[.int .u32 id, .bool true, .slice none 0 0, .slice none 0 0] 28)) from
    ⟨(heap_alloc_old _ _ (by simp)).trans (heap_alloc_new _ _), heap_alloc2_new _ _ _, by simpa [h4] using World.ownsRow_nil _ _ _ _, ((Below.refl _ _).alloc (Nat.le_refl _) _).alloc (by simp) _⟩)
  go_enter Try.func27, Try.ntmps27
  go_wp2_with fail
  go_loopw [12] (fun u wr => ∃ (j : Nat) (v : Value), j ≤ n ∧ u = .int .i64 j ∧ Hid (VI w id X j v wr)) (fun u _ => n - (intOf u).toNat)
  case atStart => exact ⟨0, _, by omega, rfl, hI0⟩
  case round =>
    obtain ⟨j, v, hj, rfl, HA⟩ := hrel
    clear hI0
    obtain ⟨ao3, cap3, rfl, _⟩ := own4_slice HA.out.2.2.1
    by_cases hlt : j < n
    · obtain ⟨x, hx⟩ : ∃ x, X[j]? = some x := ⟨_, List.getElem?_eq_getElem (by have := HN.out; omega)⟩
      obtain ⟨g, og, rfl, _, c1⟩ := (HL.out.on HA.out.2.2.2 (Nat.le_refl _)) j x hx
      have HX := Lib.hid hx
      have il : (j : Int) < (n : Int) := by omega
      have b3 := HA.out.cells.2.2.2
      clear hx
      go_wp2_with (at_builtin; go_loud ( refine wpList_append_own _ rfl (.tmp 17) (.tmp 20) 26 rfl (w.heap.size + 2) 76 i0 _ 4 40 Try.underlying26 HZ.out.1 HZ.out.2.1 HZ.out.2.2.1 HZ.out.2.2.2 rfl (by decide) (.slice ao3 j cap3) j (h4 ((X.take j).map fh)) rfl (HA.out.2.2.1.alloc (.cells #[.int .u32 x, .int .u8 0, .int .i64 0, .string ⟨#[]⟩] 76)) ⟨wr.heap.size, 0, none⟩ 1 1 (h4 [fh x]) rfl (by rw [h4_len]; rfl) (news76 wr (fh x) 76) (one4 (fh x)) (by unfold maxLen; omega) (by omega) (by have := (Array.getElem?_eq_some_iff.1 HA.out.2.1).1; simp; omega) ?_; intro v4 w4 hown4 hgrow4 _; obtain ⟨ao4, cap4, rfl, _⟩ := own4_slice hown4; have HS := Lib.hid (HA.out.step HX.out hown4 hgrow4); obtain ⟨q3, q4⟩ := HA.out.box hgrow4; clear hown4 hgrow4))
      refine ⟨⟨j + 1, _, by omega, rfl, HS⟩, by simp [intOf]; omega⟩
    · obtain rfl : j = n := by omega
      obtain ⟨b0, b1, b2, b3⟩ := HA.out.cells
      obtain ⟨k0, f0, k1, f1, k2, f2, k3, f3, hend⟩ := four (.int .u32 id) (.bool true) (.slice none 0 0) (.slice ao3 j cap3) HA.out.1
      have HEnd := Lib.hid hend
      clear hend
      go_wp2_with fail
      have hgr := grown4 wr w.heap.size (.int .u32 id) (.bool true) (.slice none 0 0) (.slice ao3 j cap3)
      have hr := HA.out.2.2.1
      rw [List.take_of_length_le (by rw [HN.out]; exact Nat.le_refl _)] at hr
      refine bodyPost_ret (v := .agg #[.int .u32 id, .bool true, .slice none 0 0, .slice ao3 j cap3]) (results_cell_row rfl _ _ w.heap.size 28 _ (0, 0) _ rfl HEnd.out Try.underlying28 rfl size28) rfl ?_
      refine ⟨ao3, cap3, by rw [HN.out], ?_, HA.out.2.2.2.grown hgr HA.out.2.2.2.size (fun g e => by have := Option.some.inj e; omega)⟩
      rw [HN.out]
      refine own_on ⟨hr.1, ?_⟩ (fun g e => hgr.block g (World.ownsRow.lt hr g e).2 (fun e2 => by have h1 := (World.ownsRow.lt hr g e).1; have := Option.some.inj e2; omega))
      rcases hr.2 with h0 | ⟨g, cap', cur, e1, e2, e3⟩
      · exact .inl h0
      · exact .inr ⟨g, cap', cur, e1, by omega, e3⟩
end Go.Proofs.Ytgjjfodogkcmmaa.Gh
