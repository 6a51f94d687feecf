/- span: the document's set, its Has and Do, walked. -/
import Derived.Test.YtgbhdccadelcfaaT3
namespace Go.Proofs.Ytgbhdccadelcfaa.Sp
open Go Go.RowKit
/-- What was done: numbers from, to, whether they are in from then on. -/
abbrev DL := List (Int × Int × Bool)
def dfl (D : DL) : List Value := D.flatMap fun t => [.int .u32 t.1, .int .u32 t.2.1, .bool t.2.2]
theorem dfl_len (D : DL) : (dfl D).length = D.length * 3 := by
  induction D with
  | nil => rfl
  | cons t D ih => simp only [dfl, List.flatMap_cons, List.length_append, List.length_cons, List.length_nil] at ih ⊢; omega
theorem dfl_app (D E : DL) : dfl (D ++ E) = dfl D ++ dfl E := by simp [dfl]
theorem dfl_at {D : DL} {k : Nat} {t : Int × Int × Bool} (h : D[k]? = some t) : (dfl D)[k * 3]? = some (.int .u32 t.1) ∧ (dfl D)[k * 3 + 1]? = some (.int .u32 t.2.1) ∧ (dfl D)[k * 3 + 2]? = some (.bool t.2.2) := by
  induction D generalizing k with
  | nil => simp at h
  | cons x D ih =>
    cases k with
    | zero =>
      simp at h
      subst h
      exact ⟨rfl, rfl, rfl⟩
    | succ k =>
      have := ih (k := k) (by simpa using h)
      rw [show (k + 1) * 3 = k * 3 + 3 by omega, show k * 3 + 3 + 1 = (k * 3 + 1) + 3 by omega, show k * 3 + 3 + 2 = (k * 3 + 2) + 3 by omega]
      exact this
theorem dfl_one (D : DL) : ∀ u ∈ dfl D, u.oneCell' = true := by
  intro u hu
  simp only [dfl, List.mem_flatMap] at hu
  obtain ⟨t, _, hu⟩ := hu
  simp at hu
  rcases hu with rfl | rfl | rfl <;> rfl
theorem info33 : (Try.prog.info? 33).map (fun i => (i.zero, i.size, i.bytes)) = some (some (.agg #[.int .u32 0, .int .u32 0, .bool false]), 3, 12) := by kernel_rfl
def hasD (D : DL) (n : Int) : Bool := D.foldl (fun acc d => if d.1 ≤ n ∧ n ≤ d.2.1 then d.2.2 else acc) false
theorem hasD_next (D : DL) (j : Nat) (t : Int × Int × Bool) (n : Int) (h : D[j]? = some t) : hasD (D.take (j + 1)) n = if t.1 ≤ n ∧ n ≤ t.2.1 then t.2.2 else hasD (D.take j) n := by
  obtain ⟨hj, e⟩ := List.getElem?_eq_some_iff.1 h
  rw [List.take_succ_eq_append_getElem hj, e]
  simp [hasD, List.foldl_append]
/-- The document's set in block p. -/
structure RefAt (w : World) (B p : Nat) (F : Nat → Prop) (v : Value) (D : DL) : Prop where
  blk : w.heap[p]? = some (.cells #[v] 29 (0, 0))
  row : w.ownsRow B 33 3 v D.length (dfl D)
  base : B ≤ w.heap.size
  fp : F p
  fv : ∀ g, v.ownBlock = some g → F g
  hi : ∀ k, F k → k < w.heap.size
  low : ∀ k, F k → B ≤ k
theorem own_onG {W W' : World} {B e size k : Nat} {v : Value} {xs : List Value} (h : W.ownsRow B e size v k xs) (hs : ∀ g, v.ownBlock = some g → W'.heap[g]? = W.heap[g]?) : W'.ownsRow B e size v k xs := by
  refine ⟨h.1, ?_⟩
  rcases h.2 with h0 | ⟨g, cap, cur, e, e1, e2, e3⟩
  · exact .inl h0
  · exact .inr ⟨g, cap, cur, e, e1, (hs g (by rw [e]; rfl)).trans e2, e3⟩
theorem RefAt.on {w w' : World} {B p : Nat} {F G : Nat → Prop} {v : Value} {D : DL} (h : RefAt w B p F v D) (ht : Turned G w w') (hF : ∀ k, F k → ¬ G k) : RefAt w' B p F v D :=
  ⟨(ht.block p (h.hi p h.fp) (hF p h.fp)).trans h.blk, own_onG h.row (fun g e => ht.block g (h.hi g (h.fv g e)) (hF g (h.fv g e))), Nat.le_trans h.base ht.size, h.fp, h.fv, fun k hk => Nat.lt_of_lt_of_le (h.hi k hk) ht.size, h.low⟩
theorem RefAt.below {w w' : World} {B p : Nat} {F : Nat → Prop} {v : Value} {D : DL} (h : RefAt w B p F v D) (hb : Below w.heap.size w w') : RefAt w' B p F v D := h.on (G := fun _ => False) (below_any hb) (fun _ _ => id)
theorem ref_slice {w : World} {B p : Nat} {F : Nat → Prop} {v : Value} {D : DL} (h : RefAt w B p F v D) : ∃ (ao : Option Addr) (cap : Nat), v = .slice ao D.length cap ∧ (0 < D.length → ∃ g, ao = some ⟨g, 0, none⟩) := by
  rcases h.row.2 with ⟨h0, h1⟩ | ⟨g, cap, cur, h0, _⟩
  · exact ⟨none, 0, by rw [h0, h1], fun h => by omega⟩
  · exact ⟨_, cap, h0, fun _ => ⟨g, rfl⟩⟩
theorem deed_at {w : World} {B g n cap k : Nat} {D : DL} {t : Int × Int × Bool} (h : w.ownsRow B 33 3 (.slice (some ⟨g, 0, none⟩) n cap) n (dfl D)) (ht : D[k]? = some t) : w.cell? ⟨g, k * 3, none⟩ = some (.int .u32 t.1) ∧ w.cell? ⟨g, k * 3 + 1, none⟩ = some (.int .u32 t.2.1) ∧ w.cell? ⟨g, k * 3 + 2, none⟩ = some (.bool t.2.2) := by
  obtain ⟨e1, e2, e3⟩ := dfl_at ht
  have f := fun j u hu => h.cells (g := g) rfl j u hu
  simp only [Go.WideShapes.add_plain, Nat.zero_add] at f
  exact ⟨f _ _ e1, f _ _ e2, f _ _ e3⟩
set_option maxRecDepth 100000 in
set_option maxHeartbeats 1000000 in
theorem refhas_any (B p : Nat) (F : Nat → Prop) (v : Value) (D : DL) (n : Int) (w : World) (h : RefAt w B p F v D) (hL : D.length ≤ 1000) :
    Calls Try.prog 22 #[.pointer (some ⟨p, 0, none⟩), .int .u32 n] w fun e w' => e = .returned (.bool (hasD D n)) ∧ Below w.heap.size w w' := by
  have H := Lib.hid h
  have c0 := cell1 h.blk
  obtain ⟨ao, cap, ev, hg⟩ := ref_slice h
  subst ev
  have HG := Lib.hid hg
  clear h hg
  go_enter Try.func22, Try.ntmps22
  go_wp2_with fail
  go_loopw [13, 5] (fun u s wr => ∃ j : Nat, j ≤ D.length ∧ u = .int .i64 j ∧ s = .bool (hasD (D.take j) n) ∧ Hid (Below w.heap.size w wr)) (fun u _ _ => D.length - (intOf u).toNat)
  case atStart => exact ⟨0, by omega, rfl, rfl, Lib.hid (Below.refl _ _)⟩
  case round =>
    obtain ⟨j, hj, rfl, rfl, HA⟩ := hrel
    by_cases hlt : j < D.length
    · obtain ⟨g, rfl⟩ := HG.out (by omega)
      obtain ⟨t, ht⟩ : ∃ t, D[j]? = some t := ⟨_, List.getElem?_eq_getElem hlt⟩
      obtain ⟨d1, d2, d3⟩ := deed_at (H.out.below HA.out).row ht
      have HN := Lib.hid (hasD_next D j t n ht)
      have HB := Lib.hid (HA.out.alloc HA.out.size (.cells #[.int .u32 t.1, .int .u32 t.2.1, .bool t.2.2] 33))
      clear ht
      generalize hasD (D.take j) n = bb at HN ⊢
      by_cases h1 : t.1 ≤ n
      · by_cases h2 : n ≤ t.2.1
        · go_wp2_with fail
          go_roundw
          case measure => simp [intOf]; omega
          case rel => exact ⟨j + 1, by omega, rfl, by rw [HN.out, if_pos ⟨h1, h2⟩], HB⟩
        · go_wp2_with fail
          go_roundw
          case measure => simp [intOf]; omega
          case rel => exact ⟨j + 1, by omega, rfl, by rw [HN.out, if_neg (fun h => h2 h.2)], HB⟩
      · go_wp2_with fail
        go_roundw
        case measure => simp [intOf]; omega
        case rel => exact ⟨j + 1, by omega, rfl, by rw [HN.out, if_neg (fun h => h1 h.1)], HB⟩
    · obtain rfl : j = D.length := by omega
      go_wp2_with fail
      go_ret
      exact ⟨by rw [List.take_length]; rfl, HA.out⟩
theorem refdo_arg (v : Value) (a b : Int) (c : Bool) (w : World) (h : b < a) : Calls Try.prog 12 #[v, .int .u32 a, .int .u32 b, .bool c] w fun e w' => e = .returned (.int .i64 1) ∧ w = w' := by
  go_enter Try.func12, Try.ntmps12
  go_wp2
  go_ret
  exact ⟨rfl, rfl⟩
theorem refdo_nil (a b : Int) (c : Bool) (w : World) (h : a ≤ b) : Calls Try.prog 12 #[.pointer none, .int .u32 a, .int .u32 b, .bool c] w fun e w' => e = .returned (.int .i64 6) ∧ w = w' := by
  have h' : ¬ b < a := by omega
  go_enter Try.func12, Try.ntmps12
  go_wp2
  go_ret
  exact ⟨rfl, rfl⟩
def DoR (w : World) (B p : Nat) (F : Nat → Prop) (D : DL) (e : Ending) (w' : World) : Prop :=
  e = .returned (.int .i64 0) ∧ ∃ v F', RefAt w' B p F' v D ∧ (∀ k, F' k → F k ∨ w.heap.size ≤ k) ∧ Turned F w w'
theorem ref_apart {w : World} {B p : Nat} {F : Nat → Prop} {v : Value} {D : DL} (h : RefAt w B p F v D) : v.ownBlock ≠ some p := by
  intro e
  rcases h.row.2 with ⟨rfl, _⟩ | ⟨g, cap, cur, rfl, _, hg, _⟩
  · simp [Value.ownBlock] at e
  · have : g = p := by simpa [Value.ownBlock] using e
    subst this
    have h1 := h.blk
    rw [hg] at h1
    simp at h1
set_option maxRecDepth 100000 in
set_option maxHeartbeats 1000000 in
theorem refdo_ok (B p : Nat) (F : Nat → Prop) (v : Value) (D : DL) (a b : Int) (c : Bool) (w : World) (h : RefAt w B p F v D) (hab : a ≤ b) (hL : D.length ≤ 1000) :
    Calls Try.prog 12 #[.pointer (some ⟨p, 0, none⟩), .int .u32 a, .int .u32 b, .bool c] w (DoR w B p F (D ++ [(a, b, c)])) := by
  obtain ⟨i0, hi0, hz0, hz1, hz2⟩ := info_parts info33
  have H := Lib.hid h
  have c0 := cell1 h.blk
  have f0 := free1 (i := 0) h.blk
  obtain ⟨ao, cap, ev, _⟩ := ref_slice h
  have h' : ¬ b < a := by omega
  have HO := Lib.hid (World.ownsRow.alloc h.row (.cells #[.int .u32 a, .int .u32 b, .bool c] 33))
  have HN := Lib.hid (show ∀ j u, (dfl [(a, b, c)])[j]? = some u → (w.alloc (.cells #[.int .u32 a, .int .u32 b, .bool c] 33)).cell? ((⟨w.heap.size, 0, none⟩ : Addr).add j) = some u from World.news_of_block (heap_alloc_new w (.cells #[.int .u32 a, .int .u32 b, .bool c] 33)))
  have hpl := h.hi p h.fp
  have HZ := Lib.hid (And.intro hi0 (And.intro hz0 (And.intro hz1 hz2)))
  subst ev
  clear h hi0 hz0 hz1 hz2
  go_enter Try.func12, Try.ntmps12
  go_upto_region 6 with (at_builtin; refine wpList_append_lies _ rfl (.tmp 18) (.tmp 24) 22 rfl B 33 i0 _ 3 12 Try.underlying22 HZ.out.1 HZ.out.2.1 HZ.out.2.2.1 HZ.out.2.2.2 rfl (by decide) _ D.length (dfl D) rfl HO.out ⟨w.heap.size, 0, none⟩ 1 1 (dfl [(a, b, c)]) rfl (by rw [dfl_len]; rfl) HN.out (dfl_one _) (by decide) (by unfold maxLen; omega) (by omega) (by simp; have := H.out.base; omega) _ rfl ?_; intro g3 c3 w3 hown3 hgrow3 hat3 _; have hp3 := (hgrow3.block p (by simp; omega) (fun e => ref_apart H.out e.symm)).trans ((heap_alloc_old _ _ hpl).trans H.out.blk); have c3' := cell1 hp3; have f3 := free1 (i := 0) hp3; have H3 := Lib.hid (And.intro hown3 (And.intro hgrow3 (And.intro hat3 hp3))); clear hown3 hgrow3 hat3 hp3)
  go_wp2_with fail
  go_ret
  obtain ⟨hown, hg, hat, hp⟩ := H3.out
  have hgs := grown_set w3 p 0 (.slice (some ⟨g3, 0, none⟩) (D.length + 1) c3)
  have hg2 := (World.grownBy_alloc w (.cells #[.int .u32 a, .int .u32 b, .bool c] 33) _).trans hg
  have hg3 : (Value.slice ao D.length cap).ownBlock = some g3 ∨ w.heap.size ≤ g3 := by
    rcases hat with e | e
    · exact .inl e
    · exact .inr (by rw [e]; simp)
  have hne : g3 ≠ p := fun e => by
    rcases hg3 with h2 | h2
    · exact ref_apart H.out (by rw [h2, e])
    · omega
  have hfv : ∀ g, (Value.slice (some ⟨g3, 0, none⟩) (D.length + 1) c3).ownBlock = some g → F g ∨ g = g3 := fun g e => .inr (by
    have : g3 = g := by simpa [Value.ownBlock] using e
    exact this.symm)
  refine ⟨rfl, .slice (some ⟨g3, 0, none⟩) (D.length + 1) c3, (fun j => F j ∨ j = g3), ⟨by rw [set_block hp]; rfl, ?_, Nat.le_trans H.out.base (Nat.le_trans hg2.size hgs.size), .inl H.out.fp, hfv, fun j hj => ?_, fun j hj => ?_⟩, fun j hj => ?_, ?_⟩
  · rw [dfl_app, List.length_append]
    exact own_onG hown (fun g e => hgs.block g (World.ownsRow.lt hown g e).2 (fun e2 => by
      have : g3 = g := by simpa [Value.ownBlock] using e
      injection e2 with e2
      exact hne (this.trans e2)))
  · rcases hj with hj | rfl
    · exact Nat.lt_of_lt_of_le (H.out.hi j hj) (Nat.le_trans hg2.size hgs.size)
    · exact Nat.lt_of_lt_of_le (World.ownsRow.lt hown j rfl).2 hgs.size
  · rcases hj with hj | rfl
    · exact H.out.low j hj
    · exact (World.ownsRow.lt hown j rfl).1
  · rcases hj with hj | rfl
    · exact .inl hj
    · exact hg3.imp (fun e => H.out.fv j e) id
  · exact (Turned.of_grown hg2 (fun k e => H.out.fv k e)).trans (Turned.of_grown hgs (fun k e => by injection e with e; subst e; exact H.out.fp)) (fun j hj => .inl hj)
end Go.Proofs.Ytgbhdccadelcfaa.Sp
