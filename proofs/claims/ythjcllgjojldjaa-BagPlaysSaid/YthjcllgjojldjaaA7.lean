/- bag: two lists of messages alike; All; the document's Take. -/
import Derived.Test.YthjcllgjojldjaaA6
namespace Go.Proofs.Ythjcllgjojldjaa.Bg
open Go Go.RowKit
/-- A list of lists of bytes, as it reads. -/
def RdRow (w : World) (v : Value) (L : List (List Int)) : Prop :=
  ∃ ao cap, v = .slice ao L.length cap ∧ L.length ≤ maxLen ∧ ∀ k l, L[k]? = some l → ∃ a bo c, ao = some a ∧ a.block < w.heap.size ∧ w.cell? (a.add k) = some (.slice bo l.length c) ∧ Rd w bo l ∧ l.length ≤ maxLen
theorem RdRow.on {w w' : World} {v : Value} {L : List (List Int)} (h : RdRow w v L) {B : Nat} (hb : Below B w w') (hB : w.heap.size ≤ B) : RdRow w' v L := by
  obtain ⟨ao, cap, h1, h2, h3⟩ := h
  refine ⟨ao, cap, h1, h2, fun k l hk => ?_⟩
  obtain ⟨a, bo, c, q1, q2, q3, q4, q5⟩ := h3 k l hk
  exact ⟨a, bo, c, q1, Nat.lt_of_lt_of_le q2 hb.size, (hb.cell (p := a.add k) (by rw [add_block]; exact Nat.lt_of_lt_of_le q2 hB)).trans q3, q4.on hb hB, q5⟩
/-- A row of messages of the call's own, as it reads. -/
theorem rdrow_own {w : World} {B n : Nat} {v : Value} {M : List Mg} (h : w.ownsRow B 30 1 v n (rowM M)) (hm : ∀ m ∈ M, MgAt w m) (hn : M.length = n) (hf : n ≤ maxLen) : RdRow w v (M.map Mg.l) := by
  subst hn
  obtain ⟨ao, cap, rfl, _⟩ := row_form h
  refine ⟨ao, cap, by simp, by simpa using hf, fun k l hk => ?_⟩
  rw [List.getElem?_map] at hk
  obtain ⟨m, hmk, rfl⟩ := Option.map_eq_some_iff.1 hk
  obtain ⟨g, cap', hv, _, hg, _, _, hc⟩ := row_at h (rowM_at hmk)
  simp only [Value.slice.injEq] at hv
  have hmm := hm m (List.mem_of_getElem? hmk)
  exact ⟨⟨g, 0, none⟩, _, m.cap, hv.1, hg, by rw [addr0]; exact hc, hmm.rd, Nat.le_trans hmm.cap.1 hmm.cap.2⟩
theorem BagAt.rd {T : TypeId} {B : Nat} {w : World} {X : Bx} (h : BagAt T B w X) : RdRow w X.v (X.M.map Mg.l) := rdrow_own h.row h.msg rfl (by have := h.few; unfold maxLen; omega)
theorem take_grow {L K : List (List Int)} {j : Nat} {l : List Int} (h : L.take j = K.take j) (h1 : L[j]? = some l) (h2 : K[j]? = some l) : L.take (j + 1) = K.take (j + 1) := by
  rw [List.take_add_one, List.take_add_one, h, h1, h2]
set_option maxHeartbeats 1000000 in
/-- Same: are two lists alike? -/
theorem sameL_any (v u : Value) (L K : List (List Int)) (w : World) (h : RdRow w v L) (h2 : RdRow w u K) : Calls Try.prog 12 #[v, u] w fun e w' => e = .returned (.bool (decide (L = K))) ∧ Below w.heap.size w w' := by
  obtain ⟨ao, cap, rfl, hn, h⟩ := h
  obtain ⟨bo, cup, rfl, hn2, h2⟩ := h2
  by_cases hl : L.length = K.length
  · have HX := Lib.hid (And.intro h (And.intro h2 hl))
    rw [← hl]
    clear h h2 hl hn2
    generalize hnn : L.length = n at *
    have HN := Lib.hid hnn
    clear hnn
    have hl' : (n : Int) ≤ 9223372036854775807 := by unfold maxLen at hn; omega
    go_enter Try.func12, Try.ntmps12
    go_wp2_with fail
    go_loopw [13] (fun x wr => ∃ i : Nat, x = .int .i64 i ∧ i ≤ n ∧ Hid (L.take i = K.take i) ∧ Hid (Below w.heap.size w wr)) (fun x _ => n + 1 - (intOf x).toNat)
    case atStart => exact ⟨0, rfl, Nat.zero_le _, Lib.hid rfl, Lib.hid (.refl _ _)⟩
    case round =>
      obtain ⟨i, rfl, hi, HT, HI⟩ := hrel
      by_cases hin : i < n
      · obtain ⟨l, hl⟩ : ∃ l, L[i]? = some l := ⟨_, List.getElem?_eq_getElem (by have := HN.out; omega)⟩
        obtain ⟨k, hk⟩ : ∃ k, K[i]? = some k := ⟨_, List.getElem?_eq_getElem (by have := HN.out; have := HX.out.2.2; omega)⟩
        obtain ⟨a, xo, c, rfl, a1, a2, a3, a4⟩ := HX.out.1 i l hl
        obtain ⟨b, yo, d, rfl, b1, b2, b3, b4⟩ := HX.out.2.1 i k hk
        have a2 := (HI.out.cell (p := a.add i) (by rw [add_block]; exact a1)).trans a2
        have b2 := (HI.out.cell (p := b.add i) (by rw [add_block]; exact b1)).trans b2
        have a3 := a3.on HI.out (Nat.le_refl _)
        have b3 := b3.on HI.out (Nat.le_refl _)
        have hi1 : i + 1 ≤ n := hin
        have HS := Lib.hid (fun w' (hb : Below wr.heap.size wr w') => same_any xo yo c d l k w' a4 (a3.on hb (Nat.le_refl _)) (b3.on hb (Nat.le_refl _)))
        have HLK := Lib.hid (And.intro hl hk)
        clear a3 b3 a4 b4 hl hk a1 b1
        generalize hxl : l.length = x at *
        generalize hyl : k.length = y at *
        clear hxl hyl
        by_cases he : l = k
        · have HE := Lib.hid he
          rw [decide_eq_true he] at HS
          clear he
          go_wp2_with fail
          go_region_law (go_simp; go_at_call 18; refine (HS.out _ (by first | exact (Below.refl _ wr).drew | exact Below.refl _ wr)).mono ?_; rintro e' w3 ⟨rfl, hb3⟩; have HB3 : Hid (Below w.heap.size w w3) := Lib.hid (HI.out.trans (((Below.refl _ wr).drew.trans hb3).mono HI.out.size)); clear hb3)
          all_goals
            go_wp2_with fail
            go_roundw
            case rel => exact ⟨i + 1, by go_num, hi1, Lib.hid (take_grow HT.out HLK.out.1 (HE.out ▸ HLK.out.2)), HB3⟩
            case measure => simp [intOf] <;> omega
        · rw [decide_eq_false he] at HS
          have HE : Hid (¬ L = K) := Lib.hid (fun e => he (by
            have := HLK.out.1
            rw [e, HLK.out.2] at this
            injection this with this
            exact this.symm))
          clear he
          go_wp2_with fail
          go_region_law (go_simp; go_at_call 18; refine (HS.out _ (by first | exact (Below.refl _ wr).drew | exact Below.refl _ wr)).mono ?_; rintro e' w3 ⟨rfl, hb3⟩; have HB3 : Hid (Below w.heap.size w w3) := Lib.hid (HI.out.trans (((Below.refl _ wr).drew.trans hb3).mono HI.out.size)); clear hb3)
          all_goals
            go_wp2_with fail
            go_ret
            exact ⟨ret_bool (decide_eq_false HE.out).symm, HB3.out⟩
      · have hiE : n = i := by omega
        subst hiE
        clear hin hi
        go_wp2_with fail
        go_ret
        refine ⟨ret_bool (decide_eq_true ?_).symm, HI.out⟩
        have := HT.out
        rwa [List.take_of_length_le (by have := HN.out; omega), List.take_of_length_le (by have := HN.out; have := HX.out.2.2; omega)] at this
  · rw [decide_eq_false (fun e => hl (by rw [e]) : ¬ L = K)]
    have hne : ((L.length : Int) != K.length) = true := by rw [bne_iff_ne]; omega
    clear h h2
    generalize L.length = n at *
    generalize K.length = m at *
    go_enter Try.func12, Try.ntmps12
    go_wp2
    go_ret
    exact ⟨rfl, Below.refl _ _⟩
end Go.Proofs.Ythjcllgjojldjaa.Bg
