/- span: the document's Free, the law's count, walked. -/
import Derived.Test.YtgbhdccadelcfaaR4
namespace Go.Proofs.Ytgbhdccadelcfaa.Sp
open Go Go.RowKit
theorem rd_at {w : World} {ao : Option Addr} {L : SL} (h : Rd2 w ao L) {i : Nat} {t : Int × Int} (ht : L[i]? = some t) : ∃ b off, ao = some ⟨b, off, none⟩ ∧ w.cell? ⟨b, off + i * 2, none⟩ = some (.int .u32 t.1) ∧ w.cell? ⟨b, off + i * 2 + 1, none⟩ = some (.int .u32 t.2) := by
  obtain ⟨b, off, h1, _, h3, h4⟩ := h i t ht
  exact ⟨b, off, h1, h3, h4⟩
set_option maxRecDepth 100000 in
set_option maxHeartbeats 1000000 in
theorem count18 (ao : Option Addr) (c : Nat) (L : SL) (w : World) (h : Rd2 w ao L) (hC : Canon L) (hL : L.length ≤ 1000) :
    Calls Try.prog 18 #[.slice ao L.length c] w fun e w' => e = .returned (.int .u64 (card L)) ∧ Below w.heap.size w w' := by
  have H := Lib.hid h
  have HC := Lib.hid hC
  obtain ⟨m, hm⟩ : ∃ m, L.length = m := ⟨_, rfl⟩
  rw [hm] at hL ⊢
  have HM := Lib.hid hm
  clear h hC hm
  go_enter Try.func18, Try.ntmps18
  go_wp2_with fail
  go_loopw [8, 3] (fun u s wr => ∃ j : Nat, j ≤ m ∧ u = .int .i64 j ∧ s = .int .u64 (card (L.take j)) ∧ Hid (Below w.heap.size w wr)) (fun u _ _ => m - (intOf u).toNat)
  case atStart => exact ⟨0, by omega, rfl, rfl, Lib.hid (Below.refl _ _)⟩
  case round =>
    obtain ⟨j, hj, rfl, rfl, HA⟩ := hrel
    by_cases hlt : j < m
    · obtain ⟨t, ht⟩ : ∃ t, L[j]? = some t := ⟨_, List.getElem?_eq_getElem (by have := HM.out; omega)⟩
      obtain ⟨g, og, rfl, d1, d2⟩ := rd_at (H.out.on HA.out (Nat.le_refl _)) ht
      have hN := card_next L j t ht
      obtain ⟨u1, u2, u3⟩ := HC.out.2 t (List.mem_of_getElem? ht)
      have hc1 := card_nonneg (canon_take HC.out j)
      have hc2 := card_le (canon_take HC.out (j + 1)) 0 (fun t ht => (HC.out.2 t (List.mem_of_mem_take ht)).1) (by omega)
      have e0 : IntKind.u64.wrap t.2 = t.2 := by simp [IntKind.wrap, IntKind.bits, IntKind.signed]; omega
      have e1 : IntKind.u64.wrap t.1 = t.1 := by simp [IntKind.wrap, IntKind.bits, IntKind.signed]; omega
      have e2 : IntKind.u64.wrap (t.2 - t.1) = t.2 - t.1 := by simp [IntKind.wrap, IntKind.bits, IntKind.signed]; omega
      have e3 : IntKind.u64.wrap (t.2 - t.1 + 1) = t.2 - t.1 + 1 := by simp [IntKind.wrap, IntKind.bits, IntKind.signed]; omega
      have e4 : IntKind.u64.wrap (card (L.take j) + (t.2 - t.1 + 1)) = card (L.take (j + 1)) := by rw [← hN]; simp [IntKind.wrap, IntKind.bits, IntKind.signed]; omega
      clear ht hN hc1 hc2
      go_wp2_with fail
      go_roundw
      case measure => simp [intOf]; omega
      case rel => exact ⟨j + 1, by omega, rfl, rfl, Lib.hid (HA.out.alloc HA.out.size _)⟩
    · obtain rfl : j = m := by omega
      go_wp2_with fail
      go_ret
      exact ⟨by rw [List.take_of_length_le (by rw [HM.out]; exact Nat.le_refl _)]; rfl, HA.out⟩
theorem sets_one {n0 p z : Nat} {w : World} {D : DL} {t : TypeId} (h : RefIs n0 w p D) (hz : w.heap[z]? = some (.cells #[.pointer (some ⟨p, 0, none⟩)] t (0, 0))) : Sets n0 w (some ⟨z, 0, none⟩) [(p, D)] := fun i q hq => by
  match i, hq with
  | 0, hq =>
    simp at hq
    subst hq
    exact ⟨⟨z, 0, rfl, (Array.getElem?_eq_some_iff.1 hz).1, by simp [World.cell?, hz]⟩, h⟩
  | i + 1, hq => simp at hq
theorem allD_one (p : Nat) (D : DL) (n : Int) : allD [(p, D)] n = hasD D n := by simp [allD]
theorem total_one (p : Nat) (D : DL) : total [(p, D)] = D.length := by simp [total]
/-- The spans of one set of the document's. -/
structure SpOf (D : DL) (S : SL) : Prop where
  can : Canon S
  mem : ∀ n, 0 ≤ n → n ≤ 4294967295 → (mem S n ↔ hasD D n = true)
theorem spof_one {D : DL} {S T : SL} (h : SpOf D S) (g : SpOf D T) : S = T := canon_ext h.can g.can (fun n => by
  by_cases hn : 0 ≤ n ∧ n ≤ 4294967295
  · rw [h.mem n hn.1 hn.2, g.mem n hn.1 hn.2]
  · have no : ∀ X, Canon X → ¬ mem X n := fun X hX ⟨t, ht, h1, h2⟩ => by
      have := hX.2 t ht
      omega
    exact ⟨fun h1 => absurd h1 (no S h.can), fun h1 => absurd h1 (no T g.can)⟩)
def RS1 (w : World) (D : DL) (S : SL) (e : Ending) (w' : World) : Prop := SpOf D S ∧ S.length ≤ 1 + 2 * D.length ∧ ∃ ao cap, e = .returned (.slice ao S.length cap) ∧ Rd2 w' ao S ∧ Below w.heap.size w w'
theorem refspans_one {n0 p z : Nat} {w : World} {D : DL} {t : TypeId} (h : RefIs n0 w p D) (hz : w.heap[z]? = some (.cells #[.pointer (some ⟨p, 0, none⟩)] t (0, 0))) (hd : InD D) (hl : D.length ≤ 200) :
    Calls Try.prog 14 #[.slice (some ⟨z, 0, none⟩) 1 1] w fun e w' => ∃ S, RS1 w D S e w' := by
  refine (refspans_any n0 _ 1 [(p, D)] w (sets_one h hz) (fun q hq => by rw [List.mem_singleton] at hq; subst hq; exact hd) (by rw [total_one]; exact hl) (by simp)).mono ?_
  rintro e w' ⟨S, v, rfl, ho, hb, hc, hm, hn⟩
  obtain ⟨ao, cap, rfl, _, hr⟩ := rd_own ho
  rw [total_one] at hn
  exact ⟨S, ⟨hc, fun n h0 h1 => by rw [hm n h0 h1, allD_one]⟩, hn, ao, cap, rfl, hr, hb⟩
set_option maxRecDepth 100000 in
set_option maxHeartbeats 1000000 in
theorem reffree_any {n0 p : Nat} {w : World} {D : DL} (n : Int) (h : RefIs n0 w p D) (hd : InD D) (hl : D.length ≤ 200) :
    Calls Try.prog 20 #[.pointer (some ⟨p, 0, none⟩), .int .u32 n] w fun e w' => ∃ S, SpOf D S ∧ FreeR S n e ∧ Below w.heap.size w w' := by
  have hb0 := (Below.refl w.heap.size w).alloc (Nat.le_refl _) (.cells #[.pointer (some ⟨p, 0, none⟩)] 27)
  have HS := Lib.hid (refspans_one (h.below hb0) (heap_alloc_new w _) hd hl)
  have HB0 := Lib.hid hb0
  clear h hb0
  go_enter Try.func20, Try.ntmps20
  go_wp2_with (go_at_call 14; refine HS.out.mono ?_; rintro e w1 ⟨S, hSp, hSl, ao, cap, rfl, hr, hb⟩; have H1 := Lib.hid (And.intro hSp (And.intro hr (HB0.out.trans (hb.mono HB0.out.size)))); clear hSp hr hb)
  obtain ⟨m, hm⟩ : ∃ m, S.length = m := ⟨_, rfl⟩
  rw [hm]
  have HM := Lib.hid hm
  have hm5 : m ≤ 401 := by omega
  clear hm
  go_loopw [12] (fun u wr => ∃ j : Nat, j ≤ m ∧ u = .int .i64 j ∧ Hid (¬ mem (S.take j) n ∧ Below w1.heap.size w1 wr)) (fun u _ => m - (intOf u).toNat)
  case atStart => exact ⟨0, by omega, rfl, Lib.hid ⟨by simp [mem_none], Below.refl _ _⟩⟩
  case round =>
    obtain ⟨j, hj, rfl, HA⟩ := hrel
    by_cases hlt : j < m
    · obtain ⟨t, ht⟩ : ∃ t, S[j]? = some t := ⟨_, List.getElem?_eq_getElem (by have := HM.out; omega)⟩
      obtain ⟨g, og, rfl, d1, d2⟩ := rd_at (H1.out.2.1.on HA.out.2 (Nat.le_refl _)) ht
      have hT := Lib.hid ht
      have HB := Lib.hid (HA.out.2.alloc HA.out.2.size (.cells #[.int .u32 t.1, .int .u32 t.2] 31))
      have u3 := H1.out.1.can.2 t (List.mem_of_getElem? ht)
      clear ht
      by_cases h1 : t.1 ≤ n
      · by_cases h2 : n ≤ t.2
        · by_cases hmx : t.2 = 4294967295
          · have HX := Lib.hid hmx
            have hq : (t.2 == 4294967295) = true := by rw [hmx]; rfl
            clear hmx
            go_wp2_with fail
            go_ret2
            exact ⟨S, H1.out.1, .inl ⟨t, List.mem_of_getElem? hT.out, h1, h2, by rw [if_pos HX.out, decide_eq_false (by simp [HX.out])]; rfl⟩, H1.out.2.2.trans (HB.out.mono H1.out.2.2.size)⟩
          · have HX := Lib.hid hmx
            have hq : (t.2 == 4294967295) = false := by simpa using hmx
            have e2 : IntKind.u32.wrap (t.2 + 1) = t.2 + 1 := by simp [IntKind.wrap, IntKind.bits, IntKind.signed]; omega
            clear hmx
            go_wp2_with fail
            go_ret2
            exact ⟨S, H1.out.1, .inl ⟨t, List.mem_of_getElem? hT.out, h1, h2, by rw [if_neg HX.out, decide_eq_true HX.out]; rfl⟩, H1.out.2.2.trans (HB.out.mono H1.out.2.2.size)⟩
        · have HN := Lib.hid (show ¬ mem (S.take (j + 1)) n by
            rw [take_next hT.out, mem_app, mem_cons, mem_none, or_false]
            rintro (h | h)
            · exact HA.out.1 h
            · exact h2 h.2)
          go_wp2_with fail
          go_roundw
          case measure => simp [intOf]; omega
          case rel => exact ⟨j + 1, by omega, rfl, Lib.hid ⟨HN.out, HB.out⟩⟩
      · have HN := Lib.hid (show ¬ mem (S.take (j + 1)) n by
          rw [take_next hT.out, mem_app, mem_cons, mem_none, or_false]
          rintro (h | h)
          · exact HA.out.1 h
          · exact h1 h.1)
        go_wp2_with fail
        go_roundw
        case measure => simp [intOf]; omega
        case rel => exact ⟨j + 1, by omega, rfl, Lib.hid ⟨HN.out, HB.out⟩⟩
    · obtain rfl : j = m := by omega
      have hno := HA.out.1
      rw [List.take_of_length_le (by rw [HM.out]; exact Nat.le_refl _)] at hno
      have HNO := Lib.hid hno
      clear hno
      go_wp2_with fail
      go_ret2
      exact ⟨S, H1.out.1, .inr ⟨HNO.out, rfl⟩, H1.out.2.2.trans (HA.out.2.mono H1.out.2.2.size)⟩
theorem free_one {S : SL} {n : Int} {e e' : Ending} (hS : Canon S) (h : FreeR S n e) (g : FreeR S n e') : e = e' := by
  rcases h with ⟨t, ht, h1, h2, rfl⟩ | ⟨h, rfl⟩ <;> rcases g with ⟨u, hu, g1, g2, rfl⟩ | ⟨g, rfl⟩
  · have : t = u := by
      obtain ⟨i, hi, rfl⟩ := List.getElem_of_mem ht
      obtain ⟨j, hj, rfl⟩ := List.getElem_of_mem hu
      rcases Nat.lt_trichotomy i j with hh | hh | hh
      · have := List.pairwise_iff_getElem.1 hS.1 i j hi hj hh; omega
      · subst hh; rfl
      · have := List.pairwise_iff_getElem.1 hS.1 j i hj hi hh; omega
    rw [this]
  · exact absurd ⟨t, ht, h1, h2⟩ g
  · exact absurd ⟨u, hu, g1, g2⟩ h
  · rfl
end Go.Proofs.Ytgbhdccadelcfaa.Sp
