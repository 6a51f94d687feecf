/- The walks of turned, Uint and Int. -/
import Derived.Test.YtnjapbfnodfgpaaW4
namespace Go.Proofs.Ytnjapbfnodfgpaa.Rk
open Go Go.RowKit
/-- v is a list of bytes of the call's own: l. -/
def Own (w : World) (B : Nat) (v : Value) (l : List Int) : Prop := w.ownsRow B 5 1 v l.length (bs l)
theorem bs_length (l : List Int) : (bs l).length = l.length := by simp [bs]
theorem bs_get {l : List Int} {k : Nat} (h : k < l.length) : (bs l)[k]? = some (.int .u8 (l.getD k 0)) := by
  simp [bs, List.getD_eq_getElem?_getD, h]
theorem bs_app (l m : List Int) : bs (l ++ m) = bs l ++ bs m := by simp [bs]
theorem bs_one (l : List Int) : ∀ u ∈ bs l, u.oneCell' = true := by
  intro u hu
  simp only [bs, List.mem_map] at hu
  obtain ⟨x, _, rfl⟩ := hu
  rfl
theorem addr0 (g k : Nat) : (⟨g, 0, none⟩ : Addr).add k = ⟨g, k, none⟩ := by unfold Addr.add; simp; omega
theorem grown_of_below {a w : World} (h : Below a.heap.size a w) : a.grownBy w none := ⟨h.os, h.tape, h.output, h.size, fun i hi _ => h.block i hi⟩
theorem own_or (v : Value) : v.ownBlock = none ∨ v.ownBlock ≠ none := by
  cases v.ownBlock
  · exact .inl rfl
  · exact .inr (by simp)
theorem Own.on {w w' : World} {B : Nat} {v : Value} {l : List Int} (h : Own w B v l) (hb : Below w.heap.size w w') : Own w' B v l := World.ownsRow.kept h (grown_of_below hb) (own_or v)
/-- What is owned can be read. -/
theorem Own.rd {w : World} {B : Nat} {v : Value} {l : List Int} (h : Own w B v l) : ∃ ao c, v = .slice ao l.length c ∧ Rd w ao l := by
  have h' := h
  unfold Own at h'
  rcases h'.2 with ⟨rfl, h0⟩ | ⟨g, c, cur, rfl, _, hg, _⟩
  · rw [h0]
    exact ⟨none, 0, rfl, by rw [List.length_eq_zero_iff.1 h0]; exact Rd.nil _ _⟩
  · refine ⟨_, c, rfl, fun k hk => ⟨_, rfl, ?_, ?_⟩⟩
    · rcases Nat.lt_or_ge g w.heap.size with h1 | h1
      · exact h1
      · rw [Array.getElem?_eq_none h1] at hg; cases hg
    · rw [addr0, h'.cellAt k (by omega), bs_get hk]
/-- What can be read, as a law on append asks for it. -/
theorem Rd.cells {w : World} {a : Addr} {l : List Int} (h : Rd w (some a) l) : ∀ j u, (bs l)[j]? = some u → w.cell? (a.add j) = some u := by
  intro j u hu
  have hj : j < l.length := by
    have := (List.getElem?_eq_some_iff.1 hu).1
    rwa [bs_length] at this
  rw [bs_get hj] at hu
  obtain ⟨a', h1, _, h3⟩ := h j hj
  cases h1
  rw [h3, hu]
theorem one_cell (w : World) (x : Int) : ∀ j u, [Value.int .u8 x][j]? = some u → (w.alloc (.cells #[.int .u8 x] 5)).cell? ((⟨w.heap.size, 0, none⟩ : Addr).add j) = some u := by
  intro j u hu
  match j, hu with
  | 0, hu => simp at hu; subst hu; simp [Addr.add]
set_option maxHeartbeats 1000000 in
theorem uint_any (n : Nat) (hn : n < 18446744073709551616) (w : World) :
    Calls Try.prog 11 #[.int .u64 n] w fun e w' => ∃ v, e = .returned v ∧ Own w' w.heap.size v (uintC n) ∧ Below w.heap.size w w' := by
  obtain ⟨i0, hi, hz0, hz1, hz2⟩ := info_parts info5
  have hk8 := len256_le n hn
  have hW := write_any n hn w
  have hL := dig_length n
  unfold Own uintC
  generalize len256 n = k at *
  generalize dig n = D at *
  have HL := Lib.hid hL
  clear hL
  have HW := Lib.hid hW
  clear hW
  go_enter Try.func11, Try.ntmps11
  go_wp2_with fail
  refine HW.out.mono ?_
  clear HW
  rintro e w1 ⟨g, rfl, hown, hB⟩
  have hO2 := Lib.hid (World.ownsRow_lit (base := w.heap.size) (e := 5) (size := 1) w1 #[.int .u8 (k : Int)] 1 hB.size (by unfold maxLen; omega) rfl)
  have hc : ∀ j u, (bs D)[j]? = some u → (w1.alloc (.cells #[.int .u8 (k : Int)] 5)).cell? ((⟨g, 0, none⟩ : Addr).add j) = some u := by
    intro j u hu
    have hj : j < D.length := by
      have := (List.getElem?_eq_some_iff.1 hu).1
      rwa [bs_length] at this
    rw [addr0, (hown.alloc (.cells #[.int .u8 (k : Int)] 5)).cellAt j (by rw [← HL.out]; omega), hu]
  have Hc := Lib.hid hc
  have hbl := Lib.hid ((bs_length D).trans (HL.out.trans (Nat.mul_one k).symm))
  clear hc hown
  have hBs := hB.size
  go_wp2_with (at_builtin; refine wpList_append_own _ rfl (.tmp 9) (.tmp 10) 23 rfl w.heap.size 5 i0 _ 1 1 Try.underlying23 hi hz0 hz1 hz2 rfl (by decide) _ 1 [.int .u8 (k : Int)] rfl hO2.out ⟨g, 0, none⟩ k k (bs D) rfl hbl.out Hc.out (bs_one D) (by unfold maxLen; omega) (by omega) (by simp; omega) ?_; intro v3 w3 hown3 hgrow3 _)
  have hB3 : Below w.heap.size w w3 := (hB.alloc hB.size _).grown hgrow3 (by simp; omega) (fun k hk => (hO2.out.lt k hk).1)
  clear hgrow3 hO2
  go_ret
  exact ⟨v3, rfl, by rw [HL.out, Nat.add_comm]; exact hown3, hB3⟩
end Go.Proofs.Ytnjapbfnodfgpaa.Rk
