/- commit: a list of nodes, its greatest one, its set, walked. -/
import Derived.Test.YtklalpamcfkngaaB1
namespace Go.Proofs.Ytklalpamcfkngaa.Cm
open Go Go.RowKit
/-- Bytes that stand from an address on. -/
def Rd (w : World) (ao : Option Addr) (L : List Int) : Prop := ∀ (i : Nat) (x : Int), L[i]? = some x → ∃ b off, ao = some ⟨b, off, none⟩ ∧ b < w.heap.size ∧ w.cell? ⟨b, off + i, none⟩ = some (.int .u8 x)
theorem Rd.on {w w' : World} {ao : Option Addr} {L : List Int} (h : Rd w ao L) {B : Nat} (hb : Below B w w') (hB : w.heap.size ≤ B) : Rd w' ao L := fun i x hx => by
  obtain ⟨b, off, h1, h2, h3⟩ := h i x hx
  exact ⟨b, off, h1, Nat.lt_of_lt_of_le h2 hb.size, (hb.cell (p := ⟨b, off + i, none⟩) (by simp; omega)).trans h3⟩
theorem Rd.turned {w w' : World} {ao : Option Addr} {L : List Int} {G : Nat → Prop} (h : Rd w ao L) (ht : Turned G w w') (hG : ∀ k, k < w.heap.size → ¬ G k) : Rd w' ao L := fun i x hx => by
  obtain ⟨b, off, h1, h2, h3⟩ := h i x hx
  refine ⟨b, off, h1, Nat.lt_of_lt_of_le h2 ht.size, ?_⟩
  have := ht.block b h2 (hG b h2)
  simp only [World.cell?, this] at h3 ⊢
  exact h3
def maxL (L : List Int) (k : Nat) : Int := ((L.take k).foldl max 0)
theorem maxL_succ {L : List Int} {k : Nat} {x : Int} (h : L[k]? = some x) : maxL L (k + 1) = max (maxL L k) x := by
  unfold maxL
  rw [List.take_add_one, h, List.foldl_append]
  rfl
set_option maxHeartbeats 2000000 in
theorem max_any (ao : Option Addr) (n c : Nat) (L : List Int) (w : World) (hL : L.length = n) (h0 : 0 < n) (hn : n ≤ 1000) (hr : Rd w ao L) (hi : ∀ x ∈ L, 0 ≤ x ∧ x ≤ 255) :
    Calls Try.prog 44 #[.slice ao n c] w fun e w' => e = .returned (.int .u8 (maxL L n)) ∧ w = w' := by
  obtain ⟨x0, hx0⟩ : ∃ x, L[0]? = some x := ⟨_, List.getElem?_eq_getElem (by omega)⟩
  obtain ⟨b, off, rfl, hb, c0⟩ := hr 0 x0 hx0
  have hm1 : maxL L 1 = x0 := by
    rw [maxL_succ hx0]
    have := (hi x0 (List.mem_of_getElem? hx0)).1
    show max 0 x0 = x0
    omega
  have HR := Lib.hid (And.intro hr (And.intro hi (And.intro hL hm1)))
  rw [Nat.add_zero] at c0
  have i1 : decide ((n : Int) < 1) = false := by simp; omega
  clear hr hi hL hm1 hx0
  go_enter Try.func44, Try.ntmps44
  go_wp2
  go_loop [3, 4] (fun m i => ∃ k : Nat, 1 ≤ k ∧ k ≤ n ∧ i = .int .i64 k ∧ m = .int .u8 (maxL L k)) (fun _ i => n - (intOf i).toNat)
  case atStart => exact ⟨1, Nat.le_refl _, h0, rfl, by rw [HR.out.2.2.2]⟩
  case round =>
    obtain ⟨k, k1, hk, rfl, rfl⟩ := hrel
    clear c0
    by_cases hlt : k < n
    · obtain ⟨x, hx⟩ : ∃ x, L[k]? = some x := ⟨_, List.getElem?_eq_getElem (by have := HR.out.2.2.1; omega)⟩
      obtain ⟨b', off', he, hb', ck⟩ := HR.out.1 k x hx
      cases he
      have hs := maxL_succ hx
      have HS := Lib.hid hs
      obtain ⟨mk, hmk⟩ : ∃ mk, maxL L k = mk := ⟨_, rfl⟩
      rw [hmk] at hs ⊢
      have HM := Lib.hid hmk
      clear hs hmk hx
      go_wp2
      all_goals
        go_round
        case rel => exact ⟨k + 1, by omega, by omega, by go_num, by rw [HS.out, HM.out]; congr 1; simp only [Int.max_def]; split <;> split <;> omega⟩
        case measure => simp [intOf]; omega
    · obtain rfl : k = n := by omega
      go_wp2
      go_ret
      exact ⟨rfl, rfl⟩
end Go.Proofs.Ytklalpamcfkngaa.Cm
