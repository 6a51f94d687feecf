/- index: what serves all; sort.Search walked. -/
import Derived.Test.YthjcohaldjfniaaProg
import Derived.Test.YthjcohaldjfniaaChecked
import Derived.WalkKit
import Derived.BigRegion
import Derived.BigQuiet
import Derived.Lib.Hide
import Derived.Lib.OwnBridge
import Derived.Deep.AppendLies
import Derived.Deep.RegionLaw
import Derived.Deep.RegionHeld3
import Derived.OwnWalk
import Derived.IntWalk
import Derived.Laws.CopyOwn
import Derived.Deep.LoopGhost
import Derived.Shelf.Abstract
import Derived.Laws.CopyRow
import Derived.Lib.SliceRun
import Derived.Lib.Overlaps
import Derived.Deep.CutBlock
import Derived.Deep.DeepCutAuto
import Derived.Deep.RegionWith
namespace Go.Proofs.Ythjcohaldjfniaa.Ix
open Go Go.RowKit
theorem info_parts {P : Program} {t : TypeId} {z : Value} {s b : Nat} (h : (P.info? t).map (fun i => (i.zero, i.size, i.bytes)) = some (some z, s, b)) : ∃ i, P.info? t = some i ∧ i.zero = some z ∧ i.size = s ∧ i.bytes = b := by
  obtain ⟨i, h1, h2⟩ := Option.map_eq_some_iff.1 h
  simp only [Prod.mk.injEq] at h2
  exact ⟨i, h1, h2.1, h2.2.1, h2.2.2⟩
/-- A closure that answers f of a place, below n, whatever has been made since w. -/
def Tells (g : Nat) (c1 c2 : Value) (n : Nat) (f : Nat → Bool) (w : World) : Prop :=
  ∀ (k : Nat) (W : World), k < n → Below w.heap.size w W → Calls Try.prog g #[.int .i64 k, c1, c2] W fun e w' => e = .returned (.bool (f k)) ∧ Below W.heap.size W w'
theorem search_any (g : Nat) (c1 c2 : Value) (n : Nat) (f : Nat → Bool) (w : World) (eg : ∀ args w, (callFunc g args).run Try.prog w = .ok (.enter g args) w) (hn : n ≤ 4611686018427387903) (hf : Tells g c1 c2 n f w) :
    Calls Try.prog 31 #[.int .i64 n, .func (.func g) #[] #[c1, c2]] w fun e w' => ∃ k : Nat, e = .returned (.int .i64 k) ∧ k ≤ n ∧ (k = 0 ∨ f (k - 1) = false) ∧ (k = n ∨ f k = true) ∧ Below w.heap.size w w' := by
  have HF := Lib.hid hf
  clear hf
  go_enter Try.func31, Try.ntmps31
  go_wp2
  go_loopg [5, 6] n (fun kx u v wr => ∃ i j : Nat, u = .int .i64 i ∧ v = .int .i64 j ∧ i ≤ j ∧ j ≤ n ∧ j - i ≤ kx ∧ Hid ((i = 0 ∨ f (i - 1) = false) ∧ (j = n ∨ f j = true)) ∧ Hid (Below w.heap.size w wr))
  case atStart => exact ⟨0, n, rfl, rfl, by omega, by omega, by omega, Lib.hid ⟨.inl rfl, .inl rfl⟩, Lib.hid (Below.refl _ _)⟩
  case round =>
    obtain ⟨i, j, rfl, rfl, hij, hjn, hg, I, B⟩ := hrel
    by_cases hlt : i < j
    · have hc := HF.out ((i + j) / 2) wr (by omega) B.out
      rw [show (((i + j) / 2 : Nat) : Int) = ((i : Int) + (j : Int)) / 2 by omega] at hc
      cases hp : f ((i + j) / 2) <;> rw [hp] at hc
      · have HP := Lib.hid hp
        clear hp
        go_wp2_with (go_at_fn g; refine hc.mono ?_; rintro e w' ⟨rfl, hb⟩; have HB2 := Lib.hid (B.out.trans (hb.mono B.out.size)); clear hb)
        go_roundg (j - ((i + j) / 2 + 1))
        case measure => omega
        case rel => exact ⟨(i + j) / 2 + 1, j, by rw [show ((i : Int) + (j : Int)) / 2 + 1 = (((i + j) / 2 + 1 : Nat) : Int) by omega], rfl, by omega, hjn, Nat.le_refl _, Lib.hid ⟨.inr HP.out, I.out.2⟩, HB2⟩
      · have HP := Lib.hid hp
        clear hp
        go_wp2_with (go_at_fn g; refine hc.mono ?_; rintro e w' ⟨rfl, hb⟩; have HB2 := Lib.hid (B.out.trans (hb.mono B.out.size)); clear hb)
        go_roundg ((i + j) / 2 - i)
        case measure => omega
        case rel => exact ⟨i, (i + j) / 2, rfl, by rw [show ((i : Int) + (j : Int)) / 2 = (((i + j) / 2 : Nat) : Int) by omega], by omega, by omega, Nat.le_refl _, Lib.hid ⟨I.out.1, .inr HP.out⟩, HB2⟩
    · obtain rfl : j = i := by omega
      go_wp2
      go_ret
      exact ⟨j, rfl, hjn, I.out.1, I.out.2, B.out⟩
theorem Below.drewN_refl (w : World) (n : Nat) : Below w.heap.size w (w.drewN n) := ⟨rfl, rfl, rfl, Nat.le_refl _, fun _ _ => rfl⟩
theorem cell1 {w : World} {p : Nat} {v : Value} {t : TypeId} (h : w.heap[p]? = some (.cells #[v] t (0, 0))) : w.cell? ⟨p, 0, none⟩ = some v := by simp [World.cell?, h]
theorem own_on {W W' : World} {B e size k : Nat} {v : Value} {xs : List Value} (h : W.ownsRow B e size v k xs) (hs : ∀ g, v.ownBlock = some g → W'.heap[g]? = W.heap[g]?) : W'.ownsRow B e size v k xs := by
  refine ⟨h.1, ?_⟩
  rcases h.2 with h0 | ⟨g, cap, cur, e, e1, e2, e3⟩
  · exact .inl h0
  · exact .inr ⟨g, cap, cur, e, e1, (hs g (by rw [e]; rfl)).trans e2, e3⟩
end Go.Proofs.Ythjcohaldjfniaa.Ix
