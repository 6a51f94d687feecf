/- plate: Twin and fate, walked. -/
import Derived.Test.YtjfbgihjgnbeeaaA6
import Derived.OwnWalk
namespace Go.Proofs.Ytjfbgihjgnbeeaa.Pl
open Go Go.RowKit
theorem _root_.Go.World.ownsRow.low {w : World} {base e size n : Nat} {v : Value} {xs : List Value} (h : w.ownsRow base e size v n xs) {B : Nat} (hB : B ≤ base) : w.ownsRow B e size v n xs :=
  ⟨h.1, h.2.imp id (fun ⟨g, cap, cur, e, hb, r⟩ => ⟨g, cap, cur, e, Nat.le_trans hB hb, r⟩)⟩
def TwinR (len : Nat) (bs : List Value) (w : World) (e : Ending) (w' : World) : Prop :=
  ∃ g c, e = .returned (.slice (some ⟨g, 0, none⟩) len c) ∧ w'.ownsRow w.heap.size 5 1 (.slice (some ⟨g, 0, none⟩) len c) len bs ∧ Below w.heap.size w w'
set_option maxHeartbeats 1000000 in
theorem twin_any (ao : Option Addr) (len cap : Nat) (bs : List Value) (w : World) (hl : bs.length = len) (hlen : len ≤ 140737488351232) (hsrc : Src w ao bs) (hno : ao = none → len = 0 ∧ cap = 0) :
    Calls Try.prog 15 #[.slice ao len cap] w (TwinR len bs w) := by
  obtain ⟨i0, hi, hz0, hz1, hz2⟩ := info_parts info5
  have hb : Below w.heap.size w (w.alloc (.cells #[] 5)) := (Below.refl _ _).alloc (Nat.le_refl _) _
  have hO := Lib.hid (show (w.alloc (.cells #[] 5)).ownsRow w.heap.size 5 1 (.slice (some ⟨w.heap.size, 0, none⟩) 0 0) 0 [] from lit_own w w.heap.size [] (Nat.le_refl _) (by decide))
  have HL := Lib.hid hl
  have HS := Lib.hid (hsrc.below hb)
  cases ao with
  | none =>
    obtain ⟨rfl, rfl⟩ := hno rfl
    obtain rfl : bs = [] := List.eq_nil_of_length_eq_zero hl
    clear hl hsrc
    go_enter Try.func15, Try.ntmps15
    go_wp2_with (at_builtin; refine wpList_append_own_none rfl (.tmp 3) (.tmp 4) 31 rfl w.heap.size 5 i0 1 Try.underlying31 hi _ 0 [] rfl hO.out rfl ?_)
    go_ret
    exact ⟨_, _, rfl, hO.out, hb⟩
  | some a =>
    have Hc := Lib.hid (show ∀ j u, bs[j]? = some u → (w.alloc (.cells #[] 5)).cell? (a.add j) = some u from fun j u hu => by
      have h0 : 0 < bs.length := by have := (List.getElem?_eq_some_iff.1 hu).1; omega
      obtain ⟨ad, e, hc⟩ := HS.out.1 h0
      cases e
      exact hc j u hu)
    have H1 := Lib.hid (show ∀ u ∈ bs, u.oneCell' = true from fun u hu => by obtain ⟨n, rfl, _⟩ := hsrc.2 u hu; rfl)
    have HLL := Lib.hid (show bs.length = len * 1 by omega)
    clear hl hsrc hno
    go_enter Try.func15, Try.ntmps15
    go_wp2_with (at_builtin; refine wpList_append_own _ rfl (.tmp 3) (.tmp 4) 31 rfl w.heap.size 5 i0 _ 1 1 Try.underlying31 hi hz0 hz1 hz2 rfl (by decide) _ 0 [] rfl hO.out a len cap bs rfl HLL.out Hc.out H1.out (by unfold maxLen; omega) (by omega) (by simp) ?_; intro v3 w3 hown3 hgrow3 hnil)
    have hB3 : Below w.heap.size w w3 := hb.grown hgrow3 (by simp) (fun k hk => (World.ownsRow.lt hO.out k hk).1)
    rw [Nat.zero_add, List.nil_append] at hown3
    have hv : ∃ g c, v3 = .slice (some ⟨g, 0, none⟩) len c := by
      rcases hown3.2 with ⟨e, _⟩ | ⟨g, c, cur, e, _⟩
      · exact absurd (hnil.1 e).1 (fun h => by cases h)
      · exact ⟨g, c, e⟩
    obtain ⟨g, c, rfl⟩ := hv
    have HO3 := Lib.hid hown3
    clear hown3 hgrow3 hnil
    go_ret
    exact ⟨g, c, rfl, HO3.out, hB3⟩
def FateR (len : Nat) (bs : List Value) (w : World) (e : Ending) (w' : World) : Prop :=
  ∃ g c, e = .returned (.agg #[.slice (some ⟨g, 0, none⟩) len c]) ∧ w'.ownsRow w.heap.size 5 1 (.slice (some ⟨g, 0, none⟩) len c) len bs ∧ Below w.heap.size w w'
theorem fate_any (ao : Option Addr) (len cap : Nat) (bs : List Value) (w : World) (hl : bs.length = len) (hlen : len ≤ 140737488351232) (hsrc : Src w ao bs) (hno : ao = none → len = 0 ∧ cap = 0) :
    Calls Try.prog 21 #[.slice ao len cap] w (FateR len bs w) := by
  have hb : Below w.heap.size w (w.alloc (.cells #[.slice none 0 0] 53)) := (Below.refl _ _).alloc (Nat.le_refl _) _
  have HT := Lib.hid (twin_any ao len cap bs _ hl hlen (hsrc.below hb) hno)
  have HB := Lib.hid hb
  have k0 := heap_alloc_new w (.cells #[.slice none 0 0] 53)
  clear hl hsrc hno hb
  go_enter Try.func21, Try.ntmps21
  go_wp2_with (go_at_call 15; refine HT.out.mono ?_; rintro e w1 ⟨g, c, rfl, hown, hB⟩; have HO := Lib.hid hown; have HB1 := Lib.hid hB; have q0 := (hB.block w.heap.size (by simp)).trans k0; have q1 := cell1 q0; have q2 := free6 (i := 0) q0; clear hown hB)
  have hown := HO.out.low (B := w.heap.size) (by simp)
  have hg : w.heap.size ≠ g := fun e => by
    rcases HO.out.2 with ⟨e', _⟩ | ⟨g', _, _, e', hb, _⟩
    · simp at e'
    · simp at e'; simp at hb; omega
  have hown2 := hown.kept (grown_set w1 w.heap.size 0 (.slice (some ⟨g, 0, none⟩) len c)) (.inr (fun e => hg (by simpa [Value.ownBlock] using e.symm)))
  exact bodyPost_ret (v := .agg #[.slice (some ⟨g, 0, none⟩) len c]) (results_cell_row rfl _ _ w.heap.size 53 #[.slice (some ⟨g, 0, none⟩) len c] (0, 0) _ rfl (set_block q0) Try.underlying53 rfl size53) rfl
    ⟨g, c, rfl, hown2, (HB.out.trans (HB1.out.mono (by simp))).setCell (p := ⟨w.heap.size, 0, none⟩) (Nat.le_refl _) _⟩
end Go.Proofs.Ytjfbgihjgnbeeaa.Pl
