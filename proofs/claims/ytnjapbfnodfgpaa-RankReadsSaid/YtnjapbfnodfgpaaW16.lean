/- The law on texts, walked. -/
import Derived.Test.YtnjapbfnodfgpaaW15
namespace Go.Proofs.Ytnjapbfnodfgpaa.Rk
open Go Go.RowKit
theorem textC_len (l : List Int) : (textC l).length ≤ 2 * l.length + 2 := by
  have := esc_len l
  unfold textC
  rw [List.length_append]
  simp; omega
theorem take_byte {l : List Int} (m : Nat) (h : ∀ x ∈ l, 0 ≤ x ∧ x ≤ 255) : ∀ x ∈ l.take m, 0 ≤ x ∧ x ≤ 255 := fun y hy => h y (List.mem_of_mem_take hy)
theorem less_says' {ao bo : Option Addr} {la lb : List Int} {w : World} {x : Bool} {n m : Nat} (ca cb : Nat) (en : la.length = n) (em : lb.length = m) (hn : la.length ≤ maxLen) (hm : lb.length ≤ maxLen) (ha : Rd w ao la) (hb : Rd w bo lb) (h : lessL la lb = x) :
    Calls Try.prog 26 #[.slice ao n ca, .slice bo m cb] w fun e w' => e = .returned (.bool x) ∧ Below w.heap.size w w' := by
  subst en; subst em; exact less_says ca cb hn hm ha hb h
theorem same_says' {ao bo : Option Addr} {la lb : List Int} {w : World} {x : Bool} {n m : Nat} (ca cb : Nat) (en : la.length = n) (em : lb.length = m) (hn : la.length ≤ maxLen) (ha : Rd w ao la) (hb : Rd w bo lb) (h : decide (la = lb) = x) :
    Calls Try.prog 14 #[.slice ao n ca, .slice bo m cb] w fun e w' => e = .returned (.bool x) ∧ Below w.heap.size w w' := by
  subst en; subst em; exact same_says ca cb hn ha hb h
set_option maxHeartbeats 2000000 in
theorem texts (ao bo : Option Addr) (n m c d : Nat) (la lb : List Int) (w : World) (hnc : n ≤ c) (hmd : m ≤ d) (_hc : c ≤ maxLen) (_hd : d ≤ maxLen) (hla : la.length = n) (hlb : lb.length = m)
    (ha : Rd w ao la) (hb : Rd w bo lb) (ba : ∀ x ∈ la, 0 ≤ x ∧ x ≤ 255) (bb : ∀ x ∈ lb, 0 ≤ x ∧ x ≤ 255) :
    Calls Try.prog 6 #[.slice ao n c, .slice bo m d] w fun e w' => e = .returned (.bool true) ∧ Below w.heap.size w w' := by
  unfold maxLen at _hc _hd
  obtain ⟨n', hn'⟩ : ∃ n', n' = min n 2000 := ⟨_, rfl⟩
  obtain ⟨m', hm'⟩ : ∃ m', m' = min m 2000 := ⟨_, rfl⟩
  have en : (min (n : Int) 2000).toNat = n' := by omega
  have em : (min (m : Int) 2000).toNat = m' := by omega
  have la' : (la.take 2000).length = n' := by rw [List.length_take]; omega
  have lb' : (lb.take 2000).length = m' := by rw [List.length_take]; omega
  have ra0 := ha.take 2000
  have rb0 := hb.take 2000
  have ba' := take_byte 2000 ba
  have bb' := take_byte 2000 bb
  clear ha hb ba bb hla hlb
  generalize la.take 2000 = A at *
  generalize lb.take 2000 = B at *
  have ord := text_order ba' bb'
  have ta := textC_len A
  have tb := textC_len B
  have Ga := fun w (h : Rd w ao A) => text_gives ao n' c A w (by omega) la' h
  have Gb := fun w (h : Rd w bo B) => text_gives bo m' d B w (by omega) lb' h
  generalize textC A = P at *
  generalize textC B = Q at *
  obtain ⟨x, hx⟩ : ∃ x, x = lessL A B := ⟨_, rfl⟩
  obtain ⟨y, hy⟩ : ∃ y, y = decide (A = B) := ⟨_, rfl⟩
  have LA := Lib.hid (le_max (show A.length ≤ 2000 by omega) (by decide))
  have LB := Lib.hid (le_max (show B.length ≤ 2000 by omega) (by decide))
  have LP := Lib.hid (le_max (show P.length ≤ 4002 by omega) (by decide))
  have LQ := Lib.hid (le_max (show Q.length ≤ 4002 by omega) (by decide))
  have H1 := Lib.hid (ord.1.trans hx.symm)
  have H2 := Lib.hid (ord.2.trans hy.symm)
  have H3 := Lib.hid hx.symm
  have H4 := Lib.hid hy.symm
  have HGa := Lib.hid Ga
  have HGb := Lib.hid Gb
  have EA := Lib.hid la'
  have EB := Lib.hid lb'
  clear ord ta tb Ga Gb hx hy la' lb' ba' bb'
  have Ra0 := Lib.hid (fun q => ra0.on (below_drewN (Below.refl _ w) q) (Nat.le_refl _))
  have Rb0 := Lib.hid (fun q => rb0.on (below_drewN (Below.refl _ w) q) (Nat.le_refl _))
  clear ra0 rb0
  have q1 : (min (n : Int) 2000) ≤ c := by omega
  have q2 : (min (m : Int) 2000) ≤ d := by omega
  have q3 : 0 ≤ (min (n : Int) 2000) := by omega
  have q4 : 0 ≤ (min (m : Int) 2000) := by omega
  clear hn' hm'
  go_enter Try.func6, Try.ntmps6
  go_wp2
  go_quiet (fail)
  go_wp2_with fail
  refine (HGa.out _ (Ra0.out _)).mono ?_
  clear HGa
  rintro e w1 ⟨pa, pc, rfl, ⟨_, rp, _⟩, hB1⟩
  have hb1 : Below w.heap.size w w1 := (below_drewN (Below.refl _ w) _).trans hB1
  have Ra1 := Lib.hid ((Ra0.out _).on hB1 (Nat.le_refl _))
  have Rb1 := Lib.hid ((Rb0.out _).on hB1 (Nat.le_refl _))
  clear hB1 Ra0 Rb0
  go_wp2_with fail
  refine (HGb.out _ Rb1.out).mono ?_
  clear HGb
  rintro e w2 ⟨qa, qc, rfl, ⟨_, rq, _⟩, hB2⟩
  have hb2 := hb1.trans (hB2.mono hb1.size)
  have Ra2 := Lib.hid (Ra1.out.on hB2 (Nat.le_refl _))
  have Rb2 := Lib.hid (Rb1.out.on hB2 (Nat.le_refl _))
  have Rp2 := Lib.hid (rp.on hB2 (Nat.le_refl _))
  have Rq2 := Lib.hid rq
  clear hB2 Ra1 Rb1 hb1 rp rq
  go_wp2_with fail
  refine (awake_any w2).mono ?_
  rintro e w3 ⟨rfl, hB3⟩
  have hb3 := hb2.trans (hB3.mono hb2.size)
  have Ra3 := Lib.hid (Ra2.out.on hB3 (Nat.le_refl _))
  have Rb3 := Lib.hid (Rb2.out.on hB3 (Nat.le_refl _))
  have Rp3 := Lib.hid (Rp2.out.on hB3 (Nat.le_refl _))
  have Rq3 := Lib.hid (Rq2.out.on hB3 (Nat.le_refl _))
  clear hB3 Ra2 Rb2 Rp2 Rq2 hb2
  have H := Lib.hid (less_says pc qc LP.out LQ.out Rp3.out Rq3.out H1.out)
  go_wp2_with fail
  refine H.out.mono ?_
  clear H
  rintro e w4 ⟨rfl, hB4⟩
  have hb4 := hb3.trans (hB4.mono hb3.size)
  have Ra4 := Lib.hid (Ra3.out.on hB4 (Nat.le_refl _))
  have Rb4 := Lib.hid (Rb3.out.on hB4 (Nat.le_refl _))
  have Rp4 := Lib.hid (Rp3.out.on hB4 (Nat.le_refl _))
  have Rq4 := Lib.hid (Rq3.out.on hB4 (Nat.le_refl _))
  clear hB4 Ra3 Rb3 Rp3 Rq3 hb3
  have H := Lib.hid (less_says' c d EA.out EB.out LA.out LB.out Ra4.out Rb4.out H3.out)
  go_wp2_with fail
  refine H.out.mono ?_
  clear H
  rintro e w5 ⟨rfl, hB5⟩
  have hb5 := hb4.trans (hB5.mono hb4.size)
  have Ra5 := Lib.hid (Ra4.out.on hB5 (Nat.le_refl _))
  have Rb5 := Lib.hid (Rb4.out.on hB5 (Nat.le_refl _))
  have Rp5 := Lib.hid (Rp4.out.on hB5 (Nat.le_refl _))
  have Rq5 := Lib.hid (Rq4.out.on hB5 (Nat.le_refl _))
  clear hB5 Ra4 Rb4 Rp4 Rq4 hb4
  have H := Lib.hid (same_says pc qc LP.out Rp5.out Rq5.out H2.out)
  go_wp2_with fail
  refine H.out.mono ?_
  clear H
  rintro e w6 ⟨rfl, hB6⟩
  have hb6 := hb5.trans (hB6.mono hb5.size)
  have Ra6 := Lib.hid (Ra5.out.on hB6 (Nat.le_refl _))
  have Rb6 := Lib.hid (Rb5.out.on hB6 (Nat.le_refl _))
  clear hB6 Ra5 Rb5 Rp5 Rq5 hb5
  have H := Lib.hid (same_says' c d EA.out EB.out LA.out Ra6.out Rb6.out H4.out)
  go_wp2_with fail
  refine H.out.mono ?_
  clear H
  rintro e w7 ⟨rfl, hB7⟩
  have hb7 := hb6.trans (hB7.mono hb6.size)
  clear hB7 Ra6 Rb6 hb6
  go_wp2_with fail
  go_ret
  exact ⟨by simp, hb7⟩
end Go.Proofs.Ytnjapbfnodfgpaa.Rk
