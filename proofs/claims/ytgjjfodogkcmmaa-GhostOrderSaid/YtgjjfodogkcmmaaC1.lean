/- ghost: the document's SameNumbers, holds, insert, walked. -/
import Derived.Test.YtgjjfodogkcmmaaV4
namespace Go.Proofs.Ytgjjfodogkcmmaa.Gh
open Go Go.RowKit Ytgjjfodogkcmmaa.So
set_option maxHeartbeats 1000000 in
theorem numbers_any (ao bo : Option Addr) (ca cb : Nat) (L M : List Int) (w : World) (hL : Rd4 w ao L) (hM : Rd4 w bo M) (h1 : L.length ≤ 1000000000000) (_h2 : M.length ≤ 1000000000000) :
    Calls Try.prog 15 #[.slice ao L.length ca, .slice bo M.length cb] w fun e w' => e = .returned (.bool (decide (L = M))) ∧ Below w.heap.size w w' := by
  by_cases hlen : L.length = M.length
  · have HL := Lib.hid (And.intro hL hM)
    obtain ⟨n, hn⟩ : ∃ n, L.length = n := ⟨_, rfl⟩
    have hn2 : M.length = n := by omega
    rw [hn, hn2]
    have HN := Lib.hid (And.intro hn hn2)
    have hn3 : n ≤ 1000000000000 := by omega
    clear hL hM h1 _h2 hlen hn hn2
    go_enter Try.func15, Try.ntmps15
    go_wp2_with fail
    go_loopw [13] (fun u wr => ∃ j : Nat, j ≤ n ∧ u = .int .i64 j ∧ Hid (L.take j = M.take j ∧ Below w.heap.size w wr)) (fun u _ => n - (intOf u).toNat)
    case atStart => exact ⟨0, by omega, rfl, Lib.hid ⟨by simp, Below.refl _ _⟩⟩
    case round =>
      obtain ⟨j, hj, rfl, HA⟩ := hrel
      by_cases hlt : j < n
      · obtain ⟨s, hs⟩ : ∃ s, L[j]? = some s := ⟨_, List.getElem?_eq_getElem (by have := HN.out; omega)⟩
        obtain ⟨t, ht⟩ : ∃ t, M[j]? = some t := ⟨_, List.getElem?_eq_getElem (by have := HN.out; omega)⟩
        obtain ⟨g, og, rfl, _, c1⟩ := (HL.out.1.on HA.out.2 (Nat.le_refl _)) j s hs
        obtain ⟨q, oq, rfl, _, d1⟩ := (HL.out.2.on HA.out.2 (Nat.le_refl _)) j t ht
        have HT := Lib.hid (And.intro hs ht)
        have j1 : (j : Int) < (n : Int) := by omega
        clear hs ht
        by_cases hst : s = t
        · have hs1 : (s != t) = false := by simp [hst]
          have HST := Lib.hid hst
          clear hst
          go_wp2_with fail
          go_quiet (fail)
          go_wp2_with fail
          refine ⟨⟨j + 1, by omega, rfl, Lib.hid ⟨?_, HA.out.2.trans ((drewN_refl wr nq).mono HA.out.2.size)⟩⟩, by simp [intOf]; omega⟩
          rw [take_next HT.out.1, take_next HT.out.2, HA.out.1, HST.out]
        · have hs1 : (s != t) = true := by simp [hst]
          have fin : ¬ L = M := fun e => by
            have h1 := HT.out.1
            rw [e, HT.out.2] at h1
            injection h1 with h1
            exact hst h1.symm
          have Fin := Lib.hid fin
          clear hst fin
          go_wp2_with fail
          go_quiet (fail)
          go_wp2_with fail
          go_ret
          exact ⟨by rw [decide_eq_false Fin.out]; rfl, HA.out.2.trans ((drewN_refl wr nq).mono HA.out.2.size)⟩
      · obtain rfl : j = n := by omega
        have fin : L = M := by
          have h := HA.out.1
          rwa [List.take_of_length_le (by rw [HN.out.1]; exact Nat.le_refl _), List.take_of_length_le (by rw [HN.out.2]; exact Nat.le_refl _)] at h
        have Fin := Lib.hid fin
        clear fin
        go_wp2_with fail
        go_ret
        exact ⟨by rw [decide_eq_true Fin.out]; rfl, HA.out.2⟩
  · have fin : ¬ L = M := fun e => hlen (by rw [e])
    have Fin := Lib.hid fin
    have e1 : ((L.length : Int) == (M.length : Int)) = false := by simp; omega
    clear fin hL hM
    go_enter Try.func15, Try.ntmps15
    go_wp2_with fail
    go_ret
    exact ⟨by rw [decide_eq_false Fin.out]; rfl, Below.refl _ _⟩
/-- Does one of these vertices bear this number? -/
def hasV (Vs : List Vx) (x : Int) : Bool := Vs.any fun v => decide (v.id = x)
theorem hasV_take {Vs : List Vx} {j : Nat} {v : Vx} {x : Int} (h : Vs[j]? = some v) (h0 : hasV (Vs.take j) x = false) (hv : v.id ≠ x) : hasV (Vs.take (j + 1)) x = false := by
  rw [take_next h]
  unfold hasV at *
  rw [List.any_append, h0]
  simp [hv]
theorem hasV_yes {Vs : List Vx} {j : Nat} {v : Vx} {x : Int} (h : Vs[j]? = some v) (hv : v.id = x) : hasV Vs x = true :=
  List.any_eq_true.2 ⟨v, List.mem_of_getElem? h, by simp [hv]⟩
set_option maxHeartbeats 1000000 in
theorem holds_any (ao : Option Addr) (c : Nat) (Vs : List Vx) (x : Int) (w : World) (hV : RdV w ao Vs) (hn : Vs.length ≤ 1000000000000) :
    Calls Try.prog 30 #[.slice ao Vs.length c, .int .u32 x] w fun e w' => e = .returned (.bool (hasV Vs x)) ∧ Below w.heap.size w w' := by
  have HV := Lib.hid hV
  obtain ⟨n, hl⟩ : ∃ n, Vs.length = n := ⟨_, rfl⟩
  rw [hl] at hn ⊢
  have HN := Lib.hid hl
  clear hV hl
  go_enter Try.func30, Try.ntmps30
  go_wp2_with fail
  go_loopw [9] (fun u wr => ∃ j : Nat, j ≤ n ∧ u = .int .i64 j ∧ Hid (hasV (Vs.take j) x = false ∧ Below w.heap.size w wr)) (fun u _ => n - (intOf u).toNat)
  case atStart => exact ⟨0, by omega, rfl, Lib.hid ⟨rfl, Below.refl _ _⟩⟩
  case round =>
    obtain ⟨j, hj, rfl, HA⟩ := hrel
    by_cases hlt : j < n
    · obtain ⟨v, hv⟩ : ∃ v, Vs[j]? = some v := ⟨_, List.getElem?_eq_getElem (by have := HN.out; omega)⟩
      obtain ⟨_, g, og, rfl, _, c0, c1, c2, c3⟩ := (HV.out.below HA.out.2 (Nat.le_refl _)) j v hv
      have HS := Lib.hid hv
      have j1 : (j : Int) < (n : Int) := by omega
      have HB := Lib.hid (HA.out.2.alloc HA.out.2.size (.cells #[.int .u32 v.id, .bool v.th, .slice v.po v.pl v.pc, .slice v.ho v.L.length v.hc] 28))
      clear hv
      by_cases hx : v.id = x
      · have e1 : (v.id == x) = true := by simp [hx]
        have HE := Lib.hid (hasV_yes HS.out hx)
        clear hx
        go_wp2_with fail
        go_ret
        exact ⟨by rw [HE.out]; rfl, HB.out⟩
      · have e1 : (v.id == x) = false := by simp [hx]
        have HE := Lib.hid (hasV_take HS.out HA.out.1 hx)
        clear hx
        go_wp2_with fail
        refine ⟨⟨j + 1, by omega, rfl, Lib.hid ⟨HE.out, HB.out⟩⟩, by simp [intOf]; omega⟩
    · obtain rfl : j = n := by omega
      have HE := Lib.hid (show hasV Vs x = false by have h := HA.out.1; rwa [List.take_of_length_le (by rw [HN.out]; exact Nat.le_refl _)] at h)
      go_wp2_with fail
      go_ret
      exact ⟨by rw [HE.out]; rfl, HA.out.2⟩
end Go.Proofs.Ytgjjfodogkcmmaa.Gh
