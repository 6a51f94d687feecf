/- ghost: a vertex in form; the numbers of vertices, the properties, walked. -/
import Derived.Test.YtgjjfodogkcmmaaG3
import Derived.Test.YtgjjfodogkcmmaaV2
namespace Go.Proofs.Ytgjjfodogkcmmaa.Gh
open Go Go.RowKit Ytgjjfodogkcmmaa.So Ytgjjfodogkcmmaa.Vl
def numB (x : Int) : Bool := decide (1 ≤ x ∧ x ≤ 40)
theorem isvertex_any (x : Int) (w : World) : Calls Try.prog 71 #[.int .u32 x] w fun e w' => e = .returned (.bool (numB x)) ∧ w = w' := by
  by_cases h1 : 1 ≤ x
  · by_cases h2 : x ≤ 40
    · have fin : numB x = true := by simp [numB, h1, h2]
      have Fin := Lib.hid fin
      clear fin
      go_enter Try.func71, Try.ntmps71
      go_wp2
      go_ret
      exact ⟨by rw [Fin.out]; rfl, rfl⟩
    · have fin : numB x = false := by simp [numB, h2]
      have Fin := Lib.hid fin
      have h2' : decide (x ≤ 40) = false := decide_eq_false h2
      clear fin
      go_enter Try.func71, Try.ntmps71
      go_wp2
      go_ret
      exact ⟨by rw [Fin.out]; rfl, rfl⟩
  · have fin : numB x = false := by simp [numB, h1]
    have Fin := Lib.hid fin
    have h2' : decide (1 ≤ x) = false := decide_eq_false h1
    clear fin
    go_enter Try.func71, Try.ntmps71
    go_wp2
    go_ret
    exact ⟨by rw [Fin.out]; rfl, rfl⟩
theorem number_any (x : Int) (w : World) : Calls Try.prog 38 #[.int .u32 x] w fun e w' => e = .returned (.bool (numB x)) ∧ w = w' := by
  by_cases h1 : 0 < x
  · by_cases h2 : x ≤ 40
    · have fin : numB x = true := by simp [numB]; omega
      have Fin := Lib.hid fin
      clear fin
      go_enter Try.func38, Try.ntmps38
      go_wp2
      go_ret
      exact ⟨by rw [Fin.out]; rfl, rfl⟩
    · have fin : numB x = false := by simp [numB, h2]
      have Fin := Lib.hid fin
      have h2' : decide (x ≤ 40) = false := decide_eq_false h2
      clear fin
      go_enter Try.func38, Try.ntmps38
      go_wp2
      go_ret
      exact ⟨by rw [Fin.out]; rfl, rfl⟩
  · have fin : numB x = false := by simp [numB]; omega
    have Fin := Lib.hid fin
    have h2' : decide (0 < x) = false := decide_eq_false h1
    clear fin
    go_enter Try.func38, Try.ntmps38
    go_wp2
    go_ret
    exact ⟨by rw [Fin.out]; rfl, rfl⟩
/-- The value of a half, or of a property, is in form. -/
def okT (t : Hf) : Bool := formB t.2.1 t.2.2.1 t.2.2.2.data.toList
/-- What stands before the i-th, if anything, is less. -/
def upB (L : List Hf) (i : Nat) (t : Hf) : Bool := if i = 0 then true else (L[i - 1]?).all fun s => decide (s.1 < t.1)
def pAt (L : List Hf) (i : Nat) : Bool := (L[i]?).all fun t => upB L i t && decide (t.1 ≤ 3) && decide (t.2.1 ≠ 0) && okT t
def propsB (L : List Hf) : Bool := (List.range L.length).all (pAt L)
def hAt (id : Int) (L : List Hf) (i : Nat) : Bool := (L[i]?).all fun t => upB L i t && numB t.1 && decide (t.1 ≠ id) && okT t
def halvesB (id : Int) (L : List Hf) : Bool := (List.range L.length).all (hAt id L)
theorem all_not {n j : Nat} {f : Nat → Bool} (hj : j < n) (h : f j = false) : (List.range n).all f = false := by
  rw [List.all_eq_false]
  exact ⟨j, List.mem_range.2 hj, by simp [h]⟩
theorem all_yes {n : Nat} {f : Nat → Bool} (h : ∀ i, i < n → f i = true) : (List.range n).all f = true :=
  List.all_eq_true.2 fun i hi => h i (List.mem_range.1 hi)
/-- From an address on these properties stand. -/
def RdP (w : World) (ao : Option Addr) (L : List Hf) : Prop :=
  ∀ (i : Nat) (t : Hf), L[i]? = some t → ∃ b off, ao = some ⟨b, off, none⟩ ∧ b < w.heap.size ∧ w.cell? ⟨b, off + i * 4, none⟩ = some (.int .u8 t.1) ∧ w.cell? ⟨b, off + i * 4 + 1, none⟩ = some (.int .u8 t.2.1) ∧ w.cell? ⟨b, off + i * 4 + 2, none⟩ = some (.int .i64 t.2.2.1) ∧ w.cell? ⟨b, off + i * 4 + 3, none⟩ = some (.string t.2.2.2)
theorem RdP.below {w w' : World} {ao : Option Addr} {L : List Hf} {B : Nat} (h : RdP w ao L) (hb : Below B w w') (hB : w.heap.size ≤ B) : RdP w' ao L := by
  intro i t hi
  obtain ⟨b, off, rfl, h0, h1, h2, h3, h4⟩ := h i t hi
  have hc : ∀ o, w'.cell? ⟨b, o, none⟩ = w.cell? ⟨b, o, none⟩ := fun o => hb.cell (p := ⟨b, o, none⟩) (Nat.lt_of_lt_of_le h0 hB)
  exact ⟨b, off, rfl, Nat.lt_of_lt_of_le h0 hb.size, (hc _).trans h1, (hc _).trans h2, (hc _).trans h3, (hc _).trans h4⟩
theorem RdP.one {w : World} {g og : Nat} {L : List Hf} {q : Nat} {s : Hf} (h : RdP w (some ⟨g, og, none⟩) L) (hs : L[q]? = some s) : w.cell? ⟨g, og + q * 4, none⟩ = some (.int .u8 s.1) := by
  obtain ⟨b, off, e, _, h1, _⟩ := h q s hs
  simp only [Option.some.injEq, Addr.mk.injEq, and_true] at e
  obtain ⟨rfl, rfl⟩ := e
  exact h1
theorem up_cases (L : List Hf) (j : Nat) (t : Hf) (hj : j < L.length) : (j = 0 ∧ upB L j t = true) ∨ (∃ q s, j = q + 1 ∧ L[q]? = some s ∧ s.1 < t.1 ∧ upB L j t = true) ∨ (∃ q s, j = q + 1 ∧ L[q]? = some s ∧ t.1 ≤ s.1 ∧ upB L j t = false) := by
  cases j with
  | zero => exact .inl ⟨rfl, rfl⟩
  | succ q =>
    obtain ⟨s, hs⟩ : ∃ s, L[q]? = some s := ⟨_, List.getElem?_eq_getElem (by omega)⟩
    have e : upB L (q + 1) t = decide (s.1 < t.1) := by simp [upB, hs]
    by_cases h : s.1 < t.1
    · exact .inr (.inl ⟨q, s, rfl, hs, h, by rw [e]; simp [h]⟩)
    · exact .inr (.inr ⟨q, s, rfl, hs, by omega, by rw [e]; simp [h]⟩)
/-- The texts are no longer than texts may be. -/
def Txt (L : List Hf) : Prop := ∀ t ∈ L, t.2.2.2.size ≤ maxLen
theorem check_t (t : Hf) (w : World) (h : t.2.2.2.size ≤ maxLen) : Calls Try.prog 82 #[val t.2.1 t.2.2.1 t.2.2.2] w fun e w' => e = .returned (.int .i64 (if okT t then 0 else 3)) ∧ Below w.heap.size w w' := check_any _ _ _ w h
theorem form_t (t : Hf) (w : World) (h : t.2.2.2.size ≤ maxLen) : Calls Try.prog 39 #[val t.2.1 t.2.2.1 t.2.2.2] w fun e w' => e = .returned (.bool (okT t)) ∧ Below w.heap.size w w' := form_any _ _ _ w h
def PRet (L : List Hf) (w : World) (e : Ending) (w' : World) : Prop := e = .returned (.bool (propsB L)) ∧ Below w.heap.size w w'
set_option maxRecDepth 100000 in
set_option maxHeartbeats 2000000 in
theorem props_any (ao : Option Addr) (c : Nat) (L : List Hf) (w : World) (hL : RdP w ao L) (hT : Txt L) (hn : L.length ≤ maxLen) :
    Calls Try.prog 72 #[.slice ao L.length c] w (PRet L w) := by
  unfold maxLen at hn
  have HL := Lib.hid (And.intro hL hT)
  obtain ⟨n, hn2⟩ : ∃ n, L.length = n := ⟨_, rfl⟩
  rw [hn2]
  rw [hn2] at hn
  have HN := Lib.hid hn2
  clear hL hT hn2
  go_enter Try.func72, Try.ntmps72
  go_wp2_with fail
  go_loopw [7] (fun u wr => ∃ j : Nat, j ≤ n ∧ u = .int .i64 j ∧ Hid ((∀ i, i < j → pAt L i = true) ∧ Below w.heap.size w wr)) (fun u _ => n - (intOf u).toNat)
  case atStart => exact ⟨0, by omega, rfl, Lib.hid ⟨fun i hi => absurd hi (Nat.not_lt_zero _), Below.refl _ _⟩⟩
  case round =>
    obtain ⟨j, hj, rfl, HA⟩ := hrel
    by_cases hlt : j < n
    · obtain ⟨t, ht⟩ : ∃ t, L[j]? = some t := ⟨_, List.getElem?_eq_getElem (by have := HN.out; omega)⟩
      obtain ⟨g, og, rfl, hgl, c0, c1, c2, c3⟩ := (HL.out.1.below HA.out.2 (Nat.le_refl _)) j t ht
      have HS := Lib.hid ht
      have ts := HL.out.2 t (List.mem_of_getElem? ht)
      have il : (j : Int) < (n : Int) := by omega
      have hb1 := HA.out.2.alloc HA.out.2.size (.cells #[.int .u8 t.1, .int .u8 t.2.1, .int .i64 t.2.2.1, .string t.2.2.2] 86)
      have HB := Lib.hid hb1
      have HCk := Lib.hid (fun (w : World) => check_t t w ts)
      have hAt : pAt L j = (upB L j t && decide (t.1 ≤ 3) && decide (t.2.1 ≠ 0) && okT t) := by unfold pAt; rw [ht]; rfl
      have HAt := Lib.hid hAt
      have Fin0 : ∀ w', Below w.heap.size w w' → pAt L j = false → PRet L w (.returned (.bool false)) w' := fun w' hb h => ⟨by rw [show propsB L = false from all_not (by rw [HN.out]; exact hlt) h], hb⟩
      have Fin := Lib.hid Fin0
      clear ht hb1 ts hAt Fin0
      rcases up_cases L j t (by rw [HN.out]; exact hlt) with ⟨hj0, hu⟩ | ⟨q, s, hq, hs, hst, hu⟩ | ⟨q, s, hq, hs, hst, hu⟩
      · have k0 : decide ((0 : Int) < (j : Int)) = false := decide_eq_false (by omega)
        have k0' : decide (0 < j) = false := decide_eq_false (by omega)
        have HU := Lib.hid hu
        clear hj0 hu
        by_cases h3 : t.1 ≤ 3
        · have hd : decide (3 < t.1) = false := decide_eq_false (by omega)
          by_cases h0 : t.2.1 = 0
          · have hz : (t.2.1 == 0) = true := by simp [h0]
            have HNo := Lib.hid (show pAt L j = false by rw [HAt.out]; simp [h0])
            clear h0
            go_wp2_with fail
            go_quiet (fail)
            go_wp2_with fail
            go_ret
            exact Fin.out _ (HB.out.trans ((drewN_refl _ nq).mono HB.out.size)) HNo.out
          · have hz : (t.2.1 == 0) = false := by simp [h0]
            cases hk : okT t
            · rw [hk] at HCk
              go_wp2_with fail
              go_quiet (fail)
              go_wp2_with (go_at_call 82; refine (HCk.out _).mono ?_; rintro e w5 ⟨rfl, hb5⟩; have H5 := Lib.hid hb5; clear hb5)
              go_ret
              exact Fin.out _ ((HB.out.trans ((drewN_refl _ nq).mono HB.out.size)).trans (H5.out.mono HB.out.size)) (by rw [HAt.out, hk]; simp)
            · rw [hk] at HCk
              have HG := Lib.hid (show pAt L j = true by rw [HAt.out, hk, HU.out]; simp [h3, h0])
              go_wp2_with fail
              go_quiet (fail)
              go_wp2_with (go_at_call 82; refine (HCk.out _).mono ?_; rintro e w5 ⟨rfl, hb5⟩; have H5 := Lib.hid hb5; clear hb5)
              refine ⟨⟨j + 1, by omega, rfl, Lib.hid ⟨fun i hi => ?_, (HB.out.trans ((drewN_refl _ nq).mono HB.out.size)).trans (H5.out.mono HB.out.size)⟩⟩, by simp [intOf]; omega⟩
              rcases Nat.lt_succ_iff_lt_or_eq.1 hi with h | rfl
              · exact HA.out.1 i h
              · exact HG.out
        · have hd : decide (3 < t.1) = true := decide_eq_true (by omega)
          have HNo := Lib.hid (show pAt L j = false by rw [HAt.out]; simp [h3])
          go_wp2_with fail
          go_quiet (fail)
          go_wp2_with fail
          go_ret
          exact Fin.out _ (HB.out.trans ((drewN_refl _ nq).mono HB.out.size)) HNo.out
      · have k0 : (0 : Int) < (j : Int) := by omega
        have k0' : decide (0 < j) = true := decide_eq_true (by omega)
        have d0 := (HL.out.1.below HA.out.2 (Nat.le_refl _)).one hs
        have k1 : IntKind.i64.wrap ((j : Int) - 1) = (q : Int) := by rw [wr64 (by omega) (by omega)]; omega
        have k2 : (q : Int) < (n : Int) := by omega
        have k3 : decide (t.1 ≤ s.1) = false := decide_eq_false (by omega)
        have HU := Lib.hid hu
        have HQ := Lib.hid hs
        clear hu hs hst hq
        by_cases h3 : t.1 ≤ 3
        · have hd : decide (3 < t.1) = false := decide_eq_false (by omega)
          by_cases h0 : t.2.1 = 0
          · have hz : (t.2.1 == 0) = true := by simp [h0]
            have HNo := Lib.hid (show pAt L j = false by rw [HAt.out]; simp [h0])
            clear h0
            go_wp2_with fail
            go_quiet (fail)
            go_wp2_with fail
            go_ret
            exact Fin.out _ (HB.out.trans ((drewN_refl _ nq).mono HB.out.size)) HNo.out
          · have hz : (t.2.1 == 0) = false := by simp [h0]
            cases hk : okT t
            · rw [hk] at HCk
              go_wp2_with fail
              go_quiet (fail)
              go_wp2_with (go_at_call 82; refine (HCk.out _).mono ?_; rintro e w5 ⟨rfl, hb5⟩; have H5 := Lib.hid hb5; clear hb5)
              go_ret
              exact Fin.out _ ((HB.out.trans ((drewN_refl _ nq).mono HB.out.size)).trans (H5.out.mono HB.out.size)) (by rw [HAt.out, hk]; simp)
            · rw [hk] at HCk
              have HG := Lib.hid (show pAt L j = true by rw [HAt.out, hk, HU.out]; simp [h3, h0])
              go_wp2_with fail
              go_quiet (fail)
              go_wp2_with (go_at_call 82; refine (HCk.out _).mono ?_; rintro e w5 ⟨rfl, hb5⟩; have H5 := Lib.hid hb5; clear hb5)
              refine ⟨⟨j + 1, by omega, rfl, Lib.hid ⟨fun i hi => ?_, (HB.out.trans ((drewN_refl _ nq).mono HB.out.size)).trans (H5.out.mono HB.out.size)⟩⟩, by simp [intOf]; omega⟩
              rcases Nat.lt_succ_iff_lt_or_eq.1 hi with h | rfl
              · exact HA.out.1 i h
              · exact HG.out
        · have hd : decide (3 < t.1) = true := decide_eq_true (by omega)
          have HNo := Lib.hid (show pAt L j = false by rw [HAt.out]; simp [h3])
          go_wp2_with fail
          go_quiet (fail)
          go_wp2_with fail
          go_ret
          exact Fin.out _ (HB.out.trans ((drewN_refl _ nq).mono HB.out.size)) HNo.out
      · have k0 : (0 : Int) < (j : Int) := by omega
        have k0' : decide (0 < j) = true := decide_eq_true (by omega)
        have d0 := (HL.out.1.below HA.out.2 (Nat.le_refl _)).one hs
        have k1 : IntKind.i64.wrap ((j : Int) - 1) = (q : Int) := by rw [wr64 (by omega) (by omega)]; omega
        have k2 : (q : Int) < (n : Int) := by omega
        have k3 : decide (t.1 ≤ s.1) = true := decide_eq_true hst
        have HU := Lib.hid hu
        clear hu hs hst hq
        go_wp2_with fail
        go_quiet (fail)
        go_wp2_with fail
        go_ret
        exact Fin.out _ (HB.out.trans ((drewN_refl _ nq).mono HB.out.size)) (by rw [HAt.out, HU.out]; simp)
    · obtain rfl : j = n := by omega
      have HE := Lib.hid (show PRet L w (.returned (.bool true)) wr from ⟨by rw [show propsB L = true from all_yes (fun i hi => HA.out.1 i (by rw [HN.out] at hi; exact hi))], HA.out.2⟩)
      go_wp2_with fail
      go_ret
      exact HE.out
end Go.Proofs.Ytgjjfodogkcmmaa.Gh
