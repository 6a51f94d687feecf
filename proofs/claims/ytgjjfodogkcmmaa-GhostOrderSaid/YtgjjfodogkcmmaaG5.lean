/- ghost: the halves in form, walked. -/
import Derived.Test.YtgjjfodogkcmmaaG4
namespace Go.Proofs.Ytgjjfodogkcmmaa.Gh
open Go Go.RowKit Ytgjjfodogkcmmaa.So Ytgjjfodogkcmmaa.Vl
theorem RdH.one {w : World} {g og : Nat} {L : List Hf} {q : Nat} {s : Hf} (h : RdH w (some ⟨g, og, none⟩) L) (hs : L[q]? = some s) : w.cell? ⟨g, og + q * 4, none⟩ = some (.int .u32 s.1) := by
  obtain ⟨b, off, e, _, h1, _⟩ := h q s hs
  simp only [Option.some.injEq, Addr.mk.injEq, and_true] at e
  obtain ⟨rfl, rfl⟩ := e
  exact h1
theorem isvertex_q (x : Int) (b : Bool) (h : numB x = b) (w : World) : Calls Try.prog 71 #[.int .u32 x] w fun e w' => e = .returned (.bool b) ∧ w' = w := by
  refine (isvertex_any x w).mono ?_
  rintro e w' ⟨rfl, rfl⟩
  exact ⟨by rw [h], rfl⟩
def hsB (id : Int) (L : List Hf) : Bool := decide (L.length ≤ 16) && halvesB id L
def HRet (id : Int) (L : List Hf) (w : World) (e : Ending) (w' : World) : Prop := e = .returned (.bool (hsB id L)) ∧ Below w.heap.size w w'
set_option maxRecDepth 100000 in
set_option maxHeartbeats 2000000 in
theorem halves_any (id : Int) (ao : Option Addr) (c : Nat) (L : List Hf) (w : World) (hL : RdH w ao L) (hT : Txt L) (hn : L.length ≤ maxLen) :
    Calls Try.prog 73 #[.int .u32 id, .slice ao L.length c] w (HRet id L w) := by
  unfold maxLen at hn
  have HL := Lib.hid (And.intro hL hT)
  by_cases h16 : L.length ≤ 16
  · obtain ⟨n, hn2⟩ : ∃ n, L.length = n := ⟨_, rfl⟩
    rw [hn2]
    rw [hn2] at h16
    have HN := Lib.hid hn2
    have h16' : decide (16 < n) = false := decide_eq_false (by omega)
    clear hL hT hn2 hn
    go_enter Try.func73, Try.ntmps73
    go_wp2_with fail
    go_loopw [12] (fun u wr => ∃ j : Nat, j ≤ n ∧ u = .int .i64 j ∧ Hid ((∀ i, i < j → hAt id L i = true) ∧ Below w.heap.size w wr)) (fun u _ => n - (intOf u).toNat)
    case atStart => exact ⟨0, by omega, rfl, Lib.hid ⟨fun i hi => absurd hi (Nat.not_lt_zero _), Below.refl _ _⟩⟩
    case round =>
      obtain ⟨j, hj, rfl, HA⟩ := hrel
      by_cases hlt : j < n
      · obtain ⟨t, ht⟩ : ∃ t, L[j]? = some t := ⟨_, List.getElem?_eq_getElem (by have := HN.out; omega)⟩
        obtain ⟨g, og, rfl, hgl, c0, c1, c2, c3⟩ := (HL.out.1.below HA.out.2 (Nat.le_refl _)) j t ht
        have HS := Lib.hid ht
        have ts := HL.out.2 t (List.mem_of_getElem? ht)
        have il : (j : Int) < (n : Int) := by omega
        have hb1 := HA.out.2.alloc HA.out.2.size (.cells #[.int .u32 t.1, .int .u8 t.2.1, .int .i64 t.2.2.1, .string t.2.2.2] 76)
        have HB := Lib.hid hb1
        have HCk := Lib.hid (fun (w : World) => check_t t w ts)
        have hAt : hAt id L j = (upB L j t && numB t.1 && decide (t.1 ≠ id) && okT t) := by unfold Gh.hAt; rw [ht]; rfl
        have HAt := Lib.hid hAt
        have Fin0 : ∀ w', Below w.heap.size w w' → Gh.hAt id L j = false → HRet id L w (.returned (.bool false)) w' := fun w' hb h => ⟨by rw [show hsB id L = false from by unfold hsB halvesB; rw [all_not (by rw [HN.out]; exact hlt) h]; simp], hb⟩
        have Fin := Lib.hid Fin0
        clear ht hb1 ts hAt Fin0
        rcases up_cases L j t (by rw [HN.out]; exact hlt) with ⟨hj0, hu⟩ | ⟨q, s, hq, hs, hst, hu⟩ | ⟨q, s, hq, hs, hst, hu⟩
        · have k0 : decide ((0 : Int) < (j : Int)) = false := decide_eq_false (by omega)
          have k0' : decide (0 < j) = false := decide_eq_false (by omega)
          have HU := Lib.hid hu
          clear hj0 hu
          cases hnb : numB t.1
          · have HNo := Lib.hid (show Gh.hAt id L j = false by rw [HAt.out, hnb]; simp)
            have HNb := Lib.hid hnb
            clear hnb
            go_wp2_with fail
            go_quiet (first | (go_at_call 71; refine Calls.quiet_of_same (isvertex_q _ _ HNb.out _)))
            go_wp2_with fail
            go_ret
            exact Fin.out _ (HB.out.trans ((drewN_refl _ nq).mono HB.out.size)) HNo.out
          · have HNb := Lib.hid hnb
            clear hnb
            by_cases h0 : t.1 = id
            · have hz : (t.1 == id) = true := by simp [h0]
              have HNo := Lib.hid (show Gh.hAt id L j = false by rw [HAt.out]; simp [h0])
              clear h0
              go_wp2_with fail
              go_quiet (first | (go_at_call 71; refine Calls.quiet_of_same (isvertex_q _ _ HNb.out _)))
              go_wp2_with fail
              go_ret
              exact Fin.out _ (HB.out.trans ((drewN_refl _ nq).mono HB.out.size)) HNo.out
            · have hz : (t.1 == id) = false := by simp [h0]
              cases hk : okT t
              · have HNo := Lib.hid (show Gh.hAt id L j = false by rw [HAt.out, hk]; simp)
                rw [hk] at HCk
                go_wp2_with fail
                go_quiet (first | (go_at_call 71; refine Calls.quiet_of_same (isvertex_q _ _ HNb.out _)))
                go_wp2_with (go_at_call 82; refine (HCk.out _).mono ?_; rintro e w5 ⟨rfl, hb5⟩; have H5 := Lib.hid hb5; clear hb5)
                go_ret
                exact Fin.out _ ((HB.out.trans ((drewN_refl _ nq).mono HB.out.size)).trans (H5.out.mono HB.out.size)) HNo.out
              · rw [hk] at HCk
                have HG := Lib.hid (show Gh.hAt id L j = true by rw [HAt.out, hk, HU.out, HNb.out]; simp [h0])
                go_wp2_with fail
                go_quiet (first | (go_at_call 71; refine Calls.quiet_of_same (isvertex_q _ _ HNb.out _)))
                go_wp2_with (go_at_call 82; refine (HCk.out _).mono ?_; rintro e w5 ⟨rfl, hb5⟩; have H5 := Lib.hid hb5; clear hb5)
                refine ⟨⟨j + 1, by omega, rfl, Lib.hid ⟨fun i hi => ?_, (HB.out.trans ((drewN_refl _ nq).mono HB.out.size)).trans (H5.out.mono HB.out.size)⟩⟩, by simp [intOf]; omega⟩
                rcases Nat.lt_succ_iff_lt_or_eq.1 hi with h | rfl
                · exact HA.out.1 i h
                · exact HG.out
        · have k0 : (0 : Int) < (j : Int) := by omega
          have k0' : decide (0 < j) = true := decide_eq_true (by omega)
          have d0 := (HL.out.1.below HA.out.2 (Nat.le_refl _)).one hs
          have k1 : IntKind.i64.wrap ((j : Int) - 1) = (q : Int) := by rw [wr64 (by omega) (by omega)]; omega
          have k2 : (q : Int) < (n : Int) := by omega
          have k3 : decide (t.1 ≤ s.1) = false := decide_eq_false (by omega)
          have HU := Lib.hid hu
          clear hu hs hst hq
          cases hnb : numB t.1
          · have HNo := Lib.hid (show Gh.hAt id L j = false by rw [HAt.out, hnb]; simp)
            have HNb := Lib.hid hnb
            clear hnb
            go_wp2_with fail
            go_quiet (first | (go_at_call 71; refine Calls.quiet_of_same (isvertex_q _ _ HNb.out _)))
            go_wp2_with fail
            go_ret
            exact Fin.out _ (HB.out.trans ((drewN_refl _ nq).mono HB.out.size)) HNo.out
          · have HNb := Lib.hid hnb
            clear hnb
            by_cases h0 : t.1 = id
            · have hz : (t.1 == id) = true := by simp [h0]
              have HNo := Lib.hid (show Gh.hAt id L j = false by rw [HAt.out]; simp [h0])
              clear h0
              go_wp2_with fail
              go_quiet (first | (go_at_call 71; refine Calls.quiet_of_same (isvertex_q _ _ HNb.out _)))
              go_wp2_with fail
              go_ret
              exact Fin.out _ (HB.out.trans ((drewN_refl _ nq).mono HB.out.size)) HNo.out
            · have hz : (t.1 == id) = false := by simp [h0]
              cases hk : okT t
              · have HNo := Lib.hid (show Gh.hAt id L j = false by rw [HAt.out, hk]; simp)
                rw [hk] at HCk
                go_wp2_with fail
                go_quiet (first | (go_at_call 71; refine Calls.quiet_of_same (isvertex_q _ _ HNb.out _)))
                go_wp2_with (go_at_call 82; refine (HCk.out _).mono ?_; rintro e w5 ⟨rfl, hb5⟩; have H5 := Lib.hid hb5; clear hb5)
                go_ret
                exact Fin.out _ ((HB.out.trans ((drewN_refl _ nq).mono HB.out.size)).trans (H5.out.mono HB.out.size)) HNo.out
              · rw [hk] at HCk
                have HG := Lib.hid (show Gh.hAt id L j = true by rw [HAt.out, hk, HU.out, HNb.out]; simp [h0])
                go_wp2_with fail
                go_quiet (first | (go_at_call 71; refine Calls.quiet_of_same (isvertex_q _ _ HNb.out _)))
                go_wp2_with (go_at_call 82; refine (HCk.out _).mono ?_; rintro e w5 ⟨rfl, hb5⟩; have H5 := Lib.hid hb5; clear hb5)
                refine ⟨⟨j + 1, by omega, rfl, Lib.hid ⟨fun i hi => ?_, (HB.out.trans ((drewN_refl _ nq).mono HB.out.size)).trans (H5.out.mono HB.out.size)⟩⟩, by simp [intOf]; omega⟩
                rcases Nat.lt_succ_iff_lt_or_eq.1 hi with h | rfl
                · exact HA.out.1 i h
                · exact HG.out
        · have k0 : (0 : Int) < (j : Int) := by omega
          have k0' : decide (0 < j) = true := decide_eq_true (by omega)
          have d0 := (HL.out.1.below HA.out.2 (Nat.le_refl _)).one hs
          have k1 : IntKind.i64.wrap ((j : Int) - 1) = (q : Int) := by rw [wr64 (by omega) (by omega)]; omega
          have k2 : (q : Int) < (n : Int) := by omega
          have k3 : decide (t.1 ≤ s.1) = true := decide_eq_true hst
          have HU := Lib.hid hu
          clear hu hs hst hq
          go_wp2_with fail
          go_quiet (fail)
          go_wp2_with fail
          go_ret
          exact Fin.out _ (HB.out.trans ((drewN_refl _ nq).mono HB.out.size)) (by rw [HAt.out, HU.out]; simp)
      · obtain rfl : j = n := by omega
        have HE := Lib.hid (show HRet id L w (.returned (.bool true)) wr from ⟨by rw [show hsB id L = true from by unfold hsB halvesB; rw [all_yes (fun i hi => HA.out.1 i (by rw [HN.out] at hi; exact hi)), HN.out]; simp [h16]], HA.out.2⟩)
        go_wp2_with fail
        go_ret
        exact HE.out
  · have HE := Lib.hid (show hsB id L = false by simp [hsB, h16])
    have e1 : (16 : Int) < (L.length : Int) := by omega
    have e2 : 16 < L.length := by omega
    clear hL hT h16
    go_enter Try.func73, Try.ntmps73
    go_wp2_with fail
    go_ret
    exact ⟨by rw [HE.out]; rfl, Below.refl _ _⟩
/-- A vertex, as it comes: its number, whether it is there, its properties, its halves. -/
structure Vv where
  id : Int
  th : Bool
  po : Option Addr
  pc : Nat
  P : List Hf
  ho : Option Addr
  hc : Nat
  L : List Hf
def Vv.val (v : Vv) : Value := .agg #[.int .u32 v.id, .bool v.th, .slice v.po v.P.length v.pc, .slice v.ho v.L.length v.hc]
structure Vv.ok (w : World) (v : Vv) : Prop where
  p : RdP w v.po v.P
  h : RdH w v.ho v.L
  pt : Txt v.P
  ht : Txt v.L
  pn : v.P.length ≤ maxLen
  hn : v.L.length ≤ maxLen
theorem Vv.ok.below {w w' : World} {v : Vv} {B : Nat} (h : v.ok w) (hb : Below B w w') (hB : w.heap.size ≤ B) : v.ok w' :=
  ⟨h.p.below hb hB, h.h.below hb hB, h.pt, h.ht, h.pn, h.hn⟩
/-- A vertex is in form. -/
def Vv.form (v : Vv) : Bool := numB v.id && (if v.th then propsB v.P && hsB v.id v.L else decide (v.P.length = 0) && decide (v.L.length = 0))
set_option maxHeartbeats 1000000 in
theorem formed_any (v : Vv) (w : World) (h : v.ok w) : Calls Try.prog 51 #[v.val] w fun e w' => e = .returned (.bool v.form) ∧ Below w.heap.size w w' := by
  obtain ⟨id, th, po, pc, P, ho, hc, L⟩ := v
  have hb0 : Below w.heap.size w (w.alloc (.cells #[.int .u32 id, .bool th, .slice po P.length pc, .slice ho L.length hc] 28)) := (Below.refl _ _).alloc (Nat.le_refl _) _
  have h2 := h.below hb0 (Nat.le_refl _)
  have HB := Lib.hid hb0
  have HP := Lib.hid (props_any po pc P _ h2.p h2.pt h2.pn)
  have HH := Lib.hid (fun (w : World) (hr : RdH w ho L) => halves_any id ho hc L w hr h2.ht h2.hn)
  have H2 := Lib.hid h2.h
  have k0 := Lib.hid (heap_alloc_new w (.cells #[.int .u32 id, .bool th, .slice po P.length pc, .slice ho L.length hc] 28))
  clear h h2 hb0
  unfold Vv.val
  simp only
  obtain ⟨r, hr⟩ : ∃ r, (⟨id, th, po, pc, P, ho, hc, L⟩ : Vv).form = r := ⟨_, rfl⟩
  rw [hr]
  unfold Vv.form at hr
  simp only at hr
  cases hnb : numB id
  · rw [hnb] at hr
    have HNb := Lib.hid hnb
    have HR := Lib.hid hr
    clear hnb hr
    cases th
    all_goals
      go_enter Try.func51, Try.ntmps51
      go_wp2_with (go_at_call 71; refine (isvertex_q _ _ HNb.out _).mono ?_; rintro e w5 ⟨rfl, rfl⟩)
      go_ret
      exact ⟨by rw [← HR.out]; rfl, HB.out⟩
  · rw [hnb] at hr
    have HNb := Lib.hid hnb
    clear hnb
    cases th
    · by_cases h1 : P.length = 0
      · have e1 : ((P.length : Int) == 0) = true := by rw [h1]; rfl
        by_cases h3 : L.length = 0
        · have e2 : ((L.length : Int) == 0) = true := by rw [h3]; rfl
          have HR := Lib.hid (show r = true by rw [← hr, h1, h3]; rfl)
          clear h1 h3 hr
          go_enter Try.func51, Try.ntmps51
          go_wp2_with (go_at_call 71; refine (isvertex_q _ _ HNb.out _).mono ?_; rintro e w5 ⟨rfl, rfl⟩)
          go_ret
          exact ⟨by rw [HR.out]; rfl, HB.out⟩
        · have e2 : ((L.length : Int) == 0) = false := by rw [beq_eq_false_iff_ne]; omega
          have HR := Lib.hid (show r = false by rw [← hr, h1]; simp [List.length_eq_zero_iff] at h3 ⊢; exact h3)
          clear h1 h3 hr
          go_enter Try.func51, Try.ntmps51
          go_wp2_with (go_at_call 71; refine (isvertex_q _ _ HNb.out _).mono ?_; rintro e w5 ⟨rfl, rfl⟩)
          go_ret
          exact ⟨by rw [HR.out]; rfl, HB.out⟩
      · have e1 : ((P.length : Int) == 0) = false := by rw [beq_eq_false_iff_ne]; omega
        have HR := Lib.hid (show r = false by rw [← hr, decide_eq_false h1]; rfl)
        clear h1 hr
        go_enter Try.func51, Try.ntmps51
        go_wp2_with (go_at_call 71; refine (isvertex_q _ _ HNb.out _).mono ?_; rintro e w5 ⟨rfl, rfl⟩)
        go_ret
        exact ⟨by rw [HR.out]; rfl, HB.out⟩
    · cases hpb : propsB P
      · have HPb := Lib.hid hpb
        have HR := Lib.hid (show r = false by rw [← hr, hpb]; rfl)
        clear hpb hr
        go_enter Try.func51, Try.ntmps51
        go_wp2_with (first
          | (go_at_call 71; refine (isvertex_q _ _ HNb.out _).mono ?_; rintro e w5 ⟨rfl, rfl⟩)
          | (go_at_call 72; refine HP.out.mono ?_; rintro e w6 ⟨rfl, hb6⟩; have H6 := Lib.hid hb6; clear hb6; rw [HPb.out]))
        go_ret
        exact ⟨by rw [HR.out]; rfl, HB.out.trans (H6.out.mono HB.out.size)⟩
      · have HPb := Lib.hid hpb
        have HR := Lib.hid (show r = hsB id L by rw [← hr, hpb]; simp)
        clear hpb hr
        go_enter Try.func51, Try.ntmps51
        go_wp2_with (first
          | (go_at_call 71; refine (isvertex_q _ _ HNb.out _).mono ?_; rintro e w5 ⟨rfl, rfl⟩)
          | (go_at_call 72; go_loud (refine HP.out.mono ?_; rintro e w6 ⟨rfl, hb6⟩; have H6 := Lib.hid hb6; have kk := (hb6.block w.heap.size (by simp)).trans k0.out; have c0 : w6.cell? ⟨w.heap.size, 0, none⟩ = some (.int .u32 id) := (by simp [World.cell?, kk]); have c3 : w6.cell? ⟨w.heap.size, 3, none⟩ = some (.slice ho L.length hc) := (by simp [World.cell?, kk]); clear hb6 kk; rw [HPb.out]))
          | (go_at_call 73; refine (HH.out _ (H2.out.below H6.out (Nat.le_refl _))).mono ?_; rintro e w7 ⟨rfl, hb7⟩; have H7 := Lib.hid hb7; clear hb7))
        go_ret
        have hb6 := HB.out.trans (H6.out.mono HB.out.size)
        exact ⟨by rw [HR.out]; rfl, hb6.trans (H7.out.mono hb6.size)⟩
end Go.Proofs.Ytgjjfodogkcmmaa.Gh
