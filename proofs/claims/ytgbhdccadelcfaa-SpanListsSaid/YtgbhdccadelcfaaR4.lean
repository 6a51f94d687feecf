/- span: the document's Spans, walked. -/
import Derived.Test.YtgbhdccadelcfaaM4
namespace Go.Proofs.Ytgbhdccadelcfaa.Sp
open Go Go.RowKit
theorem refis_has {n0 p : Nat} {w : World} {D : DL} (n : Int) (h : RefIs n0 w p D) (hL : D.length ≤ 1000) : Calls Try.prog 22 #[.pointer (some ⟨p, 0, none⟩), .int .u32 n] w fun e w' => e = .returned (.bool (hasD D n)) ∧ Below w.heap.size w w' := by
  obtain ⟨F, v, h⟩ := h
  exact refhas_any n0 p F v D n w h hL
theorem num_at {w0 w : World} {ao : Option Addr} {c : Nat} {l : List Int} {i : Nat} {x : Int} (h : NumAt w0 w (.slice ao l.length c) l) (hx : l[i]? = some x) : ∃ b off, ao = some ⟨b, off, none⟩ ∧ w.cell? ⟨b, off + i, none⟩ = some (.int .u32 x) := by
  obtain ⟨ao', c', e, _, hr, _⟩ := h
  simp only [Value.slice.injEq] at e
  obtain ⟨rfl, _, rfl⟩ := e
  obtain ⟨b, off, e, _, hc⟩ := hr i x hx
  exact ⟨b, off, e, hc⟩
theorem allD_take (Ps : List (Nat × DL)) (j : Nat) (q : Nat × DL) (n : Int) (h : Ps[j]? = some q) : allD (Ps.take (j + 1)) n = (allD (Ps.take j) n && hasD q.2 n) := by
  unfold allD
  rw [take_next h, List.all_append]
  simp
/-- The last span of a row of one's own is written anew. -/
theorem own_last {w : World} {B g cap : Nat} {Q : SL} {c d : Int} (x : Int) (h : w.ownsRow B 31 2 (.slice (some ⟨g, 0, none⟩) (Q.length + 1) cap) (Q.length + 1) (fl (Q ++ [(c, d)]))) :
    (w.setCell ⟨g, Q.length * 2 + 1, none⟩ (.int .u32 x)).ownsRow B 31 2 (.slice (some ⟨g, 0, none⟩) (Q.length + 1) cap) (Q.length + 1) (fl (Q ++ [(c, x)])) ∧ w.frozen? ⟨g, Q.length * 2 + 1, none⟩ = false ∧ w.cell? ⟨g, Q.length * 2 + 1, none⟩ = some (.int .u32 d) := by
  have hc := h.cells (g := g) rfl (Q.length * 2 + 1) (.int .u32 d) (by rw [fl_app, List.getElem?_append_right (by rw [fl_len]; omega), fl_len]; simp [fl])
  rw [Go.WideShapes.add_plain, Nat.zero_add] at hc
  rcases h.2 with ⟨h0, _⟩ | ⟨g', cap', cur, h0, h2, h3, h4, h5, h6, h7⟩
  · cases h0
  · simp only [Value.slice.injEq, Option.some.injEq, Addr.mk.injEq, true_and, and_true] at h0
    obtain ⟨rfl, rfl⟩ := h0
    refine ⟨⟨by rw [fl_len]; simp, .inr ⟨g, cap, cur.setIfInBounds (Q.length * 2 + 1) (.int .u32 x), rfl, h2, by rw [set_block h3], h4, h5, by simpa using h6, ?_⟩⟩, free1 h3, hc⟩
    have e1 : (cur.setIfInBounds (Q.length * 2 + 1) (.int .u32 x)).toList = cur.toList.set (Q.length * 2 + 1) (.int .u32 x) := by simp
    rw [e1, List.take_set, h7, fl_app, fl_app, List.set_append_right _ _ (by rw [fl_len]; omega), fl_len]
    simp [fl]
theorem total_le {Ps : List (Nat × DL)} {j : Nat} {q : Nat × DL} (h : Ps[j]? = some q) (hT : total Ps ≤ 200) : q.2.length ≤ 200 := by
  have h1 := total_next Ps j q h
  have h2 := total_take Ps (j + 1)
  omega
theorem below_set {w0 w : World} {n : Nat} (h : Below n w0 w) {g k : Nat} {x : Value} (hg : n ≤ g) : Below n w0 (w.setCell ⟨g, k, none⟩ x) := by
  have hs := grown_set w g k x
  exact ⟨hs.os.trans h.os, hs.tape.trans h.tape, hs.output.trans h.output, Nat.le_trans h.size hs.size, fun j hj => Eq.trans (by
    show (w.heap.modify g _)[j]? = _
    rw [Array.getElem?_modify, if_neg (by omega)]) (h.block j hj)⟩
theorem own_base {w : World} {B C e s n : Nat} {v : Value} {xs : List Value} (h : w.ownsRow C e s v n xs) (hB : B ≤ C) : w.ownsRow B e s v n xs := by
  refine ⟨h.1, ?_⟩
  rcases h.2 with h0 | ⟨g, cap, cur, e1, e2, e3⟩
  · exact .inl h0
  · exact .inr ⟨g, cap, cur, e1, Nat.le_trans hB e2, e3⟩
def RSpR (w : World) (Ps : List (Nat × DL)) (e : Ending) (w' : World) : Prop :=
  ∃ S v, e = .returned v ∧ w'.ownsRow w.heap.size 31 2 v S.length (fl S) ∧ Below w.heap.size w w' ∧ Canon S ∧ (∀ n, 0 ≤ n → n ≤ 4294967295 → (mem S n ↔ allD Ps n = true)) ∧ S.length ≤ 1 + 2 * total Ps
set_option maxRecDepth 100000 in
set_option maxHeartbeats 2000000 in
theorem refspans_any (n0 : Nat) (ao : Option Addr) (c : Nat) (Ps : List (Nat × DL)) (w : World) (h : Sets n0 w ao Ps) (hd : ∀ q ∈ Ps, InD q.2) (hT : total Ps ≤ 200) (hP : Ps.length ≤ 10) :
    Calls Try.prog 14 #[.slice ao Ps.length c] w (RSpR w Ps) := by
  obtain ⟨i0, hi0, hz0, hz1, hz2⟩ := info_parts info31
  have HZ := Lib.hid (And.intro hi0 (And.intro hz0 (And.intro hz1 hz2)))
  have hE := edges_any n0 ao c Ps w h hd hT hP
  unfold EdR at hE
  have HK := Lib.hid (edges_ok Ps hd)
  have HL := Lib.hid (show (edgesL Ps).length ≤ 1 + 2 * total Ps from by
    have := edgesT_len Ps Ps.length
    unfold edgesT at this
    rwa [List.take_length] at this)
  have H := Lib.hid (And.intro h hd)
  have HT := Lib.hid hT
  obtain ⟨m, hm⟩ : ∃ m, Ps.length = m := ⟨_, rfl⟩
  rw [hm] at hP hE ⊢
  have HM := Lib.hid hm
  have HEE := Lib.hid hE
  generalize edgesL Ps = E at HK HL HEE
  clear h hd hT hm hi0 hz0 hz1 hz2 hE
  go_enter Try.func14, Try.ntmps14
  go_upto_region 3 with (go_at_call 32; refine HEE.out.mono ?_; rintro e w1 ⟨v1, rfl, hv⟩; have HV := Lib.hid hv; clear hv)
  obtain ⟨eo, ec, ev, _⟩ := HV.out
  subst ev
  obtain ⟨n, hn⟩ : ∃ n, E.length = n := ⟨_, rfl⟩
  have hn5 : n ≤ 401 := by have := HL.out; have := HT.out; omega
  have HN5 := Lib.hid hn
  have HB0 : Hid (Below w.heap.size w w1) := Lib.hid (by obtain ⟨_, _, _, _, _, h⟩ := HV.out; exact h)
  rw [hn]
  clear hn
  go_wp2_with fail
  go_loopw [16, 3] (fun u lv wr => ∃ i : Nat, i ≤ n ∧ u = .int .i64 i ∧ Hid (∃ R, SpM Ps E i R ∧ wr.ownsRow w1.heap.size 31 2 lv R.length (fl R) ∧ Below w1.heap.size w1 wr)) (fun u _ _ => n - (intOf u).toNat)
  case atStart => exact ⟨0, by omega, rfl, Lib.hid ⟨[], sp_start HK.out, World.ownsRow_nil _ _ _ _, Below.refl _ _⟩⟩
  case round =>
    obtain ⟨i, hi, rfl, HA⟩ := hrel
    obtain ⟨R, hS, hO, hB⟩ := HA.out
    have HS := Lib.hid hS
    have HO0 := Lib.hid hO
    have HB := Lib.hid hB
    have hrl : R.length ≤ 401 := by have := hS.len; omega
    clear HA hS hO hB
    by_cases hlt : i < n
    · obtain ⟨x, hx⟩ : ∃ x, E[i]? = some x := ⟨_, List.getElem?_eq_getElem (by have := HN5.out; omega)⟩
      have HX := Lib.hid hx
      obtain ⟨x0, x1⟩ := HK.out.good.2 x (List.mem_of_getElem? hx)
      obtain ⟨bn1, bn2⟩ := beta_next HK.out hx
      obtain ⟨tt, hto⟩ : ∃ tt, tt = beta E (i + 1) - 1 := ⟨_, rfl⟩
      have HTO := Lib.hid hto
      have to0 : x ≤ tt := by omega
      have to1 : tt ≤ 4294967295 := by omega
      have hnum := num_at (HV.out.on HB.out) hx
      obtain ⟨eb, eoff, rfl, hxc⟩ := hnum
      have hto2 : (i + 1 < n ∧ wr.cell? ⟨eb, eoff + (i + 1), none⟩ = some (.int .u32 (tt + 1))) ∨ (i + 1 = n ∧ tt = 4294967295) := by
        by_cases h1 : i + 1 < n
        · obtain ⟨y, hy⟩ : ∃ y, E[i + 1]? = some y := ⟨_, List.getElem?_eq_getElem (by have := HN5.out; omega)⟩
          obtain ⟨b2, o2, e2, h2⟩ := num_at (HV.out.on HB.out) hy
          injection e2 with e2
          injection e2 with e3 e4
          subst e3; subst e4
          rw [beta_at hy] at hto
          exact .inl ⟨h1, by rw [h2]; congr 2; omega⟩
        · have e2 : E[i + 1]? = none := List.getElem?_eq_none (by have := HN5.out; omega)
          exact .inr ⟨by omega, by rw [hto, beta, e2]; rfl⟩
      have hw : IntKind.u32.wrap (tt + 1 - 1) = tt := by simp [IntKind.wrap, IntKind.bits, IntKind.signed]; omega
      clear hx hto bn1 bn2
      rcases hto2 with ⟨hi1, hyc⟩ | ⟨hi1, htm⟩
      · have hi1z : (i : Int) + 1 < (n : Int) := by omega
        have HBW := Lib.hid (HB0.out.trans (HB.out.mono HB0.out.size))
        go_wp2_with fail
        go_loopw [34, 8] (fun u b wx => ∃ j : Nat, j ≤ m ∧ u = .int .i64 j ∧ b = .bool (allD (Ps.take j) x) ∧ Hid (Below wr.heap.size wr wx)) (fun u _ _ => m - (intOf u).toNat)
        case atStart => exact ⟨0, by omega, rfl, rfl, Lib.hid (Below.refl _ _)⟩
        case round =>
          obtain ⟨j, hj, rfl, rfl, HJ⟩ := hrel
          by_cases hltj : j < m
          · obtain ⟨q, hq⟩ : ∃ q, Ps[j]? = some q := ⟨_, List.getElem?_eq_getElem (by have := HM.out; omega)⟩
            obtain ⟨⟨ab, aoff, rfl, _, hac⟩, hri⟩ := (H.out.1.on (HBW.out.trans (HJ.out.mono HBW.out.size))) j q hq
            have HA2 := Lib.hid (allD_take Ps j q x hq)
            have HQ := Lib.hid hri
            have HQL := Lib.hid (total_le hq HT.out)
            clear hq hri
            cases hb : allD (Ps.take j) x
            · rw [hb] at HA2
              clear hb
              go_wp2_with fail
              go_roundw
              case measure => simp [intOf]; omega
              case rel =>
                first
                  | exact ⟨j + 1, by omega, rfl, by simp only [HA2.out, Bool.false_and], HJ⟩
                  | (repeat apply Exists.intro
                     refine ⟨⟨j + 1, by omega, rfl, by simp only [HA2.out, Bool.false_and], HJ⟩, ?_⟩
                     repeat' (first | rfl | refine ⟨rfl, ?_⟩))
            · rw [hb] at HA2
              clear hb
              go_wp2_with (go_at_call 22; refine (refis_has x HQ.out (by have := HQL.out; omega)).mono ?_; rintro e w5 ⟨rfl, hb5⟩; have HB5 := Lib.hid (HJ.out.trans (hb5.mono HJ.out.size)); clear hb5)
              go_roundw
              case measure => simp [intOf]; omega
              case rel =>
                first
                  | exact ⟨j + 1, by omega, rfl, by simp only [HA2.out, Bool.true_and], HB5⟩
                  | (repeat apply Exists.intro
                     refine ⟨⟨j + 1, by omega, rfl, (by rw [HA2.out, Bool.true_and]), HB5⟩, ?_⟩
                     exact rfl)
          · obtain rfl : j = m := by omega
            have hall0 : allD (Ps.take j) x = allD Ps x := by rw [List.take_of_length_le (by rw [HM.out]; exact Nat.le_refl _)]
            rw [hall0]
            clear hall0
            have hO1 := own_onG HO0.out (fun g e => HJ.out.block g (World.ownsRow.lt HO0.out g e).2)
            have hB1 := HB.out.trans (HJ.out.mono HB.out.size)
            have HO1 := Lib.hid hO1
            have HB1 := Lib.hid hB1
            have HO := Lib.hid (World.ownsRow.alloc hO1 (.cells #[.int .u32 x, .int .u32 tt] 31))
            have HB2 := Lib.hid (hB1.alloc hB1.size (.cells #[.int .u32 x, .int .u32 tt] 31))
            have HN := Lib.hid (news31 wr x tt)
            obtain ⟨lo, lc, elv, _, _⟩ := rd_own hO1
            subst elv
            cases hall : allD Ps x
            · have HALL := Lib.hid hall
              clear hall hO1 hB1
              go_wp2_with fail
              go_roundw
              case measure => simp [intOf]; omega
              case rel => exact ⟨i + 1, by omega, rfl, Lib.hid ⟨R, sp_skip HK.out HS.out HX.out HALL.out, HO1.out, HB1.out⟩⟩
            · have HALL := Lib.hid hall
              clear hall
              rcases Nat.eq_zero_or_pos R.length with hr0 | hrp
              · have hR0 : R = [] := List.eq_nil_of_length_eq_zero hr0
                have SM := Lib.hid (sp_more HK.out HS.out HX.out HALL.out (fun t ht => by rw [hR0] at ht; cases ht))
                have hr1 : ¬ (0 : Int) < (R.length : Int) := by omega
                clear hR0 hO1 hB1 hr0
                go_wp2_with (at_builtin; refine wpList_append_lies _ rfl (.tmp 47) (.tmp 51) 39 rfl w1.heap.size 31 i0 _ 2 8 Try.underlying39 HZ.out.1 HZ.out.2.1 HZ.out.2.2.1 HZ.out.2.2.2 rfl (by decide) _ R.length (fl R) rfl HO.out ⟨wr.heap.size, 0, none⟩ 1 1 (fl [(x, tt)]) rfl (by rw [fl_len]; rfl) HN.out (fl_one _) (by decide) (by unfold maxLen; omega) (by omega) HB2.out.size _ rfl ?_; intro g3 c3 w3 hown3 hgrow3 _ _; have H3 := Lib.hid (And.intro hown3 (doneN HO.out hgrow3 HB2.out)); clear hown3 hgrow3)
                go_roundw
                case measure => simp [intOf]; omega
                case rel =>
                  refine ⟨i + 1, by omega, rfl, Lib.hid ⟨R ++ [(x, tt)], (by have h := SM.out; rw [← HTO.out] at h; exact h), ?_, H3.out.2⟩⟩
                  rw [fl_app, List.length_append]
                  exact H3.out.1
              · obtain ⟨Q, c0, d0, hRQ⟩ : ∃ Q c0 d0, R = Q ++ [(c0, d0)] := ⟨R.dropLast, (R.getLast (by intro h; rw [h] at hrp; simp at hrp)).1, (R.getLast (by intro h; rw [h] at hrp; simp at hrp)).2, (List.dropLast_concat_getLast _).symm⟩
                obtain ⟨k, hk⟩ : ∃ k, Q.length = k := ⟨_, rfl⟩
                have hRl : R.length = k + 1 := by rw [hRQ, List.length_append, hk]; rfl
                have rk : (R.length : Int) - 1 = (k : Int) := by omega
                have rk2 : IntKind.i64.wrap (k : Int) = (k : Int) := by simp [IntKind.wrap, IntKind.bits, IntKind.signed]; omega
                have rk3 : (0 : Int) < (R.length : Int) := by omega
                have rk4 : k < R.length := by omega
                have dlt : d0 < x := by
                  have := HS.out.hi (c0, d0) (by rw [hRQ]; simp)
                  rw [beta_at HX.out] at this
                  exact this
                have dc := HS.out.can
                rw [hRQ] at dc
                obtain ⟨_, dc2, dc3⟩ := (canon_app _ _).1 dc
                have d00 := dc2.2 (c0, d0) (by simp)
                simp only at d00
                obtain ⟨g, glo⟩ : ∃ g, lo = some ⟨g, 0, none⟩ := by
                  rcases hO1.2 with ⟨_, h1⟩ | ⟨g, cap, cur, h1, _⟩
                  · omega
                  · simp only [Value.slice.injEq] at h1
                    exact ⟨g, h1.1⟩
                subst glo
                have hO2 := hO1
                rw [hRl, hRQ, ← hk] at hO2
                have hO3 := own_last tt hO2
                rw [hk] at hO3
                obtain ⟨hO4, hf, hce⟩ := hO3
                have xw : IntKind.u32.wrap (x - 1) = x - 1 := by simp [IntKind.wrap, IntKind.bits, IntKind.signed]; omega
                have xp : (0 : Int) < x := by omega
                by_cases hdx : d0 = x - 1
                · have hsm := sp_join HK.out (by rw [← hdx, ← hRQ]; exact HS.out) HX.out HALL.out
                  have SM := Lib.hid hsm
                  have HO4 := Lib.hid (show (wr.setCell ⟨g, k * 2 + 1, none⟩ (.int .u32 tt)).ownsRow w1.heap.size 31 2 (.slice (some ⟨g, 0, none⟩) R.length lc) (Q ++ [(c0, tt)]).length (fl (Q ++ [(c0, tt)])) by
                    have e1 : (Q ++ [(c0, tt)]).length = k + 1 := by rw [List.length_append, hk]; rfl
                    rw [e1, hRl]
                    exact hO4)
                  have HGB := Lib.hid (show w1.heap.size ≤ g from (World.ownsRow.lt hO1 g rfl).1)
                  have de : (d0 == x - 1) = true := by simpa using hdx
                  clear hRQ hO1 hB1 hO2 hO4 dc dc2 dc3 hdx hsm hRl hk
                  go_wp2_with fail
                  go_roundw
                  case measure => simp [intOf]; omega
                  case rel => exact ⟨i + 1, by omega, rfl, Lib.hid ⟨Q ++ [(c0, tt)], (by have h := SM.out; rw [← HTO.out] at h; exact h), HO4.out, below_set HB1.out HGB.out⟩⟩
                · have SM := Lib.hid (sp_more HK.out HS.out HX.out HALL.out (fun t ht => by
                    rw [hRQ] at ht
                    rcases List.mem_append.1 ht with ht | ht
                    · have := dc3 t ht (c0, d0) (by simp)
                      omega
                    · rw [List.mem_singleton] at ht
                      subst ht
                      simp only
                      omega))
                  have de : (d0 == x - 1) = false := by simpa using hdx
                  clear hRQ hO1 hB1 hO2 hO4 dc dc2 dc3 hdx hRl hk
                  go_wp2_with (at_builtin; refine wpList_append_lies _ rfl (.tmp 47) (.tmp 51) 39 rfl w1.heap.size 31 i0 _ 2 8 Try.underlying39 HZ.out.1 HZ.out.2.1 HZ.out.2.2.1 HZ.out.2.2.2 rfl (by decide) _ R.length (fl R) rfl HO.out ⟨wr.heap.size, 0, none⟩ 1 1 (fl [(x, tt)]) rfl (by rw [fl_len]; rfl) HN.out (fl_one _) (by decide) (by unfold maxLen; omega) (by omega) HB2.out.size _ rfl ?_; intro g3 c3 w3 hown3 hgrow3 _ _; have H3 := Lib.hid (And.intro hown3 (doneN HO.out hgrow3 HB2.out)); clear hown3 hgrow3)
                  go_roundw
                  case measure => simp [intOf]; omega
                  case rel =>
                    refine ⟨i + 1, by omega, rfl, Lib.hid ⟨R ++ [(x, tt)], (by have h := SM.out; rw [← HTO.out] at h; exact h), ?_, H3.out.2⟩⟩
                    rw [fl_app, List.length_append]
                    exact H3.out.1
      · subst htm
        have hi1z : ¬ ((i : Int) + 1 < (n : Int)) := by omega
        have HBW := Lib.hid (HB0.out.trans (HB.out.mono HB0.out.size))
        go_wp2_with fail
        go_loopw [34, 8] (fun u b wx => ∃ j : Nat, j ≤ m ∧ u = .int .i64 j ∧ b = .bool (allD (Ps.take j) x) ∧ Hid (Below wr.heap.size wr wx)) (fun u _ _ => m - (intOf u).toNat)
        case atStart => exact ⟨0, by omega, rfl, rfl, Lib.hid (Below.refl _ _)⟩
        case round =>
          obtain ⟨j, hj, rfl, rfl, HJ⟩ := hrel
          by_cases hltj : j < m
          · obtain ⟨q, hq⟩ : ∃ q, Ps[j]? = some q := ⟨_, List.getElem?_eq_getElem (by have := HM.out; omega)⟩
            obtain ⟨⟨ab, aoff, rfl, _, hac⟩, hri⟩ := (H.out.1.on (HBW.out.trans (HJ.out.mono HBW.out.size))) j q hq
            have HA2 := Lib.hid (allD_take Ps j q x hq)
            have HQ := Lib.hid hri
            have HQL := Lib.hid (total_le hq HT.out)
            clear hq hri
            cases hb : allD (Ps.take j) x
            · rw [hb] at HA2
              clear hb
              go_wp2_with fail
              go_roundw
              case measure => simp [intOf]; omega
              case rel =>
                first
                  | exact ⟨j + 1, by omega, rfl, by simp only [HA2.out, Bool.false_and], HJ⟩
                  | (repeat apply Exists.intro
                     refine ⟨⟨j + 1, by omega, rfl, by simp only [HA2.out, Bool.false_and], HJ⟩, ?_⟩
                     repeat' (first | rfl | refine ⟨rfl, ?_⟩))
            · rw [hb] at HA2
              clear hb
              go_wp2_with (go_at_call 22; refine (refis_has x HQ.out (by have := HQL.out; omega)).mono ?_; rintro e w5 ⟨rfl, hb5⟩; have HB5 := Lib.hid (HJ.out.trans (hb5.mono HJ.out.size)); clear hb5)
              go_roundw
              case measure => simp [intOf]; omega
              case rel =>
                first
                  | exact ⟨j + 1, by omega, rfl, by simp only [HA2.out, Bool.true_and], HB5⟩
                  | (repeat apply Exists.intro
                     refine ⟨⟨j + 1, by omega, rfl, (by rw [HA2.out, Bool.true_and]), HB5⟩, ?_⟩
                     exact rfl)
          · obtain rfl : j = m := by omega
            have hall0 : allD (Ps.take j) x = allD Ps x := by rw [List.take_of_length_le (by rw [HM.out]; exact Nat.le_refl _)]
            rw [hall0]
            clear hall0
            have hO1 := own_onG HO0.out (fun g e => HJ.out.block g (World.ownsRow.lt HO0.out g e).2)
            have hB1 := HB.out.trans (HJ.out.mono HB.out.size)
            have HO1 := Lib.hid hO1
            have HB1 := Lib.hid hB1
            have HO := Lib.hid (World.ownsRow.alloc hO1 (.cells #[.int .u32 x, .int .u32 4294967295] 31))
            have HB2 := Lib.hid (hB1.alloc hB1.size (.cells #[.int .u32 x, .int .u32 4294967295] 31))
            have HN := Lib.hid (news31 wr x 4294967295)
            obtain ⟨lo, lc, elv, _, _⟩ := rd_own hO1
            subst elv
            cases hall : allD Ps x
            · have HALL := Lib.hid hall
              clear hall hO1 hB1
              go_wp2_with fail
              go_roundw
              case measure => simp [intOf]; omega
              case rel => exact ⟨i + 1, by omega, rfl, Lib.hid ⟨R, sp_skip HK.out HS.out HX.out HALL.out, HO1.out, HB1.out⟩⟩
            · have HALL := Lib.hid hall
              clear hall
              rcases Nat.eq_zero_or_pos R.length with hr0 | hrp
              · have hR0 : R = [] := List.eq_nil_of_length_eq_zero hr0
                have SM := Lib.hid (sp_more HK.out HS.out HX.out HALL.out (fun t ht => by rw [hR0] at ht; cases ht))
                have hr1 : ¬ (0 : Int) < (R.length : Int) := by omega
                clear hR0 hO1 hB1 hr0
                go_wp2_with (at_builtin; refine wpList_append_lies _ rfl (.tmp 47) (.tmp 51) 39 rfl w1.heap.size 31 i0 _ 2 8 Try.underlying39 HZ.out.1 HZ.out.2.1 HZ.out.2.2.1 HZ.out.2.2.2 rfl (by decide) _ R.length (fl R) rfl HO.out ⟨wr.heap.size, 0, none⟩ 1 1 (fl [(x, 4294967295)]) rfl (by rw [fl_len]; rfl) HN.out (fl_one _) (by decide) (by unfold maxLen; omega) (by omega) HB2.out.size _ rfl ?_; intro g3 c3 w3 hown3 hgrow3 _ _; have H3 := Lib.hid (And.intro hown3 (doneN HO.out hgrow3 HB2.out)); clear hown3 hgrow3)
                go_roundw
                case measure => simp [intOf]; omega
                case rel =>
                  refine ⟨i + 1, by omega, rfl, Lib.hid ⟨R ++ [(x, 4294967295)], (by have h := SM.out; rw [← HTO.out] at h; exact h), ?_, H3.out.2⟩⟩
                  rw [fl_app, List.length_append]
                  exact H3.out.1
              · obtain ⟨Q, c0, d0, hRQ⟩ : ∃ Q c0 d0, R = Q ++ [(c0, d0)] := ⟨R.dropLast, (R.getLast (by intro h; rw [h] at hrp; simp at hrp)).1, (R.getLast (by intro h; rw [h] at hrp; simp at hrp)).2, (List.dropLast_concat_getLast _).symm⟩
                obtain ⟨k, hk⟩ : ∃ k, Q.length = k := ⟨_, rfl⟩
                have hRl : R.length = k + 1 := by rw [hRQ, List.length_append, hk]; rfl
                have rk : (R.length : Int) - 1 = (k : Int) := by omega
                have rk2 : IntKind.i64.wrap (k : Int) = (k : Int) := by simp [IntKind.wrap, IntKind.bits, IntKind.signed]; omega
                have rk3 : (0 : Int) < (R.length : Int) := by omega
                have rk4 : k < R.length := by omega
                have dlt : d0 < x := by
                  have := HS.out.hi (c0, d0) (by rw [hRQ]; simp)
                  rw [beta_at HX.out] at this
                  exact this
                have dc := HS.out.can
                rw [hRQ] at dc
                obtain ⟨_, dc2, dc3⟩ := (canon_app _ _).1 dc
                have d00 := dc2.2 (c0, d0) (by simp)
                simp only at d00
                obtain ⟨g, glo⟩ : ∃ g, lo = some ⟨g, 0, none⟩ := by
                  rcases hO1.2 with ⟨_, h1⟩ | ⟨g, cap, cur, h1, _⟩
                  · omega
                  · simp only [Value.slice.injEq] at h1
                    exact ⟨g, h1.1⟩
                subst glo
                have hO2 := hO1
                rw [hRl, hRQ, ← hk] at hO2
                have hO3 := own_last 4294967295 hO2
                rw [hk] at hO3
                obtain ⟨hO4, hf, hce⟩ := hO3
                have xw : IntKind.u32.wrap (x - 1) = x - 1 := by simp [IntKind.wrap, IntKind.bits, IntKind.signed]; omega
                have xp : (0 : Int) < x := by omega
                by_cases hdx : d0 = x - 1
                · have hsm := sp_join HK.out (by rw [← hdx, ← hRQ]; exact HS.out) HX.out HALL.out
                  have SM := Lib.hid hsm
                  have HO4 := Lib.hid (show (wr.setCell ⟨g, k * 2 + 1, none⟩ (.int .u32 4294967295)).ownsRow w1.heap.size 31 2 (.slice (some ⟨g, 0, none⟩) R.length lc) (Q ++ [(c0, 4294967295)]).length (fl (Q ++ [(c0, 4294967295)])) by
                    have e1 : (Q ++ [(c0, 4294967295)]).length = k + 1 := by rw [List.length_append, hk]; rfl
                    rw [e1, hRl]
                    exact hO4)
                  have HGB := Lib.hid (show w1.heap.size ≤ g from (World.ownsRow.lt hO1 g rfl).1)
                  have de : (d0 == x - 1) = true := by simpa using hdx
                  clear hRQ hO1 hB1 hO2 hO4 dc dc2 dc3 hdx hsm hRl hk
                  go_wp2_with fail
                  go_roundw
                  case measure => simp [intOf]; omega
                  case rel => exact ⟨i + 1, by omega, rfl, Lib.hid ⟨Q ++ [(c0, 4294967295)], (by have h := SM.out; rw [← HTO.out] at h; exact h), HO4.out, below_set HB1.out HGB.out⟩⟩
                · have SM := Lib.hid (sp_more HK.out HS.out HX.out HALL.out (fun t ht => by
                    rw [hRQ] at ht
                    rcases List.mem_append.1 ht with ht | ht
                    · have := dc3 t ht (c0, d0) (by simp)
                      omega
                    · rw [List.mem_singleton] at ht
                      subst ht
                      simp only
                      omega))
                  have de : (d0 == x - 1) = false := by simpa using hdx
                  clear hRQ hO1 hB1 hO2 hO4 dc dc2 dc3 hdx hRl hk
                  go_wp2_with (at_builtin; refine wpList_append_lies _ rfl (.tmp 47) (.tmp 51) 39 rfl w1.heap.size 31 i0 _ 2 8 Try.underlying39 HZ.out.1 HZ.out.2.1 HZ.out.2.2.1 HZ.out.2.2.2 rfl (by decide) _ R.length (fl R) rfl HO.out ⟨wr.heap.size, 0, none⟩ 1 1 (fl [(x, 4294967295)]) rfl (by rw [fl_len]; rfl) HN.out (fl_one _) (by decide) (by unfold maxLen; omega) (by omega) HB2.out.size _ rfl ?_; intro g3 c3 w3 hown3 hgrow3 _ _; have H3 := Lib.hid (And.intro hown3 (doneN HO.out hgrow3 HB2.out)); clear hown3 hgrow3)
                  go_roundw
                  case measure => simp [intOf]; omega
                  case rel =>
                    refine ⟨i + 1, by omega, rfl, Lib.hid ⟨R ++ [(x, 4294967295)], (by have h := SM.out; rw [← HTO.out] at h; exact h), ?_, H3.out.2⟩⟩
                    rw [fl_app, List.length_append]
                    exact H3.out.1
    · obtain rfl : i = n := by omega
      have hb : beta E i = 4294967296 := by unfold beta; rw [List.getElem?_eq_none (by rw [HN5.out]; exact Nat.le_refl _)]; rfl
      have HBE := Lib.hid hb
      have HIN := Lib.hid (show i ≤ 1 + 2 * total Ps by rw [← HN5.out]; exact HL.out)
      clear hb
      obtain ⟨lo, lc, elv, _, _⟩ := rd_own HO0.out
      subst elv
      go_wp2_with fail
      go_ret
      refine ⟨R, _, rfl, own_base HO0.out HB0.out.size, HB0.out.trans (HB.out.mono HB0.out.size), HS.out.can, fun n h0 h1 => HS.out.mem n h0 (by rw [HBE.out]; omega), Nat.le_trans HS.out.len HIN.out⟩
end Go.Proofs.Ytgbhdccadelcfaa.Sp
