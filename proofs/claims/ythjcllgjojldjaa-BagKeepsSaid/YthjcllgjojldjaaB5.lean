/- bag: BagKeeps, walked. -/
import Derived.Test.YthjcllgjojldjaaB4
namespace Go.Proofs.Ythjcllgjojldjaa.Bg
open Go Go.RowKit
theorem slice_to {g n c k : Nat} (hk : k ≤ n) (hn : n ≤ c) : ∀ w, (Instr.slice 27 (.slice (some ⟨g, 0, none⟩) n c) none (some (.int .i64 k)) none).run Try.prog w = .ok (.slice (some ⟨g, 0, none⟩) k c) w := fun w => by
  have h1 : k ≤ c := by omega
  simp [Instr.slice, Instr.sliceBounds, Instr.sliceBound, asIntOf, go_sem, h1]
theorem slice_from {g n c q r : Nat} (hq : q + 1 + r = n) (hn : n ≤ c) : ∃ ad c2, (∀ w, (Instr.slice 27 (.slice (some ⟨g, 0, none⟩) n c) (some (.int .i64 ((q : Int) + 1))) none none).run Try.prog w = .ok (.slice (some ad) r c2) w) ∧ (r ≠ 0 → ad = ⟨g, q + 1, none⟩) := by
  have h2 : n - (q + 1) = r := by omega
  have h3 : ((q : Int) + 1).toNat = q + 1 := by omega
  have h4 : ¬ ((q : Int) + 1 < 0) := by omega
  have h5 : q + 1 ≤ n := by omega
  have h6 : ¬ ((n : Int) < (q : Int) + 1) := by omega
  have h7 : (q : Int) + 1 ≤ (n : Int) := by omega
  have h8 : 0 ≤ (q : Int) + 1 := by omega
  by_cases h : c = q + 1
  · refine ⟨⟨g, 0, none⟩, 0, fun w => ?_, fun hr => by omega⟩
    subst h
    simp [Instr.slice, Instr.sliceBounds, Instr.sliceBound, asIntOf, go_sem, h2, h3, h7, h8]
  · refine ⟨⟨g, q + 1, none⟩, c - (q + 1), fun w => ?_, fun _ => rfl⟩
    simp [Instr.slice, Instr.sliceBounds, Instr.sliceBound, asIntOf, go_sem, h2, h3, h7, h8, h, Addr.add]
theorem step_append_own {P : Program} (w : World) {ops : Array Oper} {o : Oper} {a : Act} {K : Act → World → Prop} {Q : Exit → Act → World → Prop} {E : Prop} (hgd : o.guard = none) (s x : Operand) (t : TypeId)
    (ho : o.op = .call { callee := .builtin .append, args := #[s, x], argTypes := #[t, t] })
    (base : Nat) (e : TypeId) (i : TypeInfo) (z : Value) (size bytes : Nat) (ht : P.underlying t = some (.slice e)) (hi : P.info? e = some i) (hz : i.zero = some z)
    (hsize : i.size = size) (hby : i.bytes = bytes) (hzs : z.cells.size = size) (hsz : 0 < size)
    (v : Value) (n : Nat) (xs : List Value) (hs : a.eval s = v) (hown : w.ownsRow base e size v n xs)
    (ad : Addr) (m c : Nat) (news : List Value) (hx : a.eval x = .slice (some ad) m c) (hl : news.length = m * size) (hnews : ∀ j u, news[j]? = some u → w.cell? (ad.add j) = some u) (h1 : ∀ u ∈ news, u.oneCell' = true)
    (h63 : n + m ≤ maxLen) (hbytes : (n + m) * bytes ≤ 140737488355328) (hbase : base ≤ w.heap.size)
    (h : ∀ v' w', w'.ownsRow base e size v' (n + m) (xs ++ news) → w.grownBy w' v.ownBlock → K (a.put o.dst v') w') :
    if Region.wanted o (yielded ops a.tmps) = true then Oper.wp P o a w K Q else E := by
  have hw : Region.wanted o (yielded ops a.tmps) = true := by simp [Region.wanted, hgd]
  rw [if_pos hw]
  exact wp_append_own w s x t ho base e i z size bytes ht hi hz hsize hby hzs hsz v n xs hs hown ad m c news hx hl hnews h1 h63 hbytes hbase (fun v' w' a b _ => h v' w' a b)
theorem WR.one {w : World} {vs : List Value} {K : List (List Int)} (h : WR w vs K) : ∀ u ∈ vs, u.oneCell' = true := by
  intro u hu
  obtain ⟨k, hk⟩ := List.getElem?_of_mem hu
  have hlt := (List.getElem?_eq_some_iff.1 hk).1
  obtain ⟨bo, c, h1, _⟩ := h.2 k _ (List.getElem?_eq_getElem (by have := h.1; omega))
  rw [hk] at h1
  injection h1 with h1
  rw [h1]
  rfl
theorem rest_at {α : Type} {L : List α} {j k : Nat} (hj : j < L.length) : (L.take j ++ L.drop (j + 1))[k]? = if k < j then L[k]? else L[k + 1]? := by
  by_cases h : k < j
  · rw [if_pos h, List.getElem?_append_left (by simp; omega), List.getElem?_take, if_pos h]
  · rw [if_neg h, List.getElem?_append_right (by simp; omega), List.getElem?_drop]
    congr 1
    simp
    omega
theorem WR.rest {w : World} {vs : List Value} {K : List (List Int)} (h : WR w vs K) {j : Nat} (hj : j < K.length) : WR w (vs.take j ++ vs.drop (j + 1)) (restL K j) := by
  refine ⟨by have := h.1; simp [restL]; omega, fun k l hk => ?_⟩
  unfold restL at hk
  rw [rest_at hj] at hk
  rw [rest_at (by have := h.1; omega)]
  split at hk
  · rename_i hlt
    rw [if_pos hlt]
    exact h.2 k l hk
  · rename_i hlt
    rw [if_neg hlt]
    exact h.2 (k + 1) l hk
/-- The law's row is another one. -/
theorem Sw.renew {w0 w w' : World} {p : Nat} {L : List (List Int)} {v v' : Value} {vs vs' : List Value} (h : Sw w0 p L v vs w) (hb : Below w.heap.size w w') (hr : w'.ownsRow w.heap.size 30 1 v' vs'.length vs') : Sw w0 p L v' vs' w' := by
  obtain ⟨X, h1, h2, h3, h4⟩ := h.bag
  refine ⟨h.below.trans (hb.mono h.below.size), ⟨X, h1, h2, h3.below hb, fun g hg hk => ?_⟩, base_less hr h.below.size⟩
  have := (World.ownsRow.lt hr g hg).1
  have := h3.lt hk
  omega
theorem row_news {w w1 : World} {B g n cap : Nat} {vs : List Value} (h : w.ownsRow B 30 1 (.slice (some ⟨g, 0, none⟩) n cap) n vs) (hb : Below w.heap.size w w1) (ad : Addr) (q : Nat) (hq : q < n → ad = ⟨g, q, none⟩) (m : Nat) : ∀ j u, ((vs.drop q).take m)[j]? = some u → w1.cell? (ad.add j) = some u := by
  intro j u hu
  rw [List.getElem?_take] at hu
  split at hu
  · rw [List.getElem?_drop] at hu
    have hlt := (List.getElem?_eq_some_iff.1 hu).1
    have hvl : vs.length = n := by have := h.1; omega
    obtain ⟨g', cap', hv, _, hg, _, _, hc⟩ := row_at h hu
    simp only [Value.slice.injEq, Option.some.injEq, Addr.mk.injEq, and_true] at hv
    obtain ⟨rfl, -⟩ := hv
    rw [hq (by omega), Go.WideShapes.add_plain]
    exact (hb.cell (p := ⟨g, q + j, none⟩) hg).trans hc
  · cases hu
set_option maxRecDepth 100000 in
set_option maxHeartbeats 4000000 in
theorem keeps_any (v0 : Value) (L : List (List Int)) (to' : Option Addr) (nt ct : Nat) (tl : List Int) (w : World) (h : RdRow w v0 L) (htl : tl.length = nt) (htr : Rd w to' tl) (htm : nt ≤ maxLen) (htb : ∀ x ∈ tl, 0 ≤ x ∧ x ≤ 255) : Calls Try.prog 5 #[v0, .slice to' nt ct] w fun e w' => e = .returned (.bool true) ∧ Below w.heap.size w w' := by
  obtain ⟨so, cap0, rfl, hn, hx⟩ := h
  have HX := Lib.hid hx
  have HTK := Lib.hid (And.intro htl (And.intro htr htb))
  have HA := Lib.hid (awake_any w)
  obtain ⟨i0, hi0, hz0, hz1, hz2⟩ := info_parts info30
  have HI := Lib.hid (And.intro hi0 (And.intro hz0 (And.intro hz1 hz2)))
  clear hi0 hz0 hz1 hz2 hx htl htr htb
  generalize hnn : L.length = n at *
  have HN := Lib.hid hnn
  clear hnn
  have hn' : (n : Int) ≤ 9223372036854775807 := by unfold maxLen at hn; omega
  have hnt' : (nt : Int) ≤ 9223372036854775807 := by unfold maxLen at htm; omega
  go_enter Try.func5, Try.ntmps5
  go_wp2_with fail
  refine HA.out.mono ?_
  rintro e w1 ⟨rfl, hb1⟩
  have HB1 := Lib.hid hb1
  clear hb1
  go_wp2_with fail
  refine (st_new w1).mono ?_
  rintro e w2 ⟨rfl, H2⟩
  have HS2 := Lib.hid H2
  clear H2
  go_wp2_with fail
  generalize hp : w1.heap.size = p at *
  go_loopw [6, 19] (fun o x wr => ∃ (i k cap : Nat) (ao : Option Addr), x = .int .i64 i ∧ o = .slice ao k cap ∧ i ≤ n ∧ k ≤ i ∧ k ≤ 40 ∧ Hid (∃ vs K, K.length = k ∧ WR w vs K ∧ Sw w1 p K (.slice ao k cap) vs wr)) (fun _ x _ => n + 1 - (intOf x).toNat)
  case atStart => exact ⟨0, 0, 0, none, rfl, rfl, Nat.zero_le _, Nat.le_refl _, Nat.zero_le _, Lib.hid ⟨[], [], rfl, WR.nil w, Sw.first HS2.out⟩⟩
  case round =>
    obtain ⟨i, k, cap, ao, rfl, rfl, hi, hki, hk60, HS⟩ := hrel
    by_cases hin : i < n
    · obtain ⟨l, hl⟩ : ∃ l, L[i]? = some l := ⟨_, List.getElem?_eq_getElem (by have := HN.out; omega)⟩
      obtain ⟨vs, K, hKk, hWR, hSw⟩ := HS.out
      have hbw : Below w.heap.size w wr := HB1.out.trans (hSw.below.mono HB1.out.size)
      obtain ⟨a, bo, c, rfl, a1, a2, a3, a4⟩ := HX.out i l hl
      have a2 := (hbw.cell (p := a.add i) (by rw [add_block]; exact a1)).trans a2
      have hi1 : i + 1 ≤ n := hin
      have HW := Lib.hid (And.intro hKk (And.intro hWR (And.intro hSw (And.intro hbw (And.intro a3 a4)))))
      clear hKk hWR hSw hbw a3 a4 hl a1
      obtain ⟨m, hm⟩ : ∃ m, l.length = m := ⟨_, rfl⟩
      rw [hm] at a2
      have HM := Lib.hid hm
      clear hm
      by_cases h60 : i < 40
      · have h60' : (i : Int) < 40 := by omega
        by_cases h0 : m = 0
        · subst h0
          go_wp2_with fail
          go_roundw
          case rel => exact ⟨i + 1, k, cap, ao, by go_num, rfl, hi1, by omega, hk60, HS⟩
          case measure => simp [intOf] <;> omega
        · have h0' : (0 : Int) < (m : Int) := by omega
          have h0'' : ((m : Int) == 0) = false := beq_eq_false_iff_ne.2 (by omega)
          by_cases h1000 : m < 1000
          · have h1' : (m : Int) < 1000 := by omega
            obtain ⟨ab, rfl, _⟩ := HW.out.2.2.2.2.1.here (by intro e; have := HM.out; subst e; simp at this; omega)
            have hk59 : k < 40 := by omega
            go_wp2_with fail
            refine (twin_any ab m c l _ (by omega) HM.out (by omega) (HW.out.2.2.2.2.1.on HW.out.2.2.2.1 (Nat.le_refl _))).mono ?_
            rintro e w3 ⟨g3, c3, rfl, ⟨ho3, hr3⟩, hb3⟩
            rw [HM.out]
            have HS3 := Lib.hid (HW.out.2.2.1.on hb3)
            have HR3 := Lib.hid hr3
            clear ho3 hr3 hb3
            go_wp2_with fail
            refine (sw_put HS3.out (by have := HW.out.1; omega) ⟨g3, 0, none⟩ m c3 l HM.out HR3.out (by omega) (by omega)).mono ?_
            rintro e w4 ⟨rfl, H4⟩
            have HS4 := Lib.hid H4
            have hvl : vs.length = k := by rw [HW.out.2.1.1, HW.out.1]
            have hO4 := Lib.hid (show (w4.alloc (.cells #[.slice (some ab) m c] 30)).ownsRow w1.heap.size 30 1 (.slice ao k cap) k vs from by have := H4.row.alloc (.cells #[.slice (some ab) m c] 30); rwa [hvl] at this)
            have z4 := H4.below.size
            have HVL := Lib.hid hvl
            clear H4 hvl
            go_wp2_with (at_builtin; refine wpList_append_lies _ rfl (.tmp 41) (.tmp 43) 27 rfl w1.heap.size 30 i0 _ 1 24 Try.underlying27 HI.out.1 HI.out.2.1 HI.out.2.2.1 HI.out.2.2.2 rfl (by decide) (.slice ao k cap) k vs rfl hO4.out ⟨w4.heap.size, 0, none⟩ 1 1 [.slice (some ab) m c] rfl rfl (news_one w4 _ 30) (one_sl _ _ _) (by decide) (by unfold maxLen; omega) (by omega) (by simp; omega) (w4.heap.size + 1) (by simp) ?_; intro g5 c5 w5 hown5 hgrow5 hgn5 _; have HO5 := Lib.hid (And.intro hown5 (And.intro hgrow5 hgn5)); clear hown5 hgrow5 hgn5)
            go_roundw
            case rel =>
              have hWR5 : WR w (vs ++ [.slice (some ab) m c]) (K ++ [l]) := by
                have := HW.out.2.1.push HW.out.2.2.2.2.1 HW.out.2.2.2.2.2 (c := c)
                rwa [HM.out] at this
              have hl5 : (vs ++ [Value.slice (some ab) m c]).length = k + 1 := by rw [List.length_append, HVL.out]; rfl
              exact ⟨i + 1, k + 1, c5, _, by go_num, rfl, hi1, by omega, by omega, Lib.hid ⟨_, _, by rw [List.length_append, HW.out.1]; rfl, hWR5, HS4.out.own ((Below.refl _ w4).alloc (Nat.le_refl _) _) (by rw [hl5]; exact HO5.out.1) HO5.out.2.1 (fun g hg => by
                simp [Value.ownBlock] at hg
                subst hg
                exact HO5.out.2.2.imp id (fun e => by omega))⟩⟩
            case measure => simp [intOf] <;> omega
          · have h1' : ¬ (m : Int) < 1000 := by omega
            go_wp2_with fail
            go_roundw
            case rel => exact ⟨i + 1, k, cap, _, by go_num, rfl, hi1, by omega, hk60, HS⟩
            case measure => simp [intOf] <;> omega
      · have h60' : ¬ (i : Int) < 40 := by omega
        go_wp2_with fail
        go_roundw
        case rel => exact ⟨i + 1, k, cap, _, by go_num, rfl, hi1, by omega, hk60, HS⟩
        case measure => simp [intOf] <;> omega
    · have hiE : n = i := by omega
      subst hiE
      clear hin hi
      go_wp2_with fail
      go_loopw [6, 48] (fun o x wr => ∃ (i k cap : Nat) (ao : Option Addr), x = .int .i64 i ∧ o = .slice ao k cap ∧ i ≤ nt ∧ k ≤ 40 ∧ Hid (∃ vs K, K.length = k ∧ WR w vs K ∧ Sw w1 p K (.slice ao k cap) vs wr)) (fun _ x _ => nt + 1 - (intOf x).toNat)
      case atStart => exact ⟨0, k, cap, ao, rfl, rfl, Nat.zero_le _, hk60, HS⟩
      case round =>
        clear HS hki hk60
        obtain ⟨i, k, cap, ao, rfl, rfl, hi, hk60, HS⟩ := hrel
        obtain ⟨vs, K, hKk, hWR, hSw⟩ := HS.out
        have HWR := Lib.hid hWR
        have HKK := Lib.hid hKk
        have HT := Lib.hid hSw
        clear hKk hWR hSw HS
        have hk40 : (k : Int) ≤ 40 := by omega
        by_cases hin : i < nt
        · obtain ⟨a, rfl, a1, a2⟩ := HTK.out.2.1.here (by intro e; have := HTK.out.1; subst e; simp at this; omega)
          have hlt : i < tl.length := by have := HTK.out.1; omega
          have a2 := ((HB1.out.trans (HT.out.below.mono HB1.out.size)).cell (p := a.add i) (by rw [add_block]; exact a1)).trans (a2 i hlt)
          have hx := HTK.out.2.2 (tl.getD i 0) (by rw [List.getD_eq_getElem?_getD, List.getElem?_eq_getElem hlt]; exact List.getElem_mem hlt)
          obtain ⟨x, hxx⟩ : ∃ x : Nat, tl.getD i 0 = x := ⟨(tl.getD i 0).toNat, by omega⟩
          rw [hxx] at a2 hx
          have hx2 : x ≤ 255 := by omega
          have hi1 : i + 1 ≤ nt := hin
          clear a1 hx hxx hlt
          by_cases h40 : i < 40
          · have h40' : ¬ (40 : Int) ≤ (i : Int) := by omega
            by_cases hk0 : k = 0
            · subst hk0
              go_wp2_with fail
              refine (sw_all HT.out).mono ?_
              rintro e w5 ⟨u, rfl, h5, H5⟩
              have hbw : Below w.heap.size w w5 := HB1.out.trans (H5.below.mono HB1.out.size)
              have HQ := Lib.hid (sameL_any u _ K K w5 h5 (HWR.out.rd H5.row rfl hbw (by have := HWR.out.1; have := HKK.out; unfold maxLen; omega)))
              rw [decide_eq_true rfl] at HQ
              have HT := Lib.hid H5
              clear h5 H5 hbw
              go_wp2_with fail
              refine HQ.out.mono ?_
              rintro e w6 ⟨rfl, hb6⟩
              have HT := Lib.hid (HT.out.on hb6)
              clear hb6
              have n1 := st_len HT.out.st
              rw [HKK.out] at n1
              go_wp2_with fail
              refine n1.mono ?_
              rintro e w7 ⟨rfl, rfl⟩
              go_wp2_with fail
              go_ret
              exact ⟨rfl, HB1.out.trans (HT.out.below.mono HB1.out.size)⟩
            · have hk0' : ((k : Int) == 0) = false := beq_eq_false_iff_ne.2 (by omega)
              have hk0'' : ¬ (k : Int) = 0 := by omega
              obtain ⟨j, hj⟩ : ∃ j, x % k = j := ⟨_, rfl⟩
              have hjk : j < k := by rw [← hj]; exact Nat.mod_lt _ (by omega)
              have hm1 : Int.tmod (x : Int) (k : Int) = (j : Int) := by rw [← hj, Int.ofNat_tmod]
              have hm2 : (x : Int) % (k : Int) = (j : Int) := by rw [← hj, Int.natCast_emod]
              clear hj
              obtain ⟨l, hl⟩ : ∃ l, K[j]? = some l := ⟨_, List.getElem?_eq_getElem (by have := HKK.out; omega)⟩
              have HL := Lib.hid hl
              clear hl
              go_wp2_with fail
              refine (sw_take HT.out j l HL.out).mono ?_
              rintro e w3 ⟨⟨g3, c3, rfl, hr3, hl3⟩, H3⟩
              have H3' := Lib.hid H3
              obtain ⟨bo, cb, q1, q2, q3⟩ := HWR.out.2 j l HL.out
              obtain ⟨g6, cap6, hv6, _, _, hnc6, hcm6, hc6⟩ := row_at H3.row q1
              simp only [Value.slice.injEq] at hv6
              obtain ⟨rfl, -, rfl⟩ := hv6
              have hbw3 : Below w.heap.size w w3 := HB1.out.trans (H3.below.mono HB1.out.size)
              have HQ := Lib.hid (same_any (some ⟨g3, 0, none⟩) bo c3 cb l l w3 q3 hr3 (q2.on hbw3 (Nat.le_refl _)))
              rw [decide_eq_true rfl] at HQ
              have hvl : vs.length = k := by rw [HWR.out.1, HKK.out]
              rw [hvl] at hnc6
              have HVL := Lib.hid hvl
              clear hvl hr3 H3 q1 q2 q3 hbw3 hm1
              obtain ⟨y, hy⟩ : ∃ y, l.length = y := ⟨_, rfl⟩
              rw [hy] at hc6 HQ hl3 ⊢
              clear hy
              go_wp2_with fail
              refine HQ.out.mono ?_
              rintro e w5 ⟨rfl, hb5⟩
              have H5 := Lib.hid (H3'.out.on hb5)
              clear hb5 HQ
              obtain ⟨r6, hr6⟩ : ∃ r6, j + 1 + r6 = k := ⟨k - (j + 1), by omega⟩
              have hsl1 := slice_to (g := g6) (n := k) (c := cap) (k := j) (by omega) hnc6
              obtain ⟨ad2, c2, hsl2, had2⟩ := slice_from (g := g6) (n := k) (c := cap) (q := j) (r := r6) hr6 hnc6
              have HB6 := Lib.hid (show w5.ownsRow w1.heap.size 30 1 (.slice (some ⟨g6, 0, none⟩) k cap) k vs from by have := H5.out.row; rwa [HVL.out] at this)
              have HR := Lib.hid (And.intro had2 (And.intro hr6 hk60))
              have HL1 := Lib.hid (show ((vs.drop 0).take j).length = j * 1 by simp; have := HVL.out; omega)
              have HL2 := Lib.hid (show ((vs.drop (j + 1)).take r6).length = r6 * 1 by simp; have := HVL.out; omega)
              have HO1 := Lib.hid (HWR.out.one)
              have hbl : Below w5.heap.size w5 ((w5.alloc (.cells #[] 30)).drew) := ((Below.refl _ w5).alloc (Nat.le_refl _) _).drew
              have HLit : Hid ((w5.alloc (.cells #[] 30)).drew.ownsRow w5.heap.size 30 1 (.slice (some ⟨w5.heap.size, 0, none⟩) 0 0) 0 [] ∧ Below w5.heap.size w5 (w5.alloc (.cells #[] 30)).drew) := Lib.hid ⟨World.ownsRow_lit (base := w5.heap.size) (e := 30) (size := 1) w5 #[] 0 (Nat.le_refl _) (Nat.zero_le _) (by simp), hbl⟩
              have e1 : IntKind.i64.wrap ((j : Int) + 1) = (j : Int) + 1 := by simp [IntKind.wrap, IntKind.bits, IntKind.signed]; omega
              have hj40 : j < 40 := by omega
              have hr40 : r6 ≤ 40 := by omega
              clear had2 hr6 hbl
              go_upto_region 21 with fail
              go_region_held3 (fun _ => True) (exact trivial) (first
                | (have hh := G1; clear hh; refine step_append_own _ rfl (.tmp 86) (.tmp 90) 27 rfl w5.heap.size 30 i0 _ 1 24 Try.underlying27 HI.out.1 HI.out.2.1 HI.out.2.2.1 HI.out.2.2.2 rfl (by decide) v1 (0 + j) _ rfl G1.out.1 ad2 r6 c2 ((vs.drop (j + 1)).take r6) rfl HL2.out (row_news HB6.out G1.out.2 ad2 (j + 1) (fun hlt => HR.out.1 (by have := HR.out.2.1; omega)) r6) (fun u hu => HO1.out u (List.mem_of_mem_drop (List.mem_of_mem_take hu))) (by unfold maxLen; omega) (by omega) G1.out.2.size ?_; intro v2 w8 hown hgrow; have G2 := Lib.hid (show w8.ownsRow w5.heap.size 30 1 v2 (0 + j + r6) (([] ++ (vs.drop 0).take j) ++ (vs.drop (j + 1)).take r6) ∧ Below w5.heap.size w5 w8 from ⟨hown, G1.out.2.grown hgrow G1.out.2.size (fun g e => (World.ownsRow.lt G1.out.1 g e).1)⟩); clear hown hgrow)
                | (refine step_append_own _ rfl (.tmp 82) (.tmp 85) 27 rfl w5.heap.size 30 i0 _ 1 24 Try.underlying27 HI.out.1 HI.out.2.1 HI.out.2.2.1 HI.out.2.2.2 rfl (by decide) (.slice (some ⟨w5.heap.size, 0, none⟩) 0 0) 0 [] rfl HLit.out.1 ⟨g6, 0, none⟩ j cap ((vs.drop 0).take j) rfl HL1.out (row_news HB6.out HLit.out.2 ⟨g6, 0, none⟩ 0 (fun _ => rfl) j) (fun u hu => HO1.out u (List.mem_of_mem_drop (List.mem_of_mem_take hu))) (by unfold maxLen; omega) (by omega) HLit.out.2.size ?_; intro v1 w7 hown hgrow; have G1 := Lib.hid (show w7.ownsRow w5.heap.size 30 1 v1 (0 + j) ([] ++ (vs.drop 0).take j) ∧ Below w5.heap.size w5 w7 from ⟨hown, HLit.out.2.grown hgrow HLit.out.2.size (fun g e => (World.ownsRow.lt HLit.out.1 g e).1)⟩); clear hown hgrow))
              all_goals
                have hvs : ([] ++ (vs.drop 0).take j) ++ (vs.drop (j + 1)).take r6 = vs.take j ++ vs.drop (j + 1) := by
                  rw [List.nil_append, List.drop_zero, List.take_of_length_le (l := vs.drop (j + 1)) (by simp; have := HVL.out; have := HR.out.2.1; omega)]
                have hlen : (vs.take j ++ vs.drop (j + 1)).length = 0 + j + r6 := by simp; have := HVL.out; have := HR.out.2.1; omega
                have hG := G2.out.1
                rw [hvs, ← hlen] at hG
                have hS2 := H5.out.renew G2.out.2 hG
                rw [hlen] at hG
                obtain ⟨ao9, cap9, rfl, _, _⟩ := row_form hG
                have HS2 := Lib.hid hS2
                have HLn := Lib.hid hlen
                clear hG hS2 hvs hlen
                obtain ⟨k9, hk9⟩ : ∃ k9, 0 + j + r6 = k9 := ⟨_, rfl⟩
                rw [hk9] at HS2 HLn ⊢
                have hk9' : k9 ≤ 40 := by have := HR.out.2.1; omega
                go_wp2_with fail
                go_roundw
                case rel => exact ⟨i + 1, k9, cap9, ao9, by go_num, rfl, hi1, hk9', Lib.hid ⟨_, _, by have := (HWR.out.rest (j := j) (by have := HKK.out; omega)).1; rw [HLn.out] at this; exact this.symm, HWR.out.rest (by have := HKK.out; omega), HS2.out⟩⟩
                case measure => simp [intOf] <;> omega
          · have h40' : (40 : Int) ≤ (i : Int) := by omega
            go_wp2_with fail
            refine (sw_all HT.out).mono ?_
            rintro e w5 ⟨u, rfl, h5, H5⟩
            have hbw : Below w.heap.size w w5 := HB1.out.trans (H5.below.mono HB1.out.size)
            have HQ := Lib.hid (sameL_any u _ K K w5 h5 (HWR.out.rd H5.row rfl hbw (by have := HWR.out.1; have := HKK.out; unfold maxLen; omega)))
            rw [decide_eq_true rfl] at HQ
            have HT := Lib.hid H5
            clear h5 H5 hbw
            go_wp2_with fail
            refine HQ.out.mono ?_
            rintro e w6 ⟨rfl, hb6⟩
            have HT := Lib.hid (HT.out.on hb6)
            clear hb6
            have n1 := st_len HT.out.st
            rw [HKK.out] at n1
            go_wp2_with fail
            refine n1.mono ?_
            rintro e w7 ⟨rfl, rfl⟩
            go_wp2_with fail
            go_ret
            exact ⟨rfl, HB1.out.trans (HT.out.below.mono HB1.out.size)⟩
        · have hiE : nt = i := by omega
          subst hiE
          clear hin hi
          go_wp2_with fail
          refine (sw_all HT.out).mono ?_
          rintro e w5 ⟨u, rfl, h5, H5⟩
          have hbw : Below w.heap.size w w5 := HB1.out.trans (H5.below.mono HB1.out.size)
          have HQ := Lib.hid (sameL_any u _ K K w5 h5 (HWR.out.rd H5.row rfl hbw (by have := HWR.out.1; have := HKK.out; unfold maxLen; omega)))
          rw [decide_eq_true rfl] at HQ
          have HT := Lib.hid H5
          clear h5 H5 hbw
          go_wp2_with fail
          refine HQ.out.mono ?_
          rintro e w6 ⟨rfl, hb6⟩
          have HT := Lib.hid (HT.out.on hb6)
          clear hb6
          have n1 := st_len HT.out.st
          rw [HKK.out] at n1
          go_wp2_with fail
          refine n1.mono ?_
          rintro e w7 ⟨rfl, rfl⟩
          go_wp2_with fail
          go_ret
          exact ⟨rfl, HB1.out.trans (HT.out.below.mono HB1.out.size)⟩
end Go.Proofs.Ythjcllgjojldjaa.Bg
