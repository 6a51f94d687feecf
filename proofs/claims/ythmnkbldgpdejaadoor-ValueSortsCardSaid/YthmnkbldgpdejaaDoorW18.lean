/- The walk of ValueSorts: the list gone through. -/
import Derived.Test.YthmnkbldgpdejaaDoorW6
import Derived.Test.YthmnkbldgpdejaaDoorSort
import Derived.Deep.RegionHeld3
import Derived.Deep.AppendLies
import Derived.IntWalk
namespace Go.Proofs.YthmnkbldgpdejaaDoor.Val
open Go Go.RowKit
theorem info23 : (Tryd.prog.info? 23).map (fun i => (i.zero, i.size, i.bytes)) = some (some (.agg #[.int .u8 0, .int .i64 0, .string ⟨#[]⟩]), 3, 32) := by kernel_rfl
/-- The collected row: at most forty values, each in form, in a row of the call's own. -/
def Row (B : Nat) (v : Value) (w : World) : Prop := ∃ L : List Tri, L.length ≤ 40 ∧ Fine L ∧ w.ownsRow B 23 3 v L.length (flat L)
theorem grown_of_below {a w : World} (h : Below a.heap.size a w) : a.grownBy w none := ⟨h.os, h.tape, h.output, h.size, fun i hi _ => h.block i hi⟩
theorem own_or (v : Value) : v.ownBlock = none ∨ v.ownBlock ≠ none := by
  cases v.ownBlock
  · exact .inl rfl
  · exact .inr (by simp)
theorem new3 (t : Tri) (w : World) (T : TypeId) : ∀ j u, ([.int .u8 t.k, .int .i64 t.n, .string t.s] : List Value)[j]? = some u → (w.alloc (.cells #[.int .u8 t.k, .int .i64 t.n, .string t.s] T)).cell? ((⟨w.heap.size, 0, none⟩ : Addr).add j) = some u := by
  intro j u h
  match j, h with
  | 0, h => simp at h; subst h; simp [Addr.add, go_sem]
  | 1, h => simp at h; subst h; simp [Addr.add, go_sem]
  | 2, h => simp at h; subst h; simp [Addr.add, go_sem]
  | j + 3, h => simp at h
theorem one3 (t : Tri) : ∀ u ∈ ([.int .u8 t.k, .int .i64 t.n, .string t.s] : List Value), u.oneCell' = true := by
  intro u hu
  simp at hu
  rcases hu with rfl | rfl | rfl <;> rfl
theorem tless_calls (A E : Tri) (h : Hid (tless A E = false)) (sA : A.s.size ≤ maxLen) (sE : E.s.size ≤ maxLen) (w : World) :
    Calls Tryd.prog 17 #[.agg #[.int .u8 A.k, .int .i64 A.n, .string A.s], .agg #[.int .u8 E.k, .int .i64 E.n, .string E.s]] w fun e w' => e = .returned (.bool false) ∧ Below w.heap.size w w' :=
  less_ok _ _ _ _ _ _ w sA sE false h
theorem tcmp_calls (A E : Tri) (r : Int) (hr : Hid (tcmp A E = r)) (fA : A.form ∧ A.s.size ≤ maxLen) (fB : E.form ∧ E.s.size ≤ maxLen) (w : World) :
    Calls Tryd.prog 8 #[.agg #[.int .u8 A.k, .int .i64 A.n, .string A.s], .agg #[.int .u8 E.k, .int .i64 E.n, .string E.s]] w fun e w' => e = .returned (.tuple #[.int .i64 r, .int .i64 0]) ∧ Below w.heap.size w w' := by
  rw [← hr.out]
  exact cmp_form _ _ _ _ _ _ w fA.2 fB.2 (Lib.hid fA.1) (Lib.hid fB.1)
/-- Two neighbours changed about: the row is the row with the two changed about. -/
theorem own_swp {w : World} {B g N : Nat} {c : Nat} {K : List Tri} {q : Nat} (h : w.ownsRow B 23 3 (.slice (some ⟨g, 0, none⟩) N c) N (flat K)) (hq : 1 ≤ q) (hl : q < K.length) (hN : K.length = N) :
    ((((((w.setCell ⟨g, (q - 1) * 3, none⟩ (.int .u8 (K.getD q t0).k)).setCell ⟨g, (q - 1) * 3 + 1, none⟩ (.int .i64 (K.getD q t0).n)).setCell ⟨g, (q - 1) * 3 + 2, none⟩ (.string (K.getD q t0).s)).setCell ⟨g, q * 3, none⟩ (.int .u8 (K.getD (q - 1) t0).k)).setCell ⟨g, q * 3 + 1, none⟩ (.int .i64 (K.getD (q - 1) t0).n)).setCell ⟨g, q * 3 + 2, none⟩ (.string (K.getD (q - 1) t0).s)).ownsRow B 23 3 (.slice (some ⟨g, 0, none⟩) N c) N (flat (swp q K)) := by
  have e : flat (swp q K) = (((((((flat K).set ((q - 1) * 3) (.int .u8 (K.getD q t0).k)).set ((q - 1) * 3 + 1) (.int .i64 (K.getD q t0).n)).set ((q - 1) * 3 + 2) (.string (K.getD q t0).s)).set (q * 3) (.int .u8 (K.getD (q - 1) t0).k)).set (q * 3 + 1) (.int .i64 (K.getD (q - 1) t0).n)).set (q * 3 + 2) (.string (K.getD (q - 1) t0).s)) := by
    unfold swp
    rw [← flat_set (K.set (q - 1) (K.getD q t0)) q _ (by rw [List.length_set]; exact hl), ← flat_set K (q - 1) _ (by omega)]
  rw [e]
  exact ((((((h.stored _ _).1.stored _ _).1.stored _ _).1.stored _ _).1.stored _ _).1.stored _ _).1
set_option maxRecDepth 100000 in
set_option maxHeartbeats 1500000 in
theorem sorts_try (b off len cap : Nat) (D : Nat → Tri) (w : World) (hb : b < w.heap.size) (hlen : len ≤ maxLen)
    (hc : ∀ i, i < len → w.cell? ⟨b, off + i * 3, none⟩ = some (.int .u8 (D i).k) ∧ w.cell? ⟨b, off + i * 3 + 1, none⟩ = some (.int .i64 (D i).n) ∧ w.cell? ⟨b, off + i * 3 + 2, none⟩ = some (.string (D i).s) ∧ (D i).s.size ≤ maxLen) (htab : Pow w) :
    Calls Tryd.prog 7 #[.slice (some ⟨b, off, none⟩) len cap] w fun e w' => e = .returned (.bool true) ∧ Below w.heap.size w w' := by
  obtain ⟨i0, hi, hz0, hz1, hz2⟩ := info_parts info23
  unfold maxLen at hlen
  have HC := Lib.hid hc
  clear hc
  go_enter Tryd.func7, Tryd.ntmps7
  go_wp2_with fail
  refine (awake_any _ htab).mono ?_
  rintro e w1 ⟨rfl, hB1⟩
  go_wp2_with fail
  go_loopw [3, 15] (fun v i wr => ∃ (j : Nat) (L : List Tri), j ≤ len ∧ i = .int .i64 j ∧ L.length ≤ 40 ∧ Fine L ∧ wr.ownsRow w.heap.size 23 3 v L.length (flat L) ∧ Below w.heap.size w wr) (fun _ i _ => len - (intOf i).toNat)
  case atStart => exact ⟨0, [], Nat.zero_le _, rfl, by simp, fine_nil, World.ownsRow_nil _ _ _ _, hB1⟩
  case round =>
    obtain ⟨j, L, hj, rfl, h40, hF, hown, hB⟩ := hrel
    by_cases hlt : j < len
    · obtain ⟨c0, c1, c2, hs⟩ := HC.out j hlt
      have d0 := (hB.cell (p := ⟨b, off + j * 3, none⟩) hb).trans c0
      have d1 := (hB.cell (p := ⟨b, off + j * 3 + 1, none⟩) hb).trans c1
      have d2 := (hB.cell (p := ⟨b, off + j * 3 + 2, none⟩) hb).trans c2
      clear c0 c1 c2
      generalize D j = t at *
      obtain ⟨a, c, hv⟩ : ∃ a c, u3 = .slice a L.length c := by
        rcases hown.2 with ⟨h, k⟩ | ⟨g, c, cur, h, _⟩
        · exact ⟨none, 0, by rw [h, k]⟩
        · exact ⟨_, _, h⟩
      subst hv
      have Hown := Lib.hid hown
      have HF := Lib.hid hF
      clear hown hF
      by_cases h : L.length < 40
      · cases hf : formB t.k t.n t.s.data.toList
        · have Hf := Lib.hid hf
          clear hf
          go_wp2_with fail
          refine (form_ok _ _ _ _ hs _ Hf).mono ?_
          rintro e w2 ⟨rfl, hb2⟩
          obtain ⟨hc2, hf2⟩ := bcell hb2
          have z2 := hb2.size
          simp only [World.size_alloc] at z2
          have y2 : wr.heap.size < w2.heap.size := by omega
          have hB2 : Below w.heap.size w w2 := (hB.alloc hB.size _).trans (hb2.mono (by have := hB.size; simp; omega))
          have hg2 := grown_of_below hb2
          clear hb2
          go_wp2_with fail
          go_roundw
          case rel => exact ⟨j + 1, L, by omega, by go_num, h40, HF.out, (Hown.out.alloc _).kept hg2 (own_or _), hB2⟩
          case measure => simp [intOf]; omega
        · have Hf := Lib.hid hf
          clear hf
          go_wp2_with fail
          refine (form_ok _ _ _ _ hs _ Hf).mono ?_
          rintro e w2 ⟨rfl, hb2⟩
          obtain ⟨hc2, hf2⟩ := bcell hb2
          have z2 := hb2.size
          simp only [World.size_alloc] at z2
          have y2 : wr.heap.size < w2.heap.size := by omega
          have hB2 : Below w.heap.size w w2 := (hB.alloc hB.size _).trans (hb2.mono (by have := hB.size; simp; omega))
          have hg2 := grown_of_below hb2
          clear hb2
          have hown2 := Lib.hid (((Hown.out.alloc (.cells #[.int .u8 t.k, .int .i64 t.n, .string t.s] 23)).kept hg2 (own_or _)).alloc (.cells #[.int .u8 t.k, .int .i64 t.n, .string t.s] 23))
          have hBz := hB2.size
          have hfin := Lib.hid (fine_snoc HF.out Hf.out hs)
          go_wp2_with (at_builtin; refine wpList_append_own _ rfl (.tmp 26) (.tmp 28) 45 rfl w.heap.size 23 i0 _ 3 32 Tryd.underlying45 hi hz0 hz1 hz2 rfl (by decide) _ L.length (flat L) rfl hown2.out ⟨w2.heap.size, 0, none⟩ 1 1 [.int .u8 t.k, .int .i64 t.n, .string t.s] rfl rfl (new3 t _ _) (one3 t) (by unfold maxLen; omega) (by omega) (by simp; omega) ?_; intro v3 w3 hown3 hgrow3 _)
          have hB3 : Below w.heap.size w w3 := (hB2.alloc hB2.size _).grown hgrow3 (by simp; omega) (fun k hk => (hown2.out.lt k hk).1)
          clear hgrow3 hown2
          go_roundw
          case rel => exact ⟨j + 1, L ++ [t], by omega, by go_num, by simp; omega, hfin.out, by rw [flat_app, List.length_append]; exact hown3, hB3⟩
          case measure => simp [intOf]; omega
      · go_wp2_with fail
        go_roundw
        case rel => exact ⟨j + 1, L, by omega, by go_num, h40, HF.out, Hown.out.alloc _, hB.alloc hB.size _⟩
        case measure => simp [intOf]; omega
    · obtain rfl : j = len := by omega
      clear HC hj hlt
      obtain ⟨a, c, hv⟩ : ∃ a c, u3 = .slice a L.length c := by
        rcases hown.2 with ⟨h, k⟩ | ⟨g, c, cur, h, _⟩
        · exact ⟨none, 0, by rw [h, k]⟩
        · exact ⟨_, _, h⟩
      subst hv
      obtain ⟨N, hN⟩ : ∃ N, N = L.length := ⟨_, rfl⟩
      rw [← hN] at hown h40 ⊢
      have HN := Lib.hid hN.symm
      have HO := Lib.hid hown
      have HF := Lib.hid hF
      clear hN hown hF
      go_wp2_with fail
      go_loopw [33] (fun i wq => ∃ (p : Nat) (M : List Tri), p ≤ N ∧ i = .int .i64 p ∧ Hid (M.length = N) ∧ Hid (Fine M) ∧ Hid (Srt p M) ∧ Hid (wq.ownsRow w.heap.size 23 3 (.slice a N c) N (flat M)) ∧ Below w.heap.size w wq) (fun i _ => N - (intOf i).toNat)
      case atStart => exact ⟨0, L, Nat.zero_le _, rfl, HN, HF, Lib.hid (srt_zero L), HO, hB⟩
      case round =>
        clear HN HO HF hB
        obtain ⟨p, M, hp, rfl, HM, HF, HS, HO, hB⟩ := hrel
        by_cases hpn : p < N
        · obtain ⟨g, rfl, hg⟩ : ∃ g, a = some ⟨g, 0, none⟩ ∧ w.heap.size ≤ g := by
            rcases HO.out.2 with ⟨h, k⟩ | ⟨g, c', cur, h, hg, _⟩
            · omega
            · injection h with h1 h2 h3
              exact ⟨g, h1, hg⟩
          go_wp2_with fail
          obtain ⟨wo, hwo⟩ : ∃ wo, wo = wr := ⟨_, rfl⟩
          have HO0 : Hid (wo.ownsRow w.heap.size 23 3 (.slice (some ⟨g, 0, none⟩) N c) N (flat M)) := by rw [hwo]; exact HO
          clear hwo
          go_loopw [7] (fun jv wq => ∃ (q : Nat) (K : List Tri), q ≤ p ∧ jv = .int .i64 q ∧ Hid (K.length = N) ∧ Hid (Fine K) ∧ Hid (SrtEx q p K) ∧ Hid (wq.ownsRow w.heap.size 23 3 (.slice (some ⟨g, 0, none⟩) N c) N (flat K)) ∧ Below w.heap.size w wq) (fun jv _ => (intOf jv).toNat)
          case atStart => exact ⟨p, M, Nat.le_refl _, rfl, HM, HF, Lib.hid (srt_start HS.out), HO, hB⟩
          case round =>
            clear HM HF HS HO hB HO0
            obtain ⟨q, K, hq, rfl, HM, HF, HS, HO, hB⟩ := hrel
            by_cases hq0 : 1 ≤ q
            · have hBz := hB.size
              have hat1 := flat_at K (q - 1) (by rw [HM.out]; omega)
              have hat2 := flat_at K q (by rw [HM.out]; omega)
              have a0 := (HO.out.cellAt ((q - 1) * 3) (by omega)).trans hat1.1
              have a1 := (HO.out.cellAt ((q - 1) * 3 + 1) (by omega)).trans hat1.2.1
              have a2 := (HO.out.cellAt ((q - 1) * 3 + 2) (by omega)).trans hat1.2.2
              have b0 := (HO.out.cellAt (q * 3) (by omega)).trans hat2.1
              have b1 := (HO.out.cellAt (q * 3 + 1) (by omega)).trans hat2.2.1
              have b2 := (HO.out.cellAt (q * 3 + 2) (by omega)).trans hat2.2.2
              have fA := HF.out (q - 1) (by rw [HM.out]; omega)
              have fB := HF.out q (by rw [HM.out]; omega)
              clear hat1 hat2
              obtain ⟨A, hA⟩ : ∃ A, A = K.getD (q - 1) t0 := ⟨_, rfl⟩
              obtain ⟨E, hE⟩ : ∃ E, E = K.getD q t0 := ⟨_, rfl⟩
              rw [← hA] at a0 a1 a2 fA
              rw [← hE] at b0 b1 b2 fB
              have HA := Lib.hid hA
              have HE := Lib.hid hE
              clear hA hE
              go_wp2_with fail
              have hgl : g < wr.heap.size := by
                obtain ⟨_, _, e, _, h⟩ := HO.out.form (by omega)
                injection e with e1 e2 e3
                injection e1 with e1
                injection e1 with e1
                omega
              obtain ⟨r, hr⟩ : ∃ r, tcmp A E = r := ⟨_, rfl⟩
              have Hr := Lib.hid hr
              clear hr
              have i1 : (0 : Int) ≤ (q : Int) - 1 := by omega
              have i2 : (q : Int) - 1 < (N : Int) := by omega
              have i3 : (0 : Int) ≤ (q : Int) := by omega
              have i4 : (q : Int) < (N : Int) := by omega
              have i5 : IntKind.i64.wrap ((q : Int) - 1) = (q : Int) - 1 := IntWalk.i64_in _ (by omega)
              have i6 : ((q : Int) - 1).toNat = q - 1 := by omega
              have i7 : (1 : Int) ≤ (q : Int) := by omega
              have i8 : 0 < q := by omega
              go_region_held3 (fun w' => w'.cell? ⟨g, (q - 1) * 3, none⟩ = some (.int .u8 A.k) ∧ w'.cell? ⟨g, (q - 1) * 3 + 1, none⟩ = some (.int .i64 A.n) ∧ w'.cell? ⟨g, (q - 1) * 3 + 2, none⟩ = some (.string A.s) ∧ w'.cell? ⟨g, q * 3, none⟩ = some (.int .u8 E.k) ∧ w'.cell? ⟨g, q * 3 + 1, none⟩ = some (.int .i64 E.n) ∧ w'.cell? ⟨g, q * 3 + 2, none⟩ = some (.string E.s)) (first | exact ⟨a0, a1, a2, b0, b1, b2⟩ | exact ⟨(hbb.cell hgl).trans a0, (hbb.cell hgl).trans a1, (hbb.cell hgl).trans a2, (hbb.cell hgl).trans b0, (hbb.cell hgl).trans b1, (hbb.cell hgl).trans b2⟩) (first | (go_at_call 8; refine (tcmp_calls A E r Hr fA fB _).mono ?_; rintro e w' ⟨rfl, hbb⟩))
              have hB2 : Below w.heap.size w w' := hB.drew.trans (hbb.mono hB.size)
              have HO2 : Hid (w'.ownsRow w.heap.size 23 3 (.slice (some ⟨g, 0, none⟩) N c) N (flat K)) := Lib.hid (HO.out.drew.kept (grown_of_below hbb) (own_or _))
              clear hbb a0 a1 a2 b0 b1 b2 HO hB
              rename_i hcells
              obtain ⟨a0, a1, a2, b0, b1, b2⟩ := hcells
              by_cases hr0 : r ≤ 0
              · go_wp2_with fail
                go_roundw
                case rel => exact ⟨p + 1, K, by omega, by go_num, HM, HF, Lib.hid (srt_end HS.out hq0 (by rw [← HA.out, ← HE.out, Hr.out]; exact hr0)), HO2, hB2⟩
                case measure => simp [intOf]; omega
              · have hdec : decide (r ≤ 0) = false := decide_eq_false hr0
                have g0 := HO2.out.frozenAt ((q - 1) * 3)
                have g1 := HO2.out.frozenAt ((q - 1) * 3 + 1)
                have g2 := HO2.out.frozenAt ((q - 1) * 3 + 2)
                have g3 := HO2.out.frozenAt (q * 3)
                have g4 := HO2.out.frozenAt (q * 3 + 1)
                have g5 := HO2.out.frozenAt (q * 3 + 2)
                go_wp2_with fail
                go_region
                go_wp2_with fail
                go_roundw
                case rel =>
                  refine ⟨q - 1, swp q K, by omega, by go_num, Lib.hid ((swp_len q K).trans HM.out), Lib.hid (fine_swp HF.out hq0 (by rw [HM.out]; omega)), Lib.hid (srt_swp HS.out hq0 hq (by rw [HM.out]; omega) (by rw [← HA.out, ← HE.out, Hr.out]; omega)), ?_, ?_⟩
                  · have h3 := (own_swp HO2.out hq0 (by rw [HM.out]; omega) HM.out).drew
                    rw [← HA.out, ← HE.out] at h3
                    exact Lib.hid h3
                  · exact ((((((hB2.setCell hg _).setCell hg _).setCell hg _).setCell hg _).setCell hg _).setCell hg _).drew
                case measure => simp [intOf]; omega
            · obtain rfl : q = 0 := by omega
              go_wp2_with fail
              go_roundw
              case rel => exact ⟨p + 1, K, by omega, by go_num, HM, HF, Lib.hid (srt_end0 HS.out), HO, hB⟩
              case measure => simp [intOf]; omega
        · obtain rfl : p = N := by omega
          clear hpn
          go_wp2_with fail
          obtain ⟨wo, hwo⟩ : ∃ wo, wo = wr := ⟨_, rfl⟩
          clear hwo
          go_loopw [10] (fun iv wq => ∃ q : Nat, 1 ≤ q ∧ q ≤ p + 1 ∧ iv = .int .i64 q ∧ Hid (wq.ownsRow w.heap.size 23 3 (.slice a p c) p (flat M)) ∧ Below w.heap.size w wq) (fun iv _ => p + 1 - (intOf iv).toNat)
          case atStart => exact ⟨1, Nat.le_refl _, by omega, rfl, HO, hB⟩
          case round =>
            clear HO hB
            obtain ⟨q, hq0, hq, rfl, HO, hB⟩ := hrel
            by_cases hqN : q < p
            · obtain ⟨g, rfl, hg, hgl⟩ : ∃ g, a = some ⟨g, 0, none⟩ ∧ w.heap.size ≤ g ∧ g < wr.heap.size := by
                obtain ⟨g, cap', e, h1, h2⟩ := World.ownsRow.form HO.out (by omega)
                injection e with e1 e2 e3
                exact ⟨g, e1, h1, h2⟩
              have hat1 := flat_at M (q - 1) (by rw [HM.out]; omega)
              have hat2 := flat_at M q (by rw [HM.out]; omega)
              have a0 := (HO.out.cellAt ((q - 1) * 3) (by omega)).trans hat1.1
              have a1 := (HO.out.cellAt ((q - 1) * 3 + 1) (by omega)).trans hat1.2.1
              have a2 := (HO.out.cellAt ((q - 1) * 3 + 2) (by omega)).trans hat1.2.2
              have b0 := (HO.out.cellAt (q * 3) (by omega)).trans hat2.1
              have b1 := (HO.out.cellAt (q * 3 + 1) (by omega)).trans hat2.2.1
              have b2 := (HO.out.cellAt (q * 3 + 2) (by omega)).trans hat2.2.2
              have fA := HF.out (q - 1) (by rw [HM.out]; omega)
              have fB := HF.out q (by rw [HM.out]; omega)
              have hle := HS.out (q - 1) q (by omega) hqN
              clear hat1 hat2
              generalize M.getD (q - 1) t0 = A at a0 a1 a2 fA hle
              generalize M.getD q t0 = E at b0 b1 b2 fB hle
              have Hl := Lib.hid (tless_not fA.1 fB.1 hle)
              clear hle
              go_wp2_with fail
              have i1 : (0 : Int) ≤ (q : Int) - 1 := by omega
              have i2 : (q : Int) - 1 < (p : Int) := by omega
              have i3 : (0 : Int) ≤ (q : Int) := by omega
              have i4 : (q : Int) < (p : Int) := by omega
              have i5 : IntKind.i64.wrap ((q : Int) - 1) = (q : Int) - 1 := IntWalk.i64_in _ (by omega)
              have i6 : ((q : Int) - 1).toNat = q - 1 := by omega
              have i7 : (1 : Int) ≤ (q : Int) := by omega
              have i8 : 0 < q := by omega
              go_region_held3 (fun w' => w'.cell? ⟨g, (q - 1) * 3, none⟩ = some (.int .u8 A.k) ∧ w'.cell? ⟨g, (q - 1) * 3 + 1, none⟩ = some (.int .i64 A.n) ∧ w'.cell? ⟨g, (q - 1) * 3 + 2, none⟩ = some (.string A.s) ∧ w'.cell? ⟨g, q * 3, none⟩ = some (.int .u8 E.k) ∧ w'.cell? ⟨g, q * 3 + 1, none⟩ = some (.int .i64 E.n) ∧ w'.cell? ⟨g, q * 3 + 2, none⟩ = some (.string E.s)) (first | exact ⟨a0, a1, a2, b0, b1, b2⟩ | exact ⟨(hbb.cell hgl).trans a0, (hbb.cell hgl).trans a1, (hbb.cell hgl).trans a2, (hbb.cell hgl).trans b0, (hbb.cell hgl).trans b1, (hbb.cell hgl).trans b2⟩) (first | (go_at_call 17; refine (tless_calls E A Hl fB.2 fA.2 _).mono ?_; rintro e w' ⟨rfl, hbb⟩))
              have hB2 : Below w.heap.size w w' := hB.drew.trans (hbb.mono hB.size)
              have HO2 : Hid (w'.ownsRow w.heap.size 23 3 (.slice (some ⟨g, 0, none⟩) p c) p (flat M)) := Lib.hid (HO.out.drew.kept (grown_of_below hbb) (own_or _))
              clear hbb a0 a1 a2 b0 b1 b2 HO hB
              go_wp2_with fail
              go_roundw
              case rel => exact ⟨q + 1, by omega, by omega, by go_num, HO2, hB2⟩
              case measure => simp [intOf]; omega
            · go_wp2_with fail
              go_ret
              exact ⟨rfl, hB⟩
end Go.Proofs.YthmnkbldgpdejaaDoor.Val
