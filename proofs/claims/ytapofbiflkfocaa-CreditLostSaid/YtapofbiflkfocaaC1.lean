/- credit: the law on a message that is lost, walked. -/
import Derived.Test.YtapofbiflkfocaaB9
namespace Go.Proofs.Ytapofbiflkfocaa.Cr
open Go Go.RowKit
theorem lit_row {w w0 : World} (hb : Below w0.heap.size w0 w) (x : Ms) : (w.alloc (.cells #[.int .u64 x.1, .int .u64 x.2.1, .int .i64 x.2.2] 34)).ownsRow w0.heap.size 34 3 (.slice (some ⟨w.heap.size, 0, none⟩) 1 1) 1 (ms [x]) :=
  World.ownsRow_lit (base := w0.heap.size) (e := 34) (size := 3) w #[.int .u64 x.1, .int .u64 x.2.1, .int .i64 x.2.2] 1 hb.size (by decide) (by simp)
/-- At the head of a round. -/
structure LosI (w0 : World) (p a k : Nat) (L : List Ms) (v : Value) (nx : Nat) (D : Int → Bool) (o t : Int) (gn : Bool) (w : World) : Prop where
  m : LosM w0 p a k L v D o w
  inv : LInv L nx D o t
  gone : gn = !(t == 0)
  nx : nx ≤ 1 + 4 * k
  len : L.length ≤ 1 + 4 * k
  own : ∀ b, v.ownBlock = some b → w0.heap.size ≤ b ∧ b ≠ p ∧ b ≠ a ∧ b < w.heap.size
  hi : p < w.heap.size ∧ a < w.heap.size
theorem LosI.by_ {w0 w : World} {p a k : Nat} {L : List Ms} {v : Value} {nx : Nat} {D : Int → Bool} {o t : Int} {gn : Bool} (h : LosI w0 p a k L v nx D o t gn w) (x : Ms) {v' : Value} (hv : v'.ownBlock = v.ownBlock) : By w0 w.heap.size p a x v' (w.alloc (.cells #[.int .u64 x.1, .int .u64 x.2.1, .int .i64 x.2.2] 34)) := by
  refine ⟨heap_alloc_new _ _, fun b e => ?_, ?_⟩
  · obtain ⟨h1, h2, h3, h4⟩ := h.own b (by rw [← hv]; exact e)
    exact ⟨h1, h2, h3, by omega, by simp; omega⟩
  · have := h.hi
    simp; omega
set_option maxRecDepth 100000 in
set_option maxHeartbeats 4000000 in
theorem lost_law (lo : Int) (ao : Option Addr) (ca : Nat) (P : List Int) (w : World) (_l0 : 0 ≤ lo) (_l1 : lo ≤ 255) (hr : Rd w ao P) (hi : ∀ x ∈ P, 0 ≤ x ∧ x ≤ 255) :
    Calls Try.prog 5 #[.slice ao P.length ca, .int .u8 lo] w fun e w' => e = .returned (.bool true) ∧ Below w.heap.size w w' := by
  have HP := Lib.hid (And.intro hr hi)
  obtain ⟨np, hnp⟩ : ∃ l, P.length = l := ⟨_, rfl⟩
  rw [hnp]
  have HN := Lib.hid hnp
  clear hr hi hnp
  have hA := awake_any w
  go_enter Try.func5, Try.ntmps5
  go_wp2_with (go_at_call 7; refine hA.mono ?_; rintro e w1 ⟨rfl, hb⟩; have A1 := Lib.hid hb; clear hb)
  refine (new_any w1).mono ?_
  rintro e w2 ⟨rfl, hp, hb, hz⟩
  have HI : Hid (LosI w (w1.heap.size + 1) w1.heap.size 0 [(0, 1152921504606846976, 0)] (.slice (some ⟨w2.heap.size, 0, none⟩) 1 1) 1 (fun _ => false) 1152921504606846976 0 false (w2.alloc (.cells #[.int .u64 0, .int .u64 1152921504606846976, .int .i64 0] 34))) := by
    have h1 := A1.out.size
    have hb2 : Below w2.heap.size w2 (w2.alloc (.cells #[.int .u64 0, .int .u64 1152921504606846976, .int .i64 0] 34)) := (Below.refl _ w2).alloc (Nat.le_refl _) _
    have hb3 := A1.out.trans (hb.mono A1.out.size)
    have hr := lit_row hb3 (0, 1152921504606846976, 0)
    exact Lib.hid ⟨⟨⟨0, Nat.le_refl _, by rw [set0_none]; exact hp.below hb2⟩, QRow.of_own hr, hb3.trans (hb2.mono hb3.size), by omega, h1⟩, LInv.start, by decide, by decide, by decide, fun b e => by
      have : w2.heap.size = b := Option.some.inj e
      subst this
      exact ⟨by omega, by omega, by omega, by simp⟩, by simp; omega⟩
  clear hp hb hz hA A1
  generalize w1.heap.size + 1 = p at *
  generalize w1.heap.size = a at *
  go_wp2_with fail
  generalize (w2.alloc (.cells #[.int .u64 0, .int .u64 1152921504606846976, .int .i64 0] 34)) = W at HI ⊢
  generalize (Value.slice (some ⟨w2.heap.size, 0, none⟩) 1 1) = v0 at HI ⊢
  go_loopw [6, 7, 8, 9] (fun v u7 u8 u9 wr => ∃ (k nx : Nat) (L : List Ms) (D : Int → Bool) (o t : Int) (gn : Bool), k ≤ 150 ∧ u8 = .int .i64 k ∧ u7 = .int .u64 nx ∧ u9 = .bool gn ∧ Hid (LosI w p a k L v nx D o t gn wr)) (fun _ _ u _ _ => 150 - (intOf u).toNat)
  case atStart => exact ⟨0, 1, _, _, _, _, _, by omega, rfl, rfl, rfl, HI⟩
  case round =>
    obtain ⟨k, nx, L, D, o, t, gn, hk, rfl, rfl, rfl, HE⟩ := hrel
    clear HI
    generalize wr = w3 at *
    have hdq := HE.out.m.doneQ
    rw [HE.out.inv.zero, show (t == 0) = !gn by rw [HE.out.gone]; simp] at hdq
    cases L with
    | nil =>
      obtain ⟨ao2, cap2, rfl⟩ := HE.out.m.bag.form
      rw [List.length_nil] at hdq ⊢
      have HDQ := Lib.hid hdq
      have HL := Lib.hid HE.out.m.low
      clear hdq HE
      cases gn
      all_goals (
        go_wp2_with (go_at_call 12; refine HDQ.out.mono ?_; rintro e w5 ⟨rfl, rfl⟩)
        go_ret
        exact ⟨rfl, HL.out⟩)
    | cons x L =>
      rw [show ((x :: L).length == 0) = false by simp, Bool.and_false] at hdq
      have HDQ := Lib.hid hdq
      clear hdq
      obtain ⟨g, og, cap, rfl, hg0, hg, x0, x1, x2⟩ := HE.out.m.bag.head
      obtain ⟨v2, hsl, hv2, hown2⟩ := HE.out.m.bag.tail
      have hlen : L.length ≤ 1000 := by have := HE.out.len; rw [List.length_cons] at this; omega
      have hlen2 : (0 : Int) < (L.length : Int) + 1 := by omega
      by_cases h150 : (k : Int) < 150
      · have HX := Lib.hid (And.intro hv2 (HE.out.by_ x hown2))
        have HS := Lib.hid hsl
        go_upto_region 9 with fail
        obtain ⟨z, hz⟩ : ∃ z, w3.heap.size = z := ⟨_, rfl⟩
        have hb3 : Below w3.heap.size w3 (w3.alloc (.cells #[.int .u64 x.1, .int .u64 x.2.1, .int .i64 x.2.2] 34)) := (Below.refl _ _).alloc (Nat.le_refl _) _
        have H4 : Hid (LosM w p a k L v2 D o (w3.alloc (.cells #[.int .u64 x.1, .int .u64 x.2.1, .int .i64 x.2.2] 34)) ∧ By w z p a x v2 (w3.alloc (.cells #[.int .u64 x.1, .int .u64 x.2.1, .int .i64 x.2.2] 34))) := Lib.hid ⟨(HE.out.m.cut HX.out.1).below hb3, by rw [← hz]; exact HX.out.2⟩
        have HV := Lib.hid (And.intro HE.out.inv (And.intro HE.out.nx (And.intro HE.out.gone (show L.length ≤ 4 * k by have := HE.out.len; rw [List.length_cons] at this; omega))))
        rw [hz]
        generalize (w3.alloc (.cells #[.int .u64 x.1, .int .u64 x.2.1, .int .i64 x.2.2] 34)) = w4 at H4 ⊢
        clear hb3 hz x0 x1 x2 HE HX hg
        obtain ⟨y0, y1, y2⟩ := H4.out.2.cells
        by_cases hkl : (k : Int) = lo
        · have hkb : ((k : Int) == lo) = true := by simpa using hkl
          clear hkl
          go_wp2_with fail
          refine ⟨⟨k + 1, nx, L, D, o, t + x.2.1, true, by omega, by go_num, rfl, rfl, Lib.hid ⟨H4.out.1.more (Nat.le_succ k), HV.out.1.lose, ?_, by have := HV.out.2.1; omega, by have := HV.out.2.2.2; omega, fun b e => ?_, H4.out.2.hi⟩⟩, by simp [intOf]; omega⟩
          · have h1 := HV.out.1.t0
            have h2 := HV.out.1.le.1
            have : (t + x.2.1 == 0) = false := by simp; omega
            rw [this]; rfl
          · obtain ⟨a1, a2, a3, _, a5⟩ := H4.out.2.own b e
            exact ⟨a1, a2, a3, a5⟩
        · have hkb : ((k : Int) == lo) = false := by simpa using hkl
          clear hkl
          go_upto_region 14 with fail
          go_cut [48] (fun s48 wx => ∃ B : Bool, s48 = .bool B ∧ (B = true → k < np ∧ x.2.2 < 8) ∧ w4 = wx)
          case first =>
            by_cases hlt : k < np
            · have j1 : (k : Int) < (np : Int) := by omega
              go_wp2_with fail
              go_meet
              exact ⟨_, rfl, fun h => ⟨hlt, of_decide_eq_true h⟩, rfl⟩
            · go_wp2_with fail
              go_meet
              exact ⟨false, rfl, (fun h => absurd h (by decide)), rfl⟩
          case rest =>
            obtain ⟨B, rfl, hB, rfl⟩ := hcut
            go_upto_if 48 with fail
            go_cut [11] (fun s11 wx => ∃ m : Nat, m ≤ 4 ∧ (0 < m → x.2.2 < 8) ∧ s11 = .int .i64 m ∧ w4 = wx)
            case first =>
              cases B
              · go_wp2_with fail
                go_meet
                exact ⟨0, by omega, (fun h => absurd h (by decide)), rfl, rfl⟩
              · obtain ⟨hlt, hd8⟩ := hB rfl
                clear hB
                obtain ⟨y, hy⟩ : ∃ y, P[k]? = some y := ⟨_, List.getElem?_eq_getElem (by have := HN.out; omega)⟩
                obtain ⟨g1, og1, rfl, _, cx⟩ := (HP.out.1.on H4.out.1.low (Nat.le_refl _)) k y hy
                have hx2 := HP.out.2 y (List.mem_of_getElem? hy)
                clear hy
                have j1 : (k : Int) < (np : Int) := by omega
                obtain ⟨m, hm, hm4⟩ : ∃ m : Nat, y % 5 = (m : Int) ∧ m ≤ 4 := ⟨(y % 5).toNat, by omega, by omega⟩
                have HD8 := Lib.hid hd8
                clear hd8
                go_wp2_with fail
                go_meet
                exact ⟨m, hm4, fun _ => HD8.out, by rw [hm], rfl⟩
            case rest =>
              obtain ⟨m, hm4, hd8, rfl, rfl⟩ := hcut
              clear hB
              have HM := Lib.hid (And.intro hm4 hd8)
              clear hm4 hd8
              have hmx := HV.out.1.mem x (by simp)
              have hle := HV.out.1.le
              have hS := fun w' => split_any x.2.1 m w' (by omega) (by obtain ⟨_, _, hp⟩ := H4.out.1.pool; have := hp.o1; omega)
              obtain ⟨s, r, e, hR⟩ : ∃ s r e, splR x.2.1 (m : Int) = (s, r, e) := ⟨_, _, _, rfl⟩
              simp only [hR] at hS
              have HS := Lib.hid hS
              have HRR := Lib.hid hR
              have HO := Lib.hid (And.intro hle hmx)
              clear hS hR hle hmx
              go_upto_region 16 with fail
              by_cases he : e = 0
              · subst he
                obtain ⟨s1, sr, sr2⟩ := split_ok (by have := HO.out.1; omega) (by omega) (by have := HM.out.1; omega) HRR.out
                have HQ2 := Lib.hid (And.intro s1 (And.intro sr sr2))
                clear s1 sr sr2
                have H8 : Hid (LosM w p a k L v2 D o w4 ∧ By w z p a x v2 w4 ∧ LInv L (nx + 0) (mark D x.1) (o - x.2.1 + (0 : Nat) * s) t ∧ L.length + 0 ≤ 4 * k + 0) := Lib.hid ⟨H4.out.1, H4.out.2, by have := HV.out.1.work; simpa using this, by have := HV.out.2.2.2; omega⟩
                clear H4
                go_wp2_with (go_at_call 8; refine (HS.out _).mono ?_; rintro e w7 ⟨rfl, rfl⟩)
                clear y0 y1 y2 hsl
                go_loopw [6, 7, 70] (fun s6 s7 s70 wx => ∃ (j : Nat) (Lj : List Ms), j ≤ m ∧ s7 = .int .u64 ((nx + j : Nat) : Int) ∧ s70 = .int .i64 j ∧ Hid (LosM w p a k Lj s6 D o wx ∧ By w z p a x s6 wx ∧ LInv Lj (nx + j) (mark D x.1) (o - x.2.1 + j * s) t ∧ Lj.length ≤ 4 * k + j)) (fun _ _ u _ => m - (intOf u).toNat)
                case atStart => exact ⟨0, _, by omega, rfl, rfl, H8⟩
                case round =>
                  obtain ⟨j, Lj, hj, rfl, rfl, HJ⟩ := hrel
                  clear H8
                  generalize wr = w9 at *
                  have HLn := Lib.hid HJ.out.2.2.2
                  obtain ⟨y0, y1, y2⟩ := HJ.out.2.1.cells
                  by_cases hjm : j < m
                  · have j1 : (j : Int) < (m : Int) := by omega
                    have hd8 := HM.out.2 (by omega)
                    have hd0 := HO.out.2.2.2.2.2.1
                    have hnx6 : nx ≤ 1000 := by have := HV.out.2.1; omega
                    have hm4 := HM.out.1
                    have e2 : IntKind.i64.wrap (x.2.2 + 1) = x.2.2 + 1 := by simp [IntKind.wrap, IntKind.bits, IntKind.signed]; omega
                    have e3 : IntKind.u64.wrap (((nx + j : Nat) : Int) + 1) = ((nx + j : Nat) : Int) + 1 := by simp [IntKind.wrap, IntKind.bits, IntKind.signed]; omega
                    have hb5 : Below w9.heap.size w9 (w9.alloc (.cells #[.int .u64 ((nx + j : Nat) : Int), .int .u64 s, .int .i64 (x.2.2 + 1)] 34)) := (Below.refl _ _).alloc (Nat.le_refl _) _
                    have H5 := Lib.hid (And.intro (HJ.out.1.below hb5) (HJ.out.2.1.below hb5))
                    have HI5 := Lib.hid (HJ.out.2.2.1.cause (s := s) (d := x.2.2 + 1) HQ2.out.1 (by omega) (by omega))
                    have HW9 := Lib.hid (show (w9.alloc (.cells #[.int .u64 ((nx + j : Nat) : Int), .int .u64 s, .int .i64 (x.2.2 + 1)] 34)).heap[w9.heap.size]? = some (.cells #[.int .u64 ((nx + j : Nat) : Int), .int .u64 s, .int .i64 (x.2.2 + 1)] 34 (0, 0)) from heap_alloc_new w9 _)
                    clear hb5 hd8 hd0
                    generalize hnj : nx + j = nj at *
                    go_wp2_with (at_builtin; refine wpList_push rfl (.tmp 72) (.tmp 79) rfl H5.out.1.bag H5.out.1.low.size ((nj : Int), s, x.2.2 + 1) ⟨w9.heap.size, 0, none⟩ 1 rfl rfl (World.news_of_block HW9.out) (by have := HLn.out; omega) ?_; intro v10 w10 hq10 hgrow hat; have H10 := Lib.hid (show LosM w p a k (Lj ++ [((nj : Int), s, x.2.2 + 1)]) v10 D o w10 ∧ By w z p a x v10 w10 from ⟨H5.out.1.grow hgrow hq10 (fun b e => by obtain ⟨a1, a2, a3, _⟩ := H5.out.2.own b e; exact ⟨a1, a2, a3⟩), H5.out.2.grow H5.out.1.low.size hgrow hat⟩); clear hq10 hgrow hat)
                    refine ⟨⟨j + 1, Lj ++ [((nj : Int), s, x.2.2 + 1)], by omega, by rw [← hnj]; rfl, by go_num, ?_⟩, by simp [intOf]; omega⟩
                    rw [show nx + (j + 1) = nj + 1 by omega]
                    exact Lib.hid ⟨H10.out.1, H10.out.2, by rw [show o - x.2.1 + ((j + 1 : Nat) : Int) * s = o - x.2.1 + (j : Int) * s + s by rw [Int.natCast_add, Int.add_mul]; omega]; exact HI5.out, by have := HLn.out; rw [List.length_append, List.length_singleton]; omega⟩
                  · obtain rfl : j = m := by omega
                    have hrx : 0 ≤ r ∧ r ≤ o ∧ o - r = o - x.2.1 + (j : Int) * s := by have := HQ2.out; have := HO.out; have := Int.mul_nonneg (show (0 : Int) ≤ j by omega) (show 0 ≤ s by omega); omega
                    have HF := Lib.hid (HJ.out.1.first (k := x.1) HO.out.2.1 (by have := HO.out.2.2.1; have := HV.out.2.1; omega) HO.out.2.2.2.1 hrx.1 hrx.2.1 (by omega))
                    have HRX := Lib.hid hrx
                    have hw9 := Lib.hid HJ.out.2.1
                    clear hrx
                    go_wp2_with (go_at_call 11; refine HF.out.mono ?_; rintro e w10 ⟨rfl, h⟩; have H10 := Lib.hid h; clear h)
                    refine ⟨⟨k + 1, nx + j, Lj, mark D x.1, o - r, t, gn, by omega, by go_num, rfl, rfl, Lib.hid ⟨H10.out.1, by rw [HRX.out.2.2]; exact HJ.out.2.2.1, HV.out.2.2.1, by have := HV.out.2.1; have := HM.out.1; omega, by have := HLn.out; have := HM.out.1; omega, fun b e => ?_, ?_⟩⟩, by simp [intOf]; omega⟩
                    · obtain ⟨a1, a2, a3, _, a5⟩ := hw9.out.own b e
                      exact ⟨a1, a2, a3, Nat.lt_of_lt_of_le a5 H10.out.2⟩
                    · have := hw9.out.hi
                      have := H10.out.2
                      omega
              · obtain ⟨rfl, hlt2⟩ := split_bad (by have := HO.out.1; omega) (by omega) (by have := HM.out.1; omega) HRR.out he
                clear he hlt2
                go_wp2_with (go_at_call 8; refine (HS.out _).mono ?_; rintro e w7 ⟨rfl, rfl⟩)
                go_ret
                exact ⟨rfl, H4.out.1.low⟩
      · cases gn
        all_goals (
          go_wp2_with (go_at_call 12; refine HDQ.out.mono ?_; rintro e w5 ⟨rfl, rfl⟩)
          go_ret
          exact ⟨rfl, HE.out.m.low⟩)
end Go.Proofs.Ytapofbiflkfocaa.Cr
