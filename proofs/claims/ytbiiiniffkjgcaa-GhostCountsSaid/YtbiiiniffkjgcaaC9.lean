/- ghost: Cuts, walked. -/
import Derived.Test.YtbiiiniffkjgcaaC8
import Derived.Test.YtbiiiniffkjgcaaC3
namespace Go.Proofs.Ytbiiiniffkjgcaa.Gh
open Go Go.RowKit Ytbiiiniffkjgcaa.So
/-- Between two rounds: the tally as it was, a list of the call's own. -/
def CuI (w2 : World) (S : GS) (ss : List Int) (v : Value) (wr : World) : Prop :=
  wr.ownsRow (w2.heap.size + 1) 24 1 v (sel S ss).length (u32s (sel S ss)) ∧ Below w2.heap.size w2 wr
set_option maxRecDepth 100000 in
set_option maxHeartbeats 2000000 in
theorem cuts_any (ao : Option Addr) (cap : Nat) (Vs : List Vx) (w : World) (hr : RdV w ao Vs) (hn : Vs.length ≤ 100) (hK : ∀ v ∈ Vs, v.L.length ≤ 100) :
    Calls Try.prog 16 #[.slice ao Vs.length cap] w (CutOf (holdAll Vs) w) := by
  obtain ⟨i0, hi0, hz0, hz1, hz2⟩ := info_parts info24
  have HZ := Lib.hid (And.intro hi0 (And.intro hz0 (And.intro hz1 hz2)))
  have HT := Lib.hid (tally_any ao cap Vs w hr hn hK)
  have HRS := Lib.hid (rows_short hK)
  obtain ⟨S, hS⟩ : ∃ S, holdAll Vs = S := ⟨_, rfl⟩
  rw [hS] at HT HRS ⊢
  clear hr hn hK hS hi0 hz0 hz1 hz2
  go_enter Try.func16, Try.ntmps16
  go_wp2_with (fail)
  refine HT.out.mono ?_
  rintro e w1 ⟨p, F, m, rfl, ⟨a, b, V, hTA, hcm⟩, hm, hb⟩
  have ha := (Below.refl _ w1).alloc (Nat.le_refl _) (.cells #[.pointer (some ⟨p, 0, none⟩)] 41)
  obtain ⟨w2, hw2⟩ : ∃ W, w1.alloc (.cells #[.pointer (some ⟨p, 0, none⟩)] 41) = W := ⟨_, rfl⟩
  have kb : w2.heap[w1.heap.size]? = some (.cells #[.pointer (some ⟨p, 0, none⟩)] 41 (0, 0)) := by rw [← hw2]; exact heap_alloc_new _ _
  have hTA2 : TAt w2 w.heap.size m F p a b V (cnt S) S := by rw [← hw2]; exact hTA.below ha
  have hb2 : Below w.heap.size w w2 := by rw [← hw2]; exact hb.alloc hb.size _
  have hsz : w1.heap.size < w2.heap.size := (Array.getElem?_eq_some_iff.1 kb).1
  have cb := cell1 kb
  have ca := hTA2.cells.1
  obtain ⟨D, hD, hD2⟩ := hTA2.fars
  obtain ⟨bx, hbx⟩ : ∃ bx, w1.heap.size = bx := ⟨_, rfl⟩
  have H2 := Lib.hid (And.intro hTA2 (And.intro hb2 (And.intro hm hcm)))
  have HD := Lib.hid hD2
  have HDS := Lib.hid hD.size_le
  clear hTA hcm hb ha hTA2 hD2 hb2 kb
  rw [hbx] at hsz cb
  have HSZ := Lib.hid hsz
  have HCB := Lib.hid cb
  clear hsz
  go_wp2_with (at_range; refine wpList_range_own _ rfl _ 79 rfl 24 37 law24 Try.underlying79 tok a m D rfl hD ?_; intro w3 hrg hg hs)
  obtain ⟨r, hr⟩ : ∃ r, w2.heap.size = r := ⟨_, rfl⟩
  rw [hr] at hrg hs ⊢
  have hb3 : Below w2.heap.size w2 w3 := (Below.refl _ w2).grown hg (Nat.le_refl _) (fun g e => by cases e)
  have HC0 := Lib.hid (show CuI w2 S [] (.slice none 0 0) w3 from ⟨by simpa [sel, u32s] using World.ownsRow_nil _ _ _ _, hb3⟩)
  have HR := Lib.hid (And.intro hr hs)
  have HTl := Lib.hid (show Tl w2 w.heap.size m F p S from ⟨a, b, V, H2.out.1, H2.out.2.2.2⟩)
  clear hg hr hs hb3 cb ca hD
  go_frame
  go_loopw [5] (fun v wr => ∃ (left : Lit → Bool) (cn : Nat) (ss : List Int), wr.ranges Try.prog 24 tok a r m D left cn ∧ ss.length + cn ≤ Maps.size D ∧ Hid (KeyIs D left ss ∧ (∀ x ∈ ss, In32 x)) ∧ Hid (CuI w2 S ss v wr))
    (fun _ wr => wr.rangeLeft a r)
  case atStart => exact ⟨_, _, [], hrg, by simp, Lib.hid ⟨KeyIs.start D, by simp⟩, HC0⟩
  case round =>
    obtain ⟨left, cn, ss, hrg2, hcs, HC, HJ⟩ := hrel
    clear hrg HC0
    obtain ⟨ao3, cap3, ev3, _, _⟩ := own_slice HJ.out.1
    subst ev3
    obtain ⟨k, hk⟩ : ∃ k, (sel S ss).length = k := ⟨_, rfl⟩
    have hks : k ≤ ss.length := by rw [← hk]; exact List.length_filter_le _ _
    have hkn : k ≤ 1000000 := by have h1 := HDS.out; have h2 := H2.out.2.2.1; omega
    have hj := HJ.out
    unfold CuI at hj
    rw [hk] at hj ⊢
    have HJ2 := Lib.hid (And.intro hj hk)
    clear hj hk HJ
    go_wp2_with (at_next; refine wpList_next_ranges _ rfl _ rfl 24 law24 tok (Value.int .u32) id (fun key kl hk => by obtain ⟨x, hx, _⟩ := Maps.keyOf_int_inv Try.underlying24 hk; exact ⟨x, hx⟩) (fun v _ _ => ⟨v, rfl⟩) a r m _ _ _ rfl hrg2 ?_ ?_)
    · intro hc0 hl0
      have hown := HJ2.out.1.1
      rw [← HJ2.out.2] at hown
      have HSo := Lib.hid (sortK_any (w2.heap.size + 1) (.slice ao3 (sel S ss).length cap3) (sel S ss) wr hown (HC.out.1.1.filter _) (by rw [HJ2.out.2]; omega))
      rw [HJ2.out.2] at HSo
      have hset : ∀ x, In32 x → (x ∈ sel S ss ↔ heldG S x ∧ (rowG S x).any (gB S) = true) := fun x hx => by
        unfold sel
        rw [List.mem_filter, HC.out.1.2 x hx, hl0, (HD.out x hx).2]
        have : (V x).isSome = true ↔ heldG S x := by
          constructor
          · intro h; exact H2.out.1.only x hx (by intro e; rw [e] at h; cases h)
          · rintro ⟨e, he, rfl⟩
            obtain ⟨v, h1, _⟩ := H2.out.1.rows e he
            rw [h1]; rfl
        rw [this]; simp
      have HSet := Lib.hid hset
      clear hown hset hrg2 hc0 hl0 hcs
      go_wp2_with (go_at_call 34; refine HSo.out.mono ?_; rintro e w6 ⟨rfl, ss', hp, hlen, hrise, ho, ht⟩; have H6 := Lib.hid (And.intro hp (And.intro hlen (And.intro hrise (And.intro ho ht)))); clear hp hlen hrise ho ht)
      go_ret
      have hl6 : ss'.length = k := H6.out.2.1
      have hb6 : Below w2.heap.size w2 w6 := HJ2.out.1.2.trans (H6.out.2.2.2.2.below HJ2.out.1.2.size (fun g hg => by have := (own_obj HJ2.out.1.1 (g := g) hg).1; omega))
      refine ⟨ao3, cap3, ss', by rw [hl6]; rfl, ⟨H6.out.2.2.1, fun x hx => HC.out.2 x (List.mem_filter.1 (H6.out.1.mem_iff.1 hx)).1, fun x hx => (H6.out.1.mem_iff).trans (HSet.out x hx)⟩, ?_, H2.out.2.1.trans (hb6.mono H2.out.2.1.size)⟩
      have ho := H6.out.2.2.2.1
      rw [hl6] at ho ⊢
      exact v_low ho (by have := H2.out.2.1.size; omega)
    · intro x c kl yd yp w4 cn2 hkey hlk hv hat hrg3 hlt hg2 hs2 hen
      obtain ⟨x', ex, rfl, hwx⟩ := Maps.keyOf_int_inv Try.underlying24 hkey
      obtain rfl : x = x' := by injection ex
      have hx32 : In32 x := hwx
      have hyd : yd = .held c := by
        have : tok c = some (yd, yp) := hv
        simp [tok] at this; exact this.1.symm
      subst hyd
      have hh : Maps.has D (.int .u32 x) = true := by
        cases hq : Maps.has D (.int .u32 x) with
        | true => rfl
        | false =>
          have h1 := hat (.held undef)
          have h2 := hat (.lit (.bool true))
          rw [not_has_at D hq] at h1 h2
          rw [← h1] at h2
          cases h2
      have hcv : c = (V x).getD (.slice none 0 0) := by
        have h1 := (HD.out x hx32).1
        rw [hat] at h1
        injection h1
      have hb4 : Below w2.heap.size w2 w4 := HJ2.out.1.2.grown hg2 HJ2.out.1.2.size (fun g e => by have := Option.some.inj e; have := HR.out.1; omega)
      obtain ⟨aoc, capc, hce, hcells⟩ := (H2.out.1.below hb4).row hx32
      rw [hce] at hcv
      subst hcv
      have ho4 := own_on HJ2.out.1.1 (fun g e => hg2.block g (World.ownsRow.lt HJ2.out.1.1 g e).2 (fun e2 => by have h1 := (World.ownsRow.lt HJ2.out.1.1 g e).1; have h2 := Option.some.inj e2; have h3 := HR.out.1; omega))
      have hrl := row_short HRS.out x
      have HCo := Lib.hid (contains_any w.heap.size m p bx F S w4 (HTl.out.below hb4) ((hb4.cell (p := ⟨bx, 0, none⟩) HSZ.out).trans HCB.out) (by have := HSZ.out; have := hb4.size; omega) aoc capc (rowG S x) hcells (by omega))
      have H4 := Lib.hid (And.intro hb4 (And.intro ho4 hrg3))
      have HC2 := Lib.hid (And.intro (HC.out.1.step hwx hlk hh) (show ∀ y ∈ ss ++ [x], In32 y from fun y hy => by rw [List.mem_append, List.mem_singleton] at hy; rcases hy with hy | rfl; (exact HC.out.2 y hy); (exact hwx)))
      have HSn := Lib.hid (sel_snoc S ss x)
      have HLt := Lib.hid (show cn2 < wr.rangeLeft a r by rw [hrg2.left_eq]; exact hlt)
      have hcs2 : (ss ++ [x]).length + cn2 ≤ Maps.size D := by simp; omega
      clear hb4 ho4 hrg3 hcells hce hat hv hlk hh hkey hwx ex hrg2 hg2 hs2 hlt hcs
      obtain ⟨nr, hnr⟩ : ∃ nr, (rowG S x).length = nr := ⟨_, rfl⟩
      rw [hnr] at hen HCo ⊢
      clear hnr hrl
      cases hany : (rowG S x).any (gB S)
      · rw [hany] at HCo HSn
        go_wp2_with (go_at_call 33; refine HCo.out.mono ?_; rintro e w5 ⟨rfl, q, hq⟩; have H5 := Lib.hid (show Below w2.heap.size w2 w5 ∧ w5.ownsRow (w2.heap.size + 1) 24 1 (.slice ao3 k cap3) k (u32s (sel S ss)) ∧ w5.ranges Try.prog 24 tok a r m D _ cn2 from (by subst hq; exact ⟨H4.out.1.trans ((drewN_refl w4 q).mono H4.out.1.size), own_on H4.out.2.1 (fun _ _ => rfl), H4.out.2.2.kept (row := none) ⟨rfl, rfl, rfl, Nat.le_refl _, fun _ _ _ => rfl⟩ (by simp) (by simp)⟩)); clear hq)
        have hE := Lib.hid (show CuI w2 S (ss ++ [x]) (.slice ao3 k cap3) w5 from by
          unfold CuI
          rw [HSn.out]
          simp only [Bool.false_eq_true, if_false, List.append_nil]
          rw [HJ2.out.2]
          exact ⟨H5.out.2.1, H5.out.1⟩)
        go_roundw
        case rel => exact ⟨_, cn2, ss ++ [x], H5.out.2.2, hcs2, HC2, hE⟩
        case measure => rw [H5.out.2.2.left_eq]; exact HLt.out
      · rw [hany] at HCo HSn
        have hal : a < r := by have h1 := H2.out.1.hi a H2.out.1.fa; have h2 := HR.out.1; omega
        go_wp2_with (first
          | (go_at_call 33; refine HCo.out.mono ?_; rintro e w5 ⟨rfl, q, hq⟩; have H5 := Lib.hid (show Below w2.heap.size w2 w5 ∧ w5.ownsRow (w2.heap.size + 1) 24 1 (.slice ao3 k cap3) k (u32s (sel S ss)) ∧ w5.ranges Try.prog 24 tok a r m D _ cn2 from (by subst hq; exact ⟨H4.out.1.trans ((drewN_refl w4 q).mono H4.out.1.size), own_on H4.out.2.1 (fun _ _ => rfl), H4.out.2.2.kept (row := none) ⟨rfl, rfl, rfl, Nat.le_refl _, fun _ _ _ => rfl⟩ (by simp) (by simp)⟩)); clear hq)
          | (at_builtin; refine wpList_append_own _ rfl (.tmp 24) (.tmp 26) 37 rfl (w2.heap.size + 1) 24 i0 _ 1 4 Try.underlying37 HZ.out.1 HZ.out.2.1 HZ.out.2.2.1 HZ.out.2.2.2 rfl (by decide) (.slice ao3 k cap3) k (u32s (sel S ss)) rfl (H5.out.2.1.alloc _) ⟨w5.heap.size, 0, none⟩ 1 1 [.int .u32 x] rfl rfl (new1 x w5 24) (one_u32 _) (by unfold maxLen; omega) (by omega) (by have h1 := H5.out.2.2.lt; have h2 := HR.out.1; simp; omega) ?_; intro v6 w6 hown6 hgrow6 hnil6; have H6 := Lib.hid (And.intro hown6 hgrow6); clear hown6 hgrow6 hnil6))
        have hlt6 : ∀ g, (Value.slice ao3 k cap3).ownBlock = some g → w2.heap.size + 1 ≤ g := fun g e => (World.ownsRow.lt H5.out.2.1 g e).1
        have hE := Lib.hid (show CuI w2 S (ss ++ [x]) v6 w6 ∧ w6.ranges Try.prog 24 tok a r m D _ cn2 from by
          refine ⟨?_, (H5.out.2.2.alloc _).kept H6.out.2 (fun e => by have := hlt6 a e.symm; have := HR.out.1; omega) (fun e => by have := hlt6 r e.symm; have := HR.out.1; omega)⟩
          unfold CuI
          rw [HSn.out]
          simp only [if_true, List.length_append, List.length_cons, List.length_nil, u32s_app]
          rw [HJ2.out.2]
          exact ⟨H6.out.1, (H5.out.1.alloc H5.out.1.size _).grown H6.out.2 (by have := H5.out.1.size; simp; omega) (fun g e => by have := hlt6 g e; omega)⟩)
        have hE1 := Lib.hid hE.out.1
        have hE2 := hE.out.2
        go_roundw
        case rel => exact ⟨_, cn2, ss ++ [x], hE2, hcs2, HC2, hE1⟩
        case measure => rw [hE2.left_eq]; exact HLt.out
end Go.Proofs.Ytbiiiniffkjgcaa.Gh
