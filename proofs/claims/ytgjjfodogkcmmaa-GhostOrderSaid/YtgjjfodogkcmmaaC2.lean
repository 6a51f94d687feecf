/- ghost: the document's insert, walked. -/
import Derived.Test.YtgjjfodogkcmmaaC1
namespace Go.Proofs.Ytgjjfodogkcmmaa.Gh
open Go Go.RowKit Ytgjjfodogkcmmaa.So
/-- What has been laid so far, and whether the new number is among it. -/
def insS (x : Int) (p : List Int × Bool) (y : Int) : List Int × Bool := if p.2 = false ∧ x < y then (p.1 ++ [x] ++ [y], true) else (p.1 ++ [y], p.2)
def insF (l : List Int) (x : Int) : List Int × Bool := l.foldl (insS x) ([], false)
def insL (l : List Int) (x : Int) : List Int := if x ∈ l then l else if (insF l x).2 then (insF l x).1 else (insF l x).1 ++ [x]
theorem insF_snoc (l : List Int) (x y : Int) : insF (l ++ [y]) x = insS x (insF l x) y := by simp [insF, List.foldl_append]
theorem insS_len (x : Int) (p : List Int × Bool) (y : Int) : (insS x p y).1.length ≤ p.1.length + 2 := by unfold insS; split <;> simp
theorem insF_len (x : Int) : ∀ (l : List Int) (p : List Int × Bool), (l.foldl (insS x) p).1.length ≤ p.1.length + 2 * l.length
  | [], p => by simp
  | y :: l, p => by
    have h1 := insF_len x l (insS x p y)
    have h2 := insS_len x p y
    simp only [List.foldl_cons, List.length_cons]
    omega
def InI (w : World) (l : List Int) (x : Int) (j : Nat) (v : Value) (b : Bool) (wr : World) : Prop :=
  wr.ownsRow w.heap.size 24 1 v (insF (l.take j) x).1.length (u32s (insF (l.take j) x).1) ∧ b = (insF (l.take j) x).2 ∧ (¬ x ∈ l.take j) ∧ Below w.heap.size w wr
/-- A list of numbers of the call's own, made or handed back. -/
def InsOf (B : Nat) (L : List Int) (w : World) (e : Ending) (w' : World) : Prop :=
  ∃ ao cap, e = .returned (.slice ao L.length cap) ∧ w'.ownsRow B 24 1 (.slice ao L.length cap) L.length (u32s L) ∧ Below w.heap.size w w'
theorem app32 {wr w4 : World} {v : Value} {n : Nat} {xs : List Value} {x : Int} {w : World} (h : wr.ownsRow w.heap.size 24 1 v n xs) (hb : Below w.heap.size w wr) (hg : (wr.alloc (.cells #[.int .u32 x] 24)).grownBy w4 v.ownBlock) : Below w.heap.size w w4 :=
  (hb.alloc hb.size _).grown hg (by have := hb.size; simp; omega) (fun g e => (World.ownsRow.lt h g e).1)
set_option maxRecDepth 100000 in
set_option maxHeartbeats 2000000 in
theorem insert_any (B : Nat) (ao : Option Addr) (c : Nat) (l : List Int) (x : Int) (w : World) (h : w.ownsRow B 24 1 (.slice ao l.length c) l.length (u32s l)) (hB : B ≤ w.heap.size) (hn : l.length ≤ 1000000) :
    Calls Try.prog 31 #[.slice ao l.length c, .int .u32 x] w fun e w' => InsOf B (insL l x) w e w' := by
  obtain ⟨i0, hi0, hz0, hz1, hz2⟩ := info_parts info24
  have HZ := Lib.hid (And.intro hi0 (And.intro hz0 (And.intro hz1 hz2)))
  have HO := Lib.hid h
  have HBs := Lib.hid hB
  obtain ⟨n, hl⟩ : ∃ n, l.length = n := ⟨_, rfl⟩
  rw [hl] at hn HO ⊢
  have HN := Lib.hid hl
  clear h hB hl hi0 hz0 hz1 hz2
  go_enter Try.func31, Try.ntmps31
  go_wp2_with fail
  go_loopw [5, 6, 11] (fun v b u wr => ∃ (j : Nat) (pl : Bool), j ≤ n ∧ u = .int .i64 j ∧ b = .bool pl ∧ Hid (InI w l x j v pl wr)) (fun _ _ u _ => n - (intOf u).toNat)
  case atStart => exact ⟨0, false, by omega, rfl, rfl, Lib.hid ⟨by simpa [insF, u32s] using World.ownsRow_nil _ _ _ _, rfl, by simp, Below.refl _ _⟩⟩
  case round =>
    obtain ⟨j, pl, hj, rfl, rfl, HA⟩ := hrel
    by_cases hlt : j < n
    · obtain ⟨y, hy⟩ : ∃ y, l[j]? = some y := ⟨_, List.getElem?_eq_getElem (by have := HN.out; omega)⟩
      obtain ⟨_, _, ev, _, hcell⟩ := own_slice HO.out
      obtain ⟨g, hg, hgl, hc⟩ := hcell j (.int .u32 y) (by simp [u32s, hy])
      simp only [Value.slice.injEq, true_and] at ev
      obtain ⟨rfl, rfl⟩ := ev
      subst hg
      have c0 := (HA.out.2.2.2.cell (p := ⟨g, j, none⟩) hgl).trans hc
      have HS := Lib.hid hy
      have j1 : (j : Int) < (n : Int) := by omega
      obtain ⟨ao3, cap3, ev3, _, _⟩ := own_slice HA.out.1
      subst ev3
      obtain ⟨k, hk⟩ : ∃ k, (insF (l.take j) x).1.length = k := ⟨_, rfl⟩
      have hkn : k ≤ 1000000000 := by have := insF_len x (l.take j) ([], false); rw [List.length_take] at this; simp at this; unfold insF at hk; omega
      have hrow := HA.out.1
      rw [hk] at hrow ⊢
      have HRW := Lib.hid (And.intro hrow (And.intro hk HA.out.2))
      clear hcell hc hy hrow hk HA
      by_cases hyx : y = x
      · have e1 : (y == x) = true := by simp [hyx]
        have hE := Lib.hid (show InsOf B (insL l x) w (.returned (.slice (some ⟨g, 0, none⟩) n c)) wr from by
          have hi : insL l x = l := by unfold insL; rw [if_pos (by rw [← hyx]; exact List.mem_of_getElem? HS.out)]
          rw [hi]
          refine ⟨some ⟨g, 0, none⟩, c, by rw [HN.out], ?_, HRW.out.2.2.2.2⟩
          rw [HN.out]
          exact own_on HO.out (fun g e => HRW.out.2.2.2.2.block g (World.ownsRow.lt HO.out g e).2))
        clear hyx
        go_wp2_with fail
        go_ret
        exact hE.out
      · have e1 : (y == x) = false := by simp [hyx]
        have hnot : ¬ x ∈ l.take (j + 1) := by
          rw [take_next HS.out, List.mem_append, List.mem_singleton]
          exact fun h => h.elim HRW.out.2.2.2.1 (fun e => hyx e.symm)
        have HNot := Lib.hid hnot
        clear hyx hnot
        have hsnoc : insF (l.take (j + 1)) x = insS x (insF (l.take j) x) y := by rw [take_next HS.out, insF_snoc]
        have HSn := Lib.hid hsnoc
        clear hsnoc
        by_cases hpx : pl = false ∧ x < y
        · obtain ⟨rfl, hxy⟩ := hpx
          have hst : insS x (insF (l.take j) x) y = ((insF (l.take j) x).1 ++ [x] ++ [y], true) := by unfold insS; rw [if_pos ⟨HRW.out.2.2.1.symm, hxy⟩]
          have HSt := Lib.hid (HSn.out.trans hst)
          clear hst
          go_wp2_with (first
            | (at_builtin; refine wpList_append_own _ rfl (.tmp 26) (.tmp 28) 37 rfl w.heap.size 24 i0 _ 1 4 Try.underlying37 HZ.out.1 HZ.out.2.1 HZ.out.2.2.1 HZ.out.2.2.2 rfl (by decide) (.slice ao3 k cap3) k (u32s (insF (l.take j) x).1) rfl (HRW.out.1.alloc _) ⟨wr.heap.size, 0, none⟩ 1 1 [.int .u32 x] rfl rfl (new1 x wr 24) (one_u32 _) (by unfold maxLen; omega) (by omega) (by have := HRW.out.2.2.2.2.size; simp; omega) ?_; intro v3 w3 hown3 hgrow3 hnil3; have hb3 := app32 HRW.out.1 HRW.out.2.2.2.2 hgrow3; obtain ⟨ao4, cap4, ev4, _, _⟩ := own_slice hown3; subst ev4; have HG := Lib.hid (And.intro hown3 hb3); clear hown3 hgrow3 hnil3 hb3)
            | (at_builtin; refine wpList_append_own _ rfl (.tmp 30) (.tmp 32) 37 rfl w.heap.size 24 i0 _ 1 4 Try.underlying37 HZ.out.1 HZ.out.2.1 HZ.out.2.2.1 HZ.out.2.2.2 rfl (by decide) (.slice ao4 (k + 1) cap4) (k + 1) (u32s (insF (l.take j) x).1 ++ [.int .u32 x]) rfl (HG.out.1.alloc _) ⟨w3.heap.size, 0, none⟩ 1 1 [.int .u32 y] rfl rfl (new1 y w3 24) (one_u32 _) (by unfold maxLen; omega) (by omega) (by have := HG.out.2.size; simp; omega) ?_; intro v5 w5 hown5 hgrow5 hnil5; have hb5 := app32 HG.out.1 HG.out.2 hgrow5; have H5 := Lib.hid (And.intro hown5 hb5); clear hown5 hgrow5 hnil5 hb5))
          refine ⟨⟨j + 1, true, by omega, rfl, rfl, Lib.hid ⟨?_, by rw [HSt.out], HNot.out, H5.out.2⟩⟩, by simp [intOf]; omega⟩
          rw [HSt.out]
          simp only [List.length_append, List.length_cons, List.length_nil, u32s_app, HRW.out.2.1]
          exact H5.out.1
        · have hst : insS x (insF (l.take j) x) y = ((insF (l.take j) x).1 ++ [y], pl) := by unfold insS; rw [if_neg (by rw [← HRW.out.2.2.1]; exact hpx), HRW.out.2.2.1]
          have HSt := Lib.hid (HSn.out.trans hst)
          have hguard : pl = true ∨ (pl = false ∧ decide (x < y) = false) := by
            cases pl
            · exact .inr ⟨rfl, decide_eq_false (fun h => hpx ⟨rfl, h⟩)⟩
            · exact .inl rfl
          clear hst hpx
          rcases hguard with rfl | ⟨rfl, hxy⟩
          all_goals
            go_wp2_with (at_builtin; go_loud (refine wpList_append_own _ rfl (.tmp 30) (.tmp 32) 37 rfl w.heap.size 24 i0 _ 1 4 Try.underlying37 HZ.out.1 HZ.out.2.1 HZ.out.2.2.1 HZ.out.2.2.2 rfl (by decide) (.slice ao3 k cap3) k (u32s (insF (l.take j) x).1) rfl (HRW.out.1.alloc _) ⟨wr.heap.size, 0, none⟩ 1 1 [.int .u32 y] rfl rfl (new1 y wr 24) (one_u32 _) (by unfold maxLen; omega) (by omega) (by have := HRW.out.2.2.2.2.size; simp; omega) ?_; intro v5 w5 hown5 hgrow5 hnil5; have hb5 := app32 HRW.out.1 HRW.out.2.2.2.2 hgrow5; have H5 := Lib.hid (And.intro hown5 hb5); clear hown5 hgrow5 hnil5 hb5))
            refine ⟨⟨j + 1, _, by omega, rfl, rfl, Lib.hid ⟨?_, by rw [HSt.out], HNot.out, H5.out.2⟩⟩, by simp [intOf]; omega⟩
            rw [HSt.out]
            simp only [List.length_append, List.length_cons, List.length_nil, u32s_app, HRW.out.2.1]
            exact H5.out.1
    · obtain rfl : j = n := by omega
      have hA := HA.out
      unfold InI at hA
      rw [List.take_of_length_le (by rw [HN.out]; exact Nat.le_refl _)] at hA
      obtain ⟨h1, h2, h3, h4⟩ := hA
      obtain ⟨ao3, cap3, ev3, _, _⟩ := own_slice h1
      subst ev3
      have hB := HBs.out
      cases pl
      · have hi : insL l x = (insF l x).1 ++ [x] := by unfold insL; rw [if_neg h3, ← h2]; rfl
        obtain ⟨k, hk⟩ : ∃ k, (insF l x).1.length = k := ⟨_, rfl⟩
        have hkn : k ≤ 1000000000 := by have := insF_len x l ([], false); simp at this; unfold insF at hk; have := HN.out; omega
        rw [hk] at h1 ⊢
        have HRW := Lib.hid (And.intro h1 (And.intro hk h4))
        have HI := Lib.hid hi
        clear h1 h2 h3 h4 hk hi HA
        go_wp2_with (at_builtin; refine wpList_append_own _ rfl (.tmp 37) (.tmp 39) 37 rfl w.heap.size 24 i0 _ 1 4 Try.underlying37 HZ.out.1 HZ.out.2.1 HZ.out.2.2.1 HZ.out.2.2.2 rfl (by decide) (.slice ao3 k cap3) k (u32s (insF l x).1) rfl (HRW.out.1.alloc _) ⟨wr.heap.size, 0, none⟩ 1 1 [.int .u32 x] rfl rfl (new1 x wr 24) (one_u32 _) (by unfold maxLen; omega) (by omega) (by have := HRW.out.2.2.size; simp; omega) ?_; intro v5 w5 hown5 hgrow5 hnil5; have hb5 := app32 HRW.out.1 HRW.out.2.2 hgrow5; obtain ⟨ao5, cap5, ev5, _, _⟩ := own_slice hown5; subst ev5; have H5 := Lib.hid (And.intro hown5 hb5); clear hown5 hgrow5 hnil5 hb5)
        go_ret
        refine ⟨ao5, cap5, ?_, ?_, H5.out.2⟩
        · rw [HI.out, List.length_append, HRW.out.2.1]; rfl
        · rw [HI.out, List.length_append, HRW.out.2.1, u32s_app]
          exact v_low H5.out.1 hB
      · have hi : insL l x = (insF l x).1 := by unfold insL; rw [if_neg h3, ← h2]; rfl
        have hE := Lib.hid (show InsOf B (insL l x) w (.returned (.slice ao3 (insF l x).1.length cap3)) wr from by
          rw [hi]
          exact ⟨ao3, cap3, rfl, v_low h1 hB, h4⟩)
        clear h1 h2 h3 h4 hi HA
        go_wp2_with fail
        go_ret
        exact hE.out
end Go.Proofs.Ytgjjfodogkcmmaa.Gh
