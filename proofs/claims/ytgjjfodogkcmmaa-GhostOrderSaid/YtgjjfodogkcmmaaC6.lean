/- ghost: the law's twins, walked. -/
import Derived.Test.YtgjjfodogkcmmaaC3
import Derived.Test.YtgjjfodogkcmmaaG6
namespace Go.Proofs.Ytgjjfodogkcmmaa.Gh
open Go Go.RowKit Ytgjjfodogkcmmaa.So Ytgjjfodogkcmmaa.Vl
def Vv.vx (v : Vv) : Vx := ⟨v.id, v.th, v.po, v.P.length, v.pc, v.ho, v.hc, v.L⟩
/-- What a vertex is, wherever it stands. -/
def Vv.core (v : Vv) : Int × Bool × List Hf × List Hf := (v.id, v.th, v.P, v.L)
/-- From an address on these vertices stand, with all that they have. -/
def RdW (w : World) (ao : Option Addr) (Vs : List Vv) : Prop :=
  ∀ (i : Nat) (v : Vv), Vs[i]? = some v → v.ok w ∧ v.short ∧ ∃ b off, ao = some ⟨b, off, none⟩ ∧ b < w.heap.size ∧ w.cell? ⟨b, off + i * 4, none⟩ = some (.int .u32 v.id) ∧ w.cell? ⟨b, off + i * 4 + 1, none⟩ = some (.bool v.th) ∧ w.cell? ⟨b, off + i * 4 + 2, none⟩ = some (.slice v.po v.P.length v.pc) ∧ w.cell? ⟨b, off + i * 4 + 3, none⟩ = some (.slice v.ho v.L.length v.hc)
theorem RdW.below {w w' : World} {ao : Option Addr} {Vs : List Vv} {B : Nat} (h : RdW w ao Vs) (hb : Below B w w') (hB : w.heap.size ≤ B) : RdW w' ao Vs := by
  intro i v hi
  obtain ⟨hok, hs, b, off, rfl, h0, h1, h2, h3, h4⟩ := h i v hi
  have hc : ∀ o, w'.cell? ⟨b, o, none⟩ = w.cell? ⟨b, o, none⟩ := fun o => hb.cell (p := ⟨b, o, none⟩) (Nat.lt_of_lt_of_le h0 hB)
  exact ⟨hok.below hb hB, hs, b, off, rfl, Nat.lt_of_lt_of_le h0 hb.size, (hc _).trans h1, (hc _).trans h2, (hc _).trans h3, (hc _).trans h4⟩
/-- A vertex whose lists are the call's own. -/
structure OwnV (B : Nat) (w : World) (u : Vv) : Prop where
  p : w.ownsRow B 86 4 (.slice u.po u.P.length u.pc) u.P.length (k4 .u8 u.P)
  h : w.ownsRow B 76 4 (.slice u.ho u.L.length u.hc) u.L.length (k4 .u32 u.L)
  pt : Txt u.P
  ht : Txt u.L
  pn : u.P.length ≤ maxLen
  hn : u.L.length ≤ maxLen
theorem OwnV.ok {B : Nat} {w : World} {u : Vv} (h : OwnV B w u) : u.ok w := ⟨rdk_own h.p, rdk_own h.h, h.pt, h.ht, h.pn, h.hn⟩
theorem row_apart {w : World} {B C T S e d n m : Nat} {v u : Value} {xs ys : List Value} (h : w.ownsRow B T e v n xs) (k : w.ownsRow C S d u m ys) (hTS : T ≠ S) {g : Nat} (hg : v.ownBlock = some g) : ¬ u.ownBlock = some g := by
  intro hu
  rcases h.2 with ⟨rfl, _⟩ | ⟨g1, cap, cur, rfl, _, h2, _⟩
  · simp [Value.ownBlock] at hg
  · rcases k.2 with ⟨rfl, _⟩ | ⟨g2, cap2, cur2, rfl, _, k2, _⟩
    · simp [Value.ownBlock] at hu
    · simp only [Value.ownBlock, Option.some.injEq] at hg hu
      subst hg
      subst hu
      rw [h2] at k2
      simp only [Option.some.injEq, Obj.cells.injEq] at k2
      exact hTS k2.2.1
theorem OwnV.below {B : Nat} {w w' : World} {u : Vv} (h : OwnV B w u) (hb : Below w.heap.size w w') : OwnV B w' u :=
  ⟨own_on h.p (fun g e => hb.block g (World.ownsRow.lt h.p g e).2), own_on h.h (fun g e => hb.block g (World.ownsRow.lt h.h g e).2), h.pt, h.ht, h.pn, h.hn⟩
theorem OwnV.grown {B C : Nat} {w w' : World} {u : Vv} {v : Value} {n e : Nat} {xs : List Value} (h : OwnV B w u) (hv : w.ownsRow C 28 e v n xs) (hg : w.grownBy w' v.ownBlock) : OwnV B w' u :=
  ⟨own_on h.p (fun g e => hg.block g (World.ownsRow.lt h.p g e).2 (fun e2 => row_apart h.p hv (by decide) e e2.symm)), own_on h.h (fun g e => hg.block g (World.ownsRow.lt h.h g e).2 (fun e2 => row_apart h.h hv (by decide) e e2.symm)), h.pt, h.ht, h.pn, h.hn⟩
theorem OwnV.low {B C : Nat} {w : World} {u : Vv} (h : OwnV B w u) (hB : C ≤ B) : OwnV C w u := ⟨v_low h.p hB, v_low h.h hB, h.pt, h.ht, h.pn, h.hn⟩
def TwI (w : World) (Vs : List Vv) (j : Nat) (v : Value) (wr : World) : Prop :=
  ∃ Us : List Vv, Us.length = j ∧ Us.map Vv.core = (Vs.take j).map Vv.core ∧ (∀ u ∈ Us, OwnV w.heap.size wr u) ∧ wr.ownsRow w.heap.size 28 4 v j (vcs (Us.map Vv.vx)) ∧ Below w.heap.size w wr
def TwinsOf (Vs : List Vv) (w : World) (e : Ending) (w' : World) : Prop :=
  ∃ (v' : Value) (Us : List Vv), e = .returned v' ∧ Us.map Vv.core = Vs.map Vv.core ∧ (∀ u ∈ Us, OwnV w.heap.size w' u) ∧ w'.ownsRow w.heap.size 28 4 v' Us.length (vcs (Us.map Vv.vx)) ∧ Below w.heap.size w w'
set_option maxRecDepth 100000 in
set_option maxHeartbeats 2000000 in
theorem twins_any (ao : Option Addr) (c : Nat) (Vs : List Vv) (w : World) (hV : RdW w ao Vs) (hn : Vs.length ≤ 1000000) :
    Calls Try.prog 10 #[.slice ao Vs.length c] w (TwinsOf Vs w) := by
  obtain ⟨i0, hi0, hz0⟩ := Option.map_eq_some_iff.1 info28
  simp only [Prod.mk.injEq] at hz0
  have hby : i0.bytes = 56 := by have := bytes28; rw [hi0] at this; simpa using this
  have HZ := Lib.hid (And.intro hi0 (And.intro hz0.1 (And.intro hz0.2 hby)))
  have HV := Lib.hid hV
  obtain ⟨n, hl⟩ : ∃ n, Vs.length = n := ⟨_, rfl⟩
  rw [hl] at hn ⊢
  have HN := Lib.hid hl
  clear hV hl hi0 hz0 hby
  go_enter Try.func10, Try.ntmps10
  go_wp2_with fail
  go_loopw [3, 8] (fun v u wr => ∃ (j : Nat), j ≤ n ∧ u = .int .i64 j ∧ Hid (TwI w Vs j v wr)) (fun _ u _ => n - (intOf u).toNat)
  case atStart => exact ⟨0, by omega, rfl, Lib.hid ⟨[], rfl, rfl, by simp, by simpa [vcs] using World.ownsRow_nil _ _ _ _, Below.refl _ _⟩⟩
  case round =>
    obtain ⟨j, hj, rfl, HA⟩ := hrel
    obtain ⟨Us, hU1, hU2, hU3, hrow, hb⟩ := HA.out
    obtain ⟨ao3, cap3, ev3, _⟩ := own4_slice hrow
    subst ev3
    have HU := Lib.hid (And.intro hU1 (And.intro hU2 (And.intro hU3 (And.intro hrow hb))))
    clear hU1 hU2 hU3 hrow hb HA
    by_cases hlt : j < n
    · obtain ⟨v, hv⟩ : ∃ v, Vs[j]? = some v := ⟨_, List.getElem?_eq_getElem (by have := HN.out; omega)⟩
      obtain ⟨hok, hs, g, og, rfl, hgl, c0, c1, c2, c3⟩ := (HV.out.below HU.out.2.2.2.2 (Nat.le_refl _)) j v hv
      have HS := Lib.hid hv
      have j1 : (j : Int) < (n : Int) := by omega
      have hbx := (Below.refl _ wr).alloc (Nat.le_refl _) (.cells #[.int .u32 v.id, .bool v.th, .slice v.po v.P.length v.pc, .slice v.ho v.L.length v.hc] 28)
      have HT := Lib.hid (twin_any v (wr.alloc (.cells #[.int .u32 v.id, .bool v.th, .slice v.po v.P.length v.pc, .slice v.ho v.L.length v.hc] 28)) (hok.below hbx (Nat.le_refl _)) hs)
      unfold Vv.val at HT
      have HOk := Lib.hid (And.intro hok hbx)
      clear hv hok hs hbx
      go_wp2_with (first
        | (go_at_call 21; refine HT.out.mono ?_; rintro e w3 ⟨po', pc', ho', hc', rfl, o1, o2, hb3⟩; have hbw := HU.out.2.2.2.2.trans ((HOk.out.2.trans (hb3.mono (by simp))).mono HU.out.2.2.2.2.size); have hrow3 := own_on HU.out.2.2.2.1 (fun g e => (HOk.out.2.trans (hb3.mono (by simp))).block g (World.ownsRow.lt HU.out.2.2.2.1 g e).2); have H3 := Lib.hid (And.intro o1 (And.intro o2 (And.intro hb3 (And.intro hbw hrow3)))); clear o1 o2 hb3 hbw hrow3)
        | (at_builtin; refine wpList_append_own _ rfl (.tmp 12) (.tmp 15) 22 rfl w.heap.size 28 i0 _ 4 56 Try.underlying22 HZ.out.1 HZ.out.2.1 HZ.out.2.2.1 HZ.out.2.2.2 rfl (by decide) (.slice ao3 j cap3) j (vcs (Us.map Vv.vx)) rfl (H3.out.2.2.2.2.alloc _) ⟨w3.heap.size, 0, none⟩ 1 1 (vcs [Vv.vx ⟨v.id, v.th, po', pc', v.P, ho', hc', v.L⟩]) rfl (by rw [vcs_len]; rfl) (World.news_of_block (heap_alloc_new w3 (.cells (Vx.cells (Vv.vx ⟨v.id, v.th, po', pc', v.P, ho', hc', v.L⟩)) 28))) (vcs_one _) (by unfold maxLen; omega) (by omega) (by have := H3.out.2.2.2.1.size; simp; omega) ?_; intro v5 w5 hown5 hgrow5 hnil5; have H5 := Lib.hid (And.intro hown5 hgrow5); clear hown5 hgrow5 hnil5))
      have hE := Lib.hid (show TwI w Vs (j + 1) v5 w5 from by
        have hb35 := H3.out.2.2.2.1
        have hA3 := (Below.refl _ w3).alloc (Nat.le_refl _) (.cells (Vx.cells (Vv.vx ⟨v.id, v.th, po', pc', v.P, ho', hc', v.L⟩)) 28)
        have hrowA := H3.out.2.2.2.2.alloc (.cells (Vx.cells (Vv.vx ⟨v.id, v.th, po', pc', v.P, ho', hc', v.L⟩)) 28)
        refine ⟨Us ++ [⟨v.id, v.th, po', pc', v.P, ho', hc', v.L⟩], by simp [HU.out.1], ?_, fun u hu => ?_, ?_, ?_⟩
        · rw [take_next HS.out, List.map_append, List.map_append, HU.out.2.1]; rfl
        · refine OwnV.grown ?_ hrowA H5.out.2
          refine OwnV.below ?_ hA3
          rcases List.mem_append.1 hu with hu | hu
          · exact (HU.out.2.2.1 u hu).below (HOk.out.2.trans (H3.out.2.2.1.mono (by simp)))
          · rw [List.mem_singleton.1 hu]
            exact (OwnV.mk H3.out.1 H3.out.2.1 HOk.out.1.pt HOk.out.1.ht HOk.out.1.pn HOk.out.1.hn : OwnV _ w3 ⟨v.id, v.th, po', pc', v.P, ho', hc', v.L⟩).low (by have := HU.out.2.2.2.2.size; simp; omega)
        · rw [List.map_append, vcs_app]; exact H5.out.1
        · exact (hb35.alloc hb35.size _).grown H5.out.2 (by have := hb35.size; simp; omega) (fun g e => (World.ownsRow.lt H3.out.2.2.2.2 g e).1))
      refine ⟨⟨j + 1, by omega, by go_num, hE⟩, by simp [intOf]; omega⟩
    · obtain rfl : j = n := by omega
      have HE := Lib.hid (show TwinsOf Vs w (.returned (.slice ao3 j cap3)) wr from ⟨_, Us, rfl, by have := HU.out.2.1; rwa [List.take_of_length_le (by rw [HN.out]; exact Nat.le_refl _)] at this, HU.out.2.2.1, by rw [HU.out.1]; exact HU.out.2.2.2.1, HU.out.2.2.2.2⟩)
      go_wp2_with fail
      go_ret
      exact HE.out
end Go.Proofs.Ytgjjfodogkcmmaa.Gh
