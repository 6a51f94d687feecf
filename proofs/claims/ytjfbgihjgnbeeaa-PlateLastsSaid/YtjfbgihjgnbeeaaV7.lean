/- plate: the law on what lasts, walked. -/
import Derived.Test.YtjfbgihjgnbeeaaV6
namespace Go.Proofs.Ytjfbgihjgnbeeaa.Pl
open Go Go.RowKit
attribute [local go_sem ↓] Go.wp_at_zero Go.wp_at_succ
/-- All that was written is in the lists. -/
def Cov (l : List (Int × Array Value × Array Value)) (H : Nat → List (Array Value)) (k : Nat) : Prop :=
  (∀ t ∈ l, ∃ q : Nat, q < 8 ∧ t.1 = q ∧ t.2.2 ∈ H q) ∧ ∀ q, q < 8 → (∀ c ∈ H q, IsPage c) ∧ (H q).length ≤ k
theorem Cov.push {l : List (Int × Array Value × Array Value)} {H : Nat → List (Array Value)} {k : Nat} (h : Cov l H k) {i : Nat} (hi : i < 8) (p c : Array Value) (hc : IsPage c) : Cov (l ++ [((i : Int), p, c)]) (more1 H i c) (k + 1) := by
  refine ⟨fun t ht => ?_, fun q hq => ?_⟩
  · rcases List.mem_append.1 ht with ht | ht
    · obtain ⟨q, h1, h2, h3⟩ := h.1 t ht
      refine ⟨q, h1, h2, ?_⟩
      simp only [more1]
      split
      · rename_i e; subst e; exact List.mem_append_left _ h3
      · exact h3
    · rw [List.mem_singleton.1 ht]
      exact ⟨i, hi, rfl, by simp [more1]⟩
  · have := h.2 q hq
    simp only [more1]
    split
    · rename_i e; subst e
      refine ⟨fun d hd => ?_, by simp; omega⟩
      rcases List.mem_append.1 hd with hd | hd
      · exact this.1 d hd
      · rw [List.mem_singleton.1 hd]; exact hc
    · exact ⟨this.1, by omega⟩
theorem Same.of_grown {G : Nat → Prop} {W W' : World} {r : Option Nat} (hg : W.grownBy W' r) (hfit : ∀ k, G k → k < W.heap.size) (hr : ∀ g, r = some g → ¬ G g) : Same G W W' := fun k hk => hg.block k (hfit k hk) (fun e => hr k e.symm hk)
theorem Pt.turn {B b bm m : Nat} {G : Nat → Prop} {s : PSt} {W W' : World} (h : Pt B b bm m G s W) (ht : Turned G W W') : Pt B b bm m (fun k => G k ∨ (W.heap.size ≤ k ∧ k < W'.heap.size)) s W' := by
  obtain ⟨v, F, n, h1, h2, h3, h4⟩ := h
  refine ⟨v, F, n, h1.on ht h3, h2, fun k hk => ?_, fun k hk => ?_⟩
  · rintro (hG | hG)
    · exact h3 k hk hG
    · have := h1.hi k hk; omega
  · rcases hk with hG | hG
    · exact Nat.lt_of_lt_of_le (h4 k hG) ht.size
    · exact hG.2
/-- A plate, the lists of what was written (in blocks of Ga), the pages as they were (in blocks of Gp). -/
def Ls (w : World) (B b bm x g0 m : Nat) (Gp : Nat → Prop) (pg0 : Int → Array Value) (s : PSt) (H : Nat → List (Array Value)) (W : World) : Prop :=
  ∃ (Gt Ga : Nat → Prop) (hs : Nat → Value) (xs : Nat → List Value), Pt B b bm m Gt s W ∧ (∀ k, Gp k → Gt k) ∧ (∀ k, Ga k → Gt k) ∧ (∀ k, Ga k → ¬ Gp k) ∧ ArrH Ga B x H hs xs W ∧ PgS Gp pg0 g0 W ∧ Below w.heap.size w W
theorem ls_round {w wu w16 w3 : World} {B b bm x g0 m z zt gt g16 c16 g3 c3 : Nat} {Gt Ga Gp : Nat → Prop} {pg0 : Int → Array Value} {s : PSt} {H : Nat → List (Array Value)} {hs : Nat → Value} {xs : Nat → List Value} {bs : List Value} {c : Array Value} {O : Obj}
    (hP : Pt B b bm m (fun k => Gt k ∨ (z ≤ k ∧ k < zt)) s wu) (hpt : ∀ k, Gp k → Gt k) (hat : ∀ k, Ga k → Gt k) (hdis : ∀ k, Ga k → ¬ Gp k) (hA : ArrH Ga B x H hs xs wu) (hS : PgS Gp pg0 g0 wu) (hB : Below w.heap.size w wu)
    (hfit : ∀ k, Gt k → k < z) (hgt : z ≤ gt ∧ gt < zt) (hzt : z ≤ wu.heap.size ∧ zt ≤ wu.heap.size) (hwB : w.heap.size ≤ B) (hwz : w.heap.size ≤ z) (hwx : w.heap.size ≤ x)
    (hO16 : w16.ownsRow z 5 1 (.slice (some ⟨g16, 0, none⟩) 64 c16) 64 bs) (hbs : bs = c.toList) (hg16 : wu.grownBy w16 (some gt)) (hat16 : g16 = gt ∨ g16 = wu.heap.size)
    {k : Nat} (hk : k < 8) (hown3 : w3.ownsRow B 31 1 (.slice (some ⟨g3, 0, none⟩) ((xs k).length + 1) c3) ((xs k).length + 1) (xs k ++ [.slice (some ⟨g16, 0, none⟩) 64 c16])) (hgrow3 : (w16.alloc O).grownBy w3 (hs k).ownBlock) (hat3 : (hs k).ownBlock = some g3 ∨ g3 = w16.heap.size + 1) :
    Ls w B b bm x g0 m Gp pg0 s (more1 H k c) (w3.setCell ⟨x, k, none⟩ (.slice (some ⟨g3, 0, none⟩) ((xs k).length + 1) c3)) := by
  have sz16 := hg16.size
  have szo : (w16.alloc O).heap.size = w16.heap.size + 1 := by simp
  have sz3 := hgrow3.size
  have hGaf : ∀ k, Ga k → k < z := fun k h => hfit k (hat k h)
  have hx := hA.2.1
  have hrow := (hA.2.2.1 k hk).2.1
  have hrowB := (hA.2.2.1 k hk).1
  have hgtGa : ¬ Ga gt := fun h => by have := hGaf gt h; omega
  have hs1 : Same Ga wu w16 := Same.of_grown hg16 (fun k h => by have := hGaf k h; omega) (fun g e => by injection e with e; subst e; exact hgtGa)
  have hs2 : Same Ga w16 (w16.alloc O) := Same.of_grown (World.grownBy_alloc w16 O none) (fun k h => by have := hGaf k h; omega) (fun g e => by cases e)
  have hA2 := hA.on (hs1.trans hs2) (G' := fun i => Ga i ∨ i = g16) (fun _ h => .inl h)
  have hg16lt : g16 < w16.heap.size := (World.ownsRow.lt hO16 g16 rfl).2
  have hq : ∃ cs, (w16.alloc O).heap[g16]? = some (.cells cs 5 (0, 0)) ∧ ∀ (i : Nat) (u : Value), c.toList[i]? = some u → cs[i]? = some u := by
    rcases hO16.2 with ⟨h0, _⟩ | ⟨b', cap', cur, h0, _, hb', hrest⟩
    · cases h0
    · have e : b' = g16 := by injection h0 with e; injection e with e; injection e with e; exact e.symm
      subst e
      refine ⟨cur, ((World.grownBy_alloc w16 O none).block b' hg16lt (by simp)).trans hb', fun i u hu => ?_⟩
      have := hO16.cells (g := b') rfl i u (by rw [hbs]; exact hu)
      rw [Go.WideShapes.add_plain, Nat.zero_add, cell_of_row _ _ i _ 5 (0, 0) hb'] at this
      exact this
  obtain ⟨cs, hcs1, hcs2⟩ := hq
  have hcap : 64 ≤ c16 := by
    rcases hO16.2 with ⟨h0, _⟩ | ⟨b', cap', cur, h0, _, hb', hnc, _⟩
    · cases h0
    · injection h0 with e1 e2 e3
      omega
  obtain ⟨hs', xs', hA3, hsz⟩ := arr_push hA2 (fun i h => by rcases h with h | h; · have := hGaf i h; omega
                                                             · omega) hk (q := g16) (capq := c16) (c := c) (cs := cs) (.inr rfl) hcap hcs1 hcs2 hown3 hgrow3 (by rw [szo]; exact hat3)
  have hrowz : ∀ g, (hs k).ownBlock = some g → B ≤ g := fun g e => (World.ownsRow.lt hrowB g e).1
  -- what has turned
  have t1 : Turned (fun k => Gt k ∨ (z ≤ k ∧ k < zt)) wu w16 := .of_grown hg16 (fun i e => by injection e with e; subst e; exact .inr hgt)
  have t2 : Turned (fun _ => False) w16 (w16.alloc O) := .of_grown (World.grownBy_alloc w16 O none) (fun i e => by cases e)
  have t3 : Turned (fun i => (hs k).ownBlock = some i) (w16.alloc O) w3 := .of_grown hgrow3 (fun i e => e)
  have t4 : Turned (fun i => i = x) w3 (w3.setCell ⟨x, k, none⟩ (.slice (some ⟨g3, 0, none⟩) ((xs k).length + 1) c3)) := .of_grown (grown_set w3 x k _) (fun i e => by injection e with e; exact e.symm)
  have tt := ((t1.trans t2 (fun i h => h.elim)).trans t3 (fun i e => .inl (.inl (hat i (hrow i e))))).trans t4 (fun i e => .inl (.inl (by rw [e]; exact hat x hx)))
  have hsame : Same Gp wu (w3.setCell ⟨x, k, none⟩ (.slice (some ⟨g3, 0, none⟩) ((xs k).length + 1) c3)) := fun i hi => by
    have hiz := hfit i (hpt i hi)
    have a1 := t1.size
    rw [t4.block i (by omega) (fun e => hdis x hx (by rw [← e]; exact hi)), t3.block i (by omega) (fun e => hdis i (hrow i e) hi), t2.block i (by omega) (fun h => h)]
    exact hg16.block i (by omega) (fun e => by injection e with e; omega)
  have hbel : Below w.heap.size w (w3.setCell ⟨x, k, none⟩ (.slice (some ⟨g3, 0, none⟩) ((xs k).length + 1) c3)) := by
    refine hB.trans ⟨tt.os, tt.tape, tt.output, tt.size, fun i hi => ?_⟩
    have a0 := hB.size
    have a1 := t1.size
    rw [t4.block i (by omega) (fun e => by omega), t3.block i (by omega) (fun e => by have := hrowz i e; omega), t2.block i (by omega) (fun h => h)]
    exact hg16.block i (by omega) (fun e => by injection e with e; omega)
  have hg3 : g3 < w3.heap.size := (World.ownsRow.lt hown3 g3 rfl).2
  refine ⟨_, fun i => (Ga i ∨ i = g16) ∨ i = g3, hs', xs', hP.turn tt, fun i h => .inl (.inl (hpt i h)), fun i h => ?_, fun i h hi => ?_, hA3, hS.on hsame, hbel⟩
  · rw [hsz]
    rcases h with (h | h) | h
    · exact .inl (.inl (hat i h))
    · subst h
      rcases hat16 with e | e
      · rw [e]; exact .inl (.inr hgt)
      · exact .inr ⟨by omega, by omega⟩
    · subst h
      rcases hat3 with e | e
      · exact .inl (.inl (hat i (hrow i e)))
      · exact .inr ⟨by omega, by omega⟩
  · have hiz := hfit i (hpt i hi)
    rcases h with (h | h) | h
    · exact hdis i h hi
    · rcases hat16 with e | e <;> omega
    · rcases hat3 with e | e
      · exact hdis i (hrow i (by rw [h]; exact e)) hi
      · omega
/-- Between two rounds of the loop that writes. -/
def LsI (w : World) (B b bm x g0 : Nat) (Gp : Nat → Prop) (s0 : PSt) (M : List OpV) (k : Nat) (W : World) : Prop :=
  ∃ H : Nat → List (Array Value), Ls w B b bm x g0 (30 + k) Gp s0.pg (more s0 M k) H W ∧ Cov (more s0 M k).op H k
set_option maxRecDepth 100000 in
set_option maxHeartbeats 1000000 in
theorem lasts_any (ao : Option Addr) (n c : Nat) (L : List OpV) (am : Option Addr) (nm cm : Nat) (M : List OpV) (ak : Option Addr) (lk ck : Nat) (ks : List Value) (w : World)
    (hn : L.length = n) (hc : n ≤ maxLen) (hA : OpsAt w ao L) (hr : ∀ o ∈ L, 0 ≤ o.kd ∧ o.kd ≤ 255 ∧ -9223372036854775808 ≤ o.ix ∧ o.ix ≤ 9223372036854775807)
    (hnm : M.length = nm) (hcm : nm ≤ maxLen) (hAm : OpsAt w am M) (hrm : ∀ o ∈ M, 0 ≤ o.kd ∧ o.kd ≤ 255 ∧ -9223372036854775808 ≤ o.ix ∧ o.ix ≤ 9223372036854775807)
    (hlk : ks.length = lk) (hck : lk ≤ ck) (hmk : ck ≤ maxLen) (hsk : Src w ak ks) (hnk : ak = none → ck = 0) (h47 : lk ≤ 140737488351232) :
    Calls Try.prog 4 #[.slice ao n c, .slice am nm cm, .slice ak lk ck] w fun e w' => e = .returned (.bool true) ∧ Below w.heap.size w w' := by
  have HN := Lib.hid (And.intro hn hc)
  have HA := Lib.hid hA
  have HR := Lib.hid hr
  have HNM := Lib.hid hnm
  have HAM := Lib.hid hAm
  have HRM := Lib.hid hrm
  have HK := Lib.hid (And.intro hlk (And.intro hck (And.intro hmk (And.intro hsk hnk))))
  have H47 := Lib.hid h47
  clear h47
  unfold maxLen at hcm
  clear hn hc hA hr hnm hAm hrm hlk hck hmk hsk hnk
  go_enter Try.func4, Try.ntmps4
  go_wp2_with fail
  refine (awake_any w).mono ?_
  rintro e w1 ⟨rfl, hB1⟩
  have HB1 := Lib.hid hB1
  have HW1 := Lib.hid hB1.size
  clear hB1
  go_wp2_with fail
  refine (some_any ao n c L w1 HN.out.1 HN.out.2 (HA.out.below HB1.out) HR.out).mono ?_
  rintro e w2 hS
  obtain ⟨b, bm, rfl, hP2, hB2⟩ := pt_some hS
  have HP2 := Lib.hid hP2
  have HW2 := Lib.hid hB2.size
  have HB2 := Lib.hid (HB1.out.trans (hB2.mono HB1.out.size))
  clear hS hP2 hB2
  go_wp2_with fail
  refine (pt_pages HP2.out (fine_ends L).2.1 (fine_ends L).1).mono ?_
  rintro e w3 ⟨g3, c3, rfl, hc3, hS3, hP3, hB3⟩
  have HS3 := Lib.hid hS3
  have HP3 := Lib.hid hP3
  have HW3 := Lib.hid (Nat.le_trans HW2.out hB3.size)
  have HB3 := Lib.hid (HB2.out.trans (hB3.mono HB2.out.size))
  clear hS3 hP3 hB3 HP2 HB2
  generalize (fun j => False ∨ (w2.heap.size ≤ j ∧ j < w3.heap.size)) = G at *
  go_upto_block 0 with fail
  have hI0 : LsI w w1.heap.size b bm w3.heap.size g3 G (ends L) M 0 (w3.alloc (.cells #[.slice none 0 0, .slice none 0 0, .slice none 0 0, .slice none 0 0, .slice none 0 0, .slice none 0 0, .slice none 0 0, .slice none 0 0] 45)) := by
    have hb : Below w3.heap.size w3 (w3.alloc (.cells #[.slice none 0 0, .slice none 0 0, .slice none 0 0, .slice none 0 0, .slice none 0 0, .slice none 0 0, .slice none 0 0, .slice none 0 0] 45)) := (Below.refl _ _).alloc (Nat.le_refl _) _
    refine ⟨fun _ => [], ⟨fun k => G k ∨ (w3.heap.size ≤ k ∧ k < (w3.alloc (.cells #[.slice none 0 0, .slice none 0 0, .slice none 0 0, .slice none 0 0, .slice none 0 0, .slice none 0 0, .slice none 0 0, .slice none 0 0] 45)).heap.size), fun k => k = w3.heap.size, fun _ => .slice none 0 0, fun _ => [], ?_, fun _ h => .inl h, fun k hk => .inr ⟨by omega, by subst hk; simp⟩, fun k hk hG => by have := HP3.out.fits k hG; omega, ⟨heap_alloc_new w3 _, rfl, fun k hk => ⟨World.ownsRow_nil _ _ _ _, fun g e => by simp [Value.ownBlock] at e, rfl, fun j c hj => by simp at hj⟩, fun k l g hk hl hkl e => by simp [Value.ownBlock] at e⟩, HS3.out.on (Same.of_below hb HP3.out.fits), HB3.out.trans (hb.mono HB3.out.size)⟩, ?_⟩
    · have := HP3.out.new hb
      simpa [more] using this
    · refine ⟨fun t ht => ?_, fun q hq => ⟨fun c hc => by simp at hc, by simp⟩⟩
      simp only [more, List.take_zero, List.foldl_nil, (ends_ok L).2.2.2.1] at ht
      cases ht
  have HI := Lib.hid hI0
  clear hI0 HP3 HS3
  have HX3 := Lib.hid HB3.out.size
  clear HB3
  go_cut [11, 12, 13, 14] from 40 to 77 (fun _ _ _ _ wx => Hid (LsI w w1.heap.size b bm w3.heap.size g3 G (ends L) M (min nm 20) wx))
  case first =>
    generalize (w3.alloc (.cells #[.slice none 0 0, .slice none 0 0, .slice none 0 0, .slice none 0 0, .slice none 0 0, .slice none 0 0, .slice none 0 0, .slice none 0 0] 45)) = wz at *
    generalize w3.heap.size = x at *
    have HXw := HX3
    go_wp2_with fail
    go_loopw [40] (fun i wr => ∃ k : Nat, k ≤ 20 ∧ k ≤ nm ∧ i = .int .i64 k ∧ Hid (LsI w w1.heap.size b bm x g3 G (ends L) M k wr)) (fun i _ => 21 - (intOf i).toNat)
    case atStart => exact ⟨0, by omega, by omega, rfl, HI⟩
    case round =>
      obtain ⟨k, hk, hkn, rfl, HIk⟩ := hrel
      clear HI
      by_cases hlt : k < nm
      · have ho : M[k]? = some (M[k]'(by rw [HNM.out]; exact hlt)) := List.getElem?_eq_getElem _
        generalize M[k]'(by rw [HNM.out]; exact hlt) = o at ho
        obtain ⟨b0, off, bo, m, c', rfl, hb0, c0, c1, c2, hbs, hmc, hcm', hsrc, hno⟩ := HAM.out k o ho
        have HO := Lib.hid ho
        have hkd := HRM.out o (List.mem_of_getElem? ho)
        obtain ⟨H0, ⟨Gt, Ga, hs, xs, hPk, hpt, hat, hdis, hAk, hSk, hBk⟩, hCk⟩ := HIk.out
        have HD := Lib.hid (And.intro hpt (And.intro hat hdis))
        clear hpt hat hdis
        replace c0 := (hBk.cell (p := ⟨b0, off + k * 3, none⟩) hb0).trans c0
        replace c1 := (hBk.cell (p := ⟨b0, off + k * 3 + 1, none⟩) hb0).trans c1
        replace c2 := (hBk.cell (p := ⟨b0, off + k * 3 + 2, none⟩) hb0).trans c2
        have hB2 : Below wr.heap.size wr (wr.alloc (.cells #[.int .u8 o.kd, .int .i64 o.ix, .slice bo m c'] 33)) := (Below.refl _ _).alloc (Nat.le_refl _) _
        have HB2 := Lib.hid hB2
        have HPk := Lib.hid hPk
        have HAk := Lib.hid hAk
        have HSk := Lib.hid hSk
        have HBk := Lib.hid hBk
        have HCk := Lib.hid hCk
        have e0 : (wr.alloc (.cells #[.int .u8 o.kd, .int .i64 o.ix, .slice bo m c'] 33)).cell? ⟨wr.heap.size, 0, none⟩ = some (.int .u8 o.kd) := by rw [World.cell?_alloc_new]; rfl
        have e1 : (wr.alloc (.cells #[.int .u8 o.kd, .int .i64 o.ix, .slice bo m c'] 33)).cell? ⟨wr.heap.size, 1, none⟩ = some (.int .i64 o.ix) := by rw [World.cell?_alloc_new]; rfl
        have e2 : (wr.alloc (.cells #[.int .u8 o.kd, .int .i64 o.ix, .slice bo m c'] 33)).cell? ⟨wr.heap.size, 2, none⟩ = some (.slice bo m c') := by rw [World.cell?_alloc_new]; rfl
        obtain ⟨q, hq⟩ : ∃ q : Nat, q = min m 64 := ⟨_, rfl⟩
        have hqm : (if (64 : Int) < (m : Int) then (64 : Int) else (m : Int)) = (q : Int) := by split <;> omega
        have hq0 : (0 : Int) ≤ (q : Int) := by omega
        have hq1 : (q : Int) ≤ (c' : Int) := by omega
        have hql : (o.bs.take 64).length = q := by rw [List.length_take, hbs]; omega
        have hq64 : q ≤ 64 := by omega
        have hqn : bo = none → q = 0 ∧ c' = 0 := fun e => by have := hno e; omega
        have HQL := Lib.hid hql
        have HBY := Lib.hid hsrc.2
        have HT := Lib.hid (show ∀ W, Below w.heap.size w W → Calls Try.prog 15 #[.slice bo q c'] W (TwinR q (o.bs.take 64) W) from fun W hW =>
          twin_any bo q c' _ W hql (by omega) ((hsrc.on (below_grown hW) (fun _ _ => by simp)).take 64) hqn)
        obtain ⟨ki, hki⟩ : ∃ ki : Nat, o.ix % 8 = (ki : Int) := ⟨(o.ix % 8).toNat, by omega⟩
        have hk8 : ki < 8 := by omega
        have hk8' : (ki : Int) < 8 := by omega
        have hw8 := wrap8 o.ix
        rw [hki] at hw8
        have HKI := Lib.hid hki
        obtain ⟨r, hr⟩ : ∃ r : Nat, (64 : Int) - (q : Int) = (r : Int) := ⟨64 - q, by omega⟩
        have hwr : IntKind.i64.wrap (r : Int) = (r : Int) := by simp [IntKind.wrap, IntKind.bits, IntKind.signed]; omega
        have HR1 := Lib.hid (show q + r = 64 by omega)
        clear hq hql hqn hbs hno hB2 hBk hsrc hki hPk hAk hSk hCk
        by_cases h20 : k < 20
        · have d20 : decide ((20 : Int) ≤ (k : Int)) = false := by simp; omega
          go_wp2_with fail
          clear c0 c1 c2
          refine (HT.out _ (HBk.out.trans (HB2.out.mono HBk.out.size))).mono ?_
          rintro e wt ⟨gt, ct, rfl, hOt, hBt⟩
          have hBrt : Below wr.heap.size wr wt := HB2.out.trans (hBt.mono HB2.out.size)
          have HPt := Lib.hid (HPk.out.new hBrt)
          have hSm : Same Gt wr wt := Same.of_below hBrt HPk.out.fits
          have HAt := Lib.hid (HAk.out.on (hSm.mono HD.out.2.1) (G' := Ga) (fun _ h => h))
          have HSt := Lib.hid (HSk.out.on (hSm.mono HD.out.1))
          have HBt := Lib.hid (HBk.out.trans (hBrt.mono HBk.out.size))
          have hgt := World.ownsRow.lt hOt gt rfl
          have HGt := Lib.hid (show wr.heap.size ≤ gt ∧ gt < wt.heap.size from ⟨Nat.le_trans HB2.out.size hgt.1, hgt.2⟩)
          have HOt := Lib.hid (hOt.low (B := wr.heap.size) HB2.out.size)
          have HSrt := Lib.hid (own_src hOt (fun x hx => HBY.out x (List.mem_of_mem_take hx)))
          have HFit := Lib.hid HPk.out.fits
          have HWr := Lib.hid HBk.out.size
          clear hOt hBt hBrt hSm hgt HPk HAk HSk HBk HB2 HT e0 e1 e2
          go_wp2_with fail
          refine (pt_write0 HPt.out (more_fine (fine_ends L) M k) (by omega) (by omega) ki hk8 gt q ct (o.bs.take 64) HQL.out hq64 HSrt.out).mono ?_
          rintro e wu ⟨rfl, hPu, hBu, hSu⟩
          have HPu := Lib.hid hPu
          have hSm : Same Gt wt wu := hSu.mono (fun k hk => .inl hk)
          have hAu := HAt.out.on (hSm.mono HD.out.2.1) (G' := Ga) (fun _ h => h)
          have HAu := Lib.hid hAu
          have HSu := Lib.hid (HSt.out.on (hSm.mono HD.out.1))
          have HBu := Lib.hid (HBt.out.trans (hBu.mono HW1.out))
          have hOu := own_on HOt.out (fun g e => by
            have e' : gt = g := by simpa [Value.ownBlock] using e
            subst e'
            exact hSu gt (.inr HGt.out))
          have HOu := Lib.hid hOu
          have HZu := Lib.hid (show wr.heap.size ≤ wu.heap.size ∧ wt.heap.size ≤ wu.heap.size from ⟨by have := HGt.out; have := hBu.size; omega, hBu.size⟩)
          obtain ⟨i0, hi, hz0, hz1, hz2⟩ := info_parts info31
          have hxu : wu.cell? ⟨x, ki, none⟩ = some (hs ki) := arr_cell hAu hk8
          have hGaf : ∀ k, Ga k → k < wr.heap.size := fun k h => HFit.out k (HD.out.2.1 k h)
          -- the way through what makes memory
          have HM16 := Lib.hid (show ∀ w16, wu.grownBy w16 (some gt) → ∀ (O : Obj), (w16.alloc O).ownsRow w1.heap.size 31 1 (hs ki) (xs ki).length (xs ki) ∧ w16.cell? ⟨x, ki, none⟩ = some (hs ki) ∧ w1.heap.size ≤ w16.heap.size from fun w16 hg O => by
            have hs1 : Same Ga wu w16 := Same.of_grown hg (fun k h => by have := hGaf k h; have := HZu.out; omega) (fun g e h => by injection e with e; have := hGaf g h; have := HGt.out; omega)
            have h1 := hAu.on hs1 (G' := Ga) (fun _ h => h)
            exact ⟨(h1.2.2.1 ki hk8).1.alloc O, arr_cell h1 hk8, by have := hg.size; have := hPu.base; omega⟩)
          have HLk := Lib.hid (show (xs ki).length ≤ 20 by have := (hAu.2.2.1 ki hk8).2.2.1; have := (HCk.out.2 ki hk8).2; omega)
          have HXX := Lib.hid (show ∀ (w16 w3 : World) (O : Obj), wu.grownBy w16 (some gt) → (w16.alloc O).grownBy w3 (hs ki).ownBlock → w3.cell? ⟨x, ki, none⟩ = some (hs ki) ∧ w3.frozen? ⟨x, ki, none⟩ = false from fun w16 w3 O hg hg3 => by
            have hs1 : Same Ga wu w16 := Same.of_grown hg (fun k h => by have := hGaf k h; have := HZu.out; omega) (fun g e h => by injection e with e; have := hGaf g h; have := HGt.out; omega)
            have hx1 : (w16.alloc O).heap[x]? = some (.cells ((List.range 8).map hs).toArray 45 (0, 0)) := ((World.grownBy_alloc w16 O none).block x (by have := hGaf x hAu.2.1; have := HZu.out; have := hg.size; omega) (by simp)).trans ((hs1 x hAu.2.1).trans hAu.1)
            have hx3 : w3.heap[x]? = some (.cells ((List.range 8).map hs).toArray 45 (0, 0)) := (hg3.block x (Array.getElem?_eq_some_iff.1 hx1).1 (fun e => by
              rcases (hAu.2.2.1 ki hk8).1.2 with ⟨h0, _⟩ | ⟨b', cap', cur, h0, _, hb', _⟩
              · rw [h0] at e; simp [Value.ownBlock] at e
              · rw [h0] at e
                have : x = b' := by simpa [Value.ownBlock] using e
                subst this
                rw [hAu.1] at hb'
                cases hb')).trans hx1
            refine ⟨?_, free6 hx3⟩
            rw [cell_of_row _ _ ki _ 45 (0, 0) hx3]
            simp [List.getElem?_map, List.getElem?_range hk8])
          clear hPu hBu hSu hSm HPt HAt HSt HBt HOt HSrt hAu hOu
          go_upto_region 18 with fail
          go_region_law (first
            | ((fail_if_success (have hh := hO16)); refine step_append_page (by rfl) (.tmp 69) (.tmp 72) (by rfl) wr.heap.size gt q ct r (o.bs.take 64) (by kernel_rfl) (by kernel_rfl) HOu.out HZu.out.1 (by omega) (by omega) HR1.out ?_; intro g16 c16 w16 hO16 hg16' hat16; have hg16 : wu.grownBy w16 (some gt) := ⟨hg16'.os, hg16'.tape, hg16'.output, hg16'.size, hg16'.block⟩; have hx16 := (HM16.out w16 hg16 (.cells #[.slice (some ⟨g16, 0, none⟩) 64 c16] 31)).2.1; have hx16a : (w16.alloc (.cells #[.slice (some ⟨g16, 0, none⟩) 64 c16] 31)).cell? ⟨x, ki, none⟩ = some (hs ki) := ((World.grownBy_alloc w16 _ none).cell_far ⟨x, ki, none⟩ (World.block_lt_of_cell? w16 _ hx16) (by simp)).trans hx16)
            | (have hh := hO16; clear hh; refine step_append_lies _ (by rfl) (.tmp 68) (.tmp 74) 42 (by rfl) w1.heap.size 31 i0 _ 1 24 Try.underlying42 hi hz0 hz1 hz2 rfl (by decide) (hs ki) (xs ki).length (xs ki) (by kernel_rfl) (HM16.out w16 hg16 _).1 ⟨w16.heap.size, 0, none⟩ 1 1 [.slice (some ⟨g16, 0, none⟩) 64 c16] (by kernel_rfl) (by rfl) (fun j u hu => news_at w16 #[.slice (some ⟨g16, 0, none⟩) 64 c16] 31 j u hu) (fun u hu => by rw [List.mem_singleton.1 hu]; rfl) (by decide) (by have := HLk.out; unfold maxLen; omega) (by have := HLk.out; omega) (by have := (HM16.out w16 hg16 (.cells #[.slice (some ⟨g16, 0, none⟩) 64 c16] 31)).2.2; simp; omega) (w16.heap.size + 1) (by simp) ?_; intro g3' c3' w3' hown3 hgrow3 hat3 _; obtain ⟨hc3x, hf3x⟩ := HXX.out w16 w3' _ hg16 hgrow3))
          all_goals
            have hbsp : o.bs.take 64 ++ zs r = (pageOf (o.bs.take 64)).toList := by
              simp only [pageOf, splice, List.take_zero, List.nil_append, Zp, Nat.zero_add, List.drop_replicate, zs]
              rw [HQL.out, show 64 - q = r by omega]
            have hfin := ls_round (w := w) (O := .cells #[.slice (some ⟨g16, 0, none⟩) 64 c16] 31) HPu.out HD.out.1 HD.out.2.1 HD.out.2.2 HAu.out HSu.out HBu.out HFit.out HGt.out HZu.out HW1.out HWr.out HXw.out hO16 hbsp hg16 hat16 hk8 hown3 ⟨hgrow3.os, hgrow3.tape, hgrow3.output, hgrow3.size, hgrow3.block⟩ hat3
            have HR6 := Lib.hid (show LsI w w1.heap.size b bm x g3 G (ends L) M (k + 1) (w3'.setCell ⟨x, ki, none⟩ (.slice (some ⟨g3', 0, none⟩) ((xs ki).length + 1) c3')) from ⟨more1 H0 ki (pageOf (o.bs.take 64)), by
              have e : more (ends L) M (k + 1) = wrote (more (ends L) M k) ki (pageOf (o.bs.take 64)) := by rw [more_succ HO.out, stepW, HKI.out]
              show Ls w w1.heap.size b bm x g3 (30 + k + 1) G (ends L).pg (more (ends L) M (k + 1)) _ _ ∧ Cov (more (ends L) M (k + 1)).op _ (k + 1)
              rw [e]
              exact ⟨hfin, HCk.out.push hk8 _ _ (page_of (by rw [HQL.out]; exact hq64) (fun x hx => HBY.out x (List.mem_of_mem_take hx)))⟩⟩)
            clear hfin hbsp
            go_wp2_with fail
            go_roundw
            case rel => exact ⟨k + 1, by omega, by omega, by go_num, HR6⟩
            case measure => simp [intOf]; omega
        · have d20 : decide ((20 : Int) ≤ (k : Int)) = true := by simp; omega
          obtain rfl : k = 20 := by omega
          have hmin : min nm 20 = 20 := by omega
          have HE := Lib.hid (show LsI w w1.heap.size b bm x g3 G (ends L) M (min nm 20) (wr.alloc (.cells #[.int .u8 o.kd, .int .i64 o.ix, .slice bo m c'] 33)) from by
            rw [hmin]
            have hS := Same.of_below HB2.out HPk.out.fits
            exact ⟨H0, ⟨Gt, Ga, hs, xs, HPk.out.below HB2.out, HD.out.1, HD.out.2.1, HD.out.2.2, HAk.out.on (hS.mono HD.out.2.1) (fun _ h => h), HSk.out.on (hS.mono HD.out.1), HBk.out.trans (HB2.out.mono HBk.out.size)⟩, HCk.out⟩)
          go_wp2_with fail
          go_meet
          case rel => exact HE
      · obtain rfl : k = nm := by omega
        have hmin : min k 20 = k := by omega
        go_wp2_with fail
        go_meet
        case rel => rw [hmin]; exact HIk
  case rest =>
    obtain ⟨H, ⟨Gt, Ga, hs, xs, hP, hpt, hat, hdis, hA, hS, hB⟩, hC⟩ := hcut.out
    have hK : min nm 20 ≤ 20 := by omega
    have hcl := HX3.out
    clear hcut HI
    generalize min nm 20 = K at *
    generalize w3.heap.size = x at *
    have HFp := Lib.hid (more_fine (fine_ends L) M K)
    have HLp := Lib.hid (more_lead (lead_ends L) M K)
    have HOp := Lib.hid (show (more (ends L) M K).op.length ≤ 20 from by have := more_op (ends L) M K; rw [(ends_ok L).2.2.2.1] at this; simpa using Nat.le_trans this (by simpa using hK))
    have HC := Lib.hid hC
    have HP := Lib.hid hP
    have HA := Lib.hid hA
    have HS := Lib.hid hS
    have HB := Lib.hid hB
    have HD := Lib.hid (And.intro hpt (And.intro hat hdis))
    clear hC hP hA hS hB hpt hat hdis hcl
    generalize more (ends L) M K = sP at *
    go_wp2_with fail
    refine (pt_arm HP.out 1 HFp.out.2.1 (by decide) (by decide)).mono ?_
    rintro e w4 ⟨rfl, hP4, hB4, hS4⟩
    have HP4 := Lib.hid hP4
    have HA4 := Lib.hid (HA.out.on (hS4.mono HD.out.2.1) (G' := Ga) (fun _ h => h))
    have HS4 := Lib.hid (HS.out.on (hS4.mono HD.out.1))
    have HB4 := Lib.hid (HB.out.trans (hB4.mono HW1.out))
    clear hP4 hB4 hS4 HP HA HS HB
    go_wp2_with fail
    have hfl := pt_flush HP4.out HFp.out.2.1 (by have := HFp.out.2.2.2.2; simp only; omega)
    rw [flushed_cut] at hfl
    refine hfl.mono ?_
    rintro e w5 ⟨rfl, hP5, hB5, hS5⟩
    rw [show An 1 = 11 from rfl]
    have HP5 := Lib.hid hP5
    have HA5 := Lib.hid (HA4.out.on (hS5.mono HD.out.2.1) (G' := Ga) (fun _ h => h))
    have HS5 := Lib.hid (HS4.out.on (hS5.mono HD.out.1))
    have HB5 := Lib.hid (HB4.out.trans (hB5.mono HW1.out))
    clear hP5 hB5 hS5 HP4 HA4 HS4 HB4 hfl
    have c35 : w5.cell? ⟨b, 3, none⟩ = some (.bool true) := by
      obtain ⟨v, F, n1, h1, _⟩ := HP5.out
      exact (cells6 h1.blk).2.2.2.1
    have HOn := Lib.hid (on_at b true w5 c35)
    clear c35
    go_wp2_with fail
    refine HOn.out.mono ?_
    rintro e _ ⟨rfl, rfl⟩
    clear HOn
    go_wp2_with fail
    refine (fate_any ak lk ck ks w5 HK.out.1 H47.out (HK.out.2.2.2.1.below HB5.out) (fun e => by have := HK.out.2.2.2.2 e; have := HK.out.2.1; omega)).mono ?_
    rintro e w6 ⟨g6, c6, rfl, hO6, hB6⟩
    have HP6 := Lib.hid (HP5.out.new hB6)
    have hS6 : Same Gt w5 w6 := Same.of_below hB6 HP5.out.fits
    have HA6 := Lib.hid (HA5.out.on (hS6.mono HD.out.2.1) (G' := Ga) (fun _ h => h))
    have HS6 := Lib.hid (HS5.out.on (hS6.mono HD.out.1))
    have HG6 := Lib.hid (show Gt g6 ∨ (w5.heap.size ≤ g6 ∧ g6 < w6.heap.size) from .inr (World.ownsRow.lt hO6 g6 rfl))
    have HSr6 := Lib.hid (own_src hO6 HK.out.2.2.2.1.2)
    have HB6 := Lib.hid (HB5.out.trans (hB6.mono HB5.out.size))
    clear hO6 hB6 hS6 HP5 HA5 HS5 HB5
    go_wp2_with fail
    refine (pt_restart HP6.out rfl HLp.out.cut (by show sP.op.length ≤ 1000; have := HOp.out; omega) (by omega) g6 lk c6 ks HK.out.1 (by have := H47.out; omega) HSr6.out HG6.out).mono ?_
    rintro e w7 ⟨rfl, ⟨s7, hW7, hP7⟩, hB7, hS7⟩
    have HW7 := Lib.hid hW7
    have HP7 := Lib.hid hP7
    have HA7 := Lib.hid (HA6.out.on (hS7.mono (fun k hk => .inl (HD.out.2.1 k hk))) (G' := Ga) (fun _ h => h))
    have HS7 := Lib.hid (HS6.out.on (hS7.mono (fun k hk => .inl (HD.out.1 k hk))))
    have HB7 := Lib.hid (HB6.out.trans (hB7.mono HW1.out))
    clear hW7 hP7 hB7 hS7 HP6 HA6 HS6 HB6 HG6 HSr6
    go_wp2_with fail
    refine (pt_pages HP7.out HW7.out.2.1 (HW7.out.1.trans HFp.out.1)).mono ?_
    rintro e w8 ⟨g8, c8, rfl, hc8, hS8, hP8, hB8⟩
    have hSm : Same (fun k => Gt k ∨ (w5.heap.size ≤ k ∧ k < w6.heap.size)) w7 w8 := Same.of_below hB8 HP7.out.fits
    have HA8 := Lib.hid (HA7.out.on (hSm.mono (fun k hk => .inl (HD.out.2.1 k hk))) (G' := fun k => (Gt k ∨ (w5.heap.size ≤ k ∧ k < w6.heap.size)) ∨ (w7.heap.size ≤ k ∧ k < w8.heap.size)) (fun k hk => .inl (.inl (HD.out.2.1 k hk))))
    have HS8 := Lib.hid ((HS7.out.on (hSm.mono (fun k hk => .inl (HD.out.1 k hk)))).more (H := fun k => (Gt k ∨ (w5.heap.size ≤ k ∧ k < w6.heap.size)) ∨ (w7.heap.size ≤ k ∧ k < w8.heap.size)) (fun k hk => .inl (.inl (HD.out.1 k hk))))
    have HT8 := Lib.hid hS8
    have HB8 := Lib.hid (HB7.out.trans (hB8.mono HB7.out.size))
    have HP8 := Lib.hid hP8
    clear hS8 hP8 hB8 hSm HP7 HA7 HS7 HB7
    generalize (fun k => (Gt k ∨ (w5.heap.size ≤ k ∧ k < w6.heap.size)) ∨ (w7.heap.size ≤ k ∧ k < w8.heap.size)) = G8 at *
    have HG8 := Lib.hid HP8.out.fits
    have HHalf := Lib.hid (show ∀ (i : Nat), i < 8 → ∀ h : Nat, (h = 0 ∨ h = 32) → half h (s7.pg i) = half h ((ends L).pg i) ∨ ∃ (idx : Nat) (c : Array Value), (H i)[idx]? = some c ∧ half h (s7.pg i) = half h c from fun i hi h hh => by
      obtain ⟨_, _, _, _, _, L', e1, e2⟩ := HW7.out
      rw [e2]
      rcases rep_half (ks := ks) (L := L') (p := (ends L).pg) HS8.out.2.1 hh i L'.length with h1 | ⟨t, ht, h1, h2⟩
      · exact .inl h1
      · rw [e1] at ht
        obtain ⟨q, hq, e3, hm⟩ := HC.out.1 t ht
        have : q = i := by omega
        subst this
        obtain ⟨idx, hidx⟩ := List.getElem?_of_mem hm
        exact .inr ⟨idx, _, hidx, h2⟩)
    have HIP := Lib.hid (show ∀ i : Nat, i < 8 → ∀ c ∈ H i, IsPage c from fun i hi => (HC.out.2 i hi).1)
    have HLen := Lib.hid (show ∀ i : Nat, i < 8 → (H i).length ≤ 20 from fun i hi => Nat.le_trans (HC.out.2 i hi).2 hK)
    clear HP8 HC HW7 HLp HOp HFp HD HK H47 HRM HAM HNM HR HA HN
    go_wp2_with fail
    go_loopw [106] (fun u wr => ∃ i : Nat, i ≤ 8 ∧ u = .int .i64 i ∧ Hid (Below w8.heap.size w8 wr)) (fun u _ => 8 - (intOf u).toNat)
    case atStart => exact ⟨0, by omega, rfl, Lib.hid (Below.refl _ _)⟩
    case round =>
      obtain ⟨i, hi, rfl, HBr⟩ := hrel
      by_cases hlt : i < 8
      · have hs9 : Same G8 w8 wr := Same.of_below HBr.out HG8.out
        obtain ⟨p1, _, hc1, hb1⟩ := (HT8.out.on hs9).2.2 i hlt
        obtain ⟨p2, _, hc2, hb2⟩ := (HS8.out.on hs9).2.2 i hlt
        have hA9 := HA8.out.on hs9 (G' := G8) (fun _ h => h)
        have hci := arr_cell hA9 hlt
        obtain ⟨r1, r2, r3, r4⟩ := hA9.2.2.1 i hlt
        have I1 := Lib.hid (HT8.out.2.1 i)
        have I2 := Lib.hid (HS8.out.2.1 i)
        have HHi := Lib.hid (HHalf.out i hlt)
        have HIPi := Lib.hid (HIP.out i hlt)
        have hLi := HLen.out i hlt
        have hi8 : (i : Int) < 8 := by omega
        obtain ⟨ao9, cap9, hv9, hao9⟩ : ∃ (ao9 : Option Addr) (cap9 : Nat), hs i = .slice ao9 (H i).length cap9 ∧ (0 < (H i).length → ∃ g9, ao9 = some ⟨g9, 0, none⟩ ∧ ∀ j u, (xs i)[j]? = some u → wr.cell? ⟨g9, j, none⟩ = some u) := by
          rcases r1.2 with ⟨h0, h1⟩ | ⟨g, cap, cur, h0, h1, h2, _⟩
          · exact ⟨none, 0, by rw [h0, ← r3, h1], fun h => by rw [← r3, h1] at h; exact absurd h (by decide)⟩
          · refine ⟨some ⟨g, 0, none⟩, cap, by rw [h0, r3], fun _ => ⟨g, rfl, fun j u hu => ?_⟩⟩
            have := r1.cells (g := g) (by rw [h0]; rfl) j u hu
            rwa [Go.WideShapes.add_plain, Nat.zero_add] at this
        rw [hv9] at hci
        have HEl := Lib.hid (And.intro hao9 r4)
        have HB1 := Lib.hid (And.intro hb1 hb2)
        have HC1 := Lib.hid (And.intro hc1 (And.intro hc2 hci))
        clear hs9 hA9 r1 r2 r3 r4 hb1 hb2 hc1 hc2 hci hao9 hv9
        go_wp2_with fail
        have hby : Below wr.heap.size wr (wr.alloc (.cells #[.int .i64 0, .int .i64 32] 3)) := (Below.refl _ _).alloc (Nat.le_refl _) _
        have y0 : (wr.alloc (.cells #[.int .i64 0, .int .i64 32] 3)).cell? ⟨wr.heap.size, 0, none⟩ = some (.int .i64 0) := by rw [World.cell?_alloc_new]; rfl
        have y1 : (wr.alloc (.cells #[.int .i64 0, .int .i64 32] 3)).cell? ⟨wr.heap.size, 1, none⟩ = some (.int .i64 32) := by rw [World.cell?_alloc_new]; rfl
        have HY := Lib.hid (And.intro y0 y1)
        have HBy := Lib.hid (HBr.out.trans (hby.mono HBr.out.size))
        have HB2 := Lib.hid (And.intro ((hby.block p1 (block_lt HB1.out.1)).trans HB1.out.1) ((hby.block p2 (block_lt HB1.out.2)).trans HB1.out.2))
        have HC2 := Lib.hid (And.intro ((hby.cell (World.block_lt_of_cell? wr _ HC1.out.1)).trans HC1.out.1) (And.intro ((hby.cell (World.block_lt_of_cell? wr _ HC1.out.2.1)).trans HC1.out.2.1) ((hby.cell (World.block_lt_of_cell? wr _ HC1.out.2.2)).trans HC1.out.2.2)))
        have HE2 := Lib.hid (show (0 < (H i).length → ∃ g9, ao9 = some ⟨g9, 0, none⟩ ∧ ∀ j u, (xs i)[j]? = some u → (wr.alloc (.cells #[.int .i64 0, .int .i64 32] 3)).cell? ⟨g9, j, none⟩ = some u) ∧ El G8 (H i) (xs i) (wr.alloc (.cells #[.int .i64 0, .int .i64 32] 3)) from ⟨fun h => by
          obtain ⟨g9, e, h9⟩ := HEl.out.1 h
          exact ⟨g9, e, fun j u hu => (hby.cell (p := ⟨g9, j, none⟩) (World.block_lt_of_cell? wr _ (h9 j u hu))).trans (h9 j u hu)⟩, HEl.out.2.on (fun g cs _ hg => hby.block g (block_lt hg)) (fun _ h => h)⟩)
        clear hby y0 y1 HBr HB1 HC1 HEl
        generalize (wr.alloc (.cells #[.int .i64 0, .int .i64 32] 3)) = wy at *
        generalize wr.heap.size = y at *
        generalize wr = wo at *
        go_loopw [111] (fun u wr => ∃ z : Nat, z ≤ 2 ∧ u = .int .i64 z ∧ Hid (Below wy.heap.size wy wr)) (fun u _ => 2 - (intOf u).toNat)
        case atStart => exact ⟨0, by omega, rfl, Lib.hid (Below.refl _ _)⟩
        case round =>
          obtain ⟨z, hz, rfl, HBz⟩ := hrel
          by_cases hlz : z < 2
          · obtain ⟨hh, hhv, hyz⟩ : ∃ hh : Nat, (hh = 0 ∨ hh = 32) ∧ wr.cell? ⟨y, z, none⟩ = some (.int .i64 hh) := by
              have e0 := (HBz.out.cell (World.block_lt_of_cell? wy _ HY.out.1)).trans HY.out.1
              have e1 := (HBz.out.cell (World.block_lt_of_cell? wy _ HY.out.2)).trans HY.out.2
              rcases Nat.lt_or_ge z 1 with h | h
              · obtain rfl : z = 0 := by omega
                exact ⟨0, .inl rfl, e0⟩
              · obtain rfl : z = 1 := by omega
                exact ⟨32, .inr rfl, e1⟩
            have hz2 : (z : Int) < 2 := by omega
            have hh0 : (0 : Int) ≤ (hh : Int) := by omega
            have hh1 : (hh : Int) + 32 ≤ 64 := by omega
            have hh2 : (hh : Int) ≤ (hh : Int) + 32 := by omega
            have hwh : IntKind.i64.wrap ((hh : Int) + 32) = (hh : Int) + 32 := by rcases hhv with rfl | rfl <;> rfl
            have hc1 := (HBz.out.cell (World.block_lt_of_cell? wy _ HC2.out.1)).trans HC2.out.1
            have hc2 := (HBz.out.cell (World.block_lt_of_cell? wy _ HC2.out.2.1)).trans HC2.out.2.1
            have hcx := (HBz.out.cell (World.block_lt_of_cell? wy _ HC2.out.2.2)).trans HC2.out.2.2
            have Y := Lib.hid (And.intro hc1 (And.intro hc2 hcx))
            go_wp2_with fail
            have h64 : ¬ 64 = hh := by omega
            have hts : ((hh : Int) + 32).toNat - hh = 32 := by omega
            have HQ := Lib.hid (show ∀ W, ((W.cell? ⟨g8, i, none⟩ = some (.slice (some ⟨p1, 0, none⟩) 64 64) ∧ W.cell? ⟨g3, i, none⟩ = some (.slice (some ⟨p2, 0, none⟩) 64 64) ∧ W.cell? ⟨x, i, none⟩ = some (.slice ao9 (H i).length cap9)) ∧ Hid (Below wr.heap.size wr W)) →
                Calls Try.prog 22 #[.slice (some ⟨p1, hh, none⟩) 32 (64 - hh), .slice (some ⟨p2, hh, none⟩) 32 (64 - hh)] W fun e w' => e = .returned (.bool (decide (nums (half hh (s7.pg i)) = nums (half hh ((ends L).pg i))))) ∧ Below W.heap.size W w' from fun W hW => by
              have hb := HBz.out.trans (hW.2.out.mono HBz.out.size)
              exact same_halves I1.out I2.out hhv (page_cells ((hb.block p1 (block_lt HB2.out.1)).trans HB2.out.1)) (page_cells ((hb.block p2 (block_lt HB2.out.2)).trans HB2.out.2)) _ _)
            go_region_held3 (fun w' => (w'.cell? ⟨g8, i, none⟩ = some (.slice (some ⟨p1, 0, none⟩) 64 64) ∧ w'.cell? ⟨g3, i, none⟩ = some (.slice (some ⟨p2, 0, none⟩) 64 64) ∧ w'.cell? ⟨x, i, none⟩ = some (.slice ao9 (H i).length cap9)) ∧ Hid (Below wr.heap.size wr w'))
              (first | exact three_on (by assumption) bM | exact ⟨⟨hc1, hc2, hcx⟩, Lib.hid (Below.refl _ _)⟩ | exact ⟨⟨hc1, hc2, hcx⟩, Lib.hid (Below.refl _ _).drew⟩)
              (first
                | (go_at_call 22; refine (HQ.out _ (by assumption)).mono ?_; rintro e w20 ⟨rfl, bM⟩))
            have b20 : Below wr.heap.size wr w20 := ((Below.refl wr.heap.size wr).drew).trans (show Below wr.heap.size wr.drew w20 from bM)
            obtain ⟨q1, q2, q3⟩ : w20.cell? ⟨g8, i, none⟩ = some (.slice (some ⟨p1, 0, none⟩) 64 64) ∧ w20.cell? ⟨g3, i, none⟩ = some (.slice (some ⟨p2, 0, none⟩) 64 64) ∧ w20.cell? ⟨x, i, none⟩ = some (.slice ao9 (H i).length cap9) :=
              ⟨(b20.cell (World.block_lt_of_cell? wr _ hc1)).trans hc1, (b20.cell (World.block_lt_of_cell? wr _ hc2)).trans hc2, (b20.cell (World.block_lt_of_cell? wr _ hcx)).trans hcx⟩
            have HB20 := Lib.hid (HBz.out.trans (b20.mono HBz.out.size))
            have HF := Lib.hid (show decide (nums (half hh (s7.pg i)) = nums (half hh ((ends L).pg i))) = true ∨ ∃ (idx : Nat) (c : Array Value), 0 ≤ idx ∧ (H i)[idx]? = some c ∧ half hh (s7.pg i) = half hh c from by
              rcases HHi.out hh hhv with h | ⟨idx, c, h1, h2⟩
              · exact .inl (decide_eq_true (by rw [h]))
              · exact .inr ⟨idx, c, Nat.zero_le _, h1, h2⟩)
            clear bM b20 hc1 hc2 hcx Y HQ hyz
            rename_i hHeld
            clear hHeld
            generalize decide (nums (half hh (s7.pg i)) = nums (half hh ((ends L).pg i))) = f0 at *
            generalize wr = wq at *
            go_wp2_with fail
            go_loopw [136, 19] (fun u uf wr => ∃ (j : Nat) (f : Bool), j ≤ (H i).length ∧ u = .int .i64 j ∧ uf = .bool f ∧ Hid (f = true ∨ ∃ (idx : Nat) (c : Array Value), j ≤ idx ∧ (H i)[idx]? = some c ∧ half hh (s7.pg i) = half hh c) ∧ Hid (Below wy.heap.size wy wr)) (fun u _ _ => (H i).length - (intOf u).toNat)
            case atStart => exact ⟨0, f0, Nat.zero_le _, rfl, rfl, HF, HB20⟩
            case round =>
              obtain ⟨j, f, hj, rfl, rfl, HFj, HBj⟩ := hrel
              by_cases hlj : j < (H i).length
              · have hcj : (H i)[j]? = some ((H i)[j]'hlj) := List.getElem?_eq_getElem _
                generalize (H i)[j]'hlj = cj at hcj
                obtain ⟨g9, hg9, hcells⟩ := HE2.out.1 (by omega)
                obtain ⟨gq, capq, hx1, hx2, hx3, cs, hx4, hx5⟩ := HE2.out.2 j cj hcj
                have hcg : wr.cell? ⟨g9, j, none⟩ = some (.slice (some ⟨gq, 0, none⟩) 64 capq) := (HBj.out.cell (World.block_lt_of_cell? wy _ (hcells j _ hx1))).trans (hcells j _ hx1)
                have Hcj := Lib.hid (And.intro hcj (And.intro (HIPi.out cj (List.mem_of_getElem? hcj)) (And.intro hx4 hx5)))
                subst hg9
                have hhq : (hh : Int) + 32 ≤ (capq : Int) := by omega
                have hhq2 : ¬ capq = hh := by omega
                have hlj' : (j : Int) < ((H i).length : Int) := by omega
                have hc1 := (HBj.out.cell (World.block_lt_of_cell? wy _ HC2.out.1)).trans HC2.out.1
                have hc2 := (HBj.out.cell (World.block_lt_of_cell? wy _ HC2.out.2.1)).trans HC2.out.2.1
                have hcx := (HBj.out.cell (World.block_lt_of_cell? wy _ HC2.out.2.2)).trans HC2.out.2.2
                clear hcj hcells hx1 hx2 hx3 hx4 hx5 q1 q2 q3
                cases f with
                | true =>
                  go_wp2_with fail
                  go_region
                  go_wp2_with fail
                  go_roundw
                  case rel => exact ⟨j + 1, true, by omega, by go_num, rfl, Lib.hid (.inl rfl), Lib.hid HBj.out.drew⟩
                  case measure => simp [intOf]; omega
                | false =>
                  have HQ := Lib.hid (show ∀ W, ((W.cell? ⟨g8, i, none⟩ = some (.slice (some ⟨p1, 0, none⟩) 64 64) ∧ W.cell? ⟨g3, i, none⟩ = some (.slice (some ⟨p2, 0, none⟩) 64 64) ∧ W.cell? ⟨x, i, none⟩ = some (.slice (some ⟨g9, 0, none⟩) (H i).length cap9)) ∧ Hid (Below wr.heap.size wr W)) →
                      Calls Try.prog 22 #[.slice (some ⟨p1, hh, none⟩) 32 (64 - hh), .slice (some ⟨gq, hh, none⟩) 32 (capq - hh)] W fun e w' => e = .returned (.bool (decide (nums (half hh (s7.pg i)) = nums (half hh cj)))) ∧ Below W.heap.size W w' from fun W hW => by
                    have hb := HBj.out.trans (hW.2.out.mono HBj.out.size)
                    exact same_halves I1.out Hcj.out.2.1 hhv (page_cells ((hb.block p1 (block_lt HB2.out.1)).trans HB2.out.1)) (fun k u hu => by
                      rw [cell_of_row _ _ k cs 5 (0, 0) ((hb.block gq (block_lt Hcj.out.2.2.1)).trans Hcj.out.2.2.1)]
                      exact Hcj.out.2.2.2 k u hu) _ _)
                  go_wp2_with fail
                  go_region_held3 (fun w' => (w'.cell? ⟨g8, i, none⟩ = some (.slice (some ⟨p1, 0, none⟩) 64 64) ∧ w'.cell? ⟨g3, i, none⟩ = some (.slice (some ⟨p2, 0, none⟩) 64 64) ∧ w'.cell? ⟨x, i, none⟩ = some (.slice (some ⟨g9, 0, none⟩) (H i).length cap9)) ∧ Hid (Below wr.heap.size wr w'))
                    (first | exact three_on (by assumption) bM | exact ⟨⟨hc1, hc2, hcx⟩, Lib.hid (Below.refl _ _)⟩ | exact ⟨⟨hc1, hc2, hcx⟩, Lib.hid (Below.refl _ _).drew⟩)
                    (first
                      | (go_at_call 22; refine (HQ.out _ (by assumption)).mono ?_; rintro e w21 ⟨rfl, bM⟩))
                  have b21 : Below wr.heap.size wr w21 := ((Below.refl wr.heap.size wr).drew).trans (show Below wr.heap.size wr.drew w21 from bM)
                  have HB21 := Lib.hid (HBj.out.trans (b21.mono HBj.out.size))
                  have HF21 := Lib.hid (show decide (nums (half hh (s7.pg i)) = nums (half hh cj)) = true ∨ ∃ (idx : Nat) (c : Array Value), j + 1 ≤ idx ∧ (H i)[idx]? = some c ∧ half hh (s7.pg i) = half hh c from by
                    rcases HFj.out with h | ⟨idx, c, h1, h2, h3⟩
                    · cases h
                    · by_cases e : idx = j
                      · subst e
                        have : cj = c := by have := Hcj.out.1; rw [h2] at this; injection this with this; exact this.symm
                        exact .inl (decide_eq_true (by rw [h3, this]))
                      · exact .inr ⟨idx, c, by omega, h2, h3⟩)
                  clear bM b21 hc1 hc2 hcx HQ
                  rename_i hHeld
                  clear hHeld
                  go_wp2_with fail
                  go_roundw
                  case rel => exact ⟨j + 1, _, by omega, by go_num, rfl, HF21, HB21⟩
                  case measure => simp [intOf]; omega
              · obtain rfl : j = (H i).length := by omega
                have hft : f = true := by
                  rcases HFj.out with h | ⟨idx, c, h1, h2, _⟩
                  · exact h
                  · have := (List.getElem?_eq_some_iff.1 h2).1; omega
                subst hft
                go_wp2_with fail
                go_roundw
                case rel => exact ⟨z + 1, by omega, by go_num, HBj⟩
                case measure => simp [intOf]; omega
          · obtain rfl : z = 2 := by omega
            go_wp2_with fail
            go_roundw
            case rel => exact ⟨i + 1, by omega, by go_num, Lib.hid (HBy.out.trans (HBz.out.mono HBy.out.size))⟩
            case measure => simp [intOf]; omega
      · obtain rfl : i = 8 := by omega
        go_wp2_with fail
        go_ret
        exact ⟨rfl, HB8.out.trans (HBr.out.mono HB8.out.size)⟩
end Go.Proofs.Ytjfbgihjgnbeeaa.Pl
