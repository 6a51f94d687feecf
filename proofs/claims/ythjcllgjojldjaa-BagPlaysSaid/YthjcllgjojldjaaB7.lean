/- bag: the answers to one call against those of the document. -/
import Derived.Test.YthjcllgjojldjaaB6
import Derived.Test.YthjcllgjojldjaaRow
namespace Go.Proofs.Ythjcllgjojldjaa.Bg
open Go Go.RowKit
/-- In the middle of it: what the bags hold, what is nobody's, the box of the call. -/
structure Now (w0 w : World) (z : Bool) (pb px : Option Addr) (P : Nat → Prop) (b : Nat) (bx : Array Value) (L1 L2 : List (List Int)) (Q : Nat → Prop) (w' : World) : Prop where
  ply : Ply w0 z pb px L1 L2 Q w'
  keep : Keep P w w'
  box : w'.heap[b]? = some (.cells bx 32 (0, 0))
  sub : ∀ k, P k ∨ k = b → Q k
section
variable {w0 w w1 w2 : World} {z : Bool} {pb px : Option Addr} {P : Nat → Prop} {b : Nat} {bx : Array Value} {L1 L2 K1 K2 : List (List Int)} {Q R : Nat → Prop}
theorem Now.step (h : Now w0 w z pb px P b bx L1 L2 Q w1) (hp : Ply w0 z pb px K1 K2 R w2) (hk : Keep Q w1 w2) (hs : ∀ k, Q k → R k) : Now w0 w z pb px P b bx K1 K2 R w2 :=
  ⟨hp, fun k hp => (hk k (h.sub k (.inl hp))).trans (h.keep k hp), (hk b (h.sub b (.inr rfl))).trans h.box, fun k hk => hs k (h.sub k hk)⟩
theorem Now.on (h : Now w0 w z pb px P b bx L1 L2 Q w1) (hb : Below w1.heap.size w1 w2) : Now w0 w z pb px P b bx L1 L2 Q w2 :=
  h.step (h.ply.on hb) (fun k hk => hb.block k (h.ply.lt k hk)) (fun _ h => h)
theorem Now.add (h : Now w0 w z pb px P b bx L1 L2 Q w1) (hb : Below w1.heap.size w1 w2) {g : Nat} (h1 : w1.heap.size ≤ g) (h2 : g < w2.heap.size) : Now w0 w z pb px P b bx L1 L2 (fun k => Q k ∨ k = g) w2 :=
  h.step (h.ply.more hb (fun k hk => hk.imp id (fun (e : k = g) => by rw [e]; exact ⟨h1, h2⟩))) (fun k hk => hb.block k (h.ply.lt k hk)) (fun _ h => .inl h)
theorem Now.set {g i : Nat} {v : Value} (h : Now w0 w z pb px P b bx L1 L2 (fun k => Q k ∨ k = g) w1) (hs : ∀ k, P k ∨ k = b → k ≠ g) (hg : w0.heap.size ≤ g) : Now w0 w z pb px P b bx L1 L2 (fun k => Q k ∨ k = g) (w1.setCell ⟨g, i, none⟩ v) := by
  have ht := turned_set w1 g i v
  have hl : ∀ k, P k ∨ k = b → k < w1.heap.size := fun k hk => h.ply.lt k (h.sub k hk)
  exact ⟨h.ply.turn ht (fun k e => .inr e) (fun k e => e ▸ hg), fun k hk => (ht.block k (hl k (.inl hk)) (hs k (.inl hk))).trans (h.keep k hk), (ht.block b (hl b (.inr rfl)) (hs b (.inr rfl))).trans h.box, h.sub⟩
theorem Now.done (h : Now w0 w z pb px P b bx L1 L1 Q w1) : ∃ L', Ply w0 z pb px L' L' P w1 ∧ Keep P w w1 := ⟨L1, h.ply.less (fun k hk => h.sub k (.inl hk)), h.keep⟩
end
/-- A row of bytes that may be written. -/
def XB (g m : Nat) (w : World) : Prop := ∃ arr : Array Value, w.heap[g]? = some (.cells arr 5 (0, 0)) ∧ ∀ k, k < m → ∃ y, arr[k]? = some (.int .u8 y)
theorem XB.at {g m i : Nat} {w : World} (h : XB g m w) (hi : i < m) : ∃ y, w.cell? ⟨g, i, none⟩ = some (.int .u8 y) ∧ w.frozen? ⟨g, i, none⟩ = false ∧ g < w.heap.size := by
  obtain ⟨arr, h1, h2⟩ := h
  obtain ⟨y, hy⟩ := h2 i hi
  exact ⟨y, by simp [World.cell?, h1, hy], by simp [World.frozen?, h1], (Array.getElem?_eq_some_iff.1 h1).1⟩
theorem XB.set {g m i : Nat} {w : World} (h : XB g m w) (y : Int) : XB g m (w.setCell ⟨g, i, none⟩ (.int .u8 y)) := by
  obtain ⟨arr, h1, h2⟩ := h
  refine ⟨_, set_block (i := i) h1, fun k hk => ?_⟩
  by_cases e : i = k
  · subst e
    obtain ⟨y', hy⟩ := h2 i hk
    exact ⟨y, by rw [Array.getElem?_setIfInBounds_self]; simp [(Array.getElem?_eq_some_iff.1 hy).1]⟩
  · obtain ⟨y', hy⟩ := h2 k hk
    exact ⟨y', by rw [Array.getElem?_setIfInBounds_ne e]; exact hy⟩
theorem xb_own {w : World} {B g n c : Nat} {l : List Int} (h : w.ownsRow B 5 1 (.slice (some ⟨g, 0, none⟩) n c) n (bs l)) : XB g n w := by
  rcases h.2 with ⟨h1, _⟩ | ⟨g', cap, cur, h1, _, h2, h3, h4, h5, h6⟩
  · cases h1
  · cases h1
    refine ⟨cur, h2, fun k hk => ?_⟩
    have hl := h.1
    have hk2 : (bs l)[k]? = cur.toList[k]? := by rw [← h6, List.getElem?_take, if_pos (by omega)]
    rw [bs_get (by rw [bs_length] at hl; omega)] at hk2
    exact ⟨_, by rw [← Array.getElem?_toList]; exact hk2.symm⟩
theorem XB.keep {g m : Nat} {w w' : World} (h : XB g m w) (hb : w'.heap[g]? = w.heap[g]?) : XB g m w' := by
  obtain ⟨arr, h1, h2⟩ := h
  exact ⟨arr, hb.trans h1, h2⟩
set_option maxRecDepth 100000 in
set_option maxHeartbeats 8000000 in
theorem play0 (w0 : World) (z : Bool) (pb px : Option Addr) (L : List (List Int)) (P : Nat → Prop) (o : Ob) (ao : Option Addr) (c : Nat) (w : World) (h : Ply w0 z pb px L L P w) (hin : o.In w0 ao c) (hk0 : o.kd = 0) :
    Calls Try.prog 9 #[.pointer pb, .pointer px, .agg #[.int .u8 o.kd, .int .i64 o.i, .slice ao o.l.length c]] w fun e w' => e = .returned (.bool true) ∧ ∃ L', Ply w0 z pb px L' L' P w' ∧ Keep P w w' := by
  obtain ⟨kd, i, l⟩ := o
  obtain ⟨hr, h0c, hnc, hcm, hkd, -, hlb⟩ := hin
  simp only at hr h0c hnc hcm hkd hlb ⊢
  obtain ⟨n, hn⟩ : ∃ n, l.length = n := ⟨_, rfl⟩
  rw [hn] at hnc hlb ⊢
  have hb0 : Below w.heap.size w (w.alloc (.cells #[.int .u8 kd, .int .i64 i, .slice ao n c] 32)) := (Below.refl _ _).alloc (Nat.le_refl _) _
  have H0 : Hid (Now w0 w z pb px P w.heap.size #[.int .u8 kd, .int .i64 i, .slice ao n c] L L (fun k => P k ∨ k = w.heap.size) (w.alloc (.cells #[.int .u8 kd, .int .i64 i, .slice ao n c] 32))) := Lib.hid ⟨h.more hb0 (fun k hk => hk.imp id (fun (e : k = w.heap.size) => by rw [e]; simp)), fun k hk => hb0.block k (h.lt k hk), heap_alloc_new _ _, fun _ h => h⟩
  have HR := Lib.hid (And.intro hr (And.intro h0c (And.intro hcm hn)))
  have HP := Lib.hid h.lt
  have hL2 := h.len.1
  clear hr h0c hcm hb0 hn h
  generalize hb : w.heap.size = b at *
  generalize hW : w.alloc (.cells #[.int .u8 kd, .int .i64 i, .slice ao n c] 32) = W at *
  have hbl : b < W.heap.size := H0.out.ply.lt b (.inr rfl)
  obtain ⟨c0, c1, c2⟩ : W.cell? ⟨b, 0, none⟩ = some (.int .u8 kd) ∧ W.cell? ⟨b, 1, none⟩ = some (.int .i64 i) ∧ W.cell? ⟨b, 2, none⟩ = some (.slice ao n c) := by have := H0.out.box; simp [World.cell?, this]
  simp only at hk0
  subst hk0
  · skip
    have hs := spare_any ao n c l W (by omega) HR.out.2.2.2 (HR.out.1.on H0.out.ply.below (Nat.le_refl _)) HR.out.2.1
    go_enter Try.func9, Try.ntmps9
    go_wp2_with fail
    refine hs.mono ?_
    rintro e w1 ⟨g, cc, rfl, ⟨ho, hc1, hc2⟩, hb1⟩
    have hgl := World.ownsRow.lt ho g rfl
    have HG := Lib.hid (And.intro hc1 (And.intro hc2 hgl))
    have H1 := Lib.hid ((H0.out.add hb1 hgl.1 hgl.2).on (Below.refl _ w1).drew)
    have HO1 : Hid (w1.drew.ownsRow W.heap.size 5 1 (.slice (some ⟨g, 0, none⟩) (n + 3) cc) (n + 3) (bs (l ++ [165, 90, 165]))) := Lib.hid (by have h2 := ho; unfold Own at h2; rwa [show (l ++ ([165, 90, 165] : List Int)).length = n + 3 by rw [List.length_append, HR.out.2.2.2]; rfl] at h2)
    have HNE : Hid (∀ k, P k ∨ k = b → k ≠ g) := Lib.hid (fun k hk e => by have := H0.out.ply.lt k hk; omega)
    have HGE : Hid (w0.heap.size ≤ g) := Lib.hid (Nat.le_trans H0.out.ply.below.size hgl.1)
    have c2' : w1.drew.cell? ⟨b, 2, none⟩ = some (.slice ao n c) := by have := H1.out.box; simp [World.cell?, this]
    have c2w : w1.cell? ⟨b, 2, none⟩ = some (.slice ao n c) := c2'
    clear ho hc1 hc2 hgl hb1 hs
    go_upto_region 8 with fail
    have hgq : Hid (g < w1.heap.size) := Lib.hid HG.out.2.2.2
    go_region_held3 (fun w' => w'.cell? ⟨b, 2, none⟩ = some (.slice ao n c)) (first | exact c2' | exact y2 | exact y3 | exact y4) (first
      | (go_at_call 13; have H := ply_put H1.out.ply (some ⟨g, 0, none⟩) n cc l HR.out.2.2.2 (kept_facts (own_rd HO1.out (by rw [List.length_append, HR.out.2.2.2]; rfl))).1; refine H.mono ?_; rintro e' w2 ⟨rfl, hp, hk⟩; have H2 := Lib.hid (H1.out.step hp hk (fun _ h => h)); have HO2 := Lib.hid (own_on HO1.out (fun g' hg' => by injection hg' with hg'; subst hg'; exact hk _ (.inr rfl))); have y2 : w2.cell? ⟨b, 2, none⟩ = some (.slice ao n c) := (by have := H2.out.box; simp [World.cell?, this]); clear H hp hk)
      | (go_at_call 20; have H := ply_dput H2.out.ply ao n c l HR.out.2.2.2 (HR.out.1.on H2.out.ply.below (Nat.le_refl _)); refine H.mono ?_; rintro e' w3 ⟨rfl, hp, hk⟩; have H3 := Lib.hid (H2.out.step hp hk (fun _ h => h)); have HO3 := Lib.hid (own_on HO2.out (fun g' hg' => by injection hg' with hg'; subst hg'; exact hk _ (.inr rfl))); have y3 : w3.cell? ⟨b, 2, none⟩ = some (.slice ao n c) := (by have := H3.out.box; simp [World.cell?, this]); clear H hp hk)
      | (go_at_call 21; have H := kept_any g cc ao n c l w3 HG.out.1 HG.out.2.1 HR.out.2.2.2 (own_rd HO3.out (by rw [List.length_append, HR.out.2.2.2]; rfl)) (HR.out.1.on H3.out.ply.below (Nat.le_refl _)); refine H.mono ?_; rintro e' w4 ⟨rfl, hb4⟩; have H4 := Lib.hid (H3.out.on hb4); have HX4 := Lib.hid ((xb_own HO3.out).keep (hb4.block g (World.ownsRow.lt HO3.out g rfl).2)); have y4 : w4.cell? ⟨b, 2, none⟩ = some (.slice ao n c) := (by have := H4.out.box; simp [World.cell?, this]); clear H hb4))
    all_goals
      obtain ⟨m, hm⟩ : ∃ m, n + 3 = m := ⟨_, rfl⟩
      simp only [hm] at HX4 ⊢
      have hm2 : (m : Int) ≤ 140737488351235 := by omega
      clear hm
      go_wp2_with fail
      go_loopw [42] (fun x wr => ∃ j : Nat, x = .int .i64 j ∧ j ≤ m ∧ Hid (Now w0 w z pb px P b _ _ _ _ wr ∧ XB g m wr)) (fun x _ => m + 1 - (intOf x).toNat)
      case atStart => exact ⟨0, rfl, Nat.zero_le _, Lib.hid ⟨H4.out, HX4.out⟩⟩
      case round =>
        obtain ⟨j, rfl, hj, HJ⟩ := hrel
        by_cases hjm : j < m
        · obtain ⟨y, y1, y2, y3⟩ := HJ.out.2.at hjm
          have hj1 : j + 1 ≤ m := hjm
          have hj2 : (j : Int) < (m : Int) := by omega
          go_wp2_with fail
          go_roundw
          case rel => exact ⟨j + 1, by go_num, hj1, Lib.hid ⟨HJ.out.1.set HNE.out HGE.out, HJ.out.2.set _⟩⟩
          case measure => simp [intOf] <;> omega
        · have hjE : m = j := by omega
          subst hjE
          clear hjm hj
          have HE := Lib.hid HJ.out.1
          go_wp2_with fail
          refine (same_none none none 0 0 _).mono ?_
          rintro e ws ⟨rfl, hbs⟩
          have HE := Lib.hid (HE.out.on hbs)
          clear hbs
          go_wp2_with fail
          refine wp_loop_rounds 1 ?_
          rw [rounds_succ]
          go_wp2_with fail
          go_ret
          exact ⟨rfl, HE.out.done⟩
set_option maxRecDepth 100000 in
set_option maxHeartbeats 8000000 in
theorem play1 (w0 : World) (z : Bool) (pb px : Option Addr) (L : List (List Int)) (P : Nat → Prop) (o : Ob) (ao : Option Addr) (c : Nat) (w : World) (h : Ply w0 z pb px L L P w) (hin : o.In w0 ao c) (hk : o.kd = 1) :
    Calls Try.prog 9 #[.pointer pb, .pointer px, .agg #[.int .u8 o.kd, .int .i64 o.i, .slice ao o.l.length c]] w fun e w' => e = .returned (.bool true) ∧ ∃ L', Ply w0 z pb px L' L' P w' ∧ Keep P w w' := by
  obtain ⟨kd, i, l⟩ := o
  obtain ⟨hr, h0c, hnc, hcm, hkd, -, hlb⟩ := hin
  simp only at hr h0c hnc hcm hkd hlb ⊢
  obtain ⟨n, hn⟩ : ∃ n, l.length = n := ⟨_, rfl⟩
  rw [hn] at hnc hlb ⊢
  have hb0 : Below w.heap.size w (w.alloc (.cells #[.int .u8 kd, .int .i64 i, .slice ao n c] 32)) := (Below.refl _ _).alloc (Nat.le_refl _) _
  have H0 : Hid (Now w0 w z pb px P w.heap.size #[.int .u8 kd, .int .i64 i, .slice ao n c] L L (fun k => P k ∨ k = w.heap.size) (w.alloc (.cells #[.int .u8 kd, .int .i64 i, .slice ao n c] 32))) := Lib.hid ⟨h.more hb0 (fun k hk => hk.imp id (fun (e : k = w.heap.size) => by rw [e]; simp)), fun k hk => hb0.block k (h.lt k hk), heap_alloc_new _ _, fun _ h => h⟩
  have HR := Lib.hid (And.intro hr (And.intro h0c (And.intro hcm hn)))
  have HP := Lib.hid h.lt
  have hL2 := h.len.1
  clear hr h0c hcm hb0 hn h
  generalize hb : w.heap.size = b at *
  generalize hW : w.alloc (.cells #[.int .u8 kd, .int .i64 i, .slice ao n c] 32) = W at *
  have hbl : b < W.heap.size := H0.out.ply.lt b (.inr rfl)
  obtain ⟨c0, c1, c2⟩ : W.cell? ⟨b, 0, none⟩ = some (.int .u8 kd) ∧ W.cell? ⟨b, 1, none⟩ = some (.int .i64 i) ∧ W.cell? ⟨b, 2, none⟩ = some (.slice ao n c) := by have := H0.out.box; simp [World.cell?, this]
  simp only at hk
  subst hk
  · by_cases hil : 0 ≤ i ∧ i < L.length
    · obtain ⟨q, rfl⟩ : ∃ q : Nat, i = q := ⟨i.toNat, by omega⟩
      obtain ⟨x, hx⟩ : ∃ x, L[q]? = some x := ⟨_, List.getElem?_eq_getElem (by omega)⟩
      have HL := Lib.hid hx
      have hql : q < L.length := by omega
      go_enter Try.func9, Try.ntmps9
      go_wp2_with fail
      refine (ply_take H0.out.ply q x HL.out).mono ?_
      rintro e w1 ⟨g, gc, rfl, hO, hp, hk, hne⟩
      have HNE := Lib.hid hne
      have H1 := Lib.hid (H0.out.step hp hk (fun _ h => .inl h))
      have HO1 := Lib.hid hO
      clear hO hp hk hne c0 c1 c2
      obtain ⟨c0, c1, c2⟩ : w1.cell? ⟨b, 0, none⟩ = some (.int .u8 1) ∧ w1.cell? ⟨b, 1, none⟩ = some (.int .i64 q) ∧ w1.cell? ⟨b, 2, none⟩ = some (.slice ao n c) := by have := H1.out.box; simp [World.cell?, this]
      go_wp2_with fail
      refine (ply_dtake H1.out.ply q x false HL.out).mono ?_
      rintro e w2 ⟨g2, gc2, rfl, ⟨hr2, hx2⟩, hp, hk⟩
      have H2 := Lib.hid (H1.out.step hp hk (fun _ h => h))
      have HO2 : Hid (Out w0 g gc x w2) := Lib.hid ⟨HO1.out.1.on (hk g (.inr rfl)), HO1.out.2⟩
      have HQ := Lib.hid hr2
      have HX := Lib.hid hx2
      rw [if_neg (by decide), List.append_nil] at H2
      clear hr2 hx2 hp hk
      go_wp2_with fail
      refine (same_any (some ⟨g, 0, none⟩) (some ⟨g2, 0, none⟩) gc gc2 x x _ (by unfold maxLen; have := HX.out; omega) HO2.out.1.rd HQ.out).mono ?_
      rw [decide_eq_true (rfl : x = x)]
      rintro e ws ⟨rfl, hbs⟩
      have HN := Lib.hid (H2.out.on hbs)
      have HXB := Lib.hid ((xb_own HO2.out.1.own).keep (hbs.block g HO2.out.1.lt))
      have HGE := Lib.hid HO2.out.2
      clear hbs
      obtain ⟨m, hm⟩ : ∃ m, x.length = m := ⟨_, rfl⟩
      simp only [hm] at HXB ⊢
      have hm2 : m ≤ 16384 := by have := HX.out; omega
      clear hm
      go_wp2_with fail
      go_loopw [123] (fun x wr => ∃ j : Nat, x = .int .i64 j ∧ j ≤ m ∧ Hid (Now w0 w z pb px P b _ _ _ _ wr ∧ XB g m wr)) (fun x _ => m + 1 - (intOf x).toNat)
      case atStart => exact ⟨0, rfl, Nat.zero_le _, Lib.hid ⟨HN.out, HXB.out⟩⟩
      case round =>
        obtain ⟨j, rfl, hj, HJ⟩ := hrel
        by_cases hjm : j < m
        · obtain ⟨y, y1, y2, y3⟩ := HJ.out.2.at hjm
          have hj1 : j + 1 ≤ m := hjm
          have hj2 : (j : Int) < (m : Int) := by omega
          go_wp2_with fail
          go_roundw
          case rel => exact ⟨j + 1, by go_num, hj1, Lib.hid ⟨HJ.out.1.set HNE.out HGE.out, HJ.out.2.set _⟩⟩
          case measure => simp [intOf] <;> omega
        · have hjE : m = j := by omega
          subst hjE
          clear hjm hj
          have HE := Lib.hid HJ.out.1
          go_wp2_with fail
          go_ret
          exact ⟨rfl, HE.out.done⟩
    · have HI := Lib.hid hil
      clear hil
      go_enter Try.func9, Try.ntmps9
      go_wp2_with fail
      refine (take_no (ply_no H0.out.ply HI.out)).mono ?_
      rintro e w1 ⟨rfl, rfl⟩
      go_wp2_with fail
      refine (ply_dno H0.out.ply HI.out false false).mono ?_
      rintro e w2 ⟨rfl, rfl⟩
      go_wp2_with fail
      refine (same_none none none 0 0 _).mono ?_
      rintro e ws ⟨rfl, hbs⟩
      have HE := Lib.hid (H0.out.on hbs)
      clear hbs
      go_wp2_with fail
      refine wp_loop_rounds 1 ?_
      rw [rounds_succ]
      go_wp2_with fail
      go_ret
      exact ⟨rfl, HE.out.done⟩
set_option maxRecDepth 100000 in
set_option maxHeartbeats 8000000 in
theorem play2 (w0 : World) (z : Bool) (pb px : Option Addr) (L : List (List Int)) (P : Nat → Prop) (o : Ob) (ao : Option Addr) (c : Nat) (w : World) (h : Ply w0 z pb px L L P w) (hin : o.In w0 ao c) (hk : o.kd = 2) :
    Calls Try.prog 9 #[.pointer pb, .pointer px, .agg #[.int .u8 o.kd, .int .i64 o.i, .slice ao o.l.length c]] w fun e w' => e = .returned (.bool true) ∧ ∃ L', Ply w0 z pb px L' L' P w' ∧ Keep P w w' := by
  obtain ⟨kd, i, l⟩ := o
  obtain ⟨hr, h0c, hnc, hcm, hkd, -, hlb⟩ := hin
  simp only at hr h0c hnc hcm hkd hlb ⊢
  obtain ⟨n, hn⟩ : ∃ n, l.length = n := ⟨_, rfl⟩
  rw [hn] at hnc hlb ⊢
  have hb0 : Below w.heap.size w (w.alloc (.cells #[.int .u8 kd, .int .i64 i, .slice ao n c] 32)) := (Below.refl _ _).alloc (Nat.le_refl _) _
  have H0 : Hid (Now w0 w z pb px P w.heap.size #[.int .u8 kd, .int .i64 i, .slice ao n c] L L (fun k => P k ∨ k = w.heap.size) (w.alloc (.cells #[.int .u8 kd, .int .i64 i, .slice ao n c] 32))) := Lib.hid ⟨h.more hb0 (fun k hk => hk.imp id (fun (e : k = w.heap.size) => by rw [e]; simp)), fun k hk => hb0.block k (h.lt k hk), heap_alloc_new _ _, fun _ h => h⟩
  have HR := Lib.hid (And.intro hr (And.intro h0c (And.intro hcm hn)))
  have HP := Lib.hid h.lt
  have hL2 := h.len.1
  clear hr h0c hcm hb0 hn h
  generalize hb : w.heap.size = b at *
  generalize hW : w.alloc (.cells #[.int .u8 kd, .int .i64 i, .slice ao n c] 32) = W at *
  have hbl : b < W.heap.size := H0.out.ply.lt b (.inr rfl)
  obtain ⟨c0, c1, c2⟩ : W.cell? ⟨b, 0, none⟩ = some (.int .u8 kd) ∧ W.cell? ⟨b, 1, none⟩ = some (.int .i64 i) ∧ W.cell? ⟨b, 2, none⟩ = some (.slice ao n c) := by have := H0.out.box; simp [World.cell?, this]
  simp only at hk
  subst hk
  · by_cases hil : 0 ≤ i ∧ i < L.length
    · obtain ⟨q, rfl⟩ : ∃ q : Nat, i = q := ⟨i.toNat, by omega⟩
      obtain ⟨x, hx⟩ : ∃ x, L[q]? = some x := ⟨_, List.getElem?_eq_getElem (by omega)⟩
      have HL := Lib.hid hx
      have hql : q < L.length := by omega
      go_enter Try.func9, Try.ntmps9
      go_wp2_with fail
      refine (ply_copy H0.out.ply q x HL.out).mono ?_
      rintro e w1 ⟨g, gc, rfl, hO, hp, hk, hne⟩
      have HNE := Lib.hid hne
      have H1 := Lib.hid (H0.out.step hp hk (fun _ h => .inl h))
      have HO1 := Lib.hid hO
      clear hO hp hk hne c0 c1 c2
      obtain ⟨c0, c1, c2⟩ : w1.cell? ⟨b, 0, none⟩ = some (.int .u8 2) ∧ w1.cell? ⟨b, 1, none⟩ = some (.int .i64 q) ∧ w1.cell? ⟨b, 2, none⟩ = some (.slice ao n c) := by have := H1.out.box; simp [World.cell?, this]
      go_wp2_with fail
      refine (ply_dstays H1.out.ply q x false HL.out).mono ?_
      rintro e w2 ⟨g2, gc2, rfl, ⟨hr2, hx2⟩, rfl⟩
      have HQ := Lib.hid hr2
      have HX := Lib.hid hx2
      clear hr2 hx2
      go_wp2_with fail
      refine (same_any (some ⟨g, 0, none⟩) (some ⟨g2, 0, none⟩) gc gc2 x x _ (by unfold maxLen; have := HX.out; omega) HO1.out.1.rd HQ.out).mono ?_
      rw [decide_eq_true (rfl : x = x)]
      rintro e ws ⟨rfl, hbs⟩
      have HN := Lib.hid (H1.out.on hbs)
      have HXB := Lib.hid ((xb_own HO1.out.1.own).keep (hbs.block g HO1.out.1.lt))
      have HGE := Lib.hid HO1.out.2
      clear hbs
      obtain ⟨m, hm⟩ : ∃ m, x.length = m := ⟨_, rfl⟩
      simp only [hm] at HXB ⊢
      have hm2 : m ≤ 16384 := by have := HX.out; omega
      clear hm
      go_wp2_with fail
      go_loopw [123] (fun x wr => ∃ j : Nat, x = .int .i64 j ∧ j ≤ m ∧ Hid (Now w0 w z pb px P b _ _ _ _ wr ∧ XB g m wr)) (fun x _ => m + 1 - (intOf x).toNat)
      case atStart => exact ⟨0, rfl, Nat.zero_le _, Lib.hid ⟨HN.out, HXB.out⟩⟩
      case round =>
        obtain ⟨j, rfl, hj, HJ⟩ := hrel
        by_cases hjm : j < m
        · obtain ⟨y, y1, y2, y3⟩ := HJ.out.2.at hjm
          have hj1 : j + 1 ≤ m := hjm
          have hj2 : (j : Int) < (m : Int) := by omega
          go_wp2_with fail
          go_roundw
          case rel => exact ⟨j + 1, by go_num, hj1, Lib.hid ⟨HJ.out.1.set HNE.out HGE.out, HJ.out.2.set _⟩⟩
          case measure => simp [intOf] <;> omega
        · have hjE : m = j := by omega
          subst hjE
          clear hjm hj
          have HE := Lib.hid HJ.out.1
          go_wp2_with fail
          go_ret
          exact ⟨rfl, HE.out.done⟩
    · have HI := Lib.hid hil
      clear hil
      go_enter Try.func9, Try.ntmps9
      go_wp2_with fail
      refine (copy_no (ply_no H0.out.ply HI.out)).mono ?_
      rintro e w1 ⟨rfl, rfl⟩
      go_wp2_with fail
      refine (ply_dno H0.out.ply HI.out true false).mono ?_
      rintro e w2 ⟨rfl, rfl⟩
      go_wp2_with fail
      refine (same_none none none 0 0 _).mono ?_
      rintro e ws ⟨rfl, hbs⟩
      have HE := Lib.hid (H0.out.on hbs)
      clear hbs
      go_wp2_with fail
      refine wp_loop_rounds 1 ?_
      rw [rounds_succ]
      go_wp2_with fail
      go_ret
      exact ⟨rfl, HE.out.done⟩
set_option maxRecDepth 100000 in
set_option maxHeartbeats 8000000 in
theorem play3 (w0 : World) (z : Bool) (pb px : Option Addr) (L : List (List Int)) (P : Nat → Prop) (o : Ob) (ao : Option Addr) (c : Nat) (w : World) (h : Ply w0 z pb px L L P w) (hin : o.In w0 ao c) (hk : o.kd = 3) :
    Calls Try.prog 9 #[.pointer pb, .pointer px, .agg #[.int .u8 o.kd, .int .i64 o.i, .slice ao o.l.length c]] w fun e w' => e = .returned (.bool true) ∧ ∃ L', Ply w0 z pb px L' L' P w' ∧ Keep P w w' := by
  obtain ⟨kd, i, l⟩ := o
  obtain ⟨hr, h0c, hnc, hcm, hkd, -, hlb⟩ := hin
  simp only at hr h0c hnc hcm hkd hlb ⊢
  obtain ⟨n, hn⟩ : ∃ n, l.length = n := ⟨_, rfl⟩
  rw [hn] at hnc hlb ⊢
  have hb0 : Below w.heap.size w (w.alloc (.cells #[.int .u8 kd, .int .i64 i, .slice ao n c] 32)) := (Below.refl _ _).alloc (Nat.le_refl _) _
  have H0 : Hid (Now w0 w z pb px P w.heap.size #[.int .u8 kd, .int .i64 i, .slice ao n c] L L (fun k => P k ∨ k = w.heap.size) (w.alloc (.cells #[.int .u8 kd, .int .i64 i, .slice ao n c] 32))) := Lib.hid ⟨h.more hb0 (fun k hk => hk.imp id (fun (e : k = w.heap.size) => by rw [e]; simp)), fun k hk => hb0.block k (h.lt k hk), heap_alloc_new _ _, fun _ h => h⟩
  have HR := Lib.hid (And.intro hr (And.intro h0c (And.intro hcm hn)))
  have HP := Lib.hid h.lt
  have hL2 := h.len.1
  clear hr h0c hcm hb0 hn h
  generalize hb : w.heap.size = b at *
  generalize hW : w.alloc (.cells #[.int .u8 kd, .int .i64 i, .slice ao n c] 32) = W at *
  have hbl : b < W.heap.size := H0.out.ply.lt b (.inr rfl)
  obtain ⟨c0, c1, c2⟩ : W.cell? ⟨b, 0, none⟩ = some (.int .u8 kd) ∧ W.cell? ⟨b, 1, none⟩ = some (.int .i64 i) ∧ W.cell? ⟨b, 2, none⟩ = some (.slice ao n c) := by have := H0.out.box; simp [World.cell?, this]
  simp only at hk
  subst hk
  · by_cases hil : 0 ≤ i ∧ i < L.length
    · obtain ⟨q, rfl⟩ : ∃ q : Nat, i = q := ⟨i.toNat, by omega⟩
      obtain ⟨x, hx⟩ : ∃ x, L[q]? = some x := ⟨_, List.getElem?_eq_getElem (by omega)⟩
      have HL := Lib.hid hx
      have hql : q < L.length := by omega
      go_enter Try.func9, Try.ntmps9
      go_wp2_with fail
      refine (ply_drop H0.out.ply q hql).mono ?_
      rintro e w1 ⟨rfl, hp, hk⟩
      have H1 := Lib.hid (H0.out.step hp hk (fun _ h => h))
      clear hp hk c0 c1 c2
      obtain ⟨c0, c1, c2⟩ : w1.cell? ⟨b, 0, none⟩ = some (.int .u8 3) ∧ w1.cell? ⟨b, 1, none⟩ = some (.int .i64 q) ∧ w1.cell? ⟨b, 2, none⟩ = some (.slice ao n c) := by have := H1.out.box; simp [World.cell?, this]
      go_wp2_with fail
      refine (ply_dtake H1.out.ply q x false HL.out).mono ?_
      rintro e w2 ⟨g2, gc2, rfl, ⟨hr2, hx2⟩, hp, hk⟩
      have H2 := Lib.hid (H1.out.step hp hk (fun _ h => h))
      rw [if_neg (by decide), List.append_nil] at H2
      clear hr2 hx2 hp hk
      go_wp2_with fail
      refine (same_none none none 0 0 _).mono ?_
      rintro e ws ⟨rfl, hbs⟩
      have HE := Lib.hid (H2.out.on hbs)
      clear hbs
      go_wp2_with fail
      refine wp_loop_rounds 1 ?_
      rw [rounds_succ]
      go_wp2_with fail
      go_ret
      exact ⟨rfl, HE.out.done⟩
    · have HI := Lib.hid hil
      clear hil
      go_enter Try.func9, Try.ntmps9
      go_wp2_with fail
      refine (drop_no (ply_no H0.out.ply HI.out)).mono ?_
      rintro e w1 ⟨rfl, rfl⟩
      go_wp2_with fail
      refine (ply_dno H0.out.ply HI.out false false).mono ?_
      rintro e w2 ⟨rfl, rfl⟩
      go_wp2_with fail
      refine (same_none none none 0 0 _).mono ?_
      rintro e ws ⟨rfl, hbs⟩
      have HE := Lib.hid (H0.out.on hbs)
      clear hbs
      go_wp2_with fail
      refine wp_loop_rounds 1 ?_
      rw [rounds_succ]
      go_wp2_with fail
      go_ret
      exact ⟨rfl, HE.out.done⟩
set_option maxRecDepth 100000 in
set_option maxHeartbeats 8000000 in
theorem play4 (w0 : World) (z : Bool) (pb px : Option Addr) (L : List (List Int)) (P : Nat → Prop) (o : Ob) (ao : Option Addr) (c : Nat) (w : World) (h : Ply w0 z pb px L L P w) (hin : o.In w0 ao c) (hk : o.kd = 4) :
    Calls Try.prog 9 #[.pointer pb, .pointer px, .agg #[.int .u8 o.kd, .int .i64 o.i, .slice ao o.l.length c]] w fun e w' => e = .returned (.bool true) ∧ ∃ L', Ply w0 z pb px L' L' P w' ∧ Keep P w w' := by
  obtain ⟨kd, i, l⟩ := o
  obtain ⟨hr, h0c, hnc, hcm, hkd, -, hlb⟩ := hin
  simp only at hr h0c hnc hcm hkd hlb ⊢
  obtain ⟨n, hn⟩ : ∃ n, l.length = n := ⟨_, rfl⟩
  rw [hn] at hnc hlb ⊢
  have hb0 : Below w.heap.size w (w.alloc (.cells #[.int .u8 kd, .int .i64 i, .slice ao n c] 32)) := (Below.refl _ _).alloc (Nat.le_refl _) _
  have H0 : Hid (Now w0 w z pb px P w.heap.size #[.int .u8 kd, .int .i64 i, .slice ao n c] L L (fun k => P k ∨ k = w.heap.size) (w.alloc (.cells #[.int .u8 kd, .int .i64 i, .slice ao n c] 32))) := Lib.hid ⟨h.more hb0 (fun k hk => hk.imp id (fun (e : k = w.heap.size) => by rw [e]; simp)), fun k hk => hb0.block k (h.lt k hk), heap_alloc_new _ _, fun _ h => h⟩
  have HR := Lib.hid (And.intro hr (And.intro h0c (And.intro hcm hn)))
  have HP := Lib.hid h.lt
  have hL2 := h.len.1
  clear hr h0c hcm hb0 hn h
  generalize hb : w.heap.size = b at *
  generalize hW : w.alloc (.cells #[.int .u8 kd, .int .i64 i, .slice ao n c] 32) = W at *
  have hbl : b < W.heap.size := H0.out.ply.lt b (.inr rfl)
  obtain ⟨c0, c1, c2⟩ : W.cell? ⟨b, 0, none⟩ = some (.int .u8 kd) ∧ W.cell? ⟨b, 1, none⟩ = some (.int .i64 i) ∧ W.cell? ⟨b, 2, none⟩ = some (.slice ao n c) := by have := H0.out.box; simp [World.cell?, this]
  simp only at hk
  subst hk
  · by_cases hil : 0 ≤ i ∧ i < L.length
    · obtain ⟨q, rfl⟩ : ∃ q : Nat, i = q := ⟨i.toNat, by omega⟩
      obtain ⟨x, hx⟩ : ∃ x, L[q]? = some x := ⟨_, List.getElem?_eq_getElem (by omega)⟩
      have HL := Lib.hid hx
      have hql : q < L.length := by omega
      go_enter Try.func9, Try.ntmps9
      go_wp2_with fail
      refine (ply_hold H0.out.ply q x HL.out).mono ?_
      rintro e w1 ⟨rfl, hp, hk⟩
      have H1 := Lib.hid (H0.out.step hp hk (fun _ h => h))
      clear hp hk c0 c1 c2
      obtain ⟨c0, c1, c2⟩ : w1.cell? ⟨b, 0, none⟩ = some (.int .u8 4) ∧ w1.cell? ⟨b, 1, none⟩ = some (.int .i64 q) ∧ w1.cell? ⟨b, 2, none⟩ = some (.slice ao n c) := by have := H1.out.box; simp [World.cell?, this]
      go_wp2_with fail
      refine (ply_dtake H1.out.ply q x true HL.out).mono ?_
      rintro e w2 ⟨g2, gc2, rfl, ⟨hr2, hx2⟩, hp, hk⟩
      have H2 := Lib.hid (H1.out.step hp hk (fun _ h => h))
      rw [if_pos rfl] at H2
      clear hr2 hx2 hp hk
      go_wp2_with fail
      refine (same_none none none 0 0 _).mono ?_
      rintro e ws ⟨rfl, hbs⟩
      have HE := Lib.hid (H2.out.on hbs)
      clear hbs
      go_wp2_with fail
      refine wp_loop_rounds 1 ?_
      rw [rounds_succ]
      go_wp2_with fail
      go_ret
      exact ⟨rfl, HE.out.done⟩
    · have HI := Lib.hid hil
      clear hil
      go_enter Try.func9, Try.ntmps9
      go_wp2_with fail
      refine (hold_no (ply_no H0.out.ply HI.out)).mono ?_
      rintro e w1 ⟨rfl, rfl⟩
      go_wp2_with fail
      refine (ply_dno H0.out.ply HI.out false true).mono ?_
      rintro e w2 ⟨rfl, rfl⟩
      go_wp2_with fail
      refine (same_none none none 0 0 _).mono ?_
      rintro e ws ⟨rfl, hbs⟩
      have HE := Lib.hid (H0.out.on hbs)
      clear hbs
      go_wp2_with fail
      refine wp_loop_rounds 1 ?_
      rw [rounds_succ]
      go_wp2_with fail
      go_ret
      exact ⟨rfl, HE.out.done⟩
set_option maxRecDepth 100000 in
set_option maxHeartbeats 8000000 in
theorem play5 (w0 : World) (z : Bool) (pb px : Option Addr) (L : List (List Int)) (P : Nat → Prop) (o : Ob) (ao : Option Addr) (c : Nat) (w : World) (h : Ply w0 z pb px L L P w) (hin : o.In w0 ao c) (hk0 : ¬ o.kd = 0) (hk1 : ¬ o.kd = 1) (hk2 : ¬ o.kd = 2) (hk3 : ¬ o.kd = 3) (hk4 : ¬ o.kd = 4) :
    Calls Try.prog 9 #[.pointer pb, .pointer px, .agg #[.int .u8 o.kd, .int .i64 o.i, .slice ao o.l.length c]] w fun e w' => e = .returned (.bool true) ∧ ∃ L', Ply w0 z pb px L' L' P w' ∧ Keep P w w' := by
  obtain ⟨kd, i, l⟩ := o
  obtain ⟨hr, h0c, hnc, hcm, hkd, -, hlb⟩ := hin
  simp only at hr h0c hnc hcm hkd hlb ⊢
  obtain ⟨n, hn⟩ : ∃ n, l.length = n := ⟨_, rfl⟩
  rw [hn] at hnc hlb ⊢
  have hb0 : Below w.heap.size w (w.alloc (.cells #[.int .u8 kd, .int .i64 i, .slice ao n c] 32)) := (Below.refl _ _).alloc (Nat.le_refl _) _
  have H0 : Hid (Now w0 w z pb px P w.heap.size #[.int .u8 kd, .int .i64 i, .slice ao n c] L L (fun k => P k ∨ k = w.heap.size) (w.alloc (.cells #[.int .u8 kd, .int .i64 i, .slice ao n c] 32))) := Lib.hid ⟨h.more hb0 (fun k hk => hk.imp id (fun (e : k = w.heap.size) => by rw [e]; simp)), fun k hk => hb0.block k (h.lt k hk), heap_alloc_new _ _, fun _ h => h⟩
  have HR := Lib.hid (And.intro hr (And.intro h0c (And.intro hcm hn)))
  have HP := Lib.hid h.lt
  have hL2 := h.len.1
  clear hr h0c hcm hb0 hn h
  generalize hb : w.heap.size = b at *
  generalize hW : w.alloc (.cells #[.int .u8 kd, .int .i64 i, .slice ao n c] 32) = W at *
  have hbl : b < W.heap.size := H0.out.ply.lt b (.inr rfl)
  obtain ⟨c0, c1, c2⟩ : W.cell? ⟨b, 0, none⟩ = some (.int .u8 kd) ∧ W.cell? ⟨b, 1, none⟩ = some (.int .i64 i) ∧ W.cell? ⟨b, 2, none⟩ = some (.slice ao n c) := by have := H0.out.box; simp [World.cell?, this]
  simp only at hk0 hk1 hk2 hk3 hk4
  have k0 : (kd == 0) = false := beq_eq_false_iff_ne.2 hk0
  have k1 : (kd == 1) = false := beq_eq_false_iff_ne.2 hk1
  have k2 : (kd == 2) = false := beq_eq_false_iff_ne.2 hk2
  have k3 : (kd == 3) = false := beq_eq_false_iff_ne.2 hk3
  have k4 : (kd == 4) = false := beq_eq_false_iff_ne.2 hk4
  go_enter Try.func9, Try.ntmps9
  go_wp2_with fail
  refine (same_none none none 0 0 _).mono ?_
  rintro e ws ⟨rfl, hbs⟩
  have HE := Lib.hid (H0.out.on hbs)
  clear hbs
  go_wp2_with fail
  refine wp_loop_rounds 1 ?_
  rw [rounds_succ]
  go_wp2_with fail
  go_ret
  exact ⟨rfl, HE.out.done⟩
theorem play_any (w0 : World) (z : Bool) (pb px : Option Addr) (L : List (List Int)) (P : Nat → Prop) (o : Ob) (ao : Option Addr) (c : Nat) (w : World) (h : Ply w0 z pb px L L P w) (hin : o.In w0 ao c) :
    Calls Try.prog 9 #[.pointer pb, .pointer px, .agg #[.int .u8 o.kd, .int .i64 o.i, .slice ao o.l.length c]] w fun e w' => e = .returned (.bool true) ∧ ∃ L', Ply w0 z pb px L' L' P w' ∧ Keep P w w' := by
  by_cases h0 : o.kd = 0
  · exact play0 w0 z pb px L P o ao c w h hin h0
  by_cases h1 : o.kd = 1
  · exact play1 w0 z pb px L P o ao c w h hin h1
  by_cases h2 : o.kd = 2
  · exact play2 w0 z pb px L P o ao c w h hin h2
  by_cases h3 : o.kd = 3
  · exact play3 w0 z pb px L P o ao c w h hin h3
  by_cases h4 : o.kd = 4
  · exact play4 w0 z pb px L P o ao c w h hin h4
  exact play5 w0 z pb px L P o ao c w h hin h0 h1 h2 h3 h4
end Go.Proofs.Ythjcllgjojldjaa.Bg
