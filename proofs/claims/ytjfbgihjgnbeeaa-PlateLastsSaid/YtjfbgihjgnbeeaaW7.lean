/- plate: Restart, walked: the writes are taken back. -/
import Derived.Test.YtjfbgihjgnbeeaaA5
import Derived.Deep.RegionHeld3
import Derived.Outline
import Derived.RangeFuncBox
import Derived.RangeFuncWrites
import Derived.Maps.OwnIn
namespace Go.Proofs.Ytjfbgihjgnbeeaa.Pl
open Go Go.RowKit Go.Stop Go.Shelf
attribute [local go_sem] Oper.semAt_some
def unl (pre : List (Nat × Ent)) (pg : Int → Array Value) : Int → Array Value := pre.foldl (fun pg x => upd pg x.2.1.1 x.2.1.2.1) pg
theorem unl_snoc (pre : List (Nat × Ent)) (x : Nat × Ent) (pg : Int → Array Value) : unl (pre ++ [x]) pg = upd (unl pre pg) x.2.1.1 x.2.1.2.1 := by simp [unl]
/-- Between two rounds of the loop that lays them over what lasts. -/
def ReI (w : World) (B : Nat) (F : Nat → Prop) (b m bm : Nat) (v : Value) (s : PSt) (ao : Option Addr) (len cap D : Nat) (ks : List Value) (L : List Ent) (k : Nat) (W : World) : Prop :=
  PlateAt W B F b (m + k) bm v { s with pg := rep ks L (unl (bk L) s.pg) k } ∧ W.heap[w.heap.size]? = some (.cells #[.pointer (some ⟨b, 0, none⟩)] 24 (0, 0)) ∧ W.heap[w.heap.size + 1]? = some (.cells #[.slice ao len cap] 53 (0, 0)) ∧ W.heap[D]? = some (.deferred (some [])) ∧ Turned F w W
/-- Between two rounds. -/
def UnI (w : World) (B : Nat) (F : Nat → Prop) (b n bm : Nat) (v : Value) (s : PSt) (ao : Option Addr) (len cap : Nat) (pre : List (Nat × Ent)) (W : World) : Prop :=
  PlateAt W B F b (n + pre.length) bm v { s with pg := unl pre s.pg } ∧ W.heap[w.heap.size]? = some (.cells #[.pointer (some ⟨b, 0, none⟩)] 24 (0, 0)) ∧ W.heap[w.heap.size + 1]? = some (.cells #[.slice ao len cap] 53 (0, 0)) ∧ w.heap.size + 3 ≤ W.heap.size ∧ Turned F w W
theorem unI_own (w : World) (B : Nat) (F : Nat → Prop) (b n bm : Nat) (v : Value) (s : PSt) (ao : Option Addr) (len cap : Nat) (hF : ∀ k, F k → k < w.heap.size) (n₀ : Nat) (h0 : w.heap.size + 2 ≤ n₀) : OwnFrom n₀ (UnI w B F b n bm v s ao len cap) := by
  intro pre A A' row ⟨h1, h2, h3, h5, h4⟩ hg hr
  have hr' := fun r e => (hr r e).1
  have hs := (Array.getElem?_eq_some_iff.1 h3).1
  refine ⟨h1.on (.of_grown (G := fun k => n₀ ≤ k) hg hr') (fun k hk h => by have := hF k hk; omega), (hg.block _ (by omega) (fun e => by have := hr' _ e.symm; omega)).trans h2, (hg.block _ (by omega) (fun e => by have := hr' _ e.symm; omega)).trans h3, Nat.le_trans h5 hg.size, h4.trans (.of_grown (G := fun k => n₀ ≤ k) hg hr') (fun k hk => .inr (by omega))⟩
theorem fold2 (T : Array Value) (u v : Value) : (((#[23, 24] : Array Tmp).zip #[u, v]).foldl (fun t x => match x with | (p, v) => t.setIfInBounds p v) T) = (T.setIfInBounds 23 u).setIfInBounds 24 v := by simp
def fr20 (b q : Nat) (ao : Option Addr) (len cap : Nat) (v p6 x23 x24 : Value) : Array Value := #[.pointer (some ⟨b, 0, none⟩), .agg #[.slice ao len cap], .pointer (some ⟨q, 0, none⟩), .pointer (some ⟨q + 1, 0, none⟩), .int .i64 0, undef, p6, undef, undef, .bool false, .pointer (some ⟨b, 0, none⟩), .bool false, .bool false, .pointer (some ⟨b, 0, none⟩), .pointer (some ⟨b, 0, none⟩), .pointer (some ⟨b, 3, none⟩), .bool true, .bool false, .pointer (some ⟨b, 0, none⟩), .pointer (some ⟨b, 0, none⟩), .pointer (some ⟨b, 2, none⟩), v, .func (.func 48) #[] #[.pointer (some ⟨q + 1 + 1, 0, none⟩)], x23, x24, undef, undef, undef, undef, undef, undef, undef, undef, undef, undef, undef, undef, undef, undef, undef, undef, undef, undef, undef, undef, undef, undef, undef, undef, undef, undef, undef, undef, undef, undef, undef, undef, undef, undef, undef, undef, undef, undef, undef, undef, undef, undef, undef]
/-- The loop's variable. -/
def UnA (b q : Nat) (ao : Option Addr) (len cap : Nat) (v : Value) (n₀ : Nat) (x : Nat × Ent) (a' : Act) (W : World) : Prop :=
  ∃ Bx, n₀ ≤ Bx ∧ W.heap[Bx]? = some (.cells x.2.cells 84 (0, 0)) ∧ a' = { tmps := fr20 b q ao len cap v (.pointer (some ⟨Bx, 0, none⟩)) (.int .i64 x.1) (.agg x.2.cells), defers := [] }
theorem unA_own (b q : Nat) (ao : Option Addr) (len cap : Nat) (v : Value) (n₀ B0 : Nat) (x : Nat × Ent) (a' : Act) : OwnFrom B0 (fun (_ : Unit) W => UnA b q ao len cap v n₀ x a' W) := by
  intro _ A A' row ⟨Bx, h1, h2, h3⟩ hg hr
  refine ⟨Bx, h1, (hg.block Bx (Array.getElem?_eq_some_iff.1 h2).1 (fun e => ?_)).trans h2, h3⟩
  obtain ⟨_, o, ho, hc⟩ := hr Bx e.symm
  rw [h2] at ho
  cases ho
  simp [Obj.isCells] at hc
theorem kpB_b {n₀ bm : Nat} (W : World) (l : Nat) (o' : Obj) (h : n₀ ≤ l) : KpB n₀ bm W (W.putObj l o') := fun k hk _ => World.putObj_heap_other (by omega)
set_option maxRecDepth 100000 in
set_option maxHeartbeats 4000000 in
theorem restart_ok (b n bm : Nat) (B : Nat) (F : Nat → Prop) (v : Value) (s : PSt) (ao : Option Addr) (len cap : Nat) (ks : List Value) (w : World) (h : PlateAt w B F b n bm v s) (hoff : s.off = true)
    (hl : ks.length = len) (hlen : len < 4611686018427387904) (hsrc : Src w ao ks) (hao : ∀ ad, ao = some ad → ¬ F ad.block) (hn : n + 2 * s.op.length < maxLen) (hop : s.op.length ≤ 100000) :
    Calls Try.prog 20 #[.pointer (some ⟨b, 0, none⟩), .agg #[.slice ao len cap]] w fun e w' => e = .returned (.int .i64 0) ∧ ∃ L : List Ent, L.map Subtype.val = s.op ∧ Did w B F b (n + 2 * s.op.length) bm { s with pg := rep ks L (unl (bk L) s.pg) L.length, op := [], off := false, left := 0 } w' := by
  have hblk := h.blk
  rw [hoff] at hblk
  obtain ⟨_, c1, c2, c3, _, _⟩ := cells6 hblk
  have hv : ∃ ao n c, v = .slice ao n c := by
    rcases h.row.2 with ⟨e, _⟩ | ⟨g, cap, cur, e, _⟩
    · exact ⟨_, _, _, e⟩
    · exact ⟨_, _, _, e⟩
  have two : ∀ {j : Nat} {u : Value}, w.cell? ⟨b, j, none⟩ = some u → ((w.alloc (.cells #[.pointer (some ⟨b, 0, none⟩)] 24)).alloc (.cells #[.slice ao len cap] 53)).cell? ⟨b, j, none⟩ = some u :=
    fun hc => (World.grownBy_alloc _ _ none).cell ((World.grownBy_alloc w _ none).cell hc (by simp)) (by simp)
  have d2 := two c2
  have d3 := two c3
  clear two
  have H := Lib.hid h
  have HV := Lib.hid hv
  have HL := Lib.hid hl
  have HS := Lib.hid hsrc
  have HX := Lib.hid (And.intro hlen (And.intro hn hop))
  have HAO := Lib.hid hao
  have HO := Lib.hid hoff
  have HB := Lib.hid hblk
  clear h hv hl hsrc hlen hn hop hao hoff hblk
  refine (callsIn_wide (n := 3)).1 ?_
  refine callsIn_of_wp_marks Try.func20 rfl trivial ?_ rfl
  simp only [Try.ntmps20, List.size_toArray, List.length_cons, List.length_nil, Nat.reduceAdd, Nat.reduceSub, Array.replicate_succ, Array.replicate_zero, List.push_toArray, List.append_toArray, List.nil_append, List.cons_append]
  gi_wp2
  refine ⟨trivial, (callsIn_wide.2 (backward _ _ HV.out)).mono ?_⟩
  rintro e _ ⟨rfl, rfl⟩
  gi_wp2
  obtain ⟨W0, hW0⟩ : ∃ W0, ((w.alloc (.cells #[.pointer (some ⟨b, 0, none⟩)] 24)).alloc (.cells #[.slice ao len cap] 53)).alloc (.cells #[v] 66) = W0 := ⟨_, rfl⟩
  have hs0 : W0.heap.size = w.heap.size + 3 := by rw [← hW0]; simp
  have hg0 : w.grownBy W0 none := by rw [← hW0]; exact ((World.grownBy_alloc _ _ none).trans (World.grownBy_alloc _ _ none)).trans (World.grownBy_alloc _ _ none)
  have e1 : (w.alloc (.cells #[.pointer (some ⟨b, 0, none⟩)] 24)).heap.size = w.heap.size + 1 := by simp
  have e2 : ((w.alloc (.cells #[.pointer (some ⟨b, 0, none⟩)] 24)).alloc (.cells #[.slice ao len cap] 53)).heap.size = w.heap.size + 2 := by simp
  have k0 : W0.heap[w.heap.size]? = some (.cells #[.pointer (some ⟨b, 0, none⟩)] 24 (0, 0)) := by
    rw [← hW0, heap_alloc_old _ _ (by omega), heap_alloc_old _ _ (by omega), heap_alloc_new]
  have k1 : W0.heap[w.heap.size + 1]? = some (.cells #[.slice ao len cap] 53 (0, 0)) := by
    rw [← hW0, heap_alloc_old _ _ (by omega)]
    have := heap_alloc_new (w.alloc (.cells #[.pointer (some ⟨b, 0, none⟩)] 24)) (.cells #[.slice ao len cap] 53)
    rwa [e1] at this
  have k2 : W0.cell? ⟨w.heap.size + 2, 0, none⟩ = some v := by
    have := heap_alloc_new ((w.alloc (.cells #[.pointer (some ⟨b, 0, none⟩)] 24)).alloc (.cells #[.slice ao len cap] 53)) (.cells #[v] 66)
    rw [e2, hW0] at this
    simp [World.cell?, this]
  rw [hW0]
  clear hW0
  obtain ⟨L, hL⟩ := ents s.op H.out.each
  have hLl : L.length = s.op.length := by rw [← hL]; simp
  have hrow := H.out.row
  rw [← hL, List.length_map] at hrow
  have T0 : Turned (fun _ => False) w W0 := .of_grown hg0 (fun k e => by cases e)
  have H0 := H.out.on T0 (fun _ _ h => h)
  obtain ⟨g, cap', ao', hv', hgs, hga⟩ : ∃ (g cap' : Nat) (ao' : Option Addr), v = .slice ao' L.length cap' ∧ (g < w.heap.size ∧ g ≠ bm) ∧ (L ≠ [] → ao' = some ⟨g, 0, none⟩ ∧ RowAt W0 g L) := by
    by_cases hne : L = []
    · rcases hrow.2 with ⟨e, _⟩ | ⟨g, cap, cur, e, _, hg, _⟩
      · exact ⟨b, 0, none, by rw [e, hne]; rfl, ⟨H.out.hi b H.out.fb, map_not_cells H.out.map H.out.blk⟩, fun h => absurd hne h⟩
      · exact ⟨b, cap, some ⟨g, 0, none⟩, e, ⟨H.out.hi b H.out.fb, map_not_cells H.out.map H.out.blk⟩, fun h => absurd hne h⟩
    · obtain ⟨g, cap, e, hg, hr⟩ := row_at hrow hne
      exact ⟨g, cap, some ⟨g, 0, none⟩, e, ⟨hg, fun e' => row_not_map H.out.map H.out.row (by rw [e, ← e']; rfl)⟩, fun _ => ⟨rfl, hr.kept (hg0.block g hg (by simp))⟩⟩
  have hbm : bm < w.heap.size := H.out.hi bm H.out.fm
  rw [hv'] at k2
  have HV' := Lib.hid hv'
  have HLl := Lib.hid hLl
  have HLL := Lib.hid hL
  have hst := back_stops 2 (by decide) (w.heap.size + 2) g cap' bm W0.heap.size ao' L W0 (by omega) k2 hga (by have := HX.out.2.2; omega) (by omega) (by omega) (by omega) (by omega) hgs.2
  have HR := Lib.hid hrow
  have HG := Lib.hid (And.intro hg0 hgs)
  have HGA := Lib.hid hga
  have HS0 := Lib.hid hs0
  clear hv' hLl hL hrow hg0 hgs hga e1 e2 k2 d2 d3 c1 c2 c3 hs0
  refine wpIn_rangeFunc_ownH rfl (by decide) (gf := 48) (lb := #[.pointer (some ⟨w.heap.size + 1 + 1, 0, none⟩)]) rfl trivial (enters_of Try.func48 (by kernel_rfl) rfl)
    hst kpB_t (fun W l o o' hl _ _ _ => kpB_b W l o' hl) (Below.refl _ _) (fun _ => rfl)
    (UnI w B F b n bm v s ao len cap) (fun _ _ _ => False) (unI_own w B F b n bm v s ao len cap H.out.hi _ (by have := HS0.out; omega)) (fun c => (fun _ _ _ _ h => h.elim))
    ⟨H0, k0, k1, by have := HS0.out; omega, T0.mono (fun _ h => h.elim)⟩ (UnA b w.heap.size ao len cap v W0.heap.size) (fun x a' => unA_own _ _ _ _ _ _ _ _ x a') ?assign ?body ?done ?stop
  case stop =>
    rintro D c pre W hD hp h
    exact h.elim
  case assign =>
    intro l pre x W K hI hK
    have HI := Lib.hid hI
    have HK := Lib.hid hK
    have HZ := Lib.hid (show (Try.prog.info? 84).map (·.size) = some x.2.cells.size by rw [x.2.size]; exact size84)
    have HW := Lib.hid (And.intro (show (Pl.wr 0 Zp Zp).size = x.2.cells.size by rw [x.2.size]; exact wr_size zp_page.1 zp_page.1) x.2.one)
    clear hI hK
    simp only [encB, fold2, List.setIfInBounds_toArray, List.set_cons_zero, List.set_cons_succ]
    gi_wp2_with (first
      | (refine wpListIn_turns rfl (fun c h => by cases h) rfl (exec_alloc84 rfl _) ?_)
      | (refine wpListIn_skips rfl (fun c h => by cases h) rfl (exec_store_row 84 (.tmp 6) (.tmp 24) rfl W.heap.size x.2.cells rfl rfl 84 (wr 0 Zp Zp) (heap_alloc_new W _) HZ.out HW.out.1 HW.out.2) ?_; rw [World.setRow_alloc_new]))
    refine HK.out _ _ (KeepsFrom.of_grownBy (World.grownBy_alloc _ _ none) (fun j e => by cases e)) (fun k hk _ => heap_alloc_old W _ (by have := HI.out.2.2.2.1; have := HS0.out; omega))
      (unI_own w B F b n bm v s ao len cap H.out.hi (w.heap.size + 2) (by omega) pre W _ none HI.out (World.grownBy_alloc _ _ none) (fun r e => by cases e)) ⟨W.heap.size, by have := HI.out.2.2.2.1; have := HS0.out; omega, heap_alloc_new W _, rfl⟩
  case body =>
    rintro l pre x a' W hl ⟨r, hr⟩ ⟨hP, h1, h2, h5, hT⟩ ⟨Bx, hBx, bX, rfl⟩ hlt
    obtain ⟨_, q1, _⟩ := cells6 hP.blk
    have hq : W.cell? ⟨w.heap.size, 0, none⟩ = some (.pointer (some ⟨b, 0, none⟩)) := by simp [World.cell?, h1]
    have hx0 := Ent.at0 bX
    have hx1 := Ent.at1 bX
    have hput := put_any b bm (n + pre.length) x.2.1.1 x.2.1.2.1 (unl pre s.pg) W q1 hP.map (by have := HX.out.2.1; have := HLl.out; omega) x.2.2.1 x.2.2.2.1
    have HP := Lib.hid hP
    have HX1 := Lib.hid hx1
    have HPUT := Lib.hid hput
    have HT := Lib.hid hT
    have HH := Lib.hid (And.intro h1 (And.intro h2 h5))
    have HZ := Lib.hid (show (Try.prog.info? 82).map (·.size) = some x.2.1.2.1.toList.length by rw [Array.length_toList, x.2.2.2.1.1]; exact size82)
    clear hP hT hx1 hput h1 h2 h5 q1
    simp only [fr20]
    gi_wp2_with (first
      | (refine wpListIn_turns rfl (fun c h => by cases h) rfl (exec_field84 (x := .tmp 6) (k := 0) rfl rfl (.inl rfl) _) ?_)
      | (refine wpListIn_turns rfl (fun c h => by cases h) rfl (exec_field84 (x := .tmp 6) (k := 1) rfl rfl (.inr (.inl rfl)) _) ?_)
      | (refine wpListIn_turns rfl (fun c h => by cases h) rfl (exec_load_mid 82 (.tmp 28) rfl Bx 1 rfl x.2.1.2.1.toList _ HX1.out Try.underlying82 rfl HZ.out) ?_))
    refine ⟨trivial, (CallsIn.inRound l (callsIn_wide.2 HPUT.out)).mono ?_⟩
    rintro e W1 ⟨rfl, hM, hg⟩
    have hbm := H.out.hi bm H.out.fm
    obtain ⟨hP1, hT1⟩ := mapped HP.out hM hg
    have hI1 : UnI w B F b n bm v s ao len cap (pre ++ [x]) W1 := by
      refine ⟨?_, (hg.block _ (by have := HH.out.2.2; omega) (fun e => by injection e with e; omega)).trans HH.out.1, (hg.block _ (by have := HH.out.2.2; omega) (fun e => by injection e with e; omega)).trans HH.out.2.1, Nat.le_trans HH.out.2.2 hg.size, HT.out.trans hT1 (fun _ h => .inl h)⟩
      rw [unl_snoc, List.length_append]
      exact hP1
    have HI1 := Lib.hid hI1
    have HG1 := Lib.hid hg
    clear hI1 hP1 hT1 hM hg
    gi_wp2
    exact ⟨KeepsFrom.of_grownBy HG1.out (fun j e => by injection e with e; have := HS0.out; omega), fun k hk hb => HG1.out.block k (by have := HH.out.2.2; have := HS0.out; omega) (fun e => hb (by injection e)), HI1.out⟩
  case done =>
    rintro D ys W hD rfl hI hK
    have hJ0 : ReI w B F b (n + L.length) bm v s ao len cap D ks L 0 W := ⟨by have := hI.1; rw [bk_len] at this; exact this, hI.2.1, hI.2.2.1, hK, hI.2.2.2.2⟩
    have HJ0 := Lib.hid hJ0
    obtain ⟨c0, c1, c2, c3, _, _⟩ := cells6 hI.1.blk
    have hq := cell1 hI.2.1
    have hDq := Lib.hid (show w.heap.size + 3 ≤ D by have := HS0.out; omega)
    clear hI hK hJ0 hD
    simp only [Exit.inBlock, Exit.then]
    gi_step
    refine wpIn_wide.2 ?_
    rw [HV'.out] at c2
    go_wp2_with fail
    go_loopw [36] (fun i wr => ∃ k : Nat, k ≤ L.length ∧ i = .int .i64 k ∧ ReI w B F b (n + L.length) bm v s ao len cap D ks L k wr) (fun i _ => L.length - (intOf i).toNat)
    case atStart => exact ⟨0, Nat.zero_le _, rfl, HJ0.out⟩
    case round =>
      obtain ⟨k, hk, rfl, hJ⟩ := hrel
      have HJ := Lib.hid hJ
      clear hJ c0 c1 c2 c3 hq HJ0
      by_cases hlt : k < L.length
      · have hne : L ≠ [] := fun e => by rw [e] at hlt; simp at hlt
        obtain ⟨t, ht⟩ : ∃ t, L[k]? = some t := ⟨L[k], List.getElem?_eq_getElem hlt⟩
        obtain ⟨ea, _⟩ := HGA.out hne
        subst ea
        have hrow := HJ.out.1.row
        have hrl : (s.op.length = L.length) := HLl.out.symm
        have hrow2 : wr.ownsRow B 84 129 v L.length (opCells (L.map Subtype.val)) := by rw [HLL.out, HLl.out]; exact hrow
        obtain ⟨g2, cp2, ev, hg2, hra⟩ := row_at hrow2 hne
        have hgg : g = g2 := by
          have e1 := HV'.out.symm.trans ev
          simp at e1
          exact e1.1
        subst hgg
        have hro := hra k t ht
        have HROW := Lib.hid hro
        have HLT := Lib.hid hlt
        have HT := Lib.hid ht
        have hlt' : (k : Int) < (L.length : Int) := by omega
        have HZ := Lib.hid (show (Try.prog.info? 84).map (·.size) = some t.cells.size by rw [t.size]; exact size84)
        have HW := Lib.hid (And.intro (show (Pl.wr 0 Zp Zp).size = t.cells.size by rw [t.size]; exact wr_size zp_page.1 zp_page.1) t.one)
        have hmb := H.out.hi bm H.out.fm
        have hbb := H.out.hi b H.out.fb
        have hwr := block_lt HJ.out.2.2.1
        have HNE := Lib.hid (show (some w.heap.size ≠ some bm) ∧ (some (w.heap.size + 1) ≠ some bm) ∧ (some wr.heap.size ≠ some bm) ∧ (some b ≠ some bm) from ⟨fun e => by injection e with e; omega, fun e => by injection e with e; omega, fun e => by injection e with e; omega, fun e => map_not_cells H.out.map H.out.blk (by injection e)⟩)
        have hpa := HJ.out.1.on (turned_alloc (.cells t.cells 84)) (fun _ _ h => h)
        have HPA := Lib.hid (show PlateAt (wr.alloc (.cells t.cells 84)).drew B F b (n + L.length + k) bm v { s with pg := rep ks L (unl (bk L) s.pg) k } from hpa.on (G := fun _ => False) (.of_grown (grown_drew _ none) (fun k e => by cases e)) (fun _ _ h => h))
        have HS0 := Lib.hid (show Sh w.heap.size b bm wr.heap.size ao len cap t (wr.alloc (.cells t.cells 84)).drew from ⟨(heap_alloc_old wr _ (block_lt HJ.out.2.1)).trans HJ.out.2.1, (heap_alloc_old wr _ (block_lt HJ.out.2.2.1)).trans HJ.out.2.2.1, heap_alloc_new wr _, (cells6 HPA.out.blk).2.1⟩)
        have HM0 := Lib.hid HPA.out.map
        have HPG := Lib.hid (pages_of HPA.out)
        have HNM := Lib.hid (show n + L.length + k < maxLen by have := HX.out.2.1; have := HLl.out; omega)
        have htw : Turned F w (wr.alloc (.cells t.cells 84)).drew := (HJ.out.2.2.2.2.trans (turned_alloc (.cells t.cells 84)) (fun _ h => h.elim)).trans (.of_grown (grown_drew _ none) (fun k e => by cases e)) (fun _ h => (h : False).elim)
        have HWAY := Lib.hid (way_any ao len cap ks k (wr.alloc (.cells t.cells 84)).drew HL.out HX.out.1 (by have := HX.out.2.2; have := HLl.out; omega) (HS.out.turned htw HAO.out))
        have HTW := Lib.hid htw
        have hDw := block_lt HJ.out.2.2.2.1
        have hfin : ∀ w42 w41 w38, Below (wr.alloc (.cells t.cells 84)).drew.heap.size (wr.alloc (.cells t.cells 84)).drew w42 → Below w42.heap.size w42 w41 → MapIs w38 bm (n + L.length + k + 1) (upd (rep ks L (unl (bk L) s.pg) k) t.1.1 (Ov (rep ks L (unl (bk L) s.pg) k t.1.1) t.1.2.2 (wy ks k))) → w41.grownBy w38 (some bm) → ReI w B F b (n + L.length) bm v s ao len cap D ks L (k + 1) w38 := by
          intro w42 w41 w38 h42 h41 hm hg
          have t42 := below_turned0 h42
          have t41 := below_turned0 h41
          have p41 := (HPA.out.on t42 (fun _ _ h => h)).on t41 (fun _ _ h => h)
          obtain ⟨p38, t38⟩ := mapped p41 hm hg
          have tt : Turned F w w38 := ((HTW.out.trans t42 (fun _ h => (h : False).elim)).trans t41 (fun _ h => (h : False).elim)).trans t38 (fun _ h => .inl h)
          have old : ∀ i o, i ≠ bm → wr.heap[i]? = some o → w38.heap[i]? = some o := fun i o hi ho => by
            have hlt := block_lt ho
            have s1 : wr.heap.size < (wr.alloc (.cells t.cells 84)).drew.heap.size := by show _ < (wr.alloc (.cells t.cells 84)).heap.size; simp
            have s2 := h42.size
            have s3 := h41.size
            refine (hg.block i (by omega) (fun e => hi (by injection e))).trans ((h41.block i (by omega)).trans ((h42.block i (by omega)).trans ((heap_alloc_old wr _ hlt).trans ho)))
          refine ⟨?_, old _ _ (by omega) HJ.out.2.1, old _ _ (by omega) HJ.out.2.2.1, old _ _ (by have := hDq.out; omega) HJ.out.2.2.2.1, tt⟩
          rw [rep_succ HT.out]
          exact p38
        have HFIN := Lib.hid hfin
        clear hfin hpa htw hrow hrow2 hrl hra hro ht hne ev hlt hmb hbb hg2 hDw
        go_upto_region 11 with ((first
          | (refine wpList_value rfl (exec_idx66 (x := .tmp 34) (y := .tmp 36) rfl rfl rfl HLT.out _) ?_)
          | (refine wpList_value rfl (exec_load_mid 84 (.tmp 39) rfl g (k * 129) rfl t.cells.toList _ HROW.out Try.underlying84 rfl (by rw [Array.length_toList, t.size]; exact size84)) ?_)
          | (refine wpList_turns rfl (exec_alloc84 rfl _) ?_)
          | (refine wpList_store_row rfl 84 (.tmp 8) (.tmp 40) rfl wr.heap.size t.cells rfl rfl 84 (Pl.wr 0 Zp Zp) (heap_alloc_new wr _) HZ.out HW.out.1 HW.out.2 ?_; rw [World.setRow_alloc_new])))
        simp only [Act.put, List.setIfInBounds_toArray, List.set_cons_zero, List.set_cons_succ]
        refine wp_region_noPanic ?_
        refine wp_region_held_drew (S := Sh w.heap.size b bm wr.heap.size ao len cap t) (by kernel_rfl) HS0.out (fun _ => ?_)
        refine wpAnyH_take (i := 0) (oi := { dst := some 41, op := Op.load 24 (Operand.tmp 2), type := 24, pos := "plate.go:132", after := #[], guard := none }) (v := (Value.pointer (some ⟨b, 0, none⟩))) rfl (by kernel_rfl) (by kernel_rfl) (by kernel_rfl) (fun _ _ _ h => h) (Or.inl ⟨by rfl, fun w' hSw => exec_load1 (t := 24) (x := .tmp 2) rfl (Try.isAgg24 _) rfl (cell1 hSw.1)⟩) HS0.out ?_
        try simp only [Act.put, List.setIfInBounds_toArray, List.set_cons_zero, List.set_cons_succ]
        refine wpAnyH_take (i := 1) (oi := { dst := some 42, op := Op.fieldAddr 84 (Operand.tmp 8) 0, type := 0, pos := "plate.go:132", after := #[], guard := none }) (v := (Value.pointer (some ⟨wr.heap.size, 0, none⟩))) rfl (by kernel_rfl) (by kernel_rfl) (by kernel_rfl) (fun _ _ _ h => h) (Or.inl ⟨by rfl, fun w' hSw => exec_field84 (x := .tmp 8) (k := 0) rfl rfl (.inl rfl) _⟩) HS0.out ?_
        try simp only [Act.put, List.setIfInBounds_toArray, List.set_cons_zero, List.set_cons_succ]
        refine wpAnyH_take (i := 2) (oi := { dst := some 43, op := Op.load 3 (Operand.tmp 42), type := 3, pos := "plate.go:132", after := #[{ on := 1, ground := Ground.data }], guard := none }) (v := (Value.int .i64 t.1.1)) rfl (by kernel_rfl) (by kernel_rfl) (by kernel_rfl) (fun _ _ _ h => h) (Or.inl ⟨by rfl, fun w' hSw => exec_load1 (t := 3) (x := .tmp 42) rfl (Try.isAgg3 _) rfl (Ent.at0 hSw.2.2.1)⟩) HS0.out ?_
        try simp only [Act.put, List.setIfInBounds_toArray, List.set_cons_zero, List.set_cons_succ]
        refine wpAnyH_take (i := 3) (oi := { dst := some 44, op := Op.load 24 (Operand.tmp 2), type := 24, pos := "plate.go:132", after := #[], guard := none }) (v := (Value.pointer (some ⟨b, 0, none⟩))) rfl (by kernel_rfl) (by kernel_rfl) (by kernel_rfl) (fun _ _ _ h => h) (Or.inl ⟨by rfl, fun w' hSw => exec_load1 (t := 24) (x := .tmp 2) rfl (Try.isAgg24 _) rfl (cell1 hSw.1)⟩) HS0.out ?_
        try simp only [Act.put, List.setIfInBounds_toArray, List.set_cons_zero, List.set_cons_succ]
        refine wpAnyH_take (i := 4) (oi := { dst := some 45, op := Op.nilCheck (Operand.tmp 44), type := 0, pos := "plate.go:132", after := #[{ on := 3, ground := Ground.data }], guard := none }) (v := (Value.pointer (some ⟨b, 0, none⟩))) rfl (by kernel_rfl) (by kernel_rfl) (by kernel_rfl) (fun _ _ _ h => h) (Or.inl ⟨by rfl, fun w' hSw => exec_nil (x := .tmp 44) rfl rfl _⟩) HS0.out ?_
        try simp only [Act.put, List.setIfInBounds_toArray, List.set_cons_zero, List.set_cons_succ]
        refine wpAnyH_take (i := 5) (oi := { dst := some 46, op := Op.fieldAddr 68 (Operand.tmp 45) 1, type := 0, pos := "plate.go:132", after := #[{ on := 4, ground := Ground.data }], guard := none }) (v := (Value.pointer (some ⟨b, 1, none⟩))) rfl (by kernel_rfl) (by kernel_rfl) (by kernel_rfl) (fun _ _ _ h => h) (Or.inl ⟨by rfl, fun w' hSw => exec_field1 (x := .tmp 45) rfl rfl _⟩) HS0.out ?_
        try simp only [Act.put, List.setIfInBounds_toArray, List.set_cons_zero, List.set_cons_succ]
        refine wpAnyH_take (i := 6) (oi := { dst := some 47, op := Op.load 65 (Operand.tmp 46), type := 65, pos := "plate.go:132", after := #[{ on := 5, ground := Ground.data }], guard := none }) (v := (Value.map (some bm))) rfl (by kernel_rfl) (by kernel_rfl) (by kernel_rfl) (fun _ _ _ h => h) (Or.inl ⟨by rfl, fun w' hSw => exec_load1 (t := 65) (x := .tmp 46) rfl (Try.isAgg65 _) rfl hSw.2.2.2⟩) HS0.out ?_
        try simp only [Act.put, List.setIfInBounds_toArray, List.set_cons_zero, List.set_cons_succ]
        refine wpAnyH_take (i := 7) (oi := { dst := some 48, op := Op.fieldAddr 84 (Operand.tmp 8) 0, type := 0, pos := "plate.go:132", after := #[], guard := none }) (v := (Value.pointer (some ⟨wr.heap.size, 0, none⟩))) rfl (by kernel_rfl) (by kernel_rfl) (by kernel_rfl) (fun _ _ _ h => h) (Or.inl ⟨by rfl, fun w' hSw => exec_field84 (x := .tmp 8) (k := 0) rfl rfl (.inl rfl) _⟩) HS0.out ?_
        try simp only [Act.put, List.setIfInBounds_toArray, List.set_cons_zero, List.set_cons_succ]
        refine wpAnyH_take (i := 8) (oi := { dst := some 49, op := Op.load 3 (Operand.tmp 48), type := 3, pos := "plate.go:132", after := #[{ on := 7, ground := Ground.data }], guard := none }) (v := (Value.int .i64 t.1.1)) rfl (by kernel_rfl) (by kernel_rfl) (by kernel_rfl) (fun _ _ _ h => h) (Or.inl ⟨by rfl, fun w' hSw => exec_load1 (t := 3) (x := .tmp 48) rfl (Try.isAgg3 _) rfl (Ent.at0 hSw.2.2.1)⟩) HS0.out ?_
        try simp only [Act.put, List.setIfInBounds_toArray, List.set_cons_zero, List.set_cons_succ]
        refine wpAnyH_take (i := 10) (oi := { dst := some 51, op := Op.fieldAddr 84 (Operand.tmp 8) 2, type := 0, pos := "plate.go:132", after := #[], guard := none }) (v := (Value.pointer (some ⟨wr.heap.size, 65, none⟩))) rfl (by kernel_rfl) (by kernel_rfl) (by kernel_rfl) (fun _ _ _ h => h) (Or.inl ⟨by rfl, fun w' hSw => exec_field84 (x := .tmp 8) (k := 2) rfl rfl (.inr (.inr rfl)) _⟩) HS0.out ?_
        try simp only [Act.put, List.setIfInBounds_toArray, List.set_cons_zero, List.set_cons_succ]
        refine wpAnyH_take (i := 11) (oi := { dst := some 52, op := Op.load 82 (Operand.tmp 51), type := 82, pos := "plate.go:132", after := #[{ on := 10, ground := Ground.data }], guard := none }) (v := (Value.agg t.1.2.2)) rfl (by kernel_rfl) (by kernel_rfl) (by kernel_rfl) (fun _ _ _ h => h) (Or.inl ⟨by rfl, fun w' hSw => exec_load_mid 82 (.tmp 51) rfl wr.heap.size 65 rfl t.1.2.2.toList _ (Ent.at2 hSw.2.2.1) Try.underlying82 rfl (by rw [Array.length_toList, t.2.2.2.1]; exact size82)⟩) HS0.out ?_
        try simp only [Act.put, List.setIfInBounds_toArray, List.set_cons_zero, List.set_cons_succ]
        refine wpAnyH_take (i := 12) (oi := { dst := some 53, op := Op.load 53 (Operand.tmp 3), type := 53, pos := "plate.go:132", after := #[], guard := none }) (v := (Value.agg #[.slice ao len cap])) rfl (by kernel_rfl) (by kernel_rfl) (by kernel_rfl) (fun _ _ _ h => h) (Or.inl ⟨by rfl, fun w' hSw => exec_load_row 53 (.tmp 3) rfl (w.heap.size + 1) rfl 53 #[.slice ao len cap] (0, 0) _ hSw.2.1 Try.underlying53 rfl size53⟩) HS0.out ?_
        try simp only [Act.put, List.setIfInBounds_toArray, List.set_cons_zero, List.set_cons_succ]
        refine wpAnyH_take (i := 13) (oi := { dst := some 54, op := Op.move (Operand.tmp 7), type := 3, pos := "plate.go:132", after := #[], guard := none }) (v := (Value.int .i64 k)) rfl (by kernel_rfl) (by kernel_rfl) (by kernel_rfl) (fun _ _ _ h => h) (Or.inl ⟨by rfl, fun w' hSw => exec_move (x := .tmp 7) rfl rfl _⟩) HS0.out ?_
        try simp only [Act.put, List.setIfInBounds_toArray, List.set_cons_zero, List.set_cons_succ]
        refine wpAnyH_ready (rs := [9, 14]) (by kernel_rfl) (by simp) ?_
        refine AllReadyH.cons (o := { dst := some 50, op := Op.lookup 65 (Operand.tmp 47) (Operand.tmp 49) false, type := 82, pos := "plate.go:132", after := #[{ on := 6, ground := Ground.data }, { on := 8, ground := Ground.data }], guard := none }) rfl (fun K hK => ?_) ?_
        · refine step_turns rfl (exec_look65 (x := .tmp 47) (y := .tmp 49) rfl rfl rfl HM0.out t.2.1) ?_
          refine hK.out _ _ HS0.out (fun _ => ?_)
          clear hK K
          try simp only [Act.put, List.setIfInBounds_toArray, List.set_cons_zero, List.set_cons_succ]
          refine wpAnyH_ready (rs := [14]) (by kernel_rfl) (by simp) ?_
          refine AllReadyH.cons (o := { dst := some 55, op := Op.call { callee := Callee.value (Operand.func 42), args := #[Operand.tmp 53, Operand.tmp 54], argTypes := #[53, 3] }, type := 3, pos := "plate.go:132", after := #[{ on := 12, ground := Ground.data }, { on := 13, ground := Ground.data }], guard := none }) rfl (fun K hK => ?_) AllReadyH.nil
          go_simp
          refine HWAY.out.mono ?_
          rintro e w42 ⟨rfl, hb42⟩
          have HS42 := Lib.hid (HS0.out.on (below_grown hb42) (by simp) (by simp) (by simp) (by simp))
          have HM42 := Lib.hid (HM0.out.kept (below_grown hb42) (by simp))
          have HB42 := Lib.hid hb42
          clear hb42
          refine hK.out _ _ HS42.out (fun _ => ?_)
          clear hK K
          try simp only [Act.put, List.setIfInBounds_toArray, List.set_cons_zero, List.set_cons_succ]
          refine wpAnyH_ready (rs := [15]) (by kernel_rfl) (by simp) ?_
          refine AllReadyH.cons (o := { dst := some 56, op := Op.call { callee := Callee.value (Operand.func 41), args := #[Operand.tmp 50, Operand.tmp 52, Operand.tmp 55], argTypes := #[82, 82, 3] }, type := 82, pos := "plate.go:132", after := #[{ on := 9, ground := Ground.data }, { on := 11, ground := Ground.data }, { on := 14, ground := Ground.data }, { on := 14, ground := Ground.chain }], guard := none }) rfl (fun K hK => ?_) AllReadyH.nil
          go_simp
          refine (over_any _ t.1.2.2 _ _ (HPG.out t.1.1) t.2.2.2).mono ?_
          rintro e w41 ⟨rfl, hb41⟩
          have HS41 := Lib.hid (HS42.out.on (below_grown hb41) (by simp) (by simp) (by simp) (by simp))
          have HM41 := Lib.hid (HM42.out.kept (below_grown hb41) (by simp))
          have HB41 := Lib.hid hb41
          clear hb41
          refine hK.out _ _ HS41.out (fun _ => ?_)
          clear hK K
          try simp only [Act.put, List.setIfInBounds_toArray, List.set_cons_zero, List.set_cons_succ]
          refine wpAnyH_ready (rs := [16]) (by kernel_rfl) (by simp) ?_
          refine AllReadyH.cons (o := { dst := some 57, op := Op.call { callee := Callee.value (Operand.func 38), args := #[Operand.tmp 41, Operand.tmp 43, Operand.tmp 56], argTypes := #[24, 3, 82] }, type := 0, pos := "plate.go:132", after := #[{ on := 0, ground := Ground.data }, { on := 2, ground := Ground.data }, { on := 15, ground := Ground.data }, { on := 15, ground := Ground.chain }], guard := none }) rfl (fun K hK => ?_) AllReadyH.nil
          go_simp
          refine (put_any b bm (n + L.length + k) t.1.1 _ _ _ HS41.out.2.2.2 HM41.out HNM.out t.2.1 (ov_page (HPG.out t.1.1) t.2.2.2 _)).mono ?_
          rintro e w38 ⟨rfl, hm38, hg38⟩
          have HS38 := Lib.hid (HS41.out.on hg38 HNE.out.1 HNE.out.2.1 HNE.out.2.2.1 HNE.out.2.2.2)
          have HM38 := Lib.hid hm38
          have HG38 := Lib.hid hg38
          clear hm38 hg38
          refine hK.out _ _ HS38.out (fun _ => ?_)
          clear hK K
          try simp only [Act.put, List.setIfInBounds_toArray, List.set_cons_zero, List.set_cons_succ]
          refine wpAnyH_done (by kernel_rfl) (NoPanic.normal ?_) _
          go_step
          have hI38 := HFIN.out _ _ _ HB42.out HB41.out HM38.out HG38.out
          have HI38 := Lib.hid hI38
          clear hI38
          have hkk : (k : Int) + 1 ≤ 9223372036854775807 := by have := HLT.out; have := HX.out.2.2; have := HLl.out; omega
          go_wp2_with fail
          go_roundw
          case rel => exact ⟨k + 1, by have := HLT.out; omega, by go_num, HI38.out⟩
          case measure => have := HLT.out; simp [intOf]; omega
        refine AllReadyH.cons (o := { dst := some 55, op := Op.call { callee := Callee.value (Operand.func 42), args := #[Operand.tmp 53, Operand.tmp 54], argTypes := #[53, 3] }, type := 3, pos := "plate.go:132", after := #[{ on := 12, ground := Ground.data }, { on := 13, ground := Ground.data }], guard := none }) rfl (fun K hK => ?_) AllReadyH.nil
        go_simp
        refine HWAY.out.mono ?_
        rintro e w42 ⟨rfl, hb42⟩
        have HS42 := Lib.hid (HS0.out.on (below_grown hb42) (by simp) (by simp) (by simp) (by simp))
        have HM42 := Lib.hid (HM0.out.kept (below_grown hb42) (by simp))
        have HB42 := Lib.hid hb42
        clear hb42
        refine hK.out _ _ HS42.out (fun _ => ?_)
        clear hK K
        try simp only [Act.put, List.setIfInBounds_toArray, List.set_cons_zero, List.set_cons_succ]
        refine wpAnyH_ready (rs := [9]) (by kernel_rfl) (by simp) ?_
        refine AllReadyH.cons (o := { dst := some 50, op := Op.lookup 65 (Operand.tmp 47) (Operand.tmp 49) false, type := 82, pos := "plate.go:132", after := #[{ on := 6, ground := Ground.data }, { on := 8, ground := Ground.data }], guard := none }) rfl (fun K hK => ?_) AllReadyH.nil
        refine step_turns rfl (exec_look65 (x := .tmp 47) (y := .tmp 49) rfl rfl rfl HM42.out t.2.1) ?_
        refine hK.out _ _ HS42.out (fun _ => ?_)
        clear hK K
        try simp only [Act.put, List.setIfInBounds_toArray, List.set_cons_zero, List.set_cons_succ]
        refine wpAnyH_ready (rs := [15]) (by kernel_rfl) (by simp) ?_
        refine AllReadyH.cons (o := { dst := some 56, op := Op.call { callee := Callee.value (Operand.func 41), args := #[Operand.tmp 50, Operand.tmp 52, Operand.tmp 55], argTypes := #[82, 82, 3] }, type := 82, pos := "plate.go:132", after := #[{ on := 9, ground := Ground.data }, { on := 11, ground := Ground.data }, { on := 14, ground := Ground.data }, { on := 14, ground := Ground.chain }], guard := none }) rfl (fun K hK => ?_) AllReadyH.nil
        go_simp
        refine (over_any _ t.1.2.2 _ _ (HPG.out t.1.1) t.2.2.2).mono ?_
        rintro e w41 ⟨rfl, hb41⟩
        have HS41 := Lib.hid (HS42.out.on (below_grown hb41) (by simp) (by simp) (by simp) (by simp))
        have HM41 := Lib.hid (HM42.out.kept (below_grown hb41) (by simp))
        have HB41 := Lib.hid hb41
        clear hb41
        refine hK.out _ _ HS41.out (fun _ => ?_)
        clear hK K
        try simp only [Act.put, List.setIfInBounds_toArray, List.set_cons_zero, List.set_cons_succ]
        refine wpAnyH_ready (rs := [16]) (by kernel_rfl) (by simp) ?_
        refine AllReadyH.cons (o := { dst := some 57, op := Op.call { callee := Callee.value (Operand.func 38), args := #[Operand.tmp 41, Operand.tmp 43, Operand.tmp 56], argTypes := #[24, 3, 82] }, type := 0, pos := "plate.go:132", after := #[{ on := 0, ground := Ground.data }, { on := 2, ground := Ground.data }, { on := 15, ground := Ground.data }, { on := 15, ground := Ground.chain }], guard := none }) rfl (fun K hK => ?_) AllReadyH.nil
        go_simp
        refine (put_any b bm (n + L.length + k) t.1.1 _ _ _ HS41.out.2.2.2 HM41.out HNM.out t.2.1 (ov_page (HPG.out t.1.1) t.2.2.2 _)).mono ?_
        rintro e w38 ⟨rfl, hm38, hg38⟩
        have HS38 := Lib.hid (HS41.out.on hg38 HNE.out.1 HNE.out.2.1 HNE.out.2.2.1 HNE.out.2.2.2)
        have HM38 := Lib.hid hm38
        have HG38 := Lib.hid hg38
        clear hm38 hg38
        refine hK.out _ _ HS38.out (fun _ => ?_)
        clear hK K
        try simp only [Act.put, List.setIfInBounds_toArray, List.set_cons_zero, List.set_cons_succ]
        refine wpAnyH_done (by kernel_rfl) (NoPanic.normal ?_) _
        go_step
        have hI38 := HFIN.out _ _ _ HB42.out HB41.out HM38.out HG38.out
        have HI38 := Lib.hid hI38
        clear hI38
        have hkk : (k : Int) + 1 ≤ 9223372036854775807 := by have := HLT.out; have := HX.out.2.2; have := HLl.out; omega
        go_wp2_with fail
        go_roundw
        case rel => exact ⟨k + 1, by have := HLT.out; omega, by go_num, HI38.out⟩
        case measure => have := HLT.out; simp [intOf]; omega
      · obtain rfl : k = L.length := by omega
        have hd : decide ((L.length : Int) < (L.length : Int)) = false := by simp
        have hb0 := HJ.out.1.blk
        simp only [HO.out] at hb0
        have U0 := Lib.hid (show wr.drew.cell? ⟨b, 2, none⟩ = some v ∧ wr.drew.frozen? ⟨b, 2, none⟩ = false ∧ True from ⟨(cells6 hb0).2.2.1, free6 hb0, trivial⟩)
        have hb1 := set_block (i := 2) (v := .slice none 0 0) (w := wr.drew) hb0
        have U1 := Lib.hid (show (wr.drew.setCell ⟨b, 2, none⟩ (.slice none 0 0)).cell? ⟨b, 3, none⟩ = some (.bool true) ∧ (wr.drew.setCell ⟨b, 2, none⟩ (.slice none 0 0)).frozen? ⟨b, 3, none⟩ = false ∧ True from ⟨(cells6 hb1).2.2.2.1, free6 hb1, trivial⟩)
        have hb2 := set_block (i := 3) (v := .bool false) hb1
        have U2 := Lib.hid (show ((wr.drew.setCell ⟨b, 2, none⟩ (.slice none 0 0)).setCell ⟨b, 3, none⟩ (.bool false)).cell? ⟨b, 4, none⟩ = some (.int .i64 s.left) ∧ ((wr.drew.setCell ⟨b, 2, none⟩ (.slice none 0 0)).setCell ⟨b, 3, none⟩ (.bool false)).frozen? ⟨b, 4, none⟩ = false ∧ True from ⟨(cells6 hb2).2.2.2.2.1, free6 hb2, trivial⟩)
        have hb3 := set_block (i := 4) (v := .int .i64 0) hb2
        have hbb := H.out.hi b H.out.fb
        have g1 := grown_set wr.drew b 2 (.slice none 0 0)
        have g2 := g1.trans (grown_set (wr.drew.setCell ⟨b, 2, none⟩ (.slice none 0 0)) b 3 (.bool false))
        have g3 := g2.trans (grown_set ((wr.drew.setCell ⟨b, 2, none⟩ (.slice none 0 0)).setCell ⟨b, 3, none⟩ (.bool false)) b 4 (.int .i64 0))
        have T0 := Lib.hid (show wr.drew.heap[w.heap.size]? = some (.cells #[.pointer (some ⟨b, 0, none⟩)] 24 (0, 0)) from HJ.out.2.1)
        have T1 := Lib.hid ((g1.block _ (block_lt T0.out) (fun e => by injection e with e; omega)).trans T0.out)
        have T2 := Lib.hid ((g2.block _ (block_lt T0.out) (fun e => by injection e with e; omega)).trans T0.out)
        have T3 := Lib.hid ((g3.block _ (block_lt T0.out) (fun e => by injection e with e; omega)).trans T0.out)
        have TD := Lib.hid ((g3.block _ (block_lt (w := wr.drew) HJ.out.2.2.2.1) (fun e => by injection e with e; have := hDq.out; omega)).trans HJ.out.2.2.2.1)
        have HB3 := Lib.hid hb3
        have HG3 := Lib.hid g3
        have hend : Did w B F b (n + 2 * s.op.length) bm { s with pg := rep ks L (unl (bk L) s.pg) L.length, op := [], off := false, left := 0 } ((((wr.drew.setCell ⟨b, 2, none⟩ (.slice none 0 0)).setCell ⟨b, 3, none⟩ (.bool false)).setCell ⟨b, 4, none⟩ (.int .i64 0)).putObj D (.deferred none)) := by
          have p0 : PlateAt wr.drew B F b (n + L.length + L.length) bm v { s with pg := rep ks L (unl (bk L) s.pg) L.length } := HJ.out.1.on (G := fun _ => False) (.of_grown (grown_drew wr none) (fun k e => by cases e)) (fun _ _ h => h)
          have p1 := p0.again (v' := .slice none 0 0) (s' := { s with pg := rep ks L (unl (bk L) s.pg) L.length, op := [], off := false, left := 0 }) g3 hb3 rfl rfl (.inr ⟨rfl, rfl⟩) ⟨Int.le_refl 0, (by simp)⟩ H.out.ob
          have hgd := grownBy_putObj' (((wr.drew.setCell ⟨b, 2, none⟩ (.slice none 0 0)).setCell ⟨b, 3, none⟩ (.bool false)).setCell ⟨b, 4, none⟩ (.int .i64 0)) D (.deferred none)
          have tD : Turned (fun k => k = D) _ _ := Turned.of_grown hgd (fun k e => by injection e with e; exact e.symm)
          have p2 := p1.on tD (fun k hk e => by have := H.out.hi k hk; have := hDq.out; omega)
          have e1 : n + L.length + L.length = n + 2 * s.op.length := by have := HLl.out; omega
          rw [e1] at p2
          refine ⟨_, F, p2, fun k hk => .inl hk, ?_⟩
          have t1 := HJ.out.2.2.2.2.trans (Turned.of_grown (G := fun _ => False) (grown_drew wr none) (fun k e => by cases e)) (fun _ h => (h : False).elim)
          have t2 := t1.trans (Turned.of_grown (G := F) g3 (fun k e => by injection e with e; subst e; exact H.out.fb)) (fun _ h => .inl h)
          exact t2.trans tD (fun i hi => .inr (by have := hDq.out; omega))
        have HEND := Lib.hid hend
        clear hb0 hb1 hb2 hb3 g1 g2 g3 hbb hend
        go_upto_region 13 with (fail)
        refine wp_region_noPanic ?_
        refine wp_region_held_drew (S := fun w' => w'.heap[w.heap.size]? = some (.cells #[.pointer (some ⟨b, 0, none⟩)] 24 (0, 0))) (by kernel_rfl) T0.out (fun _ => ?_)
        refine wpAnyH_take (i := 0) (oi := { dst := some 59, op := Op.load 24 (Operand.tmp 2), type := 24, pos := "plate.go:134", after := #[], guard := none }) (v := (Value.pointer (some ⟨b, 0, none⟩))) rfl (by kernel_rfl) (by kernel_rfl) (by kernel_rfl) (fun _ _ _ h => h) (Or.inl ⟨by rfl, fun w' hSw => exec_load1 (t := 24) (x := .tmp 2) rfl (Try.isAgg24 _) rfl (cell1 hSw)⟩) T0.out ?_
        try simp only [Act.put, List.setIfInBounds_toArray, List.set_cons_zero, List.set_cons_succ]
        refine wpAnyH_take (i := 1) (oi := { dst := some 60, op := Op.load 24 (Operand.tmp 2), type := 24, pos := "plate.go:134", after := #[{ on := 5, ground := Ground.gcOnly Departure.lateStores }], guard := none }) (v := (Value.pointer (some ⟨b, 0, none⟩))) rfl (by kernel_rfl) (by kernel_rfl) (by kernel_rfl) (fun _ _ _ h => h) (Or.inl ⟨by rfl, fun w' hSw => exec_load1 (t := 24) (x := .tmp 2) rfl (Try.isAgg24 _) rfl (cell1 hSw)⟩) T0.out ?_
        try simp only [Act.put, List.setIfInBounds_toArray, List.set_cons_zero, List.set_cons_succ]
        refine wpAnyH_take (i := 2) (oi := { dst := some 61, op := Op.load 24 (Operand.tmp 2), type := 24, pos := "plate.go:134", after := #[{ on := 8, ground := Ground.gcOnly Departure.lateStores }], guard := none }) (v := (Value.pointer (some ⟨b, 0, none⟩))) rfl (by kernel_rfl) (by kernel_rfl) (by kernel_rfl) (fun _ _ _ h => h) (Or.inl ⟨by rfl, fun w' hSw => exec_load1 (t := 24) (x := .tmp 2) rfl (Try.isAgg24 _) rfl (cell1 hSw)⟩) T0.out ?_
        try simp only [Act.put, List.setIfInBounds_toArray, List.set_cons_zero, List.set_cons_succ]
        refine wpAnyH_take (i := 3) (oi := { dst := some 62, op := Op.nilCheck (Operand.tmp 59), type := 0, pos := "plate.go:134", after := #[{ on := 0, ground := Ground.data }, { on := 0, ground := Ground.phase }, { on := 1, ground := Ground.textOnly Departure.lateStores }, { on := 2, ground := Ground.textOnly Departure.lateStores }], guard := none }) (v := (Value.pointer (some ⟨b, 0, none⟩))) rfl (by kernel_rfl) (by kernel_rfl) (by kernel_rfl) (fun _ _ _ h => h) (Or.inl ⟨by rfl, fun w' hSw => exec_nil (x := .tmp 59) rfl rfl _⟩) T0.out ?_
        try simp only [Act.put, List.setIfInBounds_toArray, List.set_cons_zero, List.set_cons_succ]
        refine wpAnyH_take (i := 4) (oi := { dst := some 63, op := Op.fieldAddr 68 (Operand.tmp 62) 2, type := 0, pos := "plate.go:134", after := #[{ on := 3, ground := Ground.data }, { on := 0, ground := Ground.phase }, { on := 1, ground := Ground.textOnly Departure.lateStores }, { on := 2, ground := Ground.textOnly Departure.lateStores }], guard := none }) (v := (Value.pointer (some ⟨b, 2, none⟩))) rfl (by kernel_rfl) (by kernel_rfl) (by kernel_rfl) (fun _ _ _ h => h) (Or.inl ⟨by rfl, fun w' hSw => exec_field2 (x := .tmp 62) rfl rfl _⟩) T0.out ?_
        try simp only [Act.put, List.setIfInBounds_toArray, List.set_cons_zero, List.set_cons_succ]
        refine wpAnyH_ready (rs := [5]) (by kernel_rfl) (by simp) ?_
        refine AllReadyH.cons (o := { dst := none, op := Op.store 66 (Operand.tmp 63) (Operand.const (Value.slice none 0 0)), type := 0, pos := "plate.go:134", after := #[{ on := 4, ground := Ground.data }, { on := 0, ground := Ground.phase }, { on := 1, ground := Ground.textOnly Departure.lateStores }, { on := 2, ground := Ground.textOnly Departure.lateStores }], guard := none }) rfl (fun K hK => ?_) AllReadyH.nil
        refine step_skips rfl (exec_store66 (x := .tmp 63) (y := .const (.slice none 0 0)) rfl rfl rfl U0.out.1 U0.out.2.1) ?_
        refine hK.out _ _ T1.out (fun _ => ?_)
        clear hK K
        try simp only [Act.put, List.setIfInBounds_toArray, List.set_cons_zero, List.set_cons_succ]
        refine wpAnyH_take (i := 6) (oi := { dst := some 64, op := Op.nilCheck (Operand.tmp 60), type := 0, pos := "plate.go:134", after := #[{ on := 1, ground := Ground.data }, { on := 0, ground := Ground.phase }, { on := 1, ground := Ground.phase }, { on := 2, ground := Ground.textOnly Departure.lateStores }, { on := 3, ground := Ground.phase }, { on := 4, ground := Ground.phase }, { on := 5, ground := Ground.phase }], guard := none }) (v := (Value.pointer (some ⟨b, 0, none⟩))) rfl (by kernel_rfl) (by kernel_rfl) (by kernel_rfl) (fun _ _ _ h => h) (Or.inl ⟨by rfl, fun w' hSw => exec_nil (x := .tmp 60) rfl rfl _⟩) T1.out ?_
        try simp only [Act.put, List.setIfInBounds_toArray, List.set_cons_zero, List.set_cons_succ]
        refine wpAnyH_take (i := 7) (oi := { dst := some 65, op := Op.fieldAddr 68 (Operand.tmp 64) 3, type := 0, pos := "plate.go:134", after := #[{ on := 6, ground := Ground.data }, { on := 0, ground := Ground.phase }, { on := 1, ground := Ground.phase }, { on := 2, ground := Ground.textOnly Departure.lateStores }, { on := 3, ground := Ground.phase }, { on := 4, ground := Ground.phase }, { on := 5, ground := Ground.phase }], guard := none }) (v := (Value.pointer (some ⟨b, 3, none⟩))) rfl (by kernel_rfl) (by kernel_rfl) (by kernel_rfl) (fun _ _ _ h => h) (Or.inl ⟨by rfl, fun w' hSw => exec_field3 (x := .tmp 64) rfl rfl _⟩) T1.out ?_
        try simp only [Act.put, List.setIfInBounds_toArray, List.set_cons_zero, List.set_cons_succ]
        refine wpAnyH_ready (rs := [8]) (by kernel_rfl) (by simp) ?_
        refine AllReadyH.cons (o := { dst := none, op := Op.store 4 (Operand.tmp 65) (Operand.const (Value.bool false)), type := 0, pos := "plate.go:134", after := #[{ on := 7, ground := Ground.data }, { on := 5, ground := Ground.chain }, { on := 0, ground := Ground.phase }, { on := 1, ground := Ground.phase }, { on := 2, ground := Ground.textOnly Departure.lateStores }, { on := 3, ground := Ground.phase }, { on := 4, ground := Ground.phase }, { on := 5, ground := Ground.phase }], guard := none }) rfl (fun K hK => ?_) AllReadyH.nil
        refine step_skips rfl (exec_store4 (x := .tmp 65) (y := .const (.bool false)) rfl rfl rfl U1.out.1 U1.out.2.1) ?_
        refine hK.out _ _ T2.out (fun _ => ?_)
        clear hK K
        try simp only [Act.put, List.setIfInBounds_toArray, List.set_cons_zero, List.set_cons_succ]
        refine wpAnyH_take (i := 9) (oi := { dst := some 66, op := Op.nilCheck (Operand.tmp 61), type := 0, pos := "plate.go:134", after := #[{ on := 2, ground := Ground.data }, { on := 0, ground := Ground.phase }, { on := 1, ground := Ground.phase }, { on := 2, ground := Ground.phase }, { on := 3, ground := Ground.phase }, { on := 4, ground := Ground.phase }, { on := 5, ground := Ground.phase }, { on := 6, ground := Ground.phase }, { on := 7, ground := Ground.phase }, { on := 8, ground := Ground.phase }], guard := none }) (v := (Value.pointer (some ⟨b, 0, none⟩))) rfl (by kernel_rfl) (by kernel_rfl) (by kernel_rfl) (fun _ _ _ h => h) (Or.inl ⟨by rfl, fun w' hSw => exec_nil (x := .tmp 61) rfl rfl _⟩) T2.out ?_
        try simp only [Act.put, List.setIfInBounds_toArray, List.set_cons_zero, List.set_cons_succ]
        refine wpAnyH_take (i := 10) (oi := { dst := some 67, op := Op.fieldAddr 68 (Operand.tmp 66) 4, type := 0, pos := "plate.go:134", after := #[{ on := 9, ground := Ground.data }, { on := 0, ground := Ground.phase }, { on := 1, ground := Ground.phase }, { on := 2, ground := Ground.phase }, { on := 3, ground := Ground.phase }, { on := 4, ground := Ground.phase }, { on := 5, ground := Ground.phase }, { on := 6, ground := Ground.phase }, { on := 7, ground := Ground.phase }, { on := 8, ground := Ground.phase }], guard := none }) (v := (Value.pointer (some ⟨b, 4, none⟩))) rfl (by kernel_rfl) (by kernel_rfl) (by kernel_rfl) (fun _ _ _ h => h) (Or.inl ⟨by rfl, fun w' hSw => exec_field4 (x := .tmp 66) rfl rfl _⟩) T2.out ?_
        try simp only [Act.put, List.setIfInBounds_toArray, List.set_cons_zero, List.set_cons_succ]
        refine wpAnyH_ready (rs := [11]) (by kernel_rfl) (by simp) ?_
        refine AllReadyH.cons (o := { dst := none, op := Op.store 3 (Operand.tmp 67) (Operand.const (Value.int IntKind.i64 0)), type := 0, pos := "plate.go:134", after := #[{ on := 10, ground := Ground.data }, { on := 8, ground := Ground.chain }, { on := 0, ground := Ground.phase }, { on := 1, ground := Ground.phase }, { on := 2, ground := Ground.phase }, { on := 3, ground := Ground.phase }, { on := 4, ground := Ground.phase }, { on := 5, ground := Ground.phase }, { on := 6, ground := Ground.phase }, { on := 7, ground := Ground.phase }, { on := 8, ground := Ground.phase }], guard := none }) rfl (fun K hK => ?_) AllReadyH.nil
        refine step_skips rfl (exec_store3 (x := .tmp 67) (y := .const (.int .i64 0)) rfl rfl rfl U2.out.1 U2.out.2.1) ?_
        refine hK.out _ _ T3.out (fun _ => ?_)
        clear hK K
        try simp only [Act.put, List.setIfInBounds_toArray, List.set_cons_zero, List.set_cons_succ]
        refine wpAnyH_done (by kernel_rfl) (NoPanic.normal ?_) _
        go_step
        go_wp2_with fail
        refine ⟨by simp, .inl ⟨_, _, rfl, run_takeDeferred TD.out, ?_⟩⟩
        refine ⟨.int .i64 0, by simp [results, Try.results20, go_sem], rfl, L, HLL.out, ?_⟩
        exact HEND.out
end Go.Proofs.Ytjfbgihjgnbeeaa.Pl
