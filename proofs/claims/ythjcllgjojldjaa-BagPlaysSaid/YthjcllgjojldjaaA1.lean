/- bag: what turns; bytes as they stand; SameBytes, Twin, Spare, Kept. -/
import Derived.Test.YthjcllgjojldjaaProg
import Derived.Test.YthjcllgjojldjaaChecked
import Derived.WalkKit
import Derived.BigRegion
import Derived.BigQuiet
import Derived.Lib.Hide
import Derived.Lib.OwnBridge
import Derived.Deep.AppendLies
import Derived.Deep.QuietTactic
import Derived.Deep.RegionLaw
import Derived.Deep.RegionHeld3
import Derived.OwnWalk
import Derived.IntWalk
import Derived.Laws.CopyOwn
import Derived.Deep.LoopGhost
import Derived.Shelf.Abstract
import Derived.Laws.CopyRow
import Derived.Lib.SliceRun
import Derived.Lib.Overlaps
import Derived.Deep.CutBlock
import Derived.Deep.DeepCutAuto
import Derived.Deep.RegionWith
import Derived.StillTailTactics
import Derived.Laws.Rows
import Derived.Laws.AppendOwnNone
namespace Go.Proofs.Ythjcllgjojldjaa.Bg
open Go Go.RowKit
/-- Of what was there the blocks of G alone have turned. -/
structure Turned (G : Nat → Prop) (w w' : World) : Prop where
  os : w'.os = w.os
  tape : w'.tape = w.tape
  output : w'.output = w.output
  size : w.heap.size ≤ w'.heap.size
  block : ∀ k, k < w.heap.size → ¬ G k → w'.heap[k]? = w.heap[k]?
theorem Turned.refl (G : Nat → Prop) (w : World) : Turned G w w := ⟨rfl, rfl, rfl, Nat.le_refl _, fun _ _ _ => rfl⟩
theorem Turned.of_grown {w w' : World} {r : Option Nat} (h : w.grownBy w' r) {G : Nat → Prop} (hr : ∀ k, r = some k → G k) : Turned G w w' :=
  ⟨h.os, h.tape, h.output, h.size, fun k hk hG => h.block k hk (fun e => hG (hr k e.symm))⟩
theorem Turned.trans {G H : Nat → Prop} {a b c : World} (h : Turned G a b) (k : Turned H b c) (hH : ∀ i, H i → G i ∨ a.heap.size ≤ i) : Turned G a c :=
  ⟨k.os.trans h.os, k.tape.trans h.tape, k.output.trans h.output, Nat.le_trans h.size k.size, fun i hi hG => (k.block i (Nat.lt_of_lt_of_le hi h.size) (fun e => (hH i e).elim hG (fun h' => by omega))).trans (h.block i hi hG)⟩
theorem Turned.then {G : Nat → Prop} {a b c : World} (h : Turned G a b) (k : Turned G b c) : Turned G a c := h.trans k (fun _ => .inl)
theorem Turned.mono {G H : Nat → Prop} {a b : World} (h : Turned G a b) (hH : ∀ i, G i → H i) : Turned H a b := ⟨h.os, h.tape, h.output, h.size, fun i hi hG => h.block i hi (fun e => hG (hH i e))⟩
theorem Turned.below {G : Nat → Prop} {w w' : World} (h : Turned G w w') {B : Nat} (hB : B ≤ w.heap.size) (hG : ∀ k, G k → B ≤ k) : Below B w w' :=
  ⟨h.os, h.tape, h.output, h.size, fun k hk => h.block k (by omega) (fun e => by have := hG k e; omega)⟩
theorem below_turned {w w' : World} {G : Nat → Prop} {B : Nat} (h : Below B w w') (hG : ∀ k, k < w.heap.size → B ≤ k → G k) : Turned G w w' :=
  ⟨h.os, h.tape, h.output, h.size, fun k hk hn => h.block k (Nat.lt_of_not_le fun e => hn (hG k hk e))⟩
theorem below_any {w w' : World} {G : Nat → Prop} (h : Below w.heap.size w w') : Turned G w w' := below_turned h (fun k h1 h2 => by omega)
theorem turned_drewN (G : Nat → Prop) (w : World) (n : Nat) : Turned G w (w.drewN n) := ⟨rfl, rfl, rfl, Nat.le_refl _, fun _ _ _ => rfl⟩
theorem turned_drew (G : Nat → Prop) (w : World) : Turned G w w.drew := ⟨rfl, rfl, rfl, Nat.le_refl _, fun _ _ _ => rfl⟩
theorem grown_set (w : World) (b i : Nat) (v : Value) : w.grownBy (w.setCell ⟨b, i, none⟩ v) (some b) :=
  ⟨rfl, rfl, rfl, by simp, fun k _ hk => by
    show (w.heap.modify b _)[k]? = _
    rw [Array.getElem?_modify, if_neg (fun e => hk (by rw [e]))]⟩
theorem turned_set (w : World) (b i : Nat) (v : Value) : Turned (fun k => k = b) w (w.setCell ⟨b, i, none⟩ v) := .of_grown (grown_set w b i v) (fun k e => by injection e with e; exact e.symm)
theorem own_on {W W' : World} {B e size k : Nat} {v : Value} {xs : List Value} (h : W.ownsRow B e size v k xs) (hs : ∀ g, v.ownBlock = some g → W'.heap[g]? = W.heap[g]?) : W'.ownsRow B e size v k xs := by
  refine ⟨h.1, ?_⟩
  rcases h.2 with h0 | ⟨g, cap, cur, e, e1, e2, e3⟩
  · exact .inl h0
  · exact .inr ⟨g, cap, cur, e, e1, (hs g (by rw [e]; rfl)).trans e2, e3⟩
theorem info_parts {P : Program} {t : TypeId} {z : Value} {s b : Nat} (h : (P.info? t).map (fun i => (i.zero, i.size, i.bytes)) = some (some z, s, b)) : ∃ i, P.info? t = some i ∧ i.zero = some z ∧ i.size = s ∧ i.bytes = b := by
  obtain ⟨i, h1, h2⟩ := Option.map_eq_some_iff.1 h
  simp only [Prod.mk.injEq] at h2
  exact ⟨i, h1, h2.1, h2.2.1, h2.2.2⟩
theorem add_block (a : Addr) (k : Nat) : (a.add k).block = a.block := by unfold Addr.add; first | rfl | (split <;> rfl)
/-- Bytes as they stand in cells. -/
def bs (l : List Int) : List Value := l.map (Value.int .u8)
/-- From an address on these bytes stand, in blocks that are there. -/
def Rd (w : World) (ao : Option Addr) (l : List Int) : Prop :=
  ∀ k, k < l.length → ∃ a, ao = some a ∧ a.block < w.heap.size ∧ w.cell? (a.add k) = some (.int .u8 (l.getD k 0))
theorem Rd.nil (w : World) (ao : Option Addr) : Rd w ao [] := fun k hk => absurd hk (by simp)
theorem Rd.on {w w' : World} {ao : Option Addr} {l : List Int} (h : Rd w ao l) {B : Nat} (hb : Below B w w') (hB : w.heap.size ≤ B) : Rd w' ao l := by
  intro k hk
  obtain ⟨a, h1, h2, h3⟩ := h k hk
  exact ⟨a, h1, Nat.lt_of_lt_of_le h2 hb.size, (hb.cell (p := a.add k) (by rw [add_block]; exact Nat.lt_of_lt_of_le h2 hB)).trans h3⟩
theorem Rd.here {w : World} {ao : Option Addr} {l : List Int} (h : Rd w ao l) (hl : l ≠ []) : ∃ a, ao = .some a ∧ a.block < w.heap.size ∧ ∀ k, k < l.length → w.cell? (a.add k) = .some (.int .u8 (l.getD k 0)) := by
  obtain ⟨a, h1, h2, _⟩ := h 0 (List.length_pos_iff.2 hl)
  refine ⟨a, h1, h2, fun k hk => ?_⟩
  obtain ⟨a', h1', _, h3'⟩ := h k hk
  rw [h1] at h1'
  cases h1'
  exact h3'
theorem ret_bool {a b : Bool} (h : a = b) : Ending.returned (.bool a) = .returned (.bool b) := by rw [h]
theorem below_drewN {B : Nat} {a w : World} (h : Below B a w) (n : Nat) : Below B a (w.drewN n) := ⟨h.os, h.tape, h.output, h.size, h.block⟩
theorem take_step {la lb : List Int} {j : Nat} (h : la.take j = lb.take j) (h1 : j < la.length) (h2 : j < lb.length) (he : la.getD j 0 = lb.getD j 0) : la.take (j + 1) = lb.take (j + 1) := by
  rw [List.take_succ_eq_append_getElem h1, List.take_succ_eq_append_getElem h2, h]
  simp [List.getD_eq_getElem?_getD, h1, h2] at he
  rw [he]
theorem not_same {la lb : List Int} {j : Nat} (he : ¬ la.getD j 0 = lb.getD j 0) : decide (la = lb) = false := decide_eq_false fun e => he (by rw [e])
theorem all_same {la lb : List Int} {j : Nat} (h : la.take j = lb.take j) (h1 : la.length ≤ j) (h2 : lb.length ≤ j) : la = lb := by
  rwa [List.take_of_length_le h1, List.take_of_length_le h2] at h
set_option maxHeartbeats 400000 in
theorem same_len (ao bo : Option Addr) (n m ca cb : Nat) (w : World) (h : ¬ n = m) :
    Calls Try.prog 18 #[.slice ao n ca, .slice bo m cb] w fun e w' => e = .returned (.bool false) ∧ Below w.heap.size w w' := by
  have hne : ((n : Int) != m) = true := by rw [bne_iff_ne]; omega
  go_enter Try.func18, Try.ntmps18
  go_wp2
  go_ret
  exact ⟨rfl, Below.refl _ _⟩
set_option maxHeartbeats 400000 in
theorem same_none (ao bo : Option Addr) (ca cb : Nat) (w : World) :
    Calls Try.prog 18 #[.slice ao 0 ca, .slice bo 0 cb] w fun e w' => e = .returned (.bool true) ∧ Below w.heap.size w w' := by
  go_enter Try.func18, Try.ntmps18
  go_wp2
  refine wp_loop_rounds 1 ?_
  rw [rounds_succ]
  go_wp2
  go_ret
  exact ⟨rfl, Below.refl _ _⟩
set_option maxHeartbeats 800000 in
theorem same_some (a b : Addr) (n ca cb : Nat) (la lb : List Int) (w : World) (hn : n ≤ maxLen) (ha : la.length = n) (hb : lb.length = n) (ha0 : a.block < w.heap.size) (hb0 : b.block < w.heap.size)
    (hca : ∀ k, k < n → w.cell? (a.add k) = some (.int .u8 (la.getD k 0))) (hcb : ∀ k, k < n → w.cell? (b.add k) = some (.int .u8 (lb.getD k 0))) :
    Calls Try.prog 18 #[.slice (some a) n ca, .slice (some b) n cb] w fun e w' => e = .returned (.bool (decide (la = lb))) ∧ Below w.heap.size w w' := by
  unfold maxLen at hn
  have HA := Lib.hid hca
  have HB := Lib.hid hcb
  have La := Lib.hid ha
  have Lb := Lib.hid hb
  clear hca hcb ha hb
  go_enter Try.func18, Try.ntmps18
  go_wp2
  go_loopw [13] (fun i wr => ∃ j : Nat, j ≤ n ∧ i = .int .i64 j ∧ Hid (la.take j = lb.take j) ∧ Below w.heap.size w wr) (fun i _ => n - (intOf i).toNat)
  case atStart => exact ⟨0, Nat.zero_le _, rfl, Lib.hid rfl, Below.refl _ _⟩
  case round =>
    obtain ⟨j, hj, rfl, he, hB⟩ := hrel
    by_cases hlt : j < n
    · have c1 := (hB.cell (p := a.add j) (by rw [add_block]; exact ha0)).trans (HA.out j hlt)
      have c2 := (hB.cell (p := b.add j) (by rw [add_block]; exact hb0)).trans (HB.out j hlt)
      by_cases hne : la.getD j 0 = lb.getD j 0
      · have Hn := Lib.hid (take_step he.out (by rw [La.out]; exact hlt) (by rw [Lb.out]; exact hlt) hne)
        rw [hne] at c1
        clear hne
        generalize lb.getD j 0 = x at *
        go_wp2
        go_quiet (fail)
        go_wp2
        go_roundw
        case rel => exact ⟨j + 1, by omega, by go_num, Hn, below_drewN hB _⟩
        case measure => simp [intOf]; omega
      · have Hn := Lib.hid (not_same hne)
        have hx : (la.getD j 0 != lb.getD j 0) = true := by rw [bne_iff_ne]; exact hne
        clear hne
        generalize la.getD j 0 = x at *
        generalize lb.getD j 0 = y at *
        go_wp2
        go_quiet (fail)
        go_wp2
        go_ret
        exact ⟨ret_bool Hn.out.symm, below_drewN hB _⟩
    · go_wp2
      go_ret
      exact ⟨ret_bool (decide_eq_true (all_same he.out (by rw [La.out]; omega) (by rw [Lb.out]; omega))).symm, hB⟩
/-- SameBytes: are they alike? -/
theorem same_any (ao bo : Option Addr) (ca cb : Nat) (la lb : List Int) (w : World) (hn : la.length ≤ maxLen) (ha : Rd w ao la) (hb : Rd w bo lb) :
    Calls Try.prog 18 #[.slice ao la.length ca, .slice bo lb.length cb] w fun e w' => e = .returned (.bool (decide (la = lb))) ∧ Below w.heap.size w w' := by
  by_cases h : la.length = lb.length
  · by_cases h0 : la = []
    · subst h0
      obtain rfl : lb = [] := List.length_eq_zero_iff.1 h.symm
      exact same_none ao bo ca cb w
    · obtain ⟨a, rfl, a1, a2⟩ := ha.here h0
      obtain ⟨b, rfl, b1, b2⟩ := hb.here (fun e => h0 (by subst e; simpa using h))
      rw [← h]
      exact same_some a b la.length ca cb la lb w hn rfl h.symm a1 b1 a2 (fun k hk => b2 k (by omega))
  · rw [decide_eq_false (fun e => h (by rw [e]) : ¬ la = lb)]
    exact same_len ao bo _ _ ca cb w h
theorem info5 : (Try.prog.info? 5).map (fun i => (i.zero, i.size, i.bytes)) = some (some (.int .u8 0), 1, 1) := by kernel_rfl
/-- v is a list of bytes of the call's own: l. -/
def Own (w : World) (B : Nat) (v : Value) (l : List Int) : Prop := w.ownsRow B 5 1 v l.length (bs l)
theorem bs_length (l : List Int) : (bs l).length = l.length := by simp [bs]
theorem bs_get {l : List Int} {k : Nat} (h : k < l.length) : (bs l)[k]? = some (.int .u8 (l.getD k 0)) := by
  simp [bs, List.getD_eq_getElem?_getD, h]
theorem bs_app (l m : List Int) : bs (l ++ m) = bs l ++ bs m := by simp [bs]
theorem bs_one (l : List Int) : ∀ u ∈ bs l, u.oneCell' = true := by
  intro u hu
  simp only [bs, List.mem_map] at hu
  obtain ⟨x, _, rfl⟩ := hu
  rfl
theorem addr0 (g k : Nat) : (⟨g, 0, none⟩ : Addr).add k = ⟨g, k, none⟩ := by unfold Addr.add; simp; omega
theorem grown_of_below {a w : World} (h : Below a.heap.size a w) : a.grownBy w none := ⟨h.os, h.tape, h.output, h.size, fun i hi _ => h.block i hi⟩
theorem own_or (v : Value) : v.ownBlock = none ∨ v.ownBlock ≠ none := by
  cases v.ownBlock
  · exact .inl rfl
  · exact .inr (by simp)
theorem Own.on {w w' : World} {B : Nat} {v : Value} {l : List Int} (h : Own w B v l) (hb : Below w.heap.size w w') : Own w' B v l := World.ownsRow.kept h (grown_of_below hb) (own_or v)
/-- What is owned can be read. -/
theorem Own.rd {w : World} {B : Nat} {v : Value} {l : List Int} (h : Own w B v l) : ∃ ao c, v = .slice ao l.length c ∧ Rd w ao l := by
  have h' := h
  unfold Own at h'
  rcases h'.2 with ⟨rfl, h0⟩ | ⟨g, c, cur, rfl, _, hg, _⟩
  · rw [h0]
    exact ⟨none, 0, rfl, by rw [List.length_eq_zero_iff.1 h0]; exact Rd.nil _ _⟩
  · refine ⟨_, c, rfl, fun k hk => ⟨_, rfl, ?_, ?_⟩⟩
    · rcases Nat.lt_or_ge g w.heap.size with h1 | h1
      · exact h1
      · rw [Array.getElem?_eq_none h1] at hg; cases hg
    · rw [addr0, h'.cellAt k (by omega), bs_get hk]
/-- What can be read, as a law on append asks for it. -/
theorem Rd.cells {w : World} {a : Addr} {l : List Int} (h : Rd w (some a) l) : ∀ j u, (bs l)[j]? = some u → w.cell? (a.add j) = some u := by
  intro j u hu
  have hj : j < l.length := by
    have := (List.getElem?_eq_some_iff.1 hu).1
    rwa [bs_length] at this
  rw [bs_get hj] at hu
  obtain ⟨a', h1, _, h3⟩ := h j hj
  cases h1
  rw [h3, hu]
theorem own_cap {w : World} {B e s g n c : Nat} {xs : List Value} (h : w.ownsRow B e s (.slice (some ⟨g, 0, none⟩) n c) n xs) : n ≤ c ∧ c ≤ maxLen := by
  rcases h.2 with ⟨h1, _⟩ | ⟨_, _, _, h1, _, _, h2, h3, _⟩
  · cases h1
  · cases h1
    exact ⟨h2, h3⟩
theorem own_rd {w : World} {B g n c : Nat} {l : List Int} (h : w.ownsRow B 5 1 (.slice (some ⟨g, 0, none⟩) n c) n (bs l)) (hl : l.length = n) : Rd w (some ⟨g, 0, none⟩) l := by
  subst hl
  obtain ⟨ao, c', h1, h2⟩ := Own.rd h
  cases h1
  exact h2
theorem rd_lit (w : World) (l : List Int) (hm : l.length ≤ maxLen) : Rd (w.alloc (.cells (bs l).toArray 5)) (some ⟨w.heap.size, 0, none⟩) l := by
  have h := World.ownsRow_lit (base := 0) (e := 5) (size := 1) w (bs l).toArray l.length (Nat.zero_le _) hm (by simp [bs])
  exact own_rd h rfl
theorem Own.cap {w : World} {B : Nat} {v : Value} {l : List Int} (h : Own w B v l) : ∃ ao c, v = .slice ao l.length c ∧ Rd w ao l ∧ l.length ≤ c ∧ c ≤ maxLen := by
  obtain ⟨ao, c, rfl, hr⟩ := h.rd
  refine ⟨ao, c, rfl, hr, ?_⟩
  unfold Own at h
  rcases h.2 with ⟨h1, h2⟩ | ⟨_, _, _, h1, _, _, h2, h3, _⟩
  · simp only [Value.slice.injEq] at h1
    rw [h1.2.2, h1.2.1]
    exact ⟨Nat.le_refl _, Nat.zero_le _⟩
  · simp only [Value.slice.injEq] at h1
    rw [h1.2.2]
    exact ⟨h2, h3⟩
/-- SameBytes against a list that is written out. -/
theorem same_lit (ao : Option Addr) (c : Nat) (l : List Int) (w : World) (hm : l.length ≤ maxLen) (ha : Rd w ao l) :
    Calls Try.prog 18 #[.slice ao l.length c, .slice (some ⟨w.heap.size, 0, none⟩) l.length l.length] (w.alloc (.cells (bs l).toArray 5)) fun e w' => e = .returned (.bool true) ∧ Below w.heap.size w w' := by
  have hb : Below w.heap.size w (w.alloc (.cells (bs l).toArray 5)) := (Below.refl _ _).alloc (Nat.le_refl _) _
  refine (same_any ao _ c l.length l l _ hm (ha.on hb (Nat.le_refl _)) (rd_lit w l hm)).mono ?_
  rintro e w' ⟨rfl, hB⟩
  exact ⟨ret_bool (decide_eq_true rfl), hb.trans (hB.mono (by simp))⟩
theorem same_says {ao bo : Option Addr} {la lb : List Int} {w : World} {x : Bool} (ca cb : Nat) (hn : la.length ≤ maxLen) (ha : Rd w ao la) (hb : Rd w bo lb) (h : decide (la = lb) = x) :
    Calls Try.prog 18 #[.slice ao la.length ca, .slice bo lb.length cb] w fun e w' => e = .returned (.bool x) ∧ Below w.heap.size w w' := by
  subst h; exact same_any ao bo ca cb la lb w hn ha hb
theorem same_says' {ao bo : Option Addr} {la lb : List Int} {w : World} {x : Bool} {n m : Nat} (ca cb : Nat) (en : la.length = n) (em : lb.length = m) (hn : la.length ≤ maxLen) (ha : Rd w ao la) (hb : Rd w bo lb) (h : decide (la = lb) = x) :
    Calls Try.prog 18 #[.slice ao n ca, .slice bo m cb] w fun e w' => e = .returned (.bool x) ∧ Below w.heap.size w w' := by
  subst en; subst em; exact same_says ca cb hn ha hb h
/-- A call that answers bytes of its own, at least one. -/
def GivesS (f : FuncId) (args : Array Value) (l : List Int) (w : World) : Prop :=
  Calls Try.prog f args w fun e w' => ∃ g c, e = .returned (.slice (some ⟨g, 0, none⟩) l.length c) ∧ (Own w' w.heap.size (.slice (some ⟨g, 0, none⟩) l.length c) l ∧ Rd w' (some ⟨g, 0, none⟩) l) ∧ Below w.heap.size w w'
theorem Own.base {w : World} {B C : Nat} {v : Value} {l : List Int} (h : Own w B v l) (hC : C ≤ B) : Own w C v l := by
  unfold Own at h ⊢
  refine ⟨h.1, ?_⟩
  rcases h.2 with h1 | ⟨g, cap, cur, h1, h2, h3⟩
  · exact .inl h1
  · exact .inr ⟨g, cap, cur, h1, Nat.le_trans hC h2, h3⟩
theorem rd_cells {w : World} {a : Addr} {l : List Int} (h : Rd w (some a) l) : ∀ j u, (bs l)[j]? = some u → w.cell? (a.add j) = some u := h.cells
theorem Own.put {w' : World} {B : Nat} {v' : Value} {l m : List Int} {n k : Nat} (h : w'.ownsRow B 5 1 v' (n + k) (bs l ++ bs m)) (hn : l.length = n) (hk : m.length = k) : Own w' B v' (l ++ m) := by
  unfold Own
  rw [List.length_append, hn, hk, bs_app]
  exact h
theorem nil_lit (w : World) (B : Nat) (hB : B ≤ w.heap.size) : Own (w.alloc (.cells #[] 5)) B (.slice (some ⟨w.heap.size, 0, none⟩) 0 0) [] :=
  World.ownsRow_lit (base := B) (e := 5) (size := 1) w #[] 0 hB (Nat.zero_le _) rfl
theorem three_cells (w : World) (x y z : Int) : ∀ j u, [Value.int .u8 x, Value.int .u8 y, Value.int .u8 z][j]? = some u → (w.alloc (.cells #[.int .u8 x, .int .u8 y, .int .u8 z] 5)).cell? ((⟨w.heap.size, 0, none⟩ : Addr).add j) = some u := by
  intro j u hu
  match j, hu with
  | 0, hu => simp at hu; subst hu; simp [Addr.add]
  | 1, hu => simp at hu; subst hu; simp [Addr.add]
  | 2, hu => simp at hu; subst hu; simp [Addr.add]
set_option maxHeartbeats 1000000 in
/-- Twin, of bytes that stand somewhere. -/
theorem twin_any (a : Addr) (n c : Nat) (l : List Int) (w : World) (hn : n ≤ 140737488351232) (hl : l.length = n) (h0 : 0 < n) (ha : Rd w (some a) l) :
    GivesS 16 #[.slice (some a) n c] l w := by
  obtain ⟨i0, hi, hz0, hz1, hz2⟩ := info_parts info5
  have hb : Below w.heap.size w (w.alloc (.cells #[] 5)) := (Below.refl _ _).alloc (Nat.le_refl _) _
  have Hc := Lib.hid (rd_cells (ha.on hb (Nat.le_refl _)))
  have HL := Lib.hid hl
  have hO := Lib.hid (nil_lit w w.heap.size (Nat.le_refl _))
  have Hbl := Lib.hid (show (bs l).length = n * 1 by rw [bs_length, hl]; omega)
  unfold GivesS
  rw [hl]
  clear hl ha
  go_enter Try.func16, Try.ntmps16
  go_wp2_with (at_builtin; refine wpList_append_lies _ rfl (.tmp 3) (.tmp 4) 30 rfl w.heap.size 5 i0 _ 1 1 Try.underlying30 hi hz0 hz1 hz2 rfl (by decide) _ 0 (bs []) rfl hO.out a n c (bs l) rfl Hbl.out Hc.out (bs_one l) h0 (by unfold maxLen; omega) (by omega) (by simp) (w.heap.size + 1) (by simp) ?_; intro g3 c3 w3 hown3 hgrow3 _ _)
  have hB3 : Below w.heap.size w w3 := hb.grown hgrow3 (by simp) (fun k hk => (World.ownsRow.lt hO.out k hk).1)
  have ho : Own w3 w.heap.size (.slice (some ⟨g3, 0, none⟩) (0 + n) c3) ([] ++ l) := Own.put hown3 rfl HL.out
  rw [Nat.zero_add, List.nil_append] at ho
  clear hown3 hgrow3
  go_ret
  exact ⟨g3, c3, by simp, ⟨ho, by have := own_rd (l := l) (n := n) (by unfold Own at ho; rwa [HL.out] at ho) HL.out; exact this⟩, hB3⟩
def SpareR (n : Nat) (l : List Int) (w : World) (e : Ending) (w' : World) : Prop :=
  ∃ g cc, e = .returned (.tuple #[.slice (some ⟨g, 0, none⟩) n cc, .slice (some ⟨g, 0, none⟩) (n + 3) cc]) ∧ (Own w' w.heap.size (.slice (some ⟨g, 0, none⟩) (n + 3) cc) (l ++ [165, 90, 165]) ∧ n + 3 ≤ cc ∧ cc ≤ maxLen) ∧ Below w.heap.size w w'
set_option maxHeartbeats 1000000 in
theorem spare_none (w : World) : Calls Try.prog 19 #[.slice none 0 0] w (SpareR 0 [] w) := by
  obtain ⟨i0, hi, hz0, hz1, hz2⟩ := info_parts info5
  have hO := Lib.hid ((World.ownsRow.alloc (nil_lit w w.heap.size (Nat.le_refl _)) (.cells #[.int .u8 165, .int .u8 90, .int .u8 165] 5)))
  have hO1 := Lib.hid (nil_lit w w.heap.size (Nat.le_refl _))
  have hb : Below w.heap.size w ((w.alloc (.cells #[] 5)).alloc (.cells #[.int .u8 165, .int .u8 90, .int .u8 165] 5)) := ((Below.refl _ _).alloc (Nat.le_refl _) _).alloc (by simp) _
  go_enter Try.func19, Try.ntmps19
  go_wp2_with (first
    | (at_builtin; refine wpList_append_own_none rfl (.tmp 5) (.tmp 6) 30 rfl w.heap.size 5 i0 1 Try.underlying30 hi _ 0 (bs []) rfl hO1.out rfl ?_)
    | (at_builtin; refine wpList_append_lies _ rfl (.tmp 7) (.tmp 8) 30 rfl w.heap.size 5 i0 _ 1 1 Try.underlying30 hi hz0 hz1 hz2 rfl (by decide) _ 0 (bs []) rfl hO.out ⟨w.heap.size + 1, 0, none⟩ 3 3 (bs [165, 90, 165]) rfl rfl (by have := three_cells (w.alloc (.cells #[] 5)) 165 90 165; rwa [World.size_alloc] at this) (bs_one _) (by decide) (by unfold maxLen; omega) (by omega) (by simp; omega) (w.heap.size + 2) (by simp) ?_; intro g3 c3 w3 hown3 hgrow3 _ _; have hcc := own_cap hown3; have hcc2 := hcc; unfold maxLen at hcc2))
  have hB3 : Below w.heap.size w w3 := hb.grown hgrow3 (by simp; omega) (fun k hk => (World.ownsRow.lt hO.out k hk).1)
  clear hgrow3
  refine bodyPost_ret (v := .tuple #[.slice (some ⟨g3, 0, none⟩) 0 c3, .slice (some ⟨g3, 0, none⟩) 3 c3]) (by simp [results, Try.results19, go_sem]) rfl ⟨g3, c3, rfl, ⟨Own.put (l := []) (m := [165, 90, 165]) hown3 rfl rfl, by simpa using hcc.1, hcc.2⟩, hB3⟩
set_option maxHeartbeats 1000000 in
theorem spare_some (a : Addr) (n c : Nat) (l : List Int) (w : World) (hn : n + 3 ≤ 140737488355328) (hl : l.length = n) (ha : Rd w (some a) l) : Calls Try.prog 19 #[.slice (some a) n c] w (SpareR n l w) := by
  obtain ⟨i0, hi, hz0, hz1, hz2⟩ := info_parts info5
  have hb : Below w.heap.size w (w.alloc (.cells #[] 5)) := (Below.refl _ _).alloc (Nat.le_refl _) _
  have Hc := Lib.hid (rd_cells (ha.on hb (Nat.le_refl _)))
  have HL := Lib.hid hl
  have hO1 := Lib.hid (nil_lit w w.heap.size (Nat.le_refl _))
  have Hbl := Lib.hid (show (bs l).length = n * 1 by rw [bs_length, hl]; omega)
  clear hl ha
  go_enter Try.func19, Try.ntmps19
  go_wp2_with (first
    | (at_builtin; refine wpList_append_own _ rfl (.tmp 5) (.tmp 6) 30 rfl w.heap.size 5 i0 _ 1 1 Try.underlying30 hi hz0 hz1 hz2 rfl (by decide) _ 0 (bs []) rfl hO1.out a n c (bs l) rfl Hbl.out Hc.out (bs_one l) (by unfold maxLen; omega) (by omega) (by simp) ?_; intro v2 w2 hown2 hgrow2 _; have hB2 : Below w.heap.size w w2 := hb.grown hgrow2 (by simp) (fun k hk => (World.ownsRow.lt hO1.out k hk).1); have hs2 := hB2.size; have hO2 := World.ownsRow.alloc hown2 (.cells #[.int .u8 165, .int .u8 90, .int .u8 165] 5); clear hgrow2)
    | (at_builtin; refine wpList_append_lies _ rfl (.tmp 7) (.tmp 8) 30 rfl w.heap.size 5 i0 _ 1 1 Try.underlying30 hi hz0 hz1 hz2 rfl (by decide) _ (0 + n) _ rfl hO2 ⟨w2.heap.size, 0, none⟩ 3 3 (bs [165, 90, 165]) rfl rfl (three_cells w2 165 90 165) (bs_one _) (by decide) (by unfold maxLen; omega) (by omega) (by simp; omega) (w2.heap.size + 1) (by simp) ?_; intro g3 c3 w3 hown3 hgrow3 _ _; have hcc := own_cap hown3; have hcc2 := hcc; unfold maxLen at hcc2; rw [Nat.zero_add]; rw [Nat.zero_add] at hcc2))
  have hB3 : Below w.heap.size w w3 := (hB2.alloc hs2 _).grown hgrow3 (by simp; omega) (fun k hk => (World.ownsRow.lt hO2 k hk).1)
  have ho : Own w3 w.heap.size (.slice (some ⟨g3, 0, none⟩) (0 + n + 3) c3) (l ++ [165, 90, 165]) := Own.put (l := l) (m := [165, 90, 165]) hown3 (by rw [HL.out]; omega) rfl
  rw [Nat.zero_add] at ho hcc
  clear hgrow3 hown3
  refine bodyPost_ret (v := .tuple #[.slice (some ⟨g3, 0, none⟩) n c3, .slice (some ⟨g3, 0, none⟩) (n + 3) c3]) (by simp [results, Try.results19, go_sem]) rfl ⟨g3, c3, rfl, ⟨ho, hcc.1, hcc.2⟩, hB3⟩
/-- Spare: a copy with marked room behind it. -/
theorem spare_any (ao : Option Addr) (n c : Nat) (l : List Int) (w : World) (hn : n + 3 ≤ 140737488355328) (hl : l.length = n) (ha : Rd w ao l) (h0 : ao = none → c = 0) : Calls Try.prog 19 #[.slice ao n c] w (SpareR n l w) := by
  cases ao with
  | some a => exact spare_some a n c l w hn hl ha
  | none =>
    obtain rfl := h0 rfl
    obtain rfl : l = [] := by
      cases l with
      | nil => rfl
      | cons x l => obtain ⟨a, h, _⟩ := ha 0 (by simp); cases h
    subst hl
    exact spare_none w
theorem kept_facts {w : World} {g : Nat} {l : List Int} (h : Rd w (some ⟨g, 0, none⟩) (l ++ [165, 90, 165])) :
    Rd w (some ⟨g, 0, none⟩) l ∧ w.cell? ⟨g, l.length, none⟩ = some (.int .u8 165) ∧ w.cell? ⟨g, l.length + 1, none⟩ = some (.int .u8 90) ∧ w.cell? ⟨g, l.length + 2, none⟩ = some (.int .u8 165) := by
  have tail : ∀ j x, [165, 90, 165][j]? = some x → w.cell? ⟨g, l.length + j, none⟩ = some (.int .u8 x) := by
    intro j x hj
    have hj3 : j < 3 := (List.getElem?_eq_some_iff.1 hj).1
    obtain ⟨a, h1, _, h3⟩ := h (l.length + j) (by simp; omega)
    cases h1
    rw [addr0] at h3
    rw [h3, List.getD_eq_getElem?_getD, List.getElem?_append_right (by omega), Nat.add_sub_cancel_left, hj]
    rfl
  refine ⟨fun k hk => ?_, tail 0 165 rfl, tail 1 90 rfl, tail 2 165 rfl⟩
  obtain ⟨a, h1, h2, h3⟩ := h k (by rw [List.length_append]; omega)
  refine ⟨a, h1, h2, ?_⟩
  rw [h3, List.getD_eq_getElem?_getD, List.getD_eq_getElem?_getD, List.getElem?_append_left hk]
set_option maxHeartbeats 1000000 in
/-- Kept: what was marked is as it was laid. -/
theorem kept_any (g : Nat) (cc : Nat) (ao : Option Addr) (n c : Nat) (l : List Int) (w : World) (hn : n + 3 ≤ cc) (hcc : cc ≤ maxLen) (hl : l.length = n) (hf : Rd w (some ⟨g, 0, none⟩) (l ++ [165, 90, 165])) (ha : Rd w ao l) :
    Calls Try.prog 21 #[.slice (some ⟨g, 0, none⟩) (n + 3) cc, .slice ao n c] w fun e w' => e = .returned (.bool true) ∧ Below w.heap.size w w' := by
  obtain ⟨hr, h0, h1, h2⟩ := kept_facts hf
  rw [hl] at h0 h1 h2
  have hm : n ≤ maxLen := Nat.le_trans (by omega) hcc
  unfold maxLen at hcc
  have HS := Lib.hid (same_says' (x := true) cc c hl hl (by rw [hl]; exact hm) hr ha (decide_eq_true rfl))
  have hlt : g < w.heap.size := World.block_lt_of_cell? w _ h0
  clear hm hl hf ha hr
  go_enter Try.func21, Try.ntmps21
  go_wp2_with fail
  refine HS.out.mono ?_
  rintro e w1 ⟨rfl, hB⟩
  have c0 := (hB.cell (p := ⟨g, n, none⟩) hlt).trans h0
  have c1 := (hB.cell (p := ⟨g, n + 1, none⟩) hlt).trans h1
  have c2 := (hB.cell (p := ⟨g, n + 2, none⟩) hlt).trans h2
  clear HS h0 h1 h2
  go_wp2_with fail
  go_ret
  exact ⟨rfl, hB⟩
end Go.Proofs.Ythjcllgjojldjaa.Bg
