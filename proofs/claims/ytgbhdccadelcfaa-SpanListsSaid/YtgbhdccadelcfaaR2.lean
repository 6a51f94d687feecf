/- span: the document's insert, walked. -/
import Derived.Test.YtgbhdccadelcfaaR1
namespace Go.Proofs.Ytgbhdccadelcfaa.Sp
open Go Go.RowKit
def nums (l : List Int) : List Value := l.map (.int .u32)
theorem nums_one (l : List Int) : ∀ u ∈ nums l, u.oneCell' = true := by
  intro u hu
  obtain ⟨x, _, rfl⟩ := List.mem_map.1 hu
  rfl
theorem info23 : (Try.prog.info? 23).map (fun i => (i.zero, i.size, i.bytes)) = some (some (.int .u32 0), 1, 4) := by kernel_rfl
/-- Numbers that stand from an address on. -/
def Rd1 (w : World) (ao : Option Addr) (l : List Int) : Prop := ∀ i x, l[i]? = some x → ∃ b off, ao = some ⟨b, off, none⟩ ∧ b < w.heap.size ∧ w.cell? ⟨b, off + i, none⟩ = some (.int .u32 x)
theorem Rd1.on {w w' : World} {ao : Option Addr} {L : List Int} (h : Rd1 w ao L) {B : Nat} (hb : Below B w w') (hB : w.heap.size ≤ B) : Rd1 w' ao L := fun i t ht => by
  obtain ⟨b, off, h1, h2, h3⟩ := h i t ht
  exact ⟨b, off, h1, Nat.lt_of_lt_of_le h2 hb.size, (hb.cell (p := ⟨b, off + i, none⟩) (by simp; omega)).trans h3⟩
theorem rd1_own {w : World} {B g n cap : Nat} {l : List Int} (h : w.ownsRow B 23 1 (.slice (some ⟨g, 0, none⟩) n cap) n (nums l)) : Rd1 w (some ⟨g, 0, none⟩) l := fun i x hx => by
  refine ⟨g, 0, rfl, (World.ownsRow.lt h g rfl).2, ?_⟩
  have := h.cells (g := g) rfl i (.int .u32 x) (by simp [nums, hx])
  rwa [Go.WideShapes.add_plain] at this
def ins : List Int → Int → List Int
  | [], n => [n]
  | x :: l, n => if x = n then x :: l else if n < x then n :: x :: l else x :: ins l n
theorem ins_split (P S : List Int) (n : Int) (h : ∀ y ∈ P, y < n) : ins (P ++ S) n = P ++ ins S n := by
  induction P with
  | nil => rfl
  | cons y P ih =>
    have h1 := h y List.mem_cons_self
    simp only [List.cons_append, ins]
    rw [if_neg (by omega), if_neg (by omega), ih (fun z hz => h z (List.mem_cons_of_mem _ hz))]
theorem ins_here (l : List Int) (i : Nat) (n : Int) (h : ∀ y ∈ l.take i, y < n) (hx : l[i]? = some n) : ins l n = l := by
  obtain ⟨hi, e⟩ := List.getElem?_eq_some_iff.1 hx
  have := ins_split (l.take i) (l.drop i) n h
  rw [List.take_append_drop, List.drop_eq_getElem_cons hi, e] at this
  rw [this]
  simp only [ins, if_true]
  rw [← e, ← List.drop_eq_getElem_cons hi, List.take_append_drop]
theorem ins_ahead (l : List Int) (i : Nat) (n x : Int) (h : ∀ y ∈ l.take i, y < n) (hx : l[i]? = some x) (hn : n < x) : ins l n = l.take i ++ [n] ++ l.drop i := by
  obtain ⟨hi, e⟩ := List.getElem?_eq_some_iff.1 hx
  have := ins_split (l.take i) (l.drop i) n h
  rw [List.take_append_drop, List.drop_eq_getElem_cons hi, e] at this
  rw [this]
  simp only [ins]
  rw [if_neg (by omega), if_pos hn, List.append_assoc, List.drop_eq_getElem_cons hi, e]
  rfl
theorem ins_end (l : List Int) (n : Int) (h : ∀ y ∈ l, y < n) : ins l n = l ++ [n] := by
  have := ins_split l [] n h
  simpa [ins] using this
theorem ins_mem (l : List Int) (n y : Int) : y ∈ ins l n ↔ y ∈ l ∨ y = n := by
  induction l with
  | nil => simp [ins]
  | cons x l ih =>
    simp only [ins]
    split
    · rename_i h
      subst h
      exact ⟨.inl, fun h => h.elim id (fun e => by rw [e]; exact List.mem_cons_self)⟩
    · split
      · simp only [List.mem_cons]
        constructor
        · rintro (h | h | h)
          · exact .inr h
          · exact .inl (.inl h)
          · exact .inl (.inr h)
        · rintro ((h | h) | h)
          · exact .inr (.inl h)
          · exact .inr (.inr h)
          · exact .inl h
      · rw [List.mem_cons, ih, List.mem_cons, or_assoc]
theorem ins_rises (l : List Int) (n : Int) (h : l.Pairwise (· < ·)) : (ins l n).Pairwise (· < ·) := by
  induction l with
  | nil => simp [ins]
  | cons x l ih =>
    rw [List.pairwise_cons] at h
    simp only [ins]
    split
    · exact List.pairwise_cons.2 h
    · split
      · rename_i h1 h2
        refine List.pairwise_cons.2 ⟨fun y hy => ?_, List.pairwise_cons.2 h⟩
        rcases List.mem_cons.1 hy with rfl | hy
        · exact h2
        · have := h.1 y hy; omega
      · rename_i h1 h2
        refine List.pairwise_cons.2 ⟨fun y hy => ?_, ih h.2⟩
        rcases (ins_mem l n y).1 hy with hy | rfl
        · exact h.1 y hy
        · omega
theorem ins_len (l : List Int) (n : Int) : (ins l n).length ≤ l.length + 1 := by
  induction l with
  | nil => simp [ins]
  | cons x l ih =>
    simp only [ins]
    split
    · simp
    · split
      · simp
      · simp only [List.length_cons]; omega
theorem news23 (w : World) (x : Int) : ∀ j u, (nums [x])[j]? = some u → (w.alloc (.cells #[.int .u32 x] 23)).cell? ((⟨w.heap.size, 0, none⟩ : Addr).add j) = some u :=
  World.news_of_block (heap_alloc_new w (.cells #[.int .u32 x] 23))
theorem doneN {e sz : Nat} {w W w3 : World} {lv : Value} {n : Nat} {xs : List Value} (h : W.ownsRow w.heap.size e sz lv n xs) (hg : W.grownBy w3 lv.ownBlock) (hb : Below w.heap.size w W) : Below w.heap.size w w3 :=
  ⟨hg.os.trans hb.os, hg.tape.trans hb.tape, hg.output.trans hb.output, Nat.le_trans hb.size hg.size, fun j hj => (hg.block j (by have := hb.size; omega) (fun e => by have := (World.ownsRow.lt h j e.symm).1; omega)).trans (hb.block j hj)⟩
theorem own_cap1 {w : World} {B g n cap : Nat} {xs : List Value} (h : w.ownsRow B 23 1 (.slice (some ⟨g, 0, none⟩) n cap) n xs) : n ≤ cap := by
  rcases h.2 with ⟨h0, _⟩ | ⟨g', cap', cur, h0, _, _, h4, _⟩
  · cases h0
  · simp only [Value.slice.injEq] at h0
    obtain ⟨_, _, rfl⟩ := h0
    exact h4
theorem grown_of2 {W3 X w3 : World} {r : Option Nat} (h : W3.grownBy w3 r) (h1 : W3.heap = X.heap) (h2 : W3.os = X.os) (h3 : W3.tape = X.tape) (h4 : W3.output = X.output) : X.grownBy w3 r :=
  ⟨h.os.trans h2, h.tape.trans h3, h.output.trans h4, by rw [← h1]; exact h.size, fun k hk hr => (h.block k (by rw [h1]; exact hk) hr).trans (by rw [h1])⟩
theorem drop_cells {w w' : World} {g og j : Nat} {l : List Int} (h : Rd1 w (some ⟨g, og, none⟩) l) (hb : Below w.heap.size w w') {a : Addr} (ha : a = ⟨g, og + j, none⟩) : ∀ i u, (nums (l.drop j))[i]? = some u → w'.cell? (a.add i) = some u := fun i u hu => by
  subst ha
  simp only [nums, List.getElem?_map, List.getElem?_drop] at hu
  obtain ⟨x, hx, rfl⟩ := Option.map_eq_some_iff.1 hu
  obtain ⟨b, off, e, hbl, hc⟩ := (h.on hb (Nat.le_refl _)) (j + i) x hx
  injection e with e
  injection e with e1 e2
  subst e1; subst e2
  rw [Go.WideShapes.add_plain, Nat.add_assoc]
  exact hc
def InsR (w : World) (l : List Int) (n : Int) (e : Ending) (w' : World) : Prop := ∃ ao c, e = .returned (.slice ao (ins l n).length c) ∧ (ins l n).length ≤ c ∧ Rd1 w' ao (ins l n) ∧ Below w.heap.size w w'
set_option maxRecDepth 100000 in
set_option maxHeartbeats 1000000 in
theorem insert_num (ao : Option Addr) (c : Nat) (l : List Int) (n : Int) (w : World) (hl : Rd1 w ao l) (hc : l.length ≤ c) (hL : l.length ≤ 1000) :
    Calls Try.prog 42 #[.slice ao l.length c, .int .u32 n] w (InsR w l n) := by
  obtain ⟨i0, hi0, hz0, hz1, hz2⟩ := info_parts info23
  have HZ := Lib.hid (And.intro hi0 (And.intro hz0 (And.intro hz1 hz2)))
  have HL := Lib.hid hl
  obtain ⟨m, hm⟩ : ∃ m, l.length = m := ⟨_, rfl⟩
  rw [hm] at hL hc ⊢
  have HM := Lib.hid hm
  clear hl hm hi0 hz0 hz1 hz2
  go_enter Try.func42, Try.ntmps42
  go_wp2_with fail
  go_loopw [10, 5] (fun u lv wr => ∃ j : Nat, j ≤ m ∧ u = .int .i64 j ∧ Hid ((∀ y ∈ l.take j, y < n) ∧ wr.ownsRow w.heap.size 23 1 lv j (nums (l.take j)) ∧ Below w.heap.size w wr)) (fun u _ _ => m - (intOf u).toNat)
  case atStart => exact ⟨0, by omega, rfl, Lib.hid ⟨by simp, World.ownsRow_nil _ _ _ _, Below.refl _ _⟩⟩
  case round =>
    obtain ⟨j, hj, rfl, HA⟩ := hrel
    by_cases hlt : j < m
    · obtain ⟨x, hx⟩ : ∃ x, l[j]? = some x := ⟨_, List.getElem?_eq_getElem (by have := HM.out; omega)⟩
      obtain ⟨g, og, rfl, hg0, c1⟩ := (HL.out.on HA.out.2.2 (Nat.le_refl _)) j x hx
      have HX := Lib.hid hx
      clear hx
      by_cases hxn : x = n
      · subst hxn
        have hI := ins_here l j x HA.out.1 HX.out
        have HI := Lib.hid hI
        clear hI
        go_wp2_with fail
        go_ret
        exact ⟨_, c, by rw [HI.out, HM.out]; rfl, by rw [HI.out, HM.out]; exact hc, by rw [HI.out]; exact HL.out.on HA.out.2.2 (Nat.le_refl _), HA.out.2.2⟩
      · have x1 : (x == n) = false := by simpa using hxn
        by_cases hnx : n < x
        · have hI := ins_ahead l j n x HA.out.1 HX.out hnx
          have HI := Lib.hid hI
          have jc : (j : Int) ≤ (m : Int) := by omega
          have jc2 : (m : Int) ≤ (c : Int) := by omega
          have jne : ¬ c = j := by omega
          have HO := Lib.hid (World.ownsRow.alloc HA.out.2.1 (.cells #[.int .u32 n] 23))
          have hb1 := Lib.hid (HA.out.2.2.alloc HA.out.2.2.size (.cells #[.int .u32 n] 23))
          have HN := Lib.hid (news23 wr n)
          have hsz := HA.out.2.2.size
          have HG := Lib.hid (show g < w.heap.size from by
            obtain ⟨b, off, e, hb, _⟩ := HL.out j x HX.out
            injection e with e
            injection e with e
            omega)
          have HLD : Hid ((l.drop j).length = m - j) := Lib.hid (by rw [List.length_drop, HM.out])
          clear hI
          go_upto_region 8 with fail
          go_region_law (first
            | (refine step_append_lies _ (by rfl) (.tmp 22) (.tmp 24) 47 (by rfl) w.heap.size 23 i0 _ 1 4 Try.underlying47 HZ.out.1 HZ.out.2.1 HZ.out.2.2.1 HZ.out.2.2.2 (by rfl) (by decide) _ j (nums (l.take j)) (by rfl) HO.out ⟨wr.heap.size, 0, none⟩ 1 1 (nums [n]) (by rfl) (by rfl) HN.out (nums_one _) (by decide) (by unfold maxLen; omega) (by omega) (by simp; omega) (wr.heap.size + 1) (by simp) ?_; intro g3 c3 w3 hown3 hgrow3 _ _; have H3 := Lib.hid (And.intro hown3 (doneN HO.out (grown_of2 hgrow3 rfl rfl rfl rfl) hb1.out)); clear hown3 hgrow3)
            | (refine step_append_lies _ (by rfl) (.tmp 25) (.tmp 28) 47 (by rfl) w.heap.size 23 i0 _ 1 4 Try.underlying47 HZ.out.1 HZ.out.2.1 HZ.out.2.2.1 HZ.out.2.2.2 (by rfl) (by decide) _ (j + 1) (nums (l.take j) ++ nums [n]) (by rfl) H3.out.1 ⟨g, og + j, none⟩ (m - j) (c - j) (nums (l.drop j)) (by rfl) (by rw [nums, List.length_map, HLD.out, Nat.mul_one]) (drop_cells HL.out H3.out.2 rfl) (nums_one _) (by omega) (by unfold maxLen; omega) (by omega) H3.out.2.size _ rfl ?_; intro g4 c4 w4 hown4 hgrow4 _ _; have H4 := Lib.hid (And.intro hown4 (doneN H3.out.1 (grown_of2 hgrow4 rfl rfl rfl rfl) H3.out.2)); clear hown4 hgrow4))
          all_goals
            go_wp2_with fail
            go_ret
            have hfin : nums (l.take j) ++ nums [n] ++ nums (l.drop j) = nums (ins l n) := by rw [HI.out]; simp [nums]
            have hlen : (ins l n).length = j + 1 + (m - j) := by
              rw [HI.out, List.length_append, List.length_append, List.length_take, HLD.out, HM.out]
              simp only [List.length_singleton]
              omega
            have hown := H4.out.1
            rw [hfin] at hown
            refine ⟨some ⟨g4, 0, none⟩, c4, by rw [hlen]; rfl, ?_, rd1_own hown, H4.out.2⟩
            rw [hlen]
            exact own_cap1 hown
        · have hP : ∀ y ∈ l.take (j + 1), y < n := fun y hy => by
            rw [take_next HX.out, List.mem_append, List.mem_singleton] at hy
            rcases hy with hy | rfl
            · exact HA.out.1 y hy
            · omega
          have HP := Lib.hid hP
          have HO := Lib.hid (World.ownsRow.alloc HA.out.2.1 (.cells #[.int .u32 x] 23))
          have hb1 := Lib.hid (HA.out.2.2.alloc HA.out.2.2.size (.cells #[.int .u32 x] 23))
          have HN := Lib.hid (news23 wr x)
          clear hP
          go_wp2_with (at_builtin; refine wpList_append_lies _ rfl (.tmp 30) (.tmp 32) 47 rfl w.heap.size 23 i0 _ 1 4 Try.underlying47 HZ.out.1 HZ.out.2.1 HZ.out.2.2.1 HZ.out.2.2.2 rfl (by decide) _ j (nums (l.take j)) rfl HO.out ⟨wr.heap.size, 0, none⟩ 1 1 (nums [x]) rfl rfl HN.out (nums_one _) (by decide) (by unfold maxLen; omega) (by omega) hb1.out.size _ rfl ?_; intro g3 c3 w3 hown3 hgrow3 _ _; have H3 := Lib.hid (And.intro hown3 (doneN HO.out hgrow3 hb1.out)); clear hown3 hgrow3)
          go_roundw
          case measure => simp [intOf]; omega
          case rel =>
            refine ⟨j + 1, by omega, rfl, Lib.hid ⟨HP.out, ?_, H3.out.2⟩⟩
            rw [take_next HX.out, nums, List.map_append]
            exact H3.out.1
    · obtain rfl : j = m := by omega
      have hA := HA.out
      rw [List.take_of_length_le (by rw [HM.out]; exact Nat.le_refl _)] at hA
      have hI := ins_end l n hA.1
      have HI := Lib.hid hI
      have HO := Lib.hid (World.ownsRow.alloc hA.2.1 (.cells #[.int .u32 n] 23))
      have hb1 := Lib.hid (hA.2.2.alloc hA.2.2.size (.cells #[.int .u32 n] 23))
      have HN := Lib.hid (news23 wr n)
      clear hI hA
      go_wp2_with (at_builtin; refine wpList_append_lies _ rfl (.tmp 35) (.tmp 37) 47 rfl w.heap.size 23 i0 _ 1 4 Try.underlying47 HZ.out.1 HZ.out.2.1 HZ.out.2.2.1 HZ.out.2.2.2 rfl (by decide) _ j (nums l) rfl HO.out ⟨wr.heap.size, 0, none⟩ 1 1 (nums [n]) rfl rfl HN.out (nums_one _) (by decide) (by unfold maxLen; omega) (by omega) hb1.out.size _ rfl ?_; intro g3 c3 w3 hown3 hgrow3 _ _; have H3 := Lib.hid (And.intro hown3 (doneN HO.out hgrow3 hb1.out)); clear hown3 hgrow3)
      go_ret
      have hfin : nums l ++ nums [n] = nums (ins l n) := by rw [HI.out]; simp [nums]
      have hlen : (ins l n).length = j + 1 := by rw [HI.out, List.length_append, HM.out]; rfl
      have hown := H3.out.1
      rw [hfin] at hown
      refine ⟨some ⟨g3, 0, none⟩, c3, by rw [hlen]; rfl, ?_, rd1_own hown, H3.out.2⟩
      rw [hlen]
      exact own_cap1 hown
end Go.Proofs.Ytgbhdccadelcfaa.Sp
