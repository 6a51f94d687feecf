/- ghost: List, walked. -/
import Derived.Test.YtgjjfodogkcmmaaT8
namespace Go.Proofs.Ytgjjfodogkcmmaa.Gh
open Go Go.RowKit Ytgjjfodogkcmmaa.So
theorem info68 : (Try.prog.info? 68).map (fun i => (i.zero, i.size, i.bytes)) = some (some (.agg #[.int .u32 0, .int .i64 0]), 2, 16) := by kernel_rfl
/-- Ghosts: numbers and counts. -/
abbrev GL := List (Int × Int)
def g2 (M : GL) : List Value := M.flatMap fun t => [.int .u32 t.1, .int .i64 t.2]
theorem g2_app (A B : GL) : g2 (A ++ B) = g2 A ++ g2 B := by simp [g2]
theorem g2_len (M : GL) : (g2 M).length = M.length * 2 := by
  induction M with
  | nil => rfl
  | cons t M ih => rw [show t :: M = [t] ++ M from rfl, g2_app, List.length_append, ih]; simp [g2]; omega
theorem g2_at {M : GL} {i : Nat} {t : Int × Int} (h : M[i]? = some t) : (g2 M)[i * 2]? = some (.int .u32 t.1) ∧ (g2 M)[i * 2 + 1]? = some (.int .i64 t.2) := by
  induction M generalizing i with
  | nil => simp at h
  | cons a M ih =>
    cases i with
    | zero => simp at h; subst h; simp [g2]
    | succ i =>
      have := ih (i := i) (by simpa using h)
      rw [show (i + 1) * 2 = i * 2 + 2 by omega, show i * 2 + 2 + 1 = (i * 2 + 1) + 2 by omega]
      simpa [g2] using this
/-- The ghosts among some numbers. -/
def glOf (S : GS) (ss : List Int) : GL := (ss.filter fun x => decide (0 < ofG S x)).map fun x => (x, (ofG S x : Int))
theorem glOf_app (S : GS) (A B : List Int) : glOf S (A ++ B) = glOf S A ++ glOf S B := by simp [glOf]
theorem glOf_len (S : GS) (A : List Int) : (glOf S A).length ≤ A.length := by
  simp only [glOf, List.length_map]; exact List.length_filter_le _ _
theorem gl_one {S : GS} {x : Int} {q : Nat} (h : ofG S x = q) (hq : 0 < q) : glOf S [x] = [(x, (q : Int))] := by
  unfold glOf
  rw [List.filter_cons_of_pos (by rw [h]; simpa using hq), List.filter_nil]
  simp [h]
theorem own2_slice {w : World} {B : Nat} {v : Value} {n : Nat} {xs : List Value} (h : w.ownsRow B 68 2 v n xs) : ∃ ao cap, v = .slice ao n cap := by
  rcases h.2 with ⟨rfl, h0⟩ | ⟨g, cap, cur, rfl, _⟩
  · exact ⟨none, 0, by rw [h0]⟩
  · exact ⟨_, cap, rfl⟩
theorem new2 (x n : Int) (w : World) (T : TypeId) : ∀ j u, ([.int .u32 x, .int .i64 n] : List Value)[j]? = some u → (w.alloc (.cells #[.int .u32 x, .int .i64 n] T)).cell? ((⟨w.heap.size, 0, none⟩ : Addr).add j) = some u := by
  intro j u h
  match j, h with
  | 0, h => simp at h; subst h; simp [Addr.add, go_sem]
  | 1, h => simp at h; subst h; simp [Addr.add, go_sem]
  | j + 2, h => simp at h
theorem one2 (x n : Int) : ∀ u ∈ ([.int .u32 x, .int .i64 n] : List Value), u.oneCell' = true := by
  intro u hu; simp at hu; rcases hu with rfl | rfl <;> rfl
/-- Which numbers are named. -/
def Named (S : GS) (ss : List Int) : Prop := Rise ss ∧ (∀ x ∈ ss, In32 x) ∧ ∀ x, In32 x → (x ∈ ss ↔ cnt S x ≠ 0)
/-- A slice of ghosts of the call's own. -/
def ListOf (S : GS) (w : World) (e : Ending) (w' : World) : Prop :=
  ∃ ao cap ss, e = .returned (.slice ao (glOf S ss).length cap) ∧ Named S ss ∧ w'.ownsRow w.heap.size 68 2 (.slice ao (glOf S ss).length cap) (glOf S ss).length (g2 (glOf S ss)) ∧ Below w.heap.size w w'
theorem list_nil (w : World) : Calls Try.prog 23 #[.pointer none] w fun e w' => e = .returned (.slice none 0 0) ∧ w = w' := by
  go_enter Try.func23, Try.ntmps23
  go_wp2
  go_ret
  exact ⟨rfl, rfl⟩
def LI (w1 : World) (S : GS) (ss : List Int) (i : Nat) (v : Value) (wr : World) : Prop :=
  wr.ownsRow w1.heap.size 68 2 v (glOf S (ss.take i)).length (g2 (glOf S (ss.take i))) ∧ Below w1.heap.size w1 wr
set_option maxRecDepth 100000 in
set_option maxHeartbeats 2000000 in
theorem list_any (B m p : Nat) (F : Nat → Prop) (S : GS) (w : World) (h : Tl w B m F p S) (hm : m ≤ 1000000000) : Calls Try.prog 23 #[.pointer (some ⟨p, 0, none⟩)] w fun e w' => ListOf S w e w' := by
  obtain ⟨i0, hi0, hz0, hz1, hz2⟩ := info_parts info68
  have HZ := Lib.hid (And.intro hi0 (And.intro hz0 (And.intro hz1 hz2)))
  have HT := Lib.hid h
  obtain ⟨a, b, V, hT, hcm⟩ := h
  have cp := hT.cells.2
  obtain ⟨D, hD, hD2⟩ := hT.named.kept (World.grownBy_alloc w (.cells #[.map (some b)] 80) none) (by simp)
  have hS := Lib.hid (sorted_any w.heap.size b m D (w.alloc (.cells #[.map (some b)] 80)) (by simp) (cell1 (heap_alloc_new w _)) hD (by omega))
  have HD := Lib.hid hD2
  have HDS := Lib.hid hD.size_le
  clear hi0 hz0 hz1 hz2 hT hcm hD hD2
  go_enter Try.func23, Try.ntmps23
  go_wp2_with (fail)
  refine (keys_any b w).mono ?_
  rintro e _ ⟨rfl, rfl⟩
  go_wp2_with (fail)
  refine hS.out.mono ?_
  rintro e w1 ⟨ao, cap, ss, rfl, hss, hr, ho, hb⟩
  have hbw : Below w.heap.size w w1 := ((Below.refl _ w).alloc (Nat.le_refl _) _).trans (hb.mono (by simp))
  have H1 := Lib.hid (And.intro hss (And.intro hr (And.intro ho hbw)))
  have H2 := Lib.hid (HT.out.below hbw)
  obtain ⟨n, hn⟩ : ∃ n, ss.length = n := ⟨_, rfl⟩
  have hn2 : n ≤ 1000000000000 := by have h1 := H1.out.1.2.2.2; have h2 := HDS.out; omega
  rw [hn]
  have HN := Lib.hid hn
  clear hss hr ho hb hbw hn cp
  go_wp2
  go_loopw [3, 16] (fun v u wr => ∃ i : Nat, u = .int .i64 i ∧ i ≤ n ∧ Hid (LI w1 S ss i v wr)) (fun _ u _ => n - (intOf u).toNat)
  case atStart => exact ⟨0, rfl, Nat.zero_le _, Lib.hid ⟨by simpa [glOf, g2] using World.ownsRow_nil _ _ _ _, Below.refl _ _⟩⟩
  case round =>
    obtain ⟨i, rfl, hi, HR⟩ := hrel
    by_cases hin : i < n
    · obtain ⟨x, hx⟩ : ∃ x, ss[i]? = some x := ⟨_, List.getElem?_eq_getElem (by rw [HN.out]; exact hin)⟩
      obtain ⟨_, _, ev, _, hcell⟩ := own_slice H1.out.2.2.1
      obtain ⟨g, hg, hgl, hc⟩ := hcell i (.int .u32 x) (by simp [u32s, hx])
      simp only [Value.slice.injEq, true_and] at ev
      obtain ⟨rfl, rfl⟩ := ev
      subst hg
      have c0 := (HR.out.2.cell (p := ⟨g, i, none⟩) hgl).trans hc
      have hx32 := H1.out.1.2.1 x (List.mem_of_getElem? hx)
      have HO := Lib.hid (of_any B m p F S x wr (H2.out.below HR.out.2) hx32)
      have HX := Lib.hid hx
      have il : (i : Int) < (n : Int) := by omega
      obtain ⟨ao3, cap3, ev3⟩ := own2_slice HR.out.1
      subst ev3
      obtain ⟨k, hk⟩ : ∃ k, (glOf S (ss.take i)).length = k := ⟨_, rfl⟩
      have hkn : k ≤ 1000000000000 := by have := glOf_len S (ss.take i); rw [List.length_take] at this; omega
      have hrow := HR.out.1
      rw [hk] at hrow ⊢
      have HRW := Lib.hid (And.intro hrow (And.intro hk HR.out.2))
      have htk : ss.take (i + 1) = ss.take i ++ [x] := by rw [List.take_add_one, hx]; rfl
      have HTK := Lib.hid htk
      obtain ⟨q, hq⟩ : ∃ q, ofG S x = q := ⟨_, rfl⟩
      rw [hq] at HO
      have HQ := Lib.hid hq
      clear hcell hc hx hrow hk HR htk hq
      by_cases h0 : q = 0
      · subst h0
        go_wp2_with (go_at_call 24; refine HO.out.mono ?_; rintro e _ ⟨rfl, rfl⟩)
        have hL := Lib.hid (show LI w1 S ss (i + 1) (.slice ao3 k cap3) wr from by
          unfold LI
          rw [HTK.out, glOf_app, show glOf S [x] = [] by simp [glOf, HQ.out], List.append_nil, HRW.out.2.1]
          exact ⟨HRW.out.1, HRW.out.2.2⟩)
        go_roundw
        case rel => exact ⟨i + 1, by go_num, by omega, hL⟩
        case measure => simp [intOf] <;> omega
      · have hq0 : (0 : Int) < (q : Int) := by omega
        go_wp2_with (first
          | (go_at_call 24; refine HO.out.mono ?_; rintro e _ ⟨rfl, rfl⟩)
          | (at_builtin; refine wpList_append_own _ rfl (.tmp 25) (.tmp 29) 33 rfl w1.heap.size 68 i0 _ 2 16 Try.underlying33 HZ.out.1 HZ.out.2.1 HZ.out.2.2.1 HZ.out.2.2.2 rfl (by decide) (.slice ao3 k cap3) k (g2 (glOf S (ss.take i))) rfl (HRW.out.1.alloc _) ⟨wr.heap.size, 0, none⟩ 1 1 [.int .u32 x, .int .i64 q] rfl rfl (new2 x q wr 68) (one2 x q) (by unfold maxLen; omega) (by omega) (by have := HRW.out.2.2.size; simp; omega) ?_; intro v4 w4 hown4 hgrow4 hnil4; have HG := Lib.hid (And.intro hown4 hgrow4); clear hown4 hgrow4 hnil4))
        have hL := Lib.hid (show LI w1 S ss (i + 1) v4 w4 from by
          unfold LI
          rw [HTK.out, glOf_app, show glOf S [x] = [(x, (q : Int))] from gl_one HQ.out (by omega), List.length_append, g2_app, HRW.out.2.1]
          refine ⟨HG.out.1, (HRW.out.2.2.alloc HRW.out.2.2.size _).grown HG.out.2 (by have := HRW.out.2.2.size; simp; omega) (fun g e => (World.ownsRow.lt HRW.out.1 g e).1)⟩)
        go_roundw
        case rel => exact ⟨i + 1, by go_num, by omega, hL⟩
        case measure => simp [intOf] <;> omega
    · obtain rfl : i = n := by omega
      have hr := HR.out.1
      rw [List.take_of_length_le (by rw [HN.out]; exact Nat.le_refl _)] at hr
      obtain ⟨ao3, cap3, ev3⟩ := own2_slice hr
      subst ev3
      have hE : ListOf S w (.returned (.slice ao3 (glOf S ss).length cap3)) wr := by
        refine ⟨ao3, cap3, ss, rfl, ⟨H1.out.2.1, H1.out.1.2.1, fun x hx => ?_⟩, ?_, H1.out.2.2.2.trans (HR.out.2.mono H1.out.2.2.2.size)⟩
        · rw [H1.out.1.2.2.1 x hx, (HD.out x hx).2]
          unfold nV
          by_cases e : cnt S x = 0 <;> simp [e]
        · refine ⟨hr.1, ?_⟩
          rcases hr.2 with h0 | ⟨g, cap', cur, e1, e2, e3⟩
          · exact .inl h0
          · exact .inr ⟨g, cap', cur, e1, Nat.le_trans H1.out.2.2.2.size e2, e3⟩
      have HE := Lib.hid hE
      clear hr hE HR
      go_wp2
      go_ret
      exact HE.out
end Go.Proofs.Ytgjjfodogkcmmaa.Gh
