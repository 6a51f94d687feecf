/- span: the law on numbers that come one by one, walked. -/
import Derived.Test.YtgbhdccadelcfaaM3
namespace Go.Proofs.Ytgbhdccadelcfaa.Sp
open Go Go.RowKit
/-- One set of the call's own, apart from other blocks. -/
def One (n0 : Nat) (w0 wr : World) (Zs : Nat → Prop) (p : Nat) (L : SL) : Prop := ∃ v F, SpanAt wr n0 F p v L ∧ (∀ z, Zs z → z < wr.heap.size ∧ ¬ F z ∧ n0 ≤ z) ∧ Below n0 w0 wr
theorem One.is {n0 p : Nat} {w0 wr : World} {Zs : Nat → Prop} {L : SL} (h : One n0 w0 wr Zs p L) : SetIs n0 w0 wr p L := by
  obtain ⟨v, F, h1, _, h3⟩ := h
  exact ⟨v, F, h1, h3⟩
theorem One.below {n0 p : Nat} {w0 wr w' : World} {Zs : Nat → Prop} {L : SL} (h : One n0 w0 wr Zs p L) (hb : Below wr.heap.size wr w') : One n0 w0 w' Zs p L := by
  obtain ⟨v, F, h1, h2, h3⟩ := h
  exact ⟨v, F, h1.below hb, fun z hz => ⟨Nat.lt_of_lt_of_le (h2 z hz).1 hb.size, (h2 z hz).2⟩, h3.trans (hb.mono h1.base)⟩
theorem One.alloc {n0 p : Nat} {w0 wr : World} {L : SL} (h : SetIs n0 w0 wr p L) (o : Obj) : One n0 w0 (wr.alloc o) (fun z => z = wr.heap.size) p L := by
  have hb := (Below.refl wr.heap.size wr).alloc (Nat.le_refl _) o
  obtain ⟨v, F, h1, h3⟩ := h
  exact ⟨v, F, h1.below hb, fun z hz => by subst hz; exact ⟨by simp, fun k => by have := h1.hi _ k; omega, h1.base⟩, h3.trans (hb.mono h1.base)⟩
theorem One.set {n0 p z k : Nat} {w0 wr : World} {Zs : Nat → Prop} {L : SL} (h : One n0 w0 wr Zs p L) (hz : Zs z) (x : Value) : One n0 w0 (wr.setCell ⟨z, k, none⟩ x) Zs p L := by
  obtain ⟨v, F, h1, h2, h3⟩ := h
  have hg := grown_set wr z k x
  have ht : Turned (fun j => j = z) wr (wr.setCell ⟨z, k, none⟩ x) := Turned.of_grown hg (fun j e => by injection e with e; exact e.symm)
  exact ⟨v, F, h1.on ht (fun j hj e => by subst e; exact (h2 j hz).2.1 hj), fun y hy => ⟨Nat.lt_of_lt_of_le (h2 y hy).1 hg.size, (h2 y hy).2⟩, h3.trans (ht.below h1.base (fun j e => by subst e; exact (h2 j hz).2.2))⟩
def OAddR (n0 : Nat) (w0 wr : World) (Zs : Nat → Prop) (p : Nat) (L : SL) (a b : Int) (e : Ending) (w' : World) : Prop :=
  e = .returned (.int .i64 0) ∧ ∃ M, (∀ n, mem M n ↔ mem L n ∨ (a ≤ n ∧ n ≤ b)) ∧ M.length ≤ L.length + 1 ∧ One n0 w0 w' Zs p M ∧ ∀ z, Zs z → w'.heap[z]? = wr.heap[z]?
theorem one_add {n0 p : Nat} {w0 wr : World} {Zs : Nat → Prop} {L : SL} (h : One n0 w0 wr Zs p L) (a b : Int) (h0 : 0 ≤ a) (hab : a ≤ b) (hb : b ≤ 4294967295) (hL : L.length ≤ 1000) :
    Calls Try.prog 10 #[.pointer (some ⟨p, 0, none⟩), .int .u32 a, .int .u32 b] wr (OAddR n0 w0 wr Zs p L a b) := by
  obtain ⟨v, F, h1, h2, h3⟩ := h
  refine (add_ok n0 p F v L a b wr h1 h0 hab hb hL).mono ?_
  rintro e w' ⟨rfl, M, hM, hl, v', F', k1, k2, k3⟩
  refine ⟨rfl, M, hM, hl, ⟨v', F', k1, fun z hz => ?_, h3.trans (k3.below h1.base h1.low)⟩, fun z hz => k3.block z (h2 z hz).1 (h2 z hz).2.1⟩
  obtain ⟨z1, z2, z3⟩ := h2 z hz
  refine ⟨Nat.lt_of_lt_of_le z1 k3.size, fun k => ?_, z3⟩
  rcases k2 z k with k4 | k4
  · exact z2 k4
  · omega
theorem One.can {n0 p : Nat} {w0 wr : World} {Zs : Nat → Prop} {L : SL} (h : One n0 w0 wr Zs p L) : Canon L := by
  obtain ⟨v, F, h1, _, h3⟩ := h
  exact h1.can
theorem zero61 (w : World) : (zeroValue 61).run Try.prog w = .ok (.agg (Fb fun _ => false)) w := by kernel_rfl
theorem exec_alloc61 {a : Act} {o : Oper} (ho : o.op = .alloc 61) (w : World) : (execOp a.eval o).run Try.prog w = .ok (.value (.pointer (some ⟨w.heap.size, 0, none⟩))) (w.alloc (.cells (Fb fun _ => false) 61)) := by
  have := zero61 w
  simp [execOp, ho, Instr.alloc, this, newVar, Result.andThen, go_sem]
theorem wpList_turns {P : Program} {ops : Array Oper} {rest : List Oper} {o : Oper} {a : Act} {w w' : World} {Q : Exit → Act → World → Prop} {v : Value} (hg : o.guard = none)
    (hrun : (execOp a.eval o).run P w = .ok (.value v) w') (h : wpList P ops Q rest (a.put o.dst v) w') : wpList P ops Q (o :: rest) a w :=
  wpList_plain hg fun K hK => by
    unfold Oper.wp
    rw [hrun]
    simp [go_sem]
    exact hK _ _ h
/-- Bytes that stand from an address on. -/
def Rb (w : World) (ao : Option Addr) (l : List Int) : Prop := ∀ i t, l[i]? = some t → ∃ b off, ao = some ⟨b, off, none⟩ ∧ b < w.heap.size ∧ w.cell? ⟨b, off + i, none⟩ = some (.int .u8 t)
theorem Rb.on {w w' : World} {ao : Option Addr} {L : List Int} (h : Rb w ao L) {B : Nat} (hb : Below B w w') (hB : w.heap.size ≤ B) : Rb w' ao L := fun i t ht => by
  obtain ⟨b, off, h1, h2, h3⟩ := h i t ht
  exact ⟨b, off, h1, Nat.lt_of_lt_of_le h2 hb.size, (hb.cell (p := ⟨b, off + i, none⟩) (by simp; omega)).trans h3⟩
/-- What the law knows of its set and its truths. -/
def FewI (w : World) (p z : Nat) (first : Int) (c : Nat) (wr : World) : Prop :=
  ∃ L f, One w.heap.size w wr (fun y => y = z) p L ∧ Holds L first f ∧ L.length ≤ c ∧ wr.heap[z]? = some (.cells (Fb f) 61 (0, 0))
theorem FewI.ahead {w : World} {p z : Nat} {first : Int} {c : Nat} {wr : World} (h : FewI w p z first c wr) : Below w.heap.size w wr := by
  obtain ⟨L, f, h1, _⟩ := h
  exact h1.is.ahead
theorem rn_next (f : Nat → Bool) (j : Nat) : rn f (j + 1) = rn f j + cond (f j && (j == 0 || !f (j - 1))) 1 0 := rfl
theorem rn_le (f : Nat → Bool) (j : Nat) : rn f j ≤ j := by
  induction j with
  | zero => exact Nat.le_refl _
  | succ j ih =>
    rw [rn_next]
    cases (f j && (j == 0 || !f (j - 1))) <;> simp <;> omega
theorem card_256 (a : Int) : card [(a, a + 255)] = 256 := by simp [card]; omega
theorem rd_lit1 {w : World} {z : Nat} {a b : Int} (h : w.heap[z]? = some (.cells #[.int .u32 a, .int .u32 b] 31 (0, 0))) : Rd2 w (some ⟨z, 0, none⟩) [(a, b)] := fun i t ht => by
  refine ⟨z, 0, rfl, (Array.getElem?_eq_some_iff.1 h).1, ?_⟩
  match i, ht with
  | 0, ht =>
    simp at ht
    subst ht
    simp [World.cell?, h]
  | i + 1, ht => simp at ht
set_option maxRecDepth 100000 in
set_option maxHeartbeats 1000000 in
theorem few_law (first : Int) (ao : Option Addr) (ca : Nat) (l : List Int) (w : World) (f0 : 0 ≤ first) (hA : Rb w ao l) (iA : ∀ k ∈ l, 0 ≤ k ∧ k ≤ 255) (mA : l.length ≤ maxLen) :
    Calls Try.prog 5 #[.int .u32 first, .slice ao l.length ca] w fun e w' => e = .returned (.bool true) ∧ Below w.heap.size w w' := by
  have HA := Lib.hid (And.intro hA iA)
  unfold maxLen at mA
  obtain ⟨n, hn⟩ : ∃ n, l.length = n := ⟨_, rfl⟩
  rw [hn] at mA ⊢
  have HLN := Lib.hid hn
  obtain ⟨a, ha⟩ : ∃ a, first.tmod 2147483648 = a := ⟨_, rfl⟩
  have a0 : 0 ≤ a := by rw [← ha, Int.tmod_eq_emod_of_nonneg f0]; omega
  have a1 : a < 2147483648 := by rw [← ha, Int.tmod_eq_emod_of_nonneg f0]; omega
  have we : IntKind.u32.wrap a = a := by simp [IntKind.wrap, IntKind.bits, IntKind.signed]; omega
  have we2 : IntKind.u32.wrap (a + 255) = a + 255 := by simp [IntKind.wrap, IntKind.bits, IntKind.signed]; omega
  clear hA iA hn
  go_enter Try.func5, Try.ntmps5
  go_upto_region 4 with (first
    | (go_at_call 8; refine (awake_any w).mono ?_; rintro e w1 ⟨rfl, hb⟩; have A1 := Lib.hid hb; clear hb)
    | (go_at_call 9; refine (is_new w1).mono ?_; rintro e w2 ⟨rfl, s⟩; have N1 := Lib.hid s; clear s))
  have hS : SetIs w.heap.size w w2 w1.heap.size [] := by
    obtain ⟨v, F, h1, h2⟩ := N1.out
    refine ⟨v, F, ⟨⟨h1.at_.1, h1.at_.2.1, ?_⟩, h1.can, Nat.le_trans A1.out.size h1.base, h1.fp, h1.fv, h1.hi, fun k hk => Nat.le_trans A1.out.size (h1.low k hk)⟩, A1.out.trans (h2.mono A1.out.size)⟩
    rcases h1.at_.2.2 with h | ⟨g, cap, cur, e1, e2, e3⟩
    · exact .inl h
    · exact .inr ⟨g, cap, cur, e1, Nat.le_trans A1.out.size e2, e3⟩
  obtain ⟨p, hp⟩ : ∃ p, p = w1.heap.size := ⟨_, rfl⟩
  rw [← hp] at hS ⊢
  have HC := Lib.hid (show FewI w p w2.heap.size a 0 (w2.alloc (.cells (Fb fun _ => false) 61)) from ⟨[], fun _ => false, One.alloc hS _, fun n => by simp [mem_none], by simp, heap_alloc_new w2 _⟩)
  obtain ⟨z, hz⟩ : ∃ z, z = w2.heap.size := ⟨_, rfl⟩
  clear hS hp N1
  go_wp2_with (refine wpList_turns rfl (exec_alloc61 rfl _) ?_)
  rw [← hz] at HC ⊢
  clear hz
  go_loopw [18] (fun u wr => ∃ i : Nat, i ≤ 300 ∧ i ≤ n ∧ u = .int .i64 i ∧ Hid (FewI w p z a i wr)) (fun u _ => n - (intOf u).toNat)
  case atStart => exact ⟨0, by omega, by omega, rfl, HC⟩
  case round =>
    obtain ⟨i, hi3, hi, rfl, HI⟩ := hrel
    clear HC A1
    obtain ⟨L, f, hO, hH, hLn, hZ⟩ := HI.out
    have HU := Lib.hid (And.intro hO (And.intro hH (And.intro hLn hZ)))
    by_cases hlt : i < n
    · obtain ⟨k, hk⟩ : ∃ k, l[i]? = some k := ⟨_, List.getElem?_eq_getElem (by have := HLN.out; omega)⟩
      obtain ⟨k0, k1⟩ := HA.out.2 k (List.mem_of_getElem? hk)
      obtain ⟨g, og, rfl, _, c1⟩ := (HA.out.1.on HI.out.ahead (Nat.le_refl _)) i k hk
      by_cases h3 : i < 300
      · obtain ⟨m, rfl⟩ : ∃ m : Nat, k = (m : Int) := ⟨k.toNat, by omega⟩
        have km : m < 256 := by omega
        have wk : IntKind.u32.wrap (m : Int) = (m : Int) := by simp [IntKind.wrap, IntKind.bits, IntKind.signed]; omega
        have wk2 : IntKind.u32.wrap (a + (m : Int)) = a + (m : Int) := by simp [IntKind.wrap, IntKind.bits, IntKind.signed]; omega
        clear hk hO hH hLn hZ
        go_upto_region 12 with (go_at_call 10; refine (one_add HU.out.1 (a + (m : Int)) (a + (m : Int)) (by omega) (by omega) (by omega) (by have := HU.out.2.2.1; omega)).mono ?_; rintro e w5 ⟨rfl, M, v1, v2, v3, v4⟩; have V5 := Lib.hid (And.intro v1 (And.intro v2 (And.intro v3 (v4 z rfl)))); clear v1 v2 v3 v4)
        have hz5 := V5.out.2.2.2.trans HU.out.2.2.2
        have q1 : w5.cell? ⟨z, m, none⟩ = some (.bool (f m)) := by simp [World.cell?, hz5, fb_at f km]
        have q2 := free1 (i := m) hz5
        have HZ5 := Lib.hid hz5
        clear hz5
        go_upto_region 14 with fail
        have hz6 : (w5.setCell ⟨z, m, none⟩ (.bool true)).heap[z]? = some (.cells (Fb (on1 f m)) 61 (0, 0)) := by rw [set_block HZ5.out, fb_set f km]
        have HN := Lib.hid (show One w.heap.size w (w5.setCell ⟨z, m, none⟩ (.bool true)) (fun y => y = z) p M ∧ Holds M a (on1 f m) ∧ M.length ≤ i + 1 ∧ (w5.setCell ⟨z, m, none⟩ (.bool true)).heap[z]? = some (.cells (Fb (on1 f m)) 61 (0, 0)) from
          ⟨V5.out.2.2.1.set rfl _, holds_add km HU.out.2.1 V5.out.1, by have := V5.out.2.1; have := HU.out.2.2.1; omega, hz6⟩)
        generalize w5.setCell ⟨z, m, none⟩ (.bool true) = w6 at HN ⊢
        clear hz6
        go_wp2_with fail
        go_loopw [38, 9] (fun u r wr => ∃ j : Nat, j ≤ 256 ∧ u = .int .i64 j ∧ r = .int .i64 (rn (on1 f m) j) ∧ wr = w6) (fun u _ _ => 256 - (intOf u).toNat)
        case atStart => exact ⟨0, by omega, rfl, rfl, rfl⟩
        case round =>
          obtain ⟨j, hj, rfl, rfl, rfl⟩ := hrel
          by_cases hj2 : j < 256
          · have y1 : wr.cell? ⟨z, j, none⟩ = some (.bool (on1 f m j)) := by simp [World.cell?, HN.out.2.2.2, fb_at _ hj2]
            have hrn := rn_next (on1 f m) j
            have rle : rn (on1 f m) j ≤ j := rn_le _ _
            cases hfj : on1 f m j
            · rw [hfj] at y1 hrn
              simp only [Bool.false_and, cond_false, Nat.add_zero] at hrn
              have HRN := Lib.hid hrn
              clear hrn hfj
              go_wp2_with fail
              go_roundw
              case measure => simp [intOf]; omega
              case rel => exact ⟨j + 1, by omega, rfl, by rw [HRN.out], trivial⟩
            · rw [hfj] at y1 hrn
              rcases Nat.eq_zero_or_pos j with rfl | hjp
              · have HRN := Lib.hid (show rn (on1 f m) (0 + 1) = 1 from by rw [hrn]; rfl)
                clear hrn hfj
                go_wp2_with fail
                go_roundw
                case measure => simp [intOf]
                case rel => exact ⟨1, by omega, rfl, by rw [show rn (on1 f m) 1 = 1 from HRN.out]; rfl, trivial⟩
              · obtain ⟨j', hj'⟩ : ∃ j', j' = j - 1 := ⟨_, rfl⟩
                have y2 : wr.cell? ⟨z, j', none⟩ = some (.bool (on1 f m j')) := by simp [World.cell?, HN.out.2.2.2, fb_at _ (show j' < 256 by omega)]
                have ji : (j : Int) - 1 = (j' : Int) := by omega
                have jw : IntKind.i64.wrap (j' : Int) = (j' : Int) := by simp [IntKind.wrap, IntKind.bits, IntKind.signed]; omega
                have jz : ((j : Int) == 0) = false := by simp; omega
                have jz2 : (j == 0) = false := by simp; omega
                have jl : j' < 256 := by omega
                rw [← hj', jz2] at hrn
                clear hj' jz2
                cases hfp : on1 f m j'
                · rw [hfp] at y2 hrn
                  have HRN := Lib.hid (show rn (on1 f m) (j + 1) = rn (on1 f m) j + 1 from hrn)
                  clear hrn hfj hfp
                  generalize rn (on1 f m) j = r at HRN rle ⊢
                  go_wp2_with fail
                  go_roundw
                  case measure => simp [intOf]; omega
                  case rel => exact ⟨j + 1, by omega, rfl, by rw [HRN.out]; rfl, trivial⟩
                · rw [hfp] at y2 hrn
                  have HRN := Lib.hid (show rn (on1 f m) (j + 1) = rn (on1 f m) j from hrn)
                  clear hrn hfj hfp
                  generalize rn (on1 f m) j = r at HRN rle ⊢
                  go_wp2_with fail
                  go_roundw
                  case measure => simp [intOf]; omega
                  case rel => exact ⟨j + 1, by omega, rfl, by rw [HRN.out], trivial⟩
          · obtain rfl : j = 256 := by omega
            have hrun := runs_len HN.out.1.can HN.out.2.1
            rw [hrun]
            have hml : M.length ≤ 1000 := by have := HN.out.2.2.1; omega
            clear hrun
            go_wp2_with (go_at_call 13; refine (is_spans HN.out.1.is hml).mono ?_; rintro e w7 ⟨bo, cap2, rfl, _, hb⟩; have S7 := Lib.hid (show FewI w p z a (i + 1) w7 from ⟨M, _, HN.out.1.below hb, HN.out.2.1, HN.out.2.2.1, (hb.block z (Array.getElem?_eq_some_iff.1 HN.out.2.2.2).1).trans HN.out.2.2.2⟩); clear hb)
            go_roundw
            case measure => simp [intOf]; omega
            case rel => exact ⟨i + 1, by omega, by omega, rfl, S7⟩
      · clear hk hO hH hLn hZ
        go_upto_region 25 with (go_at_call 10; refine (is_add [(a, a + 255)] a (a + 255) HU.out.1.is (canon_one a (a + 255) a0 (by omega) (by omega)) (holds_all HU.out.2.1) a0 (by omega) (by omega) (by have := HU.out.2.2.1; omega)).mono ?_; rintro e w8 ⟨rfl, s⟩; have S8 := Lib.hid s; clear s)
        go_wp2_with (first
          | (go_at_call 13; refine (is_spans S8.out (by simp)).mono ?_; rintro e w9 ⟨bo, cap2, rfl, hr, hb⟩; have S9 := Lib.hid (And.intro hr (S8.out.below hb)); clear hr hb)
          | (go_at_call 16; refine (is_conv (L := [(a, a + 255)]) S9.out.1 (by simp)).mono ?_; rintro e w10 ⟨co, cap3, rfl, hr, hb⟩; have S10 := Lib.hid (And.intro hr (S9.out.2.below hb)); clear hr hb)
          | (go_at_call 15; refine (same_any co (some ⟨w10.heap.size, 0, none⟩) cap3 1 [(a, a + 255)] [(a, a + 255)] (w10.alloc (.cells #[.int .u32 a, .int .u32 (a + 255)] 31)) (S10.out.1.on ((Below.refl w10.heap.size w10).alloc (Nat.le_refl _) _) (Nat.le_refl _)) (rd_lit1 (heap_alloc_new w10 _)) (by simp) (by simp)).mono ?_; rintro e w11 ⟨he, hb⟩; rw [decide_eq_true rfl] at he; subst he; have S11 := Lib.hid ((S10.out.2.below ((Below.refl w10.heap.size w10).alloc (Nat.le_refl _) (.cells #[.int .u32 a, .int .u32 (a + 255)] 31))).below hb); clear hb)
          | (go_at_call 17; refine (is_count S11.out (by simp)).mono ?_; rintro e w12 ⟨he, hb⟩; rw [card_256] at he; subst he; have S12 := Lib.hid (S11.out.below hb); clear hb))
        go_ret
        exact ⟨rfl, S12.out.ahead⟩
    · obtain rfl : i = n := by omega
      clear hO hH hLn hZ
      go_upto_region 25 with (go_at_call 10; refine (is_add [(a, a + 255)] a (a + 255) HU.out.1.is (canon_one a (a + 255) a0 (by omega) (by omega)) (holds_all HU.out.2.1) a0 (by omega) (by omega) (by have := HU.out.2.2.1; omega)).mono ?_; rintro e w8 ⟨rfl, s⟩; have S8 := Lib.hid s; clear s)
      go_wp2_with (first
        | (go_at_call 13; refine (is_spans S8.out (by simp)).mono ?_; rintro e w9 ⟨bo, cap2, rfl, hr, hb⟩; have S9 := Lib.hid (And.intro hr (S8.out.below hb)); clear hr hb)
        | (go_at_call 16; refine (is_conv (L := [(a, a + 255)]) S9.out.1 (by simp)).mono ?_; rintro e w10 ⟨co, cap3, rfl, hr, hb⟩; have S10 := Lib.hid (And.intro hr (S9.out.2.below hb)); clear hr hb)
        | (go_at_call 15; refine (same_any co (some ⟨w10.heap.size, 0, none⟩) cap3 1 [(a, a + 255)] [(a, a + 255)] (w10.alloc (.cells #[.int .u32 a, .int .u32 (a + 255)] 31)) (S10.out.1.on ((Below.refl w10.heap.size w10).alloc (Nat.le_refl _) _) (Nat.le_refl _)) (rd_lit1 (heap_alloc_new w10 _)) (by simp) (by simp)).mono ?_; rintro e w11 ⟨he, hb⟩; rw [decide_eq_true rfl] at he; subst he; have S11 := Lib.hid ((S10.out.2.below ((Below.refl w10.heap.size w10).alloc (Nat.le_refl _) (.cells #[.int .u32 a, .int .u32 (a + 255)] 31))).below hb); clear hb)
        | (go_at_call 17; refine (is_count S11.out (by simp)).mono ?_; rintro e w12 ⟨he, hb⟩; rw [card_256] at he; subst he; have S12 := Lib.hid (S11.out.below hb); clear hb))
      go_ret
      exact ⟨rfl, S12.out.ahead⟩
end Go.Proofs.Ytgbhdccadelcfaa.Sp
