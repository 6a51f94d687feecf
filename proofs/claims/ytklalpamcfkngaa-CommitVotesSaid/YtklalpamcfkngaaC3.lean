/- commit: the law on votes, walked. -/
import Derived.Test.YtklalpamcfkngaaC2
namespace Go.Proofs.Ytklalpamcfkngaa.Cm
open Go Go.RowKit
theorem rd_own8 {w : World} {B : Nat} {ao : Option Addr} {n cap : Nat} {L : List Int} (h : w.ownsRow B 5 1 (.slice ao n cap) n (u8s L)) : Rd w ao L := fun i x hx => by
  obtain ⟨ao', cap', e, _, h2⟩ := own_slice h
  simp only [Value.slice.injEq] at e
  obtain ⟨rfl, _, rfl⟩ := e
  obtain ⟨g, h3, h4, h5⟩ := h2 i (.int .u8 x) (by simp [u8s, hx])
  exact ⟨g, 0, h3, h4, by rw [Nat.zero_add]; exact h5⟩
/-- A run of the first n nodes, of whom those of v have voted. -/
def runV (n : Nat) (v : Nat → Bool) (r : Bool) : RunM := ⟨memF (firstN n), v, noF, if r then 4 else 1⟩
/-- Between two votes. -/
def VoI (w0 : World) (n tb mb p i : Nat) (v : Nat → Bool) (r : Bool) (w : World) : Prop :=
  ∃ RM, KB w0 (fun k => k = tb ∨ k = mb) 1 p RM (fun _ => none) w ∧ RM t1 = some (runV n v r) ∧ MapB w mb i v ∧ (∀ i, v i = true → i < n) ∧ w.heap[tb]? = some (.cells #[.int .u8 0, .int .u32 0, .int .u32 1] 33 (0, 0)) ∧ w0.heap.size ≤ mb ∧ tb ≠ mb
theorem MapB.mono {w : World} {b n m : Nat} {v : Nat → Bool} (h : MapB w b n v) (hn : n ≤ m) : MapB w b m v := by
  obtain ⟨D, h1, h2⟩ := h
  exact ⟨D, h1.mono hn, h2⟩
theorem vo_vote {w0 w : World} {n tb mb p i j : Nat} {v v' : Nat → Bool} {r r' : Bool} (h : VoI w0 n tb mb p i v r w) (hj : j < n) (hn : n ≤ 4) (y : Bool) (hE : (voteM (runV n v r) j y).1 = runV n v' r') (hlt : ∀ i, v' i = true → i < n) :
    Calls Try.prog 13 #[.pointer (some ⟨p, 0, none⟩), .agg #[.int .u8 0, .int .u32 0, .int .u32 1], .int .u8 j, .bool y] w fun e w' =>
      e = .returned (two (voteM (runV n v r) j y).2.1 (voteM (runV n v r) j y).2.2) ∧ MapB w' mb i v ∧
        (∀ w'', (w''.heap[tb]? = w'.heap[tb]?) → Turned (fun k => k = mb) w' w'' → MapB w'' mb (i + 1) v' → VoI w0 n tb mb p (i + 1) v' r' w'') ∧ w'.heap[tb]? = some (.cells #[.int .u8 0, .int .u32 0, .int .u32 1] 33 (0, 0)) ∧ Below w0.heap.size w0 w' := by
  obtain ⟨RM, h1, h2, h3, h4, h5, h6, h7⟩ := h
  have hm : (runV n v r).n j = true := by simp [runV, mem_firstN, hj]
  refine (kb_vote h1 in_t1 (j : Int) (by omega) y).mono ?_
  rintro e w' ⟨rfl, hk, hs⟩
  have hv : voteA (RM t1) (j : Int) y = (voteM (runV n v r) j y).2 := by
    rw [h2]
    simp only [voteA, Int.toNat_natCast]
    rw [if_pos ⟨by omega, hm⟩]
  have hvs : voteS RM t1 (j : Int) y t1 = some (voteM (runV n v r) j y).1 := by
    unfold voteS
    rw [h2]
    simp only [Int.toNat_natCast]
    rw [if_pos ⟨by omega, hm⟩]
    simp [updR]
  rw [hv]
  refine ⟨rfl, h3.same (hs.block mb (.inr rfl)), fun w'' ht hu hm' => ?_, (hs.block tb (.inl rfl)).trans h5, hk.ahead⟩
  exact ⟨_, hk.turn hu (fun k hk => ⟨.inr hk, by rw [hk]; exact h6⟩), by rw [hvs, hE], hm', hlt, ht.trans ((hs.block tb (.inl rfl)).trans h5), h6, h7⟩
theorem VoI.lts {w0 w : World} {n tb mb p i : Nat} {v : Nat → Bool} {r : Bool} (h : VoI w0 n tb mb p i v r w) : ∀ i, v i = true → i < n := by
  obtain ⟨_, _, _, _, h4, _⟩ := h
  exact h4
theorem VoI.cells {w0 w : World} {n tb mb p i : Nat} {v : Nat → Bool} {r : Bool} (h : VoI w0 n tb mb p i v r w) : w.cell? ⟨tb, 0, none⟩ = some (.int .u8 0) ∧ w.cell? ⟨tb, 1, none⟩ = some (.int .u32 0) ∧ w.cell? ⟨tb, 2, none⟩ = some (.int .u32 1) := by
  obtain ⟨_, _, _, _, _, h5, _⟩ := h
  simp [World.cell?, h5]
theorem VoI.ahead {w0 w : World} {n tb mb p i : Nat} {v : Nat → Bool} {r : Bool} (h : VoI w0 n tb mb p i v r w) : Below w0.heap.size w0 w := by
  obtain ⟨_, h1, _⟩ := h
  exact h1.ahead
theorem VoI.map {w0 w : World} {n tb mb p i : Nat} {v : Nat → Bool} {r : Bool} (h : VoI w0 n tb mb p i v r w) : MapB w mb i v := by
  obtain ⟨_, _, _, h3, _⟩ := h
  exact h3
theorem VoI.ne {w0 w : World} {n tb mb p i : Nat} {v : Nat → Bool} {r : Bool} (h : VoI w0 n tb mb p i v r w) : tb ≠ mb := by
  obtain ⟨_, _, _, _, _, _, _, h7⟩ := h
  exact h7
theorem vo_late {w0 w : World} {n tb mb p i j : Nat} {v : Nat → Bool} (h : VoI w0 n tb mb p i v true w) (hj : j < n) (hn : n ≤ 4) (y q : Bool) (hq : (y && v j) = q) :
    Calls Try.prog 13 #[.pointer (some ⟨p, 0, none⟩), .agg #[.int .u8 0, .int .u32 0, .int .u32 1], .int .u8 j, .bool y] w fun e w' =>
      e = .returned (if q = true then two 4 0 else two 0 9) ∧ VoI w0 n tb mb p (i + 1) v true w' := by
  have h2 : voteM (runV n v true) j y = if q = true then (runV n v true, 4, 0) else (runV n v true, 0, 9) := by
    unfold voteM
    rw [if_neg (show ¬ (runV n v true).s = 1 from by simp [runV])]
    show (if (y && v j) = true then _ else _) = _
    rw [hq]
    rfl
  refine (vo_vote h hj hn y (v' := v) (r' := true) (by rw [h2]; split <;> rfl) h.lts).mono ?_
  rintro e w' ⟨rfl, hm, hk, _⟩
  refine ⟨?_, hk w' rfl (.refl _ _) (hm.mono (Nat.le_succ i))⟩
  rw [h2]
  cases q <;> rfl
theorem vo_no {w0 w : World} {n tb mb p i j : Nat} {v : Nat → Bool} (h : VoI w0 n tb mb p i v false w) (hj : j < n) (hn : n ≤ 4) :
    Calls Try.prog 13 #[.pointer (some ⟨p, 0, none⟩), .agg #[.int .u8 0, .int .u32 0, .int .u32 1], .int .u8 j, .bool false] w fun e w' =>
      e = .returned (two 4 0) ∧ VoI w0 n tb mb p (i + 1) v true w' := by
  refine (vo_vote h hj hn false (v' := v) (r' := true) rfl h.lts).mono ?_
  rintro e w' ⟨rfl, hm, hk, _⟩
  exact ⟨rfl, hk w' rfl (.refl _ _) (hm.mono (Nat.le_succ i))⟩
theorem tru_lt {v : Nat → Bool} {n j : Nat} (h : ∀ i, v i = true → i < n) (hj : j < n) : ∀ i, tru v j i = true → i < n := fun i hi => by
  unfold tru at hi
  by_cases e : i = j
  · omega
  · rw [if_neg e] at hi; exact h i hi
theorem vo_yes {w0 w : World} {n tb mb p i j : Nat} {v : Nat → Bool} (h : VoI w0 n tb mb p i v false w) (hj : j < n) (hn : n ≤ 4) :
    Calls Try.prog 13 #[.pointer (some ⟨p, 0, none⟩), .agg #[.int .u8 0, .int .u32 0, .int .u32 1], .int .u8 j, .bool true] w fun e w' =>
      e = .returned (two (if cnt4 (tru v j) = n then 3 else 1) 0) ∧ MapB w' mb i v ∧
        (∀ w'', (w''.heap[tb]? = w'.heap[tb]?) → Turned (fun k => k = mb) w' w'' → MapB w'' mb (i + 1) (tru v j) → VoI w0 n tb mb p (i + 1) (tru v j) false w'') ∧ w'.heap[tb]? = some (.cells #[.int .u8 0, .int .u32 0, .int .u32 1] 33 (0, 0)) := by
  refine (vo_vote h hj hn true (v' := tru v j) (r' := false) rfl (tru_lt h.lts hj)).mono ?_
  rintro e w' ⟨rfl, hm, hk, ht, _⟩
  refine ⟨?_, hm, hk, ht⟩
  have h2 : voteM (runV n v false) j true = (runV n (tru v j) false, if eq4 (tru v j) (memF (firstN n)) = true then 3 else 1, 0) := rfl
  rw [h2, full_iff (by omega) hn (tru_lt h.lts hj)]
  by_cases hc : cnt4 (tru v j) = n
  · simp only [hc]; rfl
  · simp only [decide_eq_false hc, if_neg hc]; rfl
theorem vo_commit {w0 w : World} {n tb mb p i : Nat} {v : Nat → Bool} {r q : Bool} (h : VoI w0 n tb mb p i v r w) (h0 : 0 < n) (hn : n ≤ 4) (hq : (decide (cnt4 v = n) && !r) = q) :
    Calls Try.prog 14 #[.pointer (some ⟨p, 0, none⟩), .agg #[.int .u8 0, .int .u32 0, .int .u32 1]] w fun e w' =>
      e = .returned (.int .i64 (if q = true then 0 else 9)) ∧ Below w0.heap.size w0 w' ∧ MapB w' mb i v := by
  obtain ⟨RM, h1, h2, h3, h4, h5, h6, h7⟩ := h
  refine (kb_commit h1 in_t1).mono ?_
  rintro e w' ⟨rfl, hk, hs⟩
  rw [h2]
  refine ⟨?_, hk.ahead, h3.same (hs.block mb (.inr rfl))⟩
  have hf := full_iff h0 hn h4
  subst hq
  show Ending.returned (Value.int IntKind.i64 (if (if r then 4 else 1) = (4 : Int) ∨ eq4 v (memF (firstN n)) = false then 9 else 0)) = _
  rw [hf]
  cases r <;> by_cases hc : cnt4 v = n <;> simp [hc]
theorem cells3 {w : World} {b : Nat} {x y z : Value} {T : TypeId} (h : w.heap[b]? = some (.cells #[x, y, z] T (0, 0))) : w.cell? ⟨b, 0, none⟩ = some x ∧ w.cell? ⟨b, 1, none⟩ = some y ∧ w.cell? ⟨b, 2, none⟩ = some z := by
  simp [World.cell?, h]
def AllI (B k : Nat) (W1 : World) (v : Value) (wr : World) : Prop := wr.ownsRow B 5 1 v k (u8s (firstN k)) ∧ Below B W1 wr
set_option maxRecDepth 100000 in
set_option maxHeartbeats 8000000 in
theorem votes_law (a : Int) (ao : Option Addr) (l c : Nat) (L : List Int) (no : Int) (w : World) (a0 : 0 ≤ a) (_a1 : a ≤ 255) (hl : L.length = l) (hr : Rd w ao L) (hi : ∀ x ∈ L, 0 ≤ x ∧ x ≤ 255) (hlm : l ≤ maxLen) (_n0 : 0 ≤ no) (_n1 : no ≤ 255) :
    Calls Try.prog 5 #[.int .u8 a, .slice ao l c, .int .u8 no] w fun e w' => e = .returned (.bool true) ∧ Below w.heap.size w w' := by
  obtain ⟨i0, hi0, hz0, hz1, hz2⟩ := info_parts info5
  have HI := Lib.hid (And.intro hi0 (And.intro hz0 (And.intro hz1 hz2)))
  have HL := Lib.hid (And.intro hl (And.intro hr hi))
  unfold maxLen at hlm
  clear hi0 hz0 hz1 hz2 hl hr hi
  obtain ⟨k, hk, hk4⟩ : ∃ k : Nat, a % 4 = (k : Int) ∧ k < 4 := ⟨(a % 4).toNat, by omega, by omega⟩
  go_enter Try.func5, Try.ntmps5
  go_upto_region 6 with (first
    | (go_at_call 7; refine (awake_any w).mono ?_; rintro e w1 ⟨rfl, hb⟩; have A1 := Lib.hid hb; clear hb)
    | (go_at_call 8; refine (kb_new w w1 A1.out).mono ?_; rintro e w2 ⟨rfl, hk2, hb⟩; have H1 := Lib.hid (And.intro hk2 hb); clear hk2 hb))
  have H2 := Lib.hid ((H1.out.1.more ((Below.refl w2.heap.size w2).alloc (Nat.le_refl _) (.cells #[.int .u8 0, .int .u32 0, .int .u32 1] 33))).less (Y := fun k => k = w2.heap.size) (fun k e => .inr (by subst e; simp)))
  have HT := Lib.hid (heap_alloc_new w2 (.cells #[.int .u8 0, .int .u32 0, .int .u32 1] 33))
  have HBS := Lib.hid (Nat.le_trans A1.out.size H1.out.2.size)
  clear H1 A1
  generalize w2.alloc (.cells #[.int .u8 0, .int .u32 0, .int .u32 1] 33) = W1 at H2 HT ⊢
  generalize w2.heap.size = tb at H2 HT HBS ⊢
  generalize w1.heap.size + 2 = p at H2 ⊢
  obtain ⟨n, hn⟩ : ∃ n : Nat, n = 1 + k := ⟨_, rfl⟩
  rw [show (1 : Int) + (k : Int) = (n : Int) by omega]
  have n1 : 1 ≤ n := by omega
  have n4 : n ≤ 4 := by omega
  clear hk hn hk4
  go_wp2
  have hA0 := Lib.hid (show AllI W1.heap.size 0 W1 (.slice none 0 0) W1 from ⟨World.ownsRow_nil _ _ _ _, Below.refl _ _⟩)
  go_loopw [10, 28] (fun x u wr => ∃ k : Nat, k ≤ n ∧ u = .int .i64 k ∧ Hid (AllI W1.heap.size k W1 x wr)) (fun _ u _ => n - (intOf u).toNat)
  case atStart => exact ⟨0, by omega, rfl, hA0⟩
  case round =>
    obtain ⟨k, hk, rfl, HR⟩ := hrel
    clear hA0
    obtain ⟨lo, cap, rfl, _, _⟩ := own_slice HR.out.1
    by_cases hlt : k < n
    · have hm : IntKind.u8.wrap (k : Int) = k := by simp [IntKind.wrap, IntKind.bits, IntKind.signed]; omega
      go_wp2_with (at_builtin; refine wpList_append_own _ rfl (.tmp 31) (.tmp 34) 34 rfl W1.heap.size 5 i0 _ 1 1 Try.underlying34 HI.out.1 HI.out.2.1 HI.out.2.2.1 HI.out.2.2.2 rfl (by decide) (.slice lo k cap) k (u8s (firstN k)) rfl (HR.out.1.alloc _) ⟨wr.heap.size, 0, none⟩ 1 1 [.int .u8 k] rfl rfl (new1 _ wr 5) (one_u8 _) (by unfold maxLen; omega) (by omega) (by have := HR.out.2.size; simp; omega) ?_; intro v3 w3 hown3 hgrow3 hnil3; have HG := Lib.hid (And.intro hown3 hgrow3); clear hown3 hgrow3 hnil3)
      have HN := Lib.hid (show AllI W1.heap.size (k + 1) W1 v3 w3 from by
        unfold AllI
        rw [firstN_succ, u8s_app, show u8s [(k : Int)] = [.int .u8 k] from rfl]
        exact ⟨HG.out.1, (HR.out.2.alloc HR.out.2.size (.cells #[.int .u8 k] 5)).grown HG.out.2 (by have := HR.out.2.size; simp; omega) (fun q e => (own_obj HR.out.1 e).1)⟩)
      go_roundw
      case rel => exact ⟨k + 1, by omega, by go_num, HN⟩
      case measure => simp [intOf]; omega
    · obtain rfl : k = n := by omega
      have hmm := @run_makeMap Try.prog
      obtain ⟨c0, c1, c2⟩ := cells3 ((HR.out.2.block tb (World.block_lt_of_cell? W1 ⟨tb, 0, none⟩ (cells3 HT.out).1)).trans HT.out)
      have K1 := Lib.hid (And.intro (H2.out.below HR.out.2) (And.intro (rd_own8 HR.out.1) ((HR.out.2.block tb (World.block_lt_of_cell? W1 ⟨tb, 0, none⟩ (cells3 HT.out).1)).trans HT.out)))
      go_wp2_with (first
        | (go_at_call 12; refine (kb_begin lo k cap (firstN k) K1.out.1 in_t1 (firstN_len k) K1.out.2.1 (firstN_in k n4) (by decide)).mono ?_; rw [show beginE (fun _ => none) t1 (firstN k) = 0 by unfold beginE; rw [firstN_ok (by omega) n4]; rfl]; rintro e w3 ⟨rfl, hk, hs⟩; have K2 := Lib.hid (And.intro hk hs); clear hk hs))
      have hV := Lib.hid (show VoI w k tb w3.heap.size p 0 noF false (w3.alloc (.map #[] 0)) from by
        refine ⟨_, (K2.out.1.more ((Below.refl w3.heap.size w3).alloc (Nat.le_refl _) (.map #[] 0))).less (fun q hq => ?_), ?_, MapB.made w3, fun i hi => by simp [noF] at hi, (heap_alloc_old _ _ (World.block_lt_of_cell? w3 ⟨tb, 0, none⟩ (cells3 ((K2.out.2.block tb rfl).trans K1.out.2.2)).1)).trans ((K2.out.2.block tb rfl).trans K1.out.2.2), K2.out.1.ahead.size, fun e => ?_⟩
        · rcases hq with rfl | rfl
          · exact .inl rfl
          · exact .inr ⟨Nat.le_refl _, by simp⟩
        · unfold beginS
          rw [show beginE (fun _ => none) t1 (firstN k) = 0 by unfold beginE; rw [firstN_ok (by omega) n4]; rfl]
          rfl
        · have := World.block_lt_of_cell? w3 ⟨tb, 0, none⟩ (cells3 ((K2.out.2.block tb rfl).trans K1.out.2.2)).1
          simp at this
          omega)
      clear c0 c1 c2 K1 K2 hmm HT H2 HR
      generalize w3.alloc (.map #[] 0) = W3 at hV ⊢
      generalize w3.heap.size = mb at hV ⊢
      go_loopw [13, 45] (fun x u wr => ∃ (i : Nat) (r : Bool) (v : Nat → Bool), i ≤ l ∧ i ≤ 30 ∧ u = .int .i64 i ∧ x = .bool r ∧ Hid (VoI w k tb mb p i v r wr)) (fun _ u _ => l - (intOf u).toNat)
      case atStart => exact ⟨0, false, noF, by omega, by omega, rfl, rfl, hV⟩
      case round =>
        obtain ⟨i, r, v, hil, hi30, rfl, rfl, HV⟩ := hrel
        clear hV
        have hn1 : IntKind.u8.wrap (k : Int) = (k : Int) := by simp [IntKind.wrap, IntKind.bits, IntKind.signed]; omega
        by_cases hlt : i < l
        · obtain ⟨x, hx⟩ : ∃ x, L[i]? = some x := ⟨_, List.getElem?_eq_getElem (by have := HL.out.1; omega)⟩
          obtain ⟨x0, x1⟩ := HL.out.2.2 x (List.mem_of_getElem? hx)
          obtain ⟨b, off, rfl, _, ck⟩ := (HL.out.2.1.on HV.out.ahead (Nat.le_refl _)) i x hx
          clear hx
          by_cases h30 : i < 30
          · obtain ⟨j, hj, hjk⟩ : ∃ j : Nat, x % (k : Int) = (j : Int) ∧ j < k := ⟨(x % (k : Int)).toNat, by have h1 := Int.emod_nonneg x (b := (k : Int)) (by omega); omega, by have h1 := Int.emod_nonneg x (b := (k : Int)) (by omega); have h2 := Int.emod_lt_of_pos x (by omega : 0 < (k : Int)); omega⟩
            obtain ⟨y, hy⟩ : ∃ y, ((i : Int) != no) = y := ⟨_, rfl⟩
            obtain ⟨c0, c1, c2⟩ := HV.out.cells
            have hj4 : j < 4 := by omega
            cases r
            · cases y
              · go_wp2_with (first
                  | (go_at_call 13; refine (vo_no HV.out hjk n4).mono ?_; rintro e w4 ⟨rfl, h4⟩; unfold two; have K4 := Lib.hid h4; clear h4)
                  | (at_len; obtain ⟨D, hD, _, hD3⟩ := K4.out.map; refine wpList_len_own _ rfl _ 43 rfl 5 4 Try.underlying43 tok mb (i + 1) D rfl hD ?_; clear hD hD3))
                all_goals
                  go_roundw
                  case rel => exact ⟨i + 1, true, v, by omega, by omega, by go_num, rfl, K4⟩
                  case measure => simp [intOf]; omega
              · obtain ⟨cv, hcv⟩ : ∃ cv, cnt4 (tru v j) = cv := ⟨_, rfl⟩
                have HCV := Lib.hid hcv
                by_cases hc : cv = k
                · have hb : ((cv : Int) == (k : Int)) = true := by rw [beq_iff_eq]; omega
                  have HC := Lib.hid hc
                  clear hcv hc
                  go_wp2_with (first
                    | (go_at_call 13; refine (vo_yes HV.out hjk n4).mono ?_; rw [HCV.out, if_pos HC.out]; rintro e w4 ⟨rfl, h4⟩; unfold two; have K4 := Lib.hid h4; have hlk := h4.1.look hj4; clear h4)
                    | (at_mapUpdate; obtain ⟨D, hD, hD2⟩ := K4.out.1; refine wpList_mapUpdate_own _ rfl _ _ _ 43 rfl 5 4 law5 Try.underlying43 tok mb i D rfl hD (by unfold maxLen; omega) _ _ _ rfl rfl (key5 hj4) _ [] rfl ?_; intro w5 hown hgrow; have K5 := Lib.hid (K4.out.2.1 w5 (hgrow.block tb (World.block_lt_of_cell? w4 ⟨tb, 0, none⟩ (cells3 K4.out.2.2).1) (fun e => HV.out.ne (Option.some.inj e))) (.of_grown hgrow (fun k e => by cases e; rfl)) (MapB.stored hj4 hD hD2 hown)); clear hown hgrow hD hD2)
                    | (at_len; obtain ⟨D, hD, _, hD3⟩ := K5.out.map; refine wpList_len_own _ rfl _ 43 rfl 5 4 Try.underlying43 tok mb (i + 1) D rfl hD ?_; rw [hD3, HCV.out]; clear hD hD3))
                  go_roundw
                  case rel => exact ⟨i + 1, false, tru v j, by omega, by omega, by go_num, rfl, K5⟩
                  case measure => simp [intOf]; omega
                · have hb : ((cv : Int) == (k : Int)) = false := by rw [beq_eq_false_iff_ne]; omega
                  have HC := Lib.hid hc
                  clear hcv hc
                  go_wp2_with (first
                    | (go_at_call 13; refine (vo_yes HV.out hjk n4).mono ?_; rw [HCV.out, if_neg HC.out]; rintro e w4 ⟨rfl, h4⟩; unfold two; have K4 := Lib.hid h4; have hlk := h4.1.look hj4; clear h4)
                    | (at_mapUpdate; obtain ⟨D, hD, hD2⟩ := K4.out.1; refine wpList_mapUpdate_own _ rfl _ _ _ 43 rfl 5 4 law5 Try.underlying43 tok mb i D rfl hD (by unfold maxLen; omega) _ _ _ rfl rfl (key5 hj4) _ [] rfl ?_; intro w5 hown hgrow; have K5 := Lib.hid (K4.out.2.1 w5 (hgrow.block tb (World.block_lt_of_cell? w4 ⟨tb, 0, none⟩ (cells3 K4.out.2.2).1) (fun e => HV.out.ne (Option.some.inj e))) (.of_grown hgrow (fun k e => by cases e; rfl)) (MapB.stored hj4 hD hD2 hown)); clear hown hgrow hD hD2)
                    | (at_len; obtain ⟨D, hD, _, hD3⟩ := K5.out.map; refine wpList_len_own _ rfl _ 43 rfl 5 4 Try.underlying43 tok mb (i + 1) D rfl hD ?_; rw [hD3, HCV.out]; clear hD hD3))
                  go_roundw
                  case rel => exact ⟨i + 1, false, tru v j, by omega, by omega, by go_num, rfl, K5⟩
                  case measure => simp [intOf]; omega
            · obtain ⟨vj, hvj⟩ : ∃ vj, v j = vj := ⟨_, rfl⟩
              have HVJ := Lib.hid hvj
              have hqq : (y && v j) = (y && vj) := by rw [hvj]
              have HQQ := Lib.hid hqq
              clear hvj hqq
              cases y
              · go_wp2_with (first
                  | (go_at_call 13; refine (vo_late HV.out hjk n4 _ _ HQQ.out).mono ?_; rw [Bool.false_and, if_neg (by decide)]; rintro e w4 ⟨rfl, h4⟩; unfold two; have K4 := Lib.hid h4; clear h4))
                go_roundw
                case rel => exact ⟨i + 1, true, v, by omega, by omega, by go_num, rfl, K4⟩
                case measure => simp [intOf]; omega
              · cases vj
                · go_wp2_with (first
                    | (go_at_call 13; refine (vo_late HV.out hjk n4 _ _ HQQ.out).mono ?_; rw [Bool.and_false, if_neg (by decide)]; rintro e w4 ⟨rfl, h4⟩; unfold two; have K4 := Lib.hid h4; have hlk := h4.map.look hj4; rw [HVJ.out] at hlk; clear h4))
                  go_roundw
                  case rel => exact ⟨i + 1, true, v, by omega, by omega, by go_num, rfl, K4⟩
                  case measure => simp [intOf]; omega
                · go_wp2_with (first
                    | (go_at_call 13; refine (vo_late HV.out hjk n4 _ _ HQQ.out).mono ?_; rw [Bool.and_true, if_pos rfl]; rintro e w4 ⟨rfl, h4⟩; unfold two; have K4 := Lib.hid h4; have hlk := h4.map.look hj4; rw [HVJ.out] at hlk; clear h4))
                  go_roundw
                  case rel => exact ⟨i + 1, true, v, by omega, by omega, by go_num, rfl, K4⟩
                  case measure => simp [intOf]; omega
          · skip
            obtain ⟨c0, c1, c2⟩ := HV.out.cells
            obtain ⟨cv, hcv⟩ : ∃ cv, cnt4 v = cv := ⟨_, rfl⟩
            have HCV := Lib.hid hcv
            by_cases hc : cv = k
            · have hb : ((cv : Int) == (k : Int)) = true := by rw [beq_iff_eq]; omega
              have hq : (decide (cnt4 v = k) && !r) = !r := by rw [hcv, decide_eq_true hc, Bool.true_and]
              have HQQ := Lib.hid hq
              clear hcv hq hc
              cases r
              all_goals
                go_wp2_with (first
                  | (go_at_call 14; refine (vo_commit HV.out (by omega) n4 HQQ.out).mono ?_; rintro e w4 ⟨rfl, hb4, hm4⟩; have K4 := Lib.hid (And.intro hb4 hm4); clear hb4 hm4; simp only [Bool.not_false, Bool.not_true, if_true, Bool.false_eq_true, if_false])
                  | (at_len; obtain ⟨D, hD, _, hD3⟩ := K4.out.2; refine wpList_len_own _ rfl _ 43 rfl 5 4 Try.underlying43 tok mb i D rfl hD ?_; rw [hD3, HCV.out]; clear hD hD3))
                go_ret
                exact ⟨rfl, K4.out.1⟩
            · have hb : ((cv : Int) == (k : Int)) = false := by rw [beq_eq_false_iff_ne]; omega
              have hq : (decide (cnt4 v = k) && !r) = false := by rw [hcv, decide_eq_false hc, Bool.false_and]
              have HQQ := Lib.hid hq
              clear hcv hq hc
              go_wp2_with (first
                | (go_at_call 14; refine (vo_commit HV.out (by omega) n4 HQQ.out).mono ?_; rintro e w4 ⟨rfl, hb4, hm4⟩; have K4 := Lib.hid (And.intro hb4 hm4); clear hb4 hm4; simp only [Bool.false_eq_true, if_false])
                | (at_len; obtain ⟨D, hD, _, hD3⟩ := K4.out.2; refine wpList_len_own _ rfl _ 43 rfl 5 4 Try.underlying43 tok mb i D rfl hD ?_; rw [hD3, HCV.out]; clear hD hD3))
              go_ret
              exact ⟨rfl, K4.out.1⟩
        · obtain rfl : i = l := by omega
          obtain ⟨c0, c1, c2⟩ := HV.out.cells
          obtain ⟨cv, hcv⟩ : ∃ cv, cnt4 v = cv := ⟨_, rfl⟩
          have HCV := Lib.hid hcv
          by_cases hc : cv = k
          · have hb : ((cv : Int) == (k : Int)) = true := by rw [beq_iff_eq]; omega
            have hq : (decide (cnt4 v = k) && !r) = !r := by rw [hcv, decide_eq_true hc, Bool.true_and]
            have HQQ := Lib.hid hq
            clear hcv hq hc
            cases r
            all_goals
              go_wp2_with (first
                | (go_at_call 14; refine (vo_commit HV.out (by omega) n4 HQQ.out).mono ?_; rintro e w4 ⟨rfl, hb4, hm4⟩; have K4 := Lib.hid (And.intro hb4 hm4); clear hb4 hm4; simp only [Bool.not_false, Bool.not_true, if_true, Bool.false_eq_true, if_false])
                | (at_len; obtain ⟨D, hD, _, hD3⟩ := K4.out.2; refine wpList_len_own _ rfl _ 43 rfl 5 4 Try.underlying43 tok mb i D rfl hD ?_; rw [hD3, HCV.out]; clear hD hD3))
              go_ret
              exact ⟨rfl, K4.out.1⟩
          · have hb : ((cv : Int) == (k : Int)) = false := by rw [beq_eq_false_iff_ne]; omega
            have hq : (decide (cnt4 v = k) && !r) = false := by rw [hcv, decide_eq_false hc, Bool.false_and]
            have HQQ := Lib.hid hq
            clear hcv hq hc
            go_wp2_with (first
              | (go_at_call 14; refine (vo_commit HV.out (by omega) n4 HQQ.out).mono ?_; rintro e w4 ⟨rfl, hb4, hm4⟩; have K4 := Lib.hid (And.intro hb4 hm4); clear hb4 hm4; simp only [Bool.false_eq_true, if_false])
              | (at_len; obtain ⟨D, hD, _, hD3⟩ := K4.out.2; refine wpList_len_own _ rfl _ 43 rfl 5 4 Try.underlying43 tok mb i D rfl hD ?_; rw [hD3, HCV.out]; clear hD hD3))
            go_ret
            exact ⟨rfl, K4.out.1⟩
end Go.Proofs.Ytklalpamcfkngaa.Cm
