/- commit: CommitApart, walked. -/
import Derived.Test.YtklalpamcfkngaaH1
namespace Go.Proofs.Ytklalpamcfkngaa.Cm
open Go Go.RowKit
theorem pair_hasT {X : (Nat → Prop) → World → Prop} {w0 w : World} {n p q n' p' q' : Nat} {RM RM' : TK → Option RunM} {T T' : TK → Option Int} {Y : Nat → Prop} {b tb : Nat} {o z : Obj}
    (h : Pair (PX (XA b o (XA tb z X)) w0 n' p' q' RM' T') w0 n p q RM T Y w) : w.heap[tb]? = some z := by
  obtain ⟨F1, F2, G, S, TT, h1, h2, h3, ⟨A1, A2, H, S2, T2, k1, k2, k3, ⟨J, ⟨I, i1, i2, i3, i4⟩, j2, j3, j4⟩, k5, k6, k7⟩, _⟩ := h
  exact i3
theorem pairs_new {w0 w3 : World} {p p' tb : Nat} {o : Obj} {Fa Fb : Nat → Prop} (hb : Below w0.heap.size w0 w3) (ha : Bk w3 w0.heap.size 0 Fa p (fun _ => none) (fun _ => none)) (hc : Bk w3 w0.heap.size 0 Fb p' (fun _ => none) (fun _ => none))
    (hd : ∀ k, Fa k → ¬ Fb k) (ht : w3.heap[tb]? = some o) (ta : ¬ Fa tb) (tc : ¬ Fb tb) :
    Pair (PX (XA tb o X0) w0 0 p' (w3.heap.size + 1) (fun _ => none) (fun _ => none)) w0 0 p w3.heap.size (fun _ => none) (fun _ => none) (fun _ => False) ((w3.alloc (.cells #[.slice none 0 0, .slice none 0 0] 30)).alloc (.cells #[.slice none 0 0, .slice none 0 0] 30)) := by
  have b1 : Below w3.heap.size w3 (w3.alloc (.cells #[.slice none 0 0, .slice none 0 0] 30)) := (Below.refl _ w3).alloc (Nat.le_refl _) _
  have b2 : Below (w3.heap.size + 1) (w3.alloc (.cells #[.slice none 0 0, .slice none 0 0] 30)) ((w3.alloc (.cells #[.slice none 0 0, .slice none 0 0] 30)).alloc (.cells #[.slice none 0 0, .slice none 0 0] 30)) := (Below.refl _ _).alloc (by simp) _
  have ba := b1.trans (b2.mono (by omega))
  have e1 := (b2.block w3.heap.size (by omega)).trans (heap_alloc_new w3 (.cells #[.slice none 0 0, .slice none 0 0] 30))
  have e2 := heap_alloc_new (w3.alloc (.cells #[.slice none 0 0, .slice none 0 0] 30)) (.cells #[.slice none 0 0, .slice none 0 0] 30)
  rw [World.size_alloc] at e2
  have hs := hb.size
  have la := (bk_hi ha).2.1
  have lc := (bk_hi hc).2.1
  have lt := (Array.getElem?_eq_some_iff.1 ht).1
  have ss : ∀ n, SSd n (fun _ => none) (fun _ => none) [] [] := fun n => ⟨rfl, rfl, fun e he => (by cases he), ⟨List.Pairwise.nil, fun e he => (by cases he), fun e he => (by cases he)⟩, Nat.zero_le _, Nat.zero_le _⟩
  refine ⟨Fa, fun k => k = w3.heap.size, fun k => Fb k ∨ k = w3.heap.size + 1 ∨ k = tb, [], [], ha.below ba, refat_empty e1 hs, ss 0, ⟨Fb, fun k => k = w3.heap.size + 1, fun k => k = tb, [], [], hc.below ba, refat_empty e2 (by omega), ss 0, ⟨fun _ => False, fun _ => id, id, (ba.block tb lt).trans ht, fun k => by simp⟩, fun k hk => ⟨fun e => ?_, fun e => ?_⟩, fun k hk e => ?_, fun _ => Iff.rfl⟩, hb.trans (ba.mono hs), fun k hk => ⟨fun e => ?_, ?_⟩, fun k hk => ?_, fun k hk => hk.elim⟩
  · have := lc k hk; omega
  · subst e; exact tc hk
  · omega
  · have := la k hk; omega
  · rintro (e | e | e)
    · exact hd k hk e
    · have := la k hk; omega
    · subst e; exact ta hk
  · rintro (e | e | e)
    · have := lc k e; omega
    · omega
    · omega
/-- Both pairs, and that they say one thing of t. -/
def ApI (w0 : World) (tb : Nat) (t : TK) (p q p' q' k : Nat) (w : World) : Prop :=
  ∃ RM T RM' T' k', Pair (PX (XA tb (.cells #[.int .u8 t.1, .int .u32 t.2.1, .int .u32 t.2.2] 33 (0, 0)) X0) w0 k' p' q' RM' T') w0 k p q RM T (fun _ => False) w ∧ k' ≤ k ∧ RM' t = RM t ∧ T' t = T t
theorem op_at (o : OpI) (RM RM' : TK → Option RunM) (h : RM' o.t = RM o.t) : o.R RM' o.t = o.R RM o.t := by
  unfold OpI.R stepR beginS beginE voteS commitS applS updR
  rw [h]
  cases hq : RM o.t <;> rw [hq] at h <;> simp only <;> (repeat' split) <;> simp_all
theorem op_else (o : OpI) (RM : TK → Option RunM) {t : TK} (h : t ≠ o.t) : o.R RM t = RM t := by
  unfold OpI.R stepR beginS voteS commitS applS updR
  cases hq : RM o.t <;> simp only <;> (repeat' split) <;> simp_all
theorem opT_at (o : OpI) (T T' : TK → Option Int) (h : T' o.t = T o.t) : o.T T' o.t = o.T T o.t := by
  unfold OpI.T stepT takeS settleT settleE updT
  rw [h]
  (repeat' split) <;> simp_all
theorem opT_else (o : OpI) (T : TK → Option Int) {t : TK} (h : t ≠ o.t) : o.T T t = T t := by
  unfold OpI.T stepT takeS settleT updT
  (repeat' split) <;> simp_all
theorem ap_tells {w0 w : World} {tb : Nat} {t : TK} {p q p' q' k : Nat} (ht : InK t) (h : ApI w0 tb t p q p' q' k w) : ∃ (LO : List Int) (ru st : Int), LO.length ≤ 4 ∧ (w.heap[tb]? = some (.cells #[.int .u8 t.1, .int .u32 t.2.1, .int .u32 t.2.2] 33 (0, 0)) ∧ Below w0.heap.size w0 w) ∧ ∀ w1, Below w.heap.size w w1 →
    (Calls Try.prog 10 #[.pointer (some ⟨p, 0, none⟩), .agg #[.int .u8 t.1, .int .u32 t.2.1, .int .u32 t.2.2]] w1 fun e w' => e = .returned (.int .i64 ru) ∧ Below w1.heap.size w1 w') ∧ (Calls Try.prog 10 #[.pointer (some ⟨p', 0, none⟩), .agg #[.int .u8 t.1, .int .u32 t.2.1, .int .u32 t.2.2]] w1 fun e w' => e = .returned (.int .i64 ru) ∧ Below w1.heap.size w1 w')
    ∧ (Calls Try.prog 11 #[.pointer (some ⟨p, 0, none⟩), .agg #[.int .u8 t.1, .int .u32 t.2.1, .int .u32 t.2.2]] w1 fun e w' => e = .returned (.int .i64 st) ∧ Below w1.heap.size w1 w') ∧ (Calls Try.prog 11 #[.pointer (some ⟨p', 0, none⟩), .agg #[.int .u8 t.1, .int .u32 t.2.1, .int .u32 t.2.2]] w1 fun e w' => e = .returned (.int .i64 st) ∧ Below w1.heap.size w1 w')
    ∧ (Calls Try.prog 16 #[.pointer (some ⟨p, 0, none⟩), .agg #[.int .u8 t.1, .int .u32 t.2.1, .int .u32 t.2.2]] w1 fun e w' => OwR w1 LO e w') ∧ (Calls Try.prog 16 #[.pointer (some ⟨p', 0, none⟩), .agg #[.int .u8 t.1, .int .u32 t.2.1, .int .u32 t.2.2]] w1 fun e w' => OwR w1 LO e w') := by
  obtain ⟨RM, T, RM', T', k', hp, hk, e1, e2⟩ := h
  obtain ⟨F, hF⟩ := pair_bk hp
  obtain ⟨F', hF'⟩ := pair_bk (pair_swap hp)
  refine ⟨owL (RM t), stR (RM t), stT (T t), owL_len _, ⟨pair_has2 hp, pair_ahead hp⟩, fun w1 hb => ⟨runs_any (hF.below hb) ht, ?_, stands_any (hF.below hb) ht, ?_, owing_any (hF.below hb) ht, ?_⟩⟩
  · rw [← e1]; exact runs_any (hF'.below hb) ht
  · rw [← e2]; exact stands_any (hF'.below hb) ht
  · rw [← e1]; exact owing_any (hF'.below hb) ht
theorem k_cells {w : World} {b : Nat} {x y z : Value} {T : TypeId} (h : w.heap[b]? = some (.cells #[x, y, z] T (0, 0))) : w.cell? ⟨b, 0, none⟩ = some x ∧ w.cell? ⟨b, 1, none⟩ = some y ∧ w.cell? ⟨b, 2, none⟩ = some z := by
  simp [World.cell?, h]
set_option maxRecDepth 100000 in
set_option maxHeartbeats 8000000 in
theorem apart_law (so : Option Addr) (N c : Nat) (Os : List OpI) (t : TK) (w : World) (hl : Os.length = N) (hr : RdO w so Os) (hok : ∀ o ∈ Os, OkI w o) (ht : InK t) :
    Calls Try.prog 6 #[.slice so N c, .agg #[.int .u8 t.1, .int .u32 t.2.1, .int .u32 t.2.2]] w fun e w' => e = .returned (.bool true) ∧ Below w.heap.size w w' := by
  have HI := Lib.hid (And.intro hl (And.intro hr (And.intro hok ht)))
  have hbt : Below w.heap.size w (w.alloc (.cells #[.int .u8 t.1, .int .u32 t.2.1, .int .u32 t.2.2] 33)) := (Below.refl _ w).alloc (Nat.le_refl _) _
  have H0 := Lib.hid (And.intro hbt (And.intro (heap_alloc_new w (.cells #[.int .u8 t.1, .int .u32 t.2.1, .int .u32 t.2.2] 33)) (show w.heap.size < (w.alloc (.cells #[.int .u8 t.1, .int .u32 t.2.1, .int .u32 t.2.2] 33)).heap.size by simp)))
  have hg := guard33
  have he := eql33
  clear hl hr hok ht hbt
  go_enter Try.func6, Try.ntmps6
  go_wp2_with (first
    | (have hh := H2; clear hh; go_at_call 8; refine (new_any w.heap.size _ H2.out.2.1.size).mono ?_; rintro e w3 ⟨rfl, hk, hb⟩; have H3 := Lib.hid (And.intro (H2.out.1.below hb) (And.intro hk (And.intro (H2.out.2.1.trans (hb.mono H2.out.2.1.size)) ((hb.block w.heap.size H2.out.2.2.1).trans H2.out.2.2.2.1)))); have HS := Lib.hid H2.out.2.2.2.2; clear hk hb)
    | (have hh := H1; clear hh; go_at_call 8; refine (new_any w.heap.size _ H1.out.1.size).mono ?_; rintro e w2 ⟨rfl, hk, hb⟩; have H2 := Lib.hid (And.intro hk (And.intro (H1.out.1.trans (hb.mono H1.out.1.size)) (And.intro (Nat.lt_of_lt_of_le H1.out.2.1 hb.size) (And.intro ((hb.block w.heap.size H1.out.2.1).trans H1.out.2.2) (And.intro H1.out.2.1 ((bk_hi hk).2.1 _ ⟨by omega, Nat.lt_succ_self _⟩)))))); clear hk hb)
    | (go_at_call 7; refine (awake_any _).mono ?_; rintro e w1 ⟨rfl, hb⟩; have H1 := Lib.hid (And.intro (H0.out.1.trans (hb.mono H0.out.1.size)) (And.intro (Nat.lt_of_lt_of_le H0.out.2.2 hb.size) ((hb.block w.heap.size H0.out.2.2).trans H0.out.2.1))); clear hb))
  have H4 := Lib.hid (show ApI w w.heap.size t (w1.heap.size + 2) w3.heap.size (w2.heap.size + 2) (w3.heap.size + 1) 0 ((w3.alloc (.cells #[.slice none 0 0, .slice none 0 0] 30)).alloc (.cells #[.slice none 0 0, .slice none 0 0] 30)) from ⟨_, _, _, _, 0, pairs_new H3.out.2.2.1 H3.out.1 H3.out.2.1 (fun k h1 h2 => by have := HS.out.2; omega) H3.out.2.2.2 (fun e => by have := HS.out.1; omega) (fun e => by have h1 := HS.out.1; have h2 := HS.out.2; omega), Nat.le_refl _, rfl, rfl⟩)
  clear H0 H1 H2 H3 HS
  generalize (w3.alloc (.cells #[.slice none 0 0, .slice none 0 0] 30)).alloc (.cells #[.slice none 0 0, .slice none 0 0] 30) = W at H4 ⊢
  generalize w3.heap.size + 1 = q' at H4 ⊢
  generalize w3.heap.size = q at H4 ⊢
  generalize w2.heap.size + 2 = p' at H4 ⊢
  generalize w1.heap.size + 2 = p at H4 ⊢
  go_loopw [21] (fun iv wr => ∃ k : Nat, k ≤ N ∧ k ≤ 80 ∧ iv = .int .i64 k ∧ Hid (ApI w w.heap.size t p q p' q' k wr)) (fun i _ => N - (intOf i).toNat)
  case atStart => exact ⟨0, Nat.zero_le _, Nat.zero_le _, rfl, H4⟩
  case round =>
    obtain ⟨k, hk, h80, rfl, HR⟩ := hrel
    clear H4
    by_cases hlt : k < N
    · obtain ⟨o, ho⟩ : ∃ o, Os[k]? = some o := ⟨_, List.getElem?_eq_getElem (by rw [HI.out.1]; exact hlt)⟩
      by_cases h1 : k < 80
      · obtain ⟨RM, T, RM', T', k', hp, hk', e1, e2⟩ := HR.out
        obtain ⟨b, off, rfl, c0, c1, c2, c3, c4, c5, c6, c7⟩ := (HI.out.2.1.on (pair_ahead hp) (Nat.le_refl _)).at ho
        have HO := Lib.hid (HI.out.2.2.1 o (List.mem_of_getElem? ho))
        have HP := Lib.hid (pair_box2 (ext_xa ext_x0) hp #[.int .u8 o.kd, .int .u8 o.t.1, .int .u32 o.t.2.1, .int .u32 o.t.2.2, .slice o.ao o.n o.c, .int .u8 o.x, .bool o.yes, .int .i64 o.nn] 36)
        have HE := Lib.hid (And.intro e1 e2)
        have b1 : decide ((80 : Int) ≤ (k : Int)) = false := by simp; omega
        clear ho hp e1 e2 HR
        by_cases hq : o.t = t
        · have hqq : (o.t.1 == t.1 && (o.t.2.1 == t.2.1 && o.t.2.2 == t.2.2)) = true := by subst hq; simp
          have HQ := Lib.hid hq
          clear hq
          go_wp2_with (first
            | (have hh := K3; clear hh; go_at_call 9; refine (play_pair (ext_px (ext_xa (ext_xa ext_x0))) o HO.out (by omega) (pair_swap K3.out)).mono ?_; rintro e w4 ⟨rfl, hz, _⟩; have K4 := Lib.hid hz; clear hz)
            | (go_at_call 9; refine (play_pair (ext_px (ext_xa (ext_xa ext_x0))) o HO.out (by omega) HP.out).mono ?_; rintro e w3 ⟨rfl, hz, _⟩; have K3 := Lib.hid hz; obtain ⟨d0, d1, d2, d3, d4, d5, d6, d7⟩ := ob_cells (pair_has2 hz); obtain ⟨t0, t1, t2⟩ := k_cells (pair_hasT hz); clear hz))
          have HN := Lib.hid (show ApI w w.heap.size t p q p' q' (k + 1) w4 from ⟨_, _, _, _, k' + 1, pair_out2 (pair_swap K4.out), by omega, by have := HQ.out; subst this; exact op_at o RM RM' HE.out.1, by have := HQ.out; subst this; exact opT_at o T T' HE.out.2⟩)
          go_roundw
          case rel => exact ⟨k + 1, by omega, by omega, by go_num, HN⟩
          case measure => simp [intOf]; omega
        · have hqq : (o.t.1 == t.1 && (o.t.2.1 == t.2.1 && o.t.2.2 == t.2.2)) = false := by have := eqK_ne hq; unfold eqK at this; exact this
          have HQ := Lib.hid (fun e : t = o.t => hq e.symm)
          clear hq
          go_wp2_with (go_at_call 9; refine (play_pair (ext_px (ext_xa (ext_xa ext_x0))) o HO.out (by omega) HP.out).mono ?_; rintro e w3 ⟨rfl, hz, _⟩; have K3 := Lib.hid hz; obtain ⟨d0, d1, d2, d3, d4, d5, d6, d7⟩ := ob_cells (pair_has2 hz); obtain ⟨t0, t1, t2⟩ := k_cells (pair_hasT hz); clear hz)
          have HN := Lib.hid (show ApI w w.heap.size t p q p' q' (k + 1) w3 from ⟨_, _, _, _, k', pair_out2 K3.out, by omega, by rw [op_else o RM HQ.out]; exact HE.out.1, by rw [opT_else o T HQ.out]; exact HE.out.2⟩)
          go_roundw
          case rel => exact ⟨k + 1, by omega, by omega, by go_num, HN⟩
          case measure => simp [intOf]; omega
      · have b1 : decide ((80 : Int) ≤ (k : Int)) = true := by simp; omega
        have HAP := HR
        obtain ⟨LO, ru, st, hlo, ⟨hte, hah⟩, hts⟩ := ap_tells HI.out.2.2.2 HAP.out
        obtain ⟨nO, hnO⟩ : ∃ k, LO.length = k := ⟨_, rfl⟩
        rw [hnO] at hlo
        have TS := Lib.hid hts
        have HO := Lib.hid hnO
        have HTE := Lib.hid hte
        have HTB := Lib.hid (Array.getElem?_eq_some_iff.1 hte).1
        have HAH := Lib.hid hah
        clear hts hnO hte hah
        obtain ⟨RM, T, RM', T', k', hp, _⟩ := HR.out
        obtain ⟨b, off, rfl, c0, c1, c2, c3, c4, c5, c6, c7⟩ := (HI.out.2.1.on (pair_ahead hp) (Nat.le_refl _)).at ho
        clear ho hp HR
        go_upto_region 12 with fail
        have P0 := Lib.hid (show Below wr.heap.size wr (wr.alloc (.cells #[.int .u8 o.kd, .int .u8 o.t.1, .int .u32 o.t.2.1, .int .u32 o.t.2.2, .slice o.ao o.n o.c, .int .u8 o.x, .bool o.yes, .int .i64 o.nn] 36)) from (Below.refl _ wr).alloc (Nat.le_refl _) _)
        have Q0 := Lib.hid (P0.out.drew)
        obtain ⟨P00, P01, P02⟩ := k_cells ((P0.out.block w.heap.size HTB.out).trans HTE.out)
        go_region_held3 (fun w' => w'.cell? ⟨w.heap.size, 0, none⟩ = some (.int .u8 t.1) ∧ w'.cell? ⟨w.heap.size, 1, none⟩ = some (.int .u32 t.2.1) ∧ w'.cell? ⟨w.heap.size, 2, none⟩ = some (.int .u32 t.2.2)) (first | exact ⟨P00, P01, P02⟩ | exact ⟨P10, P11, P12⟩ | exact ⟨P20, P21, P22⟩ | exact ⟨P30, P31, P32⟩ | exact ⟨P40, P41, P42⟩ | exact ⟨P50, P51, P52⟩ | exact ⟨P60, P61, P62⟩ | exact ⟨P70, P71, P72⟩)
          (first
            | (have hh := P6; clear hh; go_at_call 15; refine (same_any lo5 lo6 nO co5 co6 LO _ HO.out (by omega) (rd_row (own_on R5.out (fun k hk => R56.out.block k (World.ownsRow.lt R5.out k hk).2))) (rd_row R6.out)).mono ?_; rintro e x7 ⟨rfl, hb⟩; have P7 := Lib.hid (P6.out.trans (hb.mono P6.out.size)); obtain ⟨P70, P71, P72⟩ := k_cells ((P7.out.block w.heap.size HTB.out).trans HTE.out); clear hb)
            | (have hh := P5; clear hh; go_at_call 16; refine ((TS.out _ P5.out).2.2.2.2.2).mono ?_; intro e x6 he; obtain ⟨lo6, co6, rfl, hd, hb⟩ := OwR.open HO.out he; have P6 := Lib.hid (P5.out.trans (hb.mono P5.out.size)); have R6 := Lib.hid hd; have R56 := Lib.hid hb; obtain ⟨P60, P61, P62⟩ := k_cells ((P6.out.block w.heap.size HTB.out).trans HTE.out); clear hb hd he)
            | (have hh := P4; clear hh; go_at_call 16; refine ((TS.out _ P4.out).2.2.2.2.1).mono ?_; intro e x5 he; obtain ⟨lo5, co5, rfl, hd, hb⟩ := OwR.open HO.out he; have P5 := Lib.hid (P4.out.trans (hb.mono P4.out.size)); have R5 := Lib.hid hd; obtain ⟨P50, P51, P52⟩ := k_cells ((P5.out.block w.heap.size HTB.out).trans HTE.out); clear hb hd he)
            | (have hh := P3; clear hh; go_at_call 11; refine ((TS.out _ P3.out).2.2.2.1).mono ?_; rintro e x4 ⟨rfl, hb⟩; have P4 := Lib.hid (P3.out.trans (hb.mono P3.out.size)); obtain ⟨P40, P41, P42⟩ := k_cells ((P4.out.block w.heap.size HTB.out).trans HTE.out); clear hb)
            | (have hh := P2; clear hh; go_at_call 11; refine ((TS.out _ P2.out).2.2.1).mono ?_; rintro e x3 ⟨rfl, hb⟩; have P3 := Lib.hid (P2.out.trans (hb.mono P2.out.size)); obtain ⟨P30, P31, P32⟩ := k_cells ((P3.out.block w.heap.size HTB.out).trans HTE.out); clear hb)
            | (have hh := P1; clear hh; go_at_call 10; refine ((TS.out _ P1.out).2.1).mono ?_; rintro e x2 ⟨rfl, hb⟩; have P2 := Lib.hid (P1.out.trans (hb.mono P1.out.size)); obtain ⟨P20, P21, P22⟩ := k_cells ((P2.out.block w.heap.size HTB.out).trans HTE.out); clear hb)
            | (go_at_call 10; refine ((TS.out _ Q0.out).1).mono ?_; rintro e x1 ⟨rfl, hb⟩; have P1 := Lib.hid (Q0.out.trans (hb.mono Q0.out.size)); obtain ⟨P10, P11, P12⟩ := k_cells ((P1.out.block w.heap.size HTB.out).trans HTE.out); clear hb))
        go_wp2_with fail
        go_ret
        exact ⟨rfl, (HAH.out.trans (P7.out.mono HAH.out.size))⟩
    · have HAP := HR
      obtain ⟨LO, ru, st, hlo, ⟨hte, hah⟩, hts⟩ := ap_tells HI.out.2.2.2 HAP.out
      obtain ⟨nO, hnO⟩ : ∃ k, LO.length = k := ⟨_, rfl⟩
      rw [hnO] at hlo
      have TS := Lib.hid hts
      have HO := Lib.hid hnO
      have HTE := Lib.hid hte
      have HTB := Lib.hid (Array.getElem?_eq_some_iff.1 hte).1
      have HAH := Lib.hid hah
      clear hts hnO hte hah
      clear HR
      go_upto_region 12 with fail
      have P0 := Lib.hid (Below.refl wr.heap.size wr)
      have Q0 := Lib.hid (P0.out.drew)
      obtain ⟨P00, P01, P02⟩ := k_cells ((P0.out.block w.heap.size HTB.out).trans HTE.out)
      go_region_held3 (fun w' => w'.cell? ⟨w.heap.size, 0, none⟩ = some (.int .u8 t.1) ∧ w'.cell? ⟨w.heap.size, 1, none⟩ = some (.int .u32 t.2.1) ∧ w'.cell? ⟨w.heap.size, 2, none⟩ = some (.int .u32 t.2.2)) (first | exact ⟨P00, P01, P02⟩ | exact ⟨P10, P11, P12⟩ | exact ⟨P20, P21, P22⟩ | exact ⟨P30, P31, P32⟩ | exact ⟨P40, P41, P42⟩ | exact ⟨P50, P51, P52⟩ | exact ⟨P60, P61, P62⟩ | exact ⟨P70, P71, P72⟩)
        (first
          | (have hh := P6; clear hh; go_at_call 15; refine (same_any lo5 lo6 nO co5 co6 LO _ HO.out (by omega) (rd_row (own_on R5.out (fun k hk => R56.out.block k (World.ownsRow.lt R5.out k hk).2))) (rd_row R6.out)).mono ?_; rintro e x7 ⟨rfl, hb⟩; have P7 := Lib.hid (P6.out.trans (hb.mono P6.out.size)); obtain ⟨P70, P71, P72⟩ := k_cells ((P7.out.block w.heap.size HTB.out).trans HTE.out); clear hb)
          | (have hh := P5; clear hh; go_at_call 16; refine ((TS.out _ P5.out).2.2.2.2.2).mono ?_; intro e x6 he; obtain ⟨lo6, co6, rfl, hd, hb⟩ := OwR.open HO.out he; have P6 := Lib.hid (P5.out.trans (hb.mono P5.out.size)); have R6 := Lib.hid hd; have R56 := Lib.hid hb; obtain ⟨P60, P61, P62⟩ := k_cells ((P6.out.block w.heap.size HTB.out).trans HTE.out); clear hb hd he)
          | (have hh := P4; clear hh; go_at_call 16; refine ((TS.out _ P4.out).2.2.2.2.1).mono ?_; intro e x5 he; obtain ⟨lo5, co5, rfl, hd, hb⟩ := OwR.open HO.out he; have P5 := Lib.hid (P4.out.trans (hb.mono P4.out.size)); have R5 := Lib.hid hd; obtain ⟨P50, P51, P52⟩ := k_cells ((P5.out.block w.heap.size HTB.out).trans HTE.out); clear hb hd he)
          | (have hh := P3; clear hh; go_at_call 11; refine ((TS.out _ P3.out).2.2.2.1).mono ?_; rintro e x4 ⟨rfl, hb⟩; have P4 := Lib.hid (P3.out.trans (hb.mono P3.out.size)); obtain ⟨P40, P41, P42⟩ := k_cells ((P4.out.block w.heap.size HTB.out).trans HTE.out); clear hb)
          | (have hh := P2; clear hh; go_at_call 11; refine ((TS.out _ P2.out).2.2.1).mono ?_; rintro e x3 ⟨rfl, hb⟩; have P3 := Lib.hid (P2.out.trans (hb.mono P2.out.size)); obtain ⟨P30, P31, P32⟩ := k_cells ((P3.out.block w.heap.size HTB.out).trans HTE.out); clear hb)
          | (have hh := P1; clear hh; go_at_call 10; refine ((TS.out _ P1.out).2.1).mono ?_; rintro e x2 ⟨rfl, hb⟩; have P2 := Lib.hid (P1.out.trans (hb.mono P1.out.size)); obtain ⟨P20, P21, P22⟩ := k_cells ((P2.out.block w.heap.size HTB.out).trans HTE.out); clear hb)
          | (go_at_call 10; refine ((TS.out _ Q0.out).1).mono ?_; rintro e x1 ⟨rfl, hb⟩; have P1 := Lib.hid (Q0.out.trans (hb.mono Q0.out.size)); obtain ⟨P10, P11, P12⟩ := k_cells ((P1.out.block w.heap.size HTB.out).trans HTE.out); clear hb))
      go_wp2_with fail
      go_ret
      exact ⟨rfl, (HAH.out.trans (P7.out.mono HAH.out.size))⟩
end Go.Proofs.Ytklalpamcfkngaa.Cm
