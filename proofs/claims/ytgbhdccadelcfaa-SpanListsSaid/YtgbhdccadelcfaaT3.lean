/- span: the document's example, walked. -/
import Derived.Test.YtgbhdccadelcfaaT2
namespace Go.Proofs.Ytgbhdccadelcfaa.Sp
open Go Go.RowKit
/-- Two sets with the same numbers are one. -/
theorem canon_ext {L M : SL} (hL : Canon L) (hM : Canon M) (h : ∀ n, mem L n ↔ mem M n) : L = M := by
  induction L generalizing M with
  | nil =>
    cases M with
    | nil => rfl
    | cons t M =>
      have := hM.2 t List.mem_cons_self
      exact absurd ((h t.1).2 ((mem_cons t M _).2 (.inl ⟨Int.le_refl _, this.2.1⟩))) (mem_nil _)
  | cons s L ih =>
    cases M with
    | nil =>
      have := hL.2 s List.mem_cons_self
      exact absurd ((h s.1).1 ((mem_cons s L _).2 (.inl ⟨Int.le_refl _, this.2.1⟩))) (mem_nil _)
    | cons t M =>
      have s0 := hL.2 s List.mem_cons_self
      have t0 := hM.2 t List.mem_cons_self
      have sL : ∀ u ∈ L, s.2 + 1 < u.1 := fun u hu => canon_cut hL 1 s (by simp) u (by simpa using hu)
      have tM : ∀ u ∈ M, t.2 + 1 < u.1 := fun u hu => canon_cut hM 1 t (by simp) u (by simpa using hu)
      have a1 : s.1 = t.1 := by
        have k1 := (h s.1).1 ((mem_cons s L _).2 (.inl ⟨Int.le_refl _, s0.2.1⟩))
        have k2 := (h t.1).2 ((mem_cons t M _).2 (.inl ⟨Int.le_refl _, t0.2.1⟩))
        rw [mem_cons] at k1 k2
        have j1 : t.1 ≤ s.1 := by
          rcases k1 with k | ⟨u, hu, k⟩
          · omega
          · have := tM u hu; omega
        have j2 : s.1 ≤ t.1 := by
          rcases k2 with k | ⟨u, hu, k⟩
          · omega
          · have := sL u hu; omega
        omega
      have a2 : s.2 = t.2 := by
        rcases Int.lt_trichotomy s.2 t.2 with hlt | he | hlt
        · have k := (h (s.2 + 1)).2 ((mem_cons t M _).2 (.inl ⟨by omega, by omega⟩))
          rw [mem_cons] at k
          rcases k with k | ⟨u, hu, k⟩
          · omega
          · have := sL u hu; omega
        · exact he
        · have k := (h (t.2 + 1)).1 ((mem_cons s L _).2 (.inl ⟨by omega, by omega⟩))
          rw [mem_cons] at k
          rcases k with k | ⟨u, hu, k⟩
          · omega
          · have := tM u hu; omega
      obtain rfl : s = t := Prod.ext a1 a2
      have e : L = M := ih (M := M) (canon_drop hL 1) (canon_drop hM 1) (fun n => by
        have := h n
        rw [mem_cons, mem_cons] at this
        constructor
        · intro k
          rcases this.1 (.inr k) with k2 | k2
          · obtain ⟨u, hu, k3⟩ := k
            have := sL u hu
            omega
          · exact k2
        · intro k
          rcases this.2 (.inr k) with k2 | k2
          · obtain ⟨u, hu, k3⟩ := k
            have := tM u hu
            omega
          · exact k2)
      rw [e]
theorem mem_one (a b n : Int) : mem [(a, b)] n ↔ a ≤ n ∧ n ≤ b := by
  rw [mem_cons]
  have := mem_nil n
  constructor
  · rintro (h | h)
    · exact h
    · exact absurd h this
  · exact .inl
theorem new_span (w : World) : Calls Try.prog 9 #[] w fun e w' => e = .returned (.pointer (some ⟨w.heap.size, 0, none⟩)) ∧ SpanAt w' w.heap.size (fun k => k = w.heap.size) w.heap.size (.slice none 0 0) [] ∧ Below w.heap.size w w' := by
  refine (new_any w).mono ?_
  rintro e w' ⟨rfl, rfl⟩
  exact ⟨rfl, ⟨⟨heap_alloc_new w _, World.ownsRow_nil _ _ _ _⟩, canon_nil, by simp, rfl, fun g e => by simp [Value.ownBlock] at e, fun k hk => by subst hk; simp, fun k hk => by omega⟩, (Below.refl _ _).alloc (Nat.le_refl _) _⟩
theorem mem_none (n : Int) : mem [] n ↔ False := ⟨mem_nil n, False.elim⟩
/-- A set of the call's own. -/
def SetIs (n0 : Nat) (w0 w : World) (p : Nat) (L : SL) : Prop := ∃ v F, SpanAt w n0 F p v L ∧ Below n0 w0 w
theorem SetIs.below {n0 p : Nat} {w0 w w' : World} {L : SL} (h : SetIs n0 w0 w p L) (hb : Below w.heap.size w w') : SetIs n0 w0 w' p L := by
  obtain ⟨v, F, h1, h2⟩ := h
  exact ⟨v, F, h1.below hb, h2.trans (hb.mono h1.base)⟩
theorem did_is {n0 p : Nat} {w0 w w' : World} {F : Nat → Prop} {M : SL} {v0 : Value} {L : SL} (hs : SpanAt w n0 F p v0 L) (h : Did w n0 F p M w') (hb : Below n0 w0 w) : SetIs n0 w0 w' p M := by
  obtain ⟨v, F', h1, h2, h3⟩ := h
  exact ⟨v, F', h1, hb.trans (h3.below hs.base hs.low)⟩
theorem Did.can {w w' : World} {B p : Nat} {F : Nat → Prop} {M : SL} (h : Did w B F p M w') : Canon M := by
  obtain ⟨v, F', h1, h2, h3⟩ := h
  exact h1.can
theorem is_new (w : World) : Calls Try.prog 9 #[] w fun e w' => e = .returned (.pointer (some ⟨w.heap.size, 0, none⟩)) ∧ SetIs w.heap.size w w' w.heap.size [] := by
  refine (new_span w).mono ?_
  rintro e w' ⟨rfl, h1, h2⟩
  exact ⟨rfl, _, _, h1, h2⟩
theorem is_add {n0 p : Nat} {w0 w : World} {L : SL} (T : SL) (a b : Int) (h : SetIs n0 w0 w p L) (hT : Canon T) (hm : ∀ n, mem T n ↔ mem L n ∨ (a ≤ n ∧ n ≤ b)) (h0 : 0 ≤ a) (hab : a ≤ b) (hb : b ≤ 4294967295) (hL : L.length ≤ 1000) :
    Calls Try.prog 10 #[.pointer (some ⟨p, 0, none⟩), .int .u32 a, .int .u32 b] w fun e w' => e = .returned (.int .i64 0) ∧ SetIs n0 w0 w' p T := by
  obtain ⟨v, F, h1, h2⟩ := h
  refine (add_ok n0 p F v L a b w h1 h0 hab hb hL).mono ?_
  rintro e w' ⟨rfl, M, hM, _, hd⟩
  rw [canon_ext hT hd.can (fun n => (hm n).trans (hM n).symm)]
  exact ⟨rfl, did_is h1 hd h2⟩
theorem is_drop {n0 p : Nat} {w0 w : World} {L : SL} (T : SL) (a b : Int) (h : SetIs n0 w0 w p L) (hT : Canon T) (hm : ∀ n, mem T n ↔ mem L n ∧ ¬ (a ≤ n ∧ n ≤ b)) (h0 : 0 ≤ a) (hab : a ≤ b) (hb : b ≤ 4294967295) (hL : L.length ≤ 1000) :
    Calls Try.prog 11 #[.pointer (some ⟨p, 0, none⟩), .int .u32 a, .int .u32 b] w fun e w' => e = .returned (.int .i64 0) ∧ SetIs n0 w0 w' p T := by
  obtain ⟨v, F, h1, h2⟩ := h
  refine (drop_ok n0 p F v L a b w h1 h0 hab hb hL).mono ?_
  rintro e w' ⟨rfl, M, hM, _, hd⟩
  rw [canon_ext hT hd.can (fun n => (hm n).trans (hM n).symm)]
  exact ⟨rfl, did_is h1 hd h2⟩
theorem is_spans {n0 p : Nat} {w0 w : World} {L : SL} (h : SetIs n0 w0 w p L) (hL : L.length ≤ 1000) :
    Calls Try.prog 13 #[.pointer (some ⟨p, 0, none⟩)] w fun e w' => ∃ ao cap, e = .returned (.slice ao L.length cap) ∧ Rd2 w' ao L ∧ Below w.heap.size w w' := by
  obtain ⟨v, F, h1, h2⟩ := h
  refine (spans_any n0 p F v L w h1 hL).mono ?_
  rintro e w' ⟨v', rfl, ho, hb⟩
  obtain ⟨ao, cap, rfl, _, hr⟩ := rd_own ho
  exact ⟨ao, cap, rfl, hr, hb⟩
theorem is_conv {ao : Option Addr} {c : Nat} {L : SL} {w : World} (hL : Rd2 w ao L) (hn : L.length ≤ 1000) :
    Calls Try.prog 16 #[.slice ao L.length c] w fun e w' => ∃ bo cap, e = .returned (.slice bo L.length cap) ∧ Rd2 w' bo L ∧ Below w.heap.size w w' := by
  refine (conv_any ao c L w hL (by omega)).mono ?_
  rintro e w' ⟨v', rfl, ho, hb⟩
  obtain ⟨bo, cap, rfl, _, hr⟩ := rd_own ho
  exact ⟨bo, cap, rfl, hr, hb⟩
theorem is_free {n0 p : Nat} {w0 w : World} {L : SL} {n : Int} (h : SetIs n0 w0 w p L) (hL : L.length ≤ 1000) :
    Calls Try.prog 19 #[.pointer (some ⟨p, 0, none⟩), .int .u32 n] w fun e w' => FreeR L n e ∧ Below w.heap.size w w' := by
  obtain ⟨v, F, h1, h2⟩ := h
  exact free_any n0 p F v L n w h1 hL
theorem is_count {n0 p : Nat} {w0 w : World} {L : SL} (h : SetIs n0 w0 w p L) (hL : L.length ≤ 1000) :
    Calls Try.prog 17 #[.pointer (some ⟨p, 0, none⟩)] w fun e w' => e = .returned (.int .u64 (card L)) ∧ Below w.heap.size w w' := by
  obtain ⟨v, F, h1, h2⟩ := h
  exact count_any n0 p F v L w h1 hL
theorem SetIs.ahead {n0 p : Nat} {w0 w : World} {L : SL} (h : SetIs n0 w0 w p L) : Below n0 w0 w := by
  obtain ⟨v, F, h1, h2⟩ := h
  exact h2
theorem can_two (a b c d : Int) (h0 : 0 ≤ a) (h1 : a ≤ b) (h2 : b + 1 < c) (h3 : c ≤ d) (h4 : d ≤ 4294967295) : Canon [(a, b), (c, d)] :=
  (canon_app [(a, b)] [(c, d)]).2 ⟨canon_one a b h0 h1 (by omega), canon_one c d (by omega) h3 h4, fun s hs t ht => by
    rw [List.mem_singleton] at hs ht
    subst hs; subst ht
    exact h2⟩
theorem free_47 (e : Ending) (h : FreeR [(1, 1), (4, 7)] 4 e) : e = .returned (.tuple #[.int .u32 8, .bool true]) := by
  rcases h with ⟨t, ht, h1, h2, rfl⟩ | ⟨h, rfl⟩
  · simp at ht
    rcases ht with rfl | rfl
    · simp at h2
    · rfl
  · exact absurd ⟨(4, 7), by simp, by decide, by decide⟩ h
theorem rd_lit {w : World} {z : Nat} {a b c d : Int} (h : w.heap[z]? = some (.cells #[.int .u32 a, .int .u32 b, .int .u32 c, .int .u32 d] 31 (0, 0))) : Rd2 w (some ⟨z, 0, none⟩) [(a, b), (c, d)] := fun i t ht => by
  refine ⟨z, 0, rfl, (Array.getElem?_eq_some_iff.1 h).1, ?_⟩
  match i, ht with
  | 0, ht =>
    simp at ht
    subst ht
    simp [World.cell?, h]
  | 1, ht =>
    simp at ht
    subst ht
    simp [World.cell?, h]
  | i + 2, ht => simp at ht
set_option maxRecDepth 100000 in
set_option maxHeartbeats 2000000 in
theorem awake_any (w : World) : Calls Try.prog 8 #[] w fun e w' => e = .returned (.bool true) ∧ Below w.heap.size w w' := by
  have m1 : ∀ n, mem [(1, 3)] n ↔ mem [] n ∨ (1 ≤ n ∧ n ≤ 3) := fun n => by simp only [mem_cons, mem_none, or_false, false_or]
  have m2 : ∀ n, mem [(1, 3), (5, 7)] n ↔ mem [(1, 3)] n ∨ (5 ≤ n ∧ n ≤ 7) := fun n => by simp only [mem_cons, mem_none, or_false]
  have m3 : ∀ n, mem [(1, 7)] n ↔ mem [(1, 3), (5, 7)] n ∨ (4 ≤ n ∧ n ≤ 4) := fun n => by simp only [mem_cons, mem_none, or_false]; omega
  have m4 : ∀ n, mem [(1, 1), (4, 7)] n ↔ mem [(1, 7)] n ∧ ¬ (2 ≤ n ∧ n ≤ 3) := fun n => by simp only [mem_cons, mem_none, or_false]; omega
  have HM := Lib.hid (And.intro m1 (And.intro m2 (And.intro m3 m4)))
  clear m1 m2 m3 m4
  go_enter Try.func8, Try.ntmps8
  go_upto_region 4 with (first
    | (go_at_call 9; refine (is_new w).mono ?_; rintro e w1 ⟨rfl, s⟩; have S1 := Lib.hid s; clear s)
    | (go_at_call 11; have hh := S5; clear hh; refine (is_drop [(1, 1), (4, 7)] 2 3 S5.out (can_two 1 1 4 7 (by omega) (by omega) (by omega) (by omega) (by omega)) HM.out.2.2.2 (by omega) (by omega) (by omega) (by simp)).mono ?_; rintro e w6 ⟨rfl, s⟩; have S6 := Lib.hid s; clear s)
    | (go_at_call 10; have hh := S4; clear hh; refine (is_add [(1, 7)] 4 4 S4.out (canon_one 1 7 (by omega) (by omega) (by omega)) HM.out.2.2.1 (by omega) (by omega) (by omega) (by simp)).mono ?_; rintro e w5 ⟨rfl, s⟩; have S5 := Lib.hid s; clear s)
    | (go_at_call 10; have hh := S2; clear hh; refine (is_add [(1, 3), (5, 7)] 5 7 S2.out (can_two 1 3 5 7 (by omega) (by omega) (by omega) (by omega) (by omega)) HM.out.2.1 (by omega) (by omega) (by omega) (by simp)).mono ?_; rintro e w3 ⟨rfl, s⟩; have S3 := Lib.hid s; clear s)
    | (go_at_call 10; refine (is_add [(1, 3)] 1 3 S1.out (canon_one 1 3 (by omega) (by omega) (by omega)) HM.out.1 (by omega) (by omega) (by omega) (by simp)).mono ?_; rintro e w2 ⟨rfl, s⟩; have S2 := Lib.hid s; clear s)
    | (go_at_call 13; refine (is_spans S3.out (by simp)).mono ?_; rintro e w4 ⟨ao, cap, rfl, _, hb⟩; have S4 := Lib.hid (S3.out.below hb); clear hb))
  go_wp2_with (first
    | (go_at_call 19; refine (is_free S6.out (by simp)).mono ?_; rintro e w7 ⟨hf, hb⟩; have he := free_47 e hf; subst he; have S7 := Lib.hid (S6.out.below hb); clear hf hb)
    | (go_at_call 17; refine (is_count S7.out (by simp)).mono ?_; rintro e w8 ⟨he, hb⟩; rw [show card [(1, 1), (4, 7)] = 5 by decide] at he; subst he; have S8 := Lib.hid (S7.out.below hb); clear hb)
    | (go_at_call 13; have hh := S8; clear hh; refine (is_spans S8.out (by simp)).mono ?_; rintro e w9 ⟨bo, cap2, rfl, hr, hb⟩; have S9 := Lib.hid (And.intro hr (S8.out.below hb)); clear hr hb)
    | (go_at_call 16; refine (is_conv (L := [(1, 1), (4, 7)]) S9.out.1 (by simp)).mono ?_; rintro e w10 ⟨co, cap3, rfl, hr, hb⟩; have S10 := Lib.hid (And.intro hr (S9.out.2.below hb)); clear hr hb)
    | (go_at_call 15; refine (same_any co (some ⟨w10.heap.size, 0, none⟩) cap3 2 [(1, 1), (4, 7)] [(1, 1), (4, 7)] (w10.alloc (.cells #[.int .u32 1, .int .u32 1, .int .u32 4, .int .u32 7] 31)) (S10.out.1.on ((Below.refl w10.heap.size w10).alloc (Nat.le_refl _) _) (Nat.le_refl _)) (rd_lit (heap_alloc_new w10 _)) (by simp) (by simp)).mono ?_; rintro e w11 ⟨he, hb⟩; rw [show decide (([(1, 1), (4, 7)] : SL) = [(1, 1), (4, 7)]) = true by decide] at he; subst he; have S11 := Lib.hid ((S10.out.2.below ((Below.refl w10.heap.size w10).alloc (Nat.le_refl _) (.cells #[.int .u32 1, .int .u32 1, .int .u32 4, .int .u32 7] 31))).below hb); clear hb))
  go_ret
  exact ⟨rfl, S11.out.ahead⟩
end Go.Proofs.Ytgbhdccadelcfaa.Sp
