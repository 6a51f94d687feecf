/- bag: a bag beside the document's, or neither; what each call makes of them. -/
import Derived.Test.YthjcllgjojldjaaB1
namespace Go.Proofs.Ythjcllgjojldjaa.Bg
open Go Go.RowKit
/-- A bag that holds L1 beside a document's that holds L2, or neither; the blocks of P are nobody's. -/
structure Ply (w0 : World) (z : Bool) (pb px : Option Addr) (L1 L2 : List (List Int)) (P : Nat → Prop) (w : World) : Prop where
  below : Below w0.heap.size w0 w
  lt : ∀ k, P k → k < w.heap.size
  ex : (z = true ∧ pb = none ∧ px = none ∧ L1 = [] ∧ L2 = []) ∨ (z = false ∧ ∃ X Y : Bx, pb = some ⟨X.p, 0, none⟩ ∧ px = some ⟨Y.p, 0, none⟩ ∧ X.M.map Mg.l = L1 ∧ Y.M.map Mg.l = L2 ∧ BagAt 50 w0.heap.size w X ∧ BagAt 29 w0.heap.size w Y ∧ (∀ k, X.has k → ¬ Y.has k) ∧ ∀ k, P k → ¬ X.has k ∧ ¬ Y.has k)
def Keep (P : Nat → Prop) (w w' : World) : Prop := ∀ k, P k → w'.heap[k]? = w.heap[k]?
section
variable {w0 w w' : World} {z : Bool} {pb px : Option Addr} {L1 L2 : List (List Int)} {P Q : Nat → Prop}
theorem Ply.more (h : Ply w0 z pb px L1 L2 P w) (hb : Below w.heap.size w w') (hq : ∀ k, Q k → P k ∨ w.heap.size ≤ k ∧ k < w'.heap.size) : Ply w0 z pb px L1 L2 Q w' := by
  refine ⟨h.below.trans (hb.mono h.below.size), fun k hk => ?_, h.ex.imp id ?_⟩
  · rcases hq k hk with hh | hh
    · exact Nat.lt_of_lt_of_le (h.lt k hh) hb.size
    · exact hh.2
  · rintro ⟨e0, X, Y, e1, e2, e3, e4, h1, h2, h3, h4⟩
    refine ⟨e0, X, Y, e1, e2, e3, e4, h1.below hb, h2.below hb, h3, fun k hk => ?_⟩
    rcases hq k hk with hh | hh
    · exact h4 k hh
    · exact ⟨fun e => by have := h1.lt e; omega, fun e => by have := h2.lt e; omega⟩
theorem Ply.on (h : Ply w0 z pb px L1 L2 P w) (hb : Below w.heap.size w w') : Ply w0 z pb px L1 L2 P w' := h.more hb (fun _ hk => .inl hk)
theorem Ply.less (h : Ply w0 z pb px L1 L2 P w) (hq : ∀ k, Q k → P k) : Ply w0 z pb px L1 L2 Q w := h.more (Below.refl _ _) (fun k hk => .inl (hq k hk))
theorem Ply.turn {Z : Nat → Prop} (h : Ply w0 z pb px L1 L2 P w) (ht : Turned Z w w') (hZ : ∀ k, Z k → P k) (hB : ∀ k, Z k → w0.heap.size ≤ k) : Ply w0 z pb px L1 L2 P w' := by
  refine ⟨h.below.trans (ht.below h.below.size hB), fun k hk => Nat.lt_of_lt_of_le (h.lt k hk) ht.size, h.ex.imp id ?_⟩
  rintro ⟨e0, X, Y, e1, e2, e3, e4, h1, h2, h3, h4⟩
  exact ⟨e0, X, Y, e1, e2, e3, e4, h1.on ht (fun k hk e => (h4 k (hZ k e)).1 hk), h2.on ht (fun k hk e => (h4 k (hZ k e)).2 hk), h3, h4⟩
theorem Ply.prog {X Y : Bx} {K : List (List Int)} (hb : Below w0.heap.size w0 w) (hl : ∀ k, P k → k < w.heap.size) (h1 : BagAt 50 w0.heap.size w X) (h2 : BagAt 29 w0.heap.size w Y) (h3 : ∀ k, X.has k → ¬ Y.has k) (h4 : ∀ k, P k → ¬ X.has k ∧ ¬ Y.has k) (hd : DidB 50 w0.heap.size X K w w') :
    Ply w0 false (some ⟨X.p, 0, none⟩) (some ⟨Y.p, 0, none⟩) K (Y.M.map Mg.l) P w' ∧ Keep P w w' := by
  have hlow := hd.low h1 hb.size
  obtain ⟨X', e1, e2, e3, e4, e5⟩ := hd
  refine ⟨⟨hb.trans hlow, fun k hk => Nat.lt_of_lt_of_le (hl k hk) hlow.size, .inr ⟨rfl, X', Y, by rw [e1], rfl, e2, rfl, e3, h2.on e5 (fun k hk e => h3 k (Bx.top_has e) hk), fun k hk hy => ?_, fun k hk => ⟨fun hx => ?_, (h4 k hk).2⟩⟩⟩, fun k hk => e5.block k (hl k hk) (fun e => (h4 k hk).1 (Bx.top_has e))⟩
  · rcases e4 k hk with hh | hh
    · exact h3 k hh hy
    · have := h2.lt hy; omega
  · rcases e4 k hx with hh | hh
    · exact (h4 k hk).1 hh
    · have := hl k hk; omega
theorem Ply.doc {X Y : Bx} {K : List (List Int)} (hb : Below w0.heap.size w0 w) (hl : ∀ k, P k → k < w.heap.size) (h1 : BagAt 50 w0.heap.size w X) (h2 : BagAt 29 w0.heap.size w Y) (h3 : ∀ k, X.has k → ¬ Y.has k) (h4 : ∀ k, P k → ¬ X.has k ∧ ¬ Y.has k) (hd : DidB 29 w0.heap.size Y K w w') :
    Ply w0 false (some ⟨X.p, 0, none⟩) (some ⟨Y.p, 0, none⟩) (X.M.map Mg.l) K P w' ∧ Keep P w w' := by
  have hlow := hd.low h2 hb.size
  obtain ⟨Y', e1, e2, e3, e4, e5⟩ := hd
  refine ⟨⟨hb.trans hlow, fun k hk => Nat.lt_of_lt_of_le (hl k hk) hlow.size, .inr ⟨rfl, X, Y', rfl, by rw [e1], rfl, e2, h1.on e5 (fun k hk e => h3 k hk (Bx.top_has e)), e3, fun k hk hy => ?_, fun k hk => ⟨(h4 k hk).1, fun hx => ?_⟩⟩⟩, fun k hk => e5.block k (hl k hk) (fun e => (h4 k hk).2 (Bx.top_has e))⟩
  · rcases e4 k hy with hh | hh
    · exact h3 k hk hh
    · have := h1.lt hk; omega
  · rcases e4 k hx with hh | hh
    · exact (h4 k hk).2 hh
    · have := hl k hk; omega
theorem Ply.len (h : Ply w0 z pb px L1 L2 P w) : L1.length ≤ 2000 ∧ L2.length ≤ 2000 := by
  rcases h.ex with ⟨_, _, _, rfl, rfl⟩ | ⟨_, X, Y, _, _, rfl, rfl, h1, h2, _⟩
  · exact ⟨Nat.zero_le _, Nat.zero_le _⟩
  · have := h1.few; have := h2.few
    simpa using ⟨h1.few, h2.few⟩
end
/-- What Put says. -/
def pc (z : Bool) (c n : Nat) : Int := if 16384 < n then 2 else if n = 0 then 3 else if z then 6 else if c < 2000 then 0 else 10
def pl (z : Bool) (L : List (List Int)) (n : Nat) (l : List Int) : List (List Int) := if pc z L.length n = 0 then L ++ [l] else L
section
variable {w0 w : World} {z : Bool} {pb px : Option Addr} {L1 L2 : List (List Int)} {P : Nat → Prop}
theorem ply_put (h : Ply w0 z pb px L1 L2 P w) (ao : Option Addr) (n c : Nat) (l : List Int) (hl : l.length = n) (hr : Rd w ao l) :
    Calls Try.prog 13 #[.pointer pb, .slice ao n c] w fun e w' => e = .returned (.int .i64 (pc z L1.length n)) ∧ Ply w0 z pb px (pl z L1 n l) L2 P w' ∧ Keep P w w' := by
  have same : ∀ (E : Int) (f : FuncId) (args : Array Value), pc z L1.length n = E → E ≠ 0 → (Calls Try.prog f args w fun e w' => e = .returned (.int .i64 E) ∧ w = w') → Calls Try.prog f args w fun e w' => e = .returned (.int .i64 (pc z L1.length n)) ∧ Ply w0 z pb px (pl z L1 n l) L2 P w' ∧ Keep P w w' := by
    intro E f args hE h0 hc
    refine hc.mono ?_
    rintro e w' ⟨rfl, rfl⟩
    refine ⟨by rw [hE], ?_, fun _ _ => rfl⟩
    unfold pl
    rw [hE, if_neg h0]
    exact h
  by_cases h1 : 16384 < n
  · exact same 2 13 _ (by simp [pc, h1]) (by decide) (put_long pb ao n c w h1)
  · by_cases h0 : n = 0
    · subst h0
      exact same 3 13 _ (by simp [pc]) (by decide) (put_form pb ao c w)
    · rcases h.ex with ⟨rfl, rfl, rfl, rfl, rfl⟩ | ⟨rfl, X, Y, rfl, rfl, rfl, rfl, g1, g2, g3, g4⟩
      · exact same 6 13 _ (by simp [pc, h1, h0]) (by decide) (put_nil ao n c w (by omega) (by omega))
      · by_cases hf : X.M.length < 2000
        · obtain ⟨a, rfl, _⟩ := hr.here (by intro e; subst e; simp at hl; omega)
          refine (put_ok g1 h.below.size hf a n c l hl hr (by omega) (by omega)).mono ?_
          rintro e w' ⟨rfl, hd⟩
          have hp : pc false (X.M.map Mg.l).length n = 0 := by simp [pc, h1, h0, hf]
          refine ⟨by rw [hp], ?_⟩
          unfold pl
          rw [hp, if_pos rfl]
          exact Ply.prog h.below h.lt g1 g2 g3 g4 hd
        · exact same 10 13 _ (by simp [pc, h1, h0, hf]) (by decide) (put_full g1 (by have := g1.few; omega) ao n c (by omega) (by omega))
theorem ply_dput (h : Ply w0 z pb px L1 L2 P w) (ao : Option Addr) (n c : Nat) (l : List Int) (hl : l.length = n) (hr : Rd w ao l) :
    Calls Try.prog 20 #[.pointer px, .slice ao n c] w fun e w' => e = .returned (.int .i64 (pc z L2.length n)) ∧ Ply w0 z pb px L1 (pl z L2 n l) P w' ∧ Keep P w w' := by
  have same : ∀ (E : Int) (f : FuncId) (args : Array Value), pc z L2.length n = E → E ≠ 0 → (Calls Try.prog f args w fun e w' => e = .returned (.int .i64 E) ∧ w = w') → Calls Try.prog f args w fun e w' => e = .returned (.int .i64 (pc z L2.length n)) ∧ Ply w0 z pb px L1 (pl z L2 n l) P w' ∧ Keep P w w' := by
    intro E f args hE h0 hc
    refine hc.mono ?_
    rintro e w' ⟨rfl, rfl⟩
    refine ⟨by rw [hE], ?_, fun _ _ => rfl⟩
    unfold pl
    rw [hE, if_neg h0]
    exact h
  by_cases h1 : 16384 < n
  · exact same 2 20 _ (by simp [pc, h1]) (by decide) (dput_long px ao n c w h1)
  · by_cases h0 : n = 0
    · subst h0
      exact same 3 20 _ (by simp [pc]) (by decide) (dput_form px ao c w)
    · rcases h.ex with ⟨rfl, rfl, rfl, rfl, rfl⟩ | ⟨rfl, X, Y, rfl, rfl, rfl, rfl, g1, g2, g3, g4⟩
      · exact same 6 20 _ (by simp [pc, h1, h0]) (by decide) (dput_nil ao n c w (by omega) (by omega))
      · by_cases hf : Y.M.length < 2000
        · obtain ⟨a, rfl, _⟩ := hr.here (by intro e; subst e; simp at hl; omega)
          refine (dput_ok g2 h.below.size hf a n c l hl hr (by omega) (by omega)).mono ?_
          rintro e w' ⟨rfl, hd⟩
          have hp : pc false (Y.M.map Mg.l).length n = 0 := by simp [pc, h1, h0, hf]
          refine ⟨by rw [hp], ?_⟩
          unfold pl
          rw [hp, if_pos rfl]
          exact Ply.doc h.below h.lt g1 g2 g3 g4 hd
        · exact same 10 20 _ (by simp [pc, h1, h0, hf]) (by decide) (dput_full g2 (by have := g2.few; omega) ao n c (by omega) (by omega))
theorem ply_no (h : Ply w0 z pb px L1 L2 P w) {i : Int} (hi : ¬ (0 ≤ i ∧ i < L1.length)) : NoI (.pointer pb) i w := by
  rcases h.ex with ⟨_, rfl, _⟩ | ⟨_, X, Y, rfl, _, rfl, _, g1, _⟩
  · exact no_nil i w
  · exact no_out g1 (by simpa using hi)
theorem ply_dno (h : Ply w0 z pb px L1 L2 P w) {i : Int} (hi : ¬ (0 ≤ i ∧ i < L2.length)) (s l : Bool) : Calls Try.prog 22 #[.pointer px, .int .i64 i, .bool s, .bool l] w fun e w' => e = .returned (.tuple #[.slice none 0 0, .int .i64 6]) ∧ w = w' := by
  rcases h.ex with ⟨_, _, rfl, _⟩ | ⟨_, X, Y, _, rfl, _, rfl, _, g2, _⟩
  · exact dtake_nil i s l w
  · exact dtake_no g2 i s l (by simpa using hi)
/-- A message that has been taken out, or copied: nobody's. -/
def Out (w0 : World) (g c : Nat) (l : List Int) (w : World) : Prop := MgAt w ⟨g, c, l⟩ ∧ w0.heap.size ≤ g
theorem ply_take (h : Ply w0 z pb px L1 L2 P w) (i : Nat) (l : List Int) (hi : L1[i]? = some l) : Calls Try.prog 17 #[.pointer pb, .int .i64 i] w fun e w' => ∃ g c, e = .returned (.tuple #[.slice (some ⟨g, 0, none⟩) l.length c, .int .i64 0]) ∧ Out w0 g c l w' ∧ Ply w0 z pb px (restL L1 i) L2 (fun k => P k ∨ k = g) w' ∧ Keep P w w' ∧ ∀ k, P k → k ≠ g := by
  rcases h.ex with ⟨_, _, _, rfl, _⟩ | ⟨rfl, X, Y, rfl, rfl, rfl, rfl, g1, g2, g3, g4⟩
  · simp at hi
  · have hil : i < X.M.length := by have := (List.getElem?_eq_some_iff.1 hi).1; simpa using this
    refine (take_any g1 i hil).mono ?_
    intro e w' hr
    have hd := hr.did
    obtain ⟨m, v', hm, rfl, e1, hX, hT, hb⟩ := hr
    have hmem := List.mem_of_getElem? hm
    have hmm := (g1.msg m hmem).on hb
    obtain ⟨q1, q2⟩ := Ply.prog h.below h.lt g1 g2 g3 g4 hd
    have hap := take_apart g1 hm e1
    rw [List.getElem?_map, hm] at hi
    injection hi with hi
    subst hi
    refine ⟨m.g, m.cap, rfl, ⟨hmm, g1.far m hmem⟩, ⟨q1.below, fun k hk => hk.elim (q1.lt k) (fun e => e ▸ hmm.lt), .inr ⟨rfl, ⟨X.p, v', X.M.take i ++ X.M.drop (i + 1)⟩, Y, rfl, rfl, rest_L X.M i, rfl, hX, g2.on hT (fun k hk e => g3 k (Bx.top_has e) hk), fun k hk hy => ?_, fun k hk => ?_⟩⟩, q2, fun k hk e => (g4 k hk).1 (.inr (.inr ⟨m, hmem, e.symm⟩))⟩
    · refine g3 k ?_ hy
      rcases hk with hk | hk | ⟨m', hm', hk⟩
      · exact .inl hk
      · exact .inr (.inl (e1 ▸ hk))
      · exact .inr (.inr ⟨m', sub_rest hm', hk⟩)
    · rcases hk with hk | hk
      · refine ⟨fun hx => (g4 k hk).1 ?_, (g4 k hk).2⟩
        rcases hx with hx | hx | ⟨m', hm', hx⟩
        · exact .inl hx
        · exact .inr (.inl (e1 ▸ hx))
        · exact .inr (.inr ⟨m', sub_rest hm', hx⟩)
      · subst hk
        exact ⟨fun hx => hap _ hx rfl, g3 _ (.inr (.inr ⟨m, hmem, rfl⟩))⟩
theorem ply_copy (h : Ply w0 z pb px L1 L2 P w) (i : Nat) (l : List Int) (hi : L1[i]? = some l) : Calls Try.prog 23 #[.pointer pb, .int .i64 i] w fun e w' => ∃ g c, e = .returned (.tuple #[.slice (some ⟨g, 0, none⟩) l.length c, .int .i64 0]) ∧ Out w0 g c l w' ∧ Ply w0 z pb px L1 L2 (fun k => P k ∨ k = g) w' ∧ Keep P w w' ∧ ∀ k, P k → k ≠ g := by
  rcases h.ex with ⟨_, _, _, rfl, _⟩ | ⟨rfl, X, Y, rfl, rfl, rfl, rfl, g1, g2, g3, g4⟩
  · simp at hi
  · rw [List.getElem?_map] at hi
    obtain ⟨m, hm, rfl⟩ := Option.map_eq_some_iff.1 hi
    have hmm := g1.msg m (List.mem_of_getElem? hm)
    refine (copy_any g1 i m hm).mono ?_
    rintro e w' ⟨g, c, rfl, ⟨ho, _⟩, hb⟩
    have hgl := World.ownsRow.lt ho g rfl
    exact ⟨g, c, rfl, ⟨msg_of_own ho rfl hmm.pos hmm.few, Nat.le_trans h.below.size hgl.1⟩, h.more hb (fun k hk => hk.imp id (fun (e : k = g) => by rw [e]; exact hgl)), fun k hk => hb.block k (h.lt k hk), fun k hk e => by have := h.lt k hk; omega⟩
theorem ply_drop (h : Ply w0 z pb px L1 L2 P w) (i : Nat) (hi : i < L1.length) : Calls Try.prog 15 #[.pointer pb, .int .i64 i] w fun e w' => e = .returned (.int .i64 0) ∧ Ply w0 z pb px (restL L1 i) L2 P w' ∧ Keep P w w' := by
  rcases h.ex with ⟨_, _, _, rfl, _⟩ | ⟨rfl, X, Y, rfl, rfl, rfl, rfl, g1, g2, g3, g4⟩
  · simp at hi
  · refine (drop_any g1 i (by simpa using hi)).mono ?_
    rintro e w' ⟨rfl, hd⟩
    exact ⟨rfl, Ply.prog h.below h.lt g1 g2 g3 g4 hd⟩
theorem ply_hold (h : Ply w0 z pb px L1 L2 P w) (i : Nat) (l : List Int) (hi : L1[i]? = some l) : Calls Try.prog 14 #[.pointer pb, .int .i64 i] w fun e w' => e = .returned (.int .i64 0) ∧ Ply w0 z pb px (restL L1 i ++ [l]) L2 P w' ∧ Keep P w w' := by
  rcases h.ex with ⟨_, _, _, rfl, _⟩ | ⟨rfl, X, Y, rfl, rfl, rfl, rfl, g1, g2, g3, g4⟩
  · simp at hi
  · refine (hold_any g1 h.below.size i l hi).mono ?_
    rintro e w' ⟨rfl, hd⟩
    exact ⟨rfl, Ply.prog h.below h.lt g1 g2 g3 g4 hd⟩
theorem ply_dtake (h : Ply w0 z pb px L1 L2 P w) (i : Nat) (l : List Int) (last : Bool) (hi : L2[i]? = some l) : Calls Try.prog 22 #[.pointer px, .int .i64 i, .bool false, .bool last] w fun e w' => ∃ g c, e = .returned (.tuple #[.slice (some ⟨g, 0, none⟩) l.length c, .int .i64 0]) ∧ (Rd w' (some ⟨g, 0, none⟩) l ∧ l.length ≤ 16384) ∧ Ply w0 z pb px L1 (restL L2 i ++ if last then [l] else []) P w' ∧ Keep P w w' := by
  rcases h.ex with ⟨_, _, _, _, rfl⟩ | ⟨rfl, X, Y, rfl, rfl, rfl, rfl, g1, g2, g3, g4⟩
  · simp at hi
  · rw [List.getElem?_map] at hi
    obtain ⟨m, hm, rfl⟩ := Option.map_eq_some_iff.1 hi
    refine (dtake_any g2 h.below.size i m last hm).mono ?_
    rintro e w' ⟨rfl, hmm, hd⟩
    exact ⟨m.g, m.cap, rfl, ⟨hmm.rd, hmm.few⟩, Ply.doc h.below h.lt g1 g2 g3 g4 hd⟩
theorem ply_dstays (h : Ply w0 z pb px L1 L2 P w) (i : Nat) (l : List Int) (last : Bool) (hi : L2[i]? = some l) : Calls Try.prog 22 #[.pointer px, .int .i64 i, .bool true, .bool last] w fun e w' => ∃ g c, e = .returned (.tuple #[.slice (some ⟨g, 0, none⟩) l.length c, .int .i64 0]) ∧ (Rd w' (some ⟨g, 0, none⟩) l ∧ l.length ≤ 16384) ∧ w = w' := by
  rcases h.ex with ⟨_, _, _, _, rfl⟩ | ⟨rfl, X, Y, rfl, rfl, rfl, rfl, g1, g2, g3, g4⟩
  · simp at hi
  · rw [List.getElem?_map] at hi
    obtain ⟨m, hm, rfl⟩ := Option.map_eq_some_iff.1 hi
    have hmm := g2.msg m (List.mem_of_getElem? hm)
    refine (dtake_stays g2 i m last hm).mono ?_
    rintro e w' ⟨rfl, rfl⟩
    exact ⟨m.g, m.cap, rfl, ⟨hmm.rd, hmm.few⟩, rfl⟩
theorem ply_len (h : Ply w0 z pb px L1 L2 P w) : Calls Try.prog 10 #[.pointer pb] w fun e w' => e = .returned (.int .i64 L1.length) ∧ w = w' := by
  rcases h.ex with ⟨_, rfl, _, rfl, _⟩ | ⟨_, X, Y, rfl, _, rfl, _, g1, _⟩
  · exact len_nil w
  · have := len_any g1
    rwa [show X.M.length = (X.M.map Mg.l).length by simp] at this
end
end Go.Proofs.Ythjcllgjojldjaa.Bg
