/- bag: one bag beside a list that the law makes. -/
import Derived.Test.YthjcllgjojldjaaB1
namespace Go.Proofs.Ythjcllgjojldjaa.Bg
open Go Go.RowKit
/-- A bag of the call's own at p, that holds L, and beside it a row of the call's own. -/
structure Sw (w0 : World) (p : Nat) (L : List (List Int)) (v : Value) (vs : List Value) (w : World) : Prop where
  below : Below w0.heap.size w0 w
  bag : ∃ X : Bx, X.p = p ∧ X.M.map Mg.l = L ∧ BagAt 50 w0.heap.size w X ∧ ∀ g, v.ownBlock = some g → ¬ X.has g
  row : w.ownsRow w0.heap.size 30 1 v vs.length vs
section
variable {w0 w w' : World} {p : Nat} {L : List (List Int)} {v : Value} {vs : List Value}
theorem Sw.on (h : Sw w0 p L v vs w) (hb : Below w.heap.size w w') : Sw w0 p L v vs w' := by
  obtain ⟨X, h1, h2, h3, h4⟩ := h.bag
  exact ⟨h.below.trans (hb.mono h.below.size), ⟨X, h1, h2, h3.below hb, h4⟩, own_on h.row (fun g hg => hb.block g (World.ownsRow.lt h.row g hg).2)⟩
theorem Sw.first (h : St w0 p L w) : Sw w0 p L (.slice none 0 0) [] w := by
  obtain ⟨X, h1, h2, h3⟩ := h.bag
  exact ⟨h.below, ⟨X, h1, h2, h3, fun g hg => by cases hg⟩, World.ownsRow_nil _ _ _ _⟩
theorem Sw.did {X : Bx} {K : List (List Int)} (h : Sw w0 p L v vs w) (hp : X.p = p) (hx : BagAt 50 w0.heap.size w X) (hv : ∀ g, v.ownBlock = some g → ¬ X.has g) (hd : DidB 50 w0.heap.size X K w w') : Sw w0 p K v vs w' := by
  have hl := hd.low hx h.below.size
  obtain ⟨X', e1, e2, e3, e4, e5⟩ := hd
  refine ⟨h.below.trans hl, ⟨X', e1.trans hp, e2, e3, fun g hg hk => ?_⟩, own_on h.row (fun g hg => e5.block g (World.ownsRow.lt h.row g hg).2 (fun hk => hv g hg (Bx.top_has hk)))⟩
  rcases e4 g hk with hh | hh
  · exact hv g hg hh
  · have := (World.ownsRow.lt h.row g hg).2
    omega
theorem Sw.call {f : FuncId} {args : Array Value} {R : Ending → World → Prop} {K : List (List Int)} (h : Sw w0 p L v vs w)
    (hc : ∀ X : Bx, X.p = p → X.M.map Mg.l = L → BagAt 50 w0.heap.size w X → Calls Try.prog f args w fun e w' => R e w' ∧ DidB 50 w0.heap.size X K w w') : Calls Try.prog f args w fun e w' => R e w' ∧ Sw w0 p K v vs w' := by
  obtain ⟨X, h1, h2, h3, h4⟩ := h.bag
  refine (hc X h1 h2 h3).mono ?_
  rintro e w' ⟨hr, hd⟩
  exact ⟨hr, h.did h1 h3 h4 hd⟩
theorem Sw.st (h : Sw w0 p L v vs w) : St w0 p L w := by
  obtain ⟨X, h1, h2, h3, _⟩ := h.bag
  exact ⟨h.below, X, h1, h2, h3⟩
theorem sw_put (h : Sw w0 p L v vs w) (hf : L.length < 2000) (a : Addr) (n c : Nat) (l : List Int) (hl : l.length = n) (hr : Rd w (some a) l) (hn : n ≤ 16384) (h0 : 0 < n) :
    Calls Try.prog 13 #[.pointer (some ⟨p, 0, none⟩), .slice (some a) n c] w fun e w' => e = .returned (.int .i64 0) ∧ Sw w0 p (L ++ [l]) v vs w' :=
  h.call (R := fun e _ => e = .returned (.int .i64 0)) fun X h1 h2 h3 => by
    subst h1; subst h2
    exact put_ok h3 h.below.size (by simpa using hf) a n c l hl hr hn h0
theorem sw_hold (h : Sw w0 p L v vs w) (i : Nat) (l : List Int) (hi : L[i]? = some l) : Calls Try.prog 14 #[.pointer (some ⟨p, 0, none⟩), .int .i64 i] w fun e w' => e = .returned (.int .i64 0) ∧ Sw w0 p (restL L i ++ [l]) v vs w' :=
  h.call (R := fun e _ => e = .returned (.int .i64 0)) fun X h1 h2 h3 => by
    subst h1; subst h2
    exact hold_any h3 h.below.size i l hi
theorem sw_take (h : Sw w0 p L v vs w) (i : Nat) (l : List Int) (hi : L[i]? = some l) : Calls Try.prog 17 #[.pointer (some ⟨p, 0, none⟩), .int .i64 i] w fun e w' => (∃ g c, e = .returned (.tuple #[.slice (some ⟨g, 0, none⟩) l.length c, .int .i64 0]) ∧ Rd w' (some ⟨g, 0, none⟩) l ∧ l.length ≤ 16384) ∧ Sw w0 p (restL L i) v vs w' :=
  h.call (R := fun e w' => ∃ g c, e = .returned (.tuple #[.slice (some ⟨g, 0, none⟩) l.length c, .int .i64 0]) ∧ Rd w' (some ⟨g, 0, none⟩) l ∧ l.length ≤ 16384) fun X h1 h2 h3 => by
    subst h1; subst h2
    have hil : i < X.M.length := by have := (List.getElem?_eq_some_iff.1 hi).1; simpa using this
    refine (take_any h3 i hil).mono ?_
    intro e w' hr
    have hd := hr.did
    obtain ⟨m, v', hm, rfl, _, _, _, hb⟩ := hr
    have hmm := (h3.msg m (List.mem_of_getElem? hm)).on hb
    rw [List.getElem?_map, hm] at hi
    injection hi with hi
    subst hi
    exact ⟨⟨m.g, m.cap, rfl, hmm.rd, hmm.few⟩, hd⟩
theorem sw_all (h : Sw w0 p L v vs w) : Calls Try.prog 11 #[.pointer (some ⟨p, 0, none⟩)] w fun e w' => ∃ u, e = .returned u ∧ RdRow w' u L ∧ Sw w0 p L v vs w' := by
  refine (st_all h.st).mono ?_
  rintro e w' ⟨u, rfl, h1, h2, _⟩
  exact ⟨u, rfl, h1, h.on h2⟩
/-- The law's own row turns. -/
theorem Sw.own {v' : Value} {vs' : List Value} (h : Sw w0 p L v vs w) {w1 : World} (hb : Below w.heap.size w w1) (hr : w'.ownsRow w0.heap.size 30 1 v' vs'.length vs') (hg : w1.grownBy w' v.ownBlock) (hv : ∀ g, v'.ownBlock = some g → v.ownBlock = some g ∨ w.heap.size ≤ g) : Sw w0 p L v' vs' w' := by
  obtain ⟨X, h1, h2, h3, h4⟩ := h.bag
  have h3' := (h3.below hb).on (Turned.of_grown hg (G := fun k => v.ownBlock = some k) (fun k hk => hk)) (fun k hk e => h4 k e hk)
  refine ⟨(h.below.trans (hb.mono h.below.size)).grown hg (Nat.le_trans h.below.size hb.size) (fun k hk => (World.ownsRow.lt h.row k hk).1), ⟨X, h1, h2, h3', fun g hg' hk => ?_⟩, hr⟩
  rcases hv g hg' with hh | hh
  · exact h4 g hh hk
  · have := h3.lt hk
    omega
end
/-- What the law's row reads as: lists that came in. -/
def WR (w : World) (vs : List Value) (K : List (List Int)) : Prop :=
  vs.length = K.length ∧ ∀ (k : Nat) (l : List Int), K[k]? = some l → ∃ bo c, vs[k]? = some (.slice bo l.length c) ∧ Rd w bo l ∧ l.length ≤ maxLen
theorem WR.nil (w : World) : WR w [] [] := ⟨rfl, fun k l h => by simp at h⟩
theorem WR.push {w : World} {vs : List Value} {K : List (List Int)} (h : WR w vs K) {bo : Option Addr} {c : Nat} {l : List Int} (hr : Rd w bo l) (hl : l.length ≤ maxLen) : WR w (vs ++ [.slice bo l.length c]) (K ++ [l]) := by
  refine ⟨by simp [h.1], fun k x hk => ?_⟩
  by_cases hlt : k < K.length
  · rw [List.getElem?_append_left hlt] at hk
    obtain ⟨b, c', h1, h2, h3⟩ := h.2 k x hk
    exact ⟨b, c', by rw [List.getElem?_append_left (by have := h.1; omega)]; exact h1, h2, h3⟩
  · rw [List.getElem?_append_right (by omega)] at hk
    have : k - K.length = 0 := by
      have := (List.getElem?_eq_some_iff.1 hk).1
      simp at this
      omega
    rw [this] at hk
    simp at hk
    subst hk
    refine ⟨bo, c, ?_, hr, hl⟩
    rw [List.getElem?_append_right (by have := h.1; omega), show k - vs.length = 0 by have := h.1; omega]
    rfl
theorem WR.rd {w0 w : World} {B n : Nat} {v : Value} {vs : List Value} {K : List (List Int)} (h : WR w0 vs K) (hr : w.ownsRow B 30 1 v n vs) (hn : vs.length = n) (hb : Below w0.heap.size w0 w) (hf : n ≤ maxLen) : RdRow w v K := by
  subst hn
  obtain ⟨ao, cap, rfl, _⟩ := row_form hr
  rw [h.1]
  refine ⟨ao, cap, rfl, by rw [← h.1]; exact hf, fun k l hk => ?_⟩
  obtain ⟨bo, c, h1, h2, h3⟩ := h.2 k l hk
  obtain ⟨g, cap', hv, _, hg, _, _, hc⟩ := row_at hr h1
  simp only [Value.slice.injEq] at hv
  exact ⟨⟨g, 0, none⟩, bo, c, hv.1, hg, by rw [addr0]; exact hc, h2.on hb (Nat.le_refl _), h3⟩
end Go.Proofs.Ythjcllgjojldjaa.Bg
