/- ghost: the law's awake, walked. -/
import Derived.Test.YtgjjfodogkcmmaaV2
namespace Go.Proofs.Ytgjjfodogkcmmaa.Gh
open Go Go.RowKit Ytgjjfodogkcmmaa.So
theorem rise_same : ∀ {A B : List Int}, Rise A → Rise B → (∀ x, x ∈ A ↔ x ∈ B) → A = B
  | [], [], _, _, _ => rfl
  | [], b :: B, _, _, h => absurd ((h b).2 (List.mem_cons_self ..)) (by simp)
  | a :: A, [], _, _, h => absurd ((h a).1 (List.mem_cons_self ..)) (by simp)
  | a :: A, b :: B, hA, hB, h => by
    have hA' := List.pairwise_cons.1 hA
    have hB' := List.pairwise_cons.1 hB
    have e : a = b := by
      rcases List.mem_cons.1 ((h a).1 (List.mem_cons_self ..)) with e | e
      · exact e
      · rcases List.mem_cons.1 ((h b).2 (List.mem_cons_self ..)) with e2 | e2
        · exact e2.symm
        · have := hB'.1 a e; have := hA'.1 b e2; omega
    subst e
    rw [rise_same hA'.2 hB'.2 (fun x => ⟨fun hx => ?_, fun hx => ?_⟩)]
    · rcases List.mem_cons.1 ((h x).1 (List.mem_cons_of_mem _ hx)) with e | e
      · subst e; have := hA'.1 x hx; omega
      · exact e
    · rcases List.mem_cons.1 ((h x).2 (List.mem_cons_of_mem _ hx)) with e | e
      · subst e; have := hB'.1 x hx; omega
      · exact e
/-- The ghosts among the named numbers: those that rise, and are named, and are not held. -/
theorem gl_same {S : GS} {ss : List Int} {G : List Int} (h : Named S ss) (hG : Rise G) (h32 : ∀ x ∈ G, In32 x) (hg : ∀ x, In32 x → (x ∈ G ↔ ofG S x ≠ 0)) : glOf S ss = G.map fun x => (x, (ofG S x : Int)) := by
  unfold glOf
  congr 1
  refine rise_same (h.1.filter _) hG (fun x => ?_)
  rw [List.mem_filter]
  refine ⟨fun ⟨h1, h2⟩ => (hg x (h.2.1 x h1)).2 (by simp at h2; omega), fun hx => ?_⟩
  have h3 := h32 x hx
  have h4 := (hg x h3).1 hx
  refine ⟨(h.2.2 x h3).2 (fun e => h4 ?_), by simp; omega⟩
  unfold ofG
  split
  · rfl
  · exact e
def S0 : GS := [(3, [5, 7]), (7, [3, 5])]
theorem of_S0 (x : Int) : ofG S0 x = if x = 5 then 2 else 0 := by
  unfold ofG S0 cnt
  simp only [List.any_cons, List.any_nil, Bool.or_false, List.map_cons, List.map_nil, List.sum_cons, List.sum_nil, List.count_cons, List.count_nil]
  by_cases h3 : x = 3
  · subst h3; rfl
  by_cases h7 : x = 7
  · subst h7; rfl
  by_cases h5 : x = 5
  · subst h5; rfl
  · have e3 : ¬ (3 : Int) = x := fun e => h3 e.symm
    have e7 : ¬ (7 : Int) = x := fun e => h7 e.symm
    have e5 : ¬ (5 : Int) = x := fun e => h5 e.symm
    simp [e3, e7, e5, h5]
theorem gl_S0 {ss : List Int} (h : Named S0 ss) : glOf S0 ss = [(5, 2)] := by
  rw [gl_same h (G := [5]) (List.pairwise_singleton _ _) (fun x hx => by rw [List.mem_singleton.1 hx]; exact in32 (by omega) (by omega)) (fun x _ => by rw [of_S0]; by_cases e : x = 5 <;> simp [e])]
  rfl
theorem two4 {w : World} {g : Nat} {x y : Int} {T : TypeId} (h : w.heap[g]? = some (.cells #[.int .u32 x, .int .u32 y] T (0, 0))) : Rd4 w (some ⟨g, 0, none⟩) [x, y] := by
  intro i z hz
  refine ⟨g, 0, rfl, (Array.getElem?_eq_some_iff.1 h).1, ?_⟩
  match i, hz with
  | 0, hz => simp at hz; subst hz; simp [World.cell?, h]
  | 1, hz => simp at hz; subst hz; simp [World.cell?, h]
  | i + 2, hz => simp at hz
theorem made_rd {w : World} {B : Nat} {ho : Option Addr} {n c : Nat} {L : List Hf} (h : w.ownsRow B 76 4 (.slice ho n c) L.length (h4 L)) : RdH w ho L ∧ ∀ ad, ho = some ad → ad.block < w.heap.size := by
  refine ⟨rdh_own h, fun ad e => ?_⟩
  rcases h.2 with ⟨h0, h1⟩ | ⟨g, cap', cur, h0, h1, h2, h3, h4⟩
  · subst e; simp at h0
  · subst e
    simp only [Value.slice.injEq] at h0
    obtain ⟨h0, _, _⟩ := h0
    rw [Option.some.inj h0]
    exact (Array.getElem?_eq_some_iff.1 h2).1
def mkV (id : Int) (ho : Option Addr) (c : Nat) (X : List Int) : Vx := ⟨id, true, none, 0, 0, ho, c, X.map fh⟩
theorem mk_ok {w : World} {B : Nat} {id : Int} {ho : Option Addr} {n c : Nat} {X : List Int} (h : w.ownsRow B 76 4 (.slice ho n c) X.length (h4 (X.map fh))) (hid : In32 id) (hX : ∀ x ∈ X, In32 x) : (mkV id ho c X).ok w := by
  have hl : (X.map fh).length = X.length := by simp
  rw [← hl] at h
  obtain ⟨h1, h2⟩ := made_rd h
  exact ⟨hid, fun t ht => by obtain ⟨x, hx, rfl⟩ := List.mem_map.1 ht; exact hX x hx, h1, fun ad e _ => h2 ad e⟩
theorem two_vs {w : World} {g : Nat} {u v : Vx} {T : TypeId} (h : w.heap[g]? = some (.cells #[.int .u32 u.id, .bool u.th, .slice u.po u.pl u.pc, .slice u.ho u.L.length u.hc, .int .u32 v.id, .bool v.th, .slice v.po v.pl v.pc, .slice v.ho v.L.length v.hc] T (0, 0))) (hu : u.ok w) (hv : v.ok w) : RdV w (some ⟨g, 0, none⟩) [u, v] := by
  intro i z hz
  match i, hz with
  | 0, hz => simp at hz; subst hz; exact ⟨hu, g, 0, rfl, (Array.getElem?_eq_some_iff.1 h).1, by simp [World.cell?, h], by simp [World.cell?, h], by simp [World.cell?, h], by simp [World.cell?, h]⟩
  | 1, hz => simp at hz; subst hz; exact ⟨hv, g, 0, rfl, (Array.getElem?_eq_some_iff.1 h).1, by simp [World.cell?, h], by simp [World.cell?, h], by simp [World.cell?, h], by simp [World.cell?, h]⟩
  | i + 2, hz => simp at hz
theorem hold_two (h1 h2 : Option Addr) (c1 c2 : Nat) : holdAll [mkV 3 h1 c1 [5, 7], mkV 7 h2 c2 [3, 5]] = S0 := by rfl
theorem one_g {w : World} {g : Nat} {T : TypeId} (h : w.heap[g]? = some (.cells #[.int .u32 5, .int .i64 2] T (0, 0))) : RdG w (some ⟨g, 0, none⟩) [(5, 2)] := by
  intro i z hz
  match i, hz with
  | 0, hz => simp at hz; subst hz; exact ⟨g, 0, rfl, (Array.getElem?_eq_some_iff.1 h).1, by simp [World.cell?, h], by simp [World.cell?, h]⟩
  | i + 1, hz => simp at hz
end Go.Proofs.Ytgjjfodogkcmmaa.Gh
