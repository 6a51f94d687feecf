/- graph: the list of a graph that stays; what its degrees and edges are answered. -/
import Derived.Test.YtafenkepigmcaaaGreatDoorW5
namespace Go.Proofs.YtafenkepigmcaaaGreatDoor.Gr
open Go Go.RowKit YtafenkepigmcaaaGreatDoor.So
theorem hops_mono {w wb wr : World} {g i j : Nat} {G : GV} {K : Nat → Prop} (h : HopsAt w g G K wb i wr) (hj : i ≤ j) : HopsAt w g G K wb j wr := by
  obtain ⟨F, n, h1, h2, h3, h4⟩ := h
  exact ⟨F, n, h1, h2, by omega, h4⟩
/-- Fewer blocks stay. -/
theorem hops_less {w wb wr : World} {g i : Nat} {G : GV} {K K' : Nat → Prop} (h : HopsAt w g G K wb i wr) (hK : ∀ k, K' k → K k) : HopsAt w g G K' wb i wr := by
  obtain ⟨F, n, h1, h2, h3, h4, h5, h6, h7⟩ := h
  exact ⟨F, n, h1, h2, h3, fun k hk => ⟨(h4 k hk).1, fun q => (h4 k hk).2 (hK k q)⟩, h5, fun k hk => h6 k (hK k hk), h7.mono (fun k hk q => hk (hK k q))⟩
/-- What stayed on the way stays. -/
theorem hops_back {w wb wm wr : World} {g i j : Nat} {G : GV} {K K2 : Nat → Prop} (h1 : HopsAt w g G K wb i wm) (h2 : HopsAt w g G K2 wm j wr) (hK : ∀ k, K k → K2 k) : HopsAt w g G K wb j wr := by
  obtain ⟨F1, n1, a1, a2, a3, a4, a5, a6, a7⟩ := h1
  obtain ⟨F, n, h1, h2, h3, h4, h5, h6, h7⟩ := h2
  exact ⟨F, n, h1, h2, h3, fun k hk => ⟨(h4 k hk).1, fun q => (h4 k hk).2 (hK k q)⟩, h5, a6, a7.then (h7.mono (fun k hk q => hk (hK k q)))⟩
theorem hops_list {w wb wr : World} {g i : Nat} {G : GV} {K : Nat → Prop} (h : HopsAt w g G K wb i wr) (hi : i ≤ 100000) :
    Calls Tryz.prog 28 #[.pointer (some ⟨g, 0, none⟩)] wr fun e w' => ∃ ao cap, e = .returned (.slice ao G.length cap) ∧ w'.ownsRow wr.heap.size 23 1 (.slice ao G.length cap) G.length (KA.u32s (keysE G)) ∧ HopsAt w g G K wb i w' ∧ HopsAt w g G (fun k => K k ∨ (Value.slice ao G.length cap).ownBlock = some k) w' i w' := by
  have h0 := h
  obtain ⟨F, n, h1, h2, h3, h4, h5, h6, h7⟩ := h
  refine (list_any g n F G wr h1 (by omega)).mono ?_
  rintro e w' ⟨ao, cap, rfl, hr, hb⟩
  refine ⟨ao, cap, rfl, hr, h0.below hb, F, n, h1.below hb, h2, h3, fun k hk => ⟨(h4 k hk).1, ?_⟩, h5.trans (hb.mono h5.size), fun k hk => ?_, ⟨rfl, rfl, rfl, Nat.le_refl _, fun _ _ _ => rfl⟩⟩
  · rintro (q | q)
    · exact (h4 k hk).2 q
    · have := gp_lt h1 k hk; have := (row_lt hr q).1; omega
  · rcases hk with q | q
    · have := h6 k q; have := h7.size; have := hb.size; omega
    · exact (row_lt hr q).2
theorem deg_ok {a : Int} (ha : numB a = true) : okO ⟨8, a, 0, 0, zA⟩ = true := by
  unfold okO farB keyB valB
  rw [ha]
  rfl
theorem edge_ok {a b : Int} (ha : numB a = true) (hb : numB b = true) (hne : b ≠ a) : okO ⟨7, a, b, 0, zA⟩ = true := by
  have h : (b == a) = false := by simpa using hne
  unfold okO farB keyB valB
  rw [ha]
  simp only [show pB 7 = true from rfl, show pO 7 = true from rfl, if_true, hb, h]
  rfl
theorem deg_ref {G : GV} {a : Int} {x : EL Av × EL Av} (hx : getE G a = some x) : refG G ⟨8, a, 0, 0, zA⟩ = 0 ∧ rdVals G ⟨8, a, 0, 0, zA⟩ = [⟨1, (x.2.length : Int), ⟨#[]⟩⟩] := by
  have h0 : refG G ⟨8, a, 0, 0, zA⟩ = 0 := by unfold refG; simp [hx]
  refine ⟨h0, ?_⟩
  unfold rdVals
  rw [if_pos h0]
  unfold readG
  simp [hx]
/-- What an edge is answered, from either side. -/
def edgeE (G : GV) (a b : Int) : Int := if joinedG G a b = true then 0 else 6
def edgeV (G : GV) (a b : Int) : List Av := (getE (hG G a) b).toList
theorem edge_ref {G : GV} {a b : Int} {x : EL Av × EL Av} (hx : getE G a = some x) : refG G ⟨7, a, b, 0, zA⟩ = edgeE G a b ∧ rdVals G ⟨7, a, b, 0, zA⟩ = edgeV G a b := by
  have h0 : refG G ⟨7, a, b, 0, zA⟩ = edgeE G a b := by unfold refG edgeE; simp
  refine ⟨h0, ?_⟩
  unfold rdVals edgeV
  rw [h0]
  unfold edgeE joinedG
  rw [hG_some hx]
  cases hq : getE x.2 b with
  | none => simp
  | some c => simp [readG, hx, hq]
theorem edge_sym {G : GV} (h : OkG G) (a b : Int) : edgeE G a b = edgeE G b a ∧ edgeV G a b = edgeV G b a := by
  unfold edgeE edgeV joinedG
  rw [h.sym a b]
  exact ⟨rfl, rfl⟩
theorem edgeV_len (G : GV) (a b : Int) : (edgeV G a b).length ≤ 1 := by
  unfold edgeV; cases getE (hG G a) b <;> simp
theorem wf_of {kd a b : Int} (hk : In8 kd) (ha : In32 a) (hb : In32 b) : (⟨kd, a, b, 0, zA⟩ : Ox).wf := ⟨hk, ha, hb, rfl, rfl, rfl, Nat.zero_le _⟩
theorem OkG.num {G : GV} (h : OkG G) {v : Int} {x : EL Av × EL Av} (hx : getE G v = some x) : numB v = true := by
  have := h.key v x hx
  unfold numB; simpa using this
theorem sumBy_snoc (f : Int → Nat) {l : List Int} {i : Nat} {a : Int} (h : l[i]? = some a) : sumBy f (l.take (i + 1)) = sumBy f (l.take i) + f a := by
  rw [List.take_add_one, h]
  simp [sumBy]
theorem sumBy_le {f : Int → Nat} {m : Nat} : ∀ {l : List Int}, (∀ a ∈ l, f a ≤ m) → sumBy f l ≤ m * l.length
  | [], _ => by simp [sumBy]
  | x :: l, h => by
    rw [sumBy_cons, List.length_cons, Nat.mul_add]
    have := h x (by simp)
    have := sumBy_le (l := l) (fun a ha => h a (by simp [ha]))
    omega
theorem countP_snoc (p : Int → Bool) {l : List Int} {i : Nat} {a : Int} (h : l[i]? = some a) : (l.take (i + 1)).countP p = (l.take i).countP p + (if p a = true then 1 else 0) := by
  rw [List.take_add_one, h]
  simp [List.countP_append, List.countP_cons]
end Go.Proofs.YtafenkepigmcaaaGreatDoor.Gr
