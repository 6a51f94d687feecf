/- span: three sets side by side. -/
import Derived.Test.YtgbhdccadelcfaaM2
namespace Go.Proofs.Ytgbhdccadelcfaa.Sp
open Go Go.RowKit
/-- Three sets of the call's own, apart from one another and from other blocks. -/
structure TrioAt (n0 : Nat) (w0 wr : World) (Zs : Nat → Prop) (px py pu : Nat) (X Y U : SL) (vx vy vu : Value) (Fx Fy Fu : Nat → Prop) : Prop where
  x : SpanAt wr n0 Fx px vx X
  y : SpanAt wr n0 Fy py vy Y
  u : SpanAt wr n0 Fu pu vu U
  xy : ∀ k, Fx k → ¬ Fy k
  xu : ∀ k, Fx k → ¬ Fu k
  yu : ∀ k, Fy k → ¬ Fu k
  zs : ∀ z, Zs z → z < wr.heap.size ∧ ¬ Fx z ∧ ¬ Fy z ∧ ¬ Fu z
  ahead : Below n0 w0 wr
def Trio (n0 : Nat) (w0 wr : World) (Zs : Nat → Prop) (px py pu : Nat) (X Y U : SL) : Prop := ∃ vx vy vu Fx Fy Fu, TrioAt n0 w0 wr Zs px py pu X Y U vx vy vu Fx Fy Fu
theorem Trio.swap {n0 : Nat} {w0 wr : World} {Zs : Nat → Prop} {px py pu : Nat} {X Y U : SL} (h : Trio n0 w0 wr Zs px py pu X Y U) : Trio n0 w0 wr Zs py px pu Y X U := by
  obtain ⟨vx, vy, vu, Fx, Fy, Fu, h⟩ := h
  exact ⟨vy, vx, vu, Fy, Fx, Fu, h.y, h.x, h.u, fun k h1 h2 => h.xy k h2 h1, h.yu, h.xu, fun z hz => by obtain ⟨a, b, c, d⟩ := h.zs z hz; exact ⟨a, c, b, d⟩, h.ahead⟩
theorem Trio.turn {n0 : Nat} {w0 wr : World} {Zs : Nat → Prop} {px py pu : Nat} {X Y U : SL} (h : Trio n0 w0 wr Zs px py pu X Y U) : Trio n0 w0 wr Zs pu py px U Y X := by
  obtain ⟨vx, vy, vu, Fx, Fy, Fu, h⟩ := h
  exact ⟨vu, vy, vx, Fu, Fy, Fx, h.u, h.y, h.x, fun k h1 h2 => h.yu k h2 h1, fun k h1 h2 => h.xu k h2 h1, fun k h1 h2 => h.xy k h2 h1, fun z hz => by obtain ⟨a, b, c, d⟩ := h.zs z hz; exact ⟨a, d, c, b⟩, h.ahead⟩
theorem Trio.below {n0 : Nat} {w0 wr w' : World} {Zs : Nat → Prop} {px py pu : Nat} {X Y U : SL} (h : Trio n0 w0 wr Zs px py pu X Y U) (hb : Below wr.heap.size wr w') : Trio n0 w0 w' Zs px py pu X Y U := by
  obtain ⟨vx, vy, vu, Fx, Fy, Fu, h⟩ := h
  exact ⟨vx, vy, vu, Fx, Fy, Fu, h.x.below hb, h.y.below hb, h.u.below hb, h.xy, h.xu, h.yu, fun z hz => ⟨Nat.lt_of_lt_of_le (h.zs z hz).1 hb.size, (h.zs z hz).2⟩, h.ahead.trans (hb.mono h.x.base)⟩
theorem Trio.more {n0 : Nat} {w0 wr : World} {Zs Zt : Nat → Prop} {px py pu : Nat} {X Y U : SL} (h : Trio n0 w0 wr Zs px py pu X Y U) (hz : ∀ z, Zt z → Zs z) : Trio n0 w0 wr Zt px py pu X Y U := by
  obtain ⟨vx, vy, vu, Fx, Fy, Fu, h⟩ := h
  exact ⟨vx, vy, vu, Fx, Fy, Fu, h.x, h.y, h.u, h.xy, h.xu, h.yu, fun z h1 => h.zs z (hz z h1), h.ahead⟩
theorem Trio.alloc {n0 : Nat} {w0 wr : World} {Zs : Nat → Prop} {px py pu : Nat} {X Y U : SL} (h : Trio n0 w0 wr Zs px py pu X Y U) (o : Obj) : Trio n0 w0 (wr.alloc o) (fun z => Zs z ∨ z = wr.heap.size) px py pu X Y U := by
  have hb := (Below.refl wr.heap.size wr).alloc (Nat.le_refl _) o
  obtain ⟨vx, vy, vu, Fx, Fy, Fu, h⟩ := h
  refine ⟨vx, vy, vu, Fx, Fy, Fu, h.x.below hb, h.y.below hb, h.u.below hb, h.xy, h.xu, h.yu, fun z hz => ?_, h.ahead.trans (hb.mono h.x.base)⟩
  rcases hz with hz | rfl
  · exact ⟨Nat.lt_of_lt_of_le (h.zs z hz).1 hb.size, (h.zs z hz).2⟩
  · exact ⟨by simp, fun k => by have := h.x.hi _ k; omega, fun k => by have := h.y.hi _ k; omega, fun k => by have := h.u.hi _ k; omega⟩
theorem Trio.sx {n0 : Nat} {w0 wr : World} {Zs : Nat → Prop} {px py pu : Nat} {X Y U : SL} (h : Trio n0 w0 wr Zs px py pu X Y U) : SetIs n0 w0 wr px X := by
  obtain ⟨vx, vy, vu, Fx, Fy, Fu, h⟩ := h
  exact ⟨vx, Fx, h.x, h.ahead⟩
theorem Trio.sy {n0 : Nat} {w0 wr : World} {Zs : Nat → Prop} {px py pu : Nat} {X Y U : SL} (h : Trio n0 w0 wr Zs px py pu X Y U) : SetIs n0 w0 wr py Y := h.swap.sx
theorem Trio.su {n0 : Nat} {w0 wr : World} {Zs : Nat → Prop} {px py pu : Nat} {X Y U : SL} (h : Trio n0 w0 wr Zs px py pu X Y U) : SetIs n0 w0 wr pu U := h.turn.sx
theorem SetIs.can {n0 p : Nat} {w0 w : World} {L : SL} (h : SetIs n0 w0 w p L) : Canon L := by
  obtain ⟨v, F, h1, h2⟩ := h
  exact h1.can
def TAddR (n0 : Nat) (w0 wr : World) (Zs : Nat → Prop) (px py pu : Nat) (X Y U : SL) (a b : Int) (e : Ending) (w' : World) : Prop :=
  e = .returned (.int .i64 0) ∧ ∃ X', (∀ n, mem X' n ↔ mem X n ∨ (a ≤ n ∧ n ≤ b)) ∧ X'.length ≤ X.length + 1 ∧ Trio n0 w0 w' Zs px py pu X' Y U ∧ ∀ z, Zs z → w'.heap[z]? = wr.heap[z]?
theorem trio_add {n0 : Nat} {w0 wr : World} {Zs : Nat → Prop} {px py pu : Nat} {X Y U : SL} (h : Trio n0 w0 wr Zs px py pu X Y U) (a b : Int) (h0 : 0 ≤ a) (hab : a ≤ b) (hb : b ≤ 4294967295) (hL : X.length ≤ 1000) :
    Calls Try.prog 10 #[.pointer (some ⟨px, 0, none⟩), .int .u32 a, .int .u32 b] wr (TAddR n0 w0 wr Zs px py pu X Y U a b) := by
  obtain ⟨vx, vy, vu, Fx, Fy, Fu, h⟩ := h
  refine (add_ok n0 px Fx vx X a b wr h.x h0 hab hb hL).mono ?_
  rintro e w' ⟨rfl, M, hM, hl, v', F', h1, h2, h3⟩
  refine ⟨rfl, M, hM, hl, ⟨v', vy, vu, F', Fy, Fu, h1, h.y.on h3 (fun k k1 k2 => h.xy k k2 k1), h.u.on h3 (fun k k1 k2 => h.xu k k2 k1), fun k k1 k2 => ?_, fun k k1 k2 => ?_, h.yu, fun z hz => ?_, h.ahead.trans (h3.below h.x.base h.x.low)⟩, fun z hz => h3.block z (h.zs z hz).1 (h.zs z hz).2.1⟩
  · rcases h2 k k1 with k3 | k3
    · exact h.xy k k3 k2
    · have := h.y.hi k k2; omega
  · rcases h2 k k1 with k3 | k3
    · exact h.xu k k3 k2
    · have := h.u.hi k k2; omega
  · obtain ⟨z1, z2, z3, z4⟩ := h.zs z hz
    refine ⟨Nat.lt_of_lt_of_le z1 h3.size, fun k1 => ?_, z3, z4⟩
    rcases h2 z k1 with k3 | k3
    · exact z2 k3
    · omega
theorem is_has {n0 p : Nat} {w0 w : World} {L : SL} {n : Int} (h : SetIs n0 w0 w p L) (hL : L.length ≤ 1000) :
    Calls Try.prog 21 #[.pointer (some ⟨p, 0, none⟩), .int .u32 n] w fun e w' => e = .returned (.bool (hasB L n)) ∧ Below w.heap.size w w' := by
  obtain ⟨v, F, h1, h2⟩ := h
  exact has_any n0 p F v L n w h1 hL
/-- Three new sets. -/
theorem trio_new (w : World) (w1 w2 w3 : World) (n0 : Nat) (w0 : World) (hb : Below n0 w0 w) (hn : n0 ≤ w.heap.size) (h1 : w1 = w.alloc (.cells #[.slice none 0 0] 66)) (h2 : w2 = w1.alloc (.cells #[.slice none 0 0] 66)) (h3 : w3 = w2.alloc (.cells #[.slice none 0 0] 66)) :
    Trio n0 w0 w3 (fun _ => False) w.heap.size w1.heap.size w2.heap.size [] [] [] := by
  have s1 : w1.heap.size = w.heap.size + 1 := by rw [h1]; simp
  have s2 : w2.heap.size = w.heap.size + 2 := by rw [h2]; simp [s1]
  have s3 : w3.heap.size = w.heap.size + 3 := by rw [h3]; simp [s2]
  rw [s1, s2]
  have e1 : w1.heap[w.heap.size]? = some (.cells #[.slice none 0 0] 66 (0, 0)) := by rw [h1]; exact heap_alloc_new w _
  have e2 : w2.heap[w.heap.size + 1]? = some (.cells #[.slice none 0 0] 66 (0, 0)) := by rw [h2, ← s1]; exact heap_alloc_new w1 _
  have e3 : w3.heap[w.heap.size + 2]? = some (.cells #[.slice none 0 0] 66 (0, 0)) := by rw [h3, ← s2]; exact heap_alloc_new w2 _
  have k1 : w3.heap[w.heap.size]? = some (.cells #[.slice none 0 0] 66 (0, 0)) := by rw [h3, heap_alloc_old _ _ (by omega), h2, heap_alloc_old _ _ (by omega)]; exact e1
  have k2 : w3.heap[w.heap.size + 1]? = some (.cells #[.slice none 0 0] 66 (0, 0)) := by rw [h3, heap_alloc_old _ _ (by omega)]; exact e2
  have bb : Below n0 w0 w3 := by
    rw [h3, h2, h1]
    exact ((hb.alloc hn _).alloc (by simp; omega) _).alloc (by simp; omega) _
  have mk : ∀ p, n0 ≤ p → p < w3.heap.size → w3.heap[p]? = some (.cells #[.slice none 0 0] 66 (0, 0)) → SpanAt w3 n0 (fun k => k = p) p (.slice none 0 0) [] := fun p hp hp2 he =>
    ⟨⟨he, World.ownsRow_nil _ _ _ _⟩, canon_nil, by omega, rfl, (fun g e => by simp [Value.ownBlock] at e), (fun k hk => by omega), (fun k hk => by omega)⟩
  exact ⟨_, _, _, _, _, _, mk _ hn (by omega) k1, mk _ (by omega) (by omega) k2, mk _ (by omega) (by omega) e3, (fun k a b => by omega), (fun k a b => by omega), (fun k a b => by omega), (fun z hz => hz.elim), bb⟩
end Go.Proofs.Ytgbhdccadelcfaa.Sp
