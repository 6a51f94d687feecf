/- credit: a map keyed by numbers, by what it holds. -/
import Derived.Test.YtapofbiflkfocaaA1
namespace Go.Proofs.Ytapofbiflkfocaa.Cr
open Go Go.RowKit
def In64 (i : Int) : Prop := (Lit.int .u64 i).wf = true
theorem in64 {i : Int} (h0 : 0 ≤ i) (h1 : i ≤ 18446744073709551615) : In64 i := by
  simp [In64, Lit.wf, show IntKind.u64.min = 0 from rfl, show IntKind.u64.max = 18446744073709551615 from rfl]; omega
theorem law22 : Maps.Keyed Try.prog 22 := Maps.int_keyed Try.underlying22
theorem key22 {i : Int} (h : In64 i) : keyOf Try.prog 22 (.int .u64 i) = some (.int .u64 i) := Maps.keyOf_int_mk Try.underlying22 h
/-- A map in block b, of at most n entries: at each key what V says. -/
def MapN (zd : Value) (w : World) (b n : Nat) (V : Int → Option Value) : Prop :=
  ∃ D, w.ownsMap Try.prog 22 tok b n D ∧ ∀ k, In64 k → D.atKey (.int .u64 k) (.held zd) = .held ((V k).getD zd) ∧ Maps.has D (.int .u64 k) = (V k).isSome
section
variable {zd : Value} {w w' : World} {b n : Nat} {V : Int → Option Value}
theorem MapN.kept {row : Option Nat} (h : MapN zd w b n V) (hg : w.grownBy w' row) (hne : some b ≠ row) : MapN zd w' b n V := by
  obtain ⟨D, h1, h2⟩ := h
  exact ⟨D, h1.kept hg hne, h2⟩
theorem MapN.lt (h : MapN zd w b n V) : b < w.heap.size := by
  obtain ⟨D, h1, _⟩ := h
  exact h1.lt
theorem MapN.mono {m : Nat} (h : MapN zd w b n V) (hn : n ≤ m) : MapN zd w b m V := by
  obtain ⟨D, h1, h2⟩ := h
  exact ⟨D, h1.mono hn, h2⟩
theorem MapN.on {G : Nat → Prop} (h : MapN zd w b n V) (ht : Turned G w w') (hG : ¬ G b) : MapN zd w' b n V := by
  obtain ⟨D, ⟨es, clock, h1, h2, h3, h4⟩, h5⟩ := h
  exact ⟨D, ⟨es, clock, (ht.block b (Array.getElem?_eq_some_iff.1 h1).1 hG).trans h1, h2, h3, h4⟩, h5⟩
theorem MapN.made (zd : Value) (w : World) : MapN zd (w.alloc (.map #[] 0)) w.heap.size 0 (fun _ => none) :=
  ⟨.map [], World.ownsMap_made _ _ _ _, fun _ _ => ⟨rfl, rfl⟩⟩
theorem MapN.look {T E : TypeId} (h : MapN zd w b n V) (hT : Try.prog.underlying T = some (.map 22 E)) (hz : (zeroValue E).run Try.prog w = .ok zd w) {i : Int} (hi : In64 i) : (Instr.lookup T (.map (some b)) (.int .u64 i) false).run Try.prog w = .ok ((V i).getD zd) w := by
  obtain ⟨D, h1, h2⟩ := h
  obtain ⟨v, ps, hrun, hv⟩ := h1.lookup law22 hT hz (zd := .held zd) (zp := []) rfl (key22 hi)
  rw [(h2 i hi).1] at hv
  rw [hrun, tok_inv hv]
end
def updN (V : Int → Option Value) (i : Int) (c : Option Value) : Int → Option Value := fun j => if j = i then c else V j
theorem lit_ne {i j : Int} (h : j ≠ i) : (Lit.int .u64 j) ≠ (Lit.int .u64 i) := fun e => h (by injection e)
theorem own_isMapN {w : World} {b n : Nat} {D : DataW Value} (hD : w.ownsMap Try.prog 22 tok b n D) : Maps.IsMap D := by
  obtain ⟨es, clock, _, _, _, rfl⟩ := hD; exact ⟨_, rfl⟩
theorem MapN.stored {zd : Value} {w w' : World} {b n : Nat} {V : Int → Option Value} {D : DataW Value} {i : Int} {c : Value} (hD : w.ownsMap Try.prog 22 tok b n D)
    (h2 : ∀ k, In64 k → D.atKey (.int .u64 k) (.held zd) = .held ((V k).getD zd) ∧ Maps.has D (.int .u64 k) = (V k).isSome)
    (h : w'.ownsMap Try.prog 22 tok b (n + 1) (D.put (.int .u64 i) (.held c))) : MapN zd w' b (n + 1) (updN V i (some c)) := by
  have hm := own_isMapN hD
  refine ⟨_, h, fun j hj => ?_⟩
  by_cases e : j = i
  · subst e
    rw [Maps.atKey_put_same hm (by trivial)]
    refine ⟨by simp [updN], ?_⟩
    rw [Maps.has_put_same hm (by trivial)]
    simp [updN]
  · rw [Maps.atKey_put_other (lit_ne e)]
    refine ⟨by simp [updN, e, (h2 j hj).1], ?_⟩
    have : Maps.has (D.put (.int .u64 i) (.held c)) (.int .u64 j) = Maps.has D (.int .u64 j) := by rw [Maps.has_put_other (lit_ne e)]
    rw [this, (h2 j hj).2]; simp [updN, e]
theorem MapN.dropped {zd : Value} {w' : World} {b n : Nat} {V : Int → Option Value} {D : DataW Value} {i : Int}
    (h2 : ∀ k, In64 k → D.atKey (.int .u64 k) (.held zd) = .held ((V k).getD zd) ∧ Maps.has D (.int .u64 k) = (V k).isSome)
    (h : w'.ownsMap Try.prog 22 tok b n (D.del (.int .u64 i))) : MapN zd w' b n (updN V i none) := by
  refine ⟨_, h, fun j hj => ?_⟩
  by_cases e : j = i
  · subst e
    rw [Maps.atKey_del_same]
    refine ⟨by simp [updN], ?_⟩
    rw [Maps.has_del_same]
    simp [updN]
  · rw [Maps.atKey_del_other (lit_ne e)]
    refine ⟨by simp [updN, e, (h2 j hj).1], ?_⟩
    have : Maps.has (D.del (.int .u64 i)) (.int .u64 j) = Maps.has D (.int .u64 j) := by rw [Maps.has_del_other (lit_ne e)]
    rw [this, (h2 j hj).2]; simp [updN, e]
end Go.Proofs.Ytapofbiflkfocaa.Cr
