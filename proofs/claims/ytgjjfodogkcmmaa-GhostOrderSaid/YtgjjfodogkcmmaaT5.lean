/- ghost: Of, walked; a map's keys, as a range over a function has them. -/
import Derived.Test.YtgjjfodogkcmmaaT4
import Derived.Test.YtgjjfodogkcmmaaS13
import Derived.RangeFuncNested
import Derived.RangeFuncBound
import Derived.RangeFuncCalls
import Derived.RangeFuncLeaves
import Derived.RangeFuncBox
import Derived.RangeFuncWrites
import Derived.Shelf.Abstract
import Derived.Shelf.RegionOpen
import Derived.WalkKit
import Derived.OwnWalkIn
import Derived.TacticsInMore
import Derived.LoopNIn
import Derived.LoopIn
import Derived.Sort.MapsRangeIn
namespace Go.Proofs.Ytgjjfodogkcmmaa.Gh
open Go Go.RowKit Go.Stop Go.Shelf Ytgjjfodogkcmmaa.So
attribute [local go_sem] Oper.semAt_some
theorem MapV.look_ok {zd : Value} {w : World} {b n : Nat} {V : Int → Option Value} {T E : TypeId} (h : MapV zd w b n V) (hT : Try.prog.underlying T = some (.map 24 E)) (hz : (zeroValue E).run Try.prog w = .ok zd w) {i : Int} (hi : In32 i) : (Instr.lookup T (.map (some b)) (.int .u32 i) true).run Try.prog w = .ok (.tuple #[(V i).getD zd, .bool (V i).isSome]) w := by
  obtain ⟨D, h1, h2⟩ := h
  obtain ⟨v, ps, hrun, hv⟩ := h1.look_ok law24 hT hz (zd := .held zd) (zp := []) rfl (key24 hi)
  rw [(h2 i hi).1] at hv
  rw [hrun, tok_inv hv, (h2 i hi).2]
theorem exec_look79ok {a : Act} {o : Oper} {x y : Operand} (ho : o.op = .lookup 79 x y true) {b n : Nat} {V : Int → Option Value} {i : Int} {w : World} (hx : a.eval x = .map (some b)) (hy : a.eval y = .int .u32 i) (hm : MapV (.slice none 0 0) w b n V) (hi : In32 i) :
    (execOp a.eval o).run Try.prog w = .ok (.value (.tuple #[(V i).getD (.slice none 0 0), .bool (V i).isSome])) w := by
  simp [execOp, ho, hx, hy, hm.look_ok Try.underlying79 (zero37 w) hi, Result.andThen]
/-- How many halves name a vertex that isn't held. -/
def ofG (S : GS) (x : Int) : Nat := if (S.any fun e => e.1 = x) then 0 else cnt S x
theorem any_held (S : GS) (x : Int) : (S.any fun e => e.1 = x) = true ↔ heldG S x := by
  simp [heldG]
theorem of_any (B m p : Nat) (F : Nat → Prop) (S : GS) (x : Int) (w : World) (h : Tl w B m F p S) (hx : In32 x) : Calls Try.prog 24 #[.pointer (some ⟨p, 0, none⟩), .int .u32 x] w fun e w' => e = .returned (.int .i64 (ofG S x)) ∧ w = w' := by
  obtain ⟨a, b, V, hT, hcm⟩ := h
  have cp := hT.cells
  obtain ⟨c0, c1⟩ := cp
  have HF := Lib.hid hT.fars
  have HN := Lib.hid hT.named
  have hg := nV_get (cnt S) x
  cases hv : V x with
  | none =>
    have hh : ¬ heldG S x := by
      rintro ⟨e, he, rfl⟩
      obtain ⟨v, h1, _⟩ := hT.rows e he
      rw [hv] at h1; cases h1
    have ho : ofG S x = cnt S x := by
      unfold ofG; rw [if_neg (fun e => hh ((any_held S x).1 e))]
    rw [ho]
    clear ho hh hT hcm
    go_enter Try.func24, Try.ntmps24
    go_wp2_with (first
      | (refine wpList_value rfl (exec_look79ok (x := .tmp 13) (y := .tmp 14) rfl rfl rfl HF.out hx) ?_; rw [hv])
      | (refine wpList_value rfl (exec_look80 (x := .tmp 22) (y := .tmp 23) rfl rfl rfl HN.out hx) ?_; rw [hg]))
    go_ret
    exact ⟨rfl, rfl⟩
  | some v =>
    have hh : heldG S x := hT.only x hx (by rw [hv]; simp)
    have ho : ofG S x = 0 := by
      unfold ofG; rw [if_pos ((any_held S x).2 hh)]
    rw [ho]
    clear ho hh hT hcm
    go_enter Try.func24, Try.ntmps24
    go_wp2_with (first
      | (refine wpList_value rfl (exec_look79ok (x := .tmp 13) (y := .tmp 14) rfl rfl rfl HF.out hx) ?_; rw [hv]))
    go_ret
    exact ⟨rfl, rfl⟩
/-! ### Keys -/
def KeyIs (D0 : DataW Value) (left : Lit → Bool) (ss : List Int) : Prop := ss.Nodup ∧ ∀ x, In32 x → (x ∈ ss ↔ (Maps.has D0 (.int .u32 x) = true ∧ left (.int .u32 x) = false))
/-- What has come by the end. -/
def AllKeys (D0 : DataW Value) (ss : List Int) : Prop := ss.Nodup ∧ (∀ x ∈ ss, In32 x) ∧ (∀ x, In32 x → (x ∈ ss ↔ Maps.has D0 (.int .u32 x) = true)) ∧ ss.length ≤ Maps.size D0
def encV (x : Int) : Array Value := #[.int .u32 x]
end Go.Proofs.Ytgjjfodogkcmmaa.Gh
