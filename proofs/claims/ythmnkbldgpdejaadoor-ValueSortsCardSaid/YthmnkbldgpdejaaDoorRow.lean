/- What every row of this seat needs: its listed tables, its arguments opened and shut, a world for the witness. -/
import Derived.Test.YthmnkbldgpdejaaDoorCards
import Derived.Test.YthmnkbldgpdejaaDoorTie
import Derived.Test.YthmnkbldgpdejaaDoorW6
import Derived.ProofKit
import Derived.OpenShut
import Derived.LaidMore
import Derived.SevenTiedAt
import Derived.Deep.DeepHandedRow
import Derived.Lib.SmallJoins
import Derived.Stop.Joined
namespace Go.Proofs.YthmnkbldgpdejaaDoor.Val
open Go Go.ChangeShapes Go.WideShapes Go.ChangeAt Go.RowKit Go.Joins Go.ChangeMaps Go.Deep
theorem own : ownKnob Tryd.prog.godebug = none := by kernel_rfl
theorem gPow : Tryd.prog.globalNamed "internal/strconv.uint64pow10" = some 0 := by kernel_rfl
theorem gPowType : (Tryd.prog.globals[0]?).map (·.type) = some 80 := by kernel_rfl
theorem cells80 : Tryd.prog.cellsOf 80 = 20 := by kernel_rfl
theorem cells68 : Tryd.prog.cellsOf 68 = 1 := by kernel_rfl
theorem cells23 : Tryd.prog.cellsOf 23 = 3 := by kernel_rfl
/-- The table of powers stands third on a list. -/
theorem pow_third {W : World} {a b : String × DataW Unit} {rest : List (String × DataW Unit)}
    (h : laidMet Tryd.prog (a :: b :: ("internal/strconv.uint64pow10", Lib.tabData .u64 Lib.pow10Tab) :: rest) W) : Pow W := by
  obtain ⟨ps, ⟨_, _, _, _, _, _, _, _, _, _, ⟨_, _, _, _, _, _, _, _, _, _, ⟨g', t', cs, fuel, p, q, hg', ht', hvar, hd, _, _⟩, _⟩, _⟩, _⟩ := h
  obtain rfl := Option.some.inj (gPow.symm.trans hg')
  obtain rfl := Option.some.inj (gPowType.symm.trans ht')
  unfold Pow Lib.TabIs
  rw [hvar, ← Lib.cells_of_tab Tryd.underlying80 Tryd.underlying68 cells68 cells80 hd]
theorem pow_tab : (Rows.laid_internal_strconv_uint64pow10 (H := Unit)) = Lib.tabData .u64 Lib.pow10Tab := by rfl
section
variable {H : Type} {enc : TypeId × Value → H} {W : World} {spare : Nat → Bool} {held : Bool}
/-- A value that came in: its kind, its number, its text. -/
theorem open_val {b0 base : Nat} {v : Value} {d : DataW H} {p : List MemPlace} (hv : Value.okWide Tryd.prog W .any b0 23 v) (h : DataW.Trod enc Tryd.prog W base spare held 23 v d p) :
    ∃ (k n : Int) (s : ByteArray), v = val k n s ∧ d = .agg [.lit (.int .u8 k), .lit (.int .i64 n), .lit (.string s.data.toList)] ∧ p = [] ∧ s.size ≤ maxLen ∧ (Lit.int .u8 k).wf = true ∧ (Lit.int .i64 n).wf = true := by
  obtain ⟨v0, v1, v2, y0, y1, y2, m, rfl, rfl, rfl, t0, t1, t2⟩ := open_agg3 Tryd.underlying23 (by kernel_rfl) cells23 hv h
  obtain ⟨k, e0, x0, w0⟩ := DataW.trod_int Tryd.underlying5 t0
  obtain ⟨n, e1, x1, w1⟩ := DataW.trod_int Tryd.underlying2 t1
  obtain ⟨s, e2, x2, w2⟩ := DataW.trod_string Tryd.underlying9 t2
  simp only [List.cons.injEq, and_true] at e0 e1 e2
  subst e0; subst e1; subst e2; subst x0; subst x1; subst x2
  exact ⟨k, n, s, rfl, rfl, rfl, w2, w0, w1⟩
theorem shut_val {base : Nat} {k n : Int} {s : ByteArray} (hs : s.size ≤ maxLen) (w0 : (Lit.int .u8 k).wf = true) (w1 : (Lit.int .i64 n).wf = true) :
    DataW.Trod enc Tryd.prog W base spare held 23 (val k n s) (.agg [.lit (.int .u8 k), .lit (.int .i64 n), .lit (.string s.data.toList)]) [] :=
  shut_agg3 (y0 := (.lit (.int .u8 k), [])) (y1 := (.lit (.int .i64 n), [])) (y2 := (.lit (.string s.data.toList), [])) Tryd.underlying23 (by kernel_rfl) cells23
    ⟨1, by simp [DataW.trod, Tryd.underlying5, w0]⟩ ⟨1, by simp [DataW.trod, Tryd.underlying2, w1]⟩ ⟨1, by simp [DataW.trod, Tryd.underlying9, hs]⟩
end
/-- THE END OF A LAW: the call answered true, and below what was there nothing has turned: so each argument reads as it read, in whatever was met on the way (pa), and the row's word stands. -/
theorem law_true {H : Type} {enc : TypeId × Value → H} {f : Func} {s : ChangeSpec} {W W' : World} {args : Array Value} {ds : List (DataW H)} {pa : List MemPlace}
    (hvars : s.vars = []) (hres : f.resultTypes = #[4]) (hspec : s.fn H ds = { results := [.lit (.bool true)], args := ds })
    (hW : DataW.Whole enc Tryd.prog f.params.toList s.vars false W args.toList ds [] pa) (hb : Below W.heap.size W W')
    (hargs : ∀ sp : Nat → Bool, (∀ p ∈ pa, sp p.block = true) → DataW.TrodAll enc Tryd.prog W' 0 sp true f.params.toList args.toList ds pa) :
    s.post enc Tryd.prog f false true false false W args (.bool true) W' := by
  have near : ∀ p ∈ pa, p.block < W.heap.size := fun p hp => hW.lt p hp
  have old : ∀ p ∈ pa, (fun b => decide (b < W.heap.size)) p.block = true := fun p hp => decide_eq_true (near p hp)
  have bool4 : ∀ (b : Nat) (sp : Nat → Bool) (hd : Bool), DataW.TrodAll enc Tryd.prog W' b sp hd f.resultTypes.toList ((Value.bool true).resultList f.resultTypes.size) [.lit (.bool true)] [] := by
    intro b sp hd; rw [hres]; exact trodAll_cons_mk (shut_bool Tryd.underlying4 _) trodAll_mk0
  have none4 : ∀ sp : Nat → Bool, DataW.TrodVars enc Tryd.prog W' sp s.vars [] [] := by intro sp; rw [hvars]; rfl
  have e : s.fn H (ds ++ []) = { results := [.lit (.bool true)], args := ds } := by rw [List.append_nil]; exact hspec
  exact ⟨ds, [], pa, [], pa, [], hW, by rw [e]; exact bool4 _ _ _, by rw [e]; exact hargs _ old, by rw [e]; exact none4 _, World.keptBut_mono (fun p hp => ⟨hp, .inr (.inl hp)⟩) (hb.frame (· ∈ pa)), fun h => by cases h⟩
theorem i64_of {n : Int} (h : (Lit.int .i64 n).wf = true) : -9223372036854775808 ≤ n ∧ n ≤ 9223372036854775807 := bounds_i64 h
theorem u8_of {n : Int} (h : (Lit.int .u8 n).wf = true) : 0 ≤ n ∧ n ≤ 255 := bounds_u8 h
/-- The heap that the program's own door leaves. -/
noncomputable def doorW (os : Os) : World := World.doorLaid Tryd.prog 4000 os
theorem door3 (os : Os) (args : Array Value) : laidMet Tryd.prog Rows.valueOrdersRow.laid ((doorW os).forCall (fun _ _ => 0) ⟨#[], args, []⟩).memory :=
  laidMet_of_run' 8 (by kernel_rfl) (by kernel_rfl)
end Go.Proofs.YthmnkbldgpdejaaDoor.Val
