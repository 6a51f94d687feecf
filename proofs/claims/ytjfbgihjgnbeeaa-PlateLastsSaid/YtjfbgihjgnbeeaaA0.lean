/- plate: pages as values, how they compare, a map of them. -/
import Derived.Test.YtjfbgihjgnbeeaaW1
import Derived.Laws.StructEq
import Derived.ChangeKeysEq
import Derived.Maps.OwnSet
import Derived.Maps.AppendAt
namespace Go.Proofs.Ytjfbgihjgnbeeaa.Pl
open Go Go.RowKit
/-- A byte as a value. -/
def IsByte (x : Value) : Prop := ∃ n : Int, x = .int .u8 n ∧ 0 ≤ n ∧ n ≤ 255
/-- What a page has: 64 bytes. -/
def IsPage (c : Array Value) : Prop := c.size = 64 ∧ ∀ x ∈ c.toList, IsByte x
def Zp : Array Value := (List.replicate 64 (Value.int .u8 0)).toArray
theorem zp_page : IsPage Zp := ⟨by simp [Zp], fun x hx => ⟨0, by simp [Zp] at hx; exact hx, by decide, by decide⟩⟩
theorem IsPage.cell {c : Array Value} (h : IsPage c) {i : Nat} (hi : i < 64) : ∃ n : Int, c[i]? = some (.int .u8 n) ∧ 0 ≤ n ∧ n ≤ 255 := by
  have hs : i < c.size := by rw [h.1]; exact hi
  obtain ⟨n, e, h0, h1⟩ := h.2 c[i] (by simp)
  exact ⟨n, by rw [Array.getElem?_eq_getElem hs, e], h0, h1⟩
theorem IsPage.one {c : Array Value} (h : IsPage c) : c.all (·.oneCell') = true := by
  rw [Array.all_eq_true']
  intro x hx
  obtain ⟨n, rfl, _⟩ := h.2 x (by simpa using hx)
  rfl
theorem IsPage.ones {c : Array Value} (h : IsPage c) : ∀ x ∈ c.toList, x.oneCell' = true := fun x hx => by
  obtain ⟨n, rfl, _⟩ := h.2 x hx
  rfl
theorem info5 : (Try.prog.info? 5).map (fun i => (i.zero, i.size, i.bytes)) = some (some (.int .u8 0), 1, 1) := by kernel_rfl
theorem info82 : (Try.prog.info? 82).map (fun i => (i.zero, i.size, i.bytes)) = some (some (.agg Zp), 64, 64) := by kernel_rfl
theorem size82 : (Try.prog.info? 82).map (·.size) = some 64 := by kernel_rfl
theorem zero82 (w : World) : (zeroValue 82).run Try.prog w = .ok (.agg Zp) w := by kernel_rfl
theorem cells5 : Try.prog.cellsOf 5 = 1 := by kernel_rfl
def num : Option Value → Int
  | some (.int _ n) => n
  | _ => 0
def SameP (xs ys : Array Value) (is : List Nat) : Bool := is.all fun i => num xs[i]? == num ys[i]?
theorem eq_items {xs ys : Array Value} (hx : IsPage xs) (hy : IsPage ys) (d : Nat) (w : World) : ∀ is : List Nat, (∀ i ∈ is, i < 64) → (Op.eqItems (d + 1) 5 1 xs ys is).run Try.prog w = .ok (SameP xs ys is) w
  | [], _ => by simp [Op.eqItems, SameP]
  | i :: is, h => by
    have ih := eq_items hx hy d w is (fun j hj => h j (List.mem_cons_of_mem _ hj))
    obtain ⟨a, ea, _⟩ := hx.cell (h i (List.mem_cons_self ..))
    obtain ⟨b, eb, _⟩ := hy.cell (h i (List.mem_cons_self ..))
    have pa : (part 5 xs (i * 1)).run Try.prog w = .ok (.int .u8 a) w := by rw [Nat.mul_one]; exact run_part_plain w (by kernel_rfl) ea
    have pb : (part 5 ys (i * 1)).run Try.prog w = .ok (.int .u8 b) w := by rw [Nat.mul_one]; exact run_part_plain w (by kernel_rfl) eb
    have pe : (Op.equalIn (d + 1) 5 (.int .u8 a) (.int .u8 b)).run Try.prog w = .ok (a == b) w := by
      simp [Op.equalIn, run_underlying Try.underlying5, Result.andThen]
    simp only [Op.eqItems, Sem.run_bind, pa, pb, pe, Result.andThen_ok]
    have e : SameP xs ys (i :: is) = ((a == b) && SameP xs ys is) := by simp [SameP, ea, eb, num]
    rw [e]
    cases hab : (a == b)
    · simp
    · simpa using ih
theorem same_page {xs ys : Array Value} (hx : IsPage xs) (hy : IsPage ys) : SameP xs ys (List.range 64) = true ↔ xs = ys := by
  simp only [SameP, List.all_eq_true, List.mem_range]
  constructor
  · intro h
    apply Array.ext_getElem?
    intro i
    by_cases hi : i < 64
    · obtain ⟨a, ea, _⟩ := hx.cell hi
      obtain ⟨b, eb, _⟩ := hy.cell hi
      have := h i hi
      rw [ea, eb] at this ⊢
      simp [num] at this
      rw [this]
    · rw [Array.getElem?_eq_none (by rw [hx.1]; omega), Array.getElem?_eq_none (by rw [hy.1]; omega)]
  · rintro rfl i _; simp
/-- Two pages are held against one another. -/
theorem run_page_eq {xs ys : Array Value} (hx : IsPage xs) (hy : IsPage ys) (w : World) : ∃ b, (binOp .eql 82 (.agg xs) (.agg ys)).run Try.prog w = .ok (.bool b) w ∧ (b = true ↔ xs = ys) := by
  obtain ⟨i, hi, _⟩ := info_parts info5
  refine ⟨_, ?_, same_page hx hy⟩
  rw [run_eql_struct, show (10000 : Nat) = 9998 + 1 + 1 from rfl, run_equalIn_array w (9998 + 1) xs ys Try.underlying82 hi, cells5, eq_items hx hy 9998 w _ (fun i hi => List.mem_range.1 hi)]
  rfl
/-- How a map's element reads here. -/
def tok : Value → Option (DataW (Array Value) × List MemPlace)
  | .agg c => some (.held c, [])
  | _ => none
theorem tok_inv {v : Value} {c : Array Value} {ps : List MemPlace} (h : tok v = some (.held c, ps)) : v = .agg c := by
  cases v <;> simp [tok] at h
  rw [h.1]
/-- A place's number is an int. -/
def In64 (i : Int) : Prop := (Lit.int .i64 i).wf = true
/-- The map in block bm has the pages pg; those that are all 00 are not in it. -/
def MapIs (w : World) (bm n : Nat) (pg : Int → Array Value) : Prop :=
  ∃ D, w.ownsMap Try.prog 3 tok bm n D ∧ (∀ i, In64 i → D.atKey (.int .i64 i) (.held Zp) = .held (pg i)) ∧ (∀ i, In64 i → (Maps.has D (.int .i64 i) = true ↔ pg i ≠ Zp)) ∧ ∀ i, IsPage (pg i)
theorem law3 : Maps.Keyed Try.prog 3 := Maps.int_keyed Try.underlying3
theorem MapIs.kept {w w' : World} {bm n : Nat} {pg : Int → Array Value} {row : Option Nat} (h : MapIs w bm n pg) (hg : w.grownBy w' row) (hne : some bm ≠ row) : MapIs w' bm n pg := by
  obtain ⟨D, h1, h2⟩ := h
  exact ⟨D, h1.kept hg hne, h2⟩
theorem MapIs.lt {w : World} {bm n : Nat} {pg : Int → Array Value} (h : MapIs w bm n pg) : bm < w.heap.size := by
  obtain ⟨D, h1, _⟩ := h
  exact h1.lt
theorem MapIs.mono {w : World} {bm n m : Nat} {pg : Int → Array Value} (h : MapIs w bm n pg) (hn : n ≤ m) : MapIs w bm m pg := by
  obtain ⟨D, h1, h2⟩ := h
  exact ⟨D, h1.mono hn, h2⟩
theorem MapIs.made (w : World) : MapIs (w.alloc (.map #[] 0)) w.heap.size 0 (fun _ => Zp) :=
  ⟨.map [], World.ownsMap_made _ _ _ _, fun _ _ => rfl, fun _ _ => by simp [Maps.has], fun _ => zp_page⟩
theorem MapIs.look {w : World} {bm n : Nat} {pg : Int → Array Value} (h : MapIs w bm n pg) {i : Int} (hi : In64 i) : (Instr.lookup 65 (.map (some bm)) (.int .i64 i) false).run Try.prog w = .ok (.agg (pg i)) w := by
  obtain ⟨D, h1, h2, _⟩ := h
  obtain ⟨v, ps, hrun, hv⟩ := h1.lookup law3 Try.underlying65 (zero82 w) (zd := .held Zp) (zp := []) rfl (Maps.keyOf_int_mk Try.underlying3 hi)
  rw [h2 i hi] at hv
  rw [hrun, tok_inv hv]
end Go.Proofs.Ytjfbgihjgnbeeaa.Pl
