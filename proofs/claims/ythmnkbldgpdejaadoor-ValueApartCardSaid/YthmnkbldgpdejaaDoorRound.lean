/- Texts and values, there and back. -/
import Derived.Test.YthmnkbldgpdejaaDoorW13
namespace Go.Proofs.YthmnkbldgpdejaaDoor.Val
open Go Go.RowKit
theorem quo_list : ∀ l : List UInt8, 2 ≤ l.length → l.head? = some 39 → l.getLast? = some 39 → 39 :: ((l.drop 1).take (l.length - 2) ++ [39]) = l := by
  intro l h2 hh hl
  cases l with
  | nil => cases hh
  | cons c r =>
    simp only [List.head?_cons, Option.some.injEq] at hh
    have hr : r ≠ [] := fun e => by rw [e] at h2; simp at h2
    have e1 : (c :: r).length - 2 = r.length - 1 := by simp only [List.length_cons]; omega
    have e2 : r.getLast hr = 39 := by
      rw [List.getLast?_cons, List.getLast?_eq_some_getLast hr] at hl
      simpa using hl
    rw [e1, hh]
    show 39 :: (r.take (r.length - 1) ++ [39]) = 39 :: r
    rw [← List.dropLast_eq_take, ← e2, List.dropLast_concat_getLast]
theorem data_inner (s : ByteArray) : (inner s).data.toList = (s.data.toList.drop 1).take (s.size - 2) := by
  show (s.extract 1 (s.size - 1)).data.toList = _
  rw [ByteArray.data_extract, Array.toList_extract]
  simp only [List.extract]
  rw [show s.size - 1 - 1 = s.size - 2 by omega]
theorem data_quo (s : ByteArray) : (q1 ++ s ++ q1).data.toList = 39 :: (s.data.toList ++ [39]) := by
  rw [ByteArray.data_append, ByteArray.data_append]
  simp
theorem wr_quo {s : ByteArray} (hq : quoB s = true) : q1 ++ inner s ++ q1 = s := by
  unfold quoB at hq
  simp only [Bool.and_eq_true, decide_eq_true_iff] at hq
  obtain ⟨h2, hp, hx⟩ := hq
  rw [pre_iff s (by omega), beq_iff_eq] at hp
  rw [suf_iff s (by omega), beq_iff_eq] at hx
  have a : s.data.toList.head? = some 39 := by
    rw [head_data s (by omega), show s[0] = 39 from UInt8.toNat_inj.1 (by show _ = 39; omega)]
  have b : s.data.toList.getLast? = some 39 := by
    rw [last_data s (by omega), show s[s.size - 1] = 39 from UInt8.toNat_inj.1 (by show _ = 39; omega)]
  apply ByteArray.ext
  apply Array.ext'
  rw [data_quo, data_inner]
  have := quo_list _ (by rw [size_data]; exact h2) a b
  rwa [size_data] at this
theorem quo_is {s : ByteArray} : quoB (q1 ++ s ++ q1) = true ∧ inner (q1 ++ s ++ q1) = s := by
  have hd := data_quo s
  have hz : (q1 ++ s ++ q1).size = s.size + 2 := by
    rw [← size_data, hd, ← size_data s]; simp
  constructor
  · unfold quoB
    rw [hd, hz]
    have a : Lib.hasPrefix (39 :: (s.data.toList ++ [39])) [39] = true := by show ([39] : List UInt8).isPrefixOf _ = true; simp [List.isPrefixOf]
    have b : Lib.hasSuffix (39 :: (s.data.toList ++ [39])) [39] = true := by
      show ([39] : List UInt8).isSuffixOf _ = true
      unfold List.isSuffixOf
      simp [List.isPrefixOf]
    rw [a, b]; simp
  · apply ByteArray.ext
    apply Array.ext'
    rw [data_inner, hd, hz, ← size_data s]
    simp
theorem parsed_ok {s : ByteArray} {k n : Int} {b : ByteArray} (h : parsed s = (k, n, b, 0)) :
    formB k n b.data.toList = true ∧ wrB k n b = s ∧ -9223372036854775808 ≤ n ∧ n ≤ 9223372036854775807 := by
  by_cases h0 : s = eno
  · subst h0
    rw [parsed_none] at h
    cases h
    exact ⟨by decide +kernel, rfl, by omega, by omega⟩
  · cases hN : numB s.data.toList with
    | some m =>
      rw [parsed_num h0 hN] at h
      cases h
      obtain ⟨a, c, d⟩ := num_itoa hN
      refine ⟨by unfold formB; simp, ?_, c, d⟩
      unfold wrB
      rw [if_pos rfl, a]
    | none =>
      cases hq : quoB s
      · rw [parsed_not h0 hq hN] at h; cases h
      · rw [parsed_quo h0 hq] at h
        split at h
        · rename_i hf
          cases h
          refine ⟨hf, ?_, by omega, by omega⟩
          unfold wrB
          rw [if_neg (by omega), if_pos rfl]
          exact wr_quo hq
        · cases h
theorem parsed_err (s : ByteArray) : (parsed s).2.2.2 = 0 ∨ parsed s = (0, 0, e0, 5) := by
  unfold parsed
  split
  · exact .inl rfl
  · exact .inr rfl
theorem parsed_wr {k n : Int} {s : ByteArray} (h : formB k n s.data.toList = true) (h0 : -9223372036854775808 ≤ n) (h1 : n ≤ 9223372036854775807) : parsed (wrB k n s) = (k, n, s, 0) := by
  rcases form_kind h with ⟨rfl, rfl, rfl⟩ | ⟨rfl, rfl⟩ | ⟨rfl, rfl, h8⟩
  · exact parsed_none
  · have e : wrB 1 n e0 = ⟨(Lib.itoa n).toArray⟩ := rfl
    have hn : numB (wrB 1 n e0).data.toList = some n := by rw [e]; exact itoa_num h0 h1
    exact parsed_num (fun f => by rw [f] at hn; rw [show numB eno.data.toList = none by decide +kernel] at hn; cases hn) hn
  · have e : wrB 2 0 s = q1 ++ s ++ q1 := rfl
    rw [e]
    have hne : q1 ++ s ++ q1 ≠ eno := fun f => by
      have := congrArg (fun x : ByteArray => x.data.toList) f
      rw [data_quo] at this
      cases this
    rw [parsed_quo hne quo_is.1, quo_is.2, h]
    rfl
end Go.Proofs.YthmnkbldgpdejaaDoor.Val
