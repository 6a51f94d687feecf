/- commit: the document's node, every, less, walked. -/
import Derived.Test.YtklalpamcfkngaaR2
namespace Go.Proofs.Ytklalpamcfkngaa.Cm
open Go Go.RowKit
/-- The first place of x, or -1. -/
def placeOf (L : List Int) (x : Int) : Int := match L.findIdx? (· == x) with | none => -1 | some k => k
theorem place_at {L : List Int} {x : Int} {k : Nat} (h : L[k]? = some x) (hn : ∀ j y, j < k → L[j]? = some y → y ≠ x) : placeOf L x = k := by
  have hk := (List.getElem?_eq_some_iff.1 h).1
  unfold placeOf
  rw [List.findIdx?_eq_some_iff_getElem.2 ⟨hk, by have := (List.getElem?_eq_some_iff.1 h).2; simp [this], fun j hj => by have := hn j L[j] hj (List.getElem?_eq_getElem (by omega)); simpa using this⟩]
theorem place_none {L : List Int} {x : Int} (hn : ∀ (j : Nat) (y : Int), L[j]? = some y → y ≠ x) : placeOf L x = -1 := by
  unfold placeOf
  rw [List.findIdx?_eq_none_iff.2 (fun y hy => by obtain ⟨j, hj⟩ := List.getElem?_of_mem hy; have := hn j y hj; simpa using this)]
theorem nodesI_len (m : RunM) : (nodesI m).length = nl m := by simp [nodesI, nl]
set_option maxHeartbeats 1000000 in
theorem node_any (c : RC) (x : Int) (w : World) (h : Rd w (some ⟨c.gn, 0, none⟩) (nodesI c.m)) :
    Calls Try.prog 39 #[.agg #[.int .u8 c.t.1, .int .u32 c.t.2.1, .int .u32 c.t.2.2, .slice (some ⟨c.gn, 0, none⟩) (nl c.m) c.cn, .slice (some ⟨c.gy, 0, none⟩) (nl c.m) (nl c.m), .slice (some ⟨c.gd, 0, none⟩) (nl c.m) (nl c.m), .int .i64 c.m.s], .int .u8 x] w fun e w' => e = .returned (.int .i64 (placeOf (nodesI c.m) x)) ∧ Below w.heap.size w w' := by
  obtain ⟨o, ho⟩ : ∃ o, o = Obj.cells #[Value.int .u8 c.t.1, .int .u32 c.t.2.1, .int .u32 c.t.2.2, .slice (some ⟨c.gn, 0, none⟩) (nl c.m) c.cn, .slice (some ⟨c.gy, 0, none⟩) (nl c.m) (nl c.m), .slice (some ⟨c.gd, 0, none⟩) (nl c.m) (nl c.m), .int .i64 c.m.s] 85 := ⟨_, rfl⟩
  have hb0 : Below w.heap.size w (w.alloc o) := (Below.refl _ w).alloc (Nat.le_refl _) _
  have hr := h.on hb0 (Nat.le_refl _)
  subst ho
  have hlen := nodesI_len c.m
  have hl4 := nl_le c.m
  obtain ⟨n, hn⟩ : ∃ n, nl c.m = n := ⟨_, rfl⟩
  rw [hn] at hlen hl4 ⊢
  rw [hn] at hb0 hr
  obtain ⟨L, hL⟩ : ∃ L, nodesI c.m = L := ⟨_, rfl⟩
  rw [hL] at hlen hr ⊢
  have HB := Lib.hid hb0
  have HR := Lib.hid (And.intro hr hlen)
  clear h hb0 hr hlen hn hL
  go_enter Try.func39, Try.ntmps39
  go_wp2
  go_loop [10] (fun u => ∃ k : Nat, k ≤ n ∧ u = .int .i64 k ∧ Hid (∀ j y, j < k → L[j]? = some y → y ≠ x)) (fun u => n - (intOf u).toNat)
  case atStart => exact ⟨0, by omega, rfl, Lib.hid (fun j y hj => by omega)⟩
  case round =>
    obtain ⟨k, hk, rfl, HK⟩ := hrel
    by_cases hlt : k < n
    · obtain ⟨y, hy⟩ : ∃ y, L[k]? = some y := ⟨_, List.getElem?_eq_getElem (by rw [HR.out.2]; exact hlt)⟩
      obtain ⟨b, off, e, _, ck⟩ := HR.out.1 k y hy
      cases e
      rw [Nat.zero_add] at ck
      have HY := Lib.hid hy
      by_cases hyx : y = x
      · have hb : (y == x) = true := by simpa using hyx
        have HE := Lib.hid (show placeOf L x = k from place_at (by rw [← hyx]; exact hy) HK.out)
        clear hy hyx
        go_wp2
        go_ret
        exact ⟨by rw [HE.out]; rfl, HB.out⟩
      · have hb : (y == x) = false := by simpa using hyx
        have HN := Lib.hid (show ∀ j y, j < k + 1 → L[j]? = some y → y ≠ x from fun j z hj hz => by
          by_cases e : j = k
          · subst e; rw [hy] at hz; cases hz; exact hyx
          · exact HK.out j z (by omega) hz)
        clear hy hyx
        go_wp2
        go_round
        case rel => exact ⟨k + 1, by omega, by go_num, HN⟩
        case measure => simp [intOf]; omega
    · obtain rfl : k = n := by omega
      have HE := Lib.hid (show placeOf L x = -1 from place_none (fun j y hj => HK.out j y (by have := (List.getElem?_eq_some_iff.1 hj).1; rw [HR.out.2] at this; exact this) hj))
      go_wp2
      go_ret
      exact ⟨by rw [HE.out]; rfl, HB.out⟩
theorem every_any (g : Nat) (bs : List Bool) (n : Nat) (w : World) (hn : bs.length = n) (hl : n ≤ 1000000) (h : w.heap[g]? = some (.cells (bs.map Value.bool).toArray 4 (0, 0))) :
    Calls Try.prog 40 #[.slice (some ⟨g, 0, none⟩) n n] w fun e w' => e = .returned (.bool (bs.all id)) ∧ w = w' := by
  have hc : ∀ (k : Nat) (b : Bool), bs[k]? = some b → w.cell? ⟨g, k, none⟩ = some (.bool b) := fun k b hb => by
    simp [World.cell?, h, hb]
  have HC := Lib.hid (And.intro hc hn)
  clear hc hn h
  go_enter Try.func40, Try.ntmps40
  go_wp2
  go_loop [7] (fun u => ∃ k : Nat, k ≤ n ∧ u = .int .i64 k ∧ Hid ((bs.take k).all id = true)) (fun u => n - (intOf u).toNat)
  case atStart => exact ⟨0, by omega, rfl, Lib.hid (by simp)⟩
  case round =>
    obtain ⟨k, hk, rfl, HK⟩ := hrel
    by_cases hlt : k < n
    · obtain ⟨b, hb⟩ : ∃ b, bs[k]? = some b := ⟨_, List.getElem?_eq_getElem (by rw [HC.out.2]; exact hlt)⟩
      have ck := HC.out.1 k b hb
      have HBk := Lib.hid hb
      clear hb
      cases b
      · have HE := Lib.hid (show bs.all id = false from by
          rw [Bool.eq_false_iff]
          intro e
          rw [List.all_eq_true] at e
          have := e false (List.mem_of_getElem? HBk.out)
          cases this)
        go_wp2
        go_ret
        exact ⟨by rw [HE.out]; rfl, rfl⟩
      · have HN := Lib.hid (show (bs.take (k + 1)).all id = true by rw [List.take_add_one, HBk.out, List.all_append, HK.out]; rfl)
        go_wp2
        go_round
        case rel => exact ⟨k + 1, by omega, by go_num, HN⟩
        case measure => simp [intOf]; omega
    · obtain rfl : k = n := by omega
      have HE := Lib.hid (show bs.all id = true by have := HK.out; rwa [List.take_of_length_le (by rw [HC.out.2]; exact Nat.le_refl _)] at this)
      go_wp2
      go_ret
      exact ⟨by rw [HE.out]; rfl, rfl⟩
def ltP (x y : TK) : Prop := x.1 < y.1 ∨ x.1 = y.1 ∧ (x.2.1 < y.2.1 ∨ x.2.1 = y.2.1 ∧ x.2.2 < y.2.2)
instance (x y : TK) : Decidable (ltP x y) := by unfold ltP; infer_instance
def ltK (x y : TK) : Bool := decide (ltP x y)
theorem less_any (x y : TK) (w : World) : Calls Try.prog 41 #[.agg #[.int .u8 x.1, .int .u32 x.2.1, .int .u32 x.2.2], .agg #[.int .u8 y.1, .int .u32 y.2.1, .int .u32 y.2.2]] w fun e w' => e = .returned (.bool (ltK x y)) ∧ Below w.heap.size w w' := by
  obtain ⟨a, b, c⟩ := x
  obtain ⟨a', b', c'⟩ := y
  have hb0 : Below w.heap.size w ((w.alloc (.cells #[.int .u8 a, .int .u32 b, .int .u32 c] 33)).alloc (.cells #[.int .u8 a', .int .u32 b', .int .u32 c'] 33)) := ((Below.refl _ w).alloc (Nat.le_refl _) _).alloc (by simp) _
  have HB := Lib.hid hb0
  clear hb0
  unfold ltK ltP
  by_cases h1 : a = a'
  · have e1 : (a != a') = false := by simpa using h1
    by_cases h2 : b = b'
    · have e2 : (b != b') = false := by simpa using h2
      have HD := Lib.hid (show decide (a < a' ∨ a = a' ∧ (b < b' ∨ b = b' ∧ c < c')) = decide (c < c') by apply decide_eq_decide.2; omega)
      clear h1 h2
      go_enter Try.func41, Try.ntmps41
      go_wp2
      go_ret
      exact ⟨by rw [HD.out]; rfl, HB.out⟩
    · have e2 : (b != b') = true := by simpa using h2
      have HD := Lib.hid (show decide (a < a' ∨ a = a' ∧ (b < b' ∨ b = b' ∧ c < c')) = decide (b < b') by apply decide_eq_decide.2; omega)
      clear h1 h2
      go_enter Try.func41, Try.ntmps41
      go_wp2
      go_ret
      exact ⟨by rw [HD.out]; rfl, HB.out⟩
  · have e1 : (a != a') = true := by simpa using h1
    have HD := Lib.hid (show decide (a < a' ∨ a = a' ∧ (b < b' ∨ b = b' ∧ c < c')) = decide (a < a') by apply decide_eq_decide.2; omega)
    clear h1
    go_enter Try.func41, Try.ntmps41
    go_wp2
    go_ret
    exact ⟨by rw [HD.out]; rfl, HB.out⟩
end Go.Proofs.Ytklalpamcfkngaa.Cm
