/- span: the small functions, the search. -/
import Derived.Test.YtgbhdccadelcfaaProg
import Derived.Test.YtgbhdccadelcfaaChecked
import Derived.WalkKit
import Derived.BigRegion
import Derived.BigQuiet
import Derived.Lib.Hide
import Derived.Lib.OwnBridge
import Derived.Deep.AppendLies
import Derived.Deep.RegionLaw
import Derived.Deep.RegionHeld3
import Derived.OwnWalk
import Derived.IntWalk
import Derived.Laws.CopyOwn
import Derived.Deep.LoopGhost
import Derived.Shelf.Abstract
namespace Go.Proofs.Ytgbhdccadelcfaa.Sp
open Go Go.RowKit
theorem info_parts {P : Program} {t : TypeId} {z : Value} {s b : Nat} (h : (P.info? t).map (fun i => (i.zero, i.size, i.bytes)) = some (some z, s, b)) : ∃ i, P.info? t = some i ∧ i.zero = some z ∧ i.size = s ∧ i.bytes = b := by
  obtain ⟨i, h1, h2⟩ := Option.map_eq_some_iff.1 h
  simp only [Prod.mk.injEq] at h2
  exact ⟨i, h1, h2.1, h2.2.1, h2.2.2⟩
theorem info46 : (Try.prog.info? 46).map (fun i => (i.zero, i.size, i.bytes)) = some (some (.agg #[.int .u32 0, .int .u32 0]), 2, 8) := by kernel_rfl
theorem new_any (w : World) : Calls Try.prog 9 #[] w fun e w' => e = .returned (.pointer (some ⟨w.heap.size, 0, none⟩)) ∧ w' = w.alloc (.cells #[.slice none 0 0] 66) := by
  go_enter Try.func9, Try.ntmps9
  go_wp2
  go_ret
  exact ⟨rfl, rfl⟩
theorem check_ok (p : Nat) (a b : Int) (w : World) (h : a ≤ b) : Calls Try.prog 25 #[.pointer (some ⟨p, 0, none⟩), .int .u32 a, .int .u32 b] w fun e w' => e = .returned (.int .i64 0) ∧ w = w' := by
  have h' : ¬ b < a := by omega
  go_enter Try.func25, Try.ntmps25
  go_wp2
  go_ret
  exact ⟨rfl, rfl⟩
theorem check_arg (v : Value) (a b : Int) (w : World) (h : b < a) : Calls Try.prog 25 #[v, .int .u32 a, .int .u32 b] w fun e w' => e = .returned (.int .i64 1) ∧ w = w' := by
  go_enter Try.func25, Try.ntmps25
  go_wp2
  go_ret
  exact ⟨rfl, rfl⟩
def less1 (n : Int) : Int := if n = 0 then 0 else n - 1
def more1 (n : Int) : Int := if n = 4294967295 then 4294967295 else n + 1
theorem less_any (n : Int) (w : World) (h0 : 0 ≤ n) (h1 : n ≤ 4294967295) : Calls Try.prog 27 #[.int .u32 n] w fun e w' => e = .returned (.int .u32 (less1 n)) ∧ w = w' := by
  by_cases h : n = 0
  · subst h
    go_enter Try.func27, Try.ntmps27
    go_wp2
    go_ret
    exact ⟨rfl, rfl⟩
  · have h' : (n == 0) = false := by simpa using h
    have e : less1 n = n - 1 := by simp [less1, h]
    have hw : IntKind.u32.wrap (n - 1) = n - 1 := by simp [IntKind.wrap, IntKind.bits, IntKind.signed]; omega
    rw [e]
    go_enter Try.func27, Try.ntmps27
    go_wp2
    go_ret
    exact ⟨rfl, rfl⟩
theorem more_any (n : Int) (w : World) (h0 : 0 ≤ n) (h1 : n ≤ 4294967295) : Calls Try.prog 29 #[.int .u32 n] w fun e w' => e = .returned (.int .u32 (more1 n)) ∧ w = w' := by
  by_cases h : n = 4294967295
  · subst h
    go_enter Try.func29, Try.ntmps29
    go_wp2
    go_ret
    exact ⟨rfl, rfl⟩
  · have h' : (n == 4294967295) = false := by simpa using h
    have e : more1 n = n + 1 := by simp [more1, h]
    have hw : IntKind.u32.wrap (n + 1) = n + 1 := by simp [IntKind.wrap, IntKind.bits, IntKind.signed]; omega
    rw [e]
    go_enter Try.func29, Try.ntmps29
    go_wp2
    go_ret
    exact ⟨rfl, rfl⟩
/-- A closure that answers f of a place, below n, whatever has been made since w. -/
def Tells (g : Nat) (c1 c2 : Value) (n : Nat) (f : Nat → Bool) (w : World) : Prop :=
  ∀ (k : Nat) (W : World), k < n → Below w.heap.size w W → Calls Try.prog g #[.int .i64 k, c1, c2] W fun e w' => e = .returned (.bool (f k)) ∧ Below W.heap.size W w'
theorem search_any (g : Nat) (c1 c2 : Value) (n : Nat) (f : Nat → Bool) (w : World) (eg : ∀ args w, (callFunc g args).run Try.prog w = .ok (.enter g args) w) (hn : n ≤ 4611686018427387903) (hf : Tells g c1 c2 n f w) :
    Calls Try.prog 38 #[.int .i64 n, .func (.func g) #[] #[c1, c2]] w fun e w' => ∃ k : Nat, e = .returned (.int .i64 k) ∧ k ≤ n ∧ (k = 0 ∨ f (k - 1) = false) ∧ (k = n ∨ f k = true) ∧ Below w.heap.size w w' := by
  have HF := Lib.hid hf
  clear hf
  go_enter Try.func38, Try.ntmps38
  go_wp2
  go_loopg [5, 6] n (fun kx u v wr => ∃ i j : Nat, u = .int .i64 i ∧ v = .int .i64 j ∧ i ≤ j ∧ j ≤ n ∧ j - i ≤ kx ∧ Hid ((i = 0 ∨ f (i - 1) = false) ∧ (j = n ∨ f j = true)) ∧ Hid (Below w.heap.size w wr))
  case atStart => exact ⟨0, n, rfl, rfl, by omega, by omega, by omega, Lib.hid ⟨.inl rfl, .inl rfl⟩, Lib.hid (Below.refl _ _)⟩
  case round =>
    obtain ⟨i, j, rfl, rfl, hij, hjn, hg, I, B⟩ := hrel
    by_cases hlt : i < j
    · have hc := HF.out ((i + j) / 2) wr (by omega) B.out
      rw [show (((i + j) / 2 : Nat) : Int) = ((i : Int) + (j : Int)) / 2 by omega] at hc
      cases hp : f ((i + j) / 2) <;> rw [hp] at hc
      · have HP := Lib.hid hp
        clear hp
        go_wp2_with (go_at_fn g; refine hc.mono ?_; rintro e w' ⟨rfl, hb⟩; have HB2 := Lib.hid (B.out.trans (hb.mono B.out.size)); clear hb)
        go_roundg (j - ((i + j) / 2 + 1))
        case measure => omega
        case rel => exact ⟨(i + j) / 2 + 1, j, by rw [show ((i : Int) + (j : Int)) / 2 + 1 = (((i + j) / 2 + 1 : Nat) : Int) by omega], rfl, by omega, hjn, Nat.le_refl _, Lib.hid ⟨.inr HP.out, I.out.2⟩, HB2⟩
      · have HP := Lib.hid hp
        clear hp
        go_wp2_with (go_at_fn g; refine hc.mono ?_; rintro e w' ⟨rfl, hb⟩; have HB2 := Lib.hid (B.out.trans (hb.mono B.out.size)); clear hb)
        go_roundg ((i + j) / 2 - i)
        case measure => omega
        case rel => exact ⟨i, (i + j) / 2, rfl, by rw [show ((i : Int) + (j : Int)) / 2 = (((i + j) / 2 : Nat) : Int) by omega], by omega, by omega, Nat.le_refl _, Lib.hid ⟨I.out.1, .inr HP.out⟩, HB2⟩
    · obtain rfl : j = i := by omega
      go_wp2
      go_ret
      exact ⟨j, rfl, hjn, I.out.1, I.out.2, B.out⟩
theorem Below.drewN_refl (w : World) (n : Nat) : Below w.heap.size w (w.drewN n) := ⟨rfl, rfl, rfl, Nat.le_refl _, fun _ _ => rfl⟩
/-- Spans as cells. -/
def fl (L : List (Int × Int)) : List Value := L.flatMap fun t => [.int .u32 t.1, .int .u32 t.2]
theorem fl_len (L : List (Int × Int)) : (fl L).length = L.length * 2 := by
  induction L with
  | nil => rfl
  | cons t L ih => simp only [fl, List.flatMap_cons, List.length_append, List.length_cons, List.length_nil] at ih ⊢; omega
theorem fl_app (L M : List (Int × Int)) : fl (L ++ M) = fl L ++ fl M := by simp [fl]
theorem fl_take (L : List (Int × Int)) (n : Nat) : fl (L.take n) = (fl L).take (n * 2) := by
  induction L generalizing n with
  | nil => simp [fl]
  | cons t L ih =>
    cases n with
    | zero => simp [fl]
    | succ n =>
      have := ih n
      simp only [fl, List.take_succ_cons, List.flatMap_cons] at this ⊢
      rw [this, show (n + 1) * 2 = n * 2 + 2 by omega]
      rfl
theorem fl_drop (L : List (Int × Int)) (n : Nat) : fl (L.drop n) = (fl L).drop (n * 2) := by
  induction L generalizing n with
  | nil => simp [fl]
  | cons t L ih =>
    cases n with
    | zero => simp [fl]
    | succ n =>
      have := ih n
      simp only [fl, List.drop_succ_cons, List.flatMap_cons] at this ⊢
      rw [this, show (n + 1) * 2 = n * 2 + 2 by omega]
      rfl
theorem fl_one (L : List (Int × Int)) : ∀ u ∈ fl L, u.oneCell' = true := by
  intro u hu
  simp only [fl, List.mem_flatMap] at hu
  obtain ⟨t, _, hu⟩ := hu
  simp at hu
  rcases hu with rfl | rfl <;> rfl
theorem fl_at {L : List (Int × Int)} {k : Nat} {t : Int × Int} (h : L[k]? = some t) : (fl L)[k * 2]? = some (.int .u32 t.1) ∧ (fl L)[k * 2 + 1]? = some (.int .u32 t.2) := by
  induction L generalizing k with
  | nil => simp at h
  | cons x L ih =>
    cases k with
    | zero =>
      simp at h
      subst h
      exact ⟨rfl, rfl⟩
    | succ k =>
      have := ih (k := k) (by simpa using h)
      rw [show (k + 1) * 2 = k * 2 + 2 by omega, show k * 2 + 2 + 1 = (k * 2 + 1) + 2 by omega]
      exact this
/-- A set in block p: its spans. -/
def SetAt (w : World) (B p : Nat) (v : Value) (L : List (Int × Int)) : Prop :=
  w.heap[p]? = some (.cells #[v] 66 (0, 0)) ∧ w.ownsRow B 46 2 v L.length (fl L)
theorem cell1 {w : World} {p : Nat} {v : Value} {t : TypeId} (h : w.heap[p]? = some (.cells #[v] t (0, 0))) : w.cell? ⟨p, 0, none⟩ = some v := by simp [World.cell?, h]
theorem own_on {W W' : World} {B e size k : Nat} {v : Value} {xs : List Value} (h : W.ownsRow B e size v k xs) (hs : ∀ g, v.ownBlock = some g → W'.heap[g]? = W.heap[g]?) : W'.ownsRow B e size v k xs := by
  refine ⟨h.1, ?_⟩
  rcases h.2 with h0 | ⟨g, cap, cur, e, e1, e2, e3⟩
  · exact .inl h0
  · exact .inr ⟨g, cap, cur, e, e1, (hs g (by rw [e]; rfl)).trans e2, e3⟩
theorem SetAt.on {w w' : World} {B p : Nat} {v : Value} {L : List (Int × Int)} (h : SetAt w B p v L) (hb : Below w.heap.size w w') : SetAt w' B p v L :=
  ⟨(hb.block p (Array.getElem?_eq_some_iff.1 h.1).1).trans h.1, own_on h.2 (fun g e => hb.block g (World.ownsRow.lt h.2 g e).2)⟩
/-- A slice of a row of the call's own: where it stands. -/
theorem own_slice {w : World} {B n : Nat} {v : Value} {xs : List Value} (h : w.ownsRow B 46 2 v n xs) : ∃ (ao : Option Addr) (cap : Nat), v = .slice ao n cap ∧ n ≤ cap ∧ (ao = none → n = 0 ∧ cap = 0) ∧ (0 < n → ∃ g, ao = some ⟨g, 0, none⟩ ∧ ∀ j u, xs[j]? = some u → w.cell? ⟨g, j, none⟩ = some u) := by
  rcases h.2 with ⟨h0, h1⟩ | ⟨g, cap, cur, h0, h1, h2, h3, _⟩
  · exact ⟨none, 0, by rw [h0, h1], by omega, fun _ => ⟨h1, rfl⟩, fun h => by omega⟩
  · refine ⟨some ⟨g, 0, none⟩, cap, h0, h3, fun e => by (cases e), fun _ => ⟨g, rfl, fun j u hu => ?_⟩⟩
    have := h.cells (g := g) (by rw [h0]; rfl) j u hu
    rwa [Go.WideShapes.add_plain, Nat.zero_add] at this
/-- The closures that the search asks. -/
theorem end_tells (B p : Nat) (v : Value) (L : List (Int × Int)) (x : Int) (w : World) (q1 q2 : Nat) (h : SetAt w B p v L) (h1 : w.cell? ⟨q1, 0, none⟩ = some (.pointer (some ⟨p, 0, none⟩))) (h2 : w.cell? ⟨q2, 0, none⟩ = some (.int .u32 x)) :
    Tells 39 (.pointer (some ⟨q1, 0, none⟩)) (.pointer (some ⟨q2, 0, none⟩)) L.length (fun k => decide (x ≤ (L.getD k (0, 0)).2)) w := by
  intro k W hk hb
  have hW := h.on hb
  obtain ⟨ao, cap, rfl, hnc, _, hcell⟩ := own_slice hW.2
  obtain ⟨g, rfl, hc⟩ := hcell (by omega)
  have ht : L[k]? = some (L.getD k (0, 0)) := by simp [List.getElem?_eq_getElem hk]
  have c1 := hc _ _ (fl_at ht).2
  obtain ⟨t, et⟩ : ∃ t, t = L.getD k (0, 0) := ⟨_, rfl⟩
  have HE := Lib.hid et
  rw [← et] at c1
  have c0 := cell1 hW.1
  have d1 := (hb.cell (World.block_lt_of_cell? w _ h1)).trans h1
  have d2 := (hb.cell (World.block_lt_of_cell? w _ h2)).trans h2
  have hk' : (k : Int) < (L.length : Int) := by omega
  clear hW hc ht h h1 h2 et hcell
  go_enter Try.func39, Try.ntmps39
  go_wp2_with fail
  go_quiet (fail)
  go_wp2_with fail
  go_ret
  exact ⟨by rw [← HE.out]; rfl, Below.drewN_refl W nq⟩
theorem begin_tells (B p : Nat) (v : Value) (L : List (Int × Int)) (x : Int) (w : World) (q1 q2 : Nat) (h : SetAt w B p v L) (h1 : w.cell? ⟨q1, 0, none⟩ = some (.pointer (some ⟨p, 0, none⟩))) (h2 : w.cell? ⟨q2, 0, none⟩ = some (.int .u32 x)) :
    Tells 40 (.pointer (some ⟨q1, 0, none⟩)) (.pointer (some ⟨q2, 0, none⟩)) L.length (fun k => decide (x < (L.getD k (0, 0)).1)) w := by
  intro k W hk hb
  have hW := h.on hb
  obtain ⟨ao, cap, rfl, hnc, _, hcell⟩ := own_slice hW.2
  obtain ⟨g, rfl, hc⟩ := hcell (by omega)
  have ht : L[k]? = some (L.getD k (0, 0)) := by simp [List.getElem?_eq_getElem hk]
  have c1 := hc _ _ (fl_at ht).1
  obtain ⟨t, et⟩ : ∃ t, t = L.getD k (0, 0) := ⟨_, rfl⟩
  have HE := Lib.hid et
  rw [← et] at c1
  have c0 := cell1 hW.1
  have d1 := (hb.cell (World.block_lt_of_cell? w _ h1)).trans h1
  have d2 := (hb.cell (World.block_lt_of_cell? w _ h2)).trans h2
  have hk' : (k : Int) < (L.length : Int) := by omega
  clear hW hc ht h h1 h2 et hcell
  go_enter Try.func40, Try.ntmps40
  go_wp2_with fail
  go_quiet (fail)
  go_wp2_with fail
  go_ret
  exact ⟨by rw [← HE.out]; rfl, Below.drewN_refl W nq⟩
/-- How many spans end ahead of x (in a list that rises). -/
theorem end_any (B p : Nat) (v : Value) (L : List (Int × Int)) (x : Int) (w : World) (h : SetAt w B p v L) (hn : L.length ≤ 4611686018427387903) :
    Calls Try.prog 26 #[.pointer (some ⟨p, 0, none⟩), .int .u32 x] w fun e w' => ∃ k : Nat, e = .returned (.int .i64 k) ∧ k ≤ L.length ∧ (k = 0 ∨ (L.getD (k - 1) (0, 0)).2 < x) ∧ (k = L.length ∨ x ≤ (L.getD k (0, 0)).2) ∧ Below w.heap.size w w' := by
  have hb : Below w.heap.size w ((w.alloc (.cells #[.pointer (some ⟨p, 0, none⟩)] 25)).alloc (.cells #[.int .u32 x] 23)) := ((Below.refl _ _).alloc (Nat.le_refl _) _).alloc (by simp) _
  have h2 := h.on hb
  have e1 : (w.alloc (.cells #[.pointer (some ⟨p, 0, none⟩)] 25)).heap.size = w.heap.size + 1 := by simp
  have hT := end_tells B p v L x _ w.heap.size (w.heap.size + 1) h2 (by
      refine ((World.grownBy_alloc (w.alloc _) _ none).cell_far ⟨w.heap.size, 0, none⟩ (by simp) (by simp)).trans ?_
      rw [World.cell?_alloc_new]; rfl) (by
      have := World.cell?_alloc_new (w.alloc (.cells #[.pointer (some ⟨p, 0, none⟩)] 25)) #[.int .u32 x] 23 0
      rw [e1] at this
      rw [this]; rfl)
  obtain ⟨ao, cap, rfl, hnc, _, _⟩ := own_slice h2.2
  have c0 := cell1 h2.1
  have HS := Lib.hid (search_any 39 _ _ L.length _ _ (fun args w => by kernel_rfl) hn hT)
  have HB := Lib.hid hb
  clear h h2 hb hT
  go_enter Try.func26, Try.ntmps26
  go_wp2_with fail
  refine HS.out.mono ?_
  rintro e w3 ⟨k, rfl, hk, a1, a2, hb3⟩
  have HA := Lib.hid (And.intro a1 (And.intro a2 (HB.out.trans (hb3.mono HB.out.size))))
  clear a1 a2 hb3
  go_wp2_with fail
  go_ret
  obtain ⟨a1, a2, a3⟩ := HA.out
  exact ⟨k, rfl, hk, a1.imp id (fun h => by simpa using h), a2.imp id (fun h => by simpa using h), a3⟩
/-- How many spans begin at x or ahead of it (in a list that rises). -/
theorem begin_any (B p : Nat) (v : Value) (L : List (Int × Int)) (x : Int) (w : World) (h : SetAt w B p v L) (hn : L.length ≤ 4611686018427387903) :
    Calls Try.prog 28 #[.pointer (some ⟨p, 0, none⟩), .int .u32 x] w fun e w' => ∃ k : Nat, e = .returned (.int .i64 k) ∧ k ≤ L.length ∧ (k = 0 ∨ (L.getD (k - 1) (0, 0)).1 ≤ x) ∧ (k = L.length ∨ x < (L.getD k (0, 0)).1) ∧ Below w.heap.size w w' := by
  have hb : Below w.heap.size w ((w.alloc (.cells #[.pointer (some ⟨p, 0, none⟩)] 25)).alloc (.cells #[.int .u32 x] 23)) := ((Below.refl _ _).alloc (Nat.le_refl _) _).alloc (by simp) _
  have h2 := h.on hb
  have e1 : (w.alloc (.cells #[.pointer (some ⟨p, 0, none⟩)] 25)).heap.size = w.heap.size + 1 := by simp
  have hT := begin_tells B p v L x _ w.heap.size (w.heap.size + 1) h2 (by
      refine ((World.grownBy_alloc (w.alloc _) _ none).cell_far ⟨w.heap.size, 0, none⟩ (by simp) (by simp)).trans ?_
      rw [World.cell?_alloc_new]; rfl) (by
      have := World.cell?_alloc_new (w.alloc (.cells #[.pointer (some ⟨p, 0, none⟩)] 25)) #[.int .u32 x] 23 0
      rw [e1] at this
      rw [this]; rfl)
  obtain ⟨ao, cap, rfl, hnc, _, _⟩ := own_slice h2.2
  have c0 := cell1 h2.1
  have HS := Lib.hid (search_any 40 _ _ L.length _ _ (fun args w => by kernel_rfl) hn hT)
  have HB := Lib.hid hb
  clear h h2 hb hT
  go_enter Try.func28, Try.ntmps28
  go_wp2_with fail
  refine HS.out.mono ?_
  rintro e w3 ⟨k, rfl, hk, a1, a2, hb3⟩
  have HA := Lib.hid (And.intro a1 (And.intro a2 (HB.out.trans (hb3.mono HB.out.size))))
  clear a1 a2 hb3
  go_wp2_with fail
  go_ret
  obtain ⟨a1, a2, a3⟩ := HA.out
  exact ⟨k, rfl, hk, a1.imp id (fun h => by simpa using h), a2.imp id (fun h => by simpa using h), a3⟩
end Go.Proofs.Ytgbhdccadelcfaa.Sp
