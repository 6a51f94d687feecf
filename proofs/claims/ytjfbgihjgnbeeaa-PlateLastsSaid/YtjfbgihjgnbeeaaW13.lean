/- plate: pages, walked. -/
import Derived.Test.YtjfbgihjgnbeeaaW12
namespace Go.Proofs.Ytjfbgihjgnbeeaa.Pl
open Go Go.RowKit
theorem info31 : (Try.prog.info? 31).map (fun i => (i.zero, i.size, i.bytes)) = some (some (.slice none 0 0), 1, 24) := by kernel_rfl
/-- Headers of pages, each in a block of its own. -/
def Hd (z : Nat) (W : World) (pg : Int → Array Value) (xs : List Value) : Prop := ∀ (j : Nat) (x : Value), xs[j]? = some x → ∃ q, z ≤ q ∧ x = Value.slice (some ⟨q, 0, none⟩) 64 64 ∧ W.heap[q]? = some (.cells (pg j) 82 (0, 0))
theorem Hd.on {W W' : World} {pg : Int → Array Value} {xs : List Value} {z : Nat} (h : Hd z W pg xs) {r : Option Nat} (hg : W.grownBy W' r) (hr : ∀ g, r = some g → ∀ c f, W.heap[g]? ≠ some (.cells c 82 f)) : Hd z W' pg xs := fun j x hx => by
  obtain ⟨q, hz, e, hq⟩ := h j x hx
  exact ⟨q, hz, e, (hg.block q (Array.getElem?_eq_some_iff.1 hq).1 (fun e => hr q e.symm _ _ hq)).trans hq⟩
theorem Hd.alloc {W : World} {pg : Int → Array Value} {xs : List Value} {z : Nat} (h : Hd z W pg xs) (o : Obj) : Hd z (W.alloc o) pg xs := h.on (World.grownBy_alloc W o none) (fun _ e => by cases e)
theorem Hd.below {W W' : World} {pg : Int → Array Value} {xs : List Value} {z : Nat} (h : Hd z W pg xs) (hb : Below W.heap.size W W') : Hd z W' pg xs := h.on (below_grown hb) (fun _ e => by cases e)
theorem Hd.snoc {W : World} {pg : Int → Array Value} {xs : List Value} {z : Nat} (h : Hd z W pg xs) {q : Nat} {k : Nat} (hz : z ≤ q) (hk : xs.length = k) (hq : W.heap[q]? = some (.cells (pg k) 82 (0, 0))) : Hd z W pg (xs ++ [.slice (some ⟨q, 0, none⟩) 64 64]) := fun j x hx => by
  by_cases hj : j < xs.length
  · rw [List.getElem?_append_left hj] at hx
    exact h j x hx
  · rw [List.getElem?_append_right (by omega)] at hx
    have hl := (List.getElem?_eq_some_iff.1 hx).1
    simp only [List.length_singleton] at hl
    have e : j = k := by omega
    subst e
    rw [hk, Nat.sub_self] at hx
    simp only [List.getElem?_cons_zero, Option.some.injEq] at hx
    exact ⟨q, hz, hx.symm, hq⟩
theorem own_not82 {w : World} {base k : Nat} {v : Value} {xs : List Value} (h : w.ownsRow base 31 1 v k xs) : ∀ g, v.ownBlock = some g → ∀ c f, w.heap[g]? ≠ some (.cells c 82 f) := by
  intro g e c f hc
  rcases h.2 with ⟨rfl, _⟩ | ⟨g', cap, cur, rfl, _, hg, _⟩
  · simp [Value.ownBlock] at e
  · have : g' = g := by simpa [Value.ownBlock] using e
    subst this
    rw [hg] at hc
    cases hc
/-- The pages got so far. -/
def PgI (w : World) (pg : Int → Array Value) (k : Nat) (v : Value) (W : World) : Prop :=
  ∃ xs : List Value, xs.length = k ∧ W.ownsRow w.heap.size 31 1 v k xs ∧ Hd w.heap.size W pg xs ∧ Below w.heap.size w W
def PagesR (pg : Int → Array Value) (w : World) (e : Ending) (w' : World) : Prop :=
  ∃ v, e = .returned (.tuple #[v, .bool true]) ∧ PgI w pg 8 v w'
set_option maxRecDepth 100000 in
set_option maxHeartbeats 4000000 in
theorem pages_any (b n bm : Nat) (B : Nat) (F : Nat → Prop) (v : Value) (s : PSt) (w : World) (h : PlateAt w B F b n bm v s) (hon : s.off = false) (hN : s.N = 8) :
    Calls Try.prog 14 #[.pointer (some ⟨b, 0, none⟩)] w (PagesR s.pg w) := by
  obtain ⟨i0, hi, hz0, hz1, hz2⟩ := info_parts info31
  have H := Lib.hid h
  have HON := Lib.hid hon
  have c0 := (cells6 h.blk).1
  have HL := Lib.hid (len_at b s.N w c0)
  have HN := Lib.hid hN
  have hI : PgI w s.pg 0 (.slice none 0 0) w := ⟨[], rfl, World.ownsRow_nil _ _ _ _, (fun j x hx => by simp at hx), Below.refl _ _⟩
  have HI := Lib.hid hI
  clear hI h hon c0 hN
  go_enter Try.func14, Try.ntmps14
  go_wp2_with (go_at_call 32; refine HL.out.mono ?_; rintro e _ ⟨rfl, rfl⟩)
  rw [HN.out]
  go_loopw [10, 4] (fun i u wr => ∃ k : Nat, k ≤ 8 ∧ i = .int .i64 k ∧ PgI w s.pg k u wr) (fun i _ _ => 8 - (intOf i).toNat)
  case atStart => exact ⟨0, by omega, rfl, HI.out⟩
  case round =>
    obtain ⟨k, hk, rfl, xs, hx, hown, hH, hB⟩ := hrel
    have HIk := Lib.hid (And.intro hx (And.intro hown (And.intro hH hB)))
    clear HI hx hown hH hB
    by_cases hlt : k < 8
    · have HR := Lib.hid (read_ok b n bm B F v s k wr (H.out.on (below_turned HIk.out.2.2.2 (G := fun j => w.heap.size ≤ j) (fun _ _ h => h)) (fun j hj => by have := H.out.hi j hj; omega)) HON.out (by omega) (by rw [HN.out]; omega))
      go_wp2_with fail
      refine HR.out.mono ?_
      rintro e w2 ⟨rfl, rfl⟩
      have hs : wr.heap.size < wr.heap.size + 1 := by omega
      obtain ⟨hx, hown, hH, hB⟩ := HIk.out
      have ho2 := Lib.hid ((World.ownsRow.alloc hown (.cells (s.pg k) 82)).alloc (.cells #[.slice (some ⟨wr.heap.size, 0, none⟩) 64 64] 31))
      have hH2 := Lib.hid (((hH.alloc (.cells (s.pg k) 82)).snoc (k := k) hB.size hx (heap_alloc_new wr _)).alloc (.cells #[.slice (some ⟨wr.heap.size, 0, none⟩) 64 64] 31))
      have hB2 := Lib.hid ((hB.alloc hB.size (.cells (s.pg k) 82)).alloc (by have := hB.size; simp; omega) (.cells #[.slice (some ⟨wr.heap.size, 0, none⟩) 64 64] 31))
      have HX := Lib.hid hx
      have HNW := Lib.hid (show ∀ (j : Nat) (u : Value), [Value.slice (some ⟨wr.heap.size, 0, none⟩) 64 64][j]? = some u → ((wr.alloc (.cells (s.pg k) 82)).alloc (.cells #[.slice (some ⟨wr.heap.size, 0, none⟩) 64 64] 31)).cell? ((⟨wr.heap.size + 1, 0, none⟩ : Addr).add j) = some u from fun j u hu => by
        have := news_at (wr.alloc (.cells (s.pg k) 82)) #[.slice (some ⟨wr.heap.size, 0, none⟩) 64 64] 31 j u hu
        rwa [World.size_alloc] at this)
      have hsz := hB.size
      clear hx hown hH hB
      go_wp2_with (at_builtin; refine wpList_append_lies _ rfl (.tmp 21) (.tmp 23) 42 rfl w.heap.size 31 i0 _ 1 24 Try.underlying42 hi hz0 hz1 hz2 rfl (by decide) _ k xs rfl ho2.out ⟨wr.heap.size + 1, 0, none⟩ 1 1 [.slice (some ⟨wr.heap.size, 0, none⟩) 64 64] rfl rfl HNW.out (fun u hu => by rw [List.mem_singleton.1 hu]; rfl) (by decide) (by unfold maxLen; omega) (by omega) (by simp; omega) (wr.heap.size + 2) (by simp) ?_; intro g3 c3 w3 hown3 hgrow3 _ _; have HW3 := Lib.hid (show PgI w s.pg (k + 1) (.slice (some ⟨g3, 0, none⟩) (k + 1) c3) w3 from ⟨_, by rw [List.length_append, HX.out]; rfl, hown3, hH2.out.on hgrow3 (own_not82 ho2.out), hB2.out.grown hgrow3 (by simp; omega) (fun k hk => (World.ownsRow.lt ho2.out k hk).1)⟩); clear hown3 hgrow3)
      go_roundw
      case rel => exact ⟨k + 1, by omega, by go_num, HW3.out⟩
      case measure => simp [intOf]; omega
    · obtain rfl : k = 8 := by omega
      go_wp2_with fail
      go_ret2
      exact ⟨_, rfl, xs, HIk.out⟩
end Go.Proofs.Ytjfbgihjgnbeeaa.Pl
