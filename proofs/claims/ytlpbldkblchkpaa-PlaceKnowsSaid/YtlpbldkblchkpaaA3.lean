/- place: find, hasNode, among, Owner, Move, Check, walked. -/
import Derived.Test.YtlpbldkblchkpaaA2
namespace Go.Proofs.Ytlpbldkblchkpaa.Pl
open Go Go.RowKit
/-- A vertex that there may be. -/
def okV (v : Int) : Prop := 1 ≤ v ∧ v ≤ 40
instance (v : Int) : Decidable (okV v) := by unfold okV; infer_instance
/-- Its place. -/
def at_ (v : Int) : Nat := (v - 1).toNat
theorem at_lt {v : Int} (h : okV v) : at_ v < 40 := by have := h.1; have := h.2; unfold at_; omega
theorem at_eq {v : Int} (h : okV v) : (at_ v : Int) = v - 1 := by have := h.1; unfold at_; omega
theorem find_bad (b : Nat) (v : Int) (w : World) (h : ¬ okV v) : Calls Try.prog 14 #[.pointer (some ⟨b, 0, none⟩), .int .u32 v] w fun e w' => e = .returned (.tuple #[.pointer none, .int .i64 1]) ∧ w = w' := by
  by_cases h1 : v < 1
  · clear h
    go_enter Try.func14, Try.ntmps14
    go_wp2
    go_ret2
    exact ⟨rfl, rfl⟩
  · have h4 : 40 < v := by unfold okV at h; omega
    clear h
    go_enter Try.func14, Try.ntmps14
    go_wp2
    go_ret2
    exact ⟨rfl, rfl⟩
theorem find_ok (b : Nat) (v : Int) (w : World) (h : okV v) : Calls Try.prog 14 #[.pointer (some ⟨b, 0, none⟩), .int .u32 v] w fun e w' => e = .returned (.tuple #[.pointer (some ⟨b, 1 + at_ v * 3, none⟩), .int .i64 0]) ∧ w = w' := by
  obtain ⟨i, hi, hv⟩ : ∃ i : Nat, i < 40 ∧ v = (i : Int) + 1 := ⟨at_ v, at_lt h, by have := at_eq h; omega⟩
  have he : at_ v = i := by unfold at_; omega
  rw [he]
  subst hv
  clear he h
  have e1 : IntKind.u32.wrap ((i : Int) + 1 - 1) = (i : Int) := by simp [IntKind.wrap, IntKind.bits, IntKind.signed]; omega
  have h1 : ¬ ((i : Int) + 1 < 1) := by omega
  have h2 : ¬ (40 < (i : Int) + 1) := by omega
  have h3 : (i : Int) < 40 := by omega
  go_enter Try.func14, Try.ntmps14
  go_wp2
  go_ret2
  exact ⟨rfl, rfl⟩
theorem has_node {w : World} {b : Nat} {n : Int} {G : Nat → Ent} (h : DirAt w b n G) (x : Int) (x0 : 0 ≤ x) (x1 : x ≤ 255) : Calls Try.prog 15 #[.pointer (some ⟨b, 0, none⟩), .int .u8 x] w fun e w' => e = .returned (.bool (decide (x < n))) ∧ w = w' := by
  have c := h.head
  have ex : wrap64 x = x := by unfold wrap64; omega
  clear h
  go_enter Try.func15, Try.ntmps15
  go_wp2
  go_ret
  exact ⟨rfl, rfl⟩
def amongR (n v x : Int) (b : Nat) : Value := if x < n ∧ okV v then .tuple #[.pointer (some ⟨b, 1 + at_ v * 3, none⟩), .int .i64 0] else .tuple #[.pointer none, .int .i64 1]
theorem among_any {w : World} {b : Nat} {n : Int} {G : Nat → Ent} (h : DirAt w b n G) (v x : Int) (x0 : 0 ≤ x) (x1 : x ≤ 255) : Calls Try.prog 13 #[.pointer (some ⟨b, 0, none⟩), .int .u32 v, .int .u8 x] w fun e w' => e = .returned (amongR n v x b) ∧ w = w' := by
  have hn := has_node h x x0 x1
  by_cases hx : x < n
  · rw [decide_eq_true hx] at hn
    by_cases hv : okV v
    · have hr : amongR n v x b = .tuple #[.pointer (some ⟨b, 1 + at_ v * 3, none⟩), .int .i64 0] := if_pos ⟨hx, hv⟩
      rw [hr]
      have hf := find_ok b v w hv
      clear hr hx hv h
      go_enter Try.func13, Try.ntmps13
      go_wp2_with (first | (go_at_call 15; refine hn.mono ?_; rintro e w1 ⟨rfl, rfl⟩) | (go_at_call 14; refine hf.mono ?_; rintro e w1 ⟨rfl, rfl⟩))
      go_ret2
      exact ⟨rfl, rfl⟩
    · have hr : amongR n v x b = .tuple #[.pointer none, .int .i64 1] := if_neg (fun h => hv h.2)
      rw [hr]
      have hf := find_bad b v w hv
      clear hr hx hv h
      go_enter Try.func13, Try.ntmps13
      go_wp2_with (first | (go_at_call 15; refine hn.mono ?_; rintro e w1 ⟨rfl, rfl⟩) | (go_at_call 14; refine hf.mono ?_; rintro e w1 ⟨rfl, rfl⟩))
      go_ret2
      exact ⟨rfl, rfl⟩
  · rw [decide_eq_false hx] at hn
    have hr : amongR n v x b = .tuple #[.pointer none, .int .i64 1] := if_neg (fun h => hx h.1)
    rw [hr]
    clear hr hx h
    go_enter Try.func13, Try.ntmps13
    go_wp2_with (go_at_call 15; refine hn.mono ?_; rintro e w1 ⟨rfl, rfl⟩)
    go_ret2
    exact ⟨rfl, rfl⟩
/-- What Move answers. -/
def moveE (n : Int) (G : Nat → Ent) (v x ep : Int) : Int := if ¬ (x < n ∧ okV v) then 1 else if ep ≤ (G (at_ v)).2.2 then 15 else 0
def moveG (n : Int) (G : Nat → Ent) (v x ep : Int) : Nat → Ent := if moveE n G v x ep = 0 then put G (at_ v) ((G (at_ v)).1, x, ep) else G
theorem set_same {α : Type} {L : List α} {i : Nat} {x : α} (h : L[i]? = some x) : L.set i x = L := by
  apply List.ext_getElem?
  intro j
  by_cases e : i = j
  · subst e; rw [List.getElem?_set_self (List.getElem?_eq_some_iff.1 h).1, h]
  · rw [List.getElem?_set_ne e]
theorem DirAt.put2 {w : World} {b : Nat} {n : Int} {G : Nat → Ent} (h : DirAt w b n G) {v : Nat} (hv : v < 40) (x ep : Int) : DirAt ((w.setCell ⟨b, 1 + v * 3 + 1, none⟩ (.int .u8 x)).setCell ⟨b, 1 + v * 3 + 2, none⟩ (.int .u32 ep)) b n (put G v ((G v).1, x, ep)) := by
  have h3 := h.put3 hv ((G v).1, x, ep)
  have hc : (dirL n G)[1 + v * 3]? = some (.int .u32 (G v).1) := by
    have := fl_at (rows_at G hv) 0 (by omega)
    rw [show 1 + v * 3 = (v * 3 + 0) + 1 by omega]
    exact this
  unfold DirAt at h h3 ⊢
  rw [set_block (set_block (set_block h))] at h3
  rw [set_block (set_block h), ← h3]
  have : (dirL n G).toArray.setIfInBounds (1 + v * 3) (.int .u32 (G v).1) = (dirL n G).toArray := by
    simp only [List.setIfInBounds_toArray]
    rw [set_same hc]
  rw [this]
theorem move_any {w : World} {b : Nat} {n : Int} {G : Nat → Ent} (h : DirAt w b n G) (v x ep : Int) (x0 : 0 ≤ x) (x1 : x ≤ 255) : Calls Try.prog 8 #[.pointer (some ⟨b, 0, none⟩), .int .u32 v, .int .u8 x, .int .u32 ep] w fun e w' => e = .returned (.int .i64 (moveE n G v x ep)) ∧ DirAt w' b n (moveG n G v x ep) ∧ Did b w w' := by
  have ha := among_any h v x x0 x1
  by_cases hx : x < n ∧ okV v
  · have hr : amongR n v x b = .tuple #[.pointer (some ⟨b, 1 + at_ v * 3, none⟩), .int .i64 0] := if_pos hx
    rw [hr] at ha
    obtain ⟨c0, c1, c2⟩ := h.cell (at_lt hx.2)
    by_cases he : ep ≤ (G (at_ v)).2.2
    · have h1 : moveE n G v x ep = 15 := by unfold moveE; rw [if_neg (not_not_intro hx), if_pos he]
      have h2 : moveG n G v x ep = G := by unfold moveG; rw [h1]; rfl
      rw [h1, h2]
      have H := Lib.hid h
      clear h1 h2 hr hx h c0 c1
      go_enter Try.func8, Try.ntmps8
      go_wp2_with (go_at_call 13; refine ha.mono ?_; rintro e w1 ⟨rfl, rfl⟩)
      go_ret
      exact ⟨rfl, H.out, .refl _ _⟩
    · have h1 : moveE n G v x ep = 0 := by unfold moveE; rw [if_neg (not_not_intro hx), if_neg he]
      have h2 : moveG n G v x ep = put G (at_ v) ((G (at_ v)).1, x, ep) := by unfold moveG; rw [h1]; rfl
      rw [h1, h2]
      have f := fun j => h.free j
      have H := Lib.hid (h.put2 (at_lt hx.2) x ep)
      clear h1 h2 hr hx h
      go_enter Try.func8, Try.ntmps8
      go_wp2_with (go_at_call 13; refine ha.mono ?_; rintro e w1 ⟨rfl, rfl⟩)
      go_ret
      refine ⟨rfl, H.out, ?_⟩
      · exact (turned_set _ _ _ _).then (turned_set _ _ _ _)
  · have hr : amongR n v x b = .tuple #[.pointer none, .int .i64 1] := if_neg hx
    rw [hr] at ha
    have h1 : moveE n G v x ep = 1 := by unfold moveE; rw [if_pos hx]
    have h2 : moveG n G v x ep = G := by unfold moveG; rw [h1]; rfl
    rw [h1, h2]
    have H := Lib.hid h
    clear h1 h2 hr hx h
    go_enter Try.func8, Try.ntmps8
    go_wp2_with (go_at_call 13; refine ha.mono ?_; rintro e w1 ⟨rfl, rfl⟩)
    go_ret
    exact ⟨rfl, H.out, .refl _ _⟩
/-- What Check answers. -/
def checkE (n : Int) (G : Nat → Ent) (v x ep : Int) : Int := if ¬ (x < n ∧ okV v) then 1 else if (G (at_ v)).2.1 ≠ x then 6 else if (G (at_ v)).2.2 ≠ ep then 15 else 0
theorem check_any {w : World} {b : Nat} {n : Int} {G : Nat → Ent} (h : DirAt w b n G) (v x ep : Int) (x0 : 0 ≤ x) (x1 : x ≤ 255) : Calls Try.prog 12 #[.pointer (some ⟨b, 0, none⟩), .int .u32 v, .int .u8 x, .int .u32 ep] w fun e w' => e = .returned (.int .i64 (checkE n G v x ep)) ∧ w = w' := by
  have ha := among_any h v x x0 x1
  by_cases hx : x < n ∧ okV v
  · have hr : amongR n v x b = .tuple #[.pointer (some ⟨b, 1 + at_ v * 3, none⟩), .int .i64 0] := if_pos hx
    rw [hr] at ha
    obtain ⟨c0, c1, c2⟩ := h.cell (at_lt hx.2)
    by_cases ho : (G (at_ v)).2.1 = x
    · by_cases he : (G (at_ v)).2.2 = ep
      · have h1 : checkE n G v x ep = 0 := by unfold checkE; rw [if_neg (not_not_intro hx), if_neg (not_not_intro ho), if_neg (not_not_intro he)]
        rw [h1]
        rw [ho] at c1
        rw [he] at c2
        clear h1 hr hx h c0 ho he
        go_enter Try.func12, Try.ntmps12
        go_wp2_with (go_at_call 13; refine ha.mono ?_; rintro e w1 ⟨rfl, rfl⟩)
        go_ret
        exact ⟨rfl, rfl⟩
      · have h1 : checkE n G v x ep = 15 := by unfold checkE; rw [if_neg (not_not_intro hx), if_neg (not_not_intro ho), if_pos he]
        rw [h1]
        rw [ho] at c1
        have eb : ((G (at_ v)).2.2 == ep) = false := by simpa using he
        clear h1 hr hx h c0 ho he
        go_enter Try.func12, Try.ntmps12
        go_wp2_with (go_at_call 13; refine ha.mono ?_; rintro e w1 ⟨rfl, rfl⟩)
        go_ret
        exact ⟨rfl, rfl⟩
    · have h1 : checkE n G v x ep = 6 := by unfold checkE; rw [if_neg (not_not_intro hx), if_pos ho]
      rw [h1]
      have eb : ((G (at_ v)).2.1 == x) = false := by simpa using ho
      clear h1 hr hx h c0 ho
      go_enter Try.func12, Try.ntmps12
      go_wp2_with (go_at_call 13; refine ha.mono ?_; rintro e w1 ⟨rfl, rfl⟩)
      go_ret
      exact ⟨rfl, rfl⟩
  · have hr : amongR n v x b = .tuple #[.pointer none, .int .i64 1] := if_neg hx
    rw [hr] at ha
    have h1 : checkE n G v x ep = 1 := by unfold checkE; rw [if_pos hx]
    rw [h1]
    clear h1 hr hx h
    go_enter Try.func12, Try.ntmps12
    go_wp2_with (go_at_call 13; refine ha.mono ?_; rintro e w1 ⟨rfl, rfl⟩)
    go_ret
    exact ⟨rfl, rfl⟩
theorem size37 : (Try.prog.info? 37).map (·.size) = some 3 := by kernel_rfl
theorem res_cell_tmp {fn : Func} {p q : Tmp} (h : fn.results = #[.cell p 37, .tmp q]) (tmps : Array Value) (w : World) (g : Nat) (cs : Array Value) (z : Value) (hp : tmps.getD p undef = .pointer (some ⟨g, 0, none⟩)) (hq : tmps.getD q undef = z) (hg : w.heap[g]? = some (.cells cs 37 (0, 0))) (hs : cs.size = 3) :
    (results fn tmps).run Try.prog w = .ok (.tuple #[.agg cs, z]) w := by
  have hp' : tmps[p]?.getD undef = .pointer (some ⟨g, 0, none⟩) := by simpa using hp
  have hq' : tmps[q]?.getD undef = z := by simpa using hq
  simp [results, h, hp', hq', asAddr, run_loadVar_row w g 37 37 cs (0, 0) _ hg Try.underlying37 rfl (by rw [size37, hs])]
def ev (t : Ent) : Value := .agg #[.int .u32 t.1, .int .u8 t.2.1, .int .u32 t.2.2]
theorem free1 {w : World} {b i : Nat} {cs : Array Value} {t : TypeId} (h : w.heap[b]? = some (.cells cs t (0, 0))) : w.frozen? ⟨b, i, none⟩ = false := by
  simp [World.frozen?, h]
theorem cells3 {w : World} {b : Nat} {x y z : Value} {T : TypeId} (h : w.heap[b]? = some (.cells #[x, y, z] T (0, 0))) : w.cell? ⟨b, 0, none⟩ = some x ∧ w.cell? ⟨b, 1, none⟩ = some y ∧ w.cell? ⟨b, 2, none⟩ = some z := by
  simp [World.cell?, h]
theorem owner_ok {w : World} {b : Nat} {n : Int} {G : Nat → Ent} (h : DirAt w b n G) (v : Int) (hv : okV v) : Calls Try.prog 11 #[.pointer (some ⟨b, 0, none⟩), .int .u32 v] w fun e w' => e = .returned (.tuple #[ev (G (at_ v)), .int .i64 0]) ∧ Below w.heap.size w w' := by
  have hb0 : Below w.heap.size w (w.alloc (.cells #[.int .u32 0, .int .u8 0, .int .u32 0] 37)) := (Below.refl _ _).alloc (Nat.le_refl _) _
  have hz := heap_alloc_new w (.cells #[.int .u32 0, .int .u8 0, .int .u32 0] 37)
  have hf := find_ok b v (w.alloc (.cells #[.int .u32 0, .int .u8 0, .int .u32 0] 37)) hv
  obtain ⟨c0, c1, c2⟩ := (h.on (Z := fun _ => False) (below_any hb0) id).cell (at_lt hv)
  clear h hb0 hz
  go_enter Try.func11, Try.ntmps11
  go_wp2_with (go_at_call 14; refine hf.mono ?_; rintro e w1 ⟨rfl, rfl⟩)
  exact bodyPost_ret (res_cell_tmp rfl _ _ w.heap.size _ (.int .i64 0) rfl rfl (heap_alloc_new _ _) rfl) rfl ⟨rfl, (Below.refl _ _).alloc (Nat.le_refl _) _⟩
end Go.Proofs.Ytlpbldkblchkpaa.Pl
