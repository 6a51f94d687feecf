/- graph: who is within so many edges, from either side; the law's in; requests that leave the graph as it is. -/
import Derived.Test.YtafenkepigmcaaaGreatDoorW1
namespace Go.Proofs.YtafenkepigmcaaaGreatDoor.Gr
open Go Go.RowKit YtafenkepigmcaaaGreatDoor.So
theorem OkG.adj {G : GV} (h : OkG G) {x y : Int} (hx : x ∈ adjG G y) : y ∈ adjG G x := by
  unfold adjG at hx ⊢
  rw [mem_keysE (h.rh y)] at hx
  rw [mem_keysE (h.rh x), h.sym x y]
  exact hx
theorem Wi.self (G : GV) (v : Int) : ∀ k, Wi G v k v
  | 0 => rfl
  | k + 1 => .inl (Wi.self G v k)
theorem Wi.front {G : GV} {v y : Int} (hy : y ∈ adjG G v) : ∀ k x, Wi G y k x → Wi G v (k + 1) x
  | 0, x, h => by rw [h]; exact .inr ⟨v, Wi.self G v 0, hy⟩
  | k + 1, x, h => by
    rcases h with h | ⟨z, hz, hx⟩
    · exact .inl (Wi.front hy k x h)
    · exact .inr ⟨z, Wi.front hy k z hz, hx⟩
theorem Wi.symm {G : GV} (h : OkG G) {v : Int} : ∀ k x, Wi G v k x → Wi G x k v
  | 0, x, hw => by rw [hw]; exact rfl
  | k + 1, x, hw => by
    rcases hw with hw | ⟨y, hy, hx⟩
    · exact .inl (Wi.symm h k x hw)
    · exact Wi.front (h.adj hx) k v (Wi.symm h k y hy)
theorem mem_within {G : GV} (h : OkG G) {v : Int} (hv : (getE G v).isSome = true) (k : Nat) (x : Int) : x ∈ withinG G v k ↔ Wi G v k x := by
  unfold withinG
  rw [List.mem_filter, mem_keysE h.rise]
  constructor
  · intro q; simpa using q.2
  · intro q; exact ⟨Wi.there hv h.closed k x q, by simpa using q⟩
theorem OkG.keys40 {G : GV} (h : OkG G) {l : List Int} (hl : l.Pairwise (· < ·)) (hs : ∀ x ∈ l, (getE G x).isSome = true) : l.length ≤ 40 := by
  have := rise_sub hl (show ((List.range 40).map fun i : Nat => (i : Int) + 1).Pairwise (· < ·) by decide) (fun x hx => by
    obtain ⟨y, hy⟩ := Option.isSome_iff_exists.1 (hs x hx)
    have := h.key x y hy
    exact List.mem_map.2 ⟨(x - 1).toNat, List.mem_range.2 (by omega), by omega⟩)
  simpa using this
theorem within_rise {G : GV} (h : OkG G) (v : Int) (k : Nat) : (withinG G v k).Pairwise (· < ·) := (keysE_rise h.rise).filter _
theorem within_40 {G : GV} (h : OkG G) (v : Int) (k : Nat) : (withinG G v k).length ≤ 40 := h.keys40 (within_rise h v k) (fun x hx => by
  unfold withinG at hx
  exact (mem_keysE h.rise x).1 (List.mem_filter.1 hx).1)
/-- What a request for neighbours is answered. -/
def hopE (G : GV) (v : Int) : Int := if numB v = false then 3 else if (getE G v).isSome = false then 6 else 0
noncomputable def hopL (G : GV) (v : Int) (k : Nat) : List Int := if hopE G v = 0 then withinG G v k else []
theorem ans_hops (G : GV) (v : Int) (k : Nat) (hk : k ≤ 8) : ansG G ⟨2, [], v, k, 0⟩ = ⟨hopE G v, 0, [], hopL G v k⟩ ∧ nextG G ⟨2, [], v, k, 0⟩ = G := by
  have hc : chkR ⟨2, [], v, k, 0⟩ = if numB v = false then 3 else 0 := by
    unfold chkR chkOne
    rw [if_neg (show ¬ (2 : Int) = 1 by decide), if_pos (show (2 : Int) = 2 from rfl), if_neg (show ¬ ((k : Int) < 0 ∨ (8 : Int) < k) by omega)]
    simp
  constructor
  · unfold ansG hopL hopE
    rw [hc]
    cases hn : numB v with
    | false => simp
    | true =>
      cases hg : (getE G v).isSome with
      | false => simp
      | true => simp
  · unfold nextG
    rw [hc]
    cases hn : numB v <;> simp
theorem hopE_there {G : GV} (h : OkG G) {v : Int} (hv : (getE G v).isSome = true) : hopE G v = 0 := by
  obtain ⟨x, hx⟩ := Option.isSome_iff_exists.1 hv
  have := h.key v x hx
  unfold hopE numB
  rw [if_neg (by simp; exact this), if_neg (by rw [hv]; simp)]
theorem hopE_no {G : GV} (h : OkG G) {v : Int} (hv : ¬ hopE G v = 0) : getE G v = none := by
  cases hq : getE G v with
  | none => rfl
  | some x => exact absurd (hopE_there h (by rw [hq]; rfl)) hv
theorem hopE_some {G : GV} {v : Int} (hv : hopE G v = 0) : (getE G v).isSome = true := by
  unfold hopE at hv
  split at hv
  · cases hv
  · split at hv
    · cases hv
    · rename_i h; exact Bool.not_eq_false _ ▸ h
set_option maxRecDepth 100000 in
set_option maxHeartbeats 1000000 in
theorem in_any (B : Nat) (v : Value) (n : Nat) (l : List Int) (x : Int) (w : World) (h : w.ownsRow B 23 1 v n (KA.u32s l)) (hn : n = l.length) (hl : l.length ≤ 1000000) : Calls Tryz.prog 32 #[v, .int .u32 x] w fun e w' => e = .returned (.bool (decide (x ∈ l))) ∧ Below w.heap.size w w' := by
  obtain ⟨ao, cap, rfl⟩ := row_slice h
  have hl' : (n : Int) ≤ 1000000 := by omega
  obtain ⟨r, hr⟩ : ∃ r, decide (x ∈ l) = r := ⟨_, rfl⟩
  have HX := Lib.hid (And.intro h (And.intro hn hr))
  rw [hr]
  clear h hn hl hr
  go_enter Tryz.func32, Tryz.ntmps32
  go_wp2_with fail
  go_loopw [9] (fun u wr => ∃ i : Nat, u = .int .i64 i ∧ i ≤ n ∧ Hid ((∀ y ∈ l.take i, y ≠ x) ∧ Below w.heap.size w wr)) (fun u _ => n + 1 - (intOf u).toNat)
  case atStart => exact ⟨0, rfl, Nat.zero_le _, Lib.hid ⟨by simp, .refl _ _⟩⟩
  case round =>
    obtain ⟨i, rfl, hi, HI⟩ := hrel
    by_cases hin : i < n
    · obtain ⟨y, hy⟩ : ∃ y, l[i]? = some y := ⟨_, List.getElem?_eq_getElem (by have := HX.out.2.1; omega)⟩
      obtain ⟨gb, rfl, -, -, hc⟩ := row_cell (row_turned HX.out.1 (below_any (G := fun _ => False) HI.out.2) (fun _ _ h => h)) (k := i) (u := .int .u32 y) (by simp [KA.u32s, hy])
      have hi1 : i + 1 ≤ n := hin
      have HO := Lib.hid hy
      clear hy
      by_cases hyx : y = x
      · have hb : (y == x) = true := by simpa using hyx
        have hr1 : r = true := by rw [← HX.out.2.2, ← hyx]; simpa using List.mem_of_getElem? HO.out
        subst hr1
        clear hyx
        go_wp2_with fail
        go_ret
        exact ⟨rfl, HI.out.2⟩
      · have hb : (y == x) = false := by simpa using hyx
        have HE := Lib.hid (show ∀ z ∈ l.take (i + 1), z ≠ x from fun z hz => by
          rw [List.take_add_one, HO.out] at hz
          rcases List.mem_append.1 hz with hz | hz
          · exact HI.out.1 z hz
          · simp at hz; rw [hz]; exact hyx)
        clear hyx
        go_wp2_with fail
        go_roundw
        case rel => exact ⟨i + 1, by go_num, hi1, Lib.hid ⟨HE.out, HI.out.2⟩⟩
        case measure => simp [intOf] <;> omega
    · have hiE : n = i := by omega
      subst hiE
      have hr1 : r = false := by
        have := HI.out.1
        rw [show l.take n = l by rw [HX.out.2.1]; exact List.take_length] at this
        rw [← HX.out.2.2]
        simpa using fun q => this x q rfl
      subst hr1
      clear hin hi
      go_wp2_with fail
      go_ret
      exact ⟨rfl, HI.out.2⟩
/-- The graph through requests that leave it as it is; the blocks of K stay, as they were in wb. -/
def HopsAt (w : World) (g : Nat) (G : GV) (K : Nat → Prop) (wb : World) (i : Nat) (wr : World) : Prop := ∃ F n, Gp wr n F g G ∧ 40 ≤ n ∧ n ≤ 2000 + 24 * i ∧ (∀ k, F k → w.heap.size ≤ k ∧ ¬ K k) ∧ Below w.heap.size w wr ∧ (∀ k, K k → k < wb.heap.size) ∧ Turned (fun k => ¬ K k) wb wr
theorem HopsAt.below {w wb wr w' : World} {g i : Nat} {G : GV} {K : Nat → Prop} (h : HopsAt w g G K wb i wr) (hb : Below wr.heap.size wr w') : HopsAt w g G K wb i w' := by
  obtain ⟨F, n, h1, h2, h3, h4, h5, h6, h7⟩ := h
  exact ⟨F, n, h1.below hb, h2, h3, h4, h5.trans (hb.mono h5.size), h6, h7.then (turned_low hb)⟩
theorem HopsAt.bel {w wb wr : World} {g i : Nat} {G : GV} {K : Nat → Prop} (h : HopsAt w g G K wb i wr) : Below w.heap.size w wr := by
  obtain ⟨F, n, h1, h2, h3, h4, h5, h6, h7⟩ := h
  exact h5
theorem HopsAt.heap {w wb wr : World} {g i : Nat} {G : GV} {K : Nat → Prop} (h : HopsAt w g G K wb i wr) {k : Nat} (hk : K k) : wr.heap[k]? = wb.heap[k]? := by
  obtain ⟨F, n, h1, h2, h3, h4, h5, h6, h7⟩ := h
  exact h7.block k (h6 k hk) (fun q => q hk)
theorem HopsAt.row {w wb wr : World} {g i : Nat} {G : GV} {K : Nat → Prop} (h : HopsAt w g G K wb i wr) {B e size n : Nat} {v : Value} {xs : List Value} (hr : wb.ownsRow B e size v n xs) (hk : ∀ b, v.ownBlock = some b → K b) : wr.ownsRow B e size v n xs := own_on hr (fun b hb => h.heap (hk b hb))
/-- From here on these blocks stay, too. -/
theorem HopsAt.keep {w wb wr : World} {g i : Nat} {G : GV} {K : Nat → Prop} (h : HopsAt w g G K wb i wr) (o : Obj) : HopsAt w g G (fun k => K k ∨ k = wr.heap.size) (wr.alloc o) i (wr.alloc o) := by
  obtain ⟨F, n, h1, h2, h3, h4, h5, h6, h7⟩ := h
  refine ⟨F, n, h1.below ((Below.refl _ wr).alloc (Nat.le_refl _) o), h2, h3, fun k hk => ⟨(h4 k hk).1, ?_⟩, h5.alloc h5.size o, fun k hk => ?_, ⟨rfl, rfl, rfl, Nat.le_refl _, fun _ _ _ => rfl⟩⟩
  · rintro (q | q)
    · exact (h4 k hk).2 q
    · have := gp_lt h1 k hk; omega
  · have hs : (wr.alloc o).heap.size = wr.heap.size + 1 := by simp
    rcases hk with q | q
    · have := h6 k q; have := h7.size; omega
    · omega
def HopPost (w wb wr : World) (g i : Nat) (G : GV) (K : Nat → Prop) (E : Int) (l : List Int) (e : Ending) (w' : World) : Prop :=
  ∃ av cv al cl, e = .returned (.agg #[.int .i64 E, .int .i64 0, .slice av 0 cv, .slice al l.length cl]) ∧ w'.ownsRow wr.heap.size 23 1 (.slice al l.length cl) l.length (KA.u32s l) ∧ HopsAt w g G K wb (i + 1) w' ∧ HopsAt w g G (fun k => K k ∨ (Value.slice al l.length cl).ownBlock = some k) w' (i + 1) w'
theorem HopsAt.ask {w wb wr : World} {g i : Nat} {G : GV} {K : Nat → Prop} (h : HopsAt w g G K wb i wr) (hok : OkG G) (he : Flt.ErrT w) {v : Int} {k : Nat} (hv : In32 v) (hk : k ≤ 8) (hi : i ≤ 100000) :
    Calls Tryz.prog 18 #[.pointer (some ⟨g, 0, none⟩), .agg #[.int .u8 2, .slice none 0 0, .int .u32 v, .int .i64 k, .int .i64 0]] wr (HopPost w wb wr g i G K (hopE G v) (hopL G v k)) := by
  obtain ⟨F, n, h1, h2, h3, h4, h5, h6, h7⟩ := h
  have hd : DoIn wr F n g G ⟨2, [], v, k, 0⟩ none := ⟨h1, h2, by omega, hok.sizes, hok.closed, fun i o hi => (by simp at hi), fun ad e => (by cases e), fun o ho => (by simp at ho), hv, Flt.ErrT.on he h5, fun hf => by have := (h4 _ hf).1; have := World.block_lt_of_cell? _ _ he; omega⟩
  obtain ⟨ea, en⟩ := ans_hops G v k hk
  refine (do_any g n F G ⟨2, [], v, k, 0⟩ none 0 wr hd).mono ?_
  rintro e w' ⟨vv, lv, rfl, ha⟩
  rw [ea, en] at ha
  rw [ea]
  obtain ⟨av, cv, rfl⟩ := row_slice ha.vals
  obtain ⟨al, cl, rfl⟩ := row_slice ha.list
  obtain ⟨F', g1, g2, _, g4⟩ := ha.gr
  have hF' : ∀ j, F' j → w.heap.size ≤ j ∧ ¬ K j := fun j hj => by
    rcases g2 j hj with q | q
    · exact h4 j q
    · refine ⟨by have := h5.size; omega, fun hK => ?_⟩
      have := h6 j hK; have := h7.size; omega
  have hbw : Below w.heap.size w w' := h5.trans (ha.tur.below h5.size (fun j hj => (h4 j hj).1))
  have htt : Turned (fun j => ¬ K j) wb w' := h7.then (ha.tur.mono (fun j hj => (h4 j hj).2))
  refine ⟨av, cv, al, cl, rfl, ha.list, ⟨F', n + 24, g1, by omega, by omega, hF', hbw, h6, htt⟩, ⟨F', n + 24, g1, by omega, by omega, fun j hj => ⟨(hF' j hj).1, ?_⟩, hbw, fun j hj => ?_, ⟨rfl, rfl, rfl, Nat.le_refl _, fun _ _ _ => rfl⟩⟩⟩
  · rintro (q | q)
    · exact (hF' j hj).2 q
    · exact g4 j q hj
  · rcases hj with q | q
    · exact Nat.lt_of_lt_of_le (h6 j q) htt.size
    · exact (row_lt ha.list q).2
theorem LawAt.hops {w wr : World} {g i : Nat} (h : LawAt w g i wr) : ∃ G, OkG G ∧ HopsAt w g G (fun _ => False) wr 0 wr := by
  obtain ⟨F, n, G, h1, h2, h3, h4, h5, h6⟩ := h
  exact ⟨G, h2, F, n, h1, h3, by omega, fun k hk => ⟨h5 k hk, id⟩, h6, fun k hk => hk.elim, ⟨rfl, rfl, rfl, Nat.le_refl _, fun _ _ _ => rfl⟩⟩
theorem HopsAt.there {w wb wr : World} {g i : Nat} {G : GV} {K : Nat → Prop} (h : HopsAt w g G K wb i wr) (hok : OkG G) (hi : i ≤ 100000) {v : Int} {P L : EL Av} (hx : getE G v = some (P, L)) :
    Calls Tryz.prog 24 #[.pointer (some ⟨g, 0, none⟩), .int .u32 v] wr (ThereV v P L wr) := by
  obtain ⟨F, n, h1, h2, h3, h4, h5, h6, h7⟩ := h
  exact vertex_there g n F G v P L wr h1 (by omega) (fun e he => (hok.sizes e he).1) (hok.in32 (by rw [hx]; rfl)) hx
theorem HopsAt.none {w wb wr : World} {g i : Nat} {G : GV} {K : Nat → Prop} {v : Int} (h : HopsAt w g G K wb i wr) (hv : In32 v) (hx : getE G v = none) :
    Calls Tryz.prog 24 #[.pointer (some ⟨g, 0, none⟩), .int .u32 v] wr fun e w' => e = .returned (.agg #[.int .u32 v, .bool false, .slice none 0 0, .slice none 0 0]) ∧ Below wr.heap.size wr w' := by
  obtain ⟨F, n, h1, h2, h3, h4, h5, h6, h7⟩ := h
  exact vertex_none g n F G v wr h1 hx hv
end Go.Proofs.YtafenkepigmcaaaGreatDoor.Gr
