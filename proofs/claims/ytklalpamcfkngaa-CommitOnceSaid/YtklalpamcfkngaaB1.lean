/- commit: Applied, without, Owing, walked. -/
import Derived.Test.YtklalpamcfkngaaA9
namespace Go.Proofs.Ytklalpamcfkngaa.Cm
open Go Go.RowKit
theorem own_slice {w : World} {B E s : Nat} {v : Value} {n : Nat} {xs : List Value} (h : w.ownsRow B E s v n xs) : ∃ ao cap, v = .slice ao n cap ∧ n ≤ cap ∧ ∀ (i : Nat) (x : Value), xs[i]? = some x → ∃ g, ao = some ⟨g, 0, none⟩ ∧ g < w.heap.size ∧ w.cell? ⟨g, i, none⟩ = some x := by
  rcases h.2 with ⟨rfl, h0⟩ | ⟨g, cap, cur, rfl, h1, h2, h3, h4, h5, h6⟩
  · refine ⟨none, 0, by rw [h0], by omega, fun i x hx => ?_⟩
    have := h.1
    rw [h0] at this
    have : xs = [] := List.eq_nil_of_length_eq_zero (by simpa using this)
    subst this
    simp at hx
  · refine ⟨_, cap, rfl, h3, fun i x hx => ⟨g, rfl, (Array.getElem?_eq_some_iff.1 h2).1, ?_⟩⟩
    have hi : i < n * s := by rw [← h.1]; exact (List.getElem?_eq_some_iff.1 hx).1
    have : cur[i]? = some x := by
      have h7 : (cur.toList.take (n * s))[i]? = some x := by rw [h6]; exact hx
      rw [List.getElem?_take, if_pos hi] at h7
      simpa using h7
    simp [World.cell?, h2, this]
theorem own_base {w : World} {B C E s : Nat} {v : Value} {n : Nat} {xs : List Value} (h : w.ownsRow C E s v n xs) (hB : B ≤ C) : w.ownsRow B E s v n xs := by
  refine ⟨h.1, ?_⟩
  rcases h.2 with h0 | ⟨g, cap, cur, e1, e2, e3⟩
  · exact .inl h0
  · exact .inr ⟨g, cap, cur, e1, Nat.le_trans hB e2, e3⟩
theorem own_obj {W : World} {B E s n : Nat} {v : Value} {xs : List Value} (h : W.ownsRow B E s v n xs) {g : Nat} (hg : v.ownBlock = some g) : B ≤ g ∧ ∃ cur, W.heap[g]? = some (.cells cur E (0, 0)) := by
  rcases h.2 with ⟨e, _⟩ | ⟨g', cap, cur, e, h1, h2, _⟩
  · subst e; simp [Value.ownBlock] at hg
  · subst e
    simp [Value.ownBlock] at hg
    subst hg
    exact ⟨h1, cur, h2⟩
def u8s (L : List Int) : List Value := L.map fun x => .int .u8 x
theorem u8s_len (A : List Int) : (u8s A).length = A.length := by simp [u8s]
theorem u8s_app (A C : List Int) : u8s (A ++ C) = u8s A ++ u8s C := by simp [u8s]
theorem one_u8 (x : Int) : ∀ u ∈ ([.int .u8 x] : List Value), u.oneCell' = true := by
  intro u hu; simp at hu; subst hu; rfl
theorem new1 (v : Value) (w : World) (T : TypeId) : ∀ j u, ([v] : List Value)[j]? = some u → (w.alloc (.cells #[v] T)).cell? ((⟨w.heap.size, 0, none⟩ : Addr).add j) = some u := by
  intro j u h
  match j, h with
  | 0, h => simp at h; subst h; simp [Addr.add, go_sem]
  | j + 1, h => simp at h
theorem info5 : (Try.prog.info? 5).map (fun i => (i.zero, i.size, i.bytes)) = some (some (.int .u8 0), 1, 1) := by kernel_rfl
/-- Those of the first k nodes that are in f and not in g, rising. -/
def wo (f g : Nat → Bool) (k : Nat) : List Int := ((List.range k).filter fun i => f i && !g i).map fun i : Nat => (i : Int)
theorem wo_succ (f g : Nat → Bool) (k : Nat) : wo f g (k + 1) = wo f g k ++ if (f k && !g k) = true then [(k : Int)] else [] := by
  unfold wo
  rw [List.range_succ, List.filter_append, List.map_append]
  by_cases h : (f k && !g k) = true <;> simp [h]
theorem wo_len (f g : Nat → Bool) (k : Nat) : (wo f g k).length ≤ k := by
  unfold wo
  rw [List.length_map]
  exact Nat.le_trans (List.length_filter_le _ _) (by simp)
theorem idx75 (f : Nat → Bool) (w : World) (k : Nat) (hk : k < 4) : (Instr.index 75 (.agg #[.bool (f 0), .bool (f 1), .bool (f 2), .bool (f 3)]) (.int .i64 k)).run Try.prog w = .ok (.bool (f k)) w := by
  have i0 : ∀ (a b c d : Bool) (w : World), (Instr.index 75 (.agg #[.bool a, .bool b, .bool c, .bool d]) (.int .i64 0)).run Try.prog w = .ok (.bool a) w := fun _ _ _ _ _ => by kernel_rfl
  have i1 : ∀ (a b c d : Bool) (w : World), (Instr.index 75 (.agg #[.bool a, .bool b, .bool c, .bool d]) (.int .i64 1)).run Try.prog w = .ok (.bool b) w := fun _ _ _ _ _ => by kernel_rfl
  have i2 : ∀ (a b c d : Bool) (w : World), (Instr.index 75 (.agg #[.bool a, .bool b, .bool c, .bool d]) (.int .i64 2)).run Try.prog w = .ok (.bool c) w := fun _ _ _ _ _ => by kernel_rfl
  have i3 : ∀ (a b c d : Bool) (w : World), (Instr.index 75 (.agg #[.bool a, .bool b, .bool c, .bool d]) (.int .i64 3)).run Try.prog w = .ok (.bool d) w := fun _ _ _ _ _ => by kernel_rfl
  have : k = 0 ∨ k = 1 ∨ k = 2 ∨ k = 3 := by omega
  rcases this with rfl | rfl | rfl | rfl
  · exact i0 _ _ _ _ w
  · exact i1 _ _ _ _ w
  · exact i2 _ _ _ _ w
  · exact i3 _ _ _ _ w
/-- Between two rounds. -/
def WoR (f g : Nat → Bool) (W0 : World) (B k : Nat) (v : Value) (wr : World) : Prop := wr.ownsRow B 5 1 v (wo f g k).length (u8s (wo f g k)) ∧ Below B W0 wr ∧ B ≤ wr.heap.size
set_option maxRecDepth 100000 in
set_option maxHeartbeats 4000000 in
theorem without_any (f g : Nat → Bool) (w : World) :
    Calls Try.prog 37 #[.agg #[.bool (f 0), .bool (f 1), .bool (f 2), .bool (f 3)], .agg #[.bool (g 0), .bool (g 1), .bool (g 2), .bool (g 3)]] w fun e w' => ∃ v, e = .returned v ∧ w'.ownsRow w.heap.size 5 1 v (wo f g 4).length (u8s (wo f g 4)) ∧ Below w.heap.size w w' := by
  obtain ⟨i0, hi0, hz0, hz1, hz2⟩ := info_parts info5
  have HI := Lib.hid (And.intro hi0 (And.intro hz0 (And.intro hz1 hz2)))
  clear hi0 hz0 hz1 hz2
  go_enter Try.func37, Try.ntmps37
  go_wp2
  obtain ⟨W0, hW0⟩ : ∃ W0, (w.alloc (.cells #[.bool (f 0), .bool (f 1), .bool (f 2), .bool (f 3)] 75)).alloc (.cells #[.bool (g 0), .bool (g 1), .bool (g 2), .bool (g 3)] 75) = W0 := ⟨_, rfl⟩
  have hz : W0.heap.size = w.heap.size + 2 := by rw [← hW0]; simp
  have hc : W0.cell? ⟨w.heap.size + 1, 0, none⟩ = some (.bool (g 0)) ∧ W0.cell? ⟨w.heap.size + 1, 1, none⟩ = some (.bool (g 1)) ∧ W0.cell? ⟨w.heap.size + 1, 2, none⟩ = some (.bool (g 2)) ∧ W0.cell? ⟨w.heap.size + 1, 3, none⟩ = some (.bool (g 3)) := by
    rw [← hW0]
    have h := fun i => World.cell?_alloc_new (w.alloc (.cells #[.bool (f 0), .bool (f 1), .bool (f 2), .bool (f 3)] 75)) #[.bool (g 0), .bool (g 1), .bool (g 2), .bool (g 3)] 75 i
    rw [World.size_alloc] at h
    exact ⟨h 0, h 1, h 2, h 3⟩
  have hB0 : Below w.heap.size w W0 := by
    rw [← hW0]
    exact ((Below.refl _ w).alloc (Nat.le_refl _) _).alloc (by simp) _
  rw [hW0]
  have H0 := Lib.hid (show WoR f g W0 (w.heap.size + 2) 0 (.slice none 0 0) W0 from ⟨World.ownsRow_nil _ _ _ _, by rw [← hz]; exact Below.refl _ W0, by rw [hz]; exact Nat.le_refl _⟩)
  have HC := Lib.hid (And.intro hc (And.intro hB0 hz))
  clear hW0 hz hc hB0
  go_loopw [5, 9] (fun v i wr => ∃ k : Nat, k ≤ 4 ∧ i = .int .i64 k ∧ Hid (WoR f g W0 (w.heap.size + 2) k v wr)) (fun _ i _ => 4 - (intOf i).toNat)
  case atStart => exact ⟨0, by omega, rfl, H0⟩
  case round =>
    obtain ⟨k, hk, rfl, HR⟩ := hrel
    clear H0
    by_cases hlt : k < 4
    · have hi := fun w => idx75 f w k hlt
      have hsuc := wo_succ f g k
      have hlen := wo_len f g k
      obtain ⟨ao, cap, rfl, _, _⟩ := own_slice HR.out.1
      have cg : wr.cell? ⟨w.heap.size + 1, k, none⟩ = some (.bool (g k)) := by
        refine (HR.out.2.1.cell (p := ⟨w.heap.size + 1, k, none⟩) (by simp)).trans ?_
        have : k = 0 ∨ k = 1 ∨ k = 2 ∨ k = 3 := by omega
        obtain ⟨⟨h0, h1, h2, h3⟩, _⟩ := HC.out
        rcases this with rfl | rfl | rfl | rfl <;> assumption
      obtain ⟨fk, hfk⟩ : ∃ fk, f k = fk := ⟨_, rfl⟩
      obtain ⟨gk, hgk⟩ : ∃ gk, g k = gk := ⟨_, rfl⟩
      rw [hfk, hgk] at hsuc
      rw [hgk] at cg
      rw [hfk] at hi
      obtain ⟨l, hl⟩ : ∃ l, wo f g k = l := ⟨_, rfl⟩
      have HL := Lib.hid hl
      have HS := Lib.hid hsuc
      rw [hl] at hlen
      clear hfk hgk hsuc hl
      cases fk
      · go_wp2
        go_roundw
        case rel => exact ⟨k + 1, by omega, by go_num, Lib.hid (by have h := HS.out; simp at h; have h2 := HR.out; unfold WoR at h2 ⊢; rw [h]; exact h2)⟩
        case measure => simp [intOf]; omega
      · cases gk
        · have hm : IntKind.u8.wrap (k : Int) = k := by simp [IntKind.wrap, IntKind.bits, IntKind.signed]; omega
          have HO := Lib.hid (show wr.ownsRow (w.heap.size + 2) 5 1 (.slice ao l.length cap) l.length (u8s l) from by have h2 := HR.out.1; rw [HL.out] at h2; exact h2)
          rw [HL.out]
          go_wp2_with (at_builtin; refine wpList_append_own _ rfl (.tmp 20) (.tmp 23) 34 rfl (w.heap.size + 2) 5 i0 _ 1 1 Try.underlying34 HI.out.1 HI.out.2.1 HI.out.2.2.1 HI.out.2.2.2 rfl (by decide) (.slice ao l.length cap) l.length (u8s l) rfl (HO.out.alloc _) ⟨wr.heap.size, 0, none⟩ 1 1 [.int .u8 k] rfl rfl (new1 _ wr 5) (one_u8 _) (by unfold maxLen; omega) (by omega) (by have := HR.out.2.2; simp; omega) ?_; intro v3 w3 hown3 hgrow3 hnil3; have HG := Lib.hid (And.intro hown3 hgrow3); clear hown3 hgrow3 hnil3)
          have HN := Lib.hid (show WoR f g W0 (w.heap.size + 2) (k + 1) v3 w3 from by
            have h := HS.out
            simp at h
            rw [HL.out] at h
            unfold WoR
            rw [h, u8s_app, show u8s [(k : Int)] = [.int .u8 k] from rfl]
            refine ⟨by simpa using HG.out.1, (HR.out.2.1.alloc HR.out.2.2 (.cells #[.int .u8 k] 5)).grown HG.out.2 (by have := HR.out.2.2; simp; omega) (fun q e => ?_), Nat.le_trans HR.out.2.2 (Nat.le_trans (by simp) HG.out.2.size)⟩
            exact (own_obj HO.out e).1)
          go_roundw
          case rel => exact ⟨k + 1, by omega, by go_num, HN⟩
          case measure => simp [intOf]; omega
        · go_wp2
          go_roundw
          case rel => exact ⟨k + 1, by omega, by go_num, Lib.hid (by have h := HS.out; simp at h; have h2 := HR.out; unfold WoR at h2 ⊢; rw [h]; exact h2)⟩
          case measure => simp [intOf]; omega
    · obtain rfl : k = 4 := by omega
      go_wp2
      go_ret
      exact ⟨_, rfl, own_base HR.out.1 (by omega), HC.out.2.1.trans (HR.out.2.1.mono (by omega))⟩
/-- What Owing answers. -/
def owL : Option RunM → List Int
  | none => []
  | some m => if m.s = 1 then wo m.n m.v 4 else if m.s = 3 then wo m.n m.a 4 else []
theorem owing_nil (t : TK) (w : World) : Calls Try.prog 16 #[.pointer none, .agg #[.int .u8 t.1, .int .u32 t.2.1, .int .u32 t.2.2]] w fun e w' => e = .returned (.slice none 0 0) ∧ Below w.heap.size w w' := by
  have hb0 := Lib.hid ((Below.refl _ w).alloc (Nat.le_refl _) (.cells #[.int .u8 t.1, .int .u32 t.2.1, .int .u32 t.2.2] 33))
  go_enter Try.func16, Try.ntmps16
  go_wp2_with (go_at_call 34; refine (find_nil t _).mono ?_; rintro e w1 ⟨rfl, hb⟩; have H1 := Lib.hid (hb0.out.trans (hb.mono hb0.out.size)); clear hb)
  go_ret
  exact ⟨rfl, H1.out⟩
def OwR (w : World) (L : List Int) (e : Ending) (w' : World) : Prop := ∃ v, e = .returned v ∧ w'.ownsRow w.heap.size 5 1 v L.length (u8s L) ∧ Below w.heap.size w w'
theorem OwR.nil {w w' : World} (h : Below w.heap.size w w') : OwR w [] (.returned (.slice none 0 0)) w' := ⟨_, rfl, World.ownsRow_nil _ _ _ _, h⟩
theorem OwR.later {w w1 w' : World} {L : List Int} {v : Value} (h : Below w.heap.size w w1) (h2 : w'.ownsRow w1.heap.size 5 1 v L.length (u8s L)) (h3 : Below w1.heap.size w1 w') : OwR w L (.returned v) w' :=
  ⟨v, rfl, own_base h2 h.size, h.trans (h3.mono h.size)⟩
section
variable {w : World} {B n p a b : Nat} {F : Nat → Prop} {R : TK → Option (Nat × RunM)} {RM : TK → Option RunM} {T : TK → Option Int} {t : TK}
set_option maxRecDepth 100000 in
set_option maxHeartbeats 2000000 in
theorem owing_any (h : Bk w B n F p RM T) (ht : InK t) :
    Calls Try.prog 16 #[.pointer (some ⟨p, 0, none⟩), .agg #[.int .u8 t.1, .int .u32 t.2.1, .int .u32 t.2.2]] w fun e w' => OwR w (owL (RM t)) e w' := by
  obtain ⟨a, b, R, h, hRM⟩ := h
  have hb0 := Lib.hid ((Below.refl _ w).alloc (Nat.le_refl _) (.cells #[.int .u8 t.1, .int .u32 t.2.1, .int .u32 t.2.2] 33))
  have H1 := Lib.hid (h.below hb0.out)
  rw [← hRM t ht]
  clear h hRM
  cases hR : R t with
  | none =>
    have HR := Lib.hid hR
    clear hR
    go_enter Try.func16, Try.ntmps16
    go_wp2_with (go_at_call 34; refine (find_none H1.out ht HR.out).mono ?_; rintro e w1 ⟨rfl, hb⟩; have H2 := Lib.hid (hb0.out.trans (hb.mono hb0.out.size)); clear hb)
    go_ret
    exact OwR.nil H2.out
  | some r =>
    obtain ⟨g, m⟩ := r
    have HR := Lib.hid hR
    clear hR
    simp only [Option.map_some, owL]
    obtain ⟨s, hs⟩ : ∃ s, m.s = s := ⟨_, rfl⟩
    rw [hs]
    have HS := Lib.hid hs
    clear hs
    by_cases h1 : s = 1
    · subst h1
      rw [if_pos rfl]
      go_enter Try.func16, Try.ntmps16
      go_wp2_with (go_at_call 34; refine (find_some H1.out ht HR.out).mono ?_; rintro e w1 ⟨rfl, hb⟩; have H2 := Lib.hid (hb0.out.trans (hb.mono hb0.out.size)); obtain ⟨⟨n0, n1, n2, n3⟩, ⟨v0, v1, v2, v3⟩, _, c12, _⟩ := run_cells ((H1.out.below hb).each t _ ht HR.out).1; rw [HS.out] at c12; clear hb)
      have S0 : (w1.cell? ⟨g, 0, none⟩ = some (.bool (m.n 0)) ∧ w1.cell? ⟨g, 1, none⟩ = some (.bool (m.n 1)) ∧ w1.cell? ⟨g, 2, none⟩ = some (.bool (m.n 2)) ∧ w1.cell? ⟨g, 3, none⟩ = some (.bool (m.n 3))) ∧ (w1.cell? ⟨g, 4, none⟩ = some (.bool (m.v 0)) ∧ w1.cell? ⟨g, 5, none⟩ = some (.bool (m.v 1)) ∧ w1.cell? ⟨g, 6, none⟩ = some (.bool (m.v 2)) ∧ w1.cell? ⟨g, 7, none⟩ = some (.bool (m.v 3))) := ⟨⟨n0, n1, n2, n3⟩, v0, v1, v2, v3⟩
      refine still_tail 8 (by kernel_rfl) (by kernel_rfl) ?_
      simp only [List.take_succ_cons, List.take_zero, List.drop_succ_cons, List.drop_zero]
      repeat still_step
      refine wpStill_nil ?_
      go_wp2_with (go_at_call 37; refine (without_any m.n m.v _).mono ?_; rintro e w2 ⟨v, rfl, ho, hb⟩; have H3 := Lib.hid (OwR.later (H2.out.drew) ho hb); clear ho hb)
      go_ret
      exact H3.out
    · have e1 : (s == 1) = false := by simpa using h1
      rw [if_neg h1]
      by_cases h3 : s = 3
      · subst h3
        rw [if_pos rfl]
        go_enter Try.func16, Try.ntmps16
        go_wp2_with (go_at_call 34; refine (find_some H1.out ht HR.out).mono ?_; rintro e w1 ⟨rfl, hb⟩; have H2 := Lib.hid (hb0.out.trans (hb.mono hb0.out.size)); obtain ⟨⟨n0, n1, n2, n3⟩, _, ⟨v0, v1, v2, v3⟩, c12, _⟩ := run_cells ((H1.out.below hb).each t _ ht HR.out).1; rw [HS.out] at c12; clear hb)
        have S0 : (w1.cell? ⟨g, 0, none⟩ = some (.bool (m.n 0)) ∧ w1.cell? ⟨g, 1, none⟩ = some (.bool (m.n 1)) ∧ w1.cell? ⟨g, 2, none⟩ = some (.bool (m.n 2)) ∧ w1.cell? ⟨g, 3, none⟩ = some (.bool (m.n 3))) ∧ (w1.cell? ⟨g, 8, none⟩ = some (.bool (m.a 0)) ∧ w1.cell? ⟨g, 9, none⟩ = some (.bool (m.a 1)) ∧ w1.cell? ⟨g, 10, none⟩ = some (.bool (m.a 2)) ∧ w1.cell? ⟨g, 11, none⟩ = some (.bool (m.a 3))) := ⟨⟨n0, n1, n2, n3⟩, v0, v1, v2, v3⟩
        refine still_tail 8 (by kernel_rfl) (by kernel_rfl) ?_
        simp only [List.take_succ_cons, List.take_zero, List.drop_succ_cons, List.drop_zero]
        repeat still_step
        refine wpStill_nil ?_
        go_wp2_with (go_at_call 37; refine (without_any m.n m.a _).mono ?_; rintro e w2 ⟨v, rfl, ho, hb⟩; have H3 := Lib.hid (OwR.later (H2.out.drew) ho hb); clear ho hb)
        go_ret
        exact H3.out
      · have e3 : (s == 3) = false := by simpa using h3
        rw [if_neg h3]
        clear h1 h3
        go_enter Try.func16, Try.ntmps16
        go_wp2_with (go_at_call 34; refine (find_some H1.out ht HR.out).mono ?_; rintro e w1 ⟨rfl, hb⟩; have H2 := Lib.hid (hb0.out.trans (hb.mono hb0.out.size)); obtain ⟨⟨n0, n1, n2, n3⟩, ⟨v0, v1, v2, v3⟩, _, c12, _⟩ := run_cells ((H1.out.below hb).each t _ ht HR.out).1; rw [HS.out] at c12; clear hb)
        go_ret
        exact OwR.nil H2.out
end
end Go.Proofs.Ytklalpamcfkngaa.Cm
