/- bag: what there is not; Drop, Hold, Copy. -/
import Derived.Test.YthjcllgjojldjaaA4
namespace Go.Proofs.Ythjcllgjojldjaa.Bg
open Go Go.RowKit
/-- There is no such message. -/
def NoI (P : Value) (i : Int) (w : World) : Prop := Calls Try.prog 25 #[P, .int .i64 i] w fun e w' => e = .returned (.bool false) ∧ w = w'
theorem take_no {a : Option Addr} {i : Int} {w : World} (h : NoI (.pointer a) i w) : Calls Try.prog 17 #[.pointer a, .int .i64 i] w fun e w' => e = .returned (.tuple #[.slice none 0 0, .int .i64 6]) ∧ w = w' := by
  unfold NoI at h
  go_enter Try.func17, Try.ntmps17
  go_wp2_with (refine h.mono ?_; rintro e w' ⟨rfl, rfl⟩)
  exact bodyPost_ret (v := .tuple #[.slice none 0 0, .int .i64 6]) (by simp [results, Try.results17, go_sem]) rfl ⟨rfl, rfl⟩
theorem copy_no {a : Option Addr} {i : Int} {w : World} (h : NoI (.pointer a) i w) : Calls Try.prog 23 #[.pointer a, .int .i64 i] w fun e w' => e = .returned (.tuple #[.slice none 0 0, .int .i64 6]) ∧ w = w' := by
  unfold NoI at h
  go_enter Try.func23, Try.ntmps23
  go_wp2_with (refine h.mono ?_; rintro e w' ⟨rfl, rfl⟩)
  exact bodyPost_ret (v := .tuple #[.slice none 0 0, .int .i64 6]) (by simp [results, Try.results23, go_sem]) rfl ⟨rfl, rfl⟩
theorem drop_no {a : Option Addr} {i : Int} {w : World} (h : NoI (.pointer a) i w) : Calls Try.prog 15 #[.pointer a, .int .i64 i] w fun e w' => e = .returned (.int .i64 6) ∧ w = w' := by
  have h := take_no h
  go_enter Try.func15, Try.ntmps15
  go_wp2_with (refine h.mono ?_; rintro e w' ⟨rfl, rfl⟩)
  go_ret
  exact ⟨rfl, rfl⟩
theorem hold_no {a : Option Addr} {i : Int} {w : World} (h : NoI (.pointer a) i w) : Calls Try.prog 14 #[.pointer a, .int .i64 i] w fun e w' => e = .returned (.int .i64 6) ∧ w = w' := by
  have h := take_no h
  go_enter Try.func14, Try.ntmps14
  go_wp2_with (refine h.mono ?_; rintro e w' ⟨rfl, rfl⟩)
  go_ret
  exact ⟨rfl, rfl⟩
theorem no_nil (i : Int) (w : World) : NoI (.pointer none) i w := has_nil w i
theorem no_out {B : Nat} {w : World} {X : Bx} (h : BagAt 50 B w X) {i : Int} (hi : ¬ (0 ≤ i ∧ i < X.M.length)) : NoI (.pointer (some ⟨X.p, 0, none⟩)) i w := by
  have := has_any h i
  rwa [decide_eq_false hi] at this
/-- What a bag has become. -/
def DidB (T : TypeId) (B : Nat) (X : Bx) (L : List (List Int)) (w w' : World) : Prop :=
  ∃ X' : Bx, X'.p = X.p ∧ X'.M.map Mg.l = L ∧ BagAt T B w' X' ∧ (∀ k, X'.has k → X.has k ∨ w.heap.size ≤ k) ∧ Turned X.top w w'
def restL (L : List (List Int)) (i : Nat) : List (List Int) := L.take i ++ L.drop (i + 1)
theorem rest_L (M : List Mg) (i : Nat) : (M.take i ++ M.drop (i + 1)).map Mg.l = restL (M.map Mg.l) i := by simp [restL]
theorem TakeR.did {B : Nat} {X : Bx} {i : Nat} {w w' : World} {e : Ending} (h : TakeR B X i w e w') : DidB 50 B X (restL (X.M.map Mg.l) i) w w' := by
  obtain ⟨m, v', hm, _, e1, h1, h2, _⟩ := h
  refine ⟨⟨X.p, v', X.M.take i ++ X.M.drop (i + 1)⟩, rfl, rest_L X.M i, h1, fun k hk => .inl ?_, h2⟩
  rcases hk with hk | hk | ⟨m', hm', hk⟩
  · exact .inl hk
  · exact .inr (.inl (e1 ▸ hk))
  · exact .inr (.inr ⟨m', sub_rest hm', hk⟩)
theorem drop_any {B : Nat} {w : World} {X : Bx} (h : BagAt 50 B w X) (i : Nat) (hi : i < X.M.length) : Calls Try.prog 15 #[.pointer (some ⟨X.p, 0, none⟩), .int .i64 i] w fun e w' => e = .returned (.int .i64 0) ∧ DidB 50 B X (restL (X.M.map Mg.l) i) w w' := by
  have ht := take_any h i hi
  clear h
  go_enter Try.func15, Try.ntmps15
  go_wp2_with (fail)
  refine ht.mono ?_
  intro e w' hr
  have hd := Lib.hid hr.did
  obtain ⟨m, v', _, rfl, _⟩ := hr
  go_wp2_with (fail)
  go_ret
  exact ⟨rfl, hd.out⟩
set_option maxHeartbeats 1000000 in
theorem copy_any {B : Nat} {w : World} {X : Bx} (h : BagAt 50 B w X) (i : Nat) (m : Mg) (hm : X.M[i]? = some m) : Calls Try.prog 23 #[.pointer (some ⟨X.p, 0, none⟩), .int .i64 i] w fun e w' => ∃ g c, e = .returned (.tuple #[.slice (some ⟨g, 0, none⟩) m.l.length c, .int .i64 0]) ∧ (Own w' w.heap.size (.slice (some ⟨g, 0, none⟩) m.l.length c) m.l ∧ Rd w' (some ⟨g, 0, none⟩) m.l) ∧ Below w.heap.size w w' := by
  have hmm := h.msg m (List.mem_of_getElem? hm)
  have hC := clone_any ⟨m.g, 0, none⟩ m.l.length m.cap m.l w (by have := hmm.few; omega) rfl hmm.pos hmm.rd
  have hi : i < X.M.length := (List.getElem?_eq_some_iff.1 hm).1
  have hh := has_any h i
  rw [decide_eq_true (show 0 ≤ (i : Int) ∧ (i : Int) < (X.M.length : Int) by omega)] at hh
  obtain ⟨g, cap, hv, _, _, hnc, hcm, hc⟩ := row_at h.row (rowM_at hm)
  have c0 := h.c0
  rw [hv] at c0
  unfold GivesS at hC
  have hfew := h.few
  unfold mv at hc
  clear hmm h hm hv
  generalize hn : X.M.length = n at *
  generalize hl : m.l.length = nl at *
  clear hn
  go_enter Try.func23, Try.ntmps23
  go_wp2_with (fail)
  refine hh.mono ?_
  rintro e w1 ⟨rfl, rfl⟩
  go_wp2_with (fail)
  refine hC.mono ?_
  rintro e w2 ⟨g2, c2, rfl, ho, hb⟩
  have HO := Lib.hid (And.intro ho hb)
  clear ho hb hC hh
  go_wp2_with (fail)
  exact bodyPost_ret (v := .tuple #[.slice (some ⟨g2, 0, none⟩) nl c2, .int .i64 0]) (by simp [results, Try.results23, go_sem]) rfl ⟨g2, c2, rfl, HO.out.1, HO.out.2⟩
theorem take_apart {B : Nat} {w : World} {X : Bx} (h : BagAt 50 B w X) {i : Nat} {m : Mg} (hm : X.M[i]? = some m) {v' : Value} (hv : v'.ownBlock = X.v.ownBlock) : ∀ k, Bx.has ⟨X.p, v', X.M.take i ++ X.M.drop (i + 1)⟩ k → k ≠ m.g := by
  have hmem := List.mem_of_getElem? hm
  intro k hk e
  rcases hk with hk | hk | ⟨m', hm', hk⟩
  · exact h.p_msg (by decide) hmem (by rw [← e, hk])
  · exact msg_row h.row (h.msg m hmem) (by rw [← hv, hk, e])
  · have hd := h.dis
    have he : X.M = X.M.take i ++ m :: X.M.drop (i + 1) := by
      obtain ⟨hlt, hget⟩ := List.getElem?_eq_some_iff.1 hm
      conv => lhs; rw [← List.take_append_drop i X.M, List.drop_eq_getElem_cons hlt, hget]
    rw [he, List.map_append, List.map_cons, List.nodup_append] at hd
    obtain ⟨_, hd2, hd3⟩ := hd
    rw [List.nodup_cons] at hd2
    rcases List.mem_append.1 hm' with hm' | hm'
    · exact hd3 m'.g (List.mem_map.2 ⟨m', hm', rfl⟩) m.g (by simp) (by rw [hk, e])
    · exact hd2.1 (List.mem_map.2 ⟨m', hm', by rw [hk, e]⟩)
theorem rowM_app (M N : List Mg) : rowM (M ++ N) = rowM M ++ rowM N := by simp [rowM]
theorem news_one (w : World) (u : Value) (T : TypeId) : ∀ j x, [u][j]? = some x → (w.alloc (.cells #[u] T)).cell? ((⟨w.heap.size, 0, none⟩ : Addr).add j) = some x := by
  intro j x hx
  match j, hx with
  | 0, hx => simp at hx; subst hx; simp [Addr.add]
theorem ones_mv (m : Mg) : ∀ u ∈ [mv m], u.oneCell' = true := by
  intro u hu
  simp at hu
  subst hu
  rfl
/-- A bag behind an append to its row, and a store of what it answers. -/
theorem put_back {T : TypeId} {B : Nat} {w w1 w2 : World} {X : Bx} {g cap : Nat} (hT : T ≠ 30) (hT5 : T ≠ 5) (h : BagAt T B w X) (m : Mg) (hm : MgAt w1 m) (hmn : ∀ k, X.has k → k ≠ m.g) (hmB : B ≤ m.g) (hb : Turned (fun _ => False) w w1) (hfew : X.M.length < 2000)
    (ho : w2.ownsRow B 30 1 (.slice (some ⟨g, 0, none⟩) (X.M.length + 1) cap) (X.M.length + 1) (rowM X.M ++ [mv m])) (hg : w1.grownBy w2 X.v.ownBlock) (hgn : X.v.ownBlock = some g ∨ w1.heap.size ≤ g) :
    BagAt T B (w2.setCell ⟨X.p, 0, none⟩ (.slice (some ⟨g, 0, none⟩) (X.M.length + 1) cap)) ⟨X.p, .slice (some ⟨g, 0, none⟩) (X.M.length + 1) cap, X.M ++ [m]⟩ ∧ Turned X.top w (w2.setCell ⟨X.p, 0, none⟩ (.slice (some ⟨g, 0, none⟩) (X.M.length + 1) cap)) := by
  have h1 := h.on hb (fun _ _ h => h)
  have hpg : X.p ≠ g := fun e => by
    rcases hgn with hh | hh
    · exact h.p_row hT (by rw [hh, e])
    · have := h1.lt (.inl rfl); omega
  have ht2 : Turned X.top w w2 := (hb.mono (fun _ h => h.elim)).then (Turned.of_grown hg (fun k hk => .inr hk))
  have ht : Turned X.top w (w2.setCell ⟨X.p, 0, none⟩ (.slice (some ⟨g, 0, none⟩) (X.M.length + 1) cap)) := ht2.trans (turned_set _ _ _ _) (fun k hk => .inl (.inl hk))
  have hp2 : w2.heap[X.p]? = some (.cells #[X.v] T (0, 0)) := (hg.block X.p (h1.lt (.inl rfl)) (fun e => h.p_row hT e.symm)).trans h1.cell
  have hms : ∀ m' ∈ X.M, MgAt (w2.setCell ⟨X.p, 0, none⟩ (.slice (some ⟨g, 0, none⟩) (X.M.length + 1) cap)) m' := fun m' hm' => (h.msg m' hm').on (ht.block m'.g (h.msg m' hm').lt (h.top_msg hT5 hm'))
  have hmv : MgAt (w2.setCell ⟨X.p, 0, none⟩ (.slice (some ⟨g, 0, none⟩) (X.M.length + 1) cap)) m := by
    refine hm.on (((grown_set w2 X.p 0 _).block m.g (Nat.lt_of_lt_of_le hm.lt hg.size) ?_).trans (hg.block m.g hm.lt (fun e => hmn _ (.inr (.inl e.symm)) rfl)))
    simp only [ne_eq, Option.some.injEq]
    exact fun e => hmn _ (.inl rfl) e.symm
  refine ⟨⟨?_, h.base, ?_, ?_, ?_, ?_, ?_⟩, ht⟩
  · exact set_block (i := 0) hp2
  · simp only [List.length_append, List.length_cons, List.length_nil, rowM_app]
    exact own_on ho (fun k hk => (grown_set w2 X.p 0 _).block k (World.ownsRow.lt ho k hk).2 (by
      simp [Value.ownBlock] at hk
      subst hk
      simp only [ne_eq, Option.some.injEq]
      exact fun e => hpg e.symm))
  · intro m' hm'
    rcases List.mem_append.1 hm' with hm' | hm'
    · exact hms m' hm'
    · simp at hm'
      subst hm'
      exact hmv
  · intro m' hm'
    rcases List.mem_append.1 hm' with hm' | hm'
    · exact h.far m' hm'
    · simp at hm'
      subst hm'
      exact hmB
  · simp only [List.map_append, List.map_cons, List.map_nil]
    refine List.nodup_append.2 ⟨h.dis, by simp, fun a ha b hb => ?_⟩
    simp at hb
    subst hb
    obtain ⟨m', hm', rfl⟩ := List.mem_map.1 ha
    exact hmn _ (.inr (.inr ⟨m', hm', rfl⟩))
  · simp only [List.length_append, List.length_cons, List.length_nil]
    omega
theorem p_kept {T : TypeId} {B : Nat} {w w1 w2 : World} {X : Bx} (hT : T ≠ 30) (h : BagAt T B w X) (hb : Below w.heap.size w w1) (hg : w1.grownBy w2 X.v.ownBlock) : w2.cell? ⟨X.p, 0, none⟩ = some X.v ∧ w2.frozen? ⟨X.p, 0, none⟩ = false ∧ X.p < w2.heap.size := by
  have h1 := h.below hb
  have hp2 : w2.heap[X.p]? = some (.cells #[X.v] T (0, 0)) := (hg.block X.p (h1.lt (.inl rfl)) (fun e => h.p_row hT e.symm)).trans h1.cell
  exact ⟨by simp [World.cell?, hp2], by simp [World.frozen?, hp2], (Array.getElem?_eq_some_iff.1 hp2).1⟩
/-- What an append to the row, and the store of it, come to. -/
theorem put_did {T : TypeId} {B : Nat} {w w0 w1 w2 : World} {X0 X : Bx} {g cap n : Nat} (hT : T ≠ 30) (hT5 : T ≠ 5) (h : BagAt T B w X) (hb : Below w.heap.size w w1) (m : Mg) (hm : MgAt w1 m) (hmn : ∀ k, X.has k → k ≠ m.g) (hmB : B ≤ m.g) (hn : X.M.length = n) (hfew : n < 2000)
    (ho : w2.ownsRow B 30 1 (.slice (some ⟨g, 0, none⟩) (n + 1) cap) (n + 1) (rowM X.M ++ [mv m])) (hg : w1.grownBy w2 X.v.ownBlock) (hgn : X.v.ownBlock = some g ∨ w1.heap.size ≤ g)
    (hp : X.p = X0.p) (ht0 : Turned X0.top w0 w) (hs : ∀ k, X.has k ∨ k = m.g → X0.has k ∨ w0.heap.size ≤ k) (htop : ∀ k, X.top k → X0.top k ∨ w0.heap.size ≤ k) :
    DidB T B X0 (X.M.map Mg.l ++ [m.l]) w0 (w2.setCell ⟨X.p, 0, none⟩ (.slice (some ⟨g, 0, none⟩) (n + 1) cap)) := by
  subst hn
  obtain ⟨h1, h2⟩ := put_back hT hT5 h m hm hmn hmB (below_any hb) hfew ho hg hgn
  refine ⟨⟨X.p, .slice (some ⟨g, 0, none⟩) (X.M.length + 1) cap, X.M ++ [m]⟩, hp, by simp, h1, fun k hk => ?_, ht0.trans h2 htop⟩
  have hsz : w0.heap.size ≤ w1.heap.size := Nat.le_trans ht0.size hb.size
  rcases hk with hk | hk | ⟨m', hm', hk⟩
  · exact hs k (.inl (.inl hk))
  · simp [Value.ownBlock] at hk
    subst hk
    rcases hgn with hh | hh
    · exact hs _ (.inl (.inr (.inl hh)))
    · exact .inr (by omega)
  · rcases List.mem_append.1 hm' with hm' | hm'
    · exact hs k (.inl (.inr (.inr ⟨m', hm', hk⟩)))
    · simp at hm'
      subst hm'
      exact hs k (.inr hk.symm)
set_option maxHeartbeats 1000000 in
theorem hold_any {B : Nat} {w : World} {X : Bx} (h : BagAt 50 B w X) (hB : B ≤ w.heap.size) (i : Nat) (l : List Int) (hi : (X.M.map Mg.l)[i]? = some l) : Calls Try.prog 14 #[.pointer (some ⟨X.p, 0, none⟩), .int .i64 i] w fun e w' => e = .returned (.int .i64 0) ∧ DidB 50 B X (restL (X.M.map Mg.l) i ++ [l]) w w' := by
  have hil : i < X.M.length := by have := (List.getElem?_eq_some_iff.1 hi).1; simpa using this
  have ht := take_any h i hil
  obtain ⟨i0, hi0, hz0, hz1, hz2⟩ := info_parts info30
  have HI := Lib.hid (And.intro hi0 (And.intro hz0 (And.intro hz1 hz2)))
  clear hi0 hz0 hz1 hz2
  have H := Lib.hid h
  have HL := Lib.hid hi
  have hfew := h.few
  clear h hi
  go_enter Try.func14, Try.ntmps14
  go_wp2_with (fail)
  refine ht.mono ?_
  rintro e w1 ⟨m, v', hm, rfl, e1, hX, hT, hmb⟩
  have hmem := List.mem_of_getElem? hm
  have hl : m.l = l := by
    have := HL.out
    rw [List.getElem?_map, hm] at this
    simpa using this
  have hmg := (H.out.msg m hmem).on hmb
  have hmB := H.out.far m hmem
  have hmn := take_apart H.out hm e1
  have hrl := rest_len hil
  have hLL := rest_L X.M i
  have hsub : ∀ k, Bx.has ⟨X.p, v', X.M.take i ++ X.M.drop (i + 1)⟩ k → X.has k := by
    intro k hk
    rcases hk with hk | hk | ⟨m', hm', hk⟩
    · exact .inl hk
    · exact .inr (.inl (e1 ▸ hk))
    · exact .inr (.inr ⟨m', sub_rest hm', hk⟩)
  have hcl : ∀ k, X.has k → k < w.heap.size := fun k hk => H.out.lt hk
  obtain ⟨Y, hY⟩ : ∃ Y, X.M.take i ++ X.M.drop (i + 1) = Y := ⟨_, rfl⟩
  rw [hY] at hX hmn hrl hLL hsub
  have c0 := hX.c0
  obtain ⟨ao, cap, hv, hnc, hcm⟩ := row_form hX.row
  simp only at hv c0
  subst hv
  have hpl := hX.lt (.inl rfl)
  simp only at hpl
  have HX := Lib.hid (And.intro hX (And.intro hmg (And.intro hmB (And.intro hmn (And.intro hLL (And.intro hl (And.intro hT (And.intro hsub hcl))))))))
  have hB1 : B ≤ w1.heap.size := Nat.le_trans hB hT.size
  have hO := Lib.hid (hX.row.alloc (.cells #[.slice (some ⟨m.g, 0, none⟩) m.l.length m.cap] 30))
  unfold mv
  have hY2 : Y.length < 2000 := by omega
  have HMm : Hid (X.has m.g) := Lib.hid (.inr (.inr ⟨m, hmem, rfl⟩))
  have HE := Lib.hid e1
  clear hX hmg hmB hmn hLL hl hT hY hmem HL H hm hmb e1 hfew ht hrl hsub hcl
  generalize hyl : Y.length = y at *
  have HY := Lib.hid hyl
  clear hyl
  go_wp2_with (at_builtin; refine wpList_append_lies _ rfl (.tmp 20) (.tmp 22) 27 rfl B 30 i0 _ 1 24 Try.underlying27 HI.out.1 HI.out.2.1 HI.out.2.2.1 HI.out.2.2.2 rfl (by decide) (.slice ao y cap) y (rowM Y) rfl hO.out ⟨w1.heap.size, 0, none⟩ 1 1 [mv m] rfl rfl (news_one w1 (mv m) 30) (ones_mv m) (by decide) (by unfold maxLen; omega) (by omega) (by simp; omega) (w1.heap.size + 1) (by simp) ?_; intro g3 c3 w3 hown3 hgrow3 hgn3 _; have HP := Lib.hid (p_kept (by decide) HX.out.1 ((Below.refl _ w1).alloc (Nat.le_refl _) _) hgrow3); have hp1 := HP.out.1; have hp2 := HP.out.2.1; simp only at hp1 hp2; have HO3 := Lib.hid (And.intro hown3 (And.intro hgrow3 hgn3)); clear hown3 hgrow3 hgn3)
  go_ret
  refine ⟨rfl, ?_⟩
  obtain ⟨hX, hmg, hmB, hmn, hLL, rfl, hT, hsub, hcl⟩ := HX.out
  obtain ⟨hown3, hgrow3, hgn3⟩ := HO3.out
  have hb1 : Below w1.heap.size w1 (w1.alloc (.cells #[mv m] 30)) := (Below.refl _ w1).alloc (Nat.le_refl _) _
  rw [← hLL]
  refine put_did (X := ⟨X.p, .slice ao y cap, Y⟩) (by decide) (by decide) hX hb1 m (hmg.on (hb1.block m.g hmg.lt)) hmn hmB HY.out hY2 hown3 hgrow3 (hgn3.imp id (fun e => by rw [e]; simp)) rfl hT (fun k hk => .inl ?_) (fun k hk => .inl ?_)
  · rcases hk with hk | rfl
    · exact hsub k hk
    · exact HMm.out
  · exact hk.elim .inl (fun hk => .inr (HE.out ▸ hk))
end Go.Proofs.Ythjcllgjojldjaa.Bg
