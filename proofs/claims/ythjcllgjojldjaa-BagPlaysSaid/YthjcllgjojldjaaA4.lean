/- bag: Clone, Take, Drop, Hold, Copy, walked. -/
import Derived.Test.YthjcllgjojldjaaA3
namespace Go.Proofs.Ythjcllgjojldjaa.Bg
open Go Go.RowKit
set_option maxHeartbeats 1000000 in
/-- Clone, of bytes that stand somewhere. -/
theorem clone_any (a : Addr) (n c : Nat) (l : List Int) (w : World) (hn : n ≤ 140737488351232) (hl : l.length = n) (h0 : 0 < n) (ha : Rd w (some a) l) :
    GivesS 24 #[.slice (some a) n c] l w := by
  obtain ⟨i0, hi, hz0, hz1, hz2⟩ := info_parts info5
  have hb : Below w.heap.size w (w.alloc (.cells #[] 5)) := (Below.refl _ _).alloc (Nat.le_refl _) _
  have Hc := Lib.hid (rd_cells (ha.on hb (Nat.le_refl _)))
  have HL := Lib.hid hl
  have hO := Lib.hid (nil_lit w w.heap.size (Nat.le_refl _))
  have Hbl := Lib.hid (show (bs l).length = n * 1 by rw [bs_length, hl]; omega)
  have hq : ∀ w, (binOp .eql 30 (.slice (some a) n c) (.slice none 0 0)).run Try.prog w = .ok (.bool false) w := fun w => Lib.run_eql_slice_nil (P := Try.prog) w 30 5 (some a) n c 0 0 Try.underlying30
  unfold GivesS
  rw [hl]
  clear hl ha
  go_enter Try.func24, Try.ntmps24
  go_wp2_with (at_builtin; refine wpList_append_lies _ rfl (.tmp 5) (.tmp 6) 30 rfl w.heap.size 5 i0 _ 1 1 Try.underlying30 hi hz0 hz1 hz2 rfl (by decide) _ 0 (bs []) rfl hO.out a n c (bs l) rfl Hbl.out Hc.out (bs_one l) h0 (by unfold maxLen; omega) (by omega) (by simp) (w.heap.size + 1) (by simp) ?_; intro g3 c3 w3 hown3 hgrow3 _ _)
  have hB3 : Below w.heap.size w w3 := hb.grown hgrow3 (by simp) (fun k hk => (World.ownsRow.lt hO.out k hk).1)
  have ho : Own w3 w.heap.size (.slice (some ⟨g3, 0, none⟩) (0 + n) c3) ([] ++ l) := Own.put hown3 rfl HL.out
  rw [Nat.zero_add, List.nil_append] at ho
  clear hown3 hgrow3
  go_ret
  exact ⟨g3, c3, by simp, ⟨ho, by have := own_rd (l := l) (n := n) (by unfold Own at ho; rwa [HL.out] at ho) HL.out; exact this⟩, hB3⟩
theorem set_block {w : World} {b i : Nat} {v : Value} {cur : Array Value} {t : TypeId} (h : w.heap[b]? = some (.cells cur t (0, 0))) : (w.setCell ⟨b, i, none⟩ v).heap[b]? = some (.cells (cur.setIfInBounds i v) t (0, 0)) := by
  show (w.heap.modify b _)[b]? = _
  rw [Array.getElem?_modify, if_pos rfl, h]
  rfl
/-- What Take leaves: the rest; the message itself stands untouched. -/
def TakeR (B : Nat) (X : Bx) (i : Nat) (w : World) (e : Ending) (w' : World) : Prop :=
  ∃ m v', X.M[i]? = some m ∧ e = .returned (.tuple #[mv m, .int .i64 0]) ∧ v'.ownBlock = X.v.ownBlock ∧ BagAt 50 B w' ⟨X.p, v', X.M.take i ++ X.M.drop (i + 1)⟩ ∧ Turned X.top w w' ∧ w'.heap[m.g]? = w.heap[m.g]?
theorem sub_rest {M : List Mg} {i : Nat} {m : Mg} (h : m ∈ M.take i ++ M.drop (i + 1)) : m ∈ M := by
  rcases List.mem_append.1 h with h | h
  · exact List.mem_of_mem_take h
  · exact List.mem_of_mem_drop h
theorem nodup_rest {M : List Mg} (i : Nat) (h : (M.map Mg.g).Nodup) : ((M.take i ++ M.drop (i + 1)).map Mg.g).Nodup := by
  refine List.Sublist.nodup (List.Sublist.map _ ?_) h
  have e : M.take i ++ M.drop i = M := List.take_append_drop i M
  conv => rhs; rw [← e]
  exact List.Sublist.append (List.Sublist.refl _) (List.drop_sublist_drop_left M (Nat.le_succ i))
theorem rowM_rest (M : List Mg) (i : Nat) : rowM (M.take i ++ M.drop (i + 1)) = (rowM M).take i ++ (rowM M).drop (i + 1) := by simp [rowM]
theorem rest_len {M : List Mg} {i : Nat} (h : i < M.length) : (M.take i ++ M.drop (i + 1)).length = M.length - 1 := by simp; omega
set_option maxHeartbeats 1000000 in
theorem take_any {B : Nat} {w : World} {X : Bx} (h : BagAt 50 B w X) (i : Nat) (hi : i < X.M.length) : Calls Try.prog 17 #[.pointer (some ⟨X.p, 0, none⟩), .int .i64 i] w (TakeR B X i w) := by
  obtain ⟨p, v, M⟩ := X
  simp only at hi
  obtain ⟨m, hm⟩ : ∃ m, M[i]? = some m := ⟨_, List.getElem?_eq_getElem hi⟩
  have hh := has_any h i
  rw [decide_eq_true (show 0 ≤ (i : Int) ∧ (i : Int) < (M.length : Int) by omega)] at hh
  obtain ⟨g, cap, hv, _, _, hnc, hcm, hc⟩ := row_at h.row (rowM_at hm)
  simp only at hv hnc
  subst hv
  have hD := Lib.hid (delete_any B _ M.length (rowM M) i (i + 1) rfl w h.row (rowM_one M) hi (by have := h.few; simp only at this; omega))
  rw [show ((i + 1 : Nat) : Int) = (i : Int) + 1 by omega] at hD
  have c0 := h.c0
  have H := Lib.hid h
  have HM := Lib.hid hm
  have hfew := h.few
  simp only at hfew hnc hc c0 hh
  have fin : ∀ v' w2, v'.ownBlock = some g → w2.ownsRow B 30 1 v' (M.length - 1) ((rowM M).take i ++ (rowM M).drop (i + 1)) → w.grownBy w2 (some g) → TakeR B ⟨p, .slice (some ⟨g, 0, none⟩) M.length cap, M⟩ i w (.returned (.tuple #[mv m, .int .i64 0])) (w2.setCell ⟨p, 0, none⟩ v') := by
    intro v' w2 e1 e2 e3
    have hpg : p ≠ g := fun e => H.out.p_row (by decide) (by simp [Value.ownBlock, e])
    have ht : Turned (Bx.top ⟨p, .slice (some ⟨g, 0, none⟩) M.length cap, M⟩) w (w2.setCell ⟨p, 0, none⟩ v') := (Turned.of_grown e3 (fun k hk => .inr hk)).trans (turned_set _ _ _ _) (fun k hk => .inl (.inl hk))
    have hp2 : w2.heap[p]? = some (.cells #[.slice (some ⟨g, 0, none⟩) M.length cap] 50 (0, 0)) := (e3.block p (H.out.lt (.inl rfl)) (by simp [hpg])).trans H.out.cell
    refine ⟨m, v', HM.out, rfl, by rw [e1]; rfl, ⟨?_, H.out.base, ?_, fun m' hm' => ?_, fun m' hm' => H.out.far m' (sub_rest hm'), nodup_rest i H.out.dis, ?_⟩, ht, ?_⟩
    · exact set_block (i := 0) (v := v') hp2
    · simp only
      rw [rest_len hi, rowM_rest]
      refine own_on e2 (fun k hk => ?_)
      rw [e1] at hk
      injection hk with hk
      subst hk
      exact (grown_set w2 p 0 v').block g (World.ownsRow.lt e2 g e1).2 (by simp; exact fun e => hpg e.symm)
    · have hm0 := sub_rest hm'
      exact (H.out.msg m' hm0).on (ht.block m'.g (H.out.msg m' hm0).lt (H.out.top_msg (by decide) hm0))
    · simp only
      rw [rest_len hi]
      have := H.out.few
      simp only at this
      omega
    · have hm0 := List.mem_of_getElem? HM.out
      exact ht.block m.g (H.out.msg m hm0).lt (H.out.top_msg (by decide) hm0)
  have Fin := Lib.hid fin
  have hpl : p < w.heap.size := h.lt (.inl rfl)
  have hpg : p ≠ g := fun e => h.p_row (by decide) (by simp [Value.ownBlock, e])
  clear h hm fin
  generalize hn : M.length = n at *
  clear hn
  go_enter Try.func17, Try.ntmps17
  go_wp2_with (fail)
  refine hh.mono ?_
  rintro e w1 ⟨rfl, rfl⟩
  go_wp2_with (fail)
  refine hD.out.mono ?_
  rintro e w2 ⟨v', rfl, e1, e2, e3⟩
  have k2 := (e3.block p hpl (by simp [Value.ownBlock, hpg]))
  obtain ⟨ao', cap', rfl, _, _⟩ := row_form e2
  have HF := Lib.hid (Fin.out _ w2 e1 e2 e3)
  generalize n - 1 = q at *
  have hp2 : w2.heap[p]? = some (.cells #[.slice (some ⟨g, 0, none⟩) n cap] 50 (0, 0)) := k2.trans H.out.cell
  have c2 : w2.cell? ⟨p, 0, none⟩ = some (.slice (some ⟨g, 0, none⟩) n cap) := by simp [World.cell?, hp2]
  have f2 : w2.frozen? ⟨p, 0, none⟩ = false := by simp [World.frozen?, hp2]
  clear e1 e2 e3 k2 H Fin hD hp2
  go_wp2_with (fail)
  exact bodyPost_ret (v := .tuple #[mv m, .int .i64 0]) (by simp [results, Try.results17, go_sem, mv]) rfl HF.out
end Go.Proofs.Ythjcllgjojldjaa.Bg
