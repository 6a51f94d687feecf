/- index: an index behind lay. -/
import Derived.Test.YthjcohaldjfniaaL1
namespace Go.Proofs.Ythjcohaldjfniaa.Ix
open Go Go.RowKit
open Pq (Pg pv fq)
open It (fl)
/-- What has become of an index behind an operation. -/
def Did (w : World) (B : Nat) (F : Nat → Prop) (p : Nat) (M : IL) (w' : World) : Prop :=
  ∃ (v : Value) (F' : Nat → Prop) (X : List Pg), IdxAt w' B F' p v X ∧ cont X = M ∧ (∀ k, F' k → F k ∨ w.heap.size ≤ k) ∧ Turned F w w'
theorem Did.ahead {w w1 w' : World} {B p : Nat} {F : Nat → Prop} {M : IL} (h : Did w1 B F p M w') (hb : Below w.heap.size w w1) : Did w B F p M w' := by
  obtain ⟨v, F', X, h1, h0, h2, h3⟩ := h
  have hs := hb.size
  exact ⟨v, F', X, h1, h0, fun k hk => (h2 k hk).imp id (fun h => by omega), (below_any (G := F) hb).trans h3 (fun j hj => .inl hj)⟩
theorem YsR.cont {w wa : World} {t : Pg} {ys : List Pg} (h : YsR w t ys wa) : Ix.cont ys = t.P := by
  rcases h with ⟨h0, rfl⟩ | ⟨_, _, rfl⟩ | ⟨_, t1, t2, rfl, e1, e2, _⟩
  · rw [List.eq_nil_of_length_eq_zero h0]; rfl
  · simp [Ix.cont]
  · simp [Ix.cont, e1, e2]
theorem fit_laid {X R1 R2 ys : List Pg} {t : Pg} {w wa : World} (hf : Fit X) (h1 : ∀ s ∈ R1 ++ R2, s ∈ X) (hr : R1 ++ R2 ≠ [] → 1 < X.length) (hy : YsR w t ys wa) (ht : t.P.length ≤ 9) (h2 : 2 ≤ t.P.length ∨ R1 ++ R2 = []) (hs : Sorted (cont R1 ++ t.P ++ cont R2)) : Fit (R1 ++ ys ++ R2) := by
  have hy1 : ∀ s ∈ ys, 1 ≤ s.P.length ∧ s.P.length ≤ 8 ∧ (2 ≤ s.P.length ∨ ys = [t]) := by
    rcases hy with ⟨_, rfl⟩ | ⟨a, b, rfl⟩ | ⟨a, t1, t2, rfl, e1, e2, _⟩
    · simp
    · intro s hs; simp at hs; subst hs; exact ⟨by omega, b, .inr rfl⟩
    · intro s hs
      have l1 : t1.P.length = t.P.length / 2 := by rw [e1, List.length_take]; omega
      have l2 : t2.P.length = t.P.length - t.P.length / 2 := by rw [e2, List.length_drop]
      simp at hs
      rcases hs with rfl | rfl
      · exact ⟨by omega, by omega, .inl (by omega)⟩
      · exact ⟨by omega, by omega, .inl (by omega)⟩
  have hc := hy.cont
  refine ⟨fun s hm => ?_, fun hl s hm => ?_, ?_⟩
  · simp only [List.mem_append] at hm
    rcases hm with (hm | hm) | hm
    · exact hf.one s (h1 s (by simp [hm]))
    · exact ⟨(hy1 s hm).1, (hy1 s hm).2.1⟩
    · exact hf.one s (h1 s (by simp [hm]))
  · simp only [List.mem_append] at hm
    rcases hm with (hm | hm) | hm
    · exact hf.two (hr (by intro e; simp at e; rw [e.1] at hm; simp at hm)) s (h1 s (by simp [hm]))
    · rcases (hy1 s hm).2.2 with h3 | h3
      · exact h3
      · rw [h3] at hm hl
        simp at hm
        subst hm
        rcases h2 with h2 | h2
        · exact h2
        · simp at h2
          rw [h2.1, h2.2] at hl
          simp at hl
    · exact hf.two (hr (by intro e; simp at e; rw [e.2] at hm; simp at hm)) s (h1 s (by simp [hm]))
  · rw [cont_app, cont_app, hc]; exact hs
theorem PgAt.ne {w : World} {t : Pg} (h : PgAt w t) {g : Nat} {cs : Array Value} {e : TypeId} (hg : w.heap[g]? = some (.cells cs e (0, 0))) (he : e ≠ 42) : t.g ≠ g := by
  obtain ⟨cur, h1, _⟩ := h
  rintro rfl
  rw [h1] at hg
  simp at hg
  exact he hg.2.symm
theorem row_ne {w : World} {t : Pg} (h : PgAt w t) {B n : Nat} {v : Value} {xs : List Value} (ho : w.ownsRow B 52 1 v n xs) : v.ownBlock ≠ some t.g := by
  rcases ho.2 with ⟨rfl, _⟩ | ⟨g', cap, cur, rfl, _, hh, _⟩
  · simp [Value.ownBlock]
  · intro he
    have : g' = t.g := by simpa [Value.ownBlock] using he
    exact h.ne hh (by decide) this.symm
set_option maxHeartbeats 400000 in
theorem fin_any {w wm w2 : World} {B p : Nat} {F : Nat → Prop} {v : Value} {X : List Pg} {n n' : Int} {fr tu : Nat} {t : Pg} {e : Ending} (h : IdxAt w B F p v X)
    (hm : RowAt wm B p n v X) (hT : Turned F w wm) (hk : ∀ s ∈ X.take fr ++ X.drop tu, PgAt wm s) (ht : PgAt wm t) (hn1 : ((X.take fr ++ X.drop tu).map Pg.g).Nodup) (hn2 : ∀ s ∈ X.take fr ++ X.drop tu, s.g ≠ t.g) (hF : F t.g ∨ w.heap.size ≤ t.g)
    (hl : LayR wm B p n v X fr tu t e w2) (hr : X.take fr ++ X.drop tu ≠ [] → 1 < X.length) (h9 : t.P.length ≤ 9) (h2 : 2 ≤ t.P.length ∨ X.take fr ++ X.drop tu = []) (hs : Sorted (cont (X.take fr) ++ t.P ++ cont (X.drop tu)))
    (hn' : n' = ((cont (X.take fr) ++ t.P ++ cont (X.drop tu)).length : Nat)) :
    Did w B F p (cont (X.take fr) ++ t.P ++ cont (X.drop tu)) (w2.setCell ⟨p, 1, none⟩ (.int .i64 n')) := by
  obtain ⟨rfl, wa, ys, v', hba, hy, hR, hTu, hv'⟩ := hl
  have hmem : ∀ s ∈ X.take fr ++ X.drop tu, s ∈ X := fun s hs => by
    rcases List.mem_append.1 hs with h | h
    · exact List.mem_of_mem_take h
    · exact List.mem_of_mem_drop h
  have hfit := fit_laid h.fit hmem hr hy h9 h2 hs
  have hma := hm.below hba
  have hgs := grown_set w2 p 1 (.int .i64 n')
  have hne : v'.ownBlock ≠ some p := hR.apart
  -- a page of wa is there behind all
  have keep : ∀ s : Pg, PgAt wa s → PgAt (w2.setCell ⟨p, 1, none⟩ (.int .i64 n')) s := fun s hs => by
    have n1 : s.g ≠ p := hs.ne hma.1 (by decide)
    have n2 : v.ownBlock ≠ some s.g := row_ne hs hma.2.1
    refine (hs.on (hTu.block _ hs.lt (fun e => e.elim n1 n2))).on (hgs.block _ (Nat.lt_of_lt_of_le hs.lt hTu.size) (fun e => ?_))
    injection e with e
    exact n1 e
  have szm := hT.size
  have sza := hba.size
  have szu := hTu.size
  have szs := hgs.size
  have hysg : ∀ s ∈ ys, PgAt wa s ∧ (s.g = t.g ∨ wm.heap.size ≤ s.g) := by
    rcases hy with ⟨_, rfl⟩ | ⟨_, _, rfl⟩ | ⟨_, t1, t2, rfl, _, _, p1, p2, g1, g2, _⟩
    · simp
    · intro s hs; simp at hs; subst hs; exact ⟨ht.on (hba.block _ ht.lt), .inl rfl⟩
    · intro s hs; simp at hs; rcases hs with rfl | rfl
      · exact ⟨p1, .inr g1⟩
      · exact ⟨p2, .inr g2⟩
  have hysn : (ys.map Pg.g).Nodup := by
    rcases hy with ⟨_, rfl⟩ | ⟨_, _, rfl⟩ | ⟨_, t1, t2, rfl, _, _, _, _, _, _, hd⟩
    · simp
    · simp
    · simp [hd]
  have hks : ∀ s ∈ X.take fr ++ X.drop tu, s.g < wm.heap.size := fun s hs => (hk s hs).lt
  refine ⟨v', (fun j => F j ∨ v'.ownBlock = some j ∨ ∃ s ∈ ys, s.g = j), _, ⟨?_, ?_, ?_, ?_, hfit, ?_, .inl h.fp, fun g e => .inr (.inl e), ?_, ?_⟩, by rw [cont_app, cont_app, hy.cont], ?_, ?_⟩
  · rw [set_block hR.1, cont_app, cont_app, hy.cont, hn']
    rfl
  · exact own_on hR.2.1 (fun g e => hgs.block g (World.ownsRow.lt hR.2.1 g e).2 (fun e2 => hne (by rw [e]; exact e2)))
  · intro s hs
    simp only [List.mem_append] at hs
    rcases hs with (hs | hs) | hs
    · exact ⟨keep s ((hk s (by simp [hs])).on (hba.block _ (hks s (by simp [hs])))), .inl (h.pgs s (hmem s (by simp [hs]))).2⟩
    · exact ⟨keep s (hysg s hs).1, .inr (.inr ⟨s, hs, rfl⟩)⟩
    · exact ⟨keep s ((hk s (by simp [hs])).on (hba.block _ (hks s (by simp [hs])))), .inl (h.pgs s (hmem s (by simp [hs]))).2⟩
  · rw [List.map_append] at hn1
    obtain ⟨n1, n2, n3⟩ := List.nodup_append.1 hn1
    rw [List.map_append, List.map_append, List.nodup_append, List.nodup_append]
    refine ⟨⟨n1, hysn, ?_⟩, n2, ?_⟩
    · intro a ha b hb
      obtain ⟨s, hs, rfl⟩ := List.mem_map.1 ha
      obtain ⟨r, hr, rfl⟩ := List.mem_map.1 hb
      have h3 := hks s (by simp [hs])
      rcases (hysg r hr).2 with h4 | h4
      · rw [h4]; exact hn2 s (by simp [hs])
      · omega
    · intro a ha b hb
      obtain ⟨s, hs, rfl⟩ := List.mem_map.1 hb
      rcases List.mem_append.1 ha with ha | ha
      · exact n3 a ha _ (List.mem_map.2 ⟨s, hs, rfl⟩)
      · obtain ⟨r, hr, rfl⟩ := List.mem_map.1 ha
        have h3 := hks s (by simp [hs])
        rcases (hysg r hr).2 with h4 | h4
        · rw [h4]; exact fun e => hn2 s (by simp [hs]) e.symm
        · omega
  · have := h.base; omega
  · intro j hj
    rcases hj with hj | hj | ⟨s, hs, rfl⟩
    · have := h.hi j hj; omega
    · have := (World.ownsRow.lt hR.2.1 j hj).2; omega
    · have := (hysg s hs).1.lt; omega
  · intro j hj
    rcases hj with hj | hj | ⟨s, hs, rfl⟩
    · exact h.low j hj
    · exact (World.ownsRow.lt hR.2.1 j hj).1
    · rcases (hysg s hs).2 with h4 | h4
      · rcases hF with h5 | h5
        · rw [h4]; exact h.low _ h5
        · have := h.base; omega
      · have := h.base; omega
  · intro j hj
    rcases hj with hj | hj | ⟨s, hs, rfl⟩
    · exact .inl hj
    · rcases hv' j hj with h4 | h4
      · exact .inl (h.fv j h4)
      · exact .inr (by omega)
    · rcases (hysg s hs).2 with h4 | h4
      · rw [h4]; exact hF
      · exact .inr (by omega)
  · refine ((hT.trans (below_any (G := F) hba) (fun i hi => .inl hi)).trans (hTu.mono (H := F) (fun i hi => ?_)) (fun i hi => .inl hi)).trans (Turned.of_grown hgs (G := F) (fun k e => by injection e with e; subst e; exact h.fp)) (fun i hi => .inl hi)
    rcases hi with rfl | hi
    · exact h.fp
    · exact h.fv i hi
end Go.Proofs.Ythjcohaldjfniaa.Ix
