/- commit: two books beside other things; what play asks of them. -/
import Derived.Test.YtklalpamcfkngaaG2
namespace Go.Proofs.Ytklalpamcfkngaa.Cm
open Go Go.RowKit
/-- Something else that lies in blocks of its own. -/
structure Ext (X : (Nat → Prop) → World → Prop) : Prop where
  on : ∀ {G H : Nat → Prop} {w w' : World}, X G w → Turned H w w' → (∀ k, G k → ¬ H k) → X G w'
  hi : ∀ {G : Nat → Prop} {w : World} {k : Nat}, X G w → G k → k < w.heap.size
/-- Two books, and what else lies there; the blocks of Y are none of theirs. -/
def Two (X : (Nat → Prop) → World → Prop) (w0 : World) (n p q : Nat) (RM : TK → Option RunM) (T : TK → Option Int) (SS : RL → TL → Prop) (Y : Nat → Prop) (w : World) : Prop :=
  ∃ F1 F2 G S TT, Bk w w0.heap.size n F1 p RM T ∧ Rf w w0.heap.size F2 q S TT ∧ SS S TT ∧ X G w ∧ Below w0.heap.size w0 w ∧ (∀ k, F1 k → ¬ F2 k ∧ ¬ G k) ∧ (∀ k, F2 k → ¬ G k) ∧ (∀ k, Y k → (¬ F1 k ∧ ¬ F2 k) ∧ ¬ G k ∧ k < w.heap.size)
theorem bk_hi {w : World} {B n p : Nat} {F : Nat → Prop} {RM : TK → Option RunM} {T : TK → Option Int} (h : Bk w B n F p RM T) : B ≤ w.heap.size ∧ (∀ k, F k → k < w.heap.size) ∧ ∀ k, F k → B ≤ k := by
  obtain ⟨a, b, R, h, _⟩ := h
  exact ⟨h.base, h.hi, h.low⟩
theorem rf_hi {w : World} {B q : Nat} {F : Nat → Prop} {S : RL} {TT : TL} (h : Rf w B F q S TT) : B ≤ w.heap.size ∧ (∀ k, F k → k < w.heap.size) ∧ ∀ k, F k → B ≤ k := by
  obtain ⟨rv, tv, CL, h, _⟩ := h
  exact ⟨h.base, h.hi, h.low⟩
section
variable {X : (Nat → Prop) → World → Prop} {w0 w w' : World} {n m p q : Nat} {RM RM' : TK → Option RunM} {T T' : TK → Option Int} {SS SS' : RL → TL → Prop} {Y : Nat → Prop}
theorem two_abs (hX : Ext X) : Abs w0 (Two X w0 n p q RM T SS) where
  more := by
    rintro Y w w' ⟨F1, F2, G, S, TT, h1, h2, h3, h4, h5, h6, h7, h8⟩ hb
    refine ⟨F1, F2, G, S, TT, h1.below hb, h2.below hb, h3, hX.on h4 (H := fun _ => False) (below_any hb) (fun _ _ => id), h5.trans (hb.mono h5.size), h6, h7, fun k hk => ?_⟩
    rcases hk with hk | hk
    · exact ⟨(h8 k hk).1, (h8 k hk).2.1, Nat.lt_of_lt_of_le (h8 k hk).2.2 hb.size⟩
    · exact ⟨⟨fun e => by have := (bk_hi h1).2.1 k e; omega, fun e => by have := (rf_hi h2).2.1 k e; omega⟩, fun e => by have := hX.hi h4 e; omega, hk.2⟩
  less := by
    rintro Y Y' w ⟨F1, F2, G, S, TT, h1, h2, h3, h4, h5, h6, h7, h8⟩ hy
    exact ⟨F1, F2, G, S, TT, h1, h2, h3, h4, h5, h6, h7, fun k hk => h8 k (hy k hk)⟩
  turn := by
    rintro Y H w w' ⟨F1, F2, G, S, TT, h1, h2, h3, h4, h5, h6, h7, h8⟩ ht hH
    refine ⟨F1, F2, G, S, TT, h1.on ht (fun k hk e => (h8 k (hH k e).1).1.1 hk), h2.on ht (fun k hk e => (h8 k (hH k e).1).1.2 hk), h3, hX.on h4 ht (fun k hk e => (h8 k (hH k e).1).2.1 hk), ?_, h6, h7, fun k hk => ⟨(h8 k hk).1, (h8 k hk).2.1, Nat.lt_of_lt_of_le (h8 k hk).2.2 ht.size⟩⟩
    exact h5.trans ((ht.below (Nat.le_trans (Nat.le_refl _) h5.size) (fun k hk => (hH k hk).2)).mono (Nat.le_refl _))
  ahead := by
    rintro Y w ⟨F1, F2, G, S, TT, h1, h2, h3, h4, h5, h6, h7, h8⟩
    exact h5
theorem two_prog {E : Ending → Prop} {f : Nat} {args : Array Value} (hX : Ext X) (hk : Two X w0 n p q RM T SS Y w) (h : ∀ F, Bk w w0.heap.size n F p RM T → Calls Try.prog f args w fun e w' => E e ∧ Did w w0.heap.size m F p RM' T' w') :
    Calls Try.prog f args w fun e w' => E e ∧ Two X w0 m p q RM' T' SS Y w' ∧ Kept Y w w' := by
  obtain ⟨F1, F2, G, S, TT, h1, h2, h3, h4, h5, h6, h7, h8⟩ := hk
  have hb := bk_hi h1
  refine (h F1 h1).mono fun e w' hh => ⟨hh.1, ?_⟩
  obtain ⟨F', k1, k2, k3⟩ := hh.2
  refine ⟨⟨F', F2, G, S, TT, k1, h2.on k3 (fun k hk e => (h6 k e).1 hk), h3, hX.on h4 k3 (fun k hk e => (h6 k e).2 hk), h5.trans ((k3.below hb.1 hb.2.2).mono (Nat.le_refl _)), fun k hk => ?_, h7, fun k hk => ⟨⟨fun e => ?_, (h8 k hk).1.2⟩, (h8 k hk).2.1, Nat.lt_of_lt_of_le (h8 k hk).2.2 k3.size⟩⟩, k3.size, fun k hk => k3.block k (h8 k hk).2.2 (h8 k hk).1.1⟩
  · rcases k2 k hk with e | e
    · exact h6 k e
    · exact ⟨fun e2 => by have := (rf_hi h2).2.1 k e2; omega, fun e2 => by have := hX.hi h4 e2; omega⟩
  · rcases k2 k e with e | e
    · exact (h8 k hk).1.1 e
    · have := (h8 k hk).2.2; omega
theorem two_ref {E : Ending → Prop} {f : Nat} {args : Array Value} (hX : Ext X) (hk : Two X w0 n p q RM T SS Y w) (h : ∀ F S TT, SS S TT → Rf w w0.heap.size F q S TT → Calls Try.prog f args w fun e w' => E e ∧ ∃ S' TT', SS' S' TT' ∧ RDid w w0.heap.size F q S' TT' w') :
    Calls Try.prog f args w fun e w' => E e ∧ Two X w0 n p q RM T SS' Y w' ∧ Kept Y w w' := by
  obtain ⟨F1, F2, G, S, TT, h1, h2, h3, h4, h5, h6, h7, h8⟩ := hk
  have hb := rf_hi h2
  refine (h F2 S TT h3 h2).mono fun e w' hh => ⟨hh.1, ?_⟩
  obtain ⟨S', TT', hs, F', k1, k2, k3⟩ := hh.2
  refine ⟨⟨F1, F', G, S', TT', h1.on k3 (fun k hk e => (h6 k hk).1 e), k1, hs, hX.on h4 k3 (fun k hk e => h7 k e hk), h5.trans ((k3.below hb.1 hb.2.2).mono (Nat.le_refl _)), fun k hk => ⟨fun e => ?_, (h6 k hk).2⟩, fun k hk => ?_, fun k hk => ⟨⟨(h8 k hk).1.1, fun e => ?_⟩, (h8 k hk).2.1, Nat.lt_of_lt_of_le (h8 k hk).2.2 k3.size⟩⟩, k3.size, fun k hk => k3.block k (h8 k hk).2.2 (h8 k hk).1.2⟩
  · rcases k2 k e with e | e
    · exact (h6 k hk).1 e
    · have := (bk_hi h1).2.1 k hk; omega
  · rcases k2 k hk with e | e
    · exact h7 k e
    · exact fun e2 => by have := hX.hi h4 e2; omega
  · rcases k2 k e with e | e
    · exact (h8 k hk).1.2 e
    · have := (h8 k hk).2.2; omega
end
def stepR (kd : Int) (t : TK) (L : List Int) (x : Int) (yes : Bool) (RM : TK → Option RunM) : TK → Option RunM :=
  if kd = 0 then beginS RM t L else if kd = 1 then voteS RM t x yes else if kd = 2 then commitS RM t else if kd = 3 then applS RM t x else RM
def stepT (kd : Int) (t : TK) (nn : Int) (T : TK → Option Int) : TK → Option Int := if kd = 4 then takeS T t else if kd = 5 then settleT T t nn else T
/-- The document's book, when the books hold this. -/
def SSd (n : Nat) (RM : TK → Option RunM) (T : TK → Option Int) (S : RL) (TT : TL) : Prop := lookR S = RM ∧ lookT TT = T ∧ GoodS S ∧ GoodT TT ∧ S.length ≤ n ∧ TT.length ≤ n
theorem dL_eq {T1 T2 : TL} (h1 : GoodT T1) (h2 : GoodT T2) (h : lookT T1 = lookT T2) : dL T1 = dL T2 := by
  have hp : ∀ {TT : TL}, GoodT TT → (dL TT).Pairwise ltP := fun {TT} h => by
    have := h.ord
    unfold dL
    rw [List.pairwise_map] at this ⊢
    exact this.filter _
  have hm : ∀ {TT : TL}, GoodT TT → ∀ x, x ∈ dL TT ↔ lookT TT x = some 2 := fun {TT} h x => by
    rw [look_mem h.ord]
    unfold dL
    rw [List.mem_map]
    constructor
    · rintro ⟨e, he, rfl⟩
      rw [List.mem_filter] at he
      have h2 : e.2 = 2 := by simpa using he.2
      rw [← h2]
      exact he.1
    · intro hx
      exact ⟨(x, 2), List.mem_filter.2 ⟨hx, rfl⟩, rfl⟩
  have nd : (dL T1).Nodup := (hp h1).imp (fun h e => by subst e; exact ltP_irrefl _ h)
  rw [← srt_of nd (hp h1) (fun x => Iff.rfl)]
  exact srt_of nd (hp h2) (fun x => by rw [hm h1, hm h2, h])
theorem owL_len (q : Option RunM) : (owL q).length ≤ 4 := by
  cases q with
  | none => simp [owL]
  | some m => rw [← oL_all]; exact Nat.le_trans (oL_len m _) (nl_le m)
section
variable {X : (Nat → Prop) → World → Prop} {w0 : World} {n p q : Nat} {RM : TK → Option RunM} {T : TK → Option Int} {t : TK}
/-- The state of both books. -/
def Pair (X : (Nat → Prop) → World → Prop) (w0 : World) (n p q : Nat) (RM : TK → Option RunM) (T : TK → Option Int) : (Nat → Prop) → World → Prop := Two X w0 n p q RM T (SSd n RM T)
set_option maxRecDepth 100000 in
theorem pair_plays (hX : Ext X) (hn : n ≤ 999999) (ht : InK t) (kd : Int) (L : List Int) (l : Nat) (hl : L.length = l) (hi : ∀ x ∈ L, 0 ≤ x ∧ x ≤ 255) (x : Int) (hx : 0 ≤ x) (yes : Bool) (nn : Int) :
    Plays w0 (Pair X w0 n p q RM T) (Two X w0 (n + 1) p q (stepR kd t L x yes RM) (stepT kd t nn T) (SSd n RM T)) (Pair X w0 (n + 1) p q (stepR kd t L x yes RM) (stepT kd t nn T)) (some ⟨p, 0, none⟩) (some ⟨q, 0, none⟩) kd t L l x yes nn where
  a := two_abs hX
  m := two_abs hX
  z := two_abs hX
  k0 := by
    rintro rfl
    refine ⟨beginE RM t L, fun Y w ao c ha hr => two_prog hX ha fun F hF => ?_, fun Y w ao c ha hr => two_ref hX ha fun F S TT hs hF => ?_⟩
    · exact begin_any ao l c L hF ht hl hr hi (by omega)
    · obtain ⟨h1, h2, h3, h4, h5, h6⟩ := hs
      refine (rbegin_any ao l c L hF h3 (by omega) ht hl hr hi).mono fun e w' hh => ⟨by rw [hh.1, h1], ?_⟩
      obtain ⟨S', k1, k2, k3, k4⟩ := hh.2
      exact ⟨S', TT, ⟨by rw [k2, h1]; rfl, h2, k3, h4, by omega, by omega⟩, k1⟩
  k1 := by
    rintro rfl
    refine ⟨(voteA (RM t) x yes).1, (voteA (RM t) x yes).2, fun Y w ha => two_prog hX ha fun F hF => ?_, fun Y w ha => two_ref hX ha fun F S TT hs hF => ?_⟩
    · exact (vote_any hF ht x hx yes).mono fun e w' hh => ⟨hh.1, hh.2.mono (by omega)⟩
    · obtain ⟨h1, h2, h3, h4, h5, h6⟩ := hs
      refine (rvote_any hF h3 (by omega) x hx yes).mono fun e w' hh => ⟨by rw [hh.1, h1], ?_⟩
      obtain ⟨S', k1, k2, k3, k4⟩ := hh.2
      exact ⟨S', TT, ⟨by rw [k2, h1]; rfl, h2, k3, h4, by omega, by omega⟩, k1⟩
  k2 := by
    rintro rfl
    refine ⟨commitE (RM t), fun Y w ha => two_prog hX ha fun F hF => ?_, fun Y w ha => two_ref hX ha fun F S TT hs hF => ?_⟩
    · exact (commit_any hF ht).mono fun e w' hh => ⟨hh.1, hh.2.mono (by omega)⟩
    · obtain ⟨h1, h2, h3, h4, h5, h6⟩ := hs
      refine (rcommit_any hF h3 (by omega)).mono fun e w' hh => ⟨by rw [hh.1, h1], ?_⟩
      obtain ⟨S', k1, k2, k3, k4⟩ := hh.2
      exact ⟨S', TT, ⟨by rw [k2, h1]; rfl, h2, k3, h4, by omega, by omega⟩, k1⟩
  k3 := by
    rintro rfl
    refine ⟨(applA (RM t) x).1, (applA (RM t) x).2, fun Y w ha => two_prog hX ha fun F hF => ?_, fun Y w ha => two_ref hX ha fun F S TT hs hF => ?_⟩
    · exact (appl_any hF ht x hx).mono fun e w' hh => ⟨hh.1, hh.2.mono (by omega)⟩
    · obtain ⟨h1, h2, h3, h4, h5, h6⟩ := hs
      refine (rappl_any hF h3 (by omega) x hx).mono fun e w' hh => ⟨by rw [hh.1, h1], ?_⟩
      obtain ⟨S', k1, k2, k3, k4⟩ := hh.2
      exact ⟨S', TT, ⟨by rw [k2, h1]; rfl, h2, k3, h4, by omega, by omega⟩, k1⟩
  k4 := by
    rintro rfl
    refine ⟨takeE T t, fun Y w ha => two_prog hX ha fun F hF => ?_, fun Y w ha => two_ref hX ha fun F S TT hs hF => ?_⟩
    · exact take_any hF ht (by omega)
    · obtain ⟨h1, h2, h3, h4, h5, h6⟩ := hs
      refine (rtake_any hF h4 (by omega) ht).mono fun e w' hh => ⟨by rw [hh.1, h2], ?_⟩
      obtain ⟨T', k1, k2, k3, k4⟩ := hh.2
      exact ⟨S, T', ⟨h1, by rw [k2, h2]; rfl, h3, k3, by omega, by omega⟩, k1⟩
  k5 := by
    rintro rfl
    refine ⟨settleE T t nn, fun Y w ha => two_prog hX ha fun F hF => ?_, fun Y w ha => two_ref hX ha fun F S TT hs hF => ?_⟩
    · exact settle_any hF ht nn (by omega)
    · obtain ⟨h1, h2, h3, h4, h5, h6⟩ := hs
      refine (rsettle_any hF h4 (by omega) nn).mono fun e w' hh => ⟨by rw [hh.1, h2], ?_⟩
      obtain ⟨T', k1, k2, k3, k4⟩ := hh.2
      exact ⟨S, T', ⟨h1, by rw [k2, h2]; rfl, h3, k3, by omega, by omega⟩, k1⟩
  k6 := by
    intro h0 h1 h2 h3 h4 h5 Y w ha
    obtain ⟨F1, F2, G, S, TT, a1, a2, ⟨b1, b2, b3, b4, b5, b6⟩, a4⟩ := ha
    have e1 : stepR kd t L x yes RM = RM := by unfold stepR; rw [if_neg h0, if_neg h1, if_neg h2, if_neg h3]
    have e2 : stepT kd t nn T = T := by unfold stepT; rw [if_neg h4, if_neg h5]
    rw [e1, e2]
    exact ⟨F1, F2, G, S, TT, a1.mono (by omega), a2, ⟨b1, b2, b3, b4, by omega, by omega⟩, a4⟩
  tells := by
    generalize stepR kd t L x yes RM = RM'
    generalize stepT kd t nn T = T'
    have hex : ∃ LD : List TK, LD.length ≤ n + 1 ∧ ∀ TT, lookT TT = T' → GoodT TT → TT.length ≤ n + 1 → dL TT = LD := by
      by_cases h : ∃ TT, lookT TT = T' ∧ GoodT TT ∧ TT.length ≤ n + 1
      · obtain ⟨TT, h1, h2, h3⟩ := h
        refine ⟨dL TT, ?_, fun T2 k1 k2 _ => dL_eq k2 h2 (by rw [k1, h1])⟩
        have := dL_len TT TT.length
        rw [List.take_length] at this
        omega
      · exact ⟨[], by simp, fun TT h1 h2 h3 => absurd ⟨TT, h1, h2, h3⟩ h⟩
    obtain ⟨LD, hld, hLD⟩ := hex
    refine ⟨owL (RM' t), stR (RM' t), stT (T' t), LD, ⟨by have := owL_len (RM' t); omega, by omega⟩, fun Y w hz => ?_⟩
    obtain ⟨F1, F2, G, S, TT, a1, a2, ⟨b1, b2, b3, b4, b5, b6⟩, a4⟩ := hz
    have hd := hLD TT b2 b4 b6
    refine ⟨owing_any a1 ht, ?_, ?_, ?_, runs_any a1 ht, ?_, stands_any a1 ht, ?_⟩
    · rw [← b1]; exact rowing_any a2 (by omega)
    · rw [← hd]; exact doubt_any a1 (by rw [← b2]; exact b4.takes) (by omega)
    · rw [← hd]; exact rdb_any a2 (by omega)
    · rw [← b1]; exact rstate_any a2 (by omega)
    · rw [← b2]; exact rst_any a2 (by omega)
end
/-- No book at all. -/
def Nil0 (w0 : World) (X : (Nat → Prop) → World → Prop) (Y : Nat → Prop) (w : World) : Prop := ∃ G, X G w ∧ Below w0.heap.size w0 w ∧ ∀ k, Y k → ¬ G k ∧ k < w.heap.size
section
variable {X : (Nat → Prop) → World → Prop} {w0 : World} {t : TK}
theorem nil_abs (hX : Ext X) : Abs w0 (Nil0 w0 X) where
  more := by
    rintro Y w w' ⟨G, h1, h2, h3⟩ hb
    refine ⟨G, hX.on h1 (H := fun _ => False) (below_any hb) (fun _ _ => id), h2.trans (hb.mono h2.size), fun k hk => ?_⟩
    rcases hk with hk | hk
    · exact ⟨(h3 k hk).1, Nat.lt_of_lt_of_le (h3 k hk).2 hb.size⟩
    · exact ⟨fun e => by have := hX.hi h1 e; omega, hk.2⟩
  less := by
    rintro Y Y' w ⟨G, h1, h2, h3⟩ hy
    exact ⟨G, h1, h2, fun k hk => h3 k (hy k hk)⟩
  turn := by
    rintro Y H w w' ⟨G, h1, h2, h3⟩ ht hH
    exact ⟨G, hX.on h1 ht (fun k hk e => (h3 k (hH k e).1).1 hk), h2.trans ((ht.below h2.size (fun k hk => (hH k hk).2)).mono (Nat.le_refl _)), fun k hk => ⟨(h3 k hk).1, Nat.lt_of_lt_of_le (h3 k hk).2 ht.size⟩⟩
  ahead := by
    rintro Y w ⟨G, h1, h2, h3⟩
    exact h2
theorem nil_step {E : Ending → Prop} {f : Nat} {args : Array Value} {Y : Nat → Prop} {w : World} (hX : Ext X) (h : Calls Try.prog f args w fun e w' => E e ∧ Below w.heap.size w w') (ha : Nil0 w0 X Y w) :
    Calls Try.prog f args w fun e w' => E e ∧ Nil0 w0 X Y w' ∧ Kept Y w w' :=
  h.mono fun _ _ hh => ⟨hh.1, (nil_abs hX).below ha hh.2, hh.2.size, fun k hk => by obtain ⟨G, _, _, h3⟩ := ha; exact hh.2.block k (h3 k hk).2⟩
theorem nil_plays (hX : Ext X) (kd : Int) (L : List Int) (l : Nat) (hl : L.length = l) (hi : ∀ x ∈ L, 0 ≤ x ∧ x ≤ 255) (x : Int) (yes : Bool) (nn : Int) :
    Plays w0 (Nil0 w0 X) (Nil0 w0 X) (Nil0 w0 X) none none kd t L l x yes nn where
  a := nil_abs hX
  m := nil_abs hX
  z := nil_abs hX
  k0 := by
    rintro rfl
    refine ⟨if listE L ≠ 0 then listE L else 6, fun Y w ao c ha hr => nil_step hX ?_ ha, fun Y w ao c ha hr => nil_step hX ?_ ha⟩
    · by_cases h0 : listE L = 0
      · rw [if_neg (fun h => h h0)]; exact begin_nil t ao l c L w hl hr hi h0
      · rw [if_pos h0]; exact begin_bad none t ao l c L w hl hr hi rfl h0
    · by_cases h0 : l = 0
      · have e1 : listE L = 1 := by unfold listE; rw [if_pos (.inl (by omega))]
        rw [e1, if_pos (by decide)]
        subst h0
        exact rbegin_few _ t ao c w
      · by_cases h4 : 4 < l
        · have e1 : listE L = 1 := by unfold listE; rw [if_pos (.inr (.inl (by omega)))]
          rw [e1, if_pos (by decide)]
          exact rbegin_many _ t ao l c w h4
        · by_cases hh : ∃ x ∈ L, 3 < x
          · have e1 : listE L = 1 := by unfold listE; rw [if_pos (.inr (.inr hh))]
            rw [e1, if_pos (by decide)]
            exact rbegin_high _ t ao l c L w hl (by omega) (by omega) hr hi hh
          · have hh' : ∀ x ∈ L, x ≤ 3 := fun x hx => by
              rcases Int.lt_or_le 3 x with h | h
              · exact absurd ⟨x, hx, h⟩ hh
              · exact h
            have hc : ¬ (L.length = 0 ∨ 4 < L.length ∨ ∃ x ∈ L, 3 < x) := by
              rintro (h | h | h)
              · omega
              · omega
              · exact hh h
            by_cases hn : L.Nodup
            · have e1 : listE L = 0 := by unfold listE; rw [if_neg hc, if_pos hn]
              rw [e1, if_neg (by decide)]
              exact rbegin_nil t ao l c L w hl (by omega) (by omega) hr hi hh' hn
            · have e1 : listE L = 3 := by unfold listE; rw [if_neg hc, if_neg hn]
              rw [e1, if_pos (by decide)]
              exact rbegin_dup _ t ao l c L w hl (by omega) (by omega) hr hi hh' hn
  k1 := by
    rintro rfl
    exact ⟨0, 6, fun Y w ha => nil_step hX (vote_nil t x yes w) ha, fun Y w ha => nil_step hX (rvote_nil t x yes w) ha⟩
  k2 := by
    rintro rfl
    exact ⟨6, fun Y w ha => nil_step hX (commit_nil t w) ha, fun Y w ha => nil_step hX (rcommit_nil t w) ha⟩
  k3 := by
    rintro rfl
    exact ⟨false, 6, fun Y w ha => nil_step hX (applied_nil t x w) ha, fun Y w ha => nil_step hX (rappl_nil t x w) ha⟩
  k4 := by
    rintro rfl
    exact ⟨6, fun Y w ha => nil_step hX (take_nil t w) ha, fun Y w ha => nil_step hX (rtake_nil t w) ha⟩
  k5 := by
    rintro rfl
    by_cases hs : nn = 3 ∨ nn = 4
    · exact ⟨6, fun Y w ha => nil_step hX (settle_nil t nn w hs) ha, fun Y w ha => nil_step hX (rsettle_nil t nn w hs) ha⟩
    · exact ⟨1, fun Y w ha => nil_step hX (settle_arg none t nn w (fun e => hs (.inl e)) (fun e => hs (.inr e))) ha, fun Y w ha => nil_step hX (rsettle_arg none t nn w (fun e => hs (.inl e)) (fun e => hs (.inr e))) ha⟩
  k6 := fun _ _ _ _ _ _ _ _ ha => ha
  tells := by
    refine ⟨[], 0, 0, [], ⟨by decide, by decide⟩, fun Y w _ => ⟨?_, ?_, ?_, ?_, runs_nil t w, rstate_nil t w, stands_nil t w, rstands_nil t w⟩⟩
    · exact (owing_nil t w).mono fun e w' hh => by rw [hh.1]; exact OwR.nil hh.2
    · exact (rowing_nil t w).mono fun e w' hh => by rw [hh.1]; exact OwR.nil hh.2
    · exact (doubt_nil w).mono fun e w' hh => ⟨_, hh.1, World.ownsRow_nil _ _ _ _, by rw [← hh.2]; exact Below.refl _ _⟩
    · exact (rdoubt_nil w).mono fun e w' hh => ⟨_, hh.1, World.ownsRow_nil _ _ _ _, by rw [← hh.2]; exact Below.refl _ _⟩
end
end Go.Proofs.Ytklalpamcfkngaa.Cm
