/- graph: an operation by content: why it is refused, what it reads, what it changes; refusal, read, change, each as one contract. -/
import Derived.Test.YtafenkepigmcaaaGreatDoorMD
import Derived.Test.YtafenkepigmcaaaGreatDoorKA
import Derived.Test.YtafenkepigmcaaaGreatDoorKB
import Derived.Test.YtafenkepigmcaaaGreatDoorKC
import Derived.Test.YtafenkepigmcaaaGreatDoorKD
namespace Go.Proofs.YtafenkepigmcaaaGreatDoor.Gr
open Go Go.RowKit YtafenkepigmcaaaGreatDoor.So
/-- An operation. -/
structure Ox where
  kd : Int
  A : Int
  B : Int
  key : Int
  a : Av
def Ox.v (o : Ox) : Value := opV o.kd o.A o.B o.key o.a
structure Ox.ok (o : Ox) : Prop where
  hkd : In8 o.kd
  hA : In32 o.A
  hB : In32 o.B
  hk : In8 o.key
  ha : o.a.ok
/-- Why an operation is refused; 0: it isn't. -/
def refG (G : GV) (o : Ox) : Int :=
  if o.kd = 1 then (if (getE G o.A).isSome = true then 7 else 0)
  else if o.kd = 6 ∨ o.kd = 7 then (if joinedG G o.A o.B = true then 0 else 6)
  else match getE G o.A with
  | none => 6
  | some x =>
    if o.kd = 2 then (if x.2.length = 0 then 0 else 8)
    else if o.kd = 9 then (if avEq ((getE x.1 o.key).getD zA) o.a = true then 0 else 9)
    else if o.kd = 5 then joinR G o.A o.B else 0
/-- What it reads. -/
def readG (G : GV) (o : Ox) : Option Av :=
  match getE G o.A with
  | none => none
  | some x =>
    if o.kd = 4 then some ((getE x.1 o.key).getD zA)
    else if o.kd = 7 then some ((getE x.2 o.B).getD zA)
    else if o.kd = 8 then some ⟨1, (x.2.length : Int), ⟨#[]⟩⟩ else none
/-- What it leaves. -/
def chgG (G : GV) (o : Ox) : GV :=
  if o.kd = 1 then putE (delE G o.A) o.A ([], [])
  else if o.kd = 2 then delE G o.A
  else match getE G o.A with
  | none => G
  | some x =>
    if o.kd = 3 then putE G o.A (setP x.1 o.key o.a, x.2)
    else if o.kd = 5 then halfIn (halfIn G o.A o.B o.a) o.B o.A o.a
    else if o.kd = 6 then halfOut (halfOut G o.A o.B) o.B o.A else G
theorem refusal_any (g n : Nat) (F : Nat → Prop) (G : GV) (o : Ox) (w : World) (h : Gp w n F g G) (ho : o.ok) :
    Calls Tryz.prog 111 #[.pointer (some ⟨g, 0, none⟩), o.v] w fun e w' => e = .returned (.int .i64 (refG G o)) ∧ Below w.heap.size w w' := by
  obtain ⟨kd, A, B, key, a⟩ := o
  obtain ⟨hkd, hA, hB, hk, ha⟩ := ho
  unfold refG Ox.v
  simp only at *
  by_cases h1 : kd = 1
  · subst h1
    rw [if_pos rfl]
    exact refuse_add g n F G A B key a w h hA
  rw [if_neg h1]
  by_cases h67 : kd = 6 ∨ kd = 7
  · rw [if_pos h67]
    exact refuse_edge g n F G kd A B key a w h hA hB h67
  rw [if_neg h67]
  have has : asks kd := ⟨h1, fun e => h67 (.inl e), fun e => h67 (.inr e)⟩
  cases hx : getE G A with
  | none => exact refuse_none g n F G kd A B key a w h hA has hx
  | some x =>
    simp only
    by_cases h2 : kd = 2
    · subst h2
      rw [if_pos rfl]
      exact refuse_del g n F G A B key a x w h hA hx
    rw [if_neg h2]
    by_cases h9 : kd = 9
    · subst h9
      rw [if_pos rfl]
      exact refuse_need g n F G A B key a x w h hA hk hx
    rw [if_neg h9]
    by_cases h5 : kd = 5
    · subst h5
      rw [if_pos rfl]
      exact refuse_join g n F G A B key a x w h hA hB hx
    rw [if_neg h5]
    exact refuse_ok g n F G kd A B key a x w h hA hx has h2 h9 h5
theorem joined_some {G : GV} {a b : Int} (h : joinedG G a b = true) : ∃ x, getE G a = some x := by
  cases hx : getE G a with
  | none => simp [joinedG, hG_none hx, getE] at h
  | some x => exact ⟨x, rfl⟩
theorem ref_there {G : GV} {o : Ox} (h : refG G o = 0) (h1 : ¬ o.kd = 1) : ∃ x, getE G o.A = some x := by
  unfold refG at h
  rw [if_neg h1] at h
  split at h
  · split at h
    · rename_i hj; exact joined_some hj
    · simp at h
  · cases hx : getE G o.A with
    | none => rw [hx] at h; simp at h
    | some x => exact ⟨x, rfl⟩
theorem read_any (g n : Nat) (F : Nat → Prop) (G : GV) (o : Ox) (w : World) (h : Gp w n F g G) (ho : o.ok) (hr : refG G o = 0) :
    Calls Tryz.prog 112 #[.pointer (some ⟨g, 0, none⟩), o.v] w fun e w' => e = .returned (.tuple #[((readG G o).getD zA).val, .bool (readG G o).isSome]) ∧ Below w.heap.size w w' := by
  have ht := ref_there hr
  obtain ⟨kd, A, B, key, a⟩ := o
  obtain ⟨hkd, hA, hB, hk, ha⟩ := ho
  unfold readG Ox.v
  simp only at *
  by_cases h4 : kd = 4
  · subst h4
    obtain ⟨x, hx⟩ := ht (by decide)
    rw [hx]
    exact read_get g n F G A B key a x w h hA hk hx
  by_cases h7 : kd = 7
  · subst h7
    obtain ⟨x, hx⟩ := ht (by decide)
    rw [hx]
    exact read_edge g n F G A B key a x w h hA hB hx
  by_cases h8 : kd = 8
  · subst h8
    obtain ⟨x, hx⟩ := ht (by decide)
    rw [hx]
    exact read_degree g n F G A B key a x w h hA hx
  have e : (match getE G A with | none => none | some x => if kd = 4 then some ((getE x.1 key).getD zA) else if kd = 7 then some ((getE x.2 B).getD zA) else if kd = 8 then some (⟨1, (x.2.length : Int), ⟨#[]⟩⟩ : Av) else none) = (none : Option Av) := by
    cases getE G A with
    | none => rfl
    | some x => simp [h4, h7, h8]
  rw [e]
  exact read_none g kd A B key a w h4 h7 h8
theorem Done.of_below {w w' : World} {F : Nat → Prop} {n g : Nat} {G : GV} (h : Gp w n F g G) (hb : Below w.heap.size w w') : Done w F n g G w' := ⟨F, h.below hb, fun _ hk => .inl hk, turned_low hb⟩
theorem Gp.mono {w : World} {n m g : Nat} {F : Nat → Prop} {G : GV} (h : Gp w n F g G) (hn : n ≤ m) : Gp w m F g G := by
  obtain ⟨mp, me, bp, be, h⟩ := h
  exact ⟨mp, me, bp, be, h.mono hn⟩
theorem change_any (g n : Nat) (F : Nat → Prop) (G : GV) (o : Ox) (w : World) (h : Gp w n F g G) (hn : n + 1 < maxLen) (ho : o.ok) (hr : refG G o = 0) :
    Calls Tryz.prog 113 #[.pointer (some ⟨g, 0, none⟩), o.v] w fun e w' => e = .returned (.tuple #[]) ∧ Done w F (n + 2) g (chgG G o) w' := by
  have ht := ref_there hr
  have h0 := hr
  obtain ⟨kd, A, B, key, a⟩ := o
  obtain ⟨hkd, hA, hB, hk, ha⟩ := ho
  unfold chgG Ox.v
  simp only at *
  by_cases h1 : kd = 1
  · subst h1
    rw [if_pos rfl]
    exact (change_add g n F G A B key a w h (by omega) hA).mono fun e w' hh => ⟨hh.1, hh.2.mono (by omega)⟩
  rw [if_neg h1]
  by_cases h2 : kd = 2
  · subst h2
    rw [if_pos rfl]
    exact (change_del g n F G A B key a w h hA).mono fun e w' hh => ⟨hh.1, hh.2.mono (by omega)⟩
  rw [if_neg h2]
  obtain ⟨x, hx⟩ := ht h1
  rw [hx]
  simp only
  by_cases h3 : kd = 3
  · subst h3
    rw [if_pos rfl]
    exact (change_set g n F G A B key a x w h (by omega) hx hA hk ha).mono fun e w' hh => ⟨hh.1, hh.2.mono (by omega)⟩
  rw [if_neg h3]
  by_cases h5 : kd = 5
  · subst h5
    rw [if_pos rfl]
    have e1 : halfIn G A B a = putE G A (x.1, putE x.2 B a) := by simp [halfIn, hx]
    have hj : joinR G A B = 0 := by simpa [refG, hx] using h0
    obtain ⟨y, hy⟩ : ∃ y, getE (putE G A (x.1, putE x.2 B a)) B = some y := by
      rw [getE_put G A _ h.rise]
      by_cases e : B = A
      · rw [if_pos e]; exact ⟨_, rfl⟩
      · rw [if_neg e]
        unfold joinR at hj
        cases hq : getE G B with
        | none => rw [hq] at hj; simp at hj
        | some y => exact ⟨y, rfl⟩
    have e2 : halfIn (halfIn G A B a) B A a = putE (putE G A (x.1, putE x.2 B a)) B (y.1, putE y.2 A a) := by rw [e1]; simp [halfIn, hy]
    rw [e2]
    exact change_join g n F G A B key a x y w h hn hx hA hB ha hy
  rw [if_neg h5]
  by_cases h6 : kd = 6
  · subst h6
    rw [if_pos rfl]
    exact (change_cut g n F G A B key a x w h hx hA hB).mono fun e w' hh => ⟨hh.1, hh.2.mono (by omega)⟩
  rw [if_neg h6]
  exact (change_still g kd A B key a w h1 h2 h3 h5 h6).mono fun e w' hh => ⟨hh.1, (Done.of_below h hh.2).mono (by omega)⟩
end Go.Proofs.YtafenkepigmcaaaGreatDoor.Gr
/- graph: operations one behind the other, by content; what a refused transaction takes back. -/
namespace Go.Proofs.YtafenkepigmcaaaGreatDoor.Gr
open Go Go.RowKit YtafenkepigmcaaaGreatDoor.So
/-- What is left behind operations that are taken. -/
def stG (G : GV) (os : List Ox) : GV := os.foldl chgG G
/-- What they read. -/
def valG : GV → List Ox → List Av
  | _, [] => []
  | G, o :: os => (readG G o).toList ++ valG (chgG G o) os
/-- Who is refused first, and why. -/
def badG : GV → List Ox → Option (Nat × Int)
  | _, [] => none
  | G, o :: os => if refG G o = 0 then (badG (chgG G o) os).map (fun p => (p.1 + 1, p.2)) else some (0, refG G o)
theorem stG_snoc (G : GV) (os : List Ox) (o : Ox) : stG G (os ++ [o]) = chgG (stG G os) o := by simp [stG, List.foldl_append]
theorem valG_snoc (G : GV) (os : List Ox) (o : Ox) : valG G (os ++ [o]) = valG G os ++ (readG (stG G os) o).toList := by
  induction os generalizing G with
  | nil => simp [valG, stG]
  | cons x os ih => simp only [List.cons_append, valG, ih]; simp [stG]
theorem badG_snoc {G : GV} {os : List Ox} {o : Ox} (h : badG G os = none) (hr : refG (stG G os) o = 0) : badG G (os ++ [o]) = none := by
  induction os generalizing G with
  | nil => simpa [badG, stG] using hr
  | cons x os ih =>
    simp only [List.cons_append, badG] at h ⊢
    by_cases hx : refG G x = 0
    · rw [if_pos hx] at h ⊢
      have h' : badG (chgG G x) os = none := by cases hq : badG (chgG G x) os <;> simp [hq] at h ⊢
      rw [ih h' (by simpa [stG] using hr)]; rfl
    · rw [if_neg hx] at h; cases h
theorem badG_at {G : GV} {os rest : List Ox} {o : Ox} (h : badG G os = none) (hr : ¬ refG (stG G os) o = 0) : badG G (os ++ o :: rest) = some (os.length, refG (stG G os) o) := by
  induction os generalizing G with
  | nil => simp only [List.nil_append, badG, stG, List.foldl_nil] at hr ⊢; rw [if_neg hr]; rfl
  | cons x os ih =>
    simp only [List.cons_append, badG] at h ⊢
    by_cases hx : refG G x = 0
    · rw [if_pos hx] at h ⊢
      have h' : badG (chgG G x) os = none := by cases hq : badG (chgG G x) os <;> simp [hq] at h ⊢
      rw [ih h' (by simpa [stG] using hr)]; simp [stG]
    · rw [if_neg hx] at h; cases h
section
variable {α : Type}
theorem getE_put_ne {E : EL α} {k j : Int} {v : α} (h : RiseE E) (hj : j ≠ k) : getE (putE E k v) j = getE E j := by rw [getE_put E k v h, if_neg hj]
theorem getE_del_ne {E : EL α} {k j : Int} (hj : j ≠ k) : getE (delE E k) j = getE E j := by rw [getE_del, if_neg hj]
/-- More put behind all is put at the end. -/
theorem putE_end {E : EL α} {k : Int} {v : α} (h : ∀ e ∈ E, e.1 < k) : putE E k v = E ++ [(k, v)] := by
  induction E with
  | nil => rfl
  | cons a E ih =>
    have := h a (by simp)
    unfold putE
    rw [if_neg (by omega), if_neg (by omega), ih (fun e he => h e (by simp [he]))]
    rfl
theorem put_take {E : EL α} (h : RiseE E) {i : Nat} {e : Int × α} (he : E[i]? = some e) : putE (E.take i) e.1 e.2 = E.take (i + 1) := by
  rw [List.take_add_one, he, putE_end]
  · rfl
  · intro x hx
    obtain ⟨j, hj, rfl⟩ := List.mem_iff_getElem.1 hx
    have hl : j < i ∧ j < E.length := by rw [List.length_take] at hj; omega
    rw [List.getElem_take]
    obtain ⟨hi, rfl⟩ := List.getElem?_eq_some_iff.1 he
    exact List.pairwise_iff_getElem.1 h j i hl.2 hi hl.1
end
/-- A vertex held as it is told; told not there it isn't. -/
def holdG (G : GV) (v : Int) (c : Option (EL Av × EL Av)) : GV := match c with
  | none => delE G v
  | some x => putE (delE G v) v x
theorem holdG_rise {G : GV} (h : RiseE G) (v : Int) (c : Option (EL Av × EL Av)) : RiseE (holdG G v c) := by
  cases c with
  | none => exact delE_rise h v
  | some x => exact putE_rise (delE_rise h v) v x
theorem getE_hold {G : GV} (h : RiseE G) (v : Int) (c : Option (EL Av × EL Av)) (j : Int) : getE (holdG G v c) j = if j = v then c else getE G j := by
  cases c with
  | none => exact getE_del G v j
  | some x =>
    simp only [holdG]
    rw [getE_put _ _ _ (delE_rise h v)]
    by_cases e : j = v
    · rw [if_pos e, if_pos e]
    · rw [if_neg e, if_neg e, getE_del_ne e]
theorem halfIn_rise {G : GV} (h : RiseE G) (v o : Int) (a : Av) : RiseE (halfIn G v o a) := by
  unfold halfIn; split
  · exact putE_rise h _ _
  · exact h
theorem halfOut_rise {G : GV} (h : RiseE G) (v o : Int) : RiseE (halfOut G v o) := by
  unfold halfOut; split
  · exact putE_rise h _ _
  · exact h
theorem getE_halfIn {G : GV} (h : RiseE G) (v o : Int) (a : Av) (j : Int) : getE (halfIn G v o a) j = if j = v then (getE G v).map (fun x => (x.1, putE x.2 o a)) else getE G j := by
  unfold halfIn
  cases hv : getE G v with
  | none =>
    simp only [Option.map_none]
    by_cases e : j = v
    · rw [if_pos e, e, hv]
    · rw [if_neg e]
  | some x =>
    simp only [Option.map_some]
    rw [getE_put _ _ _ h]
theorem getE_halfOut {G : GV} (h : RiseE G) (v o j : Int) : getE (halfOut G v o) j = if j = v then (getE G v).map (fun x => (x.1, delE x.2 o)) else getE G j := by
  unfold halfOut
  cases hv : getE G v with
  | none =>
    simp only [Option.map_none]
    by_cases e : j = v
    · rw [if_pos e, e, hv]
    · rw [if_neg e]
  | some x =>
    simp only [Option.map_some]
    rw [getE_put _ _ _ h]
theorem chgG_rise {G : GV} (h : RiseE G) (o : Ox) : RiseE (chgG G o) := by
  unfold chgG
  split
  · exact putE_rise (delE_rise h _) _ _
  · split
    · exact delE_rise h _
    · split
      · exact h
      · split
        · exact putE_rise h _ _
        · split
          · exact halfIn_rise (halfIn_rise h _ _ _) _ _ _
          · split
            · exact halfOut_rise (halfOut_rise h _ _) _ _
            · exact h
theorem stG_rise {G : GV} (h : RiseE G) (os : List Ox) : RiseE (stG G os) := by
  induction os generalizing G with
  | nil => exact h
  | cons o os ih => exact ih (chgG_rise h o)
/-- What an operation doesn't name stays as it was. -/
theorem chgG_other {G : GV} (h : RiseE G) (o : Ox) {j : Int} (hA : j ≠ o.A) (hB : j ≠ o.B ∨ ¬ o.kd = 5 ∧ ¬ o.kd = 6) : getE (chgG G o) j = getE G j := by
  unfold chgG
  split
  · rw [getE_put_ne (delE_rise h _) hA, getE_del_ne hA]
  · split
    · rw [getE_del_ne hA]
    · split
      · rfl
      · split
        · rw [getE_put_ne h hA]
        · split
          · rename_i h5
            have hB' : j ≠ o.B := hB.elim id (fun q => absurd h5 q.1)
            rw [getE_halfIn (halfIn_rise h _ _ _), if_neg hB', getE_halfIn h, if_neg hA]
          · split
            · rename_i h6
              have hB' : j ≠ o.B := hB.elim id (fun q => absurd h6 q.2)
              rw [getE_halfOut (halfOut_rise h _ _), if_neg hB', getE_halfOut h, if_neg hA]
            · rfl
theorem stG_other {G : GV} (h : RiseE G) (os : List Ox) {j : Int} (hj : ∀ o ∈ os, j ≠ o.A ∧ (j ≠ o.B ∨ ¬ o.kd = 5 ∧ ¬ o.kd = 6)) : getE (stG G os) j = getE G j := by
  induction os generalizing G with
  | nil => rfl
  | cons o os ih =>
    show getE (stG (chgG G o) os) j = _
    rw [ih (chgG_rise h o) (fun x hx => hj x (by simp [hx]))]
    exact chgG_other h o (hj o (by simp)).1 (hj o (by simp)).2
/-- The vertices that operations may change, in the order in which they are noted. -/
def touchG (os : List Ox) : List Int := os.flatMap fun o => if o.B = 0 then [o.A] else [o.A, o.B]
theorem touchG_snoc (os : List Ox) (o : Ox) : touchG (os ++ [o]) = touchG os ++ (if o.B = 0 then [o.A] else [o.A, o.B]) := by simp [touchG]
/-- Vertices held again as G has them. -/
def backG (G : GV) (H : GV) (l : List Int) : GV := l.foldl (fun H v => holdG H v (getE G v)) H
theorem backG_snoc (G H : GV) (l : List Int) (v : Int) : backG G H (l ++ [v]) = holdG (backG G H l) v (getE G v) := by simp [backG, List.foldl_append]
theorem backG_rise {G H : GV} (h : RiseE H) (l : List Int) : RiseE (backG G H l) := by
  induction l generalizing H with
  | nil => exact h
  | cons v l ih => exact ih (holdG_rise h _ _)
theorem getE_back {G H : GV} (h : RiseE H) (l : List Int) (j : Int) : getE (backG G H l) j = if j ∈ l then getE G j else getE H j := by
  induction l generalizing H with
  | nil => simp [backG]
  | cons v l ih =>
    show getE (backG G (holdG H v (getE G v)) l) j = _
    rw [ih (holdG_rise h _ _), getE_hold h]
    by_cases h1 : j ∈ l
    · simp [h1]
    · by_cases h2 : j = v
      · subst h2; simp [h1]
      · simp [h1, h2]
/-- What was touched held again: all is as it was. -/
theorem back_all {G : GV} (h : RiseE G) (os pre : List Ox) (hp : ∀ o ∈ pre, o ∈ os) (hz : ∀ o ∈ os, o.B = 0 → ¬ o.kd = 5 ∧ ¬ o.kd = 6) : backG G (stG G pre) (touchG os) = G := by
  refine rise_ext (backG_rise (stG_rise h _) _) h (fun j => ?_)
  rw [getE_back (stG_rise h _)]
  by_cases hj : j ∈ touchG os
  · rw [if_pos hj]
  · rw [if_neg hj]
    refine stG_other h pre (fun o ho => ?_)
    have hn : j ∉ (if o.B = 0 then [o.A] else [o.A, o.B]) := fun hm => hj (List.mem_flatMap.2 ⟨o, hp o ho, hm⟩)
    by_cases hB : o.B = 0
    · rw [if_pos hB] at hn
      exact ⟨fun e => hn (by simp [e]), .inr (hz o (hp o ho) hB)⟩
    · rw [if_neg hB] at hn
      exact ⟨fun e => hn (by simp [e]), .inl (fun e => hn (by simp [e]))⟩
end Go.Proofs.YtafenkepigmcaaaGreatDoor.Gr
/- graph: a map's keys, sorted, are the keys of its rising list. -/
namespace Go.Proofs.YtafenkepigmcaaaGreatDoor.Gr
open Go Go.RowKit YtafenkepigmcaaaGreatDoor.So
theorem rise_eq {a b : List Int} (ha : a.Pairwise (· < ·)) (hb : b.Pairwise (· < ·)) (h : ∀ x, x ∈ a ↔ x ∈ b) : a = b := by
  induction a generalizing b with
  | nil =>
    cases b with
    | nil => rfl
    | cons y b => have := (h y).2 (by simp); cases this
  | cons x a ih =>
    obtain ⟨a1, a2⟩ := List.pairwise_cons.1 ha
    cases b with
    | nil => have := (h x).1 (by simp); cases this
    | cons y b =>
      obtain ⟨b1, b2⟩ := List.pairwise_cons.1 hb
      have e : x = y := by
        rcases List.mem_cons.1 ((h x).1 (by simp)) with e | e
        · exact e
        · rcases List.mem_cons.1 ((h y).2 (by simp)) with e' | e'
          · exact e'.symm
          · have := b1 x e; have := a1 y e'; omega
      subst e
      congr 1
      refine ih a2 b2 (fun z => ?_)
      have := h z
      simp only [List.mem_cons] at this
      constructor
      · intro hz
        rcases this.1 (.inr hz) with e | e
        · have := a1 z hz; omega
        · exact e
      · intro hz
        rcases this.2 (.inr hz) with e | e
        · have := b1 z hz; omega
        · exact e
def keysE {α : Type} (E : EL α) : List Int := E.map Prod.fst
theorem keysE_len {α : Type} (E : EL α) : (keysE E).length = E.length := by simp [keysE]
theorem keysE_rise {α : Type} {E : EL α} (h : RiseE E) : (keysE E).Pairwise (· < ·) := List.pairwise_map.2 h
theorem mem_keysE {α : Type} {E : EL α} (h : RiseE E) (k : Int) : k ∈ keysE E ↔ (getE E k).isSome = true := by
  constructor
  · intro hk
    obtain ⟨e, he, rfl⟩ := List.mem_map.1 hk
    rw [get_of_mem h he]; rfl
  · intro hk
    obtain ⟨v, hv⟩ := Option.isSome_iff_exists.1 hk
    exact List.mem_map.2 ⟨_, mem_of_get hv, rfl⟩
theorem keys_of {kt : TypeId} {q : IntKind} {zd : Value} {w : World} {b n : Nat} {E : ES} {D : DataW Value} (h : MapE kt q zd w b n E) (hD : ∀ k, InQ q k → Maps.has D (.int q k) = (getE E k).isSome) {ss : List Int} (hr : ss.Pairwise (· < ·)) (hw : ∀ x ∈ ss, InQ q x) (hm : ∀ x, InQ q x → (x ∈ ss ↔ Maps.has D (.int q x) = true)) : ss = keysE E := by
  refine rise_eq hr (keysE_rise h.rise) (fun x => ?_)
  constructor
  · intro hx
    have h1 := (hm x (hw x hx)).1 hx
    rw [hD x (hw x hx)] at h1
    exact (mem_keysE h.rise x).2 h1
  · intro hx
    obtain ⟨e, he, rfl⟩ := List.mem_map.1 hx
    have hq := h.wf e he
    refine (hm _ hq).2 ?_
    rw [hD _ hq]
    exact (mem_keysE h.rise _).1 hx
theorem keysA (Bm b nn : Nat) (zd : Value) (E : ES) (w : World) (hBm : Bm < w.heap.size) (hm : w.cell? ⟨Bm, 0, none⟩ = some (.map (some b))) (h : MapE 23 .u32 zd w b nn E) (hnn : nn ≤ 1000000000000) :
    Calls Tryz.prog 66 #[.func (.func 101) #[] #[.pointer (some ⟨Bm, 0, none⟩)]] w fun e w' => ∃ ao cap, e = .returned (.slice ao E.length cap) ∧ w'.ownsRow w.heap.size 23 1 (.slice ao E.length cap) E.length (KA.u32s (keysE E)) ∧ Below w.heap.size w w' := by
  obtain ⟨D, h1, h2, h3⟩ := h.own
  refine (KA.sorted_any Bm b nn D w hBm hm h1 hnn).mono ?_
  rintro e w' ⟨ao, cap, ss, rfl, hk, hr, ho, hb⟩
  obtain rfl := keys_of h (fun k hk => (h2 k hk).2) hr hk.2.1 hk.2.2.1
  rw [keysE_len] at ho ⊢
  exact ⟨ao, cap, rfl, ho, hb⟩
theorem keysB (Bm b nn : Nat) (zd : Value) (E : ES) (w : World) (hBm : Bm < w.heap.size) (hm : w.cell? ⟨Bm, 0, none⟩ = some (.map (some b))) (h : MapE 23 .u32 zd w b nn E) (hnn : nn ≤ 1000000000000) :
    Calls Tryz.prog 66 #[.func (.func 102) #[] #[.pointer (some ⟨Bm, 0, none⟩)]] w fun e w' => ∃ ao cap, e = .returned (.slice ao E.length cap) ∧ w'.ownsRow w.heap.size 23 1 (.slice ao E.length cap) E.length (KB.u32s (keysE E)) ∧ Below w.heap.size w w' := by
  obtain ⟨D, h1, h2, h3⟩ := h.own
  refine (KB.sorted_any Bm b nn D w hBm hm h1 hnn).mono ?_
  rintro e w' ⟨ao, cap, ss, rfl, hk, hr, ho, hb⟩
  obtain rfl := keys_of h (fun k hk => (h2 k hk).2) hr hk.2.1 hk.2.2.1
  rw [keysE_len] at ho ⊢
  exact ⟨ao, cap, rfl, ho, hb⟩
theorem keysC (Bm b nn : Nat) (zd : Value) (E : ES) (w : World) (hBm : Bm < w.heap.size) (hm : w.cell? ⟨Bm, 0, none⟩ = some (.map (some b))) (h : MapE 23 .u32 zd w b nn E) (hnn : nn ≤ 1000000000000) :
    Calls Tryz.prog 66 #[.func (.func 118) #[] #[.pointer (some ⟨Bm, 0, none⟩)]] w fun e w' => ∃ ao cap, e = .returned (.slice ao E.length cap) ∧ w'.ownsRow w.heap.size 23 1 (.slice ao E.length cap) E.length (KC.u32s (keysE E)) ∧ Below w.heap.size w w' := by
  obtain ⟨D, h1, h2, h3⟩ := h.own
  refine (KC.sorted_any Bm b nn D w hBm hm h1 hnn).mono ?_
  rintro e w' ⟨ao, cap, ss, rfl, hk, hr, ho, hb⟩
  obtain rfl := keys_of h (fun k hk => (h2 k hk).2) hr hk.2.1 hk.2.2.1
  rw [keysE_len] at ho ⊢
  exact ⟨ao, cap, rfl, ho, hb⟩
theorem keysD (Bm b nn : Nat) (zd : Value) (E : ES) (w : World) (hBm : Bm < w.heap.size) (hm : w.cell? ⟨Bm, 0, none⟩ = some (.map (some b))) (h : MapE 5 .u8 zd w b nn E) (hnn : nn ≤ 1000000000000) (hfew : E.length ≤ 12) :
    Calls Tryz.prog 63 #[.func (.func 98) #[] #[.pointer (some ⟨Bm, 0, none⟩)]] w fun e w' => ∃ ao cap, e = .returned (.slice ao E.length cap) ∧ w'.ownsRow w.heap.size 5 1 (.slice ao E.length cap) E.length (KD.u32s (keysE E)) ∧ Below w.heap.size w w' := by
  obtain ⟨D, h1, h2, h3⟩ := h.own
  refine (KD.sorted_any Bm b nn D w hBm hm h1 hnn (by rw [h3]; exact hfew)).mono ?_
  rintro e w' ⟨ao, cap, ss, rfl, hk, hr, ho, hb⟩
  obtain rfl := keys_of h (fun k hk => (h2 k hk).2) hr hk.2.1 hk.2.2.1
  rw [keysE_len] at ho ⊢
  exact ⟨ao, cap, rfl, ho, hb⟩
end Go.Proofs.YtafenkepigmcaaaGreatDoor.Gr
