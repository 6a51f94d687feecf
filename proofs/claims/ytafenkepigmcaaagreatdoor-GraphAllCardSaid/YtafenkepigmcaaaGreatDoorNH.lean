/- graph: what a request is answered, and what it leaves, by content. -/
import Derived.Test.YtafenkepigmcaaaGreatDoorNG
namespace Go.Proofs.YtafenkepigmcaaaGreatDoor.Gr
open Go Go.RowKit YtafenkepigmcaaaGreatDoor.So
structure An where
  E : Int
  At : Int
  vals : List Av
  list : List Int
open Classical in
/-- The vertices within k edges, rising. -/
noncomputable def withinG (G : GV) (v : Int) (k : Nat) : List Int := (keysE G).filter fun x => decide (Wi G v k x)
noncomputable def ansG (G : GV) (r : Rq) : An :=
  if chkR r ≠ 0 then ⟨chkR r, 0, [], []⟩
  else if r.kd = 1 then (match badG G r.os with
    | none => ⟨0, 0, valG G r.os, []⟩
    | some (i, c) => ⟨c, i, [], []⟩)
  else if (getE G r.V).isSome = false then ⟨6, 0, [], []⟩
  else if r.kd = 2 then ⟨0, 0, [], withinG G r.V r.K.toNat⟩
  else ⟨0, 0, [], []⟩
/-- What a request leaves. -/
def nextG (G : GV) (r : Rq) : GV :=
  if chkR r ≠ 0 then G
  else if r.kd = 1 then (match badG G r.os with
    | none => stG G r.os
    | some _ => G)
  else G
theorem within_eq {G : GV} {v : Int} {k : Nat} {ss : List Int} (hr : RiseE G) (hs : ss.Pairwise (· < ·)) (hm : ∀ x, x ∈ ss ↔ Wi G v k x) (ht : ∀ x, Wi G v k x → (getE G x).isSome = true) : ss = withinG G v k := by
  refine rise_eq hs ((keysE_rise hr).filter _) (fun x => ?_)
  unfold withinG
  rw [List.mem_filter, hm x]
  constructor
  · intro h; exact ⟨(mem_keysE hr x).2 (ht x h), by simpa using h⟩
  · rintro ⟨_, h⟩; simpa using h
/-- The fields of an operation are what their types hold. -/
structure Ox.wf (o : Ox) : Prop where
  hkd : In8 o.kd
  hA : In32 o.A
  hB : In32 o.B
  hk : In8 o.key
  k8 : In8 o.a.k
  n64 : InQ .i64 o.a.n
  sz : o.a.s.size ≤ maxLen
theorem okO_parts {o : Ox} (h : okO o = true) : pO o.kd = true ∧ numB o.A = true ∧ farB o.A o.B (pB o.kd) = true ∧ keyB o.key (pK o.kd) = true ∧ valB o.a (pV o.kd) = true := by
  unfold okO at h
  simpa only [Bool.and_eq_true] using h
theorem okV_size {a : Av} (h : okV a = true) : a.s.size ≤ 8 := by
  unfold okV Vl.formB at h
  have h := of_decide_eq_true h
  rw [← ByteArray.size_data, ← Array.length_toList]
  rcases h with ⟨_, _, e⟩ | ⟨_, e⟩ | ⟨_, _, e, _⟩
  · rw [e]; simp
  · rw [e]; simp
  · exact e
theorem valB_size {a : Av} {u : Bool} (h : valB a u = true) : a.s.size ≤ 8 := by
  unfold valB at h
  rw [Bool.or_eq_true] at h
  rcases h with h | h
  · rw [(avEq_iff a zA).1 h]; decide
  · rw [Bool.and_eq_true] at h; exact okV_size h.2
theorem okO_ok {o : Ox} (h : okO o = true) (hw : o.wf) : o.ok :=
  ⟨hw.hkd, hw.hA, hw.hB, hw.hk, hw.k8, hw.n64, Nat.le_trans (valB_size (okO_parts h).2.2.2.2) (by decide)⟩
theorem okO_two {o : Ox} (h : okO o = true) (hB : o.B = 0) : ¬ o.kd = 5 ∧ ¬ o.kd = 6 := by
  have hf := (okO_parts h).2.2.1
  refine ⟨fun e => ?_, fun e => ?_⟩
  all_goals
    rw [hB, e] at hf
    simp [farB, pB, numB] at hf
theorem chk_tx {r : Rq} (h : chkR r = 0) (hk : r.kd = 1) : r.os.length ≤ 6 ∧ ∀ o ∈ r.os, okO o = true := by
  unfold chkR at h
  rw [if_pos hk] at h
  unfold chkTx at h
  split at h
  · cases h
  · rename_i h1
    split at h
    · cases h
    · rename_i h2
      refine ⟨by omega, fun o ho => ?_⟩
      have : r.os.all okO = true := by
        cases hq : r.os.all okO with
        | true => rfl
        | false => exact absurd (.inr (.inr (.inr hq))) h2
      exact List.all_eq_true.1 this o ho
theorem chk_hops {r : Rq} (h : chkR r = 0) (hk : r.kd = 2) : 0 ≤ r.K ∧ r.K ≤ 8 := by
  unfold chkR at h
  rw [if_neg (by omega), if_pos hk] at h
  unfold chkOne at h
  split at h
  · cases h
  · omega
theorem chk_kd {r : Rq} (h : chkR r = 0) : r.kd = 1 ∨ r.kd = 2 ∨ r.kd = 3 := by
  unfold chkR at h
  split at h
  · exact .inl (by assumption)
  · split at h
    · exact .inr (.inl (by assumption))
    · split at h
      · exact .inr (.inr (by assumption))
      · cases h
/-- Behind a request. -/
structure Asked (w : World) (F : Nat → Prop) (n g : Nat) (G : GV) (a : An) (vv lv : Value) (w' : World) : Prop where
  gr : ∃ F', Gp w' n F' g G ∧ (∀ k, F' k → F k ∨ w.heap.size ≤ k) ∧ (∀ b, vv.ownBlock = some b → ¬ F' b) ∧ (∀ b, lv.ownBlock = some b → ¬ F' b)
  tur : Turned F w w'
  vals : w'.ownsRow w.heap.size 47 3 vv a.vals.length (aCells a.vals)
  list : w'.ownsRow w.heap.size 23 1 lv a.list.length (KA.u32s a.list)
theorem Asked.still {w w' : World} {F : Nat → Prop} {n g : Nat} {G : GV} {e at_ : Int} (h : Gp w n F g G) (hb : Below w.heap.size w w') : Asked w F n g G ⟨e, at_, [], []⟩ (.slice none 0 0) (.slice none 0 0) w' :=
  ⟨⟨F, h.below hb, fun k hk => .inl hk, fun b hb => by simp [Value.ownBlock] at hb, fun b hb => by simp [Value.ownBlock] at hb⟩, turned_low hb, World.ownsRow_nil _ _ _ _, World.ownsRow_nil _ _ _ _⟩
end Go.Proofs.YtafenkepigmcaaaGreatDoor.Gr
