/- The lists that the law makes, walked. -/
import Derived.Test.YtfennglfmngeiaaW7
import Derived.Deep.AppendLies
namespace Go.Proofs.Ytfennglfmngeiaa.St
open Go Go.RowKit Go.Sort
def flat (l : List Q) : List Value := l.flatMap encQ
theorem flat_app (l m : List Q) : flat (l ++ m) = flat l ++ flat m := by simp [flat]
theorem flat_one (x : Q) : flat [x] = encQ x := by simp [flat]
theorem flat_length (l : List Q) : (flat l).length = l.length * 4 := by
  induction l with
  | nil => rfl
  | cons x l ih => rw [show flat (x :: l) = encQ x ++ flat l from rfl, List.length_append, ih]; simp [encQ]; omega
theorem flat_get (l : List Q) : ∀ i j : Nat, i < l.length → j < 4 → (flat l)[i * 4 + j]? = (encQ (l.getD i q0))[j]? := by
  induction l with
  | nil => intro i j h; simp at h
  | cons x l ih =>
    intro i j hi hj
    rw [show flat (x :: l) = encQ x ++ flat l from rfl]
    cases i with
    | zero => rw [List.getElem?_append_left (by simp [encQ]; omega)]; simp
    | succ i =>
      rw [List.getElem?_append_right (by simp [encQ]; omega), show (i + 1) * 4 + j - (encQ x).length = i * 4 + j by simp [encQ]; omega, ih i j (by simpa using hi) hj]
      simp
theorem one_cells (x : Q) : ∀ u ∈ encQ x, u.oneCell' = true := by
  intro u hu
  simp [encQ] at hu
  rcases hu with rfl | rfl | rfl | rfl <;> rfl
theorem flat_cells (l : List Q) : ∀ u ∈ flat l, u.oneCell' = true := by
  intro u hu
  obtain ⟨x, _, hx⟩ := List.mem_flatMap.1 hu
  exact one_cells x u hx
/-- A row of the call's own that holds these stamps. -/
def Own (w : World) (B : Nat) (e : TypeId) (v : Value) (l : List Q) : Prop := w.ownsRow B e 4 v l.length (flat l)
theorem Own.qs {w : World} {B e g n cap : Nat} {l : List Q} (h : Own w B e (.slice (some ⟨g, 0, none⟩) n cap) l) : Qs w (some ⟨g, 0, none⟩) l := by
  intro i hi
  have hc : ∀ j, j < l.length * 4 → w.cell? ⟨g, j, none⟩ = (flat l)[j]? := by
    have h' := h
    unfold Own at h'
    have hn : n = l.length := by
      rcases h'.2 with ⟨h1, _⟩ | ⟨_, _, _, h1, _⟩
      · cases h1
      · cases h1; rfl
    rw [hn] at h'
    exact fun j hj => h'.cellAt j hj
  refine ⟨g, 0, rfl, (World.ownsRow.lt h g rfl).2, rfl, fun j hj => ?_⟩
  rw [← flat_get l i j hi hj, ← hc (i * 4 + j) (by omega), Nat.zero_add]
theorem Own.put {w : World} {B e n k g cap : Nat} {l m : List Q} {xs : List Value} (h : w.ownsRow B e 4 (.slice (some ⟨g, 0, none⟩) (n + k) cap) (n + k) xs) (hn : l.length = n) (hk : m.length = k) (hx : xs = flat l ++ flat m) : Own w B e (.slice (some ⟨g, 0, none⟩) (n + k) cap) (l ++ m) := by
  unfold Own
  rw [flat_app, List.length_append, hn, hk, ← hx]
  exact h
theorem Own.nil (w : World) (B e : Nat) : Own w B e (.slice none 0 0) [] := World.ownsRow_nil w B e 4
theorem info39 : (Try.prog.info? 39).map (fun i => (i.zero, i.size, i.bytes)) = some (some (.agg #[.int .u64 0, .int .u8 0, .int .u32 0, .int .u32 0]), 4, 24) := by kernel_rfl
theorem info37 : (Try.prog.info? 37).map (fun i => (i.zero, i.size, i.bytes)) = some (some (.agg #[.int .u64 0, .int .u8 0, .int .u32 0, .int .u32 0]), 4, 24) := by kernel_rfl
theorem info_parts' {P : Program} {t : TypeId} {z : Value} {s b : Nat} (h : (P.info? t).map (fun i => (i.zero, i.size, i.bytes)) = some (some z, s, b)) : ∃ i, P.info? t = some i ∧ i.zero = some z ∧ i.size = s ∧ i.bytes = b := by
  obtain ⟨i, h1, h2⟩ := Option.map_eq_some_iff.1 h
  simp only [Prod.mk.injEq] at h2
  exact ⟨i, h1, h2.1, h2.2.1, h2.2.2⟩
theorem new_cells {w W : World} {o : Obj} {x : Q} {t : TypeId} (h : W = (w.alloc o).alloc (.cells #[.int .u64 x.n, .int .u8 x.node, .int .u32 x.inc, .int .u32 x.seq] t)) : ∀ j u, (encQ x)[j]? = some u → W.cell? ((⟨w.heap.size + 1, 0, none⟩ : Addr).add j) = some u := by
  subst h
  intro j u h
  match j, h with
  | 0, h => simp [encQ] at h; subst h; simp [Addr.add, go_sem]
  | 1, h => simp [encQ] at h; subst h; simp [Addr.add, go_sem]
  | 2, h => simp [encQ] at h; subst h; simp [Addr.add, go_sem]
  | 3, h => simp [encQ] at h; subst h; simp [Addr.add, go_sem]
  | j + 4, h => simp [encQ] at h
theorem new_cells1 {w W : World} {x : Q} {t : TypeId} (h : W = w.alloc (.cells #[.int .u64 x.n, .int .u8 x.node, .int .u32 x.inc, .int .u32 x.seq] t)) : ∀ j u, (encQ x)[j]? = some u → W.cell? ((⟨w.heap.size, 0, none⟩ : Addr).add j) = some u := by
  subst h
  intro j u h
  match j, h with
  | 0, h => simp [encQ] at h; subst h; simp [Addr.add, go_sem]
  | 1, h => simp [encQ] at h; subst h; simp [Addr.add, go_sem]
  | 2, h => simp [encQ] at h; subst h; simp [Addr.add, go_sem]
  | 3, h => simp [encQ] at h; subst h; simp [Addr.add, go_sem]
  | j + 4, h => simp [encQ] at h
theorem grown_own {B : Nat} {w w1 w2 : World} {e : TypeId} {v : Value} {n : Nat} {xs : List Value} (h : Below B w w1) (ho : w1.ownsRow B e 4 v n xs) (hg : w1.grownBy w2 v.ownBlock) (hB : B ≤ w1.heap.size) : Below B w w2 :=
  h.grown hg hB (fun k hk => (World.ownsRow.lt ho k hk).1)
theorem own_cap {B e s g n cap m : Nat} {w : World} {xs : List Value} (h : w.ownsRow B e s (.slice (some ⟨g, 0, none⟩) n cap) m xs) : n ≤ cap := by
  rcases h.2 with ⟨h1, _⟩ | ⟨_, _, _, h1, _, _, h2, _⟩
  · cases h1
  · cases h1; exact h2
theorem below_drewN' {B : Nat} {w w' : World} (h : Below B w w') (n : Nat) : Below B w (w'.drewN n) := ⟨h.os, h.tape, h.output, h.size, h.block⟩
def q77 : Q := ⟨77, 0, 0, 0⟩
set_option maxHeartbeats 2000000 in
theorem stamps_any (ao : Option Addr) (n c : Nat) (l : List Q) (w : World) (hn : n ≤ 1000) (hl : l.length = n) (ha : Qs w ao l) :
    Calls Try.prog 15 #[.slice ao n c] w fun e w' => ∃ g cap, e = .returned (.slice (some ⟨g, 0, none⟩) n cap) ∧ Own w' w.heap.size 39 (.slice (some ⟨g, 0, none⟩) (n + 1) cap) (l ++ [q77]) ∧ Below w.heap.size w w' := by
  obtain ⟨i0, hi0, hz0, hz1, hz2⟩ := info_parts' info39
  have HL := Lib.hid hl
  have HA := Lib.hid ha
  clear hl ha
  go_enter Try.func15, Try.ntmps15
  go_wp2_with fail
  go_loopw [3, 8] (fun v i wr => ∃ k : Nat, k ≤ n ∧ i = .int .i64 k ∧ Own wr w.heap.size 39 v (l.take k) ∧ Below w.heap.size w wr) (fun _ i _ => n - (intOf i).toNat)
  case atStart => exact ⟨0, Nat.zero_le _, rfl, Own.nil _ _ _, Below.refl _ _⟩
  case round =>
    obtain ⟨k, hk, rfl, ho, hB⟩ := hrel
    by_cases hlt : k < n
    · obtain ⟨b, off, rfl, hb, hf⟩ := (HA.out.on hB (Nat.le_refl _)).at (k := k) (by have := HL.out; omega)
      have HT := Lib.hid (take_more (l := l) (k := k) (by have := HL.out; omega))
      have HK := Lib.hid (show (l.take k).length = k by rw [List.length_take]; have := HL.out; omega)
      generalize l.getD k q0 = x at *
      obtain ⟨e0, e1, e2, e3⟩ := hf
      have HO := Lib.hid (show wr.ownsRow w.heap.size 39 4 _ k (flat (l.take k)) by have h := ho; unfold Own at h; rwa [HK.out] at h)
      have HS := Lib.hid hB.size
      clear ho
      go_wp2_with (at_builtin; refine wpList_append_lies _ rfl (.tmp 12) (.tmp 14) 41 rfl w.heap.size 39 i0 _ 4 24 Try.underlying41 hi0 hz0 hz1 hz2 rfl (by decide) _ k (flat (l.take k)) rfl ((HO.out.alloc _).alloc _) ⟨wr.heap.size + 1, 0, none⟩ 1 1 (encQ x) rfl rfl (new_cells rfl) (one_cells x) (by decide) (by unfold maxLen; omega) (by omega) (by have := HS.out; simp; omega) (wr.heap.size + 2) (by simp) ?_; intro g3 c3 w3 hown3 hgrow3 _ hlt3)
      go_roundw
      case rel =>
        refine ⟨k + 1, by omega, by go_num, ?_, ?_⟩
        · rw [HT.out]
          exact Own.put hown3 HK.out rfl (by rw [flat_one])
        · exact grown_own ((hB.alloc HS.out _).alloc (by have := HS.out; simp; omega) _) ((HO.out.alloc _).alloc _) hgrow3 (by have := HS.out; simp; omega)
      case measure => simp [intOf]; omega
    · obtain rfl : n = k := by omega
      rw [show l.take n = l by rw [← HL.out, List.take_length]] at ho
      have HO := Lib.hid (show wr.ownsRow w.heap.size 39 4 _ n (flat l) by have h := ho; unfold Own at h; rwa [HL.out] at h)
      have HS := Lib.hid hB.size
      clear ho
      go_wp2_with (at_builtin; refine wpList_append_lies _ rfl (.tmp 17) (.tmp 19) 41 rfl w.heap.size 39 i0 _ 4 24 Try.underlying41 hi0 hz0 hz1 hz2 rfl (by decide) _ n (flat l) rfl (HO.out.alloc _) ⟨wr.heap.size, 0, none⟩ 1 1 (encQ q77) rfl rfl (new_cells1 (x := q77) rfl) (one_cells q77) (by decide) (by unfold maxLen; omega) (by omega) (by have := HS.out; simp; omega) (wr.heap.size + 1) (by simp) ?_; intro g3 c3 w3 hown3 hgrow3 _ hlt3; have hcap := own_cap hown3)
      go_ret
      exact ⟨g3, c3, rfl, Own.put hown3 HL.out rfl (by rw [flat_one]), grown_own (hB.alloc HS.out _) (HO.out.alloc _) hgrow3 (by have := HS.out; simp; omega)⟩
set_option maxHeartbeats 2000000 in
theorem back_any (ao : Option Addr) (n c : Nat) (l : List Q) (w : World) (hn : n ≤ 1000) (hl : l.length = n) (ha : Qs w ao l) :
    Calls Try.prog 20 #[.slice ao n c] w fun e w' => ∃ v, e = .returned v ∧ Own w' w.heap.size 37 v l ∧ Below w.heap.size w w' := by
  obtain ⟨i0, hi0, hz0, hz1, hz2⟩ := info_parts' info37
  have HL := Lib.hid hl
  have HA := Lib.hid ha
  clear hl ha
  go_enter Try.func20, Try.ntmps20
  go_wp2_with fail
  go_loopw [3, 8] (fun v i wr => ∃ k : Nat, k ≤ n ∧ i = .int .i64 k ∧ Own wr w.heap.size 37 v (l.take k) ∧ Below w.heap.size w wr) (fun _ i _ => n - (intOf i).toNat)
  case atStart => exact ⟨0, Nat.zero_le _, rfl, Own.nil _ _ _, Below.refl _ _⟩
  case round =>
    obtain ⟨k, hk, rfl, ho, hB⟩ := hrel
    by_cases hlt : k < n
    · obtain ⟨b, off, rfl, hb, hf⟩ := (HA.out.on hB (Nat.le_refl _)).at (k := k) (by have := HL.out; omega)
      have HT := Lib.hid (take_more (l := l) (k := k) (by have := HL.out; omega))
      have HK := Lib.hid (show (l.take k).length = k by rw [List.length_take]; have := HL.out; omega)
      generalize l.getD k q0 = x at *
      obtain ⟨e0, e1, e2, e3⟩ := hf
      have HO := Lib.hid (show wr.ownsRow w.heap.size 37 4 _ k (flat (l.take k)) by have h := ho; unfold Own at h; rwa [HK.out] at h)
      have HS := Lib.hid hB.size
      clear ho
      go_wp2_with (at_builtin; refine wpList_append_lies _ rfl (.tmp 12) (.tmp 14) 32 rfl w.heap.size 37 i0 _ 4 24 Try.underlying32 hi0 hz0 hz1 hz2 rfl (by decide) _ k (flat (l.take k)) rfl ((HO.out.alloc _).alloc _) ⟨wr.heap.size + 1, 0, none⟩ 1 1 (encQ x) rfl rfl (new_cells rfl) (one_cells x) (by decide) (by unfold maxLen; omega) (by omega) (by have := HS.out; simp; omega) (wr.heap.size + 2) (by simp) ?_; intro g3 c3 w3 hown3 hgrow3 _ hlt3)
      go_roundw
      case rel =>
        refine ⟨k + 1, by omega, by go_num, ?_, ?_⟩
        · rw [HT.out]
          exact Own.put hown3 HK.out rfl (by rw [flat_one])
        · exact grown_own ((hB.alloc HS.out _).alloc (by have := HS.out; simp; omega) _) ((HO.out.alloc _).alloc _) hgrow3 (by have := HS.out; simp; omega)
      case measure => simp [intOf]; omega
    · obtain rfl : n = k := by omega
      rw [show l.take n = l by rw [← HL.out, List.take_length]] at ho
      go_wp2_with fail
      go_ret
      exact ⟨_, rfl, ho, hB⟩
/-- A list is the same as itself. -/
theorem same_true (ao bo : Option Addr) (n c d : Nat) (l : List Q) (w : World) (hn : n ≤ 1000) (hl : l.length = n) (ha : Qs w ao l) (hb : Qs w bo l) :
    Calls Try.prog 19 #[.slice ao n c, .slice bo n d] w fun e w' => e = .returned (.bool true) ∧ Below w.heap.size w w' := by
  have HL := Lib.hid hl
  have HA := Lib.hid ha
  have HB := Lib.hid hb
  clear hl ha hb
  go_enter Try.func19, Try.ntmps19
  go_wp2_with fail
  go_loopw [13] (fun i wr => ∃ k : Nat, k ≤ n ∧ i = .int .i64 k ∧ Below w.heap.size w wr) (fun i _ => n - (intOf i).toNat)
  case atStart => exact ⟨0, Nat.zero_le _, rfl, Below.refl _ _⟩
  case round =>
    obtain ⟨k, hk, rfl, hB⟩ := hrel
    by_cases hlt : k < n
    · obtain ⟨b, off, rfl, hb, hf⟩ := (HA.out.on hB (Nat.le_refl _)).at (k := k) (by have := HL.out; omega)
      obtain ⟨b', off', rfl, hb', hf'⟩ := (HB.out.on hB (Nat.le_refl _)).at (k := k) (by have := HL.out; omega)
      generalize l.getD k q0 = x at *
      obtain ⟨e0, e1, e2, e3⟩ := hf
      obtain ⟨f0, f1, f2, f3⟩ := hf'
      go_wp2_with fail
      go_quiet (fail)
      go_wp2_with fail
      go_roundw
      case rel => exact ⟨k + 1, by omega, by go_num, below_drewN' hB _⟩
      case measure => simp [intOf]; omega
    · obtain rfl : n = k := by omega
      go_wp2_with fail
      go_ret
      exact ⟨rfl, hB⟩
end Go.Proofs.Ytfennglfmngeiaa.St
