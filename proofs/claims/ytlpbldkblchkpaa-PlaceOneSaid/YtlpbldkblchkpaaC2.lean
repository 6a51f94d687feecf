/- place: directories that are in order; the law's steps; the law on what a directory knows, walked. -/
import Derived.Test.YtlpbldkblchkpaaC1
namespace Go.Proofs.Ytlpbldkblchkpaa.Pl
open Go Go.RowKit
/-- Each entry is its vertex', and a node's that there is. -/
def GoodG (n : Int) (G : Nat → Ent) : Prop := ∀ i, i < 40 → (G i).1 = 1 + (i : Int) ∧ 0 ≤ (G i).2.1 ∧ (G i).2.1 < n ∧ 0 ≤ (G i).2.2
theorem good_home {n : Int} (h : 1 ≤ n) : GoodG n (home n) := fun i _ => ⟨by simp [home]; omega, Int.emod_nonneg _ (by omega), Int.emod_lt_of_pos _ (by omega), by simp [home]⟩
theorem moveE_zero {n : Int} {G : Nat → Ent} {v x ep : Int} : moveE n G v x ep = 0 ↔ (x < n ∧ okV v) ∧ (G (at_ v)).2.2 < ep := by
  unfold moveE
  by_cases h : x < n ∧ okV v
  · rw [if_neg (not_not_intro h)]
    by_cases h2 : ep ≤ (G (at_ v)).2.2
    · rw [if_pos h2]; constructor
      · intro h; omega
      · intro h; omega
    · rw [if_neg h2]; exact ⟨fun _ => ⟨h, by omega⟩, fun _ => rfl⟩
  · rw [if_pos h]; exact ⟨fun h => by omega, fun h2 => absurd h2.1 h⟩
theorem good_move {n : Int} {G : Nat → Ent} (h : GoodG n G) {v x ep : Int} (x0 : 0 ≤ x) : GoodG n (moveG n G v x ep) := by
  unfold moveG
  by_cases h0 : moveE n G v x ep = 0
  · rw [if_pos h0]
    obtain ⟨⟨h1, h2⟩, h3⟩ := moveE_zero.1 h0
    intro i hi
    obtain ⟨a, b, c, d⟩ := h i hi
    by_cases e : i = at_ v
    · subst e
      simp only [put, if_true]
      exact ⟨a, x0, h1, by omega⟩
    · simp only [put, e, if_false]
      exact ⟨a, b, c, d⟩
  · rw [if_neg h0]; exact h
/-- A step of the law's: two vertices, two nodes, two epochs. -/
abbrev O6 := Int × Int × Int × Int × Int × Int
def InO (t : O6) : Prop := (0 ≤ t.1 ∧ t.1 ≤ 4294967295) ∧ (0 ≤ t.2.2.1 ∧ t.2.2.1 ≤ 255) ∧ (0 ≤ t.2.2.2.2.1 ∧ t.2.2.2.2.1 ≤ 4294967295)
def RdO (w : World) (ao : Option Addr) (L : List O6) : Prop :=
  ∀ i t, L[i]? = some t → ∃ b off, ao = some ⟨b, off, none⟩ ∧ b < w.heap.size ∧ w.cell? ⟨b, off + i * 6, none⟩ = some (.int .u32 t.1) ∧ w.cell? ⟨b, off + i * 6 + 1, none⟩ = some (.int .u32 t.2.1) ∧ w.cell? ⟨b, off + i * 6 + 2, none⟩ = some (.int .u8 t.2.2.1) ∧ w.cell? ⟨b, off + i * 6 + 3, none⟩ = some (.int .u8 t.2.2.2.1) ∧ w.cell? ⟨b, off + i * 6 + 4, none⟩ = some (.int .u32 t.2.2.2.2.1) ∧ w.cell? ⟨b, off + i * 6 + 5, none⟩ = some (.int .u32 t.2.2.2.2.2)
theorem RdO.on {w w' : World} {ao : Option Addr} {L : List O6} (h : RdO w ao L) {B : Nat} (hb : Below B w w') (hB : w.heap.size ≤ B) : RdO w' ao L := fun i t ht => by
  obtain ⟨b, off, h1, h2, h3, h4, h5, h6, h7, h8⟩ := h i t ht
  have hc : ∀ k v, w.cell? ⟨b, k, none⟩ = some v → w'.cell? ⟨b, k, none⟩ = some v := fun k v hv => (hb.cell (p := ⟨b, k, none⟩) (by simp; omega)).trans hv
  exact ⟨b, off, h1, Nat.lt_of_lt_of_le h2 hb.size, hc _ _ h3, hc _ _ h4, hc _ _ h5, hc _ _ h6, hc _ _ h7, hc _ _ h8⟩
/-- A directory in order in block b, of the call's own. -/
structure DirS (w0 : World) (b : Nat) (n : Int) (G : Nat → Ent) (w : World) : Prop where
  dir : DirAt w b n G
  good : GoodG n G
  low : Below w0.heap.size w0 w
  b0 : w0.heap.size ≤ b
section
variable {w0 w : World} {b : Nat} {n : Int} {G : Nat → Ent}
theorem DirS.on {w' : World} (h : DirS w0 b n G w) (hb : Below w.heap.size w w') : DirS w0 b n G w' :=
  ⟨h.dir.on (Z := fun _ => False) (below_any hb) id, h.good, h.low.trans (hb.mono h.low.size), h.b0⟩
theorem DirS.alloc (h : DirS w0 b n G w) (o : Obj) : DirS w0 b n G (w.alloc o) := h.on ((Below.refl _ w).alloc (Nat.le_refl _) o)
theorem DirS.move (h : DirS w0 b n G w) (v x ep : Int) (x0 : 0 ≤ x) (x1 : x ≤ 255) :
    Calls Try.prog 8 #[.pointer (some ⟨b, 0, none⟩), .int .u32 v, .int .u8 x, .int .u32 ep] w fun e' w' => (∃ q, e' = .returned (.int .i64 q)) ∧ DirS w0 b n (moveG n G v x ep) w' ∧ Did b w w' :=
  (move_any h.dir v x ep x0 x1).mono fun _ _ ⟨h1, h2, h3⟩ => ⟨⟨_, h1⟩, ⟨h2, good_move h.good x0, did_below h.low h3 h.b0 h.low.size, h.b0⟩, h3⟩
end
/-- What the law's steps leave. -/
def moves (n : Int) (G : Nat → Ent) (L : List O6) : Nat → Ent := L.foldl (fun G t => moveG n G t.1 t.2.2.1 t.2.2.2.2.1) G
theorem moves_next {n : Int} {G : Nat → Ent} {L : List O6} {j : Nat} {t : O6} (h : L[j]? = some t) : moves n G (L.take (j + 1)) = moveG n (moves n G (L.take j)) t.1 t.2.2.1 t.2.2.2.2.1 := by
  rw [take_next h]; unfold moves; rw [List.foldl_append]; rfl
theorem check_is {n : Int} {G : Nat → Ent} {i : Nat} (hi : i < 40) {o e : Int} (hg : G i = (1 + (i : Int), o, e)) {x : Int} (hx : x < n) (ep : Int) : checkE n G (1 + (i : Int)) x ep = if o = x then (if e = ep then 0 else 15) else 6 := by
  unfold checkE
  rw [if_neg (not_not_intro ⟨hx, ok_one hi⟩), at_one, hg]
  by_cases h : o = x
  · rw [if_neg (not_not_intro h), if_pos h]
    by_cases h2 : e = ep
    · rw [if_neg (not_not_intro h2), if_pos h2]
    · rw [if_pos h2, if_neg h2]
  · rw [if_pos h, if_neg h]
def KnI (w0 : World) (b : Nat) (n : Int) (w : World) : Prop := ∃ G, DirS w0 b n G w
set_option maxRecDepth 100000 in
set_option maxHeartbeats 4000000 in
theorem knows_law (a : Int) (v ep : Int) (ao : Option Addr) (c : Nat) (L : List O6) (w : World) (a0 : 0 ≤ a) (a1 : a ≤ 255) (v0 : 0 ≤ v) (hr : RdO w ao L) (hi : ∀ x ∈ L, InO x) (hlm : L.length ≤ maxLen) :
    Calls Try.prog 4 #[.int .u8 a, .slice ao L.length c, .int .u32 v, .int .u32 ep] w fun e w' => e = .returned (.bool true) ∧ Below w.heap.size w w' := by
  obtain ⟨k, hk, hk4⟩ : ∃ k : Nat, a % 4 = (k : Int) ∧ k < 4 := ⟨(a % 4).toNat, by omega, by omega⟩
  obtain ⟨i, hvi, hi40⟩ : ∃ i : Nat, v % 40 = (i : Int) ∧ i < 40 := ⟨(v % 40).toNat, by omega, by omega⟩
  have HL := Lib.hid (And.intro hr hi)
  unfold maxLen at hlm
  obtain ⟨l, hl⟩ : ∃ l, L.length = l := ⟨_, rfl⟩
  rw [hl] at hlm ⊢
  have HN := Lib.hid hl
  clear hr hi hl
  have hA := awake_any w
  go_enter Try.func4, Try.ntmps4
  go_wp2_with (go_at_call 6; refine hA.mono ?_; rintro e w1 ⟨rfl, hb⟩; have A1 := Lib.hid hb; clear hb)
  refine (new_any (1 + (k : Int)) w1 (by omega) (by omega)).mono ?_
  rintro e w2 ⟨rfl, hd, hs, hb⟩
  have H2 : Hid (KnI w w1.heap.size (1 + (k : Int)) w2) := Lib.hid ⟨_, hd, good_home (by omega), A1.out.trans (hb.mono A1.out.size), A1.out.size⟩
  have HB := Lib.hid (And.intro hi40 (And.intro hk4 hlm))
  clear hd hs hb hA A1
  generalize w1.heap.size = b at *
  go_wp2_with fail
  go_loopw [34] (fun u wr => ∃ j : Nat, j ≤ l ∧ u = .int .i64 j ∧ Hid (KnI w b (1 + (k : Int)) wr)) (fun u _ => l - (intOf u).toNat)
  case atStart => exact ⟨0, by omega, rfl, H2⟩
  case round =>
    obtain ⟨j, hj, rfl, HA⟩ := hrel
    clear H2
    by_cases hlt : j < l
    · obtain ⟨x, hx⟩ : ∃ x, L[j]? = some x := ⟨_, List.getElem?_eq_getElem (by have := HN.out; omega)⟩
      obtain ⟨G, hG⟩ := HA.out
      obtain ⟨g, og, rfl, _, c0, c1, c2, c3, c4, c5⟩ := (HL.out.1.on hG.low (Nat.le_refl _)) j x hx
      have HX := Lib.hid (HL.out.2 x (List.mem_of_getElem? hx))
      have HG := Lib.hid (hG.alloc (.cells #[.int .u32 x.1, .int .u32 x.2.1, .int .u8 x.2.2.1, .int .u8 x.2.2.2.1, .int .u32 x.2.2.2.2.1, .int .u32 x.2.2.2.2.2] 30))
      clear hx hG
      have j1 : (j : Int) < (l : Int) := by omega
      by_cases h60 : (j : Int) < 60
      · go_wp2_with fail
        refine (HG.out.move x.1 x.2.2.1 x.2.2.2.2.1 HX.out.2.1.1 HX.out.2.1.2).mono ?_
        rintro e w4 ⟨⟨q, rfl⟩, hd4, _⟩
        have H4 : Hid (KnI w b (1 + (k : Int)) w4) := Lib.hid ⟨_, hd4⟩
        clear hd4
        go_wp2_with fail
        exact ⟨⟨j + 1, by omega, by go_num, H4⟩, by simp [intOf]; omega⟩
      · have H4 : Hid (KnI w b (1 + (k : Int)) _) := Lib.hid ⟨_, HG.out⟩
        go_wp2_with fail
        exact ⟨⟨j + 1, by omega, by go_num, H4⟩, by simp [intOf]; omega⟩
    · obtain rfl : j = l := by omega
      obtain ⟨G, hG⟩ := HA.out
      obtain ⟨g1, g2, g3, g4⟩ := hG.good i hi40
      obtain ⟨o, ho⟩ : ∃ o, (G i).2.1 = o := ⟨_, rfl⟩
      obtain ⟨e0, he0⟩ : ∃ e0, (G i).2.2 = e0 := ⟨_, rfl⟩
      have hgi : G i = (1 + (i : Int), o, e0) := by rw [← ho, ← he0, ← g1]
      rw [ho] at g2 g3
      have hown := owner_ok hG.dir (1 + (i : Int)) (ok_one hi40)
      rw [at_one, hgi] at hown
      simp only [ev] at hown
      have HO := Lib.hid hown
      have HG := Lib.hid (And.intro hG hgi)
      clear hG g1 g4 hgi ho he0 hown
      go_wp2_with fail
      refine HO.out.mono ?_
      rintro e w4 ⟨rfl, hb4⟩
      have H4 := Lib.hid ((HG.out.1.on hb4).alloc (.cells #[.int .u32 (1 + (i : Int)), .int .u8 o, .int .u32 e0] 37))
      have hz := heap_alloc_new w4 (.cells #[.int .u32 (1 + (i : Int)), .int .u8 o, .int .u32 e0] 37)
      have HZ := Lib.hid hz
      clear hb4 HO hz
      have wo : wrap64 o = o := by unfold wrap64; omega
      have g5 : ¬ (1 + (k : Int)) ≤ o := by omega
      go_wp2_with fail
      have HK : Hid (DirS w b (1 + (k : Int)) G (w4.alloc (.cells #[.int .u32 (1 + (i : Int)), .int .u8 o, .int .u32 e0] 37)) ∧ (w4.alloc (.cells #[.int .u32 (1 + (i : Int)), .int .u8 o, .int .u32 e0] 37)).heap[w4.heap.size]? = some (.cells #[.int .u32 (1 + (i : Int)), .int .u8 o, .int .u32 e0] 37 (0, 0))) := Lib.hid ⟨H4.out, HZ.out⟩
      clear H4 HZ
      generalize w4.alloc (.cells #[.int .u32 (1 + (i : Int)), .int .u8 o, .int .u32 e0] 37) = W at HK ⊢
      generalize w4.heap.size = z at HK ⊢
      have HE := Lib.hid HG.out.2
      clear HG g5 hlt HA
      go_loopw [75] (fun u wr => ∃ j : Nat, j ≤ 1 + k ∧ u = .int .i64 j ∧ Hid (DirS w b (1 + (k : Int)) G wr ∧ wr.heap[z]? = some (.cells #[.int .u32 (1 + (i : Int)), .int .u8 o, .int .u32 e0] 37 (0, 0)))) (fun u _ => (1 + k) - (intOf u).toNat)
      case atStart => exact ⟨0, by omega, rfl, HK⟩
      case round =>
        obtain ⟨y, hy, rfl, HR⟩ := hrel
        clear HK
        by_cases hlt : y < 1 + k
        · have j1 : (y : Int) < 1 + (k : Int) := by omega
          have hwy : IntKind.u8.wrap (y : Int) = (y : Int) := by have := HB.out.2.1; simp [IntKind.wrap, IntKind.bits, IntKind.signed]; omega
          have y255 : (y : Int) ≤ 255 := by have := HB.out.2.1; omega
          obtain ⟨z0, z1, z2⟩ := cells3 HR.out.2
          have C1 := check_any HR.out.1.dir (1 + (i : Int)) (y : Int) e0 (by omega) y255
          have C2 := check_any HR.out.1.dir (1 + (i : Int)) (y : Int) ep (by omega) y255
          rw [check_is HB.out.1 HE.out j1] at C1 C2
          rw [if_pos rfl] at C1
          by_cases hoy : o = (y : Int)
          · rw [if_pos hoy] at C1 C2
            have q1 : ((y : Int) == o) = true := by simp [hoy]
            by_cases hep : e0 = ep
            · rw [if_pos hep] at C2
              have q2 : (ep == e0) = true := by simp [hep]
              clear hoy hep
              go_wp2_with fail
              refine C1.mono ?_
              rintro e w5 ⟨rfl, rfl⟩
              go_wp2_with fail
              refine C2.mono ?_
              rintro e w6 ⟨rfl, rfl⟩
              go_wp2_with fail
              exact ⟨⟨y + 1, by omega, by go_num, HR⟩, by simp [intOf]; omega⟩
            · rw [if_neg hep] at C2
              have q2 : (ep == e0) = false := by simp; exact fun h => hep h.symm
              clear hoy hep
              go_wp2_with fail
              refine C1.mono ?_
              rintro e w5 ⟨rfl, rfl⟩
              go_wp2_with fail
              refine C2.mono ?_
              rintro e w6 ⟨rfl, rfl⟩
              go_wp2_with fail
              exact ⟨⟨y + 1, by omega, by go_num, HR⟩, by simp [intOf]; omega⟩
          · rw [if_neg hoy] at C1 C2
            have q1 : ((y : Int) == o) = false := by simp; exact fun h => hoy h.symm
            clear hoy
            go_wp2_with fail
            refine C1.mono ?_
            rintro e w5 ⟨rfl, rfl⟩
            go_wp2_with fail
            refine C2.mono ?_
            rintro e w6 ⟨rfl, rfl⟩
            go_wp2_with fail
            exact ⟨⟨y + 1, by omega, by go_num, HR⟩, by simp [intOf]; omega⟩
        · obtain rfl : y = 1 + k := by omega
          go_wp2_with fail
          go_ret
          exact ⟨rfl, HR.out.1.low⟩
end Go.Proofs.Ytlpbldkblchkpaa.Pl
