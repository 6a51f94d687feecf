/- ghost: the document's Held, walked. -/
import Derived.Test.YtgjjfodogkcmmaaC2
namespace Go.Proofs.Ytgjjfodogkcmmaa.Gh
open Go Go.RowKit Ytgjjfodogkcmmaa.So
theorem info28 : (Try.prog.info? 28).map (fun i => (i.zero, i.size)) = some (some (.agg #[.int .u32 0, .bool false, .slice none 0 0, .slice none 0 0]), 4) := by kernel_rfl
theorem bytes28 : (Try.prog.info? 28).map (fun i => i.bytes) = some 56 := by kernel_rfl
def vcs (M : List Vx) : List Value := M.flatMap fun v => v.cells.toList
theorem vcs_app (A B : List Vx) : vcs (A ++ B) = vcs A ++ vcs B := by simp [vcs]
theorem vcs_len (M : List Vx) : (vcs M).length = M.length * 4 := by
  induction M with
  | nil => rfl
  | cons t M ih => rw [show t :: M = [t] ++ M from rfl, vcs_app, List.length_append, ih]; simp [vcs, Vx.cells]; omega
theorem vcs_at {M : List Vx} {i : Nat} {t : Vx} (h : M[i]? = some t) (j : Nat) (hj : j < 4) : (vcs M)[i * 4 + j]? = t.cells.toList[j]? := by
  induction M generalizing i with
  | nil => simp at h
  | cons a M ih =>
    rw [show a :: M = [a] ++ M from rfl, vcs_app]
    have hl : (vcs [a]).length = 4 := by simp [vcs, Vx.cells]
    cases i with
    | zero =>
      simp at h; subst h
      rw [List.getElem?_append_left (by rw [hl]; omega)]
      simp [vcs]
    | succ i =>
      have := ih (i := i) (by simpa using h)
      rw [List.getElem?_append_right (by rw [hl]; omega), hl, show (i + 1) * 4 + j - 4 = i * 4 + j by omega]
      exact this
theorem vcs_one (M : List Vx) : ∀ u ∈ vcs M, u.oneCell' = true := by
  intro u hu
  obtain ⟨t, _, hu⟩ := List.mem_flatMap.1 hu
  simp [Vx.cells] at hu
  rcases hu with rfl | rfl | rfl | rfl <;> rfl
/-- A list of vertices of the call's own, whose halves stand. -/
theorem rdv_own {w : World} {B : Nat} {T : TypeId} {v : Value} {L : List Vx} (h : w.ownsRow B T 4 v L.length (vcs L)) (hok : ∀ u ∈ L, u.ok w) : ∃ ao cap, v = .slice ao L.length cap ∧ RdV w ao L := by
  obtain ⟨ao, cap, rfl, _⟩ := own4_slice h
  refine ⟨ao, cap, rfl, fun i t ht => ⟨hok t (List.mem_of_getElem? ht), ?_⟩⟩
  rcases h.2 with ⟨h0, h1⟩ | ⟨g, cap', cur, h0, h1, h2, h3, h4⟩
  · rw [List.eq_nil_of_length_eq_zero h1] at ht; simp at ht
  · simp only [Value.slice.injEq] at h0
    obtain ⟨rfl, _, _⟩ := h0
    have hcell : ∀ j x, j < 4 → t.cells.toList[j]? = some x → w.cell? ⟨g, i * 4 + j, none⟩ = some x := fun j x hj hx => by
      have := h.cells (g := g) rfl (i * 4 + j) x (by rw [vcs_at ht j hj]; exact hx)
      rwa [Go.WideShapes.add_plain, Nat.zero_add] at this
    refine ⟨g, 0, rfl, (Array.getElem?_eq_some_iff.1 h2).1, ?_, ?_, ?_, ?_⟩
    · rw [Nat.zero_add]; exact hcell 0 _ (by omega) rfl
    · rw [Nat.zero_add]; exact hcell 1 _ (by omega) rfl
    · rw [Nat.zero_add]; exact hcell 2 _ (by omega) rfl
    · rw [Nat.zero_add]; exact hcell 3 _ (by omega) rfl
/-- Is the i-th held: there, and the last of its number? -/
def heldAt (Vs : List Vx) (i : Nat) : Bool := (Vs[i]?).any fun v => v.th && !hasV (Vs.drop (i + 1)) v.id
def hl (Vs : List Vx) : Nat → List Vx
  | 0 => []
  | j + 1 => hl Vs j ++ (if heldAt Vs j then (Vs[j]?).toList else [])
theorem hl_len (Vs : List Vx) : ∀ j, (hl Vs j).length ≤ j
  | 0 => by simp [hl]
  | j + 1 => by
    have := hl_len Vs j
    simp only [hl, List.length_append]
    split
    · have : ((Vs[j]?).toList).length ≤ 1 := by cases Vs[j]? <;> simp
      omega
    · simp; omega
theorem hl_sub (Vs : List Vx) : ∀ j, ∀ v ∈ hl Vs j, v ∈ Vs
  | 0 => by simp [hl]
  | j + 1 => by
    intro v hv
    simp only [hl, List.mem_append] at hv
    rcases hv with hv | hv
    · exact hl_sub Vs j v hv
    · split at hv
      · exact List.mem_of_getElem? (Option.mem_toList.1 hv)
      · cases hv
def heldL (Vs : List Vx) : List Vx := hl Vs Vs.length
def HdI (w : World) (Vs : List Vx) (j : Nat) (v : Value) (wr : World) : Prop := wr.ownsRow w.heap.size 28 4 v (hl Vs j).length (vcs (hl Vs j)) ∧ Below w.heap.size w wr
theorem RdV.one {w : World} {g og : Nat} {Vs : List Vx} {i : Nat} {v : Vx} (h : RdV w (some ⟨g, og, none⟩) Vs) (hi : Vs[i]? = some v) : v.ok w ∧ w.cell? ⟨g, og + i * 4, none⟩ = some (.int .u32 v.id) ∧ w.cell? ⟨g, og + i * 4 + 1, none⟩ = some (.bool v.th) ∧ w.cell? ⟨g, og + i * 4 + 2, none⟩ = some (.slice v.po v.pl v.pc) ∧ w.cell? ⟨g, og + i * 4 + 3, none⟩ = some (.slice v.ho v.L.length v.hc) := by
  obtain ⟨hok, b, off, e, _, h1, h2, h3, h4⟩ := h i v hi
  simp only [Option.some.injEq, Addr.mk.injEq, and_true] at e
  obtain ⟨rfl, rfl⟩ := e
  exact ⟨hok, h1, h2, h3, h4⟩
/-- Not borne again by the next k. -/
def hk (Vs : List Vx) (j : Nat) (v : Vx) (k : Nat) : Bool := v.th && !hasV ((Vs.drop (j + 1)).take k) v.id
theorem hk_zero (Vs : List Vx) (j : Nat) (v : Vx) : hk Vs j v 0 = v.th := by simp [hk, hasV]
theorem hk_next {Vs : List Vx} {j k : Nat} {v u : Vx} (h : Vs[j + 1 + k]? = some u) : hk Vs j v (k + 1) = (hk Vs j v k && (u.id != v.id)) := by
  have h2 : (Vs.drop (j + 1))[k]? = some u := by rw [List.getElem?_drop]; exact h
  unfold hk
  rw [take_next h2]
  unfold hasV
  rw [List.any_append]
  simp only [List.any_cons, List.any_nil, Bool.or_false, Bool.not_or, Bool.and_assoc]
  congr 2
theorem hk_end {Vs : List Vx} {j : Nat} {v : Vx} (h : Vs[j]? = some v) {m : Nat} (hm : Vs.length - (j + 1) ≤ m) : heldAt Vs j = hk Vs j v m := by
  unfold heldAt hk
  rw [h, List.take_of_length_le (by rw [List.length_drop]; exact hm)]
  rfl
/-- The vertices that are held, laid anew. -/
def HeldOf (Vs : List Vx) (w : World) (e : Ending) (w' : World) : Prop := ∃ v', e = .returned v' ∧ w'.ownsRow w.heap.size 28 4 v' (heldL Vs).length (vcs (heldL Vs)) ∧ Below w.heap.size w w'
set_option maxRecDepth 100000 in
set_option maxHeartbeats 2000000 in
theorem held_any (ao : Option Addr) (c : Nat) (Vs : List Vx) (w : World) (hV : RdV w ao Vs) (hn : Vs.length ≤ 1000000) (hc : Vs.length ≤ c) :
    Calls Try.prog 29 #[.slice ao Vs.length c] w (HeldOf Vs w) := by
  obtain ⟨i0, hi0, hz0⟩ := Option.map_eq_some_iff.1 info28
  simp only [Prod.mk.injEq] at hz0
  have hby : i0.bytes = 56 := by have := bytes28; rw [hi0] at this; simpa using this
  have HZ := Lib.hid (And.intro hi0 (And.intro hz0.1 (And.intro hz0.2 hby)))
  have HV := Lib.hid hV
  obtain ⟨n, hl⟩ : ∃ n, Vs.length = n := ⟨_, rfl⟩
  rw [hl] at hn hc ⊢
  have HN := Lib.hid hl
  clear hV hl hi0 hz0 hby
  go_enter Try.func29, Try.ntmps29
  go_wp2_with fail
  go_loopw [3, 11] (fun v u wr => ∃ (j : Nat), j ≤ n ∧ u = .int .i64 j ∧ Hid (HdI w Vs j v wr)) (fun _ u _ => n - (intOf u).toNat)
  case atStart => exact ⟨0, by omega, rfl, Lib.hid ⟨by simpa [Gh.hl, vcs] using World.ownsRow_nil _ _ _ _, Below.refl _ _⟩⟩
  case round =>
    obtain ⟨j, hj, rfl, HA⟩ := hrel
    by_cases hlt : j < n
    · obtain ⟨v, hv⟩ : ∃ v, Vs[j]? = some v := ⟨_, List.getElem?_eq_getElem (by have := HN.out; omega)⟩
      obtain ⟨_, g, og, rfl, hgl, c0, c1, c2, c3⟩ := (HV.out.below HA.out.2 (Nat.le_refl _)) j v hv
      have HS := Lib.hid hv
      have j1 : (j : Int) < (n : Int) := by omega
      obtain ⟨ao3, cap3, ev3, _⟩ := own4_slice HA.out.1
      subst ev3
      have HB := Lib.hid (HA.out.2.alloc HA.out.2.size (.cells #[.int .u32 v.id, .bool v.th, .slice v.po v.pl v.pc, .slice v.ho v.L.length v.hc] 28))
      have k1 : IntKind.i64.wrap ((j : Int) + 1) = (j : Int) + 1 := wr64 (by omega) (by omega)
      have k2 : (j : Int) + 1 ≤ (n : Int) := by omega
      have k3 : (n : Int) ≤ (c : Int) := by omega
      clear hv
      go_wp2_with fail
      all_goals
        first
          | (rename c = j + 1 => hh; rw [← hh]; have HCJ := Lib.hid hh; clear hh)
          | skip
        generalize hm : n - (j + 1) = m
        have hmn : j + 1 + m = n := by omega
        have HM := Lib.hid hmn
        have kb := heap_alloc_new wr (.cells #[.int .u32 v.id, .bool v.th, .slice v.po v.pl v.pc, .slice v.ho v.L.length v.hc] 28)
        have KB := Lib.hid kb
        have hA1 := HA.out.1.alloc (.cells #[.int .u32 v.id, .bool v.th, .slice v.po v.pl v.pc, .slice v.ho v.L.length v.hc] 28)
        obtain ⟨W0, hW0⟩ : ∃ W, W = wr.alloc (.cells #[.int .u32 v.id, .bool v.th, .slice v.po v.pl v.pc, .slice v.ho v.L.length v.hc] 28) := ⟨_, rfl⟩
        have hsz : wr.heap.size < W0.heap.size := by rw [hW0]; simp
        rw [← hW0] at KB HB hA1 ⊢
        obtain ⟨z, hz⟩ : ∃ z, wr.heap.size = z := ⟨_, rfl⟩
        rw [hz] at KB hsz ⊢
        have HSZ := Lib.hid hsz
        have HA1 := Lib.hid hA1
        have hms : m ≤ 1000000 := by omega
        have HH0 := Lib.hid (hk_zero Vs j v)
        clear hm hmn kb hA1 hsz k1 k2 k3 c0 c1 c2 c3
        go_loopw [6, 23] (fun b u wr => ∃ (k : Nat), k ≤ m ∧ u = .int .i64 k ∧ b = .bool (hk Vs j v k) ∧ Hid (Below W0.heap.size W0 wr)) (fun _ u _ => m - (intOf u).toNat)
        case atStart => exact ⟨0, by omega, rfl, by rw [HH0.out], Lib.hid (Below.refl _ _)⟩
        case round =>
          obtain ⟨k, hkm, rfl, rfl, HK⟩ := hrel
          have kb2 := (HK.out.block z HSZ.out).trans KB.out
          have d0 : wr.cell? ⟨z, 0, none⟩ = some (.int .u32 v.id) := by simp [World.cell?, kb2]
          by_cases hkl : k < m
          · have hno : ¬ c = j + 1 := fun e => by have h2 := HM.out; omega
            first
            | exact absurd HCJ.out hno
            | (
              obtain ⟨u, hu⟩ : ∃ u, Vs[j + 1 + k]? = some u := ⟨_, List.getElem?_eq_getElem (by have h1 := HN.out; have h2 := HM.out; omega)⟩
              obtain ⟨_, q0, q1, q2, q3⟩ := (HV.out.below (HB.out.trans (HK.out.mono HB.out.size)) (Nat.le_refl _)).one hu
              have ea : og + (j + 1 + k) * 4 = og + (j + 1) * 4 + k * 4 := by omega
              rw [ea] at q0 q1 q2 q3
              have HU := Lib.hid (hk_next (v := v) hu)
              have kl : (k : Int) < (m : Int) := by omega
              have HK2 := Lib.hid (HK.out.alloc HK.out.size (.cells #[.int .u32 u.id, .bool u.th, .slice u.po u.pl u.pc, .slice u.ho u.L.length u.hc] 28))
              have d0' : (wr.alloc (.cells #[.int .u32 u.id, .bool u.th, .slice u.po u.pl u.pc, .slice u.ho u.L.length u.hc] 28)).cell? ⟨z, 0, none⟩ = some (.int .u32 v.id) := by
                have := (HK2.out.block z HSZ.out).trans KB.out
                simp [World.cell?, this]
              clear hu ea kb2
              cases hb : hk Vs j v k
              · rw [hb] at HU
                have HU' := Lib.hid (show hk Vs j v (k + 1) = false by rw [HU.out]; rfl)
                go_wp2_with fail
                refine ⟨⟨k + 1, by omega, by go_num, by rw [HU'.out], HK2⟩, by simp [intOf]; omega⟩
              · rw [hb] at HU
                have HU' := Lib.hid (show hk Vs j v (k + 1) = (u.id != v.id) by rw [HU.out]; simp)
                go_wp2_with fail
                refine ⟨⟨k + 1, by omega, by go_num, by rw [HU'.out], HK2⟩, by simp [intOf]; omega⟩)
          · obtain rfl : k = m := by omega
            have HF := Lib.hid (hk_end HS.out (m := k) (by have h1 := HN.out; have h2 := HM.out; omega))
            have hA2 := own_on HA1.out (fun g e => HK.out.block g (World.ownsRow.lt HA1.out g e).2)
            have HA2 := Lib.hid hA2
            have hb2 := HB.out.trans (HK.out.mono HB.out.size)
            have HB2 := Lib.hid hb2
            have m0 : wr.cell? ⟨z, 0, none⟩ = some (.int .u32 v.id) := d0
            have m1 : wr.cell? ⟨z, 1, none⟩ = some (.bool v.th) := by simp [World.cell?, kb2]
            have m2 : wr.cell? ⟨z, 2, none⟩ = some (.slice v.po v.pl v.pc) := by simp [World.cell?, kb2]
            have m3 : wr.cell? ⟨z, 3, none⟩ = some (.slice v.ho v.L.length v.hc) := by simp [World.cell?, kb2]
            clear hA2 hb2 kb2 d0
            cases hb : hk Vs j v k
            · have HE := Lib.hid (show HdI w Vs (j + 1) (.slice ao3 (Gh.hl Vs j).length cap3) wr from by
                unfold HdI
                simp only [Gh.hl, HF.out, hb, Bool.false_eq_true, if_false, List.append_nil]
                exact ⟨HA2.out, HB2.out⟩)
              go_wp2_with fail
              go_roundw
              case rel => exact ⟨j + 1, by omega, by go_num, HE⟩
              case measure => simp [intOf] <;> omega
            · obtain ⟨q, hq⟩ : ∃ q, (Gh.hl Vs j).length = q := ⟨_, rfl⟩
              have hqn : q ≤ 1000000 := by have := Gh.hl_len Vs j; omega
              have HQ := Lib.hid hq
              rw [hq] at HA2 ⊢
              clear hq
              go_wp2_with (at_builtin; refine wpList_append_own _ rfl (.tmp 37) (.tmp 39) 22 rfl w.heap.size 28 i0 _ 4 56 Try.underlying22 HZ.out.1 HZ.out.2.1 HZ.out.2.2.1 HZ.out.2.2.2 rfl (by decide) (.slice ao3 q cap3) q (vcs (Gh.hl Vs j)) rfl (HA2.out.alloc _) ⟨wr.heap.size, 0, none⟩ 1 1 (vcs [v]) rfl (by rw [vcs_len]; rfl) (World.news_of_block (heap_alloc_new wr (.cells v.cells 28))) (vcs_one [v]) (by unfold maxLen; omega) (by omega) (by have := HB2.out.size; simp; omega) ?_; intro v5 w5 hown5 hgrow5 hnil5; have H5 := Lib.hid (And.intro hown5 ((HB2.out.alloc HB2.out.size _).grown hgrow5 (by have := HB2.out.size; simp; omega) (fun g e => (World.ownsRow.lt HA2.out g e).1))); clear hown5 hgrow5 hnil5)
              have HE := Lib.hid (show HdI w Vs (j + 1) v5 w5 from by
                unfold HdI
                simp only [Gh.hl, HF.out, hb, if_true, HS.out, Option.toList_some, List.length_append, vcs_app, HQ.out, List.length_cons, List.length_nil]
                exact ⟨H5.out.1, H5.out.2⟩)
              go_roundw
              case rel => exact ⟨j + 1, by omega, by go_num, HE⟩
              case measure => simp [intOf] <;> omega
    · obtain rfl : j = n := by omega
      have HE := HA
      go_wp2_with fail
      go_ret
      refine ⟨_, rfl, ?_, HE.out.2⟩
      unfold heldL
      rw [HN.out]
      exact HE.out.1
end Go.Proofs.Ytgjjfodogkcmmaa.Gh
