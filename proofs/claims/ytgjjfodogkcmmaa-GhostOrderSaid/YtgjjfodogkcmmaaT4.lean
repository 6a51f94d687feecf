/- ghost: hold, walked. -/
import Derived.Test.YtgjjfodogkcmmaaT3
namespace Go.Proofs.Ytgjjfodogkcmmaa.Gh
open Go Go.RowKit Ytgjjfodogkcmmaa.So
theorem info24 : (Try.prog.info? 24).map (fun i => (i.zero, i.size, i.bytes)) = some (some (.int .u32 0), 1, 4) := by kernel_rfl
theorem TAt.row {w : World} {B m p a b : Nat} {F : Nat → Prop} {V : Int → Option Value} {c : Int → Nat} {S : GS} (h : TAt w B m F p a b V c S) {k : Int} (hk : In32 k) :
    ∃ ao cap, (V k).getD (.slice none 0 0) = .slice ao (rowG S k).length cap ∧ ∀ (i : Nat) (x : Int), (rowG S k)[i]? = some x → In32 x ∧ ∃ g, ao = some ⟨g, 0, none⟩ ∧ w.cell? ⟨g, i, none⟩ = some (.int .u32 x) := by
  by_cases hh : heldG S k
  · obtain ⟨e, he, rfl⟩ := hh
    obtain ⟨v, h1, h2, h3⟩ := h.rows e he
    obtain ⟨ao, cap, rfl, h4, h5⟩ := own_slice h2
    rw [rowG_at h.keys he, h1]
    refine ⟨ao, cap, rfl, fun i x hx => ⟨(h.wf e he).2 x (List.mem_of_getElem? hx), ?_⟩⟩
    obtain ⟨g, e1, _, e3⟩ := h5 i (.int .u32 x) (by simp [u32s, hx])
    exact ⟨g, e1, e3⟩
  · have hv : V k = none := by
      cases hv : V k with
      | none => rfl
      | some v => exact absurd (h.only k hk (by rw [hv]; simp)) hh
    rw [rowG_none hh, hv]
    exact ⟨none, 0, rfl, fun i x hx => by simp at hx⟩
theorem tat_drop {w w' : World} {B m p a b : Nat} {F : Nat → Prop} {V : Int → Option Value} {c : Int → Nat} {S : GS} {k : Int} (h : TAt w B m F p a b V c S) (hm : MapV (.slice none 0 0) w' a m (upd V k none)) (hg : w.grownBy w' (some a)) : TAt w' B m F p a b (upd V k none) c (dropG S k) := by
  refine tat_fars h hm (Nat.le_refl _) hg (fun e he => ?_) (fun j hj hv => ?_) (keys_drop h.keys k) (fun e he => h.wf e (mem_drop.1 he).1) (fun _ h => h) h.hi h.low
  · obtain ⟨he1, he2⟩ := mem_drop.1 he
    obtain ⟨v, h1, h2⟩ := h.rows e he1
    exact ⟨v, by simp [upd, he2, h1], h2⟩
  · by_cases e : j = k
    · subst e; simp [upd] at hv
    · simp only [upd, if_neg e] at hv
      exact held_drop.2 ⟨h.only j hj hv, e⟩
theorem tat_put {w w' : World} {B m m' p a b : Nat} {F : Nat → Prop} {V : Int → Option Value} {c : Int → Nat} {S : GS} {k : Int} {v : Value} {L : List Int} (h : TAt w B m F p a b (upd V k none) c (dropG S k)) (hm : MapV (.slice none 0 0) w' a m' (upd (upd V k none) k (some v))) (hmm : m ≤ m') (hg : w.grownBy w' (some a))
    (hr : w.ownsRow B 24 1 v L.length (u32s L)) (hk : In32 k) (hL : ∀ x ∈ L, In32 x) : TAt w' B m' (fun i => F i ∨ v.ownBlock = some i) p a b (upd (upd V k none) k (some v)) c (holdG S k true L) := by
  have hlt : ∀ g, v.ownBlock = some g → B ≤ g ∧ g < w.heap.size := fun g e => World.ownsRow.lt hr g e
  refine tat_fars h hm hmm hg (fun e he => ?_) (fun j hj hv => ?_) ?_ (fun e he => ?_) (fun _ h => .inl h) (fun i hi => hi.elim (h.hi i) (fun e => (hlt i e).2)) (fun i hi => hi.elim (h.low i) (fun e => (hlt i e).1))
  · simp only [holdG, if_true, List.mem_append, List.mem_singleton] at he
    rcases he with he | rfl
    · obtain ⟨u, h1, h2, h3⟩ := h.rows e he
      have := (mem_drop.1 he).2
      exact ⟨u, by simp only [upd, if_neg this] at h1 ⊢; exact h1, h2, fun g e => .inl (h3 g e)⟩
    · exact ⟨v, by simp [upd], hr, fun g e => .inr e⟩
  · by_cases e : j = k
    · subst e; exact ⟨(j, L), by simp [holdG], rfl⟩
    · simp only [upd, if_neg e] at hv
      obtain ⟨d, hd, rfl⟩ := h.only j hj (by simp only [upd, if_neg e]; exact hv)
      exact ⟨d, by simp [holdG, hd], rfl⟩
  · have := h.keys
    simp only [holdG, if_true, List.map_append, List.map_cons, List.map_nil]
    rw [List.nodup_append]
    refine ⟨this, by simp, fun x hx y hy => ?_⟩
    simp only [List.mem_singleton] at hy
    subst hy
    obtain ⟨e, he, rfl⟩ := List.mem_map.1 hx
    exact (mem_drop.1 he).2
  · simp only [holdG, if_true, List.mem_append, List.mem_singleton] at he
    rcases he with he | rfl
    · exact h.wf e he
    · exact ⟨hk, hL⟩
theorem TAt.mono {w : World} {B m m' p a b : Nat} {F : Nat → Prop} {V : Int → Option Value} {c : Int → Nat} {S : GS} (h : TAt w B m F p a b V c S) (hm : m ≤ m') : TAt w B m' F p a b V c S :=
  ⟨h.cell, h.fars.mono hm, h.named.mono hm, h.ab, h.rows, h.only, h.keys, h.wf, h.base, h.fp, h.fa, h.fb, h.hi, h.low⟩
theorem Wv.size {w wr : World} {F : Nat → Prop} {vc : Array Value} (h : Wv w F vc wr) : w.heap.size + 1 ≤ wr.heap.size := (Array.getElem?_eq_some_iff.1 h.1).1
theorem one_u32 (x : Int) : ∀ u ∈ ([.int .u32 x] : List Value), u.oneCell' = true := by
  intro u hu; simp at hu; subst hu; rfl
theorem new1 (x : Int) (w : World) (T : TypeId) : ∀ j u, ([.int .u32 x] : List Value)[j]? = some u → (w.alloc (.cells #[.int .u32 x] T)).cell? ((⟨w.heap.size, 0, none⟩ : Addr).add j) = some u := by
  intro j u h
  match j, h with
  | 0, h => simp at h; subst h; simp [Addr.add, go_sem]
  | j + 1, h => simp at h
theorem own_base {w : World} {B C : Nat} {v : Value} {n : Nat} {xs : List Value} (h : w.ownsRow C 24 1 v n xs) (hB : B ≤ C) : w.ownsRow B 24 1 v n xs := by
  refine ⟨h.1, ?_⟩
  rcases h.2 with h0 | ⟨g, cap, cur, e1, e2, e3⟩
  · exact .inl h0
  · exact .inr ⟨g, cap, cur, e1, Nat.le_trans hB e2, e3⟩
/-- Between two rounds of the second loop. -/
def R2 (w : World) (B m : Nat) (F : Nat → Prop) (p a b : Nat) (V : Int → Option Value) (S : GS) (vc : Array Value) (L : List Int) (i : Nat) (v : Value) (wr : World) : Prop :=
  ∃ c : Int → Nat, (∀ y, c y = cnt S y + (L.take i).count y) ∧ TAt wr B (m + i) F p a b V c S ∧ Wv w F vc wr ∧ wr.ownsRow (w.heap.size + 1) 24 1 v i (u32s (L.take i))
/-- Between two rounds of the first loop: the counts of what was held are taken back. -/
def R1 (w : World) (B m : Nat) (F : Nat → Prop) (p a b : Nat) (V : Int → Option Value) (S : GS) (k : Int) (vc : Array Value) (i : Nat) (wr : World) : Prop :=
  ∃ c : Int → Nat, (∀ y, c y + ((rowG S k).take i).count y = cnt S y) ∧ TAt wr B (m + i) F p a b V c S ∧ Wv w F vc wr
set_option maxRecDepth 100000 in
set_option maxHeartbeats 4000000 in
theorem hold_any (B m p : Nat) (F : Nat → Prop) (S : GS) (k : Int) (th : Bool) (L : List Hf) (po ho : Option Addr) (pl pc hcap : Nat) (w : World) (hT : Tl w B m F p S) (hk : In32 k) (hL : ∀ t ∈ L, In32 t.1)
    (hr : RdH w ho L) (hFo : ∀ ad, ho = some ad → L ≠ [] → ¬ F ad.block) (hl1 : L.length ≤ 1000) (hl2 : (rowG S k).length ≤ 1000) (hm : m ≤ 1000000000) :
    Calls Try.prog 37 #[.pointer (some ⟨p, 0, none⟩), .agg #[.int .u32 k, .bool th, .slice po pl pc, .slice ho L.length hcap]] w fun e w' => e = .returned (.tuple #[]) ∧ Did w B (m + (rowG S k).length + L.length + 1) F p (holdG S k th (L.map Prod.fst)) w' := by
  obtain ⟨a, b, V, hT, hcm⟩ := hT
  have HCM := Lib.hid hcm
  clear hcm
  obtain ⟨i0, hi0, hz0, hz1, hz2⟩ := info_parts info24
  obtain ⟨vc, hvc⟩ : ∃ vc : Array Value, vc = #[.int .u32 k, .bool th, .slice po pl pc, .slice ho L.length hcap] := ⟨_, rfl⟩
  have hFw : ¬ F w.heap.size := fun e => by have := hT.hi _ e; omega
  have HZ := Lib.hid (And.intro hi0 (And.intro hz0 (And.intro hz1 hz2)))
  have HF := Lib.hid hFw
  have HFL := Lib.hid hT.hi
  have HBS := Lib.hid hT.base
  have HV := Lib.hid hvc
  have hW0 := Lib.hid (show Wv w F vc (w.alloc (.cells vc 28)) from ⟨heap_alloc_new w _, .of_grown (World.grownBy_alloc w _ none) (fun k e => by cases e)⟩)
  have hT0 := Lib.hid (hT.on (w' := w.alloc (.cells vc 28)) (G := fun _ => False) (.of_grown (World.grownBy_alloc w _ none) (fun k e => by cases e)) (fun _ _ => id))
  rw [hvc] at hW0 hT0
  clear hT hi0 hz0 hz1 hz2 hFw hvc
  go_enter Try.func37, Try.ntmps37
  go_wp2
  obtain ⟨wa, hwa⟩ : ∃ wa, w.alloc (.cells #[.int .u32 k, .bool th, .slice po pl pc, .slice ho L.length hcap] 28) = wa := ⟨_, rfl⟩
  rw [hwa] at hW0 hT0 ⊢
  clear hwa
  have cp := hT0.out.cells
  have cz := hW0.out.cells
  -- what was held
  obtain ⟨ao, cap, hrow, _⟩ := hT0.out.row hk
  refine wp_region_still_lit (by kernel_rfl) (by kernel_rfl) ?_
  change wpStill _ _ wa.drew _ _ _
  have c1 : wa.drew.cell? ⟨p, 0, none⟩ = some (.map (some a)) := cp.1
  have c2 : wa.drew.cell? ⟨w.heap.size, 0, none⟩ = some (.int .u32 k) := cz.1
  have HM := Lib.hid (hT0.out.fars.on (turned_drew (fun _ => False) wa) id)
  repeat (first | (refine wpStill_value rfl (exec_look79 (x := .tmp 12) (y := .tmp 14) rfl rfl rfl HM.out hk) ?_) | still_step)
  refine wpStill_nil ?_
  go_wp2
  obtain ⟨l, hl⟩ : ∃ l, l = (rowG S k).length := ⟨_, rfl⟩
  rw [← hl] at hrow hl2 ⊢
  have HROW := Lib.hid (And.intro hrow hl)
  have hR0 := Lib.hid (show R1 w B m F p a b V S k #[.int .u32 k, .bool th, .slice po pl pc, .slice ho L.length hcap] 0 wa.drew from ⟨cnt S, fun y => by simp, hT0.out.on (turned_drew (fun _ => False) wa) (fun _ _ => id), hW0.out.step (turned_drew (fun _ => False) wa) (fun _ h => h.elim) HF.out⟩)
  clear hrow hl cp cz c1 c2 HM hT0 hW0
  go_loopw [17] (fun u wr => ∃ i : Nat, u = .int .i64 i ∧ i ≤ l ∧ Hid (R1 w B m F p a b V S k #[.int .u32 k, .bool th, .slice po pl pc, .slice ho L.length hcap] i wr)) (fun u _ => l - (intOf u).toNat)
  case atStart => exact ⟨0, rfl, Nat.zero_le _, hR0⟩
  case round =>
    obtain ⟨i, rfl, hi, HR⟩ := hrel
    clear hR0
    by_cases hil : i < l
    · obtain ⟨c, hc, hT, hW⟩ := HR.out
      obtain ⟨x, hx⟩ : ∃ x, (rowG S k)[i]? = some x := ⟨_, List.getElem?_eq_getElem (by rw [← HROW.out.2]; exact hil)⟩
      obtain ⟨ao', cap', e1, e2⟩ := hT.row hk
      have e3 := HROW.out.1.symm.trans (HROW.out.2 ▸ e1)
      simp only [Value.slice.injEq, true_and] at e3
      obtain ⟨rfl, rfl⟩ := e3
      obtain ⟨hx32, g, rfl, cx⟩ := e2 i x hx
      have cp := hT.cells.2
      have ccx : 1 ≤ c x := by
        have h1 := hc x
        have h2 := take_count hx x
        have h3 := count_take_le (rowG S k) (i + 1) x
        have h4 : (rowG S k).count x ≤ cnt S x := by rw [cnt_drop hT.keys k x]; omega
        rw [if_pos rfl] at h2
        omega
      have il : (i : Int) < (l : Int) := by omega
      obtain ⟨D, hD, hD2⟩ := hT.named
      obtain ⟨cx, hcx⟩ : ∃ cx, c x = cx := ⟨_, rfl⟩
      have hg0 := nV_get c x
      rw [hcx] at hg0 ccx
      have hcb : cx ≤ 1000000000 := by have h1 := hc x; have h2 := HCM.out x; omega
      have HM := Lib.hid hT.named
      have hw : ∀ cc : Int → Nat, (∀ y, cc y = if y = x then c x - 1 else c y) → ∀ w1, MapV (.int .i64 0) w1 b (m + i + 1) (nV cc) → wr.grownBy w1 (some b) → R1 w B m F p a b V S k #[.int .u32 k, .bool th, .slice po pl pc, .slice ho L.length hcap] (i + 1) w1 := fun cc h1 w1 h2 h3 => by
        refine ⟨cc, fun y => ?_, ?_, hW.step (G := fun j => j = b) (.of_grown h3 (fun j e => by injection e with e; exact e.symm)) (fun j e => .inl (by rw [e]; exact hT.fb)) HF.out⟩
        · have h4 := hc y
          rw [take_count hx, h1 y]
          by_cases e : y = x
          · subst e; rw [if_pos rfl, if_pos rfl]; omega
          · rw [if_neg e, if_neg e]; omega
        · have := tat_named hT h2 (by omega) h3
          rw [show m + (i + 1) = m + i + 1 by omega]
          exact this
      have HX := Lib.hid (And.intro hx32 (And.intro hw (And.intro hcx (And.intro (hT.hi p hT.fp) (And.intro hT.pa hT.cell)))))
      have HD := Lib.hid (And.intro hD hD2)
      clear e1 e2 hx hx32 hc hT hW hD hD2 HR hw hcx
      have hmm : m + i < 4294967296 := by omega
      have hml : m + i < maxLen := by unfold maxLen; omega
      have wc : wrap64 ((cx : Int) - 1) = (cx : Int) - 1 := by unfold wrap64; omega
      have hup : ∀ v, (upd (nV c) x (some v) x).getD (.int .i64 0) = v := fun v => by simp [upd]
      by_cases h1 : cx = 1
      · subst h1
        go_wp2_with (first
          | (have _t := HM; refine wpList_value rfl (exec_look80 (x := .tmp 24) (y := .tmp 25) rfl rfl rfl HM.out HX.out.1) ?_)
          | (at_mapUpdate; (refine wpList_mapUpdate_own _ rfl _ _ _ 80 rfl 24 3 law24 Try.underlying80 tok b (m + i) D rfl HD.out.1 hml _ _ _ rfl rfl (key24 HX.out.1) _ [] rfl ?_; intro w1 hown1 hgrow1; have HG1 := Lib.hid hgrow1; have HM1 := Lib.hid (show MapV (.int .i64 0) w1 b (m + i + 1) (upd (nV c) x (some (.int .i64 0))) from MapV.stored HD.out.1 HD.out.2 hown1); obtain ⟨D1, hD1, hD12⟩ := HM1.out; have HD1 := Lib.hid (And.intro hD1 hD12); have hp1 := (hgrow1.block p HX.out.2.2.2.1 (fun e => HX.out.2.2.2.2.1.2 (Option.some.inj e))).trans HX.out.2.2.2.2.2; have cq : w1.cell? ⟨p, 1, none⟩ = some (.map (some b)) := (by simp [World.cell?, hp1]); clear hown1 hgrow1 HM hp1 hD1 hD12))
          | (have _t := HM1; refine wpList_value rfl (exec_look80 (x := .tmp 31) (y := .tmp 32) rfl rfl rfl HM1.out HX.out.1) ?_)
          | (at_delete; (refine wpList_delete_own _ rfl _ _ 80 24 rfl 3 law24 Try.underlying80 tok b (m + i + 1) D1 rfl HD1.out.1 _ _ rfl (key24 HX.out.1) ?_; intro w2 hown2 hturn2; have H2 := Lib.hid (HX.out.2.1 (fun y => if y = x then 0 else c y) (fun y => by rw [HX.out.2.2.1]) w2 (by have := MapV.dropped (i := x) HD1.out.2 hown2; rwa [nV_gone HX.out.2.2.1] at this) (HG1.out.trans hturn2.grown)); clear hown2 hturn2)))
        go_roundw
        case rel => exact ⟨i + 1, by go_num, by omega, H2⟩
        case measure => simp [intOf] <;> omega
      · have h0 : (((cx : Int) - 1) == 0) = false := by rw [beq_eq_false_iff_ne]; omega
        go_wp2_with (first
          | (have _t := HM; refine wpList_value rfl (exec_look80 (x := .tmp 24) (y := .tmp 25) rfl rfl rfl HM.out HX.out.1) ?_)
          | (at_mapUpdate; (refine wpList_mapUpdate_own _ rfl _ _ _ 80 rfl 24 3 law24 Try.underlying80 tok b (m + i) D rfl HD.out.1 hml _ _ _ rfl rfl (key24 HX.out.1) _ [] rfl ?_; intro w1 hown1 hgrow1; have HG1 := Lib.hid hgrow1; have HM1 := Lib.hid (show MapV (.int .i64 0) w1 b (m + i + 1) (upd (nV c) x (some (.int .i64 ((cx : Int) - 1)))) from MapV.stored HD.out.1 HD.out.2 hown1); obtain ⟨D1, hD1, hD12⟩ := HM1.out; have HD1 := Lib.hid (And.intro hD1 hD12); have hp1 := (hgrow1.block p HX.out.2.2.2.1 (fun e => HX.out.2.2.2.2.1.2 (Option.some.inj e))).trans HX.out.2.2.2.2.2; have cq : w1.cell? ⟨p, 1, none⟩ = some (.map (some b)) := (by simp [World.cell?, hp1]); clear hown1 hgrow1 HM hp1 hD1 hD12))
          | (have _t := HM1; refine wpList_value rfl (exec_look80 (x := .tmp 31) (y := .tmp 32) rfl rfl rfl HM1.out HX.out.1) ?_))
        have H2 := Lib.hid (HX.out.2.1 (fun y => if y = x then c x - 1 else c y) (fun y => rfl) w1 (by have h3 := HM1.out; have h4 : 1 < c x := (by rw [HX.out.2.2.1]; omega); have h5 := nV_less h4; rw [HX.out.2.2.1] at h5 ⊢; rwa [h5] at h3) HG1.out)
        go_roundw
        case rel => exact ⟨i + 1, by go_num, by omega, H2⟩
        case measure => simp [intOf] <;> omega
    · obtain rfl : i = l := by omega
      obtain ⟨c, hc, hT, hW⟩ := HR.out
      have hc2 : c = cnt (dropG S k) := by
        funext y
        have h1 := hc y
        have h2 := cnt_drop hT.keys k y
        rw [HROW.out.2, List.take_length] at h1
        omega
      subst hc2
      have HDC := Lib.hid (show ∀ x, cnt (dropG S k) x ≤ m from fun x => by have h1 := HCM.out x; have h2 := cnt_drop hT.keys k x; omega)
      have hcp := hT.cells
      have hcz := hW.cells
      have cp : wr.drew.cell? ⟨p, 0, none⟩ = some (.map (some a)) := hcp.1
      have cz : wr.drew.cell? ⟨w.heap.size, 0, none⟩ = some (.int .u32 k) := hcz.1
      have hTd := hT.on (turned_drew (fun _ => False) wr) (fun _ _ => id)
      have hWd := hW.step (turned_drew (fun _ => False) wr) (fun _ h => h.elim) HF.out
      obtain ⟨D, hD, hD2⟩ := hTd.fars
      have HX := Lib.hid (And.intro hTd (And.intro hWd (And.intro hD hD2)))
      clear hc hT hW HR hTd hWd hD hD2 hcp hcz
      go_wp2
      refine still_tail 6 (by kernel_rfl) (by kernel_rfl) ?_
      simp only [List.take_succ_cons, List.take_zero, List.drop_succ_cons, List.drop_zero]
      repeat still_step
      refine wpStill_nil ?_
      refine wpList_delete_own _ rfl _ _ 79 24 rfl 37 law24 Try.underlying79 tok a (m + i) D rfl HX.out.2.2.1 _ _ rfl (key24 hk) ?_
      intro w1 hown1 hturn1
      have hT1 := tat_drop HX.out.1 (MapV.dropped (i := k) HX.out.2.2.2 hown1) hturn1.grown
      have hW1 := HX.out.2.1.step (G := fun j => j = a) (.of_grown hturn1.grown (fun j e => by injection e with e; exact e.symm)) (fun j e => .inl (by rw [e]; exact HX.out.1.fa)) HF.out
      have H1 := Lib.hid (And.intro hT1 hW1)
      have cz2 := hW1.cells
      obtain ⟨cz0, cz1, _, cz3⟩ := cz2
      clear hown1 hturn1 hT1 hW1 HX cp cz
      cases th
      · go_wp2
        have h2 : Did w B (m + (rowG S k).length + L.length + 1) F p (dropG S k) w1 :=
          ⟨F, ⟨a, b, _, H1.out.1.mono (by rw [← HROW.out.2]; omega), fun x => Nat.le_trans (HDC.out x) (by omega)⟩, fun _ h => .inl h, H1.out.2.2⟩
        exact bodyPost_ret (v := .tuple #[]) (results_none rfl _ _ _) rfl ⟨rfl, h2⟩
      · go_wp2_with (at_make; refine wpList_make_own _ rfl (.const (.int .i64 0)) (.tmp 52) 37 rfl (w.heap.size + 1) 24 i0 (.int .u32 0) 1 Try.underlying37 HZ.out.1 HZ.out.2.1 HZ.out.2.2.1 .i64 .i64 _ L.length rfl rfl rfl (by rw [HZ.out.2.2.2]; omega) (by unfold maxLen; omega) H1.out.2.size ?_; intro w2 hown hgrow; have HO := Lib.hid (And.intro hown hgrow); have cz3 := (H1.out.2.step (.of_grown (G := fun _ => False) hgrow (fun j e => by cases e)) (fun _ h => h.elim) HF.out).cells.2.2.2; clear hown hgrow cz0 cz1)
        have hR0 := Lib.hid (show R2 w B (m + i) F p a b (upd V k none) (dropG S k) #[.int .u32 k, .bool true, .slice po pl pc, .slice ho L.length hcap] (L.map Prod.fst) 0 (.slice (some ⟨w1.heap.size, 0, none⟩) 0 L.length) w2 from
          ⟨_, fun y => by simp, H1.out.1.on (.of_grown (G := fun _ => False) HO.out.2 (fun j e => by cases e)) (fun _ _ => id), H1.out.2.step (.of_grown (G := fun _ => False) HO.out.2 (fun j e => by cases e)) (fun _ h => h.elim) HF.out, by simpa [u32s] using HO.out.1⟩)
        obtain ⟨n, hn⟩ : ∃ n, L.length = n := ⟨_, rfl⟩
        rw [hn] at hR0 ⊢ hl1
        have HN := Lib.hid hn
        clear hn H1 cz3 HO
        go_loopw [6, 57] (fun v u wr => ∃ j : Nat, u = .int .i64 j ∧ j ≤ n ∧ Hid (R2 w B (m + i) F p a b (upd V k none) (dropG S k) #[.int .u32 k, .bool true, .slice po pl pc, .slice ho n hcap] (L.map Prod.fst) j v wr)) (fun _ u _ => n - (intOf u).toNat)
        case atStart => exact ⟨0, rfl, Nat.zero_le _, hR0⟩
        case round =>
          obtain ⟨j, rfl, hj, HR⟩ := hrel
          clear hR0
          by_cases hjn : j < n
          · obtain ⟨c, hc, hT, hW, hO⟩ := HR.out
            obtain ⟨ao2, cap2, rfl, _, _⟩ := own_slice hO
            obtain ⟨t, ht⟩ : ∃ t, L[j]? = some t := ⟨_, List.getElem?_eq_getElem (by rw [HN.out]; exact hjn)⟩
            obtain ⟨hb, off, hho, hbl, c0, c1, c2, c3⟩ := (hr.turned hW.2 hFo) j t ht
            subst hho
            have hLt : (L.map Prod.fst)[j]? = some t.1 := by simp [ht]
            have ht32 := hL t (List.mem_of_getElem? ht)
            have hcb : c t.1 ≤ 1000001000 := by
              have h1 := hc t.1
              have h2 := HDC.out t.1
              have h3 := List.count_le_length (a := t.1) (l := (L.map Prod.fst).take j)
              rw [List.length_take, List.length_map, HN.out] at h3
              omega
            have il : (j : Int) < (n : Int) := by omega
            have HX := Lib.hid (And.intro hc (And.intro hT (And.intro hW (And.intro hO (And.intro ht32 hLt)))))
            have hsz := hW.size
            clear hc hT hW hO HR ht ht32 hLt hsz
            have hjm : j ≤ 1000 := by omega
            go_wp2_with (at_builtin; refine wpList_append_own _ rfl (.tmp 61) (.tmp 64) 37 rfl (w.heap.size + 1) 24 i0 _ 1 4 Try.underlying37 HZ.out.1 HZ.out.2.1 HZ.out.2.2.1 HZ.out.2.2.2 rfl (by decide) (.slice ao2 j cap2) j (u32s ((L.map Prod.fst).take j)) rfl ((HX.out.2.2.2.1.alloc (.cells #[.int .u32 t.1, .int .u8 t.2.1, .int .i64 t.2.2.1, .string t.2.2.2] 76)).alloc _) ⟨wr.heap.size + 1, 0, none⟩ 1 1 [.int .u32 t.1] rfl rfl (by have := new1 t.1 (wr.alloc (.cells #[.int .u32 t.1, .int .u8 t.2.1, .int .i64 t.2.2.1, .string t.2.2.2] 76)) 24; rw [World.size_alloc] at this; exact this) (one_u32 _) (by unfold maxLen; omega) (by omega) (by have := HX.out.2.2.1.size; simp; omega) ?_; intro v3 w3 hown3 hgrow3 hnil3; have HG := Lib.hid (And.intro hown3 hgrow3); clear hown3 hgrow3 hnil3)
            have hlt : ∀ g, (Value.slice ao2 j cap2).ownBlock = some g → w.heap.size + 1 ≤ g ∧ g < wr.heap.size := fun g e => World.ownsRow.lt HX.out.2.2.2.1 g e
            have hA : Turned (fun g => (Value.slice ao2 j cap2).ownBlock = some g) wr w3 := ((Turned.of_grown (World.grownBy_alloc wr _ none) (fun j e => by cases e)).then (.of_grown (World.grownBy_alloc _ _ none) (fun j e => by cases e))).then (.of_grown HG.out.2 (fun j e => e))
            have hT3 := HX.out.2.1.on (hA.then (turned_drew _ w3)) (fun g hg e => by have h1 := HFL.out g hg; have h2 := (hlt g e).1; omega)
            have hW3 := HX.out.2.2.1.step (hA.then (turned_drew _ w3)) (fun g e => .inr (by have := (hlt g e).1; omega)) HF.out
            have hb8 : w3.heap[wr.heap.size]? = some (.cells #[.int .u32 t.1, .int .u8 t.2.1, .int .i64 t.2.2.1, .string t.2.2.2] 76 (0, 0)) :=
              (HG.out.2.block _ (by simp; omega) (fun e => by have := (hlt _ e.symm).2; omega)).trans ((heap_alloc_old _ _ (by simp)).trans (heap_alloc_new wr _))
            have c8 : w3.drew.cell? ⟨wr.heap.size, 0, none⟩ = some (.int .u32 t.1) := by
              show w3.cell? _ = _
              simp [World.cell?, hb8]
            have cp : w3.drew.cell? ⟨p, 1, none⟩ = some (.map (some b)) := hT3.cells.2
            have HM := Lib.hid hT3.named
            obtain ⟨D3, hD3, hD32⟩ := hT3.named
            have hg0 := nV_get c t.1
            obtain ⟨ct, hct⟩ : ∃ ct, c t.1 = ct := ⟨_, rfl⟩
            rw [hct] at hg0 hcb
            have wc : wrap64 ((ct : Int) + 1) = (ct : Int) + 1 := by unfold wrap64; omega
            have wc2 : IntKind.i64.wrap ((ct : Int) + 1) = (ct : Int) + 1 := by simp [IntKind.wrap, IntKind.bits, IntKind.signed]; omega
            have kct : (ct : Int) ≤ 1000001000 := by omega
            have HY := Lib.hid (And.intro hT3 (And.intro hW3 (And.intro hD3 (And.intro hD32 hct))))
            clear hlt hA hT3 hW3 hb8 hD3 hD32 hct c0 c1 c2 c3 hbl
            refine still_tail 8 (by kernel_rfl) (by kernel_rfl) ?_
            simp only [List.take_succ_cons, List.take_zero, List.drop_succ_cons, List.drop_zero]
            repeat (first | (refine wpStill_value rfl (exec_look80 (x := .tmp 69) (y := .tmp 71) rfl rfl rfl HM.out HX.out.2.2.2.2.1) ?_) | still_step)
            refine wpStill_nil ?_
            refine wpList_mapUpdate_own _ rfl _ _ _ 80 rfl 24 3 law24 Try.underlying80 tok b (m + i + j) D3 rfl HY.out.2.2.1 (by unfold maxLen; omega) _ _ _ rfl rfl (key24 HX.out.2.2.2.2.1) _ [] rfl ?_
            intro w4 hown4 hgrow4
            have hMV : MapV (.int .i64 0) w4 b (m + i + j + 1) (nV (fun y => if y = t.1 then c t.1 + 1 else c y)) := by
              have h1 := MapV.stored HY.out.2.2.1 HY.out.2.2.2.1 (c := .int .i64 ((ct : Int) + 1)) hown4
              rwa [← HY.out.2.2.2.2, nV_more] at h1
            have hR := Lib.hid (show R2 w B (m + i) F p a b (upd V k none) (dropG S k) #[.int .u32 k, .bool true, .slice po pl pc, .slice (some ⟨hb, off, none⟩) n hcap] (L.map Prod.fst) (j + 1) v3 w4 from by
              refine ⟨fun y => if y = t.1 then c t.1 + 1 else c y, fun y => ?_, tat_named HY.out.1 hMV (by omega) hgrow4, HY.out.2.1.step (G := fun g => g = b) (.of_grown hgrow4 (fun g e => by injection e with e; exact e.symm)) (fun g e => .inl (by rw [e]; exact HY.out.1.fb)) HF.out, ?_⟩
              · have h1 := HX.out.1 y
                show (if y = t.1 then c t.1 + 1 else c y) = _
                rw [take_count HX.out.2.2.2.2.2 y]
                by_cases e : y = t.1
                · rw [if_pos e, if_pos e, ← e]; omega
                · rw [if_neg e, if_neg e]; omega
              · have h1 := HG.out.1
                rw [show u32s ((L.map Prod.fst).take (j + 1)) = u32s ((L.map Prod.fst).take j) ++ [.int .u32 t.1] by rw [List.take_add_one, HX.out.2.2.2.2.2, u32s_app]; rfl]
                refine own_on h1 (fun g e => hgrow4.block g (World.ownsRow.lt h1 g e).2 (fun e2 => ?_))
                have e2 := Option.some.inj e2
                have h3 := HFL.out b HY.out.1.fb
                have h4 := (World.ownsRow.lt h1 g e).1
                omega)
            clear hown4 hgrow4 hMV
            go_wp2
            go_roundw
            case rel => exact ⟨j + 1, by go_num, by omega, hR⟩
            case measure => simp [intOf] <;> omega
          · obtain rfl : j = n := by omega
            obtain ⟨c, hc, hT, hW, hO⟩ := HR.out
            obtain ⟨ao2, cap2, rfl, _, _⟩ := own_slice hO
            have hTd := hT.on (turned_drew (fun _ => False) wr) (fun _ _ => id)
            have hWd := hW.step (turned_drew (fun _ => False) wr) (fun _ h => h.elim) HF.out
            have cp : wr.drew.cell? ⟨p, 0, none⟩ = some (.map (some a)) := hTd.cells.1
            have cz : wr.drew.cell? ⟨w.heap.size, 0, none⟩ = some (.int .u32 k) := hWd.cells.1
            obtain ⟨D, hD, hD2⟩ := hTd.fars
            have HX := Lib.hid (And.intro hTd (And.intro hWd (And.intro hD (And.intro hD2 (And.intro hO hc)))))
            clear hc hT hW HR hTd hWd hD hD2 hO
            go_wp2
            refine still_tail 7 (by kernel_rfl) (by kernel_rfl) ?_
            simp only [List.take_succ_cons, List.take_zero, List.drop_succ_cons, List.drop_zero]
            repeat still_step
            refine wpStill_nil ?_
            refine wpList_mapUpdate_own _ rfl _ _ _ 79 rfl 24 37 law24 Try.underlying79 tok a (m + i + j) D rfl HX.out.2.2.1 (by unfold maxLen; omega) _ _ _ rfl rfl (key24 hk) _ [] rfl ?_
            intro w4 hown4 hgrow4
            have hMV : MapV (.slice none 0 0) w4 a (m + i + j + 1) (upd (upd V k none) k (some (.slice ao2 j cap2))) := MapV.stored HX.out.2.2.1 HX.out.2.2.2.1 hown4
            have hO2 := HX.out.2.2.2.2.1
            have hlt : ∀ g, (Value.slice ao2 j cap2).ownBlock = some g → w.heap.size + 1 ≤ g ∧ g < wr.heap.size := fun g e => World.ownsRow.lt hO2 g e
            have hlen : (L.map Prod.fst).length = j := by rw [List.length_map]; exact HN.out
            rw [List.take_of_length_le (by rw [hlen]; exact Nat.le_refl _)] at hO2
            have hBw : B ≤ w.heap.size + 1 := by have := HBS.out; omega
            have hTF := tat_put HX.out.1 hMV (by omega) hgrow4 (by rw [hlen]; exact own_base hO2 hBw) hk (fun x hx => by obtain ⟨t, ht, rfl⟩ := List.mem_map.1 hx; exact hL t ht)
            have hcc : c = cnt (holdG S k true (L.map Prod.fst)) := by
              funext y
              rw [cnt_hold, HX.out.2.2.2.2.2 y, List.take_of_length_le (by rw [hlen]; exact Nat.le_refl _)]
            rw [hcc] at hTF
            have HE : Did w B (m + (rowG S k).length + L.length + 1) F p (holdG S k true (L.map Prod.fst)) w4 := by
              refine ⟨_, ⟨a, b, _, hTF.mono (by have h1 := HROW.out.2; have h2 := HN.out; omega), fun x => ?_⟩, fun g hg => ?_, ?_⟩
              · rw [cnt_hold]
                have h1 := HDC.out x
                have h2 := List.count_le_length (a := x) (l := L.map Prod.fst)
                rw [List.length_map] at h2
                omega
              · rcases hg with hg | hg
                · exact .inl hg
                · exact .inr (by have := (hlt g hg).1; omega)
              · exact HX.out.2.1.2.trans (Turned.of_grown (G := fun g => g = a) hgrow4 (fun g e => by injection e with e; exact e.symm)) (fun g e => .inl (by rw [e]; exact HX.out.1.fa))
            clear hown4 hgrow4 hMV hO2 hlt hlen hTF hcc HX
            have HE2 := Lib.hid HE
            clear HE
            go_wp2
            go_end0
            exact ⟨rfl, HE2.out⟩
end Go.Proofs.Ytgjjfodogkcmmaa.Gh
