/- ghost: the document's Right, walked. -/
import Derived.Test.YtgjjfodogkcmmaaN2
namespace Go.Proofs.Ytgjjfodogkcmmaa.Gh
open Go Go.RowKit Ytgjjfodogkcmmaa.So Ytgjjfodogkcmmaa.Vl
theorem number_q (x : Int) (b : Bool) (h : numB x = b) (w : World) : Calls Try.prog 38 #[.int .u32 x] w fun e w' => e = .returned (.bool b) ∧ w' = w := by
  refine (number_any x w).mono ?_
  rintro e w' ⟨rfl, rfl⟩
  exact ⟨by rw [h], rfl⟩
theorem number_r (x : Int) (b : Bool) (h : numB x = b) (w : World) : Calls Try.prog 38 #[.int .u32 x] w fun e w' => e = .returned (.bool b) ∧ w = w' := by
  refine (number_any x w).mono ?_
  rintro e w' ⟨rfl, rfl⟩
  exact ⟨by rw [h], rfl⟩
theorem cell_on {w w' : World} {B b i : Nat} {v : Value} (hc : w.cell? ⟨b, i, none⟩ = some v) (hb : Below B w w') (h : b < B) : w'.cell? ⟨b, i, none⟩ = some v := (hb.cell (p := ⟨b, i, none⟩) h).trans hc
def RRet (v : Vv) (w : World) (e : Ending) (w' : World) : Prop := e = .returned (.bool v.form) ∧ Below w.heap.size w w'
set_option maxRecDepth 100000 in
set_option maxHeartbeats 8000000 in
theorem right_any (v : Vv) (w : World) (hv : v.ok w) (hp : v.P.length ≤ 140737488355328) (hl : v.L.length ≤ 140737488355328) : Calls Try.prog 22 #[v.val] w (RRet v w) := by
  obtain ⟨id, th, po, pc, P, ho, hc, L⟩ := v
  have hb0 : Below w.heap.size w (w.alloc (.cells #[.int .u32 id, .bool th, .slice po P.length pc, .slice ho L.length hc] 28)) := (Below.refl _ _).alloc (Nat.le_refl _) _
  have h2 := hv.below hb0 (Nat.le_refl _)
  have HB := Lib.hid hb0
  have HV := Lib.hid h2
  have hz := heap_alloc_new w (.cells #[.int .u32 id, .bool th, .slice po P.length pc, .slice ho L.length hc] 28)
  clear hv h2 hb0
  unfold Vv.val
  simp only at hp hl ⊢
  obtain ⟨r, hr⟩ : ∃ r, (⟨id, th, po, pc, P, ho, hc, L⟩ : Vv).form = r := ⟨_, rfl⟩
  have hRR : RRet ⟨id, th, po, pc, P, ho, hc, L⟩ w = fun e w' => e = .returned (.bool r) ∧ Below w.heap.size w w' := by unfold RRet; rw [hr]
  rw [hRR]
  clear hRR
  unfold Vv.form at hr
  simp only at hr
  obtain ⟨n, hn⟩ : ∃ n, P.length = n := ⟨_, rfl⟩
  obtain ⟨k, hk⟩ : ∃ k, L.length = k := ⟨_, rfl⟩
  have HN := Lib.hid (And.intro hn hk)
  rw [hn] at hp
  rw [hk] at hl
  rw [hn, hk] at HB HV hz ⊢
  obtain ⟨W, hW⟩ : ∃ W, w.alloc (.cells #[.int .u32 id, .bool th, .slice po n pc, .slice ho k hc] 28) = W := ⟨_, rfl⟩
  obtain ⟨z, hzz⟩ : ∃ z, w.heap.size = z := ⟨_, rfl⟩
  rw [hW] at HB HV hz
  rw [hzz] at hz HB ⊢
  have hzl := (Array.getElem?_eq_some_iff.1 hz).1
  have HZ := Lib.hid (show z < W.heap.size ∧ W.cell? ⟨z, 0, none⟩ = some (.int .u32 id) ∧ W.cell? ⟨z, 2, none⟩ = some (.slice po n pc) ∧ W.cell? ⟨z, 3, none⟩ = some (.slice ho k hc) from ⟨hzl, by simp [World.cell?, hz], by simp [World.cell?, hz], by simp [World.cell?, hz]⟩)
  obtain ⟨z0, z1, z2, z3⟩ : W.cell? ⟨z, 0, none⟩ = some (.int .u32 id) ∧ W.cell? ⟨z, 1, none⟩ = some (.bool th) ∧ W.cell? ⟨z, 2, none⟩ = some (.slice po n pc) ∧ W.cell? ⟨z, 3, none⟩ = some (.slice ho k hc) := by simp [World.cell?, hz]
  have HS := Lib.hid (show z ≤ W.heap.size by omega)
  have w1 : IntKind.i64.wrap ((n : Int) + (k : Int)) = (n : Int) + (k : Int) := wr64 (by omega) (by omega)
  clear hz hzl
  cases hnb : numB id
  · rw [hnb] at hr
    have HNb := Lib.hid hnb
    have HR := Lib.hid (show r = false from by rw [← hr]; rfl)
    clear hnb hr hn hk w1
    go_enter Try.func22, Try.ntmps22
    go_wp2_with (go_at_call 38; refine (number_r _ _ HNb.out _).mono ?_; rintro e w5 ⟨rfl, rfl⟩)
    go_ret
    exact ⟨by rw [HR.out]; rfl, HB.out⟩
  rw [hnb] at hr
  have HNb := Lib.hid hnb
  clear hnb
  cases th
  · by_cases h0 : n = 0 ∧ k = 0
    · obtain ⟨rfl, rfl⟩ := h0
      have HR := Lib.hid (show r = true from by rw [← hr, hn, hk]; rfl)
      clear hr hn hk hp hl HN w1
      go_enter Try.func22, Try.ntmps22
      go_wp2_with (go_at_call 38; refine (number_r _ _ HNb.out _).mono ?_; rintro e w5 ⟨rfl, rfl⟩)
      go_loopw [35] (fun u wr => u = .int .i64 0 ∧ Hid (wr = W)) (fun _ _ => 0)
      case atStart => exact ⟨rfl, Lib.hid rfl⟩
      case round =>
        obtain ⟨rfl, HE⟩ := hrel
        obtain rfl := HE.out
        go_wp2_with fail
        go_loopw [75] (fun u w2 => u = .int .i64 0 ∧ Hid (w2 = wr)) (fun _ _ => 0)
        case atStart => exact ⟨rfl, Lib.hid rfl⟩
        case round =>
          obtain ⟨rfl, HE2⟩ := hrel
          have HE2 := HE2.out
          subst HE2
          go_wp2_with fail
          go_ret
          exact ⟨by rw [HR.out]; rfl, HB.out⟩
    · have HR := Lib.hid (show r = false from by rw [← hr, hn, hk]; simp; omega)
      have g1 : decide ((0 : Int) < (n : Int) + (k : Int)) = true := decide_eq_true (by omega)
      have g2 : decide (0 < n + k) = true := decide_eq_true (by omega)
      have g3 : (0 : Int) < (n : Int) + (k : Int) := by omega
      clear hr hn hk h0
      go_enter Try.func22, Try.ntmps22
      go_wp2_with (go_at_call 38; refine (number_r _ _ HNb.out _).mono ?_; rintro e w5 ⟨rfl, rfl⟩)
      go_ret
      exact ⟨by rw [HR.out]; rfl, HB.out⟩
  by_cases h16 : 16 < k
  · have HR := Lib.hid (show r = false from by rw [← hr]; simp [hsB]; omega)
    have g1 : (16 : Int) < (k : Int) := by omega
    clear hr hn hk w1
    go_enter Try.func22, Try.ntmps22
    go_wp2_with (go_at_call 38; refine (number_r _ _ HNb.out _).mono ?_; rintro e w5 ⟨rfl, rfl⟩)
    go_ret
    exact ⟨by rw [HR.out]; rfl, HB.out⟩
  have hr2 : r = (propsB P && halvesB id L) := by rw [← hr]; simp [hsB, show L.length ≤ 16 by omega]
  have g1 : decide ((16 : Int) < (k : Int)) = false := decide_eq_false (by omega)
  have g2 : decide (16 < k) = false := decide_eq_false h16
  have HR := Lib.hid hr2
  have HK := Lib.hid (show k ≤ 16 by omega)
  clear hr hn hk w1 h16 hr2
  go_enter Try.func22, Try.ntmps22
  go_wp2_with (go_at_call 38; refine (number_r _ _ HNb.out _).mono ?_; rintro e w5 ⟨rfl, rfl⟩)
  clear g1 g2
  go_loopw [35] (fun u wr => ∃ j : Nat, j ≤ n ∧ u = .int .i64 j ∧ Hid ((∀ i, i < j → pAt P i = true) ∧ Below W.heap.size W wr)) (fun u _ => n - (intOf u).toNat)
  case atStart => exact ⟨0, by omega, rfl, Lib.hid ⟨fun i hi => absurd hi (Nat.not_lt_zero _), Below.refl _ _⟩⟩
  case round =>
    obtain ⟨j, hj, rfl, HA⟩ := hrel
    by_cases hlt : j < n
    · obtain ⟨t, ht⟩ : ∃ t, P[j]? = some t := ⟨_, List.getElem?_eq_getElem (by have := HN.out.1; omega)⟩
      obtain ⟨g, og, rfl, hgl, c0, c1, c2, c3⟩ := (HV.out.below HA.out.2 (Nat.le_refl _)).p j t ht
      have ts := HV.out.pt t (List.mem_of_getElem? ht)
      have il : (j : Int) < (n : Int) := by omega
      have hb1 := HA.out.2.alloc HA.out.2.size (.cells #[.int .u8 t.1, .int .u8 t.2.1, .int .i64 t.2.2.1, .string t.2.2.2] 86)
      have HB1 := Lib.hid hb1
      have HCk := Lib.hid (fun (w : World) => form_t t w ts)
      have hAt : pAt P j = (upB P j t && decide (t.1 ≤ 3) && decide (t.2.1 ≠ 0) && okT t) := by unfold pAt; rw [ht]; rfl
      have HAt := Lib.hid hAt
      have Fin := Lib.hid (show ∀ w', Below W.heap.size W w' → pAt P j = false → r = false ∧ Below z w w' from fun w' hb h => ⟨by rw [HR.out, show propsB P = false from all_not (by rw [HN.out.1]; exact hlt) h]; rfl, HB.out.trans (hb.mono HS.out)⟩)
      have Nxt := Lib.hid (show pAt P j = true → ∀ i, i < j + 1 → pAt P i = true from fun h i hi => by rcases Nat.lt_succ_iff_lt_or_eq.1 hi with h2 | rfl <;> first | exact HA.out.1 i h2 | exact h)
      have hx := heap_alloc_new wr (.cells #[.int .u8 t.1, .int .u8 t.2.1, .int .i64 t.2.2.1, .string t.2.2.2] 86)
      have hup := up_cases P j t (by rw [HN.out.1]; exact hlt)
      have HD := Lib.hid (fun (q : Nat) (s : Hf) (hs : P[q]? = some s) => (HV.out.below HB1.out (Nat.le_refl _)).p.one hs)
      clear ht hb1 ts hAt
      go_wp2_with fail
      clear c0 c1 c2 c3
      obtain ⟨x, hxx⟩ : ∃ x, wr.heap.size = x := ⟨_, rfl⟩
      obtain ⟨W4, hW4⟩ : ∃ W, wr.alloc (.cells #[.int .u8 t.1, .int .u8 t.2.1, .int .i64 t.2.2.1, .string t.2.2.2] 86) = W := ⟨_, rfl⟩
      have hgx : g < W4.heap.size := by rw [← hW4]; simp; omega
      rw [hW4] at hx HB1 HD
      rw [hxx] at hx
      rw [hW4, hxx]
      clear hW4 hxx hgl
      have hxl := (Array.getElem?_eq_some_iff.1 hx).1
      obtain ⟨x0, x1, x2, x3⟩ : W4.cell? ⟨x, 0, none⟩ = some (.int .u8 t.1) ∧ W4.cell? ⟨x, 1, none⟩ = some (.int .u8 t.2.1) ∧ W4.cell? ⟨x, 2, none⟩ = some (.int .i64 t.2.2.1) ∧ W4.cell? ⟨x, 3, none⟩ = some (.string t.2.2.2) := by simp [World.cell?, hx]
      have y2 : W4.cell? ⟨z, 2, none⟩ = some (.slice (some ⟨g, og, none⟩) n pc) := cell_on HZ.out.2.2.1 HB1.out HZ.out.1
      have hzx : z < W4.heap.size := Nat.lt_of_lt_of_le HZ.out.1 HB1.out.size
      clear hx
      by_cases h3 : 3 < t.1
      · have k3 : decide (3 < t.1) = true := decide_eq_true h3
        have HNo := Lib.hid (show pAt P j = false by rw [HAt.out]; simp; omega)
        clear hup
        go_quiet (fail)
        go_wp2_with fail
        go_ret
        exact ⟨by rw [(Fin.out _ HB1.out (HNo.out)).1]; rfl, (Fin.out _ (HB1.out.trans ((drewN_refl _ nq).mono HB1.out.size)) (HNo.out)).2⟩
      have k3 : decide (3 < t.1) = false := decide_eq_false h3
      by_cases h0 : t.2.1 = 0
      · have k0 : (t.2.1 == 0) = true := by simp [h0]
        have HNo := Lib.hid (show pAt P j = false by rw [HAt.out]; simp [h0])
        clear hup h0 h3
        go_quiet (fail)
        go_wp2_with fail
        go_ret
        exact ⟨by rw [(Fin.out _ HB1.out (HNo.out)).1]; rfl, (Fin.out _ (HB1.out.trans ((drewN_refl _ nq).mono HB1.out.size)) (HNo.out)).2⟩
      have k0 : (t.2.1 == 0) = false := by simp [h0]
      have HG := Lib.hid (show ∀ u, upB P j t = u → okT t = true → pAt P j = u from fun u hu ho => by rw [HAt.out, hu, ho]; simp [h0]; omega)
      clear h0 h3
      cases hok : okT t
      · have HOk := Lib.hid hok
        have HAn := Lib.hid (show pAt P j = false by rw [HAt.out, hok]; simp)
        clear hup hok
        refine wp_region_held_drew (S := (fun w' => w'.cell? ⟨x, 0, none⟩ = some (.int .u8 t.1) ∧ w'.cell? ⟨x, 1, none⟩ = some (.int .u8 t.2.1) ∧ w'.cell? ⟨x, 2, none⟩ = some (.int .i64 t.2.2.1) ∧ w'.cell? ⟨x, 3, none⟩ = some (.string t.2.2.2) ∧ w'.cell? ⟨z, 2, none⟩ = some (.slice (some ⟨g, og, none⟩) n pc))) (by kernel_rfl) ?_ (fun hHeld => ?_)
        · exact ⟨x0, x1, x2, x3, y2⟩
        refine' wpAnyH_take (i := 0) (oi := _) (v := _) rfl (by kernel_rfl) (by kernel_rfl) (by kernel_rfl) (fun _ _ _ h => h) (Or.inl ⟨by rfl, ?hy1⟩) (by assumption) ?rest1
        case hy1 => (intro w hSw; (try dsimp only at hSw); go_simp; try with_reducible rfl)
        try simp only [Act.put, List.setIfInBounds_toArray, List.set_cons_zero, List.set_cons_succ, List.getElem_toArray, List.getElem_cons_zero]
        refine' wpAnyH_take (i := 1) (oi := _) (v := _) rfl (by kernel_rfl) (by kernel_rfl) (by kernel_rfl) (fun _ _ _ h => h) (Or.inl ⟨by rfl, ?hy2⟩) (by assumption) ?rest2
        case hy2 => (intro w hSw; (try dsimp only at hSw); go_simp; try with_reducible rfl)
        try simp only [Act.put, List.setIfInBounds_toArray, List.set_cons_zero, List.set_cons_succ, List.getElem_toArray, List.getElem_cons_succ, List.getElem_cons_zero]
        refine' wpAnyH_take (i := 2) (oi := _) (v := _) rfl (by kernel_rfl) (by kernel_rfl) (by kernel_rfl) (fun _ _ _ h => h) (Or.inl ⟨by rfl, ?hy3⟩) (by assumption) ?rest3
        case hy3 => (intro w hSw; (try dsimp only at hSw); go_simp; try with_reducible rfl)
        try simp only [Act.put, List.setIfInBounds_toArray, List.set_cons_zero, List.set_cons_succ, List.getElem_toArray, List.getElem_cons_succ, List.getElem_cons_zero]
        refine' wpAnyH_take (i := 3) (oi := _) (v := _) rfl (by kernel_rfl) (by kernel_rfl) (by kernel_rfl) (fun _ _ _ h => h) (Or.inl ⟨by rfl, ?hy4⟩) (by assumption) ?rest4
        case hy4 => (intro w hSw; (try dsimp only at hSw); go_simp; try with_reducible rfl)
        try simp only [Act.put, List.setIfInBounds_toArray, List.set_cons_zero, List.set_cons_succ, List.getElem_toArray, List.getElem_cons_succ, List.getElem_cons_zero]
        refine' wpAnyH_take (i := 4) (oi := _) (v := _) rfl (by kernel_rfl) (by kernel_rfl) (by kernel_rfl) (fun _ _ _ h => h) (Or.inl ⟨by rfl, ?hy5⟩) (by assumption) ?rest5
        case hy5 => (intro w hSw; (try dsimp only at hSw); go_simp; try with_reducible rfl)
        try simp only [Act.put, List.setIfInBounds_toArray, List.set_cons_zero, List.set_cons_succ, List.getElem_toArray, List.getElem_cons_succ, List.getElem_cons_zero]
        refine' wpAnyH_take (i := 5) (oi := _) (v := _) rfl (by kernel_rfl) (by kernel_rfl) (by kernel_rfl) (fun _ _ _ h => h) (Or.inl ⟨by rfl, ?hy6⟩) (by assumption) ?rest6
        case hy6 => (intro w hSw; (try dsimp only at hSw); go_simp; try with_reducible rfl)
        try simp only [Act.put, List.setIfInBounds_toArray, List.set_cons_zero, List.set_cons_succ, List.getElem_toArray, List.getElem_cons_succ, List.getElem_cons_zero]
        refine' wpAnyH_take (i := 6) (oi := _) (v := _) rfl (by kernel_rfl) (by kernel_rfl) (by kernel_rfl) (fun _ _ _ h => h) (Or.inl ⟨by rfl, ?hy7⟩) (by assumption) ?rest7
        case hy7 => (intro w hSw; (try dsimp only at hSw); go_simp; try with_reducible rfl)
        try simp only [Act.put, List.setIfInBounds_toArray, List.set_cons_zero, List.set_cons_succ, List.getElem_toArray, List.getElem_cons_succ, List.getElem_cons_zero]
        refine' wpAnyH_take (i := 7) (oi := _) (v := _) rfl (by kernel_rfl) (by kernel_rfl) (by kernel_rfl) (fun _ _ _ h => h) (Or.inl ⟨by rfl, ?hy8⟩) (by assumption) ?rest8
        case hy8 => (intro w hSw; (try dsimp only at hSw); go_simp; try with_reducible rfl)
        try simp only [Act.put, List.setIfInBounds_toArray, List.set_cons_zero, List.set_cons_succ, List.getElem_toArray, List.getElem_cons_succ, List.getElem_cons_zero]
        refine' wpAnyH_take (i := 8) (oi := _) (v := _) rfl (by kernel_rfl) (by kernel_rfl) (by kernel_rfl) (fun _ _ _ h => h) (Or.inl ⟨by rfl, ?hy9⟩) (by assumption) ?rest9
        case hy9 => (intro w hSw; (try dsimp only at hSw); go_simp; try with_reducible rfl)
        try simp only [Act.put, List.setIfInBounds_toArray, List.set_cons_zero, List.set_cons_succ, List.getElem_toArray, List.getElem_cons_succ, List.getElem_cons_zero]
        refine' wpAnyH_take (i := 9) (oi := _) (v := _) rfl (by kernel_rfl) (by kernel_rfl) (by kernel_rfl) (fun _ _ _ h => h) (Or.inl ⟨by rfl, ?hy10⟩) (by assumption) ?rest10
        case hy10 => (intro w hSw; (try dsimp only at hSw); go_simp; try with_reducible rfl)
        try simp only [Act.put, List.setIfInBounds_toArray, List.set_cons_zero, List.set_cons_succ, List.getElem_toArray, List.getElem_cons_succ, List.getElem_cons_zero]
        refine' wpAnyH_take (i := 10) (oi := _) (v := _) rfl (by kernel_rfl) (by kernel_rfl) (by kernel_rfl) (fun _ _ _ h => h) (Or.inl ⟨by rfl, ?hy11⟩) (by assumption) ?rest11
        case hy11 => (intro w hSw; (try dsimp only at hSw); go_simp; try with_reducible rfl)
        try simp only [Act.put, List.setIfInBounds_toArray, List.set_cons_zero, List.set_cons_succ, List.getElem_toArray, List.getElem_cons_succ, List.getElem_cons_zero]
        refine' wpAnyH_take (i := 11) (oi := _) (v := _) rfl (by kernel_rfl) (by kernel_rfl) (by kernel_rfl) (fun _ _ _ h => h) (Or.inl ⟨by rfl, ?hy12⟩) (by assumption) ?rest12
        case hy12 => (intro w hSw; (try dsimp only at hSw); go_simp; try with_reducible rfl)
        try simp only [Act.put, List.setIfInBounds_toArray, List.set_cons_zero, List.set_cons_succ, List.getElem_toArray, List.getElem_cons_succ, List.getElem_cons_zero]
        refine wpAnyH_ready (rs := [12]) (by kernel_rfl) (by simp) ?_
        refine AllReadyH.cons (o := _) rfl (fun K hK => ?_) AllReadyH.nil
        go_simp
        first | (go_at_call 39; refine (HCk.out _).mono ?_; rw [HOk.out]; rintro e' w6 ⟨rfl, hb1⟩; have hb1' := (Below.refl W4.heap.size W4).drew.trans hb1; have U1 := four_on x0 x1 x2 x3 (fun k hk => hb1'.block k (hk ▸ hxl)); have H6 := Lib.hid hb1'; clear hb1)
        refine hK.out _ _ ?_ (fun hHeld => ?_)
        · first | exact ⟨x0, x1, x2, x3, y2⟩ | exact ⟨U1.1, U1.2.1, U1.2.2.1, U1.2.2.2, cell_on y2 hb1' hzx⟩
        clear hK K
        try simp only [Act.put, List.setIfInBounds_toArray, List.set_cons_zero, List.set_cons_succ, List.getElem_toArray, List.getElem_cons_succ, List.getElem_cons_zero]
        refine' wpAnyH_take (i := 13) (oi := _) (v := _) rfl (by kernel_rfl) (by kernel_rfl) (by kernel_rfl) (fun _ _ _ h => h) (Or.inl ⟨by rfl, ?hy13⟩) (by assumption) ?rest13
        case hy13 => (intro w hSw; (try dsimp only at hSw); go_simp; try with_reducible rfl)
        try simp only [Act.put, List.setIfInBounds_toArray, List.set_cons_zero, List.set_cons_succ, List.getElem_toArray, List.getElem_cons_succ, List.getElem_cons_zero]
        refine' wpAnyH_take (i := 14) (oi := _) (v := _) rfl (by kernel_rfl) (by kernel_rfl) (by kernel_rfl) (fun _ _ _ h => h) (Or.inl ⟨by rfl, ?hy14⟩) (by assumption) ?rest14
        case hy14 => (intro w hSw; (try dsimp only at hSw); go_simp; try with_reducible rfl)
        try simp only [Act.put, List.setIfInBounds_toArray, List.set_cons_zero, List.set_cons_succ, List.getElem_toArray, List.getElem_cons_succ, List.getElem_cons_zero]
        refine' wpAnyH_take (i := 15) (oi := _) (v := _) rfl (by kernel_rfl) (by kernel_rfl) (by kernel_rfl) (fun _ _ _ h => h) (Or.inl ⟨by rfl, ?hy15⟩) (by assumption) ?rest15
        case hy15 => (intro w hSw; (try dsimp only at hSw); go_simp; try with_reducible rfl)
        try simp only [Act.put, List.setIfInBounds_toArray, List.set_cons_zero, List.set_cons_succ, List.getElem_toArray, List.getElem_cons_succ, List.getElem_cons_zero]
        refine wpAnyH_take (i := 16) (oi := _) (v := undef) rfl (by kernel_rfl) (by kernel_rfl) (by kernel_rfl) (fun _ _ _ h => h) (Or.inr ⟨by rfl, rfl⟩) (by assumption) ?_
        try simp only [Act.put, List.setIfInBounds_toArray, List.set_cons_zero, List.set_cons_succ, List.getElem_toArray, List.getElem_cons_succ, List.getElem_cons_zero]
        refine wpAnyH_take (i := 17) (oi := _) (v := undef) rfl (by kernel_rfl) (by kernel_rfl) (by kernel_rfl) (fun _ _ _ h => h) (Or.inr ⟨by rfl, rfl⟩) (by assumption) ?_
        try simp only [Act.put, List.setIfInBounds_toArray, List.set_cons_zero, List.set_cons_succ, List.getElem_toArray, List.getElem_cons_succ, List.getElem_cons_zero]
        refine wpAnyH_take (i := 18) (oi := _) (v := undef) rfl (by kernel_rfl) (by kernel_rfl) (by kernel_rfl) (fun _ _ _ h => h) (Or.inr ⟨by rfl, rfl⟩) (by assumption) ?_
        try simp only [Act.put, List.setIfInBounds_toArray, List.set_cons_zero, List.set_cons_succ, List.getElem_toArray, List.getElem_cons_succ, List.getElem_cons_zero]
        refine wpAnyH_take (i := 19) (oi := _) (v := undef) rfl (by kernel_rfl) (by kernel_rfl) (by kernel_rfl) (fun _ _ _ h => h) (Or.inr ⟨by rfl, rfl⟩) (by assumption) ?_
        try simp only [Act.put, List.setIfInBounds_toArray, List.set_cons_zero, List.set_cons_succ, List.getElem_toArray, List.getElem_cons_succ, List.getElem_cons_zero]
        refine wpAnyH_take (i := 20) (oi := _) (v := undef) rfl (by kernel_rfl) (by kernel_rfl) (by kernel_rfl) (fun _ _ _ h => h) (Or.inr ⟨by rfl, rfl⟩) (by assumption) ?_
        try simp only [Act.put, List.setIfInBounds_toArray, List.set_cons_zero, List.set_cons_succ, List.getElem_toArray, List.getElem_cons_succ, List.getElem_cons_zero]
        refine wpAnyH_take (i := 21) (oi := _) (v := undef) rfl (by kernel_rfl) (by kernel_rfl) (by kernel_rfl) (fun _ _ _ h => h) (Or.inr ⟨by rfl, rfl⟩) (by assumption) ?_
        try simp only [Act.put, List.setIfInBounds_toArray, List.set_cons_zero, List.set_cons_succ, List.getElem_toArray, List.getElem_cons_succ, List.getElem_cons_zero]
        refine wpAnyH_take (i := 22) (oi := _) (v := undef) rfl (by kernel_rfl) (by kernel_rfl) (by kernel_rfl) (fun _ _ _ h => h) (Or.inr ⟨by rfl, rfl⟩) (by assumption) ?_
        try simp only [Act.put, List.setIfInBounds_toArray, List.set_cons_zero, List.set_cons_succ, List.getElem_toArray, List.getElem_cons_succ, List.getElem_cons_zero]
        refine wpAnyH_take (i := 23) (oi := _) (v := undef) rfl (by kernel_rfl) (by kernel_rfl) (by kernel_rfl) (fun _ _ _ h => h) (Or.inr ⟨by rfl, rfl⟩) (by assumption) ?_
        try simp only [Act.put, List.setIfInBounds_toArray, List.set_cons_zero, List.set_cons_succ, List.getElem_toArray, List.getElem_cons_succ, List.getElem_cons_zero]
        refine wpAnyH_take (i := 24) (oi := _) (v := undef) rfl (by kernel_rfl) (by kernel_rfl) (by kernel_rfl) (fun _ _ _ h => h) (Or.inr ⟨by rfl, rfl⟩) (by assumption) ?_
        try simp only [Act.put, List.setIfInBounds_toArray, List.set_cons_zero, List.set_cons_succ, List.getElem_toArray, List.getElem_cons_succ, List.getElem_cons_zero]
        refine wpAnyH_take (i := 25) (oi := _) (v := undef) rfl (by kernel_rfl) (by kernel_rfl) (by kernel_rfl) (fun _ _ _ h => h) (Or.inr ⟨by rfl, rfl⟩) (by assumption) ?_
        try simp only [Act.put, List.setIfInBounds_toArray, List.set_cons_zero, List.set_cons_succ, List.getElem_toArray, List.getElem_cons_succ, List.getElem_cons_zero]
        refine wpAnyH_take (i := 26) (oi := _) (v := undef) rfl (by kernel_rfl) (by kernel_rfl) (by kernel_rfl) (fun _ _ _ h => h) (Or.inr ⟨by rfl, rfl⟩) (by assumption) ?_
        try simp only [Act.put, List.setIfInBounds_toArray, List.set_cons_zero, List.set_cons_succ, List.getElem_toArray, List.getElem_cons_succ, List.getElem_cons_zero]
        refine wpAnyH_take (i := 27) (oi := _) (v := undef) rfl (by kernel_rfl) (by kernel_rfl) (by kernel_rfl) (fun _ _ _ h => h) (Or.inr ⟨by rfl, rfl⟩) (by assumption) ?_
        try simp only [Act.put, List.setIfInBounds_toArray, List.set_cons_zero, List.set_cons_succ, List.getElem_toArray, List.getElem_cons_succ, List.getElem_cons_zero]
        refine wpAnyH_take (i := 28) (oi := _) (v := undef) rfl (by kernel_rfl) (by kernel_rfl) (by kernel_rfl) (fun _ _ _ h => h) (Or.inr ⟨by rfl, rfl⟩) (by assumption) ?_
        try simp only [Act.put, List.setIfInBounds_toArray, List.set_cons_zero, List.set_cons_succ, List.getElem_toArray, List.getElem_cons_succ, List.getElem_cons_zero]
        refine wpAnyH_take (i := 29) (oi := _) (v := undef) rfl (by kernel_rfl) (by kernel_rfl) (by kernel_rfl) (fun _ _ _ h => h) (Or.inr ⟨by rfl, rfl⟩) (by assumption) ?_
        try simp only [Act.put, List.setIfInBounds_toArray, List.set_cons_zero, List.set_cons_succ, List.getElem_toArray, List.getElem_cons_succ, List.getElem_cons_zero]
        refine' wpAnyH_take (i := 30) (oi := _) (v := _) rfl (by kernel_rfl) (by kernel_rfl) (by kernel_rfl) (fun _ _ _ h => h) (Or.inl ⟨by rfl, ?hy16⟩) (by assumption) ?rest16
        case hy16 => (intro w hSw; (try dsimp only at hSw); go_simp; try with_reducible rfl)
        try simp only [Act.put, List.setIfInBounds_toArray, List.set_cons_zero, List.set_cons_succ, List.getElem_toArray, List.getElem_cons_succ, List.getElem_cons_zero]
        refine wpAnyH_done (by kernel_rfl) ?_ _
        all_goals (
          go_wp2_with fail
          go_ret
          exact ⟨by rw [(Fin.out _ HB1.out (HAn.out)).1]; rfl, (Fin.out _ (HB1.out.trans (H6.out.mono HB1.out.size)) (HAn.out)).2⟩)
      have HOk := Lib.hid hok
      clear hok
      rcases hup with ⟨hj0, hu⟩ | ⟨q, s, hq, hs, hst, hu⟩ | ⟨q, s, hq, hs, hst, hu⟩
      · have j0 : decide ((0 : Int) < (j : Int)) = false := decide_eq_false (by omega)
        have j0' : decide (0 < j) = false := decide_eq_false (by omega)
        have HU := Lib.hid hu
        clear hj0 hu
        refine wp_region_held_drew (S := (fun w' => w'.cell? ⟨x, 0, none⟩ = some (.int .u8 t.1) ∧ w'.cell? ⟨x, 1, none⟩ = some (.int .u8 t.2.1) ∧ w'.cell? ⟨x, 2, none⟩ = some (.int .i64 t.2.2.1) ∧ w'.cell? ⟨x, 3, none⟩ = some (.string t.2.2.2) ∧ w'.cell? ⟨z, 2, none⟩ = some (.slice (some ⟨g, og, none⟩) n pc))) (by kernel_rfl) ?_ (fun hHeld => ?_)
        · exact ⟨x0, x1, x2, x3, y2⟩
        refine' wpAnyH_take (i := 0) (oi := _) (v := _) rfl (by kernel_rfl) (by kernel_rfl) (by kernel_rfl) (fun _ _ _ h => h) (Or.inl ⟨by rfl, ?hy17⟩) (by assumption) ?rest17
        case hy17 => (intro w hSw; (try dsimp only at hSw); go_simp; try with_reducible rfl)
        try simp only [Act.put, List.setIfInBounds_toArray, List.set_cons_zero, List.set_cons_succ, List.getElem_toArray, List.getElem_cons_zero]
        refine' wpAnyH_take (i := 1) (oi := _) (v := _) rfl (by kernel_rfl) (by kernel_rfl) (by kernel_rfl) (fun _ _ _ h => h) (Or.inl ⟨by rfl, ?hy18⟩) (by assumption) ?rest18
        case hy18 => (intro w hSw; (try dsimp only at hSw); go_simp; try with_reducible rfl)
        try simp only [Act.put, List.setIfInBounds_toArray, List.set_cons_zero, List.set_cons_succ, List.getElem_toArray, List.getElem_cons_succ, List.getElem_cons_zero]
        refine' wpAnyH_take (i := 2) (oi := _) (v := _) rfl (by kernel_rfl) (by kernel_rfl) (by kernel_rfl) (fun _ _ _ h => h) (Or.inl ⟨by rfl, ?hy19⟩) (by assumption) ?rest19
        case hy19 => (intro w hSw; (try dsimp only at hSw); go_simp; try with_reducible rfl)
        try simp only [Act.put, List.setIfInBounds_toArray, List.set_cons_zero, List.set_cons_succ, List.getElem_toArray, List.getElem_cons_succ, List.getElem_cons_zero]
        refine' wpAnyH_take (i := 3) (oi := _) (v := _) rfl (by kernel_rfl) (by kernel_rfl) (by kernel_rfl) (fun _ _ _ h => h) (Or.inl ⟨by rfl, ?hy20⟩) (by assumption) ?rest20
        case hy20 => (intro w hSw; (try dsimp only at hSw); go_simp; try with_reducible rfl)
        try simp only [Act.put, List.setIfInBounds_toArray, List.set_cons_zero, List.set_cons_succ, List.getElem_toArray, List.getElem_cons_succ, List.getElem_cons_zero]
        refine' wpAnyH_take (i := 4) (oi := _) (v := _) rfl (by kernel_rfl) (by kernel_rfl) (by kernel_rfl) (fun _ _ _ h => h) (Or.inl ⟨by rfl, ?hy21⟩) (by assumption) ?rest21
        case hy21 => (intro w hSw; (try dsimp only at hSw); go_simp; try with_reducible rfl)
        try simp only [Act.put, List.setIfInBounds_toArray, List.set_cons_zero, List.set_cons_succ, List.getElem_toArray, List.getElem_cons_succ, List.getElem_cons_zero]
        refine' wpAnyH_take (i := 5) (oi := _) (v := _) rfl (by kernel_rfl) (by kernel_rfl) (by kernel_rfl) (fun _ _ _ h => h) (Or.inl ⟨by rfl, ?hy22⟩) (by assumption) ?rest22
        case hy22 => (intro w hSw; (try dsimp only at hSw); go_simp; try with_reducible rfl)
        try simp only [Act.put, List.setIfInBounds_toArray, List.set_cons_zero, List.set_cons_succ, List.getElem_toArray, List.getElem_cons_succ, List.getElem_cons_zero]
        refine' wpAnyH_take (i := 6) (oi := _) (v := _) rfl (by kernel_rfl) (by kernel_rfl) (by kernel_rfl) (fun _ _ _ h => h) (Or.inl ⟨by rfl, ?hy23⟩) (by assumption) ?rest23
        case hy23 => (intro w hSw; (try dsimp only at hSw); go_simp; try with_reducible rfl)
        try simp only [Act.put, List.setIfInBounds_toArray, List.set_cons_zero, List.set_cons_succ, List.getElem_toArray, List.getElem_cons_succ, List.getElem_cons_zero]
        refine' wpAnyH_take (i := 7) (oi := _) (v := _) rfl (by kernel_rfl) (by kernel_rfl) (by kernel_rfl) (fun _ _ _ h => h) (Or.inl ⟨by rfl, ?hy24⟩) (by assumption) ?rest24
        case hy24 => (intro w hSw; (try dsimp only at hSw); go_simp; try with_reducible rfl)
        try simp only [Act.put, List.setIfInBounds_toArray, List.set_cons_zero, List.set_cons_succ, List.getElem_toArray, List.getElem_cons_succ, List.getElem_cons_zero]
        refine' wpAnyH_take (i := 8) (oi := _) (v := _) rfl (by kernel_rfl) (by kernel_rfl) (by kernel_rfl) (fun _ _ _ h => h) (Or.inl ⟨by rfl, ?hy25⟩) (by assumption) ?rest25
        case hy25 => (intro w hSw; (try dsimp only at hSw); go_simp; try with_reducible rfl)
        try simp only [Act.put, List.setIfInBounds_toArray, List.set_cons_zero, List.set_cons_succ, List.getElem_toArray, List.getElem_cons_succ, List.getElem_cons_zero]
        refine' wpAnyH_take (i := 9) (oi := _) (v := _) rfl (by kernel_rfl) (by kernel_rfl) (by kernel_rfl) (fun _ _ _ h => h) (Or.inl ⟨by rfl, ?hy26⟩) (by assumption) ?rest26
        case hy26 => (intro w hSw; (try dsimp only at hSw); go_simp; try with_reducible rfl)
        try simp only [Act.put, List.setIfInBounds_toArray, List.set_cons_zero, List.set_cons_succ, List.getElem_toArray, List.getElem_cons_succ, List.getElem_cons_zero]
        refine' wpAnyH_take (i := 10) (oi := _) (v := _) rfl (by kernel_rfl) (by kernel_rfl) (by kernel_rfl) (fun _ _ _ h => h) (Or.inl ⟨by rfl, ?hy27⟩) (by assumption) ?rest27
        case hy27 => (intro w hSw; (try dsimp only at hSw); go_simp; try with_reducible rfl)
        try simp only [Act.put, List.setIfInBounds_toArray, List.set_cons_zero, List.set_cons_succ, List.getElem_toArray, List.getElem_cons_succ, List.getElem_cons_zero]
        refine' wpAnyH_take (i := 11) (oi := _) (v := _) rfl (by kernel_rfl) (by kernel_rfl) (by kernel_rfl) (fun _ _ _ h => h) (Or.inl ⟨by rfl, ?hy28⟩) (by assumption) ?rest28
        case hy28 => (intro w hSw; (try dsimp only at hSw); go_simp; try with_reducible rfl)
        try simp only [Act.put, List.setIfInBounds_toArray, List.set_cons_zero, List.set_cons_succ, List.getElem_toArray, List.getElem_cons_succ, List.getElem_cons_zero]
        refine wpAnyH_ready (rs := [12]) (by kernel_rfl) (by simp) ?_
        refine AllReadyH.cons (o := _) rfl (fun K hK => ?_) AllReadyH.nil
        go_simp
        first | (go_at_call 39; refine (HCk.out _).mono ?_; rw [HOk.out]; rintro e' w6 ⟨rfl, hb1⟩; have hb1' := (Below.refl W4.heap.size W4).drew.trans hb1; have U1 := four_on x0 x1 x2 x3 (fun k hk => hb1'.block k (hk ▸ hxl)); have H6 := Lib.hid hb1'; clear hb1)
        refine hK.out _ _ ?_ (fun hHeld => ?_)
        · first | exact ⟨x0, x1, x2, x3, y2⟩ | exact ⟨U1.1, U1.2.1, U1.2.2.1, U1.2.2.2, cell_on y2 hb1' hzx⟩
        clear hK K
        try simp only [Act.put, List.setIfInBounds_toArray, List.set_cons_zero, List.set_cons_succ, List.getElem_toArray, List.getElem_cons_succ, List.getElem_cons_zero]
        refine' wpAnyH_take (i := 13) (oi := _) (v := _) rfl (by kernel_rfl) (by kernel_rfl) (by kernel_rfl) (fun _ _ _ h => h) (Or.inl ⟨by rfl, ?hy29⟩) (by assumption) ?rest29
        case hy29 => (intro w hSw; (try dsimp only at hSw); go_simp; try with_reducible rfl)
        try simp only [Act.put, List.setIfInBounds_toArray, List.set_cons_zero, List.set_cons_succ, List.getElem_toArray, List.getElem_cons_succ, List.getElem_cons_zero]
        refine' wpAnyH_take (i := 14) (oi := _) (v := _) rfl (by kernel_rfl) (by kernel_rfl) (by kernel_rfl) (fun _ _ _ h => h) (Or.inl ⟨by rfl, ?hy30⟩) (by assumption) ?rest30
        case hy30 => (intro w hSw; (try dsimp only at hSw); go_simp; try with_reducible rfl)
        try simp only [Act.put, List.setIfInBounds_toArray, List.set_cons_zero, List.set_cons_succ, List.getElem_toArray, List.getElem_cons_succ, List.getElem_cons_zero]
        refine' wpAnyH_take (i := 15) (oi := _) (v := _) rfl (by kernel_rfl) (by kernel_rfl) (by kernel_rfl) (fun _ _ _ h => h) (Or.inl ⟨by rfl, ?hy31⟩) (by assumption) ?rest31
        case hy31 => (intro w hSw; (try dsimp only at hSw); go_simp; try with_reducible rfl)
        try simp only [Act.put, List.setIfInBounds_toArray, List.set_cons_zero, List.set_cons_succ, List.getElem_toArray, List.getElem_cons_succ, List.getElem_cons_zero]
        refine' wpAnyH_take (i := 16) (oi := _) (v := _) rfl (by kernel_rfl) (by kernel_rfl) (by kernel_rfl) (fun _ _ _ h => h) (Or.inl ⟨by rfl, ?hy32⟩) (by assumption) ?rest32
        case hy32 => (intro w hSw; (try dsimp only at hSw); go_simp; try with_reducible rfl)
        try simp only [Act.put, List.setIfInBounds_toArray, List.set_cons_zero, List.set_cons_succ, List.getElem_toArray, List.getElem_cons_succ, List.getElem_cons_zero]
        refine' wpAnyH_take (i := 17) (oi := _) (v := _) rfl (by kernel_rfl) (by kernel_rfl) (by kernel_rfl) (fun _ _ _ h => h) (Or.inl ⟨by rfl, ?hy33⟩) (by assumption) ?rest33
        case hy33 => (intro w hSw; (try dsimp only at hSw); go_simp; try with_reducible rfl)
        try simp only [Act.put, List.setIfInBounds_toArray, List.set_cons_zero, List.set_cons_succ, List.getElem_toArray, List.getElem_cons_succ, List.getElem_cons_zero]
        refine' wpAnyH_take (i := 18) (oi := _) (v := _) rfl (by kernel_rfl) (by kernel_rfl) (by kernel_rfl) (fun _ _ _ h => h) (Or.inl ⟨by rfl, ?hy34⟩) (by assumption) ?rest34
        case hy34 => (intro w hSw; (try dsimp only at hSw); go_simp; try with_reducible rfl)
        try simp only [Act.put, List.setIfInBounds_toArray, List.set_cons_zero, List.set_cons_succ, List.getElem_toArray, List.getElem_cons_succ, List.getElem_cons_zero]
        refine wpAnyH_take (i := 19) (oi := _) (v := undef) rfl (by kernel_rfl) (by kernel_rfl) (by kernel_rfl) (fun _ _ _ h => h) (Or.inr ⟨by rfl, rfl⟩) (by assumption) ?_
        try simp only [Act.put, List.setIfInBounds_toArray, List.set_cons_zero, List.set_cons_succ, List.getElem_toArray, List.getElem_cons_succ, List.getElem_cons_zero]
        refine wpAnyH_take (i := 20) (oi := _) (v := undef) rfl (by kernel_rfl) (by kernel_rfl) (by kernel_rfl) (fun _ _ _ h => h) (Or.inr ⟨by rfl, rfl⟩) (by assumption) ?_
        try simp only [Act.put, List.setIfInBounds_toArray, List.set_cons_zero, List.set_cons_succ, List.getElem_toArray, List.getElem_cons_succ, List.getElem_cons_zero]
        refine wpAnyH_take (i := 21) (oi := _) (v := undef) rfl (by kernel_rfl) (by kernel_rfl) (by kernel_rfl) (fun _ _ _ h => h) (Or.inr ⟨by rfl, rfl⟩) (by assumption) ?_
        try simp only [Act.put, List.setIfInBounds_toArray, List.set_cons_zero, List.set_cons_succ, List.getElem_toArray, List.getElem_cons_succ, List.getElem_cons_zero]
        refine wpAnyH_take (i := 22) (oi := _) (v := undef) rfl (by kernel_rfl) (by kernel_rfl) (by kernel_rfl) (fun _ _ _ h => h) (Or.inr ⟨by rfl, rfl⟩) (by assumption) ?_
        try simp only [Act.put, List.setIfInBounds_toArray, List.set_cons_zero, List.set_cons_succ, List.getElem_toArray, List.getElem_cons_succ, List.getElem_cons_zero]
        refine wpAnyH_take (i := 23) (oi := _) (v := undef) rfl (by kernel_rfl) (by kernel_rfl) (by kernel_rfl) (fun _ _ _ h => h) (Or.inr ⟨by rfl, rfl⟩) (by assumption) ?_
        try simp only [Act.put, List.setIfInBounds_toArray, List.set_cons_zero, List.set_cons_succ, List.getElem_toArray, List.getElem_cons_succ, List.getElem_cons_zero]
        refine wpAnyH_take (i := 24) (oi := _) (v := undef) rfl (by kernel_rfl) (by kernel_rfl) (by kernel_rfl) (fun _ _ _ h => h) (Or.inr ⟨by rfl, rfl⟩) (by assumption) ?_
        try simp only [Act.put, List.setIfInBounds_toArray, List.set_cons_zero, List.set_cons_succ, List.getElem_toArray, List.getElem_cons_succ, List.getElem_cons_zero]
        refine wpAnyH_take (i := 25) (oi := _) (v := undef) rfl (by kernel_rfl) (by kernel_rfl) (by kernel_rfl) (fun _ _ _ h => h) (Or.inr ⟨by rfl, rfl⟩) (by assumption) ?_
        try simp only [Act.put, List.setIfInBounds_toArray, List.set_cons_zero, List.set_cons_succ, List.getElem_toArray, List.getElem_cons_succ, List.getElem_cons_zero]
        refine wpAnyH_take (i := 26) (oi := _) (v := undef) rfl (by kernel_rfl) (by kernel_rfl) (by kernel_rfl) (fun _ _ _ h => h) (Or.inr ⟨by rfl, rfl⟩) (by assumption) ?_
        try simp only [Act.put, List.setIfInBounds_toArray, List.set_cons_zero, List.set_cons_succ, List.getElem_toArray, List.getElem_cons_succ, List.getElem_cons_zero]
        refine wpAnyH_take (i := 27) (oi := _) (v := undef) rfl (by kernel_rfl) (by kernel_rfl) (by kernel_rfl) (fun _ _ _ h => h) (Or.inr ⟨by rfl, rfl⟩) (by assumption) ?_
        try simp only [Act.put, List.setIfInBounds_toArray, List.set_cons_zero, List.set_cons_succ, List.getElem_toArray, List.getElem_cons_succ, List.getElem_cons_zero]
        refine wpAnyH_take (i := 28) (oi := _) (v := undef) rfl (by kernel_rfl) (by kernel_rfl) (by kernel_rfl) (fun _ _ _ h => h) (Or.inr ⟨by rfl, rfl⟩) (by assumption) ?_
        try simp only [Act.put, List.setIfInBounds_toArray, List.set_cons_zero, List.set_cons_succ, List.getElem_toArray, List.getElem_cons_succ, List.getElem_cons_zero]
        refine' wpAnyH_take (i := 29) (oi := _) (v := _) rfl (by kernel_rfl) (by kernel_rfl) (by kernel_rfl) (fun _ _ _ h => h) (Or.inl ⟨by rfl, ?hy35⟩) (by assumption) ?rest35
        case hy35 => (intro w hSw; (try dsimp only at hSw); go_simp; try with_reducible rfl)
        try simp only [Act.put, List.setIfInBounds_toArray, List.set_cons_zero, List.set_cons_succ, List.getElem_toArray, List.getElem_cons_succ, List.getElem_cons_zero]
        refine' wpAnyH_take (i := 30) (oi := _) (v := _) rfl (by kernel_rfl) (by kernel_rfl) (by kernel_rfl) (fun _ _ _ h => h) (Or.inl ⟨by rfl, ?hy36⟩) (by assumption) ?rest36
        case hy36 => (intro w hSw; (try dsimp only at hSw); go_simp; try with_reducible rfl)
        try simp only [Act.put, List.setIfInBounds_toArray, List.set_cons_zero, List.set_cons_succ, List.getElem_toArray, List.getElem_cons_succ, List.getElem_cons_zero]
        refine wpAnyH_done (by kernel_rfl) ?_ _
        all_goals (
          go_wp2_with fail
          go_roundw
          case rel => exact ⟨j + 1, by omega, by go_num, Lib.hid ⟨Nxt.out (HG.out _ HU.out HOk.out), HB1.out.trans (H6.out.mono HB1.out.size)⟩⟩
          case measure => simp [intOf]; omega)
      · have j0 : decide ((0 : Int) < (j : Int)) = true := decide_eq_true (by omega)
        have j0' : decide (0 < j) = true := decide_eq_true (by omega)
        have jw : IntKind.i64.wrap ((j : Int) - 1) = (q : Int) := by rw [wr64 (by omega) (by omega)]; omega
        have jq : (q : Int) < (n : Int) := by omega
        have d0 := HD.out q s hs
        have d3 : decide (t.1 ≤ s.1) = false := decide_eq_false (by omega)
        have HU := Lib.hid hu
        clear hu hs hst hq
        go_region_held3 (fun w' => w'.cell? ⟨x, 0, none⟩ = some (.int .u8 t.1) ∧ w'.cell? ⟨x, 1, none⟩ = some (.int .u8 t.2.1) ∧ w'.cell? ⟨x, 2, none⟩ = some (.int .i64 t.2.2.1) ∧ w'.cell? ⟨x, 3, none⟩ = some (.string t.2.2.2) ∧ w'.cell? ⟨z, 2, none⟩ = some (.slice (some ⟨g, og, none⟩) n pc) ∧ w'.cell? ⟨g, og + q * 4, none⟩ = some (.int .u8 s.1)) (first | exact ⟨x0, x1, x2, x3, y2, d0⟩ | exact ⟨U1.1, U1.2.1, U1.2.2.1, U1.2.2.2, cell_on y2 hb1' hzx, cell_on d0 hb1' hgx⟩) (first | (go_at_call 39; refine (HCk.out _).mono ?_; rw [HOk.out]; rintro e' w6 ⟨rfl, hb1⟩; have hb1' := (Below.refl W4.heap.size W4).drew.trans hb1; have U1 := four_on x0 x1 x2 x3 (fun k hk => hb1'.block k (hk ▸ hxl)); have H6 := Lib.hid hb1'; clear hb1))
        all_goals (
          go_wp2_with fail
          go_roundw
          case rel => exact ⟨j + 1, by omega, by go_num, Lib.hid ⟨Nxt.out (HG.out _ HU.out HOk.out), HB1.out.trans (H6.out.mono HB1.out.size)⟩⟩
          case measure => simp [intOf]; omega)
      · have j0 : decide ((0 : Int) < (j : Int)) = true := decide_eq_true (by omega)
        have j0' : decide (0 < j) = true := decide_eq_true (by omega)
        have jw : IntKind.i64.wrap ((j : Int) - 1) = (q : Int) := by rw [wr64 (by omega) (by omega)]; omega
        have jq : (q : Int) < (n : Int) := by omega
        have d0 := HD.out q s hs
        have d3 : decide (t.1 ≤ s.1) = true := decide_eq_true (by omega)
        have HU := Lib.hid hu
        clear hu hs hst hq
        go_region_held3 (fun w' => w'.cell? ⟨x, 0, none⟩ = some (.int .u8 t.1) ∧ w'.cell? ⟨x, 1, none⟩ = some (.int .u8 t.2.1) ∧ w'.cell? ⟨x, 2, none⟩ = some (.int .i64 t.2.2.1) ∧ w'.cell? ⟨x, 3, none⟩ = some (.string t.2.2.2) ∧ w'.cell? ⟨z, 2, none⟩ = some (.slice (some ⟨g, og, none⟩) n pc) ∧ w'.cell? ⟨g, og + q * 4, none⟩ = some (.int .u8 s.1)) (first | exact ⟨x0, x1, x2, x3, y2, d0⟩ | exact ⟨U1.1, U1.2.1, U1.2.2.1, U1.2.2.2, cell_on y2 hb1' hzx, cell_on d0 hb1' hgx⟩) (first | (go_at_call 39; refine (HCk.out _).mono ?_; rw [HOk.out]; rintro e' w6 ⟨rfl, hb1⟩; have hb1' := (Below.refl W4.heap.size W4).drew.trans hb1; have U1 := four_on x0 x1 x2 x3 (fun k hk => hb1'.block k (hk ▸ hxl)); have H6 := Lib.hid hb1'; clear hb1))
        all_goals (
          go_wp2_with fail
          go_ret
          exact ⟨by rw [(Fin.out _ HB1.out (HG.out _ HU.out HOk.out)).1]; rfl, (Fin.out _ (HB1.out.trans (H6.out.mono HB1.out.size)) (HG.out _ HU.out HOk.out)).2⟩)
    · obtain rfl : j = n := by omega
      have HP := Lib.hid (show propsB P = true from all_yes (fun i hi => HA.out.1 i (by rw [HN.out.1] at hi; exact hi)))
      have H1 := Lib.hid HA.out.2
      have z3 := cell_on HZ.out.2.2.2 HA.out.2 HZ.out.1
      clear HA hlt hj
      go_wp2_with fail
      clear z3
      go_loopw [75] (fun u wr => ∃ j : Nat, j ≤ k ∧ u = .int .i64 j ∧ Hid ((∀ i, i < j → hAt id L i = true) ∧ Below W.heap.size W wr)) (fun u _ => k - (intOf u).toNat)
      case atStart => exact ⟨0, by omega, rfl, Lib.hid ⟨fun i hi => absurd hi (Nat.not_lt_zero _), H1.out⟩⟩
      case round =>
        obtain ⟨j, hj, rfl, HA⟩ := hrel
        by_cases hlt : j < k
        · obtain ⟨t, ht⟩ : ∃ t, L[j]? = some t := ⟨_, List.getElem?_eq_getElem (by have := HN.out.2; omega)⟩
          obtain ⟨g, og, rfl, hgl, c0, c1, c2, c3⟩ := (HV.out.below HA.out.2 (Nat.le_refl _)).h j t ht
          have ts := HV.out.ht t (List.mem_of_getElem? ht)
          have il : (j : Int) < (k : Int) := by omega
          have hb1 := HA.out.2.alloc HA.out.2.size (.cells #[.int .u32 t.1, .int .u8 t.2.1, .int .i64 t.2.2.1, .string t.2.2.2] 76)
          have HB1 := Lib.hid hb1
          have HCk := Lib.hid (fun (w : World) => form_t t w ts)
          have hAt : hAt id L j = (upB L j t && numB t.1 && decide (t.1 ≠ id) && okT t) := by unfold Gh.hAt; rw [ht]; rfl
          have HAt := Lib.hid hAt
          have Fin := Lib.hid (show ∀ w', Below W.heap.size W w' → Gh.hAt id L j = false → r = false ∧ Below z w w' from fun w' hb h => ⟨by rw [HR.out, show halvesB id L = false from all_not (by rw [HN.out.2]; exact hlt) h]; simp, HB.out.trans (hb.mono HS.out)⟩)
          have Nxt := Lib.hid (show Gh.hAt id L j = true → ∀ i, i < j + 1 → Gh.hAt id L i = true from fun h i hi => by rcases Nat.lt_succ_iff_lt_or_eq.1 hi with h2 | rfl <;> first | exact HA.out.1 i h2 | exact h)
          have hx := heap_alloc_new wr (.cells #[.int .u32 t.1, .int .u8 t.2.1, .int .i64 t.2.2.1, .string t.2.2.2] 76)
          have hup := up_cases L j t (by rw [HN.out.2]; exact hlt)
          have HD := Lib.hid (fun (q : Nat) (s : Hf) (hs : L[q]? = some s) => (HV.out.below HB1.out (Nat.le_refl _)).h.one hs)
          clear ht hb1 ts hAt
          go_wp2_with fail
          clear c0 c1 c2 c3
          obtain ⟨x, hxx⟩ : ∃ x, wr.heap.size = x := ⟨_, rfl⟩
          obtain ⟨W4, hW4⟩ : ∃ W, wr.alloc (.cells #[.int .u32 t.1, .int .u8 t.2.1, .int .i64 t.2.2.1, .string t.2.2.2] 76) = W := ⟨_, rfl⟩
          have hgx : g < W4.heap.size := by rw [← hW4]; simp; omega
          rw [hW4] at hx HB1 HD
          rw [hxx] at hx
          rw [hW4, hxx]
          clear hW4 hxx hgl
          have hxl := (Array.getElem?_eq_some_iff.1 hx).1
          obtain ⟨x0, x1, x2, x3⟩ : W4.cell? ⟨x, 0, none⟩ = some (.int .u32 t.1) ∧ W4.cell? ⟨x, 1, none⟩ = some (.int .u8 t.2.1) ∧ W4.cell? ⟨x, 2, none⟩ = some (.int .i64 t.2.2.1) ∧ W4.cell? ⟨x, 3, none⟩ = some (.string t.2.2.2) := by simp [World.cell?, hx]
          have y2 : W4.cell? ⟨z, 3, none⟩ = some (.slice (some ⟨g, og, none⟩) k hc) := cell_on HZ.out.2.2.2 HB1.out HZ.out.1
          have y0 : W4.cell? ⟨z, 0, none⟩ = some (.int .u32 id) := cell_on HZ.out.2.1 HB1.out HZ.out.1
          have hzx : z < W4.heap.size := Nat.lt_of_lt_of_le HZ.out.1 HB1.out.size
          clear hx
          cases hnb : numB t.1
          · have HNo := Lib.hid hnb
            have HAn := Lib.hid (show Gh.hAt id L j = false by rw [HAt.out, hnb]; simp)
            clear hup hnb
            go_quiet (first | (go_at_call 38; refine Calls.quiet_of_same (number_q _ _ HNo.out _)))
            go_wp2_with fail
            go_ret
            exact ⟨by rw [(Fin.out _ HB1.out (HAn.out)).1]; rfl, (Fin.out _ (HB1.out.trans ((drewN_refl _ nq).mono HB1.out.size)) (HAn.out)).2⟩
          have HNo := Lib.hid hnb
          by_cases h0 : t.1 = id
          · have k0 : (t.1 == id) = true := by simp [h0]
            have HAn := Lib.hid (show Gh.hAt id L j = false by rw [HAt.out]; simp [h0])
            clear hup hnb h0
            go_quiet (first | (go_at_call 38; refine Calls.quiet_of_same (number_q _ _ HNo.out _)))
            go_wp2_with fail
            go_ret
            exact ⟨by rw [(Fin.out _ HB1.out (HAn.out)).1]; rfl, (Fin.out _ (HB1.out.trans ((drewN_refl _ nq).mono HB1.out.size)) (HAn.out)).2⟩
          have k0 : (t.1 == id) = false := by simp [h0]
          have HG := Lib.hid (show ∀ u, upB L j t = u → okT t = true → Gh.hAt id L j = u from fun u hu ho => by rw [HAt.out, hu, ho, hnb]; simp [h0])
          clear h0 hnb
          cases hok : okT t
          · have HOk := Lib.hid hok
            have HAn := Lib.hid (show Gh.hAt id L j = false by rw [HAt.out, hok]; simp)
            clear hup hok
            refine wp_region_held_drew (S := (fun w' => w'.cell? ⟨x, 0, none⟩ = some (.int .u32 t.1) ∧ w'.cell? ⟨x, 1, none⟩ = some (.int .u8 t.2.1) ∧ w'.cell? ⟨x, 2, none⟩ = some (.int .i64 t.2.2.1) ∧ w'.cell? ⟨x, 3, none⟩ = some (.string t.2.2.2) ∧ w'.cell? ⟨z, 3, none⟩ = some (.slice (some ⟨g, og, none⟩) k hc) ∧ w'.cell? ⟨z, 0, none⟩ = some (.int .u32 id))) (by kernel_rfl) ?_ (fun hHeld => ?_)
            · exact ⟨x0, x1, x2, x3, y2, y0⟩
            refine' wpAnyH_take (i := 0) (oi := _) (v := _) rfl (by kernel_rfl) (by kernel_rfl) (by kernel_rfl) (fun _ _ _ h => h) (Or.inl ⟨by rfl, ?hy37⟩) (by assumption) ?rest37
            case hy37 => (intro w hSw; (try dsimp only at hSw); go_simp; try with_reducible rfl)
            try simp only [Act.put, List.setIfInBounds_toArray, List.set_cons_zero, List.set_cons_succ, List.getElem_toArray, List.getElem_cons_zero]
            refine' wpAnyH_take (i := 1) (oi := _) (v := _) rfl (by kernel_rfl) (by kernel_rfl) (by kernel_rfl) (fun _ _ _ h => h) (Or.inl ⟨by rfl, ?hy38⟩) (by assumption) ?rest38
            case hy38 => (intro w hSw; (try dsimp only at hSw); go_simp; try with_reducible rfl)
            try simp only [Act.put, List.setIfInBounds_toArray, List.set_cons_zero, List.set_cons_succ, List.getElem_toArray, List.getElem_cons_succ, List.getElem_cons_zero]
            refine wpAnyH_ready (rs := [2]) (by kernel_rfl) (by simp) ?_
            refine AllReadyH.cons (o := _) rfl (fun K hK => ?_) AllReadyH.nil
            go_simp
            first | (go_at_call 38; refine (number_r _ _ HNo.out _).mono ?_; rintro e' w5 ⟨rfl, rfl⟩) | (go_at_call 39; refine (HCk.out _).mono ?_; rw [HOk.out]; rintro e' w6 ⟨rfl, hb1⟩; have hb1' := (Below.refl W4.heap.size W4).drew.trans hb1; have U1 := four_on x0 x1 x2 x3 (fun k hk => hb1'.block k (hk ▸ hxl)); have H6 := Lib.hid hb1'; clear hb1)
            refine hK.out _ _ ?_ (fun hHeld => ?_)
            · first | exact ⟨x0, x1, x2, x3, y2, y0⟩ | exact ⟨U1.1, U1.2.1, U1.2.2.1, U1.2.2.2, cell_on y2 hb1' hzx, cell_on y0 hb1' hzx⟩
            clear hK K
            try simp only [Act.put, List.setIfInBounds_toArray, List.set_cons_zero, List.set_cons_succ, List.getElem_toArray, List.getElem_cons_succ, List.getElem_cons_zero]
            refine' wpAnyH_take (i := 3) (oi := _) (v := _) rfl (by kernel_rfl) (by kernel_rfl) (by kernel_rfl) (fun _ _ _ h => h) (Or.inl ⟨by rfl, ?hy39⟩) (by assumption) ?rest39
            case hy39 => (intro w hSw; (try dsimp only at hSw); go_simp; try with_reducible rfl)
            try simp only [Act.put, List.setIfInBounds_toArray, List.set_cons_zero, List.set_cons_succ, List.getElem_toArray, List.getElem_cons_succ, List.getElem_cons_zero]
            refine' wpAnyH_take (i := 4) (oi := _) (v := _) rfl (by kernel_rfl) (by kernel_rfl) (by kernel_rfl) (fun _ _ _ h => h) (Or.inl ⟨by rfl, ?hy40⟩) (by assumption) ?rest40
            case hy40 => (intro w hSw; (try dsimp only at hSw); go_simp; try with_reducible rfl)
            try simp only [Act.put, List.setIfInBounds_toArray, List.set_cons_zero, List.set_cons_succ, List.getElem_toArray, List.getElem_cons_succ, List.getElem_cons_zero]
            refine' wpAnyH_take (i := 5) (oi := _) (v := _) rfl (by kernel_rfl) (by kernel_rfl) (by kernel_rfl) (fun _ _ _ h => h) (Or.inl ⟨by rfl, ?hy41⟩) (by assumption) ?rest41
            case hy41 => (intro w hSw; (try dsimp only at hSw); go_simp; try with_reducible rfl)
            try simp only [Act.put, List.setIfInBounds_toArray, List.set_cons_zero, List.set_cons_succ, List.getElem_toArray, List.getElem_cons_succ, List.getElem_cons_zero]
            refine' wpAnyH_take (i := 6) (oi := _) (v := _) rfl (by kernel_rfl) (by kernel_rfl) (by kernel_rfl) (fun _ _ _ h => h) (Or.inl ⟨by rfl, ?hy42⟩) (by assumption) ?rest42
            case hy42 => (intro w hSw; (try dsimp only at hSw); go_simp; try with_reducible rfl)
            try simp only [Act.put, List.setIfInBounds_toArray, List.set_cons_zero, List.set_cons_succ, List.getElem_toArray, List.getElem_cons_succ, List.getElem_cons_zero]
            refine' wpAnyH_take (i := 7) (oi := _) (v := _) rfl (by kernel_rfl) (by kernel_rfl) (by kernel_rfl) (fun _ _ _ h => h) (Or.inl ⟨by rfl, ?hy43⟩) (by assumption) ?rest43
            case hy43 => (intro w hSw; (try dsimp only at hSw); go_simp; try with_reducible rfl)
            try simp only [Act.put, List.setIfInBounds_toArray, List.set_cons_zero, List.set_cons_succ, List.getElem_toArray, List.getElem_cons_succ, List.getElem_cons_zero]
            refine' wpAnyH_take (i := 8) (oi := _) (v := _) rfl (by kernel_rfl) (by kernel_rfl) (by kernel_rfl) (fun _ _ _ h => h) (Or.inl ⟨by rfl, ?hy44⟩) (by assumption) ?rest44
            case hy44 => (intro w hSw; (try dsimp only at hSw); go_simp; try with_reducible rfl)
            try simp only [Act.put, List.setIfInBounds_toArray, List.set_cons_zero, List.set_cons_succ, List.getElem_toArray, List.getElem_cons_succ, List.getElem_cons_zero]
            refine' wpAnyH_take (i := 9) (oi := _) (v := _) rfl (by kernel_rfl) (by kernel_rfl) (by kernel_rfl) (fun _ _ _ h => h) (Or.inl ⟨by rfl, ?hy45⟩) (by assumption) ?rest45
            case hy45 => (intro w hSw; (try dsimp only at hSw); go_simp; try with_reducible rfl)
            try simp only [Act.put, List.setIfInBounds_toArray, List.set_cons_zero, List.set_cons_succ, List.getElem_toArray, List.getElem_cons_succ, List.getElem_cons_zero]
            refine' wpAnyH_take (i := 10) (oi := _) (v := _) rfl (by kernel_rfl) (by kernel_rfl) (by kernel_rfl) (fun _ _ _ h => h) (Or.inl ⟨by rfl, ?hy46⟩) (by assumption) ?rest46
            case hy46 => (intro w hSw; (try dsimp only at hSw); go_simp; try with_reducible rfl)
            try simp only [Act.put, List.setIfInBounds_toArray, List.set_cons_zero, List.set_cons_succ, List.getElem_toArray, List.getElem_cons_succ, List.getElem_cons_zero]
            refine' wpAnyH_take (i := 11) (oi := _) (v := _) rfl (by kernel_rfl) (by kernel_rfl) (by kernel_rfl) (fun _ _ _ h => h) (Or.inl ⟨by rfl, ?hy47⟩) (by assumption) ?rest47
            case hy47 => (intro w hSw; (try dsimp only at hSw); go_simp; try with_reducible rfl)
            try simp only [Act.put, List.setIfInBounds_toArray, List.set_cons_zero, List.set_cons_succ, List.getElem_toArray, List.getElem_cons_succ, List.getElem_cons_zero]
            refine' wpAnyH_take (i := 12) (oi := _) (v := _) rfl (by kernel_rfl) (by kernel_rfl) (by kernel_rfl) (fun _ _ _ h => h) (Or.inl ⟨by rfl, ?hy48⟩) (by assumption) ?rest48
            case hy48 => (intro w hSw; (try dsimp only at hSw); go_simp; try with_reducible rfl)
            try simp only [Act.put, List.setIfInBounds_toArray, List.set_cons_zero, List.set_cons_succ, List.getElem_toArray, List.getElem_cons_succ, List.getElem_cons_zero]
            refine' wpAnyH_take (i := 13) (oi := _) (v := _) rfl (by kernel_rfl) (by kernel_rfl) (by kernel_rfl) (fun _ _ _ h => h) (Or.inl ⟨by rfl, ?hy49⟩) (by assumption) ?rest49
            case hy49 => (intro w hSw; (try dsimp only at hSw); go_simp; try with_reducible rfl)
            try simp only [Act.put, List.setIfInBounds_toArray, List.set_cons_zero, List.set_cons_succ, List.getElem_toArray, List.getElem_cons_succ, List.getElem_cons_zero]
            refine wpAnyH_ready (rs := [14]) (by kernel_rfl) (by simp) ?_
            refine AllReadyH.cons (o := _) rfl (fun K hK => ?_) AllReadyH.nil
            go_simp
            first | (go_at_call 38; refine (number_r _ _ HNo.out _).mono ?_; rintro e' w5 ⟨rfl, rfl⟩) | (go_at_call 39; refine (HCk.out _).mono ?_; rw [HOk.out]; rintro e' w6 ⟨rfl, hb1⟩; have hb1' := (Below.refl W4.heap.size W4).drew.trans hb1; have U1 := four_on x0 x1 x2 x3 (fun k hk => hb1'.block k (hk ▸ hxl)); have H6 := Lib.hid hb1'; clear hb1)
            refine hK.out _ _ ?_ (fun hHeld => ?_)
            · first | exact ⟨x0, x1, x2, x3, y2, y0⟩ | exact ⟨U1.1, U1.2.1, U1.2.2.1, U1.2.2.2, cell_on y2 hb1' hzx, cell_on y0 hb1' hzx⟩
            clear hK K
            try simp only [Act.put, List.setIfInBounds_toArray, List.set_cons_zero, List.set_cons_succ, List.getElem_toArray, List.getElem_cons_succ, List.getElem_cons_zero]
            refine' wpAnyH_take (i := 15) (oi := _) (v := _) rfl (by kernel_rfl) (by kernel_rfl) (by kernel_rfl) (fun _ _ _ h => h) (Or.inl ⟨by rfl, ?hy50⟩) (by assumption) ?rest50
            case hy50 => (intro w hSw; (try dsimp only at hSw); go_simp; try with_reducible rfl)
            try simp only [Act.put, List.setIfInBounds_toArray, List.set_cons_zero, List.set_cons_succ, List.getElem_toArray, List.getElem_cons_succ, List.getElem_cons_zero]
            refine' wpAnyH_take (i := 16) (oi := _) (v := _) rfl (by kernel_rfl) (by kernel_rfl) (by kernel_rfl) (fun _ _ _ h => h) (Or.inl ⟨by rfl, ?hy51⟩) (by assumption) ?rest51
            case hy51 => (intro w hSw; (try dsimp only at hSw); go_simp; try with_reducible rfl)
            try simp only [Act.put, List.setIfInBounds_toArray, List.set_cons_zero, List.set_cons_succ, List.getElem_toArray, List.getElem_cons_succ, List.getElem_cons_zero]
            refine' wpAnyH_take (i := 17) (oi := _) (v := _) rfl (by kernel_rfl) (by kernel_rfl) (by kernel_rfl) (fun _ _ _ h => h) (Or.inl ⟨by rfl, ?hy52⟩) (by assumption) ?rest52
            case hy52 => (intro w hSw; (try dsimp only at hSw); go_simp; try with_reducible rfl)
            try simp only [Act.put, List.setIfInBounds_toArray, List.set_cons_zero, List.set_cons_succ, List.getElem_toArray, List.getElem_cons_succ, List.getElem_cons_zero]
            refine wpAnyH_take (i := 18) (oi := _) (v := undef) rfl (by kernel_rfl) (by kernel_rfl) (by kernel_rfl) (fun _ _ _ h => h) (Or.inr ⟨by rfl, rfl⟩) (by assumption) ?_
            try simp only [Act.put, List.setIfInBounds_toArray, List.set_cons_zero, List.set_cons_succ, List.getElem_toArray, List.getElem_cons_succ, List.getElem_cons_zero]
            refine wpAnyH_take (i := 19) (oi := _) (v := undef) rfl (by kernel_rfl) (by kernel_rfl) (by kernel_rfl) (fun _ _ _ h => h) (Or.inr ⟨by rfl, rfl⟩) (by assumption) ?_
            try simp only [Act.put, List.setIfInBounds_toArray, List.set_cons_zero, List.set_cons_succ, List.getElem_toArray, List.getElem_cons_succ, List.getElem_cons_zero]
            refine wpAnyH_take (i := 20) (oi := _) (v := undef) rfl (by kernel_rfl) (by kernel_rfl) (by kernel_rfl) (fun _ _ _ h => h) (Or.inr ⟨by rfl, rfl⟩) (by assumption) ?_
            try simp only [Act.put, List.setIfInBounds_toArray, List.set_cons_zero, List.set_cons_succ, List.getElem_toArray, List.getElem_cons_succ, List.getElem_cons_zero]
            refine wpAnyH_take (i := 21) (oi := _) (v := undef) rfl (by kernel_rfl) (by kernel_rfl) (by kernel_rfl) (fun _ _ _ h => h) (Or.inr ⟨by rfl, rfl⟩) (by assumption) ?_
            try simp only [Act.put, List.setIfInBounds_toArray, List.set_cons_zero, List.set_cons_succ, List.getElem_toArray, List.getElem_cons_succ, List.getElem_cons_zero]
            refine wpAnyH_take (i := 22) (oi := _) (v := undef) rfl (by kernel_rfl) (by kernel_rfl) (by kernel_rfl) (fun _ _ _ h => h) (Or.inr ⟨by rfl, rfl⟩) (by assumption) ?_
            try simp only [Act.put, List.setIfInBounds_toArray, List.set_cons_zero, List.set_cons_succ, List.getElem_toArray, List.getElem_cons_succ, List.getElem_cons_zero]
            refine wpAnyH_take (i := 23) (oi := _) (v := undef) rfl (by kernel_rfl) (by kernel_rfl) (by kernel_rfl) (fun _ _ _ h => h) (Or.inr ⟨by rfl, rfl⟩) (by assumption) ?_
            try simp only [Act.put, List.setIfInBounds_toArray, List.set_cons_zero, List.set_cons_succ, List.getElem_toArray, List.getElem_cons_succ, List.getElem_cons_zero]
            refine wpAnyH_take (i := 24) (oi := _) (v := undef) rfl (by kernel_rfl) (by kernel_rfl) (by kernel_rfl) (fun _ _ _ h => h) (Or.inr ⟨by rfl, rfl⟩) (by assumption) ?_
            try simp only [Act.put, List.setIfInBounds_toArray, List.set_cons_zero, List.set_cons_succ, List.getElem_toArray, List.getElem_cons_succ, List.getElem_cons_zero]
            refine wpAnyH_take (i := 25) (oi := _) (v := undef) rfl (by kernel_rfl) (by kernel_rfl) (by kernel_rfl) (fun _ _ _ h => h) (Or.inr ⟨by rfl, rfl⟩) (by assumption) ?_
            try simp only [Act.put, List.setIfInBounds_toArray, List.set_cons_zero, List.set_cons_succ, List.getElem_toArray, List.getElem_cons_succ, List.getElem_cons_zero]
            refine wpAnyH_take (i := 26) (oi := _) (v := undef) rfl (by kernel_rfl) (by kernel_rfl) (by kernel_rfl) (fun _ _ _ h => h) (Or.inr ⟨by rfl, rfl⟩) (by assumption) ?_
            try simp only [Act.put, List.setIfInBounds_toArray, List.set_cons_zero, List.set_cons_succ, List.getElem_toArray, List.getElem_cons_succ, List.getElem_cons_zero]
            refine wpAnyH_take (i := 27) (oi := _) (v := undef) rfl (by kernel_rfl) (by kernel_rfl) (by kernel_rfl) (fun _ _ _ h => h) (Or.inr ⟨by rfl, rfl⟩) (by assumption) ?_
            try simp only [Act.put, List.setIfInBounds_toArray, List.set_cons_zero, List.set_cons_succ, List.getElem_toArray, List.getElem_cons_succ, List.getElem_cons_zero]
            refine wpAnyH_take (i := 28) (oi := _) (v := undef) rfl (by kernel_rfl) (by kernel_rfl) (by kernel_rfl) (fun _ _ _ h => h) (Or.inr ⟨by rfl, rfl⟩) (by assumption) ?_
            try simp only [Act.put, List.setIfInBounds_toArray, List.set_cons_zero, List.set_cons_succ, List.getElem_toArray, List.getElem_cons_succ, List.getElem_cons_zero]
            refine wpAnyH_take (i := 29) (oi := _) (v := undef) rfl (by kernel_rfl) (by kernel_rfl) (by kernel_rfl) (fun _ _ _ h => h) (Or.inr ⟨by rfl, rfl⟩) (by assumption) ?_
            try simp only [Act.put, List.setIfInBounds_toArray, List.set_cons_zero, List.set_cons_succ, List.getElem_toArray, List.getElem_cons_succ, List.getElem_cons_zero]
            refine wpAnyH_take (i := 30) (oi := _) (v := undef) rfl (by kernel_rfl) (by kernel_rfl) (by kernel_rfl) (fun _ _ _ h => h) (Or.inr ⟨by rfl, rfl⟩) (by assumption) ?_
            try simp only [Act.put, List.setIfInBounds_toArray, List.set_cons_zero, List.set_cons_succ, List.getElem_toArray, List.getElem_cons_succ, List.getElem_cons_zero]
            refine wpAnyH_take (i := 31) (oi := _) (v := undef) rfl (by kernel_rfl) (by kernel_rfl) (by kernel_rfl) (fun _ _ _ h => h) (Or.inr ⟨by rfl, rfl⟩) (by assumption) ?_
            try simp only [Act.put, List.setIfInBounds_toArray, List.set_cons_zero, List.set_cons_succ, List.getElem_toArray, List.getElem_cons_succ, List.getElem_cons_zero]
            refine' wpAnyH_take (i := 32) (oi := _) (v := _) rfl (by kernel_rfl) (by kernel_rfl) (by kernel_rfl) (fun _ _ _ h => h) (Or.inl ⟨by rfl, ?hy53⟩) (by assumption) ?rest53
            case hy53 => (intro w hSw; (try dsimp only at hSw); go_simp; try with_reducible rfl)
            try simp only [Act.put, List.setIfInBounds_toArray, List.set_cons_zero, List.set_cons_succ, List.getElem_toArray, List.getElem_cons_succ, List.getElem_cons_zero]
            refine wpAnyH_done (by kernel_rfl) ?_ _
            all_goals (
              go_wp2_with fail
              go_ret
              exact ⟨by rw [(Fin.out _ HB1.out (HAn.out)).1]; rfl, (Fin.out _ (HB1.out.trans (H6.out.mono HB1.out.size)) (HAn.out)).2⟩)
          have HOk := Lib.hid hok
          clear hok
          rcases hup with ⟨hj0, hu⟩ | ⟨q, s, hq, hs, hst, hu⟩ | ⟨q, s, hq, hs, hst, hu⟩
          · have j0 : decide ((0 : Int) < (j : Int)) = false := decide_eq_false (by omega)
            have j0' : decide (0 < j) = false := decide_eq_false (by omega)
            have HU := Lib.hid hu
            clear hj0 hu
            refine wp_region_held_drew (S := (fun w' => w'.cell? ⟨x, 0, none⟩ = some (.int .u32 t.1) ∧ w'.cell? ⟨x, 1, none⟩ = some (.int .u8 t.2.1) ∧ w'.cell? ⟨x, 2, none⟩ = some (.int .i64 t.2.2.1) ∧ w'.cell? ⟨x, 3, none⟩ = some (.string t.2.2.2) ∧ w'.cell? ⟨z, 3, none⟩ = some (.slice (some ⟨g, og, none⟩) k hc) ∧ w'.cell? ⟨z, 0, none⟩ = some (.int .u32 id))) (by kernel_rfl) ?_ (fun hHeld => ?_)
            · exact ⟨x0, x1, x2, x3, y2, y0⟩
            refine' wpAnyH_take (i := 0) (oi := _) (v := _) rfl (by kernel_rfl) (by kernel_rfl) (by kernel_rfl) (fun _ _ _ h => h) (Or.inl ⟨by rfl, ?hy54⟩) (by assumption) ?rest54
            case hy54 => (intro w hSw; (try dsimp only at hSw); go_simp; try with_reducible rfl)
            try simp only [Act.put, List.setIfInBounds_toArray, List.set_cons_zero, List.set_cons_succ, List.getElem_toArray, List.getElem_cons_zero]
            refine' wpAnyH_take (i := 1) (oi := _) (v := _) rfl (by kernel_rfl) (by kernel_rfl) (by kernel_rfl) (fun _ _ _ h => h) (Or.inl ⟨by rfl, ?hy55⟩) (by assumption) ?rest55
            case hy55 => (intro w hSw; (try dsimp only at hSw); go_simp; try with_reducible rfl)
            try simp only [Act.put, List.setIfInBounds_toArray, List.set_cons_zero, List.set_cons_succ, List.getElem_toArray, List.getElem_cons_succ, List.getElem_cons_zero]
            refine wpAnyH_ready (rs := [2]) (by kernel_rfl) (by simp) ?_
            refine AllReadyH.cons (o := _) rfl (fun K hK => ?_) AllReadyH.nil
            go_simp
            first | (go_at_call 38; refine (number_r _ _ HNo.out _).mono ?_; rintro e' w5 ⟨rfl, rfl⟩) | (go_at_call 39; refine (HCk.out _).mono ?_; rw [HOk.out]; rintro e' w6 ⟨rfl, hb1⟩; have hb1' := (Below.refl W4.heap.size W4).drew.trans hb1; have U1 := four_on x0 x1 x2 x3 (fun k hk => hb1'.block k (hk ▸ hxl)); have H6 := Lib.hid hb1'; clear hb1)
            refine hK.out _ _ ?_ (fun hHeld => ?_)
            · first | exact ⟨x0, x1, x2, x3, y2, y0⟩ | exact ⟨U1.1, U1.2.1, U1.2.2.1, U1.2.2.2, cell_on y2 hb1' hzx, cell_on y0 hb1' hzx⟩
            clear hK K
            try simp only [Act.put, List.setIfInBounds_toArray, List.set_cons_zero, List.set_cons_succ, List.getElem_toArray, List.getElem_cons_succ, List.getElem_cons_zero]
            refine' wpAnyH_take (i := 3) (oi := _) (v := _) rfl (by kernel_rfl) (by kernel_rfl) (by kernel_rfl) (fun _ _ _ h => h) (Or.inl ⟨by rfl, ?hy56⟩) (by assumption) ?rest56
            case hy56 => (intro w hSw; (try dsimp only at hSw); go_simp; try with_reducible rfl)
            try simp only [Act.put, List.setIfInBounds_toArray, List.set_cons_zero, List.set_cons_succ, List.getElem_toArray, List.getElem_cons_succ, List.getElem_cons_zero]
            refine' wpAnyH_take (i := 4) (oi := _) (v := _) rfl (by kernel_rfl) (by kernel_rfl) (by kernel_rfl) (fun _ _ _ h => h) (Or.inl ⟨by rfl, ?hy57⟩) (by assumption) ?rest57
            case hy57 => (intro w hSw; (try dsimp only at hSw); go_simp; try with_reducible rfl)
            try simp only [Act.put, List.setIfInBounds_toArray, List.set_cons_zero, List.set_cons_succ, List.getElem_toArray, List.getElem_cons_succ, List.getElem_cons_zero]
            refine' wpAnyH_take (i := 5) (oi := _) (v := _) rfl (by kernel_rfl) (by kernel_rfl) (by kernel_rfl) (fun _ _ _ h => h) (Or.inl ⟨by rfl, ?hy58⟩) (by assumption) ?rest58
            case hy58 => (intro w hSw; (try dsimp only at hSw); go_simp; try with_reducible rfl)
            try simp only [Act.put, List.setIfInBounds_toArray, List.set_cons_zero, List.set_cons_succ, List.getElem_toArray, List.getElem_cons_succ, List.getElem_cons_zero]
            refine' wpAnyH_take (i := 6) (oi := _) (v := _) rfl (by kernel_rfl) (by kernel_rfl) (by kernel_rfl) (fun _ _ _ h => h) (Or.inl ⟨by rfl, ?hy59⟩) (by assumption) ?rest59
            case hy59 => (intro w hSw; (try dsimp only at hSw); go_simp; try with_reducible rfl)
            try simp only [Act.put, List.setIfInBounds_toArray, List.set_cons_zero, List.set_cons_succ, List.getElem_toArray, List.getElem_cons_succ, List.getElem_cons_zero]
            refine' wpAnyH_take (i := 7) (oi := _) (v := _) rfl (by kernel_rfl) (by kernel_rfl) (by kernel_rfl) (fun _ _ _ h => h) (Or.inl ⟨by rfl, ?hy60⟩) (by assumption) ?rest60
            case hy60 => (intro w hSw; (try dsimp only at hSw); go_simp; try with_reducible rfl)
            try simp only [Act.put, List.setIfInBounds_toArray, List.set_cons_zero, List.set_cons_succ, List.getElem_toArray, List.getElem_cons_succ, List.getElem_cons_zero]
            refine' wpAnyH_take (i := 8) (oi := _) (v := _) rfl (by kernel_rfl) (by kernel_rfl) (by kernel_rfl) (fun _ _ _ h => h) (Or.inl ⟨by rfl, ?hy61⟩) (by assumption) ?rest61
            case hy61 => (intro w hSw; (try dsimp only at hSw); go_simp; try with_reducible rfl)
            try simp only [Act.put, List.setIfInBounds_toArray, List.set_cons_zero, List.set_cons_succ, List.getElem_toArray, List.getElem_cons_succ, List.getElem_cons_zero]
            refine' wpAnyH_take (i := 9) (oi := _) (v := _) rfl (by kernel_rfl) (by kernel_rfl) (by kernel_rfl) (fun _ _ _ h => h) (Or.inl ⟨by rfl, ?hy62⟩) (by assumption) ?rest62
            case hy62 => (intro w hSw; (try dsimp only at hSw); go_simp; try with_reducible rfl)
            try simp only [Act.put, List.setIfInBounds_toArray, List.set_cons_zero, List.set_cons_succ, List.getElem_toArray, List.getElem_cons_succ, List.getElem_cons_zero]
            refine' wpAnyH_take (i := 10) (oi := _) (v := _) rfl (by kernel_rfl) (by kernel_rfl) (by kernel_rfl) (fun _ _ _ h => h) (Or.inl ⟨by rfl, ?hy63⟩) (by assumption) ?rest63
            case hy63 => (intro w hSw; (try dsimp only at hSw); go_simp; try with_reducible rfl)
            try simp only [Act.put, List.setIfInBounds_toArray, List.set_cons_zero, List.set_cons_succ, List.getElem_toArray, List.getElem_cons_succ, List.getElem_cons_zero]
            refine' wpAnyH_take (i := 11) (oi := _) (v := _) rfl (by kernel_rfl) (by kernel_rfl) (by kernel_rfl) (fun _ _ _ h => h) (Or.inl ⟨by rfl, ?hy64⟩) (by assumption) ?rest64
            case hy64 => (intro w hSw; (try dsimp only at hSw); go_simp; try with_reducible rfl)
            try simp only [Act.put, List.setIfInBounds_toArray, List.set_cons_zero, List.set_cons_succ, List.getElem_toArray, List.getElem_cons_succ, List.getElem_cons_zero]
            refine' wpAnyH_take (i := 12) (oi := _) (v := _) rfl (by kernel_rfl) (by kernel_rfl) (by kernel_rfl) (fun _ _ _ h => h) (Or.inl ⟨by rfl, ?hy65⟩) (by assumption) ?rest65
            case hy65 => (intro w hSw; (try dsimp only at hSw); go_simp; try with_reducible rfl)
            try simp only [Act.put, List.setIfInBounds_toArray, List.set_cons_zero, List.set_cons_succ, List.getElem_toArray, List.getElem_cons_succ, List.getElem_cons_zero]
            refine' wpAnyH_take (i := 13) (oi := _) (v := _) rfl (by kernel_rfl) (by kernel_rfl) (by kernel_rfl) (fun _ _ _ h => h) (Or.inl ⟨by rfl, ?hy66⟩) (by assumption) ?rest66
            case hy66 => (intro w hSw; (try dsimp only at hSw); go_simp; try with_reducible rfl)
            try simp only [Act.put, List.setIfInBounds_toArray, List.set_cons_zero, List.set_cons_succ, List.getElem_toArray, List.getElem_cons_succ, List.getElem_cons_zero]
            refine wpAnyH_ready (rs := [14]) (by kernel_rfl) (by simp) ?_
            refine AllReadyH.cons (o := _) rfl (fun K hK => ?_) AllReadyH.nil
            go_simp
            first | (go_at_call 38; refine (number_r _ _ HNo.out _).mono ?_; rintro e' w5 ⟨rfl, rfl⟩) | (go_at_call 39; refine (HCk.out _).mono ?_; rw [HOk.out]; rintro e' w6 ⟨rfl, hb1⟩; have hb1' := (Below.refl W4.heap.size W4).drew.trans hb1; have U1 := four_on x0 x1 x2 x3 (fun k hk => hb1'.block k (hk ▸ hxl)); have H6 := Lib.hid hb1'; clear hb1)
            refine hK.out _ _ ?_ (fun hHeld => ?_)
            · first | exact ⟨x0, x1, x2, x3, y2, y0⟩ | exact ⟨U1.1, U1.2.1, U1.2.2.1, U1.2.2.2, cell_on y2 hb1' hzx, cell_on y0 hb1' hzx⟩
            clear hK K
            try simp only [Act.put, List.setIfInBounds_toArray, List.set_cons_zero, List.set_cons_succ, List.getElem_toArray, List.getElem_cons_succ, List.getElem_cons_zero]
            refine' wpAnyH_take (i := 15) (oi := _) (v := _) rfl (by kernel_rfl) (by kernel_rfl) (by kernel_rfl) (fun _ _ _ h => h) (Or.inl ⟨by rfl, ?hy67⟩) (by assumption) ?rest67
            case hy67 => (intro w hSw; (try dsimp only at hSw); go_simp; try with_reducible rfl)
            try simp only [Act.put, List.setIfInBounds_toArray, List.set_cons_zero, List.set_cons_succ, List.getElem_toArray, List.getElem_cons_succ, List.getElem_cons_zero]
            refine' wpAnyH_take (i := 16) (oi := _) (v := _) rfl (by kernel_rfl) (by kernel_rfl) (by kernel_rfl) (fun _ _ _ h => h) (Or.inl ⟨by rfl, ?hy68⟩) (by assumption) ?rest68
            case hy68 => (intro w hSw; (try dsimp only at hSw); go_simp; try with_reducible rfl)
            try simp only [Act.put, List.setIfInBounds_toArray, List.set_cons_zero, List.set_cons_succ, List.getElem_toArray, List.getElem_cons_succ, List.getElem_cons_zero]
            refine' wpAnyH_take (i := 17) (oi := _) (v := _) rfl (by kernel_rfl) (by kernel_rfl) (by kernel_rfl) (fun _ _ _ h => h) (Or.inl ⟨by rfl, ?hy69⟩) (by assumption) ?rest69
            case hy69 => (intro w hSw; (try dsimp only at hSw); go_simp; try with_reducible rfl)
            try simp only [Act.put, List.setIfInBounds_toArray, List.set_cons_zero, List.set_cons_succ, List.getElem_toArray, List.getElem_cons_succ, List.getElem_cons_zero]
            refine' wpAnyH_take (i := 18) (oi := _) (v := _) rfl (by kernel_rfl) (by kernel_rfl) (by kernel_rfl) (fun _ _ _ h => h) (Or.inl ⟨by rfl, ?hy70⟩) (by assumption) ?rest70
            case hy70 => (intro w hSw; (try dsimp only at hSw); go_simp; try with_reducible rfl)
            try simp only [Act.put, List.setIfInBounds_toArray, List.set_cons_zero, List.set_cons_succ, List.getElem_toArray, List.getElem_cons_succ, List.getElem_cons_zero]
            refine' wpAnyH_take (i := 19) (oi := _) (v := _) rfl (by kernel_rfl) (by kernel_rfl) (by kernel_rfl) (fun _ _ _ h => h) (Or.inl ⟨by rfl, ?hy71⟩) (by assumption) ?rest71
            case hy71 => (intro w hSw; (try dsimp only at hSw); go_simp; try with_reducible rfl)
            try simp only [Act.put, List.setIfInBounds_toArray, List.set_cons_zero, List.set_cons_succ, List.getElem_toArray, List.getElem_cons_succ, List.getElem_cons_zero]
            refine' wpAnyH_take (i := 20) (oi := _) (v := _) rfl (by kernel_rfl) (by kernel_rfl) (by kernel_rfl) (fun _ _ _ h => h) (Or.inl ⟨by rfl, ?hy72⟩) (by assumption) ?rest72
            case hy72 => (intro w hSw; (try dsimp only at hSw); go_simp; try with_reducible rfl)
            try simp only [Act.put, List.setIfInBounds_toArray, List.set_cons_zero, List.set_cons_succ, List.getElem_toArray, List.getElem_cons_succ, List.getElem_cons_zero]
            refine wpAnyH_take (i := 21) (oi := _) (v := undef) rfl (by kernel_rfl) (by kernel_rfl) (by kernel_rfl) (fun _ _ _ h => h) (Or.inr ⟨by rfl, rfl⟩) (by assumption) ?_
            try simp only [Act.put, List.setIfInBounds_toArray, List.set_cons_zero, List.set_cons_succ, List.getElem_toArray, List.getElem_cons_succ, List.getElem_cons_zero]
            refine wpAnyH_take (i := 22) (oi := _) (v := undef) rfl (by kernel_rfl) (by kernel_rfl) (by kernel_rfl) (fun _ _ _ h => h) (Or.inr ⟨by rfl, rfl⟩) (by assumption) ?_
            try simp only [Act.put, List.setIfInBounds_toArray, List.set_cons_zero, List.set_cons_succ, List.getElem_toArray, List.getElem_cons_succ, List.getElem_cons_zero]
            refine wpAnyH_take (i := 23) (oi := _) (v := undef) rfl (by kernel_rfl) (by kernel_rfl) (by kernel_rfl) (fun _ _ _ h => h) (Or.inr ⟨by rfl, rfl⟩) (by assumption) ?_
            try simp only [Act.put, List.setIfInBounds_toArray, List.set_cons_zero, List.set_cons_succ, List.getElem_toArray, List.getElem_cons_succ, List.getElem_cons_zero]
            refine wpAnyH_take (i := 24) (oi := _) (v := undef) rfl (by kernel_rfl) (by kernel_rfl) (by kernel_rfl) (fun _ _ _ h => h) (Or.inr ⟨by rfl, rfl⟩) (by assumption) ?_
            try simp only [Act.put, List.setIfInBounds_toArray, List.set_cons_zero, List.set_cons_succ, List.getElem_toArray, List.getElem_cons_succ, List.getElem_cons_zero]
            refine wpAnyH_take (i := 25) (oi := _) (v := undef) rfl (by kernel_rfl) (by kernel_rfl) (by kernel_rfl) (fun _ _ _ h => h) (Or.inr ⟨by rfl, rfl⟩) (by assumption) ?_
            try simp only [Act.put, List.setIfInBounds_toArray, List.set_cons_zero, List.set_cons_succ, List.getElem_toArray, List.getElem_cons_succ, List.getElem_cons_zero]
            refine wpAnyH_take (i := 26) (oi := _) (v := undef) rfl (by kernel_rfl) (by kernel_rfl) (by kernel_rfl) (fun _ _ _ h => h) (Or.inr ⟨by rfl, rfl⟩) (by assumption) ?_
            try simp only [Act.put, List.setIfInBounds_toArray, List.set_cons_zero, List.set_cons_succ, List.getElem_toArray, List.getElem_cons_succ, List.getElem_cons_zero]
            refine wpAnyH_take (i := 27) (oi := _) (v := undef) rfl (by kernel_rfl) (by kernel_rfl) (by kernel_rfl) (fun _ _ _ h => h) (Or.inr ⟨by rfl, rfl⟩) (by assumption) ?_
            try simp only [Act.put, List.setIfInBounds_toArray, List.set_cons_zero, List.set_cons_succ, List.getElem_toArray, List.getElem_cons_succ, List.getElem_cons_zero]
            refine wpAnyH_take (i := 28) (oi := _) (v := undef) rfl (by kernel_rfl) (by kernel_rfl) (by kernel_rfl) (fun _ _ _ h => h) (Or.inr ⟨by rfl, rfl⟩) (by assumption) ?_
            try simp only [Act.put, List.setIfInBounds_toArray, List.set_cons_zero, List.set_cons_succ, List.getElem_toArray, List.getElem_cons_succ, List.getElem_cons_zero]
            refine wpAnyH_take (i := 29) (oi := _) (v := undef) rfl (by kernel_rfl) (by kernel_rfl) (by kernel_rfl) (fun _ _ _ h => h) (Or.inr ⟨by rfl, rfl⟩) (by assumption) ?_
            try simp only [Act.put, List.setIfInBounds_toArray, List.set_cons_zero, List.set_cons_succ, List.getElem_toArray, List.getElem_cons_succ, List.getElem_cons_zero]
            refine wpAnyH_take (i := 30) (oi := _) (v := undef) rfl (by kernel_rfl) (by kernel_rfl) (by kernel_rfl) (fun _ _ _ h => h) (Or.inr ⟨by rfl, rfl⟩) (by assumption) ?_
            try simp only [Act.put, List.setIfInBounds_toArray, List.set_cons_zero, List.set_cons_succ, List.getElem_toArray, List.getElem_cons_succ, List.getElem_cons_zero]
            refine' wpAnyH_take (i := 31) (oi := _) (v := _) rfl (by kernel_rfl) (by kernel_rfl) (by kernel_rfl) (fun _ _ _ h => h) (Or.inl ⟨by rfl, ?hy73⟩) (by assumption) ?rest73
            case hy73 => (intro w hSw; (try dsimp only at hSw); go_simp; try with_reducible rfl)
            try simp only [Act.put, List.setIfInBounds_toArray, List.set_cons_zero, List.set_cons_succ, List.getElem_toArray, List.getElem_cons_succ, List.getElem_cons_zero]
            refine' wpAnyH_take (i := 32) (oi := _) (v := _) rfl (by kernel_rfl) (by kernel_rfl) (by kernel_rfl) (fun _ _ _ h => h) (Or.inl ⟨by rfl, ?hy74⟩) (by assumption) ?rest74
            case hy74 => (intro w hSw; (try dsimp only at hSw); go_simp; try with_reducible rfl)
            try simp only [Act.put, List.setIfInBounds_toArray, List.set_cons_zero, List.set_cons_succ, List.getElem_toArray, List.getElem_cons_succ, List.getElem_cons_zero]
            refine wpAnyH_done (by kernel_rfl) ?_ _
            all_goals (
              go_wp2_with fail
              go_roundw
              case rel => exact ⟨j + 1, by omega, by go_num, Lib.hid ⟨Nxt.out (HG.out _ HU.out HOk.out), HB1.out.trans (H6.out.mono HB1.out.size)⟩⟩
              case measure => simp [intOf]; omega)
          · have j0 : decide ((0 : Int) < (j : Int)) = true := decide_eq_true (by omega)
            have j0' : decide (0 < j) = true := decide_eq_true (by omega)
            have jw : IntKind.i64.wrap ((j : Int) - 1) = (q : Int) := by rw [wr64 (by omega) (by omega)]; omega
            have jq : (q : Int) < (k : Int) := by omega
            have d0 := HD.out q s hs
            have d3 : decide (t.1 ≤ s.1) = false := decide_eq_false (by omega)
            have HU := Lib.hid hu
            clear hu hs hst hq
            go_region_held3 (fun w' => w'.cell? ⟨x, 0, none⟩ = some (.int .u32 t.1) ∧ w'.cell? ⟨x, 1, none⟩ = some (.int .u8 t.2.1) ∧ w'.cell? ⟨x, 2, none⟩ = some (.int .i64 t.2.2.1) ∧ w'.cell? ⟨x, 3, none⟩ = some (.string t.2.2.2) ∧ w'.cell? ⟨z, 3, none⟩ = some (.slice (some ⟨g, og, none⟩) k hc) ∧ w'.cell? ⟨z, 0, none⟩ = some (.int .u32 id) ∧ w'.cell? ⟨g, og + q * 4, none⟩ = some (.int .u32 s.1)) (first | exact ⟨x0, x1, x2, x3, y2, y0, d0⟩ | exact ⟨U1.1, U1.2.1, U1.2.2.1, U1.2.2.2, cell_on y2 hb1' hzx, cell_on y0 hb1' hzx, cell_on d0 hb1' hgx⟩) (first | (go_at_call 38; refine (number_r _ _ HNo.out _).mono ?_; rintro e' w5 ⟨rfl, rfl⟩) | (go_at_call 39; refine (HCk.out _).mono ?_; rw [HOk.out]; rintro e' w6 ⟨rfl, hb1⟩; have hb1' := (Below.refl W4.heap.size W4).drew.trans hb1; have U1 := four_on x0 x1 x2 x3 (fun k hk => hb1'.block k (hk ▸ hxl)); have H6 := Lib.hid hb1'; clear hb1))
            all_goals (
              go_wp2_with fail
              go_roundw
              case rel => exact ⟨j + 1, by omega, by go_num, Lib.hid ⟨Nxt.out (HG.out _ HU.out HOk.out), HB1.out.trans (H6.out.mono HB1.out.size)⟩⟩
              case measure => simp [intOf]; omega)
          · have j0 : decide ((0 : Int) < (j : Int)) = true := decide_eq_true (by omega)
            have j0' : decide (0 < j) = true := decide_eq_true (by omega)
            have jw : IntKind.i64.wrap ((j : Int) - 1) = (q : Int) := by rw [wr64 (by omega) (by omega)]; omega
            have jq : (q : Int) < (k : Int) := by omega
            have d0 := HD.out q s hs
            have d3 : decide (t.1 ≤ s.1) = true := decide_eq_true (by omega)
            have HU := Lib.hid hu
            clear hu hs hst hq
            go_region_held3 (fun w' => w'.cell? ⟨x, 0, none⟩ = some (.int .u32 t.1) ∧ w'.cell? ⟨x, 1, none⟩ = some (.int .u8 t.2.1) ∧ w'.cell? ⟨x, 2, none⟩ = some (.int .i64 t.2.2.1) ∧ w'.cell? ⟨x, 3, none⟩ = some (.string t.2.2.2) ∧ w'.cell? ⟨z, 3, none⟩ = some (.slice (some ⟨g, og, none⟩) k hc) ∧ w'.cell? ⟨z, 0, none⟩ = some (.int .u32 id) ∧ w'.cell? ⟨g, og + q * 4, none⟩ = some (.int .u32 s.1)) (first | exact ⟨x0, x1, x2, x3, y2, y0, d0⟩ | exact ⟨U1.1, U1.2.1, U1.2.2.1, U1.2.2.2, cell_on y2 hb1' hzx, cell_on y0 hb1' hzx, cell_on d0 hb1' hgx⟩) (first | (go_at_call 38; refine (number_r _ _ HNo.out _).mono ?_; rintro e' w5 ⟨rfl, rfl⟩) | (go_at_call 39; refine (HCk.out _).mono ?_; rw [HOk.out]; rintro e' w6 ⟨rfl, hb1⟩; have hb1' := (Below.refl W4.heap.size W4).drew.trans hb1; have U1 := four_on x0 x1 x2 x3 (fun k hk => hb1'.block k (hk ▸ hxl)); have H6 := Lib.hid hb1'; clear hb1))
            all_goals (
              go_wp2_with fail
              go_ret
              exact ⟨by rw [(Fin.out _ HB1.out (HG.out _ HU.out HOk.out)).1]; rfl, (Fin.out _ (HB1.out.trans (H6.out.mono HB1.out.size)) (HG.out _ HU.out HOk.out)).2⟩)
        · obtain rfl : j = k := by omega
          have HE := Lib.hid (show r = true by rw [HR.out, HP.out, show halvesB id L = true from all_yes (fun i hi => HA.out.1 i (by rw [HN.out.2] at hi; exact hi))]; rfl)
          have H2 := Lib.hid HA.out.2
          clear HA
          go_wp2_with fail
          go_ret
          exact ⟨by rw [HE.out]; rfl, HB.out.trans (H2.out.mono HS.out)⟩
end Go.Proofs.Ytgjjfodogkcmmaa.Gh
