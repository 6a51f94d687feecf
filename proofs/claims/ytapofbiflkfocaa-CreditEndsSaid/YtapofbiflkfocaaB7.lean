/- credit: the law on the end of a traversal, walked. -/
import Derived.Test.YtapofbiflkfocaaB6
namespace Go.Proofs.Ytapofbiflkfocaa.Cr
open Go Go.RowKit
/-- At the head of a round. -/
structure EndI (w0 : World) (p a b i : Nat) (L : List Ms) (v : Value) (nx : Nat) (D : Int → Bool) (cr : Int → Int) (o : Int) (w : World) : Prop where
  m : EndM w0 p a b (2 * i) L v D D o w
  inv : Inv L nx D cr o
  nx : nx ≤ 1 + 4 * i
  len : L.length ≤ 1 + 4 * i
theorem lit_row {w w0 : World} (hb : Below w0.heap.size w0 w) (x : Ms) : (w.alloc (.cells #[.int .u64 x.1, .int .u64 x.2.1, .int .i64 x.2.2] 34)).ownsRow w0.heap.size 34 3 (.slice (some ⟨w.heap.size, 0, none⟩) 1 1) 1 (ms [x]) :=
  World.ownsRow_lit (base := w0.heap.size) (e := 34) (size := 3) w #[.int .u64 x.1, .int .u64 x.2.1, .int .i64 x.2.2] 1 hb.size (by decide) (by simp)
theorem slice_to {g n c k : Nat} (hk : k ≤ n) (hn : n ≤ c) : ∀ w, (Instr.slice 35 (.slice (some ⟨g, 0, none⟩) n c) none (some (.int .i64 k)) none).run Try.prog w = .ok (.slice (some ⟨g, 0, none⟩) k c) w := fun w => by
  have h1 : k ≤ c := by omega
  simp [Instr.slice, Instr.sliceBounds, Instr.sliceBound, asIntOf, go_sem, h1]
theorem slice_from {g n c q r : Nat} (hq : q + 1 + r = n) (hn : n ≤ c) : ∃ ad c2, (∀ w, (Instr.slice 35 (.slice (some ⟨g, 0, none⟩) n c) (some (.int .i64 ((q : Int) + 1))) none none).run Try.prog w = .ok (.slice (some ad) r c2) w) ∧ (r ≠ 0 → ad = ⟨g, (q + 1) * 3, none⟩) := by
  have h2 : n - (q + 1) = r := by omega
  have h3 : ((q : Int) + 1).toNat = q + 1 := by omega
  have h4 : ¬ ((q : Int) + 1 < 0) := by omega
  have h5 : q + 1 ≤ n := by omega
  have h6 : ¬ ((n : Int) < (q : Int) + 1) := by omega
  have h7 : (q : Int) + 1 ≤ (n : Int) := by omega
  have h8 : 0 ≤ (q : Int) + 1 := by omega
  have h9 : (q + 1) * 3 ≠ 0 := by omega
  by_cases h : c = q + 1
  · refine ⟨⟨g, 0, none⟩, 0, fun w => ?_, fun hr => by omega⟩
    subst h
    simp [Instr.slice, Instr.sliceBounds, Instr.sliceBound, asIntOf, go_sem, h2, h3, h7, h8]
  · refine ⟨⟨g, (q + 1) * 3, none⟩, c - (q + 1), fun w => ?_, fun _ => rfl⟩
    simp [Instr.slice, Instr.sliceBounds, Instr.sliceBound, asIntOf, go_sem, h2, h3, h7, h8, h9, h, Addr.add]
theorem own_low {w : World} {B C : Nat} {T : TypeId} {e n : Nat} {v : Value} {xs : List Value} (h : w.ownsRow C T e v n xs) (hb : B ≤ C) : w.ownsRow B T e v n xs := by
  refine ⟨h.1, ?_⟩
  rcases h.2 with h0 | ⟨g, cap, cur, e0, e1, e2⟩
  · exact .inl h0
  · exact .inr ⟨g, cap, cur, e0, by omega, e2⟩
theorem step_append_own {P : Program} (w : World) {ops : Array Oper} {o : Oper} {a : Act} {K : Act → World → Prop} {Q : Exit → Act → World → Prop} {E : Prop} (hgd : o.guard = none) (s x : Operand) (t : TypeId)
    (ho : o.op = .call { callee := .builtin .append, args := #[s, x], argTypes := #[t, t] })
    (base : Nat) (e : TypeId) (i : TypeInfo) (z : Value) (size bytes : Nat) (ht : P.underlying t = some (.slice e)) (hi : P.info? e = some i) (hz : i.zero = some z)
    (hsize : i.size = size) (hby : i.bytes = bytes) (hzs : z.cells.size = size) (hsz : 0 < size)
    (v : Value) (n : Nat) (xs : List Value) (hs : a.eval s = v) (hown : w.ownsRow base e size v n xs)
    (ad : Addr) (m c : Nat) (news : List Value) (hx : a.eval x = .slice (some ad) m c) (hl : news.length = m * size) (hnews : ∀ j u, news[j]? = some u → w.cell? (ad.add j) = some u) (h1 : ∀ u ∈ news, u.oneCell' = true)
    (h63 : n + m ≤ maxLen) (hbytes : (n + m) * bytes ≤ 140737488355328) (hbase : base ≤ w.heap.size)
    (h : ∀ v' w', w'.ownsRow base e size v' (n + m) (xs ++ news) → w.grownBy w' v.ownBlock → K (a.put o.dst v') w') :
    if Region.wanted o (yielded ops a.tmps) = true then Oper.wp P o a w K Q else E := by
  have hw : Region.wanted o (yielded ops a.tmps) = true := by simp [Region.wanted, hgd]
  rw [if_pos hw]
  exact wp_append_own w s x t ho base e i z size bytes ht hi hz hsize hby hzs hsz v n xs hs hown ad m c news hx hl hnews h1 h63 hbytes hbase (fun v' w' a b _ => h v' w' a b)
theorem bag_take {w w' : World} {B g n cap : Nat} {L : List Ms} (h : w.ownsRow B 34 3 (.slice (some ⟨g, 0, none⟩) n cap) n (ms L)) (hb : Below w.heap.size w w') (k : Nat) : ∀ j u, (ms (L.take k))[j]? = some u → w'.cell? ((⟨g, 0, none⟩ : Addr).add j) = some u := fun j u hu => by
  have hlt := (World.ownsRow.lt h g rfl).2
  have h1 := h.cells (g := g) rfl j u (by
    rw [ms_take, List.getElem?_take] at hu
    split at hu
    · exact hu
    · cases hu)
  rw [Go.WideShapes.add_plain] at h1 ⊢
  exact (hb.cell (p := ⟨g, 0 + j, none⟩) hlt).trans h1
theorem bag_drop {w w' : World} {B g n cap : Nat} {L : List Ms} (h : w.ownsRow B 34 3 (.slice (some ⟨g, 0, none⟩) n cap) n (ms L)) (hb : Below w.heap.size w w') {q r : Nat} (hr : q + r = n) {ad : Addr} (had : r ≠ 0 → ad = ⟨g, q * 3, none⟩) : ∀ j u, (ms (L.drop q))[j]? = some u → w'.cell? (ad.add j) = some u := fun j u hu => by
  have hlt := (World.ownsRow.lt h g rfl).2
  have hl : L.length = n := by have := h.1; rw [ms_len] at this; omega
  have hj := (List.getElem?_eq_some_iff.1 hu).1
  rw [ms_len, List.length_drop] at hj
  rw [had (by omega)]
  have h1 := h.cells (g := g) rfl (q * 3 + j) u (by rw [ms_drop, List.getElem?_drop] at hu; exact hu)
  rw [Go.WideShapes.add_plain] at h1 ⊢
  rw [Nat.zero_add] at h1
  exact (hb.cell (p := ⟨g, q * 3 + j, none⟩) hlt).trans h1
theorem setC_none : setC (fun _ => false) = fun _ => false := by
  funext k
  simp [setC]
theorem EndM.form {w0 w : World} {p a b q : Nat} {L : List Ms} {v : Value} {D Dp : Int → Bool} {o : Int} (h : EndM w0 p a b q L v D Dp o w) : ∃ ao cap, v = .slice ao L.length cap := by
  rcases h.bag.2 with ⟨h0, h1⟩ | ⟨g, cap, cur, h0, _⟩
  · exact ⟨none, 0, by rw [h0, h1]⟩
  · exact ⟨_, cap, h0⟩
set_option maxRecDepth 100000 in
set_option maxHeartbeats 4000000 in
theorem ends_law (ao bo : Option Addr) (ca cb : Nat) (P Q : List Int) (w : World) (hr : Rd w ao P) (hr2 : Rd w bo Q) (hi : ∀ x ∈ P, 0 ≤ x ∧ x ≤ 255) (hi2 : ∀ x ∈ Q, 0 ≤ x ∧ x ≤ 255) (hlm : P.length ≤ maxLen) (hlm2 : Q.length ≤ maxLen) :
    Calls Try.prog 4 #[.slice ao P.length ca, .slice bo Q.length cb] w fun e w' => e = .returned (.bool true) ∧ Below w.heap.size w w' := by
  have HP := Lib.hid (And.intro hr hi)
  have HQ := Lib.hid (And.intro hr2 hi2)
  unfold maxLen at hlm hlm2
  obtain ⟨np, hnp⟩ : ∃ l, P.length = l := ⟨_, rfl⟩
  obtain ⟨nc, hnc⟩ : ∃ l, Q.length = l := ⟨_, rfl⟩
  rw [hnp] at hlm ⊢
  rw [hnc] at hlm2 ⊢
  have HN := Lib.hid (And.intro hnp hnc)
  clear hr hi hr2 hi2 hnp hnc
  have hA := awake_any w
  have hmm := @run_makeMap Try.prog
  go_enter Try.func4, Try.ntmps4
  go_wp2_with (go_at_call 7; refine hA.mono ?_; rintro e w1 ⟨rfl, hb⟩; have A1 := Lib.hid hb; clear hb)
  refine (new_any w1).mono ?_
  rintro e w2 ⟨rfl, hp, hb, hz⟩
  have HI : Hid (EndI w (w1.heap.size + 1) w1.heap.size (w2.heap.size + 1) 0 [(0, 1152921504606846976, 0)] (.slice (some ⟨w2.heap.size, 0, none⟩) 1 1) 1 (fun _ => false) (fun _ => 1152921504606846976) 1152921504606846976 ((w2.alloc (.cells #[.int .u64 0, .int .u64 1152921504606846976, .int .i64 0] 34)).alloc (.map #[] 0))) := by
    have h1 := A1.out.size
    have hb2 : Below w2.heap.size w2 ((w2.alloc (.cells #[.int .u64 0, .int .u64 1152921504606846976, .int .i64 0] 34)).alloc (.map #[] 0)) := ((Below.refl _ w2).alloc (Nat.le_refl _) _).alloc (by simp) _
    have hb3 := A1.out.trans (hb.mono A1.out.size)
    have hd := MapN.made (.bool false) (w2.alloc (.cells #[.int .u64 0, .int .u64 1152921504606846976, .int .i64 0] 34))
    rw [World.size_alloc] at hd
    have hr := (lit_row hb3 (0, 1152921504606846976, 0)).alloc (.map #[] 0)
    exact Lib.hid ⟨⟨⟨0, Nat.le_refl _, by rw [setC_none]; exact hp.below hb2⟩, ⟨0, Nat.le_refl _, hd⟩, hr, by omega, hb3.trans (hb2.mono hb3.size), by omega, h1, by omega⟩, Inv.start, by decide, by decide⟩
  clear hp hb hz hA A1
  generalize w1.heap.size + 1 = p at *
  generalize w1.heap.size = a at *
  go_wp2_with fail
  generalize ((w2.alloc (.cells #[.int .u64 0, .int .u64 1152921504606846976, .int .i64 0] 34)).alloc (.map #[] 0)) = W at HI ⊢
  generalize (Value.slice (some ⟨w2.heap.size, 0, none⟩) 1 1) = v0 at HI ⊢
  generalize w2.heap.size + 1 = b at HI ⊢
  go_loopw [6, 7, 9] (fun v u7 u9 wr => ∃ (i nx : Nat) (L : List Ms) (D : Int → Bool) (cr : Int → Int) (o : Int), i ≤ 200 ∧ u9 = .int .i64 i ∧ u7 = .int .u64 nx ∧ Hid (EndI w p a b i L v nx D cr o wr)) (fun _ _ u _ => 200 - (intOf u).toNat)
  case atStart => exact ⟨0, 1, _, _, _, _, by omega, rfl, rfl, HI⟩
  case round =>
    obtain ⟨i, nx, L, D, cr, o, hi, rfl, rfl, HE⟩ := hrel
    clear HI
    generalize wr = w3 at *
    obtain ⟨n, hn⟩ : ∃ n, L.length = n := ⟨_, rfl⟩
    have HI := Lib.hid (And.intro HE.out.inv (show nx ≤ 801 by have := HE.out.nx; omega))
    by_cases hz : n = 0
    · obtain ⟨ao, cap, rfl⟩ := HE.out.m.form
      obtain rfl := hz
      rw [hn]
      go_wp2_with fail
      have HZ := Lib.hid HE.out.inv.zero
      have HM := Lib.hid (And.intro HE.out.m hn)
      clear HE
      go_loopw [20, 163] (fun s20 s163 wx => ∃ j : Nat, j ≤ 0 ∧ s20 = .bool ((L.take j).any fun x => !(D x.1)) ∧ s163 = .int .i64 j ∧ Hid (EndM w p a b (2 * i) L (.slice ao 0 cap) D D o wx)) (fun _ u _ => 0 - (intOf u).toNat)
      case atStart => exact ⟨0, by omega, rfl, rfl, Lib.hid (by have := HM.out.1; rwa [HM.out.2] at this)⟩
      case round =>
        obtain ⟨j, hj, rfl, rfl, HF⟩ := hrel
        generalize wr = w4 at *
        clear hn
        by_cases hjn : j < 0
        · exact absurd hjn (by omega)
        · obtain rfl : j = 0 := by omega
          have hdq := HF.out.doneQ
          have ht : L.take 0 = L := List.take_of_length_le (by have := HM.out.2; omega)
          rw [HZ.out] at hdq
          rw [ht]
          clear ht HZ
          generalize (L.any fun x => !(D x.1)) = acc at *
          have HDQ := Lib.hid hdq
          clear hdq
          cases acc
          all_goals (
            go_wp2_with (go_at_call 12; refine HDQ.out.mono ?_; rintro e w5 ⟨rfl, rfl⟩)
            go_ret
            exact ⟨rfl, HF.out.low⟩)
    · obtain ⟨g, cap, rfl, hcap, hg, hg0, hcl⟩ := HE.out.m.at_ (List.getElem?_eq_getElem (l := L) (i := 0) (by omega))
      clear hcl
      by_cases h200 : (i : Int) < 200
      · go_upto_if 41 with fail
        go_cut [10] (fun s10 wx => ∃ k : Nat, k < n ∧ s10 = .int .i64 k ∧ w3 = wx)
        case first =>
          by_cases hlt : i < np
          · obtain ⟨x, hx⟩ : ∃ x, P[i]? = some x := ⟨_, List.getElem?_eq_getElem (by have := HN.out; omega)⟩
            obtain ⟨g1, og, rfl, _, cx⟩ := (HP.out.1.on HE.out.m.low (Nat.le_refl _)) i x hx
            have hx2 := HP.out.2 x (List.mem_of_getElem? hx)
            clear hx
            have j1 : (i : Int) < (np : Int) := by omega
            have hn0 : ((n : Int) == 0) = false := by simp; omega
            obtain ⟨k, hk, hkn⟩ : ∃ k : Nat, x % (n : Int) = (k : Int) ∧ k < n := ⟨(x % (n : Int)).toNat, by have := Int.emod_nonneg x (show (n : Int) ≠ 0 by omega); omega, by have := Int.emod_nonneg x (show (n : Int) ≠ 0 by omega); have := Int.emod_lt_of_pos x (show 0 < (n : Int) by omega); omega⟩
            have hk2 : x.tmod (n : Int) = (k : Int) := by rw [Int.tmod_eq_emod_of_nonneg hx2.1, hk]
            go_wp2_with fail
            go_meet
            exact ⟨k, hkn, rfl, rfl⟩
          · go_wp2_with fail
            go_meet
            exact ⟨0, by omega, rfl, rfl⟩
        case rest =>
          obtain ⟨k, hk, rfl, rfl⟩ := hcut
          obtain ⟨x, hx⟩ : ∃ x, L[k]? = some x := ⟨_, List.getElem?_eq_getElem (by omega)⟩
          obtain ⟨g', cap', e, _, _, _, x0, x1, x2⟩ := HE.out.m.at_ hx
          cases e
          have HX := Lib.hid hx
          clear hx
          have hk2 : (k : Int) < (n : Int) := by omega
          go_upto_region 13 with fail
          go_cut [61] (fun s61 wx => ∃ B : Bool, s61 = .bool B ∧ (B = true → i < nc ∧ x.2.2 < 8) ∧ w3 = wx)
          case first =>
            by_cases hlt : i < nc
            · have j1 : (i : Int) < (nc : Int) := by omega
              go_wp2_with fail
              go_meet
              exact ⟨_, rfl, fun h => ⟨hlt, of_decide_eq_true h⟩, rfl⟩
            · go_wp2_with fail
              go_meet
              exact ⟨false, rfl, (fun h => absurd h (by decide)), rfl⟩
          case rest =>
            obtain ⟨B, rfl, hB, rfl⟩ := hcut
            go_upto_if 61 with fail
            go_cut [11] (fun s11 wx => ∃ m : Nat, m ≤ 4 ∧ (0 < m → x.2.2 < 8) ∧ s11 = .int .i64 m ∧ w3 = wx)
            case first =>
              cases B
              · go_wp2_with fail
                go_meet
                exact ⟨0, by omega, (fun h => absurd h (by decide)), rfl, rfl⟩
              · obtain ⟨hlt, hd8⟩ := hB rfl
                clear hB
                obtain ⟨y, hy⟩ : ∃ y, Q[i]? = some y := ⟨_, List.getElem?_eq_getElem (by have := HN.out; omega)⟩
                obtain ⟨g1, og, rfl, _, cx⟩ := (HQ.out.1.on HE.out.m.low (Nat.le_refl _)) i y hy
                have hx2 := HQ.out.2 y (List.mem_of_getElem? hy)
                clear hy
                have j1 : (i : Int) < (nc : Int) := by omega
                obtain ⟨m, hm, hm4⟩ : ∃ m : Nat, y % 5 = (m : Int) ∧ m ≤ 4 := ⟨(y % 5).toNat, by omega, by omega⟩
                have HD8 := Lib.hid hd8
                clear hd8
                go_wp2_with fail
                go_meet
                exact ⟨m, hm4, fun _ => HD8.out, by rw [hm], rfl⟩
            case rest =>
              obtain ⟨m, hm4, hd8, rfl, rfl⟩ := hcut
              clear hB
              have HM := Lib.hid (And.intro hm4 hd8)
              clear hm4 hd8
              go_upto_region 16 with fail
              obtain ⟨z, hz⟩ : ∃ z, w3.heap.size = z := ⟨_, rfl⟩
              have hb3 : Below w3.heap.size w3 (w3.alloc (.cells #[.int .u64 x.1, .int .u64 x.2.1, .int .i64 x.2.2] 34)) := (Below.refl _ _).alloc (Nat.le_refl _) _
              have hne : (Value.slice (some ⟨g, 0, none⟩) n cap).ownBlock ≠ some w3.heap.size := fun e => by have := Option.some.inj e; simp only at this; omega
              have H4 : Hid (EndM w p a b (2 * i) L (.slice (some ⟨g, 0, none⟩) n cap) D D o (w3.alloc (.cells #[.int .u64 x.1, .int .u64 x.2.1, .int .i64 x.2.2] 34)) ∧ Bx w z x (.slice (some ⟨g, 0, none⟩) n cap) (w3.alloc (.cells #[.int .u64 x.1, .int .u64 x.2.1, .int .i64 x.2.2] 34))) := Lib.hid ⟨by have := HE.out.m.below hb3; rwa [hn] at this, by rw [← hz]; exact ⟨heap_alloc_new _ _, hne, HE.out.m.low.size⟩⟩
              have HV := Lib.hid (And.intro HE.out.inv (And.intro HE.out.nx HE.out.len))
              rw [hz]
              generalize (w3.alloc (.cells #[.int .u64 x.1, .int .u64 x.2.1, .int .i64 x.2.2] 34)) = w4 at H4 ⊢
              clear hb3 hne hz x0 x1 x2 HE
              go_cut [82] (fun s82 wx => ∃ B : Bool, s82 = .bool B ∧ w4 = wx)
              case first =>
                by_cases hlt : i < np
                · obtain ⟨y, hy⟩ : ∃ y, P[i]? = some y := ⟨_, List.getElem?_eq_getElem (by have := HN.out; omega)⟩
                  obtain ⟨g1, og, rfl, _, cx⟩ := (HP.out.1.on H4.out.1.low (Nat.le_refl _)) i y hy
                  clear hy
                  have j1 : (i : Int) < (np : Int) := by omega
                  go_wp2_with fail
                  go_meet
                  exact ⟨_, rfl, rfl⟩
                · go_wp2_with fail
                  go_meet
                  exact ⟨false, rfl, rfl⟩
              case rest =>
                obtain ⟨B, rfl, rfl⟩ := hcut
                go_upto_if 82 with fail
                go_cut [6] (fun s6 wx => ∃ L', Hid (EndM w p a b (2 * i) L' s6 D D o wx ∧ Bx w z x s6 wx ∧ Inv L' nx D cr o ∧ L'.length ≤ 2 + 4 * i ∧ L'[k]? = some x))
                case first =>
                  cases B
                  · go_wp2_with fail
                    go_meet
                    exact ⟨L, Lib.hid ⟨H4.out.1, H4.out.2, HV.out.1, by have := HV.out.2.2; omega, HX.out⟩⟩
                  · obtain ⟨i0, hi0, hz0, hz1, hz2⟩ := info_parts info34
                    have HI0 := Lib.hid (And.intro hi0 (And.intro hz0 (And.intro hz1 hz2)))
                    clear hi0 hz0 hz1 hz2
                    obtain ⟨y0, y1, y2⟩ := H4.out.2.cells
                    have hb5 : Below w4.heap.size w4 (w4.alloc (.cells #[.int .u64 x.1, .int .u64 x.2.1, .int .i64 x.2.2] 34)) := (Below.refl _ _).alloc (Nat.le_refl _) _
                    have H5 := Lib.hid (And.intro (H4.out.1.below hb5) (H4.out.2.below hb5))
                    have hzl := (Array.getElem?_eq_some_iff.1 H4.out.2.box).1
                    clear hb5
                    go_wp2_with (at_builtin; refine wpList_append_lies _ rfl (.tmp 83) (.tmp 85) 35 rfl w.heap.size 34 i0 _ 3 24 Try.underlying35 HI0.out.1 HI0.out.2.1 HI0.out.2.2.1 HI0.out.2.2.2 rfl (by decide) (.slice (some ⟨g, 0, none⟩) n cap) n (ms L) rfl (by have := H5.out.1.bag; rwa [hn] at this) ⟨w4.heap.size, 0, none⟩ 1 1 (ms [x]) rfl rfl (World.news_of_block (heap_alloc_new w4 _)) (ms_one _) (by decide) (by unfold maxLen; have := HV.out.2.2; omega) (by have := HV.out.2.2; omega) (by have := H4.out.1.low.size; simp; omega) _ rfl ?_; intro g6 cap6 w6 hown hgrow hat hlt6)
                    go_meet
                    refine ⟨L ++ [x], Lib.hid ⟨H5.out.1.grow hgrow (by rw [List.length_append, hn, ms_app]; exact hown), H5.out.2.grow hgrow ?_, HV.out.1.copy (List.mem_of_getElem? HX.out), by have := HV.out.2.2; rw [List.length_append]; simp only [List.length_singleton]; omega, by rw [List.getElem?_append_left (by omega)]; exact HX.out⟩⟩
                    intro e
                    have e2 : g6 = z := Option.some.inj e
                    rcases hat with h | h
                    · exact H4.out.2.ne (h.trans (congrArg some e2))
                    · rw [e2] at h; simp at h; omega
                case rest =>
                  obtain ⟨L', H6⟩ := hcut
                  clear H4 HX
                  obtain ⟨g6, cap6, rfl, hcap6, hg6, hg60, _⟩ := H6.out.1.at_ H6.out.2.2.2.2
                  generalize wc = w5 at *
                  go_upto_region 18 with fail
                  obtain ⟨n6, hn6⟩ : ∃ n6, L'.length = n6 := ⟨_, rfl⟩
                  rw [hn6] at hcap6 ⊢
                  have hk6 : k < n6 := by have := (List.getElem?_eq_some_iff.1 H6.out.2.2.2.2).1; omega
                  have hn6b : n6 ≤ 1000 := by have := H6.out.2.2.2.1; omega
                  obtain ⟨r6, hr6⟩ : ∃ r6, k + 1 + r6 = n6 := ⟨n6 - (k + 1), by omega⟩
                  have hsl1 := slice_to (g := g6) (n := n6) (c := cap6) (k := k) (by omega) hcap6
                  obtain ⟨ad2, c2, hsl2, had2⟩ := slice_from (g := g6) (n := n6) (c := cap6) (q := k) (r := r6) hr6 hcap6
                  have HB6 := Lib.hid (show w5.ownsRow w.heap.size 34 3 (.slice (some ⟨g6, 0, none⟩) n6 cap6) n6 (ms L') from by have := H6.out.1.bag; rwa [hn6] at this)
                  have HA2 := Lib.hid had2
                  have HR := Lib.hid (And.intro hn6 (And.intro hr6 hn6b))
                  have HL1 := Lib.hid (show (ms (L'.take k)).length = k * 3 by rw [ms_len, List.length_take]; omega)
                  have HL2 := Lib.hid (show (ms (L'.drop (k + 1))).length = r6 * 3 by rw [ms_len, List.length_drop]; omega)
                  obtain ⟨i0, hi0, hz0, hz1, hz2⟩ := info_parts info34
                  have HI0 := Lib.hid (And.intro hi0 (And.intro hz0 (And.intro hz1 hz2)))
                  have hbl : Below w5.heap.size w5 ((w5.alloc (.cells #[] 34)).drew) := ((Below.refl _ w5).alloc (Nat.le_refl _) _).drew
                  have HLit : Hid ((w5.alloc (.cells #[] 34)).drew.ownsRow w5.heap.size 34 3 (.slice (some ⟨w5.heap.size, 0, none⟩) 0 0) 0 [] ∧ Below w5.heap.size w5 (w5.alloc (.cells #[] 34)).drew) := Lib.hid ⟨World.ownsRow_lit (base := w5.heap.size) (e := 34) (size := 3) w5 #[] 0 (Nat.le_refl _) (Nat.zero_le _) (by simp), hbl⟩
                  have e1 : IntKind.i64.wrap ((k : Int) + 1) = (k : Int) + 1 := by simp [IntKind.wrap, IntKind.bits, IntKind.signed]; omega
                  clear hi0 hz0 hz1 hz2 had2 hr6 hn6 hbl
                  go_cut [6] (fun s6 wx => ∃ v : Value, v = s6 ∧ Hid (EndM w p a b (2 * i) (cut L' k) v D D o wx ∧ Bx w z x v wx))
                  case first =>
                    go_region_held3 (fun _ => True) (exact trivial) (first
                      | (have hh := G1; clear hh; refine step_append_own _ rfl (.tmp 91) (.tmp 95) 35 rfl w5.heap.size 34 i0 _ 3 24 Try.underlying35 HI0.out.1 HI0.out.2.1 HI0.out.2.2.1 HI0.out.2.2.2 rfl (by decide) v1 (0 + k) _ rfl G1.out.1 ad2 r6 c2 (ms (L'.drop (k + 1))) rfl HL2.out (bag_drop HB6.out G1.out.2 HR.out.2.1 HA2.out) (ms_one _) (by unfold maxLen; have := HR.out; omega) (by have := HR.out; omega) G1.out.2.size ?_; intro v2 w8 hown hgrow; have G2 := Lib.hid (show w8.ownsRow w5.heap.size 34 3 v2 (0 + k + r6) (([] ++ ms (L'.take k)) ++ ms (L'.drop (k + 1))) ∧ Below w5.heap.size w5 w8 from ⟨hown, G1.out.2.grown hgrow G1.out.2.size (fun g e => (World.ownsRow.lt G1.out.1 g e).1)⟩); clear hown hgrow)
                      | (refine step_append_own _ rfl (.tmp 87) (.tmp 90) 35 rfl w5.heap.size 34 i0 _ 3 24 Try.underlying35 HI0.out.1 HI0.out.2.1 HI0.out.2.2.1 HI0.out.2.2.2 rfl (by decide) (.slice (some ⟨w5.heap.size, 0, none⟩) 0 0) 0 [] rfl HLit.out.1 ⟨g6, 0, none⟩ k cap6 (ms (L'.take k)) rfl HL1.out (bag_take HB6.out HLit.out.2 k) (ms_one _) (by unfold maxLen; have := HR.out; omega) (by have := HR.out; omega) HLit.out.2.size ?_; intro v1 w7 hown hgrow; have G1 := Lib.hid (show w7.ownsRow w5.heap.size 34 3 v1 (0 + k) ([] ++ ms (L'.take k)) ∧ Below w5.heap.size w5 w7 from ⟨hown, HLit.out.2.grown hgrow HLit.out.2.size (fun g e => (World.ownsRow.lt HLit.out.1 g e).1)⟩); clear hown hgrow))
                    all_goals
                      go_wp2_with fail
                      go_meet
                      have hcl : (cut L' k).length = 0 + k + r6 := by have := HR.out; simp only [cut, List.length_append, List.length_take, List.length_drop]; omega
                      have hbw := G2.out.2
                      refine ⟨v2, rfl, Lib.hid ⟨H6.out.1.on (Z := fun _ => False) (below_any hbw) id id id (fun _ => False.elim) (own_low (by rw [hcl]; simpa [cut, ms_app] using G2.out.1) H6.out.1.low.size), ⟨(hbw.block z (Array.getElem?_eq_some_iff.1 H6.out.2.1.box).1).trans H6.out.2.1.box, fun e => ?_, H6.out.2.1.z0⟩⟩⟩
                      have := (World.ownsRow.lt G2.out.1 z e).1
                      have := (Array.getElem?_eq_some_iff.1 H6.out.2.1.box).1
                      omega
                  case rest =>
                    obtain ⟨v7, rfl, H7⟩ := hcut
                    clear HA2 HL1 HL2 HI0 HLit hsl1 hsl2
                    have HV6 := Lib.hid (And.intro H6.out.2.2.1 (And.intro H6.out.2.2.2.1 H6.out.2.2.2.2))
                    clear H6 HB6
                    generalize wc = w6 at *
                    have hm1 := HV6.out.1.mem x (List.mem_of_getElem? HV6.out.2.2)
                    have hx0 : 0 ≤ x.1 := hm1.1
                    have hx1 : x.1 ≤ 18446744073709551615 := by have := hm1.2.1; have := HV.out.2.1; omega
                    have HMM := Lib.hid hm1
                    clear hm1
                    obtain ⟨y0, y1, y2⟩ := H7.out.2.cells
                    have hlk := H7.out.1.look hx0 hx1
                    cases hd : D x.1
                    · rw [hd] at hlk
                      have hout := HV6.out.1.out (List.mem_of_getElem? HV6.out.2.2) hd
                      have hdq := H7.out.1.doneQ
                      rw [show (o == 0) = false by simp; omega] at hdq
                      have HDQ := Lib.hid hdq
                      have hS := fun w' => split_any x.2.1 m w' (by omega) (by obtain ⟨_, _, hp⟩ := H7.out.1.pool; have := hp.o1; omega)
                      obtain ⟨s, r, e, hR⟩ : ∃ s r e, splR x.2.1 (m : Int) = (s, r, e) := ⟨_, _, _, rfl⟩
                      simp only [hR] at hS
                      have HS := Lib.hid hS
                      have HRR := Lib.hid hR
                      have HO := Lib.hid hout
                      have HD := Lib.hid hd
                      clear hS hR hd hdq hout
                      by_cases he : e = 0
                      · subst he
                        obtain ⟨s1, sr, sr2⟩ := split_ok (by have := HO.out.1; omega) (by omega) (by have := HM.out.1; omega) HRR.out
                        have HQ2 := Lib.hid (And.intro s1 (And.intro sr sr2))
                        clear s1 sr sr2
                        obtain ⟨w8, hrun, h8, hb8⟩ := H7.out.1.upd H7.out.2 hx0 hx1 (by omega)
                        have H8 : Hid (EndM w p a b (2 * i + 1) (cut L' k) v7 (mark D x.1) D o w8 ∧ Bx w z x v7 w8 ∧ Inv (cut L' k) (nx + 0) (mark D x.1) cr (o - x.2.1 + (0 : Nat) * s) ∧ (cut L' k).length = k + r6 + 0) := Lib.hid ⟨h8, hb8, by have := HV6.out.1.work HV6.out.2.2 HD.out; simpa using this, by have := HR.out; simp only [cut, List.length_append, List.length_take, List.length_drop]; omega⟩
                        clear h8 hb8
                        have HC := Lib.hid hrun
                        go_wp2_with (first
                          | (go_at_call 12; refine HDQ.out.mono ?_; rintro e w7 ⟨rfl, rfl⟩)
                          | (go_at_call 8; refine (HS.out _).mono ?_; rintro e w7 ⟨rfl, rfl⟩))
                        clear hrun y0 y1 y2
                        go_loopw [6, 7, 133] (fun s6 s7 s133 wx => ∃ (j : Nat) (Lj : List Ms) (crj : Int → Int), j ≤ m ∧ s7 = .int .u64 ((nx + j : Nat) : Int) ∧ s133 = .int .i64 j ∧ Hid (EndM w p a b (2 * i + 1) Lj s6 (mark D x.1) D o wx ∧ Bx w z x s6 wx ∧ Inv Lj (nx + j) (mark D x.1) crj (o - x.2.1 + j * s) ∧ Lj.length = k + r6 + j)) (fun _ _ u _ => m - (intOf u).toNat)
                        case atStart => exact ⟨0, _, _, by omega, rfl, rfl, H8⟩
                        case round =>
                          obtain ⟨j, Lj, crj, hj, rfl, rfl, HJ⟩ := hrel
                          clear H8
                          generalize wr = w9 at *
                          have HLn := Lib.hid HJ.out.2.2.2
                          obtain ⟨y0, y1, y2⟩ := HJ.out.2.1.cells
                          by_cases hjm : j < m
                          · have j1 : (j : Int) < (m : Int) := by omega
                            have hd8 := HM.out.2 (by omega)
                            have hd0 := HMM.out.2.2.2.1
                            have hr6b : k + r6 ≤ 1000 := by have := HR.out; omega
                            have hnx6 : nx ≤ 1000 := by have := HV.out.2.1; omega
                            have hm4 := HM.out.1
                            have e2 : IntKind.i64.wrap (x.2.2 + 1) = x.2.2 + 1 := by simp [IntKind.wrap, IntKind.bits, IntKind.signed]; omega
                            have e3 : IntKind.u64.wrap (((nx + j : Nat) : Int) + 1) = ((nx + j : Nat) : Int) + 1 := by simp [IntKind.wrap, IntKind.bits, IntKind.signed]; omega
                            obtain ⟨i0, hi0, hz0, hz1, hz2⟩ := info_parts info34
                            have HI0 := Lib.hid (And.intro hi0 (And.intro hz0 (And.intro hz1 hz2)))
                            have hb5 : Below w9.heap.size w9 (w9.alloc (.cells #[.int .u64 ((nx + j : Nat) : Int), .int .u64 s, .int .i64 (x.2.2 + 1)] 34)) := (Below.refl _ _).alloc (Nat.le_refl _) _
                            have H5 := Lib.hid (And.intro (HJ.out.1.below hb5) (HJ.out.2.1.below hb5))
                            have HI5 := Lib.hid (HJ.out.2.2.1.cause (s := s) (d := x.2.2 + 1) HQ2.out.1 (by omega) (by omega))
                            have hzl := (Array.getElem?_eq_some_iff.1 HJ.out.2.1.box).1
                            have HB5 := Lib.hid (show w.heap.size ≤ (w9.alloc (.cells #[.int .u64 ((nx + j : Nat) : Int), .int .u64 s, .int .i64 (x.2.2 + 1)] 34)).heap.size from H5.out.1.low.size)
                            have HW9 := Lib.hid (show (w9.alloc (.cells #[.int .u64 ((nx + j : Nat) : Int), .int .u64 s, .int .i64 (x.2.2 + 1)] 34)).heap[w9.heap.size]? = some (.cells #[.int .u64 ((nx + j : Nat) : Int), .int .u64 s, .int .i64 (x.2.2 + 1)] 34 (0, 0)) from heap_alloc_new w9 _)
                            clear hb5 hi0 hz0 hz1 hz2 hd8 hd0
                            generalize hnj : nx + j = nj at *
                            go_wp2_with (at_builtin; refine wpList_append_lies _ rfl (.tmp 135) (.tmp 142) 35 rfl w.heap.size 34 i0 _ 3 24 Try.underlying35 HI0.out.1 HI0.out.2.1 HI0.out.2.2.1 HI0.out.2.2.2 rfl (by decide) _ Lj.length (ms Lj) rfl H5.out.1.bag ⟨w9.heap.size, 0, none⟩ 1 1 (ms [((nj : Int), s, x.2.2 + 1)]) rfl rfl (World.news_of_block HW9.out) (ms_one _) (by decide) (by unfold maxLen; have := HLn.out; omega) (by have := HLn.out; omega) HB5.out _ rfl ?_; intro g6 cap6 w10 hown hgrow hat hlt6; have H10 := Lib.hid (show EndM w p a b (2 * i + 1) (Lj ++ [((nj : Int), s, x.2.2 + 1)]) (.slice (some ⟨g6, 0, none⟩) (Lj.length + 1) cap6) (mark D x.1) D o w10 ∧ Bx w z x (.slice (some ⟨g6, 0, none⟩) (Lj.length + 1) cap6) w10 from ⟨H5.out.1.grow hgrow (by rw [List.length_append, ms_app]; exact hown), H5.out.2.grow hgrow (fun e => by have e2 : g6 = z := Option.some.inj e; rcases hat with h | h; exact HJ.out.2.1.ne (h.trans (congrArg some e2)); rw [e2] at h; simp at h; omega)⟩); clear hown hgrow hat hlt6)
                            refine ⟨⟨j + 1, Lj ++ [((nj : Int), s, x.2.2 + 1)], give crj nj s, by omega, by rw [← hnj]; rfl, by go_num, ?_⟩, by simp [intOf]; omega⟩
                            rw [show nx + (j + 1) = nj + 1 by omega]
                            exact Lib.hid ⟨H10.out.1, H10.out.2, by rw [show o - x.2.1 + ((j + 1 : Nat) : Int) * s = o - x.2.1 + (j : Int) * s + s by rw [Int.natCast_add, Int.add_mul]; omega]; exact HI5.out, by rw [List.length_append, HLn.out, List.length_singleton]; omega⟩
                          · obtain rfl : j = m := by omega
                            have hrx : 0 ≤ r ∧ r ≤ o ∧ o - r = o - x.2.1 + (j : Int) * s := by have := HQ2.out; have := HO.out; have := Int.mul_nonneg (show (0 : Int) ≤ j by omega) (show 0 ≤ s by omega); omega
                            have HF := Lib.hid (HJ.out.1.first HJ.out.2.1 hx0 hx1 HD.out hrx.1 hrx.2.1 (by omega))
                            have HRX := Lib.hid hrx
                            clear hrx
                            go_wp2_with (go_at_call 11; refine HF.out.mono ?_; rintro e w10 ⟨rfl, h, _⟩; have H10 := Lib.hid h; clear h)
                            exact ⟨⟨i + 1, nx + j, Lj, mark D x.1, crj, o - r, by omega, by go_num, rfl, Lib.hid ⟨H10.out, by rw [HRX.out.2.2]; exact HJ.out.2.2.1, by have := HV.out.2.1; have := HM.out.1; omega, by have := HLn.out; have := HR.out; have := HM.out.1; have := HV6.out.2.1; omega⟩⟩, by simp [intOf]; omega⟩
                      · obtain ⟨rfl, hlt2⟩ := split_bad (by have := HO.out.1; omega) (by omega) (by have := HM.out.1; omega) HRR.out he
                        clear he hlt2
                        go_wp2_with (first
                          | (go_at_call 12; refine HDQ.out.mono ?_; rintro e w7 ⟨rfl, rfl⟩)
                          | (go_at_call 8; refine (HS.out _).mono ?_; rintro e w7 ⟨rfl, rfl⟩))
                        go_ret
                        exact ⟨rfl, H7.out.1.low⟩
                    · rw [hd] at hlk
                      have HK := Lib.hid (H7.out.1.again hx0 hx1 hd x.2.1)
                      have HD := Lib.hid hd
                      clear hd
                      go_wp2_with (go_at_call 11; refine HK.out.mono ?_; rintro e w7 ⟨rfl, h, _⟩; have H8 := Lib.hid h; clear h)
                      exact ⟨⟨i + 1, nx, cut L' k, D, cr, o, by omega, by go_num, rfl, Lib.hid ⟨H8.out.more (by omega), HV6.out.1.again HV6.out.2.2 HD.out, by have := HV.out.2.1; omega, by have := HR.out; have := HV6.out.2.1; simp only [cut, List.length_append, List.length_take, List.length_drop]; omega⟩⟩, by simp [intOf]; omega⟩
      · go_wp2_with fail
        have HZ := Lib.hid HE.out.inv.zero
        have hnb : n ≤ 1000 := by have := HE.out.len; omega
        have HM := Lib.hid (And.intro HE.out.m hn)
        clear HE
        go_loopw [20, 163] (fun s20 s163 wx => ∃ j : Nat, j ≤ n ∧ s20 = .bool ((L.take j).any fun x => !(D x.1)) ∧ s163 = .int .i64 j ∧ Hid (EndM w p a b (2 * i) L (.slice (some ⟨g, 0, none⟩) n cap) D D o wx)) (fun _ u _ => n - (intOf u).toNat)
        case atStart => exact ⟨0, by omega, rfl, rfl, Lib.hid (by have := HM.out.1; rwa [HM.out.2] at this)⟩
        case round =>
          obtain ⟨j, hj, rfl, rfl, HF⟩ := hrel
          generalize wr = w4 at *
          clear hn
          by_cases hjn : j < n
          · have j1 : (j : Int) < (n : Int) := by omega
            obtain ⟨x, hx⟩ : ∃ x, L[j]? = some x := ⟨_, List.getElem?_eq_getElem (by have := HM.out.2; omega)⟩
            obtain ⟨g', cap', e, _, _, _, x0, x1, x2⟩ := HF.out.at_ hx
            cases e
            have hb5 : Below w4.heap.size w4 (w4.alloc (.cells #[.int .u64 x.1, .int .u64 x.2.1, .int .i64 x.2.2] 34)) := (Below.refl _ _).alloc (Nat.le_refl _) _
            have H5 := Lib.hid (HF.out.below hb5)
            have hmx := HI.out.1.mem x (List.mem_of_getElem? hx)
            have hlk := H5.out.look (k := x.1) hmx.1 (by have := hmx.2.1; have := HI.out.2; omega)
            have hany : ((L.take (j + 1)).any fun x => !(D x.1)) = (((L.take j).any fun x => !(D x.1)) || !(D x.1)) := by rw [List.take_add_one, hx, List.any_append]; simp
            have HA := Lib.hid hany
            clear hany hmx hx hb5
            generalize ((L.take j).any fun x => !(D x.1)) = acc at *
            generalize D x.1 = dx at *
            cases acc <;> cases dx
            all_goals (
              go_wp2_with fail
              exact ⟨⟨j + 1, by omega, by rw [HA.out]; rfl, by go_num, H5⟩, by simp [intOf]; omega⟩)
          · obtain rfl : j = n := by omega
            have hdq := HF.out.doneQ
            have ht : L.take j = L := List.take_of_length_le (by have := HM.out.2; omega)
            rw [HZ.out] at hdq
            rw [ht]
            clear ht HZ
            generalize (L.any fun x => !(D x.1)) = acc at *
            have HDQ := Lib.hid hdq
            clear hdq
            cases acc
            all_goals (
              go_wp2_with (go_at_call 12; refine HDQ.out.mono ?_; rintro e w5 ⟨rfl, rfl⟩)
              go_ret
              exact ⟨rfl, HF.out.low⟩)
end Go.Proofs.Ytapofbiflkfocaa.Cr
