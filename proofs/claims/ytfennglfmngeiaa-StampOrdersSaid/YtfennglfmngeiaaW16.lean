/- The document's Sort, walked. -/
import Derived.Test.YtfennglfmngeiaaW15
namespace Go.Proofs.Ytfennglfmngeiaa.St
open Go Go.RowKit Go.Sort
theorem app_one {ops : Array Oper} {rest : List Oper} {o : Oper} {a : Act} {Q' : Exit → Act → World → Prop} (V W : World) (y : Q) (T : TypeId) (hW : W = V.alloc (.cells #[.int .u64 y.n, .int .u8 y.node, .int .u32 y.inc, .int .u32 y.seq] T)) (hg : o.guard = none) (s x : Operand)
    (hop : o.op = Op.call { callee := Callee.builtin Builtin.append, args := #[s, x], argTypes := #[32, 32] })
    (base : Nat) (v : Value) (L : List Q) (hs : a.eval s = v) (hown : Own V base 37 v L) (H : Nat) (hH : V.heap.size = H)
    (hx : a.eval x = .slice (some ⟨H, 0, none⟩) 1 1) (hlen : L.length ≤ 1000) (hbase : base ≤ H)
    (hK : ∀ g c w', Own w' base 37 (.slice (some ⟨g, 0, none⟩) (L.length + 1) c) (L ++ [y]) → W.grownBy w' v.ownBlock → RowKit.Below base V w' → wpList Try.prog ops Q' rest (a.put o.dst (.slice (some ⟨g, 0, none⟩) (L.length + 1) c)) w') :
    wpList Try.prog ops Q' (o :: rest) a W := by
  obtain ⟨i0, hi, hz0, hz1, hz2⟩ := info_parts' info37
  subst hW
  subst hH
  have hown' : V.ownsRow base 37 4 v L.length (flat L) := hown
  refine wpList_append_lies _ hg s x 32 hop base 37 i0 _ 4 24 Try.underlying32 hi hz0 hz1 hz2 rfl (by decide) v L.length (flat L) hs (hown'.alloc _) ⟨V.heap.size, 0, none⟩ 1 1 (encQ y) hx rfl (new_cells1 (x := y) rfl) (one_cells y) (by decide) (by unfold maxLen; omega) (by omega) (by simp; omega) (V.heap.size + 1) (by simp) ?_
  intro g c w' ho hgr _ _
  exact hK g c w' (Own.put ho rfl rfl (by rw [flat_one])) hgr (grown_own ((Below.refl _ _).alloc hbase _) (hown'.alloc _) hgr (by simp; omega))
theorem Own.alloc {w : World} {B e : Nat} {v : Value} {l : List Q} (h : Own w B e v l) (o : Obj) : Own (w.alloc o) B e v l := World.ownsRow.alloc h o
theorem Own.on {w w' : World} {B e : Nat} {v : Value} {l : List Q} (h : Own w B e v l) (hb : RowKit.Below w.heap.size w w') : Own w' B e v l := row_on h hb
theorem Own.base {w : World} {B C e : Nat} {v : Value} {l : List Q} (h : Own w B e v l) (hC : C ≤ B) : Own w C e v l := by
  unfold Own at h ⊢
  refine ⟨h.1, ?_⟩
  rcases h.2 with h1 | ⟨g, cap, cur, h1, h2, h3⟩
  · exact .inl h1
  · exact .inr ⟨g, cap, cur, h1, Nat.le_trans hC h2, h3⟩
theorem Own.lt {w : World} {B e : Nat} {v : Value} {l : List Q} (h : Own w B e v l) : ∀ k, v.ownBlock = some k → B ≤ k ∧ k < w.heap.size := World.ownsRow.lt h
theorem Own.rd {w : World} {B e : Nat} {v : Value} {l : List Q} (h : Own w B e v l) : ∃ ao c, v = .slice ao l.length c ∧ Qs w ao l := by
  have h' := h
  unfold Own at h'
  rcases h'.2 with ⟨h1, h2⟩ | ⟨g, cap, _, h1, _⟩
  · subst h1
    have e0 : l = [] := List.length_eq_zero_iff.1 h2
    subst e0
    exact ⟨none, 0, rfl, Qs.nil _ _⟩
  · subst h1
    exact ⟨_, _, rfl, h.qs⟩
theorem Box4.grown {w w' : World} {b : Nat} {x : Q} {row : Option Nat} (h : Box4 w b x) (hg : w.grownBy w' row) (hne : ∀ k, row = some k → k < b) : Box4 w' b x := by
  have hn : some b ≠ row := by
    intro e
    have := hne b e.symm
    omega
  obtain ⟨⟨h0, h1, h2, h3⟩, hf, hs⟩ := h
  exact ⟨⟨hg.cell h0 hn, hg.cell h1 hn, hg.cell h2 hn, hg.cell h3 hn⟩, fun j => (hg.frozen_far ⟨b, j, none⟩ hs hn).trans (hf j), Nat.lt_of_lt_of_le hs hg.size⟩
set_option maxHeartbeats 8000000 in
theorem ref_sort (ao : Option Addr) (n c : Nat) (l : List Q) (w : World) (hn : n ≤ 200) (hl : l.length = n) (ha : Qs w ao l) :
    Calls Try.prog 18 #[.slice ao n c] w fun e w' => ∃ v, e = .returned v ∧ Own w' w.heap.size 37 v (refSort l) ∧ RowKit.Below w.heap.size w w' := by
  have HL := Lib.hid hl
  have HA := Lib.hid ha
  clear hl ha
  go_enter Try.func18, Try.ntmps18
  go_wp2_with fail
  go_loopw [3, 12] (fun v i wr => ∃ k : Nat, k ≤ n ∧ i = .int .i64 k ∧ Own wr w.heap.size 37 v (refSort (l.take k)) ∧ RowKit.Below w.heap.size w wr) (fun _ i _ => n - (intOf i).toNat)
  case atStart => exact ⟨0, Nat.zero_le _, rfl, Own.nil _ _ _, Below.refl _ _⟩
  case round =>
    obtain ⟨k, hk, rfl, ho, hB⟩ := hrel
    by_cases hlt : k < n
    · obtain ⟨b, off, rfl, hb, hf⟩ := (HA.out.on hB (Nat.le_refl _)).at (k := k) (by have := HL.out; omega)
      have HT := Lib.hid (take_more (l := l) (k := k) (by have := HL.out; omega))
      have HK := Lib.hid (show (refSort (l.take k)).length = k by rw [refSort_length, List.length_take]; have := HL.out; omega)
      generalize l.getD k q0 = s at *
      generalize hR : refSort (l.take k) = R at *
      have HR := Lib.hid hR
      clear hR
      obtain ⟨ro, rc, rfl, hq⟩ := ho.rd
      rw [HK.out]
      obtain ⟨e0, e1, e2, e3⟩ := hf
      have HO := Lib.hid ho
      have HQ := Lib.hid hq
      clear ho hq
      generalize wr = wo at *
      go_wp2_with fail
      have B5 := Box4.new wo s 37
      have h0 := hB.alloc hB.size (.cells #[.int .u64 s.n, .int .u8 s.node, .int .u32 s.inc, .int .u32 s.seq] 37)
      have QR := Lib.hid (HQ.out.on ((Below.refl _ _).alloc (Nat.le_refl _) (.cells #[.int .u64 s.n, .int .u8 s.node, .int .u32 s.inc, .int .u32 s.seq] 37)) (Nat.le_refl _))
      have ew : (wo.alloc (.cells #[.int .u64 s.n, .int .u8 s.node, .int .u32 s.inc, .int .u32 s.seq] 37)).heap.size = wo.heap.size + 1 := World.size_alloc _ _
      have hws := hB.size
      clear e0 e1 e2 e3 hb HO HQ hB
      generalize (wo.alloc (.cells #[.int .u64 s.n, .int .u8 s.node, .int .u32 s.inc, .int .u32 s.seq] 37)) = w0 at *
      generalize wo.heap.size = s5 at *
      go_loopw [6, 7, 18] (fun v d i wr => ∃ (j : Nat) (db : Bool), j ≤ k ∧ i = .int .i64 j ∧ d = .bool db ∧ db = (R.take j).any (ltQ s) ∧ Own wr (s5 + 1) 37 v (mid s db (R.take j)) ∧ RowKit.Below (s5 + 1) w0 wr) (fun _ _ i _ => k - (intOf i).toNat)
      case atStart => exact ⟨0, false, Nat.zero_le _, rfl, rfl, by simp, by simpa [mid] using Own.nil _ _ _, Below.refl _ _⟩
      case round =>
        obtain ⟨j, db, hj, rfl, rfl, hd, ho, hC⟩ := hrel
        have hsz : s5 + 1 ≤ wr.heap.size := ew ▸ hC.size
        have K5 := Lib.hid (B5.on hC (by omega))
        have HLM := Lib.hid (show (mid s db (R.take j)).length ≤ 1000 by have := mid_length s db (R.take j); rw [List.length_take] at this; have := HK.out; omega)
        by_cases hjk : j < k
        · obtain ⟨b', off', he, hb', hf'⟩ := (QR.out.on hC (Nat.le_of_eq ew)).at (k := j) (by have := HK.out; omega)
          cases he
          have HTj := Lib.hid (take_more (l := R) (k := j) (by have := HK.out; omega))
          generalize R.getD j q0 = x at *
          obtain ⟨f0, f1, f2, f3⟩ := hf'
          have HD := Lib.hid hd
          have HLM2 := Lib.hid (show (mid s db (R.take j)).length + 1 ≤ 1000 by have := mid_length s db (R.take j); rw [List.length_take] at this; have := HK.out; omega)
          have HO := Lib.hid ho
          obtain ⟨⟨p0, p1, p2, p3⟩, _, _⟩ := K5.out
          have p0' := fun o => cell_old p0 (o := o)
          have p1' := fun o => cell_old p1 (o := o)
          have p2' := fun o => cell_old p2 (o := o)
          have p3' := fun o => cell_old p3 (o := o)
          clear hd ho
          cases db
          · go_wp2_with fail
            have OA := Lib.hid (HO.out.alloc (.cells #[.int .u64 x.n, .int .u8 x.node, .int .u32 x.inc, .int .u32 x.seq] 37))
            have D0 := hC.alloc hsz (.cells #[.int .u64 x.n, .int .u8 x.node, .int .u32 x.inc, .int .u32 x.seq] 37)
            have K9 := Box4.new wr x 37
            have K5a := K5.out.on ((Below.refl wr.heap.size wr).alloc (Nat.le_refl _) (.cells #[.int .u64 x.n, .int .u8 x.node, .int .u32 x.inc, .int .u32 x.seq] 37)) K5.out.2.2
            have HLT := Lib.hid (fun k hk => (HO.out.lt k hk).2)
            clear p0 p1 p2 p3 p0' p1' p2' p3' f0 f1 f2 f3 HO K5 hC hb'
            generalize (wr.alloc (.cells #[.int .u64 x.n, .int .u8 x.node, .int .u32 x.inc, .int .u32 x.seq] 37)) = wa at *
            generalize wr.heap.size = s9 at *
            refine (elder4 s x wa).mono ?_
            rintro e w1 ⟨rfl, hg⟩
            have b : RowKit.Below wa.heap.size wa w1 := below_grown (Below.refl _ _) (Nat.le_refl _) hg
            have OV := Lib.hid (OA.out.on b)
            have D1 := D0.trans (b.mono (ew ▸ D0.size))
            have M9 := K9.on b K9.2.2
            have M5 := K5a.on b K5a.2.2
            have hs1 : s5 + 1 ≤ w1.heap.size := ew ▸ D1.size
            clear OA D0 K9 K5a b hg
            have HM9 := Lib.hid M9
            obtain ⟨⟨p0, p1, p2, p3⟩, _, _⟩ := M5
            obtain ⟨⟨r0, r1, r2, r3⟩, _, _⟩ := M9
            obtain ⟨t, ht⟩ : ∃ t, t = ltQ s x := ⟨_, rfl⟩
            have HT2 := Lib.hid ht
            rw [← ht]
            clear ht
            cases t
            · go_wp2_with (at_builtin; refine app_one w1 _ x 37 rfl rfl (.tmp 33) (.tmp 35) rfl (s5 + 1) _ _ rfl OV.out _ rfl rfl HLM.out hs1 ?_; intro g1 c1 w2 O2 G2 B2)
              go_roundw
              case rel =>
                refine ⟨j + 1, false, by omega, by go_num, rfl, ?_, ?_, D1.trans B2⟩
                · rw [HTj.out, any_snoc, ← HD.out, ← HT2.out]; rfl
                · rw [HTj.out, mid_not]
                  exact O2
              case measure => simp [intOf]; omega
            · go_wp2_with (first
                | (have hh := O2; clear hh; at_builtin; refine app_one w2 _ x 37 rfl rfl (.tmp 33) (.tmp 35) rfl (s5 + 1) _ _ rfl O2 _ rfl rfl (by rw [List.length_append]; exact HLM2.out) (Nat.le_trans hs1 B2.size) ?_; intro g3 c3 w3 O3 G3 B3)
                | (at_builtin; refine app_one w1 _ s 37 rfl rfl (.tmp 29) (.tmp 31) rfl (s5 + 1) _ _ rfl OV.out _ rfl rfl HLM.out hs1 ?_; intro g1 c1 w2 O2 G2 B2; obtain ⟨⟨y0, y1, y2, y3⟩, _, _⟩ := (HM9.out.on ((Below.refl w1.heap.size w1).alloc (Nat.le_refl _) _) HM9.out.2.2).grown G2 (fun k hk => HLT.out k hk)))
              go_roundw
              case rel =>
                refine ⟨j + 1, true, by omega, by go_num, rfl, ?_, ?_, (D1.trans B2).trans B3⟩
                · rw [HTj.out, any_snoc, ← HD.out, ← HT2.out]; rfl
                · rw [HTj.out, mid_now _ _ _ HD.out.symm HT2.out.symm]
                  have e : (mid s false (List.take j R) ++ [s]).length = (mid s false (List.take j R)).length + 1 := by rw [List.length_append]; rfl
                  rw [← e]
                  exact O3
              case measure => simp [intOf]; omega
          · have OA := Lib.hid (HO.out.alloc (.cells #[.int .u64 x.n, .int .u8 x.node, .int .u32 x.inc, .int .u32 x.seq] 37))
            have D0 := hC.alloc hsz (.cells #[.int .u64 x.n, .int .u8 x.node, .int .u32 x.inc, .int .u32 x.seq] 37)
            go_wp2_with (at_builtin; refine app_one _ _ x 37 rfl rfl (.tmp 33) (.tmp 35) rfl (s5 + 1) _ _ rfl OA.out _ (World.size_alloc _ _) rfl HLM.out (by omega) ?_; intro g1 c1 w2 O2 G2 B2)
            go_roundw
            case rel =>
              refine ⟨j + 1, true, by omega, by go_num, rfl, ?_, ?_, D0.trans B2⟩
              · rw [HTj.out, any_snoc, ← HD.out]; rfl
              · rw [HTj.out, mid_done _ _ _ HD.out.symm]
                exact O2
            case measure => simp [intOf]; omega
        · obtain rfl : k = j := by omega
          rw [show R.take k = R by rw [← HK.out, List.take_length]] at *
          have HE := Lib.hid (mid_end s R db hd)
          have HO := Lib.hid ho
          have hkn := HK.out
          obtain ⟨⟨p0, p1, p2, p3⟩, _, _⟩ := K5.out
          clear hd ho
          cases db
          · go_wp2_with (at_builtin; refine app_one wr _ s 37 rfl rfl (.tmp 40) (.tmp 42) rfl (s5 + 1) _ _ rfl HO.out _ rfl rfl HLM.out hsz ?_; intro g1 c1 w2 O2 G2 B2)
            go_roundw
            case rel =>
              refine ⟨k + 1, by omega, by go_num, ?_, h0.trans ((hC.trans B2).mono (by omega))⟩
              rw [HT.out, refSort_snoc, HR.out, ← HE.out]
              exact O2.base (by omega)
            case measure => simp [intOf]; omega
          · go_wp2_with fail
            go_roundw
            case rel =>
              refine ⟨k + 1, by omega, by go_num, ?_, h0.trans (hC.mono (by omega))⟩
              rw [HT.out, refSort_snoc, HR.out, ← HE.out]
              exact HO.out.base (by omega)
            case measure => simp [intOf]; omega
    · obtain rfl : n = k := by omega
      rw [show l.take n = l by rw [← HL.out, List.take_length]] at ho
      go_wp2_with fail
      go_ret
      exact ⟨_, rfl, ho, hB⟩
end Go.Proofs.Ytfennglfmngeiaa.St
