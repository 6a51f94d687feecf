/- commit: the document's Take, walked. -/
import Derived.Test.YtklalpamcfkngaaR12
namespace Go.Proofs.Ytklalpamcfkngaa.Cm
open Go Go.RowKit
def insT (t : TK) : TL → TL
  | [] => [(t, 2)]
  | e :: l => if ltK t e.1 = true then (t, 2) :: e :: l else e :: insT t l
theorem insT_perm (t : TK) : ∀ l : TL, (insT t l).Perm ((t, 2) :: l)
  | [] => List.Perm.refl _
  | e :: l => by
    unfold insT
    split
    · exact List.Perm.refl _
    · exact ((insT_perm t l).cons e).trans (List.Perm.swap _ _ _)
theorem insT_len (t : TK) (l : TL) : (insT t l).length = l.length + 1 := by rw [(insT_perm t l).length_eq]; rfl
theorem info90 : (Try.prog.info? 90).map (fun i => (i.zero, i.size, i.bytes)) = some (some (.agg #[.int .u8 0, .int .u32 0, .int .u32 0, .int .i64 0]), 4, 24) := by kernel_rfl
theorem oneE (e : TK × Int) : ∀ u ∈ cellsE e, u.oneCell' = true := by
  intro u hu
  simp [cellsE] at hu
  rcases hu with rfl | rfl | rfl | rfl <;> rfl
theorem newsE (w : World) (e : TK × Int) : ∀ j u, (cellsE e)[j]? = some u → (w.alloc (.cells #[.int .u8 e.1.1, .int .u32 e.1.2.1, .int .u32 e.1.2.2, .int .i64 e.2] 90)).cell? ((⟨w.heap.size, 0, none⟩ : Addr).add j) = some u :=
  World.news_of_block (heap_alloc_new w (.cells #[.int .u8 e.1.1, .int .u32 e.1.2.1, .int .u32 e.1.2.2, .int .i64 e.2] 90))
theorem refat_takes {w0 w' : World} {B q : Nat} {F : Nat → Prop} {rv tv tv' : Value} {CL : List RC} {TT TT' : TL} (h : RefAt w0 B F q rv tv CL TT)
    (hq : w'.heap[q]? = some (.cells #[rv, tv'] 30 (0, 0))) (hrow : w'.ownsRow B 90 4 tv' TT'.length (TT'.flatMap cellsE)) (ht : Turned (fun k => k = q) w0 w') (hk : (TT'.map (·.1)).Nodup) (hw : ∀ e ∈ TT', InK e.1) :
    RefAt w' B (fun k => F k ∨ tv'.ownBlock = some k) q rv tv' CL TT' := by
  have ks : ∀ (k : Nat) (cs : Array Value) (T : TypeId), w0.heap[k]? = some (.cells cs T (0, 0)) → T ≠ 30 → w'.heap[k]? = w0.heap[k]? := fun k cs T hk hT2 => by
    refine ht.block k (Array.getElem?_eq_some_iff.1 hk).1 (fun e => ?_)
    subst e
    rw [h.cell] at hk
    simp at hk
    exact hT2 hk.2.symm
  refine ⟨hq, own_on h.rrow (fun g hg => ?_), hrow, fun c hc => ⟨own_on (h.nodes c hc).1 (fun g hg => ?_), .inl (h.nodes c hc).2⟩, fun c hc => ⟨(ks _ _ _ (h.yes c hc).1 (by decide)).trans (h.yes c hc).1, .inl (h.yes c hc).2⟩, fun c hc => ⟨(ks _ _ _ (h.did c hc).1 (by decide)).trans (h.did c hc).1, .inl (h.did c hc).2⟩, h.dist, h.pos, h.keys, hk, ⟨h.wf.1, hw⟩, Nat.le_trans h.base ht.size, .inl h.fq, fun g hg => .inl (h.fr g hg), fun g hg => .inr hg, fun k hk => ?_, fun k hk => ?_⟩
  · obtain ⟨_, cur, h3⟩ := own_obj h.rrow hg
    exact ks g _ _ h3 (by decide)
  · obtain ⟨_, cur, h3⟩ := own_obj (h.nodes c hc).1 hg
    exact ks g _ _ h3 (by decide)
  · rcases hk with hk | hk
    · exact Nat.lt_of_lt_of_le (h.hi k hk) ht.size
    · obtain ⟨_, cur, h3⟩ := own_obj hrow hk
      exact (Array.getElem?_eq_some_iff.1 h3).1
  · rcases hk with hk | hk
    · exact h.low k hk
    · exact (own_obj hrow hk).1
theorem rtake_nil (t : TK) (w : World) : Calls Try.prog 25 #[.pointer none, .agg #[.int .u8 t.1, .int .u32 t.2.1, .int .u32 t.2.2]] w fun e w' => e = .returned (.int .i64 6) ∧ Below w.heap.size w w' := by
  go_enter Try.func25, Try.ntmps25
  go_wp2
  go_ret
  exact ⟨rfl, (Below.refl _ w).alloc (Nat.le_refl _) _⟩
section
variable {w : World} {B q : Nat} {F : Nat → Prop} {rv tv : Value} {CL : List RC} {TT : TL} {t : TK}
theorem rtake_again (h : RefAt w B F q rv tv CL TT) (hl : TT.length ≤ 1000000) (hx : stT (lookT TT t) ≠ 0) :
    Calls Try.prog 25 #[.pointer (some ⟨q, 0, none⟩), .agg #[.int .u8 t.1, .int .u32 t.2.1, .int .u32 t.2.2]] w fun e w' => e = .returned (.int .i64 7) ∧ Below w.heap.size w w' := by
  have hb0 := Lib.hid ((Below.refl _ w).alloc (Nat.le_refl _) (.cells #[.int .u8 t.1, .int .u32 t.2.1, .int .u32 t.2.2] 33))
  have H1 := Lib.hid (h.below hb0.out)
  have e2 : (stT (lookT TT t) != 0) = true := by simpa using hx
  clear h hx
  generalize hxx : stT (lookT TT t) = x at *
  have HXX := Lib.hid hxx
  clear hxx
  go_enter Try.func25, Try.ntmps25
  go_wp2_with (go_at_call 31; refine (rstands_any H1.out t hl).mono ?_; rw [HXX.out]; rintro e w1 ⟨rfl, hb⟩; have H2 := Lib.hid (hb0.out.trans (hb.mono hb0.out.size)); clear hb)
  go_ret
  exact ⟨rfl, H2.out⟩
/-- Between two rounds: what is laid out, what is still to come. -/
def TkI (W0 : World) (TT : TL) (t : TK) (k : Nat) (d : Bool) (out : TL) (v : Value) (wr : World) : Prop :=
  wr.ownsRow W0.heap.size 90 4 v out.length (out.flatMap cellsE) ∧ insT t TT = out ++ (if d then TT.drop k else insT t (TT.drop k)) ∧ Below W0.heap.size W0 wr
theorem tk_len {W0 wr : World} {TT out : TL} {t : TK} {k : Nat} {d : Bool} {v : Value} (h : TkI W0 TT t k d out v wr) : out.length ≤ TT.length + 1 := by
  have := congrArg List.length h.2.1
  rw [insT_len, List.length_append] at this
  omega
/-- A list that is being laid out. -/
def Ap (W0 : World) (out : TL) (v : Value) (wr : World) : Prop := wr.ownsRow W0.heap.size 90 4 v out.length (out.flatMap cellsE) ∧ Below W0.heap.size W0 wr
theorem Ap.below {W0 wr w' : World} {out : TL} {v : Value} (h : Ap W0 out v wr) (hb : Below wr.heap.size wr w') : Ap W0 out v w' :=
  ⟨own_on h.1 (fun g hg => hb.block g (World.ownsRow.lt h.1 g hg).2), h.2.trans (hb.mono h.2.size)⟩
theorem Ap.step {W0 wr w3 : World} {out : TL} {v v3 : Value} {e : TK × Int} {o : Obj} (h : Ap W0 out v wr) (ho : w3.ownsRow W0.heap.size 90 4 v3 (out.length + 1) (out.flatMap cellsE ++ cellsE e)) (hg : (wr.alloc o).grownBy w3 v.ownBlock) : Ap W0 (out ++ [e]) v3 w3 := by
  refine ⟨by rw [List.length_append, List.flatMap_append]; simpa using ho, (h.2.alloc h.2.size o).grown hg (by have := h.2.size; simp; omega) (fun k hk => (own_obj h.1 hk).1)⟩
theorem ap_len {W0 wr : World} {out : TL} {e : TK × Int} {v : Value} (h : Ap W0 (out ++ [e]) v wr) : wr.ownsRow W0.heap.size 90 4 v (out.length + 1) (out.flatMap cellsE ++ cellsE e) ∧ Below W0.heap.size W0 wr := by
  refine ⟨?_, h.2⟩
  have := h.1
  rw [List.length_append, List.flatMap_append] at this
  simpa using this
theorem cellsB {w : World} {b : Nat} {x y z u : Value} {T : TypeId} (h : w.heap[b]? = some (.cells #[x, y, z, u] T (0, 0))) : w.cell? ⟨b, 0, none⟩ = some x ∧ w.cell? ⟨b, 1, none⟩ = some y ∧ w.cell? ⟨b, 2, none⟩ = some z ∧ w.cell? ⟨b, 3, none⟩ = some u := by
  simp [World.cell?, h]
theorem rtake_end {w w1 w5 : World} {B q : Nat} {F : Nat → Prop} {rv tv v : Value} {CL : List RC} {TT : TL} {t : TK} (_ : ∀ k, F k → k < w.heap.size) (hB : B ≤ w.heap.size) (h2 : Below w.heap.size w w1) (h3 : RefAt w1 B F q rv tv CL TT) (hn : lookT TT t = none) (ht : InK t)
    (hb : Below w1.heap.size w1 w5) (ho : w5.ownsRow w1.heap.size 90 4 v (insT t TT).length ((insT t TT).flatMap cellsE)) :
    RDid w B F q (CL.map prj) (insT t TT) (w5.setCell ⟨q, 1, none⟩ v) := by
  have q5 : w5.heap[q]? = some (.cells #[rv, tv] 30 (0, 0)) := (hb.block q (h3.hi q h3.fq)).trans h3.cell
  have hs := turned_set w5 q 1 v
  have hp := insT_perm t TT
  have hno : ∀ e ∈ TT, eqK e.1 t = false := by
    rcases lookT_case TT t with ⟨_, h⟩ | ⟨i, s, _, h⟩
    · exact h
    · rw [hn] at h; cases h
  have hq1 : q < w1.heap.size := h3.hi q h3.fq
  have hA := refat_takes (tv' := v) (TT' := insT t TT) h3 ((set_block q5).trans (by simp)) (own_base (own_on ho (fun g hg => hs.block g (World.ownsRow.lt ho g hg).2 (fun e => by have := (own_obj ho hg).1; omega))) (Nat.le_trans hB h2.size)) ((below_any (G := fun k => k = q) hb).then hs) (by
      rw [(hp.map (·.1)).nodup_iff, List.map_cons, List.nodup_cons]
      refine ⟨fun e => ?_, h3.tkeys⟩
      obtain ⟨d, hd, hd2⟩ := List.mem_map.1 e
      have := hno d hd
      rw [(eqK_iff _ _).2 hd2] at this
      cases this) (fun e he => by
      rcases List.mem_cons.1 (hp.mem_iff.1 he) with rfl | he
      · exact ht
      · exact h3.wf.2 e he)
  refine ⟨_, ⟨_, _, _, hA, rfl⟩, fun k hk => hk.imp id (fun e => Nat.le_trans h2.size (own_obj ho e).1), (below_any (G := F) (h2.trans (hb.mono h2.size))).then (hs.mono (fun k hk => by rw [hk]; exact h3.fq))⟩
set_option maxRecDepth 100000 in
set_option maxHeartbeats 8000000 in
theorem rtake_new (h : RefAt w B F q rv tv CL TT) (hl : TT.length ≤ 1000000) (hn : lookT TT t = none) (ht : InK t) :
    Calls Try.prog 25 #[.pointer (some ⟨q, 0, none⟩), .agg #[.int .u8 t.1, .int .u32 t.2.1, .int .u32 t.2.2]] w fun e w' => e = .returned (.int .i64 0) ∧ RDid w B F q (CL.map prj) (insT t TT) w' := by
  obtain ⟨i0, hi0, hz0, hz1, hz2⟩ := info_parts info90
  have HI := Lib.hid (And.intro hi0 (And.intro hz0 (And.intro hz1 hz2)))
  clear hi0 hz0 hz1 hz2
  have hb0 := Lib.hid ((Below.refl _ w).alloc (Nat.le_refl _) (.cells #[.int .u8 t.1, .int .u32 t.2.1, .int .u32 t.2.2] 33))
  have H1 := Lib.hid (h.below hb0.out)
  have HX := Lib.hid (box3 w t)
  have HFW := Lib.hid (And.intro h.hi h.base)
  have HNN := Lib.hid (And.intro hn ht)
  clear h hn ht
  obtain ⟨N, hN⟩ : ∃ N, TT.length = N := ⟨_, rfl⟩
  have HN := Lib.hid hN
  rw [hN] at hl
  clear hN
  go_enter Try.func25, Try.ntmps25
  go_wp2_with (go_at_call 31; refine (rstands_any H1.out t (by rw [HN.out]; exact hl)).mono ?_; rw [HNN.out.1]; rintro e w1 ⟨rfl, hb⟩; unfold stT; have H2 := Lib.hid (hb0.out.trans (hb.mono hb0.out.size)); have H3 := Lib.hid (And.intro (H1.out.below hb) (Below.cell3 hb (World.block_lt_of_cell? _ ⟨w.heap.size, 0, none⟩ HX.out.1) HX.out)); have hbl := World.block_lt_of_cell? w1 ⟨w.heap.size, 0, none⟩ H3.out.2.1; obtain ⟨q0, q1⟩ := H3.out.1.cells; obtain ⟨ao, cap, etv, _, _⟩ := own_slice H3.out.1.trow; rw [etv, HN.out] at q1; have HTV := Lib.hid etv; clear hb etv)
  have H0 := Lib.hid (show TkI w1 TT t 0 false [] (.slice none 0 0) w1 from ⟨World.ownsRow_nil _ _ _ _, by simp, Below.refl _ _⟩)
  go_loopw [5, 6, 20] (fun v x u wr => ∃ (k : Nat) (d : Bool) (out : TL), k ≤ N ∧ u = .int .i64 k ∧ x = .bool d ∧ Hid (TkI w1 TT t k d out v wr)) (fun _ _ u _ => N - (intOf u).toNat)
  case atStart => exact ⟨0, false, [], by omega, rfl, rfl, H0⟩
  case round =>
    obtain ⟨k, d, out, hk, rfl, rfl, HR⟩ := hrel
    clear H0 q0 q1
    obtain ⟨lo, cap2, ev, _, _⟩ := own_slice HR.out.1
    subst ev
    have hol := tk_len HR.out
    rw [HN.out] at hol
    obtain ⟨b0, b1, b2⟩ := Below.cell3 HR.out.2.2 hbl H3.out.2
    by_cases hlt : k < N
    · obtain ⟨e, he⟩ : ∃ e, TT[k]? = some e := ⟨_, List.getElem?_eq_getElem (by rw [HN.out]; exact hlt)⟩
      have HRF := Lib.hid (H3.out.1.below HR.out.2.2)
      obtain ⟨g, cap3, e3, hat⟩ := HRF.out.tat he
      rw [HTV.out, HN.out] at e3
      cases e3
      obtain ⟨⟨c0, c1, c2⟩, c3⟩ := hat
      have HDR := Lib.hid (show TT.drop k = e :: TT.drop (k + 1) from by rw [List.drop_eq_getElem_cons (by rw [HN.out]; exact hlt), (List.getElem?_eq_some_iff.1 he).2])
      clear he
      have hbx : Below wr.heap.size wr (wr.alloc (.cells #[.int .u8 e.1.1, .int .u32 e.1.2.1, .int .u32 e.1.2.2, .int .i64 e.2] 90)) := (Below.refl _ _).alloc (Nat.le_refl _) _
      have HBX := Lib.hid (And.intro hbx (heap_alloc_new wr (.cells #[.int .u8 e.1.1, .int .u32 e.1.2.1, .int .u32 e.1.2.2, .int .i64 e.2] 90)))
      have hzx : (wr.alloc (.cells #[.int .u8 e.1.1, .int .u32 e.1.2.1, .int .u32 e.1.2.2, .int .i64 e.2] 90)).heap.size = wr.heap.size + 1 := by simp
      have HZX := Lib.hid hzx
      clear hbx hzx
      obtain ⟨bl, hbl2⟩ : ∃ bl, ltK t e.1 = bl := ⟨_, rfl⟩
      have HBL := Lib.hid hbl2
      clear hbl2
      go_upto_region 10 with fail
      generalize wr.alloc (.cells #[.int .u8 e.1.1, .int .u32 e.1.2.1, .int .u32 e.1.2.2, .int .i64 e.2] 90) = W at HBX HZX ⊢
      obtain ⟨x0, x1, x2, x3⟩ := cellsB HBX.out.2
      obtain ⟨t0, t1, t2⟩ := Below.cell3 (HR.out.2.2.trans (HBX.out.1.mono HR.out.2.2.size)) hbl H3.out.2
      clear b0 b1 b2 c0 c1 c2 c3
      cases d
      · cases bl
        · go_wp2_with (first
            | (go_at_call 41; refine (less_any t e.1 _).mono ?_; rw [HBL.out]; rintro e4 w4 ⟨rfl, hb4⟩; have H4 := Lib.hid (And.intro hb4 (((Ap.below ⟨HR.out.1, HR.out.2.2⟩ HBX.out.1).below hb4))); obtain ⟨u0, u1, u2⟩ := Below.cell3 H4.out.2.2 hbl H3.out.2; have x4 := (hb4.block wr.heap.size (by rw [HZX.out]; omega)).trans HBX.out.2; obtain ⟨z0, z1, z2, z3⟩ := cellsB x4; have HX4 := Lib.hid x4; clear hb4 x4)
            | (at_builtin; refine wpList_append_lies _ rfl (.tmp 37) (.tmp 39) 28 rfl w1.heap.size 90 i0 _ 4 24 Try.underlying28 HI.out.1 HI.out.2.1 HI.out.2.2.1 HI.out.2.2.2 rfl (by decide) (.slice lo out.length cap2) out.length (out.flatMap cellsE) rfl (H4.out.2.1.alloc _) ⟨w4.heap.size, 0, none⟩ 1 1 (cellsE e) rfl rfl (newsE w4 e) (oneE _) (by decide) (by unfold maxLen; omega) (by omega) (by have := H4.out.2.2.size; simp; omega) _ rfl ?_; intro g5 c5 w5 hown hgrow _ _; have H5 := Lib.hid (H4.out.2.step hown hgrow); clear hown hgrow))
          go_roundw
          case measure => simp [intOf]; omega
          case rel =>
            refine ⟨k + 1, false, out ++ [e], by omega, by go_num, rfl, Lib.hid ⟨H5.out.1, ?_, H5.out.2⟩⟩
            have h := HR.out.2.1
            rw [if_neg (by decide), HDR.out] at h
            rw [h, if_neg (by decide), insT, if_neg (by rw [HBL.out]; decide)]
            simp
        · go_wp2_with (first
            | (go_at_call 41; refine (less_any t e.1 _).mono ?_; rw [HBL.out]; rintro e4 w4 ⟨rfl, hb4⟩; have H4 := Lib.hid (And.intro hb4 (((Ap.below ⟨HR.out.1, HR.out.2.2⟩ HBX.out.1).below hb4))); obtain ⟨u0, u1, u2⟩ := Below.cell3 H4.out.2.2 hbl H3.out.2; have x4 := (hb4.block wr.heap.size (by rw [HZX.out]; omega)).trans HBX.out.2; obtain ⟨z0, z1, z2, z3⟩ := cellsB x4; have HX4 := Lib.hid x4; clear hb4 x4)
            | (at_builtin; refine wpList_append_lies _ rfl (.tmp 32) (.tmp 35) 28 rfl w1.heap.size 90 i0 _ 4 24 Try.underlying28 HI.out.1 HI.out.2.1 HI.out.2.2.1 HI.out.2.2.2 rfl (by decide) (.slice lo out.length cap2) out.length (out.flatMap cellsE) rfl (H4.out.2.1.alloc _) ⟨w4.heap.size, 0, none⟩ 1 1 (cellsE (t, 2)) rfl rfl (newsE w4 (t, 2)) (oneE _) (by decide) (by unfold maxLen; omega) (by omega) (by have := H4.out.2.2.size; simp; omega) _ rfl ?_; intro g5 c5 w5 hown hgrow _ _; have H5 := Lib.hid (H4.out.2.step hown hgrow); have x5 := (hgrow.block wr.heap.size (by have h7 := (Array.getElem?_eq_some_iff.1 HX4.out).1; simp; omega) (fun ee => by have h8 := (World.ownsRow.lt HR.out.1 wr.heap.size ee.symm).2; omega)).trans ((heap_alloc_old _ _ (Array.getElem?_eq_some_iff.1 HX4.out).1).trans HX4.out); obtain ⟨y0, y1, y2, y3⟩ := cellsB x5; clear x5; clear hown hgrow)
            | (at_builtin; refine wpList_append_lies _ rfl (.tmp 37) (.tmp 39) 28 rfl w1.heap.size 90 i0 _ 4 24 Try.underlying28 HI.out.1 HI.out.2.1 HI.out.2.2.1 HI.out.2.2.2 rfl (by decide) (.slice (some ⟨g5, 0, none⟩) (out.length + 1) c5) (out.length + 1) (out.flatMap cellsE ++ cellsE (t, 2)) rfl ((ap_len H5.out).1.alloc _) ⟨w5.heap.size, 0, none⟩ 1 1 (cellsE e) rfl rfl (newsE w5 e) (oneE _) (by decide) (by unfold maxLen; omega) (by omega) (by have := (ap_len H5.out).2.size; simp; omega) _ rfl ?_; intro g6 c6 w6 hown hgrow _ _; have H6 := Lib.hid (H5.out.step (by rw [List.length_append, List.flatMap_append]; simpa using hown) hgrow); clear hown hgrow))
          go_roundw
          case measure => simp [intOf]; omega
          case rel =>
            refine ⟨k + 1, true, (out ++ [(t, 2)]) ++ [e], by omega, by go_num, rfl, Lib.hid ⟨H6.out.1, ?_, H6.out.2⟩⟩
            have h := HR.out.2.1
            rw [if_neg (by decide), HDR.out] at h
            rw [h, if_pos rfl, insT, if_pos HBL.out]
            simp
      · go_wp2_with (at_builtin; refine wpList_append_lies _ rfl (.tmp 37) (.tmp 39) 28 rfl w1.heap.size 90 i0 _ 4 24 Try.underlying28 HI.out.1 HI.out.2.1 HI.out.2.2.1 HI.out.2.2.2 rfl (by decide) (.slice lo out.length cap2) out.length (out.flatMap cellsE) rfl ((Ap.below ⟨HR.out.1, HR.out.2.2⟩ HBX.out.1).1.alloc _) ⟨W.heap.size, 0, none⟩ 1 1 (cellsE e) rfl rfl (newsE W e) (oneE _) (by decide) (by unfold maxLen; omega) (by omega) (by have := (Ap.below ⟨HR.out.1, HR.out.2.2⟩ HBX.out.1).2.size; simp; omega) _ rfl ?_; intro g5 c5 w5 hown hgrow _ _; have H5 := Lib.hid ((Ap.below ⟨HR.out.1, HR.out.2.2⟩ HBX.out.1).step hown hgrow); clear hown hgrow)
        go_roundw
        case measure => simp [intOf]; omega
        case rel =>
          refine ⟨k + 1, true, out ++ [e], by omega, by go_num, rfl, Lib.hid ⟨H5.out.1, ?_, H5.out.2⟩⟩
          have h := HR.out.2.1
          rw [if_pos rfl, HDR.out] at h
          rw [h, if_pos rfl]
          simp
    · obtain rfl : k = N := by omega
      have hq := (H3.out.1.below HR.out.2.2)
      have q0 := hq.cells.1
      have q1 := hq.cells.2
      have fq : ∀ o, wr.frozen? ⟨q, o, none⟩ = false := fun o => by simp [World.frozen?, hq.cell]
      have f1 := fq 1
      have HQ := Lib.hid hq
      have hdr : TT.drop k = [] := List.drop_of_length_le (by rw [HN.out]; exact Nat.le_refl _)
      have hfin := HR.out.2.1
      rw [hdr] at hfin
      have HF := Lib.hid hfin
      clear fq hq hdr hfin
      cases d
      · go_wp2_with (at_builtin; refine wpList_append_lies _ rfl (.tmp 44) (.tmp 47) 28 rfl w1.heap.size 90 i0 _ 4 24 Try.underlying28 HI.out.1 HI.out.2.1 HI.out.2.2.1 HI.out.2.2.2 rfl (by decide) (.slice lo out.length cap2) out.length (out.flatMap cellsE) rfl ((show Ap w1 out _ wr from ⟨HR.out.1, HR.out.2.2⟩).1.alloc _) ⟨wr.heap.size, 0, none⟩ 1 1 (cellsE (t, 2)) rfl rfl (newsE wr (t, 2)) (oneE _) (by decide) (by unfold maxLen; omega) (by omega) (by have := (show Ap w1 out _ wr from ⟨HR.out.1, HR.out.2.2⟩).2.size; simp; omega) _ rfl ?_; intro g5 c5 w5 hown hgrow _ _; have H5 := Lib.hid ((show Ap w1 out _ wr from ⟨HR.out.1, HR.out.2.2⟩).step hown hgrow); have hq5 := (H3.out.1.below H5.out.2); have q50 := hq5.cells.1; have q51 := hq5.cells.2; have f51 : w5.frozen? ⟨q, 1, none⟩ = false := (by simp [World.frozen?, hq5.cell]); clear hq5; clear hown hgrow)
        go_ret
        refine ⟨rfl, rtake_end HFW.out.1 HFW.out.2 H2.out H3.out.1 HNN.out.1 HNN.out.2 (H5.out.2) ?_⟩
        · have h := H5.out.1
          have h2 := HF.out
          rw [if_neg (by decide), insT] at h2
          rw [h2]; exact h
      · go_wp2
        go_ret
        refine ⟨rfl, rtake_end HFW.out.1 HFW.out.2 H2.out H3.out.1 HNN.out.1 HNN.out.2 (HR.out.2.2) ?_⟩
        · have h := HR.out.1
          have h2 := HF.out
          simp only [if_true, List.append_nil] at h2
          rw [h2]; exact h
end
end Go.Proofs.Ytklalpamcfkngaa.Cm
