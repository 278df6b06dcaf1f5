import Derived.Test.YtdbdljjhhehbiaaGreatU
namespace Go.Proofs.YtdbdljjhhehbiaaGreat
open Go.RowKit
attribute [local go_sem] bs_size bs_append

/-- The code of a step. -/
structure OpCode (w : World) (v : Value) (l : List I) (no : Nat → Prop) : Prop where
  cv : CodeV w v l
  wf : ∀ x ∈ l, x.wf
  far : ∀ b off c, v = .slice (some ⟨b, off, none⟩) l.length c → l ≠ [] → no b
theorem CodeV.below {w w1 : World} {v : Value} {l : List I} (h : CodeV w v l) (k : Below w.heap.size w w1) : CodeV w1 v l := by
  obtain ⟨⟨ao, cap, rfl, hc⟩, hs⟩ := h
  refine ⟨⟨ao, cap, rfl, fun hne => ?_⟩, hs⟩
  obtain ⟨b, off, rfl, hca⟩ := hc hne
  exact ⟨b, off, rfl, hca.keeps (Below.keeps k (fun _ => False)) (fun h => h)⟩
/-- What a step has done to one pair. -/
def Went (e : En) (w w' : World) : Prop := ∃ e' : En, e'.P = e.P ∧ e'.ok w' ∧ Keeps e.S w w' ∧ ∀ k, e'.S k → e.S k ∨ w.heap.size ≤ k

theorem went_submit {e : En} {w w1 w' : World} {l : List I} (hb : Below w.heap.size w w1) (he : e.ok w)
    (h : ∃ rv' wv' lv' cv' dv' tv', Bk w' e.B (subN l e.n) (subLog l e.n e.log) rv' wv' lv' ∧ Rf w' e.R (subN l e.n) (subLog l e.n e.log) cv' dv' tv' ∧ Keeps (Sp e.B e.R e.rv e.wv e.lv e.cv e.dv e.tv) w1 w' ∧ Moved w1 e.rv rv' ∧ Moved w1 e.wv wv' ∧ Moved w1 e.lv lv' ∧ Moved w1 e.cv cv' ∧ Moved w1 e.dv dv' ∧ Moved w1 e.tv tv' ∧ Apart dv' rv') : Went e w w' := by
  obtain ⟨rv', wv', lv', cv', dv', tv', h1, h2, h3, m0, m1, m2, m3, m4, m5, ha⟩ := h
  have hk : Keeps e.S w w' := (Below.keeps hb e.S).trans h3 (fun _ h _ => h)
  have he1 := he.below hb
  refine ⟨⟨e.P, e.B, e.R, subN l e.n, subLog l e.n e.log, rv', wv', lv', cv', dv', tv'⟩, rfl, ⟨?_, h1, h2, ha, subN_le l _ he.n60, subLog_le l _ _ he.small⟩, hk, ?_⟩
  · refine blk_keeps he1.blk h3 (fun s => ?_)
    obtain ⟨bt, wk, bn, mp, hb2⟩ := he1.bk.blk
    obtain ⟨vs, hv⟩ := he1.bk.orr
    obtain ⟨xs, hx⟩ := he1.bk.ow
    obtain ⟨sz, bat, pv, hr⟩ := he1.rf.blk
    obtain ⟨ys, hy⟩ := he1.rf.oc
    obtain ⟨zs, hz⟩ := he1.rf.od
    obtain ⟨us, hu⟩ := he1.rf.ot
    have hP := he1.blk
    rcases s with (hk | hk | hk | hk) | (hk | hk | hk | hk)
    · rw [hk, hb2] at hP; simp at hP
    · exact own_apart hv hP (by decide) hk
    · exact own_apart hx hP (by decide) hk
    · exact own_apart he1.bk.ol hP (by decide) hk
    · rw [hk, hr] at hP; simp at hP
    · exact own_apart hy hP (by decide) hk
    · exact own_apart hz hP (by decide) hk
    · exact own_apart hu hP (by decide) hk
  · have hs := hb.size
    have mv : ∀ {v v' : Value} {k : Nat}, Moved w1 v v' → some k = v'.ownBlock → some k = v.ownBlock ∨ w.heap.size ≤ k := by
      intro v v' k m hk
      rcases m with e | ⟨g, e, hg⟩
      · exact Or.inl (hk.trans e)
      · rw [e] at hk; simp at hk; subst hk; exact Or.inr (by omega)
    rintro k ((hk | hk | hk | hk) | (hk | hk | hk | hk))
    · exact Or.inl (Or.inl (Or.inl hk))
    · exact (mv m0 hk).imp (fun h => Or.inl (Or.inr (Or.inl h))) id
    · exact (mv m1 hk).imp (fun h => Or.inl (Or.inr (Or.inr (Or.inl h)))) id
    · exact (mv m2 hk).imp (fun h => Or.inl (Or.inr (Or.inr (Or.inr h)))) id
    · exact Or.inl (Or.inr (Or.inl hk))
    · exact (mv m3 hk).imp (fun h => Or.inr (Or.inr (Or.inl h))) id
    · exact (mv m4 hk).imp (fun h => Or.inr (Or.inr (Or.inr (Or.inl h)))) id
    · exact (mv m5 hk).imp (fun h => Or.inr (Or.inr (Or.inr (Or.inr h)))) id
theorem went_same {e : En} {w w' : World} (he : e.ok w) (hb : Below w.heap.size w w') : Went e w w' := ⟨e, rfl, he.below hb, Below.keeps hb _, fun _ h => Or.inl h⟩

set_option maxRecDepth 100000 in
set_option maxHeartbeats 400000 in
theorem does_submit (e : En) (bk A B : Int) (S : ByteArray) (v : Value) (l : List I) (w : World) (he : e.ok w) (hv : OpCode w v l (fun b => ¬ e.foot b)) :
    Calls Tryz.prog 56 #[.pointer (some ⟨e.P, 0, none⟩), .agg #[.int .i64 2, .int .i64 bk, .int .i64 A, .int .i64 B, .string S, v]] w fun r w' => r = .returned (.bool true) ∧ Went e w w' := by
  obtain ⟨ao, cap, hve, _⟩ := hv.cv.form
  have HF := hide (show ∀ b off, ao = some ⟨b, off, none⟩ → l ≠ [] → ¬ Sp e.B e.R e.rv e.wv e.lv e.cv e.dv e.tv b from fun b off hao hne s => hv.far b off cap (by rw [hve, hao]) hne (Or.inr s))
  subst hve
  have hb : Below w.heap.size w (w.alloc (.cells #[.int .i64 2, .int .i64 bk, .int .i64 A, .int .i64 B, .string S, .slice ao l.length cap] 76)) := (Below.refl _ _).alloc (Nat.le_refl _) _
  have HB := hide hb
  have HE1 := hide (he.below hb)
  have HC := hide (hv.cv.below hb)
  have HWF := hide hv.wf
  have HE := hide he
  clear hv hb he
  go_enter Tryz.func56, Tryz.ntmps56
  go_wp2_with (first | (go_at_call 85; refine (lsubmit_any e.P e.B e.R e.n ao cap l e.log e.rv e.wv e.lv e.cv e.dv e.tv _ HE1.out.blk HE1.out.bk HE1.out.rf HE1.out.ap HE1.out.n60 HE1.out.small HC.out HWF.out HF.out).mono ?_; rintro r w' ⟨rfl, hx⟩; have HX := hide (went_submit HB.out HE.out hx); clear hx))
  go_ret
  exact ⟨rfl, HX.out⟩

set_option maxRecDepth 100000 in
set_option maxHeartbeats 400000 in
theorem does_log (e : En) (bk A B : Int) (S : ByteArray) (v : Value) (w : World) (he : e.ok w) (hv : ∃ ao n c, v = .slice ao n c) :
    Calls Tryz.prog 56 #[.pointer (some ⟨e.P, 0, none⟩), .agg #[.int .i64 3, .int .i64 bk, .int .i64 A, .int .i64 B, .string S, v]] w fun r w' => r = .returned (.bool true) ∧ Went e w w' := by
  obtain ⟨ao, n', cap, rfl⟩ := hv
  have hb : Below w.heap.size w (w.alloc (.cells #[.int .i64 3, .int .i64 bk, .int .i64 A, .int .i64 B, .string S, .slice ao n' cap] 76)) := (Below.refl _ _).alloc (Nat.le_refl _) _
  have HE1 := hide (he.below hb)
  have HX := hide (went_same he hb)
  obtain ⟨sz, bat, pv, hr⟩ := (he.below hb).rf.blk
  have cP0 : w.cell? ⟨e.P, 0, none⟩ = some (.pointer (some ⟨e.B, 0, none⟩)) := blk_cell (i := 0) he.blk rfl
  have cP1 : w.cell? ⟨e.P, 1, none⟩ = some (.pointer (some ⟨e.R, 0, none⟩)) := blk_cell (i := 1) he.blk rfl
  have hPl := lt_of_block he.blk
  have hRl := he.rf.lts.1
  obtain ⟨sz', bat', pv', hr'⟩ := he.rf.blk
  have cR5 : w.cell? ⟨e.R, 5, none⟩ = some (.string (bs e.log)) := blk_cell (i := 5) hr' rfl
  clear hr hr' hb he
  go_enter Tryz.func56, Tryz.ntmps56
  go_wp2_with (first | (go_at_call 15; refine (Log_any e.B e.n e.log e.rv e.wv e.lv _ HE1.out.bk).mono ?_; rintro r w' ⟨rfl, rfl⟩))
  go_ret
  exact ⟨by simp, HX.out⟩

set_option maxRecDepth 100000 in
set_option maxHeartbeats 400000 in
theorem looks_any (base V : Nat) (es : List En) (w : World) (h : Inv base w V es) :
    Calls Tryz.prog 26 #[.pointer (some ⟨V, 0, none⟩)] w fun r w' => r = .returned (.bool true) ∧ w' = w := by
  obtain ⟨psv, hb, _, _⟩ := h.blk
  have c1 : w.cell? ⟨V, 1, none⟩ = some (.slice none 0 0) := blk_cell (i := 1) hb rfl
  have c3 : w.cell? ⟨V, 3, none⟩ = some (.slice none 0 0) := blk_cell (i := 3) hb rfl
  clear h hb
  go_enter Tryz.func26, Tryz.ntmps26
  go_wp2
  refine wp_loop_rounds 1 ?_
  rw [rounds_succ]
  go_wp2
  refine wp_loop_rounds 1 ?_
  rw [rounds_succ]
  go_wp2
  go_ret
  exact ⟨rfl, rfl⟩

end Go.Proofs.YtdbdljjhhehbiaaGreat
