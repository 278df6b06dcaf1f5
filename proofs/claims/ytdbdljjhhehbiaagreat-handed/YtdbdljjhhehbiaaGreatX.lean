import Derived.Test.YtdbdljjhhehbiaaGreatW
namespace Go.Proofs.YtdbdljjhhehbiaaGreat
open Go.RowKit

theorem Step.behind {base V m : Nat} {w w1 w' : World} (hb : Below base w w1) (h : Step base w1 V m w') : Step base w V m w' := by
  obtain ⟨es, h1, h2, h3, h4⟩ := h
  exact ⟨es, h1, h2, h3, hb.trans h4⟩

set_option maxRecDepth 100000 in
set_option maxHeartbeats 1000000 in
theorem step_new (base V : Nat) (es : List En) (bk A B : Int) (S : ByteArray) (ao : Option Addr) (n c : Nat) (w : World) (hI : Inv base w V es) (hbs : base ≤ w.heap.size) (hne : 0 < es.length) (hm : (es.length + 1) * 8 ≤ 140737488355328) :
    Calls Tryz.prog 25 #[.pointer (some ⟨V, 0, none⟩), .agg #[.int .i64 1, .int .i64 bk, .int .i64 A, .int .i64 B, .string S, .slice ao n c]] w fun r w' => r = .returned (.bool true) ∧ Step base w V (es.length + 1) w' := by
  have hb : Below w.heap.size w (w.alloc (.cells #[.int .i64 1, .int .i64 bk, .int .i64 A, .int .i64 B, .string S, .slice ao n c] 76)) := (Below.refl _ _).alloc (Nat.le_refl _) _
  have HI := hide (hI.below hb)
  have HB := hide (hb.mono hbs)
  have HS := hide (Nat.le_trans hbs hb.size)
  clear hI hb hbs
  have key : Calls Tryz.prog 48 #[.pointer (some ⟨V, 0, none⟩), .agg #[.int .i64 1, .int .i64 bk, .int .i64 A, .int .i64 B, .string S, .slice ao n c]] (w.alloc (.cells #[.int .i64 1, .int .i64 bk, .int .i64 A, .int .i64 B, .string S, .slice ao n c] 76)) fun r w' => r = .returned (.bool true) ∧ Step base (w.alloc (.cells #[.int .i64 1, .int .i64 bk, .int .i64 A, .int .i64 B, .string S, .slice ao n c] 76)) V (es.length + 1) w' := by
    by_cases h : 1 ≤ A ∧ A ≤ 8 ∧ 1 ≤ B ∧ B ≤ 5
    · exact opens_yes base V es bk A B S ao n c _ HI.out HS.out hm h.1 h.2.1 h.2.2.1 h.2.2.2
    · exact opens_no base V es bk A B S ao n c _ HI.out HS.out hne h
  have HK := hide key
  clear key
  go_enter Tryz.func25, Tryz.ntmps25
  go_wp2_with (first | (go_at_call 48; refine HK.out.mono ?_; rintro r w' ⟨rfl, hx⟩; have HX := hide (hx.behind HB.out); clear hx))
  go_ret
  exact ⟨rfl, HX.out⟩

set_option maxRecDepth 100000 in
set_option maxHeartbeats 1000000 in
theorem step_idle (base V : Nat) (es : List En) (kd bk A B : Int) (S : ByteArray) (ao : Option Addr) (n c : Nat) (w : World) (hI : Inv base w V es) (hbs : base ≤ w.heap.size) (hne : 0 < es.length) (hk : kd < 1) :
    Calls Tryz.prog 25 #[.pointer (some ⟨V, 0, none⟩), .agg #[.int .i64 kd, .int .i64 bk, .int .i64 A, .int .i64 B, .string S, .slice ao n c]] w fun r w' => r = .returned (.bool true) ∧ Step base w V (es.length + 1) w' := by
  have hb : Below w.heap.size w (w.alloc (.cells #[.int .i64 kd, .int .i64 bk, .int .i64 A, .int .i64 B, .string S, .slice ao n c] 76)) := (Below.refl _ _).alloc (Nat.le_refl _) _
  have HX := hide (show Step base w V (es.length + 1) _ from ⟨es, hI.below hb, hne, by omega, hb.mono hbs⟩)
  have h1 : (kd == 1) = false := by rw [beq_eq_false_iff_ne]; omega
  have h4 : (kd == 4) = false := by rw [beq_eq_false_iff_ne]; omega
  have h5 : (kd == 5) = false := by rw [beq_eq_false_iff_ne]; omega
  have h2 : kd < 2 := by omega
  clear hI hb hbs
  go_enter Tryz.func25, Tryz.ntmps25
  go_wp2
  go_ret
  exact ⟨rfl, HX.out⟩

/-- From what happened to one pair to what happened to all. -/
theorem step_of_went {base V : Nat} {es : List En} {w w1 w' : World} (hI : Inv base w1 V es) (hbs : base ≤ w1.heap.size) (hb : Below base w w1) (i : Nat) (hi : i < es.length) (h : Went es[i] w1 w') : Step base w V (es.length + 1) w' := by
  obtain ⟨e', hP, hok, hk, hf⟩ := h
  refine ⟨es.set i e', hI.move hbs i hi e' hP hok hk hf, by rw [List.length_set]; omega, by rw [List.length_set]; omega, hb.trans ⟨hk.os, hk.tape, hk.output, hk.size, fun k hk' => hk.block k (by omega) (fun s => ?_)⟩⟩
  have := hI.lo i hi k (Or.inr s)
  omega

theorem drewN_below (w : World) (n : Nat) : Below w.heap.size w (w.drewN n) := ⟨rfl, rfl, rfl, Nat.le_refl _, fun _ _ => rfl⟩

set_option maxRecDepth 100000 in
set_option maxHeartbeats 1000000 in
theorem step_two (base V : Nat) (es : List En) (bk A B : Int) (S : ByteArray) (ao : Option Addr) (c : Nat) (l : List I) (w : World) (hI : Inv base w V es) (hbs : base ≤ w.heap.size) (hne : 0 < es.length) (hm : es.length ≤ 140737488355328) (hbk : -9223372036854775808 ≤ bk ∧ bk ≤ 9223372036854775807)
    (hv : OpCode w (.slice ao l.length c) l (fun b => ∀ i (hi : i < es.length), ¬ es[i].foot b)) :
    Calls Tryz.prog 25 #[.pointer (some ⟨V, 0, none⟩), .agg #[.int .i64 2, .int .i64 bk, .int .i64 A, .int .i64 B, .string S, .slice ao l.length c]] w fun r w' => r = .returned (.bool true) ∧ Step base w V (es.length + 1) w' := by
  have hb : Below w.heap.size w (w.alloc (.cells #[.int .i64 2, .int .i64 bk, .int .i64 A, .int .i64 B, .string S, .slice ao l.length c] 76)) := (Below.refl _ _).alloc (Nat.le_refl _) _
  have HI := hide (hI.below hb)
  have HB := hide (hb.mono hbs)
  have HS := hide (Nat.le_trans hbs hb.size)
  obtain ⟨psv, hV, ho, _⟩ := hI.blk
  have hpi := pickOf_lt bk es.length hne
  obtain ⟨g, cap, hps, _, hgl⟩ := World.ownsRow.form ho hne
  subst hps
  have cV : w.cell? ⟨V, 0, none⟩ = some (.slice (some ⟨g, 0, none⟩) es.length cap) := blk_cell (i := 0) hV rfl
  have hVl := lt_of_block hV
  have cG : w.cell? ⟨g, pickOf bk es.length, none⟩ = some (.pointer (some ⟨es[pickOf bk es.length].P, 0, none⟩)) := by
    have := World.ownsRow.cells ho (g := g) rfl (pickOf bk es.length) (.pointer (some ⟨es[pickOf bk es.length].P, 0, none⟩)) (by simp [hpi])
    rwa [add_lit, Nat.zero_add] at this
  have HOC := hide (show OpCode (w.alloc (.cells #[.int .i64 2, .int .i64 bk, .int .i64 A, .int .i64 B, .string S, .slice ao l.length c] 76)) (.slice ao l.length c) l (fun b => ¬ es[pickOf bk es.length].foot b) from ⟨hv.cv.below hb, hv.wf, fun b off c' he hn => hv.far b off c' he hn _ hpi⟩)
  have hpi1 : ((pickOf bk es.length : Nat) : Int) < (es.length : Int) := by omega
  have hpi0 : (0 : Int) ≤ ((pickOf bk es.length : Nat) : Int) := by omega
  have HPI := hide hpi
  have HBK := hide hbk
  have HNE := hide hne
  have HM := hide (show es.length ≤ 9223372036854775807 by omega)
  clear hI hb hbs ho hV hv hbk hne
  go_enter Tryz.func25, Tryz.ntmps25
  go_wp2
  go_quiet ((go_at_call 49; exact Calls.quiet_of_same (pick_any _ _ _ HBK.out.1 HBK.out.2 HNE.out HM.out)))
  have HD := hide (drewN_below (w.alloc (.cells #[.int .i64 2, .int .i64 bk, .int .i64 A, .int .i64 B, .string S, .slice ao l.length c] 76)) nq)
  have HI2 := hide (HI.out.below HD.out)
  have HB2 := hide (HB.out.trans (HD.out.mono HS.out))
  have HOC2 := hide (show OpCode ((w.alloc (.cells #[.int .i64 2, .int .i64 bk, .int .i64 A, .int .i64 B, .string S, .slice ao l.length c] 76)).drewN nq) (.slice ao l.length c) l (fun b => ¬ es[pickOf bk es.length].foot b) from ⟨HOC.out.cv.below HD.out, HOC.out.wf, HOC.out.far⟩)
  go_wp2_with (first | (go_at_call 56; refine (does_submit es[pickOf bk es.length] bk A B S _ l _ (HI2.out.ok _ HPI.out) HOC2.out).mono ?_; rintro r w' ⟨rfl, hx⟩; have HX := hide (step_of_went HI2.out (Nat.le_trans HS.out HD.out.size) HB2.out _ HPI.out hx); clear hx))
  go_ret
  exact ⟨rfl, HX.out⟩

set_option maxRecDepth 100000 in
set_option maxHeartbeats 1000000 in
theorem step_three (base V : Nat) (es : List En) (bk A B : Int) (S : ByteArray) (ao : Option Addr) (n c : Nat) (w : World) (hI : Inv base w V es) (hbs : base ≤ w.heap.size) (hne : 0 < es.length) (hm : es.length ≤ 140737488355328) (hbk : -9223372036854775808 ≤ bk ∧ bk ≤ 9223372036854775807) :
    Calls Tryz.prog 25 #[.pointer (some ⟨V, 0, none⟩), .agg #[.int .i64 3, .int .i64 bk, .int .i64 A, .int .i64 B, .string S, .slice ao n c]] w fun r w' => r = .returned (.bool true) ∧ Step base w V (es.length + 1) w' := by
  have hb : Below w.heap.size w (w.alloc (.cells #[.int .i64 3, .int .i64 bk, .int .i64 A, .int .i64 B, .string S, .slice ao n c] 76)) := (Below.refl _ _).alloc (Nat.le_refl _) _
  have HI := hide (hI.below hb)
  have HB := hide (hb.mono hbs)
  have HS := hide (Nat.le_trans hbs hb.size)
  obtain ⟨psv, hV, ho, _⟩ := hI.blk
  have hpi := pickOf_lt bk es.length hne
  obtain ⟨g, cap, hps, _, hgl⟩ := World.ownsRow.form ho hne
  subst hps
  have cV : w.cell? ⟨V, 0, none⟩ = some (.slice (some ⟨g, 0, none⟩) es.length cap) := blk_cell (i := 0) hV rfl
  have hVl := lt_of_block hV
  have cG : w.cell? ⟨g, pickOf bk es.length, none⟩ = some (.pointer (some ⟨es[pickOf bk es.length].P, 0, none⟩)) := by
    have := World.ownsRow.cells ho (g := g) rfl (pickOf bk es.length) (.pointer (some ⟨es[pickOf bk es.length].P, 0, none⟩)) (by simp [hpi])
    rwa [add_lit, Nat.zero_add] at this
  have hpi1 : ((pickOf bk es.length : Nat) : Int) < (es.length : Int) := by omega
  have hpi0 : (0 : Int) ≤ ((pickOf bk es.length : Nat) : Int) := by omega
  have HPI := hide hpi
  have HBK := hide hbk
  have HNE := hide hne
  have HM := hide (show es.length ≤ 9223372036854775807 by omega)
  clear hI hb hbs ho hV hbk hne
  go_enter Tryz.func25, Tryz.ntmps25
  go_wp2
  go_quiet ((go_at_call 49; exact Calls.quiet_of_same (pick_any _ _ _ HBK.out.1 HBK.out.2 HNE.out HM.out)))
  have HD := hide (drewN_below (w.alloc (.cells #[.int .i64 3, .int .i64 bk, .int .i64 A, .int .i64 B, .string S, .slice ao n c] 76)) nq)
  have HI2 := hide (HI.out.below HD.out)
  have HB2 := hide (HB.out.trans (HD.out.mono HS.out))
  go_wp2_with (first | (go_at_call 56; refine (does_log es[pickOf bk es.length] bk A B S _ _ (HI2.out.ok _ HPI.out) ⟨ao, n, c, rfl⟩).mono ?_; rintro r w' ⟨rfl, hx⟩; have HX := hide (step_of_went HI2.out (Nat.le_trans HS.out HD.out.size) HB2.out _ HPI.out hx); clear hx))
  go_ret
  exact ⟨rfl, HX.out⟩

end Go.Proofs.YtdbdljjhhehbiaaGreat
