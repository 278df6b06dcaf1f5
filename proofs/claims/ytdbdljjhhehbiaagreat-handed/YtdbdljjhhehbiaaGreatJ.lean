import Derived.Test.YtdbdljjhhehbiaaGreatH
namespace Go.Proofs.YtdbdljjhhehbiaaGreat
open Go.RowKit

set_option maxRecDepth 100000 in
set_option maxHeartbeats 1000000 in
theorem instruction_set (x : I) (len : Nat) (w : World) (_hlen : len ≤ 20) (h1 : inB 0 x.op 11 = true) (h2 : inB 0 x.r 3 = true) (h3 : inB 0 x.s 3 = true) (hk : keyed x.op = false) (hj : (x.op != 9) = true) (hn : numbered x.op = true) :
    Calls Tryz.prog 73 #[.agg #[.int .i64 x.op, .int .i64 x.r, .int .i64 x.s, .int .i64 x.n, .string x.key], .int .i64 len] w (insRet len x w) := by
  have b1 := inB_true h1
  have b2 := inB_true h2
  have b3 := inB_true h3
  have Hok : Hid (insOk len x = true) := insOk_plain x len h1 h2 h3 hk hj
  have HpI : Hid _ := pI_num x hk hn
  go_enter Tryz.func73, Tryz.ntmps73
  go_wp2_with (first | (go_at_call 72; refine (within_any _ _ _ _).mono ?_; rintro e w' ⟨rfl, rfl⟩) | (go_at_call 102; refine (isRegister_any _ _).mono ?_; rintro e w' ⟨rfl, rfl⟩) | (go_at_call 76; refine (needsKey_any _ _).mono ?_; rintro e w' ⟨rfl, rfl⟩) | (go_at_call 74; refine (needsNumber_any _ _).mono ?_; rintro e w' ⟨rfl, rfl⟩))
  go_region
  all_goals
    go_wp2
    refine bodyPost_ret (v := .tuple #[.agg #[.int .u8 x.op, .int .u8 x.r, .int .u8 x.s, .int .i64 x.n, .int .u8 0, .int .u8 0, .int .u8 0, .int .u8 0], .bool true]) (by simp [results, Tryz.results73, go_sem]) rfl ⟨⟨_, by rw [Hok.out], fun _ => HpI.out.symm, _, _, _, _, _, _, _, _, rfl⟩, ?_⟩
    repeat' first | exact Below.refl _ _ | apply Below.drew | refine Below.alloc ?_ ?_ _ | (simp; done) | (simp; omega)

set_option maxRecDepth 100000 in
set_option maxHeartbeats 1000000 in
theorem instruction_none (x : I) (len : Nat) (w : World) (_hlen : len ≤ 20) (h1 : inB 0 x.op 11 = true) (h2 : inB 0 x.r 3 = true) (h3 : inB 0 x.s 3 = true) (hk : keyed x.op = false) (hj : (x.op != 9) = true) (hn : numbered x.op = false) :
    Calls Tryz.prog 73 #[.agg #[.int .i64 x.op, .int .i64 x.r, .int .i64 x.s, .int .i64 x.n, .string x.key], .int .i64 len] w (insRet len x w) := by
  have b1 := inB_true h1
  have b2 := inB_true h2
  have b3 := inB_true h3
  have Hok : Hid (insOk len x = true) := insOk_plain x len h1 h2 h3 hk hj
  have HpI : Hid _ := pI_none x hk hn
  go_enter Tryz.func73, Tryz.ntmps73
  go_wp2_with (first | (go_at_call 72; refine (within_any _ _ _ _).mono ?_; rintro e w' ⟨rfl, rfl⟩) | (go_at_call 102; refine (isRegister_any _ _).mono ?_; rintro e w' ⟨rfl, rfl⟩) | (go_at_call 76; refine (needsKey_any _ _).mono ?_; rintro e w' ⟨rfl, rfl⟩) | (go_at_call 74; refine (needsNumber_any _ _).mono ?_; rintro e w' ⟨rfl, rfl⟩))
  go_region
  all_goals
    go_wp2
    refine bodyPost_ret (v := .tuple #[.agg #[.int .u8 x.op, .int .u8 x.r, .int .u8 x.s, .int .i64 0, .int .u8 0, .int .u8 0, .int .u8 0, .int .u8 0], .bool true]) (by simp [results, Tryz.results73, go_sem]) rfl ⟨⟨_, by rw [Hok.out], fun _ => HpI.out.symm, _, _, _, _, _, _, _, _, rfl⟩, ?_⟩
    repeat' first | exact Below.refl _ _ | apply Below.drew | refine Below.alloc ?_ ?_ _ | (simp; done) | (simp; omega)

theorem instruction_any (x : I) (len : Nat) (w : World) (hx : x.wf) (hlen : len ≤ 20) :
    Calls Tryz.prog 73 #[.agg #[.int .i64 x.op, .int .i64 x.r, .int .i64 x.s, .int .i64 x.n, .string x.key], .int .i64 len] w (insRet len x w) := by
  by_cases hb : ¬ (0 ≤ x.op ∧ x.op ≤ 11) ∨ ¬ (0 ≤ x.r ∧ x.r ≤ 3) ∨ ¬ (0 ≤ x.s ∧ x.s ≤ 3)
  · exact instruction_bad x len w hb
  · have h1 : inB 0 x.op 11 = true := by simp only [inB, decide_eq_true_eq]; omega
    have h2 : inB 0 x.r 3 = true := by simp only [inB, decide_eq_true_eq]; omega
    have h3 : inB 0 x.s 3 = true := by simp only [inB, decide_eq_true_eq]; omega
    cases hk : keyed x.op
    · cases hj : (x.op != 9)
      · exact instruction_jump x len w hlen h1 h2 h3 hk hj
      · cases hn : numbered x.op
        · exact instruction_none x len w hlen h1 h2 h3 hk hj hn
        · exact instruction_set x len w hlen h1 h2 h3 hk hj hn
    · by_cases h4 : x.key.size ≤ 4
      · exact instruction_key x len w h1 h2 h3 hk h4
      · exact instruction_long x len w h1 h2 h3 hk (by omega) hx.2.2.2.2

end Go.Proofs.YtdbdljjhhehbiaaGreat
