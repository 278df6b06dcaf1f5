import Derived.Test.YtdbdljjhhehbiaaGreatG
namespace Go.Proofs.YtdbdljjhhehbiaaGreat
open Go.RowKit

theorem insOk_key_long (x : I) (len : Nat) (hk : keyed x.op = true) (h4 : 4 < x.key.size) : insOk len x = false := by
  have b4 : 1 ≤ x.op ∧ x.op ≤ 4 := by simpa [keyed] using hk
  have hn : isKey x.key.data.toList = false := by
    have : ¬ x.key.data.toList.length ≤ 4 := by rw [Array.length_toList]; show ¬ x.key.size ≤ 4; omega
    simp only [isKey, this, decide_false, Bool.and_false]
  simp only [insOk, decide_eq_false_iff_not]
  intro h
  have := h.2.2.2.2.2.2.2 b4
  rw [hn] at this
  cases this

set_option maxRecDepth 100000 in
set_option maxHeartbeats 1000000 in
theorem instruction_long (x : I) (len : Nat) (w : World) (h1 : inB 0 x.op 11 = true) (h2 : inB 0 x.r 3 = true) (h3 : inB 0 x.s 3 = true) (hk : keyed x.op = true) (h4 : 4 < x.key.size) (h5 : x.key.size ≤ maxLen) :
    Calls Tryz.prog 73 #[.agg #[.int .i64 x.op, .int .i64 x.r, .int .i64 x.s, .int .i64 x.n, .string x.key], .int .i64 len] w (insRet len x w) := by
  have b1 := inB_true h1
  have b2 := inB_true h2
  have b3 := inB_true h3
  have Hok : Hid (insOk len x = false) := insOk_key_long x len hk h4
  have hnk : noKey 0 0 0 0 = true := rfl
  go_enter Tryz.func73, Tryz.ntmps73
  go_wp2_with (first | (go_at_call 72; refine (within_any _ _ _ _).mono ?_; rintro e w' ⟨rfl, rfl⟩) | (go_at_call 102; refine (isRegister_any _ _).mono ?_; rintro e w' ⟨rfl, rfl⟩) | (go_at_call 76; refine (needsKey_any _ _).mono ?_; rintro e w' ⟨rfl, rfl⟩) | (go_at_call 103; refine (Of_long _ _ h5 h4).mono ?_; rintro e w' ⟨rfl, rfl⟩; simp only [kcells, kN, List.getD_nil, UInt8.toNat_zero, Int.natCast_zero]))
  go_region_with (go_at_call 104; refine (IsNone_any _ _ _ _ _).mono ?_; rintro e w' ⟨rfl, rfl⟩)
  all_goals
    go_wp2
    refine bodyPost_ret (v := .tuple #[.agg #[.int .u8 x.op, .int .u8 x.r, .int .u8 x.s, .int .i64 0, .int .u8 0, .int .u8 0, .int .u8 0, .int .u8 0], .bool false]) (by simp [results, Tryz.results73, go_sem]) rfl ⟨⟨_, by rw [Hok.out], (fun h => by rw [Hok.out] at h; cases h), _, _, _, _, _, _, _, _, rfl⟩, ?_⟩
    repeat' first | exact Below.refl _ _ | apply Below.drew | refine Below.alloc ?_ ?_ _ | (simp; done) | (simp; omega)

theorem insOk_plain (x : I) (len : Nat) (h1 : inB 0 x.op 11 = true) (h2 : inB 0 x.r 3 = true) (h3 : inB 0 x.s 3 = true) (hk : keyed x.op = false) (hj : (x.op != 9) = true) : insOk len x = true := by
  have b1 := inB_true h1
  have b2 := inB_true h2
  have b3 := inB_true h3
  have b4 : ¬ (1 ≤ x.op ∧ x.op ≤ 4) := by simpa [keyed] using hk
  have b5 : x.op ≠ 9 := by simpa using hj
  simp only [insOk, decide_eq_true_eq]
  exact ⟨by omega, by omega, by omega, by omega, by omega, by omega, fun g => by omega, fun g => absurd g b4⟩
theorem insOk_jump (x : I) (len : Nat) (h1 : inB 0 x.op 11 = true) (h2 : inB 0 x.r 3 = true) (h3 : inB 0 x.s 3 = true) (hk : keyed x.op = false) (hj : (x.op != 9) = false) : insOk len x = inB 0 x.n (len - 1) := by
  have b1 := inB_true h1
  have b2 := inB_true h2
  have b3 := inB_true h3
  have b4 : ¬ (1 ≤ x.op ∧ x.op ≤ 4) := by simpa [keyed] using hk
  have b5 : x.op = 9 := by simpa using hj
  rw [Bool.eq_iff_iff]
  simp only [insOk, inB, decide_eq_true_eq]
  constructor
  · intro h; have := h.2.2.2.2.2.2.1 b5; omega
  · intro h; exact ⟨by omega, by omega, by omega, by omega, by omega, by omega, fun g => by omega, fun g => absurd g b4⟩
theorem pI_num (x : I) (hk : keyed x.op = false) (hn : numbered x.op = true) : pI x = #[.int .u8 x.op, .int .u8 x.r, .int .u8 x.s, .int .i64 x.n, .int .u8 0, .int .u8 0, .int .u8 0, .int .u8 0] := by
  simp only [pI, pN, pK, hk, hn, if_true, Bool.false_eq_true, if_false]; rfl
theorem pI_none (x : I) (hk : keyed x.op = false) (hn : numbered x.op = false) : pI x = #[.int .u8 x.op, .int .u8 x.r, .int .u8 x.s, .int .i64 0, .int .u8 0, .int .u8 0, .int .u8 0, .int .u8 0] := by
  simp only [pI, pN, pK, hk, hn, Bool.false_eq_true, if_false]; rfl

set_option maxRecDepth 100000 in
set_option maxHeartbeats 1000000 in
theorem instruction_jump (x : I) (len : Nat) (w : World) (hlen : len ≤ 20) (h1 : inB 0 x.op 11 = true) (h2 : inB 0 x.r 3 = true) (h3 : inB 0 x.s 3 = true) (hk : keyed x.op = false) (hj : (x.op != 9) = false) :
    Calls Tryz.prog 73 #[.agg #[.int .i64 x.op, .int .i64 x.r, .int .i64 x.s, .int .i64 x.n, .string x.key], .int .i64 len] w (insRet len x w) := by
  have b1 := inB_true h1
  have b2 := inB_true h2
  have b3 := inB_true h3
  have Hok : Hid (insOk len x = inB 0 x.n (len - 1)) := insOk_jump x len h1 h2 h3 hk hj
  have hn : numbered x.op = true := by simp [numbered]; simp at hj; omega
  have HpI : Hid _ := pI_num x hk hn
  have hwl : IntKind.i64.wrap ((len : Int) - 1) = len - 1 := by rw [IntKind.wrap_i64]; omega
  go_enter Tryz.func73, Tryz.ntmps73
  go_wp2_with (first | (go_at_call 72; refine (within_any _ _ _ _).mono ?_; rintro e w' ⟨rfl, rfl⟩) | (go_at_call 102; refine (isRegister_any _ _).mono ?_; rintro e w' ⟨rfl, rfl⟩) | (go_at_call 76; refine (needsKey_any _ _).mono ?_; rintro e w' ⟨rfl, rfl⟩) | (go_at_call 74; refine (needsNumber_any _ _).mono ?_; rintro e w' ⟨rfl, rfl⟩))
  go_region_with (go_at_call 72; refine (within_any _ _ _ _).mono ?_; rintro e w' ⟨rfl, rfl⟩)
  all_goals
    go_wp2
    refine bodyPost_ret (v := .tuple #[.agg #[.int .u8 x.op, .int .u8 x.r, .int .u8 x.s, .int .i64 x.n, .int .u8 0, .int .u8 0, .int .u8 0, .int .u8 0], .bool (inB 0 x.n (len - 1))]) (by simp [results, Tryz.results73, go_sem]) rfl ⟨⟨_, by rw [Hok.out], fun _ => HpI.out.symm, _, _, _, _, _, _, _, _, rfl⟩, ?_⟩
    repeat' first | exact Below.refl _ _ | apply Below.drew | refine Below.alloc ?_ ?_ _ | (simp; done) | (simp; omega)

end Go.Proofs.YtdbdljjhhehbiaaGreat
