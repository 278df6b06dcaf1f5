import Derived.Test.YtdbdljjhhehbiaaGreatK
namespace Go.Proofs.YtdbdljjhhehbiaaGreat
open Go.RowKit

theorem kN_end (l : List UInt8) (j : Nat) (h : l.length ≤ j) : kN l j = 0 := by
  unfold kN; rw [List.getD_eq_getElem?_getD, List.getElem?_eq_none h]; rfl
theorem kN_key {l : List UInt8} (hl : l.all letter = true) (j : Nat) (h : j < l.length) : kN l j ≠ 0 := by
  have ha : letter l[j] = true := List.all_eq_true.1 hl _ (List.getElem_mem _)
  unfold kN; rw [List.getD_eq_getElem?_getD, List.getElem?_eq_getElem h]
  simp only [letter, Bool.and_eq_true, decide_eq_true_eq, UInt8.le_iff_toNat_le] at ha
  have : (97 : UInt8).toNat = 97 := rfl
  simp only [Option.getD_some]
  omega
theorem kN_bd (l : List UInt8) (j : Nat) : 0 ≤ kN l j ∧ kN l j < 256 := by
  unfold kN; have := UInt8.toNat_lt (l.getD j 0); omega

set_option maxRecDepth 100000 in
set_option maxHeartbeats 1000000 in
theorem Len_any (l : List UInt8) (w : World) (hl : l.all letter = true) (h4 : l.length ≤ 4) :
    Calls Tryz.prog 71 #[.agg #[.int .u8 (kN l 0), .int .u8 (kN l 1), .int .u8 (kN l 2), .int .u8 (kN l 3)]] w fun e w' => e = .returned (.int .i64 l.length) ∧ w' = w.alloc (.cells #[.int .u8 (kN l 0), .int .u8 (kN l 1), .int .u8 (kN l 2), .int .u8 (kN l 3)] 105) := by
  go_enter Tryz.func71, Tryz.ntmps71
  go_wp2
  go_loop [3] (fun i => ∃ k : Nat, k ≤ l.length ∧ i = .int .i64 k) (fun i => 4 - (intOf i).toNat)
  case atStart => exact ⟨0, Nat.zero_le _, rfl⟩
  case round =>
    obtain ⟨k, hk, rfl⟩ := hrel
    have hy : k < l.length → kN l k ≠ 0 := fun h => kN_key hl k h
    have hn : l.length ≤ k → kN l k = 0 := fun h => kN_end l k h
    have Hl : Hid (l.all letter = true) := hl
    have Hlen : Hid (l.length ≤ k → (l.length : Int) = k) := fun h => by omega
    by_cases hlt : k < l.length
    · have hb : (kN l k != 0) = true := by simpa using hy hlt
      clear hy hn hl
      have h0 : k = 0 ∨ k = 1 ∨ k = 2 ∨ k = 3 := by omega
      rcases h0 with rfl | rfl | rfl | rfl
      all_goals
        go_wp2
        go_round
        case rel => exact ⟨_, hlt, by go_num⟩
        case measure => simp [intOf]
    · have hb : (kN l k != 0) = false := by simpa using hn (by omega)
      clear hy hn hl
      have h0 : k = 0 ∨ k = 1 ∨ k = 2 ∨ k = 3 ∨ k = 4 := by omega
      have Hr : Hid ((l.length : Int) = k) := by show _ = _; omega
      clear Hlen
      rcases h0 with rfl | rfl | rfl | rfl | rfl
      all_goals
        go_wp2
        go_ret
        exact ⟨by rw [Hr.out]; rfl, rfl⟩

end Go.Proofs.YtdbdljjhhehbiaaGreat
