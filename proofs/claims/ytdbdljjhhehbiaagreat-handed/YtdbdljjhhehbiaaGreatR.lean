import Derived.Test.YtdbdljjhhehbiaaGreatQ
namespace Go.Proofs.YtdbdljjhhehbiaaGreat
open Go.RowKit

def okNew (b k : Int) : Bool := decide (1 ≤ b ∧ b ≤ 8 ∧ 1 ≤ k ∧ k ≤ 5)

set_option maxRecDepth 100000 in
set_option maxHeartbeats 400000 in
theorem New_yes (b k : Int) (w : World) (h1 : 1 ≤ b) (h2 : b ≤ 8) (h3 : 1 ≤ k) (h4 : k ≤ 5) :
    Calls Tryz.prog 16 #[.int .i64 b, .int .i64 k] w fun e w' => e = .returned (.tuple #[.pointer (some ⟨w.heap.size + 1, 0, none⟩), .int .i64 0]) ∧ w' = (w.alloc (.map #[] 0)).alloc (.cells #[.int .i64 b, .int .i64 k, .map (some w.heap.size), .slice none 0 0, .slice none 0 0, .int .i64 0, .slice none 0 0] 83) := by
  have hmm := @run_makeMap Tryz.prog
  go_enter Tryz.func16, Tryz.ntmps16
  go_wp2
  go_ret2
  exact ⟨rfl, rfl⟩

set_option maxRecDepth 100000 in
set_option maxHeartbeats 400000 in
theorem RNew_yes (b k : Int) (w : World) (h1 : 1 ≤ b) (h2 : b ≤ 8) (h3 : 1 ≤ k) (h4 : k ≤ 5) :
    Calls Tryz.prog 46 #[.int .i64 b, .int .i64 k] w fun e w' => e = .returned (.tuple #[.pointer (some ⟨w.heap.size, 0, none⟩), .int .i64 0]) ∧ w' = w.alloc (.cells #[.int .i64 b, .slice none 0 0, .slice none 0 0, .slice none 0 0, .int .i64 0, .string ⟨#[]⟩, .slice none 0 0] 161) := by
  go_enter Tryz.func46, Tryz.ntmps46
  go_wp2
  go_ret2
  exact ⟨rfl, rfl⟩

set_option maxRecDepth 100000 in
set_option maxHeartbeats 400000 in
theorem New_no (b k : Int) (w : World) (h : ¬ (1 ≤ b ∧ b ≤ 8 ∧ 1 ≤ k ∧ k ≤ 5)) :
    Calls Tryz.prog 16 #[.int .i64 b, .int .i64 k] w fun e w' => e = .returned (.tuple #[.pointer none, .int .i64 1]) ∧ w' = w := by
  go_enter Tryz.func16, Tryz.ntmps16
  go_wp2
  all_goals
    first
      | (exfalso; omega)
      | (go_ret2; exact ⟨rfl, rfl⟩)

set_option maxRecDepth 100000 in
set_option maxHeartbeats 400000 in
theorem RNew_no (b k : Int) (w : World) (h : ¬ (1 ≤ b ∧ b ≤ 8 ∧ 1 ≤ k ∧ k ≤ 5)) :
    Calls Tryz.prog 46 #[.int .i64 b, .int .i64 k] w fun e w' => e = .returned (.tuple #[.pointer none, .int .i64 1]) ∧ w' = w := by
  go_enter Tryz.func46, Tryz.ntmps46
  go_wp2
  all_goals
    first
      | (exfalso; omega)
      | (go_ret2; exact ⟨rfl, rfl⟩)

set_option maxRecDepth 100000 in
set_option maxHeartbeats 400000 in
theorem joined_yes (B R : Addr) (w : World) :
    Calls Tryz.prog 47 #[.pointer (some B), .int .i64 0, .pointer (some R), .int .i64 0] w fun e w' => e = .returned (.tuple #[.pointer (some ⟨w.heap.size, 0, none⟩), .bool true]) ∧ w' = w.alloc (.cells #[.pointer (some B), .pointer (some R)] 127) := by
  go_enter Tryz.func47, Tryz.ntmps47
  go_wp2
  go_ret2
  exact ⟨rfl, rfl⟩

set_option maxRecDepth 100000 in
set_option maxHeartbeats 400000 in
theorem joined_no (w : World) :
    Calls Tryz.prog 47 #[.pointer none, .int .i64 1, .pointer none, .int .i64 1] w fun e w' => e = .returned (.tuple #[.pointer none, .bool true]) ∧ w' = w := by
  go_enter Tryz.func47, Tryz.ntmps47
  go_wp2
  go_ret2
  exact ⟨rfl, rfl⟩

set_option maxRecDepth 100000 in
set_option maxHeartbeats 400000 in
theorem open_no (b k : Int) (w : World) (h : ¬ (1 ≤ b ∧ b ≤ 8 ∧ 1 ≤ k ∧ k ≤ 5)) :
    Calls Tryz.prog 24 #[.int .i64 b, .int .i64 k] w fun e w' => e = .returned (.tuple #[.pointer none, .bool true]) ∧ w' = w := by
  have HN := hide h
  clear h
  go_enter Tryz.func24, Tryz.ntmps24
  go_wp2_with (first | (go_at_call 16; refine (New_no _ _ _ HN.out).mono ?_; rintro e w' ⟨rfl, rfl⟩) | (go_at_call 46; refine (RNew_no _ _ _ HN.out).mono ?_; rintro e w' ⟨rfl, rfl⟩) | (go_at_call 47; refine (joined_no _).mono ?_; rintro e w' ⟨rfl, rfl⟩))
  go_ret2
  exact ⟨rfl, rfl⟩

set_option maxRecDepth 100000 in
set_option maxHeartbeats 400000 in
theorem open_yes (b k : Int) (w : World) (h1 : 1 ≤ b) (h2 : b ≤ 8) (h3 : 1 ≤ k) (h4 : k ≤ 5) :
    Calls Tryz.prog 24 #[.int .i64 b, .int .i64 k] w fun e w' => e = .returned (.tuple #[.pointer (some ⟨w.heap.size + 3, 0, none⟩), .bool true]) ∧ w' = (((w.alloc (.map #[] 0)).alloc (.cells #[.int .i64 b, .int .i64 k, .map (some w.heap.size), .slice none 0 0, .slice none 0 0, .int .i64 0, .slice none 0 0] 83)).alloc (.cells #[.int .i64 b, .slice none 0 0, .slice none 0 0, .slice none 0 0, .int .i64 0, .string ⟨#[]⟩, .slice none 0 0] 161)).alloc (.cells #[.pointer (some ⟨w.heap.size + 1, 0, none⟩), .pointer (some ⟨w.heap.size + 2, 0, none⟩)] 127) := by
  go_enter Tryz.func24, Tryz.ntmps24
  go_wp2_with (first | (go_at_call 16; refine (New_yes _ _ _ h1 h2 h3 h4).mono ?_; rintro e w' ⟨rfl, rfl⟩) | (go_at_call 46; refine (RNew_yes _ _ _ h1 h2 h3 h4).mono ?_; rintro e w' ⟨rfl, rfl⟩) | (go_at_call 47; refine (joined_yes _ _ _).mono ?_; rintro e w' ⟨rfl, rfl⟩))
  go_ret2
  exact ⟨by simp, by simp⟩

set_option maxRecDepth 100000 in
set_option maxHeartbeats 400000 in
theorem Log_any (B n : Nat) (log : List UInt8) (rv wv lv : Value) (w : World) (hB : Bk w B n log rv wv lv) :
    Calls Tryz.prog 15 #[.pointer (some ⟨B, 0, none⟩)] w fun e w' => e = .returned (.string (bs log)) ∧ w' = w := by
  obtain ⟨bt, wk, bn, mp, hblk⟩ := hB.blk
  have hol := hB.ol
  have c4 : w.cell? ⟨B, 6, none⟩ = some lv := blk_cell (i := 6) hblk rfl
  by_cases hl : 0 < log.length
  · obtain ⟨g, cap, rfl, _⟩ := ownB_form hol hl
    have hcv := run_convert_bytes_back (P := Tryz.prog) w 81 9 5 ⟨g, 0, none⟩ cap log Tryz.underlying81 Tryz.underlying5 Tryz.underlying9 (fun j hj => by rw [add_lit, Nat.zero_add]; exact ownB_cell hol j hj)
    clear hblk hol hB
    go_enter Tryz.func15, Tryz.ntmps15
    go_wp2
    go_ret
    exact ⟨rfl, rfl⟩
  · have he : log = [] := List.eq_nil_of_length_eq_zero (by omega)
    subst he
    rcases hol.2 with ⟨rfl, _⟩ | ⟨g, cap, cur, rfl, _⟩
    · have hcv := run_convert_bytes_nil (P := Tryz.prog) w 81 5 Tryz.underlying81 Tryz.underlying5 0 0 9 Tryz.underlying9
      clear hblk hol hB
      go_enter Tryz.func15, Tryz.ntmps15
      go_wp2
      go_ret
      exact ⟨rfl, rfl⟩
    · have hcv := run_convert_bytes_back (P := Tryz.prog) w 81 9 5 ⟨g, 0, none⟩ cap [] Tryz.underlying81 Tryz.underlying5 Tryz.underlying9 (fun j hj => by simp at hj)
      simp only [List.length_nil] at hcv c4
      clear hblk hol hB
      go_enter Tryz.func15, Tryz.ntmps15
      go_wp2
      go_ret
      exact ⟨rfl, rfl⟩

def pickOf (c : Int) (n : Nat) : Nat := ((if c < 0 then -(c + 1) else c) % n).toNat
theorem pickOf_lt (c : Int) (n : Nat) (h : 0 < n) : pickOf c n < n := by
  unfold pickOf
  have h1 : (if c < 0 then -(c + 1) else c) % (n : Int) < n := Int.emod_lt_of_pos _ (by omega)
  have h2 : 0 ≤ (if c < 0 then -(c + 1) else c) % (n : Int) := Int.emod_nonneg _ (by omega)
  omega
set_option maxRecDepth 100000 in
set_option maxHeartbeats 400000 in
theorem pick_any (c : Int) (n : Nat) (w : World) (h0 : -9223372036854775808 ≤ c) (h1 : c ≤ 9223372036854775807) (hn : 0 < n) (hn2 : n ≤ 9223372036854775807) :
    Calls Tryz.prog 49 #[.int .i64 c, .int .i64 n] w fun e w' => e = .returned (.int .i64 (pickOf c n)) ∧ w' = w := by
  by_cases h : c < 0
  · have HE : Hid (-((c + 1).tmod (n : Int)) = pickOf c n) := by
      show _ = _
      unfold pickOf
      rw [if_pos h, Int.toNat_of_nonneg (Int.emod_nonneg _ (by omega)), ← Int.neg_tmod, Int.tmod_eq_emod_of_nonneg (by omega)]
    go_enter Tryz.func49, Tryz.ntmps49
    go_wp2
    go_ret
    exact ⟨by rw [← HE.out]; rfl, rfl⟩
  · have HE : Hid (c % (n : Int) = pickOf c n) := by
      show _ = _
      unfold pickOf; rw [if_neg h, Int.toNat_of_nonneg (Int.emod_nonneg _ (by omega))]
    go_enter Tryz.func49, Tryz.ntmps49
    go_wp2
    go_ret
    exact ⟨by rw [← HE.out]; rfl, rfl⟩

end Go.Proofs.YtdbdljjhhehbiaaGreat
