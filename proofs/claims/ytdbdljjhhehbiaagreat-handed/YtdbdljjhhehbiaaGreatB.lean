import Derived.Test.YtdbdljjhhehbiaaGreatA
namespace Go.Proofs.YtdbdljjhhehbiaaGreat
open Go.RowKit
attribute [local go_sem] bs_size bs_append

def sumStep (s : Int) (b : UInt8) : Int := (263 * s + b.toNat + 1) % 65521
def sumOf (l : List UInt8) : Int := l.foldl sumStep 1
theorem foldl_sum_bd : ∀ (l : List UInt8) (s : Int), 0 ≤ s → s < 65521 → 0 ≤ l.foldl sumStep s ∧ l.foldl sumStep s < 65521
  | [], s, h0, h1 => ⟨h0, h1⟩
  | b :: l, s, h0, h1 => by
    rw [List.foldl_cons]
    exact foldl_sum_bd l _ (by unfold sumStep; omega) (by unfold sumStep; omega)
theorem sumOf_bd (l : List UInt8) : 0 ≤ sumOf l ∧ sumOf l < 65521 := foldl_sum_bd l 1 (by omega) (by omega)
theorem sumOf_snoc (l : List UInt8) (b : UInt8) : sumOf (l ++ [b]) = (263 * sumOf l + b.toNat + 1) % 65521 := by
  unfold sumOf; rw [List.foldl_append]; rfl
theorem take_snoc (s : ByteArray) (k : Nat) (h : k < s.size) : s.data.toList.take (k + 1) = s.data.toList.take k ++ [s[k]] := by
  rw [List.take_succ_eq_append_getElem (by simpa using h)]; rfl
/-- Two bytes, the lower first. -/
def two (n : Int) : List UInt8 := [byt (n % 256), byt (n / 256)]

set_option maxRecDepth 100000 in
set_option maxHeartbeats 400000 in
theorem Sum_any (s : ByteArray) (w : World) (hs : s.size ≤ maxLen) :
    Calls Tryz.prog 109 #[.string s] w fun e w' => e = .returned (.string (bs (two (sumOf s.data.toList)))) ∧ Below w.heap.size w w' := by
  unfold maxLen at hs
  go_enter Tryz.func109, Tryz.ntmps109
  go_wp2
  go_loop [3, 4] (fun n i => ∃ k : Nat, k ≤ s.size ∧ i = .int .i64 k ∧ n = .int .i64 (sumOf (s.data.toList.take k))) (fun _ i => s.size - (intOf i).toNat)
  case atStart => exact ⟨0, Nat.zero_le _, rfl, rfl⟩
  case round =>
    obtain ⟨k, hk, rfl, rfl⟩ := hrel
    have hd := sumOf_bd (s.data.toList.take k)
    by_cases hlt : k < s.size
    · have hsn := sumOf_snoc (s.data.toList.take k) s[k]
      have h8 : (s[k].toNat : Int) < 256 := by have := UInt8.toNat_lt s[k]; omega
      have hts := take_snoc s k hlt
      have HS : Hid (sumOf (s.data.toList.take (k + 1)) = (263 * sumOf (s.data.toList.take k) + s[k].toNat + 1) % 65521) := by rw [hts]; exact hsn
      clear hsn hts
      go_wp2
      all_goals
        go_round
        case rel => exact ⟨k + 1, by omega, by go_num, by rw [HS.out]⟩
        case measure => simp [intOf]; omega
    · have he : s.data.toList.take k = s.data.toList := List.take_of_length_le (by rw [Array.length_toList]; exact Nat.le_of_not_lt hlt)
      rw [he] at hd ⊢
      clear he
      go_wp2_with (first | (go_at_call 108; refine (one_any _ _).mono ?_; rintro e w' ⟨rfl, hb⟩))
      go_ret
      exact ⟨ret_str rfl, bl2 ‹Below w.heap.size w _› hb⟩

/-- A number in eight bytes, the lowest first: k of them. -/
def low : Nat → Int → List UInt8
  | 0, _ => []
  | k + 1, n => byt n :: low k (n / 256)
def eightOf (n : Int) : List UInt8 := low 8 n
theorem low_length : ∀ (k : Nat) (n : Int), (low k n).length = k
  | 0, _ => rfl
  | k + 1, n => by simp [low, low_length k]
def shr8 : Nat → Int → Int
  | 0, n => n
  | k + 1, n => shr8 k n / 256
theorem low_succ : ∀ (k : Nat) (n : Int), low (k + 1) n = low k n ++ [byt (shr8 k n)]
  | 0, n => rfl
  | k + 1, n => by
    have h : ∀ (j : Nat) (m : Int), shr8 j (m / 256) = shr8 j m / 256 := by
      intro j
      induction j with
      | zero => intro m; rfl
      | succ j ih => intro m; simp [shr8, ih]
    rw [low, low_succ k (n / 256), low, h]
    rfl
theorem shr8_bd : ∀ (k : Nat) (n : Int), -9223372036854775808 ≤ n → n ≤ 9223372036854775807 → -9223372036854775808 ≤ shr8 k n ∧ shr8 k n ≤ 9223372036854775807
  | 0, _, h, g => ⟨h, g⟩
  | k + 1, n, h, g => by have := shr8_bd k n h g; simp only [shr8]; omega
theorem byt_mod (n : Int) : byt (n % 256) = byt n := by simp [byt]

theorem i64_and255 (n : Int) : bits .and .i64 n 255 = n % 256 := by
  have h255 : (BitVec.ofInt 64 255).toNat = 2 ^ 8 - 1 := by decide
  have key : (BitVec.ofInt 64 n &&& BitVec.ofInt 64 255).toNat = (n % ((2 ^ 64 : Nat) : Int)).toNat % 2 ^ 8 := by
    rw [BitVec.toNat_and, BitVec.toNat_ofInt, h255, Nat.and_two_pow_sub_one_eq_mod]
  show IntKind.i64.wrap ((BitVec.ofInt 64 n &&& BitVec.ofInt 64 255).toNat : Nat) = n % 256
  rw [key, IntKind.wrap_i64]
  omega

set_option maxRecDepth 100000 in
set_option maxHeartbeats 400000 in
theorem eight_any (n : Int) (w : World) (h0 : -9223372036854775808 ≤ n) (h1 : n ≤ 9223372036854775807) :
    Calls Tryz.prog 168 #[.int .i64 n] w fun e w' => e = .returned (.string (bs (eightOf n))) ∧ Below w.heap.size w w' := by
  go_enter Tryz.func168, Tryz.ntmps168
  go_wp2
  go_loopw [0, 3, 4] (fun m s i wr => ∃ k : Nat, k ≤ 8 ∧ i = .int .i64 k ∧ s = .string (bs (low k n)) ∧ m = .int .i64 (shr8 k n) ∧ Below w.heap.size w wr) (fun _ _ i _ => 8 - (intOf i).toNat)
  case atStart => exact ⟨0, Nat.zero_le _, rfl, rfl, rfl, Below.refl _ _⟩
  case round =>
    obtain ⟨k, hk, rfl, rfl, rfl, hb⟩ := hrel
    have hd := shr8_bd k n h0 h1
    have hl := low_length k n
    by_cases hlt : k < 8
    · go_wp2_with (first | (go_at_call 108; refine (one_any _ _).mono ?_; rintro e w' ⟨rfl, hb2⟩))
      have hsc : low (k + 1) n = low k n ++ [byt (shr8 k n)] := low_succ k n
      go_roundw
      case rel => exact ⟨k + 1, by omega, by go_num, by rw [i64_and255, byt_mod, hsc], rfl, bl2 hb hb2⟩
      case measure => simp [intOf]; omega
    · go_wp2
      go_ret
      have : k = 8 := by omega
      subst this
      exact ⟨rfl, hb⟩

/-- An entry's bytes ahead of its sum. -/
def entryHead (kind payload : List UInt8) : List UInt8 := kind ++ two (payload.length : Int) ++ payload
def entryOf (kind payload : List UInt8) : List UInt8 := entryHead kind payload ++ two (sumOf (entryHead kind payload))

theorem two_length (n : Int) : (two n).length = 2 := rfl
attribute [local go_sem] two_length
theorem Sum_bs (s : ByteArray) (l : List UInt8) (w : World) (h : s = bs l) (hl : l.length ≤ maxLen) :
    Calls Tryz.prog 109 #[.string s] w fun e w' => e = .returned (.string (bs (two (sumOf l)))) ∧ Below w.heap.size w w' := by
  subst h
  have := Sum_any (bs l) w (by rw [bs_size]; exact hl)
  simpa [bs] using this
theorem head_eq (kind payload : List UInt8) : bs (kind ++ byt ((payload.length : Int) % 256) :: byt ((payload.length : Int) / 256) :: payload) = bs (entryHead kind payload) := by
  simp [entryHead, two]
theorem head_length (kind payload : List UInt8) : (entryHead kind payload).length = kind.length + 2 + payload.length := by simp [entryHead, two]; omega
theorem entry_length (kind payload : List UInt8) : (entryOf kind payload).length = kind.length + 4 + payload.length := by simp [entryOf, head_length, two_length]; omega
set_option maxRecDepth 100000 in
set_option maxHeartbeats 400000 in
theorem Entry_any (kind payload : List UInt8) (w : World) (hk : kind.length ≤ 10) (hp : payload.length ≤ 1000000) :
    Calls Tryz.prog 81 #[.string (bs kind), .string (bs payload)] w fun e w' => e = .returned (.string (bs (entryOf kind payload))) ∧ Below w.heap.size w w' := by
  have HH : Hid ((entryHead kind payload).length ≤ maxLen) := by show _ ≤ _; rw [head_length]; unfold maxLen; omega
  go_enter Tryz.func81, Tryz.ntmps81
  go_wp2_with (first | (go_at_call 108; refine (one_any _ _).mono ?_; rintro e w' ⟨rfl, hb⟩) | (go_at_call 109; refine (Sum_bs _ (entryHead kind payload) _ (by simp [entryHead, two]) HH.out).mono ?_; rintro e w' ⟨rfl, hb⟩))
  go_ret
  exact ⟨ret_str (by simp [entryOf, entryHead, two]), bl2 (bl2 ‹Below w.heap.size w _› ‹_›) hb⟩

theorem ret_bool {a b : Bool} (h : a = b) : Ending.returned (.bool a) = .returned (.bool b) := by rw [h]
def letter (c : UInt8) : Bool := 97 ≤ c && c ≤ 122
def isKey (l : List UInt8) : Bool := l.all letter && (1 ≤ l.length && l.length ≤ 4)
theorem letter_of {c : UInt8} (h0 : ¬ (c.toNat : Int) < 97) (h1 : ¬ 122 < (c.toNat : Int)) : letter c = true := by
  simp [letter, UInt8.le_iff_toNat_le]; omega
theorem letter_not {c : UInt8} (h : (c.toNat : Int) < 97 ∨ 122 < (c.toNat : Int)) : letter c = false := by
  rw [Bool.eq_false_iff]; simp [letter, UInt8.le_iff_toNat_le]; omega
theorem all_snoc (s : ByteArray) (k : Nat) (h : k < s.size) (ha : (s.data.toList.take k).all letter = true) (hl : letter s[k] = true) : (s.data.toList.take (k + 1)).all letter = true := by
  rw [take_snoc s k h, List.all_append, ha]; simp [hl]
theorem isKey_not (s : ByteArray) (k : Nat) (h : k < s.size) (hl : letter s[k] = false) : isKey s.data.toList = false := by
  have : s.data.toList.all letter = false := by
    rw [List.all_eq_false]
    exact ⟨s[k], by simp [ByteArray.getElem_eq_getElem_data], by simp [hl]⟩
  simp [isKey, this]

theorem isKey_end (s : ByteArray) (h : s.data.toList.all letter = true) : isKey s.data.toList = (decide (1 ≤ s.size) && decide (s.size ≤ 4)) := by
  simp only [isKey, h, Bool.true_and, Array.length_toList]; rfl
set_option maxRecDepth 100000 in
set_option maxHeartbeats 400000 in
theorem IsKey_any (s : ByteArray) (w : World) (hs : s.size ≤ maxLen) :
    Calls Tryz.prog 167 #[.string s] w fun e w' => e = .returned (.bool (isKey s.data.toList)) ∧ w' = w := by
  unfold maxLen at hs
  go_enter Tryz.func167, Tryz.ntmps167
  go_wp2
  go_loop [3] (fun i => ∃ k : Nat, k ≤ s.size ∧ i = .int .i64 k ∧ Hid ((s.data.toList.take k).all letter = true)) (fun i => s.size - (intOf i).toNat)
  case atStart => exact ⟨0, Nat.zero_le _, rfl, rfl⟩
  case round =>
    obtain ⟨k, hk, rfl, hall⟩ := hrel
    by_cases hlt : k < s.size
    · go_wp2
      · go_ret
        exact ⟨ret_bool (isKey_not s k hlt (letter_not ‹_ ∨ _›)).symm, rfl⟩
      · go_round
        case rel => exact ⟨k + 1, by omega, by go_num, all_snoc s k hlt hall.out (letter_of (by omega) (by omega))⟩
        case measure => simp [intOf]; omega
      · go_ret
        exact ⟨ret_bool (isKey_not s k hlt (letter_not (Or.inl ‹_›))).symm, rfl⟩
    · have he : s.data.toList.take k = s.data.toList := List.take_of_length_le (by rw [Array.length_toList]; exact Nat.le_of_not_lt hlt)
      rw [he] at hall
      clear he
      go_wp2
      · go_ret
        rw [isKey_end s hall.out]
        have hv : decide ((s.size : Int) ≤ 4) = (decide (1 ≤ s.size) && decide (s.size ≤ 4)) := by rw [Bool.eq_iff_iff]; simp; omega
        exact ⟨ret_bool hv, rfl⟩
      · go_ret
        rw [isKey_end s hall.out]
        have hv : false = (decide (1 ≤ s.size) && decide (s.size ≤ 4)) := by rw [Bool.eq_iff_iff]; simp; omega
        exact ⟨ret_bool hv, rfl⟩

end Go.Proofs.YtdbdljjhhehbiaaGreat
