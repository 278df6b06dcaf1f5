import Derived.Test.YtdbdljjhhehbiaaGreatE
import Derived.ChangeKeysEq
namespace Go.Proofs.YtdbdljjhhehbiaaGreat
open Go.RowKit

def inB (a n b : Int) : Bool := decide (a ≤ n ∧ n ≤ b)
theorem inB_true {a n b : Int} (h : inB a n b = true) : a ≤ n ∧ n ≤ b := by simpa [inB] using h
theorem inB_false {a n b : Int} (h : inB a n b = false) : ¬ (a ≤ n ∧ n ≤ b) := by simpa [inB] using h

set_option maxRecDepth 100000 in
set_option maxHeartbeats 400000 in
theorem within_any (n a b : Int) (w : World) :
    Calls Tryz.prog 72 #[.int .i64 n, .int .i64 a, .int .i64 b] w fun e w' => e = .returned (.bool (inB a n b)) ∧ w' = w := by
  by_cases h : a ≤ n
  · have hv : decide (n ≤ b) = inB a n b := by simp [inB, h]
    go_enter Tryz.func72, Tryz.ntmps72
    go_wp2
    go_ret
    exact ⟨by rw [← hv]; rfl, rfl⟩
  · have hv : Hid (false = inB a n b) := by show _ = _; simp only [inB, h, false_and]; rfl
    go_enter Tryz.func72, Tryz.ntmps72
    go_wp2
    go_ret
    exact ⟨by rw [← hv.out]; rfl, rfl⟩

set_option maxRecDepth 100000 in
set_option maxHeartbeats 400000 in
theorem isRegister_any (n : Int) (w : World) :
    Calls Tryz.prog 102 #[.int .i64 n] w fun e w' => e = .returned (.bool (inB 0 n 3)) ∧ w' = w := by
  go_enter Tryz.func102, Tryz.ntmps102
  go_wp2_with (go_at_call 72; refine (within_any _ _ _ _).mono ?_; rintro e w' ⟨rfl, rfl⟩)
  go_ret
  exact ⟨rfl, rfl⟩

theorem ret_boolv {v : Value} {b : Bool} (h : v = .bool b) : Ending.returned v = .returned (.bool b) := by rw [h]

set_option maxRecDepth 100000 in
set_option maxHeartbeats 400000 in
theorem needsNumber_any (o : Int) (w : World) :
    Calls Tryz.prog 74 #[.int .u8 o] w fun e w' => e = .returned (.bool (numbered o)) ∧ w = w' := by
  have HN : Hid (numbered o = (o == 0 || o == 9)) := rfl
  cases h : (o == 0)
  · go_enter Tryz.func74, Tryz.ntmps74
    go_wp2
    go_ret
    exact ⟨by rw [HN.out, h]; rfl, rfl⟩
  · go_enter Tryz.func74, Tryz.ntmps74
    go_wp2
    go_ret
    exact ⟨by rw [HN.out, h]; rfl, rfl⟩

theorem keyed_eq (o : Int) : keyed o = (o == 1 || o == 2 || o == 3 || o == 4) := by
  rw [Bool.eq_iff_iff]; simp [keyed]; omega

set_option maxRecDepth 100000 in
set_option maxHeartbeats 400000 in
theorem needsKey_any (o : Int) (w : World) :
    Calls Tryz.prog 76 #[.int .u8 o] w fun e w' => e = .returned (.bool (keyed o)) ∧ w = w' := by
  have HN : Hid (keyed o = (o == 1 || o == 2 || o == 3 || o == 4)) := keyed_eq o
  cases h1 : (o == 1) <;> cases h2 : (o == 2) <;> cases h3 : (o == 3)
  all_goals
    go_enter Tryz.func76, Tryz.ntmps76
    go_wp2
    go_ret
    exact ⟨by rw [HN.out, h1, h2, h3]; rfl, rfl⟩

/-- A key within: four bytes. -/
def kN (l : List UInt8) (j : Nat) : Int := ((l.getD j 0).toNat : Int)
def kcells (l : List UInt8) : Array Value := #[.int .u8 (kN l 0), .int .u8 (kN l 1), .int .u8 (kN l 2), .int .u8 (kN l 3)]
/-- The key that Of gives: the letters, or nothing. -/
def keyOf (l : List UInt8) : List UInt8 := if isKey l then l else []

def noKey (a b c d : Int) : Bool := a == 0 && b == 0 && c == 0 && d == 0
theorem Tryz.info5' : ∃ i, Tryz.prog.info? 5 = some i := by
  obtain ⟨i0, hi, _⟩ := info_parts Tryz.info5
  exact ⟨i0, hi⟩
theorem Tryz.cells5 : Tryz.prog.cellsOf 5 = 1 := by kernel_rfl
theorem part0 (a b c d : Value) (w : World) : (part 5 #[a, b, c, d] 0).run Tryz.prog w = .ok a w := by kernel_rfl
theorem part1 (a b c d : Value) (w : World) : (part 5 #[a, b, c, d] 1).run Tryz.prog w = .ok b w := by kernel_rfl
theorem part2 (a b c d : Value) (w : World) : (part 5 #[a, b, c, d] 2).run Tryz.prog w = .ok c w := by kernel_rfl
theorem part3 (a b c d : Value) (w : World) : (part 5 #[a, b, c, d] 3).run Tryz.prog w = .ok d w := by kernel_rfl
theorem key_eq (a b c d a' b' c' d' : Int) (w : World) : (Op.equalIn 10000 105 (.agg #[.int .u8 a, .int .u8 b, .int .u8 c, .int .u8 d]) (.agg #[.int .u8 a', .int .u8 b', .int .u8 c', .int .u8 d'])).run Tryz.prog w = .ok (a == a' && b == b' && c == c' && d == d') w := by
  obtain ⟨i, hi⟩ := Tryz.info5'
  have h := run_equalIn_array (P := Tryz.prog) w 9999 #[.int .u8 a, .int .u8 b, .int .u8 c, .int .u8 d] #[.int .u8 a', .int .u8 b', .int .u8 c', .int .u8 d'] Tryz.underlying105 hi
  rw [Tryz.cells5] at h
  rw [h]
  have hr : List.range 4 = [0, 1, 2, 3] := rfl
  have e : ∀ (x y : Int) (w : World), (Op.equalIn 9999 5 (.int .u8 x) (.int .u8 y)).run Tryz.prog w = .ok (x == y) w := fun x y w => run_equalIn_int w 9998 5 .u8 .u8 x y Tryz.underlying5
  rw [hr]
  cases ha : (a == a') <;> cases hb : (b == b') <;> cases hc : (c == c') <;> cases hd : (d == d') <;> simp [Op.eqItems, Sem.run_pure, Sem.run_bind, part0, part1, part2, part3, Result.andThen_ok, e, ha, hb, hc, hd]

set_option maxRecDepth 100000 in
set_option maxHeartbeats 400000 in
theorem IsNone_any (a b c d : Int) (w : World) :
    Calls Tryz.prog 104 #[.agg #[.int .u8 a, .int .u8 b, .int .u8 c, .int .u8 d]] w fun e w' => e = .returned (.bool (noKey a b c d)) ∧ w' = w.alloc (.cells #[.int .u8 a, .int .u8 b, .int .u8 c, .int .u8 d] 105) := by
  have hq := key_eq a b c d 0 0 0 0
  go_enter Tryz.func104, Tryz.ntmps104
  go_wp2
  go_ret
  exact ⟨rfl, rfl⟩

set_option maxRecDepth 100000 in
set_option maxHeartbeats 400000 in
theorem Of_long (s : ByteArray) (w : World) (hs : s.size ≤ maxLen) (h : 4 < s.size) :
    Calls Tryz.prog 103 #[.string s] w fun e w' => e = .returned (.agg (kcells [])) ∧ w' = w.alloc (.cells (kcells []) 105) := by
  unfold maxLen at hs
  go_enter Tryz.func103, Tryz.ntmps103
  go_wp2
  exact bodyPost_ret (v := .agg (kcells [])) (by simp [results, Tryz.results103, go_sem, kcells, kN]) rfl ⟨rfl, by simp [kcells, kN]⟩

end Go.Proofs.YtdbdljjhhehbiaaGreat
