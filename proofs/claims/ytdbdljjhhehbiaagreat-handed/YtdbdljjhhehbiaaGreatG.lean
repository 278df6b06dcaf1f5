import Derived.Test.YtdbdljjhhehbiaaGreatF
import Derived.Deep.RegionWith
namespace Go.Proofs.YtdbdljjhhehbiaaGreat
open Go.RowKit

def letters (l : List UInt8) : List UInt8 := if l.all letter then l else []
theorem letters_yes {l : List UInt8} (h : l.all letter = true) : letters l = l := by simp only [letters, h, if_true]
theorem letters_no {l : List UInt8} (h : l.all letter = false) : letters l = [] := by simp only [letters, h, Bool.false_eq_true, if_false]
theorem kN_hit (s : ByteArray) (k : Nat) (h : k < s.size) : kN (s.data.toList.take (k + 1)) k = (s[k].toNat : Int) := by
  unfold kN
  have : (s.data.toList.take k).length = k := by rw [List.length_take, Array.length_toList]; exact Nat.min_eq_left (Nat.le_of_lt h)
  rw [take_snoc s k h, List.getD_eq_getElem?_getD, List.getElem?_append_right (by omega)]
  simp [this]
theorem kN_miss (s : ByteArray) (k j : Nat) (h : k < s.size) (hj : j ≠ k) : kN (s.data.toList.take (k + 1)) j = kN (s.data.toList.take k) j := by
  unfold kN
  have : (s.data.toList.take k).length = k := by rw [List.length_take, Array.length_toList]; exact Nat.min_eq_left (Nat.le_of_lt h)
  rw [take_snoc s k h, List.getD_eq_getElem?_getD, List.getD_eq_getElem?_getD]
  rcases Nat.lt_or_ge j k with hl | hg
  · rw [List.getElem?_append_left (by omega)]
  · rw [List.getElem?_eq_none (by simp; omega), List.getElem?_eq_none (by omega)]

set_option maxRecDepth 100000 in
set_option maxHeartbeats 1000000 in
theorem Of_short (s : ByteArray) (w : World) (h4 : s.size ≤ 4) :
    Calls Tryz.prog 103 #[.string s] w fun e w' => e = .returned (.agg (kcells (letters s.data.toList))) ∧ ∃ o, w' = (w.alloc (.cells (kcells (letters s.data.toList)) 105)).alloc o := by
  go_enter Tryz.func103, Tryz.ntmps103
  go_wp2
  go_loopw [11] (fun i wr => ∃ k : Nat, k ≤ s.size ∧ i = .int .i64 k ∧ Hid ((s.data.toList.take k).all letter = true) ∧ wr = (w.alloc (.cells #[.int .u8 0, .int .u8 0, .int .u8 0, .int .u8 0] 105)).alloc (.cells #[.int .u8 (kN (s.data.toList.take k) 0), .int .u8 (kN (s.data.toList.take k) 1), .int .u8 (kN (s.data.toList.take k) 2), .int .u8 (kN (s.data.toList.take k) 3)] 105)) (fun i _ => s.size - (intOf i).toNat)
  case atStart => exact ⟨0, Nat.zero_le _, rfl, rfl, rfl⟩
  case round =>
    obtain ⟨k, hk, rfl, hall, rfl⟩ := hrel
    by_cases hlt : k < s.size
    · have h0 : k = 0 ∨ k = 1 ∨ k = 2 ∨ k = 3 := by omega
      by_cases hlo : (s[k].toNat : Int) < 97 ∨ 122 < (s[k].toNat : Int)
      · have Hno : Hid (s.data.toList.all letter = false) := by
          show _ = _
          rw [List.all_eq_false]
          exact ⟨s[k], by simp [ByteArray.getElem_eq_getElem_data], by simp [letter_not hlo]⟩
        rcases hlo with hlo | hlo
        · go_wp2
          exact bodyPost_ret (v := .agg (kcells [])) (by simp [results, Tryz.results103, go_sem, kcells, kN]) rfl ⟨by rw [letters_no Hno.out], _, by rw [letters_no Hno.out]; rfl⟩
        · have hl1 : ¬ (s[k].toNat : Int) < 97 := by omega
          go_wp2
          exact bodyPost_ret (v := .agg (kcells [])) (by simp [results, Tryz.results103, go_sem, kcells, kN]) rfl ⟨by rw [letters_no Hno.out], _, by rw [letters_no Hno.out]; rfl⟩
      · have hl1 : ¬ (s[k].toNat : Int) < 97 := by omega
        have hl2 : ¬ 122 < (s[k].toNat : Int) := by omega
        have Hmore : Hid ((s.data.toList.take (k + 1)).all letter = true) := all_snoc s k hlt hall.out (letter_of hl1 hl2)
        have Hh : Hid (kN (s.data.toList.take (k + 1)) k = (s[k].toNat : Int)) := kN_hit s k hlt
        have Hm : Hid (∀ j, j ≠ k → kN (s.data.toList.take (k + 1)) j = kN (s.data.toList.take k) j) := fun j hj => kN_miss s k j hlt hj
        clear hlo
        rcases h0 with rfl | rfl | rfl | rfl
        · have e0 := Hh.out
          have e1 := Hm.out 1 (by decide)
          have e2 := Hm.out 2 (by decide)
          have e3 := Hm.out 3 (by decide)
          simp only [Nat.zero_add, List.take_zero] at e0 e1 e2 e3
          have HE : Hid (_ ∧ _ ∧ _ ∧ _) := ⟨e0, e1, e2, e3⟩
          clear e0 e1 e2 e3 Hh Hm
          go_wp2
          go_roundw
          case rel => exact ⟨1, by omega, rfl, Hmore, by rw [HE.out.1, HE.out.2.1, HE.out.2.2.1, HE.out.2.2.2]⟩
          case measure => simp [intOf]; omega
        · have HE : Hid (_ ∧ _ ∧ _ ∧ _) := ⟨Hh.out, Hm.out 0 (by decide), Hm.out 2 (by decide), Hm.out 3 (by decide)⟩
          clear Hh Hm
          go_wp2
          go_roundw
          case rel => exact ⟨2, by omega, rfl, Hmore, by rw [HE.out.1, HE.out.2.1, HE.out.2.2.1, HE.out.2.2.2]⟩
          case measure => simp [intOf]; omega
        · have HE : Hid (_ ∧ _ ∧ _ ∧ _) := ⟨Hh.out, Hm.out 0 (by decide), Hm.out 1 (by decide), Hm.out 3 (by decide)⟩
          clear Hh Hm
          go_wp2
          go_roundw
          case rel => exact ⟨3, by omega, rfl, Hmore, by rw [HE.out.1, HE.out.2.1, HE.out.2.2.1, HE.out.2.2.2]⟩
          case measure => simp [intOf]; omega
        · have HE : Hid (_ ∧ _ ∧ _ ∧ _) := ⟨Hh.out, Hm.out 0 (by decide), Hm.out 1 (by decide), Hm.out 2 (by decide)⟩
          clear Hh Hm
          go_wp2
          go_roundw
          case rel => exact ⟨4, by omega, rfl, Hmore, by rw [HE.out.1, HE.out.2.1, HE.out.2.2.1, HE.out.2.2.2]⟩
          case measure => simp [intOf]; omega
    · have he : s.data.toList.take k = s.data.toList := List.take_of_length_le (by rw [Array.length_toList]; exact Nat.le_of_not_lt hlt)
      rw [he] at hall ⊢
      clear he
      go_wp2
      exact bodyPost_ret (v := .agg (kcells s.data.toList)) (by simp [results, Tryz.results103, go_sem, kcells]) rfl ⟨by rw [letters_yes hall.out], _, by rw [letters_yes hall.out]; rfl⟩

theorem keyOf_short (s : ByteArray) (h4 : s.size ≤ 4) : kcells (letters s.data.toList) = kcells (keyOf s.data.toList) := by
  unfold keyOf isKey
  cases hl : s.data.toList.all letter
  · rw [letters_no hl]; rfl
  · rw [letters_yes hl]
    by_cases h1 : 1 ≤ s.data.toList.length
    · have : s.data.toList.length ≤ 4 := by rw [Array.length_toList]; exact h4
      simp only [h1, this, decide_true, Bool.and_self, if_true]
    · have : s.data.toList = [] := by cases hh : s.data.toList with | nil => rfl | cons a b => rw [hh] at h1; simp at h1
      rw [this]; rfl
theorem keyOf_long (s : ByteArray) (h4 : 4 < s.size) : keyOf s.data.toList = [] := by
  unfold keyOf isKey
  have : ¬ s.data.toList.length ≤ 4 := by rw [Array.length_toList]; show ¬ s.size ≤ 4; omega
  simp only [this, decide_false, Bool.and_false, Bool.false_eq_true, if_false]
theorem Of_short' (s : ByteArray) (w : World) (h4 : s.size ≤ 4) :
    Calls Tryz.prog 103 #[.string s] w fun e w' => e = .returned (.agg (kcells (keyOf s.data.toList))) ∧ ∃ o, w' = (w.alloc (.cells (kcells (keyOf s.data.toList)) 105)).alloc o := by
  rw [← keyOf_short s (by omega)]; exact Of_short s w (by omega)

/-- What is kept of an instruction. -/
def pN (x : I) : Int := if numbered x.op then x.n else 0
def pK (x : I) : List UInt8 := if keyed x.op then keyOf x.key.data.toList else []
def pI (x : I) : Array Value := #[.int .u8 x.op, .int .u8 x.r, .int .u8 x.s, .int .i64 (pN x), .int .u8 (kN (pK x) 0), .int .u8 (kN (pK x) 1), .int .u8 (kN (pK x) 2), .int .u8 (kN (pK x) 3)]

/-- What instruction answers. -/
def insRet (len : Nat) (x : I) (w : World) (e : Ending) (w' : World) : Prop := (∃ cs : Array Value, e = .returned (.tuple #[.agg cs, .bool (insOk len x)]) ∧ (insOk len x = true → cs = pI x) ∧ ∃ o r s n k0 k1 k2 k3 : Int, cs = #[.int .u8 o, .int .u8 r, .int .u8 s, .int .i64 n, .int .u8 k0, .int .u8 k1, .int .u8 k2, .int .u8 k3]) ∧ Below w.heap.size w w'

set_option maxRecDepth 100000 in
set_option maxHeartbeats 1000000 in
theorem instruction_bad (x : I) (len : Nat) (w : World) (hb : ¬ (0 ≤ x.op ∧ x.op ≤ 11) ∨ ¬ (0 ≤ x.r ∧ x.r ≤ 3) ∨ ¬ (0 ≤ x.s ∧ x.s ≤ 3)) :
    Calls Tryz.prog 73 #[.agg #[.int .i64 x.op, .int .i64 x.r, .int .i64 x.s, .int .i64 x.n, .string x.key], .int .i64 len] w (insRet len x w) := by
  have hno : insOk len x = false := by simp only [insOk, decide_eq_false_iff_not]; omega
  have Hno : Hid (insOk len x = false) := hno
  clear hno
  cases h1 : inB 0 x.op 11 <;> cases h2 : inB 0 x.r 3 <;> cases h3 : inB 0 x.s 3
  case true.true.true => have := inB_true h1; have := inB_true h2; have := inB_true h3; omega
  all_goals
    clear hb
    go_enter Tryz.func73, Tryz.ntmps73
    go_wp2_with (first | (go_at_call 72; refine (within_any _ _ _ _).mono ?_; rintro e w' ⟨rfl, rfl⟩) | (go_at_call 102; refine (isRegister_any _ _).mono ?_; rintro e w' ⟨rfl, rfl⟩))
    exact bodyPost_ret (v := .tuple #[.agg #[.int .u8 0, .int .u8 0, .int .u8 0, .int .i64 0, .int .u8 0, .int .u8 0, .int .u8 0, .int .u8 0], .bool false]) (by simp [results, Tryz.results73, go_sem]) rfl ⟨⟨_, by rw [Hno.out], (fun h => by rw [Hno.out] at h; cases h), _, _, _, _, _, _, _, _, rfl⟩, ((Below.refl _ _).alloc (Nat.le_refl _) _).alloc (by simp) _⟩

theorem noKey_eq (l : List UInt8) : noKey (kN (keyOf l) 0) (kN (keyOf l) 1) (kN (keyOf l) 2) (kN (keyOf l) 3) = !isKey l := by
  unfold keyOf
  cases h : isKey l
  · rfl
  · cases l with
    | nil => simp [isKey] at h
    | cons a t =>
      have ha : letter a = true := by simp only [isKey, List.all_cons, Bool.and_eq_true] at h; exact h.1.1
      have h0 : ¬ (a.toNat : Int) = 0 := by
        simp only [letter, Bool.and_eq_true, decide_eq_true_eq, UInt8.le_iff_toNat_le] at ha
        have : (97 : UInt8).toNat = 97 := rfl
        omega
      simp only [if_true, noKey, kN, List.getD_cons_zero, beq_eq_false_iff_ne.2 h0, Bool.false_and, Bool.not_true]
theorem insOk_key (x : I) (len : Nat) (h1 : inB 0 x.op 11 = true) (h2 : inB 0 x.r 3 = true) (h3 : inB 0 x.s 3 = true) (hk : keyed x.op = true) : insOk len x = isKey x.key.data.toList := by
  have b1 := inB_true h1
  have b2 := inB_true h2
  have b3 := inB_true h3
  have b4 : 1 ≤ x.op ∧ x.op ≤ 4 := by simpa [keyed] using hk
  rw [Bool.eq_iff_iff]
  simp only [insOk, decide_eq_true_eq]
  exact ⟨fun h => h.2.2.2.2.2.2.2 b4, fun h => ⟨by omega, by omega, by omega, by omega, by omega, by omega, fun g => by omega, fun _ => h⟩⟩
theorem pI_key (x : I) (hk : keyed x.op = true) : pI x = #[.int .u8 x.op, .int .u8 x.r, .int .u8 x.s, .int .i64 0, .int .u8 (kN (keyOf x.key.data.toList) 0), .int .u8 (kN (keyOf x.key.data.toList) 1), .int .u8 (kN (keyOf x.key.data.toList) 2), .int .u8 (kN (keyOf x.key.data.toList) 3)] := by
  have b4 : 1 ≤ x.op ∧ x.op ≤ 4 := by simpa [keyed] using hk
  have hn : numbered x.op = false := by simp [numbered]; omega
  simp only [pI, pN, pK, hk, hn, if_true, Bool.false_eq_true, if_false]

set_option maxRecDepth 100000 in
set_option maxHeartbeats 1000000 in
theorem instruction_key (x : I) (len : Nat) (w : World) (h1 : inB 0 x.op 11 = true) (h2 : inB 0 x.r 3 = true) (h3 : inB 0 x.s 3 = true) (hk : keyed x.op = true) (h4 : x.key.size ≤ 4) :
    Calls Tryz.prog 73 #[.agg #[.int .i64 x.op, .int .i64 x.r, .int .i64 x.s, .int .i64 x.n, .string x.key], .int .i64 len] w (insRet len x w) := by
  have b1 := inB_true h1
  have b2 := inB_true h2
  have b3 := inB_true h3
  have Hok : Hid (insOk len x = !noKey (kN (keyOf x.key.data.toList) 0) (kN (keyOf x.key.data.toList) 1) (kN (keyOf x.key.data.toList) 2) (kN (keyOf x.key.data.toList) 3)) := by
    show _ = _
    rw [noKey_eq, insOk_key x len h1 h2 h3 hk]; simp
  have HpI : Hid _ := pI_key x hk
  go_enter Tryz.func73, Tryz.ntmps73
  go_wp2_with (first | (go_at_call 72; refine (within_any _ _ _ _).mono ?_; rintro e w' ⟨rfl, rfl⟩) | (go_at_call 102; refine (isRegister_any _ _).mono ?_; rintro e w' ⟨rfl, rfl⟩) | (go_at_call 76; refine (needsKey_any _ _).mono ?_; rintro e w' ⟨rfl, rfl⟩) | (go_at_call 103; refine (Of_short' _ _ h4).mono ?_; rintro e w' ⟨rfl, o, rfl⟩; unfold kcells))
  generalize keyOf x.key.data.toList = K at Hok HpI ⊢
  go_region_with (go_at_call 104; refine (IsNone_any _ _ _ _ _).mono ?_; rintro e w' ⟨rfl, rfl⟩)
  all_goals
    go_wp2
    refine bodyPost_ret (v := .tuple #[.agg #[.int .u8 x.op, .int .u8 x.r, .int .u8 x.s, .int .i64 0, .int .u8 (kN K 0), .int .u8 (kN K 1), .int .u8 (kN K 2), .int .u8 (kN K 3)], .bool (!noKey (kN K 0) (kN K 1) (kN K 2) (kN K 3))]) (by simp [results, Tryz.results73, go_sem]) rfl ⟨⟨_, by rw [Hok.out], fun _ => HpI.out.symm, _, _, _, _, _, _, _, _, rfl⟩, ?_⟩
    repeat' first | exact Below.refl _ _ | apply Below.drew | refine Below.alloc ?_ ?_ _ | (simp; done) | (simp; omega)

end Go.Proofs.YtdbdljjhhehbiaaGreat
