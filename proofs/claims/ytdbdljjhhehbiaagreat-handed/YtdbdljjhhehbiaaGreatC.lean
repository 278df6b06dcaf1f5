import Derived.Test.YtdbdljjhhehbiaaGreatB
namespace Go.Proofs.YtdbdljjhhehbiaaGreat
open Go.RowKit
attribute [local go_sem] bs_size bs_append

/-- An instruction as it was handed in. -/
structure I where
  op : Int
  r : Int
  s : Int
  n : Int
  key : ByteArray
def I.wf (x : I) : Prop := (-9223372036854775808 ≤ x.op ∧ x.op ≤ 9223372036854775807) ∧ (-9223372036854775808 ≤ x.r ∧ x.r ≤ 9223372036854775807) ∧ (-9223372036854775808 ≤ x.s ∧ x.s ≤ 9223372036854775807) ∧ (-9223372036854775808 ≤ x.n ∧ x.n ≤ 9223372036854775807) ∧ x.key.size ≤ maxLen
def I.val (x : I) : Value := .agg #[.int .i64 x.op, .int .i64 x.r, .int .i64 x.s, .int .i64 x.n, .string x.key]
/-- The instruction in five cells. -/
structure insAt (w : World) (b off : Nat) (x : I) : Prop where
  c0 : w.cell? ⟨b, off, none⟩ = some (.int .i64 x.op)
  c1 : w.cell? ⟨b, off + 1, none⟩ = some (.int .i64 x.r)
  c2 : w.cell? ⟨b, off + 2, none⟩ = some (.int .i64 x.s)
  c3 : w.cell? ⟨b, off + 3, none⟩ = some (.int .i64 x.n)
  c4 : w.cell? ⟨b, off + 4, none⟩ = some (.string x.key)
def keyed (op : Int) : Bool := 1 ≤ op && op ≤ 4
def numbered (op : Int) : Bool := op == 0 || op == 9
def insOk (len : Nat) (x : I) : Bool := decide (0 ≤ x.op ∧ x.op ≤ 11 ∧ 0 ≤ x.r ∧ x.r ≤ 3 ∧ 0 ≤ x.s ∧ x.s ≤ 3 ∧ (x.op = 9 → 0 ≤ x.n ∧ x.n < len) ∧ (1 ≤ x.op ∧ x.op ≤ 4 → isKey x.key.data.toList = true))
def isProg (l : List I) : Bool := decide (1 ≤ l.length ∧ l.length ≤ 20) && l.all (insOk l.length)

theorem isProg_bad (l : List I) (k : Nat) (h : k < l.length) (hb : insOk l.length l[k] = false) : isProg l = false := by
  have : l.all (insOk l.length) = false := by
    rw [List.all_eq_false]
    exact ⟨l[k], List.getElem_mem _, by simp [hb]⟩
  simp [isProg, this]
theorem isProg_more (l : List I) (k : Nat) (h : k < l.length) (hb : insOk l.length l[k] = true) (ha : (l.take k).all (insOk l.length) = true) : (l.take (k + 1)).all (insOk l.length) = true := by
  rw [List.take_succ_eq_append_getElem h, List.all_append, ha]; simp [hb]
theorem isProg_end (l : List I) (h1 : 1 ≤ l.length) (h2 : l.length ≤ 20) (ha : (l.take l.length).all (insOk l.length) = true) : isProg l = true := by
  rw [List.take_length] at ha
  simp only [isProg, ha, Bool.and_true, decide_eq_true_eq]; exact ⟨h1, h2⟩
set_option maxRecDepth 100000 in
set_option maxHeartbeats 1000000 in
theorem Program_any (b off cap : Nat) (l : List I) (w : World) (hwf : ∀ x ∈ l, x.wf) (hc : ∀ j (h : j < l.length), insAt w b (off + j * 5) l[j]) (hlen : l.length ≤ 20) (hlen1 : 1 ≤ l.length) (hbw : b < w.heap.size) :
    Calls Tryz.prog 145 #[.slice (some ⟨b, off, none⟩) l.length cap] w fun e w' => e = .returned (.bool (isProg l)) ∧ Below w.heap.size w w' := by
  have h0 : ((l.length : Int) == 0) = false := by rw [beq_eq_false_iff_ne]; omega
  go_enter Tryz.func145, Tryz.ntmps145
  go_wp2
  go_loopw [3] (fun i wr => ∃ k : Nat, k ≤ l.length ∧ i = .int .i64 k ∧ Hid ((l.take k).all (insOk l.length) = true) ∧ Below w.heap.size w wr) (fun i _ => l.length - (intOf i).toNat)
  case atStart => exact ⟨0, Nat.zero_le _, rfl, rfl, Below.refl _ _⟩
  case round =>
    obtain ⟨k, hk, rfl, hall, hb⟩ := hrel
    by_cases hlt : k < l.length
    · obtain ⟨x, hx⟩ : ∃ x, x = l[k] := ⟨_, rfl⟩
      have hi := hc k hlt
      rw [← hx] at hi
      have Hx : Hid (x = l[k]) := hx
      clear hx
      have c0 := (hb.cell (p := ⟨b, off + k * 5, none⟩) hbw).trans hi.c0
      have c1 := (hb.cell (p := ⟨b, off + k * 5 + 1, none⟩) hbw).trans hi.c1
      have c2 := (hb.cell (p := ⟨b, off + k * 5 + 2, none⟩) hbw).trans hi.c2
      have c3 := (hb.cell (p := ⟨b, off + k * 5 + 3, none⟩) hbw).trans hi.c3
      have c4 := (hb.cell (p := ⟨b, off + k * 5 + 4, none⟩) hbw).trans hi.c4
      clear hi hc
      have hks : x.key.size ≤ maxLen := by rw [Hx.out]; exact (hwf _ (List.getElem_mem _)).2.2.2.2
      have hnb : -9223372036854775808 ≤ x.n ∧ x.n ≤ 9223372036854775807 := by rw [Hx.out]; exact (hwf _ (List.getElem_mem _)).2.2.2.1
      go_wp2_with (first | (go_at_call 167; refine (IsKey_any _ _ hks).mono ?_; rintro e w' ⟨rfl, rfl⟩))
      all_goals
        first
          | (go_ret
             have hbad : insOk l.length x = false := by
               simp only [insOk, decide_eq_false_iff_not]
               rintro ⟨g1, g2, g3, g4, g5, g6, g7, g8⟩
               first | omega | (have := g8 ⟨by omega, by omega⟩; simp_all)
             rw [Hx.out] at hbad
             exact ⟨ret_bool (isProg_bad l k hlt hbad).symm, hb.alloc hb.size _⟩)
          | (have hgood : insOk l.length x = true := by
               simp only [insOk, decide_eq_true_eq]
               refine ⟨by omega, by omega, by omega, by omega, by omega, by omega, fun h9 => ⟨by omega, by omega⟩, fun h4 => ?_⟩
               first | omega | simp_all
             rw [Hx.out] at hgood
             go_roundw
             case rel => exact ⟨k + 1, by omega, by go_num, isProg_more l k hlt hgood hall.out, hb.alloc hb.size _⟩
             case measure => simp [intOf]; omega)
    · go_wp2
      go_ret
      have hk2 : k = l.length := by omega
      subst hk2
      exact ⟨ret_bool (isProg_end l (by omega) (by omega) hall.out).symm, hb⟩

set_option maxRecDepth 100000 in
set_option maxHeartbeats 400000 in
theorem Program_len (ao : Option Addr) (n cap : Nat) (w : World) (hn : n ≤ maxLen) (h : n = 0 ∨ 20 < n) :
    Calls Tryz.prog 145 #[.slice ao n cap] w fun e w' => e = .returned (.bool false) ∧ w' = w := by
  unfold maxLen at hn
  rcases h with h | h
  · subst h
    go_enter Tryz.func145, Tryz.ntmps145
    go_wp2
    go_ret
    exact ⟨rfl, rfl⟩
  · have h0 : ((n : Int) == 0) = false := by rw [beq_eq_false_iff_ne]; omega
    go_enter Tryz.func145, Tryz.ntmps145
    go_wp2
    go_ret
    exact ⟨rfl, rfl⟩

end Go.Proofs.YtdbdljjhhehbiaaGreat
