import Derived.Test.YtdbdljjhhehbiaaGreatC
import Derived.Deep.RegionHeld3
namespace Go.Proofs.YtdbdljjhhehbiaaGreat
open Go.RowKit
theorem eight_length (n : Int) : (eightOf n).length = 8 := low_length 8 n
attribute [local go_sem] bs_size bs_append low_length eight_length

/-- An instruction's bytes. -/
def insBytes (x : I) : List UInt8 := [byt x.op, byt x.r, byt x.s] ++ (if numbered x.op then eightOf x.n else []) ++ (if keyed x.op then byt x.key.size :: x.key.data.toList else [])
def payloadOf (l : List I) : List UInt8 := (l.map insBytes).flatten

/-- What lies in a block keeps lying there. -/
theorem bcell {W w1 : World} (hb : Below W.heap.size W w1) {b o : Nat} {v : Value} (h : W.cell? ⟨b, o, none⟩ = some v) : w1.cell? ⟨b, o, none⟩ = some v :=
  (hb.cell (p := ⟨b, o, none⟩) (World.block_lt_of_cell? W _ h)).trans h

theorem keep3 {W w1 : World} (hb : Below W.heap.size W w1) {b1 o1 b2 o2 b3 o3 : Nat} {v1 v2 v3 : Value} (h : W.cell? ⟨b1, o1, none⟩ = some v1 ∧ W.cell? ⟨b2, o2, none⟩ = some v2 ∧ W.cell? ⟨b3, o3, none⟩ = some v3) :
    w1.cell? ⟨b1, o1, none⟩ = some v1 ∧ w1.cell? ⟨b2, o2, none⟩ = some v2 ∧ w1.cell? ⟨b3, o3, none⟩ = some v3 := ⟨bcell hb h.1, bcell hb h.2.1, bcell hb h.2.2⟩
theorem insAt_new (w : World) (x : I) : insAt (w.alloc (.cells #[.int .i64 x.op, .int .i64 x.r, .int .i64 x.s, .int .i64 x.n, .string x.key] 47)) w.heap.size 0 x :=
  ⟨by simp, by simp, by simp, by simp, by simp⟩

theorem key_app (p : List UInt8) (c : UInt8) (s : ByteArray) : bs (p ++ [c]) ++ s = bs (p ++ c :: s.data.toList) := by
  have h := bs_append (p ++ [c]) s.data.toList
  rw [bs_of s] at h
  rw [h]; simp
theorem payload_snoc (l : List I) (x : I) : payloadOf (l ++ [x]) = payloadOf l ++ insBytes x := by simp [payloadOf]
theorem insBytes_num (x : I) (h : numbered x.op = true) (g : keyed x.op = false) : insBytes x = [byt x.op, byt x.r, byt x.s] ++ eightOf x.n := by simp [insBytes, h, g]
theorem insBytes_key (x : I) (h : numbered x.op = false) (g : keyed x.op = true) : insBytes x = [byt x.op, byt x.r, byt x.s] ++ byt x.key.size :: x.key.data.toList := by simp [insBytes, h, g]
theorem insBytes_none (x : I) (h : numbered x.op = false) (g : keyed x.op = false) : insBytes x = [byt x.op, byt x.r, byt x.s] := by simp [insBytes, h, g]
theorem insBytes_length (x : I) (h : keyed x.op = true → x.key.size ≤ 4) : (insBytes x).length ≤ 16 := by
  unfold insBytes eightOf
  cases hn : numbered x.op <;> cases hk : keyed x.op <;> simp [low_length]
  · have g := h hk; have e : x.key.size = x.key.data.size := rfl; omega
  · have g := h hk; have e : x.key.size = x.key.data.size := rfl; omega
theorem payload_length : ∀ (l : List I), (∀ x ∈ l, keyed x.op = true → x.key.size ≤ 4) → (payloadOf l).length ≤ 16 * l.length
  | [], _ => by simp [payloadOf]
  | x :: l, h => by
    have h1 := insBytes_length x (h x (by simp))
    have h2 := payload_length l (fun y hy => h y (by simp [hy]))
    simp only [payloadOf, List.map_cons, List.flatten_cons, List.length_append, List.length_cons] at h2 ⊢
    omega

set_option maxRecDepth 100000 in
set_option maxHeartbeats 1000000 in
theorem Payload_any (b off cap : Nat) (l : List I) (w : World) (hwf : ∀ x ∈ l, x.wf) (hc : ∀ j (h : j < l.length), insAt w b (off + j * 5) l[j]) (hlen : l.length ≤ 20) (hks : ∀ x ∈ l, keyed x.op = true → x.key.size ≤ 4) (hbw : b < w.heap.size) :
    Calls Tryz.prog 146 #[.slice (some ⟨b, off, none⟩) l.length cap] w fun e w' => e = .returned (.string (bs (payloadOf l))) ∧ Below w.heap.size w w' := by
  go_enter Tryz.func146, Tryz.ntmps146
  go_wp2
  go_loopw [3, 4] (fun s i wr => ∃ k : Nat, k ≤ l.length ∧ i = .int .i64 k ∧ s = .string (bs (payloadOf (l.take k))) ∧ Below w.heap.size w wr) (fun _ i _ => l.length - (intOf i).toNat)
  case atStart => exact ⟨0, Nat.zero_le _, rfl, rfl, Below.refl _ _⟩
  case round =>
    obtain ⟨k, hk, rfl, rfl, hb⟩ := hrel
    by_cases hlt : k < l.length
    · obtain ⟨x, hx⟩ : ∃ x, x = l[k] := ⟨_, rfl⟩
      have hi := hc k hlt
      rw [← hx] at hi
      have Hx : Hid (x = l[k]) := hx
      clear hx
      have c0 := (hb.cell (p := ⟨b, off + k * 5, none⟩) hbw).trans hi.c0
      have c1 := (hb.cell (p := ⟨b, off + k * 5 + 1, none⟩) hbw).trans hi.c1
      have c2 := (hb.cell (p := ⟨b, off + k * 5 + 2, none⟩) hbw).trans hi.c2
      have c3 := (hb.cell (p := ⟨b, off + k * 5 + 3, none⟩) hbw).trans hi.c3
      have c4 := (hb.cell (p := ⟨b, off + k * 5 + 4, none⟩) hbw).trans hi.c4
      clear hi hc
      have hpl := payload_length (l.take k) (fun y hy => hks y (List.mem_of_mem_take hy))
      have hpl2 : (l.take k).length ≤ 20 := by rw [List.length_take]; omega
      have HP : Hid (payloadOf (l.take (k + 1)) = payloadOf (l.take k) ++ insBytes x) := by
        show _ = _
        rw [List.take_succ_eq_append_getElem hlt, payload_snoc, Hx.out]
      generalize payloadOf (l.take k) = p at hpl HP ⊢
      have hpl3 : p.length ≤ 320 := by omega
      clear hpl hpl2
      have q1 : ¬ 9223372036854775807 < p.length + 1 := by omega
      have q2 : ¬ 9223372036854775807 < p.length + 1 + 1 := by omega
      have q3 : ¬ 9223372036854775807 < p.length + 1 + 1 + 1 := by omega
      have q4 : ¬ 9223372036854775807 < p.length + 2 + 1 := by omega
      have hfresh := insAt_new wr x
      have hbW : Below w.heap.size w (wr.alloc (.cells #[.int .i64 x.op, .int .i64 x.r, .int .i64 x.s, .int .i64 x.n, .string x.key] 47)) := hb.alloc hb.size _
      go_wp2
      generalize wr.alloc _ = W at hfresh hbW ⊢
      generalize wr.heap.size = B at hfresh hbW ⊢
      clear hb c0 c1 c2 c3 c4 wr
      obtain ⟨d0, d1, d2, d3, d4⟩ := hfresh
      simp only [Nat.zero_add] at d0 d1 d2 d3 d4
      go_region_held3 (fun w' => w'.cell? ⟨B, 0, none⟩ = some (.int .i64 x.op) ∧ w'.cell? ⟨B, 1, none⟩ = some (.int .i64 x.r) ∧ w'.cell? ⟨B, 2, none⟩ = some (.int .i64 x.s)) (first | go_keep | (apply keep3; assumption; assumption) | (apply keep3; assumption; exact ⟨d0, d1, d2⟩))
        (first | (go_at_call 108; refine (one_any _ _).mono ?_; rintro e w' ⟨rfl, hb2⟩))
      have hbY : Below W.heap.size W w' := bl2 (bl2 (bl2 (Below.refl W.heap.size W).drew (by assumption)) (by assumption)) hb2
      have e0 := bcell hbY d0
      have e3 := bcell hbY d3
      have e4 := bcell hbY d4
      have hbZ := bl2 hbW hbY
      have hkx : keyed x.op = true → x.key.size ≤ 4 := hks x (by rw [Hx.out]; exact List.getElem_mem _)
      have hnx : -9223372036854775808 ≤ x.n ∧ x.n ≤ 9223372036854775807 := by rw [Hx.out]; exact (hwf _ (List.getElem_mem _)).2.2.2.1
      have hp3 : (p ++ [byt x.op, byt x.r, byt x.s]).length ≤ 323 := by simp; omega
      clear q1 q2 q3 q4 hpl3
      by_cases hnum : numbered x.op = true
      · have hkn : keyed x.op = false := by simp [numbered, keyed] at hnum ⊢; omega
        rw [insBytes_num x hnum hkn, ← List.append_assoc] at HP
        generalize p ++ [byt x.op, byt x.r, byt x.s] = p2 at hp3 HP ⊢
        clear d0 d1 d2 d3 d4 hbW hbY hwf hks hkx hkn
        have hnum' : x.op = 0 ∨ x.op = 9 := by simpa [numbered] using hnum
        clear hnum
        rcases hnum' with h | h
        · have g0 : (x.op == 0) = true := by rw [h]; rfl
          have g1 : x.op < 1 := by omega
          clear h
          go_wp2_with (first | (go_at_call 168; refine (eight_any _ _ hnx.1 hnx.2).mono ?_; rintro e w2 ⟨rfl, hb4⟩; have e02 := bcell hb4 e0))
          go_roundw
          case rel => exact ⟨k + 1, by omega, by go_num, by rw [HP.out], bl2 hbZ hb4⟩
          case measure => simp [intOf]; omega
        · have g0 : (x.op == 0) = false := by rw [h]; rfl
          have g9 : (x.op == 9) = true := by rw [h]; rfl
          have g1 : 4 < x.op := by omega
          clear h
          go_wp2_with (first | (go_at_call 168; refine (eight_any _ _ hnx.1 hnx.2).mono ?_; rintro e w2 ⟨rfl, hb4⟩; have e02 := bcell hb4 e0))
          go_roundw
          case rel => exact ⟨k + 1, by omega, by go_num, by rw [HP.out], bl2 hbZ hb4⟩
          case measure => simp [intOf]; omega
      · have hnum0 : numbered x.op = false := by simpa using hnum
        have g0 : (x.op == 0) = false := by simp [numbered] at hnum; simp [hnum]
        have g9 : (x.op == 9) = false := by simp [numbered] at hnum; simp [hnum]
        by_cases hkey : keyed x.op = true
        · have hk4 := hkx hkey
          rw [insBytes_key x hnum0 hkey, ← List.append_assoc] at HP
          generalize p ++ [byt x.op, byt x.r, byt x.s] = p2 at hp3 HP ⊢
          have hk1 : 1 ≤ x.op ∧ x.op ≤ 4 := by simpa [keyed] using hkey
          obtain ⟨hk1, hk2⟩ := hk1
          clear d0 d1 d2 d3 d4 hbW hbY hwf hks hkx hkey hnum hnum0
          have q1 : ¬ 9223372036854775807 < p2.length + 1 := by omega
          have q2 : ¬ 9223372036854775807 < p2.length + 1 + x.key.size := by omega
          go_wp2
          go_region_held3 (fun w' => w'.cell? ⟨B, 4, none⟩ = some (.string x.key)) (first | go_keep | (apply bcell; assumption; assumption))
            (first | (go_at_call 108; refine (one_any _ _).mono ?_; rintro e w' ⟨rfl, hb4⟩))
          go_wp2
          have hkk : bs (p2 ++ [byt x.key.size]) ++ x.key = bs (p2 ++ byt x.key.size :: x.key.data.toList) := key_app p2 _ x.key
          go_roundw
          case rel => exact ⟨k + 1, by omega, by go_num, by rw [HP.out, hkk], bl2 hbZ.drew hb4⟩
          case measure => simp [intOf]; omega
        · have hk0 : keyed x.op = false := by simpa using hkey
          rw [insBytes_none x hnum0 hk0] at HP
          have hk1 : ¬ (1 ≤ x.op ∧ x.op ≤ 4) := by simpa [keyed] using hkey
          clear d0 d1 d2 d3 d4 hbW hbY hwf hks hkx hkey hnum hnum0 hk0
          by_cases hl1 : 1 ≤ x.op
          · have hl4 : 4 < x.op := by omega
            clear hk1
            go_wp2
            go_roundw
            case rel => exact ⟨k + 1, by omega, by go_num, by rw [HP.out], hbZ⟩
            case measure => simp [intOf]; omega
          · go_wp2
            go_roundw
            case rel => exact ⟨k + 1, by omega, by go_num, by rw [HP.out], hbZ⟩
            case measure => simp [intOf]; omega
    · go_wp2
      go_ret
      have hk2 : k = l.length := by omega
      subst hk2
      exact ⟨ret_str (by rw [List.take_length]), hb⟩

end Go.Proofs.YtdbdljjhhehbiaaGreat
