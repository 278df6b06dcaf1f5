import Derived.Test.YtdbdljjhhehbiaaGreatD
import Derived.Maps.AppendAt
namespace Go.Proofs.YtdbdljjhhehbiaaGreat
open Go.RowKit

def bv (b : UInt8) : Value := .int .u8 (b.toNat : Int)
/-- A slice of bytes that owns its row. -/
def ownB (w : World) (v : Value) (l : List UInt8) : Prop := w.ownsRow 0 5 1 v l.length (l.map bv)

/-- The world has grown; of what was there only v's own row may have turned; v' lies there, or in what is new. -/
structure Grew (w w' : World) (v v' : Value) : Prop where
  gb : w.grownBy w' v.ownBlock
  lies : v'.ownBlock = v.ownBlock ∨ ∃ g, v'.ownBlock = some g ∧ w.heap.size ≤ g
theorem Grew.refl (w : World) (v : Value) : Grew w w v v := ⟨World.grownBy.refl _ _, Or.inl rfl⟩
theorem Grew.trans {w w1 w2 : World} {v v1 v2 : Value} (h : Grew w w1 v v1) (k : Grew w1 w2 v1 v2) : Grew w w2 v v2 := by
  refine ⟨⟨k.gb.os.trans h.gb.os, k.gb.tape.trans h.gb.tape, k.gb.output.trans h.gb.output, Nat.le_trans h.gb.size k.gb.size, fun i hi hne => ?_⟩, ?_⟩
  · rw [k.gb.block i (Nat.lt_of_lt_of_le hi h.gb.size) ?_, h.gb.block i hi hne]
    rcases h.lies with e | ⟨g, e, hg⟩
    · rw [e]; exact hne
    · rw [e]; intro h2; simp at h2; omega
  · rcases k.lies with e | ⟨g, e, hg⟩
    · rw [e]; exact h.lies
    · exact Or.inr ⟨g, e, Nat.le_trans h.gb.size hg⟩
theorem Grew.below {w w1 w2 : World} {v v1 : Value} (h : Grew w w1 v v1) (k : Below w1.heap.size w1 w2) : Grew w w2 v v1 := by
  refine ⟨⟨k.os.trans h.gb.os, k.tape.trans h.gb.tape, k.output.trans h.gb.output, Nat.le_trans h.gb.size k.size, fun i hi hne => ?_⟩, h.lies⟩
  rw [k.block i (Nat.lt_of_lt_of_le hi h.gb.size), h.gb.block i hi hne]
theorem Grew.behind {w w1 w2 : World} {v v1 : Value} (k : Below w.heap.size w w1) (h : Grew w1 w2 v v1) : Grew w w2 v v1 := by
  refine ⟨⟨h.gb.os.trans k.os, h.gb.tape.trans k.tape, h.gb.output.trans k.output, Nat.le_trans k.size h.gb.size, fun i hi hne => ?_⟩, ?_⟩
  · rw [h.gb.block i (Nat.lt_of_lt_of_le hi k.size) hne, k.block i hi]
  · rcases h.lies with e | ⟨g, e, hg⟩
    · exact Or.inl e
    · exact Or.inr ⟨g, e, Nat.le_trans k.size hg⟩
theorem own_below {w w1 : World} {e size n : Nat} {v : Value} {xs : List Value} (h : w.ownsRow 0 e size v n xs) (k : Below w.heap.size w w1) : w1.ownsRow 0 e size v n xs :=
  h.kept (row := none) ⟨k.os, k.tape, k.output, k.size, fun i hi _ => k.block i hi⟩ (by cases hv : v.ownBlock <;> simp)

theorem Tryz.info5 : (Tryz.prog.info? 5).map (fun i => (i.zero, i.size, i.bytes)) = some (some (.int .u8 0), 1, 1) := by kernel_rfl

theorem add_lit (b o j : Nat) : (⟨b, o, none⟩ : Addr).add j = ⟨b, o + j, none⟩ := by unfold Addr.add; split <;> simp_all

/-- 'append' to a slice of bytes that owns its row. -/
theorem appB {w : World} {ops : Array Oper} {rest : List Oper} {o : Oper} {a : Act} {Q : Exit → Act → World → Prop} (hgd : o.guard = none) (s x : Operand)
    (ho : o.op = .call { callee := .builtin .append, args := #[s, x], argTypes := #[81, 81] })
    (v : Value) (l : List UInt8) (hs : a.eval s = v) (hown : ownB w v l) (b off m c : Nat) (news : List UInt8) (hx : a.eval x = .slice (some ⟨b, off, none⟩) m c) (hl : news.length = m)
    (hnews : ∀ j u, (news.map bv)[j]? = some u → w.cell? ⟨b, off + j, none⟩ = some u) (hsm : l.length + m ≤ 1000000)
    (h : ∀ v' w', ownB w' v' (l ++ news) → Grew w w' v v' → wpList Tryz.prog ops Q rest (a.put o.dst v') w') :
    wpList Tryz.prog ops Q (o :: rest) a w := by
  obtain ⟨i0, hi, hz0, hz1, hz2⟩ := info_parts Tryz.info5
  refine wpList_append_own_at w hgd s x 81 ho 0 5 i0 (.int .u8 0) 1 1 Tryz.underlying81 hi hz0 hz1 hz2 rfl (by decide) v l.length (l.map bv) hs hown ⟨b, off, none⟩ m c (news.map bv) hx (by simp [hl]) ?_ ?_ ?_ ?_ (Nat.zero_le _) ?_
  · intro j u hu; rw [add_lit]; exact hnews j u hu
  · intro u hu; obtain ⟨y, _, rfl⟩ := List.mem_map.1 hu; rfl
  · unfold maxLen; omega
  · omega
  · intro v' w' h1 h2 _ h3
    refine h v' w' ?_ ⟨h2, ?_⟩
    · unfold ownB; rw [List.length_append, hl, List.map_append]; exact h1
    · rcases h3 with e | e
      · exact Or.inl e
      · exact Or.inr ⟨_, e, Nat.le_refl _⟩

theorem new_bytes (w : World) (cs : Array Value) (t : TypeId) (news : List UInt8) (h : cs.toList = news.map bv) : ∀ j u, (news.map bv)[j]? = some u → (w.alloc (.cells cs t)).cell? ⟨w.heap.size, 0 + j, none⟩ = some u := by
  intro j u hu
  rw [Nat.zero_add, cell_of_row _ w.heap.size j cs t (0, 0) (heap_alloc_new w _)]
  rw [← h] at hu
  simpa using hu
theorem u8_of (n : Int) : Value.int .u8 (n % 256) = bv (byt n) := by unfold bv; rw [byt_toNat]

set_option maxRecDepth 100000 in
set_option maxHeartbeats 400000 in
theorem appendTwo_any (v : Value) (l : List UInt8) (n : Int) (w : World) (hown : ownB w v l) (hl : l.length ≤ 100000) (h0 : 0 ≤ n) (h1 : n ≤ 1000000) :
    Calls Tryz.prog 59 #[v, .int .i64 n] w fun e w' => ∃ v', e = .returned v' ∧ ownB w' v' (l ++ two n) ∧ Grew w w' v v' := by
  go_enter Tryz.func59, Tryz.ntmps59
  go_wp2_with (at_builtin; refine appB rfl _ _ rfl v l rfl (own_below hown ((Below.refl _ _).alloc (Nat.le_refl _) _)) w.heap.size 0 2 2 (two n) rfl rfl ?c1 (by omega) ?_)
  case c1 => exact new_bytes w _ 5 (two n) (by simp [two, u8_of, byt_mod])
  intro v' w1 ho1 hg1
  go_wp2
  go_ret
  exact ⟨v', rfl, ho1, Grew.behind ((Below.refl _ _).alloc (Nat.le_refl _) _) hg1⟩

theorem low_u64 (n : Int) : low 8 (n % 18446744073709551616) = low 8 n := by
  simp only [low, byt]
  have h0 : n % 18446744073709551616 % 256 = n % 256 := by omega
  have h1 : n % 18446744073709551616 / 256 % 256 = n / 256 % 256 := by omega
  have h2 : n % 18446744073709551616 / 256 / 256 % 256 = n / 256 / 256 % 256 := by omega
  have h3 : n % 18446744073709551616 / 256 / 256 / 256 % 256 = n / 256 / 256 / 256 % 256 := by omega
  have h4 : n % 18446744073709551616 / 256 / 256 / 256 / 256 % 256 = n / 256 / 256 / 256 / 256 % 256 := by omega
  have h5 : n % 18446744073709551616 / 256 / 256 / 256 / 256 / 256 % 256 = n / 256 / 256 / 256 / 256 / 256 % 256 := by omega
  have h6 : n % 18446744073709551616 / 256 / 256 / 256 / 256 / 256 / 256 % 256 = n / 256 / 256 / 256 / 256 / 256 / 256 % 256 := by omega
  have h7 : n % 18446744073709551616 / 256 / 256 / 256 / 256 / 256 / 256 / 256 % 256 = n / 256 / 256 / 256 / 256 / 256 / 256 / 256 % 256 := by omega
  rw [h0, h1, h2, h3, h4, h5, h6, h7]
theorem shr8_u : ∀ (k : Nat) (n : Int), 0 ≤ n → n < 18446744073709551616 → 0 ≤ shr8 k n ∧ shr8 k n < 18446744073709551616
  | 0, _, h, g => ⟨h, g⟩
  | k + 1, n, h, g => by have := shr8_u k n h g; simp only [shr8]; omega

set_option maxRecDepth 100000 in
set_option maxHeartbeats 400000 in
theorem appendEight_any (v : Value) (l : List UInt8) (n : Int) (w : World) (hown : ownB w v l) (hl : l.length ≤ 100000) (_h0 : -9223372036854775808 ≤ n) (_h1 : n ≤ 9223372036854775807) :
    Calls Tryz.prog 75 #[v, .int .i64 n] w fun e w' => ∃ v', e = .returned v' ∧ ownB w' v' (l ++ eightOf n) ∧ Grew w w' v v' := by
  have hU : IntKind.u64.wrap n = n % 18446744073709551616 := by rw [IntKind.wrap_u64]
  have hU0 : 0 ≤ IntKind.u64.wrap n ∧ IntKind.u64.wrap n < 18446744073709551616 := by omega
  have HL : Hid (low 8 (IntKind.u64.wrap n) = eightOf n) := by show _ = _; rw [hU]; exact low_u64 n
  clear hU
  go_enter Tryz.func75, Tryz.ntmps75
  go_wp2
  generalize IntKind.u64.wrap n = U at hU0 HL ⊢
  go_loopw [0, 5, 8] (fun t r i wr => ∃ k : Nat, k ≤ 8 ∧ i = .int .i64 k ∧ r = .int .u64 (shr8 k U) ∧ ownB wr t (l ++ low k U) ∧ Grew w wr v t) (fun _ _ i _ => 8 - (intOf i).toNat)
  case atStart => exact ⟨0, Nat.zero_le _, rfl, rfl, by simpa [low] using hown, Grew.refl _ _⟩
  case round =>
    obtain ⟨k, hk, rfl, rfl, hot, hgt⟩ := hrel
    have hd := shr8_u k U hU0.1 hU0.2
    by_cases hlt : k < 8
    · have hlen : (l ++ low k U).length ≤ 100008 := by simp [low_length]; omega
      go_wp2_with (at_builtin; refine appB rfl _ _ rfl _ _ rfl (own_below hot ((Below.refl _ _).alloc (Nat.le_refl _) _)) wr.heap.size 0 1 1 [byt (shr8 k U)] rfl rfl ?c1 (by omega) ?_)
      case c1 => exact new_bytes wr _ 5 [byt (shr8 k U)] (by simp [u8_of])
      intro v' w1 ho1 hg1
      rw [← low_succ] at ho1
      have hg2 := hgt.trans (Grew.behind ((Below.refl _ _).alloc (Nat.le_refl _) _) hg1)
      clear hot hgt hg1
      go_wp2
      go_roundw
      case rel => exact ⟨k + 1, by omega, by go_num, by simp [shr8], ho1, hg2⟩
      case measure => simp [intOf]; omega
    · go_wp2
      go_ret
      have : k = 8 := by omega
      subst this
      rw [HL.out] at hot
      exact ⟨_, rfl, hot, hgt⟩

set_option maxRecDepth 100000 in
set_option maxHeartbeats 400000 in
theorem sum_any (b off cap : Nat) (l : List UInt8) (w : World) (hc : ∀ j (h : j < l.length), w.cell? ⟨b, off + j, none⟩ = some (.int .u8 (l[j].toNat : Int))) (hl : l.length ≤ 1000000) :
    Calls Tryz.prog 60 #[.slice (some ⟨b, off, none⟩) l.length cap] w fun e w' => e = .returned (.int .i64 (sumOf l)) ∧ w' = w := by
  go_enter Tryz.func60, Tryz.ntmps60
  go_wp2
  go_loop [3, 8] (fun n i => ∃ k : Nat, k ≤ l.length ∧ i = .int .i64 k ∧ n = .int .i64 (sumOf (l.take k))) (fun _ i => l.length - (intOf i).toNat)
  case atStart => exact ⟨0, Nat.zero_le _, rfl, rfl⟩
  case round =>
    obtain ⟨k, hk, rfl, rfl⟩ := hrel
    have hd := sumOf_bd (l.take k)
    by_cases hlt : k < l.length
    · have hck := hc k hlt
      have h8 : (l[k].toNat : Int) < 256 := by have := UInt8.toNat_lt l[k]; omega
      have hsn := sumOf_snoc (l.take k) l[k]
      have HS : Hid (sumOf (l.take (k + 1)) = (263 * sumOf (l.take k) + l[k].toNat + 1) % 65521) := by
        show _ = _
        rw [List.take_succ_eq_append_getElem hlt]; exact hsn
      clear hsn hc
      go_wp2
      go_round
      case rel => exact ⟨k + 1, by omega, by go_num, by rw [HS.out]; go_num⟩
      case measure => simp [intOf]; omega
    · go_wp2
      go_ret
      exact ⟨by rw [List.take_of_length_le (by omega)]; rfl, rfl⟩

/-- Another row stays as it was, and apart. -/
theorem Grew.keep {w w' : World} {v v' pv : Value} {e size n : Nat} {xs : List Value} (h : Grew w w' v v') (hp : w.ownsRow 0 e size pv n xs) (hne : pv.ownBlock = none ∨ pv.ownBlock ≠ v.ownBlock) :
    w'.ownsRow 0 e size pv n xs ∧ (pv.ownBlock = none ∨ pv.ownBlock ≠ v'.ownBlock) := by
  refine ⟨hp.kept h.gb hne, ?_⟩
  rcases hne with hn | hne
  · exact Or.inl hn
  · right
    rcases h.lies with e | ⟨g, e, hg⟩
    · rw [e]; exact hne
    · rw [e]; intro h2; have := (hp.lt _ h2).2; omega
theorem ownB_cells {w : World} {g n cap : Nat} {l : List UInt8} (h : ownB w (.slice (some ⟨g, 0, none⟩) n cap) l) : ∀ j u, (l.map bv)[j]? = some u → w.cell? ⟨g, j, none⟩ = some u := by
  intro j u hu
  have := World.ownsRow.cells h (g := g) rfl j u hu
  rwa [add_lit, Nat.zero_add] at this
theorem ownB_cell {w : World} {g n cap : Nat} {l : List UInt8} (h : ownB w (.slice (some ⟨g, 0, none⟩) n cap) l) (j : Nat) (hj : j < l.length) : w.cell? ⟨g, j, none⟩ = some (.int .u8 (l[j].toNat : Int)) :=
  ownB_cells h j _ (by simp [hj]; rfl)
theorem ownB_form {w : World} {v : Value} {l : List UInt8} (h : ownB w v l) (hn : 0 < l.length) : ∃ g cap, v = .slice (some ⟨g, 0, none⟩) l.length cap ∧ l.length ≤ cap ∧ cap ≤ maxLen ∧ g < w.heap.size := by
  rcases h.2 with ⟨_, h0⟩ | ⟨g, cap, cur, rfl, _, hg, h1, h2, _⟩
  · omega
  · exact ⟨g, cap, rfl, h1, h2, (Array.getElem?_eq_some_iff.1 hg).1⟩

set_option maxRecDepth 100000 in
set_option maxHeartbeats 400000 in
theorem Append_any (v : Value) (l : List UInt8) (kind : UInt8) (pv : Value) (p : List UInt8) (w : World) (hown : ownB w v l) (hpv : ownB w pv p) (hne : pv.ownBlock = none ∨ pv.ownBlock ≠ v.ownBlock) (hl : l.length ≤ 50000) (hp : p.length ≤ 10000) (hp0 : 0 < p.length) :
    Calls Tryz.prog 27 #[v, .int .u8 (kind.toNat : Int), pv] w fun e w' => ∃ v', e = .returned v' ∧ ownB w' v' (l ++ entryOf [kind] p) ∧ Grew w w' v v' := by
  obtain ⟨vg, vcap, hv⟩ : ∃ a c, v = .slice a l.length c := by
    rcases hown.2 with ⟨h, h0⟩ | ⟨g, cap, cur, h, _⟩
    · exact ⟨none, 0, by rw [h, h0]⟩
    · exact ⟨_, _, h⟩
  obtain ⟨g, cap, hpf, hcap1, hcap2, hgw⟩ := ownB_form hpv hp0
  subst hpf
  subst hv
  have hal : Below w.heap.size w (w.alloc (.cells #[.int .u8 (kind.toNat : Int)] 5)) := (Below.refl _ _).alloc (Nat.le_refl _) _
  have ho0 := own_below hown hal
  go_enter Tryz.func27, Tryz.ntmps27
  go_wp2_with (at_builtin; refine appB rfl _ _ rfl _ l rfl ho0 w.heap.size 0 1 1 [kind] rfl rfl ?c1 (by simp; omega) ?_)
  case c1 => exact new_bytes w _ 5 [kind] rfl
  intro v1 w1 ho1 hg1
  have hg1' := Grew.behind hal hg1
  obtain ⟨hpv1, hne1⟩ := hg1'.keep hpv hne
  go_wp2_with (first | (go_at_call 59; refine (appendTwo_any _ (l ++ [kind]) _ _ ho1 (by simp; omega) (by omega) (by omega)).mono ?_; rintro e w2 ⟨v2, rfl, ho2, hg2⟩; obtain ⟨hpv2, hne2⟩ := hg2.keep hpv1 hne1) | (at_builtin; refine appB rfl (.tmp 18) (.tmp 19) rfl _ _ rfl ho2 g 0 p.length cap p rfl rfl (fun j u hu => by rw [Nat.zero_add]; exact ownB_cells hpv2 j u hu) (by simp [two_length]; omega) ?_))
  intro v3 w3 ho3 hg3
  have hh : l ++ kind :: (two p.length ++ p) = l ++ entryHead [kind] p := by simp [entryHead]
  rw [hh] at ho3
  have hle := head_length [kind] p
  have hle2 : (l ++ entryHead [kind] p).length = l.length + (entryHead [kind] p).length := List.length_append
  obtain ⟨g3, cap3, hv3, hc31, hc32, hgw3⟩ := ownB_form ho3 (by simp at hle hle2 ⊢; omega)
  have hg3' := (hg1'.trans hg2).trans hg3
  rw [hv3] at ho3 hg3' ⊢
  have hsc : ∀ j (h : j < (entryHead [kind] p).length), w3.cell? ⟨g3, l.length + j, none⟩ = some (.int .u8 ((entryHead [kind] p)[j].toNat : Int)) := by
    intro j hj
    have := ownB_cell ho3 (l.length + j) (by rw [hle2]; omega)
    rw [this, List.getElem_append_right (by omega)]
    simp
  clear hown hpv hne ho0 hal ho1 hg1 hg1' hpv1 hne1 ho2 hg2 hpv2 hne2 hg3 hh hv3
  have hbd := sumOf_bd (entryHead [kind] p)
  have hle3 : (entryHead [kind] p).length = 3 + p.length := by rw [hle]; rfl
  clear hle
  generalize hE : entryHead [kind] p = E at hbd hle3 hle2 hsc ho3 hc31 hg3' ⊢
  have HE : Hid (entryHead [kind] p = E) := hE
  clear hE
  rw [hle2] at hc31 ho3 hg3' ⊢
  have hle4 : E.length ≤ 10003 := by omega
  have hcl : ¬ cap3 = l.length := by omega
  clear hle2 hle3
  go_wp2_with (first | (go_at_call 60; refine (sum_any g3 l.length (cap3 - l.length) E _ hsc (by omega)).mono ?_; rintro e w4 ⟨rfl, rfl⟩) | (go_at_call 59; refine (appendTwo_any _ (l ++ E) _ _ ?_ (by rw [List.length_append]; omega) (by omega) (by omega)).mono ?_; exact ho3; rintro e w5 ⟨v5, rfl, ho5, hg5⟩))
  go_ret
  rw [List.append_assoc] at ho5
  exact ⟨v5, rfl, by unfold entryOf; rw [HE.out]; exact ho5, hg3'.trans hg5⟩

end Go.Proofs.YtdbdljjhhehbiaaGreat
