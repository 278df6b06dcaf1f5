import Derived.Test.YthdeickfeaeoiaaN
namespace Go.Proofs.Ythdeickfeaeoiaa
open Go.RowKit

/-- Code in memory, with a program's length. -/
structure CodeAt (w : World) (b off : Nat) (l : List I) : Prop where
  lt : b < w.heap.size
  wf : ∀ x ∈ l, x.wf
  at' : ∀ j (h : j < l.length), insAt w b (off + j * 5) l[j]
theorem isProg_len {l : List I} (h : isProg l = true) : 1 ≤ l.length ∧ l.length ≤ 20 ∧ ∀ x ∈ l, insOk l.length x = true := by
  simp only [isProg, Bool.and_eq_true, decide_eq_true_eq, List.all_eq_true] at h
  exact ⟨h.1.1, h.1.2, h.2⟩
theorem POf_yes (b off cap : Nat) (l : List I) (w : World) (hc : CodeAt w b off l) (hp : isProg l = true) :
    Calls Try.prog 49 #[.slice (some ⟨b, off, none⟩) l.length cap] w fun e w' => (∃ G, e = .returned (.tuple #[.slice (some ⟨G, 0, none⟩) l.length l.length, .bool true]) ∧ w.heap.size ≤ G ∧ G < w'.heap.size ∧ w'.rangeAt G 0 (flatP l)) ∧ Below w.heap.size w w' := by
  have hl := isProg_len hp
  refine (POf_any b off cap l w hc.wf hc.at' hl.2.1 hl.1 hc.lt).mono ?_
  rintro e w' ⟨h | h, hb⟩
  · rw [hp] at h; exact absurd h.1 (by simp)
  · exact ⟨h.2, hb⟩

set_option maxRecDepth 100000 in
set_option maxHeartbeats 400000 in
theorem Submit_full (B b off cap : Nat) (l : List I) (log : List UInt8) (wv lv : Value) (w : World) (hc : CodeAt w b off l) (hp : isProg l = true) (hB : Bk w B 60 log wv lv) :
    Calls Try.prog 45 #[.pointer (some ⟨B, 0, none⟩), .slice (some ⟨b, off, none⟩) l.length cap] w fun e w' => e = .returned (.tuple #[.int .i64 0, .int .i64 3]) ∧ Below w.heap.size w w' := by
  obtain ⟨bt, wk, hblk⟩ := hB.blk
  have HB : Hid _ := hblk
  clear hblk hB
  go_enter Try.func45, Try.ntmps45
  go_wp2_with (first | (go_at_call 49; refine (POf_yes b off cap l _ hc hp).mono ?_; rintro e w1 ⟨⟨G, rfl, hG1, hG2, hG3⟩, hb1⟩; have c2 := bcell hb1 (blk_cell (i := 2) HB.out rfl)))
  go_ret2
  exact ⟨rfl, hb1⟩

theorem one_is (k : IntKind) (a : Int) (x : Option Addr) (m c : Nat) : ∀ u ∈ [Value.int k a, Value.slice x m c], u.oneCell' = true := by
  intro u hu
  simp only [List.mem_cons, List.not_mem_nil, or_false] at hu
  rcases hu with rfl | rfl <;> rfl
theorem Try.info112 : (Try.prog.info? 112).map (fun i => (i.zero, i.size, i.bytes)) = some (some (.agg #[.int .i64 0, .slice none 0 0]), 2, 32) := by kernel_rfl

theorem after_wait {S : Nat → Prop} {w W2 w3 : World} {B G n cap3 g : Nat} {o : Obj} {bt wk : Int} {wv lv : Value} {xs news fp : List Value} {log : List UInt8} (hk : Keeps (fun k => k = B ∨ some k = wv.ownBlock ∨ S k) w W2)
    (hblk : W2.heap[B]? = some (.cells #[.int .i64 bt, .int .i64 wk, .int .i64 ((n : Int) + 1), wv, lv] 65 (0, 0))) (how : W2.ownsRow 0 112 2 wv n xs) (hol : ownB W2 lv log) (hra : W2.rangeAt G 0 fp) (hs : G < W2.heap.size) (hBw : B < w.heap.size) (hGw : w.heap.size ≤ G) (hwl : ∀ k, wv.ownBlock = some k → k < w.heap.size)
    (hown : w3.ownsRow 0 112 2 (.slice (some ⟨g, 0, none⟩) (n + 1) cap3) (n + 1) (xs ++ news)) (hgr : (W2.alloc o).drew.grownBy w3 wv.ownBlock) (hl : wv.ownBlock = some g ∨ g = W2.heap.size + 1)
    (hB3 : w3.heap[B]? = some (.cells #[.int .i64 bt, .int .i64 wk, .int .i64 ((n : Int) + 1), wv, lv] 65 (0, 0))) :
    Keeps (fun k => k = B ∨ some k = wv.ownBlock ∨ S k) w (w3.setCell ⟨B, 3, none⟩ (.slice (some ⟨g, 0, none⟩) (n + 1) cap3)) ∧
    Hid ((w3.setCell ⟨B, 3, none⟩ (.slice (some ⟨g, 0, none⟩) (n + 1) cap3)).heap[B]? = some (.cells #[.int .i64 bt, .int .i64 wk, .int .i64 ((n : Int) + 1), .slice (some ⟨g, 0, none⟩) (n + 1) cap3, lv] 65 (0, 0))) ∧
    Hid (∃ ys, (w3.setCell ⟨B, 3, none⟩ (.slice (some ⟨g, 0, none⟩) (n + 1) cap3)).ownsRow 0 112 2 (.slice (some ⟨g, 0, none⟩) (n + 1) cap3) (n + 1) ys) ∧
    Hid (ownB (w3.setCell ⟨B, 3, none⟩ (.slice (some ⟨g, 0, none⟩) (n + 1) cap3)) lv log) ∧
    (w3.setCell ⟨B, 3, none⟩ (.slice (some ⟨g, 0, none⟩) (n + 1) cap3)).rangeAt G 0 fp ∧ Moved w wv (.slice (some ⟨g, 0, none⟩) (n + 1) cap3) ∧ G < (w3.setCell ⟨B, 3, none⟩ (.slice (some ⟨g, 0, none⟩) (n + 1) cap3)).heap.size := by
  have hks := setCell_keeps w3 B 3 (.slice (some ⟨g, 0, none⟩) (n + 1) cap3)
  have hal : Keeps (fun _ => False) W2 (W2.alloc o).drew := Below.keeps (((Below.refl _ _).alloc (Nat.le_refl _) _).drew) _
  have h3 := grown_keeps hgr
  have h23 : Keeps (fun k => some k = wv.ownBlock) W2 w3 := (hal.mono (fun _ h => h.elim)).trans h3 (fun i hi _ => hi)
  have h24 : Keeps (fun k => k = B ∨ some k = wv.ownBlock) W2 (w3.setCell ⟨B, 3, none⟩ (.slice (some ⟨g, 0, none⟩) (n + 1) cap3)) := (h23.mono (fun i hi => Or.inr hi)).trans hks (fun i hi _ => Or.inl hi)
  have hgW : ∀ i, (i = B ∨ some i = wv.ownBlock) → some i ≠ lv.ownBlock := by
    rintro i (rfl | hi)
    · exact own_apart hol hblk (by decide)
    · rw [hi]
      rcases own_apart2 hol how (by decide) with h | h
      · rw [h, ← hi]; simp
      · exact fun e => h e.symm
  have hGB : ¬ (G = B ∨ some G = wv.ownBlock) := by
    rintro (h | h)
    · omega
    · have := hwl _ h.symm
      omega
  refine ⟨hk.trans h24 (fun i hi _ => by rcases hi with h | h; exact Or.inl h; exact Or.inr (Or.inl h)), blk_set hB3, ⟨_, own_keeps hown hks (fun i hi => by subst hi; exact own_apart hown hB3 (by decide))⟩, own_keeps hol h24 hgW, ?_, ?_, Nat.lt_of_lt_of_le hs h24.size⟩
  · intro j v hv
    rw [World.cell?_of_block (w := W2) (h24.block G hs hGB)]; exact hra j v hv
  · rcases hl with h | h
    · exact Or.inl (by rw [h]; rfl)
    · exact Or.inr ⟨g, rfl, by have := hk.size; omega⟩

theorem Append_form (v : Value) (l : List UInt8) (kind : UInt8) (pv : Value) (p : List UInt8) (w : World) (hown : ownB w v l) (hpv : ownB w pv p) (hne : pv.ownBlock = none ∨ pv.ownBlock ≠ v.ownBlock) (hl : l.length ≤ 50000) (hp : p.length ≤ 10000) (hp0 : 0 < p.length) :
    Calls Try.prog 50 #[v, .int .u8 (kind.toNat : Int), pv] w fun e w' => ∃ g cap, e = .returned (.slice (some ⟨g, 0, none⟩) (l ++ entryOf [kind] p).length cap) ∧ ownB w' (.slice (some ⟨g, 0, none⟩) (l ++ entryOf [kind] p).length cap) (l ++ entryOf [kind] p) ∧ Grew w w' v (.slice (some ⟨g, 0, none⟩) (l ++ entryOf [kind] p).length cap) := by
  refine (Append_any v l kind pv p w hown hpv hne hl hp hp0).mono ?_
  rintro e w' ⟨v', rfl, ho, hg⟩
  obtain ⟨g, cap, rfl, _⟩ := ownB_form ho (by rw [List.length_append, entry_length]; omega)
  exact ⟨g, cap, rfl, ho, hg⟩
theorem new_apart {W w5 : World} {pv lv : Value} (h : Grew W w5 (.slice none 0 0) pv) (hl : ∀ k, lv.ownBlock = some k → k < W.heap.size) : pv.ownBlock = none ∨ pv.ownBlock ≠ lv.ownBlock := by
  rcases h.lies with e | ⟨g, e, hg⟩
  · exact Or.inl (by rw [e]; rfl)
  · right; rw [e]; intro h2; have := hl g h2.symm; omega
theorem payload_small {l : List I} (h : 1 ≤ l.length ∧ l.length ≤ 20 ∧ ∀ x ∈ l, insOk l.length x = true) : (payloadOf l).length ≤ 10000 := by
  have := payload_length l (fun x hx hk => insOk_size (h.2.2 x hx) hk)
  omega
theorem payload_some {l : List I} (h : 1 ≤ l.length ∧ l.length ≤ 20 ∧ ∀ x ∈ l, insOk l.length x = true) : 0 < (payloadOf l).length := by
  cases l with
  | nil => simp at h
  | cons x l => simp [payloadOf, insBytes]
theorem after_log {W4 w5 w6 : World} {B n : Nat} {bt wk : Int} {wv lv lv6 : Value} {log : List UInt8} (hb5 : Below W4.heap.size W4 w5)
    (hblk : W4.heap[B]? = some (.cells #[.int .i64 bt, .int .i64 wk, .int .i64 ((n : Int) + 1), wv, lv] 65 (0, 0))) (hol : ownB W4 lv log) (hg6 : Grew w5 w6 lv lv6) :
    Hid (w6.heap[B]? = some (.cells #[.int .i64 bt, .int .i64 wk, .int .i64 ((n : Int) + 1), wv, lv] 65 (0, 0))) := by
  have h5 : w5.heap[B]? = some (.cells #[.int .i64 bt, .int .i64 wk, .int .i64 ((n : Int) + 1), wv, lv] 65 (0, 0)) := (hb5.block B (lt_of_block hblk)).trans hblk
  exact (hg6.gb.block B (lt_of_block h5) (own_apart hol hblk (by decide))).trans h5

theorem submit_end {w W4 w5 w6 : World} {B n g6 cap6 : Nat} {bt wk : Int} {wv wv4 lv : Value} {log ent : List UInt8} (hk : Keeps (fun k => k = B ∨ some k = wv.ownBlock ∨ some k = lv.ownBlock) w W4)
    (hB4 : W4.heap[B]? = some (.cells #[.int .i64 bt, .int .i64 wk, .int .i64 ((n : Int) + 1), wv4, lv] 65 (0, 0)))
    (how : ∃ ys, W4.ownsRow 0 112 2 wv4 (n + 1) ys) (hol : ownB W4 lv log) (hb5 : Below W4.heap.size W4 w5)
    (hB6 : w6.heap[B]? = some (.cells #[.int .i64 bt, .int .i64 wk, .int .i64 ((n : Int) + 1), wv4, lv] 65 (0, 0))) (hol6 : ownB w6 (.slice (some ⟨g6, 0, none⟩) ent.length cap6) ent) (hg6 : Grew w5 w6 lv (.slice (some ⟨g6, 0, none⟩) ent.length cap6)) (hmv : Moved w wv wv4) :
    Bk (w6.setCell ⟨B, 4, none⟩ (.slice (some ⟨g6, 0, none⟩) ent.length cap6)) B (n + 1) ent wv4 (.slice (some ⟨g6, 0, none⟩) ent.length cap6) ∧ Keeps (fun k => k = B ∨ some k = wv.ownBlock ∨ some k = lv.ownBlock) w (w6.setCell ⟨B, 4, none⟩ (.slice (some ⟨g6, 0, none⟩) ent.length cap6)) ∧ Moved w wv wv4 ∧ Moved w lv (.slice (some ⟨g6, 0, none⟩) ent.length cap6) := by
  have hks := setCell_keeps w6 B 4 (.slice (some ⟨g6, 0, none⟩) ent.length cap6)
  have h46 : Keeps (fun k => some k = lv.ownBlock) W4 w6 := (Below.keeps hb5 _).trans hg6.keeps (fun i hi _ => hi)
  have h47 : Keeps (fun k => k = B ∨ some k = lv.ownBlock) W4 (w6.setCell ⟨B, 4, none⟩ (.slice (some ⟨g6, 0, none⟩) ent.length cap6)) := (h46.mono (fun i hi => Or.inr hi)).trans hks (fun i hi _ => Or.inl hi)
  obtain ⟨ys, hy⟩ := how
  refine ⟨⟨⟨bt, wk, blk_set hB6⟩, ⟨ys, own_keeps hy h47 ?_⟩, own_keeps hol6 hks (fun i hi => by subst hi; exact own_apart hol6 hB6 (by decide))⟩, hk.trans h47 (fun i hi _ => by rcases hi with h | h; exact Or.inl h; exact Or.inr (Or.inr h)), hmv, ?_⟩
  · rintro i (rfl | hi)
    · exact own_apart hy hB4 (by decide)
    · rw [hi]
      rcases own_apart2 hy hol (by decide) with h | h
      · rw [h, ← hi]; simp
      · exact fun e => h e.symm
  · rcases hg6.lies with e | ⟨g, e, hg⟩
    · exact Or.inl e
    · exact Or.inr ⟨g, e, by have := hk.size; have := hb5.size; omega⟩

set_option maxRecDepth 100000 in
set_option maxHeartbeats 2000000 in
theorem Submit_yes (B b off cap n : Nat) (l : List I) (log : List UInt8) (wv lv : Value) (w : World) (hc : CodeAt w b off l) (hp : isProg l = true) (hB : Bk w B n log wv lv) (hn : n < 60) (hlog : log.length ≤ 50000) :
    Calls Try.prog 45 #[.pointer (some ⟨B, 0, none⟩), .slice (some ⟨b, off, none⟩) l.length cap] w fun e w' => e = .returned (.tuple #[.int .i64 ((n : Int) + 1), .int .i64 0]) ∧ ∃ wv' lv', Bk w' B (n + 1) (log ++ entryOf [83] (payloadOf l)) wv' lv' ∧ Keeps (fun k => k = B ∨ some k = wv.ownBlock ∨ some k = lv.ownBlock) w w' ∧ Moved w wv wv' ∧ Moved w lv lv' := by
  obtain ⟨bt, wk, hblk⟩ := hB.blk
  obtain ⟨xs, how⟩ := hB.ow
  have hol := hB.ol
  have h60 : ((n : Int) == 60) = false := by rw [beq_eq_false_iff_ne]; omega
  have HB : Hid _ := hblk
  have HW : Hid _ := how
  have HL : Hid _ := hol
  have HWl : Hid (∀ k, wv.ownBlock = some k → k < w.heap.size) := fun k hk => (how.lt k hk).2
  have HLl : Hid (∀ k, lv.ownBlock = some k → k < w.heap.size) := fun k hk => (World.ownsRow.lt hol k hk).2
  have HP : Hid _ := isProg_len hp
  have HWF : Hid _ := hc.wf
  clear hblk hB how hol
  go_enter Try.func45, Try.ntmps45
  go_wp2_with (first | (go_at_call 49; refine (POf_yes b off cap l _ hc hp).mono ?_; rintro e w1 ⟨⟨G, rfl, hG1, hG2, hG3⟩, hb1⟩; have c2 : w1.cell? ⟨B, 2, none⟩ = some (.int .i64 n) := bcell hb1 (blk_cell (i := 2) HB.out rfl); have f2 : w1.frozen? ⟨B, 2, none⟩ = false := (hb1.frozen (lt_of_block HB.out)).trans (blk_free HB.out)))
  have hBw : B < w.heap.size := lt_of_block HB.out
  have hblk1 : w1.heap[B]? = some (.cells #[.int .i64 bt, .int .i64 wk, .int .i64 n, wv, lv] 65 (0, 0)) := (hb1.block B hBw).trans HB.out
  have hk2 : Keeps (fun k => k = B ∨ some k = wv.ownBlock ∨ some k = lv.ownBlock) w (w1.setCell ⟨B, 2, none⟩ (.int .i64 ((n : Int) + 1))) := (Below.keeps hb1 _).trans (setCell_keeps _ _ _ _) (fun i hi _ => Or.inl hi)
  have hkB := setCell_keeps w1 B 2 (.int .i64 ((n : Int) + 1))
  have hblk2 : (w1.setCell ⟨B, 2, none⟩ (.int .i64 ((n : Int) + 1))).heap[B]? = some (.cells #[.int .i64 bt, .int .i64 wk, .int .i64 ((n : Int) + 1), wv, lv] 65 (0, 0)) := blk_set hblk1
  have how2 := own_keeps (own_below HW.out hb1) hkB (fun i hi => by subst hi; exact own_apart (own_below HW.out hb1) hblk1 (by decide))
  have hol2 := own_keeps (own_below HL.out hb1) hkB (fun i hi => by subst hi; exact own_apart (own_below HL.out hb1) hblk1 (by decide))
  have hra2 : (w1.setCell ⟨B, 2, none⟩ (.int .i64 ((n : Int) + 1))).rangeAt G 0 (flatP l) := fun j v hv => by
    have h1 := hG3 j v hv
    rw [World.cell?_of_block (w := w1) (Below.heap_setCell _ _ _ _ (by show G ≠ B; omega))]; exact h1
  have hs2 : G < (w1.setCell ⟨B, 2, none⟩ (.int .i64 ((n : Int) + 1))).heap.size := by have := hkB.size; omega
  clear HB HW HL hc hG3 c2 f2 hblk1 hkB hG2
  have hb1s := hb1.size
  clear hb1
  generalize w1.setCell ⟨B, 2, none⟩ (.int .i64 ((n : Int) + 1)) = W2 at hk2 hblk2 how2 hol2 hra2 hs2 ⊢
  have c2 : W2.cell? ⟨B, 2, none⟩ = some (.int .i64 ((n : Int) + 1)) := blk_cell (i := 2) hblk2 rfl
  have c3 : W2.cell? ⟨B, 3, none⟩ = some wv := blk_cell (i := 3) hblk2 rfl
  obtain ⟨i0, hi, hz0, hz1, hz2⟩ := info_parts Try.info112
  have HB2 : Hid _ := hblk2
  have HW2 : Hid _ := how2
  have hBW : B < W2.heap.size := lt_of_block hblk2
  have hapW : some B ≠ wv.ownBlock := own_apart how2 hblk2 (by decide)
  have hapL : some B ≠ lv.ownBlock := own_apart hol2 hblk2 (by decide)
  clear hblk2 how2 hb1s
  go_region_law ((refine step_append_lies _ (by rfl) (.tmp 31) (.tmp 38) 62 (by rfl) 0 112 i0 _ 2 32 Try.underlying62 hi hz0 hz1 hz2 rfl (by omega) wv n xs (by rfl) (own_below HW2.out (((Below.refl _ _).alloc (Nat.le_refl _) _).drew)) ⟨W2.heap.size, 0, none⟩ 1 1 [.int .i64 ((n : Int) + 1), .slice (some ⟨G, 0, none⟩) l.length l.length] (by rfl) rfl (World.news_of_block (heap_alloc_new W2 _)) (one_is _ _ _ _ _) (by omega) (by unfold maxLen; omega) (by omega) (Nat.zero_le _) (W2.heap.size + 1) (by simp) ?_; intro g cap3 w3 hown3 hgrow3 hlies3 hlt3; have HB3 : Hid (w3.heap[B]? = some (.cells #[.int .i64 bt, .int .i64 wk, .int .i64 ((n : Int) + 1), wv, lv] 65 (0, 0))) := (hgrow3.block B (Nat.lt_of_lt_of_le hBW (by simp)) hapW).trans ((Below.heap_alloc W2 _ B hBW).trans HB2.out); have c33 : w3.cell? ⟨B, 3, none⟩ = some wv := blk_cell (i := 3) HB3.out rfl; have f33 : w3.frozen? ⟨B, 3, none⟩ = false := blk_free HB3.out))
  all_goals
    obtain ⟨hk4, HB4, HW4, HL4, hra4, hmv4, hs4⟩ := after_wait hk2 HB2.out HW2.out hol2 hra2 hs2 hBw hG1 HWl.out hown3 hgrow3 hlies3 HB3.out
    clear hown3 hgrow3 hlies3 hlt3 HB3 c33 f33
    generalize w3.setCell ⟨B, 3, none⟩ (.slice (some ⟨g, 0, none⟩) (n + 1) cap3) = W4 at hk4 HB4 HW4 HL4 hra4 hmv4 hs4 ⊢
    generalize Value.slice (some ⟨g, 0, none⟩) (n + 1) cap3 = wv4 at HB4 HW4 hmv4 ⊢
    have c44 : W4.cell? ⟨B, 4, none⟩ = some lv := blk_cell (i := 4) HB4.out rfl
    have hB4 := lt_of_block HB4.out
    go_wp2
    go_region_with (first | (go_at_call 51; refine (PPayload_any G l _ HWF.out HP.out.2.2 (rangeAt_below hra4 ((Below.refl _ _).drew)) HP.out.2.1 hs4).mono ?_; rintro e w5 ⟨pv, rfl, hpv, hgp⟩; have hb5 : Below W4.heap.size W4 w5 := bl2 ((Below.refl _ _).drew) hgp.nil_below; have c45 := bcell hb5 c44; have hne5 : pv.ownBlock = none ∨ pv.ownBlock ≠ lv.ownBlock := new_apart hgp (fun k hk => Nat.lt_of_lt_of_le (HLl.out k hk) hk4.size)) | (go_at_call 50; refine (Append_form lv log 83 pv (payloadOf l) _ (own_below HL4.out hb5) hpv hne5 hlog (payload_small HP.out) (payload_some HP.out)).mono ?_; rintro e w6 ⟨g6, cap6, rfl, hol6, hg6⟩; have HB6 := after_log hb5 HB4.out HL4.out hg6; have c46 : w6.cell? ⟨B, 4, none⟩ = some lv := blk_cell (i := 4) HB6.out rfl; have c26 : w6.cell? ⟨B, 2, none⟩ = some (.int .i64 ((n : Int) + 1)) := blk_cell (i := 2) HB6.out rfl; have f46 : w6.frozen? ⟨B, 4, none⟩ = false := blk_free HB6.out))
    all_goals
      have HE := submit_end hk4 HB4.out HW4.out HL4.out hb5 HB6.out hol6 hg6 hmv4
      clear hol6 hg6 HB4 HW4 HL4 hb5 hk4 hmv4 hra4
      go_wp2
      go_ret2
      simp only [List.length_append] at HE
      exact ⟨rfl, _, _, HE⟩

end Go.Proofs.Ythdeickfeaeoiaa
