import Derived.Test.YtdbdljjhhehbiaaGreatN
namespace Go.Proofs.YtdbdljjhhehbiaaGreat
open Go.RowKit

/-- Code in memory, with a program's length. -/
structure CodeAt (w : World) (b off : Nat) (l : List I) : Prop where
  lt : b < w.heap.size
  wf : ∀ x ∈ l, x.wf
  at' : ∀ j (h : j < l.length), insAt w b (off + j * 5) l[j]
theorem isProg_len {l : List I} (h : isProg l = true) : 1 ≤ l.length ∧ l.length ≤ 20 ∧ ∀ x ∈ l, insOk l.length x = true := by
  simp only [isProg, Bool.and_eq_true, decide_eq_true_eq, List.all_eq_true] at h
  exact ⟨h.1.1, h.1.2, h.2⟩
theorem POf_yes (b off cap : Nat) (l : List I) (w : World) (hc : CodeAt w b off l) (hp : isProg l = true) :
    Calls Tryz.prog 35 #[.slice (some ⟨b, off, none⟩) l.length cap] w fun e w' => (∃ G, e = .returned (.tuple #[.slice (some ⟨G, 0, none⟩) l.length l.length, .bool true]) ∧ w.heap.size ≤ G ∧ G < w'.heap.size ∧ w'.rangeAt G 0 (flatP l)) ∧ Below w.heap.size w w' := by
  have hl := isProg_len hp
  refine (POf_any b off cap l w hc.wf hc.at' hl.2.1 hl.1 hc.lt).mono ?_
  rintro e w' ⟨h | h, hb⟩
  · rw [hp] at h; exact absurd h.1 (by simp)
  · exact ⟨h.2, hb⟩

theorem own_len {w : World} {e size n : Nat} {v : Value} {xs : List Value} (h : w.ownsRow 0 e size v n xs) : ∃ a c, v = .slice a n c := by
  rcases h.2 with ⟨h, h0⟩ | ⟨g, cap, cur, h, _⟩
  · exact ⟨none, 0, by rw [h, h0]⟩
  · exact ⟨_, _, h⟩

theorem Tryz.info81 : (Tryz.prog.info? 34).map (fun i => (i.zero, i.size, i.bytes)) = some (some (.agg #[.int .i64 0, .int .i64 0, .int .i64 0, .int .i64 0]), 4, 32) := by kernel_rfl
theorem ne_of2 {v v' : Value} (h : v.ownBlock = none ∨ v.ownBlock ≠ v'.ownBlock) : ∀ i, some i = v'.ownBlock → some i ≠ v.ownBlock := by
  intro i hi e
  rcases h with h | h
  · rw [h] at e; cases e
  · exact h (e.symm.trans hi)
/-- Keeps over a growth of a row and a store. -/
theorem Keeps.step {S : Nat → Prop} {w W W1 : World} {v : Value} {R i : Nat} {u : Value} (h : Keeps S w W) (hR : S R) (hv : ∀ k, some k = v.ownBlock → k < w.heap.size → S k) (hg : W.grownBy W1 v.ownBlock) : Keeps S w (W1.setCell ⟨R, i, none⟩ u) :=
  (h.trans (grown_keeps hg) hv).trans (setCell_keeps _ _ _ _) (fun k hk _ => by subst hk; exact hR)
theorem one_4 (k : IntKind) (a b c d : Int) : ∀ u ∈ [Value.int k a, Value.int k b, Value.int k c, Value.int k d], u.oneCell' = true := by
  intro u hu
  simp only [List.mem_cons, List.not_mem_nil, or_false] at hu
  rcases hu with rfl | rfl | rfl | rfl <;> rfl
theorem hide {p : Prop} (h : p) : Hid p := h
theorem one_is (k : IntKind) (a : Int) (x : Option Addr) (m c : Nat) : ∀ u ∈ [Value.int k a, Value.slice x m c], u.oneCell' = true := by
  intro u hu
  simp only [List.mem_cons, List.not_mem_nil, or_false] at hu
  rcases hu with rfl | rfl <;> rfl
theorem Tryz.info112 : (Tryz.prog.info? 96).map (fun i => (i.zero, i.size, i.bytes)) = some (some (.agg #[.int .i64 0, .slice none 0 0]), 2, 32) := by kernel_rfl


/-- A book of the program, cell by cell, its rows of whatever length. -/
structure Bx (w : World) (B : Nat) (bt wk bn : Int) (mp : Value) (log : List UInt8) (rv wv lv : Value) (a b : Nat) : Prop where
  blk : w.heap[B]? = some (.cells #[.int .i64 bt, .int .i64 wk, mp, rv, wv, .int .i64 bn, lv] 83 (0, 0))
  orr : ∃ xs, w.ownsRow 0 34 4 rv a xs
  ow : ∃ xs, w.ownsRow 0 96 2 wv b xs
  ol : ownB w lv log
section
variable {w w1 : World} {B : Nat} {bt wk bn : Int} {mp : Value} {log log' : List UInt8} {rv wv lv rv' wv' lv' : Value} {a b a' b' : Nat} {xs' : List Value}
theorem Bx.lt (h : Bx w B bt wk bn mp log rv wv lv a b) : B < w.heap.size := lt_of_block h.blk
theorem Bx.below (h : Bx w B bt wk bn mp log rv wv lv a b) (k : Below w.heap.size w w1) : Bx w1 B bt wk bn mp log rv wv lv a b := by
  obtain ⟨hb, ⟨xs, hx⟩, ⟨ys, hy⟩, hz⟩ := h
  exact ⟨(k.block B (lt_of_block hb)).trans hb, ⟨xs, own_below hx k⟩, ⟨ys, own_below hy k⟩, own_below hz k⟩
theorem Bx.blkR (h : Bx w B bt wk bn mp log rv wv lv a b) (hg : w.grownBy w1 rv.ownBlock) : w1.heap[B]? = some (.cells #[.int .i64 bt, .int .i64 wk, mp, rv, wv, .int .i64 bn, lv] 83 (0, 0)) := by
  obtain ⟨hb, ⟨xs, hx⟩, _, _⟩ := h
  exact blk_keeps hb (grown_keeps hg) (own_apart hx hb (by decide))
theorem Bx.blkW (h : Bx w B bt wk bn mp log rv wv lv a b) (hg : w.grownBy w1 wv.ownBlock) : w1.heap[B]? = some (.cells #[.int .i64 bt, .int .i64 wk, mp, rv, wv, .int .i64 bn, lv] 83 (0, 0)) := by
  obtain ⟨hb, _, ⟨xs, hx⟩, _⟩ := h
  exact blk_keeps hb (grown_keeps hg) (own_apart hx hb (by decide))
theorem Bx.blkL (h : Bx w B bt wk bn mp log rv wv lv a b) (hg : Grew w w1 lv lv') : w1.heap[B]? = some (.cells #[.int .i64 bt, .int .i64 wk, mp, rv, wv, .int .i64 bn, lv] 83 (0, 0)) :=
  blk_keeps h.blk hg.keeps (own_apart h.ol h.blk (by decide))
theorem Bx.storeR (h : Bx w B bt wk bn mp log rv wv lv a b) (hg : w.grownBy w1 rv.ownBlock) (ho : w1.ownsRow 0 34 4 rv' a' xs') :
    Bx (w1.setCell ⟨B, 3, none⟩ rv') B bt wk bn mp log rv' wv lv a' b := by
  obtain ⟨hb, ⟨xs, hx⟩, ⟨ys, hy⟩, hz⟩ := h
  have k1 := grown_keeps hg
  have hb1 := blk_keeps hb k1 (own_apart hx hb (by decide))
  have hy1 := own_keeps hy k1 (ne_of2 (own_apart2 hy hx (by decide)))
  have hz1 := own_keeps hz k1 (ne_of2 (own_apart2 hz hx (by decide)))
  have k2 := setCell_keeps w1 B 3 rv'
  exact ⟨blk_set hb1, ⟨_, own_keeps ho k2 (fun i hi => by subst hi; exact own_apart ho hb1 (by decide))⟩, ⟨_, own_keeps hy1 k2 (fun i hi => by subst hi; exact own_apart hy1 hb1 (by decide))⟩, own_keeps hz1 k2 (fun i hi => by subst hi; exact own_apart hz1 hb1 (by decide))⟩
theorem Bx.storeW (h : Bx w B bt wk bn mp log rv wv lv a b) (hg : w.grownBy w1 wv.ownBlock) (ho : w1.ownsRow 0 96 2 wv' b' xs') :
    Bx (w1.setCell ⟨B, 4, none⟩ wv') B bt wk bn mp log rv wv' lv a b' := by
  obtain ⟨hb, ⟨xs, hx⟩, ⟨ys, hy⟩, hz⟩ := h
  have k1 := grown_keeps hg
  have hb1 := blk_keeps hb k1 (own_apart hy hb (by decide))
  have hx1 := own_keeps hx k1 (ne_of2 (own_apart2 hx hy (by decide)))
  have hz1 := own_keeps hz k1 (ne_of2 (own_apart2 hz hy (by decide)))
  have k2 := setCell_keeps w1 B 4 wv'
  exact ⟨blk_set hb1, ⟨_, own_keeps hx1 k2 (fun i hi => by subst hi; exact own_apart hx1 hb1 (by decide))⟩, ⟨_, own_keeps ho k2 (fun i hi => by subst hi; exact own_apart ho hb1 (by decide))⟩, own_keeps hz1 k2 (fun i hi => by subst hi; exact own_apart hz1 hb1 (by decide))⟩
theorem Bx.storeL (h : Bx w B bt wk bn mp log rv wv lv a b) (hg : Grew w w1 lv lv') (ho : ownB w1 lv' log') :
    Bx (w1.setCell ⟨B, 6, none⟩ lv') B bt wk bn mp log' rv wv lv' a b := by
  obtain ⟨hb, ⟨xs, hx⟩, ⟨ys, hy⟩, hz⟩ := h
  have k1 := hg.keeps
  have hb1 := blk_keeps hb k1 (own_apart hz hb (by decide))
  have hx1 := own_keeps hx k1 (ne_of2 (own_apart2 hx hz (by decide)))
  have hy1 := own_keeps hy k1 (ne_of2 (own_apart2 hy hz (by decide)))
  have k2 := setCell_keeps w1 B 6 lv'
  exact ⟨blk_set hb1, ⟨_, own_keeps hx1 k2 (fun i hi => by subst hi; exact own_apart hx1 hb1 (by decide))⟩, ⟨_, own_keeps hy1 k2 (fun i hi => by subst hi; exact own_apart hy1 hb1 (by decide))⟩, own_keeps ho k2 (fun i hi => by subst hi; exact own_apart ho hb1 (by decide))⟩
end

set_option maxRecDepth 100000 in
set_option maxHeartbeats 400000 in
theorem Submit_full (B b off cap : Nat) (l : List I) (log : List UInt8) (rv wv lv : Value) (w : World) (hc : CodeAt w b off l) (hp : isProg l = true) (hB : Bk w B 60 log rv wv lv) :
    Calls Tryz.prog 17 #[.pointer (some ⟨B, 0, none⟩), .slice (some ⟨b, off, none⟩) l.length cap] w fun e w' => e = .returned (.tuple #[.int .i64 0, .int .i64 3]) ∧ Below w.heap.size w w' := by
  obtain ⟨bt, wk, bn, mp, hblk⟩ := hB.blk
  obtain ⟨xs, hx⟩ := hB.orr
  obtain ⟨ra, rc, rfl⟩ := own_len hx
  have HB : Hid _ := hblk
  clear hblk hB hx
  go_enter Tryz.func17, Tryz.ntmps17
  go_wp2_with (first | (go_at_call 35; refine (POf_yes b off cap l _ hc hp).mono ?_; rintro e w1 ⟨⟨G, rfl, hG1, hG2, hG3⟩, hb1⟩; have c3 : w1.cell? ⟨B, 3, none⟩ = some (.slice ra 60 rc) := bcell hb1 (blk_cell (i := 3) HB.out rfl)))
  go_ret2
  exact ⟨rfl, hb1⟩

theorem Append_form (v : Value) (l : List UInt8) (kind : UInt8) (pv : Value) (p : List UInt8) (w : World) (hown : ownB w v l) (hpv : ownB w pv p) (hne : pv.ownBlock = none ∨ pv.ownBlock ≠ v.ownBlock) (hl : l.length ≤ 50000) (hp : p.length ≤ 10000) (hp0 : 0 < p.length) :
    Calls Tryz.prog 27 #[v, .int .u8 (kind.toNat : Int), pv] w fun e w' => ∃ g cap, e = .returned (.slice (some ⟨g, 0, none⟩) (l ++ entryOf [kind] p).length cap) ∧ ownB w' (.slice (some ⟨g, 0, none⟩) (l ++ entryOf [kind] p).length cap) (l ++ entryOf [kind] p) ∧ Grew w w' v (.slice (some ⟨g, 0, none⟩) (l ++ entryOf [kind] p).length cap) := by
  refine (Append_any v l kind pv p w hown hpv hne hl hp hp0).mono ?_
  rintro e w' ⟨v', rfl, ho, hg⟩
  obtain ⟨g, cap, rfl, _⟩ := ownB_form ho (by rw [List.length_append, entry_length]; omega)
  exact ⟨g, cap, rfl, ho, hg⟩
theorem new_apart {W w5 : World} {pv lv : Value} (h : Grew W w5 (.slice none 0 0) pv) (hl : ∀ k, lv.ownBlock = some k → k < W.heap.size) : pv.ownBlock = none ∨ pv.ownBlock ≠ lv.ownBlock := by
  rcases h.lies with e | ⟨g, e, hg⟩
  · exact Or.inl (by rw [e]; rfl)
  · right; rw [e]; intro h2; have := hl g h2.symm; omega
theorem payload_small {l : List I} (h : 1 ≤ l.length ∧ l.length ≤ 20 ∧ ∀ x ∈ l, insOk l.length x = true) : (payloadOf l).length ≤ 10000 := by
  have := payload_length l (fun x hx hk => insOk_size (h.2.2 x hx) hk)
  omega
theorem payload_some {l : List I} (h : 1 ≤ l.length ∧ l.length ≤ 20 ∧ ∀ x ∈ l, insOk l.length x = true) : 0 < (payloadOf l).length := by
  cases l with
  | nil => simp at h
  | cons x l => simp [payloadOf, insBytes]

theorem row_end {S : Nat → Prop} {w W w3 : World} {B i g cap3 n e size : Nat} {v : Value} {o : Obj} {xs : List Value} (hk : Keeps S w W) (hB : S B) (hv : ∀ k, some k = v.ownBlock → S k) (_ho : w3.ownsRow 0 e size (.slice (some ⟨g, 0, none⟩) n cap3) n xs) (hg : (W.alloc o).grownBy w3 v.ownBlock) (hl : v.ownBlock = some g ∨ g = W.heap.size + 1) :
    Keeps S w (w3.setCell ⟨B, i, none⟩ (.slice (some ⟨g, 0, none⟩) n cap3)) ∧ Moved w v (.slice (some ⟨g, 0, none⟩) n cap3) := by
  have hal : Below W.heap.size W (W.alloc o) := (Below.refl _ _).alloc (Nat.le_refl _) _
  refine ⟨(hk.trans (Below.keeps hal (fun _ => False)) (fun _ h => h.elim)).step hB (fun k hk' _ => hv k hk') hg, ?_⟩
  rcases hl with e | e
  · exact Or.inl (by rw [e]; rfl)
  · exact Or.inr ⟨g, rfl, by have := hk.size; omega⟩

theorem Moved.up {w W : World} {v v' : Value} (h : Moved W v v') (hle : w.heap.size ≤ W.heap.size) : Moved w v v' := by
  rcases h with e | ⟨g, e, hg⟩
  · exact Or.inl e
  · exact Or.inr ⟨g, e, by omega⟩
theorem size_set (w : World) (a : Addr) (v : Value) : (w.setCell a v).heap.size = w.heap.size := by simp [World.setCell]
theorem submit_end {w w1 W6 w7 w8 : World} {B n g8 cap8 : Nat} {bt wk bn : Int} {mp rv wv lv rv' wv' : Value} {log ent : List UInt8} (hb1 : Below w.heap.size w w1) (hk : Keeps (Sb B rv wv lv) w1 W6) (hx : Bx W6 B bt wk bn mp log rv' wv' lv (n + 1) (n + 1)) (hb7 : Below W6.heap.size W6 w7)
    (hol8 : ownB w8 (.slice (some ⟨g8, 0, none⟩) ent.length cap8) ent) (hg8 : Grew w7 w8 lv (.slice (some ⟨g8, 0, none⟩) ent.length cap8)) (m1 : Moved w1 rv rv') (m2 : Moved w1 wv wv') :
    Bk (w8.setCell ⟨B, 6, none⟩ (.slice (some ⟨g8, 0, none⟩) ent.length cap8)) B (n + 1) ent rv' wv' (.slice (some ⟨g8, 0, none⟩) ent.length cap8) ∧ Keeps (Sb B rv wv lv) w (w8.setCell ⟨B, 6, none⟩ (.slice (some ⟨g8, 0, none⟩) ent.length cap8)) ∧ Moved w rv rv' ∧ Moved w wv wv' ∧ Moved w lv (.slice (some ⟨g8, 0, none⟩) ent.length cap8) := by
  have h8 := (hx.below hb7).storeL hg8 hol8
  have hs1 : w.heap.size ≤ w1.heap.size := hb1.size
  have k7 : Keeps (Sb B rv wv lv) w1 w7 := hk.trans (Below.keeps hb7 (fun _ => False)) (fun _ h => h.elim)
  have k8 : Keeps (Sb B rv wv lv) w1 w8 := k7.trans hg8.keeps (fun i hi _ => Or.inr (Or.inr (Or.inr hi)))
  have k9 := k8.trans (setCell_keeps w8 B 6 (.slice (some ⟨g8, 0, none⟩) ent.length cap8)) (fun i hi _ => Or.inl hi)
  refine ⟨⟨⟨bt, wk, bn, mp, h8.blk⟩, h8.orr, h8.ow, h8.ol⟩, (Below.keeps hb1 _).trans k9 (fun i hi _ => hi), m1.up hs1, m2.up hs1, ?_⟩
  rcases hg8.lies with e | ⟨g, e, hg⟩
  · exact Or.inl e
  · exact Or.inr ⟨g, e, by have := k7.size; omega⟩

set_option maxRecDepth 100000 in
set_option maxHeartbeats 2000000 in
theorem Submit_yes (B b off cap n : Nat) (l : List I) (log : List UInt8) (rv wv lv : Value) (w : World) (hc : CodeAt w b off l) (hp : isProg l = true) (hB : Bk w B n log rv wv lv) (hn : n < 60) (hlog : log.length ≤ 50000) :
    Calls Tryz.prog 17 #[.pointer (some ⟨B, 0, none⟩), .slice (some ⟨b, off, none⟩) l.length cap] w fun e w' => e = .returned (.tuple #[.int .i64 ((n : Int) + 1), .int .i64 0]) ∧ ∃ rv' wv' lv', Bk w' B (n + 1) (log ++ entryOf [83] (payloadOf l)) rv' wv' lv' ∧ Keeps (Sb B rv wv lv) w w' ∧ Moved w rv rv' ∧ Moved w wv wv' ∧ Moved w lv lv' := by
  obtain ⟨bt, wk, bn, mp, hblk⟩ := hB.blk
  obtain ⟨ys, hy⟩ := hB.orr
  obtain ⟨ra, rc, rfl⟩ := own_len hy
  have hBx : Bx w B bt wk bn mp log (.slice ra n rc) wv lv n n := ⟨hblk, hB.orr, hB.ow, hB.ol⟩
  have h60 : ((n : Int) == 60) = false := by rw [beq_eq_false_iff_ne]; omega
  have HBX := hide hBx
  have HY := hide hy
  have HP := hide (isProg_len hp)
  have HWF := hide hc.wf
  have HLl := hide (fun k hk => (World.ownsRow.lt hB.ol k hk).2 : ∀ k, lv.ownBlock = some k → k < w.heap.size)
  clear hblk hB hy hBx
  obtain ⟨i81, hi81, hz810, hz811, hz812⟩ := info_parts Tryz.info81
  go_enter Tryz.func17, Tryz.ntmps17
  go_wp2_with (first | (go_at_call 35; refine (POf_yes b off cap l _ hc hp).mono ?_; rintro e w1 ⟨⟨G, rfl, hG1, hG2, hG3⟩, hb1⟩; have HB1 := hide (HBX.out.below hb1); have HY1 := hide (own_below HY.out hb1); have c3 : w1.cell? ⟨B, 3, none⟩ = some (.slice ra n rc) := blk_cell (i := 3) HB1.out.blk rfl; have hBw1 := HB1.out.lt) | (at_builtin; refine wpList_append_lies _ rfl (.tmp 26) (.tmp 28) 31 rfl 0 34 i81 _ 4 32 Tryz.underlying31 hi81 hz810 hz811 hz812 rfl (by omega) (.slice ra n rc) n ys rfl ?own ⟨w1.heap.size, 0, none⟩ 1 1 [.int .i64 0, .int .i64 0, .int .i64 0, .int .i64 0] rfl rfl ?news ?one (by omega) ?h63 ?hby (Nat.zero_le _) (w1.heap.size + 1) ?hH ?_))
  case own => exact own_below HY1.out ((Below.refl _ _).alloc (Nat.le_refl _) _)
  case news => exact World.news_of_block (heap_alloc_new w1 _)
  case one => exact one_4 _ _ _ _ _
  case h63 => unfold maxLen; omega
  case hby => omega
  case hH => simp
  intro g3 cap3 w3 hown3 hgrow3 hlies3 hlt3
  have hal1 : Below w1.heap.size w1 (w1.alloc (.cells #[.int .i64 0, .int .i64 0, .int .i64 0, .int .i64 0] 34)) := (Below.refl _ _).alloc (Nat.le_refl _) _
  have HB3 := hide ((HB1.out.below hal1).blkR hgrow3)
  have HX4 := hide ((HB1.out.below hal1).storeR hgrow3 hown3)
  have HE4 := hide (row_end (S := Sb B (.slice ra n rc) wv lv) (B := B) (i := 3) (Keeps.refl _ w1) (Or.inl rfl) (fun k hk => Or.inr (Or.inl hk)) hown3 hgrow3 hlies3)
  have c33 : w3.cell? ⟨B, 3, none⟩ = some (.slice ra n rc) := blk_cell (i := 3) HB3.out rfl
  have f33 : w3.frozen? ⟨B, 3, none⟩ = false := blk_free HB3.out
  have c34 : w3.cell? ⟨B, 4, none⟩ = some wv := blk_cell (i := 4) HB3.out rfl
  obtain ⟨zs, hzs⟩ := HX4.out.ow
  have HZ := hide hzs
  clear hown3 hgrow3 hlies3 hlt3 hzs hal1 HB1 HY1 c3
  obtain ⟨i112, hi112, hz0, hz1, hz2⟩ := info_parts Tryz.info112
  go_wp2_with (at_builtin; refine wpList_append_lies _ rfl (.tmp 41) (.tmp 45) 80 rfl 0 96 i112 _ 2 32 Tryz.underlying80 hi112 hz0 hz1 hz2 rfl (by omega) wv n zs rfl ?own ⟨w3.heap.size, 0, none⟩ 1 1 [.int .i64 ((n : Int) + 1), .slice (some ⟨G, 0, none⟩) l.length l.length] rfl rfl ?news ?one (by omega) ?h63 ?hby (Nat.zero_le _) (w3.heap.size + 1) ?hH ?_)
  case own => exact own_below HZ.out ((Below.refl _ _).alloc (Nat.le_refl _) _)
  case news =>
    have h := heap_alloc_new (w3.setCell ⟨B, 3, none⟩ (.slice (some ⟨g3, 0, none⟩) (n + 1) cap3)) (.cells #[.int .i64 ((n : Int) + 1), .slice (some ⟨G, 0, none⟩) l.length l.length] 96)
    rw [size_set] at h
    exact World.news_of_block h
  case one => exact one_is _ _ _ _ _
  case h63 => unfold maxLen; omega
  case hby => omega
  case hH => simp
  intro g5 cap5 w5 hown5 hgrow5 hlies5 hlt5
  have e4 := size_set w3 ⟨B, 3, none⟩ (.slice (some ⟨g3, 0, none⟩) (n + 1) cap3)
  have hal4 : Below (w3.setCell ⟨B, 3, none⟩ (.slice (some ⟨g3, 0, none⟩) (n + 1) cap3)).heap.size (w3.setCell ⟨B, 3, none⟩ (.slice (some ⟨g3, 0, none⟩) (n + 1) cap3)) ((w3.setCell ⟨B, 3, none⟩ (.slice (some ⟨g3, 0, none⟩) (n + 1) cap3)).alloc (.cells #[.int .i64 ((n : Int) + 1), .slice (some ⟨G, 0, none⟩) l.length l.length] 96)) := (Below.refl _ _).alloc (Nat.le_refl _) _
  rw [← e4] at hlies5
  have HB5 := hide ((HX4.out.below hal4).blkW hgrow5)
  have HX6 := hide ((HX4.out.below hal4).storeW hgrow5 hown5)
  have HE6 := hide (row_end (S := Sb B (.slice ra n rc) wv lv) (B := B) (i := 4) HE4.out.1 (Or.inl rfl) (fun k hk => Or.inr (Or.inr (Or.inl hk))) hown5 hgrow5 hlies5)
  have HM4 := hide HE4.out.2
  have c54 : w5.cell? ⟨B, 4, none⟩ = some wv := blk_cell (i := 4) HB5.out rfl
  have f54 : w5.frozen? ⟨B, 4, none⟩ = false := blk_free HB5.out
  clear hown5 hgrow5 hlies5 hlt5 hal4 e4 HZ HX4 HE4 HB3 c33 f33 c34
  go_wp2
  generalize Value.slice (some ⟨g3, 0, none⟩) (n + 1) cap3 = rv' at HX6 HM4 HB5
  generalize w5.setCell ⟨B, 4, none⟩ (.slice (some ⟨g5, 0, none⟩) (n + 1) cap5) = W6 at HX6 HE6 ⊢
  generalize Value.slice (some ⟨g5, 0, none⟩) (n + 1) cap5 = wv' at HX6 HE6 ⊢
  have c66 : W6.cell? ⟨B, 6, none⟩ = some lv := blk_cell (i := 6) HX6.out.blk rfl
  have hB6 := HX6.out.lt
  have hGS : ¬ Sb B (.slice ra n rc) wv lv G := by
    rintro (h | h | h | h)
    · have := HBX.out.lt; omega
    · have := (HBX.out.orr.choose_spec.lt G h.symm).2; omega
    · have := (HBX.out.ow.choose_spec.lt G h.symm).2; omega
    · have := HLl.out G h.symm; omega
  have hra6 : W6.rangeAt G 0 (flatP l) := fun j v hv => by
    rw [World.cell?_of_block (w := w1) (HE6.out.1.block G hG2 hGS)]; exact hG3 j v hv
  have hs6 : G < W6.heap.size := Nat.lt_of_lt_of_le hG2 HE6.out.1.size
  have HLl6 := hide (fun k hk => Nat.lt_of_lt_of_le (HLl.out k hk) (Nat.le_trans hb1.size HE6.out.1.size) : ∀ k, lv.ownBlock = some k → k < W6.heap.size)
  clear hG3 hGS HB5 c54 f54
  have HB1 := hide hb1
  clear hb1 hc hBw1 hG1 hG2 hi81 hz810 hz811 hz812 hi112 hz0 hz1 hz2
  go_region_with (first | (go_at_call 36; refine (PPayload_any G l _ HWF.out HP.out.2.2 (rangeAt_below hra6 ((Below.refl _ _).drew)) HP.out.2.1 hs6).mono ?_; rintro e w7 ⟨pv, rfl, hpv, hgp⟩; have hb7 : Below W6.heap.size W6 w7 := bl2 ((Below.refl _ _).drew) hgp.nil_below; have c67 := bcell hb7 c66; have hne7 : pv.ownBlock = none ∨ pv.ownBlock ≠ lv.ownBlock := new_apart hgp HLl6.out) | (go_at_call 27; refine (Append_form lv log 83 pv (payloadOf l) _ (own_below HX6.out.ol hb7) hpv hne7 hlog (payload_small HP.out) (payload_some HP.out)).mono ?_; rintro e w8 ⟨g8, cap8, rfl, hol8, hg8⟩; have HB8 := hide ((HX6.out.below hb7).blkL hg8); have c68 : w8.cell? ⟨B, 6, none⟩ = some lv := blk_cell (i := 6) HB8.out rfl; have f68 : w8.frozen? ⟨B, 6, none⟩ = false := blk_free HB8.out))
  all_goals
    have HE := submit_end HB1.out HE6.out.1 HX6.out hb7 hol8 hg8 HM4.out HE6.out.2
    clear hol8 hg8 HX6 HE6 hb7 HM4 hra6 HB8 HB1
    go_wp2
    go_ret2
    simp only [List.length_append] at HE
    exact ⟨rfl, _, _, _, HE⟩

end Go.Proofs.YtdbdljjhhehbiaaGreat
