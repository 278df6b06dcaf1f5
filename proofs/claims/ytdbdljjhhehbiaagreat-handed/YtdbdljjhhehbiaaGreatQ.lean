import Derived.Test.YtdbdljjhhehbiaaGreatP
import Derived.Deep.Cut
namespace Go.Proofs.YtdbdljjhhehbiaaGreat
open Go.RowKit
attribute [local go_sem] bs_size bs_append

/-- The document's book, cell by cell, its rows of whatever length. -/
structure Rx (w : World) (R : Nat) (sz bat : Int) (pv : Value) (log : List UInt8) (cv dv tv : Value) (a b c : Nat) : Prop where
  blk : w.heap[R]? = some (.cells #[.int .i64 sz, cv, dv, tv, .int .i64 bat, .string (bs log), pv] 161 (0, 0))
  oc : ∃ xs, w.ownsRow 0 48 1 cv a xs
  od : ∃ xs, w.ownsRow 0 34 4 dv b xs
  ot : ∃ xs, w.ownsRow 0 3 1 tv c xs
theorem Rx.lt {w : World} {R : Nat} {sz bat : Int} {pv : Value} {log : List UInt8} {cv dv tv : Value} {a b c : Nat} (h : Rx w R sz bat pv log cv dv tv a b c) : R < w.heap.size := lt_of_block h.blk
theorem Rx.below {w w1 : World} {R : Nat} {sz bat : Int} {pv : Value} {log : List UInt8} {cv dv tv : Value} {a b c : Nat} (h : Rx w R sz bat pv log cv dv tv a b c) (k : Below w.heap.size w w1) : Rx w1 R sz bat pv log cv dv tv a b c := by
  obtain ⟨hb, ⟨xs, hx⟩, ⟨ys, hy⟩, ⟨zs, hz⟩⟩ := h
  exact ⟨(k.block R (lt_of_block hb)).trans hb, ⟨xs, own_below hx k⟩, ⟨ys, own_below hy k⟩, ⟨zs, own_below hz k⟩⟩
/-- Codes grew, and is stored. -/
theorem Rx.storeC {w w1 : World} {R : Nat} {sz bat : Int} {pv : Value} {log : List UInt8} {cv dv tv cv' : Value} {a b c a' : Nat} {xs' : List Value} (h : Rx w R sz bat pv log cv dv tv a b c) (hg : w.grownBy w1 cv.ownBlock) (ho : w1.ownsRow 0 48 1 cv' a' xs') :
    Rx (w1.setCell ⟨R, 1, none⟩ cv') R sz bat pv log cv' dv tv a' b c := by
  obtain ⟨hb, ⟨xs, hx⟩, ⟨ys, hy⟩, ⟨zs, hz⟩⟩ := h
  have k1 := grown_keeps hg
  have hb1 := blk_keeps hb k1 (own_apart hx hb (by decide))
  have hy1 := own_keeps hy k1 (ne_of2 (own_apart2 hy hx (by decide)))
  have hz1 := own_keeps hz k1 (ne_of2 (own_apart2 hz hx (by decide)))
  have k2 := setCell_keeps w1 R 1 cv'
  exact ⟨blk_set hb1, ⟨_, own_keeps ho k2 (fun i hi => by subst hi; exact own_apart ho hb1 (by decide))⟩, ⟨_, own_keeps hy1 k2 (fun i hi => by subst hi; exact own_apart hy1 hb1 (by decide))⟩, ⟨_, own_keeps hz1 k2 (fun i hi => by subst hi; exact own_apart hz1 hb1 (by decide))⟩⟩
theorem Rx.storeD {w w1 : World} {R : Nat} {sz bat : Int} {pv : Value} {log : List UInt8} {cv dv tv dv' : Value} {a b c b' : Nat} {xs' : List Value} (h : Rx w R sz bat pv log cv dv tv a b c) (hg : w.grownBy w1 dv.ownBlock) (ho : w1.ownsRow 0 34 4 dv' b' xs') :
    Rx (w1.setCell ⟨R, 2, none⟩ dv') R sz bat pv log cv dv' tv a b' c := by
  obtain ⟨hb, ⟨xs, hx⟩, ⟨ys, hy⟩, ⟨zs, hz⟩⟩ := h
  have k1 := grown_keeps hg
  have hb1 := blk_keeps hb k1 (own_apart hy hb (by decide))
  have hx1 := own_keeps hx k1 (ne_of2 (own_apart2 hx hy (by decide)))
  have hz1 := own_keeps hz k1 (ne_of2 (own_apart2 hz hy (by decide)))
  have k2 := setCell_keeps w1 R 2 dv'
  exact ⟨blk_set hb1, ⟨_, own_keeps hx1 k2 (fun i hi => by subst hi; exact own_apart hx1 hb1 (by decide))⟩, ⟨_, own_keeps ho k2 (fun i hi => by subst hi; exact own_apart ho hb1 (by decide))⟩, ⟨_, own_keeps hz1 k2 (fun i hi => by subst hi; exact own_apart hz1 hb1 (by decide))⟩⟩
theorem Rx.storeT {w w1 : World} {R : Nat} {sz bat : Int} {pv : Value} {log : List UInt8} {cv dv tv tv' : Value} {a b c c' : Nat} {xs' : List Value} (h : Rx w R sz bat pv log cv dv tv a b c) (hg : w.grownBy w1 tv.ownBlock) (ho : w1.ownsRow 0 3 1 tv' c' xs') :
    Rx (w1.setCell ⟨R, 3, none⟩ tv') R sz bat pv log cv dv tv' a b c' := by
  obtain ⟨hb, ⟨xs, hx⟩, ⟨ys, hy⟩, ⟨zs, hz⟩⟩ := h
  have k1 := grown_keeps hg
  have hb1 := blk_keeps hb k1 (own_apart hz hb (by decide))
  have hx1 := own_keeps hx k1 (ne_of2 (own_apart2 hx hz (by decide)))
  have hy1 := own_keeps hy k1 (ne_of2 (own_apart2 hy hz (by decide)))
  have k2 := setCell_keeps w1 R 3 tv'
  exact ⟨blk_set hb1, ⟨_, own_keeps hx1 k2 (fun i hi => by subst hi; exact own_apart hx1 hb1 (by decide))⟩, ⟨_, own_keeps hy1 k2 (fun i hi => by subst hi; exact own_apart hy1 hb1 (by decide))⟩, ⟨_, own_keeps ho k2 (fun i hi => by subst hi; exact own_apart ho hb1 (by decide))⟩⟩
theorem Rx.storeS {w : World} {R : Nat} {sz bat : Int} {pv : Value} {log log' : List UInt8} {cv dv tv : Value} {a b c : Nat} (h : Rx w R sz bat pv log cv dv tv a b c) :
    Rx (w.setCell ⟨R, 5, none⟩ (.string (bs log'))) R sz bat pv log' cv dv tv a b c := by
  obtain ⟨hb, ⟨xs, hx⟩, ⟨ys, hy⟩, ⟨zs, hz⟩⟩ := h
  have k2 := setCell_keeps w R 5 (.string (bs log'))
  exact ⟨blk_set hb, ⟨_, own_keeps hx k2 (fun i hi => by subst hi; exact own_apart hx hb (by decide))⟩, ⟨_, own_keeps hy k2 (fun i hi => by subst hi; exact own_apart hy hb (by decide))⟩, ⟨_, own_keeps hz k2 (fun i hi => by subst hi; exact own_apart hz hb (by decide))⟩⟩
/-- R's block behind a row's growth. -/
theorem Rx.blkC {w w1 : World} {R : Nat} {sz bat : Int} {pv : Value} {log : List UInt8} {cv dv tv : Value} {a b c : Nat} (h : Rx w R sz bat pv log cv dv tv a b c) (hg : w.grownBy w1 cv.ownBlock) : w1.heap[R]? = some (.cells #[.int .i64 sz, cv, dv, tv, .int .i64 bat, .string (bs log), pv] 161 (0, 0)) := by
  obtain ⟨hb, ⟨xs, hx⟩, _, _⟩ := h
  exact blk_keeps hb (grown_keeps hg) (own_apart hx hb (by decide))
theorem Rx.blkD {w w1 : World} {R : Nat} {sz bat : Int} {pv : Value} {log : List UInt8} {cv dv tv : Value} {a b c : Nat} (h : Rx w R sz bat pv log cv dv tv a b c) (hg : w.grownBy w1 dv.ownBlock) : w1.heap[R]? = some (.cells #[.int .i64 sz, cv, dv, tv, .int .i64 bat, .string (bs log), pv] 161 (0, 0)) := by
  obtain ⟨hb, _, ⟨xs, hx⟩, _⟩ := h
  exact blk_keeps hb (grown_keeps hg) (own_apart hx hb (by decide))
theorem Rx.blkT {w w1 : World} {R : Nat} {sz bat : Int} {pv : Value} {log : List UInt8} {cv dv tv : Value} {a b c : Nat} (h : Rx w R sz bat pv log cv dv tv a b c) (hg : w.grownBy w1 tv.ownBlock) : w1.heap[R]? = some (.cells #[.int .i64 sz, cv, dv, tv, .int .i64 bat, .string (bs log), pv] 161 (0, 0)) := by
  obtain ⟨hb, _, _, ⟨xs, hx⟩⟩ := h
  exact blk_keeps hb (grown_keeps hg) (own_apart hx hb (by decide))
theorem moved_lt {w : World} {v v' : Value} (h : Moved w v v') : ∀ k, some k = v'.ownBlock → k < w.heap.size → some k = v.ownBlock := by
  intro k hk hlt
  rcases h with e | ⟨g, e, hg⟩
  · rw [← e]; exact hk
  · rw [e] at hk; simp at hk; omega

theorem done_end {S : Nat → Prop} {w wc w5 : World} {R n a cap5 g5 : Nat} {sz bat : Int} {pv cv cv' dv tv : Value} {log : List UInt8} {o : Obj} {xs : List Value} (hk : Keeps (fun k => k = R ∨ some k = cv.ownBlock ∨ some k = dv.ownBlock ∨ S k) w wc)
    (h1 : Rx wc R sz bat pv log cv' dv tv a n n) (ho : w5.ownsRow 0 34 4 (.slice (some ⟨g5, 0, none⟩) (n + 1) cap5) (n + 1) xs) (hg : (wc.alloc o).grownBy w5 dv.ownBlock) (hl : dv.ownBlock = some g5 ∨ g5 = wc.heap.size + 1) :
    ∃ dv', Rx (w5.setCell ⟨R, 2, none⟩ (.slice (some ⟨g5, 0, none⟩) (n + 1) cap5)) R sz bat pv log cv' dv' tv a (n + 1) n ∧ Keeps (fun k => k = R ∨ some k = cv.ownBlock ∨ some k = dv.ownBlock ∨ S k) w (w5.setCell ⟨R, 2, none⟩ (.slice (some ⟨g5, 0, none⟩) (n + 1) cap5)) ∧ Moved w dv dv' := by
  have hal : Below wc.heap.size wc (wc.alloc o) := (Below.refl _ _).alloc (Nat.le_refl _) _
  refine ⟨_, (h1.below hal).storeD hg ho, ?_, ?_⟩
  · exact (hk.trans (Below.keeps hal (fun _ => False)) (fun _ h => h.elim)).step (Or.inl rfl) (fun k hk' _ => Or.inr (Or.inr (Or.inl hk'))) hg
  · rcases hl with e | e
    · exact Or.inl (by rw [e]; rfl)
    · exact Or.inr ⟨g5, rfl, by have := hk.size; omega⟩
theorem waits_end {w wc w5 : World} {R n a b cap5 g5 : Nat} {sz bat : Int} {pv cv cv' dv dv' tv : Value} {log : List UInt8} {o : Obj} {xs : List Value} (hk : Keeps (fun k => k = R ∨ some k = cv.ownBlock ∨ some k = dv.ownBlock ∨ some k = tv.ownBlock) w wc)
    (h1 : Rx wc R sz bat pv log cv' dv' tv a b n) (ho : w5.ownsRow 0 3 1 (.slice (some ⟨g5, 0, none⟩) (n + 1) cap5) (n + 1) xs) (hg : (wc.alloc o).drew.grownBy w5 tv.ownBlock) (hl : tv.ownBlock = some g5 ∨ g5 = wc.heap.size + 1) :
    ∃ tv', Rx (w5.setCell ⟨R, 3, none⟩ (.slice (some ⟨g5, 0, none⟩) (n + 1) cap5)) R sz bat pv log cv' dv' tv' a b (n + 1) ∧ Keeps (fun k => k = R ∨ some k = cv.ownBlock ∨ some k = dv.ownBlock ∨ some k = tv.ownBlock) w (w5.setCell ⟨R, 3, none⟩ (.slice (some ⟨g5, 0, none⟩) (n + 1) cap5)) ∧ Moved w tv tv' := by
  have hal : Below wc.heap.size wc (wc.alloc o).drew := ((Below.refl _ _).alloc (Nat.le_refl _) _).drew
  refine ⟨_, (h1.below hal).storeT hg ho, ?_, ?_⟩
  · exact (hk.trans (Below.keeps hal (fun _ => False)) (fun _ h => h.elim)).step (Or.inl rfl) (fun k hk' _ => Or.inr (Or.inr (Or.inr hk'))) hg
  · rcases hl with e | e
    · exact Or.inl (by rw [e]; rfl)
    · exact Or.inr ⟨g5, rfl, by have := hk.size; omega⟩
theorem one_i (k : IntKind) (a : Int) : ∀ u ∈ [Value.int k a], u.oneCell' = true := by
  intro u hu; simp only [List.mem_cons, List.not_mem_nil, or_false] at hu; subst hu; rfl
theorem CodeAt.keeps {S : Nat → Prop} {w w1 : World} {b off : Nat} {l : List I} (h : CodeAt w b off l) (k : Keeps S w w1) (hS : ¬ S b) : CodeAt w1 b off l :=
  CodeAt.of_row (Nat.lt_of_lt_of_le h.lt k.size) h.wf (fun j v hv => by rw [World.cell?_of_block (w := w) (k.block b h.lt hS)]; exact h.row j v hv)
theorem Entry_S (p : List UInt8) (w : World) (hp : p.length ≤ 1000000) :
    Calls Tryz.prog 81 #[.string ⟨#[83]⟩, .string (bs p)] w fun e w' => e = .returned (.string (bs (entryOf [83] p))) ∧ Below w.heap.size w w' := Entry_any [83] p w (by simp) hp
theorem rsubmit_end {S : Nat → Prop} {w wc w10 : World} {R n : Nat} {sz bat : Int} {pv cv dv tv cv' dv' tv' u : Value} {log : List UInt8} (hk : Keeps (fun k => k = R ∨ S k) w wc) (hb : Below wc.heap.size wc w10)
    (h : Rx (w10.setCell ⟨R, 5, none⟩ u) R sz bat pv log cv' dv' tv' n n n) (h1 : Moved w cv cv') (h2 : Moved w dv dv') (h3 : Moved w tv tv') :
    Rf (w10.setCell ⟨R, 5, none⟩ u) R n log cv' dv' tv' ∧ Keeps (fun k => k = R ∨ S k) w (w10.setCell ⟨R, 5, none⟩ u) ∧ Moved w cv cv' ∧ Moved w dv dv' ∧ Moved w tv tv' :=
  ⟨⟨⟨sz, bat, pv, h.blk⟩, h.oc, h.od, h.ot⟩, (hk.trans (Below.keeps hb (fun _ => False)) (fun _ h => h.elim)).trans (setCell_keeps _ _ _ _) (fun _k hk' _ => Or.inl hk'), h1, h2, h3⟩
theorem own_empty (w : World) : (w.alloc (.cells #[] 47)).drew.ownsRow 0 47 5 (.slice (some ⟨w.heap.size, 0, none⟩) 0 0) 0 [] :=
  own_below (World.ownsRow_made (base := 0) (e := 47) (size := 5) w #[] 0 (Nat.zero_le _) (by unfold maxLen; omega) rfl) ((Below.refl _ _).drew)
theorem row_news {w : World} {b off : Nat} {xs : List Value} (h : w.rangeAt b off xs) : ∀ j u, xs[j]? = some u → w.cell? ((⟨b, off, none⟩ : Addr).add j) = some u := by
  intro j u hu; rw [add_lit]; exact h j u hu
theorem grown_new {w w3 : World} {o : Obj} (h : (w.alloc o).drew.grownBy w3 (Value.slice (some ⟨w.heap.size, 0, none⟩) 0 0).ownBlock) : Below w.heap.size w w3 := by
  have hs : (w.alloc o).heap.size = w.heap.size + 1 := by simp
  refine ⟨h.os, h.tape, h.output, ?_, fun k hk => ?_⟩
  · have : (w.alloc o).heap.size ≤ w3.heap.size := h.size
    omega
  · exact (h.block k (show k < (w.alloc o).heap.size by omega) (by simp [Value.ownBlock]; omega)).trans (Below.heap_alloc w o k hk)
theorem one_s (a : Option Addr) (m c : Nat) : ∀ u ∈ [Value.slice a m c], u.oneCell' = true := by
  intro u hu; simp only [List.mem_cons, List.not_mem_nil, or_false] at hu; subst hu; rfl

theorem codes_end {S : Nat → Prop} {w w1 w3 w4 : World} {R n a cap2 g2 : Nat} {sz bat : Int} {pv cv dv tv : Value} {log : List UInt8} {o : Obj} {ca : Option Addr} {cc : Nat} {xs : List Value} (hk : Keeps (fun k => k = R ∨ some k = cv.ownBlock ∨ S k) w w1) (hcv : cv = .slice ca n cc)
    (h1 : Rx w1 R sz bat pv log cv dv tv n a a) (hb3 : Below w1.heap.size w1 w3) (ho : w4.ownsRow 0 48 1 (.slice (some ⟨g2, 0, none⟩) (n + 1) cap2) (n + 1) xs) (hg : (w3.alloc o).grownBy w4 (Value.slice ca n cc).ownBlock) (hl : (Value.slice ca n cc).ownBlock = some g2 ∨ g2 = w3.heap.size + 1) :
    ∃ cv', Rx (w4.setCell ⟨R, 1, none⟩ (.slice (some ⟨g2, 0, none⟩) (n + 1) cap2)) R sz bat pv log cv' dv tv (n + 1) a a ∧ Keeps (fun k => k = R ∨ some k = cv.ownBlock ∨ S k) w (w4.setCell ⟨R, 1, none⟩ (.slice (some ⟨g2, 0, none⟩) (n + 1) cap2)) ∧ Moved w cv cv' := by
  rw [← hcv] at hg hl
  have hal : Below w3.heap.size w3 (w3.alloc o) := (Below.refl _ _).alloc (Nat.le_refl _) _
  refine ⟨_, ((h1.below hb3).below hal).storeC hg ho, ?_, ?_⟩
  · have h3 : Keeps (fun k => k = R ∨ some k = cv.ownBlock ∨ S k) w (w3.alloc o) := (hk.trans (Below.keeps hb3 (fun _ => False)) (fun _ h => h.elim)).trans (Below.keeps hal (fun _ => False)) (fun _ h => h.elim)
    exact h3.step (Or.inl rfl) (fun k hk' _ => Or.inr (Or.inl hk')) hg
  · rcases hl with e | e
    · exact Or.inl (by rw [e]; rfl)
    · exact Or.inr ⟨g2, rfl, by have := hk.size; have := hb3.size; omega⟩

set_option maxRecDepth 100000 in
set_option maxHeartbeats 2000000 in
theorem RSubmit_yes (R b off cap n : Nat) (l : List I) (log : List UInt8) (cv dv tv : Value) (w : World) (hc : CodeAt w b off l) (hp : isProg l = true) (hR : Rf w R n log cv dv tv) (hn : n < 60) (hlog : log.length ≤ 50000) (hbS : ¬ (b = R ∨ some b = cv.ownBlock ∨ some b = dv.ownBlock ∨ some b = tv.ownBlock)) :
    Calls Tryz.prog 114 #[.pointer (some ⟨R, 0, none⟩), .slice (some ⟨b, off, none⟩) l.length cap] w fun e w' => e = .returned (.tuple #[.int .i64 ((n : Int) + 1), .int .i64 0]) ∧ ∃ cv' dv' tv', Rf w' R (n + 1) (log ++ entryOf [83] (payloadOf l)) cv' dv' tv' ∧ Keeps (fun k => k = R ∨ some k = cv.ownBlock ∨ some k = dv.ownBlock ∨ some k = tv.ownBlock) w w' ∧ Moved w cv cv' ∧ Moved w dv dv' ∧ Moved w tv tv' := by
  obtain ⟨sz, bat, pv, hblk⟩ := hR.blk
  have hRx : Rx w R sz bat pv log cv dv tv n n n := ⟨hblk, hR.oc, hR.od, hR.ot⟩
  obtain ⟨xs, hx⟩ := hR.oc
  obtain ⟨ca, cc, hcv⟩ := own_len hx
  have hbw := hc.lt
  have h60 : ((n : Int) == 60) = false := by rw [beq_eq_false_iff_ne]; omega
  have HP : Hid _ := isProg_len hp
  have HRX : Hid _ := hRx
  have HC : Hid _ := hc
  have HCV : Hid _ := hcv
  clear hcv
  clear hblk hR hx hRx hc
  go_enter Tryz.func114, Tryz.ntmps114
  go_wp2_with (first | (go_at_call 145; refine (Program_yes b off cap l _ HC.out hp).mono ?_; rintro e w1 ⟨rfl, hb1⟩; have hrow := rangeAt_below HC.out.row hb1; have HR1 := HRX.out.below hb1; have c1 : w1.cell? ⟨R, 1, none⟩ = some (.slice ca n cc) := (by rw [← HCV.out]; exact blk_cell (i := 1) HR1.blk rfl)))
  have hk1 : Keeps (fun k => k = R ∨ some k = cv.ownBlock ∨ some k = dv.ownBlock ∨ some k = tv.ownBlock) w w1 := Below.keeps hb1 _
  clear hb1
  obtain ⟨i36, hi36, hz360, hz361, hz362⟩ := info_parts Tryz.info36
  obtain ⟨i37, hi37, hz370, hz371, hz372⟩ := info_parts Tryz.info37
  have HR1h : Hid _ := HR1
  clear HR1
  have hRw1 := HR1h.out.lt
  obtain ⟨xs, hxs⟩ := HR1h.out.oc
  have HX : Hid _ := hxs
  have HROW : Hid _ := hrow
  clear hxs hrow
  go_cut [] from 17 (fun wc => ∃ cv', Rx wc R sz bat pv log cv' dv tv (n + 1) n n ∧ Keeps (fun k => k = R ∨ some k = cv.ownBlock ∨ some k = dv.ownBlock ∨ some k = tv.ownBlock) w wc ∧ Moved w cv cv')
  case first =>
    go_region_law (first | (refine step_append_lies _ (by rfl) (.tmp 22) (.tmp 23) 48 (by rfl) 0 47 i36 _ 5 48 Tryz.underlying48 hi36 hz360 hz361 hz362 rfl (by omega) (.slice (some ⟨w1.heap.size, 0, none⟩) 0 0) 0 [] (by rfl) (own_empty w1) ⟨b, off, none⟩ l.length cap (flatI l) (by rfl) (flatI_length l) (row_news (rangeAt_below HROW.out (((Below.refl _ _).alloc (Nat.le_refl _) _).drew))) (flatI_one l) (by have := HP.out.1; omega) (by have := HP.out.2.1; unfold maxLen; omega) (by have := HP.out.2.1; omega) (Nat.zero_le _) (w1.heap.size + 1) (by simp) ?_; intro g1 cap1 w3 hown3 hgrow3 hlies3 hlt3; have hb3 := grown_new hgrow3; have HR3 := hide (HR1h.out.below hb3); have c31 : w3.cell? ⟨R, 1, none⟩ = some (.slice ca n cc) := (by rw [← HCV.out]; exact blk_cell (i := 1) HR3.out.blk rfl); have hRw3 := HR3.out.lt) | (refine step_append_lies _ (by rfl) (.tmp 21) (.tmp 25) 28 (by rfl) 0 48 i37 _ 1 24 Tryz.underlying28 hi37 hz370 hz371 hz372 rfl (by omega) (.slice ca n cc) n xs (by rfl) (by rw [← HCV.out]; exact own_below (own_below HX.out hb3) ((Below.refl _ _).alloc (Nat.le_refl _) _)) ⟨w3.heap.size, 0, none⟩ 1 1 [.slice (some ⟨g1, 0, none⟩) l.length cap1] (by rfl) rfl (World.news_of_block (heap_alloc_new w3 _)) (one_s _ _ _) (by omega) (by unfold maxLen; omega) (by omega) (Nat.zero_le _) (w3.heap.size + 1) (by simp) ?_; intro g2 cap2 w4 hown4 hgrow4 hlies4 hlt4; have HB4 := hide ((HR3.out.below ((Below.refl _ _).alloc (Nat.le_refl _) _)).blkC (by rw [HCV.out]; exact hgrow4)); have c41 : w4.cell? ⟨R, 1, none⟩ = some (.slice ca n cc) := (by rw [← HCV.out]; exact blk_cell (i := 1) HB4.out rfl); have f41 : w4.frozen? ⟨R, 1, none⟩ = false := blk_free HB4.out))
    all_goals
      have hE := codes_end hk1 HCV.out HR1h.out hb3 hown4 hgrow4 hlies4
      clear hown4 hgrow4 hlies4 hown3 hgrow3 hlies3 HX HROW HR1h HR3 HB4
      go_wp2_with fail
      go_meet
      case rel => exact hE
  case rest =>
    clear HX HROW HR1h hRw1 hk1 c1 hi36 hz360 hz361 hz362 hi37 hz370 hz371 hz372 i36 i37 xs w1
    obtain ⟨cv', hR2, hk2, hmc⟩ := hcut
    obtain ⟨ca2, cc2, hcv2⟩ := own_len hR2.oc.choose_spec
    obtain ⟨ys, hys⟩ := hR2.od
    have HR2 := hide hR2
    have HY := hide hys
    have hRw2 := hR2.lt
    have c2 : wc.cell? ⟨R, 2, none⟩ = some dv := blk_cell (i := 2) hR2.blk rfl
    clear hR2 hys
    obtain ⟨i81, hi81, hz810, hz811, hz812⟩ := info_parts Tryz.info81
    go_wp2_with (at_builtin; refine wpList_append_lies _ rfl (.tmp 33) (.tmp 35) 31 rfl 0 34 i81 _ 4 32 Tryz.underlying31 hi81 hz810 hz811 hz812 rfl (by omega) dv n ys rfl ?own ⟨wc.heap.size, 0, none⟩ 1 1 [.int .i64 0, .int .i64 0, .int .i64 0, .int .i64 0] rfl rfl ?news ?one (by omega) ?h63 ?hby (Nat.zero_le _) (wc.heap.size + 1) ?hH ?_)
    case own => exact own_below HY.out ((Below.refl _ _).alloc (Nat.le_refl _) _)
    case news => exact World.news_of_block (heap_alloc_new wc _)
    case one => exact one_4 _ _ _ _ _
    case h63 => unfold maxLen; omega
    case hby => omega
    case hH => simp
    intro g5 cap5 w5 hown5 hgrow5 hlies5 hlt5
    have HB5 := hide ((HR2.out.below ((Below.refl _ _).alloc (Nat.le_refl _) _)).blkD hgrow5)
    have c52 : w5.cell? ⟨R, 2, none⟩ = some dv := blk_cell (i := 2) HB5.out rfl
    have f52 : w5.frozen? ⟨R, 2, none⟩ = false := blk_free HB5.out
    have hE := done_end hk2 HR2.out hown5 hgrow5 hlies5
    clear hown5 hgrow5 hlies5 hlt5 HR2 HY c2 hRw2
    go_wp2
    generalize w5.setCell ⟨R, 2, none⟩ (.slice (some ⟨g5, 0, none⟩) (n + 1) cap5) = W6 at hE ⊢
    clear HB5 c52 f52 hk2 hi81 hz810 hz811 hz812 i81 ys
    obtain ⟨dv', hR6, hk6, hmd⟩ := hE
    subst hcv2
    obtain ⟨zs, hzs⟩ := hR6.ot
    have HR6 := hide hR6
    have HZ := hide hzs
    have hRw6 := hR6.lt
    have c63 : W6.cell? ⟨R, 3, none⟩ = some tv := blk_cell (i := 3) hR6.blk rfl
    have c61 : W6.cell? ⟨R, 1, none⟩ = some (.slice ca2 (n + 1) cc2) := blk_cell (i := 1) hR6.blk rfl
    clear hR6 hzs
    obtain ⟨i3, hi3, hz30, hz31, hz32⟩ := info_parts Tryz.info3
    go_cut [] from 17 (fun wc => ∃ tv', Rx wc R sz bat pv log (.slice ca2 (n + 1) cc2) dv' tv' (n + 1) (n + 1) (n + 1) ∧ Keeps (fun k => k = R ∨ some k = cv.ownBlock ∨ some k = dv.ownBlock ∨ some k = tv.ownBlock) w wc ∧ Moved w tv tv')
    case first =>
      go_region_law ((refine step_append_lies _ (by rfl) (.tmp 43) (.tmp 49) 25 (by rfl) 0 3 i3 _ 1 8 Tryz.underlying25 hi3 hz30 hz31 hz32 rfl (by omega) tv n zs (by rfl) (own_below HZ.out (((Below.refl _ _).alloc (Nat.le_refl _) _).drew)) ⟨W6.heap.size, 0, none⟩ 1 1 [.int .i64 ((n : Int) + 1)] (by rfl) rfl (World.news_of_block (heap_alloc_new W6 _)) (one_i _ _) (by omega) (by unfold maxLen; omega) (by omega) (Nat.zero_le _) (W6.heap.size + 1) (by simp) ?_; intro g7 cap7 w7 hown7 hgrow7 hlies7 hlt7; have HB7 := hide ((HR6.out.below (((Below.refl _ _).alloc (Nat.le_refl _) _).drew)).blkT hgrow7); have c73 : w7.cell? ⟨R, 3, none⟩ = some tv := blk_cell (i := 3) HB7.out rfl; have f73 : w7.frozen? ⟨R, 3, none⟩ = false := blk_free HB7.out))
      all_goals
        have hE := waits_end hk6 HR6.out hown7 hgrow7 hlies7
        clear hown7 hgrow7 hlies7 HZ HR6 HB7
        go_wp2_with fail
        go_meet
        case rel => exact hE
    case rest =>
      clear HR6 HZ hRw6 c63 c61 hi3 hz30 hz31 hz32 i3 hk6 zs
      obtain ⟨tv', hR8, hk8, hmt⟩ := hcut
      have HCODE := hide ((HC.out.keeps hk8 hbS).keeps (drew_keeps (fun _ => False) _) (fun h => h))
      have HR8 := hide hR8
      have hRw8 := hR8.lt
      have c85 : wc.cell? ⟨R, 5, none⟩ = some (.string (bs log)) := blk_cell (i := 5) hR8.blk rfl
      clear hR8
      have hpl := payload_small HP.out
      have hel := entry_length [83] (payloadOf l)
      have q1 : ¬ 9223372036854775807 < log.length + (entryOf [83] (payloadOf l)).length := by rw [hel]; simp; omega
      clear hel
      go_wp2
      go_region_with (first | (go_at_call 146; refine (Payload_any b off cap l _ HCODE.out.wf (HCODE.out.at') HP.out.2.1 (fun x hx hk => insOk_size (HP.out.2.2 x hx) hk) HCODE.out.lt).mono ?_; rintro e w9 ⟨rfl, hb9⟩; have hb9' : Below wc.heap.size wc w9 := bl2 ((Below.refl _ _).drew) hb9; have c95 := bcell hb9' c85) | (go_at_call 81; refine (Entry_S _ _ (Nat.le_trans hpl (by omega))).mono ?_; rintro e w10 ⟨rfl, hb10⟩; have hb10' : Below wc.heap.size wc w10 := bl2 hb9' hb10; have HR10 := hide (HR8.out.below hb10'); have cA5 : w10.cell? ⟨R, 5, none⟩ = some (.string (bs log)) := blk_cell (i := 5) HR10.out.blk rfl; have fA5 : w10.frozen? ⟨R, 5, none⟩ = false := blk_free HR10.out.blk; have cA1 : w10.cell? ⟨R, 1, none⟩ = some (.slice ca2 (n + 1) cc2) := blk_cell (i := 1) HR10.out.blk rfl))
      all_goals
        have HE := rsubmit_end hk8 hb10' (HR10.out.storeS (log' := log ++ entryOf [83] (payloadOf l))) hmc hmd hmt
        clear HR8 HR10 hb9 hb9' hb10 hb10' hk8
        go_wp2
        go_ret2
        exact ⟨rfl, _, _, _, HE⟩

end Go.Proofs.YtdbdljjhhehbiaaGreat
