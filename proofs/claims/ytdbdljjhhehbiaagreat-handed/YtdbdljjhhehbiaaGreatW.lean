import Derived.Test.YtdbdljjhhehbiaaGreatV
namespace Go.Proofs.YtdbdljjhhehbiaaGreat
open Go.RowKit

theorem Tryz.info31 : (Tryz.prog.info? 71).map (fun i => (i.zero, i.size, i.bytes)) = some (some (.pointer none), 1, 8) := by kernel_rfl
/-- A pair as open makes it. -/
def newEn (N : Nat) : En := ⟨N + 3, N + 1, N + 2, 0, [], .slice none 0 0, .slice none 0 0, .slice none 0 0, .slice none 0 0, .slice none 0 0, .slice none 0 0⟩
def openW (w : World) (b k : Int) : World := (((w.alloc (.map #[] 0)).alloc (.cells #[.int .i64 b, .int .i64 k, .map (some w.heap.size), .slice none 0 0, .slice none 0 0, .int .i64 0, .slice none 0 0] 83)).alloc (.cells #[.int .i64 b, .slice none 0 0, .slice none 0 0, .slice none 0 0, .int .i64 0, .string ⟨#[]⟩, .slice none 0 0] 161)).alloc (.cells #[.pointer (some ⟨w.heap.size + 1, 0, none⟩), .pointer (some ⟨w.heap.size + 2, 0, none⟩)] 127)
theorem openW_below (w : World) (b k : Int) : Below w.heap.size w (openW w b k) := ((((Below.refl _ _).alloc (Nat.le_refl _) _).alloc (by simp) _).alloc (by simp; omega) _).alloc (by simp; omega) _
theorem openW_size (w : World) (b k : Int) : (openW w b k).heap.size = w.heap.size + 4 := by simp [openW]
theorem alloc_new (w : World) (o : Obj) (N : Nat) (h : w.heap.size = N) : (w.alloc o).heap[N]? = some o := by subst h; exact heap_alloc_new w o
theorem newEn_ok (w : World) (b k : Int) : (newEn w.heap.size).ok (openW w b k) := by
  have h1 : (openW w b k).heap[w.heap.size + 1]? = some (.cells #[.int .i64 b, .int .i64 k, .map (some w.heap.size), .slice none 0 0, .slice none 0 0, .int .i64 0, .slice none 0 0] 83) := by
    unfold openW
    rw [Below.heap_alloc _ _ _ (by simp), Below.heap_alloc _ _ _ (by simp)]; exact alloc_new _ _ _ (by simp)
  have h2 : (openW w b k).heap[w.heap.size + 2]? = some (.cells #[.int .i64 b, .slice none 0 0, .slice none 0 0, .slice none 0 0, .int .i64 0, .string ⟨#[]⟩, .slice none 0 0] 161) := by
    unfold openW
    rw [Below.heap_alloc _ _ _ (by simp)]; exact alloc_new _ _ _ (by simp)
  have h3 : (openW w b k).heap[w.heap.size + 3]? = some (.cells #[.pointer (some ⟨w.heap.size + 1, 0, none⟩), .pointer (some ⟨w.heap.size + 2, 0, none⟩)] 127) := by
    unfold openW
    exact alloc_new _ _ _ (by simp)
  exact ⟨h3, ⟨⟨b, k, 0, _, h1⟩, ⟨[], World.ownsRow_nil _ _ _ _⟩, ⟨[], World.ownsRow_nil _ _ _ _⟩, World.ownsRow_nil _ _ _ _⟩, ⟨⟨b, 0, .slice none 0 0, h2⟩, ⟨[], World.ownsRow_nil _ _ _ _⟩, ⟨[], World.ownsRow_nil _ _ _ _⟩, ⟨[], World.ownsRow_nil _ _ _ _⟩⟩, Or.inl rfl, by simp [newEn], by simp [newEn]⟩
theorem newEn_foot {N k : Nat} (h : (newEn N).foot k) : N ≤ k := by
  rcases h with rfl | (h | h | h | h) | (h | h | h | h)
  · simp [newEn]
  · subst h; simp [newEn]
  · simp [newEn, Value.ownBlock] at h
  · simp [newEn, Value.ownBlock] at h
  · simp [newEn, Value.ownBlock] at h
  · subst h; simp [newEn]
  · simp [newEn, Value.ownBlock] at h
  · simp [newEn, Value.ownBlock] at h
  · simp [newEn, Value.ownBlock] at h

/-- A pair more, in the list. -/
theorem Inv.push {base : Nat} {w w4 : World} {V g cap : Nat} {es : List En} {e : En} {psv : Value} {o : Obj} (h : Inv base w V es) (hbs : base ≤ w.heap.size) (he : e.ok w) (hlo : ∀ k, e.foot k → base ≤ k) (hap : ∀ i (hi : i < es.length) k, es[i].foot k → ¬ e.foot k)
    (hpsv : w.heap[V]? = some (.cells #[psv, .slice none 0 0, .slice none 0 0, .slice none 0 0, .slice none 0 0] 70 (0, 0)))
    (hown : w4.ownsRow 0 71 1 (.slice (some ⟨g, 0, none⟩) (es.length + 1) cap) (es.length + 1) ((es.map fun e => Value.pointer (some ⟨e.P, 0, none⟩)) ++ [.pointer (some ⟨e.P, 0, none⟩)])) (hgrow : (w.alloc o).grownBy w4 psv.ownBlock) (hl : psv.ownBlock = some g ∨ g = w.heap.size + 1) :
    Inv base (w4.setCell ⟨V, 0, none⟩ (.slice (some ⟨g, 0, none⟩) (es.length + 1) cap)) V (es ++ [e]) ∧ Below base w (w4.setCell ⟨V, 0, none⟩ (.slice (some ⟨g, 0, none⟩) (es.length + 1) cap)) := by
  obtain ⟨psv', hb, ho, hlp⟩ := h.blk
  rw [hpsv] at hb
  simp only [Option.some.injEq, Obj.cells.injEq, Array.mk.injEq, List.cons.injEq, and_true] at hb
  obtain rfl : psv = psv' := hb
  have hal : Below w.heap.size w (w.alloc o) := (Below.refl _ _).alloc (Nat.le_refl _) _
  have hk4 : Keeps (fun k => some k = psv.ownBlock) w w4 := (Below.keeps hal _).trans (grown_keeps hgrow) (fun _ h _ => h)
  have hV4 : w4.heap[V]? = some (.cells #[psv, .slice none 0 0, .slice none 0 0, .slice none 0 0, .slice none 0 0] 70 (0, 0)) := blk_keeps hpsv hk4 (own_apart ho hpsv (by decide))
  have hk5 : Keeps (fun k => k = V ∨ some k = psv.ownBlock) w (w4.setCell ⟨V, 0, none⟩ (.slice (some ⟨g, 0, none⟩) (es.length + 1) cap)) := (hk4.mono (fun _ h => Or.inr h)).trans (setCell_keeps _ _ _ _) (fun _ h _ => Or.inl h)
  have hno : ∀ {e : En}, e.ok w → ∀ k, (k = V ∨ some k = psv.ownBlock) → ¬ e.foot k := by
    intro e hoe k hk hf
    rcases hk with rfl | hk
    · exact hoe.apart hpsv (by decide) hf
    · rcases ho.2 with ⟨rfl, _⟩ | ⟨g', cap', cur, rfl, _, hg, _⟩
      · simp [Value.ownBlock] at hk
      · simp only [Value.ownBlock, Option.some.injEq] at hk
        subst hk
        exact hoe.apart hg (by decide) hf
  have hgb : base ≤ g := by
    rcases hl with e | e
    · exact hlp g e
    · omega
  refine ⟨⟨⟨_, blk_set hV4, ?_, ?_⟩, h.hV, ?_, ?_, ?_⟩, ?_⟩
  · rw [List.length_append, List.map_append]
    exact own_keeps hown (setCell_keeps w4 V 0 _) (fun i hi => by subst hi; exact own_apart hown hV4 (by decide))
  · intro k hk; simp [Value.ownBlock] at hk; omega
  · intro i hi
    rw [List.length_append] at hi
    by_cases hlt : i < es.length
    · rw [List.getElem_append_left hlt]; exact (h.ok i hlt).keeps hk5 (hno (h.ok i hlt))
    · have : i = es.length := by simp at hi; omega
      subst this
      simp only [List.getElem_append_right (Nat.le_refl _), Nat.sub_self, List.getElem_cons_zero]
      exact he.keeps hk5 (hno he)
  · intro i hi k hk
    rw [List.length_append] at hi
    by_cases hlt : i < es.length
    · rw [List.getElem_append_left hlt] at hk; exact h.lo i hlt k hk
    · have : i = es.length := by simp at hi; omega
      subst this
      simp only [List.getElem_append_right (Nat.le_refl _), Nat.sub_self, List.getElem_cons_zero] at hk
      exact hlo k hk
  · intro i j hi hj hij k ki kj
    rw [List.length_append] at hi hj
    by_cases hlt : i < es.length
    · rw [List.getElem_append_left hlt] at ki
      by_cases hlt2 : j < es.length
      · rw [List.getElem_append_left hlt2] at kj; exact h.apart i j hlt hlt2 hij k ki kj
      · have : j = es.length := by simp at hj; omega
        subst this
        simp only [List.getElem_append_right (Nat.le_refl _), Nat.sub_self, List.getElem_cons_zero] at kj
        exact hap i hlt k ki kj
    · have : i = es.length := by simp at hi; omega
      subst this
      simp only [List.getElem_append_right (Nat.le_refl _), Nat.sub_self, List.getElem_cons_zero] at ki
      have hlt2 : j < es.length := by simp at hj; omega
      rw [List.getElem_append_left hlt2] at kj
      exact hap j hlt2 k kj ki
  · refine ⟨hk5.os, hk5.tape, hk5.output, hk5.size, fun k hk => hk5.block k (by omega) ?_⟩
    rintro (rfl | h')
    · have := h.hV; omega
    · have := hlp k h'.symm; omega

theorem openW_facts {base N : Nat} {w1 w2 : World} {V : Nat} {es : List En} {b k : Int} (hw : w2 = openW w1 b k) (hI : Inv base w1 V es) (hN : w1.heap.size = N) :
    Below w1.heap.size w1 w2 ∧ Inv base w2 V es ∧ (newEn N).ok w2 ∧ ∃ psv, w2.ownsRow 0 71 1 psv es.length (es.map fun e => .pointer (some ⟨e.P, 0, none⟩)) ∧ Hid (w2.heap[V]? = some (.cells #[psv, .slice none 0 0, .slice none 0 0, .slice none 0 0, .slice none 0 0] 70 (0, 0))) ∧ w2.cell? ⟨V, 0, none⟩ = some psv ∧ V < w2.heap.size := by
  subst hw
  subst hN
  have hb := openW_below w1 b k
  have hI2 := hI.below hb
  obtain ⟨psv, h1, h2, _⟩ := hI2.blk
  exact ⟨hb, hI2, newEn_ok w1 b k, psv, h2, h1, blk_cell (i := 0) h1 rfl, lt_of_block h1⟩
/-- What a step may have done. -/
def Step (base : Nat) (w : World) (V m : Nat) (w' : World) : Prop := ∃ es', Inv base w' V es' ∧ 0 < es'.length ∧ es'.length ≤ m ∧ Below base w w'

theorem one_p (a : Option Addr) : ∀ u ∈ [Value.pointer a], u.oneCell' = true := by
  intro u hu; simp only [List.mem_cons, List.not_mem_nil, or_false] at hu; subst hu; rfl
theorem opens_end {base N : Nat} {w w1 w2 w4 : World} {V g cap : Nat} {es : List En} {psv : Value} {o : Obj} (hb : Below w.heap.size w w1) (hN : w1.heap.size = N) (hbs : base ≤ w.heap.size) (hlt : ∀ i (hi : i < es.length) k, es[i].foot k → k < w.heap.size)
    (hb2 : Below w1.heap.size w1 w2) (hI : Inv base w2 V es) (he : (newEn N).ok w2)
    (hpsv : w2.heap[V]? = some (.cells #[psv, .slice none 0 0, .slice none 0 0, .slice none 0 0, .slice none 0 0] 70 (0, 0)))
    (hown : w4.ownsRow 0 71 1 (.slice (some ⟨g, 0, none⟩) (es.length + 1) cap) (es.length + 1) ((es.map fun e => Value.pointer (some ⟨e.P, 0, none⟩)) ++ [.pointer (some ⟨N + 3, 0, none⟩)])) (hgrow : (w2.alloc o).grownBy w4 psv.ownBlock) (hl : psv.ownBlock = some g ∨ g = w2.heap.size + 1) :
    Step base w V (es.length + 1) (w4.setCell ⟨V, 0, none⟩ (.slice (some ⟨g, 0, none⟩) (es.length + 1) cap)) := by
  have hs1 := hb.size
  have hs2 := hb2.size
  obtain ⟨h1, h2⟩ := hI.push (e := newEn N) (by omega) he (fun k hk => by have := newEn_foot hk; omega) (fun i hi k hk hk' => by have := newEn_foot hk'; have := hlt i hi k hk; omega) hpsv hown hgrow hl
  exact ⟨_, h1, by simp, by simp, (hb.mono hbs).trans ((hb2.mono (by omega)).trans h2)⟩

set_option maxRecDepth 100000 in
set_option maxHeartbeats 1000000 in
theorem opens_no (base V : Nat) (es : List En) (bk A B : Int) (S : ByteArray) (ao : Option Addr) (n c : Nat) (w : World) (hI : Inv base w V es) (hbs : base ≤ w.heap.size) (hne : 0 < es.length) (hno : ¬ (1 ≤ A ∧ A ≤ 8 ∧ 1 ≤ B ∧ B ≤ 5)) :
    Calls Tryz.prog 48 #[.pointer (some ⟨V, 0, none⟩), .agg #[.int .i64 1, .int .i64 bk, .int .i64 A, .int .i64 B, .string S, .slice ao n c]] w fun r w' => r = .returned (.bool true) ∧ Step base w V (es.length + 1) w' := by
  have hb : Below w.heap.size w (w.alloc (.cells #[.int .i64 1, .int .i64 bk, .int .i64 A, .int .i64 B, .string S, .slice ao n c] 76)) := (Below.refl _ _).alloc (Nat.le_refl _) _
  have HI := hide (hI.below hb)
  have HN := hide hno
  have HB := hide (hb.mono hbs)
  clear hI hno hb
  go_enter Tryz.func48, Tryz.ntmps48
  go_wp2_with (first | (go_at_call 24; refine (open_no _ _ _ HN.out).mono ?_; rintro r w' ⟨rfl, rfl⟩))
  go_ret
  exact ⟨rfl, es, HI.out, hne, by omega, HB.out⟩

set_option maxRecDepth 100000 in
set_option maxHeartbeats 1000000 in
theorem opens_yes (base V : Nat) (es : List En) (bk A B : Int) (S : ByteArray) (ao : Option Addr) (n c : Nat) (w : World) (hI : Inv base w V es) (hbs : base ≤ w.heap.size) (hm : (es.length + 1) * 8 ≤ 140737488355328) (h1 : 1 ≤ A) (h2 : A ≤ 8) (h3 : 1 ≤ B) (h4 : B ≤ 5) :
    Calls Tryz.prog 48 #[.pointer (some ⟨V, 0, none⟩), .agg #[.int .i64 1, .int .i64 bk, .int .i64 A, .int .i64 B, .string S, .slice ao n c]] w fun r w' => r = .returned (.bool true) ∧ Step base w V (es.length + 1) w' := by
  have hb : Below w.heap.size w (w.alloc (.cells #[.int .i64 1, .int .i64 bk, .int .i64 A, .int .i64 B, .string S, .slice ao n c] 76)) := (Below.refl _ _).alloc (Nat.le_refl _) _
  have HI1 := hide (hI.below hb)
  have hs1 : w.heap.size < (w.alloc (.cells #[.int .i64 1, .int .i64 bk, .int .i64 A, .int .i64 B, .string S, .slice ao n c] 76)).heap.size := by simp
  have HN1 := hide (show (w.alloc (.cells #[.int .i64 1, .int .i64 bk, .int .i64 A, .int .i64 B, .string S, .slice ao n c] 76)).heap.size = w.heap.size + 1 by simp)
  have HB := hide hb
  have HS1 := hide hs1
  have HBS := hide hbs
  obtain ⟨i31, hi31, hz310, hz311, hz312⟩ := info_parts Tryz.info31
  have HLT : Hid (∀ i (hi : i < es.length) k, es[i].foot k → k < w.heap.size) := fun i hi k hk => (hI.ok i hi).lt hk
  clear hI hb hs1 hbs
  go_enter Tryz.func48, Tryz.ntmps48
  go_wp2_with (first | (go_at_call 24; refine (open_yes _ _ _ h1 h2 h3 h4).mono ?_; rintro r w2 ⟨rfl, hw2⟩; have HW2 := hide (openW_facts hw2 HI1.out HN1.out); obtain ⟨psv, ho2, hV2, cV2, hVl2⟩ := HW2.out.2.2.2; clear hw2) | (at_builtin; refine wpList_append_lies _ rfl (.tmp 89) (.tmp 91) 66 rfl 0 71 i31 _ 1 8 Tryz.underlying66 hi31 hz310 hz311 hz312 rfl (by omega) psv es.length (es.map fun e => Value.pointer (some ⟨e.P, 0, none⟩)) rfl ?own ⟨w2.heap.size, 0, none⟩ 1 1 [.pointer (some ⟨w.heap.size + 1 + 3, 0, none⟩)] rfl rfl ?news ?one (by omega) ?h63 ?hby (Nat.zero_le _) (w2.heap.size + 1) ?hH ?_))
  case own => exact own_below ho2 ((Below.refl _ _).alloc (Nat.le_refl _) _)
  case news => exact World.news_of_block (heap_alloc_new w2 _)
  case one => exact one_p _
  case h63 => unfold maxLen; omega
  case hby => omega
  case hH => simp
  intro g4 cap4 w4 hown4 hgrow4 hlies4 hlt4
  have HE := hide (opens_end HB.out HN1.out HBS.out HLT.out HW2.out.1 HW2.out.2.1 HW2.out.2.2.1 hV2.out hown4 hgrow4 hlies4)
  have hV4 := hide (blk_keeps hV2.out ((Below.keeps ((Below.refl w2.heap.size w2).alloc (Nat.le_refl _) _) (fun k => some k = psv.ownBlock)).trans (grown_keeps hgrow4) (fun _ h _ => h)) (own_apart ho2 hV2.out (by decide)))
  have c40 : w4.cell? ⟨V, 0, none⟩ = some psv := blk_cell (i := 0) hV4.out rfl
  have f40 : w4.frozen? ⟨V, 0, none⟩ = false := blk_free hV4.out
  clear hown4 hgrow4 hlies4 ho2 cV2 hVl2 hlt4
  go_wp2
  go_ret
  exact ⟨rfl, HE.out⟩

end Go.Proofs.YtdbdljjhhehbiaaGreat
