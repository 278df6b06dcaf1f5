import Derived.Test.YtdbdljjhhehbiaaGreatX
namespace Go.Proofs.YtdbdljjhhehbiaaGreat
open Go.RowKit

/-- A step of a script, as it was handed in. -/
structure Scr where
  kd : Int
  bk : Int
  A : Int
  B : Int
  S : ByteArray
  l : List I
  cv : Value
structure scrAt (w : World) (b off : Nat) (x : Scr) : Prop where
  c0 : w.cell? ⟨b, off, none⟩ = some (.int .i64 x.kd)
  c1 : w.cell? ⟨b, off + 1, none⟩ = some (.int .i64 x.bk)
  c2 : w.cell? ⟨b, off + 2, none⟩ = some (.int .i64 x.A)
  c3 : w.cell? ⟨b, off + 3, none⟩ = some (.int .i64 x.B)
  c4 : w.cell? ⟨b, off + 4, none⟩ = some (.string x.S)
  c5 : w.cell? ⟨b, off + 5, none⟩ = some x.cv
  code : OpCode w x.cv x.l (fun b => b < w.heap.size)
  hbk : -9223372036854775808 ≤ x.bk ∧ x.bk ≤ 9223372036854775807

theorem step_any (base V : Nat) (es : List En) (kd bk A B : Int) (S : ByteArray) (v : Value) (l : List I) (w : World) (hI : Inv base w V es) (hbs : base ≤ w.heap.size) (hne : 0 < es.length) (hm : (es.length + 1) * 8 ≤ 140737488355328) (hbk : -9223372036854775808 ≤ bk ∧ bk ≤ 9223372036854775807) (hkd : kd ≤ 3)
    (hv : OpCode w v l (fun b => ∀ i (hi : i < es.length), ¬ es[i].foot b)) :
    Calls Tryz.prog 25 #[.pointer (some ⟨V, 0, none⟩), .agg #[.int .i64 kd, .int .i64 bk, .int .i64 A, .int .i64 B, .string S, v]] w fun r w' => r = .returned (.bool true) ∧ Step base w V (es.length + 1) w' := by
  obtain ⟨ao, c, rfl, _⟩ := hv.cv.form
  by_cases h1 : kd < 1
  · exact step_idle base V es kd bk A B S ao l.length c w hI hbs hne h1
  · obtain h | h | h : kd = 1 ∨ kd = 2 ∨ kd = 3 := by omega
    · subst h; exact step_new base V es bk A B S ao l.length c w hI hbs hne hm
    · subst h; exact step_two base V es bk A B S ao c l w hI hbs hne (by omega) hbk hv
    · subst h; exact step_three base V es bk A B S ao l.length c w hI hbs hne (by omega) hbk

/-- The statement's world with two pairs made and none in the list. -/
theorem head_two {w w1 w2 w3 : World} (h1 : w1 = w.alloc (.cells #[.slice none 0 0, .slice none 0 0, .slice none 0 0, .slice none 0 0, .slice none 0 0] 70)) (h2 : w2 = openW w1 2 3) (h3 : w3 = openW w2 8 1) :
    Inv w.heap.size w3 w.heap.size [] ∧ (newEn (w.heap.size + 1)).ok w3 ∧ (newEn w2.heap.size).ok w3 ∧ w2.heap.size = w.heap.size + 5 ∧ w3.heap.size = w.heap.size + 9 ∧ Below w.heap.size w w3 ∧ w3.heap[w.heap.size]? = some (.cells #[.slice none 0 0, .slice none 0 0, .slice none 0 0, .slice none 0 0, .slice none 0 0] 70 (0, 0)) := by
  have hb1 : Below w.heap.size w w1 := by subst h1; exact (Below.refl _ _).alloc (Nat.le_refl _) _
  have hs1 : w1.heap.size = w.heap.size + 1 := by subst h1; simp
  have hb2 : Below w1.heap.size w1 w2 := by subst h2; exact openW_below _ _ _
  have hs2 : w2.heap.size = w.heap.size + 5 := by subst h2; rw [openW_size]; omega
  have hb3 : Below w2.heap.size w2 w3 := by subst h3; exact openW_below _ _ _
  have hs3 : w3.heap.size = w.heap.size + 9 := by subst h3; rw [openW_size]; omega
  have hV1 : w1.heap[w.heap.size]? = some (.cells #[.slice none 0 0, .slice none 0 0, .slice none 0 0, .slice none 0 0, .slice none 0 0] 70 (0, 0)) := by subst h1; exact heap_alloc_new w _
  have hV3 := (hb3.block _ (by omega)).trans ((hb2.block _ (by omega)).trans hV1)
  have e1 : (newEn (w.heap.size + 1)).ok w2 := by subst h2; rw [← hs1]; exact newEn_ok w1 2 3
  have e2 : (newEn w2.heap.size).ok w3 := by subst h3; exact newEn_ok w2 8 1
  refine ⟨⟨⟨.slice none 0 0, hV3, World.ownsRow_nil _ _ _ _, by intro k hk; simp [Value.ownBlock] at hk⟩, Nat.le_refl _, ?_, ?_, ?_⟩, e1.below hb3, e2, hs2, hs3, hb1.trans ((hb2.mono (by omega)).trans (hb3.mono (by omega))), hV3⟩
  · intro i hi; simp at hi
  · intro i hi; simp at hi
  · intro i j hi; simp at hi

theorem newEn_foot_lt {N k : Nat} (h : (newEn N).foot k) : k < N + 4 := by
  rcases h with rfl | (h | h | h | h) | (h | h | h | h)
  · simp [newEn]
  · subst h; simp [newEn]
  · simp [newEn, Value.ownBlock] at h
  · simp [newEn, Value.ownBlock] at h
  · simp [newEn, Value.ownBlock] at h
  · subst h; simp [newEn]
  · simp [newEn, Value.ownBlock] at h
  · simp [newEn, Value.ownBlock] at h
  · simp [newEn, Value.ownBlock] at h

/-- Another pair bears it that a pair is put into the list. -/
theorem push_other {w w4 : World} {V g cap m : Nat} {e : En} {psv : Value} {o : Obj} {xs : List Value} (he : e.ok w)
    (hpsv : w.heap[V]? = some (.cells #[psv, .slice none 0 0, .slice none 0 0, .slice none 0 0, .slice none 0 0] 70 (0, 0)))
    (ho : w.ownsRow 0 71 1 psv m xs) (hgrow : (w.alloc o).grownBy w4 psv.ownBlock) :
    e.ok (w4.setCell ⟨V, 0, none⟩ (.slice (some ⟨g, 0, none⟩) (m + 1) cap)) ∧ w4.heap[V]? = some (.cells #[psv, .slice none 0 0, .slice none 0 0, .slice none 0 0, .slice none 0 0] 70 (0, 0)) ∧ w.heap.size ≤ w4.heap.size := by
  have hal : Below w.heap.size w (w.alloc o) := (Below.refl _ _).alloc (Nat.le_refl _) _
  have hk4 : Keeps (fun k => some k = psv.ownBlock) w w4 := (Below.keeps hal _).trans (grown_keeps hgrow) (fun _ h _ => h)
  have hk5 : Keeps (fun k => k = V ∨ some k = psv.ownBlock) w (w4.setCell ⟨V, 0, none⟩ (.slice (some ⟨g, 0, none⟩) (m + 1) cap)) := (hk4.mono (fun _ h => Or.inr h)).trans (setCell_keeps _ _ _ _) (fun _ h _ => Or.inl h)
  refine ⟨he.keeps hk5 ?_, blk_keeps hpsv hk4 (own_apart ho hpsv (by decide)), hk4.size⟩
  intro k hk hf
  rcases hk with rfl | hk
  · exact he.apart hpsv (by decide) hf
  · rcases ho.2 with ⟨rfl, _⟩ | ⟨g', cap', cur, rfl, _, hg, _⟩
    · simp [Value.ownBlock] at hk
    · simp only [Value.ownBlock, Option.some.injEq] at hk
      subst hk
      exact he.apart hg (by decide) hf

theorem push_first {w w2 w3 w4 : World} {g cap : Nat} {o : Obj}
    (HH : Inv w.heap.size w3 w.heap.size [] ∧ (newEn (w.heap.size + 1)).ok w3 ∧ (newEn w2.heap.size).ok w3 ∧ w2.heap.size = w.heap.size + 5 ∧ w3.heap.size = w.heap.size + 9 ∧ Below w.heap.size w w3 ∧ w3.heap[w.heap.size]? = some (.cells #[.slice none 0 0, .slice none 0 0, .slice none 0 0, .slice none 0 0, .slice none 0 0] 70 (0, 0)))
    (hown : w4.ownsRow 0 71 1 (.slice (some ⟨g, 0, none⟩) 1 cap) 1 [.pointer (some ⟨w.heap.size + 1 + 3, 0, none⟩)]) (hgrow : (w3.alloc o).grownBy w4 (Value.slice none 0 0).ownBlock) (hl : (Value.slice none 0 0).ownBlock = some g ∨ g = w3.heap.size + 1) :
    Inv w.heap.size (w4.setCell ⟨w.heap.size, 0, none⟩ (.slice (some ⟨g, 0, none⟩) 1 cap)) w.heap.size [newEn (w.heap.size + 1)] ∧ (newEn w2.heap.size).ok (w4.setCell ⟨w.heap.size, 0, none⟩ (.slice (some ⟨g, 0, none⟩) 1 cap)) ∧ Below w.heap.size w (w4.setCell ⟨w.heap.size, 0, none⟩ (.slice (some ⟨g, 0, none⟩) 1 cap))
      ∧ w4.heap[w.heap.size]? = some (.cells #[.slice none 0 0, .slice none 0 0, .slice none 0 0, .slice none 0 0, .slice none 0 0] 70 (0, 0)) ∧ w3.heap.size ≤ w4.heap.size := by
  obtain ⟨hI, h1, h2, hs2, hs3, hb, hV⟩ := HH
  obtain ⟨p1, p2⟩ := hI.push (e := newEn (w.heap.size + 1)) (by omega) h1 (fun k hk => by have := newEn_foot hk; omega) (fun i hi => by simp at hi) hV hown hgrow hl
  obtain ⟨q1, q2, q3⟩ := push_other (V := w.heap.size) (g := g) (cap := cap) (m := 0) h2 hV (World.ownsRow_nil _ _ _ _) hgrow
  exact ⟨p1, q1, hb.trans p2, q2, q3⟩

theorem Inv.own {base : Nat} {w : World} {V : Nat} {es : List En} {psv : Value} (hI : Inv base w V es) (hV : w.heap[V]? = some (.cells #[psv, .slice none 0 0, .slice none 0 0, .slice none 0 0, .slice none 0 0] 70 (0, 0))) :
    w.ownsRow 0 71 1 psv es.length (es.map fun e => .pointer (some ⟨e.P, 0, none⟩)) := by
  obtain ⟨psv', hV', ho, _⟩ := hI.blk
  have hpe : psv = psv' := by
    rw [hV] at hV'
    simp only [Option.some.injEq, Obj.cells.injEq, Array.mk.injEq, List.cons.injEq, and_true] at hV'
    exact hV'
  subst hpe
  exact ho
theorem push_second {w w2 w5 w6 : World} {g cap g6 cap6 : Nat} {o : Obj} (hI : Inv w.heap.size w5 w.heap.size [newEn (w.heap.size + 1)]) (he : (newEn w2.heap.size).ok w5) (hb : Below w.heap.size w w5) (hs2 : w2.heap.size = w.heap.size + 5) (hs5 : w.heap.size ≤ w5.heap.size)
    (hV : w5.heap[w.heap.size]? = some (.cells #[.slice (some ⟨g, 0, none⟩) 1 cap, .slice none 0 0, .slice none 0 0, .slice none 0 0, .slice none 0 0] 70 (0, 0)))
    (hown : w6.ownsRow 0 71 1 (.slice (some ⟨g6, 0, none⟩) 2 cap6) 2 [.pointer (some ⟨w.heap.size + 1 + 3, 0, none⟩), .pointer (some ⟨w2.heap.size + 3, 0, none⟩)]) (hgrow : (w5.alloc o).grownBy w6 (Value.slice (some ⟨g, 0, none⟩) 1 cap).ownBlock) (hl : (Value.slice (some ⟨g, 0, none⟩) 1 cap).ownBlock = some g6 ∨ g6 = w5.heap.size + 1) :
    Inv w.heap.size (w6.setCell ⟨w.heap.size, 0, none⟩ (.slice (some ⟨g6, 0, none⟩) 2 cap6)) w.heap.size [newEn (w.heap.size + 1), newEn w2.heap.size] ∧ Below w.heap.size w (w6.setCell ⟨w.heap.size, 0, none⟩ (.slice (some ⟨g6, 0, none⟩) 2 cap6))
      ∧ w6.heap[w.heap.size]? = some (.cells #[.slice (some ⟨g, 0, none⟩) 1 cap, .slice none 0 0, .slice none 0 0, .slice none 0 0, .slice none 0 0] 70 (0, 0)) ∧ w5.heap.size ≤ w6.heap.size := by
  have ho := hI.own hV
  obtain ⟨p1, p2⟩ := hI.push (e := newEn w2.heap.size) hs5 he (fun k hk => by have := newEn_foot hk; omega) (fun i hi k hk hk' => by
    simp only [List.length_cons, List.length_nil] at hi
    obtain rfl : i = 0 := by omega
    have := newEn_foot_lt hk
    have := newEn_foot hk'
    omega) hV hown hgrow hl
  obtain ⟨_, q2, q3⟩ := push_other (V := w.heap.size) (g := g6) (cap := cap6) (m := 1) he hV ho hgrow
  exact ⟨p1, hb.trans p2, q2, q3⟩

/-- The program that plays hands in first. -/
def code3 : List I := [⟨0, 1, 0, 5, ⟨#[]⟩⟩, ⟨3, 1, 0, 0, ⟨#[120]⟩⟩, ⟨10, 1, 0, 0, ⟨#[]⟩⟩]
theorem code3_wf : ∀ x ∈ code3, x.wf := by
  intro x hx
  simp only [code3, List.mem_cons, List.not_mem_nil, or_false] at hx
  rcases hx with rfl | rfl | rfl <;> exact ⟨by decide, by decide, by decide, by decide, by decide⟩
theorem first_step {base V N : Nat} {es : List En} {w : World} (hN : w.heap.size = N) (hI : Inv base w V es) (hbs : base ≤ w.heap.size) (hne : 0 < es.length) (hm : (es.length + 1) * 8 ≤ 140737488355328) :
    Calls Tryz.prog 25 #[.pointer (some ⟨V, 0, none⟩), .agg #[.int .i64 2, .int .i64 0, .int .i64 0, .int .i64 0, .string ⟨#[]⟩, .slice (some ⟨N, 0, none⟩) 3 3]]
      (w.alloc (.cells #[.int .i64 0, .int .i64 1, .int .i64 0, .int .i64 5, .string ⟨#[]⟩, .int .i64 3, .int .i64 1, .int .i64 0, .int .i64 0, .string ⟨#[120]⟩, .int .i64 10, .int .i64 1, .int .i64 0, .int .i64 0, .string ⟨#[]⟩] 47)) fun r w' => r = .returned (.bool true) ∧ Step base w V (es.length + 1) w' := by
  subst hN
  have hb := (Below.refl w.heap.size w).alloc (Nat.le_refl _) (.cells #[.int .i64 0, .int .i64 1, .int .i64 0, .int .i64 5, .string ⟨#[]⟩, .int .i64 3, .int .i64 1, .int .i64 0, .int .i64 0, .string ⟨#[120]⟩, .int .i64 10, .int .i64 1, .int .i64 0, .int .i64 0, .string ⟨#[]⟩] 47)
  have hs : w.heap.size < (w.alloc (.cells #[.int .i64 0, .int .i64 1, .int .i64 0, .int .i64 5, .string ⟨#[]⟩, .int .i64 3, .int .i64 1, .int .i64 0, .int .i64 0, .string ⟨#[120]⟩, .int .i64 10, .int .i64 1, .int .i64 0, .int .i64 0, .string ⟨#[]⟩] 47)).heap.size := by simp
  have hc : ∀ (j : Nat) (v : Value), #[Value.int .i64 0, .int .i64 1, .int .i64 0, .int .i64 5, .string ⟨#[]⟩, .int .i64 3, .int .i64 1, .int .i64 0, .int .i64 0, .string ⟨#[120]⟩, .int .i64 10, .int .i64 1, .int .i64 0, .int .i64 0, .string ⟨#[]⟩][j]? = some v → (w.alloc (.cells #[.int .i64 0, .int .i64 1, .int .i64 0, .int .i64 5, .string ⟨#[]⟩, .int .i64 3, .int .i64 1, .int .i64 0, .int .i64 0, .string ⟨#[120]⟩, .int .i64 10, .int .i64 1, .int .i64 0, .int .i64 0, .string ⟨#[]⟩] 47)).cell? ⟨w.heap.size, j, none⟩ = some v := fun j v h => blk_cell (heap_alloc_new w _) h
  have hI1 := hI.below hb
  refine (step_any base V es 2 0 0 0 ⟨#[]⟩ (.slice (some ⟨w.heap.size, 0, none⟩) 3 3) code3 _ hI1 (by omega) hne hm (by decide) (by decide) ⟨⟨⟨some ⟨w.heap.size, 0, none⟩, 3, rfl, fun _ => ⟨w.heap.size, 0, rfl, hs, code3_wf, ?_⟩⟩, by decide⟩, code3_wf, ?_⟩).mono ?_
  · intro j hj
    have hj3 : j < 3 := hj
    obtain rfl | rfl | rfl : j = 0 ∨ j = 1 ∨ j = 2 := by omega
    · exact ⟨hc 0 _ rfl, hc 1 _ rfl, hc 2 _ rfl, hc 3 _ rfl, hc 4 _ rfl⟩
    · exact ⟨hc 5 _ rfl, hc 6 _ rfl, hc 7 _ rfl, hc 8 _ rfl, hc 9 _ rfl⟩
    · exact ⟨hc 10 _ rfl, hc 11 _ rfl, hc 12 _ rfl, hc 13 _ rfl, hc 14 _ rfl⟩
  · intro b off c he _ i hi hf
    have hlt := (hI.ok i hi).lt hf
    simp only [Value.slice.injEq, Option.some.injEq, Addr.mk.injEq] at he
    omega
  · rintro r w' ⟨rfl, hx⟩
    exact ⟨rfl, hx.behind (hb.mono hbs)⟩

set_option maxRecDepth 100000 in
set_option maxHeartbeats 1000000 in
theorem plays_any (ao : Option Addr) (cap : Nat) (xs : List Scr) (w : World) (hs : ∀ b off, ao = some ⟨b, off, none⟩ → ∀ j (h : j < xs.length), scrAt w b (off + j * 6) xs[j]) (hao : xs ≠ [] → ∃ b off, ao = some ⟨b, off, none⟩) (hm : xs.length * 72 ≤ 140737488351232) :
    Calls Tryz.prog 10 #[.slice ao xs.length cap, .bool false, .bool false] w fun r w' => r = .returned (.bool true) ∧ Below w.heap.size w w' := by
  obtain ⟨i31, hi31, hz310, hz311, hz312⟩ := info_parts Tryz.info31
  obtain ⟨w1, hw1⟩ : ∃ w1, w1 = w.alloc (.cells #[.slice none 0 0, .slice none 0 0, .slice none 0 0, .slice none 0 0, .slice none 0 0] 70) := ⟨_, rfl⟩
  have HS1 : Hid (w1.heap.size = w.heap.size + 1) := by rw [hw1]; exact hide (Array.size_push ..)
  have HW1 := hide hw1
  have HXS := hide hs
  have HAO := hide hao
  clear hs hao
  go_enter Tryz.func10, Tryz.ntmps10
  go_wp2_with fail
  rw [← HW1.out]
  clear hw1
  refine (open_yes _ _ _ (by decide) (by decide) (by decide) (by decide)).mono ?_
  rintro r w2 ⟨rfl, hw2⟩
  have HW2 : Hid (w2 = openW w1 2 3) := hw2
  clear hw2
  rw [HS1.out]
  go_wp2_with fail
  refine (open_yes _ _ _ (by decide) (by decide) (by decide) (by decide)).mono ?_
  rintro r w3 ⟨rfl, hw3⟩
  have HH := hide (head_two HW1.out HW2.out hw3)
  clear hw3
  have c30 : w3.cell? ⟨w.heap.size, 0, none⟩ = some (.slice none 0 0) := blk_cell (i := 0) HH.out.2.2.2.2.2.2 rfl
  have hl3 : w.heap.size < w3.heap.size := by have := HH.out.2.2.2.2.1; omega
  have own3 : w3.ownsRow 0 71 1 (.slice none 0 0) 0 [] := World.ownsRow_nil _ _ _ _
  go_wp2_with (at_builtin; refine wpList_append_lies _ rfl (.tmp 43) (.tmp 45) 66 rfl 0 71 i31 _ 1 8 Tryz.underlying66 hi31 hz310 hz311 hz312 rfl (by omega) (.slice none 0 0) 0 [] rfl ?own ⟨w3.heap.size, 0, none⟩ 1 1 [.pointer (some ⟨w.heap.size + 1 + 3, 0, none⟩)] rfl rfl ?news ?one (by omega) ?h63 ?hby (Nat.zero_le _) (w3.heap.size + 1) ?hH ?_)
  case own => exact own_below own3 ((Below.refl _ _).alloc (Nat.le_refl _) _)
  case news => exact World.news_of_block (heap_alloc_new w3 _)
  case one => exact one_p _
  case h63 => unfold maxLen; omega
  case hby => omega
  case hH => simp
  intro g4 cap4 w4 hown4 hgrow4 hlies4 hlt4
  have HP := hide (push_first HH.out hown4 hgrow4 hlies4)
  have c40 : w4.cell? ⟨w.heap.size, 0, none⟩ = some (.slice none 0 0) := blk_cell (i := 0) HP.out.2.2.2.1 rfl
  have f40 : w4.frozen? ⟨w.heap.size, 0, none⟩ = false := blk_free HP.out.2.2.2.1
  have hl4 : w.heap.size < w4.heap.size := by have := HP.out.2.2.2.2; omega
  have HV5 := hide (show (w4.setCell ⟨w.heap.size, 0, none⟩ (.slice (some ⟨g4, 0, none⟩) 1 cap4)).heap[w.heap.size]? = some (.cells #[.slice (some ⟨g4, 0, none⟩) 1 cap4, .slice none 0 0, .slice none 0 0, .slice none 0 0, .slice none 0 0] 70 (0, 0)) from blk_set HP.out.2.2.2.1)
  have HO5 := hide (HP.out.1.own HV5.out)
  have HS5 := hide (show (w4.setCell ⟨w.heap.size, 0, none⟩ (.slice (some ⟨g4, 0, none⟩) 1 cap4)).heap.size = w4.heap.size by simp)
  clear own3 hown4 hgrow4 hlies4 hlt4 c30 hl3
  go_wp2_with (at_builtin; refine wpList_append_lies _ rfl (.tmp 53) (.tmp 55) 66 rfl 0 71 i31 _ 1 8 Tryz.underlying66 hi31 hz310 hz311 hz312 rfl (by omega) (.slice (some ⟨g4, 0, none⟩) 1 cap4) 1 [.pointer (some ⟨w.heap.size + 1 + 3, 0, none⟩)] rfl ?own ⟨w4.heap.size, 0, none⟩ 1 1 [.pointer (some ⟨w2.heap.size + 3, 0, none⟩)] rfl rfl ?news ?one (by omega) ?h63 ?hby (Nat.zero_le _) (w4.heap.size + 1) ?hH ?_)
  case own => exact own_below HO5.out ((Below.refl _ _).alloc (Nat.le_refl _) _)
  case news => rw [← HS5.out]; exact World.news_of_block (heap_alloc_new _ _)
  case one => exact one_p _
  case h63 => unfold maxLen; omega
  case hby => omega
  case hH => simp
  intro g6 cap6 w6 hown6 hgrow6 hlies6 hlt6
  rw [← HS5.out] at hlies6
  have HQ := hide (push_second HP.out.1 HP.out.2.1 HP.out.2.2.1 HH.out.2.2.2.1 (by rw [HS5.out]; omega) HV5.out hown6 hgrow6 hlies6)
  have c60 : w6.cell? ⟨w.heap.size, 0, none⟩ = some (.slice (some ⟨g4, 0, none⟩) 1 cap4) := blk_cell (i := 0) HQ.out.2.2.1 rfl
  have f60 : w6.frozen? ⟨w.heap.size, 0, none⟩ = false := blk_free HQ.out.2.2.1
  have hl6 : w.heap.size < w6.heap.size := by have := HQ.out.2.2.2; rw [HS5.out] at this; omega
  clear hown6 hgrow6 hlies6 hlt6 c40 f40 hl4
  go_wp2_with fail
  have HS7 := hide (show (w6.setCell ⟨w.heap.size, 0, none⟩ (.slice (some ⟨g6, 0, none⟩) 2 cap6)).heap.size = w6.heap.size by simp)
  refine (first_step HS7.out HQ.out.1 (by rw [HS7.out]; omega) (by simp) (by simp)).mono ?_
  rintro r w8 ⟨rfl, es0, hx0, hx1, hx2, hx3⟩
  have HX := hide hx0
  have HXL := hide (And.intro hx1 hx2)
  have HXB := hide (HQ.out.2.1.trans hx3)
  clear hx0 hx1 hx2 hx3 c60 f60 hl6
  have HXM := hide hm
  go_wp2_with fail
  clear HH HP HV5 HO5 HS5 HQ HS7 HW1 HW2 HS1 hi31 hz310 hz311 hz312
  go_loopw [12, 13] (fun o i wr => o = .bool true ∧ ∃ k : Nat, k ≤ xs.length ∧ i = .int .i64 k ∧ ∃ es, Hid (Inv w.heap.size wr w.heap.size es) ∧ Hid (0 < es.length ∧ es.length ≤ k + 3) ∧ Hid (Below w.heap.size w wr)) (fun _ i _ => xs.length - (intOf i).toNat)
  case atStart => exact ⟨rfl, 0, Nat.zero_le _, rfl, es0, HX, HXL, HXB⟩
  case round =>
    obtain ⟨rfl, k, hk, rfl, es, HI, HL, HB⟩ := hrel
    by_cases hlt : k < xs.length
    · obtain ⟨x, hx⟩ : ∃ x, x = xs[k] := ⟨_, rfl⟩
      obtain ⟨b, off, hao⟩ := HAO.out (by intro h; rw [h] at hlt; simp at hlt)
      subst hao
      have hii := HXS.out b off rfl k hlt
      rw [← hx] at hii
      have Hx : Hid (x = xs[k]) := hx
      clear hx
      have hbw : b < w.heap.size := World.block_lt_of_cell? w _ hii.c0
      obtain ⟨kd, bk, A, B, S, l, cv⟩ := x
      have c0 := (HB.out.cell (p := ⟨b, off + k * 6, none⟩) hbw).trans hii.c0
      have c1 := (HB.out.cell (p := ⟨b, off + k * 6 + 1, none⟩) hbw).trans hii.c1
      have c2 := (HB.out.cell (p := ⟨b, off + k * 6 + 2, none⟩) hbw).trans hii.c2
      have c3 := (HB.out.cell (p := ⟨b, off + k * 6 + 3, none⟩) hbw).trans hii.c3
      have c4 := (HB.out.cell (p := ⟨b, off + k * 6 + 4, none⟩) hbw).trans hii.c4
      have c5 := (HB.out.cell (p := ⟨b, off + k * 6 + 5, none⟩) hbw).trans hii.c5
      have HC := hide hii.code
      have HBK := hide hii.hbk
      clear hii
      simp only at c0 c1 c2 c3 c4 c5
      obtain ⟨co, cc, hcv, _⟩ := HC.out.cv.form
      simp only at hcv
      subst hcv
      have HA : Hid (Below wr.heap.size wr (wr.alloc (.cells #[.int .i64 kd, .int .i64 bk, .int .i64 A, .int .i64 B, .string S, .slice co l.length cc] 76))) := (Below.refl _ _).alloc (Nat.le_refl _) _
      have HBS := hide HB.out.size
      have HI1 := hide (HI.out.below HA.out)
      have HB1 := hide (HB.out.trans (HA.out.mono HBS.out))
      have HM1 := hide (show (es.length + 1) * 8 ≤ 140737488355328 by have := HL.out.2; omega)
      by_cases h3 : kd ≤ 3
      · have h4 : (kd == 4) = false := by rw [beq_eq_false_iff_ne]; omega
        have h5 : (kd == 5) = false := by rw [beq_eq_false_iff_ne]; omega
        have h6 : kd < 6 := by omega
        have H3 := hide h3
        have HOC := hide (show OpCode (wr.alloc (.cells #[.int .i64 kd, .int .i64 bk, .int .i64 A, .int .i64 B, .string S, .slice co l.length cc] 76)) (.slice co l.length cc) l (fun b => ∀ i (hi : i < es.length), ¬ es[i].foot b) from ⟨HC.out.cv.below HB1.out, HC.out.wf, fun b' off' c' he hn i hi hf => by
          have h1 := HC.out.far b' off' c' he hn
          have h2 := HI.out.lo i hi b' hf
          omega⟩)
        clear h3
        go_wp2_with (first | (go_at_call 25; refine (step_any w.heap.size w.heap.size es kd bk A B S _ l _ HI1.out (Nat.le_trans HBS.out HA.out.size) HL.out.1 HM1.out HBK.out H3.out HOC.out).mono ?_; rintro r w' ⟨rfl, es', hI', hn', hm', hb'⟩; have HI2 := hide hI'; have HN2 := hide (And.intro hn' hm'); have HB2 := hide (HB1.out.trans hb'); clear hI' hn' hm' hb') | (go_at_call 26; refine (looks_any w.heap.size w.heap.size es' _ HI2.out).mono ?_; rintro r w'' ⟨rfl, hw''⟩; replace hw'' := hw''.symm; subst hw''))
        go_roundw
        case rel => exact ⟨rfl, k + 1, by omega, by go_num, es', HI2, hide ⟨HN2.out.1, by have := HN2.out.2; have := HL.out.2; omega⟩, HB2⟩
        case measure => simp [intOf]; omega
      · have HR := hide (show ∃ es', Hid (Inv w.heap.size (wr.alloc (.cells #[.int .i64 kd, .int .i64 bk, .int .i64 A, .int .i64 B, .string S, .slice co l.length cc] 76)) w.heap.size es') ∧ Hid (0 < es'.length ∧ es'.length ≤ k + 1 + 3) ∧ Hid (Below w.heap.size w (wr.alloc (.cells #[.int .i64 kd, .int .i64 bk, .int .i64 A, .int .i64 B, .string S, .slice co l.length cc] 76))) from ⟨es, HI1, hide ⟨HL.out.1, by have := HL.out.2; omega⟩, HB1⟩)
        obtain rfl | rfl | h6 : kd = 4 ∨ kd = 5 ∨ 6 ≤ kd := by omega
        · clear h3
          go_wp2
          go_roundw
          case rel => exact ⟨rfl, k + 1, by omega, by go_num, HR.out⟩
          case measure => simp [intOf]; omega
        · clear h3
          go_wp2
          go_roundw
          case rel => exact ⟨rfl, k + 1, by omega, by go_num, HR.out⟩
          case measure => simp [intOf]; omega
        · clear h3
          go_wp2
          go_roundw
          case rel => exact ⟨rfl, k + 1, by omega, by go_num, HR.out⟩
          case measure => simp [intOf]; omega
    · go_wp2
      go_ret
      exact ⟨rfl, HB.out⟩

end Go.Proofs.YtdbdljjhhehbiaaGreat
