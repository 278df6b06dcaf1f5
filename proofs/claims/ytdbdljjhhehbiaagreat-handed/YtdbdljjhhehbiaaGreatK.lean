import Derived.Test.YtdbdljjhhehbiaaGreatJ
import Derived.Deep.MidRow
namespace Go.Proofs.YtdbdljjhhehbiaaGreat
open Go.RowKit

/-- The cells of a program that was taken over. -/
def flatP (l : List I) : List Value := (l.map fun x => (pI x).toList).flatten
theorem flatP_snoc (l : List I) (x : I) : flatP (l ++ [x]) = flatP l ++ (pI x).toList := by simp [flatP]
theorem pI_length (x : I) : (pI x).toList.length = 8 := rfl
theorem flatP_length : ∀ (l : List I), (flatP l).length = 8 * l.length
  | [] => rfl
  | x :: l => by
    have := flatP_length l
    simp only [flatP, List.map_cons, List.flatten_cons, List.length_append, List.length_cons] at this ⊢
    rw [this, pI_length]; omega
theorem rangeAt_append {w : World} {b o : Nat} {xs ys : List Value} (h : w.rangeAt b o xs) (k : w.rangeAt b (o + xs.length) ys) : w.rangeAt b o (xs ++ ys) := by
  intro j v hv
  rcases Nat.lt_or_ge j xs.length with hl | hg
  · rw [List.getElem?_append_left hl] at hv; exact h j v hv
  · rw [List.getElem?_append_right hg] at hv
    have := k (j - xs.length) v hv
    rwa [show o + xs.length + (j - xs.length) = o + j by omega] at this
theorem rangeAt_below {w w1 : World} {b o : Nat} {xs : List Value} (h : w.rangeAt b o xs) (k : Below w.heap.size w w1) : w1.rangeAt b o xs := fun j v hv => bcell k (h j v hv)
theorem there_below {w w1 : World} {b o n : Nat} (h : w.there b o n) (k : Below w.heap.size w w1) : w1.there b o n := by
  intro j hj
  obtain ⟨h1, h2⟩ := h j hj
  obtain ⟨v, hv⟩ := Option.isSome_iff_exists.1 h1
  have hb := World.block_lt_of_cell? w _ hv
  exact ⟨by rw [bcell k hv]; rfl, by rw [k.frozen hb]; exact h2⟩
theorem below_setCells {B : Nat} {a : World} : ∀ (vs : List Value) (w : World) (b o : Nat), Below B a w → B ≤ b → Below B a (w.setCells b o vs)
  | [], _w, _b, _o, h, _ => h
  | v :: vs, _w, b, o, h, hb => below_setCells vs _ b (o + 1) (h.setCell (p := ⟨b, o, none⟩) hb v) hb

theorem own_there {w : World} {e size g n cap : Nat} {xs : List Value} (h : w.ownsRow 0 e size (.slice (some ⟨g, 0, none⟩) n cap) n xs) : w.there g 0 (n * size) := by
  rcases h.2 with ⟨h0, _⟩ | ⟨g', cap', cur, hv, _, hg, hn, _, hs, _⟩
  · cases h0
  · cases hv
    intro j hj
    have hjc : j < cur.size := by rw [hs]; exact Nat.lt_of_lt_of_le hj (Nat.mul_le_mul_right _ hn)
    rw [Nat.zero_add, cell_of_row w g j cur e (0, 0) hg]
    refine ⟨by simp [hjc], ?_⟩
    simp [World.frozen?, hg]
theorem pI_one (x : I) : (pI x).all (·.oneCell') = true := all_oneCell_toArray (cs := (pI x).toList) (by
  intro v hv
  simp only [pI, List.mem_cons, List.not_mem_nil, or_false] at hv
  rcases hv with rfl | rfl | rfl | rfl | rfl | rfl | rfl | rfl <;> rfl)
theorem Tryz.info121 : (Tryz.prog.info? 152).map (fun i => (i.zero, i.size, i.bytes)) = some (some (.agg #[.int .u8 0, .int .u8 0, .int .u8 0, .int .i64 0, .int .u8 0, .int .u8 0, .int .u8 0, .int .u8 0]), 8, 24) := by kernel_rfl

set_option maxRecDepth 100000 in
set_option maxHeartbeats 1000000 in
theorem POf_any (b off cap : Nat) (l : List I) (w : World) (hwf : ∀ x ∈ l, x.wf) (hc : ∀ j (h : j < l.length), insAt w b (off + j * 5) l[j]) (hlen : l.length ≤ 20) (hlen1 : 1 ≤ l.length) (hbw : b < w.heap.size) :
    Calls Tryz.prog 35 #[.slice (some ⟨b, off, none⟩) l.length cap] w fun e w' => (isProg l = false ∧ e = .returned (.tuple #[.slice none 0 0, .bool false]) ∨ isProg l = true ∧ ∃ G, e = .returned (.tuple #[.slice (some ⟨G, 0, none⟩) l.length l.length, .bool true]) ∧ w.heap.size ≤ G ∧ G < w'.heap.size ∧ w'.rangeAt G 0 (flatP l)) ∧ Below w.heap.size w w' := by
  have hin : inB 1 (l.length : Int) 20 = true := by simp only [inB, decide_eq_true_eq]; omega
  obtain ⟨i0, hi, hz0, hz1, hz2⟩ := info_parts Tryz.info121
  go_enter Tryz.func35, Tryz.ntmps35
  go_wp2_with (first | (go_at_call 72; refine (within_any _ _ _ _).mono ?_; rintro e w0 ⟨rfl, hw0⟩; replace hw0 := hw0.symm; subst hw0) | (at_make; refine wpList_make_full _ rfl _ _ 94 rfl 0 152 i0 _ 8 Tryz.underlying94 hi hz0 hz1 .i64 .i64 _ _ l.length rfl rfl rfl rfl (by rw [hz2]; omega) (by unfold maxLen; omega) (Nat.zero_le _) ?_))
  intro w1 hown hgr
  have hth := own_there hown
  have hG : w.heap.size < w1.heap.size := (hown.lt _ rfl).2
  have hbl : Below w.heap.size w w1 := ⟨hgr.os, hgr.tape, hgr.output, hgr.size, fun k hk => hgr.block k hk (by simp)⟩
  clear hown hgr hz0 hz1 hz2 hi i0
  obtain ⟨G, hGe⟩ : ∃ G, w.heap.size = G := ⟨_, rfl⟩
  rw [hGe] at hth hG ⊢
  have HG : Hid (w.heap.size = G) := hGe
  rw [hGe] at hbl
  clear hGe
  go_wp2
  go_loopw [18] (fun i wr => ∃ k : Nat, k ≤ l.length ∧ i = .int .i64 k ∧ Hid ((l.take k).all (insOk l.length) = true) ∧ Below G w wr ∧ wr.rangeAt G 0 (flatP (l.take k)) ∧ wr.there G 0 (l.length * 8) ∧ G < wr.heap.size) (fun i _ => l.length - (intOf i).toNat)
  case atStart => exact ⟨0, Nat.zero_le _, rfl, rfl, hbl, (fun j v hv => by simp [flatP] at hv), hth, hG⟩
  case round =>
    obtain ⟨k, hk, rfl, hall, hb, hra, hthr, hGr⟩ := hrel
    clear hth hG hbl
    by_cases hlt : k < l.length
    · obtain ⟨x, hx⟩ : ∃ x, x = l[k] := ⟨_, rfl⟩
      have hii := hc k hlt
      rw [← hx] at hii
      have Hx : Hid (x = l[k]) := hx
      clear hx
      have hbG : b < G := by have := HG.out; omega
      have c0 := (hb.cell (p := ⟨b, off + k * 5, none⟩) hbG).trans hii.c0
      have c1 := (hb.cell (p := ⟨b, off + k * 5 + 1, none⟩) hbG).trans hii.c1
      have c2 := (hb.cell (p := ⟨b, off + k * 5 + 2, none⟩) hbG).trans hii.c2
      have c3 := (hb.cell (p := ⟨b, off + k * 5 + 3, none⟩) hbG).trans hii.c3
      have c4 := (hb.cell (p := ⟨b, off + k * 5 + 4, none⟩) hbG).trans hii.c4
      clear hii hc
      have hxw : x.wf := by rw [Hx.out]; exact hwf _ (List.getElem_mem _)
      have hbA : Below G w (wr.alloc (.cells #[.int .i64 x.op, .int .i64 x.r, .int .i64 x.s, .int .i64 x.n, .string x.key] 47)) := hb.alloc (by omega) _
      have hA : Below wr.heap.size wr (wr.alloc (.cells #[.int .i64 x.op, .int .i64 x.r, .int .i64 x.s, .int .i64 x.n, .string x.key] 47)) := (Below.refl _ _).alloc (Nat.le_refl _) _
      go_wp2_with fail
      refine (instruction_any x l.length _ hxw hlen).mono ?_
      rintro e w2 ⟨⟨cs, rfl, hcs, o, r, s, n, k0, k1, k2, k3, hcse⟩, hb2⟩
      have hb3 : Below wr.heap.size wr w2 := bl2 hA hb2
      have hb4 : Below G w w2 := hb.trans (hb3.mono (by omega))
      have hra2 := rangeAt_below hra hb3
      have hth2 := there_below hthr hb3
      have hG2 : G < w2.heap.size := by have := hb3.size; omega
      clear hbA hA hb2 hb3 hb hra hthr hGr c0 c1 c2 c3 c4 hxw
      cases hok : insOk l.length x
      · subst hcse
        have Hno : Hid (isProg l = false) := isProg_bad l k hlt (by rw [← Hx.out]; exact hok)
        clear hcs
        go_wp2
        go_ret2
        exact ⟨Or.inl ⟨Hno.out, rfl⟩, by rw [HG.out]; exact hb4.alloc (by omega) _⟩
      · have hcs2 := hcs hok
        clear hcs hcse
        subst hcs2
        unfold pI
        have Hmore : Hid ((l.take (k + 1)).all (insOk l.length) = true) := isProg_more l k hlt (by rw [← Hx.out]; exact hok) hall.out
        have hth3 : (w2.alloc (.cells #[.int .u8 x.op, .int .u8 x.r, .int .u8 x.s, .int .i64 (pN x), .int .u8 (kN (pK x) 0), .int .u8 (kN (pK x) 1), .int .u8 (kN (pK x) 2), .int .u8 (kN (pK x) 3)] 152)).there G (k * 8) (pI x).size := by
          intro j hj'
          have hj : j < 8 := hj'
          have := World.there_alloc hth2 (.cells #[.int .u8 x.op, .int .u8 x.r, .int .u8 x.s, .int .i64 (pN x), .int .u8 (kN (pK x) 0), .int .u8 (kN (pK x) 1), .int .u8 (kN (pK x) 2), .int .u8 (kN (pK x) 3)] 152) (k * 8 + j) (by omega)
          rwa [Nat.zero_add] at this
        have hsz : (Tryz.prog.info? 152).map (·.size) = some 8 := by kernel_rfl
        have hra3 : ((w2.alloc (.cells #[.int .u8 x.op, .int .u8 x.r, .int .u8 x.s, .int .i64 (pN x), .int .u8 (kN (pK x) 0), .int .u8 (kN (pK x) 1), .int .u8 (kN (pK x) 2), .int .u8 (kN (pK x) 3)] 152)).setCells G (k * 8) (pI x).toList).rangeAt G 0 (flatP (l.take (k + 1))) := by
          rw [List.take_succ_eq_append_getElem hlt, flatP_snoc, ← Hx.out]
          have hl8 : (flatP (l.take k)).length = k * 8 := by rw [flatP_length, List.length_take]; omega
          refine rangeAt_append (World.rangeAt_setCells_apart (World.rangeAt_alloc hra2 _) _ _ _ (Or.inr (Or.inl (by omega)))) ?_
          rw [hl8, Nat.zero_add]
          exact World.rangeAt_setCells_same _ _ _ _ hth3
        have hth5 : ((w2.alloc (.cells #[.int .u8 x.op, .int .u8 x.r, .int .u8 x.s, .int .i64 (pN x), .int .u8 (kN (pK x) 0), .int .u8 (kN (pK x) 1), .int .u8 (kN (pK x) 2), .int .u8 (kN (pK x) 3)] 152)).setCells G (k * 8) (pI x).toList).there G 0 (l.length * 8) := World.there_setCells (World.there_alloc hth2 _) _ _ _
        have hb5 : Below G w ((w2.alloc (.cells #[.int .u8 x.op, .int .u8 x.r, .int .u8 x.s, .int .i64 (pN x), .int .u8 (kN (pK x) 0), .int .u8 (kN (pK x) 1), .int .u8 (kN (pK x) 2), .int .u8 (kN (pK x) 3)] 152)).setCells G (k * 8) (pI x).toList) := below_setCells _ _ _ _ (hb4.alloc (by omega) _) (Nat.le_refl _)
        have hG5 : G < ((w2.alloc (.cells #[.int .u8 x.op, .int .u8 x.r, .int .u8 x.s, .int .i64 (pN x), .int .u8 (kN (pK x) 0), .int .u8 (kN (pK x) 1), .int .u8 (kN (pK x) 2), .int .u8 (kN (pK x) 3)] 152)).setCells G (k * 8) (pI x).toList).heap.size := by
          have h1 : Below 0 (w2.alloc (.cells #[.int .u8 x.op, .int .u8 x.r, .int .u8 x.s, .int .i64 (pN x), .int .u8 (kN (pK x) 0), .int .u8 (kN (pK x) 1), .int .u8 (kN (pK x) 2), .int .u8 (kN (pK x) 3)] 152)) ((w2.alloc (.cells #[.int .u8 x.op, .int .u8 x.r, .int .u8 x.s, .int .i64 (pN x), .int .u8 (kN (pK x) 0), .int .u8 (kN (pK x) 1), .int .u8 (kN (pK x) 2), .int .u8 (kN (pK x) 3)] 152)).setCells G (k * 8) (pI x).toList) := below_setCells _ _ _ _ (Below.refl _ _) (Nat.zero_le _)
          have h2 := h1.size
          have h3 : w2.heap.size ≤ (w2.alloc (.cells #[.int .u8 x.op, .int .u8 x.r, .int .u8 x.s, .int .i64 (pN x), .int .u8 (kN (pK x) 0), .int .u8 (kN (pK x) 1), .int .u8 (kN (pK x) 2), .int .u8 (kN (pK x) 3)] 152)).heap.size := by simp
          omega
        go_wp2_with (refine wpList_store_mid rfl 152 (.tmp 35) (.tmp 34) rfl G (k * 8) (pI x) rfl rfl ?hth hsz (pI_one x) ?_)
        case hth => exact hth3
        generalize (w2.alloc _).setCells G (k * 8) (pI x).toList = w3 at hra3 hth5 hb5 hG5 ⊢
        clear hth3 hth2 hra2 hb4 hG2
        go_roundw
        case rel => exact ⟨k + 1, by omega, by go_num, Hmore, hb5, hra3, hth5, hG5⟩
        case measure => simp [intOf]; omega
    · go_wp2
      go_ret2
      have hk2 : k = l.length := by omega
      subst hk2
      rw [List.take_length] at hra
      exact ⟨Or.inr ⟨isProg_end l hlen1 hlen hall.out, G, rfl, by rw [HG.out]; exact Nat.le_refl _, hGr, hra⟩, by rw [HG.out]; exact hb⟩

set_option maxRecDepth 100000 in
set_option maxHeartbeats 400000 in
theorem POf_len (ao : Option Addr) (n cap : Nat) (w : World) (hn : n ≤ maxLen) (h : n = 0 ∨ 20 < n) :
    Calls Tryz.prog 35 #[.slice ao n cap] w fun e w' => e = .returned (.tuple #[.slice none 0 0, .bool false]) ∧ w' = w := by
  unfold maxLen at hn
  have hin : inB 1 (n : Int) 20 = false := by simp only [inB, decide_eq_false_iff_not]; omega
  go_enter Tryz.func35, Tryz.ntmps35
  go_wp2_with (first | (go_at_call 72; refine (within_any _ _ _ _).mono ?_; rintro e w0 ⟨rfl, hw0⟩; replace hw0 := hw0.symm; subst hw0))
  go_ret2
  exact ⟨rfl, rfl⟩

end Go.Proofs.YtdbdljjhhehbiaaGreat
