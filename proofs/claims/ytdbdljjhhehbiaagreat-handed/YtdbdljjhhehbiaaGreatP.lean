import Derived.Test.YtdbdljjhhehbiaaGreatO
namespace Go.Proofs.YtdbdljjhhehbiaaGreat
open Go.RowKit

/-- A book of the document. -/
structure Rf (w : World) (R n : Nat) (log : List UInt8) (cv dv tv : Value) : Prop where
  blk : ∃ (sz bat : Int) (pv : Value), w.heap[R]? = some (.cells #[.int .i64 sz, cv, dv, tv, .int .i64 bat, .string (bs log), pv] 161 (0, 0))
  oc : ∃ xs, w.ownsRow 0 48 1 cv n xs
  od : ∃ xs, w.ownsRow 0 34 4 dv n xs
  ot : ∃ xs, w.ownsRow 0 3 1 tv n xs
theorem Rf.keeps {S : Nat → Prop} {w w1 : World} {R n : Nat} {log : List UInt8} {cv dv tv : Value} (h : Rf w R n log cv dv tv) (k : Keeps S w w1) (hR : ¬ S R) (h1 : ∀ i, S i → some i ≠ cv.ownBlock) (h2 : ∀ i, S i → some i ≠ dv.ownBlock) (h3 : ∀ i, S i → some i ≠ tv.ownBlock) : Rf w1 R n log cv dv tv := by
  obtain ⟨sz, bat, pv, hb⟩ := h.blk
  obtain ⟨xs, hx⟩ := h.oc
  obtain ⟨ys, hy⟩ := h.od
  obtain ⟨zs, hz⟩ := h.ot
  exact ⟨⟨sz, bat, pv, blk_keeps hb k hR⟩, ⟨xs, own_keeps hx k h1⟩, ⟨ys, own_keeps hy k h2⟩, ⟨zs, own_keeps hz k h3⟩⟩

theorem Program_yes (b off cap : Nat) (l : List I) (w : World) (hc : CodeAt w b off l) (hp : isProg l = true) :
    Calls Tryz.prog 145 #[.slice (some ⟨b, off, none⟩) l.length cap] w fun e w' => e = .returned (.bool true) ∧ Below w.heap.size w w' := by
  have hl := isProg_len hp
  have h := Program_any b off cap l w hc.wf hc.at' hl.2.1 hl.1 hc.lt
  rwa [hp] at h

set_option maxRecDepth 100000 in
set_option maxHeartbeats 400000 in
theorem RSubmit_no (R : Nat) (cv : Value) (w : World) (hno : ∀ w, Calls Tryz.prog 145 #[cv] w fun e w' => e = .returned (.bool false) ∧ Below w.heap.size w w') :
    Calls Tryz.prog 114 #[.pointer (some ⟨R, 0, none⟩), cv] w fun e w' => e = .returned (.tuple #[.int .i64 0, .int .i64 2]) ∧ Below w.heap.size w w' := by
  have HN : Hid _ := hno
  clear hno
  go_enter Tryz.func114, Tryz.ntmps114
  go_wp2_with (first | (go_at_call 145; refine (HN.out _).mono ?_; rintro e w' ⟨rfl, hb⟩))
  go_ret2
  exact ⟨rfl, hb⟩

set_option maxRecDepth 100000 in
set_option maxHeartbeats 400000 in
theorem RSubmit_full (R b off cap : Nat) (l : List I) (log : List UInt8) (cv dv tv : Value) (w : World) (hc : CodeAt w b off l) (hp : isProg l = true) (hR : Rf w R 60 log cv dv tv) :
    Calls Tryz.prog 114 #[.pointer (some ⟨R, 0, none⟩), .slice (some ⟨b, off, none⟩) l.length cap] w fun e w' => e = .returned (.tuple #[.int .i64 0, .int .i64 3]) ∧ Below w.heap.size w w' := by
  obtain ⟨sz, bat, pv, hblk⟩ := hR.blk
  obtain ⟨xs, hx⟩ := hR.oc
  obtain ⟨ca, cc, rfl⟩ := own_len hx
  have HB : Hid _ := hblk
  clear hblk hR hx
  go_enter Tryz.func114, Tryz.ntmps114
  go_wp2_with (first | (go_at_call 145; refine (Program_yes b off cap l _ hc hp).mono ?_; rintro e w1 ⟨rfl, hb1⟩; have c1 : w1.cell? ⟨R, 1, none⟩ = some (.slice ca 60 cc) := bcell hb1 (blk_cell (i := 1) HB.out rfl)))
  go_ret2
  exact ⟨rfl, hb1⟩

theorem Tryz.info36 : (Tryz.prog.info? 47).map (fun i => (i.zero, i.size, i.bytes)) = some (some (.agg #[.int .i64 0, .int .i64 0, .int .i64 0, .int .i64 0, .string ByteArray.empty]), 5, 48) := by kernel_rfl
theorem Tryz.info37 : (Tryz.prog.info? 48).map (fun i => (i.zero, i.size, i.bytes)) = some (some (.slice none 0 0), 1, 24) := by kernel_rfl
theorem Tryz.info3 : (Tryz.prog.info? 3).map (fun i => (i.zero, i.size, i.bytes)) = some (some (.int .i64 0), 1, 8) := by kernel_rfl

def I.cells (x : I) : List Value := [.int .i64 x.op, .int .i64 x.r, .int .i64 x.s, .int .i64 x.n, .string x.key]
def flatI (l : List I) : List Value := (l.map I.cells).flatten
theorem flatI_length : ∀ (l : List I), (flatI l).length = l.length * 5
  | [] => rfl
  | x :: l => by
    have := flatI_length l
    simp only [flatI, List.map_cons, List.flatten_cons, List.length_append, List.length_cons] at this ⊢
    rw [this]; simp only [I.cells, List.length_cons, List.length_nil]; omega
theorem flatI_one (l : List I) : ∀ u ∈ flatI l, u.oneCell' = true := by
  intro u hu
  simp only [flatI, List.mem_flatten, List.mem_map] at hu
  obtain ⟨_, ⟨x, _, rfl⟩, hu⟩ := hu
  simp only [I.cells, List.mem_cons, List.not_mem_nil, or_false] at hu
  rcases hu with rfl | rfl | rfl | rfl | rfl <;> rfl
theorem flatI_get (l : List I) (j i : Nat) (hj : j < l.length) (hi : i < 5) : (flatI l)[j * 5 + i]? = (I.cells l[j])[i]? := by
  have hs : l = l.take j ++ l[j] :: l.drop (j + 1) := by rw [List.getElem_cons_drop]; simp
  have hl5 : (flatI (l.take j)).length = j * 5 := by rw [flatI_length, List.length_take]; omega
  have hf : flatI l = flatI (l.take j) ++ (I.cells l[j] ++ flatI (l.drop (j + 1))) := by
    conv => lhs; rw [hs]
    simp only [flatI, List.map_append, List.map_cons, List.flatten_append, List.flatten_cons]
  rw [hf, List.getElem?_append_right (by omega), hl5, Nat.add_sub_cancel_left, List.getElem?_append_left (by simp only [I.cells, List.length_cons, List.length_nil]; exact hi)]
theorem CodeAt.row {w : World} {b off : Nat} {l : List I} (h : CodeAt w b off l) : w.rangeAt b off (flatI l) := by
  intro j v hv
  have hj : j < l.length * 5 := by
    rcases Nat.lt_or_ge j (l.length * 5) with h1 | h1
    · exact h1
    · rw [List.getElem?_eq_none (by rw [flatI_length]; exact h1)] at hv; cases hv
  have e : j = j / 5 * 5 + j % 5 := by omega
  have h5 : j % 5 < 5 := Nat.mod_lt _ (by omega)
  have hq : j / 5 < l.length := by omega
  rw [e, flatI_get l (j / 5) (j % 5) hq h5] at hv
  have hat := h.at' (j / 5) hq
  rw [e, ← Nat.add_assoc]
  generalize j % 5 = r at *
  have hr : r = 0 ∨ r = 1 ∨ r = 2 ∨ r = 3 ∨ r = 4 := by omega
  rcases hr with rfl | rfl | rfl | rfl | rfl <;> (simp [I.cells] at hv; subst hv)
  · exact hat.c0
  · exact hat.c1
  · exact hat.c2
  · exact hat.c3
  · exact hat.c4
theorem CodeAt.of_row {w : World} {b off : Nat} {l : List I} (hlt : b < w.heap.size) (hwf : ∀ x ∈ l, x.wf) (h : w.rangeAt b off (flatI l)) : CodeAt w b off l := by
  refine ⟨hlt, hwf, fun j hj => ?_⟩
  have key : ∀ i (hi : i < 5) v, (I.cells l[j])[i]? = some v → w.cell? ⟨b, off + j * 5 + i, none⟩ = some v := by
    intro i hi v hv
    have := h (j * 5 + i) v (by rw [flatI_get l j i hj hi]; exact hv)
    rwa [← Nat.add_assoc] at this
  exact ⟨key 0 (by omega) _ rfl, key 1 (by omega) _ rfl, key 2 (by omega) _ rfl, key 3 (by omega) _ rfl, key 4 (by omega) _ rfl⟩

end Go.Proofs.YtdbdljjhhehbiaaGreat
