import Derived.Test.YtdbdljjhhehbiaaGreatY
import Derived.Deep.Slices
import Derived.SizedLaws
namespace Go.Proofs.YtdbdljjhhehbiaaGreat
open Go.ChangeShapes Go.WideShapes Go.RowKit

theorem Tryz.cellsInt : Tryz.prog.cellsOf 3 = 1 := by kernel_rfl
theorem Tryz.cellsString : Tryz.prog.cellsOf 9 = 1 := by kernel_rfl
theorem Tryz.cellsIns : Tryz.prog.cellsOf 47 = 5 := by kernel_rfl
theorem Tryz.cellsCode : Tryz.prog.cellsOf 48 = 1 := by kernel_rfl
theorem Tryz.cellsOp : Tryz.prog.cellsOf 76 = 6 := by kernel_rfl
theorem Tryz.bytesIns : Tryz.prog.bytesOf 47 = 48 := by kernel_rfl
theorem Tryz.bytesOp : Tryz.prog.bytesOf 76 = 72 := by kernel_rfl

/-- From 'for every i below n there is one' to a list of them. -/
theorem list_of {α : Type} {p : Nat → α → Prop} : ∀ n, (∀ i, i < n → ∃ x, p i x) → ∃ l : List α, l.length = n ∧ ∀ i (h : i < l.length), p i l[i]
  | 0, _ => ⟨[], rfl, fun i h => by simp at h⟩
  | n + 1, h => by
    obtain ⟨l, hl, hp⟩ := list_of n (fun i hi => h i (by omega))
    obtain ⟨x, hx⟩ := h n (by omega)
    refine ⟨l ++ [x], by simp [hl], fun i hi => ?_⟩
    by_cases hlt : i < l.length
    · rw [List.getElem_append_left hlt]; exact hp i hlt
    · have : i = l.length := by simp at hi; omega
      subst this
      simp only [List.getElem_append_right (Nat.le_refl _), Nat.sub_self, List.getElem_cons_zero]
      rw [hl]; exact hx
theorem weights_all {H : Type} {P : Program} {e : TypeId} : ∀ {ds : List (DataW H)} {d : DataW H}, d ∈ ds → ∀ n ∈ d.weights P e, n ∈ DataW.weightsAll P e ds
  | d0 :: ds, d, hd, n, hn => by
    simp only [DataW.weightsAll, List.mem_append]
    rcases List.mem_cons.1 hd with rfl | hd
    · exact Or.inl hn
    · exact Or.inr (weights_all hd n hn)

section
variable {H : Type} {enc : TypeId × Value → H} {w : World} {held : Bool}

theorem int_of_trod {n : Nat} {c : Value} {y : DataW H × List MemPlace} (h : DataW.trod enc Tryz.prog w 0 (fun _ => true) held n 3 [c] = some y) : ∃ z : Int, c = .int .i64 z ∧ -9223372036854775808 ≤ z ∧ z ≤ 9223372036854775807 := by
  obtain ⟨z, hz, _, hw⟩ := DataW.trod_int Tryz.underlying3 h
  simp only [List.cons.injEq, and_true] at hz
  simp [Lit.wf, IntKind.min, IntKind.max, IntKind.signed, IntKind.bits] at hw
  exact ⟨z, hz, by omega, by omega⟩
theorem str_of_trod {n : Nat} {c : Value} {y : DataW H × List MemPlace} (h : DataW.trod enc Tryz.prog w 0 (fun _ => true) held n 9 [c] = some y) : ∃ s : ByteArray, c = .string s ∧ s.size ≤ maxLen := by
  obtain ⟨s, hs, _, hw⟩ := DataW.trod_string Tryz.underlying9 h
  simp only [List.cons.injEq, and_true] at hs
  exact ⟨s, hs, hw⟩

set_option maxRecDepth 100000 in
/-- An instruction, read. -/
theorem ins_of_trod {n : Nat} {cs : List Value} {y : DataW H × List MemPlace} (h : DataW.trod enc Tryz.prog w 0 (fun _ => true) held n 47 cs = some y) :
    ∃ x : I, cs = [.int .i64 x.op, .int .i64 x.r, .int .i64 x.s, .int .i64 x.n, .string x.key] ∧ x.wf := by
  obtain ⟨xs, m, _, _, hl, hlen, hf⟩ := DataW.trod_struct Tryz.underlying47 h
  rw [Tryz.cellsIns] at hl
  replace hlen : xs.length = 5 := hlen
  match cs, hl with
  | [c0, c1, c2, c3, c4], _ =>
    match xs, hlen with
    | [y0, y1, y2, y3, y4], _ =>
      have f0 : DataW.trod enc Tryz.prog w 0 (fun _ => true) held m 3 ((([c0, c1, c2, c3, c4] : List Value).drop 0).take (Tryz.prog.cellsOf 3)) = some y0 := hf 0 _ rfl
      rw [Tryz.cellsInt] at f0
      have f1 : DataW.trod enc Tryz.prog w 0 (fun _ => true) held m 3 ((([c0, c1, c2, c3, c4] : List Value).drop 1).take (Tryz.prog.cellsOf 3)) = some y1 := hf 1 _ rfl
      rw [Tryz.cellsInt] at f1
      have f2 : DataW.trod enc Tryz.prog w 0 (fun _ => true) held m 3 ((([c0, c1, c2, c3, c4] : List Value).drop 2).take (Tryz.prog.cellsOf 3)) = some y2 := hf 2 _ rfl
      rw [Tryz.cellsInt] at f2
      have f3 : DataW.trod enc Tryz.prog w 0 (fun _ => true) held m 3 ((([c0, c1, c2, c3, c4] : List Value).drop 3).take (Tryz.prog.cellsOf 3)) = some y3 := hf 3 _ rfl
      rw [Tryz.cellsInt] at f3
      have f4 : DataW.trod enc Tryz.prog w 0 (fun _ => true) held m 9 ((([c0, c1, c2, c3, c4] : List Value).drop 4).take (Tryz.prog.cellsOf 9)) = some y4 := hf 4 _ rfl
      rw [Tryz.cellsString] at f4
      obtain ⟨z0, rfl, a0⟩ := int_of_trod f0
      obtain ⟨z1, rfl, a1⟩ := int_of_trod f1
      obtain ⟨z2, rfl, a2⟩ := int_of_trod f2
      obtain ⟨z3, rfl, a3⟩ := int_of_trod f3
      obtain ⟨z4, rfl, a4⟩ := str_of_trod f4
      exact ⟨⟨z0, z1, z2, z3, z4⟩, rfl, a0, a1, a2, a3, a4⟩

theorem plain_of_cells {a : Addr} {k : Nat} {cs : List Value} (hk : 0 < k) (h : w.cells? 0 a k = some cs) : ∃ b off, a = ⟨b, off, none⟩ ∧ b < w.heap.size ∧ ∀ i, i < k → w.cell? ⟨b, off + i, none⟩ = cs[i]? := by
  obtain ⟨_, hl, hc⟩ := World.cells?_some h
  obtain ⟨b, off, spot⟩ := a
  have h0 := hc 0 hk
  rw [List.getElem?_eq_getElem (by omega)] at h0
  have hspot : spot = none := by simpa [Addr.add] using World.cell?_spot h0
  subst hspot
  refine ⟨b, off, rfl, ?_, fun i hi => by rw [← add_plain]; exact hc i hi⟩
  rw [add_plain] at h0
  exact World.block_lt_of_cell? w _ h0

theorem add0 {a : Addr} {i k : Nat} {cs : List Value} (h : w.cells? 0 (a.add (0 * i)) k = some cs) : w.cells? 0 a k = some cs := by
  rwa [Nat.zero_mul, show a.add 0 = a from rfl] at h
/-- A list of instructions, read. -/
theorem code_of_trod {n : Nat} {c : Value} {y : DataW H × List MemPlace} (h : DataW.trod enc Tryz.prog w 0 (fun _ => true) held n 48 [c] = some y) (hw : ∀ k ∈ y.1.weights Tryz.prog 48, k ≤ reachBytes) :
    ∃ l : List I, OpCode w c l (fun b => b < w.heap.size) := by
  rcases Go.Deep.open_slice Tryz.underlying48 h with ⟨hc, _⟩ | ⟨a, len, cap, m, n', D, Pl, hc, _, hle, hcap, hm, hy, hx⟩
  · simp only [List.cons.injEq, and_true] at hc
    subst hc
    exact ⟨[], ⟨⟨none, 0, rfl, fun h => absurd rfl h⟩, by decide⟩, fun x hx => by simp at hx, fun b off c _ h => absurd rfl h⟩
  · simp only [List.cons.injEq, and_true] at hc
    subst hc
    simp only [if_true] at hm
    subst hm
    have hreach : len * 48 ≤ 140737488351232 := by
      have := hw ((((List.range len).map D).length + ((List.range (m - len)).map fun j => D (len + j)).length) * Tryz.prog.bytesOf 47) (by rw [hy]; simp only [DataW.weights, Tryz.underlying48]; exact List.mem_cons_self)
      rw [Tryz.bytesIns] at this
      simp only [List.length_map, List.length_range, reachBytes] at this
      omega
    rw [Tryz.cellsIns] at hx
    obtain ⟨l, hl, hp⟩ := list_of (p := fun i (x : I) => w.cells? 0 (a.add (i * 5)) 5 = some [.int .i64 x.op, .int .i64 x.r, .int .i64 x.s, .int .i64 x.n, .string x.key] ∧ x.wf) len (fun i hi => by
      obtain ⟨cs', h1, h2⟩ := hx i (by omega)
      obtain ⟨x, rfl, hxw⟩ := ins_of_trod h2
      exact ⟨x, h1, hxw⟩)
    have hwf : ∀ x ∈ l, x.wf := by
      intro x hx
      obtain ⟨i, hi, rfl⟩ := List.getElem_of_mem hx
      exact (hp i hi).2
    subst hl
    refine ⟨l, ⟨⟨some a, m, rfl, fun hne => ?_⟩, hreach⟩, hwf, fun b off c he hne => ?_⟩
    · have h0 : 0 < l.length := List.length_pos_iff.2 hne
      obtain ⟨b, off, rfl, hb, _⟩ := plain_of_cells (by decide) (add0 (hp 0 h0).1)
      refine ⟨b, off, rfl, hb, hwf, fun j hj => ?_⟩
      obtain ⟨b', off', hab, _, hcl⟩ := plain_of_cells (by decide) (hp j hj).1
      rw [add_plain] at hab
      simp only [Addr.mk.injEq, and_true] at hab
      obtain ⟨rfl, rfl⟩ := hab
      exact ⟨hcl 0 (by omega), hcl 1 (by omega), hcl 2 (by omega), hcl 3 (by omega), hcl 4 (by omega)⟩
    · have h0 : 0 < l.length := List.length_pos_iff.2 hne
      obtain ⟨b', off', hab, hb, _⟩ := plain_of_cells (by decide) (add0 (hp 0 h0).1)
      simp only [Value.slice.injEq, Option.some.injEq] at he
      rw [hab] at he
      simp only [Addr.mk.injEq] at he
      omega

set_option maxRecDepth 100000 in
/-- A step of a script, read. -/
theorem scr_of_trod {n : Nat} {cs : List Value} {y : DataW H × List MemPlace} (h : DataW.trod enc Tryz.prog w 0 (fun _ => true) held n 76 cs = some y) (hw : ∀ k ∈ y.1.weights Tryz.prog 76, k ≤ reachBytes) :
    ∃ x : Scr, cs = [.int .i64 x.kd, .int .i64 x.bk, .int .i64 x.A, .int .i64 x.B, .string x.S, x.cv] ∧ OpCode w x.cv x.l (fun b => b < w.heap.size) ∧ (-9223372036854775808 ≤ x.bk ∧ x.bk ≤ 9223372036854775807) := by
  obtain ⟨xs, m, _, hy, hl, hlen, hf⟩ := DataW.trod_struct Tryz.underlying76 h
  rw [Tryz.cellsOp] at hl
  replace hlen : xs.length = 6 := hlen
  match cs, hl with
  | [c0, c1, c2, c3, c4, c5], _ =>
    match xs, hlen with
    | [y0, y1, y2, y3, y4, y5], _ =>
      have f0 : DataW.trod enc Tryz.prog w 0 (fun _ => true) held m 3 ((([c0, c1, c2, c3, c4, c5] : List Value).drop 0).take (Tryz.prog.cellsOf 3)) = some y0 := hf 0 _ rfl
      rw [Tryz.cellsInt] at f0
      have f1 : DataW.trod enc Tryz.prog w 0 (fun _ => true) held m 3 ((([c0, c1, c2, c3, c4, c5] : List Value).drop 1).take (Tryz.prog.cellsOf 3)) = some y1 := hf 1 _ rfl
      rw [Tryz.cellsInt] at f1
      have f2 : DataW.trod enc Tryz.prog w 0 (fun _ => true) held m 3 ((([c0, c1, c2, c3, c4, c5] : List Value).drop 2).take (Tryz.prog.cellsOf 3)) = some y2 := hf 2 _ rfl
      rw [Tryz.cellsInt] at f2
      have f3 : DataW.trod enc Tryz.prog w 0 (fun _ => true) held m 3 ((([c0, c1, c2, c3, c4, c5] : List Value).drop 3).take (Tryz.prog.cellsOf 3)) = some y3 := hf 3 _ rfl
      rw [Tryz.cellsInt] at f3
      have f4 : DataW.trod enc Tryz.prog w 0 (fun _ => true) held m 9 ((([c0, c1, c2, c3, c4, c5] : List Value).drop 4).take (Tryz.prog.cellsOf 9)) = some y4 := hf 4 _ rfl
      rw [Tryz.cellsString] at f4
      have f5 : DataW.trod enc Tryz.prog w 0 (fun _ => true) held m 48 ((([c0, c1, c2, c3, c4, c5] : List Value).drop 5).take (Tryz.prog.cellsOf 48)) = some y5 := hf 5 _ rfl
      rw [Tryz.cellsCode] at f5
      obtain ⟨z0, rfl, a0⟩ := int_of_trod f0
      obtain ⟨z1, rfl, a1⟩ := int_of_trod f1
      obtain ⟨z2, rfl, a2⟩ := int_of_trod f2
      obtain ⟨z3, rfl, a3⟩ := int_of_trod f3
      obtain ⟨z4, rfl, a4⟩ := str_of_trod f4
      obtain ⟨l, hc⟩ := code_of_trod f5 (fun k hk => hw k (by
        rw [hy]
        simp only [DataW.weights, Tryz.underlying76]
        exact DataW.weights_mem_each (j := 5) rfl rfl k hk))
      exact ⟨⟨z0, z1, z2, z3, z4, l, c5⟩, rfl, hc, a1⟩

/-- A script, read. -/
theorem script_of_trod {n : Nat} {c : Value} {y : DataW H × List MemPlace} (h : DataW.trod enc Tryz.prog w 0 (fun _ => true) held n 22 [c] = some y) (hw : ∀ k ∈ y.1.weights Tryz.prog 22, k ≤ reachBytes) :
    ∃ (ao : Option Addr) (cap : Nat) (xs : List Scr), c = .slice ao xs.length cap ∧ (∀ b off, ao = some ⟨b, off, none⟩ → ∀ j (h : j < xs.length), scrAt w b (off + j * 6) xs[j]) ∧ (xs ≠ [] → ∃ b off, ao = some ⟨b, off, none⟩) ∧ xs.length * 72 ≤ 140737488351232 := by
  rcases Go.Deep.open_slice Tryz.underlying22 h with ⟨hc, _⟩ | ⟨a, len, cap, m, n', D, Pl, hc, _, hle, hcap, hm, hy, hx⟩
  · simp only [List.cons.injEq, and_true] at hc
    subst hc
    exact ⟨none, 0, [], rfl, fun b off h => by simp at h, fun h => absurd rfl h, by decide⟩
  · simp only [List.cons.injEq, and_true] at hc
    subst hc
    simp only [if_true] at hm
    subst hm
    have hreach : len * 72 ≤ 140737488351232 := by
      have := hw ((((List.range len).map D).length + ((List.range (m - len)).map fun j => D (len + j)).length) * Tryz.prog.bytesOf 76) (by rw [hy]; simp only [DataW.weights, Tryz.underlying22]; exact List.mem_cons_self)
      rw [Tryz.bytesOp] at this
      simp only [List.length_map, List.length_range, reachBytes] at this
      omega
    rw [Tryz.cellsOp] at hx
    obtain ⟨l, hl, hp⟩ := list_of (p := fun i (x : Scr) => w.cells? 0 (a.add (i * 6)) 6 = some [.int .i64 x.kd, .int .i64 x.bk, .int .i64 x.A, .int .i64 x.B, .string x.S, x.cv] ∧ OpCode w x.cv x.l (fun b => b < w.heap.size) ∧ (-9223372036854775808 ≤ x.bk ∧ x.bk ≤ 9223372036854775807)) len (fun i hi => by
      obtain ⟨cs', h1, h2⟩ := hx i (by omega)
      obtain ⟨x, rfl, hxw⟩ := scr_of_trod h2 (fun k hk => hw k (by
        rw [hy]
        simp only [DataW.weights, Tryz.underlying22]
        refine List.mem_cons_of_mem _ (List.mem_append_left _ (weights_all (d := D i) ?_ k hk))
        exact List.mem_map.2 ⟨i, List.mem_range.2 hi, rfl⟩))
      exact ⟨x, h1, hxw⟩)
    subst hl
    refine ⟨some a, m, l, rfl, fun b off he j hj => ?_, fun hne => ?_, hreach⟩
    · simp only [Option.some.injEq] at he
      subst he
      obtain ⟨h1, h2, h3⟩ := hp j hj
      obtain ⟨b', off', hab, _, hcl⟩ := plain_of_cells (by decide) h1
      rw [add_plain] at hab
      simp only [Addr.mk.injEq, and_true] at hab
      obtain ⟨rfl, rfl⟩ := hab
      exact ⟨hcl 0 (by omega), hcl 1 (by omega), hcl 2 (by omega), hcl 3 (by omega), hcl 4 (by omega), hcl 5 (by omega), h2, h3⟩
    · have h0 : 0 < l.length := List.length_pos_iff.2 hne
      obtain ⟨b, off, rfl, hb, _⟩ := plain_of_cells (by decide) (add0 (hp 0 h0).1)
      exact ⟨b, off, rfl⟩
end

set_option maxRecDepth 100000 in
set_option maxHeartbeats 400000 in
theorem Handed_any (ao : Option Addr) (cap : Nat) (xs : List Scr) (w : World) (hs : ∀ b off, ao = some ⟨b, off, none⟩ → ∀ j (h : j < xs.length), scrAt w b (off + j * 6) xs[j]) (hao : xs ≠ [] → ∃ b off, ao = some ⟨b, off, none⟩) (hm : xs.length * 72 ≤ 140737488351232) :
    Calls Tryz.prog 3 #[.slice ao xs.length cap] w fun r w' => r = .returned (.bool true) ∧ Below w.heap.size w w' := by
  have HP := hide (plays_any ao cap xs w hs hao hm)
  clear hs hao hm
  go_enter Tryz.func3, Tryz.ntmps3
  go_wp2_with (first | (go_at_call 10; refine HP.out.mono ?_; rintro r w' ⟨rfl, hb⟩))
  go_ret
  exact ⟨rfl, hb⟩

end Go.Proofs.YtdbdljjhhehbiaaGreat
