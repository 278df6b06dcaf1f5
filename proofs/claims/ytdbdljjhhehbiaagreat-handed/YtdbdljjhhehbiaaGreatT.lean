import Derived.Test.YtdbdljjhhehbiaaGreatS
import Derived.Deep.Cut
import Derived.BigQuiet
import Derived.Deep.RegionHeld3
namespace Go.Proofs.YtdbdljjhhehbiaaGreat
open Go.RowKit

theorem Tryz.size36 : ∃ i, Tryz.prog.info? 47 = some i ∧ i.size = 5 := by
  obtain ⟨i36, hi36, _, h, _⟩ := info_parts Tryz.info36
  exact ⟨i36, hi36, h⟩
theorem run_copy5 (w : World) (ty : TypeId) (b o dLen dCap : Nat) (a : Addr) (sLen sCap : Nat) (cs : List Value) (hn : cs.length = sLen * 5) (hle : sLen ≤ dLen)
    (hsrc : ∀ j v, cs[j]? = some v → w.cell? (a.add j) = some v) (ht : w.there b o cs.length) (h1 : ∀ v ∈ cs, v.oneCell' = true) :
    (Builtin.copy_ #[48, 48] ty #[.slice (some ⟨b, o, none⟩) dLen dCap, .slice (some a) sLen sCap]).run Tryz.prog w = .ok (goInt sLen) (w.setCells b o cs) := by
  obtain ⟨i, hi, hs⟩ := Tryz.size36
  have hl := run_firstCells_some (P := Tryz.prog) w 5 sLen a sLen sCap cs hn hsrc
  have hst := run_storeCells_cells (P := Tryz.prog) b o cs 0 w (by simpa using fun j hj => (ht j hj).1) (by simpa using fun j hj => (ht j hj).2) h1
  have hm : Nat.min sLen dLen = sLen := Nat.min_eq_left hle
  simp [Builtin.copy_, run_underlying Tryz.underlying48, Builtin.lenOf, sizeOf, typeInfo, hi, hs, hm, hl, hst]
theorem run_copy5_none (w : World) (ty : TypeId) (d : Addr) (dLen dCap : Nat) (a : Option Addr) (sCap : Nat) :
    (Builtin.copy_ #[48, 48] ty #[.slice (some d) dLen dCap, .slice a 0 sCap]).run Tryz.prog w = .ok (goInt 0) w := by
  obtain ⟨i, hi, hs⟩ := Tryz.size36
  have hl : ∀ (x : Addr), (loadCells x 0).run Tryz.prog w = .ok #[] w := fun x => by simpa using run_loadCells_list (P := Tryz.prog) w x [] (by simp)
  have hm : Nat.min 0 dLen = 0 := Nat.min_eq_left (Nat.zero_le _)
  cases a <;> simp [Builtin.copy_, run_underlying Tryz.underlying48, Builtin.lenOf, Builtin.firstCells, sizeOf, typeInfo, hi, hm, storeCells, hl]
theorem run_copy5_any (w : World) (ty : TypeId) (g dLen dCap : Nat) (sp : Option Addr) (sLen sCap : Nat) (cs : List Value) (hn : cs.length = sLen * 5) (hle : sLen ≤ dLen)
    (hsrc : 0 < sLen → ∃ ad, sp = some ad ∧ ∀ j v, cs[j]? = some v → w.cell? (ad.add j) = some v) (ht : w.there g 0 cs.length) (h1 : ∀ v ∈ cs, v.oneCell' = true) :
    (Builtin.copy_ #[48, 48] ty #[.slice (some ⟨g, 0, none⟩) dLen dCap, .slice sp sLen sCap]).run Tryz.prog w = .ok (goInt sLen) (w.setCells g 0 cs) := by
  by_cases h0 : sLen = 0
  · subst h0
    obtain rfl : cs = [] := List.eq_nil_of_length_eq_zero (by simpa using hn)
    exact run_copy5_none w ty ⟨g, 0, none⟩ dLen dCap sp sCap
  · obtain ⟨ad, rfl, hsr⟩ := hsrc (by omega)
    exact run_copy5 w ty g 0 dLen dCap ad sLen sCap cs hn hle hsr ht h1

def mark : I := ⟨-77, 0, 0, 0, ⟨#[109, 97, 114, 107]⟩⟩
def marks (k : Nat) : List I := List.replicate k mark
theorem marks_succ (k : Nat) : marks (k + 1) = marks k ++ [mark] := List.replicate_succ'
theorem flatI_snoc (l : List I) (x : I) : flatI (l ++ [x]) = flatI l ++ x.cells := by simp [flatI]
theorem flatI_append (l m : List I) : flatI (l ++ m) = flatI l ++ flatI m := by simp [flatI]
theorem cells_one (x : I) : x.cells.toArray.all (·.oneCell') = true := all_oneCell_toArray (by
  intro v hv
  simp only [I.cells, List.mem_cons, List.not_mem_nil, or_false] at hv
  rcases hv with rfl | rfl | rfl | rfl | rfl <;> rfl)
theorem there_part {w : World} {b n o m : Nat} (h : w.there b 0 n) (hle : o + m ≤ n) : w.there b o m := fun j hj => by
  have := h (o + j) (by omega)
  rwa [Nat.zero_add] at this

theorem marks_end {N : Nat} {w wr : World} {l : List I} {k : Nat} {o : Obj} (hb : Below N w wr) (hra : wr.rangeAt N 0 (flatI (l ++ marks k))) (hth : wr.there N 0 ((l.length + 8) * 5)) (hN : N < wr.heap.size) (hk : k < 8) :
    Below N w ((wr.alloc o).setCells N ((l.length + k) * 5) mark.cells) ∧ ((wr.alloc o).setCells N ((l.length + k) * 5) mark.cells).rangeAt N 0 (flatI (l ++ marks (k + 1))) ∧ ((wr.alloc o).setCells N ((l.length + k) * 5) mark.cells).there N 0 ((l.length + 8) * 5) ∧ N < ((wr.alloc o).setCells N ((l.length + k) * 5) mark.cells).heap.size := by
  have hm : mark.cells.length = 5 := rfl
  have hth2 := World.there_alloc hth o
  refine ⟨below_setCells _ _ _ _ (hb.alloc (by omega) _) (Nat.le_refl _), ?_, World.there_setCells hth2 _ _ _, ?_⟩
  · rw [marks_succ, ← List.append_assoc, flatI_snoc]
    have hl : (flatI (l ++ marks k)).length = (l.length + k) * 5 := by rw [flatI_length]; simp [marks]
    refine rangeAt_append (World.rangeAt_setCells_apart (World.rangeAt_alloc hra _) _ _ _ (Or.inr (Or.inl (by omega)))) ?_
    rw [hl, Nat.zero_add]
    exact World.rangeAt_setCells_same _ _ _ _ (there_part hth2 (by omega))
  · have h1 : Below 0 (wr.alloc o) ((wr.alloc o).setCells N ((l.length + k) * 5) mark.cells) := below_setCells _ _ _ _ (Below.refl _ _) (Nat.zero_le _)
    have h2 := h1.size
    have h3 : wr.heap.size ≤ (wr.alloc o).heap.size := by simp
    omega

/-- What is handed over: nil where nil came in. -/
def handedV (ao : Option Addr) (N n : Nat) : Value := if ao.isNone then .slice none 0 0 else .slice (some ⟨N, 0, none⟩) n (n + 8)

theorem handed_code {w wc : World} {ao : Option Addr} {N cap : Nat} {l m : List I} (_hN : w.heap.size = N) (hwf : ∀ x ∈ l, x.wf) (hsm : l.length * 48 ≤ 140737488351232) (hv : CodeV w (.slice ao l.length cap) l) (hra : wc.rangeAt N 0 (flatI (l ++ m))) (hlt : N < wc.heap.size) : CodeV wc (handedV ao N l.length) l := by
  have hra' : wc.rangeAt N 0 (flatI l) := by
    intro j v hv
    rw [flatI_append] at hra
    exact hra j v (by rw [List.getElem?_append_left (List.getElem?_eq_some_iff.1 hv).1]; exact hv)
  refine ⟨?_, hsm⟩
  unfold handedV
  cases ao with
  | none =>
    have hl : l = [] := by
      obtain ⟨ao', cap', he, hc⟩ := hv.form
      cases he
      cases l with
      | nil => rfl
      | cons x t => obtain ⟨b, off, h, _⟩ := hc (by simp); cases h
    subst hl
    exact ⟨none, 0, rfl, fun h => absurd rfl h⟩
  | some a => exact ⟨some ⟨N, 0, none⟩, l.length + 8, rfl, fun _ => ⟨N, 0, rfl, CodeAt.of_row hlt hwf hra'⟩⟩
theorem range_keeps {S : Nat → Prop} {w w1 : World} {b o : Nat} {xs : List Value} (h : w.rangeAt b o xs) (k : Keeps S w w1) (hb : b < w.heap.size) (hS : ¬ S b) : w1.rangeAt b o xs := fun j v hv => by
  rw [World.cell?_of_block (w := w) (k.block b hb hS)]; exact h j v hv
theorem there_keeps {S : Nat → Prop} {w w1 : World} {b o n : Nat} (h : w.there b o n) (k : Keeps S w w1) (hb : b < w.heap.size) (hS : ¬ S b) : w1.there b o n := fun j hj => by
  rw [World.cell?_of_block (w := w) (k.block b hb hS), World.frozen?_of_block (w := w) (k.block b hb hS)]; exact h j hj
theorem head_ins {w : World} {N o : Nat} {L : List I} {x : I} (h : w.rangeAt N o (flatI L)) (h0 : L[0]? = some x) : insAt w N o x := by
  cases L with
  | nil => simp at h0
  | cons y t =>
    simp at h0
    subst h0
    have key : ∀ i v, y.cells[i]? = some v → w.cell? ⟨N, o + i, none⟩ = some v := fun i v hv => h i v (by
      have hi := (List.getElem?_eq_some_iff.1 hv).1
      simp only [flatI, List.map_cons, List.flatten_cons]
      rw [List.getElem?_append_left hi]; exact hv)
    exact ⟨key 0 _ rfl, key 1 _ rfl, key 2 _ rfl, key 3 _ rfl, key 4 _ rfl⟩
theorem drewN_keeps (S : Nat → Prop) (w : World) (n : Nat) : Keeps S w (w.drewN n) := ⟨rfl, rfl, rfl, Nat.le_refl _, fun _ _ _ => rfl⟩
/-- What is written over behind the call. -/
def elev : I := ⟨11, 0, 0, 0, ⟨#[]⟩⟩
theorem setCells_keeps (N : Nat) : ∀ (vs : List Value) (w : World) (o : Nat), Keeps (fun k => k = N) w (w.setCells N o vs)
  | [], _w, _o => Keeps.refl _ _
  | v :: vs, w, o => (setCell_keeps w N o v).trans (setCells_keeps N vs _ (o + 1)) (fun _ h _ => h)
theorem full_step {N k m : Nat} {w3 wr W : World} {full : List I} (hkW : Keeps (fun _ => False) wr W) (hN : N < wr.heap.size) (hk : Keeps (fun k => k = N) w3 wr) (hra : wr.rangeAt N (k * 5) (flatI (full.drop k))) (hth : wr.there N 0 (m * 5)) (hlt : k < full.length) :
    Keeps (fun k => k = N) w3 (W.setCells N (k * 5) elev.cells) ∧ (W.setCells N (k * 5) elev.cells).rangeAt N ((k + 1) * 5) (flatI (full.drop (k + 1))) ∧ (W.setCells N (k * 5) elev.cells).there N 0 (m * 5) := by
  have hraW := range_keeps hra hkW hN (fun h => h)
  have hthW := there_keeps hth hkW hN (fun h => h)
  refine ⟨(hk.trans hkW (fun _ h => h.elim)).trans (setCells_keeps N _ _ _) (fun _ h _ => h), ?_, World.there_setCells hthW _ _ _⟩
  have hrt : W.rangeAt N ((k + 1) * 5) (flatI (full.drop (k + 1))) := by
    intro j v hv
    have e : full.drop k = full[k] :: full.drop (k + 1) := List.drop_eq_getElem_cons hlt
    rw [e] at hraW
    have h5 : (I.cells full[k]).length = 5 := rfl
    have := hraW (5 + j) v (by
      simp only [flatI, List.map_cons, List.flatten_cons]
      rw [List.getElem?_append_right (by omega), h5, Nat.add_sub_cancel_left]; exact hv)
    rwa [show k * 5 + (5 + j) = (k + 1) * 5 + j by omega] at this
  exact World.rangeAt_setCells_apart hrt _ _ _ (Or.inr (Or.inr (by show k * 5 + 5 ≤ _; omega)))
/-- The worlds that have only grown. -/
structure NewOf (w : World) where
  x : World
  h : Below w.heap.size w x
theorem new_alloc {w : World} (p : NewOf w) (o : Obj) : ∃ q : NewOf w, p.x.alloc o = q.x := ⟨⟨p.x.alloc o, p.h.alloc p.h.size o⟩, rfl⟩
theorem wp_region_new {P : Program} {id : Nat} {Q : Exit → Act → World → Prop} {a : Act} {w : World} {l : List Oper} (hm : P.follows .mixedOrders = true) (hB : Region.lexB .any l.toArray = true)
    (h : wpQuiet P l.toArray (fun w' => ∃ p : NewOf w, w' = p.x) (fun a' => ∀ w', (∃ p : NewOf w, w' = p.x) → Q .normal a' w') l a) : (Code.region id l.toArray true).wp P Q a w :=
  wp_region_quiet (C := fun w' => ∃ p : NewOf w, w' = p.x) hm hB ⟨⟨w.drew, (Below.refl _ _).drew⟩, rfl⟩ (by simpa using h)
/-- All blocks of a pair that may turn. -/
def Sp (B R : Nat) (rv wv lv cv dv tv : Value) (k : Nat) : Prop := Sb B rv wv lv k ∨ (k = R ∨ some k = cv.ownBlock ∨ some k = dv.ownBlock ∨ some k = tv.ownBlock)

theorem S1_R {w : World} {B R n n' : Nat} {log log' : List UInt8} {rv wv lv cv dv tv : Value} (hB : Bk w B n log rv wv lv) (hR : Rf w R n' log' cv dv tv) (hA : Apart dv rv) :
    ¬ Sb B rv wv lv R ∧ (∀ i, Sb B rv wv lv i → some i ≠ cv.ownBlock) ∧ (∀ i, Sb B rv wv lv i → some i ≠ dv.ownBlock) ∧ (∀ i, Sb B rv wv lv i → some i ≠ tv.ownBlock) := by
  obtain ⟨bt, wk, bn, mp, hb⟩ := hB.blk
  obtain ⟨vs, hv⟩ := hB.orr
  obtain ⟨xs, hx⟩ := hB.ow
  have hl := hB.ol
  obtain ⟨sz, bat, pv, hr⟩ := hR.blk
  obtain ⟨ys, hy⟩ := hR.oc
  obtain ⟨zs, hz⟩ := hR.od
  obtain ⟨us, hu⟩ := hR.ot
  refine ⟨?_, ?_, ?_, ?_⟩
  · rintro (h | h | h | h)
    · subst h; rw [hr] at hb; simp at hb
    · exact own_apart hv hr (by decide) h
    · exact own_apart hx hr (by decide) h
    · exact own_apart hl hr (by decide) h
  · rintro i (h | h | h | h)
    · subst h; exact own_apart hy hb (by decide)
    · exact ne_of2 (own_apart2 hy hv (by decide)) i h
    · exact ne_of2 (own_apart2 hy hx (by decide)) i h
    · exact ne_of2 (own_apart2 hy hl (by decide)) i h
  · rintro i (h | h | h | h)
    · subst h; exact own_apart hz hb (by decide)
    · exact ne_of2 hA i h
    · exact ne_of2 (own_apart2 hz hx (by decide)) i h
    · exact ne_of2 (own_apart2 hz hl (by decide)) i h
  · rintro i (h | h | h | h)
    · subst h; exact own_apart hu hb (by decide)
    · exact ne_of2 (own_apart2 hu hv (by decide)) i h
    · exact ne_of2 (own_apart2 hu hx (by decide)) i h
    · exact ne_of2 (own_apart2 hu hl (by decide)) i h
theorem S2_B {w : World} {B R n n' : Nat} {log log' : List UInt8} {rv wv lv cv dv tv : Value} (hB : Bk w B n log rv wv lv) (hR : Rf w R n' log' cv dv tv) (hA : Apart dv rv) :
    ¬ (B = R ∨ some B = cv.ownBlock ∨ some B = dv.ownBlock ∨ some B = tv.ownBlock) ∧ (∀ i, (i = R ∨ some i = cv.ownBlock ∨ some i = dv.ownBlock ∨ some i = tv.ownBlock) → some i ≠ rv.ownBlock) ∧ (∀ i, (i = R ∨ some i = cv.ownBlock ∨ some i = dv.ownBlock ∨ some i = tv.ownBlock) → some i ≠ wv.ownBlock) ∧ (∀ i, (i = R ∨ some i = cv.ownBlock ∨ some i = dv.ownBlock ∨ some i = tv.ownBlock) → some i ≠ lv.ownBlock) := by
  obtain ⟨bt, wk, bn, mp, hb⟩ := hB.blk
  obtain ⟨vs, hv⟩ := hB.orr
  obtain ⟨xs, hx⟩ := hB.ow
  have hl := hB.ol
  obtain ⟨sz, bat, pv, hr⟩ := hR.blk
  obtain ⟨ys, hy⟩ := hR.oc
  obtain ⟨zs, hz⟩ := hR.od
  obtain ⟨us, hu⟩ := hR.ot
  refine ⟨?_, ?_, ?_, ?_⟩
  · rintro (h | h | h | h)
    · subst h; rw [hr] at hb; simp at hb
    · exact own_apart hy hb (by decide) h
    · exact own_apart hz hb (by decide) h
    · exact own_apart hu hb (by decide) h
  · rintro i (h | h | h | h)
    · subst h; exact own_apart hv hr (by decide)
    · exact ne_of2 (own_apart2 hv hy (by decide)) i h
    · intro e
      rcases hA with h0 | h0
      · rw [h0] at h; cases h
      · exact h0 (h.symm.trans e)
    · exact ne_of2 (own_apart2 hv hu (by decide)) i h
  · rintro i (h | h | h | h)
    · subst h; exact own_apart hx hr (by decide)
    · exact ne_of2 (own_apart2 hx hy (by decide)) i h
    · exact ne_of2 (own_apart2 hx hz (by decide)) i h
    · exact ne_of2 (own_apart2 hx hu (by decide)) i h
  · rintro i (h | h | h | h)
    · subst h; exact own_apart hl hr (by decide)
    · exact ne_of2 (own_apart2 hl hy (by decide)) i h
    · exact ne_of2 (own_apart2 hl hz (by decide)) i h
    · exact ne_of2 (own_apart2 hl hu (by decide)) i h
/-- Rows that lie apart lie apart when each has moved on. -/
theorem apart_moved {w W : World} {v v' u u' : Value} (h : Apart u v) (hv : Moved w v v') (hu : Moved W u u') (lu : ∀ k, u.ownBlock = some k → k < w.heap.size) (hW : ∀ k, v'.ownBlock = some k → k < W.heap.size) : Apart u' v' := by
  rcases hu with e | ⟨g, e, hg⟩
  · rcases hv with e' | ⟨g', e', hg'⟩
    · unfold Apart; rw [e, e']; exact h
    · cases hb : u.ownBlock with
      | none => exact Or.inl (e.trans hb)
      | some k =>
        right
        rw [e, e', hb]
        intro hh
        have := lu k hb
        simp at hh
        omega
  · right
    intro hh
    rw [e] at hh
    have := hW g hh.symm
    omega
theorem Rf.lts {w : World} {R n : Nat} {log : List UInt8} {cv dv tv : Value} (h : Rf w R n log cv dv tv) : R < w.heap.size ∧ (∀ k, cv.ownBlock = some k → k < w.heap.size) ∧ (∀ k, dv.ownBlock = some k → k < w.heap.size) ∧ (∀ k, tv.ownBlock = some k → k < w.heap.size) := by
  obtain ⟨sz, bat, pv, hr⟩ := h.blk
  obtain ⟨ys, hy⟩ := h.oc
  obtain ⟨zs, hz⟩ := h.od
  obtain ⟨us, hu⟩ := h.ot
  exact ⟨lt_of_block hr, fun k hk => (hy.lt k hk).2, fun k hk => (hz.lt k hk).2, fun k hk => (hu.lt k hk).2⟩
theorem Bk.lts {w : World} {B n : Nat} {log : List UInt8} {rv wv lv : Value} (h : Bk w B n log rv wv lv) : B < w.heap.size ∧ (∀ k, rv.ownBlock = some k → k < w.heap.size) ∧ (∀ k, wv.ownBlock = some k → k < w.heap.size) ∧ (∀ k, lv.ownBlock = some k → k < w.heap.size) := by
  obtain ⟨bt, wk, bn, mp, hb⟩ := h.blk
  obtain ⟨vs, hv⟩ := h.orr
  obtain ⟨xs, hx⟩ := h.ow
  exact ⟨lt_of_block hb, fun k hk => (hv.lt k hk).2, fun k hk => (hx.lt k hk).2, fun k hk => (World.ownsRow.lt h.ol k hk).2⟩

theorem mid_facts {P B R n N cap : Nat} {ao : Option Addr} {l : List I} {log log' : List UInt8} {rv wv lv cv dv tv rv' wv' lv' : Value} {n' : Nat} {w wc w3 wr : World}
    (hP : w.heap[P]? = some (.cells #[.pointer (some ⟨B, 0, none⟩), .pointer (some ⟨R, 0, none⟩)] 127 (0, 0)))
    (hB : Bk w B n log rv wv lv) (hR : Rf w R n log cv dv tv) (hA : Apart dv rv) (hv : CodeV w (.slice ao l.length cap) l) (hS : ∀ b off, ao = some ⟨b, off, none⟩ → l ≠ [] → ¬ Sp B R rv wv lv cv dv tv b) (hN : w.heap.size = N)
    (hbw : Below w.heap.size w wc) (hk3 : Keeps (Sb B rv wv lv) wc w3) (hB3 : Bk w3 B n' log' rv' wv' lv') (hkr : Keeps (fun k => k = N) w3 wr) (hmr : Moved wc rv rv') (hmw : Moved wc wv wv') (hml : Moved wc lv lv') (hNc : N < wc.heap.size) :
    wr.heap[P]? = some (.cells #[.pointer (some ⟨B, 0, none⟩), .pointer (some ⟨R, 0, none⟩)] 127 (0, 0)) ∧ Rf wr R n log cv dv tv ∧ CodeV wr (.slice ao l.length cap) l ∧ Bk wr B n' log' rv' wv' lv' ∧ Keeps (fun k => Sb B rv wv lv k ∨ k = N) wc wr := by
  have hBl := hB.lts
  have hRl := hR.lts
  have hPl := lt_of_block hP
  have hNot : some N ≠ rv'.ownBlock ∧ some N ≠ wv'.ownBlock ∧ some N ≠ lv'.ownBlock := by
    refine ⟨fun h => ?_, fun h => ?_, fun h => ?_⟩
    · rcases hmr with e | ⟨g, e, hg⟩
      · rw [e] at h; have := hBl.2.1 N h.symm; omega
      · rw [e] at h; simp at h; omega
    · rcases hmw with e | ⟨g, e, hg⟩
      · rw [e] at h; have := hBl.2.2.1 N h.symm; omega
      · rw [e] at h; simp at h; omega
    · rcases hml with e | ⟨g, e, hg⟩
      · rw [e] at h; have := hBl.2.2.2 N h.symm; omega
      · rw [e] at h; simp at h; omega
  have hBc := hB.below hbw
  have hRc := hR.below hbw
  have hPc : wc.heap[P]? = _ := (hbw.block P hPl).trans hP
  have hS1P : ¬ Sb B rv wv lv P := by
    obtain ⟨bt, wk, bn, mp, hb⟩ := hB.blk
    obtain ⟨vs, hv⟩ := hB.orr
    obtain ⟨xs, hx⟩ := hB.ow
    rintro (h | h | h | h)
    · subst h; rw [hP] at hb; simp at hb
    · exact own_apart hv hP (by decide) h
    · exact own_apart hx hP (by decide) h
    · exact own_apart hB.ol hP (by decide) h
  have hR3 : Rf w3 R n log cv dv tv := hRc.keeps hk3 (S1_R hBc hRc hA).1 (S1_R hBc hRc hA).2.1 (S1_R hBc hRc hA).2.2.1 (S1_R hBc hRc hA).2.2.2
  have hsz : w.heap.size ≤ wc.heap.size := hbw.size
  refine ⟨blk_keeps (blk_keeps hPc hk3 hS1P) hkr (by show ¬ P = N; omega), ?_, ?_, ?_, ?_⟩
  · refine hR3.keeps hkr (by show ¬ R = N; omega) ?_ ?_ ?_
    · intro i hi h; have hi' : i = N := hi; have := hRl.2.1 i h.symm; omega
    · intro i hi h; have hi' : i = N := hi; have := hRl.2.2.1 i h.symm; omega
    · intro i hi h; have hi' : i = N := hi; have := hRl.2.2.2 i h.symm; omega
  · obtain ⟨ao', cap', he, hc⟩ := hv.form
    cases he
    refine ⟨⟨ao, cap, rfl, fun hne => ?_⟩, hv.small⟩
    obtain ⟨b, off, rfl, hca⟩ := hc hne
    have hbl := hca.lt
    exact ⟨b, off, rfl, ((hca.keeps (Below.keeps hbw (fun _ => False)) (fun h => h)).keeps hk3 (fun h => hS b off rfl hne (Or.inl h))).keeps hkr (by show ¬ b = N; omega)⟩
  · have h3l := hB3.lts
    refine hB3.keeps hkr (by show ¬ B = N; omega) ?_ ?_ ?_
    · intro i hi h
      have hi' : i = N := hi
      subst hi'
      exact hNot.1 h
    · intro i hi h
      have hi' : i = N := hi
      subst hi'
      exact hNot.2.1 h
    · intro i hi h
      have hi' : i = N := hi
      subst hi'
      exact hNot.2.2 h
  · exact (hk3.mono (fun i h => Or.inl h)).trans hkr (fun i h _ => Or.inr h)
theorem lsubmit_end {B R n N : Nat} {l : List I} {log : List UInt8} {rv wv lv cv dv tv rv' wv' lv' cv' dv' tv' : Value} {w wc w3 wr w6 : World} (hN : w.heap.size = N) (hbw : Below w.heap.size w wc)
    (_hB : Bk w B n log rv wv lv) (_hR : Rf w R n log cv dv tv) (hA : Apart dv rv) (hB3 : Bk w3 B (subN l n) (subLog l n log) rv' wv' lv') (h3r : w3.heap.size ≤ wr.heap.size) (_hk3 : Keeps (Sb B rv wv lv) wc w3) (hmr : Moved wc rv rv') (hmw : Moved wc wv wv') (hml : Moved wc lv lv')
    (hkr : Keeps (fun k => Sb B rv wv lv k ∨ k = N) wc wr) (hRr : Rf wr R n log cv dv tv) (hBr : Bk wr B (subN l n) (subLog l n log) rv' wv' lv')
    (hR6 : Rf w6 R (subN l n) (subLog l n log) cv' dv' tv') (hk6 : Keeps (fun k => k = R ∨ some k = cv.ownBlock ∨ some k = dv.ownBlock ∨ some k = tv.ownBlock) wr w6) (hmc : Moved wr cv cv') (hmd : Moved wr dv dv') (hmt : Moved wr tv tv') :
    Bk w6 B (subN l n) (subLog l n log) rv' wv' lv' ∧ Rf w6 R (subN l n) (subLog l n log) cv' dv' tv' ∧ Keeps (Sp B R rv wv lv cv dv tv) w w6 ∧ Moved w rv rv' ∧ Moved w wv wv' ∧ Moved w lv lv' ∧ Moved w cv cv' ∧ Moved w dv dv' ∧ Moved w tv tv' ∧ Apart dv' rv' := by
  have hs1 : w.heap.size ≤ wc.heap.size := hbw.size
  have hs2 : wc.heap.size ≤ wr.heap.size := hkr.size
  have up : ∀ {v v' : Value} {W : World}, w.heap.size ≤ W.heap.size → Moved W v v' → Moved w v v' := by
    intro v v' W hle h
    rcases h with e | ⟨g, e, hg⟩
    · exact Or.inl e
    · exact Or.inr ⟨g, e, by omega⟩
  have hlv : ∀ k, rv'.ownBlock = some k → k < wr.heap.size := fun k hk => Nat.lt_of_lt_of_le (hB3.lts.2.1 k hk) h3r
  have hA1 : Apart dv rv' := apart_moved hA (up hs1 hmr) (Moved.refl wr dv) _hR.lts.2.2.1 hlv
  have hA2 : Apart dv' rv' := apart_moved hA (up hs1 hmr) hmd _hR.lts.2.2.1 hlv
  refine ⟨hBr.keeps hk6 (S2_B hBr hRr hA1).1 (S2_B hBr hRr hA1).2.1 (S2_B hBr hRr hA1).2.2.1 (S2_B hBr hRr hA1).2.2.2, hR6, ?_, up hs1 hmr, up hs1 hmw, up hs1 hml, up (by omega) hmc, up (by omega) hmd, up (by omega) hmt, hA2⟩
  refine (((Below.keeps hbw (Sp B R rv wv lv cv dv tv)).trans hkr ?_).trans hk6 ?_)
  · intro i hi hlt
    rcases hi with h | h
    · exact Or.inl h
    · exact absurd hlt (by omega)
  · intro i hi _
    exact Or.inr hi

set_option maxRecDepth 100000 in
set_option maxHeartbeats 2000000 in
theorem lsubmit_any (P B R n : Nat) (ao : Option Addr) (cap : Nat) (l : List I) (log : List UInt8) (rv wv lv cv dv tv : Value) (w : World)
    (hP : w.heap[P]? = some (.cells #[.pointer (some ⟨B, 0, none⟩), .pointer (some ⟨R, 0, none⟩)] 127 (0, 0)))
    (hB : Bk w B n log rv wv lv) (hR : Rf w R n log cv dv tv) (hA : Apart dv rv) (hn : n ≤ 60) (hlog : log.length ≤ 400 * n)
    (hv : CodeV w (.slice ao l.length cap) l) (hwf : ∀ x ∈ l, x.wf) (hbS : ∀ b off, ao = some ⟨b, off, none⟩ → l ≠ [] → ¬ Sp B R rv wv lv cv dv tv b) :
    Calls Tryz.prog 85 #[.pointer (some ⟨P, 0, none⟩), .slice ao l.length cap] w fun e w' => e = .returned (.bool true) ∧ ∃ rv' wv' lv' cv' dv' tv', Bk w' B (subN l n) (subLog l n log) rv' wv' lv' ∧ Rf w' R (subN l n) (subLog l n log) cv' dv' tv' ∧ Keeps (Sp B R rv wv lv cv dv tv) w w' ∧ Moved w rv rv' ∧ Moved w wv wv' ∧ Moved w lv lv' ∧ Moved w cv cv' ∧ Moved w dv dv' ∧ Moved w tv tv' ∧ Apart dv' rv' := by
  have hsm := hv.small
  obtain ⟨i36, hi36, hz360, hz361, hz362⟩ := info_parts Tryz.info36
  have HP := hide hP
  have HB := hide hB
  have HR := hide hR
  have HA := hide hA
  have HV := hide hv
  have HS := hide hbS
  have HSRC : Hid (0 < l.length → ∃ ad, ao = some ad ∧ ∀ j v, (flatI l)[j]? = some v → w.cell? (ad.add j) = some v) := by
    intro h0
    obtain ⟨ao', cap', he, hc⟩ := hv.form
    cases he
    obtain ⟨b, off, rfl, hca⟩ := hc (by intro h; rw [h] at h0; simp at h0)
    exact ⟨_, rfl, row_news hca.row⟩
  have hmk : ((l.length : Int) + 8) = ((l.length + 8 : Nat) : Int) := by omega
  have HMK := hide hmk
  clear hP hB hR hA hv hbS hmk
  go_enter Tryz.func85, Tryz.ntmps85
  go_wp2_with (first | (at_make; refine wpList_make_full _ rfl _ _ 48 rfl 0 47 i36 _ 5 Tryz.underlying48 hi36 hz360 hz361 .i64 .i64 _ _ (l.length + 8) rfl rfl HMK.out HMK.out (by rw [hz362]; omega) (by unfold maxLen; omega) (Nat.zero_le _) ?_; intro w1 hown1 hgr1; have HTH := hide (own_there hown1); have HBL := hide (show Below w.heap.size w w1 from ⟨hgr1.os, hgr1.tape, hgr1.output, hgr1.size, fun k hk => hgr1.block k hk (by simp)⟩); have HN := hide (show w.heap.size < w1.heap.size from (hown1.lt _ rfl).2); clear hown1 hgr1))
  have hrun := run_copy5_any w1 3 w.heap.size (l.length + 8) (l.length + 8) ao l.length cap (flatI l) (flatI_length l) (by omega) (fun h0 => (HSRC.out h0).imp (fun ad h => ⟨h.1, fun j v hv => cell_later HBL.out (h.2 j v hv)⟩)) (there_part HTH.out (by rw [flatI_length]; omega)) (flatI_one l)
  rw [hrun]
  clear hrun
  have hB2 : Below w.heap.size w (w1.setCells w.heap.size 0 (flatI l)) := below_setCells _ _ _ _ HBL.out (Nat.le_refl _)
  have hT2 : (w1.setCells w.heap.size 0 (flatI l)).there w.heap.size 0 ((l.length + 8) * 5) := World.there_setCells HTH.out _ _ _
  have hR2 : (w1.setCells w.heap.size 0 (flatI l)).rangeAt w.heap.size 0 (flatI l) := World.rangeAt_setCells_same _ _ _ _ (there_part HTH.out (by rw [flatI_length]; omega))
  have hN2 : w.heap.size < (w1.setCells w.heap.size 0 (flatI l)).heap.size := Nat.lt_of_lt_of_le HN.out (below_setCells _ _ _ _ (Below.refl 0 _) (Nat.zero_le _)).size
  generalize w1.setCells w.heap.size 0 (flatI l) = w2 at hB2 hT2 hR2 hN2 ⊢
  clear HBL HTH HN HSRC hi36 hz360 hz361 hz362 i36 HMK w1
  generalize hNe : w.heap.size = N at hB2 hT2 hR2 hN2 ⊢
  have HNe := hide hNe
  clear hNe
  go_wp2
  go_loopw [7] (fun i wr => ∃ k : Nat, k ≤ 8 ∧ i = .int .i64 ((l.length : Int) + k) ∧ Below N w wr ∧ wr.rangeAt N 0 (flatI (l ++ marks k)) ∧ wr.there N 0 ((l.length + 8) * 5) ∧ N < wr.heap.size) (fun i _ => l.length + 8 - (intOf i).toNat)
  case atStart => exact ⟨0, by omega, by simp, hB2, by simpa [marks] using hR2, hT2, hN2⟩
  case round =>
    clear hB2 hT2 hR2 hN2
    obtain ⟨k, hk, rfl, hb, hra, hth, hN⟩ := hrel
    by_cases hlt : k < 8
    · have hth3 : (wr.alloc (.cells #[.int .i64 (-77), .int .i64 0, .int .i64 0, .int .i64 0, .string ⟨#[109, 97, 114, 107]⟩] 47)).there N ((l.length + k) * 5) mark.cells.toArray.size := there_part (World.there_alloc hth _) (by show _ + 5 ≤ _; omega)
      have hsz : (Tryz.prog.info? 47).map (·.size) = some mark.cells.toArray.size := by kernel_rfl
      have hE := marks_end (o := (.cells #[.int .i64 (-77), .int .i64 0, .int .i64 0, .int .i64 0, .string ⟨#[109, 97, 114, 107]⟩] 47)) hb hra hth hN hlt
      go_wp2_with (first | (go_at_call 113; refine (markIns_any _).mono ?_; rintro e w' ⟨rfl, rfl⟩) | (refine wpList_store_mid rfl 47 (.tmp 32) (.tmp 31) rfl N ((l.length + k) * 5) mark.cells.toArray rfl rfl ?hth hsz (cells_one mark) ?_))
      case hth => exact hth3
      clear hth3 hb hra hth hN
      generalize (wr.alloc _).setCells N ((l.length + k) * 5) mark.cells.toArray.toList = w3 at hE ⊢
      go_roundw
      case rel => exact ⟨k + 1, by omega, by go_num, hE⟩
      case measure => simp [intOf]; omega
    · have hk8 : k = 8 := by omega
      subst hk8
      have hnil := fun w => Lib.run_eql_slice_nil (P := Tryz.prog) w 48 47 ao l.length cap 0 0 Tryz.underlying48
      go_upto_if 37 with fail
      go_cut [8] from 36 (fun h wc => h = handedV ao N l.length ∧ wc = wr)
      case first =>
        cases ao
        · go_wp2_with fail
          go_meet
          case rel => exact ⟨rfl, rfl⟩
        · go_wp2_with fail
          go_meet
          case rel => exact ⟨rfl, rfl⟩
      case rest =>
        obtain ⟨hh8, hwc⟩ := hcut
        subst hh8
        subst hwc
        clear hnil
        have HNl := HNe.out
        have cP0 : wc.cell? ⟨P, 0, none⟩ = some (.pointer (some ⟨B, 0, none⟩)) := (hb.cell (p := ⟨P, 0, none⟩) (by rw [← HNe.out]; exact lt_of_block HP.out)).trans (blk_cell (i := 0) HP.out rfl)
        have hbw : Below w.heap.size w wc := by rw [HNe.out]; exact hb
        have HBc := hide (HB.out.below hbw)
        have HRc := hide (HR.out.below hbw)
        have HVc := hide (handed_code (ao := ao) HNe.out hwf hsm HV.out hra hN)
        have hlog' : log.length ≤ 50000 := by omega
        have hn60 : n ≤ 60 := hn
        clear HNl
        go_wp2_with (first | (go_at_call 17; refine (Submit_any B n _ l log rv wv lv _ HVc.out HBc.out hn60 hlog').mono ?_; rintro e w3 ⟨rfl, rv', wv', lv', hBk3, hk3, hmr, hmw, hml⟩; have HB3 := hide hBk3; clear hBk3))
        have hNS : ¬ Sb B rv wv lv N := by
          rw [← HNe.out]
          have hlt := HB.out.lts
          rintro (h | h | h | h)
          · have := hlt.1; omega
          · have := hlt.2.1 _ h.symm; omega
          · have := hlt.2.2.1 _ h.symm; omega
          · have := hlt.2.2.2 _ h.symm; omega
        have hra3 := range_keeps hra hk3 hN hNS
        have hth3 := there_keeps hth hk3 hN hNS
        have HCA : Hid (∀ b off, ao = some ⟨b, off, none⟩ → l ≠ [] → CodeAt w3 b off l ∧ b < N) := by
          intro b off hao hne
          obtain ⟨ao', cap', he, hc⟩ := HV.out.form
          cases he
          obtain ⟨b', off', he2, hca⟩ := hc hne
          rw [hao] at he2
          cases he2
          refine ⟨((hca.keeps (Below.keeps hbw (fun _ => False)) (fun h => h)).keeps hk3 (fun h => HS.out b off hao hne (Or.inl h))), ?_⟩
          rw [← HNe.out]; exact hca.lt
        have hN3 : N < w3.heap.size := Nat.lt_of_lt_of_le hN hk3.size
        have HK3 := hide hk3
        have HBW := hide hbw
        have Hcur : Hid (∀ j (h : j < l.length), (l ++ marks 8)[j]? = some l[j]) := fun j h => by rw [List.getElem?_append_left h, List.getElem?_eq_getElem h]
        have Hcur2 : Hid (∀ j, l.length ≤ j → j < l.length + 8 → (l ++ marks 8)[j]? = some mark) := fun j h h8 => by rw [List.getElem?_append_right h, marks, List.getElem?_replicate, if_pos (by omega)]
        have Hne : Hid (l ≠ [] → ∃ b off, ao = some ⟨b, off, none⟩) := by
          intro hne
          obtain ⟨ao', cap', he, hc⟩ := HV.out.form
          cases he
          obtain ⟨b', off', he2, _⟩ := hc hne
          exact ⟨b', off', he2⟩
        have hl8 : (l ++ marks 8).length = l.length + 8 := by simp [marks]
        generalize l ++ marks 8 = full at hra hra3 Hcur Hcur2 hl8
        have HNc := hide hN
        have HMR := hide hmr
        have HMW := hide hmw
        have HML := hide hml
        clear hra hth hk3 hb hN HBc HVc hmr hmw hml cP0 hbw hNS
        go_loopw [11] (fun i wr => ∃ k : Nat, k ≤ l.length + 8 ∧ i = .int .i64 k ∧ Keeps (fun k => k = N) w3 wr ∧ wr.rangeAt N (k * 5) (flatI (full.drop k)) ∧ wr.there N 0 ((l.length + 8) * 5)) (fun i _ => l.length + 8 - (intOf i).toNat)
        case atStart => exact ⟨0, by omega, rfl, Keeps.refl _ _, by simpa using hra3, hth3⟩
        case round =>
          clear hra3 hth3
          obtain ⟨k, hk, rfl, hkw, hra, hth⟩ := hrel
          by_cases hlt : k < l.length + 8
          · by_cases hkl : k < l.length
            · obtain ⟨b, off, hao⟩ := Hne.out (by intro h; rw [h] at hkl; simp at hkl)
              obtain ⟨x, hx⟩ : ∃ x, x = l[k] := ⟨_, rfl⟩
              have hio := head_ins hra (x := x) (by rw [List.getElem?_drop, Nat.add_zero, Hcur.out k hkl, hx])
              obtain ⟨hca, hbN⟩ := HCA.out b off hao (by intro h; rw [h] at hkl; simp at hkl)
              have hic := (hca.keeps hkw (by show ¬ b = N; omega)).at' k hkl
              rw [← hx] at hic
              clear hx hca
              obtain ⟨c0, c1, c2, c3, c4⟩ := hio
              obtain ⟨d0, d1, d2, d3, d4⟩ := hic
              have hki : (k : Int) < l.length := by omega
              have hki0 : (0 : Int) ≤ (k : Int) := by omega
              have hki8 : (k : Int) < (l.length : Int) + 8 := by omega
              have hd : decide (l.length ≤ k) = false := by simp; omega
              subst hao
              go_wp2
              go_quiet (fail)
              have hE := full_step (drewN_keeps (fun _ => False) wr nq) (Nat.lt_of_lt_of_le hN3 hkw.size) hkw hra hth (by omega)
              have hthq : (wr.drewN nq).there N (k * 5) elev.cells.toArray.size := there_part (there_keeps hth (drewN_keeps (fun _ => False) wr nq) (Nat.lt_of_lt_of_le hN3 hkw.size) (fun h => h)) (by show _ + 5 ≤ _; omega)
              have hsz : (Tryz.prog.info? 47).map (·.size) = some elev.cells.toArray.size := by kernel_rfl
              clear hkw hra hth c0 c1 c2 c3 c4 d0 d1 d2 d3 d4
              go_wp2_with (refine wpList_store_mid rfl 47 (.tmp 83) (.tmp 82) rfl N (k * 5) elev.cells.toArray rfl rfl ?hth hsz (cells_one elev) ?_)
              case hth => exact hthq
              generalize (wr.drewN nq).setCells N (k * 5) elev.cells.toArray.toList = w5 at hE ⊢
              go_roundw
              case rel => exact ⟨k + 1, by omega, by go_num, hE⟩
              case measure => simp [intOf]; omega
            · obtain ⟨x, hx⟩ : ∃ x, x = mark := ⟨_, rfl⟩
              have hio := head_ins hra (x := mark) (by rw [List.getElem?_drop, Nat.add_zero, Hcur2.out k (by omega) hlt])
              obtain ⟨c0, c1, c2, c3, c4⟩ := hio
              simp only [mark] at c0 c1 c2 c3 c4
              have hki0 : (0 : Int) ≤ (k : Int) := by omega
              have hki8 : (k : Int) < (l.length : Int) + 8 := by omega
              have hd : decide (l.length ≤ k) = true := by simp; omega
              have hd2 : decide (k < l.length) = false := by simp; omega
              have hd3 : decide ((k : Int) < (l.length : Int)) = false := by simp; omega
              go_wp2
              have e0 : ∀ p : NewOf wr, p.x.cell? ⟨N, k * 5, none⟩ = some (.int .i64 (-77)) := fun p => bcell p.h c0
              have e1 : ∀ p : NewOf wr, p.x.cell? ⟨N, k * 5 + 1, none⟩ = some (.int .i64 0) := fun p => bcell p.h c1
              have e2 : ∀ p : NewOf wr, p.x.cell? ⟨N, k * 5 + 2, none⟩ = some (.int .i64 0) := fun p => bcell p.h c2
              have e3 : ∀ p : NewOf wr, p.x.cell? ⟨N, k * 5 + 3, none⟩ = some (.int .i64 0) := fun p => bcell p.h c3
              have e4 : ∀ p : NewOf wr, p.x.cell? ⟨N, k * 5 + 4, none⟩ = some (.string ⟨#[109, 97, 114, 107]⟩) := fun p => bcell p.h c4
              clear c0 c1 c2 c3 c4
              have hnonempty : Nonempty (NewOf wr) := ⟨⟨wr, Below.refl _ _⟩⟩
              refine wp_region_new (by kernel_rfl) (by kernel_rfl) ?_
              repeat (go_big_quiet_step ((go_at_call 113; refine (markIns_any _).mono ?_; rintro e w' ⟨rfl, rfl⟩; exact ⟨rfl, new_alloc _ _⟩)))
              refine wpQuiet_nil ?_
              intro w5 hw5
              obtain ⟨p, hp5⟩ := hw5
              subst hp5
              have hE := full_step (Below.keeps p.h (fun _ => False)) (Nat.lt_of_lt_of_le hN3 hkw.size) hkw hra hth (by omega)
              have hthq : p.x.there N (k * 5) elev.cells.toArray.size := there_part (there_below hth p.h) (by show _ + 5 ≤ _; omega)
              have hsz : (Tryz.prog.info? 47).map (·.size) = some elev.cells.toArray.size := by kernel_rfl
              clear hkw hra hth e0 e1 e2 e3 e4 hnonempty
              generalize p.x = wx at hE hthq ⊢
              clear p
              go_wp2_with (refine wpList_store_mid rfl 47 (.tmp 83) (.tmp 82) rfl N (k * 5) elev.cells.toArray rfl rfl ?hth hsz (cells_one elev) ?_)
              case hth => exact hthq
              generalize wx.setCells N (k * 5) elev.cells.toArray.toList = w5 at hE ⊢
              go_roundw
              case rel => exact ⟨k + 1, by omega, by go_num, hE⟩
              case measure => simp [intOf]; omega
          · obtain ⟨hPr, hRr, hVr, hBr, hkr⟩ := mid_facts HP.out HB.out HR.out HA.out HV.out HS.out HNe.out HBW.out HK3.out HB3.out hkw HMR.out HMW.out HML.out HNc.out
            have H3r := hide hkw.size
            have cP1 : wr.cell? ⟨P, 1, none⟩ = some (.pointer (some ⟨R, 0, none⟩)) := blk_cell (i := 1) hPr rfl
            have HRr := hide hRr
            have HVr := hide hVr
            have HBr := hide hBr
            have HKr := hide hkr
            have HbS : Hid (∀ b off c, Value.slice ao l.length cap = .slice (some ⟨b, off, none⟩) l.length c → l ≠ [] → ¬ (b = R ∨ some b = cv.ownBlock ∨ some b = dv.ownBlock ∨ some b = tv.ownBlock)) := fun b off c he hne h => HS.out b off (by cases he; rfl) hne (Or.inr h)
            clear hPr hRr hVr hBr hkr hkw hra hth
            go_wp2_with (first | (go_at_call 114; refine (RSubmit_any R n _ l log cv dv tv _ HVr.out HRr.out hn60 hlog' HbS.out).mono ?_; rintro e w6 ⟨rfl, cv', dv', tv', hRf6, hk6, hmc, hmd, hmt⟩; have HE := hide (lsubmit_end HNe.out HBW.out HB.out HR.out HA.out HB3.out H3r.out HK3.out HMR.out HMW.out HML.out HKr.out HRr.out HBr.out hRf6 hk6 hmc hmd hmt); clear hRf6 hk6 hmc hmd hmt))
            go_ret
            exact ⟨by simp, _, _, _, _, _, _, HE.out⟩

end Go.Proofs.YtdbdljjhhehbiaaGreat
