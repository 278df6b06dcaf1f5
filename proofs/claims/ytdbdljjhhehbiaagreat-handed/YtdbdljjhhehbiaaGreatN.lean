import Derived.Test.YtdbdljjhhehbiaaGreatM
import Derived.Deep.AppendLies
import Derived.Deep.RegionLaw
namespace Go.Proofs.YtdbdljjhhehbiaaGreat
open Go.RowKit

/-- Of what was there only what S names may have turned. -/
structure Keeps (S : Nat → Prop) (w w' : World) : Prop where
  os : w'.os = w.os
  tape : w'.tape = w.tape
  output : w'.output = w.output
  size : w.heap.size ≤ w'.heap.size
  block : ∀ k, k < w.heap.size → ¬ S k → w'.heap[k]? = w.heap[k]?
theorem Keeps.refl (S : Nat → Prop) (w : World) : Keeps S w w := ⟨rfl, rfl, rfl, Nat.le_refl _, fun _ _ _ => rfl⟩
theorem Keeps.trans {S T : Nat → Prop} {a b c : World} (h : Keeps S a b) (k : Keeps T b c) (hT : ∀ i, T i → i < a.heap.size → S i) : Keeps S a c :=
  ⟨k.os.trans h.os, k.tape.trans h.tape, k.output.trans h.output, Nat.le_trans h.size k.size, fun i hi hn => (k.block i (Nat.lt_of_lt_of_le hi h.size) (fun t => hn (hT i t hi))).trans (h.block i hi hn)⟩
theorem Keeps.mono {S T : Nat → Prop} {a b : World} (h : Keeps S a b) (hT : ∀ i, S i → T i) : Keeps T a b :=
  ⟨h.os, h.tape, h.output, h.size, fun i hi hn => h.block i hi (fun t => hn (hT i t))⟩
theorem Below.keeps {a b : World} (h : Below a.heap.size a b) (S : Nat → Prop) : Keeps S a b := ⟨h.os, h.tape, h.output, h.size, fun i hi _ => h.block i hi⟩
theorem Grew.keeps {a b : World} {v v' : Value} (h : Grew a b v v') : Keeps (fun k => some k = v.ownBlock) a b := ⟨h.gb.os, h.gb.tape, h.gb.output, h.gb.size, fun i hi hn => h.gb.block i hi hn⟩
theorem grown_keeps {a b : World} {r : Option Nat} (h : a.grownBy b r) : Keeps (fun k => some k = r) a b := ⟨h.os, h.tape, h.output, h.size, fun i hi hn => h.block i hi hn⟩
theorem setCell_keeps (w : World) (B i : Nat) (v : Value) : Keeps (fun k => k = B) w (w.setCell ⟨B, i, none⟩ v) := ⟨rfl, rfl, rfl, by simp [World.setCell], fun k _ hn => Below.heap_setCell _ _ _ _ hn⟩
theorem drew_keeps (S : Nat → Prop) (w : World) : Keeps S w w.drew := ⟨rfl, rfl, rfl, Nat.le_refl _, fun _ _ _ => rfl⟩
theorem own_keeps {S : Nat → Prop} {w w1 : World} {e size n : Nat} {v : Value} {xs : List Value} (h : w.ownsRow 0 e size v n xs) (k : Keeps S w w1) (hS : ∀ i, S i → some i ≠ v.ownBlock) : w1.ownsRow 0 e size v n xs := by
  refine ⟨h.1, ?_⟩
  rcases h.2 with hn | ⟨g, cap, cur, rfl, hb, hgg, rest⟩
  · exact .inl hn
  · refine .inr ⟨g, cap, cur, rfl, hb, ?_, rest⟩
    rw [k.block g (Array.getElem?_eq_some_iff.1 hgg).1 (fun s => hS g s rfl)]
    exact hgg
theorem blk_keeps {S : Nat → Prop} {w w1 : World} {B : Nat} {o : Obj} (h : w.heap[B]? = some o) (k : Keeps S w w1) (hS : ¬ S B) : w1.heap[B]? = some o := by
  rw [k.block B (lt_of_block h) hS]; exact h
theorem blk_cell {w : World} {B i : Nat} {cs : Array Value} {t : TypeId} {v : Value} (h : w.heap[B]? = some (.cells cs t (0, 0))) (hv : cs[i]? = some v) : w.cell? ⟨B, i, none⟩ = some v := by rw [cell_of_row w B i cs t (0, 0) h]; exact hv
theorem blk_free {w : World} {B i : Nat} {cs : Array Value} {t : TypeId} (h : w.heap[B]? = some (.cells cs t (0, 0))) : w.frozen? ⟨B, i, none⟩ = false := by simp [World.frozen?, h]
theorem blk_set {w : World} {B i : Nat} {cs : Array Value} {t : TypeId} {u : Value} (h : w.heap[B]? = some (.cells cs t (0, 0))) : (w.setCell ⟨B, i, none⟩ u).heap[B]? = some (.cells (cs.setIfInBounds i u) t (0, 0)) := by
  simp only [World.setCell, Array.getElem?_modify, if_true, h]; rfl
/-- A row's block has its own type: rows of other types, and blocks of structs, lie elsewhere. -/
theorem own_apart {w : World} {e size n B : Nat} {v : Value} {xs : List Value} {cs : Array Value} {t : TypeId} {fr : Nat × Nat} (h : w.ownsRow 0 e size v n xs) (hB : w.heap[B]? = some (.cells cs t fr)) (hne : e ≠ t) : some B ≠ v.ownBlock := by
  rcases h.2 with ⟨rfl, _⟩ | ⟨g, cap, cur, rfl, hb, hgg, rest⟩
  · simp [Value.ownBlock]
  · simp only [Value.ownBlock, ne_eq, Option.some.injEq]
    rintro rfl
    rw [hgg] at hB
    simp only [Option.some.injEq, Obj.cells.injEq] at hB
    exact hne hB.2.1
theorem own_apart2 {w : World} {e e' size size' n n' : Nat} {v v' : Value} {xs xs' : List Value} (h : w.ownsRow 0 e size v n xs) (h' : w.ownsRow 0 e' size' v' n' xs') (hne : e ≠ e') : v.ownBlock = none ∨ v.ownBlock ≠ v'.ownBlock := by
  rcases h.2 with ⟨rfl, _⟩ | ⟨g, cap, cur, rfl, hb, hgg, rest⟩
  · exact Or.inl rfl
  · right
    have := own_apart h' hgg (fun e => hne e.symm)
    simpa [Value.ownBlock] using this
/-- v' lies where v lay, or in what is new since w. -/
def Moved (w : World) (v v' : Value) : Prop := v'.ownBlock = v.ownBlock ∨ ∃ g, v'.ownBlock = some g ∧ w.heap.size ≤ g
theorem Moved.refl (w : World) (v : Value) : Moved w v v := Or.inl rfl

/-- A book of the program: its results, what waits, its log. -/
structure Bk (w : World) (B n : Nat) (log : List UInt8) (rv wv lv : Value) : Prop where
  blk : ∃ (bt wk bn : Int) (mp : Value), w.heap[B]? = some (.cells #[.int .i64 bt, .int .i64 wk, mp, rv, wv, .int .i64 bn, lv] 83 (0, 0))
  orr : ∃ xs, w.ownsRow 0 34 4 rv n xs
  ow : ∃ xs, w.ownsRow 0 96 2 wv n xs
  ol : ownB w lv log
theorem Bk.keeps {S : Nat → Prop} {w w1 : World} {B n : Nat} {log : List UInt8} {rv wv lv : Value} (h : Bk w B n log rv wv lv) (k : Keeps S w w1) (hB : ¬ S B) (h0 : ∀ i, S i → some i ≠ rv.ownBlock) (h1 : ∀ i, S i → some i ≠ wv.ownBlock) (h2 : ∀ i, S i → some i ≠ lv.ownBlock) : Bk w1 B n log rv wv lv := by
  obtain ⟨bt, wk, bn, mp, hb⟩ := h.blk
  obtain ⟨ys, hy⟩ := h.orr
  obtain ⟨xs, hx⟩ := h.ow
  exact ⟨⟨bt, wk, bn, mp, blk_keeps hb k hB⟩, ⟨ys, own_keeps hy k h0⟩, ⟨xs, own_keeps hx k h1⟩, own_keeps h.ol k h2⟩
/-- The blocks of a book that may turn. -/
def Sb (B : Nat) (rv wv lv : Value) (k : Nat) : Prop := k = B ∨ some k = rv.ownBlock ∨ some k = wv.ownBlock ∨ some k = lv.ownBlock
/-- Two rows lie apart, or the first lies nowhere. -/
def Apart (v v' : Value) : Prop := v.ownBlock = none ∨ v.ownBlock ≠ v'.ownBlock

set_option maxRecDepth 100000 in
set_option maxHeartbeats 400000 in
theorem Submit_no (B : Nat) (cv : Value) (w : World) (hno : ∀ w, Calls Tryz.prog 35 #[cv] w fun e w' => e = .returned (.tuple #[.slice none 0 0, .bool false]) ∧ Below w.heap.size w w') :
    Calls Tryz.prog 17 #[.pointer (some ⟨B, 0, none⟩), cv] w fun e w' => e = .returned (.tuple #[.int .i64 0, .int .i64 2]) ∧ Below w.heap.size w w' := by
  have Hno := Hid.out hno
  have HN : Hid _ := hno
  clear hno Hno
  go_enter Tryz.func17, Tryz.ntmps17
  go_wp2_with (first | (go_at_call 35; refine (HN.out _).mono ?_; rintro e w' ⟨rfl, hb⟩))
  go_ret2
  exact ⟨rfl, hb⟩

end Go.Proofs.YtdbdljjhhehbiaaGreat
