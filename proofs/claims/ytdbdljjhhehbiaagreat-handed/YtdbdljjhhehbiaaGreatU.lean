import Derived.Test.YtdbdljjhhehbiaaGreatT
namespace Go.Proofs.YtdbdljjhhehbiaaGreat
open Go.RowKit

/-- A pair, and where it lies. -/
structure En where
  P : Nat
  B : Nat
  R : Nat
  n : Nat
  log : List UInt8
  rv : Value
  wv : Value
  lv : Value
  cv : Value
  dv : Value
  tv : Value
structure En.ok (e : En) (w : World) : Prop where
  blk : w.heap[e.P]? = some (.cells #[.pointer (some ⟨e.B, 0, none⟩), .pointer (some ⟨e.R, 0, none⟩)] 127 (0, 0))
  bk : Bk w e.B e.n e.log e.rv e.wv e.lv
  rf : Rf w e.R e.n e.log e.cv e.dv e.tv
  ap : Apart e.dv e.rv
  n60 : e.n ≤ 60
  small : e.log.length ≤ 400 * e.n
def En.S (e : En) (k : Nat) : Prop := Sp e.B e.R e.rv e.wv e.lv e.cv e.dv e.tv k
def En.foot (e : En) (k : Nat) : Prop := k = e.P ∨ e.S k
theorem En.ok.lt {e : En} {w : World} (h : e.ok w) {k : Nat} (hk : e.foot k) : k < w.heap.size := by
  have hb := h.bk.lts
  have hr := h.rf.lts
  rcases hk with rfl | (hk | hk | hk | hk) | (hk | hk | hk | hk)
  · exact lt_of_block h.blk
  · subst hk; exact hb.1
  · exact hb.2.1 _ hk.symm
  · exact hb.2.2.1 _ hk.symm
  · exact hb.2.2.2 _ hk.symm
  · subst hk; exact hr.1
  · exact hr.2.1 _ hk.symm
  · exact hr.2.2.1 _ hk.symm
  · exact hr.2.2.2 _ hk.symm
theorem En.ok.keeps {e : En} {S : Nat → Prop} {w w1 : World} (h : e.ok w) (k : Keeps S w w1) (hS : ∀ i, S i → ¬ e.foot i) : e.ok w1 :=
  ⟨blk_keeps h.blk k (fun s => hS _ s (Or.inl rfl)),
   h.bk.keeps k (fun s => hS _ s (Or.inr (Or.inl (Or.inl rfl)))) (fun i s he => hS i s (Or.inr (Or.inl (Or.inr (Or.inl he))))) (fun i s he => hS i s (Or.inr (Or.inl (Or.inr (Or.inr (Or.inl he)))))) (fun i s he => hS i s (Or.inr (Or.inl (Or.inr (Or.inr (Or.inr he)))))),
   h.rf.keeps k (fun s => hS _ s (Or.inr (Or.inr (Or.inl rfl)))) (fun i s he => hS i s (Or.inr (Or.inr (Or.inr (Or.inl he))))) (fun i s he => hS i s (Or.inr (Or.inr (Or.inr (Or.inr (Or.inl he)))))) (fun i s he => hS i s (Or.inr (Or.inr (Or.inr (Or.inr (Or.inr he)))))),
   h.ap, h.n60, h.small⟩
theorem En.ok.below {e : En} {w w1 : World} (h : e.ok w) (k : Below w.heap.size w w1) : e.ok w1 := h.keeps (Below.keeps k (fun _ => False)) (fun _ h => h.elim)
/-- A block of another type is no pair's. -/
theorem En.ok.apart {e : En} {w : World} (h : e.ok w) {V : Nat} {cs : Array Value} {t : TypeId} {fr : Nat × Nat} (hV : w.heap[V]? = some (.cells cs t fr))
    (ht : t ≠ 127 ∧ t ≠ 83 ∧ t ≠ 96 ∧ t ≠ 5 ∧ t ≠ 161 ∧ t ≠ 48 ∧ t ≠ 34 ∧ t ≠ 3) : ¬ e.foot V := by
  obtain ⟨h1, h2, h3, h4, h5, h6, h7, h8⟩ := ht
  obtain ⟨bt, wk, bn, mp, hb⟩ := h.bk.blk
  obtain ⟨vs, hv⟩ := h.bk.orr
  obtain ⟨xs, hx⟩ := h.bk.ow
  obtain ⟨sz, bat, pv, hr⟩ := h.rf.blk
  obtain ⟨ys, hy⟩ := h.rf.oc
  obtain ⟨zs, hz⟩ := h.rf.od
  obtain ⟨us, hu⟩ := h.rf.ot
  rintro (hk | (hk | hk | hk | hk) | (hk | hk | hk | hk))
  · subst hk; rw [h.blk] at hV; simp at hV; exact h1 hV.2.1.symm
  · subst hk; rw [hb] at hV; simp at hV; exact h2 hV.2.1.symm
  · exact own_apart hv hV (fun e => h7 e.symm) hk
  · exact own_apart hx hV (fun e => h3 e.symm) hk
  · exact own_apart h.bk.ol hV (fun e => h4 e.symm) hk
  · subst hk; rw [hr] at hV; simp at hV; exact h5 hV.2.1.symm
  · exact own_apart hy hV (fun e => h6 e.symm) hk
  · exact own_apart hz hV (fun e => h7 e.symm) hk
  · exact own_apart hu hV (fun e => h8 e.symm) hk

/-- The statement's world: the books beside one another. -/
structure Inv (base : Nat) (w : World) (V : Nat) (es : List En) : Prop where
  blk : ∃ psv, w.heap[V]? = some (.cells #[psv, .slice none 0 0, .slice none 0 0, .slice none 0 0, .slice none 0 0] 70 (0, 0)) ∧ w.ownsRow 0 71 1 psv es.length (es.map fun e => .pointer (some ⟨e.P, 0, none⟩)) ∧ (∀ k, psv.ownBlock = some k → base ≤ k)
  hV : base ≤ V
  ok : ∀ i (h : i < es.length), es[i].ok w
  lo : ∀ i (h : i < es.length) k, es[i].foot k → base ≤ k
  apart : ∀ i j (hi : i < es.length) (hj : j < es.length), i ≠ j → ∀ k, es[i].foot k → ¬ es[j].foot k

theorem Inv.below {base : Nat} {w w1 : World} {V : Nat} {es : List En} (h : Inv base w V es) (k : Below w.heap.size w w1) : Inv base w1 V es := by
  obtain ⟨psv, hb, ho, hl⟩ := h.blk
  exact ⟨⟨psv, (k.block V (lt_of_block hb)).trans hb, own_below ho k, hl⟩, h.hV, fun i hi => (h.ok i hi).below k, h.lo, h.apart⟩

/-- One pair moves on. -/
theorem Inv.move {base : Nat} {w w1 : World} {V : Nat} {es : List En} (h : Inv base w V es) (hbs : base ≤ w.heap.size) (i : Nat) (hi : i < es.length) (e' : En) (hP : e'.P = es[i].P) (hok : e'.ok w1) (hk : Keeps es[i].S w w1)
    (hf : ∀ k, e'.S k → es[i].S k ∨ w.heap.size ≤ k) : Inv base w1 V (es.set i e') := by
  obtain ⟨psv, hb, ho, hl⟩ := h.blk
  have hoki := h.ok i hi
  have hVn : ¬ es[i].S V := fun s => hoki.apart hb (by decide) (Or.inr s)
  have hpn : ∀ k, es[i].S k → some k ≠ psv.ownBlock := by
    intro k s he
    rcases ho.2 with ⟨rfl, _⟩ | ⟨g, cap, cur, rfl, _, hg, _⟩
    · simp [Value.ownBlock] at he
    · simp only [Value.ownBlock, Option.some.injEq] at he
      subst he
      exact hoki.apart hg (by decide) (Or.inr s)
  have hmap : (es.set i e').map (fun e => Value.pointer (some ⟨e.P, 0, none⟩)) = es.map (fun e => Value.pointer (some ⟨e.P, 0, none⟩)) := by
    apply List.ext_getElem?
    intro j
    simp only [List.getElem?_map, List.getElem?_set]
    by_cases hij : i = j
    · subst hij; simp [hi, hP]
    · simp [hij]
  have hfoot : ∀ k, e'.foot k → es[i].foot k ∨ w.heap.size ≤ k := by
    rintro k (rfl | hk)
    · exact Or.inl (Or.inl hP)
    · rcases hf k hk with h | h
      · exact Or.inl (Or.inr h)
      · exact Or.inr h
  refine ⟨⟨psv, blk_keeps hb hk hVn, ?_, hl⟩, h.hV, ?_, ?_, ?_⟩
  · rw [List.length_set, hmap]; exact own_keeps ho hk hpn
  · intro j hj
    rw [List.length_set] at hj
    by_cases hij : i = j
    · subst hij; simpa using hok
    · simp only [List.getElem_set, hij, if_false]
      exact (h.ok j hj).keeps hk (fun k s => h.apart i j hi hj hij k (Or.inr s))
  · intro j hj k hk'
    rw [List.length_set] at hj
    by_cases hij : i = j
    · subst hij
      simp only [List.getElem_set_self] at hk'
      rcases hfoot k hk' with h1 | h1
      · exact h.lo i hj k h1
      · omega
    · simp only [List.getElem_set, hij, if_false] at hk'
      exact h.lo j hj k hk'
  · intro a b ha hb' hab k ka kb
    rw [List.length_set] at ha hb'
    by_cases hia : i = a
    · subst hia
      have hib : ¬ i = b := fun e => hab e
      simp only [List.getElem_set_self] at ka
      simp only [List.getElem_set, hib, if_false] at kb
      rcases hfoot k ka with h1 | h1
      · exact h.apart i b ha hb' hab k h1 kb
      · have := (h.ok b hb').lt kb; omega
    · by_cases hib : i = b
      · subst hib
        simp only [List.getElem_set_self] at kb
        simp only [List.getElem_set, hia, if_false] at ka
        rcases hfoot k kb with h1 | h1
        · exact h.apart i a hb' ha (fun e => hia e) k h1 ka
        · have := (h.ok a ha).lt ka; omega
      · simp only [List.getElem_set, hia, hib, if_false] at ka kb
        exact h.apart a b ha hb' hab k ka kb

end Go.Proofs.YtdbdljjhhehbiaaGreat
