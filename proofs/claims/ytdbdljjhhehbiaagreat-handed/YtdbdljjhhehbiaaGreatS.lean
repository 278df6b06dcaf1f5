import Derived.Test.YtdbdljjhhehbiaaGreatR
namespace Go.Proofs.YtdbdljjhhehbiaaGreat
open Go.RowKit

set_option maxRecDepth 100000 in
set_option maxHeartbeats 400000 in
theorem markIns_any (w : World) :
    Calls Tryz.prog 113 #[] w fun e w' => e = .returned (.agg #[.int .i64 (-77), .int .i64 0, .int .i64 0, .int .i64 0, .string ⟨#[109, 97, 114, 107]⟩]) ∧ w' = w.alloc (.cells #[.int .i64 (-77), .int .i64 0, .int .i64 0, .int .i64 0, .string ⟨#[109, 97, 114, 107]⟩] 47) := by
  go_enter Tryz.func113, Tryz.ntmps113
  go_wp2
  exact bodyPost_ret (v := .agg #[.int .i64 (-77), .int .i64 0, .int .i64 0, .int .i64 0, .string ⟨#[109, 97, 114, 107]⟩]) (by simp [results, Tryz.results113, go_sem]) rfl ⟨rfl, rfl⟩

/-- A list of instructions as a slice value. -/
structure CodeV (w : World) (v : Value) (l : List I) : Prop where
  form : ∃ ao cap, v = .slice ao l.length cap ∧ (l ≠ [] → ∃ b off, ao = some ⟨b, off, none⟩ ∧ CodeAt w b off l)
  small : l.length * 48 ≤ 140737488351232

def acc (l : List I) (n : Nat) : Bool := isProg l && decide (n < 60)
def subId (l : List I) (n : Nat) : Int := if acc l n then (n : Int) + 1 else 0
def subErr (l : List I) (n : Nat) : Int := if isProg l then (if n < 60 then 0 else 3) else 2
def subN (l : List I) (n : Nat) : Nat := if acc l n then n + 1 else n
def subLog (l : List I) (n : Nat) (log : List UInt8) : List UInt8 := if acc l n then log ++ entryOf [83] (payloadOf l) else log

theorem POf_no {w : World} {v : Value} {l : List I} (hv : CodeV w v l) (hp : isProg l = false) :
    Calls Tryz.prog 35 #[v] w fun e w' => e = .returned (.tuple #[.slice none 0 0, .bool false]) ∧ Below w.heap.size w w' := by
  obtain ⟨⟨ao, cap, rfl, hc⟩, hs⟩ := hv
  by_cases hl : l.length = 0 ∨ 20 < l.length
  · refine (POf_len ao l.length cap w (by unfold maxLen; omega) hl).mono ?_
    rintro e w' ⟨rfl, rfl⟩
    exact ⟨rfl, Below.refl _ _⟩
  · obtain ⟨b, off, rfl, hca⟩ := hc (by intro h; rw [h] at hl; simp at hl)
    refine (POf_any b off cap l w hca.wf hca.at' (by omega) (by omega) hca.lt).mono ?_
    rintro e w' ⟨h | h, hb⟩
    · exact ⟨h.2, hb⟩
    · rw [hp] at h; exact absurd h.1 (by simp)
theorem Program_no {w : World} {v : Value} {l : List I} (hv : CodeV w v l) (hp : isProg l = false) :
    Calls Tryz.prog 145 #[v] w fun e w' => e = .returned (.bool false) ∧ Below w.heap.size w w' := by
  obtain ⟨⟨ao, cap, rfl, hc⟩, hs⟩ := hv
  by_cases hl : l.length = 0 ∨ 20 < l.length
  · refine (Program_len ao l.length cap w (by unfold maxLen; omega) hl).mono ?_
    rintro e w' ⟨rfl, rfl⟩
    exact ⟨rfl, Below.refl _ _⟩
  · obtain ⟨b, off, rfl, hca⟩ := hc (by intro h; rw [h] at hl; simp at hl)
    have h := Program_any b off cap l w hca.wf hca.at' (by omega) (by omega) hca.lt
    rwa [hp] at h

set_option maxRecDepth 100000 in
set_option maxHeartbeats 400000 in
theorem Submit_no' (B : Nat) (v : Value) (l : List I) (w : World) (hv : CodeV w v l) (hp : isProg l = false) :
    Calls Tryz.prog 17 #[.pointer (some ⟨B, 0, none⟩), v] w fun e w' => e = .returned (.tuple #[.int .i64 0, .int .i64 2]) ∧ Below w.heap.size w w' := by
  have HN := hide hv
  clear hv
  go_enter Tryz.func17, Tryz.ntmps17
  go_wp2_with (first | (go_at_call 35; refine (POf_no HN.out hp).mono ?_; rintro e w' ⟨rfl, hb⟩))
  go_ret2
  exact ⟨rfl, hb⟩
set_option maxRecDepth 100000 in
set_option maxHeartbeats 400000 in
theorem RSubmit_no' (R : Nat) (v : Value) (l : List I) (w : World) (hv : CodeV w v l) (hp : isProg l = false) :
    Calls Tryz.prog 114 #[.pointer (some ⟨R, 0, none⟩), v] w fun e w' => e = .returned (.tuple #[.int .i64 0, .int .i64 2]) ∧ Below w.heap.size w w' := by
  have HN := hide hv
  clear hv
  go_enter Tryz.func114, Tryz.ntmps114
  go_wp2_with (first | (go_at_call 145; refine (Program_no HN.out hp).mono ?_; rintro e w' ⟨rfl, hb⟩))
  go_ret2
  exact ⟨rfl, hb⟩

theorem Bk.below {w w1 : World} {B n : Nat} {log : List UInt8} {rv wv lv : Value} (h : Bk w B n log rv wv lv) (k : Below w.heap.size w w1) : Bk w1 B n log rv wv lv :=
  h.keeps (Below.keeps k (fun _ => False)) (fun h => h) (fun _ h => h.elim) (fun _ h => h.elim) (fun _ h => h.elim)
theorem Rf.below {w w1 : World} {R n : Nat} {log : List UInt8} {cv dv tv : Value} (h : Rf w R n log cv dv tv) (k : Below w.heap.size w w1) : Rf w1 R n log cv dv tv :=
  h.keeps (Below.keeps k (fun _ => False)) (fun h => h) (fun _ h => h.elim) (fun _ h => h.elim) (fun _ h => h.elim)

theorem Submit_any (B n : Nat) (v : Value) (l : List I) (log : List UInt8) (rv wv lv : Value) (w : World) (hv : CodeV w v l) (hB : Bk w B n log rv wv lv) (hn : n ≤ 60) (hlog : log.length ≤ 50000) :
    Calls Tryz.prog 17 #[.pointer (some ⟨B, 0, none⟩), v] w fun e w' => e = .returned (.tuple #[.int .i64 (subId l n), .int .i64 (subErr l n)]) ∧ ∃ rv' wv' lv', Bk w' B (subN l n) (subLog l n log) rv' wv' lv' ∧ Keeps (Sb B rv wv lv) w w' ∧ Moved w rv rv' ∧ Moved w wv wv' ∧ Moved w lv lv' := by
  cases hp : isProg l
  · refine (Submit_no' B v l w hv hp).mono ?_
    rintro e w' ⟨rfl, hb⟩
    have ha : acc l n = false := by simp [acc, hp]
    refine ⟨by simp [subId, subErr, ha, hp], rv, wv, lv, ?_, Below.keeps hb _, Moved.refl _ _, Moved.refl _ _, Moved.refl _ _⟩
    simp only [subN, subLog, ha, Bool.false_eq_true, if_false]
    exact hB.below hb
  · have hl := isProg_len hp
    obtain ⟨ao, cap, rfl, hc⟩ := hv.form
    obtain ⟨b, off, rfl, hca⟩ := hc (by intro h; rw [h] at hl; simp at hl)
    by_cases h60 : n < 60
    · refine (Submit_yes B b off cap n l log rv wv lv w hca hp hB h60 hlog).mono ?_
      rintro e w' ⟨rfl, rv', wv', lv', h1, h2, h3, h4, h5⟩
      have ha : acc l n = true := by simp [acc, hp, h60]
      refine ⟨by simp [subId, subErr, ha, hp, h60], rv', wv', lv', ?_, h2, h3, h4, h5⟩
      simp only [subN, subLog, ha, if_true]
      exact h1
    · obtain rfl : n = 60 := by omega
      refine (Submit_full B b off cap l log rv wv lv w hca hp hB).mono ?_
      rintro e w' ⟨rfl, hb⟩
      have ha : acc l 60 = false := by simp [acc]
      refine ⟨by simp [subId, subErr, ha, hp], rv, wv, lv, ?_, Below.keeps hb _, Moved.refl _ _, Moved.refl _ _, Moved.refl _ _⟩
      simp only [subN, subLog, ha, Bool.false_eq_true, if_false]
      exact hB.below hb

theorem RSubmit_any (R n : Nat) (v : Value) (l : List I) (log : List UInt8) (cv dv tv : Value) (w : World) (hv : CodeV w v l) (hR : Rf w R n log cv dv tv) (hn : n ≤ 60) (hlog : log.length ≤ 50000)
    (hbS : ∀ b off c, v = .slice (some ⟨b, off, none⟩) l.length c → l ≠ [] → ¬ (b = R ∨ some b = cv.ownBlock ∨ some b = dv.ownBlock ∨ some b = tv.ownBlock)) :
    Calls Tryz.prog 114 #[.pointer (some ⟨R, 0, none⟩), v] w fun e w' => e = .returned (.tuple #[.int .i64 (subId l n), .int .i64 (subErr l n)]) ∧ ∃ cv' dv' tv', Rf w' R (subN l n) (subLog l n log) cv' dv' tv' ∧ Keeps (fun k => k = R ∨ some k = cv.ownBlock ∨ some k = dv.ownBlock ∨ some k = tv.ownBlock) w w' ∧ Moved w cv cv' ∧ Moved w dv dv' ∧ Moved w tv tv' := by
  cases hp : isProg l
  · refine (RSubmit_no' R v l w hv hp).mono ?_
    rintro e w' ⟨rfl, hb⟩
    have ha : acc l n = false := by simp [acc, hp]
    refine ⟨by simp [subId, subErr, ha, hp], cv, dv, tv, ?_, Below.keeps hb _, Moved.refl _ _, Moved.refl _ _, Moved.refl _ _⟩
    simp only [subN, subLog, ha, Bool.false_eq_true, if_false]
    exact hR.below hb
  · have hl := isProg_len hp
    obtain ⟨ao, cap, rfl, hc⟩ := hv.form
    have hne : l ≠ [] := by intro h; rw [h] at hl; simp at hl
    obtain ⟨b, off, rfl, hca⟩ := hc hne
    by_cases h60 : n < 60
    · refine (RSubmit_yes R b off cap n l log cv dv tv w hca hp hR h60 hlog (hbS b off cap rfl hne)).mono ?_
      rintro e w' ⟨rfl, cv', dv', tv', h1, h2, h3, h4, h5⟩
      have ha : acc l n = true := by simp [acc, hp, h60]
      refine ⟨by simp [subId, subErr, ha, hp, h60], cv', dv', tv', ?_, h2, h3, h4, h5⟩
      simp only [subN, subLog, ha, if_true]
      exact h1
    · obtain rfl : n = 60 := by omega
      refine (RSubmit_full R b off cap l log cv dv tv w hca hp hR).mono ?_
      rintro e w' ⟨rfl, hb⟩
      have ha : acc l 60 = false := by simp [acc]
      refine ⟨by simp [subId, subErr, ha, hp], cv, dv, tv, ?_, Below.keeps hb _, Moved.refl _ _, Moved.refl _ _, Moved.refl _ _⟩
      simp only [subN, subLog, ha, Bool.false_eq_true, if_false]
      exact hR.below hb

theorem subN_le (l : List I) (n : Nat) (h : n ≤ 60) : subN l n ≤ 60 := by
  unfold subN acc; split
  · rename_i h2; simp at h2; omega
  · exact h
theorem subLog_le (l : List I) (n : Nat) (log : List UInt8) (h : log.length ≤ 400 * n) : (subLog l n log).length ≤ 400 * subN l n := by
  unfold subLog subN
  cases ha : acc l n
  · simpa using h
  · have hp : isProg l = true := by simp only [acc, Bool.and_eq_true] at ha; exact ha.1
    have hl := isProg_len hp
    have := payload_length l (fun x hx hk => insOk_size (hl.2.2 x hx) hk)
    simp only [if_true, List.length_append, entry_length, List.length_cons, List.length_nil]
    omega

end Go.Proofs.YtdbdljjhhehbiaaGreat
