import Derived.Test.YtdbdljjhhehbiaaGreatL
namespace Go.Proofs.YtdbdljjhhehbiaaGreat
open Go.RowKit

/-- A kept instruction in eight cells. -/
structure pAt (w : World) (b off : Nat) (x : I) : Prop where
  c0 : w.cell? ⟨b, off, none⟩ = some (.int .u8 x.op)
  c1 : w.cell? ⟨b, off + 1, none⟩ = some (.int .u8 x.r)
  c2 : w.cell? ⟨b, off + 2, none⟩ = some (.int .u8 x.s)
  c3 : w.cell? ⟨b, off + 3, none⟩ = some (.int .i64 (pN x))
  c4 : w.cell? ⟨b, off + 4, none⟩ = some (.int .u8 (kN (pK x) 0))
  c5 : w.cell? ⟨b, off + 5, none⟩ = some (.int .u8 (kN (pK x) 1))
  c6 : w.cell? ⟨b, off + 6, none⟩ = some (.int .u8 (kN (pK x) 2))
  c7 : w.cell? ⟨b, off + 7, none⟩ = some (.int .u8 (kN (pK x) 3))
theorem pAt_of {w : World} {G : Nat} {l : List I} (h : w.rangeAt G 0 (flatP l)) (j : Nat) (hj : j < l.length) : pAt w G (j * 8) l[j] := by
  have key : ∀ i (hi : i < 8), w.cell? ⟨G, j * 8 + i, none⟩ = (pI l[j]).toList[i]? := by
    intro i hi
    have e : (flatP l)[j * 8 + i]? = (pI l[j]).toList[i]? := by
      have hs : l = l.take j ++ l[j] :: l.drop (j + 1) := by rw [List.getElem_cons_drop]; simp
      have hl8 : (flatP (l.take j)).length = j * 8 := by rw [flatP_length, List.length_take]; omega
      have hf : flatP l = flatP (l.take j) ++ ((pI l[j]).toList ++ flatP (l.drop (j + 1))) := by
        conv => lhs; rw [hs]
        simp only [flatP, List.map_append, List.map_cons, List.flatten_append, List.flatten_cons]
      rw [hf, List.getElem?_append_right (by omega), hl8, Nat.add_sub_cancel_left, List.getElem?_append_left (by rw [pI_length]; exact hi)]
    have hsome : ∃ v, (pI l[j]).toList[i]? = some v := ⟨_, List.getElem?_eq_getElem (by rw [pI_length]; exact hi)⟩
    obtain ⟨v, hv⟩ := hsome
    rw [hv]
    have := h (j * 8 + i) v (by rw [e, hv])
    rwa [Nat.zero_add] at this
  exact ⟨key 0 (by omega), key 1 (by omega), key 2 (by omega), key 3 (by omega), key 4 (by omega), key 5 (by omega), key 6 (by omega), key 7 (by omega)⟩
theorem pAt_block {w w' : World} {b off : Nat} {x : I} (h : pAt w b off x) (hb : w'.heap[b]? = w.heap[b]?) : pAt w' b off x := by
  obtain ⟨h0, h1, h2, h3, h4, h5, h6, h7⟩ := h
  exact ⟨(World.cell?_of_block hb).trans h0, (World.cell?_of_block hb).trans h1, (World.cell?_of_block hb).trans h2, (World.cell?_of_block hb).trans h3, (World.cell?_of_block hb).trans h4, (World.cell?_of_block hb).trans h5, (World.cell?_of_block hb).trans h6, (World.cell?_of_block hb).trans h7⟩
theorem pAt_new (w : World) (x : I) : pAt (w.alloc (.cells #[.int .u8 x.op, .int .u8 x.r, .int .u8 x.s, .int .i64 (pN x), .int .u8 (kN (pK x) 0), .int .u8 (kN (pK x) 1), .int .u8 (kN (pK x) 2), .int .u8 (kN (pK x) 3)] 152)) w.heap.size 0 x :=
  ⟨by simp, by simp, by simp, by simp, by simp, by simp, by simp, by simp⟩
theorem Grew.far {w w' : World} {v v' : Value} (h : Grew w w' v v') {B : Nat} (hB : B < w.heap.size) (hne : some B ≠ v.ownBlock) : w'.heap[B]? = w.heap[B]? ∧ some B ≠ v'.ownBlock ∧ B < w'.heap.size := by
  refine ⟨h.gb.block B hB hne, ?_, Nat.lt_of_lt_of_le hB h.gb.size⟩
  rcases h.lies with e | ⟨g, e, hg⟩
  · rw [e]; exact hne
  · rw [e]; intro h2; simp at h2; omega
theorem Grew.nil_below {w w' : World} {v' : Value} (h : Grew w w' (.slice none 0 0) v') : Below w.heap.size w w' := ⟨h.gb.os, h.gb.tape, h.gb.output, h.gb.size, fun k hk => h.gb.block k hk (by simp [Value.ownBlock])⟩
theorem new_bytes1 (w : World) (o : Obj) (cs : Array Value) (t : TypeId) (news : List UInt8) (h : cs.toList = news.map bv) : ∀ j u, (news.map bv)[j]? = some u → ((w.alloc o).alloc (.cells cs t)).cell? ⟨w.heap.size + 1, 0 + j, none⟩ = some u := by
  have := new_bytes (w.alloc o) cs t news h
  simpa using this
theorem new_bytesN (W : World) (N : Nat) (hN : W.heap.size = N) (cs : Array Value) (t : TypeId) (news : List UInt8) (h : cs.toList = news.map bv) : ∀ j u, (news.map bv)[j]? = some u → (W.alloc (.cells cs t)).cell? ⟨N, 0 + j, none⟩ = some u := by
  subst hN; exact new_bytes W cs t news h
theorem kN_bv (l : List UInt8) (j : Nat) (h : j < l.length) : Value.int .u8 (kN l j) = bv l[j] := by
  unfold kN bv; rw [List.getD_eq_getElem?_getD, List.getElem?_eq_getElem h]; rfl
theorem pAt_keys {w : World} {B : Nat} {x : I} (h : pAt w B 0 x) (h4 : (pK x).length ≤ 4) : ∀ j u, ((pK x).map bv)[j]? = some u → w.cell? ⟨B, 4 + j, none⟩ = some u := by
  intro j u hu
  have hj : j < (pK x).length := by
    rcases Nat.lt_or_ge j (pK x).length with h1 | h1
    · exact h1
    · rw [List.getElem?_eq_none (by simpa using h1)] at hu; cases hu
  rw [List.getElem?_map, List.getElem?_eq_getElem hj] at hu
  simp only [Option.map_some, Option.some.injEq] at hu
  rw [← hu, ← kN_bv _ _ hj]
  have h4' : j = 0 ∨ j = 1 ∨ j = 2 ∨ j = 3 := by omega
  rcases h4' with rfl | rfl | rfl | rfl
  · simpa using h.c4
  · simpa using h.c5
  · simpa using h.c6
  · simpa using h.c7
theorem sliceAt_key1 (B : Nat) (w : World) : (Instr.sliceAt 105 (.pointer (some ⟨B, 4, none⟩)) none (some (.int .i64 1)) none).run Tryz.prog w = .ok (.slice (some ⟨B, 4, none⟩) 1 4) w := by kernel_rfl
theorem sliceAt_key2 (B : Nat) (w : World) : (Instr.sliceAt 105 (.pointer (some ⟨B, 4, none⟩)) none (some (.int .i64 2)) none).run Tryz.prog w = .ok (.slice (some ⟨B, 4, none⟩) 2 4) w := by kernel_rfl
theorem sliceAt_key3 (B : Nat) (w : World) : (Instr.sliceAt 105 (.pointer (some ⟨B, 4, none⟩)) none (some (.int .i64 3)) none).run Tryz.prog w = .ok (.slice (some ⟨B, 4, none⟩) 3 4) w := by kernel_rfl
theorem sliceAt_key4 (B : Nat) (w : World) : (Instr.sliceAt 105 (.pointer (some ⟨B, 4, none⟩)) none (some (.int .i64 4)) none).run Tryz.prog w = .ok (.slice (some ⟨B, 4, none⟩) 4 4) w := by kernel_rfl
theorem sliceAt_key (B n : Nat) (w : World) (h1 : 1 ≤ n) (h4 : n ≤ 4) : (Instr.sliceAt 105 (.pointer (some ⟨B, 4, none⟩)) none (some (.int .i64 (n : Int))) none).run Tryz.prog w = .ok (.slice (some ⟨B, 4, none⟩) n 4) w := by
  have h : n = 1 ∨ n = 2 ∨ n = 3 ∨ n = 4 := by omega
  rcases h with rfl | rfl | rfl | rfl
  · exact sliceAt_key1 B w
  · exact sliceAt_key2 B w
  · exact sliceAt_key3 B w
  · exact sliceAt_key4 B w
theorem bv_byt (n : Int) (h0 : 0 ≤ n) (h1 : n < 256) : bv (byt n) = .int .u8 n := by rw [← u8_of]; congr 1; omega

theorem insOk_bd {len : Nat} {x : I} (h : insOk len x = true) : (0 ≤ x.op ∧ x.op ≤ 11) ∧ (0 ≤ x.r ∧ x.r ≤ 3) ∧ (0 ≤ x.s ∧ x.s ≤ 3) ∧ (keyed x.op = true → isKey x.key.data.toList = true) := by
  simp only [insOk, decide_eq_true_eq] at h
  exact ⟨⟨h.1, h.2.1⟩, ⟨h.2.2.1, h.2.2.2.1⟩, ⟨h.2.2.2.2.1, h.2.2.2.2.2.1⟩, fun hk => h.2.2.2.2.2.2.2 (by simpa [keyed] using hk)⟩
theorem isKey_bd {l : List UInt8} (h : isKey l = true) : l.all letter = true ∧ 1 ≤ l.length ∧ l.length ≤ 4 := by
  simp only [isKey, Bool.and_eq_true, decide_eq_true_eq] at h
  exact ⟨h.1, h.2.1, h.2.2⟩
theorem insOk_size {len : Nat} {x : I} (h : insOk len x = true) (hk : keyed x.op = true) : x.key.size ≤ 4 := (isKey_bd ((insOk_bd h).2.2.2 hk)).2.2
theorem pK_key {len : Nat} {x : I} (h : insOk len x = true) (hk : keyed x.op = true) : pK x = x.key.data.toList := by
  simp only [pK, hk, if_true, keyOf, (insOk_bd h).2.2.2 hk]
set_option maxRecDepth 100000 in
set_option maxHeartbeats 1000000 in
theorem PPayload_any (G : Nat) (l : List I) (w : World) (hwf : ∀ x ∈ l, x.wf) (hok : ∀ x ∈ l, insOk l.length x = true) (hc : w.rangeAt G 0 (flatP l)) (hlen : l.length ≤ 20) (_hGw : G < w.heap.size) :
    Calls Tryz.prog 36 #[.slice (some ⟨G, 0, none⟩) l.length l.length] w fun e w' => ∃ v', e = .returned v' ∧ ownB w' v' (payloadOf l) ∧ Grew w w' (.slice none 0 0) v' := by
  go_enter Tryz.func36, Tryz.ntmps36
  go_wp2
  go_loopw [3, 9] (fun v i wr => ∃ k : Nat, k ≤ l.length ∧ i = .int .i64 k ∧ ownB wr v (payloadOf (l.take k)) ∧ Grew w wr (.slice none 0 0) v) (fun _ i _ => l.length - (intOf i).toNat)
  case atStart => exact ⟨0, Nat.zero_le _, rfl, World.ownsRow_nil _ _ _ _, Grew.refl _ _⟩
  case round =>
    obtain ⟨k, hk, rfl, hov, hgv⟩ := hrel
    by_cases hlt : k < l.length
    · obtain ⟨x, hx⟩ : ∃ x, x = l[k] := ⟨_, rfl⟩
      have hp := pAt_of (rangeAt_below hc hgv.nil_below) k hlt
      rw [← hx] at hp
      have Hx : Hid (x = l[k]) := hx
      clear hx hc
      have hxok : insOk l.length x = true := by rw [Hx.out]; exact hok _ (List.getElem_mem _)
      have hxwf : x.wf := by rw [Hx.out]; exact hwf _ (List.getElem_mem _)
      have hks : ∀ y ∈ l, keyed y.op = true → y.key.size ≤ 4 := fun y hy hky => insOk_size (hok y hy) hky
      have hpl := payload_length (l.take k) (fun y hy => hks y (List.mem_of_mem_take hy))
      have hpl2 : (l.take k).length ≤ 20 := by rw [List.length_take]; omega
      have HP : Hid (payloadOf (l.take (k + 1)) = payloadOf (l.take k) ++ insBytes x) := by
        show _ = _
        rw [List.take_succ_eq_append_getElem hlt, payload_snoc, Hx.out]
      generalize payloadOf (l.take k) = p at hpl HP hov
      have hpl3 : p.length ≤ 320 := by omega
      clear hpl hpl2
      obtain ⟨c0, c1, c2, c3, c4, c5, c6, c7⟩ := hp
      have hbox := pAt_new wr x
      have hbd := insOk_bd hxok
      have HO : Hid (pAt ((wr.alloc (.cells #[.int .u8 x.op, .int .u8 x.r, .int .u8 x.s, .int .i64 (pN x), .int .u8 (kN (pK x) 0), .int .u8 (kN (pK x) 1), .int .u8 (kN (pK x) 2), .int .u8 (kN (pK x) 3)] 152)).alloc (.cells #[.int .u8 x.op, .int .u8 x.r, .int .u8 x.s] 5)) wr.heap.size 0 x) := pAt_block hbox (Below.heap_alloc _ _ _ (by simp))
      have HA : Hid (Below wr.heap.size wr ((wr.alloc (.cells #[.int .u8 x.op, .int .u8 x.r, .int .u8 x.s, .int .i64 (pN x), .int .u8 (kN (pK x) 0), .int .u8 (kN (pK x) 1), .int .u8 (kN (pK x) 2), .int .u8 (kN (pK x) 3)] 152)).alloc (.cells #[.int .u8 x.op, .int .u8 x.r, .int .u8 x.s] 5))) := ((Below.refl _ _).alloc (Nat.le_refl _) _).alloc (by simp) _
      clear hbox
      go_wp2_with (at_builtin; refine appB rfl (.tmp 13) (.tmp 20) rfl _ p rfl ?ho (wr.heap.size + 1) 0 3 3 [byt x.op, byt x.r, byt x.s] rfl rfl ?c1 ?c2 ?_)
      case ho => exact own_below hov HA.out
      case c1 => exact new_bytes1 wr _ _ 5 _ (by simp only [List.map_cons, List.map_nil, bv_byt x.op (by omega) (by omega), bv_byt x.r (by omega) (by omega), bv_byt x.s (by omega) (by omega)])
      case c2 => omega
      intro v1 w1 ho1 hg1
      have hg1' : Grew wr w1 u3 v1 := Grew.behind HA.out hg1
      obtain ⟨hB1, hn1, hs1⟩ := hg1.far (B := wr.heap.size) (by simp; omega) (by intro h; have := (World.ownsRow.lt hov _ h.symm).2; omega)
      have hp1 := pAt_block HO.out hB1
      have hg2 := hgv.trans hg1'
      clear hov hgv hg1 hg1' HA HO hB1 c0 c1 c2 c3 c4 c5 c6 c7
      generalize wr.heap.size = B at hn1 hs1 hp1 ⊢
      obtain ⟨d0, d1, d2, d3, d4, d5, d6, d7⟩ := hp1
      simp only [Nat.zero_add] at d0 d1 d2 d3 d4 d5 d6 d7
      have hl3 : (p ++ [byt x.op, byt x.r, byt x.s]).length ≤ 323 := by simp; omega
      cases hn : numbered x.op
      · cases hky : keyed x.op
        · rw [insBytes_none x hn hky] at HP
          generalize p ++ [byt x.op, byt x.r, byt x.s] = p2 at hl3 HP ho1 ⊢
          go_wp2_with (first | (go_at_call 74; refine (needsNumber_any _ _).mono ?_; rintro e w' ⟨rfl, rfl⟩) | (go_at_call 76; refine (needsKey_any _ _).mono ?_; rintro e w' ⟨rfl, rfl⟩))
          go_roundw
          case rel => exact ⟨k + 1, by omega, by go_num, by rw [HP.out]; exact ho1, hg2⟩
          case measure => simp [intOf]; omega
        · rw [insBytes_key x hn hky, ← List.append_assoc] at HP
          have hKe := pK_key hxok hky
          have hKb := isKey_bd (hbd.2.2.2 hky)
          rw [← hKe] at hKb HP
          have hsz : x.key.size = (pK x).length := by rw [hKe]; rfl
          rw [hsz] at HP
          have HKl : Hid ((pK x).all letter = true) := hKb.1
          have hK1 := hKb.2.1
          have hK4 := hKb.2.2
          clear hKe hKb hsz
          generalize p ++ [byt x.op, byt x.r, byt x.s] = p2 at hl3 HP ho1 ⊢
          go_wp2_with (first | (go_at_call 74; refine (needsNumber_any _ _).mono ?_; rintro e w' ⟨rfl, rfl⟩) | (go_at_call 76; refine (needsKey_any _ _).mono ?_; rintro e w' ⟨rfl, rfl⟩) | (go_at_call 71; refine (Len_any (pK x) _ HKl.out hK4).mono ?_; rintro e w' ⟨rfl, rfl⟩) | (at_builtin; refine appB rfl (.tmp 35) (.tmp 38) rfl _ p2 rfl ?ho' (w1.heap.size + 1) 0 1 1 [byt (pK x).length] rfl rfl ?c1' ?c2' ?_))
          case ho' => exact own_below ho1 (((Below.refl _ _).alloc (Nat.le_refl _) _).alloc (by simp) _)
          case c1' => exact new_bytesN _ _ (by simp) _ 5 _ (by simp only [List.map_cons, List.map_nil, bv_byt (pK x).length (by omega) (by omega)])
          case c2' => omega
          intro v2 w2 ho2 hg3
          have hch : Below w1.heap.size w1 ((w1.alloc (.cells #[.int .u8 (kN (pK x) 0), .int .u8 (kN (pK x) 1), .int .u8 (kN (pK x) 2), .int .u8 (kN (pK x) 3)] 105)).alloc (.cells #[.int .u8 ((pK x).length : Int)] 5)) := ((Below.refl _ _).alloc (Nat.le_refl _) _).alloc (by simp) _
          obtain ⟨hB2, hn2, hs2⟩ := hg3.far (B := B) (by simp; omega) hn1
          have hp2 : pAt w2 B 0 x := pAt_block ⟨d0, d1, d2, d3, d4, d5, d6, d7⟩ (hB2.trans (hch.block B hs1))
          have hg4 := hg2.trans (Grew.behind hch hg3)
          have hkc := pAt_keys hp2 hK4
          clear hch hg2 hg3 hB2 d0 d1 d2 d3 d4 d5 d6 d7 ho1 hn1 hs1 hp2
          have hsl := fun w => sliceAt_key B (pK x).length w hK1 hK4
          go_wp2_with (at_builtin; refine appB rfl (.tmp 40) (.tmp 43) rfl _ (p2 ++ [byt (pK x).length]) rfl ?ho2 B 4 (pK x).length 4 (pK x) rfl rfl ?c12 ?c22 ?_)
          case ho2 => exact ho2
          case c12 => exact hkc
          case c22 => simp; omega
          intro v3 w3 ho3 hg5
          go_wp2
          go_roundw
          case rel => exact ⟨k + 1, by omega, by go_num, by rw [HP.out]; simpa using ho3, hg4.trans hg5⟩
          case measure => simp [intOf]; omega
      · have hkn : keyed x.op = false := by simp [numbered, keyed] at hn ⊢; omega
        rw [insBytes_num x hn hkn, ← List.append_assoc] at HP
        have hpN : Hid (pN x = x.n) := by show _ = _; simp only [pN, hn, if_true]
        generalize p ++ [byt x.op, byt x.r, byt x.s] = p2 at hl3 HP ho1 ⊢
        have hb0 : -9223372036854775808 ≤ pN x := by rw [hpN.out]; exact hxwf.2.2.2.1.1
        have hb1 : pN x ≤ 9223372036854775807 := by rw [hpN.out]; exact hxwf.2.2.2.1.2
        have HO2 : Hid (ownB w1 v1 p2) := ho1
        have HP1 : Hid (pAt w1 B 0 x) := ⟨d0, d1, d2, d3, d4, d5, d6, d7⟩
        go_wp2_with (first | (go_at_call 74; refine (needsNumber_any _ _).mono ?_; rintro e w' ⟨rfl, rfl⟩) | (go_at_call 75; refine (appendEight_any v1 p2 (pN x) _ HO2.out (by omega) hb0 hb1).mono ?_))
        rintro e w2 ⟨v2, rfl, ho2, hg3⟩
        obtain ⟨hB2, hn2, hs2⟩ := hg3.far (B := B) (by omega) hn1
        have hp2 := pAt_block HP1.out hB2
        obtain ⟨f0, f1, f2, f3, f4, f5, f6, f7⟩ := hp2
        simp only [Nat.zero_add] at f0 f1 f2 f3 f4 f5 f6 f7
        have hg4 := hg2.trans hg3
        rw [hpN.out] at ho2
        clear HO2 HP1 hg2 hg3 hB2 d0 d1 d2 d3 d4 d5 d6 d7 ho1 hn1 hs1
        go_wp2_with (first | (go_at_call 76; refine (needsKey_any _ _).mono ?_; rintro e w' ⟨rfl, rfl⟩))
        go_roundw
        case rel => exact ⟨k + 1, by omega, by go_num, by rw [HP.out]; exact ho2, hg4⟩
        case measure => simp [intOf]; omega
    · go_wp2
      go_ret
      have hk2 : k = l.length := by omega
      subst hk2
      rw [List.take_length] at hov
      exact ⟨_, rfl, hov, hgv⟩

end Go.Proofs.YtdbdljjhhehbiaaGreat
