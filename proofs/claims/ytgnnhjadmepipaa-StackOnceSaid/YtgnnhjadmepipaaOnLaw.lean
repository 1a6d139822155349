/- The law of three that put and take, walked. -/
import Derived.Test.YtgnnhjadmepipaaOnSn
import Derived.Test.YtgnnhjadmepipaaBools
namespace Go.Proofs.Ytgnnhjadmepipaa
open Go.RowKit
set_option linter.unusedVariables false
set_option linter.unusedSimpArgs false
attribute [local irreducible] sruns

theorem info31 : (Try.prog.info? 31).map (fun i => (i.zero, i.size, i.bytes)) = some (some (.pointer none), 1, 8) := by kernel_rfl
theorem make_ptrs3 (w : World) : (Instr.makeSlice 65 (.int .i64 3) (.int .i64 3)).run Try.prog w = .ok (.slice (some ⟨w.heap.size, 0, none⟩) 3 3) (w.alloc (.cells #[.pointer none, .pointer none, .pointer none] 31)) := by
  obtain ⟨i0, hi, hz0, hz1, hz2⟩ := info_parts info31
  have := run_make w 65 31 i0 (.pointer none) Try.underlying65 hi hz0 .i64 .i64 3 3 (by omega) (Int.le_refl _) (by rw [hz2]; omega) (by omega)
  rw [made_any _ rfl] at this
  simpa [hz1, List.replicate] using this
theorem make_bools3 (w : World) : (Instr.makeSlice 60 (.int .i64 3) (.int .i64 3)).run Try.prog w = .ok (.slice (some ⟨w.heap.size, 0, none⟩) 3 3) (w.alloc (.cells #[.bool false, .bool false, .bool false] 4)) := make_bools 3 w (by decide)
theorem make_bools9 (w : World) : (Instr.makeSlice 60 (.int .i64 9) (.int .i64 9)).run Try.prog w = .ok (.slice (some ⟨w.heap.size, 0, none⟩) 9 9) (w.alloc (.cells ((List.replicate 9 false).map Value.bool).toArray 4)) := make_bools 9 w (by decide)

theorem free_any {w w1 w2 : World} {c : Cn} {x : Vs} {b : Nat} (h : Free w w1 c x b) : Free w w2 c x b := h
theorem al_new (w : World) (o : Obj) : (w.alloc o).heap[w.heap.size]? = some o := Array.getElem?_push_size
theorem al_old {w : World} {b : Nat} {o' : Obj} (o : Obj) (h : w.heap[b]? = some o') : (w.alloc o).heap[b]? = some o' := by
  have hl := (Array.getElem?_eq_some_iff.1 h).1
  exact ((below_alloc0 (Below.refl _ _) o).block b hl).trans h
theorem al_next {w : World} {N : Nat} (hN : w.heap.size = N) (o : Obj) : (w.alloc o).heap[N]? = some o ∧ (w.alloc o).heap.size = N + 1 := by
  subst hN; exact ⟨al_new w o, by simp⟩
theorem qb_lit {b : Nat} {w : World} {Q : List Int} (h : w.heap[b]? = some (.cells ((Q.map (Value.int .i64)).toArray) 3 (0, 0))) (hq : Q.length ≤ 10) : QB b w (.slice (some ⟨b, 0, none⟩) Q.length Q.length) Q :=
  ⟨0, Q.length, _, rfl, h, by simp, Nat.le_refl _, by unfold maxLen; omega, fun j hj => by have := map_get .i64 Q j hj; simpa using this⟩
def vs0 (N : Nat) : Nat → Value := fun j => if j = 0 then .slice (some ⟨N, 0, none⟩) 3 3 else if j = 1 then .slice (some ⟨N + 1, 0, none⟩) 2 2 else .slice (some ⟨N + 1 + 1, 0, none⟩) 3 3
def cn0 (S D Bx Ab N : Nat) : Cn := ⟨S, D, Bx, Ab, N + 1 + 1 + 1 + 1, N + 1 + 1 + 1 + 1 + 1, N + 1 + 1 + 1⟩
def x0 (N : Nat) : Vs := ⟨List.replicate 10 0, ms0, fun _ => 0, hs0, vs0 N, fun j => N + j, fun _ => false, fun _ => .pointer none, fun _ => false, 3⟩
theorem HD.first {S D Bx Ab : Nat} {w w4 : World} (h : Ok w.heap.size S D Bx Ab w w4 (upto 9) (List.replicate 10 0) 0) :
    HD (cn0 S D Bx Ab w4.heap.size) w ((((((w4.alloc (.cells #[.int .i64 1, .int .i64 2, .int .i64 3] 3)).alloc (.cells #[.int .i64 4, .int .i64 5] 3)).alloc (.cells #[.int .i64 6, .int .i64 7, .int .i64 8] 3)).alloc
      (.cells #[.slice (some ⟨w4.heap.size, 0, none⟩) 3 3, .slice (some ⟨w4.heap.size + 1, 0, none⟩) 2 2, .slice (some ⟨w4.heap.size + 1 + 1, 0, none⟩) 3 3] 23)).alloc (.cells #[.pointer none, .pointer none, .pointer none] 31)).alloc (.cells #[.bool false, .bool false, .bool false] 4)) 0 0 (x0 w4.heap.size) := by
  obtain ⟨N, hN⟩ : ∃ N, w4.heap.size = N := ⟨_, rfl⟩
  have hnew : ∀ b, N ≤ b → Ap w.heap.size S D Bx Ab b := fun b hb => h.new (by omega)
  rw [hN]
  obtain ⟨o0, e0⟩ : ∃ o, o = Obj.cells #[.int .i64 1, .int .i64 2, .int .i64 3] 3 := ⟨_, rfl⟩
  obtain ⟨o1, e1⟩ : ∃ o, o = Obj.cells #[.int .i64 4, .int .i64 5] 3 := ⟨_, rfl⟩
  obtain ⟨o2, e2⟩ : ∃ o, o = Obj.cells #[.int .i64 6, .int .i64 7, .int .i64 8] 3 := ⟨_, rfl⟩
  obtain ⟨o3, e3⟩ : ∃ o, o = Obj.cells #[.slice (some ⟨N, 0, none⟩) 3 3, .slice (some ⟨N + 1, 0, none⟩) 2 2, .slice (some ⟨N + 1 + 1, 0, none⟩) 3 3] 23 := ⟨_, rfl⟩
  obtain ⟨o4, e4⟩ : ∃ o, o = Obj.cells #[.pointer none, .pointer none, .pointer none] 31 := ⟨_, rfl⟩
  obtain ⟨o5, e5⟩ : ∃ o, o = Obj.cells #[.bool false, .bool false, .bool false] 4 := ⟨_, rfl⟩
  rw [← e0, ← e1, ← e2, ← e3, ← e4, ← e5]
  obtain ⟨n0, s0⟩ := al_next hN o0
  obtain ⟨n1, s1⟩ := al_next s0 o1
  obtain ⟨n2, s2⟩ := al_next s1 o2
  obtain ⟨n3, s3⟩ := al_next s2 o3
  obtain ⟨n4, s4⟩ := al_next s3 o4
  obtain ⟨n5, s5⟩ := al_next s4 o5
  have q0 := al_old o5 (al_old o4 (al_old o3 (al_old o2 (al_old o1 n0))))
  have q1 := al_old o5 (al_old o4 (al_old o3 (al_old o2 n1)))
  have q2 := al_old o5 (al_old o4 (al_old o3 n2))
  have q3 := al_old o5 (al_old o4 n3)
  have q4 := al_old o5 n4
  have hb : Below w4.heap.size w4 ((((((w4.alloc o0).alloc o1).alloc o2).alloc o3).alloc o4).alloc o5) := below_alloc0 (below_alloc0 (below_alloc0 (below_alloc0 (below_alloc0 (below_alloc0 (Below.refl _ _) _) _) _) _) _) _
  generalize ((((((w4.alloc o0).alloc o1).alloc o2).alloc o3).alloc o4).alloc o5) = W at q0 q1 q2 q3 q4 n5 s5 hb ⊢
  subst e0 e1 e2 e3 e4 e5
  refine ⟨⟨h.step hb, q4, n5, q3, (fun j hj hl => by cases hl), (fun j hj => ⟨.inr rfl, Nat.zero_le _, by simp [x0, ms0], by simp [x0, ms0], by simp [x0, ms0], by simp [x0, ms0]⟩), (fun j hj => rfl), (fun j hj _ => ?_), ⟨hnew _ (by simp only [cn0]; omega), hnew _ (by simp only [cn0]; omega), hnew _ (by simp only [cn0]; omega)⟩, ⟨(by simp only [cn0]; omega), (by simp only [cn0]; omega), (by simp only [cn0]; omega)⟩, (fun j hj => ⟨⟨hnew _ (by simp only [x0]; omega), (by simp only [x0, cn0]; omega), (by simp only [x0, cn0]; omega), (by simp only [x0, cn0]; omega)⟩, (by simp only [x0]; omega)⟩), (fun i j hi hj hij => by simp only [x0]; omega), (fun j hj hl => by cases hl), (fun i j hi hj hij hl => by cases hl)⟩, PF.begin, rfl, fun j hj => ⟨by simp [x0, ms0], by simp [x0], fun hl => by cases hl⟩⟩
  have key : j = 0 ∨ j = 1 ∨ j = 2 := by omega
  rcases key with rfl | rfl | rfl
  · exact qb_lit (Q := [1, 2, 3]) q0 (by simp)
  · exact qb_lit (Q := [4, 5]) q1 (by simp)
  · exact qb_lit (Q := [6, 7, 8]) q2 (by simp)

set_option maxRecDepth 100000 in
set_option maxHeartbeats 16000000 in
theorem walkOnce (a0 : Option Addr) (len0 cap0 : Nat) (z0 : List Int) (a1 : Option Addr) (len1 cap1 : Nat) (l1 : List Bool) (w : World) (h0 : IsRow .u8 w a0 len0 cap0 z0) (h1 : IsBools w a1 len1 cap1 l1) :
    Calls Try.prog 6 #[.slice a0 len0 cap0, .slice a1 len1 cap1] w fun e w' => e = .returned (.bool true) ∧ Below w.heap.size w w' := by
  obtain ⟨hR, hlen, _, _, _, hwf⟩ := reads_row h0
  obtain ⟨Z, hZ⟩ : ∃ Z, Z = z0.take len0 := ⟨_, rfl⟩
  rw [← hZ] at hR hlen hwf
  obtain ⟨hB, hbl, _, _⟩ := h1
  clear h0 hZ
  have HR := Lib.hid hR; have HLen := Lib.hid hlen.symm; have HWF := Lib.hid hwf; have HRB := Lib.hid hB; have HLB := Lib.hid hbl
  clear hR hlen hwf hB hbl
  have hmk := fun w => make_words10 w
  have hmp := fun w => make_ptrs3 w
  have hmb := fun w => make_bools3 w
  have hm9 := fun w => make_bools9 w
  obtain ⟨V0, hV0⟩ : ∃ V0, V0 = ((List.replicate 10 (0 : Int)).map (Value.int .u64)).toArray := ⟨_, rfl⟩
  obtain ⟨V1, hV1⟩ : ∃ V1, V1 = ((List.replicate 9 false).map Value.bool).toArray := ⟨_, rfl⟩
  rw [← hV0] at hmk
  rw [← hV1] at hm9
  have HV0 := Lib.hid hV0; have HV1 := Lib.hid hV1
  clear hV0 hV1
  by_cases hb1 : (len0 : Int) > 600
  · have d1 : decide ((len0 : Int) > 600) = true := by simpa using hb1
    go_enter Try.func6, Try.ntmps6
    go_wp2_with (first
      | (go_at_call 8; (with_reducible refine (awake_any _).mono ?_); rintro r w1 ⟨rfl, hb⟩; have HB := Lib.hid hb; clear hb)
      | fail)
    go_ret
    exact ⟨rfl, HB.out⟩
  have d1 : decide ((len0 : Int) > 600) = false := by simpa using hb1
  by_cases hb2 : len1 = 0
  · subst hb2
    go_enter Try.func6, Try.ntmps6
    go_wp2_with (first
      | (go_at_call 8; (with_reducible refine (awake_any _).mono ?_); rintro r w1 ⟨rfl, hb⟩; have HB := Lib.hid hb; clear hb)
      | fail)
    go_ret
    exact ⟨rfl, HB.out⟩
  have d2 : ((len1 : Int) == 0) = false := by simp; omega
  by_cases hb3 : (len1 : Int) > 60
  · have d3 : decide ((len1 : Int) > 60) = true := by simpa using hb3
    go_enter Try.func6, Try.ntmps6
    go_wp2_with (first
      | (go_at_call 8; (with_reducible refine (awake_any _).mono ?_); rintro r w1 ⟨rfl, hb⟩; have HB := Lib.hid hb; clear hb)
      | fail)
    go_ret
    exact ⟨rfl, HB.out⟩
  have d3 : decide ((len1 : Int) > 60) = false := by simpa using hb3
  go_enter Try.func6, Try.ntmps6
  go_wp2_with (first
    | (go_at_call 8; (with_reducible refine (awake_any _).mono ?_); rintro r w1 ⟨rfl, hb⟩; have HB := Lib.hid hb; clear hb)
    | (go_at_call 28; (with_reducible refine (rowS 9 9 _ (by decide) (by decide)).mono ?_); rintro a w2 ⟨v, rfl, hO⟩; obtain ⟨A, cap, rfl, hl, hsz, hb, hcells⟩ := upto_blk hO (by decide); have HB2 := Lib.hid (below_then HB.out hb); have HL := Lib.hid hl; have HSZ := Lib.hid hsz; have HC := Lib.hid hcells; clear hO hl hb hcells)
    | (go_at_call 9; (with_reducible refine (linksS (by decide) HL.out HSZ.out HC.out).mono ?_); intro a w3 hk; obtain ⟨Bx, Ab, rfl, hk2, hb⟩ := hk.lk; have HLk := Lib.hid hk2; have HB3 := Lib.hid (below_then HB2.out hb); clear hk hk2 hb)
    | (go_at_call 14; (with_reducible refine (new_any _ 10 10 (List.replicate 10 0) _ (by decide) (rep_reads HV0.out) (by decide)).mono ?_); intro a w4 hk; obtain ⟨S, D, rfl, hk2, _, _⟩ := Ok.start (below_then HB3.out (below_alloc0 (Below.refl _ _) (.cells V0 34))) (Nat.le_refl _) (HLk.out.below (below_alloc0 (Below.refl _ _) (.cells V0 34))) (ww_lit _ rfl) hk; have HK := Lib.hid hk2; clear hk hk2)
    | fail)
  have hd0 := HD.first HK.out
  obtain ⟨W0, hW0⟩ : ∃ W0, W0 = ((((((w4.alloc (.cells #[.int .i64 1, .int .i64 2, .int .i64 3] 3)).alloc (.cells #[.int .i64 4, .int .i64 5] 3)).alloc (.cells #[.int .i64 6, .int .i64 7, .int .i64 8] 3)).alloc
      (.cells #[.slice (some ⟨w4.heap.size, 0, none⟩) 3 3, .slice (some ⟨w4.heap.size + 1, 0, none⟩) 2 2, .slice (some ⟨w4.heap.size + 1 + 1, 0, none⟩) 3 3] 23)).alloc (.cells #[.pointer none, .pointer none, .pointer none] 31)).alloc (.cells #[.bool false, .bool false, .bool false] 4)) := ⟨_, rfl⟩
  rw [← hW0] at hd0 ⊢
  obtain ⟨c, hc⟩ : ∃ c, c = cn0 S D Bx Ab w4.heap.size := ⟨_, rfl⟩
  have ec1 : S = c.S := by rw [hc]; rfl
  have ec2 : Bx = c.Bx := by rw [hc]; rfl
  have ec3 : w4.heap.size + 1 + 1 + 1 + 1 = c.WK := by rw [hc]; rfl
  have ec4 : w4.heap.size + 1 + 1 + 1 + 1 + 1 = c.PU := by rw [hc]; rfl
  have ec5 : w4.heap.size + 1 + 1 + 1 = c.HS := by rw [hc]; rfl
  rw [← hc] at hd0
  have HD0 := Lib.hid hd0
  clear hd0 hW0 hc
  rw [ec4, ec3, ec5, ec1, ec2]
  clear ec1 ec2 ec3 ec4 ec5
  go_loopw [11, 12] (fun s11 s12 wr => ∃ (i : Nat) (nn : Int) (x : Vs), i ≤ len0 + 60 ∧ s12 = .int .i64 i ∧ s11 = .int .i64 nn ∧ 0 ≤ nn ∧ nn ≤ i ∧ HD c w wr i i x) (fun _ s12 _ => len0 + 60 - (intOf s12).toNat)
  case atStart => exact ⟨0, 0, _, Nat.zero_le _, rfl, rfl, Int.le_refl _, Int.le_refl _, HD0.out⟩
  case round =>
    obtain ⟨i, nn, x, hi, rfl, rfl, hn0, hn1, hd⟩ := hrel
    have H0 := Lib.hid hd
    clear hd
    by_cases hlt : i < len0 + 60
    · have e1 : decide ((i : Int) < (len0 : Int) + 60) = true := by simp; omega
      obtain ⟨k0, hk0⟩ : ∃ k0 : Nat, (i : Int) % 3 = (k0 : Int) := ⟨((i : Int) % 3).toNat, by omega⟩
      have hk03 : k0 < 3 := by omega
      have hi0 : (0 : Int) ≤ (i : Int) := by omega
      have hi9 : (i : Int) ≤ 700 := by omega
      go_upto_if 59 with (fail)
      go_cut [13] (fun s wx => ∃ k : Nat, k < 3 ∧ s = .int .i64 k ∧ wx = wr)
      case first =>
        as_aux_lemma =>
          by_cases hl0 : i < len0
          · have e2 : decide ((i : Int) < (len0 : Int)) = true := by simp; omega
            have hil : (i : Int) < (len0 : Int) := by omega
            obtain ⟨b, off, rfl, hbl, hcz⟩ := HR.out (by have := HLen.out; omega)
            have c1 := (H0.out.so.bel.cell (p := ⟨b, off + i, none⟩) hbl).trans (hcz i (by have := HLen.out; omega))
            obtain ⟨a, ha⟩ : ∃ a, a = Z.getD i 0 := ⟨_, rfl⟩
            have hab : 0 ≤ a ∧ a ≤ 255 := by
              have hl := HLen.out
              have := HWF.out a (by rw [ha, List.getD, List.getElem?_eq_getElem (by omega)]; exact List.getElem_mem (by omega))
              simp [Lit.wf, IntKind.min, IntKind.max, IntKind.bits, IntKind.signed] at this
              omega
            rw [← ha] at c1
            obtain ⟨a0', a1'⟩ := hab
            obtain ⟨k, hk⟩ : ∃ k : Nat, a % 3 = (k : Int) := ⟨(a % 3).toNat, by omega⟩
            have hk3 : k < 3 := by omega
            clear hcz ha
            go_wp2_with (fail)
            go_meet
            exact ⟨k, hk3, rfl, rfl⟩
          · have hil : ¬ (i : Int) < (len0 : Int) := by omega
            go_wp2_with (fail)
            go_meet
            exact ⟨k0, hk03, rfl, rfl⟩
      case rest =>
        obtain ⟨k, hk3, rfl, rfl⟩ := hcut
        have hk00 : (0 : Int) ≤ (k : Int) := by omega
        have hk31 : (k : Int) < 3 := by omega
        clear hk0 hk03 k0
        apply_assumption
        refine wp_seq_k ?_
        intro KB hKB
        go_cut [11] (fun s11 wx => ∃ (nn : Int) (x : Vs), s11 = .int .i64 nn ∧ 0 ≤ nn ∧ nn ≤ i + 1 ∧ HD c w wx i i x ∧ x.lv k = true)
        case first =>
          as_aux_lemma =>
            by_cases hl : x.lv k = true
            · have cw := H0.out.cellW hk3
              rw [if_pos hl] at cw
              go_wp2_with (fail)
              go_meet
              exact ⟨nn, x, rfl, hn0, by omega, H0.out, hl⟩
            · have cw := H0.out.cellW hk3
              rw [if_neg hl] at cw
              by_cases hl0 : i < len0
              · have hil : ¬ (len0 : Int) ≤ (i : Int) := by omega
                obtain ⟨r, hr⟩ : ∃ r : Nat, (nn + 1) % (len1 : Int) = (r : Int) := ⟨((nn + 1) % (len1 : Int)).toNat, by have := Int.emod_nonneg (nn + 1) (show (len1 : Int) ≠ 0 by omega); omega⟩
                have hr1 : (r : Int) < (len1 : Int) := by rw [← hr]; exact Int.emod_lt_of_pos _ (by omega)
                have hr2 : (nn + 1).tmod (len1 : Int) = (r : Int) := by rw [Int.tmod_eq_emod_of_nonneg (by omega)]; exact hr
                have hr0 : (0 : Int) ≤ (r : Int) := by omega
                obtain ⟨b1, off1, rfl, hbl1, hcb⟩ := HRB.out (by have := HLB.out; omega)
                obtain ⟨t, ht⟩ : ∃ t, t = l1.getD r false := ⟨_, rfl⟩
                have ct := (H0.out.so.bel.cell (p := ⟨b1, off1 + r, none⟩) hbl1).trans (hcb r (by have := HLB.out; omega))
                rw [← ht] at ct
                have chs := H0.out.so.hsr.cell hk3
                obtain ⟨offk, capk, curk, hvk, _⟩ := H0.out.list hk3
                rw [hvk] at chs
                have cp := H0.out.so.pur.cell hk3
                have fp := H0.out.so.pur.fro k
                have hlen1 : (len1 : Int) ≠ 0 := by omega
                have hn9 : nn + 1 ≤ 2000 := by omega
                clear hcb ht hr hl0
                cases t
                · have cy := trivial
                  have s1 := H0.out.so.setPU hk3 false
                  go_upto_region 22 with (fail)
                  obtain ⟨W1, hW1⟩ : ∃ W1, W1 = (wc.setCell ⟨c.PU, k, none⟩ (.bool false)) := ⟨_, rfl⟩
                  have s1' : SO c w W1 i { x with pu := upd3 x.pu k false } := by rw [hW1]; exact s1
                  rw [← hW1]
                  have p1 := s1'.pur.cell hk3
                  simp only [upd3_same] at p1
                  have HS1 := Lib.hid s1'
                  clear s1 s1' hW1 chs cy cp fp
                  go_wp2_with (first
                    | (go_at_call 10; (with_reducible refine (popS 9 _).mono ?_); intro r w5 hk; obtain ⟨M, rfl, hM, hm, hb⟩ := hk; have HS2 := Lib.hid (HS1.out.newK hk3 hM hm hb (wm_pop _) hi0 rfl); have cw2 := HS2.out.wk.cell hk3; have fw2 := HS2.out.wk.fro k; have HS3 := Lib.hid (HS2.out.setWK hk3 (ptr M)); clear hM hm hb)
                    | fail)
                  go_meet
                  exact ⟨nn + 1, _, rfl, by omega, by omega, H0.out.begun hk3 HS3.out (H0.out.pf.pop hk3) (by simp [mPop]) (by simp [mPop]), upd3_same _ _ _⟩
                · rcases hhk : x.hs k with _ | ⟨y, ts⟩
                  · have cy := trivial
                    rw [hhk] at chs
                    simp only [List.length_nil] at chs
                    have s1 := H0.out.so.setPU hk3 false
                    go_upto_region 22 with (fail)
                    obtain ⟨W1, hW1⟩ : ∃ W1, W1 = (wc.setCell ⟨c.PU, k, none⟩ (.bool false)) := ⟨_, rfl⟩
                    have s1' : SO c w W1 i { x with pu := upd3 x.pu k false } := by rw [hW1]; exact s1
                    rw [← hW1]
                    have p1 := s1'.pur.cell hk3
                    simp only [upd3_same] at p1
                    have HS1 := Lib.hid s1'
                    clear s1 s1' hW1 chs cy cp fp
                    go_wp2_with (first
                      | (go_at_call 10; (with_reducible refine (popS 9 _).mono ?_); intro r w5 hk; obtain ⟨M, rfl, hM, hm, hb⟩ := hk; have HS2 := Lib.hid (HS1.out.newK hk3 hM hm hb (wm_pop _) hi0 rfl); have cw2 := HS2.out.wk.cell hk3; have fw2 := HS2.out.wk.fro k; have HS3 := Lib.hid (HS2.out.setWK hk3 (ptr M)); clear hM hm hb)
                      | fail)
                    go_meet
                    exact ⟨nn + 1, _, rfl, by omega, by omega, H0.out.begun hk3 HS3.out (H0.out.pf.pop hk3) (by simp [mPop]) (by simp [mPop]), upd3_same _ _ _⟩
                  · have cy := trivial
                    rw [hhk] at chs
                    have hyr := H0.out.pf.rng hk3 (y := y) (by rw [hhk]; simp)
                    have hyr0 := hyr.1
                    have hyr1 := hyr.2
                    rw [hhk] at hvk
                    simp only [List.length_cons] at chs hvk
                    obtain ⟨NL, hNL⟩ : ∃ NL, NL = ts.length := ⟨_, rfl⟩
                    rw [← hNL] at chs hvk
                    have hNL0 : (0 : Int) ≤ (NL : Int) := by omega
                    have s1 := H0.out.so.setPU hk3 true
                    go_upto_region 22 with (fail)
                    obtain ⟨W1, hW1⟩ : ∃ W1, W1 = (wc.setCell ⟨c.PU, k, none⟩ (.bool true)) := ⟨_, rfl⟩
                    have s1' : SO c w W1 i { x with pu := upd3 x.pu k true } := by rw [hW1]; exact s1
                    rw [← hW1]
                    have p1 := s1'.pur.cell hk3
                    simp only [upd3_same] at p1
                    have chs1 := s1'.hsr.cell hk3
                    simp only at chs1
                    rw [hvk] at chs1
                    have cy1 := (QB.has (s1'.q k hk3 (by simp only [H0.out.ex]; omega)) (by simp only [hhk]; simp))
                    simp only [hhk, hvk] at cy1
                    obtain ⟨oo, cc, ho, _, _, hcc, _⟩ := cy1
                    cases ho
                    have cy2 := hcc 0 (by simp)
                    simp only [List.getD_cons_zero, Nat.add_zero] at cy2
                    clear hcc
                    have HS1 := Lib.hid s1'
                    clear s1 s1' hW1 chs cy cp fp
                    go_wp2_with (first
                      | (go_at_call 12; (with_reducible refine (pushS 9 y _ (by omega)).mono ?_); intro r w5 hk; obtain ⟨M, rfl, hM, hm, hb⟩ := hk; have HS2 := Lib.hid (HS1.out.newK hk3 hM hm hb (wm_push _ _) hi0 rfl); have cw2 := HS2.out.wk.cell hk3; have fw2 := HS2.out.wk.fro k; have HS3 := Lib.hid (HS2.out.setWK hk3 (ptr M)); clear hM hm hb)
                      | fail)
                    go_meet
                    exact ⟨nn + 1, _, rfl, by omega, by omega, H0.out.begun hk3 HS3.out (H0.out.pf.push hk3 hhk) (by simp [mPush]) (by simp [mPush]), upd3_same _ _ _⟩
              · have hil : (len0 : Int) ≤ (i : Int) := by omega
                go_wp2_with (fail)
                go_roundw
                case rel => exact ⟨i + 1, nn, x, by omega, by go_num, rfl, hn0, by omega, H0.out.more (by omega) (by omega)⟩
                case measure => simp [intOf]; omega
        case rest =>
          clear hn0 hn1 H0
          obtain ⟨nn, x, rfl, hn0, hn1, hd, hl⟩ := hcut
          apply hKB
          refine wp_seq_k ?_
          intro KC hKC
          go_cut [14] (fun s14 wx => ∃ x', HD c w wx ((i : Int) + 1) ((i : Int) + 1) x')
          case first =>
            as_aux_lemma =>
              have ev := hd.pf.step hk3 (hd.live hk3 hl) (by omega)
              have hst := hd.so.stepK hk3 hl (by omega)
              have cw := hd.cellW hk3
              rw [if_pos hl] at cw
              have hln := hd.ln k hk3
              have hwv : x.wv k = ptr (x.A k) := by rw [hln.2.1, if_pos hl]
              have hpu := hln.2.2 hl
              have H0 := Lib.hid hd
              have HLV := Lib.hid hl
              clear hln
              cases ev with
              | on hp pf =>
                rw [show decide ((sstp x.L (x.ms k)).2.pc = 0) = false from by simpa using hp] at hst
                have HST := Lib.hid hst; have HP := Lib.hid hp; have HPF := Lib.hid pf
                clear hst hp pf hd hl hpu hwv
                go_wp2_with (first
                  | (go_at_call 16; (with_reducible refine HST.out.mono ?_); rintro r w5 ⟨rfl, h⟩; have HS1 := Lib.hid h; clear h)
                  | fail)
                go_meet
                exact ⟨_, H0.out.on hk3 HLV.out HS1.out HP.out HPF.out⟩
              | put hp hkk t ht pf =>
                obtain ⟨⟨L2, m2⟩, hz⟩ : ∃ z : List Int × Sm, sstp x.L (x.ms k) = z := ⟨_, rfl⟩
                rw [hz] at hp ht pf hst
                simp only at hp ht pf hst
                rw [show decide (m2.pc = 0) = true from by simpa using hp] at hst
                rw [hkk] at hpu
                simp only [decide_true] at hpu
                obtain ⟨I, hI⟩ : ∃ I, m2.item = I := ⟨_, rfl⟩
                rw [hI] at ht
                have HIT : Hid (sItem (upd3 x.ms k m2 k) = I) := Lib.hid (by rw [upd3_same]; unfold sItem; rw [if_pos hp]; exact hI)
                obtain ⟨offk, capk, hvk, hck, _, _, _, htl⟩ := (hd.list hk3).has (by rw [ht]; simp)
                rw [ht] at hvk hck
                simp only [List.length_cons] at hvk hck
                obtain ⟨NT, hNT⟩ : ∃ NT, NT = t.length := ⟨_, rfl⟩
                rw [← hNT] at hvk hck
                have hsl := fun w => slice_tail (x.bs k) offk (NT + 1) capk (by omega) hck w
                rw [Nat.add_sub_cancel] at hsl
                obtain ⟨o2, ho2⟩ : ∃ o2, o2 = if capk = 1 then offk else offk + 1 := ⟨_, rfl⟩
                rw [← ho2] at hsl
                have HO2 := Lib.hid ho2
                clear ho2
                have HT := Lib.hid ht; have HTN := Lib.hid hNT
                have hNT0 : (0 : Int) ≤ (NT : Int) := by omega
                have hck1 : (NT : Int) + 1 ≤ (capk : Int) := by omega
                have HST := Lib.hid hst; have HP := Lib.hid hp; have HPF := Lib.hid pf; have HV := Lib.hid hvk
                clear hst hp pf hd hl ht hI hNT hz htl
                go_upto_region 33 with (first
                  | (go_at_call 16; (with_reducible refine HST.out.mono ?_); rintro r w5 ⟨rfl, h⟩; have HS1 := Lib.hid h; have cw2 := h.wk.cell hk3; simp only at cw2; rw [hwv] at cw2; have fw2 := h.wk.fro k; have cp2 := h.pur.cell hk3; simp only [hpu] at cp2; have ch2 := h.hsr.cell hk3; simp only at ch2; rw [HV.out] at ch2; have fh2 := h.hsr.fro k; obtain ⟨oo, cc, ho, _, _, hcc, _, hq2⟩ := QB.has (h.q k hk3 (by simp only [H0.out.ex]; omega)) (by simp only [HT.out]; simp); simp only [HT.out, HV.out, List.length_cons, ← HTN.out] at ho hcc hq2; cases ho; have cy2 := hcc 0 (by simp); simp only [List.getD_cons_zero, Nat.add_zero] at cy2; rw [Nat.add_sub_cancel, List.tail_cons, ← HO2.out] at hq2; have HQ2 := Lib.hid hq2; clear hcc hq2 h)
                  | (go_at_call 18; (with_reducible refine (HS1.out.itemIs hk3 HLV.out I HIT.out).mono ?_); rintro r w6 ⟨rfl, hw⟩; cases hw)
                  | fail)
                have hs2 := HS1.out.setHS hk3 (.inl H0.out.ex) HQ2.out
                obtain ⟨W2, hW2⟩ : ∃ W2, W2 = (w5.setCell ⟨c.HS, k, none⟩ (.slice (some ⟨x.bs k, o2, none⟩) NT (capk - 1))) := ⟨_, rfl⟩
                have hs2' := hs2
                rw [← hW2] at hs2' ⊢
                have cw3 := hs2'.wk.cell hk3
                simp only at cw3
                rw [hwv] at cw3
                have fw3 := hs2'.wk.fro k
                have HS3 := Lib.hid ((hs2'.setWK hk3 (.pointer none)).kill (k := k))
                clear hs2 hs2' hW2 cw2 fw2 cp2 ch2 fh2 cy2 hsl
                go_wp2_with (fail)
                go_meet
                exact ⟨_, H0.out.gone hk3 HS3.out HP.out HPF.out⟩
              | took hp hkk h1 h8 pf =>
                obtain ⟨⟨L2, m2⟩, hz⟩ : ∃ z : List Int × Sm, sstp x.L (x.ms k) = z := ⟨_, rfl⟩
                rw [hz] at hp h1 h8 pf hst
                simp only at hp h1 h8 pf hst
                rw [show decide (m2.pc = 0) = true from by simpa using hp] at hst
                rw [hkk] at hpu
                simp only [show decide ((2 : Nat) = 1) = false from rfl] at hpu
                obtain ⟨I, hI⟩ : ∃ I, m2.item = I := ⟨_, rfl⟩
                rw [hI] at h1 h8 pf
                have HIT : Hid (sItem (upd3 x.ms k m2 k) = I) := Lib.hid (by rw [upd3_same]; unfold sItem; rw [if_pos hp]; exact hI)
                have hI0 : (I != 0) = true := by simp; omega
                obtain ⟨offk, capk, curk, hvk, _⟩ := hd.list hk3
                have hlen := hd.pf.lenk hk3
                have HLE : Hid ((x.hs k).length ≤ 1000) := Lib.hid (by omega)
                obtain ⟨NT, hNT⟩ : ∃ NT, NT = (x.hs k).length := ⟨_, rfl⟩
                rw [← hNT] at hvk
                have HST := Lib.hid hst; have HP := Lib.hid hp; have HPF := Lib.hid pf; have HV := Lib.hid hvk; have HPU := Lib.hid hpu; have HNT := Lib.hid hNT
                clear hst hp pf hd hl hI hNT hz hlen hpu
                go_upto_region 33 with (first
                  | (go_at_call 16; (with_reducible refine HST.out.mono ?_); rintro r w5 ⟨rfl, h⟩; have HS1 := Lib.hid h; have cw2 := h.wk.cell hk3; simp only at cw2; rw [hwv] at cw2; have fw2 := h.wk.fro k; have cp2 := h.pur.cell hk3; simp only [HPU.out] at cp2; have ch2 := h.hsr.cell hk3; simp only at ch2; rw [HV.out] at ch2; have HS2 := Lib.hid (h.below (below_alloc0 (Below.refl _ _) (.cells #[.int .i64 I] 3))); have hq2 := (h.below (below_alloc0 (Below.refl _ _) (.cells #[.int .i64 I] 3))).q k hk3 (by simp only [H0.out.ex]; omega); simp only [HV.out] at hq2; have HQ2 := Lib.hid hq2; clear h hq2)
                  | (go_at_call 18; (with_reducible refine (HS1.out.itemIs hk3 HLV.out I HIT.out).mono ?_); rintro r w6 ⟨rfl, hw⟩; cases hw)
                  | (at_builtin; refine append_q (o' := some (x.bs k)) rfl _ _ rfl HQ2.out (new_cell _ _) HLE.out rfl rfl ?_; intro v' w6 hg; obtain ⟨b, hqb, hs4⟩ := HS2.out.grew hk3 H0.out.ex hg; obtain ⟨oo, cc, hvv⟩ : ∃ oo cc, v' = .slice (some ⟨b, oo, none⟩) (NT + 1) cc := (by obtain ⟨oo, cc, _, hv, _⟩ := hqb; exact ⟨oo, cc, by rw [hv, List.length_append, ← HNT.out]; rfl⟩); subst hvv; have HS4 := Lib.hid hs4; have HQB := Lib.hid hqb; have ch4 := hs4.hsr.cell hk3; simp only at ch4; have fh4 := hs4.hsr.fro k; clear hs4 hqb hg)
                  | fail)
                have hs5 := HS4.out.setHS hk3 (.inr rfl) (v := .slice (some ⟨b, oo, none⟩) (NT + 1) cc) (Q := x.hs k ++ [I]) (by simp only [upd3_same]; exact HQB.out)
                obtain ⟨W2, hW2⟩ : ∃ W2, W2 = (w6.setCell ⟨c.HS, k, none⟩ (.slice (some ⟨b, oo, none⟩) (NT + 1) cc)) := ⟨_, rfl⟩
                have hs2' := hs5
                rw [← hW2] at hs2' ⊢
                have cw3 := hs2'.wk.cell hk3
                simp only at cw3
                rw [hwv] at cw3
                have fw3 := hs2'.wk.fro k
                have HS6 := Lib.hid ((hs2'.setWK hk3 (.pointer none)).kill (k := k))
                clear hs5 hs2' hW2 cw2 fw2 cp2 ch2 ch4 fh4
                go_wp2_with (fail)
                go_meet
                exact ⟨_, H0.out.gone hk3 HS6.out HP.out HPF.out⟩
              | none hp hkk h0 pf =>
                obtain ⟨⟨L2, m2⟩, hz⟩ : ∃ z : List Int × Sm, sstp x.L (x.ms k) = z := ⟨_, rfl⟩
                rw [hz] at hp h0 pf hst
                simp only at hp h0 pf hst
                rw [show decide (m2.pc = 0) = true from by simpa using hp] at hst
                rw [hkk] at hpu
                simp only [show decide ((2 : Nat) = 1) = false from rfl] at hpu
                have HIT : Hid (sItem (upd3 x.ms k m2 k) = 0) := Lib.hid (by rw [upd3_same]; unfold sItem; rw [if_pos hp]; exact h0)
                have HST := Lib.hid hst; have HP := Lib.hid hp; have HPF := Lib.hid pf; have HPU := Lib.hid hpu
                clear hst hp pf hd hl hz hpu
                go_wp2_with (first
                  | (go_at_call 16; (with_reducible refine HST.out.mono ?_); rintro r w5 ⟨rfl, h⟩; have HS1 := Lib.hid h; have cw2 := h.wk.cell hk3; simp only at cw2; rw [hwv] at cw2; have fw2 := h.wk.fro k; have cp2 := h.pur.cell hk3; simp only [HPU.out] at cp2; have HS3 := Lib.hid (((h.ex3 H0.out.ex).setWK hk3 (.pointer none)).kill (k := k)); clear h)
                  | (go_at_call 18; (with_reducible refine (HS1.out.itemIs hk3 HLV.out 0 HIT.out).mono ?_); rintro r w6 ⟨rfl, hw⟩; cases hw)
                  | fail)
                go_meet
                exact ⟨_, H0.out.gone hk3 HS3.out HP.out HPF.out⟩
          case rest =>
            as_aux_lemma =>
              obtain ⟨x', hd⟩ := hcut
              apply hKC
              obtain ⟨T, Q, hstk, hperm⟩ := hd.pf.seen
              have hfr : Free w (wc.alloc (.cells V1 4)) c x' wc.heap.size := hd.so.free (Nat.le_refl wc.heap.size)
              have hso := hd.so.below (below_alloc0 (Below.refl _ _) (.cells V1 4))
              have hbr := br_new wc (List.replicate 9 false)
              rw [← HV1.out] at hbr
              obtain ⟨SE, hSE⟩ : ∃ SE, SE = wc.heap.size := ⟨_, rfl⟩
              rw [← hSE] at hfr hbr
              have HSE := Lib.hid hSE
              have HFR := Lib.hid hfr; have HSO := Lib.hid hso; have HBR := Lib.hid hbr; have HSTK := Lib.hid hstk; have HPERM := Lib.hid hperm; have HDX := Lib.hid hd
              have hex := hd.ex
              clear hfr hso hbr hstk hperm hd hSE
              go_wp2_with (first
                | (go_at_call 22; (with_reducible refine (SO.allN HSO.out HSTK.out HFR.out HBR.out).mono ?_); rintro r w7 ⟨A3, rfl, hr, h, hb⟩; have HSO2 := Lib.hid h; have HBR2 := Lib.hid hb; have HRW := Lib.hid hr; clear h hb hr)
                | (go_at_call 26; (with_reducible refine (SO.walkN HSO2.out HSTK.out (free_any HFR.out) HBR2.out (Eq.refl _) (Eq.refl _) HRW.out _).mono ?_); rintro r w8 ⟨A1, c1', rfl, h⟩; have HSN0 := Lib.hid h; clear h)
                | fail)
              obtain ⟨NQ, hNQ⟩ : ∃ NQ, NQ = Q.length := ⟨_, rfl⟩
              rw [← hNQ, ← HSE.out]
              have HNQ := Lib.hid hNQ
              clear hNQ
              go_loopw [16, 18] (fun s16 s18 wr => ∃ j : Nat, j ≤ 4 ∧ s18 = .int .i64 j ∧ s16 = .int .i64 ((pre x'.hs Q j).length : Int) ∧ SN c w wr ((i : Int) + 1) x' SE A1 Q (pre x'.hs Q j)) (fun _ s18 _ => 4 - (intOf s18).toNat)
              case atStart => exact ⟨0, Nat.zero_le _, rfl, rfl, HSN0.out⟩
              case round =>
                obtain ⟨j, hj, rfl, rfl, hsn⟩ := hrel
                by_cases hj4 : j < 4
                · have hj0 : (0 : Int) ≤ (j : Int) := by omega
                  have hj41 : (j : Int) < 4 := by omega
                  by_cases hj3 : j < 3
                  · have hj31 : (j : Int) < 3 := by omega
                    obtain ⟨Aj, cj, cellj, rdj⟩ := hsn.list hex j hj3
                    have elj : lj x'.hs Q j = x'.hs j := by unfold lj; rw [if_pos hj3]
                    rw [← elj] at cellj rdj
                    have HSN := Lib.hid hsn; have HRL := Lib.hid rdj
                    obtain ⟨NL, hNL⟩ : ∃ NL, NL = (lj x'.hs Q j).length := ⟨_, rfl⟩
                    rw [← hNL] at cellj
                    have HNL := Lib.hid hNL
                    clear hsn rdj elj hNL
                    go_wp2_with (fail)
                    go_loopw [16, 20] (fun s16 s20 wr' => ∃ q : Nat, q ≤ (lj x'.hs Q j).length ∧ s20 = .int .i64 q ∧ s16 = .int .i64 (((pre x'.hs Q j).length : Int) + q) ∧ SN c w wr' ((i : Int) + 1) x' SE A1 Q (pre x'.hs Q j ++ (lj x'.hs Q j).take q) ∧ RdI SE SE wr' Aj (lj x'.hs Q j)) (fun _ s20 _ => (lj x'.hs Q j).length - (intOf s20).toNat)
                    case atStart => exact ⟨0, Nat.zero_le _, rfl, by simp, by simpa using HSN.out, HRL.out⟩
                    case round =>
                      obtain ⟨q, hq, rfl, rfl, hsn, hrl⟩ := hrel
                      by_cases hql : q < (lj x'.hs Q j).length
                      · obtain ⟨⟨y1, y8⟩, ynin, plen⟩ := pre_next HPERM.out hj4 hql
                        obtain ⟨bl, ol, rfl, _, _, _, hcl⟩ := hrl (by omega)
                        have cl := hcl q hql
                        obtain ⟨y, hy⟩ : ∃ y : Nat, (lj x'.hs Q j).getD q 0 = (y : Int) := ⟨((lj x'.hs Q j).getD q 0).toNat, by omega⟩
                        have hpt := pre_take x'.hs Q j q hql
                        rw [hy] at cl y1 y8 ynin hpt
                        have hy9 : y < 9 := by omega
                        obtain ⟨cs, fs⟩ := hsn.cell y hy9 false (by simpa using ynin)
                        have hs1 := hsn.set y hy9
                        rw [← hpt] at hs1
                        have HS1 := Lib.hid hs1
                        have HRL1 := Lib.hid (hrl.upd (upd_set wr SE y (.bool true)))
                        have hq0 : (0 : Int) ≤ (q : Int) := by omega
                        have hql2 : (q : Int) < (NL : Int) := by have := HNL.out; omega
                        have hy0 : (0 : Int) ≤ (y : Int) := by omega
                        have hq99 : (((pre x'.hs Q j).length : Int) + q) ≤ 100 := by simp only [List.length_append, List.length_take] at plen; omega
                        have hp0 : (0 : Int) ≤ ((pre x'.hs Q j).length : Int) := by omega
                        have HQL := Lib.hid hql
                        clear hsn hrl hcl hpt hs1 plen ynin hy hql hq
                        go_wp2_with (fail)
                        go_roundw
                        case rel => exact ⟨q + 1, by have := HQL.out; omega, by go_num, by go_num, HS1.out, HRL1.out⟩
                        case measure => have := HQL.out; simp [intOf]; omega
                      · obtain rfl : q = (lj x'.hs Q j).length := by omega
                        have hsn2 : SN c w wr ((i : Int) + 1) x' SE A1 Q (pre x'.hs Q (j + 1)) := by
                          have := hsn
                          rw [List.take_of_length_le (Nat.le_refl _)] at this
                          exact this
                        have HS2 := Lib.hid hsn2
                        have hlen : ((pre x'.hs Q j).length : Int) + ((lj x'.hs Q j).length : Int) = ((pre x'.hs Q (j + 1)).length : Int) := by simp [pre]
                        have HLN := Lib.hid hlen
                        have hNLe : ¬ ((lj x'.hs Q j).length : Int) < (NL : Int) := by have := HNL.out; omega
                        clear hsn hrl hsn2 hlen hql hq
                        go_wp2_with (fail)
                        go_roundw
                        case rel => exact ⟨j + 1, by omega, by go_num, by rw [HLN.out], HS2.out⟩
                        case measure => simp [intOf]; omega
                  · have hj31 : ¬ (j : Int) < 3 := by omega
                    have elj : lj x'.hs Q j = Q := by unfold lj; rw [if_neg hj3]
                    have rdj : RdI SE SE wr A1 (lj x'.hs Q j) := by rw [elj]; exact hsn.rd
                    have HSN := Lib.hid hsn; have HRL := Lib.hid rdj
                    have HNL : Hid (NQ = (lj x'.hs Q j).length) := Lib.hid (by rw [elj]; exact HNQ.out)
                    clear hsn rdj elj
                    go_wp2_with (fail)
                    go_loopw [16, 20] (fun s16 s20 wr' => ∃ q : Nat, q ≤ (lj x'.hs Q j).length ∧ s20 = .int .i64 q ∧ s16 = .int .i64 (((pre x'.hs Q j).length : Int) + q) ∧ SN c w wr' ((i : Int) + 1) x' SE A1 Q (pre x'.hs Q j ++ (lj x'.hs Q j).take q) ∧ RdI SE SE wr' A1 (lj x'.hs Q j)) (fun _ s20 _ => (lj x'.hs Q j).length - (intOf s20).toNat)
                    case atStart => exact ⟨0, Nat.zero_le _, rfl, by simp, by simpa using HSN.out, HRL.out⟩
                    case round =>
                      obtain ⟨q, hq, rfl, rfl, hsn, hrl⟩ := hrel
                      by_cases hql : q < (lj x'.hs Q j).length
                      · obtain ⟨⟨y1, y8⟩, ynin, plen⟩ := pre_next HPERM.out hj4 hql
                        obtain ⟨bl, ol, rfl, _, _, _, hcl⟩ := hrl (by omega)
                        have cl := hcl q hql
                        obtain ⟨y, hy⟩ : ∃ y : Nat, (lj x'.hs Q j).getD q 0 = (y : Int) := ⟨((lj x'.hs Q j).getD q 0).toNat, by omega⟩
                        have hpt := pre_take x'.hs Q j q hql
                        rw [hy] at cl y1 y8 ynin hpt
                        have hy9 : y < 9 := by omega
                        obtain ⟨cs, fs⟩ := hsn.cell y hy9 false (by simpa using ynin)
                        have hs1 := hsn.set y hy9
                        rw [← hpt] at hs1
                        have HS1 := Lib.hid hs1
                        have HRL1 := Lib.hid (hrl.upd (upd_set wr SE y (.bool true)))
                        have hq0 : (0 : Int) ≤ (q : Int) := by omega
                        have hql2 : (q : Int) < (NQ : Int) := by have := HNL.out; omega
                        have hy0 : (0 : Int) ≤ (y : Int) := by omega
                        have hq99 : (((pre x'.hs Q j).length : Int) + q) ≤ 100 := by simp only [List.length_append, List.length_take] at plen; omega
                        have hp0 : (0 : Int) ≤ ((pre x'.hs Q j).length : Int) := by omega
                        have HQL := Lib.hid hql
                        clear hsn hrl hcl hpt hs1 plen ynin hy hql hq
                        go_wp2_with (fail)
                        go_roundw
                        case rel => exact ⟨q + 1, by have := HQL.out; omega, by go_num, by go_num, HS1.out, HRL1.out⟩
                        case measure => have := HQL.out; simp [intOf]; omega
                      · obtain rfl : q = (lj x'.hs Q j).length := by omega
                        have hsn2 : SN c w wr ((i : Int) + 1) x' SE A1 Q (pre x'.hs Q (j + 1)) := by
                          have := hsn
                          rw [List.take_of_length_le (Nat.le_refl _)] at this
                          exact this
                        have HS2 := Lib.hid hsn2
                        have hlen : ((pre x'.hs Q j).length : Int) + ((lj x'.hs Q j).length : Int) = ((pre x'.hs Q (j + 1)).length : Int) := by simp [pre]
                        have HLN := Lib.hid hlen
                        have hNLe : ¬ ((lj x'.hs Q j).length : Int) < (NQ : Int) := by have := HNL.out; omega
                        clear hsn hrl hsn2 hlen hql hq
                        go_wp2_with (fail)
                        go_roundw
                        case rel => exact ⟨j + 1, by omega, by go_num, by rw [HLN.out], HS2.out⟩
                        case measure => simp [intOf]; omega
                · obtain rfl : j = 4 := by omega
                  have h8 : ((pre x'.hs Q 4).length : Int) = 8 := by
                    have := ((pre_perm x'.hs Q).trans HPERM.out).length_eq
                    simp at this ⊢; omega
                  rw [h8]
                  have HF := Lib.hid hsn.so
                  clear hsn hj hj4 h8
                  go_wp2_with (fail)
                  go_roundw
                  case rel =>
                    refine ⟨i + 1, nn, x', by omega, by go_num, rfl, hn0, by omega, ?_⟩
                    have e : ((i + 1 : Nat) : Int) = (i : Int) + 1 := by omega
                    rw [e]
                    exact ⟨HF.out, HDX.out.pf, HDX.out.ex, HDX.out.ln⟩
                  case measure => simp [intOf]; omega
    · as_aux_lemma =>
        obtain rfl : i = len0 + 60 := by omega
        have e1 : decide (((len0 + 60 : Nat) : Int) < (len0 : Int) + 60) = false := by simp
        have HE := Lib.hid H0.out.so.bel
        clear hlt hi hn0 hn1
        go_wp2_with (fail)
        go_ret
        exact ⟨rfl, HE.out⟩
end Go.Proofs.Ytgnnhjadmepipaa
