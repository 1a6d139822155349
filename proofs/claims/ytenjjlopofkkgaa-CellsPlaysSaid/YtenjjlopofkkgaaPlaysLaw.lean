/- The call of the law of accesses step by step. -/
import Derived.Test.YtenjjlopofkkgaaOneLaw
namespace Go.Proofs.Ytenjjlopofkkgaa
open Go.RowKit
set_option linter.unusedVariables false

/-- What is known at the head of a round: the store, and the document's own memory beside it. -/
structure Play (w wr : World) (S D n : Nat) (c : Int) (A : Option Addr) (M : List Int) : Prop where
  own : Own w.heap.size S D w wr M c
  reads : ReadsX S D wr A M
  len : n = M.length
theorem Play.st {w wr : World} {S D n : Nat} {c : Int} {A : Option Addr} {M : List Int} (h : Play w wr S D n c A M) : St wr S D M c := h.own.st
theorem Play.bel {w wr : World} {S D n : Nat} {c : Int} {A : Option Addr} {M : List Int} (h : Play w wr S D n c A M) : Below w.heap.size w wr := h.own.bel
theorem Play.ltS {w wr : World} {S D n : Nat} {c : Int} {A : Option Addr} {M : List Int} (h : Play w wr S D n c A M) : S < wr.heap.size := h.own.st.ltS
theorem Play.ltD {w wr : World} {S D n : Nat} {c : Int} {A : Option Addr} {M : List Int} (h : Play w wr S D n c A M) : D < wr.heap.size := h.own.st.row.lt
theorem Play.rds {w wr : World} {S D n : Nat} {c : Int} {A : Option Addr} {M : List Int} (h : Play w wr S D n c A M) : Reads .u64 wr A M := h.reads.reads
theorem Play.step {w wr w' : World} {S D n : Nat} {c : Int} {A : Option Addr} {M : List Int} (h : Play w wr S D n c A M) (hb : Below wr.heap.size wr w') : Play w w' S D n c A M :=
  ⟨h.own.step hb, h.reads.upd (Upd.of_below hb), h.len⟩
theorem Boxed.upd {w w' : World} {S D k : Nat} {x : Ac} (h : Boxed w k x) (u : Upd S D w w') (h1 : k ≠ S) (h2 : k ≠ D) : Boxed w' k x := by
  have hlt : k < w.heap.size := World.block_lt_of_cell? w _ h.1
  have e := u.block k hlt h1 h2
  exact ⟨(World.cell?_of_block (w := w) (a := ⟨k, 0, none⟩) e).trans h.1, (World.cell?_of_block (w := w) (a := ⟨k, 1, none⟩) e).trans h.2.1, (World.cell?_of_block (w := w) (a := ⟨k, 2, none⟩) e).trans h.2.2.1, (World.cell?_of_block (w := w) (a := ⟨k, 3, none⟩) e).trans h.2.2.2⟩
/-- What is known within a round: the access lies boxed; the document's memory, and the store's, may be a step apart. -/
structure Rd (w wr : World) (S D n : Nat) (c : Int) (A : Option Addr) (N M : List Int) (q : Nat) (x : Ac) : Prop where
  own : Own w.heap.size S D w wr M c
  reads : ReadsX S D wr A N
  len : n = N.length
  box : Boxed wr q x
  qS : q ≠ S
  qD : q ≠ D
section
variable {w wr w' : World} {S D n : Nat} {c c' : Int} {A A' : Option Addr} {N M M' : List Int} {q : Nat} {x : Ac}
theorem Rd.start (h : Play w wr S D n c A M) : Rd w (wr.alloc (boxO x)) S D n c A M M wr.heap.size x :=
  ⟨h.own.step (below_alloc0 (Below.refl _ _) _), h.reads.upd (Upd.of_below (below_alloc0 (Below.refl _ _) _)), h.len, boxed_new wr x, by have := h.ltS; omega, by have := h.ltD; omega⟩
theorem Rd.left (h : Rd w wr S D n c A N M q x) (k : Left S D M' c' wr w') : Rd w w' S D n c' A N M' q x :=
  ⟨h.own.left k, h.reads.upd k.2, h.len, h.box.upd k.2 h.qS h.qD, h.qS, h.qD⟩
theorem Rd.ref (h : Rd w wr S D n c A N M q x) (hl : n = M'.length) (hr : ReadsX S D w' A' M') (hb : Below wr.heap.size wr w') : Rd w w' S D n c A' M' M q x :=
  ⟨h.own.step hb, hr, hl, h.box.upd (Upd.of_below hb) h.qS h.qD, h.qS, h.qD⟩
theorem Rd.step (h : Rd w wr S D n c A N M q x) (hb : Below wr.heap.size wr w') : Rd w w' S D n c A N M q x :=
  ⟨h.own.step hb, h.reads.upd (Upd.of_below hb), h.len, h.box.upd (Upd.of_below hb) h.qS h.qD, h.qS, h.qD⟩
theorem Rd.play (h : Rd w wr S D n c A M M q x) : Play w wr S D n c A M := ⟨h.own, h.reads, h.len⟩
theorem Rd.st (h : Rd w wr S D n c A N M q x) : St wr S D M c := h.own.st
theorem Rd.ltS (h : Rd w wr S D n c A N M q x) : S < wr.heap.size := h.own.st.ltS
theorem Rd.ltD (h : Rd w wr S D n c A N M q x) : D < wr.heap.size := h.own.st.row.lt
theorem Rd.drew (h : Rd w wr S D n c A N M q x) : Rd w wr.drew S D n c A N M q x := h.step (Below.refl _ _).drew
theorem Rd.rds (h : Rd w wr S D n c A N M q x) : Reads .u64 wr A N := h.reads.reads
end

/-- What the loads and calls of a load's test read. -/
structure Kp (w' : World) (S D : Nat) (A : Option Addr) (M : List Int) (q : Nat) (p : Int) : Prop where
  reads : ReadsX S D w' A M
  cell : w'.cell? ⟨q, 1, none⟩ = some (.int .i64 p)
theorem Kp.all {w' : World} {S D : Nat} {A : Option Addr} {M : List Int} {q : Nat} {p : Int} (h : Kp w' S D A M q p) : w'.cell? ⟨q, 1, none⟩ = some (.int .i64 p) ∧ Kp w' S D A M q p := ⟨h.cell, h⟩
theorem Kp.drew {w' : World} {S D : Nat} {A : Option Addr} {M : List Int} {q : Nat} {p : Int} (h : Kp w' S D A M q p) : Kp w'.drew S D A M q p := ⟨h.reads.upd (Upd.refl _ _ _).drew, h.cell⟩
theorem Kp.rds {w' : World} {S D : Nat} {A : Option Addr} {M : List Int} {q : Nat} {p : Int} (h : Kp w' S D A M q p) : Reads .u64 w' A M := h.reads.reads
theorem Rd.kp {w wr : World} {S D n : Nat} {c : Int} {A : Option Addr} {N M : List Int} {q : Nat} {x : Ac} (h : Rd w wr S D n c A N M q x) : Kp wr S D A N q x.p := ⟨h.reads, h.box.2.1⟩

/-- What each kind of access leaves. -/
theorem kinds4 (L : List Int) (d p o v : Int) (h : 0 ≤ d) : ∃ M, M.length = L.length ∧ ((d = 0 ∧ L = M) ∨ (d = 1 ∧ ptv L p v = M) ∨ (d = 2 ∧ swv L p o v = M) ∨ (2 < d ∧ adv L p v = M)) := by
  by_cases d0 : d = 0
  · exact ⟨L, rfl, .inl ⟨d0, rfl⟩⟩
  by_cases d1 : d = 1
  · exact ⟨_, ptv_len .., .inr (.inl ⟨d1, rfl⟩)⟩
  by_cases d2 : d = 2
  · exact ⟨_, swv_len .., .inr (.inr (.inl ⟨d2, rfl⟩))⟩
  · exact ⟨_, adv_len .., .inr (.inr (.inr ⟨by omega, rfl⟩))⟩
theorem mem_at {l : List Ac} {i : Nat} (h : i < l.length) : atA l i ∈ l := by
  have : atA l i = l[i] := by simp [atA, List.getD, h]
  rw [this]; exact List.getElem_mem h

set_option maxHeartbeats 16000000 in
set_option maxRecDepth 100000 in
theorem walkPlays (A : Option Addr) (n cap : Nat) (zs : List Int) (B : Option Addr) (m capB : Nat) (acts : List Ac) (w : World) (hz : IsRow .u64 w A n cap zs) (ha : IsActs w B m capB acts) :
    Calls Try.prog 3 #[.slice A n cap, .slice B m capB] w fun e w' => e = .returned (.bool true) ∧ Below w.heap.size w w' := by
  obtain ⟨hr, hrl, hcn, hcm, _, _⟩ := reads_row hz
  clear hz
  obtain ⟨hra, hal, hacn, hacm, hwf⟩ := ha
  obtain ⟨L, hL⟩ : ∃ L, L = zs.take n := ⟨_, rfl⟩
  rw [← hL] at hr hrl
  clear hL hcn hcm hacn hacm
  by_cases h60 : 100 < n
  · have h60' : (100 : Int) < (n : Int) := by omega
    clear hrl hr hra hal hwf
    go_enter Try.func3, Try.ntmps3
    go_wp2_with (first
      | (go_at_call 9; (with_reducible refine (awake_any _).mono ?_); rintro r w1 ⟨rfl, hb⟩)
      | fail)
    go_ret
    exact ⟨rfl, hb⟩
  have h60' : ¬ (100 : Int) < (n : Int) := by omega
  by_cases h61 : 100 < m
  · have h61' : (100 : Int) < (m : Int) := by omega
    clear hrl hr hra hal hwf
    go_enter Try.func3, Try.ntmps3
    go_wp2_with (first
      | (go_at_call 9; (with_reducible refine (awake_any _).mono ?_); rintro r w1 ⟨rfl, hb⟩)
      | fail)
    go_ret
    exact ⟨rfl, hb⟩
  have h61' : ¬ (100 : Int) < (m : Int) := by omega
  have hn2 : n ≤ 1000000 := by omega
  have hm2 : m ≤ 100 := by omega
  have HR := Lib.hid hr
  have HN := Lib.hid hrl.symm
  have HRA := Lib.hid hra
  have HAL := Lib.hid hal
  have HWF := Lib.hid hwf
  clear hrl hr hra hal hwf h60 h61
  go_enter Try.func3, Try.ntmps3
  go_wp2_with (first
    | (go_at_call 9; (with_reducible refine (awake_any _).mono ?_); rintro r w1 ⟨rfl, hb⟩; have HB := Lib.hid hb; clear hb)
    | (go_at_call 10; (with_reducible refine (new_any A n cap L _ HN.out (HR.out.below HB.out (Nat.le_refl _)) hn2).mono ?_); rintro r w2 ⟨S, D, rfl, hS, hD, hs, hb⟩; have HP : Hid (Play w w2 S D n 0 A L) := Lib.hid ⟨Own.of_new HB.out (Nat.le_refl _) hS hD hs hb, (((HR.out.below HB.out (Nat.le_refl _)).apart hS hD).upd (Upd.of_below hb)), HN.out⟩; clear hs hb hS hD HB)
    | fail)
  go_loopw [7, 9] (fun v i wr => ∃ (k : Nat) (M : List Int) (A' : Option Addr) (cap' : Nat), k ≤ m ∧ v = .slice A' n cap' ∧ i = .int .i64 (k : Int) ∧ Play w wr S D n k A' M) (fun _ i _ => m - (intOf i).toNat)
  case atStart => exact ⟨0, L, A, cap, Nat.zero_le _, rfl, rfl, HP.out⟩
  case round =>
    clear HP
    obtain ⟨k, M, A', cap', hk, rfl, rfl, hp⟩ := hrel
    by_cases hlt : k < m
    · obtain ⟨b, off, rfl, hbl, hc⟩ := HRA.out (by rw [HAL.out]; omega)
      obtain ⟨d0, d1, d2, d3⟩ := hc k (by rw [HAL.out]; exact hlt)
      have c0 := (hp.bel.cell (p := ⟨b, off + k * 4, none⟩) hbl).trans d0
      have c1 : wr.cell? ⟨b, off + k * 4 + 1, none⟩ = _ := (hp.bel.cell (p := ⟨b, off + (k * 4 + 1), none⟩) hbl).trans d1
      have c2 : wr.cell? ⟨b, off + k * 4 + 2, none⟩ = _ := (hp.bel.cell (p := ⟨b, off + (k * 4 + 2), none⟩) hbl).trans d2
      have c3 : wr.cell? ⟨b, off + k * 4 + 3, none⟩ = _ := (hp.bel.cell (p := ⟨b, off + (k * 4 + 3), none⟩) hbl).trans d3
      have hwx := HWF.out _ (mem_at (i := k) (by rw [HAL.out]; exact hlt))
      obtain ⟨x, hx⟩ : ∃ x, x = atA acts k := ⟨_, rfl⟩
      rw [← hx] at c0 c1 c2 c3 hwx
      obtain ⟨d, p, o, v⟩ := x
      obtain ⟨M', hML, hkind⟩ := kinds4 M d p o v hwx.1
      have HML : Hid (n = M'.length) := Lib.hid (by rw [hML]; exact hp.len)
      obtain ⟨P, hP⟩ : ∃ P, P = ldv M p := ⟨_, rfl⟩
      obtain ⟨b1, hb1⟩ : ∃ b1, b1 = swB M p o := ⟨_, rfl⟩
      have HPV := Lib.hid hP.symm
      have HB1 := Lib.hid hb1.symm
      have HX := Lib.hid (Rd.start (x := ⟨d, p, o, v⟩) hp)
      have key : (d = 0 ∧ Hid (M = M')) ∨ (d = 1 ∧ Hid (ptv M p v = M')) ∨ (d = 2 ∧ Hid (swv M p o v = M')) ∨ (((d == 0) = false ∧ (d == 1) = false ∧ (d == 2) = false ∧ 2 < d) ∧ Hid (adv M p v = M')) := by
        rcases hkind with ⟨a, b⟩ | ⟨a, b⟩ | ⟨a, b⟩ | ⟨a, b⟩
        · exact .inl ⟨a, Lib.hid b⟩
        · exact .inr (.inl ⟨a, Lib.hid b⟩)
        · exact .inr (.inr (.inl ⟨a, Lib.hid b⟩))
        · refine .inr (.inr (.inr ⟨⟨?_, ?_, ?_, a⟩, Lib.hid b⟩)) <;> (rw [beq_eq_false_iff_ne]; omega)
      have hd0 : 0 ≤ d := hwx.1
      have hk0 : (0 : Int) ≤ (k : Int) := by omega
      have hk1 : (k : Int) < (m : Int) := by omega
      have hk2 : (k : Int) ≤ 1000000000 := by omega
      clear hkind hwx hx hP hb1 hML hc hp hlt hbl d0 d1 d2 d3
      rcases key with ⟨rfl, HM⟩ | ⟨rfl, HM⟩ | ⟨rfl, HM⟩ | ⟨⟨t0, t1, t2, t3⟩, HM⟩
      · have e := HM.out
        subst e
        clear HM
        have hkk : Kp (wr.alloc (boxO ⟨0, p, o, v⟩)) S D A' M wr.heap.size p := HX.out.kp
        have HXD := Lib.hid HX.out.drew
        obtain ⟨q0, q1, q2, q3⟩ := HX.out.box
        go_wp2_with (fail)
        clear q0 q1 q2 q3 HX
        go_region_held3 (fun w' => w'.cell? ⟨wr.heap.size, 1, none⟩ = some (.int .i64 p) ∧ Kp w' S D A' M wr.heap.size p)
          (first | exact Kp.all (by assumption) | exact Kp.all (Kp.drew (by assumption)) | go_keep)
          (first
            | (go_at_call 11; (with_reducible refine (load_any (S := S) (c := k) p _ HXD.out.st hk0 hk2).mono ?_); rintro r w3 ⟨rfl, hk⟩; rw [HPV.out]; have HX := Lib.hid (HXD.out.left hk); have hk3 := Rd.kp HX.out)
            | (go_at_call 11; (with_reducible refine (load_nil p _).mono ?_); rintro r w4 ⟨rfl, rfl⟩)
            | (go_at_call 12; (with_reducible refine (rload_any A' n cap' M p _ HML.out (Kp.rds (by assumption))).mono ?_); rintro r w5 ⟨rfl, rfl⟩; rw [HPV.out])
            | fail)
        go_wp2_with (first
          | (go_at_call 20; (with_reducible refine (all_some (S := S) (L := M) n _ HX.out.st HML.out hn2).mono ?_); rintro r w6 ⟨X, rfl, hX, hrow, hb⟩; have HW := Lib.hid hrow; have HX := Lib.hid (HX.out.step hb); clear hX hrow hb)
          | (go_at_call 19; (with_reducible refine (same_yes _ _ _ _ n n M _ HML.out HML.out HW.out.reads HX.out.rds hn2).mono ?_); rintro r w7 ⟨rfl, hb⟩; have HX := Lib.hid (HX.out.step hb); clear hb)
          | (go_at_call 21; (with_reducible refine (cnt_any (S := S) _ HX.out.st).mono ?_); rintro r w8 ⟨rfl, rfl⟩)
          | (go_at_call 22; (with_reducible refine (len_any (S := S) _ HX.out.st).mono ?_); rintro r w9 ⟨rfl, rfl⟩; rw [← HML.out])
          | fail)
        go_roundw
        case rel => exact ⟨k + 1, M, _, _, by omega, rfl, by go_num, HX.out.play⟩
        case measure => simp [intOf]; omega
      · obtain ⟨q0, q1, q2, q3⟩ := HX.out.box
        go_wp2_with (first
          | (go_at_call 13; (with_reducible refine (put_any (S := S) (c := k) p v _ HX.out.st hk0 hk2).mono ?_); rintro r w3 ⟨rfl, hk⟩; rw [HM.out] at hk; have HX := Lib.hid (HX.out.left hk); clear hk; clear q0 q1 q2 q3; obtain ⟨q0, q1, q2, q3⟩ := HX.out.box)
          | (go_at_call 13; (with_reducible refine (put_nil p v _).mono ?_); rintro r w4 ⟨rfl, rfl⟩)
          | (go_at_call 14; (with_reducible refine (rput_any S D A' n cap' M p v _ HX.out.len hn2 HX.out.reads HX.out.ltS HX.out.ltD).mono ?_); rintro r w5 ⟨A2, cap2, rfl, hr, hb⟩; rw [HM.out] at hr; have HX := Lib.hid (HX.out.ref HML.out hr hb); clear hr hb q0 q1 q2 q3)
          | (go_at_call 20; (with_reducible refine (all_some (S := S) (L := M') n _ HX.out.st HML.out hn2).mono ?_); rintro r w6 ⟨X, rfl, hX, hrow, hb⟩; have HW := Lib.hid hrow; have HX := Lib.hid (HX.out.step hb); clear hX hrow hb)
          | (go_at_call 19; (with_reducible refine (same_yes _ _ _ _ n n M' _ HML.out HML.out HW.out.reads HX.out.rds hn2).mono ?_); rintro r w7 ⟨rfl, hb⟩; have HX := Lib.hid (HX.out.step hb); clear hb)
          | (go_at_call 21; (with_reducible refine (cnt_any (S := S) _ HX.out.st).mono ?_); rintro r w8 ⟨rfl, rfl⟩)
          | (go_at_call 22; (with_reducible refine (len_any (S := S) _ HX.out.st).mono ?_); rintro r w9 ⟨rfl, rfl⟩; rw [← HML.out])
          | fail)
        go_roundw
        case rel => exact ⟨k + 1, M', _, _, by omega, rfl, by go_num, HX.out.play⟩
        case measure => simp [intOf]; omega
      · obtain ⟨q0, q1, q2, q3⟩ := HX.out.box
        go_wp2_with (first
          | (go_at_call 15; (with_reducible refine (rswap_any S D A' n cap' M p o v _ HX.out.len hn2 HX.out.reads HX.out.ltS HX.out.ltD).mono ?_); rintro r w3 ⟨A2, cap2, rfl, hr, hb⟩; rw [HM.out] at hr; rw [HB1.out]; have HX := Lib.hid (HX.out.ref HML.out hr hb); clear hr hb; clear q0 q1 q2 q3; obtain ⟨q0, q1, q2, q3⟩ := HX.out.box)
          | (go_at_call 16; (with_reducible refine (swap_any (S := S) (c := k) p o v _ HX.out.st hk0 hk2).mono ?_); rintro r w4 ⟨rfl, hk⟩; rw [HM.out] at hk; rw [HB1.out]; have HX := Lib.hid (HX.out.left hk); clear hk; clear q0 q1 q2 q3; obtain ⟨q0, q1, q2, q3⟩ := HX.out.box)
          | (go_at_call 16; (with_reducible refine (swap_nil p o v _).mono ?_); rintro r w5 ⟨rfl, rfl⟩)
          | (go_at_call 20; (with_reducible refine (all_some (S := S) (L := M') n _ HX.out.st HML.out hn2).mono ?_); rintro r w6 ⟨X, rfl, hX, hrow, hb⟩; have HW := Lib.hid hrow; have HX := Lib.hid (HX.out.step hb); clear hX hrow hb)
          | (go_at_call 19; (with_reducible refine (same_yes _ _ _ _ n n M' _ HML.out HML.out HW.out.reads HX.out.rds hn2).mono ?_); rintro r w7 ⟨rfl, hb⟩; have HX := Lib.hid (HX.out.step hb); clear hb)
          | (go_at_call 21; (with_reducible refine (cnt_any (S := S) _ HX.out.st).mono ?_); rintro r w8 ⟨rfl, rfl⟩)
          | (go_at_call 22; (with_reducible refine (len_any (S := S) _ HX.out.st).mono ?_); rintro r w9 ⟨rfl, rfl⟩; rw [← HML.out])
          | fail)
        go_roundw
        case rel => exact ⟨k + 1, M', _, _, by omega, rfl, by go_num, HX.out.play⟩
        case measure => simp [intOf]; omega
      · obtain ⟨q0, q1, q2, q3⟩ := HX.out.box
        go_wp2_with (first
          | (go_at_call 17; (with_reducible refine (radd_any S D A' n cap' M p v _ HX.out.len hn2 HX.out.reads HX.out.ltS HX.out.ltD).mono ?_); rintro r w3 ⟨A2, cap2, rfl, hr, hb⟩; rw [HM.out] at hr; rw [HPV.out]; have HX := Lib.hid (HX.out.ref HML.out hr hb); clear hr hb; clear q0 q1 q2 q3; obtain ⟨q0, q1, q2, q3⟩ := HX.out.box)
          | (go_at_call 18; (with_reducible refine (add_any (S := S) (c := k) p v _ HX.out.st hk0 hk2).mono ?_); rintro r w4 ⟨rfl, hk⟩; rw [HM.out] at hk; rw [HPV.out]; have HX := Lib.hid (HX.out.left hk); clear hk; clear q0 q1 q2 q3; obtain ⟨q0, q1, q2, q3⟩ := HX.out.box)
          | (go_at_call 18; (with_reducible refine (add_nil p v _).mono ?_); rintro r w5 ⟨rfl, rfl⟩)
          | (go_at_call 20; (with_reducible refine (all_some (S := S) (L := M') n _ HX.out.st HML.out hn2).mono ?_); rintro r w6 ⟨X, rfl, hX, hrow, hb⟩; have HW := Lib.hid hrow; have HX := Lib.hid (HX.out.step hb); clear hX hrow hb)
          | (go_at_call 19; (with_reducible refine (same_yes _ _ _ _ n n M' _ HML.out HML.out HW.out.reads HX.out.rds hn2).mono ?_); rintro r w7 ⟨rfl, hb⟩; have HX := Lib.hid (HX.out.step hb); clear hb)
          | (go_at_call 21; (with_reducible refine (cnt_any (S := S) _ HX.out.st).mono ?_); rintro r w8 ⟨rfl, rfl⟩)
          | (go_at_call 22; (with_reducible refine (len_any (S := S) _ HX.out.st).mono ?_); rintro r w9 ⟨rfl, rfl⟩; rw [← HML.out])
          | fail)
        go_roundw
        case rel => exact ⟨k + 1, M', _, _, by omega, rfl, by go_num, HX.out.play⟩
        case measure => simp [intOf]; omega
    · obtain rfl : k = m := by omega
      have HX := Lib.hid hp
      clear hp hlt
      go_wp2_with (first
        | (go_at_call 21; (with_reducible refine (cnt_nil _).mono ?_); rintro r w3 ⟨rfl, rfl⟩)
        | (go_at_call 22; (with_reducible refine (len_nil _).mono ?_); rintro r w3 ⟨rfl, rfl⟩)
        | (go_at_call 20; (with_reducible refine (all_nil _).mono ?_); rintro r w3 ⟨rfl, rfl⟩)
        | fail)
      go_ret
      exact ⟨rfl, HX.out.bel⟩
end Go.Proofs.Ytenjjlopofkkgaa
