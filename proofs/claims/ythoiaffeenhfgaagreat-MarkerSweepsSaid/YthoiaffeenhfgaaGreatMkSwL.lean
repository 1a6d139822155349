
import Derived.Test.YthoiaffeenhfgaaGreatMkSwP
import Derived.Test.YthoiaffeenhfgaaGreatMkNo
import Derived.Test.YthoiaffeenhfgaaGreatJ23
import Derived.Laws.MakeOwn
namespace Go.Proofs.YthoiaffeenhfgaaGreat
open Go.RowKit
set_option linter.unusedVariables false
set_option linter.unusedSimpArgs false
set_option maxRecDepth 100000
open Lay (plcc plc shOf packN nodesN OkC Cfg Norm firstV Rep lenL partsC slotsOf kindV)
structure IR (w : World) (b n : Nat) (f : Nat → Int) : Prop where
  ex : ∃ (V : Array Value) (T : TypeId), w.heap[b]? = some (.cells V T (0, 0)) ∧ V.size = n ∧ ∀ i, i < n → V[i]? = some (.int .i64 (f i))
section
variable {w w' : World} {b n : Nat} {f : Nat → Int}
theorem IR.same (h : IR w b n f) (k : w'.heap[b]? = w.heap[b]?) : IR w' b n f := by obtain ⟨V, T, h, a⟩ := h.ex; exact ⟨V, T, k.trans h, a⟩
theorem IR.cell (h : IR w b n f) {i : Nat} (hi : i < n) : w.cell? ⟨b, i, none⟩ = some (.int .i64 (f i)) := by
  obtain ⟨V, T, h, a, d⟩ := h.ex
  exact (cell_of_row w b i V T _ h).trans (d i hi)
theorem IR.fro (h : IR w b n f) (i : Nat) : w.frozen? ⟨b, i, none⟩ = false := by obtain ⟨V, T, h, _⟩ := h.ex; exact frozen_of_row w b i _ _ h
theorem IR.put (h : IR w b n f) {i : Nat} (hi : i < n) (x : Int) : IR (w.setCell ⟨b, i, none⟩ (.int .i64 x)) b n (fset f i x) := by
  obtain ⟨V, T, h, a, d⟩ := h.ex
  refine ⟨V.setIfInBounds i (.int .i64 x), T, heap_setCell_same w b i _ T _ h, by simpa using a, fun j hj => ?_⟩
  by_cases e : j = i
  · subst e
    rw [fset_same, Array.getElem?_setIfInBounds_self, if_pos (by omega)]
  · rw [fset_other _ e, Array.getElem?_setIfInBounds_ne (Ne.symm e)]; exact d j hj
theorem made_i (n : Nat) : (madeCells (Value.int .i64 0).cells n).toList = List.replicate n (.int .i64 0) := by
  apply List.ext_getElem?
  intro j
  by_cases hj : j < n
  · simp [madeCells, hj, Value.cells, Nat.mod_one]
  · simp [madeCells, hj]
theorem make_i (n : Nat) (w : World) (hn : n ≤ 1000000) : (Instr.makeSlice 57 (.int .i64 (n : Int)) (.int .i64 (n : Int))).run Tryz.prog w = .ok (.slice (some ⟨w.heap.size, 0, none⟩) n n) (w.alloc (.cells (List.replicate n (Value.int .i64 0)).toArray 3)) := by
  obtain ⟨i0, hi, hz0, hz1, hz2⟩ := info_parts info3
  have := run_make w 57 3 i0 (.int .i64 0) Tryz.underlying57 hi hz0 .i64 .i64 n n (by omega) (Int.le_refl _) (by rw [hz2]; omega) (by omega)
  have e : madeCells (Value.int .i64 0).cells n = (List.replicate n (Value.int .i64 0)).toArray := by
    apply Array.ext'
    rw [made_i]
  simpa [hz1, e] using this
end
def EB (w : World) (E : Nat) (k a b : Int) : Prop := w.heap[E]? = some (.cells #[.int .i64 k, .int .i64 0, .int .i64 a, .int .i64 b, .int .i64 0] 44 (0, 0))
theorem EB.new (w : World) (k a b : Int) : EB (w.alloc (.cells #[.int .i64 k, .int .i64 0, .int .i64 a, .int .i64 b, .int .i64 0] 44)) w.heap.size k a b := Go.heap_alloc_new _ _
theorem EB.ca {w : World} {E : Nat} {k a b : Int} (h : EB w E k a b) : w.cell? ⟨E, 2, none⟩ = some (.int .i64 a) := cell_of_row w E 2 _ _ _ h
theorem EB.ck {w : World} {E : Nat} {k a b : Int} (h : EB w E k a b) : w.cell? ⟨E, 0, none⟩ = some (.int .i64 k) := cell_of_row w E 0 _ _ _ h
theorem elM : ElT 37 35 (.pointer none) 8 := ⟨Tryz.underlying37, by kernel_rfl, rfl, by decide⟩
def mkQ (X : Nat → Nat) (q : Nat) : List Value := (List.range q).map fun i => ptr (X i)
theorem mkQ_len (X : Nat → Nat) (q : Nat) : (mkQ X q).length = q := by simp [mkQ]
theorem mkQ_at (X : Nat → Nat) {q i : Nat} (h : i < q) : (mkQ X q).getD i undef = ptr (X i) := by simp [mkQ, List.getD, h]
theorem mkQ_push (X : Nat → Nat) (q Y : Nat) : mkQ X q ++ [ptr Y] = mkQ (fset X q Y) (q + 1) := by
  unfold mkQ
  rw [List.range_succ, List.map_append]
  congr 1
  · apply List.map_congr_left
    intro i hi
    have := List.mem_range.1 hi
    rw [fset_other _ (by omega)]
  · simp [fset_same]
structure AL (B S D N : Nat) (c : Cfg) (w0 w : World) (o : Option Nat) (v : Value) (q : Nat) (X : Nat → Nat) (L : List Int) (k : Int) : Prop where
  ma : MA B S D N c w0 w (fun b => o = some b) q X (fun i => mNew c i) L k
  ro : QVO 35 o w v (mkQ X q)
section
variable {B S D N : Nat} {c : Cfg} {w0 w w' : World} {o : Option Nat} {v v' : Value} {q : Nat} {X : Nat → Nat} {L : List Int} {k : Int} {Y : Nat}
theorem AL.begin (h : PO B S D N c w0 w L k) (X : Nat → Nat) : AL B S D N c w0 w none (.slice none 0 0) 0 X L k :=
  ⟨MA.startG h X _ (fun b e => by cases e), rfl, rfl⟩
theorem AL.below (h : AL B S D N c w0 w o v q X L k) (hb : Below w.heap.size w w') : AL B S D N c w0 w' o v q X L k := ⟨h.ma.below hb, h.ro.below hb⟩
theorem AL.new (h : AL B S D N c w0 w o v q X L k) (hq : (q : Int) < c.mr) (hw : (Lit.int .i64 (q : Int)).wf = true) :
    Calls Tryz.prog 12 #[Lay.mapP N, .int .i64 (q : Int)] w fun e w' => ∃ Y, e = .returned (ptr Y) ∧ Below w.heap.size w w' ∧ QVO 35 o w' v (mkQ X q) ∧ MA B S D N c w0 w' (fun b => o = some b) (q + 1) (fset X q Y) (fun i => mNew c i) L k := by
  refine (h.ma.new (q : Int) hw (by omega) hq).mono ?_
  rintro e w' ⟨Y, rfl, hm, hb, _⟩
  exact ⟨Y, rfl, hb, h.ro.below hb, hm.congr fun i hi => ⟨rfl, by
    by_cases e : i = q
    · subst e; rw [fset_same]
    · rw [fset_other _ e]⟩⟩
theorem AL.push (hm : MA B S D N c w0 w (fun b => o = some b) (q + 1) (fset X q Y) (fun i => mNew c i) L k) (hg : GrewV 35 o w w' v' (mkQ X q ++ [ptr Y])) : ∃ o', AL B S D N c w0 w' o' v' (q + 1) (fset X q Y) L k := by
  obtain ⟨b, hb, hqv, u⟩ := hg
  rw [mkQ_push] at hqv
  refine ⟨some b, ?_, hqv⟩
  rcases hb with rfl | hb
  · exact hm.row ((UF.of_upd u).mono fun x _ e => by rcases e with e | e <;> rw [e])
  · have hbl : Below w.heap.size w w' := below_uf (Below.refl w.heap.size w) (Nat.le_refl _) (UF.of_upd u) (fun x e => by rcases e with e | e <;> omega)
    exact hm.grow hbl fun x e => by
      injection e with e
      subst e
      exact .inr ⟨hb, hqv.lt⟩
end
theorem AJ.filled {c : Cfg} (hc : OkC c) {K : Nat} (hK : K = 1 ∨ K = 2 ∨ K = 3 ∨ K = 4) (hn : nodn c ≤ 12) {L0 L1 L2 : List Int} {cy ph : Int} {v : Nat} (hr : Rep (shOf c) L0 (firstV c)) (hf : FM c L0 L1 v) (e : L2 = L1) (hl : L2.length = lenL (shOf c)) (h5 : ph % 8 = 5) (h8 : ph / 8 = cy) (p : Nat) :
    AJ K c cy (ptq (ptq L2 2 (cy % 4294967296 * 4294967296)) 0 ph) (ptq (ptq L2 2 (cy % 4294967296 * 4294967296)) 0 ph) (fun i => mNew c i) p 0 (fun _ => 0) := by
  subst e
  have G := gw_is hc hl
  have e2 : plcc c 2 0 0 = 2 := sweep2 c
  have e3 : plcc c 3 0 0 = 3 := done3 c
  have s1 : (0 : Int) ≤ (wOf c).sw ∧ (wOf c).sw < L2.length := G.sw
  have d1 : (0 : Int) ≤ (wOf c).dn ∧ (wOf c).dn < L2.length := G.dn
  have f2 : (wOf c).sw = 2 := e2
  have f3 : (wOf c).dn = 3 := e3
  have lp : 0 < L2.length := by omega
  have hp0 : ldq (ptq (ptq L2 2 (cy % 4294967296 * 4294967296)) 0 ph) 0 = ph := put0 (by rw [pt_len]; exact lp)
  refine AJ.start hK hc (by rw [pt_len, pt_len]; exact hl) ?_ ?_ hn (by rw [hp0]; exact h5) (by rw [hp0]; exact h8) p
  · rw [f2, pt_other (by omega) (by omega)]
    exact pt_same ⟨by omega, by omega⟩
  · rw [f3, pt_other (by omega) (by omega), pt_other (by omega) (by omega)]
    have hq := hf.same 3 (by omega) (by
      rintro ⟨u, u1, u2, x | x | ⟨j, x⟩⟩
      · have := (one_place (nrm 3 0 0 (by omega) (by omega) (fun _ => rfl) (fun _ _ _ => rfl)) (nrm 14 u 0 (by omega) (by omega) (fun h => by omega) (fun _ _ _ => rfl)) (by omega) (e3.trans x)).1; omega
      · have := (one_place (nrm 3 0 0 (by omega) (by omega) (fun _ => rfl) (fun _ _ _ => rfl)) (nrm 15 u 0 (by omega) (by omega) (fun h => by omega) (fun _ _ _ => rfl)) (by omega) (e3.trans x)).1; omega
      · have := (one_place (nrm 3 0 0 (by omega) (by omega) (fun _ => rfl) (fun _ _ _ => rfl)) (nrm 18 u j (by omega) (by omega) (fun h => by omega) (fun _ _ h => absurd rfl h)) (by omega) (e3.trans x)).1; omega)
    rw [hq]
    have := hr.2 ⟨3, 0, 0⟩ (Lay.norm_0 3 (by omega) (by omega)) (show 0 ≤ plcc c 3 0 0 by omega)
    have e : L0.getD (plcc c 3 0 0).toNat 0 = firstV c ⟨3, 0, 0⟩ := this
    rw [e3] at e
    rw [e]
    simp [firstV, Lay.VV, Lay.stkV, Lay.baseV, Lay.isTh]
theorem make_a (n : Nat) (w : World) (hn : n ≤ 1000000) : (Instr.makeSlice 57 (.int .i64 (n : Int)) (.int .i64 (n : Int))).run Tryz.prog w = .ok (.slice (some ⟨w.heap.size, 0, none⟩) n n) (w.alloc (.cells (Array.replicate n (Value.int .i64 0)) 3)) := by
  have h := make_i n w hn
  rwa [show (List.replicate n (Value.int .i64 0)).toArray = Array.replicate n (Value.int .i64 0) by simp] at h
theorem IR.newa (w : World) (n : Nat) (T : TypeId) : IR (w.alloc (.cells (Array.replicate n (Value.int .i64 0)) T)) w.heap.size n (fun _ => 0) :=
  ⟨_, _, Go.heap_alloc_new _ _, by simp, fun i hi => by simp [hi]⟩
structure AS (B S D N : Nat) (c : Cfg) (w0 w : World) (bo off bp bw K P : Nat) (X : Nat → Nat) (M : Nat → Mk) (L Lw : List Int) (k : Int) (pf : Nat → Int) : Prop where
  ma : MA B S D N c w0 w (fun b => b = bo ∨ b = bp ∨ b = bw) K X M L k
  ro : ∀ j, j < K → w.cell? ⟨bo, off + j, none⟩ = some (ptr (X j))
  rp : IR w bp P pf
  rw : Reads .u64 w (some ⟨bw, 0, none⟩) Lw
  ne : bp ≠ bo ∧ bp ≠ bw ∧ bo ≠ bw
section
variable {B S D N : Nat} {c : Cfg} {w0 w w' : World} {bo off bp bw K P : Nat} {X : Nat → Nat} {M : Nat → Mk} {L Lw : List Int} {k t : Int} {pf : Nat → Int} {i : Nat}
theorem AS.keep (h : AS B S D N c w0 w bo off bp bw K P X M L Lw k pf) {L' : List Int} {k' : Int} {M' : Nat → Mk} (hm : MA B S D N c w0 w' (fun b => b = bo ∨ b = bp ∨ b = bw) K X M' L' k') (hs : w.heap.size ≤ w'.heap.size) (e : ∀ b, (b = bo ∨ b = bp ∨ b = bw) → w'.heap[b]? = w.heap[b]?) : AS B S D N c w0 w' bo off bp bw K P X M' L' Lw k' pf :=
  ⟨hm, fun j hj => (World.cell?_of_block (w := w) (a := ⟨bo, off + j, none⟩) (e bo (.inl rfl))).trans (h.ro j hj), h.rp.same (e bp (.inr (.inl rfl))), reads_same h.rw hs (e bw (.inr (.inr rfl))), h.ne⟩
theorem AS.below (h : AS B S D N c w0 w bo off bp bw K P X M L Lw k pf) (hb : Below w.heap.size w w') : AS B S D N c w0 w' bo off bp bw K P X M L Lw k pf :=
  h.keep (h.ma.below hb) hb.size fun b e => hb.block b (h.ma.g b e).1
theorem AS.more (h : AS B S D N c w0 w bo off bp bw K P X M L Lw k pf) {k' : Int} (hk : k ≤ k') : AS B S D N c w0 w bo off bp bw K P X M L Lw k' pf := ⟨h.ma.more hk, h.ro, h.rp, h.rw, h.ne⟩
theorem AS.step (h : AS B S D N c w0 w bo off bp bw K P X M L Lw k pf) (hi : i < K) (wm : MW c t (M i)) (dr : Int) (hk : k ≤ 800000000) (ht : t ≤ 800000000) (hd : -9223372036854775808 ≤ dr ∧ dr ≤ 9223372036854775807) :
    Calls Tryz.prog 13 #[ptr (X i), ptr S, .int .i64 dr] w fun e w' => e = .returned (.tuple #[]) ∧ AS B S D N c w0 w' bo off bp bw K P X (fset M i (mstp c L dr (M i)).2) (mstp c L dr (M i)).1 Lw (k + 1) pf := by
  refine (h.ma.step hi wm dr hk ht hd).mono ?_
  rintro e w' ⟨rfl, hm, hs, hg⟩
  exact ⟨rfl, h.keep hm hs hg⟩
theorem AS.ev (h : AS B S D N c w0 w bo off bp bw K P X M L Lw k pf) (hi : i < K) : Calls Tryz.prog 16 #[ptr (X i)] w fun a w' => a = .returned (evV (M i).ek (M i).ea (M i).eb) ∧ Below w.heap.size w w' := h.ma.ev hi
theorem AS.setp (h : AS B S D N c w0 w bo off bp bw K P X M L Lw k pf) {j : Nat} (hj : j < P) (x : Int) : AS B S D N c w0 (w.setCell ⟨bp, j, none⟩ (.int .i64 x)) bo off bp bw K P X M L Lw k (fset pf j x) := by
  have hne := h.ne
  have e : ∀ b, b ≠ bp → (w.setCell ⟨bp, j, none⟩ (.int .i64 x)).heap[b]? = w.heap[b]? := fun b hb => heap_setCell_other w ⟨bp, j, none⟩ b _ hb
  exact ⟨h.ma.row ((UF.set w bp j _).mono fun b _ e => .inr (.inl e)), fun q hq => (World.cell?_of_block (w := w) (a := ⟨bo, off + q, none⟩) (e bo (Ne.symm hne.1))).trans (h.ro q hq), h.rp.put hj x, reads_same h.rw (by simp) (e bw (Ne.symm hne.2.1)), h.ne⟩
theorem AS.load (h : AS B S D N c w0 w bo off bp bw K P X M L Lw k pf) (at' : Int) (hk : k ≤ 900000000) :
    Calls Tryz.prog 25 #[ptr S, .int .i64 at'] w fun a w' => a = .returned (.int .u64 (ldq L at')) ∧ AS B S D N c w0 w' bo off bp bw K P X M L Lw (k + 1) pf := by
  refine (load_po h.ma.po at' hk).mono ?_
  rintro a w' ⟨rfl, hp, u⟩
  exact ⟨rfl, h.keep (h.ma.left hp u) u.size fun b e => u.block b (h.ma.g b e).1 (fun x => by rcases x with x | x; exact (h.ma.g b e).2.2.1 x; exact (h.ma.g b e).2.2.2.1 x)⟩
theorem AS.was (h : AS B S D N c w0 w bo off bp bw K P X M L Lw k pf) (hl : L.length ≤ 1000000) (h0 : 0 < L.length) :
    Calls Tryz.prog 33 #[ptr S] w fun a w' => ∃ b2, a = .returned (.slice (some ⟨b2, 0, none⟩) L.length L.length) ∧ AS B S D N c w0 w' bo off bp b2 K P X M L L k pf := by
  refine (all_po h.ma.po hl).mono ?_
  rintro a w' ⟨rfl, hr, hp, hb⟩
  have hlt : w.heap.size < w'.heap.size := by
    obtain ⟨b', o, e1, hlt, _⟩ := hr h0
    injection e1 with e1; injection e1 with e2 e3; omega
  have g1 := (h.ma.g bo (.inl rfl)).1
  have g2 := (h.ma.g bp (.inr (.inl rfl))).1
  have h' := h.below hb
  refine ⟨w.heap.size, rfl, h.ma.grow hb (fun b e => ?_), h'.ro, h'.rp, hr, ⟨h.ne.1, by omega, by omega⟩⟩
  rcases e with e | e | e
  · exact .inl (.inl e)
  · exact .inl (.inr (.inl e))
  · exact .inr ⟨by omega, by omega⟩
end
set_option maxHeartbeats 32000000 in
theorem walkSweeps (c : Cfg) (cy0 : Int) (F : Option Addr) (n cap : Nat) (zf : List Int) (R : Option Addr) (pn pc : Nat) (zr : List Int) (w : World) (hcy0 : (Lit.int .u8 cy0).wf = true) (hF : IsRow .u64 w F n cap zf) (hR : IsRow .u8 w R pn pc zr) :
    Calls Tryz.prog 6 #[Lay.cfgV c, .int .u8 cy0, .slice F n cap, .slice R pn pc] w fun e w' => e = .returned (.bool true) ∧ Below w.heap.size w w' := by
  have hmf : ∀ (fn : Fn) (first cap : Array Value) (w : World), (Instr.makeFunc fn first cap).run Tryz.prog w = .ok (.func fn first cap) w := fun _ _ _ _ => rfl
  have hcyr : 0 ≤ cy0 ∧ cy0 ≤ 255 := by simp [Lit.wf, IntKind.min, IntKind.max, IntKind.bits, IntKind.signed] at hcy0; omega
  obtain ⟨rT, lT, _, _, _, wfT⟩ := reads_row hF
  obtain ⟨fs, hts⟩ : ∃ xs, xs = zf.take n := ⟨_, rfl⟩
  rw [← hts] at rT lT wfT
  obtain ⟨rR, lR, _, _, _, wfR⟩ := reads_row hR
  obtain ⟨rs, hrs⟩ : ∃ xs, xs = zr.take pn := ⟨_, rfl⟩
  rw [← hrs] at rR lR wfR
  have HTW := Lib.hid (u64_rngs wfT); have HRT := Lib.hid rT; have HLT := Lib.hid lT
  have HRW := Lib.hid (u8_rngs wfR); have HRR := Lib.hid rR; have HLR := Lib.hid lR
  clear hF hts rT lT wfT hR hrs rR lR wfR hcy0
  have HB := Lib.hid (Bw.start w c)
  obtain ⟨q0, q1, q2, q3, q4, q5, q6, q7, q8, q9, q10, q11⟩ := (Bw.start w c).cfg
  by_cases hbig : 40 < n ∨ 300 < pn
  · have key : decide ((n : Int) > 40) = true ∨ (decide ((n : Int) > 40) = false ∧ decide ((pn : Int) > 300) = true) := by
      by_cases h20 : 40 < n
      · exact .inl (by simp; omega)
      · exact .inr ⟨by simp; omega, by simp; omega⟩
    clear hbig
    rcases key with d0 | ⟨d0, d1⟩
    all_goals
      go_enter Tryz.func6, Tryz.ntmps6
      go_wp2_with (first
        | (go_at_call 7; (with_reducible refine (awake_true _).mono ?_); rintro e w1 ⟨rfl, hb⟩; have HB := Lib.hid (HB.out.step hb); clear hb q0 q1 q2 q3 q4 q5 q6 q7 q8 q9 q10 q11; obtain ⟨q0, q1, q2, q3, q4, q5, q6, q7, q8, q9, q10, q11⟩ := HB.out.cfg)
        | (go_at_call 8; (with_reducible refine (small_any c _).mono ?_); rintro e w2 ⟨b, rfl, hs, hb⟩; have HB := Lib.hid (HB.out.step hb); clear hb q0 q1 q2 q3 q4 q5 q6 q7 q8 q9 q10 q11 hs; cases b)
        | fail)
      all_goals go_ret
      all_goals exact ⟨rfl, HB.out.fin⟩
  · have d0 : decide ((n : Int) > 40) = false := by simp; omega
    have d1 : decide ((pn : Int) > 300) = false := by simp; omega
    have HN40 := Lib.hid (show n ≤ 40 by omega)
    have HP300 := Lib.hid (show pn ≤ 300 by omega)
    have ec64 : IntKind.u64.wrap cy0 = cy0 := by rw [IntKind.wrap_u64]; exact Int.emod_eq_of_lt (by omega) (by omega)
    have ec65 : IntKind.u64.wrap (cy0 + 1) = cy0 + 1 := by rw [IntKind.wrap_u64]; exact Int.emod_eq_of_lt (by omega) (by omega)
    have HCY := Lib.hid hcyr
    obtain ⟨ph, hph⟩ : ∃ ph, ph = ((cy0 + 1) * 8 + 5 % 8) % 18446744073709551616 := ⟨_, rfl⟩
    have HPH := Lib.hid hph
    have HPX : Hid ((0 ≤ ph ∧ ph ≤ 18446744073709551615) ∧ ph % 8 = 5 ∧ ph / 8 = cy0 + 1) := Lib.hid (by omega)
    have HNF : Hid (∀ w', Reads .u64 w' none []) := Lib.hid (fun w' h => by simp at h)
    have HNX : Hid (∀ x ∈ ([] : List Int), 0 ≤ x ∧ x ≤ 18446744073709551615) := Lib.hid (fun x hx => by simp at hx)
    clear hbig hph hcyr
    go_enter Tryz.func6, Tryz.ntmps6
    go_wp2_with (first
      | (go_at_call 7; (with_reducible refine (awake_true _).mono ?_); rintro e w1 ⟨rfl, hb⟩; have HB := Lib.hid (HB.out.step hb); clear hb q0 q1 q2 q3 q4 q5 q6 q7 q8 q9 q10 q11; obtain ⟨q0, q1, q2, q3, q4, q5, q6, q7, q8, q9, q10, q11⟩ := HB.out.cfg)
      | (go_at_call 8; (with_reducible refine (small_any c _).mono ?_); rintro e w2 ⟨b, rfl, hs, hb⟩; have HB := Lib.hid (HB.out.step hb); clear hb q0 q1 q2 q3 q4 q5 q6 q7 q8 q9 q10 q11; obtain ⟨q0, q1, q2, q3, q4, q5, q6, q7, q8, q9, q10, q11⟩ := HB.out.cfg; have HSS := Lib.hid hs; clear hs; cases b)
      | (go_at_call 9; (with_reducible refine (Lay.new_yes (HSS.out trivial).1 _).mono ?_); rintro e w3 ⟨N, rfl, hm, hb⟩; have HOK := Lib.hid (HSS.out trivial).1; have HM := Lib.hid hm; have HB := Lib.hid (HB.out.step hb); clear hb hm q0 q1 q2 q3 q4 q5 q6 q7 q8 q9 q10 q11)
      | (go_at_call 20; (with_reducible refine (phase_any (cy0 + 1) 5 (by have := HCY.out; omega) (by have := HCY.out; omega) _).mono ?_); rintro e w4 ⟨rfl, hb⟩; rw [← HPH.out]; have HB4 := Lib.hid (HB.out.step hb); have HM4 := Lib.hid (HM.out.below hb); have HRT4 := Lib.hid (HB4.out.reads HRT.out); have HRR4 := Lib.hid (HB4.out.reads HRR.out); clear hb)
      | (go_at_call 19; (with_reducible refine (filled_any HOK.out N ph F none n cap 0 0 fs [] _ HM4.out HPX.out.1 HLT.out.symm HRT4.out HTW.out (by have := HN40.out; omega) rfl (HNF.out _) HNX.out (by omega)).mono ?_); rintro e w5 ⟨S, D, L0, L1, L2, rfl, hrep, hfm, h20, hl2, hpo, hb⟩; have HP5 := Lib.hid hpo; have HL2 := Lib.hid hl2; have HRE := Lib.hid hrep; have HFM := Lib.hid hfm; have H20 := Lib.hid (h20 rfl); clear hpo hb hrep hl2 hfm h20)
      | fail)
    · go_ret
      exact ⟨rfl, HB.out.fin⟩
    have HK4 : Hid (1 ≤ c.mr ∧ c.mr ≤ 4) := Lib.hid ⟨HOK.out.k0, HOK.out.k1⟩
    obtain ⟨K, hK⟩ : ∃ K : Nat, c.mr = (K : Int) := ⟨c.mr.toNat, by have := HK4.out; omega⟩
    have HKM := Lib.hid hK
    have HKC : Hid (K = 1 ∨ K = 2 ∨ K = 3 ∨ K = 4) := Lib.hid (by have := HK4.out; omega)
    have HBW : Hid (∀ w', Below w4.heap.size w4 w' → Bw w c w') := Lib.hid (fun w' hb => below_step HB4.out HB4.out.lt hb)
    have HN12 : Hid (nodn c ≤ 12) := Lib.hid (by have := (HSS.out trivial).2; have := nodn_is HOK.out; omega)
    have HLE := Lib.hid (And.intro HRE.out.1 (first_len HOK.out HRE.out))
    obtain ⟨L, hL⟩ : ∃ L, L = ptq (ptq L2 2 (ph / 8 % 4294967296 * 4294967296)) 0 ph := ⟨_, rfl⟩
    have HAJ : Hid (AJ K c (cy0 + 1) L L (fun i => mNew c i) pn 0 (fun _ => 0)) := Lib.hid (by
      have := AJ.filled HOK.out HKC.out HN12.out HRE.out HFM.out H20.out HL2.out HPX.out.2.1 HPX.out.2.2 pn
      rw [hL, HPX.out.2.2]; exact this)
    have HLL : Hid (L.length = lenL (shOf c) ∧ L.length ≤ 1000000 ∧ 0 < L.length) := Lib.hid (by
      have h1 : L.length = lenL (shOf c) := by rw [hL, pt_len, pt_len]; exact HL2.out
      have h2 := HLE.out
      have h3 := len_pos HOK.out
      exact ⟨h1, by omega, by omega⟩)
    rw [← hL] at HP5
    have hcm := (HBW.out _ HP5.out.bel).mr
    clear hL HL2 HRE HFM H20 HLE hK HB
    go_loopw [14, 15] (fun sv sq wr => ∃ (q : Nat) (o : Option Nat) (X : Nat → Nat), sq = .int .i64 (q : Int) ∧ q ≤ K ∧ AL w4.heap.size S D N c w4 wr o sv q X L 2000) (fun _ sq _ => 10 - (intOf sq).toNat)
    case atStart => exact ⟨0, none, fun _ => 0, rfl, by omega, AL.begin HP5.out _⟩
    case round =>
      clear HP5 hcm
      obtain ⟨q, o, X, rfl, hq, hal⟩ := hrel
      have HAL := Lib.hid hal
      clear hal
      have hcm := (HBW.out _ HAL.out.ma.po.bel).mr
      rw [HKM.out] at hcm
      by_cases hlt : q < K
      · have hlt2 : (q : Int) < (K : Int) := by omega
        have HQ : Hid (q < K ∧ K ≤ 4) := Lib.hid ⟨hlt, by have := HKC.out; omega⟩
        have eq1 : IntKind.i64.wrap ((q : Int) + 1) = (q : Int) + 1 := IntWalk.i64_in _ (by have := HKC.out; omega)
        have HQW : Hid ((Lit.int .i64 (q : Int)).wf = true) := Lib.hid (Lay.wf_i64 (by omega) (by have := HKC.out; omega))
        have HQM : Hid ((q : Int) < c.mr) := Lib.hid (by rw [HKM.out]; omega)
        clear hlt hq
        go_wp2_with (first
          | (go_at_call 12; (with_reducible refine (HAL.out.new HQM.out HQW.out).mono ?_); rintro e w6 ⟨Y, rfl, hb, hro, hma⟩; have HRO := Lib.hid (hro.below (below_alloc0 (Below.refl w6.heap.size w6) (.cells #[ptr Y] 35))); have HMA := Lib.hid (hma.below (below_alloc0 (Below.refl w6.heap.size w6) (.cells #[ptr Y] 35))); clear hb hro hma hcm)
          | (at_builtin; refine append_v (o' := o) rfl _ _ elM rfl HRO.out (new_cell _ _ _) rfl (by rw [mkQ_len]; have := HQ.out; omega) rfl rfl ?_; intro v' w9 hg; obtain ⟨o2, h9⟩ := AL.push HMA.out hg; have HA9 := Lib.hid h9; clear hg h9)
          | fail)
        go_roundw
        case rel => exact ⟨q + 1, _, _, by go_num, HQ.out.1, HA9.out⟩
        case measure => simp [intOf]; have := HQ.out; omega
      · have hno : ¬ (q : Int) < (K : Int) := by omega
        obtain rfl : q = K := by omega
        clear hlt hq
        obtain ⟨bo, rfl, hqv⟩ := HAL.out.ro.has (by rw [mkQ_len]; have := HKC.out; omega)
        obtain ⟨off, cap2, rfl, hqc, hqm, hqcell⟩ := hqv.cell
        rw [mkQ_len] at hqc hqcell ⊢
        have HQV := Lib.hid hqv
        have HRO : Hid (∀ j, j < q → wr.cell? ⟨bo, off + j, none⟩ = some (ptr (X j))) := Lib.hid (fun j hj => by rw [hqcell j hj, mkQ_at X hj])
        have HPB := Lib.hid (Lay.parts_bd' HOK.out)
        obtain ⟨P, hP⟩ : ∃ P : Nat, partsC c = (P : Int) := ⟨(partsC c).toNat, by have := HPB.out.1; omega⟩
        have HPP := Lib.hid hP
        have HP60 : Hid (P ≤ 60) := Lib.hid (by have := HPB.out.2.1; omega)
        have hmk := fun w => make_a P w (by have := HP60.out; omega)
        clear hqv hqcell hP
        go_wp2_with (first
          | (go_at_call 35; (with_reducible refine (Lay.parts_m HOK.out N _ HAL.out.ma.po.mp).mono ?_); rintro e w6 ⟨rfl, hb⟩; rw [HPP.out]; have HA6 := Lib.hid (HAL.out.below hb); have HR6 : Hid (∀ j, j < q → w6.cell? ⟨bo, off + j, none⟩ = some (ptr (X j))) := Lib.hid (fun j hj => (World.cell?_of_block (w := wr) (a := ⟨bo, off + j, none⟩) (hb.block bo HQV.out.lt)).trans (HRO.out j hj)); have HB6 := Lib.hid (show bo < w6.heap.size from Nat.lt_of_lt_of_le HQV.out.lt hb.size); clear hb)
          | (go_at_call 33; (with_reducible refine (all_po (HA6.out.below (below_alloc0 (Below.refl w6.heap.size w6) (.cells (Array.replicate P (Value.int .i64 0)) 3))).ma.po HLL.out.2.1).mono ?_); rintro e w7 ⟨rfl, hr, hp, hb⟩; have HR7 := Lib.hid hr; have HB7 := Lib.hid hb; clear hr hp hb)
          | fail)
        obtain ⟨wA, hwA⟩ : ∃ wA, wA = w6.alloc (.cells (Array.replicate P (Value.int .i64 0)) 3) := ⟨_, rfl⟩
        obtain ⟨bp, hbp⟩ : ∃ bp, bp = w6.heap.size := ⟨_, rfl⟩
        obtain ⟨bw, hbw⟩ : ∃ bw, bw = w6.heap.size + 1 := ⟨_, rfl⟩
        have HASB : Hid (AS w4.heap.size S D N c w4 w7 bo off bp bw q P X (fun i => mNew c i) L L 2000 (fun _ => 0)) := Lib.hid (by
          have hba := below_alloc0 (Below.refl w6.heap.size w6) (.cells (Array.replicate P (Value.int .i64 0)) 3)
          have hsz : wA.heap.size = w6.heap.size + 1 := by rw [hwA]; simp
          have hb7 : Below wA.heap.size wA w7 := by rw [hwA]; exact HB7.out
          have hbb : Below w6.heap.size w6 w7 := by rw [← hwA] at hba; exact below_step hba hba.size hb7
          have hlt : bw < w7.heap.size := by
            obtain ⟨b', o, e1, hlt, _⟩ := HR7.out HLL.out.2.2
            injection e1 with e1; injection e1 with e2 e3
            rw [← hwA] at e2; omega
          have hb6 := HB6.out
          refine ⟨HA6.out.ma.grow hbb (fun b e => ?_), fun j hj => (World.cell?_of_block (w := w6) (a := ⟨bo, off + j, none⟩) (hbb.block bo hb6)).trans (HR6.out j hj), ?_, by rw [hbw, ← hsz, hwA]; exact HR7.out, ⟨by omega, by omega, by omega⟩⟩
          · rcases e with e | e | e
            · exact .inl (by rw [e])
            · exact .inr ⟨by omega, by omega⟩
            · exact .inr ⟨by omega, by omega⟩
          · rw [hbp]
            refine (IR.newa w6 P 3).same ?_
            have := hb7.block w6.heap.size (by omega)
            rw [this, hwA])
        rw [← hbw, ← hbp]
        clear hwA hbp hbw HA6 HR6 HR7 HB7 HB6 HAL HQV HRO hmk
        have HW0 : Hid (∀ k, k < q → MW c 0 (mNew c (k : Int))) := Lib.hid (fun k hk => mw_new (by omega) (by rw [HKM.out]; omega))
        have ek200 : IntKind.i64.wrap (200 * (q : Int)) = 200 * (q : Int) := IntWalk.i64_in _ (by have := HKC.out; omega)
        have ek150 : IntKind.i64.wrap (150 * (q : Int)) = 150 * (q : Int) := IntWalk.i64_in _ (by have := HKC.out; omega)
        have ep200 : IntKind.i64.wrap ((pn : Int) + 200 * (q : Int)) = (pn : Int) + 200 * (q : Int) := IntWalk.i64_in _ (by have := HKC.out; have := HP300.out; omega)
        have ep150 : IntKind.i64.wrap ((pn : Int) + 150 * (q : Int)) = (pn : Int) + 150 * (q : Int) := IntWalk.i64_in _ (by have := HKC.out; have := HP300.out; omega)
        have hq0 : ¬ (q : Int) = 0 := by have := HKC.out; omega
        have hq1 : ¬ q = 0 := by have := HKC.out; omega
        have HPA : Hid ((wOf c).parts = (P : Int)) := Lib.hid ((parts_is HOK.out).trans HPP.out)
        go_loopw [17, 18] (fun s17 s18 wr => ∃ (i bw : Nat) (M : Nat → Mk) (L1 Lw : List Int) (pf : Nat → Int), s17 = .slice (some ⟨bw, 0, none⟩) Lw.length Lw.length ∧ s18 = .int .i64 (i : Int) ∧ i ≤ pn + 200 * q ∧ AS w4.heap.size S D N c w4 wr bo off bp bw q P X M L1 Lw (2000 + (i : Int)) pf ∧ AJ q c (cy0 + 1) L L1 M pn i pf ∧ (∀ k, k < q → MW c (i : Int) (M k)) ∧ (pn + 150 * q < i → Lw = L1)) (fun _ s18 _ => pn + 200 * q - (intOf s18).toNat)
        case atStart => exact ⟨0, bw, _, L, L, _, rfl, rfl, by omega, by simpa using HASB.out, HAJ.out, HW0.out, fun h => by omega⟩
        case round =>
          clear HASB HAJ HW0
          obtain ⟨i, bw, M, L1, Lw, pf, rfl, rfl, hi, has, haj, hmw, hlw⟩ := hrel
          have HAS := Lib.hid has; have HAJ := Lib.hid haj; have HMW := Lib.hid hmw; have HLW := Lib.hid hlw
          have HL1 : Hid (L1.length ≤ 1000000 ∧ 0 < L1.length ∧ L1.length = L.length) := Lib.hid (by have h1 := haj.len; have h2 := HLL.out; exact ⟨by omega, by omega, h1⟩)
          clear has haj hmw hlw
          by_cases hlt : i < pn + 200 * q
          · have hlt2 : (i : Int) < (pn : Int) + 200 * (q : Int) := by omega
            have ei1 : IntKind.i64.wrap ((i : Int) + 1) = (i : Int) + 1 := IntWalk.i64_in _ (by have := HP300.out; have := HKC.out; omega)
            obtain ⟨iq, hiq⟩ : ∃ iq, iq = i % q := ⟨_, rfl⟩
            have eim : (i : Int).tmod (q : Int) = (iq : Int) := by rw [Int.tmod_eq_emod_of_nonneg (by omega), hiq]; rfl
            have eiw : IntKind.i64.wrap (iq : Int) = (iq : Int) := IntWalk.i64_in _ (by have := Nat.mod_lt i (show 0 < q by omega); have := HKC.out; omega)
            have HIQ : Hid (iq = i % q ∧ iq < q) := Lib.hid ⟨hiq, by rw [hiq]; exact Nat.mod_lt _ (by omega)⟩
            have HI : Hid (i < pn + 200 * q ∧ i < 2000) := Lib.hid (by have := HP300.out; have := HKC.out; omega)
            clear hi hlt hiq
            go_upto_if 85 with (fail)
            go_cut [19] (fun s wx => ∃ kk : Nat, s = .int .i64 (kk : Int) ∧ kk < q ∧ (pn ≤ i → kk = i % q) ∧ wx = wr)
            case first =>
              by_cases hip : i < pn
              · have hip2 : (i : Int) < (pn : Int) := by omega
                obtain ⟨b, of2, rfl, hblt, hcell⟩ := HRR.out (by rw [HLR.out]; omega)
                obtain ⟨x, hx⟩ : ∃ x, x = rs.getD i 0 := ⟨_, rfl⟩
                have hxr : 0 ≤ x ∧ x ≤ 255 := by rw [hx]; exact HRW.out _ (by rw [List.getD, List.getElem?_eq_getElem (by rw [HLR.out]; exact hip)]; exact List.getElem_mem _)
                have hcx : wr.cell? ⟨b, of2 + i, none⟩ = some (.int .u8 x) := by rw [hx]; exact ((HBW.out _ HAS.out.ma.po.bel).fin.cell (p := ⟨b, of2 + i, none⟩) hblt).trans (hcell i (by rw [HLR.out]; exact hip))
                obtain ⟨kk, hkk⟩ : ∃ kk : Nat, x % (q : Int) = (kk : Int) := ⟨(x % (q : Int)).toNat, by have := Int.emod_nonneg x hq0; omega⟩
                have t1 : x.tmod (q : Int) = (kk : Int) := by rw [Int.tmod_eq_emod_of_nonneg hxr.1, hkk]
                have hk3 : kk < q := by have := Int.emod_lt_of_pos x (show (0 : Int) < (q : Int) by omega); omega
                have exw : IntKind.i64.wrap x = x := IntWalk.i64_in _ (by omega)
                have w2 : IntKind.i64.wrap (kk : Int) = (kk : Int) := IntWalk.i64_in _ (by have := HKC.out; omega)
                have hi0 : (0 : Int) ≤ (i : Int) := by omega
                have HK3 := Lib.hid hk3
                clear hx hxr hkk hk3 hcell hblt eim
                go_wp2_with (fail)
                go_meet
                exact ⟨kk, rfl, HK3.out, fun h => absurd hip (by omega), rfl⟩
              · have hip2 : ¬ (i : Int) < (pn : Int) := by omega
                go_wp2_with (fail)
                go_meet
                exact ⟨iq, rfl, HIQ.out.2, fun _ => HIQ.out.1, rfl⟩
            case rest =>
              obtain ⟨kk, rfl, hkk, hturn, rfl⟩ := hcut
              have hgo := HAJ.out.go HKC.out HOK.out hkk HN12.out hturn (i : Int)
              have hst : pn + 150 * q ≤ i → (mstp c L1 (i : Int) (M kk)).1 = L1 := fun h => HAJ.out.still HKC.out hkk h _
              have HDR : Hid (-9223372036854775808 ≤ (i : Int) ∧ (i : Int) ≤ 9223372036854775807) := Lib.hid (by have := HI.out; omega)
              have hw2 := ((HMW.out kk hkk).step HOK.out HAS.out.ma.po.ww HDR.out).1
              have hk0 : (0 : Int) ≤ (kk : Int) := by omega
              have hkq : (kk : Int) < (q : Int) := by omega
              have HKK := Lib.hid hkk
              obtain ⟨y, hy⟩ : ∃ y, y = mstp c L1 (i : Int) (M kk) := ⟨_, rfl⟩
              rw [← hy] at hgo hst hw2
              obtain ⟨L2, m2⟩ := y
              dsimp only at hgo hst hw2
              have HY := Lib.hid hy.symm
              have HST := Lib.hid hst
              have HWN : Hid (∀ k, k < q → MW c (((i + 1 : Nat)) : Int) (fset M kk m2 k)) := Lib.hid (fun k hk => by
                by_cases e : k = kk
                · subst e; rw [fset_same]; exact hw2.mono (by omega)
                · rw [fset_other _ e]; exact (HMW.out k hk).mono (by omega))
              have hc1 := HAS.out.ro kk hkk
              clear hkk hturn hw2 hy eim HAJ HIQ eiw hst
              have HLE2 : Hid (L2.length ≤ 1000000 ∧ 0 < L2.length) := Lib.hid (by
                have h2 := HL1.out
                have : L2.length = L.length := by rcases hgo with ⟨_, j, _, _, _, h⟩ | ⟨_, h⟩ <;> exact h.len
                omega)
              rcases hgo with ⟨he, j, hj, j1, jf, hai⟩ | ⟨he, hai⟩
              · have HE := Lib.hid he
                have HAI := Lib.hid hai
                have HEA := Lib.hid hj
                have HJF := Lib.hid jf
                rw [HPA.out] at j1
                have HJP := Lib.hid (show j < P by omega)
                have hj0 : (0 : Int) ≤ (j : Int) := by omega
                have hj1 : decide ((j : Int) < 0) = false := by simp
                have hj2 : decide ((j : Int) ≥ (P : Int)) = false := by simp; omega
                have hj4 : (j : Int) < (P : Int) := by omega
                clear he hai hj jf j1
                go_upto_region 28 with (first
                  | (go_at_call 13; (with_reducible refine (HAS.out.step HKK.out (HMW.out kk HKK.out) (i : Int) (by have := HI.out; omega) (by have := HI.out; omega) HDR.out).mono ?_); rintro e w12 ⟨rfl, ha⟩; rw [HY.out] at ha; have HA2 := Lib.hid ha; have hc2 := ha.ro kk HKK.out; clear ha hc1)
                  | (go_at_call 16; (with_reducible refine (HA2.out.ev HKK.out).mono ?_); rintro e w13 ⟨rfl, hb⟩; rw [fset_same, HE.out, HEA.out]; obtain ⟨eb, heb⟩ : ∃ eb, eb = m2.eb := ⟨_, rfl⟩; rw [← heb]; have HA3 := Lib.hid ((HA2.out.below hb).below (below_alloc0 (Below.refl _ _) (.cells #[.int .i64 6, .int .i64 0, .int .i64 (j : Int), .int .i64 eb, .int .i64 0] 44))); have HEB := Lib.hid (EB.new w13 6 (j : Int) eb); have hck := HEB.out.ck; have hca := HEB.out.ca; have hf4 := HA3.out.rp.cell HJP.out; rw [HJF.out] at hf4; have hg4 := HA3.out.rp.fro j; clear hb hc2 heb)
                  | fail)
                have HA5 := Lib.hid (HA3.out.setp HJP.out 1)
                obtain ⟨W, hW⟩ : ∃ W, W = (w13.alloc (.cells #[.int .i64 6, .int .i64 0, .int .i64 (j : Int), .int .i64 eb, .int .i64 0] 44)).setCell ⟨bp, j, none⟩ (.int .i64 1) := ⟨_, rfl⟩
                rw [← hW] at HA5 ⊢
                clear hW hck hca hf4 hg4 HA3 HEB HA2
                by_cases h15 : i = pn + 150 * q
                · have h15b : ((i : Int) == (pn : Int) + 150 * (q : Int)) = true := by simp; omega
                  have H15 := Lib.hid h15
                  clear h15
                  go_wp2_with (first
                    | (go_at_call 33; (with_reducible refine (HA5.out.was HLE2.out.1 HLE2.out.2).mono ?_); rintro e w14 ⟨b2, rfl, ha⟩; have HA6 := Lib.hid ha; clear ha)
                    | fail)
                  go_roundw
                  case rel => exact ⟨i + 1, b2, _, L2, L2, _, rfl, by go_num, by have := HI.out; omega, HA6.out.more (by omega), HAI.out, HWN.out, fun _ => rfl⟩
                  case measure => simp [intOf]; have := HI.out; omega
                · have h15b : ((i : Int) == (pn : Int) + 150 * (q : Int)) = false := by simp; omega
                  have H15 := Lib.hid h15
                  clear h15
                  go_wp2_with (fail)
                  go_roundw
                  case rel => exact ⟨i + 1, bw, _, L2, Lw, _, rfl, by go_num, by have := HI.out; omega, HA5.out.more (by omega), HAI.out, HWN.out, fun h => by rw [HST.out (by omega)]; exact HLW.out (by have := H15.out; omega)⟩
                  case measure => simp [intOf]; have := HI.out; omega
              · have HAI := Lib.hid hai
                obtain ⟨ek, hek⟩ : ∃ ek, ek = m2.ek := ⟨_, rfl⟩
                rw [← hek] at he
                have he6 : (ek == 6) = false := by simpa using he
                have HEK := Lib.hid hek.symm
                clear he hai hek
                go_upto_region 28 with (first
                  | (go_at_call 13; (with_reducible refine (HAS.out.step HKK.out (HMW.out kk HKK.out) (i : Int) (by have := HI.out; omega) (by have := HI.out; omega) HDR.out).mono ?_); rintro e w12 ⟨rfl, ha⟩; rw [HY.out] at ha; have HA2 := Lib.hid ha; have hc2 := ha.ro kk HKK.out; clear ha hc1)
                  | (go_at_call 16; (with_reducible refine (HA2.out.ev HKK.out).mono ?_); rintro e w13 ⟨rfl, hb⟩; rw [fset_same, HEK.out]; obtain ⟨eb, heb⟩ : ∃ eb, eb = m2.eb := ⟨_, rfl⟩; obtain ⟨ea, hea⟩ : ∃ ea, ea = m2.ea := ⟨_, rfl⟩; rw [← heb, ← hea]; have HA3 := Lib.hid ((HA2.out.below hb).below (below_alloc0 (Below.refl _ _) (.cells #[.int .i64 ek, .int .i64 0, .int .i64 ea, .int .i64 eb, .int .i64 0] 44))); have HEB := Lib.hid (EB.new w13 ek ea eb); have hck := HEB.out.ck; have hca := HEB.out.ca; clear hb hc2 heb hea)
                  | fail)
                obtain ⟨W, hW⟩ : ∃ W, W = w13.alloc (.cells #[.int .i64 ek, .int .i64 0, .int .i64 ea, .int .i64 eb, .int .i64 0] 44) := ⟨_, rfl⟩
                rw [← hW] at HA3 ⊢
                clear hW hck hca HEB HA2
                by_cases h15 : i = pn + 150 * q
                · have h15b : ((i : Int) == (pn : Int) + 150 * (q : Int)) = true := by simp; omega
                  have H15 := Lib.hid h15
                  clear h15
                  go_wp2_with (first
                    | (go_at_call 33; (with_reducible refine (HA3.out.was HLE2.out.1 HLE2.out.2).mono ?_); rintro e w14 ⟨b2, rfl, ha⟩; have HA6 := Lib.hid ha; clear ha)
                    | fail)
                  go_roundw
                  case rel => exact ⟨i + 1, b2, _, L2, L2, _, rfl, by go_num, by have := HI.out; omega, HA6.out.more (by omega), HAI.out, HWN.out, fun _ => rfl⟩
                  case measure => simp [intOf]; have := HI.out; omega
                · have h15b : ((i : Int) == (pn : Int) + 150 * (q : Int)) = false := by simp; omega
                  have H15 := Lib.hid h15
                  clear h15
                  go_wp2_with (fail)
                  go_roundw
                  case rel => exact ⟨i + 1, bw, _, L2, Lw, _, rfl, by go_num, by have := HI.out; omega, HA3.out.more (by omega), HAI.out, HWN.out, fun h => by rw [HST.out (by omega)]; exact HLW.out (by have := H15.out; omega)⟩
                  case measure => simp [intOf]; have := HI.out; omega
          · have hno : ¬ (i : Int) < (pn : Int) + 200 * (q : Int) := by omega
            obtain ⟨ov1, ov2, ov3⟩ := HAJ.out.over HKC.out (by have := HKC.out; omega)
            have hLw : Lw = L1 := HLW.out (by have := HKC.out; omega)
            subst hLw
            have HOV : Hid (∀ j, j < P → pf j = 1) := Lib.hid (fun j hj => ov1 j (by rw [HPA.out]; omega))
            have HLD : Hid (ldq Lw 3 = (P : Int)) := Lib.hid (by
              have h3 : (wOf c).dn = 3 := done3 c
              have g := (gw_is HOK.out (L := Lw) (by rw [HL1.out.2.2]; exact HLL.out.1)).dn
              rw [h3] at ov2 g
              rw [ld_in g, ov2, HPA.out])
            have ePw : IntKind.u64.wrap (P : Int) = (P : Int) := by rw [IntKind.wrap_u64]; exact Int.emod_eq_of_lt (by omega) (by have := HP60.out; omega)
            have HI : Hid (i ≤ 2000) := Lib.hid (by have := HP300.out; have := HKC.out; omega)
            clear hlt hi ov1 ov2 ov3 HAJ HMW HLW
            go_wp2_with (fail)
            go_loopw [21] (fun v wx => ∃ (j : Nat), v = .int .i64 (j : Int) ∧ j ≤ P ∧ AS w4.heap.size S D N c w4 wx bo off bp bw q P X M Lw Lw (2000 + (i : Int)) pf) (fun v _ => 100 - (intOf v).toNat)
            case atStart => exact ⟨0, rfl, Nat.zero_le _, HAS.out⟩
            case round =>
              clear HAS
              obtain ⟨j, rfl, hj, has⟩ := hrel
              have HAS := Lib.hid has
              clear has
              by_cases hjP : j < P
              · have hj1 : (j : Int) < (P : Int) := by omega
                have hj0 : (0 : Int) ≤ (j : Int) := by omega
                have ej1 : IntKind.i64.wrap ((j : Int) + 1) = (j : Int) + 1 := IntWalk.i64_in _ (by have := HP60.out; omega)
                have hf := HAS.out.rp.cell hjP
                rw [HOV.out j hjP] at hf
                have HJ : Hid (j < P ∧ P ≤ 60) := Lib.hid ⟨hjP, HP60.out⟩
                clear hjP hj
                go_wp2_with (fail)
                go_roundw
                case rel => exact ⟨j + 1, by go_num, HJ.out.1, HAS.out⟩
                case measure => simp [intOf]; have := HJ.out; omega
              · have hj1 : ¬ (j : Int) < (P : Int) := by omega
                clear hjP hj
                go_wp2_with (first
                  | (go_at_call 36; (with_reducible refine (Lay.done_m HOK.out N _ HAS.out.ma.po.mp).mono ?_); rintro e w12 ⟨rfl, hb⟩; rw [done3]; have HA1 := Lib.hid (HAS.out.below hb); clear hb)
                  | (go_at_call 25; (with_reducible refine (HA1.out.load 3 (by have := HI.out; omega)).mono ?_); rintro e w13 ⟨rfl, ha⟩; rw [HLD.out]; have HA2 := Lib.hid ha; clear ha)
                  | (go_at_call 35; (with_reducible refine (Lay.parts_m HOK.out N _ HA2.out.ma.po.mp).mono ?_); rintro e w14 ⟨rfl, hb⟩; rw [HPP.out]; have HA3 := Lib.hid (HA2.out.below hb); clear hb)
                  | (go_at_call 33; (with_reducible refine (all_po HA3.out.ma.po HL1.out.1).mono ?_); rintro e w15 ⟨rfl, hr, hp, hb⟩; have HR4 := Lib.hid hr; have HA4 := Lib.hid (HA3.out.below hb); clear hr hp hb)
                  | (go_at_call 34; (with_reducible refine (same_yes _ _ _ _ _ _ Lw _ rfl rfl HR4.out HA4.out.rw HL1.out.1).mono ?_); rintro e w16 ⟨rfl, hb⟩; have HA5 := Lib.hid (HA4.out.below hb); clear hb)
                  | fail)
                go_ret
                exact ⟨rfl, (HBW.out _ HA5.out.ma.po.bel).fin⟩
end Go.Proofs.YthoiaffeenhfgaaGreat
