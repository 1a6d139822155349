/- The steps of a deque's machine, walked: those at an entry. -/
import Derived.Test.YtjnenpflpckimaaStB
namespace Go.Proofs.Ytjnenpflpckimaa
open Go.RowKit
set_option linter.unusedVariables false
set_option linter.unusedSimpArgs false
variable {w0 : World} {M S D : Nat} {e : En} {nx : Value} {t b v r x : Int} {L : List Int} {c : Int}

theorem Mst.cs7 {w : World} (h : Mst w0 w M S D e nx t b v r x L c) : w.cell? ⟨M, 0, none⟩ = some (.int .i64 e.top) ∧ w.cell? ⟨M, 1, none⟩ = some (.int .i64 e.bot) ∧ w.cell? ⟨M, 2, none⟩ = some (.int .i64 e.ent) ∧ w.cell? ⟨M, 3, none⟩ = some (.int .i64 (roomOf e)) ∧ w.cell? ⟨M, 5, none⟩ = some (.int .u64 t) ∧ w.cell? ⟨M, 6, none⟩ = some (.int .u64 b) ∧ w.cell? ⟨M, 7, none⟩ = some (.int .u64 v) :=
  ⟨h.c0, h.c1, h.c2, h.c3, h.c5, h.c6, h.c7⟩
set_option maxHeartbeats 1000000 in
/-- An entry is put. -/
theorem putEntry_any (w : World) (h : Mst w0 w M S D e nx t b v r x L c) (h0 : 0 ≤ c) (h1 : c ≤ 1000000000) (ok : EnOk e) (hb0 : 0 ≤ b) :
    Calls Try.prog 40 #[ptr M, ptr S] w fun a w' => a = .returned (.tuple #[]) ∧ Mst w0 w' M S D e (fnv 46 M) t b v r x (ptv L (entOf e b) v) (c + 1) := by
  have hmf : ∀ (fn : Fn) (first cap : Array Value) (w : World), (Instr.makeFunc fn first cap).run Try.prog w = .ok (.func fn first cap) w := fun _ _ _ _ => rfl
  obtain ⟨q0, q1, q2, q3, q5, q6, q7⟩ := h.cs7
  have HMD := Lib.hid h.drew; clear h
  go_enter Try.func40, Try.ntmps40
  go_wp2
  go_region_held3 (fun w' => w'.cell? ⟨M, 0, none⟩ = some (.int .i64 e.top) ∧ w'.cell? ⟨M, 1, none⟩ = some (.int .i64 e.bot) ∧ w'.cell? ⟨M, 2, none⟩ = some (.int .i64 e.ent) ∧ w'.cell? ⟨M, 3, none⟩ = some (.int .i64 (roomOf e)) ∧ w'.cell? ⟨M, 5, none⟩ = some (.int .u64 t) ∧ w'.cell? ⟨M, 6, none⟩ = some (.int .u64 b) ∧ w'.cell? ⟨M, 7, none⟩ = some (.int .u64 v))
    (first | exact HQ.out.cs7 | exact HN.out.cs7 | exact HMD.out.cs7 | go_keep)
    (first
      | (go_at_call 45; (with_reducible refine (place_any b ok hb0 _).mono ?_); rintro r w3 ⟨rfl, hb⟩; have HN := Lib.hid (HMD.out.step hb); clear hb)
      | (go_at_call 17; (with_reducible refine (put_any _ _ _ HN.out.st h0 h1).mono ?_); rintro r w4 ⟨rfl, hk⟩; have HQ := Lib.hid (HN.out.left hk); clear hk; have c4 := HQ.out.c4; have f4 := HQ.out.f 4; have HE := Lib.hid (HQ.out.p4 (fnv 46 M)))
      | fail)
  go_wp2
  go_returns
  exact ⟨rfl, HE.out⟩
end Go.Proofs.Ytjnenpflpckimaa
