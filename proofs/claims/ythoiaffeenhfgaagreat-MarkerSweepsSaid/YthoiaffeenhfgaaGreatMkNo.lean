
import Derived.Test.YthoiaffeenhfgaaGreatMkRs
namespace Go.Proofs.YthoiaffeenhfgaaGreat
open Go.RowKit
set_option linter.unusedVariables false
set_option linter.unusedSimpArgs false
set_option maxRecDepth 100000
open Lay (plcc plc shOf packN nodesN OkC Cfg Norm firstV Rep lenL things)
section
variable {w w' : World} {p : Option Addr}
end
theorem Bw.mr {w w' : World} {c : Cfg} (h : Bw w c w') : w'.cell? ⟨w.heap.size, 5, none⟩ = some (.int .i64 c.mr) := by
  obtain ⟨q0, q1, q2, q3, q4, q5, q6, q7, q8, q9, q10, q11⟩ := h.cfg
  exact q5
end Go.Proofs.YthoiaffeenhfgaaGreat
