import PyProof.Rows.All
import Wide.All
import OpenK.AllK
import Wide.FinOn
import PySem.Challenge.RW_markthenpurge_k00_error_classes
open PySem PySem.W PySem.W.X PyProof.Rows
set_option Elab.async false
set_option maxRecDepth 100000 in
set_option maxHeartbeats 0 in
theorem PySem.Challenge.cw_markthenpurge_k00_error_classes_holds : PySem.Challenge.rw_markthenpurge_k00_error_classes.Holds := by
  open_z
