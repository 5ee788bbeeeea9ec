/-
  The usual hoist, pure: all numbers of at most four digits, one by one.
-/
import Derived.Test.YtdikflklkmfcfaaFVA
import Derived.Test.YtdikflklkmfcfaaFV0
import Derived.Test.YtdikflklkmfcfaaFV1
import Derived.Test.YtdikflklkmfcfaaFV2
import Derived.Test.YtdikflklkmfcfaaFV3
import Derived.Test.YtdikflklkmfcfaaFV4
import Derived.Test.YtdikflklkmfcfaaFV5
import Derived.Test.YtdikflklkmfcfaaFV6
import Derived.Test.YtdikflklkmfcfaaFV7
import Derived.Test.YtdikflklkmfcfaaFV8
import Derived.Test.YtdikflklkmfcfaaFV9
namespace Go.Proofs.Ytdikflklkmfcfaa
open Go.RowKit
set_option linter.unusedSimpArgs false
set_option linter.unusedVariables false

theorem chk_all {l : List Nat} (h1 : 1 ≤ l.length) (h4 : l.length ≤ 4) (h : ∀ x, x ∈ l → x < 10) : chkU l = true := by
  match l, h1, h4, h with
  | [a], _, _, h =>
    have ha := h a (by simp)
    exact List.all_eq_true.1 chk1 a (List.mem_range.2 ha)
  | [a, b], _, _, h =>
    have ha := h a (by simp)
    have hb := h b (by simp)
    exact List.all_eq_true.1 (List.all_eq_true.1 chk2 a (List.mem_range.2 ha)) b (List.mem_range.2 hb)
  | [a, b, c], _, _, h =>
    have ha := h a (by simp)
    have hb := h b (by simp)
    have hc := h c (by simp)
    exact List.all_eq_true.1 (List.all_eq_true.1 (List.all_eq_true.1 chk3 a (List.mem_range.2 ha)) b (List.mem_range.2 hb)) c (List.mem_range.2 hc)
  | [a, b, c, d], _, _, h =>
    have ha := h a (by simp)
    have hb := h b (by simp)
    have hc := h c (by simp)
    have hd := h d (by simp)
    have key : ((List.range 10).all fun b => (List.range 10).all fun c => (List.range 10).all fun d => chkU [a, b, c, d]) = true := by
      rcases (show a = 0 ∨ a = 1 ∨ a = 2 ∨ a = 3 ∨ a = 4 ∨ a = 5 ∨ a = 6 ∨ a = 7 ∨ a = 8 ∨ a = 9 by omega) with rfl | rfl | rfl | rfl | rfl | rfl | rfl | rfl | rfl | rfl
      · exact chk4_0
      · exact chk4_1
      · exact chk4_2
      · exact chk4_3
      · exact chk4_4
      · exact chk4_5
      · exact chk4_6
      · exact chk4_7
      · exact chk4_8
      · exact chk4_9
    exact List.all_eq_true.1 (List.all_eq_true.1 (List.all_eq_true.1 key b (List.mem_range.2 hb)) c (List.mem_range.2 hc)) d (List.mem_range.2 hd)
  | _ :: _ :: _ :: _ :: _ :: _, _, h4, _ => simp at h4
end Go.Proofs.Ytdikflklkmfcfaa
