/-
 Merged: Layer 7, the document: may a message be: its own way through the kinds.
-/
import Derived.Test.YtldfpklgbedgjaaGreatMsgH1
import Derived.Test.YtldfpklgbedgjaaGreatMsgH2
import Derived.Test.YtldfpklgbedgjaaGreatMsgH3
import Derived.Test.YtldfpklgbedgjaaGreatMsgH4
import Derived.Test.YtldfpklgbedgjaaGreatMsgH5
namespace Go.Proofs.YtldfpklgbedgjaaGreat
set_option linter.unusedSimpArgs false
set_option linter.unusedVariables false
set_option maxRecDepth 100000
open Go.RowKit
set_option maxHeartbeats 64000000 in
theorem refRight7_any (v : Value) (m : Msg.M) (w : World) (hv : IsMsg w v m) : Calls Tryz.prog 15 #[v] w fun e w' => e = .returned (.bool (Msg.right m)) ∧ Ext w w' := by
 by_cases hh : Msg.headOk m = true
 · have hks : m.kind = 1 ∨ m.kind = 2 ∨ m.kind = 3 ∨ m.kind = 4 ∨ m.kind = 5 ∨ m.kind = 6 ∨ m.kind = 7 ∨ m.kind = 8 ∨ m.kind = 9 ∨ m.kind = 10 ∨ ¬ (1 ≤ m.kind ∧ m.kind ≤ 10) := by omega
   rcases hks with hk | hk | hk | hk | hk | hk | hk | hk | hk | hk | hk
   · exact refRight7_1 v m w hv hh hk
   · exact refRight7_2 v m w hv hh hk
   · exact refRight7_3 v m w hv hh hk
   · exact refRight7_4 v m w hv hh hk
   · exact refRight7_5 v m w hv hh hk
   · exact refRight7_6 v m w hv hh hk
   · exact refRight7_7 v m w hv hh hk
   · by_cases o1 : m.old < 0
     · exact refRight7_8a v m w hv hh hk o1
     by_cases o2 : 1099511627776 < m.old
     · exact refRight7_8b v m w hv hh hk o1 o2
     by_cases o3 : m.old = 0
     · exact refRight7_8c v m w hv hh hk o3
     · exact refRight7_8d v m w hv hh hk o3 o1 o2
   · exact refRight7_9 v m w hv hh hk
   · exact refRight7_10 v m w hv hh hk
   · exact refRight7_none v m w hv hh hk
 have HN : ¬ ((0 ≤ m.src ∧ m.src ≤ 15) ∧ (0 ≤ m.dst ∧ m.dst ≤ 15) ∧ (1 ≤ m.term ∧ m.term ≤ 64) ∧ (0 ≤ m.number ∧ m.number ≤ 1099511627776) ∧ 0 ≤ m.shard ∧ m.shard ≤ 7) := fun h => hh (decide_eq_true h)
 have HR := Lib.hid (head_no HN)
 clear hh
 have hbx := box_msgR
 obtain ⟨a0, n0, k0, a1, n1, k1, a2, n2, k2, a3, n3, k3, rfl, h1, h2, h3, h4⟩ := hv.opened
 have HM := Lib.hid (Msg7.new (m := m) 35 h1 h2 h3 h4)
 have hE0 := Ext.alloc w (.cells (msgCells m (.slice a0 n0 k0) (.slice a1 n1 k1) (.slice a2 n2 k2) (.slice a3 n3 k3)) 35)
 clear h1 h2 h3 h4 hv
 obtain ⟨C0, C1, C2, C3, C4, C5, C6⟩ := HM.out.at_.head
 obtain ⟨V0, V1⟩ := HM.out.at_.votes
 by_cases g0 : m.src < 0
 · clear HN V0 V1 C0
   go_enter Tryz.func15, Tryz.ntmps15
   go_wp2_with fail
   go_ret
   exact ⟨by rw [HR.out]; rfl, hE0⟩
 by_cases g1 : 15 < m.src
 · clear HN V0 V1 C0
   go_enter Tryz.func15, Tryz.ntmps15
   go_wp2_with fail
   go_ret
   exact ⟨by rw [HR.out]; rfl, hE0⟩
 by_cases g2 : m.dst < 0
 · clear HN V0 V1 C0
   go_enter Tryz.func15, Tryz.ntmps15
   go_wp2_with fail
   go_ret
   exact ⟨by rw [HR.out]; rfl, hE0⟩
 by_cases g3 : 15 < m.dst
 · clear HN V0 V1 C0
   go_enter Tryz.func15, Tryz.ntmps15
   go_wp2_with fail
   go_ret
   exact ⟨by rw [HR.out]; rfl, hE0⟩
 by_cases g4 : m.term < 1
 · clear HN V0 V1 C0
   go_enter Tryz.func15, Tryz.ntmps15
   go_wp2_with fail
   go_ret
   exact ⟨by rw [HR.out]; rfl, hE0⟩
 by_cases g5 : 64 < m.term
 · clear HN V0 V1 C0
   go_enter Tryz.func15, Tryz.ntmps15
   go_wp2_with fail
   go_ret
   exact ⟨by rw [HR.out]; rfl, hE0⟩
 by_cases g6 : m.number < 0
 · clear HN V0 V1 C0
   go_enter Tryz.func15, Tryz.ntmps15
   go_wp2_with fail
   go_ret
   exact ⟨by rw [HR.out]; rfl, hE0⟩
 by_cases g7 : 1099511627776 < m.number
 · clear HN V0 V1 C0
   go_enter Tryz.func15, Tryz.ntmps15
   go_wp2_with fail
   go_ret
   exact ⟨by rw [HR.out]; rfl, hE0⟩
 by_cases g8 : m.shard < 0
 · clear HN V0 V1 C0
   go_enter Tryz.func15, Tryz.ntmps15
   go_wp2_with fail
   go_ret
   exact ⟨by rw [HR.out]; rfl, hE0⟩
 by_cases g9 : 7 < m.shard
 · clear HN V0 V1 C0
   go_enter Tryz.func15, Tryz.ntmps15
   go_wp2_with fail
   go_ret
   exact ⟨by rw [HR.out]; rfl, hE0⟩
 exact absurd (by omega) HN
end Go.Proofs.YtldfpklgbedgjaaGreat
