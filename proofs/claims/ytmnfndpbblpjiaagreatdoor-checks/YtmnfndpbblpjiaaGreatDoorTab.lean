/- The tables of words, on both sides. -/
import Derived.Test.YtmnfndpbblpjiaaGreatDoorBase
import Derived.Test.YtmnfndpbblpjiaaGreatDoorPu2
namespace Go.Proofs.YtmnfndpbblpjiaaGreatDoor
open Go.RowKit Pu

set_option maxHeartbeats 1000000 in
theorem sortGiven_any (s : ByteArray) (w : World) : Calls Tryz.prog 145 #[.string s] w fun e w' => e = .returned (.int .u8 (sG s.toList)) ∧ w = w' := by
  go_enter Tryz.func145, Tryz.ntmps145
  go_wp2
  all_goals go_ret
  all_goals refine ⟨?_, rfl⟩
  all_goals simp_all [sG]

set_option maxHeartbeats 1000000 in
theorem weightGiven_any (s : ByteArray) (sum last : Nat) (w : World) (h1 : sum ≤ 1000) (h2 : last ≤ 1000) : Calls Tryz.prog 146 #[.string s, .int .i64 sum, .int .i64 last] w fun e w' => e = .returned (.int .i64 (wG s.toList sum last)) ∧ w = w' := by
  go_enter Tryz.func146, Tryz.ntmps146
  go_wp2
  all_goals go_ret
  all_goals refine ⟨?_, rfl⟩
  all_goals simp_all [wG]

set_option maxHeartbeats 2000000 in
theorem questionTakes_any (s : ByteArray) (w : World) : Calls Tryz.prog 143 #[.string s] w fun e w' => e = .returned (.tuple #[S (qT s.toList).1, .bool (qT s.toList).2]) ∧ w = w' := by
  go_enter Tryz.func143, Tryz.ntmps143
  go_wp2
  all_goals go_ret2
  all_goals refine ⟨?_, rfl⟩
  all_goals simp_all [qT]

set_option maxHeartbeats 2000000 in
theorem constructionTakes_any (s : ByteArray) (w : World) : Calls Tryz.prog 144 #[.string s] w fun e w' => e = .returned (.tuple #[S (cT s.toList).1, .bool (cT s.toList).2]) ∧ w = w' := by
  go_enter Tryz.func144, Tryz.ntmps144
  go_wp2
  all_goals go_ret2
  all_goals refine ⟨?_, rfl⟩
  all_goals simp_all [cT]

set_option maxHeartbeats 4000000 in
set_option maxRecDepth 100000 in
theorem form_any (s : ByteArray) (w : World) : Calls Tryz.prog 113 #[.string s] w fun e w' => e = .returned (.tuple #[S (fm s.toList).1, .int .u8 (fm s.toList).2]) ∧ w = w' := by
  go_enter Tryz.func113, Tryz.ntmps113
  go_wp2
  all_goals go_ret2
  all_goals refine ⟨?_, rfl⟩
  all_goals simp_all [fm]
end Go.Proofs.YtmnfndpbblpjiaaGreatDoor
