import Derived.Test.YtkjbgggghigapaaGreatCg38
import Derived.Test.YtkjbgggghigapaaGreatCg39
namespace Go.Proofs.YtkjbgggghigapaaGreat
open Go.RowKit
theorem batches_walk (n:Int) (hn:-9223372036854775808≤n∧n≤9223372036854775807) (w:World):Calls Tryz.prog 6 #[.int .i64 n] w fun e w'=>e= .returned (.bool true)∧Below w.heap.size w w':=
 batches_any (fun _ h S U=>bt_gen h S U) n w hn
end Go.Proofs.YtkjbgggghigapaaGreat
