/-
 ShaEnding; ShaOf: several texts in one.
-/
import Derived.Test.YtlpabcnhcbgfjaaGB
import Derived.Test.YtlpabcnhcbgfjaaShelf
import Derived.Laws.IdiomStrings
import Derived.Lib.RepeatB
namespace Go.Proofs.Ytlpabcnhcbgfjaa
open Go.RowKit
def padEnd (n i:Nat):List UInt8:=[128] ++ List.replicate (Sm.zeros n) (0:UInt8) ++ (Sm.be8 (8 * n)).take i
def joined (parts:List ByteArray)(k:Nat):List UInt8:=(parts.take k).flatMap fun s=>s.data.toList
def digZero:Array Value:=(digCells Sm.init.list (List.replicate 64 0) 0 0).toArray
def digNil:Array Value:=(List.replicate 72 (Value.int .u32 0) ++ List.replicate 64 (Value.int .u8 0) ++ [Value.int .i64 0,Value.int .u64 0]).toArray
def digMid:Array Value:=(wcells Sm.init.list ++ List.replicate 64 (Value.int .u32 0) ++ List.replicate 64 (Value.int .u8 0) ++ [Value.int .i64 0,Value.int .u64 0]).toArray
end Go.Proofs.Ytlpabcnhcbgfjaa
