/- A text of one byte. Plain. -/
import Derived.Test.YtfkfkoebplpooaaBytes
namespace Go.Proofs.Ytfkfkoebplpooaa
/-- A byte as a text. -/
def byteS (b : Int) : ByteArray := ⟨#[UInt8.ofNat b.toNat]⟩
end Go.Proofs.Ytfkfkoebplpooaa
