/- What a writer tells at its end. Made by program (wip/gen/put.py). -/
import Derived.Test.YtpbokgeaolpiaabGreatVfm
namespace Go.Proofs.YtpbokgeaolpiaabGreat
open Go.RowKit
/- what is told: the error's number, and the bytes -/
def codeB (b : Bool) : Int := if b = true then 1 else 0
def bytesB (r : List UInt8 × Bool) : List UInt8 := if r.2 = true then [] else r.1
end Go.Proofs.YtpbokgeaolpiaabGreat
