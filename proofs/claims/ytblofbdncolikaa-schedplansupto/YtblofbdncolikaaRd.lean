/- The document's Diff: what is to stop as it stands. -/
import Derived.Test.YtblofbdncolikaaTk
import Derived.Test.YtblofbdncolikaaZr
import Derived.Test.YtblofbdncolikaaZo
import Derived.Test.YtblofbdncolikaaGy
namespace Go.Proofs.Ytblofbdncolikaa
open Go.RowKit Go.Shelf
def oRd_0 : Oper := { dst := some 73, op := Op.move (Operand.tmp 13), type := 4, pos := "ref.go:65", after := #[], guard := none }
def oRd_1 : Oper := { dst := some 74, op := Op.move (Operand.tmp 73), type := 4, pos := "ref.go:65", after := #[{ on := 0, ground := Ground.data }], guard := none }
def oRd_2 : Oper := { dst := some 75, op := Op.move (Operand.tmp 8), type := 64, pos := "ref.go:65", after := #[{ on := 1, ground := Ground.guard }], guard := some (1, false) }
def oRd_3 : Oper := { dst := some 76, op := Op.move (Operand.tmp 14), type := 3, pos := "ref.go:65", after := #[{ on := 1, ground := Ground.guard }], guard := some (1, false) }
def oRd_4 : Oper := { dst := some 77, op := Op.indexAddr 64 (Operand.tmp 75) (Operand.tmp 76), type := 0, pos := "ref.go:65", after := #[{ on := 2, ground := Ground.data }, { on := 3, ground := Ground.data }, { on := 1, ground := Ground.guard }], guard := some (1, false) }
def oRd_5 : Oper := { dst := some 78, op := Op.fieldAddr 67 (Operand.tmp 77) 0, type := 0, pos := "ref.go:65", after := #[{ on := 4, ground := Ground.data }, { on := 1, ground := Ground.guard }], guard := some (1, false) }
def oRd_6 : Oper := { dst := some 79, op := Op.load 3 (Operand.tmp 78), type := 3, pos := "ref.go:65", after := #[{ on := 5, ground := Ground.data }, { on := 1, ground := Ground.guard }], guard := some (1, false) }
def oRd_7 : Oper := { dst := some 80, op := Op.fieldAddr 42 (Operand.tmp 12) 3, type := 0, pos := "ref.go:65", after := #[{ on := 1, ground := Ground.guard }], guard := some (1, false) }
def oRd_8 : Oper := { dst := some 81, op := Op.load 3 (Operand.tmp 80), type := 3, pos := "ref.go:65", after := #[{ on := 7, ground := Ground.data }, { on := 1, ground := Ground.guard }], guard := some (1, false) }
def oRd_9 : Oper := { dst := some 82, op := Op.binOp BinOp.eql 3 (Operand.tmp 79) (Operand.tmp 81) 3, type := 4, pos := "ref.go:65", after := #[{ on := 6, ground := Ground.data }, { on := 8, ground := Ground.data }, { on := 1, ground := Ground.guard }], guard := some (1, false) }
def oRd_10 : Oper := { dst := some 83, op := Op.move (Operand.tmp 82), type := 4, pos := "ref.go:65", after := #[{ on := 9, ground := Ground.data }, { on := 1, ground := Ground.chain }, { on := 1, ground := Ground.guard }], guard := some (1, false) }
def oRd_11 : Oper := { dst := some 84, op := Op.move (Operand.tmp 8), type := 64, pos := "ref.go:65", after := #[{ on := 10, ground := Ground.guard }], guard := some (10, true) }
def oRd_12 : Oper := { dst := some 85, op := Op.move (Operand.tmp 14), type := 3, pos := "ref.go:65", after := #[{ on := 10, ground := Ground.guard }], guard := some (10, true) }
def oRd_13 : Oper := { dst := some 86, op := Op.indexAddr 64 (Operand.tmp 84) (Operand.tmp 85), type := 0, pos := "ref.go:65", after := #[{ on := 11, ground := Ground.data }, { on := 12, ground := Ground.data }, { on := 10, ground := Ground.guard }], guard := some (10, true) }
def oRd_14 : Oper := { dst := some 87, op := Op.fieldAddr 67 (Operand.tmp 86) 1, type := 0, pos := "ref.go:65", after := #[{ on := 13, ground := Ground.data }, { on := 10, ground := Ground.guard }], guard := some (10, true) }
def oRd_15 : Oper := { dst := some 88, op := Op.load 3 (Operand.tmp 87), type := 3, pos := "ref.go:65", after := #[{ on := 14, ground := Ground.data }, { on := 10, ground := Ground.guard }], guard := some (10, true) }
def oRd_16 : Oper := { dst := some 89, op := Op.fieldAddr 42 (Operand.tmp 12) 4, type := 0, pos := "ref.go:65", after := #[{ on := 10, ground := Ground.guard }], guard := some (10, true) }
def oRd_17 : Oper := { dst := some 90, op := Op.load 3 (Operand.tmp 89), type := 3, pos := "ref.go:65", after := #[{ on := 16, ground := Ground.data }, { on := 10, ground := Ground.guard }], guard := some (10, true) }
def oRd_18 : Oper := { dst := some 91, op := Op.binOp BinOp.eql 3 (Operand.tmp 88) (Operand.tmp 90) 3, type := 4, pos := "ref.go:65", after := #[{ on := 15, ground := Ground.data }, { on := 17, ground := Ground.data }, { on := 10, ground := Ground.guard }], guard := some (10, true) }
def oRd_19 : Oper := { dst := some 92, op := Op.pick (Operand.tmp 83) (Operand.tmp 91) (Operand.const (Value.bool false)), type := 4, pos := "ref.go:65", after := #[{ on := 10, ground := Ground.data }, { on := 18, ground := Ground.data }, { on := 1, ground := Ground.guard }], guard := some (1, false) }
def oRd_20 : Oper := { dst := some 93, op := Op.pick (Operand.tmp 74) (Operand.const (Value.bool true)) (Operand.tmp 92), type := 4, pos := "ref.go:65", after := #[{ on := 1, ground := Ground.data }, { on := 19, ground := Ground.data }], guard := none }
def oRd_21 : Oper := { dst := some 13, op := Op.assign (Operand.tmp 93), type := 4, pos := "ref.go:65", after := #[{ on := 20, ground := Ground.data }, { on := 10, ground := Ground.chain }, { on := 0, ground := Ground.phase }, { on := 1, ground := Ground.phase }, { on := 2, ground := Ground.phase }, { on := 3, ground := Ground.phase }, { on := 4, ground := Ground.phase }, { on := 5, ground := Ground.phase }, { on := 6, ground := Ground.phase }, { on := 7, ground := Ground.phase }, { on := 8, ground := Ground.phase }, { on := 9, ground := Ground.phase }, { on := 10, ground := Ground.phase }, { on := 11, ground := Ground.phase }, { on := 12, ground := Ground.phase }, { on := 13, ground := Ground.phase }, { on := 14, ground := Ground.phase }, { on := 15, ground := Ground.phase }, { on := 16, ground := Ground.phase }, { on := 17, ground := Ground.phase }, { on := 18, ground := Ground.phase }, { on := 19, ground := Ground.phase }, { on := 20, ground := Ground.phase }], guard := none }
def oRd_22 : Oper := { dst := some 268, op := Op.load 29 (Operand.tmp 2), type := 29, pos := "ref.go:95", after := #[], guard := none }
def oRd_23 : Oper := { dst := some 269, op := Op.fieldAddr 51 (Operand.tmp 7) 0, type := 0, pos := "ref.go:95", after := #[], guard := none }
def oRd_24 : Oper := { dst := some 270, op := Op.load 3 (Operand.tmp 269), type := 3, pos := "ref.go:95", after := #[{ on := 1, ground := Ground.data }], guard := none }
def oRd_25 : Oper := { dst := some 271, op := Op.move (Operand.tmp 8), type := 64, pos := "ref.go:95", after := #[], guard := none }
def oRd_26 : Oper := { dst := some 272, op := Op.move (Operand.tmp 24), type := 3, pos := "ref.go:95", after := #[], guard := none }
def oRd_27 : Oper := { dst := some 273, op := Op.indexAddr 64 (Operand.tmp 271) (Operand.tmp 272), type := 0, pos := "ref.go:95", after := #[{ on := 3, ground := Ground.data }, { on := 4, ground := Ground.data }], guard := none }
def oRd_28 : Oper := { dst := some 274, op := Op.fieldAddr 67 (Operand.tmp 273) 0, type := 0, pos := "ref.go:95", after := #[{ on := 5, ground := Ground.data }], guard := none }
def oRd_29 : Oper := { dst := some 275, op := Op.load 3 (Operand.tmp 274), type := 3, pos := "ref.go:95", after := #[{ on := 6, ground := Ground.data }], guard := none }
def oRd_30 : Oper := { dst := some 276, op := Op.move (Operand.tmp 8), type := 64, pos := "ref.go:95", after := #[], guard := none }
def oRd_31 : Oper := { dst := some 277, op := Op.move (Operand.tmp 24), type := 3, pos := "ref.go:95", after := #[], guard := none }
def oRd_32 : Oper := { dst := some 278, op := Op.indexAddr 64 (Operand.tmp 276) (Operand.tmp 277), type := 0, pos := "ref.go:95", after := #[{ on := 8, ground := Ground.data }, { on := 9, ground := Ground.data }], guard := none }
def oRd_33 : Oper := { dst := some 279, op := Op.fieldAddr 67 (Operand.tmp 278) 1, type := 0, pos := "ref.go:95", after := #[{ on := 10, ground := Ground.data }], guard := none }
def oRd_34 : Oper := { dst := some 280, op := Op.load 3 (Operand.tmp 279), type := 3, pos := "ref.go:95", after := #[{ on := 11, ground := Ground.data }], guard := none }
def oRd_35 : Oper := { dst := some 282, op := Op.binOp BinOp.geq 3 (Operand.tmp 281) (Operand.const (Value.int IntKind.i64 0)) 3, type := 4, pos := "ref.go:95", after := #[{ on := 13, ground := Ground.data }], guard := none }
def oRd_36 : Oper := { dst := some 295, op := Op.move (Operand.tmp 25), type := 4, pos := "ref.go:101", after := #[], guard := none }
def oRd_37 : Oper := { dst := some 296, op := Op.move (Operand.tmp 295), type := 4, pos := "ref.go:101", after := #[{ on := 0, ground := Ground.data }], guard := none }
def oRd_38 : Oper := { dst := some 297, op := Op.fieldAddr 51 (Operand.tmp 7) 1, type := 0, pos := "ref.go:101", after := #[{ on := 1, ground := Ground.guard }], guard := some (1, false) }
def oRd_39 : Oper := { dst := some 298, op := Op.load 3 (Operand.tmp 297), type := 3, pos := "ref.go:101", after := #[{ on := 2, ground := Ground.data }, { on := 1, ground := Ground.guard }], guard := some (1, false) }
def oRd_40 : Oper := { dst := some 299, op := Op.binOp BinOp.eql 3 (Operand.tmp 298) (Operand.const (Value.int IntKind.i64 2)) 3, type := 4, pos := "ref.go:101", after := #[{ on := 3, ground := Ground.data }, { on := 1, ground := Ground.guard }], guard := some (1, false) }
def oRd_41 : Oper := { dst := some 300, op := Op.move (Operand.tmp 299), type := 4, pos := "ref.go:101", after := #[{ on := 4, ground := Ground.data }, { on := 1, ground := Ground.chain }, { on := 1, ground := Ground.guard }], guard := some (1, false) }
def oRd_42 : Oper := { dst := some 301, op := Op.fieldAddr 42 (Operand.tmp 27) 1, type := 0, pos := "ref.go:101", after := #[{ on := 5, ground := Ground.guard }], guard := some (5, true) }
def oRd_43 : Oper := { dst := some 302, op := Op.load 3 (Operand.tmp 301), type := 3, pos := "ref.go:101", after := #[{ on := 6, ground := Ground.data }, { on := 5, ground := Ground.guard }], guard := some (5, true) }
def oRd_44 : Oper := { dst := some 303, op := Op.fieldAddr 51 (Operand.tmp 7) 0, type := 0, pos := "ref.go:101", after := #[{ on := 5, ground := Ground.guard }], guard := some (5, true) }
def oRd_45 : Oper := { dst := some 304, op := Op.load 3 (Operand.tmp 303), type := 3, pos := "ref.go:101", after := #[{ on := 8, ground := Ground.data }, { on := 5, ground := Ground.guard }], guard := some (5, true) }
def oRd_46 : Oper := { dst := some 305, op := Op.binOp BinOp.eql 3 (Operand.tmp 302) (Operand.tmp 304) 3, type := 4, pos := "ref.go:101", after := #[{ on := 7, ground := Ground.data }, { on := 9, ground := Ground.data }, { on := 5, ground := Ground.guard }], guard := some (5, true) }
def oRd_47 : Oper := { dst := some 306, op := Op.pick (Operand.tmp 300) (Operand.tmp 305) (Operand.const (Value.bool false)), type := 4, pos := "ref.go:101", after := #[{ on := 5, ground := Ground.data }, { on := 10, ground := Ground.data }, { on := 1, ground := Ground.guard }], guard := some (1, false) }
def oRd_48 : Oper := { dst := some 307, op := Op.move (Operand.tmp 306), type := 4, pos := "ref.go:101", after := #[{ on := 11, ground := Ground.data }, { on := 5, ground := Ground.chain }, { on := 1, ground := Ground.guard }], guard := some (1, false) }
def oRd_49 : Oper := { dst := some 308, op := Op.fieldAddr 42 (Operand.tmp 27) 2, type := 0, pos := "ref.go:101", after := #[{ on := 12, ground := Ground.guard }], guard := some (12, true) }
def oRd_50 : Oper := { dst := some 309, op := Op.load 3 (Operand.tmp 308), type := 3, pos := "ref.go:101", after := #[{ on := 13, ground := Ground.data }, { on := 12, ground := Ground.guard }], guard := some (12, true) }
def oRd_51 : Oper := { dst := some 310, op := Op.fieldAddr 51 (Operand.tmp 7) 5, type := 0, pos := "ref.go:101", after := #[{ on := 12, ground := Ground.guard }], guard := some (12, true) }
def oRd_52 : Oper := { dst := some 311, op := Op.load 3 (Operand.tmp 310), type := 3, pos := "ref.go:101", after := #[{ on := 15, ground := Ground.data }, { on := 12, ground := Ground.guard }], guard := some (12, true) }
def oRd_53 : Oper := { dst := some 312, op := Op.binOp BinOp.eql 3 (Operand.tmp 309) (Operand.tmp 311) 3, type := 4, pos := "ref.go:101", after := #[{ on := 14, ground := Ground.data }, { on := 16, ground := Ground.data }, { on := 12, ground := Ground.guard }], guard := some (12, true) }
def oRd_54 : Oper := { dst := some 313, op := Op.pick (Operand.tmp 307) (Operand.tmp 312) (Operand.const (Value.bool false)), type := 4, pos := "ref.go:101", after := #[{ on := 12, ground := Ground.data }, { on := 17, ground := Ground.data }, { on := 1, ground := Ground.guard }], guard := some (1, false) }
def oRd_55 : Oper := { dst := some 314, op := Op.move (Operand.tmp 313), type := 4, pos := "ref.go:101", after := #[{ on := 18, ground := Ground.data }, { on := 12, ground := Ground.chain }, { on := 1, ground := Ground.guard }], guard := some (1, false) }
def oRd_56 : Oper := { dst := some 315, op := Op.fieldAddr 42 (Operand.tmp 27) 3, type := 0, pos := "ref.go:101", after := #[{ on := 19, ground := Ground.guard }], guard := some (19, true) }
def oRd_57 : Oper := { dst := some 316, op := Op.load 3 (Operand.tmp 315), type := 3, pos := "ref.go:101", after := #[{ on := 20, ground := Ground.data }, { on := 19, ground := Ground.guard }], guard := some (19, true) }
def oRd_58 : Oper := { dst := some 317, op := Op.move (Operand.tmp 8), type := 64, pos := "ref.go:101", after := #[{ on := 19, ground := Ground.guard }], guard := some (19, true) }
def oRd_59 : Oper := { dst := some 318, op := Op.move (Operand.tmp 24), type := 3, pos := "ref.go:101", after := #[{ on := 19, ground := Ground.guard }], guard := some (19, true) }
def oRd_60 : Oper := { dst := some 319, op := Op.indexAddr 64 (Operand.tmp 317) (Operand.tmp 318), type := 0, pos := "ref.go:101", after := #[{ on := 22, ground := Ground.data }, { on := 23, ground := Ground.data }, { on := 19, ground := Ground.guard }], guard := some (19, true) }
def oRd_61 : Oper := { dst := some 320, op := Op.fieldAddr 67 (Operand.tmp 319) 0, type := 0, pos := "ref.go:101", after := #[{ on := 24, ground := Ground.data }, { on := 19, ground := Ground.guard }], guard := some (19, true) }
def oRd_62 : Oper := { dst := some 321, op := Op.load 3 (Operand.tmp 320), type := 3, pos := "ref.go:101", after := #[{ on := 25, ground := Ground.data }, { on := 19, ground := Ground.guard }], guard := some (19, true) }
def oRd_63 : Oper := { dst := some 322, op := Op.binOp BinOp.eql 3 (Operand.tmp 316) (Operand.tmp 321) 3, type := 4, pos := "ref.go:101", after := #[{ on := 21, ground := Ground.data }, { on := 26, ground := Ground.data }, { on := 19, ground := Ground.guard }], guard := some (19, true) }
def oRd_64 : Oper := { dst := some 323, op := Op.pick (Operand.tmp 314) (Operand.tmp 322) (Operand.const (Value.bool false)), type := 4, pos := "ref.go:101", after := #[{ on := 19, ground := Ground.data }, { on := 27, ground := Ground.data }, { on := 1, ground := Ground.guard }], guard := some (1, false) }
def oRd_65 : Oper := { dst := some 324, op := Op.move (Operand.tmp 323), type := 4, pos := "ref.go:101", after := #[{ on := 28, ground := Ground.data }, { on := 19, ground := Ground.chain }, { on := 1, ground := Ground.guard }], guard := some (1, false) }
def oRd_66 : Oper := { dst := some 325, op := Op.fieldAddr 42 (Operand.tmp 27) 4, type := 0, pos := "ref.go:101", after := #[{ on := 29, ground := Ground.guard }], guard := some (29, true) }
def oRd_67 : Oper := { dst := some 326, op := Op.load 3 (Operand.tmp 325), type := 3, pos := "ref.go:101", after := #[{ on := 30, ground := Ground.data }, { on := 29, ground := Ground.guard }], guard := some (29, true) }
def oRd_68 : Oper := { dst := some 327, op := Op.move (Operand.tmp 8), type := 64, pos := "ref.go:101", after := #[{ on := 29, ground := Ground.guard }], guard := some (29, true) }
def oRd_69 : Oper := { dst := some 328, op := Op.move (Operand.tmp 24), type := 3, pos := "ref.go:101", after := #[{ on := 29, ground := Ground.guard }], guard := some (29, true) }
def oRd_70 : Oper := { dst := some 329, op := Op.indexAddr 64 (Operand.tmp 327) (Operand.tmp 328), type := 0, pos := "ref.go:101", after := #[{ on := 32, ground := Ground.data }, { on := 33, ground := Ground.data }, { on := 29, ground := Ground.guard }], guard := some (29, true) }
def oRd_71 : Oper := { dst := some 330, op := Op.fieldAddr 67 (Operand.tmp 329) 1, type := 0, pos := "ref.go:101", after := #[{ on := 34, ground := Ground.data }, { on := 29, ground := Ground.guard }], guard := some (29, true) }
def oRd_72 : Oper := { dst := some 331, op := Op.load 3 (Operand.tmp 330), type := 3, pos := "ref.go:101", after := #[{ on := 35, ground := Ground.data }, { on := 29, ground := Ground.guard }], guard := some (29, true) }
def oRd_73 : Oper := { dst := some 332, op := Op.binOp BinOp.eql 3 (Operand.tmp 326) (Operand.tmp 331) 3, type := 4, pos := "ref.go:101", after := #[{ on := 31, ground := Ground.data }, { on := 36, ground := Ground.data }, { on := 29, ground := Ground.guard }], guard := some (29, true) }
def oRd_74 : Oper := { dst := some 333, op := Op.pick (Operand.tmp 324) (Operand.tmp 332) (Operand.const (Value.bool false)), type := 4, pos := "ref.go:101", after := #[{ on := 29, ground := Ground.data }, { on := 37, ground := Ground.data }, { on := 1, ground := Ground.guard }], guard := some (1, false) }
def oRd_75 : Oper := { dst := some 334, op := Op.move (Operand.tmp 333), type := 4, pos := "ref.go:101", after := #[{ on := 38, ground := Ground.data }, { on := 29, ground := Ground.chain }, { on := 1, ground := Ground.guard }], guard := some (1, false) }
def oRd_76 : Oper := { dst := some 335, op := Op.fieldAddr 42 (Operand.tmp 27) 9, type := 0, pos := "ref.go:101", after := #[{ on := 39, ground := Ground.guard }], guard := some (39, true) }
def oRd_77 : Oper := { dst := some 336, op := Op.load 3 (Operand.tmp 335), type := 3, pos := "ref.go:101", after := #[{ on := 40, ground := Ground.data }, { on := 39, ground := Ground.guard }], guard := some (39, true) }
def oRd_78 : Oper := { dst := some 337, op := Op.binOp BinOp.eql 3 (Operand.tmp 336) (Operand.const (Value.int IntKind.i64 3)) 3, type := 4, pos := "ref.go:101", after := #[{ on := 41, ground := Ground.data }, { on := 39, ground := Ground.guard }], guard := some (39, true) }
def oRd_79 : Oper := { dst := some 338, op := Op.pick (Operand.tmp 334) (Operand.tmp 337) (Operand.const (Value.bool false)), type := 4, pos := "ref.go:101", after := #[{ on := 39, ground := Ground.data }, { on := 42, ground := Ground.data }, { on := 1, ground := Ground.guard }], guard := some (1, false) }
def oRd_80 : Oper := { dst := some 339, op := Op.pick (Operand.tmp 296) (Operand.const (Value.bool true)) (Operand.tmp 338), type := 4, pos := "ref.go:101", after := #[{ on := 1, ground := Ground.data }, { on := 43, ground := Ground.data }], guard := none }
def oRd_81 : Oper := { dst := some 25, op := Op.assign (Operand.tmp 339), type := 4, pos := "ref.go:101", after := #[{ on := 44, ground := Ground.data }, { on := 39, ground := Ground.chain }, { on := 0, ground := Ground.phase }, { on := 1, ground := Ground.phase }, { on := 2, ground := Ground.phase }, { on := 3, ground := Ground.phase }, { on := 4, ground := Ground.phase }, { on := 5, ground := Ground.phase }, { on := 6, ground := Ground.phase }, { on := 7, ground := Ground.phase }, { on := 8, ground := Ground.phase }, { on := 9, ground := Ground.phase }, { on := 10, ground := Ground.phase }, { on := 11, ground := Ground.phase }, { on := 12, ground := Ground.phase }, { on := 13, ground := Ground.phase }, { on := 14, ground := Ground.phase }, { on := 15, ground := Ground.phase }, { on := 16, ground := Ground.phase }, { on := 17, ground := Ground.phase }, { on := 18, ground := Ground.phase }, { on := 19, ground := Ground.phase }, { on := 20, ground := Ground.phase }, { on := 21, ground := Ground.phase }, { on := 22, ground := Ground.phase }, { on := 23, ground := Ground.phase }, { on := 24, ground := Ground.phase }, { on := 25, ground := Ground.phase }, { on := 26, ground := Ground.phase }, { on := 27, ground := Ground.phase }, { on := 28, ground := Ground.phase }, { on := 29, ground := Ground.phase }, { on := 30, ground := Ground.phase }, { on := 31, ground := Ground.phase }, { on := 32, ground := Ground.phase }, { on := 33, ground := Ground.phase }, { on := 34, ground := Ground.phase }, { on := 35, ground := Ground.phase }, { on := 36, ground := Ground.phase }, { on := 37, ground := Ground.phase }, { on := 38, ground := Ground.phase }, { on := 39, ground := Ground.phase }, { on := 40, ground := Ground.phase }, { on := 41, ground := Ground.phase }, { on := 42, ground := Ground.phase }, { on := 43, ground := Ground.phase }, { on := 44, ground := Ground.phase }], guard := none }
def oRd_82 : Oper := { dst := some 142, op := Op.load 29 (Operand.tmp 2), type := 29, pos := "ref.go:76", after := #[], guard := none }
def oRd_83 : Oper := { dst := some 143, op := Op.fieldAddr 51 (Operand.tmp 7) 0, type := 0, pos := "ref.go:76", after := #[], guard := none }
def oRd_84 : Oper := { dst := some 144, op := Op.load 3 (Operand.tmp 143), type := 3, pos := "ref.go:76", after := #[{ on := 1, ground := Ground.data }], guard := none }
def oRd_85 : Oper := { dst := some 145, op := Op.move (Operand.tmp 8), type := 64, pos := "ref.go:76", after := #[], guard := none }
def oRd_86 : Oper := { dst := some 146, op := Op.move (Operand.tmp 17), type := 3, pos := "ref.go:76", after := #[], guard := none }
def oRd_87 : Oper := { dst := some 147, op := Op.indexAddr 64 (Operand.tmp 145) (Operand.tmp 146), type := 0, pos := "ref.go:76", after := #[{ on := 3, ground := Ground.data }, { on := 4, ground := Ground.data }], guard := none }
def oRd_88 : Oper := { dst := some 148, op := Op.fieldAddr 67 (Operand.tmp 147) 0, type := 0, pos := "ref.go:76", after := #[{ on := 5, ground := Ground.data }], guard := none }
def oRd_89 : Oper := { dst := some 149, op := Op.load 3 (Operand.tmp 148), type := 3, pos := "ref.go:76", after := #[{ on := 6, ground := Ground.data }], guard := none }
def oRd_90 : Oper := { dst := some 150, op := Op.move (Operand.tmp 8), type := 64, pos := "ref.go:76", after := #[], guard := none }
def oRd_91 : Oper := { dst := some 151, op := Op.move (Operand.tmp 17), type := 3, pos := "ref.go:76", after := #[], guard := none }
def oRd_92 : Oper := { dst := some 152, op := Op.indexAddr 64 (Operand.tmp 150) (Operand.tmp 151), type := 0, pos := "ref.go:76", after := #[{ on := 8, ground := Ground.data }, { on := 9, ground := Ground.data }], guard := none }
def oRd_93 : Oper := { dst := some 153, op := Op.fieldAddr 67 (Operand.tmp 152) 1, type := 0, pos := "ref.go:76", after := #[{ on := 10, ground := Ground.data }], guard := none }
def oRd_94 : Oper := { dst := some 154, op := Op.load 3 (Operand.tmp 153), type := 3, pos := "ref.go:76", after := #[{ on := 11, ground := Ground.data }], guard := none }
def oRd_95 : Oper := { dst := some 18, op := Op.assign (Operand.tmp 155), type := 3, pos := "ref.go:76", after := #[{ on := 13, ground := Ground.data }, { on := 13, ground := Ground.chain }, { on := 0, ground := Ground.phase }, { on := 1, ground := Ground.phase }, { on := 2, ground := Ground.phase }, { on := 3, ground := Ground.phase }, { on := 4, ground := Ground.phase }, { on := 5, ground := Ground.phase }, { on := 6, ground := Ground.phase }, { on := 7, ground := Ground.phase }, { on := 8, ground := Ground.phase }, { on := 9, ground := Ground.phase }, { on := 10, ground := Ground.phase }, { on := 11, ground := Ground.phase }, { on := 12, ground := Ground.phase }, { on := 13, ground := Ground.phase }], guard := none }
def oRd_96 : Oper := { dst := some 159, op := Op.move (Operand.tmp 18), type := 3, pos := "ref.go:78", after := #[], guard := none }
def oRd_97 : Oper := { dst := some 160, op := Op.binOp BinOp.lss 3 (Operand.tmp 159) (Operand.const (Value.int IntKind.i64 0)) 3, type := 4, pos := "ref.go:78", after := #[{ on := 0, ground := Ground.data }], guard := none }
def oRd_98 : Oper := { dst := some 161, op := Op.move (Operand.tmp 160), type := 4, pos := "ref.go:78", after := #[{ on := 1, ground := Ground.data }], guard := none }
def oRd_99 : Oper := { dst := some 162, op := Op.move (Operand.tmp 19), type := 4, pos := "ref.go:78", after := #[{ on := 2, ground := Ground.guard }], guard := some (2, false) }
def oRd_100 : Oper := { dst := some 163, op := Op.pick (Operand.tmp 161) (Operand.const (Value.bool true)) (Operand.tmp 162), type := 4, pos := "ref.go:78", after := #[{ on := 2, ground := Ground.data }, { on := 3, ground := Ground.data }], guard := none }
def oRd_101 : Oper := { dst := some 164, op := Op.move (Operand.tmp 163), type := 4, pos := "ref.go:78", after := #[{ on := 4, ground := Ground.data }, { on := 2, ground := Ground.chain }], guard := none }
def oRd_102 : Oper := { dst := some 165, op := Op.fieldAddr 29 (Operand.tmp 2) 5, type := 0, pos := "ref.go:78", after := #[{ on := 5, ground := Ground.guard }], guard := some (5, false) }
def oRd_103 : Oper := { dst := some 166, op := Op.load 24 (Operand.tmp 165), type := 24, pos := "ref.go:78", after := #[{ on := 6, ground := Ground.data }, { on := 5, ground := Ground.guard }], guard := some (5, false) }
def oRd_104 : Oper := { dst := some 167, op := Op.move (Operand.tmp 18), type := 3, pos := "ref.go:78", after := #[{ on := 5, ground := Ground.guard }], guard := some (5, false) }
def oRd_105 : Oper := { dst := some 168, op := Op.indexAddr 24 (Operand.tmp 166) (Operand.tmp 167), type := 0, pos := "ref.go:78", after := #[{ on := 7, ground := Ground.data }, { on := 8, ground := Ground.data }, { on := 5, ground := Ground.guard }], guard := some (5, false) }
def oRd_106 : Oper := { dst := some 169, op := Op.fieldAddr 42 (Operand.tmp 168) 8, type := 0, pos := "ref.go:78", after := #[{ on := 9, ground := Ground.data }, { on := 5, ground := Ground.guard }], guard := some (5, false) }
def oRd_107 : Oper := { dst := some 170, op := Op.load 4 (Operand.tmp 169), type := 4, pos := "ref.go:78", after := #[{ on := 10, ground := Ground.data }, { on := 5, ground := Ground.guard }], guard := some (5, false) }
def oRd_108 : Oper := { dst := some 171, op := Op.pick (Operand.tmp 164) (Operand.const (Value.bool true)) (Operand.tmp 170), type := 4, pos := "ref.go:78", after := #[{ on := 5, ground := Ground.data }, { on := 11, ground := Ground.data }], guard := none }
def oRd_109 : Oper := { dst := some 172, op := Op.move (Operand.tmp 171), type := 4, pos := "ref.go:78", after := #[{ on := 12, ground := Ground.data }, { on := 5, ground := Ground.chain }], guard := none }
def oRd_110 : Oper := { dst := some 173, op := Op.fieldAddr 29 (Operand.tmp 2) 5, type := 0, pos := "ref.go:78", after := #[{ on := 13, ground := Ground.guard }], guard := some (13, false) }
def oRd_111 : Oper := { dst := some 174, op := Op.load 24 (Operand.tmp 173), type := 24, pos := "ref.go:78", after := #[{ on := 14, ground := Ground.data }, { on := 13, ground := Ground.guard }], guard := some (13, false) }
def oRd_112 : Oper := { dst := some 175, op := Op.move (Operand.tmp 18), type := 3, pos := "ref.go:78", after := #[{ on := 13, ground := Ground.guard }], guard := some (13, false) }
def oRd_113 : Oper := { dst := some 176, op := Op.indexAddr 24 (Operand.tmp 174) (Operand.tmp 175), type := 0, pos := "ref.go:78", after := #[{ on := 15, ground := Ground.data }, { on := 16, ground := Ground.data }, { on := 13, ground := Ground.guard }], guard := some (13, false) }
def oRd_114 : Oper := { dst := some 177, op := Op.fieldAddr 42 (Operand.tmp 176) 2, type := 0, pos := "ref.go:78", after := #[{ on := 17, ground := Ground.data }, { on := 13, ground := Ground.guard }], guard := some (13, false) }
def oRd_115 : Oper := { dst := some 178, op := Op.load 3 (Operand.tmp 177), type := 3, pos := "ref.go:78", after := #[{ on := 18, ground := Ground.data }, { on := 13, ground := Ground.guard }], guard := some (13, false) }
def oRd_116 : Oper := { dst := some 179, op := Op.fieldAddr 51 (Operand.tmp 7) 5, type := 0, pos := "ref.go:78", after := #[{ on := 13, ground := Ground.guard }], guard := some (13, false) }
def oRd_117 : Oper := { dst := some 180, op := Op.load 3 (Operand.tmp 179), type := 3, pos := "ref.go:78", after := #[{ on := 20, ground := Ground.data }, { on := 13, ground := Ground.guard }], guard := some (13, false) }
def oRd_118 : Oper := { dst := some 181, op := Op.binOp BinOp.eql 3 (Operand.tmp 178) (Operand.tmp 180) 3, type := 4, pos := "ref.go:78", after := #[{ on := 19, ground := Ground.data }, { on := 21, ground := Ground.data }, { on := 13, ground := Ground.guard }], guard := some (13, false) }
def oRd_119 : Oper := { dst := some 182, op := Op.move (Operand.tmp 181), type := 4, pos := "ref.go:78", after := #[{ on := 22, ground := Ground.data }, { on := 13, ground := Ground.chain }, { on := 13, ground := Ground.guard }], guard := some (13, false) }
def oRd_120 : Oper := { dst := some 183, op := Op.fieldAddr 29 (Operand.tmp 2) 5, type := 0, pos := "ref.go:78", after := #[{ on := 23, ground := Ground.guard }], guard := some (23, true) }
def oRd_121 : Oper := { dst := some 184, op := Op.load 24 (Operand.tmp 183), type := 24, pos := "ref.go:78", after := #[{ on := 24, ground := Ground.data }, { on := 23, ground := Ground.guard }], guard := some (23, true) }
def oRd_122 : Oper := { dst := some 185, op := Op.move (Operand.tmp 18), type := 3, pos := "ref.go:78", after := #[{ on := 23, ground := Ground.guard }], guard := some (23, true) }
def oRd_123 : Oper := { dst := some 186, op := Op.indexAddr 24 (Operand.tmp 184) (Operand.tmp 185), type := 0, pos := "ref.go:78", after := #[{ on := 25, ground := Ground.data }, { on := 26, ground := Ground.data }, { on := 23, ground := Ground.guard }], guard := some (23, true) }
def oRd_124 : Oper := { dst := some 187, op := Op.fieldAddr 42 (Operand.tmp 186) 9, type := 0, pos := "ref.go:78", after := #[{ on := 27, ground := Ground.data }, { on := 23, ground := Ground.guard }], guard := some (23, true) }
def oRd_125 : Oper := { dst := some 188, op := Op.load 3 (Operand.tmp 187), type := 3, pos := "ref.go:78", after := #[{ on := 28, ground := Ground.data }, { on := 23, ground := Ground.guard }], guard := some (23, true) }
def oRd_126 : Oper := { dst := some 189, op := Op.binOp BinOp.neq 3 (Operand.tmp 188) (Operand.const (Value.int IntKind.i64 2)) 3, type := 4, pos := "ref.go:78", after := #[{ on := 29, ground := Ground.data }, { on := 23, ground := Ground.guard }], guard := some (23, true) }
def oRd_127 : Oper := { dst := some 190, op := Op.pick (Operand.tmp 182) (Operand.tmp 189) (Operand.const (Value.bool false)), type := 4, pos := "ref.go:78", after := #[{ on := 23, ground := Ground.data }, { on := 30, ground := Ground.data }, { on := 13, ground := Ground.guard }], guard := some (13, false) }
def oRd_128 : Oper := { dst := some 191, op := Op.pick (Operand.tmp 172) (Operand.const (Value.bool true)) (Operand.tmp 190), type := 4, pos := "ref.go:78", after := #[{ on := 13, ground := Ground.data }, { on := 31, ground := Ground.data }], guard := none }
def oRd_129 : Oper := { dst := some 206, op := Op.load 29 (Operand.tmp 2), type := 29, pos := "ref.go:83", after := #[], guard := none }
def oRd_130 : Oper := { dst := some 207, op := Op.fieldAddr 51 (Operand.tmp 7) 0, type := 0, pos := "ref.go:83", after := #[], guard := none }
def oRd_131 : Oper := { dst := some 208, op := Op.load 3 (Operand.tmp 207), type := 3, pos := "ref.go:83", after := #[{ on := 1, ground := Ground.data }], guard := none }
def oRd_132 : Oper := { dst := some 209, op := Op.move (Operand.tmp 8), type := 64, pos := "ref.go:83", after := #[], guard := none }
def oRd_133 : Oper := { dst := some 210, op := Op.move (Operand.tmp 20), type := 3, pos := "ref.go:83", after := #[], guard := none }
def oRd_134 : Oper := { dst := some 211, op := Op.indexAddr 64 (Operand.tmp 209) (Operand.tmp 210), type := 0, pos := "ref.go:83", after := #[{ on := 3, ground := Ground.data }, { on := 4, ground := Ground.data }], guard := none }
def oRd_135 : Oper := { dst := some 212, op := Op.fieldAddr 67 (Operand.tmp 211) 0, type := 0, pos := "ref.go:83", after := #[{ on := 5, ground := Ground.data }], guard := none }
def oRd_136 : Oper := { dst := some 213, op := Op.load 3 (Operand.tmp 212), type := 3, pos := "ref.go:83", after := #[{ on := 6, ground := Ground.data }], guard := none }
def oRd_137 : Oper := { dst := some 214, op := Op.move (Operand.tmp 8), type := 64, pos := "ref.go:83", after := #[], guard := none }
def oRd_138 : Oper := { dst := some 215, op := Op.move (Operand.tmp 20), type := 3, pos := "ref.go:83", after := #[], guard := none }
def oRd_139 : Oper := { dst := some 216, op := Op.indexAddr 64 (Operand.tmp 214) (Operand.tmp 215), type := 0, pos := "ref.go:83", after := #[{ on := 8, ground := Ground.data }, { on := 9, ground := Ground.data }], guard := none }
def oRd_140 : Oper := { dst := some 217, op := Op.fieldAddr 67 (Operand.tmp 216) 1, type := 0, pos := "ref.go:83", after := #[{ on := 10, ground := Ground.data }], guard := none }
def oRd_141 : Oper := { dst := some 218, op := Op.load 3 (Operand.tmp 217), type := 3, pos := "ref.go:83", after := #[{ on := 11, ground := Ground.data }], guard := none }
def oRd_142 : Oper := { dst := some 21, op := Op.assign (Operand.tmp 219), type := 3, pos := "ref.go:83", after := #[{ on := 13, ground := Ground.data }, { on := 13, ground := Ground.chain }, { on := 0, ground := Ground.phase }, { on := 1, ground := Ground.phase }, { on := 2, ground := Ground.phase }, { on := 3, ground := Ground.phase }, { on := 4, ground := Ground.phase }, { on := 5, ground := Ground.phase }, { on := 6, ground := Ground.phase }, { on := 7, ground := Ground.phase }, { on := 8, ground := Ground.phase }, { on := 9, ground := Ground.phase }, { on := 10, ground := Ground.phase }, { on := 11, ground := Ground.phase }, { on := 12, ground := Ground.phase }, { on := 13, ground := Ground.phase }], guard := none }
def oRd_143 : Oper := { dst := some 223, op := Op.move (Operand.tmp 21), type := 3, pos := "ref.go:85", after := #[], guard := none }
def oRd_144 : Oper := { dst := some 224, op := Op.binOp BinOp.lss 3 (Operand.tmp 223) (Operand.const (Value.int IntKind.i64 0)) 3, type := 4, pos := "ref.go:85", after := #[{ on := 0, ground := Ground.data }], guard := none }
def oRd_145 : Oper := { dst := some 225, op := Op.move (Operand.tmp 224), type := 4, pos := "ref.go:85", after := #[{ on := 1, ground := Ground.data }], guard := none }
def oRd_146 : Oper := { dst := some 226, op := Op.move (Operand.tmp 22), type := 4, pos := "ref.go:85", after := #[{ on := 2, ground := Ground.guard }], guard := some (2, false) }
def oRd_147 : Oper := { dst := some 227, op := Op.pick (Operand.tmp 225) (Operand.const (Value.bool true)) (Operand.tmp 226), type := 4, pos := "ref.go:85", after := #[{ on := 2, ground := Ground.data }, { on := 3, ground := Ground.data }], guard := none }
def oRd_148 : Oper := { dst := some 228, op := Op.move (Operand.tmp 227), type := 4, pos := "ref.go:85", after := #[{ on := 4, ground := Ground.data }, { on := 2, ground := Ground.chain }], guard := none }
def oRd_149 : Oper := { dst := some 229, op := Op.fieldAddr 29 (Operand.tmp 2) 5, type := 0, pos := "ref.go:85", after := #[{ on := 5, ground := Ground.guard }], guard := some (5, false) }
def oRd_150 : Oper := { dst := some 230, op := Op.load 24 (Operand.tmp 229), type := 24, pos := "ref.go:85", after := #[{ on := 6, ground := Ground.data }, { on := 5, ground := Ground.guard }], guard := some (5, false) }
def oRd_151 : Oper := { dst := some 231, op := Op.move (Operand.tmp 21), type := 3, pos := "ref.go:85", after := #[{ on := 5, ground := Ground.guard }], guard := some (5, false) }
def oRd_152 : Oper := { dst := some 232, op := Op.indexAddr 24 (Operand.tmp 230) (Operand.tmp 231), type := 0, pos := "ref.go:85", after := #[{ on := 7, ground := Ground.data }, { on := 8, ground := Ground.data }, { on := 5, ground := Ground.guard }], guard := some (5, false) }
def oRd_153 : Oper := { dst := some 233, op := Op.fieldAddr 42 (Operand.tmp 232) 8, type := 0, pos := "ref.go:85", after := #[{ on := 9, ground := Ground.data }, { on := 5, ground := Ground.guard }], guard := some (5, false) }
def oRd_154 : Oper := { dst := some 234, op := Op.load 4 (Operand.tmp 233), type := 4, pos := "ref.go:85", after := #[{ on := 10, ground := Ground.data }, { on := 5, ground := Ground.guard }], guard := some (5, false) }
def oRd_155 : Oper := { dst := some 235, op := Op.pick (Operand.tmp 228) (Operand.const (Value.bool true)) (Operand.tmp 234), type := 4, pos := "ref.go:85", after := #[{ on := 5, ground := Ground.data }, { on := 11, ground := Ground.data }], guard := none }
def oRd_156 : Oper := { dst := some 236, op := Op.move (Operand.tmp 235), type := 4, pos := "ref.go:85", after := #[{ on := 12, ground := Ground.data }, { on := 5, ground := Ground.chain }], guard := none }
def oRd_157 : Oper := { dst := some 237, op := Op.fieldAddr 29 (Operand.tmp 2) 5, type := 0, pos := "ref.go:85", after := #[{ on := 13, ground := Ground.guard }], guard := some (13, false) }
def oRd_158 : Oper := { dst := some 238, op := Op.load 24 (Operand.tmp 237), type := 24, pos := "ref.go:85", after := #[{ on := 14, ground := Ground.data }, { on := 13, ground := Ground.guard }], guard := some (13, false) }
def oRd_159 : Oper := { dst := some 239, op := Op.move (Operand.tmp 21), type := 3, pos := "ref.go:85", after := #[{ on := 13, ground := Ground.guard }], guard := some (13, false) }
def oRd_160 : Oper := { dst := some 240, op := Op.indexAddr 24 (Operand.tmp 238) (Operand.tmp 239), type := 0, pos := "ref.go:85", after := #[{ on := 15, ground := Ground.data }, { on := 16, ground := Ground.data }, { on := 13, ground := Ground.guard }], guard := some (13, false) }
def oRd_161 : Oper := { dst := some 241, op := Op.fieldAddr 42 (Operand.tmp 240) 2, type := 0, pos := "ref.go:85", after := #[{ on := 17, ground := Ground.data }, { on := 13, ground := Ground.guard }], guard := some (13, false) }
def oRd_162 : Oper := { dst := some 242, op := Op.load 3 (Operand.tmp 241), type := 3, pos := "ref.go:85", after := #[{ on := 18, ground := Ground.data }, { on := 13, ground := Ground.guard }], guard := some (13, false) }
def oRd_163 : Oper := { dst := some 243, op := Op.fieldAddr 51 (Operand.tmp 7) 5, type := 0, pos := "ref.go:85", after := #[{ on := 13, ground := Ground.guard }], guard := some (13, false) }
def oRd_164 : Oper := { dst := some 244, op := Op.load 3 (Operand.tmp 243), type := 3, pos := "ref.go:85", after := #[{ on := 20, ground := Ground.data }, { on := 13, ground := Ground.guard }], guard := some (13, false) }
def oRd_165 : Oper := { dst := some 245, op := Op.binOp BinOp.eql 3 (Operand.tmp 242) (Operand.tmp 244) 3, type := 4, pos := "ref.go:85", after := #[{ on := 19, ground := Ground.data }, { on := 21, ground := Ground.data }, { on := 13, ground := Ground.guard }], guard := some (13, false) }
def oRd_166 : Oper := { dst := some 246, op := Op.pick (Operand.tmp 236) (Operand.const (Value.bool true)) (Operand.tmp 245), type := 4, pos := "ref.go:85", after := #[{ on := 13, ground := Ground.data }, { on := 22, ground := Ground.data }], guard := none }
def Apt (a b : Option Addr) : Prop := ∀ g, (Value.slice a 0 0).ownBlock = some g → ¬ (Value.slice b 0 0).ownBlock = some g
theorem Apt.symm {a b : Option Addr} (h : Apt a b) : Apt b a := fun g h1 h2 => h g h2 h1
theorem own_form {w : World} {lo e k n c : Nat} {a : Option Addr} {xs : List Value} {g : Nat} (h : w.ownsRow lo e k (.slice a n c) n xs) (hg : (Value.slice a 0 0).ownBlock = some g) : a = some ⟨g, 0, none⟩ := by
 rcases h.2 with ⟨hv, _⟩ | ⟨g', cap, cur, hv, _⟩
 ·have := (Value.slice.inj hv).1; rw [this] at hg; cases hg
 ·have := (Value.slice.inj hv).1; rw [this] at hg ⊢; cases hg; rfl
theorem row_step {wq W1 w20 : World} {lo e k n n2 m pc sc sc2 : Nat} {pa sa sa2 : Option Addr} {ys zs : List Value} (HP : wq.ownsRow lo e k (.slice pa n pc) n ys) (HAP : Apt sa pa) (hsame : ∀ q, q < wq.heap.size → W1.heap[q]? = wq.heap[q]?) (hz : wq.heap.size ≤ W1.heap.size) (hg : W1.grownBy w20 (Value.slice sa m sc).ownBlock) (hat : AtR sa sa2 W1.heap.size) (HS2 : w20.ownsRow lo e k (.slice sa2 n2 sc2) n2 zs) : w20.ownsRow lo e k (.slice pa n pc) n ys ∧ Apt sa2 pa := by
 have hlt : ∀ g, (Value.slice pa 0 0).ownBlock = some g → g < wq.heap.size := fun g h => (own_blk2 HP g (ob_slice' h)).2
 refine ⟨own_same HP (fun g h => (hg.block g (by have := hlt g h; omega) (fun e => HAP g (ob_slice e.symm) h)).trans (hsame g (hlt g h))), fun g h1 h2 => ?_⟩
 rcases hat g (own_form HS2 h1) with h | h
 ·exact HAP g h h2
 ·have := hlt g h2; omega
theorem fl_append {α : Type} (cs : α → List Value) (L M : List α) : fl cs (L ++ M) = fl cs L ++ fl cs M := by simp [fl]
theorem bel2 {w3 wq W1 w20 w21 : World} {o : Obj} {r1 r2 : Option Nat} (hb : Below w3.heap.size w3 wq) (hs : ∀ q, q < wq.heap.size → W1.heap[q]? = wq.heap[q]?) (hz : wq.heap.size ≤ W1.heap.size) (h1 : W1.grownBy w20 r1) (h2 : (w20.alloc o).grownBy w21 r2) (b1 : ∀ g, r1 = some g → w3.heap.size ≤ g ∧ g < wq.heap.size) (b2 : ∀ g, r2 = some g → w3.heap.size ≤ g ∧ g < w20.heap.size) (hz3 : w3.heap.size ≤ wq.heap.size) (hex : W1.os = wq.os ∧ W1.tape = wq.tape ∧ W1.output = wq.output) : Below w3.heap.size w3 w21 := by
 have hz1 := h1.size
 have hz2 := h2.size
 simp only [World.size_alloc] at hz2
 refine ⟨h2.os.trans (h1.os.trans (hex.1.trans hb.os)), h2.tape.trans (h1.tape.trans (hex.2.1.trans hb.tape)), h2.output.trans (h1.output.trans (hex.2.2.trans hb.output)), by omega, fun q hq => ?_⟩
 refine (h2.block q (by simp; omega) (fun e => by have := (b2 q e.symm).1; omega)).trans (((below1 w20 o).block q (by omega)).trans ((h1.block q (by omega) (fun e => by have := (b1 q e.symm).1; omega)).trans ((hs q (by omega)).trans (hb.block q hq))))
theorem wpList_app1p {ops : Array Oper} {rest : List Oper} {o : Oper} {a : Act} {Q : Exit → Act → World → Prop} (w : World) (hgd : o.guard = none) (s x : Operand) (t : TypeId)
  (ho : o.op = .call { callee := .builtin .append, args := #[s, x], argTypes := #[t, t] })
  (base : Nat) (e : TypeId) (z : Value) (k y : Nat) (ht : Try.prog.underlying t = some (.slice e)) (hinfo : (Try.prog.info? e).map (fun i => (i.zero, i.size, i.bytes)) = some (some z, k, y)) (hzs : z.cells.size = k) (h0 : 0 < k)
  (av : Option Addr) (cv n : Nat) (xs : List Value) (hs : a.eval s = .slice av n cv) (hown : w.ownsRow base e k (.slice av n cv) n xs)
  (ad : Addr) (c : Nat) (news : List Value) (hx : a.eval x = .slice (some ad) 1 c) (hl : news.length = k) (hnews : ∀ j u, news[j]? = some u → w.cell? (ad.add j) = some u) (h1 : ∀ u ∈ news, u.oneCell' = true)
  (h63 : n + 1 ≤ maxLen) (hbytes : (n + 1) * y ≤ 140737488355328) (hbase : base ≤ w.heap.size)
  (h : ∀ a' c' w', w'.ownsRow base e k (.slice a' (n + 1) c') (n + 1) (xs ++ news) → w.grownBy w' (Value.slice av n cv).ownBlock → AtR av a' w.heap.size → wpList Try.prog ops Q rest (a.put o.dst (.slice a' (n + 1) c')) w') : wpList Try.prog ops Q (o :: rest) a w :=
 wpList_plain hgd fun _ hK => oper_app1p w s x t ho base e z k y ht hinfo hzs h0 av cv n xs hs hown ad c news hx hl hnews h1 h63 hbytes hbase (fun a' c' w' h2 h3 h4 => hK _ _ (h a' c' w' h2 h3 h4))
theorem own_loM {w : World} {lo lo' e k n : Nat} {v : Value} {xs : List Value} (h : w.ownsRow lo e k v n xs) (hl : lo' ≤ lo) : w.ownsRow lo' e k v n xs := by
 refine ⟨h.1, ?_⟩
 rcases h.2 with h2 | ⟨g, cap, cur, hv, h3, h4⟩
 ·exact .inl h2
 ·exact .inr ⟨g, cap, cur, hv, Nat.le_trans hl h3, h4⟩
theorem rl_no {d : Jb} {A : List Al} {z0 z : List Int × Int} {L : List (Int × Int)} {y : Int × Int} (hz : z = rlV d A z0 L) (h : mvB d A z.1 (hoV d A y) = true ∨ (alA A (hoV d A y)).ve = d.ve) : rlV d A z0 (L ++ [y]) = z := by
 rw [rlV_snoc, ← hz]
 unfold rlS
 by_cases hp : d.pa ≤ z.2
 ·rw [if_pos hp]
 ·rw [if_neg hp, if_pos h]
theorem rl_yes {d : Jb} {A : List Al} {z0 z : List Int × Int} {L : List (Int × Int)} {y : Int × Int} (hz : z = rlV d A z0 L) (hp : ¬ d.pa ≤ z.2) (h : ¬ (mvB d A z.1 (hoV d A y) = true ∨ (alA A (hoV d A y)).ve = d.ve)) : rlV d A z0 (L ++ [y]) = (z.1 ++ [hoV d A y], z.2 + 1) := by
 rw [rlV_snoc, ← hz]
 unfold rlS
 rw [if_neg hp, if_neg h]
theorem alA_at (A : List Al) (m : Nat) (h : m < A.length) (x : Al) (hx : A[m] = x) : alA A (m : Int) = x := by
 unfold alA
 rw [Int.toNat_natCast, getD_at A m h, hx]
def dnB (d : Jb) (A : List Al) (y : Int × Int) (n : Nat) : Bool := decide (d.ty = 2) && decide (y ∈ dnK d A n)
theorem dnB_at (d : Jb) (A : List Al) (y : Int × Int) (k : Nat) (h : k < A.length) (x : Al) (hx : A[k] = x) : dnB d A y (k + 1) = (dnB d A y k || (decide (d.ty = 2) && decide (x.jb = d.id ∧ x.ve = d.ve ∧ x.st = 3 ∧ x.gr = y.1 ∧ x.ix = y.2))) := by
 unfold dnB
 rw [dnK_at d A k _ rfl h x hx]
 by_cases h1 : x.jb = d.id ∧ x.ve = d.ve ∧ x.st = 3
 ·rw [if_pos h1]
  have h2 : (y ∈ dnK d A k ++ [(x.gr, x.ix)]) ↔ (y ∈ dnK d A k ∨ (x.gr = y.1 ∧ x.ix = y.2)) := by
   rw [List.mem_append, List.mem_singleton]
   constructor
   ·rintro (h | h)
    ·exact .inl h
    ·exact .inr ⟨by rw [h], by rw [h]⟩
   ·rintro (h | ⟨h3, h4⟩)
    ·exact .inl h
    ·exact .inr (Prod.ext h3.symm h4.symm)
  obtain ⟨a1, a2, a3⟩ := h1
  cases hd : decide (d.ty = 2) <;> simp [h2, a1, a2, a3]
 ·rw [if_neg h1]
  have h2 : ¬ (x.jb = d.id ∧ x.ve = d.ve ∧ x.st = 3 ∧ x.gr = y.1 ∧ x.ix = y.2) := fun h => h1 ⟨h.1, h.2.1, h.2.2.1⟩
  simp [h2]
theorem dnB_mem (d : Jb) (A : List Al) (y : Int × Int) : dnB d A y A.length = decide (y ∈ dnV d A) := by
 unfold dnB dnV
 by_cases h : d.ty = 2 <;> simp [h]
set_option maxRecDepth 100000 in
set_option maxHeartbeats 100000000 in
theorem refDiff_t (ix nx : Int) (a2 : Option Addr) (c2 : Nat) (a3 : Option Addr) (n3 c3 : Nat) (a4 : Option Addr) (c4 : Nat) (a5 : Option Addr) (c5 : Nat) (a6 : Option Addr) (n6 c6 : Nat) (a7 : Option Addr) (n7 c7 : Nat) (a8 : Option Addr) (n8 c8 : Nat) (job : Int) (J : List Js) (Lj : List Jb) (Ln : List Nd) (A : List Al) (w : World) (hJ : JbR w (fun b => b < w.heap.size) a2 J Lj) (hN : Fl w (fun b => b < w.heap.size) 8 56 Nd.cs a4 Ln) (hA : Fl w (fun b => b < w.heap.size) 11 88 Al.cs a5 A) (hsl0 : ∀ x ∈ Lj, (slV x Ln).length * 16 ≤ 140737488355328) :
  Calls Try.prog 22 #[.agg #[.int .i64 ix, .int .i64 nx, .slice a2 J.length c2, .slice a3 n3 c3, .slice a4 Ln.length c4, .slice a5 A.length c5, .slice a6 n6 c6, .slice a7 n7 c7, .slice a8 n8 c8], .int .i64 job] w fun e w' => ∃ sa sc fa fc, e = .returned (.tuple #[.slice sa (dfS Lj Ln A job).length sc, .slice fa (dfF Lj Ln A job).length fc]) ∧ w'.ownsRow w.heap.size 3 1 (.slice sa (dfS Lj Ln A job).length sc) (dfS Lj Ln A job).length (fl iC (dfS Lj Ln A job)) ∧ w'.ownsRow w.heap.size 67 2 (.slice fa (dfF Lj Ln A job).length fc) (dfF Lj Ln A job).length (fl sC (dfF Lj Ln A job)) ∧ Below w.heap.size w w' := by
 have hB0 := below1 w (.cells #[.int .i64 ix, .int .i64 nx, .slice a2 J.length c2, .slice a3 n3 c3, .slice a4 Ln.length c4, .slice a5 A.length c5, .slice a6 n6 c6, .slice a7 n7 c7, .slice a8 n8 c8] 29)
 have HBX := hidOf (box_new (wr := w) (cs := [.int .i64 ix, .int .i64 nx, .slice a2 J.length c2, .slice a3 n3 c3, .slice a4 Ln.length c4, .slice a5 A.length c5, .slice a6 n6 c6, .slice a7 n7 c7, .slice a8 n8 c8]) (t := 29) (Below.refl _ _))
 have HND := hidOf (job_ref ⟨ix, nx, a2, J.length, c2, a3, n3, c3, a4, Ln.length, c4, a5, A.length, c5, a6, n6, c6, a7, n7, c7, a8, n8, c8⟩ job J (w.alloc (.cells #[.int .i64 ix, .int .i64 nx, .slice a2 J.length c2, .slice a3 n3 c3, .slice a4 Ln.length c4, .slice a5 A.length c5, .slice a6 n6 c6, .slice a7 n7 c7, .slice a8 n8 c8] 29)) rfl (hJ.row.kept (fun b hb => hB0.block b hb) (fun b hb => Nat.lt_of_lt_of_le hb hB0.size)))
 rw [hJ.fi job] at HND
 have HB0 := hidOf hB0
 have HJ := hidOf hJ
 have HN := hidOf hN
 have HAL0 := hidOf hA
 have hrng := fi_rng (fun x : Jb => isI x.id job) Lj
 have hbj := hJ.row.bd
 clear hB0 hJ hN hA
 rcases hrng with hv | ⟨m, hv, hm⟩
 ·have hv2 : dfI Lj job = -1 := hv
  have HS0 : Hid (dfS Lj Ln A job = []) := hidOf (by unfold dfS; rw [if_pos (by omega)])
  have HF0 : Hid (dfF Lj Ln A job = []) := hidOf (by unfold dfF; rw [if_pos (by omega)])
  rw [hv] at HND
  rw [HS0.out, HF0.out]
  clear hv hv2 HS0 HF0 hsl0
  go_enter Try.func22, Try.ntmps22
  go_wp2_with (go_at_call 20; refine HND.out.mono ?_; rintro e w1 ⟨rfl, hb1⟩; have HB1 := hidOf (HB0.out.trans (hb1.mono HB0.out.size)); clear hb1)
  go_ret2
  exact ⟨none, 0, none, 0, rfl, ⟨rfl, .inl ⟨rfl, rfl⟩⟩, ⟨rfl, .inl ⟨rfl, rfl⟩⟩, HB1.out⟩
 ·have HFI : Hid (dfI Lj job = (m : Int)) := hidOf hv
  rw [hv] at HND
  clear hv
  have hmJ : m < J.length := by rw [HJ.out.len]; exact hm
  obtain ⟨ga, gc, heq, hG⟩ := HJ.out.dp m hmJ hm
  obtain ⟨b, off, ha, hQb, hcc⟩ := HJ.out.row.at m hmJ
  rw [heq] at hcc
  have hsl1 := hsl0 Lj[m] (List.getElem_mem hm)
  obtain ⟨dd, hdd⟩ : ∃ dd, Lj[m] = dd := ⟨_, rfl⟩
  rw [hdd] at hcc hG hsl1
  have HDJ : Hid (dfJ Lj job = dd ∧ ¬ dfI Lj job < 0) := hidOf ⟨by unfold dfJ; rw [HFI.out, Int.toNat_natCast, List.getElem?_eq_getElem hm, hdd]; rfl, by rw [HFI.out]; omega⟩
  have hbw : b < w.heap.size := hQb
  have HG := hidOf hG
  have HCC := hidOf hcc
  have HSL := hidOf hsl1
  clear heq hG hcc hQb hdd hsl1 hsl0
  subst ha
  have hk0 : ¬ ((m : Int) < 0) := by omega
  have hk1 : (m : Int) < (J.length : Int) := by omega
  have hk2 : decide ((m : Int) < 0) = false := by simp
  go_enter Try.func22, Try.ntmps22
  go_upto_region 4 with (go_at_call 20; refine HND.out.mono ?_; rintro e w1 ⟨rfl, hb1⟩; have HB1 := hidOf (HB0.out.trans (hb1.mono HB0.out.size)); have HX1 := hidOf (range_of HBX.out (hb1.block w.heap.size (by simp))); clear hb1)
  obtain ⟨B2, hB2⟩ : ∃ B2, w.heap.size = B2 := ⟨_, rfl⟩
  have HX : Hid (w1.rangeAt B2 0 [.int .i64 ix, .int .i64 nx, .slice (some ⟨b, off, none⟩) J.length c2, .slice a3 n3 c3, .slice a4 Ln.length c4, .slice a5 A.length c5, .slice a6 n6 c6, .slice a7 n7 c7, .slice a8 n8 c8]) := hidOf (by rw [← hB2]; exact HX1.out)
  rw [hB2]
  clear hB2 HX1 HND HBX
  have q0 : w1.cell? ⟨B2, 0, none⟩ = some (.int .i64 ix) := HX.out 0 _ rfl
  have q1 : w1.cell? ⟨B2, 1, none⟩ = some (.int .i64 nx) := HX.out 1 _ rfl
  have q2 : w1.cell? ⟨B2, 2, none⟩ = some (.slice (some ⟨b, off, none⟩) J.length c2) := HX.out 2 _ rfl
  have q3 : w1.cell? ⟨B2, 3, none⟩ = some (.slice a3 n3 c3) := HX.out 3 _ rfl
  have q4 : w1.cell? ⟨B2, 4, none⟩ = some (.slice a4 Ln.length c4) := HX.out 4 _ rfl
  have q5 : w1.cell? ⟨B2, 5, none⟩ = some (.slice a5 A.length c5) := HX.out 5 _ rfl
  have q6 : w1.cell? ⟨B2, 6, none⟩ = some (.slice a6 n6 c6) := HX.out 6 _ rfl
  have q7 : w1.cell? ⟨B2, 7, none⟩ = some (.slice a7 n7 c7) := HX.out 7 _ rfl
  have q8 : w1.cell? ⟨B2, 8, none⟩ = some (.slice a8 n8 c8) := HX.out 8 _ rfl
  have lq : B2 < w1.heap.size := lt_of_cell q0
  have hcr := range_of HCC.out (HB1.out.block b hbw)
  have lb1 : b < w1.heap.size := Nat.lt_of_lt_of_le hbw HB1.out.size
  have j0 : w1.cell? ⟨b, off + m * 7, none⟩ = some (.int .i64 dd.id) := hcr 0 _ rfl
  have j1 : w1.cell? ⟨b, off + m * 7 + 1, none⟩ = some (.int .i64 dd.ty) := hcr 1 _ rfl
  have j2 : w1.cell? ⟨b, off + m * 7 + 2, none⟩ = some (.int .i64 dd.pr) := hcr 2 _ rfl
  have j3 : w1.cell? ⟨b, off + m * 7 + 3, none⟩ = some (.int .i64 dd.pa) := hcr 3 _ rfl
  have j4 : w1.cell? ⟨b, off + m * 7 + 4, none⟩ = some (.slice ga dd.gs.length gc) := hcr 4 _ rfl
  have j5 : w1.cell? ⟨b, off + m * 7 + 5, none⟩ = some (.int .i64 dd.ve) := hcr 5 _ rfl
  have j6 : w1.cell? ⟨b, off + m * 7 + 6, none⟩ = some (.bool dd.sd) := hcr 6 _ rfl
  clear hcr
  obtain ⟨B7, hB7⟩ : ∃ B7, w1.heap.size = B7 := ⟨_, rfl⟩
  obtain ⟨w2, hw2⟩ : ∃ w2, w1.alloc (.cells #[.int .i64 dd.id, .int .i64 dd.ty, .int .i64 dd.pr, .int .i64 dd.pa, .slice ga dd.gs.length gc, .int .i64 dd.ve, .bool dd.sd] 51) = w2 := ⟨_, rfl⟩
  have HB2 : Hid (Below w1.heap.size w1 w2) := hidOf (by rw [← hw2]; exact below1 _ _)
  have HJB : Hid (w2.rangeAt B7 0 [.int .i64 dd.id, .int .i64 dd.ty, .int .i64 dd.pr, .int .i64 dd.pa, .slice ga dd.gs.length gc, .int .i64 dd.ve, .bool dd.sd]) := hidOf (by rw [← hw2, ← hB7]; exact box_new (wr := w1) (cs := [.int .i64 dd.id, .int .i64 dd.ty, .int .i64 dd.pr, .int .i64 dd.pa, .slice ga dd.gs.length gc, .int .i64 dd.ve, .bool dd.sd]) (t := 51) (Below.refl _ _))
  have HW2 := hidOf (HB1.out.trans (HB2.out.mono HB1.out.size))
  have HRS := hidOf (refSlots_any ⟨ix, nx, some ⟨b, off, none⟩, J.length, c2, a3, n3, c3, a4, Ln.length, c4, a5, A.length, c5, a6, n6, c6, a7, n7, c7, a8, n8, c8⟩ dd ga gc Ln w2 (HN.out.kept (fun k hk => HW2.out.block k hk) (fun k hk => Nat.lt_of_lt_of_le hk HW2.out.size)) (HG.out.kept (fun k hk => HW2.out.block k hk) (fun k hk => Nat.lt_of_lt_of_le hk HW2.out.size)) HSL.out)
  have HE2 := hidOf hw2
  have HE7 := hidOf hB7
  clear hw2 hB7
  go_upto_region 5 with (fail)
  rw [HE2.out, HE7.out]
  clear HE2 HE7 j0 j1 j2 j3 j4 j5 j6
  have r0 : w2.cell? ⟨B2, 0, none⟩ = some (.int .i64 ix) := (hb_cell HB2.out lq).trans q0
  have r1 : w2.cell? ⟨B2, 1, none⟩ = some (.int .i64 nx) := (hb_cell HB2.out lq).trans q1
  have r2 : w2.cell? ⟨B2, 2, none⟩ = some (.slice (some ⟨b, off, none⟩) J.length c2) := (hb_cell HB2.out lq).trans q2
  have r3 : w2.cell? ⟨B2, 3, none⟩ = some (.slice a3 n3 c3) := (hb_cell HB2.out lq).trans q3
  have r4 : w2.cell? ⟨B2, 4, none⟩ = some (.slice a4 Ln.length c4) := (hb_cell HB2.out lq).trans q4
  have r5 : w2.cell? ⟨B2, 5, none⟩ = some (.slice a5 A.length c5) := (hb_cell HB2.out lq).trans q5
  have r6 : w2.cell? ⟨B2, 6, none⟩ = some (.slice a6 n6 c6) := (hb_cell HB2.out lq).trans q6
  have r7 : w2.cell? ⟨B2, 7, none⟩ = some (.slice a7 n7 c7) := (hb_cell HB2.out lq).trans q7
  have r8 : w2.cell? ⟨B2, 8, none⟩ = some (.slice a8 n8 c8) := (hb_cell HB2.out lq).trans q8
  have j0 : w2.cell? ⟨B7, 0, none⟩ = some (.int .i64 dd.id) := HJB.out 0 _ rfl
  have j1 : w2.cell? ⟨B7, 1, none⟩ = some (.int .i64 dd.ty) := HJB.out 1 _ rfl
  have j2 : w2.cell? ⟨B7, 2, none⟩ = some (.int .i64 dd.pr) := HJB.out 2 _ rfl
  have j3 : w2.cell? ⟨B7, 3, none⟩ = some (.int .i64 dd.pa) := HJB.out 3 _ rfl
  have j4 : w2.cell? ⟨B7, 4, none⟩ = some (.slice ga dd.gs.length gc) := HJB.out 4 _ rfl
  have j5 : w2.cell? ⟨B7, 5, none⟩ = some (.int .i64 dd.ve) := HJB.out 5 _ rfl
  have j6 : w2.cell? ⟨B7, 6, none⟩ = some (.bool dd.sd) := HJB.out 6 _ rfl
  have lr : B2 < w2.heap.size := lt_of_cell r0
  have lj : B7 < w2.heap.size := lt_of_cell j0
  clear q0 q1 q2 q3 q4 q5 q6 q7 q8
  obtain ⟨L, hL⟩ : ∃ L, slV dd Ln = L := ⟨_, rfl⟩
  rw [hL] at HRS
  have HL := hidOf hL
  have HLB : Hid (L.length * 16 ≤ 140737488355328) := hidOf (by rw [← hL]; exact HSL.out)
  clear hL
  go_upto_region 6 with (go_at_call 40; refine HRS.out.mono ?_; rintro e w3 ⟨la, lc, rfl, ho3, hb3⟩; have HO3 := hidOf ho3; have HB3 := hidOf hb3; clear ho3 hb3)
  have HW3 := hidOf (HW2.out.trans (HB3.out.mono HW2.out.size))
  have HT3 := hidOf (range_of (range_of HX.out (HB2.out.block B2 lq)) (HB3.out.block B2 lr))
  have HJ3 := hidOf (range_of HJB.out (HB3.out.block B7 lj))
  have HLF := hidOf ((own_fl (y := 16) sC_len HO3.out HLB.out).kept (w' := w3) (S' := fun k => k < w3.heap.size) (fun _ _ => rfl) (fun k hk => hk.lt))
  have HA3 := hidOf (HAL0.out.kept (w' := w3) (S' := fun k => k < w3.heap.size) (fun k hk => HW3.out.block k hk) (fun k hk => Nat.lt_of_lt_of_le hk HW3.out.size))
  have HN3 := hidOf (HN.out.kept (w' := w3) (S' := fun k => k < w3.heap.size) (fun k hk => HW3.out.block k hk) (fun k hk => Nat.lt_of_lt_of_le hk HW3.out.size))
  have hbA := HA3.out.bd
  have hbL := HLB.out
  have l23 : B2 < w3.heap.size := lt_of_cell (HT3.out 0 _ rfl)
  have l73 : B7 < w3.heap.size := lt_of_cell (HJ3.out 0 _ rfl)
  clear r0 r1 r2 r3 r4 r5 r6 r7 r8 j0 j1 j2 j3 j4 j5 j6 lr lj HRS HO3
  go_wp2
  go_loopw [9, 10, 11] (fun vs vp i wr => ∃ (k : Nat) (T : List Int) (sa : Option Addr) (sc : Nat) (pa : Option Addr) (pc : Nat), k ≤ A.length ∧ i = .int .i64 k ∧ vs = .slice sa T.length sc ∧ vp = .slice pa T.length pc ∧ Hid (T = suK dd Ln L A k) ∧ Hid (wr.ownsRow w3.heap.size 3 1 (.slice sa T.length sc) T.length (fl iC (T.map (idA A)))) ∧ Hid (wr.ownsRow w3.heap.size 3 1 (.slice pa T.length pc) T.length (fl iC T)) ∧ Hid (Apt sa pa) ∧ Hid (Below w3.heap.size w3 wr)) (fun _ _ i _ => A.length - (intOf i).toNat)
  case atStart => exact ⟨0, [], none, 0, none, 0, Nat.zero_le _, rfl, rfl, rfl, hidOf rfl, hidOf ⟨rfl, .inl ⟨rfl, rfl⟩⟩, hidOf ⟨rfl, .inl ⟨rfl, rfl⟩⟩, hidOf (fun g hg => by cases hg), hidOf (Below.refl _ _)⟩
  case round =>
   as_aux_lemma =>
    obtain ⟨k, T, sa, sc, pa, pc, hk, rfl, rfl, rfl, HT, HS, HP, HAP, HBr⟩ := hrel
    obtain ⟨wq, hwq⟩ : ∃ x, x = wr := ⟨_, rfl⟩
    subst hwq
    have t5 : wq.cell? ⟨B2, 5, none⟩ = some (.slice a5 A.length c5) := (hb_cell HBr.out l23).trans (HT3.out 5 _ rfl)
    have l2 : B2 < wq.heap.size := lt_of_cell t5
    have htl : T.length ≤ k := by rw [HT.out]; exact suK_len dd Ln L A k
    by_cases hlt : k < A.length
    ·obtain ⟨b1, off1, ha, hQb, hcc⟩ := HA3.out.at k hlt
     have hQb' : b1 < w3.heap.size := hQb
     obtain ⟨x, hx⟩ : ∃ x, A[k] = x := ⟨_, rfl⟩
     have HSU := hidOf (suK_at dd Ln L A k T HT.out hlt x hx)
     have HXE := hidOf hx
     rw [hx] at hcc
     clear hx
     have hcr := range_of hcc (HBr.out.block b1 hQb')
     have hbl : b1 < wq.heap.size := Nat.lt_of_lt_of_le hQb' HBr.out.size
     rw [ha] at t5
     clear ha
     have c0x : wq.cell? ⟨b1, off1 + k * 11, none⟩ = some (.int .i64 x.id) := hcr 0 _ rfl
     have c1x : wq.cell? ⟨b1, off1 + k * 11 + 1, none⟩ = some (.int .i64 x.jb) := hcr 1 _ rfl
     have c2x : wq.cell? ⟨b1, off1 + k * 11 + 2, none⟩ = some (.int .i64 x.ve) := hcr 2 _ rfl
     have c3x : wq.cell? ⟨b1, off1 + k * 11 + 3, none⟩ = some (.int .i64 x.gr) := hcr 3 _ rfl
     have c4x : wq.cell? ⟨b1, off1 + k * 11 + 4, none⟩ = some (.int .i64 x.ix) := hcr 4 _ rfl
     have c5x : wq.cell? ⟨b1, off1 + k * 11 + 5, none⟩ = some (.int .i64 x.nd) := hcr 5 _ rfl
     have c6x : wq.cell? ⟨b1, off1 + k * 11 + 6, none⟩ = some (.int .i64 x.ep) := hcr 6 _ rfl
     have c7x : wq.cell? ⟨b1, off1 + k * 11 + 7, none⟩ = some (.int .i64 x.c) := hcr 7 _ rfl
     have c8x : wq.cell? ⟨b1, off1 + k * 11 + 8, none⟩ = some (.int .i64 x.m) := hcr 8 _ rfl
     have c9x : wq.cell? ⟨b1, off1 + k * 11 + 9, none⟩ = some (.bool x.sp) := hcr 9 _ rfl
     have c10x : wq.cell? ⟨b1, off1 + k * 11 + 10, none⟩ = some (.int .i64 x.st) := hcr 10 _ rfl
     clear hcc hcr hQb
     have HXB := hidOf (box_new (wr := wq) (cs := Al.cs x) (t := 42) (Below.refl _ _))
     go_upto_region 12 with (fail)
     clear c0x c1x c2x c3x c4x c5x c6x c7x c8x c9x c10x t5 l2
     obtain ⟨wA, hwA⟩ : ∃ wA, wq.alloc (.cells #[.int .i64 x.id, .int .i64 x.jb, .int .i64 x.ve, .int .i64 x.gr, .int .i64 x.ix, .int .i64 x.nd, .int .i64 x.ep, .int .i64 x.c, .int .i64 x.m, .bool x.sp, .int .i64 x.st] 42) = wA := ⟨_, rfl⟩
     have HZA : Hid (Below wq.heap.size wq wA) := hidOf (by rw [← hwA]; exact below1 _ _)
     obtain ⟨B9, hB9⟩ : ∃ B9, wq.heap.size = B9 := ⟨_, rfl⟩
     have HXA0 : Hid (wA.rangeAt B9 0 (Al.cs x)) := hidOf (by rw [← hwA, ← hB9]; exact HXB.out)
     rw [hwA, hB9]
     clear hwA hB9 HXB
     have HB3A := hidOf (HBr.out.trans (HZA.out.mono HBr.out.size))
     have g1 : wA.cell? ⟨B9, 1, none⟩ = some (.int .i64 x.jb) := HXA0.out 1 _ rfl
     have g9 : wA.cell? ⟨B9, 9, none⟩ = some (.bool x.sp) := HXA0.out 9 _ rfl
     have g10 : wA.cell? ⟨B9, 10, none⟩ = some (.int .i64 x.st) := HXA0.out 10 _ rfl
     have j0 : wA.cell? ⟨B7, 0, none⟩ = some (.int .i64 dd.id) := (hb_cell HB3A.out l73).trans (HJ3.out 0 _ rfl)
     have l9A : B9 < wA.heap.size := lt_of_cell g1
     have l7A : B7 < wA.heap.size := lt_of_cell j0
     by_cases hj : x.jb = dd.id
     ·have hjb : (x.jb != dd.id) = false := by simp [hj]
      have HJJ := hidOf hj
      clear hj
      by_cases ho : 3 ≤ x.st
      ·have hob : decide (3 ≤ x.st) = true := by simp [ho]
       have HOO := hidOf ho
       clear ho
       as_aux_lemma =>
        go_wp2
        go_roundw
        case rel => exact ⟨k + 1, T, sa, sc, pa, pc, by omega, by simp, rfl, rfl, hidOf (by rw [HSU.out, if_neg (fun h => by have h1 := h.1; simp [skB, HJJ.out, ovr, HOO.out] at h1)]), hidOf (own_kept HS.out (fun q _ hq => HZA.out.block q hq)), hidOf (own_kept HP.out (fun q _ hq => HZA.out.block q hq)), HAP, hidOf (HBr.out.trans (HZA.out.mono HBr.out.size))⟩
        case measure => simp [intOf]; omega
      ·have hob : decide (3 ≤ x.st) = false := by simp [ho]
       have HOO := hidOf ho
       clear ho
       cases hsp : x.sp with
       | true =>
        replace g9 := g9.trans (congrArg (fun z => some (Value.bool z)) hsp)
        as_aux_lemma =>
         go_wp2
         go_roundw
         case rel => exact ⟨k + 1, T, sa, sc, pa, pc, by omega, by simp, rfl, rfl, hidOf (by rw [HSU.out, if_neg (fun h => by have h1 := h.1; simp [skB, hsp] at h1)]), hidOf (own_kept HS.out (fun q _ hq => HZA.out.block q hq)), hidOf (own_kept HP.out (fun q _ hq => HZA.out.block q hq)), HAP, hidOf (HBr.out.trans (HZA.out.mono HBr.out.size))⟩
         case measure => simp [intOf]; omega
       | false =>
        replace g9 := g9.trans (congrArg (fun z => some (Value.bool z)) hsp)
        have HSK : Hid (skB dd x = false) := hidOf (by simp [skB, HJJ.out, ovr, hsp]; have := HOO.out; omega)
        clear hsp
        go_wp2
        clear g1 g9 g10 j0
        go_loopw [13, 14] (fun f i wr => ∃ k2 : Nat, k2 ≤ L.length ∧ i = .int .i64 k2 ∧ f = .bool (decide ((x.gr, x.ix) ∈ L.take k2)) ∧ Hid (Below wA.heap.size wA wr)) (fun _ i _ => L.length - (intOf i).toNat)
        case atStart => exact ⟨0, Nat.zero_le _, rfl, by simp, hidOf (Below.refl _ _)⟩
        case round =>
         as_aux_lemma =>
          obtain ⟨k2, hk2, rfl, rfl, HZ⟩ := hrel
          by_cases hl2 : k2 < L.length
          ·obtain ⟨b7, off7, ha7, hQ7, hc7⟩ := HLF.out.at k2 hl2
           have hQ7' : b7 < w3.heap.size := hQ7
           have HTM := hidOf (take_memP hl2 (x.gr, x.ix))
           obtain ⟨y, hy⟩ : ∃ y, L[k2] = y := ⟨_, rfl⟩
           rw [hy] at hc7 HTM
           clear hy
           have HB3Z := hidOf (HB3A.out.trans (HZ.out.mono HB3A.out.size))
           have ky1 : wr.cell? ⟨b7, off7 + k2 * 2, none⟩ = some (.int .i64 y.1) := (hb_cell HB3Z.out hQ7').trans (hc7 0 _ rfl)
           have ky2 : wr.cell? ⟨b7, off7 + k2 * 2 + 1, none⟩ = some (.int .i64 y.2) := (hb_cell HB3Z.out hQ7').trans (hc7 1 _ rfl)
           have l7 : b7 < wr.heap.size := lt_of_cell ky1
           have k3 : wr.cell? ⟨B9, 3, none⟩ = some (.int .i64 x.gr) := (hb_cell HZ.out l9A).trans (HXA0.out 3 _ rfl)
           have k4 : wr.cell? ⟨B9, 4, none⟩ = some (.int .i64 x.ix) := (hb_cell HZ.out l9A).trans (HXA0.out 4 _ rfl)
           have l9r : B9 < wr.heap.size := lt_of_cell k3
           have hi0 : ¬ ((k2 : Int) < 0) := by omega
           have hi1 : (k2 : Int) < (L.length : Int) := by omega
           clear hc7 hQ7
           subst ha7
           go_upto_region 17 with (fail)
           cases hf : decide ((x.gr, x.ix) ∈ L.take k2) with
           | true =>
            rw [hf] at HTM
            as_aux_lemma =>
             refine wp_region_held_drew (S := fun (_Y : World) => True) (by kernel_rfl) trivial (fun hHeld => ?_)
             refine tkH 0 oRd_0 73 (.bool true) hHeld (by intro w hS; dsimp only [oRd_0] at hS ⊢; go_simp) ?_
             try simp only [pA, pC, pD]
             refine tkH 1 oRd_1 74 (.bool true) hHeld (by intro w hS; dsimp only [oRd_1] at hS ⊢; go_simp) ?_
             try simp only [pA, pC, pD]
             refine tkN 2 oRd_2 75 hHeld ?_
             try simp only [pA, pC, pD]
             refine tkN 3 oRd_3 76 hHeld ?_
             try simp only [pA, pC, pD]
             refine tkN 4 oRd_4 77 hHeld ?_
             try simp only [pA, pC, pD]
             refine tkN 5 oRd_5 78 hHeld ?_
             try simp only [pA, pC, pD]
             refine tkN 6 oRd_6 79 hHeld ?_
             try simp only [pA, pC, pD]
             refine tkN 7 oRd_7 80 hHeld ?_
             try simp only [pA, pC, pD]
             refine tkN 8 oRd_8 81 hHeld ?_
             try simp only [pA, pC, pD]
             refine tkN 9 oRd_9 82 hHeld ?_
             try simp only [pA, pC, pD]
             refine tkN 10 oRd_10 83 hHeld ?_
             try simp only [pA, pC, pD]
             refine tkN 11 oRd_11 84 hHeld ?_
             try simp only [pA, pC, pD]
             refine tkN 12 oRd_12 85 hHeld ?_
             try simp only [pA, pC, pD]
             refine tkN 13 oRd_13 86 hHeld ?_
             try simp only [pA, pC, pD]
             refine tkN 14 oRd_14 87 hHeld ?_
             try simp only [pA, pC, pD]
             refine tkN 15 oRd_15 88 hHeld ?_
             try simp only [pA, pC, pD]
             refine tkN 16 oRd_16 89 hHeld ?_
             try simp only [pA, pC, pD]
             refine tkN 17 oRd_17 90 hHeld ?_
             try simp only [pA, pC, pD]
             refine tkN 18 oRd_18 91 hHeld ?_
             try simp only [pA, pC, pD]
             refine tkN 19 oRd_19 92 hHeld ?_
             try simp only [pA, pC, pD]
             refine tkH 20 oRd_20 93 (.bool true) hHeld (by intro w hS; dsimp only [oRd_20] at hS ⊢; go_simp) ?_
             try simp only [pA, pC, pD]
             refine tkH 21 oRd_21 13 (.bool true) hHeld (by intro w hS; dsimp only [oRd_21] at hS ⊢; go_simp) ?_
             try simp only [pA, pC, pD]
             refine wpAnyH_done (by kernel_rfl) ?_ _
             go_wp2
             go_roundw
             case rel => exact ⟨k2 + 1, by omega, by simp, by rw [HTM.out]; rfl, hidOf (HZ.out.trans ((bdrew wr).mono HZ.out.size))⟩
             case measure => simp [intOf]; omega
           | false =>
            rw [hf] at HTM
            by_cases he : y.1 = x.gr
            ·have heb : (y.1 == x.gr) = true := by simp [he]
             have HE := hidOf he
             clear he
             by_cases hf2 : y.2 = x.ix
             ·have hfb : (y.2 == x.ix) = true := by simp [hf2]
              have HF := hidOf hf2
              clear hf2
              as_aux_lemma =>
               refine wp_region_held_drew (S := fun (Y : World) => Y.cell? ⟨b7, off7 + k2 * 2, none⟩ = some (.int .i64 y.1) ∧ Y.cell? ⟨B9, 3, none⟩ = some (.int .i64 x.gr) ∧ Y.cell? ⟨b7, off7 + k2 * 2 + 1, none⟩ = some (.int .i64 y.2) ∧ Y.cell? ⟨B9, 4, none⟩ = some (.int .i64 x.ix)) (by kernel_rfl) ⟨ky1, k3, ky2, k4⟩ (fun hHeld => ?_)
               refine tkH 0 oRd_0 73 (.bool false) hHeld (by intro w hS; dsimp only [oRd_0] at hS ⊢; go_simp) ?_
               try simp only [pA, pC, pD]
               refine tkH 1 oRd_1 74 (.bool false) hHeld (by intro w hS; dsimp only [oRd_1] at hS ⊢; go_simp) ?_
               try simp only [pA, pC, pD]
               refine tkH 2 oRd_2 75 (.slice (some ⟨b7, off7, none⟩) L.length lc) hHeld (by intro w hS; dsimp only [oRd_2] at hS ⊢; go_simp) ?_
               try simp only [pA, pC, pD]
               refine tkH 3 oRd_3 76 (.int .i64 (k2 : Int)) hHeld (by intro w hS; dsimp only [oRd_3] at hS ⊢; go_simp) ?_
               try simp only [pA, pC, pD]
               refine tkH 4 oRd_4 77 (.pointer (some ⟨b7, off7 + k2 * 2, none⟩)) hHeld (by intro w hS; dsimp only [oRd_4] at hS ⊢; go_simp) ?_
               try simp only [pA, pC, pD]
               refine tkH 5 oRd_5 78 (.pointer (some ⟨b7, off7 + k2 * 2, none⟩)) hHeld (by intro w hS; dsimp only [oRd_5] at hS ⊢; go_simp) ?_
               try simp only [pA, pC, pD]
               refine tkH 6 oRd_6 79 (.int .i64 y.1) hHeld (by intro w hS; dsimp only [oRd_6] at hS ⊢; go_simp) ?_
               try simp only [pA, pC, pD]
               refine tkH 7 oRd_7 80 (.pointer (some ⟨B9, 3, none⟩)) hHeld (by intro w hS; dsimp only [oRd_7] at hS ⊢; go_simp) ?_
               try simp only [pA, pC, pD]
               refine tkH 8 oRd_8 81 (.int .i64 x.gr) hHeld (by intro w hS; dsimp only [oRd_8] at hS ⊢; go_simp) ?_
               try simp only [pA, pC, pD]
               refine tkH 9 oRd_9 82 (.bool true) hHeld (by intro w hS; dsimp only [oRd_9] at hS ⊢; go_simp) ?_
               try simp only [pA, pC, pD]
               refine tkH 10 oRd_10 83 (.bool true) hHeld (by intro w hS; dsimp only [oRd_10] at hS ⊢; go_simp) ?_
               try simp only [pA, pC, pD]
               refine tkH 11 oRd_11 84 (.slice (some ⟨b7, off7, none⟩) L.length lc) hHeld (by intro w hS; dsimp only [oRd_11] at hS ⊢; go_simp) ?_
               try simp only [pA, pC, pD]
               refine tkH 12 oRd_12 85 (.int .i64 (k2 : Int)) hHeld (by intro w hS; dsimp only [oRd_12] at hS ⊢; go_simp) ?_
               try simp only [pA, pC, pD]
               refine tkH 13 oRd_13 86 (.pointer (some ⟨b7, off7 + k2 * 2, none⟩)) hHeld (by intro w hS; dsimp only [oRd_13] at hS ⊢; go_simp) ?_
               try simp only [pA, pC, pD]
               refine tkH 14 oRd_14 87 (.pointer (some ⟨b7, off7 + k2 * 2 + 1, none⟩)) hHeld (by intro w hS; dsimp only [oRd_14] at hS ⊢; go_simp) ?_
               try simp only [pA, pC, pD]
               refine tkH 15 oRd_15 88 (.int .i64 y.2) hHeld (by intro w hS; dsimp only [oRd_15] at hS ⊢; go_simp) ?_
               try simp only [pA, pC, pD]
               refine tkH 16 oRd_16 89 (.pointer (some ⟨B9, 4, none⟩)) hHeld (by intro w hS; dsimp only [oRd_16] at hS ⊢; go_simp) ?_
               try simp only [pA, pC, pD]
               refine tkH 17 oRd_17 90 (.int .i64 x.ix) hHeld (by intro w hS; dsimp only [oRd_17] at hS ⊢; go_simp) ?_
               try simp only [pA, pC, pD]
               refine tkH 18 oRd_18 91 (.bool true) hHeld (by intro w hS; dsimp only [oRd_18] at hS ⊢; go_simp) ?_
               try simp only [pA, pC, pD]
               refine tkH 19 oRd_19 92 (.bool true) hHeld (by intro w hS; dsimp only [oRd_19] at hS ⊢; go_simp) ?_
               try simp only [pA, pC, pD]
               refine tkH 20 oRd_20 93 (.bool true) hHeld (by intro w hS; dsimp only [oRd_20] at hS ⊢; go_simp) ?_
               try simp only [pA, pC, pD]
               refine tkH 21 oRd_21 13 (.bool true) hHeld (by intro w hS; dsimp only [oRd_21] at hS ⊢; go_simp) ?_
               try simp only [pA, pC, pD]
               refine wpAnyH_done (by kernel_rfl) ?_ _
               go_wp2
               go_roundw
               case rel => exact ⟨k2 + 1, by omega, by simp, by rw [HTM.out, decide_eq_true (show y = (x.gr, x.ix) from Prod.ext HE.out HF.out)]; rfl, hidOf (HZ.out.trans ((bdrew wr).mono HZ.out.size))⟩
               case measure => simp [intOf]; omega
             ·have hfb : (y.2 == x.ix) = false := by simp [hf2]
              have HF := hidOf hf2
              clear hf2
              as_aux_lemma =>
               refine wp_region_held_drew (S := fun (Y : World) => Y.cell? ⟨b7, off7 + k2 * 2, none⟩ = some (.int .i64 y.1) ∧ Y.cell? ⟨B9, 3, none⟩ = some (.int .i64 x.gr) ∧ Y.cell? ⟨b7, off7 + k2 * 2 + 1, none⟩ = some (.int .i64 y.2) ∧ Y.cell? ⟨B9, 4, none⟩ = some (.int .i64 x.ix)) (by kernel_rfl) ⟨ky1, k3, ky2, k4⟩ (fun hHeld => ?_)
               refine tkH 0 oRd_0 73 (.bool false) hHeld (by intro w hS; dsimp only [oRd_0] at hS ⊢; go_simp) ?_
               try simp only [pA, pC, pD]
               refine tkH 1 oRd_1 74 (.bool false) hHeld (by intro w hS; dsimp only [oRd_1] at hS ⊢; go_simp) ?_
               try simp only [pA, pC, pD]
               refine tkH 2 oRd_2 75 (.slice (some ⟨b7, off7, none⟩) L.length lc) hHeld (by intro w hS; dsimp only [oRd_2] at hS ⊢; go_simp) ?_
               try simp only [pA, pC, pD]
               refine tkH 3 oRd_3 76 (.int .i64 (k2 : Int)) hHeld (by intro w hS; dsimp only [oRd_3] at hS ⊢; go_simp) ?_
               try simp only [pA, pC, pD]
               refine tkH 4 oRd_4 77 (.pointer (some ⟨b7, off7 + k2 * 2, none⟩)) hHeld (by intro w hS; dsimp only [oRd_4] at hS ⊢; go_simp) ?_
               try simp only [pA, pC, pD]
               refine tkH 5 oRd_5 78 (.pointer (some ⟨b7, off7 + k2 * 2, none⟩)) hHeld (by intro w hS; dsimp only [oRd_5] at hS ⊢; go_simp) ?_
               try simp only [pA, pC, pD]
               refine tkH 6 oRd_6 79 (.int .i64 y.1) hHeld (by intro w hS; dsimp only [oRd_6] at hS ⊢; go_simp) ?_
               try simp only [pA, pC, pD]
               refine tkH 7 oRd_7 80 (.pointer (some ⟨B9, 3, none⟩)) hHeld (by intro w hS; dsimp only [oRd_7] at hS ⊢; go_simp) ?_
               try simp only [pA, pC, pD]
               refine tkH 8 oRd_8 81 (.int .i64 x.gr) hHeld (by intro w hS; dsimp only [oRd_8] at hS ⊢; go_simp) ?_
               try simp only [pA, pC, pD]
               refine tkH 9 oRd_9 82 (.bool true) hHeld (by intro w hS; dsimp only [oRd_9] at hS ⊢; go_simp) ?_
               try simp only [pA, pC, pD]
               refine tkH 10 oRd_10 83 (.bool true) hHeld (by intro w hS; dsimp only [oRd_10] at hS ⊢; go_simp) ?_
               try simp only [pA, pC, pD]
               refine tkH 11 oRd_11 84 (.slice (some ⟨b7, off7, none⟩) L.length lc) hHeld (by intro w hS; dsimp only [oRd_11] at hS ⊢; go_simp) ?_
               try simp only [pA, pC, pD]
               refine tkH 12 oRd_12 85 (.int .i64 (k2 : Int)) hHeld (by intro w hS; dsimp only [oRd_12] at hS ⊢; go_simp) ?_
               try simp only [pA, pC, pD]
               refine tkH 13 oRd_13 86 (.pointer (some ⟨b7, off7 + k2 * 2, none⟩)) hHeld (by intro w hS; dsimp only [oRd_13] at hS ⊢; go_simp) ?_
               try simp only [pA, pC, pD]
               refine tkH 14 oRd_14 87 (.pointer (some ⟨b7, off7 + k2 * 2 + 1, none⟩)) hHeld (by intro w hS; dsimp only [oRd_14] at hS ⊢; go_simp) ?_
               try simp only [pA, pC, pD]
               refine tkH 15 oRd_15 88 (.int .i64 y.2) hHeld (by intro w hS; dsimp only [oRd_15] at hS ⊢; go_simp) ?_
               try simp only [pA, pC, pD]
               refine tkH 16 oRd_16 89 (.pointer (some ⟨B9, 4, none⟩)) hHeld (by intro w hS; dsimp only [oRd_16] at hS ⊢; go_simp) ?_
               try simp only [pA, pC, pD]
               refine tkH 17 oRd_17 90 (.int .i64 x.ix) hHeld (by intro w hS; dsimp only [oRd_17] at hS ⊢; go_simp) ?_
               try simp only [pA, pC, pD]
               refine tkH 18 oRd_18 91 (.bool false) hHeld (by intro w hS; dsimp only [oRd_18] at hS ⊢; go_simp) ?_
               try simp only [pA, pC, pD]
               refine tkH 19 oRd_19 92 (.bool false) hHeld (by intro w hS; dsimp only [oRd_19] at hS ⊢; go_simp) ?_
               try simp only [pA, pC, pD]
               refine tkH 20 oRd_20 93 (.bool false) hHeld (by intro w hS; dsimp only [oRd_20] at hS ⊢; go_simp) ?_
               try simp only [pA, pC, pD]
               refine tkH 21 oRd_21 13 (.bool false) hHeld (by intro w hS; dsimp only [oRd_21] at hS ⊢; go_simp) ?_
               try simp only [pA, pC, pD]
               refine wpAnyH_done (by kernel_rfl) ?_ _
               go_wp2
               go_roundw
               case rel => exact ⟨k2 + 1, by omega, by simp, by rw [HTM.out, decide_eq_false (show ¬ y = (x.gr, x.ix) from fun e => HF.out (congrArg Prod.snd e))]; rfl, hidOf (HZ.out.trans ((bdrew wr).mono HZ.out.size))⟩
               case measure => simp [intOf]; omega
            ·have heb : (y.1 == x.gr) = false := by simp [he]
             have HE := hidOf he
             clear he
             as_aux_lemma =>
              refine wp_region_held_drew (S := fun (Y : World) => Y.cell? ⟨b7, off7 + k2 * 2, none⟩ = some (.int .i64 y.1) ∧ Y.cell? ⟨B9, 3, none⟩ = some (.int .i64 x.gr)) (by kernel_rfl) ⟨ky1, k3⟩ (fun hHeld => ?_)
              refine tkH 0 oRd_0 73 (.bool false) hHeld (by intro w hS; dsimp only [oRd_0] at hS ⊢; go_simp) ?_
              try simp only [pA, pC, pD]
              refine tkH 1 oRd_1 74 (.bool false) hHeld (by intro w hS; dsimp only [oRd_1] at hS ⊢; go_simp) ?_
              try simp only [pA, pC, pD]
              refine tkH 2 oRd_2 75 (.slice (some ⟨b7, off7, none⟩) L.length lc) hHeld (by intro w hS; dsimp only [oRd_2] at hS ⊢; go_simp) ?_
              try simp only [pA, pC, pD]
              refine tkH 3 oRd_3 76 (.int .i64 (k2 : Int)) hHeld (by intro w hS; dsimp only [oRd_3] at hS ⊢; go_simp) ?_
              try simp only [pA, pC, pD]
              refine tkH 4 oRd_4 77 (.pointer (some ⟨b7, off7 + k2 * 2, none⟩)) hHeld (by intro w hS; dsimp only [oRd_4] at hS ⊢; go_simp) ?_
              try simp only [pA, pC, pD]
              refine tkH 5 oRd_5 78 (.pointer (some ⟨b7, off7 + k2 * 2, none⟩)) hHeld (by intro w hS; dsimp only [oRd_5] at hS ⊢; go_simp) ?_
              try simp only [pA, pC, pD]
              refine tkH 6 oRd_6 79 (.int .i64 y.1) hHeld (by intro w hS; dsimp only [oRd_6] at hS ⊢; go_simp) ?_
              try simp only [pA, pC, pD]
              refine tkH 7 oRd_7 80 (.pointer (some ⟨B9, 3, none⟩)) hHeld (by intro w hS; dsimp only [oRd_7] at hS ⊢; go_simp) ?_
              try simp only [pA, pC, pD]
              refine tkH 8 oRd_8 81 (.int .i64 x.gr) hHeld (by intro w hS; dsimp only [oRd_8] at hS ⊢; go_simp) ?_
              try simp only [pA, pC, pD]
              refine tkH 9 oRd_9 82 (.bool false) hHeld (by intro w hS; dsimp only [oRd_9] at hS ⊢; go_simp) ?_
              try simp only [pA, pC, pD]
              refine tkH 10 oRd_10 83 (.bool false) hHeld (by intro w hS; dsimp only [oRd_10] at hS ⊢; go_simp) ?_
              try simp only [pA, pC, pD]
              refine tkN 11 oRd_11 84 hHeld ?_
              try simp only [pA, pC, pD]
              refine tkN 12 oRd_12 85 hHeld ?_
              try simp only [pA, pC, pD]
              refine tkN 13 oRd_13 86 hHeld ?_
              try simp only [pA, pC, pD]
              refine tkN 14 oRd_14 87 hHeld ?_
              try simp only [pA, pC, pD]
              refine tkN 15 oRd_15 88 hHeld ?_
              try simp only [pA, pC, pD]
              refine tkN 16 oRd_16 89 hHeld ?_
              try simp only [pA, pC, pD]
              refine tkN 17 oRd_17 90 hHeld ?_
              try simp only [pA, pC, pD]
              refine tkN 18 oRd_18 91 hHeld ?_
              try simp only [pA, pC, pD]
              refine tkH 19 oRd_19 92 (.bool false) hHeld (by intro w hS; dsimp only [oRd_19] at hS ⊢; go_simp) ?_
              try simp only [pA, pC, pD]
              refine tkH 20 oRd_20 93 (.bool false) hHeld (by intro w hS; dsimp only [oRd_20] at hS ⊢; go_simp) ?_
              try simp only [pA, pC, pD]
              refine tkH 21 oRd_21 13 (.bool false) hHeld (by intro w hS; dsimp only [oRd_21] at hS ⊢; go_simp) ?_
              try simp only [pA, pC, pD]
              refine wpAnyH_done (by kernel_rfl) ?_ _
              go_wp2
              go_roundw
              case rel => exact ⟨k2 + 1, by omega, by simp, by rw [HTM.out, decide_eq_false (show ¬ y = (x.gr, x.ix) from fun e => HE.out (congrArg Prod.fst e))]; rfl, hidOf (HZ.out.trans ((bdrew wr).mono HZ.out.size))⟩
              case measure => simp [intOf]; omega
          ·have hkl : k2 = L.length := by omega
           subst hkl
           obtain ⟨wz, hwz⟩ : ∃ z, z = wr := ⟨_, rfl⟩
           subst hwz
           have HYz := HZ
           have HTA : Hid (∀ W, Below wA.heap.size wA W → W.rangeAt B2 0 [.int .i64 ix, .int .i64 nx, .slice (some ⟨b, off, none⟩) J.length c2, .slice a3 n3 c3, .slice a4 Ln.length c4, .slice a5 A.length c5, .slice a6 n6 c6, .slice a7 n7 c7, .slice a8 n8 c8]) := hidOf fun W hW => range_of HT3.out ((hW.block B2 (by have := HB3A.out.size; omega)).trans (HB3A.out.block B2 l23))
           have HJA : Hid (∀ W, Below wA.heap.size wA W → W.rangeAt B7 0 [.int .i64 dd.id, .int .i64 dd.ty, .int .i64 dd.pr, .int .i64 dd.pa, .slice ga dd.gs.length gc, .int .i64 dd.ve, .bool dd.sd]) := hidOf fun W hW => range_of HJ3.out ((hW.block B7 (by have := HB3A.out.size; omega)).trans (HB3A.out.block B7 l73))
           have HXA : Hid (∀ W, Below wA.heap.size wA W → W.rangeAt B9 0 (Al.cs x)) := hidOf fun W hW => range_of HXA0.out (hW.block B9 l9A)
           have HNDc := hidOf (fun W (hW : Below wA.heap.size wA W) => node_ref ⟨ix, nx, some ⟨b, off, none⟩, J.length, c2, a3, n3, c3, a4, Ln.length, c4, a5, A.length, c5, a6, n6, c6, a7, n7, c7, a8, n8, c8⟩ x.nd Ln W rfl (HN3.out.kept (fun q hq => (hW.block q (by have := HB3A.out.size; have : q < w3.heap.size := hq; omega)).trans (HB3A.out.block q hq)) (fun q hq => by have := HB3A.out.size; have := hW.size; have : q < w3.heap.size := hq; show q < W.heap.size; omega)))
           have hrn := fi_rng (fun z : Nd => isI z.id x.nd) Ln
           have HML := hidOf (show T.length + 1 ≤ maxLen by unfold maxLen; omega)
           have HBY := hidOf (show (T.length + 1) * 8 ≤ 140737488355328 by omega)
           have t0 : wz.cell? ⟨B2, 0, none⟩ = some (.int .i64 ix) := (HTA.out _ HYz.out) 0 _ rfl
           have t1 : wz.cell? ⟨B2, 1, none⟩ = some (.int .i64 nx) := (HTA.out _ HYz.out) 1 _ rfl
           have t2 : wz.cell? ⟨B2, 2, none⟩ = some (.slice (some ⟨b, off, none⟩) J.length c2) := (HTA.out _ HYz.out) 2 _ rfl
           have t3 : wz.cell? ⟨B2, 3, none⟩ = some (.slice a3 n3 c3) := (HTA.out _ HYz.out) 3 _ rfl
           have t4 : wz.cell? ⟨B2, 4, none⟩ = some (.slice a4 Ln.length c4) := (HTA.out _ HYz.out) 4 _ rfl
           have t5 : wz.cell? ⟨B2, 5, none⟩ = some (.slice a5 A.length c5) := (HTA.out _ HYz.out) 5 _ rfl
           have t6 : wz.cell? ⟨B2, 6, none⟩ = some (.slice a6 n6 c6) := (HTA.out _ HYz.out) 6 _ rfl
           have t7 : wz.cell? ⟨B2, 7, none⟩ = some (.slice a7 n7 c7) := (HTA.out _ HYz.out) 7 _ rfl
           have t8 : wz.cell? ⟨B2, 8, none⟩ = some (.slice a8 n8 c8) := (HTA.out _ HYz.out) 8 _ rfl
           have e0 : wz.cell? ⟨B9, 0, none⟩ = some (.int .i64 x.id) := (HXA.out _ HYz.out) 0 _ rfl
           have e2 : wz.cell? ⟨B9, 2, none⟩ = some (.int .i64 x.ve) := (HXA.out _ HYz.out) 2 _ rfl
           have e5 : wz.cell? ⟨B9, 5, none⟩ = some (.int .i64 x.nd) := (HXA.out _ HYz.out) 5 _ rfl
           have j1 : wz.cell? ⟨B7, 1, none⟩ = some (.int .i64 dd.ty) := (HJA.out _ HYz.out) 1 _ rfl
           have j5 : wz.cell? ⟨B7, 5, none⟩ = some (.int .i64 dd.ve) := (HJA.out _ HYz.out) 5 _ rfl
           have l2 : B2 < wz.heap.size := lt_of_cell t0
           have l9 : B9 < wz.heap.size := lt_of_cell e0
           have l7 : B7 < wz.heap.size := lt_of_cell j1
           rw [List.take_length]
           by_cases hin : (x.gr, x.ix) ∈ L
           ·rw [decide_eq_true hin]
            have HIN := hidOf hin
            clear hin
            rcases hrn with hn1 | ⟨mn, hn1, hmn⟩
            ·rw [hn1] at HNDc
             have HDR := hidOf (ndD_fn hn1)
             clear hn1
             have hg0 : decide ((0 : Int) ≤ -1) = false := by decide
             by_cases hty : dd.ty = 1
             ·have hq : (dd.ty != 1) = false := by simp [hty]
              have HTY := hidOf hty
              clear hty
              as_aux_lemma =>
               go_wp2_with (first | (go_at_call 25; refine (HNDc.out _ HYz.out).mono ?_; rintro e wn ⟨rfl, hb⟩; have HYwn := hidOf (HYz.out.trans (hb.mono HYz.out.size)); clear hb; clear t0 t1 t2 t3 t4 t5 t6 t7 t8 l2 e0 e2 e5 l9 j1 j5 l7; have t0 : wn.cell? ⟨B2, 0, none⟩ = some (.int .i64 ix) := (HTA.out _ HYwn.out) 0 _ rfl; have t1 : wn.cell? ⟨B2, 1, none⟩ = some (.int .i64 nx) := (HTA.out _ HYwn.out) 1 _ rfl; have t2 : wn.cell? ⟨B2, 2, none⟩ = some (.slice (some ⟨b, off, none⟩) J.length c2) := (HTA.out _ HYwn.out) 2 _ rfl; have t3 : wn.cell? ⟨B2, 3, none⟩ = some (.slice a3 n3 c3) := (HTA.out _ HYwn.out) 3 _ rfl; have t4 : wn.cell? ⟨B2, 4, none⟩ = some (.slice a4 Ln.length c4) := (HTA.out _ HYwn.out) 4 _ rfl; have t5 : wn.cell? ⟨B2, 5, none⟩ = some (.slice a5 A.length c5) := (HTA.out _ HYwn.out) 5 _ rfl; have t6 : wn.cell? ⟨B2, 6, none⟩ = some (.slice a6 n6 c6) := (HTA.out _ HYwn.out) 6 _ rfl; have t7 : wn.cell? ⟨B2, 7, none⟩ = some (.slice a7 n7 c7) := (HTA.out _ HYwn.out) 7 _ rfl; have t8 : wn.cell? ⟨B2, 8, none⟩ = some (.slice a8 n8 c8) := (HTA.out _ HYwn.out) 8 _ rfl; have e0 : wn.cell? ⟨B9, 0, none⟩ = some (.int .i64 x.id) := (HXA.out _ HYwn.out) 0 _ rfl; have e2 : wn.cell? ⟨B9, 2, none⟩ = some (.int .i64 x.ve) := (HXA.out _ HYwn.out) 2 _ rfl; have e5 : wn.cell? ⟨B9, 5, none⟩ = some (.int .i64 x.nd) := (HXA.out _ HYwn.out) 5 _ rfl; have j1 : wn.cell? ⟨B7, 1, none⟩ = some (.int .i64 dd.ty) := (HJA.out _ HYwn.out) 1 _ rfl; have j5 : wn.cell? ⟨B7, 5, none⟩ = some (.int .i64 dd.ve) := (HJA.out _ HYwn.out) 5 _ rfl; have l2 := lt_of_cell t0; have l9 := lt_of_cell e0; have l7 := lt_of_cell j1; have HQ20 := hidOf (fun q (hq : q < wq.heap.size) => ((below1 wn (.cells #[.int .i64 x.id] 3)).block q (by have := HZA.out.size; have := HYwn.out.size; omega)).trans ((HYwn.out.block q (by have := HZA.out.size; omega)).trans (HZA.out.block q hq))); have HZ20 := hidOf (show wq.heap.size ≤ (wn.alloc (.cells #[.int .i64 x.id] 3)).heap.size by have := HZA.out.size; have := HYwn.out.size; simp; omega)))
               go_roundw
               case rel => exact ⟨k + 1, T, sa, sc, pa, pc, by omega, by simp, rfl, rfl, hidOf (by rw [HSU.out, if_neg (fun h => by have h2 := h.2; simp [unB, HIN.out, HDR.out, HTY.out] at h2)]), hidOf (own_kept HS.out (fun q _ hq => (HYwn.out.block q (by have := HZA.out.size; omega)).trans (HZA.out.block q hq))), hidOf (own_kept HP.out (fun q _ hq => (HYwn.out.block q (by have := HZA.out.size; omega)).trans (HZA.out.block q hq))), HAP, hidOf (HB3A.out.trans (HYwn.out.mono HB3A.out.size))⟩
               case measure => simp [intOf]; omega
             ·have hq : (dd.ty != 1) = true := by simp [hty]
              have HTY := hidOf hty
              clear hty
              by_cases hve : x.ve = dd.ve
              ·have hq2 : (x.ve != dd.ve) = false := by simp [hve]
               have HVE := hidOf hve
               clear hve
               as_aux_lemma =>
                go_wp2_with (first | (go_at_call 25; refine (HNDc.out _ HYz.out).mono ?_; rintro e wn ⟨rfl, hb⟩; have HYwn := hidOf (HYz.out.trans (hb.mono HYz.out.size)); clear hb; clear t0 t1 t2 t3 t4 t5 t6 t7 t8 l2 e0 e2 e5 l9 j1 j5 l7; have t0 : wn.cell? ⟨B2, 0, none⟩ = some (.int .i64 ix) := (HTA.out _ HYwn.out) 0 _ rfl; have t1 : wn.cell? ⟨B2, 1, none⟩ = some (.int .i64 nx) := (HTA.out _ HYwn.out) 1 _ rfl; have t2 : wn.cell? ⟨B2, 2, none⟩ = some (.slice (some ⟨b, off, none⟩) J.length c2) := (HTA.out _ HYwn.out) 2 _ rfl; have t3 : wn.cell? ⟨B2, 3, none⟩ = some (.slice a3 n3 c3) := (HTA.out _ HYwn.out) 3 _ rfl; have t4 : wn.cell? ⟨B2, 4, none⟩ = some (.slice a4 Ln.length c4) := (HTA.out _ HYwn.out) 4 _ rfl; have t5 : wn.cell? ⟨B2, 5, none⟩ = some (.slice a5 A.length c5) := (HTA.out _ HYwn.out) 5 _ rfl; have t6 : wn.cell? ⟨B2, 6, none⟩ = some (.slice a6 n6 c6) := (HTA.out _ HYwn.out) 6 _ rfl; have t7 : wn.cell? ⟨B2, 7, none⟩ = some (.slice a7 n7 c7) := (HTA.out _ HYwn.out) 7 _ rfl; have t8 : wn.cell? ⟨B2, 8, none⟩ = some (.slice a8 n8 c8) := (HTA.out _ HYwn.out) 8 _ rfl; have e0 : wn.cell? ⟨B9, 0, none⟩ = some (.int .i64 x.id) := (HXA.out _ HYwn.out) 0 _ rfl; have e2 : wn.cell? ⟨B9, 2, none⟩ = some (.int .i64 x.ve) := (HXA.out _ HYwn.out) 2 _ rfl; have e5 : wn.cell? ⟨B9, 5, none⟩ = some (.int .i64 x.nd) := (HXA.out _ HYwn.out) 5 _ rfl; have j1 : wn.cell? ⟨B7, 1, none⟩ = some (.int .i64 dd.ty) := (HJA.out _ HYwn.out) 1 _ rfl; have j5 : wn.cell? ⟨B7, 5, none⟩ = some (.int .i64 dd.ve) := (HJA.out _ HYwn.out) 5 _ rfl; have l2 := lt_of_cell t0; have l9 := lt_of_cell e0; have l7 := lt_of_cell j1; have HQ20 := hidOf (fun q (hq : q < wq.heap.size) => ((below1 wn (.cells #[.int .i64 x.id] 3)).block q (by have := HZA.out.size; have := HYwn.out.size; omega)).trans ((HYwn.out.block q (by have := HZA.out.size; omega)).trans (HZA.out.block q hq))); have HZ20 := hidOf (show wq.heap.size ≤ (wn.alloc (.cells #[.int .i64 x.id] 3)).heap.size by have := HZA.out.size; have := HYwn.out.size; simp; omega)))
                go_roundw
                case rel => exact ⟨k + 1, T, sa, sc, pa, pc, by omega, by simp, rfl, rfl, hidOf (by rw [HSU.out, if_neg (fun h => by have h2 := h.2; simp [unB, HIN.out, HDR.out, HVE.out] at h2)]), hidOf (own_kept HS.out (fun q _ hq => (HYwn.out.block q (by have := HZA.out.size; omega)).trans (HZA.out.block q hq))), hidOf (own_kept HP.out (fun q _ hq => (HYwn.out.block q (by have := HZA.out.size; omega)).trans (HZA.out.block q hq))), HAP, hidOf (HB3A.out.trans (HYwn.out.mono HB3A.out.size))⟩
                case measure => simp [intOf]; omega
              ·have hq2 : (x.ve != dd.ve) = true := by simp [hve]
               have HVE := hidOf hve
               clear hve
               as_aux_lemma =>
                go_wp2_with (first | (go_at_call 25; refine (HNDc.out _ HYz.out).mono ?_; rintro e wn ⟨rfl, hb⟩; have HYwn := hidOf (HYz.out.trans (hb.mono HYz.out.size)); clear hb; clear t0 t1 t2 t3 t4 t5 t6 t7 t8 l2 e0 e2 e5 l9 j1 j5 l7; have t0 : wn.cell? ⟨B2, 0, none⟩ = some (.int .i64 ix) := (HTA.out _ HYwn.out) 0 _ rfl; have t1 : wn.cell? ⟨B2, 1, none⟩ = some (.int .i64 nx) := (HTA.out _ HYwn.out) 1 _ rfl; have t2 : wn.cell? ⟨B2, 2, none⟩ = some (.slice (some ⟨b, off, none⟩) J.length c2) := (HTA.out _ HYwn.out) 2 _ rfl; have t3 : wn.cell? ⟨B2, 3, none⟩ = some (.slice a3 n3 c3) := (HTA.out _ HYwn.out) 3 _ rfl; have t4 : wn.cell? ⟨B2, 4, none⟩ = some (.slice a4 Ln.length c4) := (HTA.out _ HYwn.out) 4 _ rfl; have t5 : wn.cell? ⟨B2, 5, none⟩ = some (.slice a5 A.length c5) := (HTA.out _ HYwn.out) 5 _ rfl; have t6 : wn.cell? ⟨B2, 6, none⟩ = some (.slice a6 n6 c6) := (HTA.out _ HYwn.out) 6 _ rfl; have t7 : wn.cell? ⟨B2, 7, none⟩ = some (.slice a7 n7 c7) := (HTA.out _ HYwn.out) 7 _ rfl; have t8 : wn.cell? ⟨B2, 8, none⟩ = some (.slice a8 n8 c8) := (HTA.out _ HYwn.out) 8 _ rfl; have e0 : wn.cell? ⟨B9, 0, none⟩ = some (.int .i64 x.id) := (HXA.out _ HYwn.out) 0 _ rfl; have e2 : wn.cell? ⟨B9, 2, none⟩ = some (.int .i64 x.ve) := (HXA.out _ HYwn.out) 2 _ rfl; have e5 : wn.cell? ⟨B9, 5, none⟩ = some (.int .i64 x.nd) := (HXA.out _ HYwn.out) 5 _ rfl; have j1 : wn.cell? ⟨B7, 1, none⟩ = some (.int .i64 dd.ty) := (HJA.out _ HYwn.out) 1 _ rfl; have j5 : wn.cell? ⟨B7, 5, none⟩ = some (.int .i64 dd.ve) := (HJA.out _ HYwn.out) 5 _ rfl; have l2 := lt_of_cell t0; have l9 := lt_of_cell e0; have l7 := lt_of_cell j1; have HQ20 := hidOf (fun q (hq : q < wq.heap.size) => ((below1 wn (.cells #[.int .i64 x.id] 3)).block q (by have := HZA.out.size; have := HYwn.out.size; omega)).trans ((HYwn.out.block q (by have := HZA.out.size; omega)).trans (HZA.out.block q hq))); have HZ20 := hidOf (show wq.heap.size ≤ (wn.alloc (.cells #[.int .i64 x.id] 3)).heap.size by have := HZA.out.size; have := HYwn.out.size; simp; omega)) | (at_builtin; refine wpList_app1p _ rfl _ _ 33 rfl w3.heap.size 3 _ 1 8 Try.underlying33 info3 rfl (by decide) sa sc T.length (fl iC (T.map (idA A))) rfl (own_kept HS.out (fun q _ hq => HQ20.out q hq)) ⟨wn.heap.size, 0, none⟩ 1 (iC x.id) rfl rfl (new1 wn x.id) (iC_one _) HML.out HBY.out (Nat.le_trans HBr.out.size HZ20.out) ?_; intro sa2 sc2 w20 ho hg hat; have HRW := hidOf (row_step HP.out HAP.out HQ20.out HZ20.out hg hat ho); have HS20 := hidOf ho; have HG20 := hidOf hg; have HZ21 := hidOf (show w20.heap.size ≤ (w20.alloc (.cells #[.int .i64 (k : Int)] 3)).heap.size by simp); have HZ22 := hidOf (show w3.heap.size ≤ (w20.alloc (.cells #[.int .i64 (k : Int)] 3)).heap.size by have h1 := HBr.out.size; have h2 := HZ20.out; have h3 := hg.size; simp; omega); clear ho hg hat) | (at_builtin; refine wpList_app1p _ rfl _ _ 33 rfl w3.heap.size 3 _ 1 8 Try.underlying33 info3 rfl (by decide) pa pc T.length (fl iC T) rfl (own_kept HRW.out.1 (fun q _ hq => (below1 w20 (.cells #[.int .i64 (k : Int)] 3)).block q hq)) ⟨w20.heap.size, 0, none⟩ 1 (iC (k : Int)) rfl rfl (new1 w20 (k : Int)) (iC_one _) HML.out HBY.out HZ22.out ?_; intro pa2 pc2 w21 ho hg hat; have HRX := hidOf (row_step HS20.out HRW.out.2.symm (fun q hq => (below1 w20 (.cells #[.int .i64 (k : Int)] 3)).block q hq) HZ21.out hg hat ho); have HP21 := hidOf ho; have HG21 := hidOf hg; clear ho hg hat))
                go_roundw
                case rel => exact ⟨k + 1, T ++ [(k : Int)], sa2, sc2, pa2, pc2, by omega, by simp, by simp, by simp, hidOf (by rw [HSU.out, if_pos ⟨HSK.out, by simp [unB, HTY.out, HVE.out]⟩]), hidOf (by rw [List.map_append, fl_append, List.length_append, List.map_cons, List.map_nil, idA_nat A k hlt, HXE.out]; exact HRX.out.1), hidOf (by rw [fl_snoc, List.length_append]; exact HP21.out), hidOf HRX.out.2.symm, hidOf (bel2 HBr.out HQ20.out HZ20.out HG20.out HG21.out (own_blk2 HS.out) (own_blk2 HRW.out.1) HBr.out.size ⟨HYwn.out.os.trans HZA.out.os, HYwn.out.tape.trans HZA.out.tape, HYwn.out.output.trans HZA.out.output⟩)⟩
                case measure => simp [intOf]; omega
            ·rw [hn1] at HNDc
             have hdr := ndD_fi hn1 hmn
             clear hn1
             obtain ⟨bn, offn, han, hQn, hcn⟩ := HN3.out.at mn hmn
             have hQn' : bn < w3.heap.size := hQn
             obtain ⟨nd, hnd⟩ : ∃ nd, Ln[mn] = nd := ⟨_, rfl⟩
             rw [hnd] at hcn hdr
             have HDR := hidOf hdr
             clear hnd hdr
             subst han
             have HDC : Hid (∀ W, Below wA.heap.size wA W → W.cell? ⟨bn, offn + mn * 8 + 4, none⟩ = some (.bool nd.dr)) := hidOf fun W hW => (hb_cell hW (by have := HB3A.out.size; omega)).trans ((hb_cell HB3A.out hQn').trans (hcn 4 _ rfl))
             clear hcn hQn
             have hg0 : decide ((0 : Int) ≤ (mn : Int)) = true := by simp
             have hm0 : ¬ ((mn : Int) < 0) := by omega
             have hm1 : (mn : Int) < (Ln.length : Int) := by omega
             cases hdd : nd.dr with
             | true =>
              rw [hdd] at HDC HDR
              as_aux_lemma =>
               go_wp2_with (first | (go_at_call 25; refine (HNDc.out _ HYz.out).mono ?_; rintro e wn ⟨rfl, hb⟩; have HYwn := hidOf (HYz.out.trans (hb.mono HYz.out.size)); clear hb; clear t0 t1 t2 t3 t4 t5 t6 t7 t8 l2 e0 e2 e5 l9 j1 j5 l7; have t0 : wn.cell? ⟨B2, 0, none⟩ = some (.int .i64 ix) := (HTA.out _ HYwn.out) 0 _ rfl; have t1 : wn.cell? ⟨B2, 1, none⟩ = some (.int .i64 nx) := (HTA.out _ HYwn.out) 1 _ rfl; have t2 : wn.cell? ⟨B2, 2, none⟩ = some (.slice (some ⟨b, off, none⟩) J.length c2) := (HTA.out _ HYwn.out) 2 _ rfl; have t3 : wn.cell? ⟨B2, 3, none⟩ = some (.slice a3 n3 c3) := (HTA.out _ HYwn.out) 3 _ rfl; have t4 : wn.cell? ⟨B2, 4, none⟩ = some (.slice (some ⟨bn, offn, none⟩) Ln.length c4) := (HTA.out _ HYwn.out) 4 _ rfl; have t5 : wn.cell? ⟨B2, 5, none⟩ = some (.slice a5 A.length c5) := (HTA.out _ HYwn.out) 5 _ rfl; have t6 : wn.cell? ⟨B2, 6, none⟩ = some (.slice a6 n6 c6) := (HTA.out _ HYwn.out) 6 _ rfl; have t7 : wn.cell? ⟨B2, 7, none⟩ = some (.slice a7 n7 c7) := (HTA.out _ HYwn.out) 7 _ rfl; have t8 : wn.cell? ⟨B2, 8, none⟩ = some (.slice a8 n8 c8) := (HTA.out _ HYwn.out) 8 _ rfl; have e0 : wn.cell? ⟨B9, 0, none⟩ = some (.int .i64 x.id) := (HXA.out _ HYwn.out) 0 _ rfl; have e2 : wn.cell? ⟨B9, 2, none⟩ = some (.int .i64 x.ve) := (HXA.out _ HYwn.out) 2 _ rfl; have e5 : wn.cell? ⟨B9, 5, none⟩ = some (.int .i64 x.nd) := (HXA.out _ HYwn.out) 5 _ rfl; have j1 : wn.cell? ⟨B7, 1, none⟩ = some (.int .i64 dd.ty) := (HJA.out _ HYwn.out) 1 _ rfl; have j5 : wn.cell? ⟨B7, 5, none⟩ = some (.int .i64 dd.ve) := (HJA.out _ HYwn.out) 5 _ rfl; have l2 := lt_of_cell t0; have l9 := lt_of_cell e0; have l7 := lt_of_cell j1; have HQ20 := hidOf (fun q (hq : q < wq.heap.size) => ((below1 wn (.cells #[.int .i64 x.id] 3)).block q (by have := HZA.out.size; have := HYwn.out.size; omega)).trans ((HYwn.out.block q (by have := HZA.out.size; omega)).trans (HZA.out.block q hq))); have HZ20 := hidOf (show wq.heap.size ≤ (wn.alloc (.cells #[.int .i64 x.id] 3)).heap.size by have := HZA.out.size; have := HYwn.out.size; simp; omega); have d4 := HDC.out _ HYwn.out; have ln := lt_of_cell d4) | (at_builtin; refine wpList_app1p _ rfl _ _ 33 rfl w3.heap.size 3 _ 1 8 Try.underlying33 info3 rfl (by decide) sa sc T.length (fl iC (T.map (idA A))) rfl (own_kept HS.out (fun q _ hq => HQ20.out q hq)) ⟨wn.heap.size, 0, none⟩ 1 (iC x.id) rfl rfl (new1 wn x.id) (iC_one _) HML.out HBY.out (Nat.le_trans HBr.out.size HZ20.out) ?_; intro sa2 sc2 w20 ho hg hat; have HRW := hidOf (row_step HP.out HAP.out HQ20.out HZ20.out hg hat ho); have HS20 := hidOf ho; have HG20 := hidOf hg; have HZ21 := hidOf (show w20.heap.size ≤ (w20.alloc (.cells #[.int .i64 (k : Int)] 3)).heap.size by simp); have HZ22 := hidOf (show w3.heap.size ≤ (w20.alloc (.cells #[.int .i64 (k : Int)] 3)).heap.size by have h1 := HBr.out.size; have h2 := HZ20.out; have h3 := hg.size; simp; omega); clear ho hg hat) | (at_builtin; refine wpList_app1p _ rfl _ _ 33 rfl w3.heap.size 3 _ 1 8 Try.underlying33 info3 rfl (by decide) pa pc T.length (fl iC T) rfl (own_kept HRW.out.1 (fun q _ hq => (below1 w20 (.cells #[.int .i64 (k : Int)] 3)).block q hq)) ⟨w20.heap.size, 0, none⟩ 1 (iC (k : Int)) rfl rfl (new1 w20 (k : Int)) (iC_one _) HML.out HBY.out HZ22.out ?_; intro pa2 pc2 w21 ho hg hat; have HRX := hidOf (row_step HS20.out HRW.out.2.symm (fun q hq => (below1 w20 (.cells #[.int .i64 (k : Int)] 3)).block q hq) HZ21.out hg hat ho); have HP21 := hidOf ho; have HG21 := hidOf hg; clear ho hg hat))
               go_roundw
               case rel => exact ⟨k + 1, T ++ [(k : Int)], sa2, sc2, pa2, pc2, by omega, by simp, by simp, by simp, hidOf (by rw [HSU.out, if_pos ⟨HSK.out, by simp [unB, HDR.out]⟩]), hidOf (by rw [List.map_append, fl_append, List.length_append, List.map_cons, List.map_nil, idA_nat A k hlt, HXE.out]; exact HRX.out.1), hidOf (by rw [fl_snoc, List.length_append]; exact HP21.out), hidOf HRX.out.2.symm, hidOf (bel2 HBr.out HQ20.out HZ20.out HG20.out HG21.out (own_blk2 HS.out) (own_blk2 HRW.out.1) HBr.out.size ⟨HYwn.out.os.trans HZA.out.os, HYwn.out.tape.trans HZA.out.tape, HYwn.out.output.trans HZA.out.output⟩)⟩
               case measure => simp [intOf]; omega
             | false =>
              rw [hdd] at HDC HDR
              by_cases hty : dd.ty = 1
              ·have hq : (dd.ty != 1) = false := by simp [hty]
               have HTY := hidOf hty
               clear hty
               as_aux_lemma =>
                go_wp2_with (first | (go_at_call 25; refine (HNDc.out _ HYz.out).mono ?_; rintro e wn ⟨rfl, hb⟩; have HYwn := hidOf (HYz.out.trans (hb.mono HYz.out.size)); clear hb; clear t0 t1 t2 t3 t4 t5 t6 t7 t8 l2 e0 e2 e5 l9 j1 j5 l7; have t0 : wn.cell? ⟨B2, 0, none⟩ = some (.int .i64 ix) := (HTA.out _ HYwn.out) 0 _ rfl; have t1 : wn.cell? ⟨B2, 1, none⟩ = some (.int .i64 nx) := (HTA.out _ HYwn.out) 1 _ rfl; have t2 : wn.cell? ⟨B2, 2, none⟩ = some (.slice (some ⟨b, off, none⟩) J.length c2) := (HTA.out _ HYwn.out) 2 _ rfl; have t3 : wn.cell? ⟨B2, 3, none⟩ = some (.slice a3 n3 c3) := (HTA.out _ HYwn.out) 3 _ rfl; have t4 : wn.cell? ⟨B2, 4, none⟩ = some (.slice (some ⟨bn, offn, none⟩) Ln.length c4) := (HTA.out _ HYwn.out) 4 _ rfl; have t5 : wn.cell? ⟨B2, 5, none⟩ = some (.slice a5 A.length c5) := (HTA.out _ HYwn.out) 5 _ rfl; have t6 : wn.cell? ⟨B2, 6, none⟩ = some (.slice a6 n6 c6) := (HTA.out _ HYwn.out) 6 _ rfl; have t7 : wn.cell? ⟨B2, 7, none⟩ = some (.slice a7 n7 c7) := (HTA.out _ HYwn.out) 7 _ rfl; have t8 : wn.cell? ⟨B2, 8, none⟩ = some (.slice a8 n8 c8) := (HTA.out _ HYwn.out) 8 _ rfl; have e0 : wn.cell? ⟨B9, 0, none⟩ = some (.int .i64 x.id) := (HXA.out _ HYwn.out) 0 _ rfl; have e2 : wn.cell? ⟨B9, 2, none⟩ = some (.int .i64 x.ve) := (HXA.out _ HYwn.out) 2 _ rfl; have e5 : wn.cell? ⟨B9, 5, none⟩ = some (.int .i64 x.nd) := (HXA.out _ HYwn.out) 5 _ rfl; have j1 : wn.cell? ⟨B7, 1, none⟩ = some (.int .i64 dd.ty) := (HJA.out _ HYwn.out) 1 _ rfl; have j5 : wn.cell? ⟨B7, 5, none⟩ = some (.int .i64 dd.ve) := (HJA.out _ HYwn.out) 5 _ rfl; have l2 := lt_of_cell t0; have l9 := lt_of_cell e0; have l7 := lt_of_cell j1; have HQ20 := hidOf (fun q (hq : q < wq.heap.size) => ((below1 wn (.cells #[.int .i64 x.id] 3)).block q (by have := HZA.out.size; have := HYwn.out.size; omega)).trans ((HYwn.out.block q (by have := HZA.out.size; omega)).trans (HZA.out.block q hq))); have HZ20 := hidOf (show wq.heap.size ≤ (wn.alloc (.cells #[.int .i64 x.id] 3)).heap.size by have := HZA.out.size; have := HYwn.out.size; simp; omega); have d4 := HDC.out _ HYwn.out; have ln := lt_of_cell d4))
                go_roundw
                case rel => exact ⟨k + 1, T, sa, sc, pa, pc, by omega, by simp, rfl, rfl, hidOf (by rw [HSU.out, if_neg (fun h => by have h2 := h.2; simp [unB, HIN.out, HDR.out, HTY.out] at h2)]), hidOf (own_kept HS.out (fun q _ hq => (HYwn.out.block q (by have := HZA.out.size; omega)).trans (HZA.out.block q hq))), hidOf (own_kept HP.out (fun q _ hq => (HYwn.out.block q (by have := HZA.out.size; omega)).trans (HZA.out.block q hq))), HAP, hidOf (HB3A.out.trans (HYwn.out.mono HB3A.out.size))⟩
                case measure => simp [intOf]; omega
              ·have hq : (dd.ty != 1) = true := by simp [hty]
               have HTY := hidOf hty
               clear hty
               by_cases hve : x.ve = dd.ve
               ·have hq2 : (x.ve != dd.ve) = false := by simp [hve]
                have HVE := hidOf hve
                clear hve
                as_aux_lemma =>
                 go_wp2_with (first | (go_at_call 25; refine (HNDc.out _ HYz.out).mono ?_; rintro e wn ⟨rfl, hb⟩; have HYwn := hidOf (HYz.out.trans (hb.mono HYz.out.size)); clear hb; clear t0 t1 t2 t3 t4 t5 t6 t7 t8 l2 e0 e2 e5 l9 j1 j5 l7; have t0 : wn.cell? ⟨B2, 0, none⟩ = some (.int .i64 ix) := (HTA.out _ HYwn.out) 0 _ rfl; have t1 : wn.cell? ⟨B2, 1, none⟩ = some (.int .i64 nx) := (HTA.out _ HYwn.out) 1 _ rfl; have t2 : wn.cell? ⟨B2, 2, none⟩ = some (.slice (some ⟨b, off, none⟩) J.length c2) := (HTA.out _ HYwn.out) 2 _ rfl; have t3 : wn.cell? ⟨B2, 3, none⟩ = some (.slice a3 n3 c3) := (HTA.out _ HYwn.out) 3 _ rfl; have t4 : wn.cell? ⟨B2, 4, none⟩ = some (.slice (some ⟨bn, offn, none⟩) Ln.length c4) := (HTA.out _ HYwn.out) 4 _ rfl; have t5 : wn.cell? ⟨B2, 5, none⟩ = some (.slice a5 A.length c5) := (HTA.out _ HYwn.out) 5 _ rfl; have t6 : wn.cell? ⟨B2, 6, none⟩ = some (.slice a6 n6 c6) := (HTA.out _ HYwn.out) 6 _ rfl; have t7 : wn.cell? ⟨B2, 7, none⟩ = some (.slice a7 n7 c7) := (HTA.out _ HYwn.out) 7 _ rfl; have t8 : wn.cell? ⟨B2, 8, none⟩ = some (.slice a8 n8 c8) := (HTA.out _ HYwn.out) 8 _ rfl; have e0 : wn.cell? ⟨B9, 0, none⟩ = some (.int .i64 x.id) := (HXA.out _ HYwn.out) 0 _ rfl; have e2 : wn.cell? ⟨B9, 2, none⟩ = some (.int .i64 x.ve) := (HXA.out _ HYwn.out) 2 _ rfl; have e5 : wn.cell? ⟨B9, 5, none⟩ = some (.int .i64 x.nd) := (HXA.out _ HYwn.out) 5 _ rfl; have j1 : wn.cell? ⟨B7, 1, none⟩ = some (.int .i64 dd.ty) := (HJA.out _ HYwn.out) 1 _ rfl; have j5 : wn.cell? ⟨B7, 5, none⟩ = some (.int .i64 dd.ve) := (HJA.out _ HYwn.out) 5 _ rfl; have l2 := lt_of_cell t0; have l9 := lt_of_cell e0; have l7 := lt_of_cell j1; have HQ20 := hidOf (fun q (hq : q < wq.heap.size) => ((below1 wn (.cells #[.int .i64 x.id] 3)).block q (by have := HZA.out.size; have := HYwn.out.size; omega)).trans ((HYwn.out.block q (by have := HZA.out.size; omega)).trans (HZA.out.block q hq))); have HZ20 := hidOf (show wq.heap.size ≤ (wn.alloc (.cells #[.int .i64 x.id] 3)).heap.size by have := HZA.out.size; have := HYwn.out.size; simp; omega); have d4 := HDC.out _ HYwn.out; have ln := lt_of_cell d4))
                 go_roundw
                 case rel => exact ⟨k + 1, T, sa, sc, pa, pc, by omega, by simp, rfl, rfl, hidOf (by rw [HSU.out, if_neg (fun h => by have h2 := h.2; simp [unB, HIN.out, HDR.out, HVE.out] at h2)]), hidOf (own_kept HS.out (fun q _ hq => (HYwn.out.block q (by have := HZA.out.size; omega)).trans (HZA.out.block q hq))), hidOf (own_kept HP.out (fun q _ hq => (HYwn.out.block q (by have := HZA.out.size; omega)).trans (HZA.out.block q hq))), HAP, hidOf (HB3A.out.trans (HYwn.out.mono HB3A.out.size))⟩
                 case measure => simp [intOf]; omega
               ·have hq2 : (x.ve != dd.ve) = true := by simp [hve]
                have HVE := hidOf hve
                clear hve
                as_aux_lemma =>
                 go_wp2_with (first | (go_at_call 25; refine (HNDc.out _ HYz.out).mono ?_; rintro e wn ⟨rfl, hb⟩; have HYwn := hidOf (HYz.out.trans (hb.mono HYz.out.size)); clear hb; clear t0 t1 t2 t3 t4 t5 t6 t7 t8 l2 e0 e2 e5 l9 j1 j5 l7; have t0 : wn.cell? ⟨B2, 0, none⟩ = some (.int .i64 ix) := (HTA.out _ HYwn.out) 0 _ rfl; have t1 : wn.cell? ⟨B2, 1, none⟩ = some (.int .i64 nx) := (HTA.out _ HYwn.out) 1 _ rfl; have t2 : wn.cell? ⟨B2, 2, none⟩ = some (.slice (some ⟨b, off, none⟩) J.length c2) := (HTA.out _ HYwn.out) 2 _ rfl; have t3 : wn.cell? ⟨B2, 3, none⟩ = some (.slice a3 n3 c3) := (HTA.out _ HYwn.out) 3 _ rfl; have t4 : wn.cell? ⟨B2, 4, none⟩ = some (.slice (some ⟨bn, offn, none⟩) Ln.length c4) := (HTA.out _ HYwn.out) 4 _ rfl; have t5 : wn.cell? ⟨B2, 5, none⟩ = some (.slice a5 A.length c5) := (HTA.out _ HYwn.out) 5 _ rfl; have t6 : wn.cell? ⟨B2, 6, none⟩ = some (.slice a6 n6 c6) := (HTA.out _ HYwn.out) 6 _ rfl; have t7 : wn.cell? ⟨B2, 7, none⟩ = some (.slice a7 n7 c7) := (HTA.out _ HYwn.out) 7 _ rfl; have t8 : wn.cell? ⟨B2, 8, none⟩ = some (.slice a8 n8 c8) := (HTA.out _ HYwn.out) 8 _ rfl; have e0 : wn.cell? ⟨B9, 0, none⟩ = some (.int .i64 x.id) := (HXA.out _ HYwn.out) 0 _ rfl; have e2 : wn.cell? ⟨B9, 2, none⟩ = some (.int .i64 x.ve) := (HXA.out _ HYwn.out) 2 _ rfl; have e5 : wn.cell? ⟨B9, 5, none⟩ = some (.int .i64 x.nd) := (HXA.out _ HYwn.out) 5 _ rfl; have j1 : wn.cell? ⟨B7, 1, none⟩ = some (.int .i64 dd.ty) := (HJA.out _ HYwn.out) 1 _ rfl; have j5 : wn.cell? ⟨B7, 5, none⟩ = some (.int .i64 dd.ve) := (HJA.out _ HYwn.out) 5 _ rfl; have l2 := lt_of_cell t0; have l9 := lt_of_cell e0; have l7 := lt_of_cell j1; have HQ20 := hidOf (fun q (hq : q < wq.heap.size) => ((below1 wn (.cells #[.int .i64 x.id] 3)).block q (by have := HZA.out.size; have := HYwn.out.size; omega)).trans ((HYwn.out.block q (by have := HZA.out.size; omega)).trans (HZA.out.block q hq))); have HZ20 := hidOf (show wq.heap.size ≤ (wn.alloc (.cells #[.int .i64 x.id] 3)).heap.size by have := HZA.out.size; have := HYwn.out.size; simp; omega); have d4 := HDC.out _ HYwn.out; have ln := lt_of_cell d4) | (at_builtin; refine wpList_app1p _ rfl _ _ 33 rfl w3.heap.size 3 _ 1 8 Try.underlying33 info3 rfl (by decide) sa sc T.length (fl iC (T.map (idA A))) rfl (own_kept HS.out (fun q _ hq => HQ20.out q hq)) ⟨wn.heap.size, 0, none⟩ 1 (iC x.id) rfl rfl (new1 wn x.id) (iC_one _) HML.out HBY.out (Nat.le_trans HBr.out.size HZ20.out) ?_; intro sa2 sc2 w20 ho hg hat; have HRW := hidOf (row_step HP.out HAP.out HQ20.out HZ20.out hg hat ho); have HS20 := hidOf ho; have HG20 := hidOf hg; have HZ21 := hidOf (show w20.heap.size ≤ (w20.alloc (.cells #[.int .i64 (k : Int)] 3)).heap.size by simp); have HZ22 := hidOf (show w3.heap.size ≤ (w20.alloc (.cells #[.int .i64 (k : Int)] 3)).heap.size by have h1 := HBr.out.size; have h2 := HZ20.out; have h3 := hg.size; simp; omega); clear ho hg hat) | (at_builtin; refine wpList_app1p _ rfl _ _ 33 rfl w3.heap.size 3 _ 1 8 Try.underlying33 info3 rfl (by decide) pa pc T.length (fl iC T) rfl (own_kept HRW.out.1 (fun q _ hq => (below1 w20 (.cells #[.int .i64 (k : Int)] 3)).block q hq)) ⟨w20.heap.size, 0, none⟩ 1 (iC (k : Int)) rfl rfl (new1 w20 (k : Int)) (iC_one _) HML.out HBY.out HZ22.out ?_; intro pa2 pc2 w21 ho hg hat; have HRX := hidOf (row_step HS20.out HRW.out.2.symm (fun q hq => (below1 w20 (.cells #[.int .i64 (k : Int)] 3)).block q hq) HZ21.out hg hat ho); have HP21 := hidOf ho; have HG21 := hidOf hg; clear ho hg hat))
                 go_roundw
                 case rel => exact ⟨k + 1, T ++ [(k : Int)], sa2, sc2, pa2, pc2, by omega, by simp, by simp, by simp, hidOf (by rw [HSU.out, if_pos ⟨HSK.out, by simp [unB, HTY.out, HVE.out]⟩]), hidOf (by rw [List.map_append, fl_append, List.length_append, List.map_cons, List.map_nil, idA_nat A k hlt, HXE.out]; exact HRX.out.1), hidOf (by rw [fl_snoc, List.length_append]; exact HP21.out), hidOf HRX.out.2.symm, hidOf (bel2 HBr.out HQ20.out HZ20.out HG20.out HG21.out (own_blk2 HS.out) (own_blk2 HRW.out.1) HBr.out.size ⟨HYwn.out.os.trans HZA.out.os, HYwn.out.tape.trans HZA.out.tape, HYwn.out.output.trans HZA.out.output⟩)⟩
                 case measure => simp [intOf]; omega
           ·rw [decide_eq_false hin]
            have HIN := hidOf hin
            clear hin hrn
            obtain ⟨vn, hvn⟩ : ∃ vn, fi (fun z : Nd => isI z.id x.nd) Ln = vn := ⟨_, rfl⟩
            rw [hvn] at HNDc
            clear hvn
            as_aux_lemma =>
             go_wp2_with (first | (go_at_call 25; refine (HNDc.out _ HYz.out).mono ?_; rintro e wn ⟨rfl, hb⟩; have HYwn := hidOf (HYz.out.trans (hb.mono HYz.out.size)); clear hb; clear t0 t1 t2 t3 t4 t5 t6 t7 t8 l2 e0 e2 e5 l9 j1 j5 l7; have t0 : wn.cell? ⟨B2, 0, none⟩ = some (.int .i64 ix) := (HTA.out _ HYwn.out) 0 _ rfl; have t1 : wn.cell? ⟨B2, 1, none⟩ = some (.int .i64 nx) := (HTA.out _ HYwn.out) 1 _ rfl; have t2 : wn.cell? ⟨B2, 2, none⟩ = some (.slice (some ⟨b, off, none⟩) J.length c2) := (HTA.out _ HYwn.out) 2 _ rfl; have t3 : wn.cell? ⟨B2, 3, none⟩ = some (.slice a3 n3 c3) := (HTA.out _ HYwn.out) 3 _ rfl; have t4 : wn.cell? ⟨B2, 4, none⟩ = some (.slice a4 Ln.length c4) := (HTA.out _ HYwn.out) 4 _ rfl; have t5 : wn.cell? ⟨B2, 5, none⟩ = some (.slice a5 A.length c5) := (HTA.out _ HYwn.out) 5 _ rfl; have t6 : wn.cell? ⟨B2, 6, none⟩ = some (.slice a6 n6 c6) := (HTA.out _ HYwn.out) 6 _ rfl; have t7 : wn.cell? ⟨B2, 7, none⟩ = some (.slice a7 n7 c7) := (HTA.out _ HYwn.out) 7 _ rfl; have t8 : wn.cell? ⟨B2, 8, none⟩ = some (.slice a8 n8 c8) := (HTA.out _ HYwn.out) 8 _ rfl; have e0 : wn.cell? ⟨B9, 0, none⟩ = some (.int .i64 x.id) := (HXA.out _ HYwn.out) 0 _ rfl; have e2 : wn.cell? ⟨B9, 2, none⟩ = some (.int .i64 x.ve) := (HXA.out _ HYwn.out) 2 _ rfl; have e5 : wn.cell? ⟨B9, 5, none⟩ = some (.int .i64 x.nd) := (HXA.out _ HYwn.out) 5 _ rfl; have j1 : wn.cell? ⟨B7, 1, none⟩ = some (.int .i64 dd.ty) := (HJA.out _ HYwn.out) 1 _ rfl; have j5 : wn.cell? ⟨B7, 5, none⟩ = some (.int .i64 dd.ve) := (HJA.out _ HYwn.out) 5 _ rfl; have l2 := lt_of_cell t0; have l9 := lt_of_cell e0; have l7 := lt_of_cell j1; have HQ20 := hidOf (fun q (hq : q < wq.heap.size) => ((below1 wn (.cells #[.int .i64 x.id] 3)).block q (by have := HZA.out.size; have := HYwn.out.size; omega)).trans ((HYwn.out.block q (by have := HZA.out.size; omega)).trans (HZA.out.block q hq))); have HZ20 := hidOf (show wq.heap.size ≤ (wn.alloc (.cells #[.int .i64 x.id] 3)).heap.size by have := HZA.out.size; have := HYwn.out.size; simp; omega)) | (at_builtin; refine wpList_app1p _ rfl _ _ 33 rfl w3.heap.size 3 _ 1 8 Try.underlying33 info3 rfl (by decide) sa sc T.length (fl iC (T.map (idA A))) rfl (own_kept HS.out (fun q _ hq => HQ20.out q hq)) ⟨wn.heap.size, 0, none⟩ 1 (iC x.id) rfl rfl (new1 wn x.id) (iC_one _) HML.out HBY.out (Nat.le_trans HBr.out.size HZ20.out) ?_; intro sa2 sc2 w20 ho hg hat; have HRW := hidOf (row_step HP.out HAP.out HQ20.out HZ20.out hg hat ho); have HS20 := hidOf ho; have HG20 := hidOf hg; have HZ21 := hidOf (show w20.heap.size ≤ (w20.alloc (.cells #[.int .i64 (k : Int)] 3)).heap.size by simp); have HZ22 := hidOf (show w3.heap.size ≤ (w20.alloc (.cells #[.int .i64 (k : Int)] 3)).heap.size by have h1 := HBr.out.size; have h2 := HZ20.out; have h3 := hg.size; simp; omega); clear ho hg hat) | (at_builtin; refine wpList_app1p _ rfl _ _ 33 rfl w3.heap.size 3 _ 1 8 Try.underlying33 info3 rfl (by decide) pa pc T.length (fl iC T) rfl (own_kept HRW.out.1 (fun q _ hq => (below1 w20 (.cells #[.int .i64 (k : Int)] 3)).block q hq)) ⟨w20.heap.size, 0, none⟩ 1 (iC (k : Int)) rfl rfl (new1 w20 (k : Int)) (iC_one _) HML.out HBY.out HZ22.out ?_; intro pa2 pc2 w21 ho hg hat; have HRX := hidOf (row_step HS20.out HRW.out.2.symm (fun q hq => (below1 w20 (.cells #[.int .i64 (k : Int)] 3)).block q hq) HZ21.out hg hat ho); have HP21 := hidOf ho; have HG21 := hidOf hg; clear ho hg hat))
             go_roundw
             case rel => exact ⟨k + 1, T ++ [(k : Int)], sa2, sc2, pa2, pc2, by omega, by simp, by simp, by simp, hidOf (by rw [HSU.out, if_pos ⟨HSK.out, by simp [unB, HIN.out]⟩]), hidOf (by rw [List.map_append, fl_append, List.length_append, List.map_cons, List.map_nil, idA_nat A k hlt, HXE.out]; exact HRX.out.1), hidOf (by rw [fl_snoc, List.length_append]; exact HP21.out), hidOf HRX.out.2.symm, hidOf (bel2 HBr.out HQ20.out HZ20.out HG20.out HG21.out (own_blk2 HS.out) (own_blk2 HRW.out.1) HBr.out.size ⟨HYwn.out.os.trans HZA.out.os, HYwn.out.tape.trans HZA.out.tape, HYwn.out.output.trans HZA.out.output⟩)⟩
             case measure => simp [intOf]; omega
     ·have hjb : (x.jb != dd.id) = true := by simp [hj]
      have HJJ := hidOf hj
      clear hj
      as_aux_lemma =>
       go_wp2
       go_roundw
       case rel => exact ⟨k + 1, T, sa, sc, pa, pc, by omega, by simp, rfl, rfl, hidOf (by rw [HSU.out, if_neg (fun h => by have h1 := h.1; simp [skB, HJJ.out] at h1)]), hidOf (own_kept HS.out (fun q _ hq => HZA.out.block q hq)), hidOf (own_kept HP.out (fun q _ hq => HZA.out.block q hq)), HAP, hidOf (HBr.out.trans (HZA.out.mono HBr.out.size))⟩
       case measure => simp [intOf]; omega
    ·have hkl : k = A.length := by omega
     subst hkl
     have hT0 := HT.out
     obtain ⟨T0, hT0e⟩ : ∃ T0, suK dd Ln L A A.length = T0 := ⟨_, rfl⟩
     have HT0 := hidOf hT0e
     rw [hT0e] at hT0
     subst hT0
     clear hT0e HT
     have j1 : wq.cell? ⟨B7, 1, none⟩ = some (.int .i64 dd.ty) := (hb_cell HBr.out l73).trans (HJ3.out 1 _ rfl)
     have l7 : B7 < wq.heap.size := lt_of_cell j1
     go_upto_if 135 with (fail)
     go_cut [9, 10, 135] from 351 (fun vs _ _ wc => ∃ (T2 : List Int) (sa : Option Addr) (sc : Nat), vs = .slice sa T2.length sc ∧ Hid (T2 = diT dd Ln A) ∧ Hid (wc.ownsRow w3.heap.size 3 1 (.slice sa T2.length sc) T2.length (fl iC (T2.map (idA A)))) ∧ Hid (Below w3.heap.size w3 wc))
     case rest =>
      as_aux_lemma =>
       clear HS HP HAP HBr
       obtain ⟨T2, sa, sc, rfl, HT2, HS, HBr⟩ := hcut
       have HZ8 := hidOf (show w3.heap.size ≤ wc.heap.size from HBr.out.size)
       go_wp2
       clear t5 l2 j1 l7
       go_loopw [23, 24] (fun vf i wr => ∃ (k : Nat) (fa : Option Addr) (fc : Nat), k ≤ L.length ∧ i = .int .i64 k ∧ vf = .slice fa (emV dd A (L.take k)).length fc ∧ Hid (wr.ownsRow wc.heap.size 67 2 (.slice fa (emV dd A (L.take k)).length fc) (emV dd A (L.take k)).length (fl sC (emV dd A (L.take k)))) ∧ Hid (Below wc.heap.size wc wr)) (fun _ i _ => L.length - (intOf i).toNat)
       case atStart => exact ⟨0, none, 0, Nat.zero_le _, rfl, rfl, hidOf ⟨rfl, .inl ⟨rfl, rfl⟩⟩, hidOf (Below.refl _ _)⟩
       case round =>
        as_aux_lemma =>
         obtain ⟨k, fa, fc, hk3, rfl, rfl, HFO, HBs⟩ := hrel
         have hel : (emV dd A (L.take k)).length ≤ k := Nat.le_trans (emV_len dd A _) (by simp; omega)
         have HB3s := hidOf (HBr.out.trans (HBs.out.mono HBr.out.size))
         by_cases hlt2 : k < L.length
         ·obtain ⟨b9, off9, ha9, hQ9, hc9⟩ := HLF.out.at k hlt2
          have hQ9' : b9 < w3.heap.size := hQ9
          obtain ⟨y, hy⟩ : ∃ y, L[k] = y := ⟨_, rfl⟩
          have HTK : Hid (L.take (k + 1) = L.take k ++ [y]) := hidOf (by rw [take_snoc L k hlt2, hy])
          rw [hy] at hc9
          clear hy
          subst ha9
          have HSLc := hidOf (refSlot_any ⟨ix, nx, some ⟨b, off, none⟩, J.length, c2, a3, n3, c3, a4, Ln.length, c4, a5, A.length, c5, a6, n6, c6, a7, n7, c7, a8, n8, c8⟩ dd.id y.1 y.2 A wr.drew rfl (HA3.out.kept (fun q hq => HB3s.out.block q hq) (fun q hq => Nat.lt_of_lt_of_le hq HB3s.out.size)))
          have hho := hoV_fi dd A y
          have hrng := fi_rng (slB dd.id y.1 y.2) A
          obtain ⟨vv, hvv⟩ : ∃ vv, fi (slB dd.id y.1 y.2) A = vv := ⟨_, rfl⟩
          rw [hvv] at HSLc hho hrng
          have HHO := hidOf hho
          clear hvv hho
          have t0 : wr.cell? ⟨B2, 0, none⟩ = some (.int .i64 ix) := (hb_cell HB3s.out l23).trans (HT3.out 0 _ rfl)
          have t1 : wr.cell? ⟨B2, 1, none⟩ = some (.int .i64 nx) := (hb_cell HB3s.out l23).trans (HT3.out 1 _ rfl)
          have t2 : wr.cell? ⟨B2, 2, none⟩ = some (.slice (some ⟨b, off, none⟩) J.length c2) := (hb_cell HB3s.out l23).trans (HT3.out 2 _ rfl)
          have t3 : wr.cell? ⟨B2, 3, none⟩ = some (.slice a3 n3 c3) := (hb_cell HB3s.out l23).trans (HT3.out 3 _ rfl)
          have t4 : wr.cell? ⟨B2, 4, none⟩ = some (.slice a4 Ln.length c4) := (hb_cell HB3s.out l23).trans (HT3.out 4 _ rfl)
          have t5 : wr.cell? ⟨B2, 5, none⟩ = some (.slice a5 A.length c5) := (hb_cell HB3s.out l23).trans (HT3.out 5 _ rfl)
          have t6 : wr.cell? ⟨B2, 6, none⟩ = some (.slice a6 n6 c6) := (hb_cell HB3s.out l23).trans (HT3.out 6 _ rfl)
          have t7 : wr.cell? ⟨B2, 7, none⟩ = some (.slice a7 n7 c7) := (hb_cell HB3s.out l23).trans (HT3.out 7 _ rfl)
          have t8 : wr.cell? ⟨B2, 8, none⟩ = some (.slice a8 n8 c8) := (hb_cell HB3s.out l23).trans (HT3.out 8 _ rfl)
          have j0 : wr.cell? ⟨B7, 0, none⟩ = some (.int .i64 dd.id) := (hb_cell HB3s.out l73).trans (HJ3.out 0 _ rfl)
          have j1 : wr.cell? ⟨B7, 1, none⟩ = some (.int .i64 dd.ty) := (hb_cell HB3s.out l73).trans (HJ3.out 1 _ rfl)
          have j2 : wr.cell? ⟨B7, 2, none⟩ = some (.int .i64 dd.pr) := (hb_cell HB3s.out l73).trans (HJ3.out 2 _ rfl)
          have j3 : wr.cell? ⟨B7, 3, none⟩ = some (.int .i64 dd.pa) := (hb_cell HB3s.out l73).trans (HJ3.out 3 _ rfl)
          have j4 : wr.cell? ⟨B7, 4, none⟩ = some (.slice ga dd.gs.length gc) := (hb_cell HB3s.out l73).trans (HJ3.out 4 _ rfl)
          have j5 : wr.cell? ⟨B7, 5, none⟩ = some (.int .i64 dd.ve) := (hb_cell HB3s.out l73).trans (HJ3.out 5 _ rfl)
          have j6 : wr.cell? ⟨B7, 6, none⟩ = some (.bool dd.sd) := (hb_cell HB3s.out l73).trans (HJ3.out 6 _ rfl)
          have y1 : wr.cell? ⟨b9, off9 + k * 2, none⟩ = some (.int .i64 y.1) := (hb_cell HB3s.out hQ9').trans (hc9 0 _ rfl)
          have y2 : wr.cell? ⟨b9, off9 + k * 2 + 1, none⟩ = some (.int .i64 y.2) := (hb_cell HB3s.out hQ9').trans (hc9 1 _ rfl)
          have l2 : B2 < wr.heap.size := lt_of_cell t0
          have l7 : B7 < wr.heap.size := lt_of_cell j0
          have l9 : b9 < wr.heap.size := lt_of_cell y1
          have hi0 : ¬ ((k : Int) < 0) := by omega
          have hi1 : (k : Int) < (L.length : Int) := by omega
          have HC9 := hidOf hc9
          clear hc9 hQ9
          go_upto_region 44 with (fail)
          rcases hrng with hv | ⟨m2, hv, hm2⟩
          ·subst hv
           have hg0 : decide ((0 : Int) ≤ -1) = false := by decide
           refine wp_region_held_drew (S := fun (Y : World) => Y.cell? ⟨B2, 0, none⟩ = some (.int .i64 ix) ∧ Y.cell? ⟨B2, 1, none⟩ = some (.int .i64 nx) ∧ Y.cell? ⟨B2, 2, none⟩ = some (.slice (some ⟨b, off, none⟩) J.length c2) ∧ Y.cell? ⟨B2, 3, none⟩ = some (.slice a3 n3 c3) ∧ Y.cell? ⟨B2, 4, none⟩ = some (.slice a4 Ln.length c4) ∧ Y.cell? ⟨B2, 5, none⟩ = some (.slice a5 A.length c5) ∧ Y.cell? ⟨B2, 6, none⟩ = some (.slice a6 n6 c6) ∧ Y.cell? ⟨B2, 7, none⟩ = some (.slice a7 n7 c7) ∧ Y.cell? ⟨B2, 8, none⟩ = some (.slice a8 n8 c8) ∧ Y.cell? ⟨B7, 0, none⟩ = some (.int .i64 dd.id) ∧ Y.cell? ⟨b9, off9 + k * 2, none⟩ = some (.int .i64 y.1) ∧ Y.cell? ⟨b9, off9 + k * 2 + 1, none⟩ = some (.int .i64 y.2)) (by kernel_rfl) ⟨t0, t1, t2, t3, t4, t5, t6, t7, t8, j0, y1, y2⟩ (fun hHeld => ?_)
           refine tkH 0 oRd_22 268 (.agg #[.int .i64 ix, .int .i64 nx, .slice (some ⟨b, off, none⟩) J.length c2, .slice a3 n3 c3, .slice a4 Ln.length c4, .slice a5 A.length c5, .slice a6 n6 c6, .slice a7 n7 c7, .slice a8 n8 c8]) hHeld (by intro w hS; dsimp only [oRd_22] at hS ⊢; go_simp) ?_
           try simp only [pA, pC, pD]
           refine tkH 1 oRd_23 269 (.pointer (some ⟨B7, 0, none⟩)) hHeld (by intro w hS; dsimp only [oRd_23] at hS ⊢; go_simp) ?_
           try simp only [pA, pC, pD]
           refine tkH 2 oRd_24 270 (.int .i64 dd.id) hHeld (by intro w hS; dsimp only [oRd_24] at hS ⊢; go_simp) ?_
           try simp only [pA, pC, pD]
           refine tkH 3 oRd_25 271 (.slice (some ⟨b9, off9, none⟩) L.length lc) hHeld (by intro w hS; dsimp only [oRd_25] at hS ⊢; go_simp) ?_
           try simp only [pA, pC, pD]
           refine tkH 4 oRd_26 272 (.int .i64 (k : Int)) hHeld (by intro w hS; dsimp only [oRd_26] at hS ⊢; go_simp) ?_
           try simp only [pA, pC, pD]
           refine tkH 5 oRd_27 273 (.pointer (some ⟨b9, off9 + k * 2, none⟩)) hHeld (by intro w hS; dsimp only [oRd_27] at hS ⊢; go_simp) ?_
           try simp only [pA, pC, pD]
           refine tkH 6 oRd_28 274 (.pointer (some ⟨b9, off9 + k * 2, none⟩)) hHeld (by intro w hS; dsimp only [oRd_28] at hS ⊢; go_simp) ?_
           try simp only [pA, pC, pD]
           refine tkH 7 oRd_29 275 (.int .i64 y.1) hHeld (by intro w hS; dsimp only [oRd_29] at hS ⊢; go_simp) ?_
           try simp only [pA, pC, pD]
           refine tkH 8 oRd_30 276 (.slice (some ⟨b9, off9, none⟩) L.length lc) hHeld (by intro w hS; dsimp only [oRd_30] at hS ⊢; go_simp) ?_
           try simp only [pA, pC, pD]
           refine tkH 9 oRd_31 277 (.int .i64 (k : Int)) hHeld (by intro w hS; dsimp only [oRd_31] at hS ⊢; go_simp) ?_
           try simp only [pA, pC, pD]
           refine tkH 10 oRd_32 278 (.pointer (some ⟨b9, off9 + k * 2, none⟩)) hHeld (by intro w hS; dsimp only [oRd_32] at hS ⊢; go_simp) ?_
           try simp only [pA, pC, pD]
           refine tkH 11 oRd_33 279 (.pointer (some ⟨b9, off9 + k * 2 + 1, none⟩)) hHeld (by intro w hS; dsimp only [oRd_33] at hS ⊢; go_simp) ?_
           try simp only [pA, pC, pD]
           refine tkH 12 oRd_34 280 (.int .i64 y.2) hHeld (by intro w hS; dsimp only [oRd_34] at hS ⊢; go_simp) ?_
           try simp only [pA, pC, pD]
           refine wpAnyH_ready (rs := [13]) (by kernel_rfl) (by simp) ?_
           refine AllReadyH.cons (o := { dst := some 281, op := Op.call { callee := Callee.value (Operand.func 13), args := #[Operand.tmp 268, Operand.tmp 270, Operand.tmp 275, Operand.tmp 280], argTypes := #[29, 3, 3, 3] }, type := 3, pos := "ref.go:95", after := #[{ on := 0, ground := Ground.data }, { on := 2, ground := Ground.data }, { on := 7, ground := Ground.data }, { on := 12, ground := Ground.data }], guard := none }) rfl (fun K hK => ?_) AllReadyH.nil
           go_simp
           refine HSLc.out.mono ?_
           rintro e w6 ⟨rfl, hb6⟩
           have HY6 := hidOf ((bdrew wr).trans (hb6.mono (bdrew wr).size))
           clear hb6
           refine hK.out _ _ ⟨(hb_cell HY6.out l2).trans t0, (hb_cell HY6.out l2).trans t1, (hb_cell HY6.out l2).trans t2, (hb_cell HY6.out l2).trans t3, (hb_cell HY6.out l2).trans t4, (hb_cell HY6.out l2).trans t5, (hb_cell HY6.out l2).trans t6, (hb_cell HY6.out l2).trans t7, (hb_cell HY6.out l2).trans t8, (hb_cell HY6.out l7).trans j0, (hb_cell HY6.out l9).trans y1, (hb_cell HY6.out l9).trans y2⟩ (fun hHeld1 => ?_)
           clear hK K
           try simp only [Act.put, List.setIfInBounds_toArray, List.set_cons_zero, List.set_cons_succ]
           refine tkH 14 oRd_35 282 (.bool false) hHeld1 (by intro w hS; dsimp only [oRd_35] at hS ⊢; go_simp) ?_
           try simp only [pA, pC, pD]
           refine wpAnyH_done (by kernel_rfl) ?_ _
           clear t0 t1 t2 t3 t4 t5 t6 t7 t8 j0 j1 j2 j3 j4 j5 j6 y1 y2 l2 l7 l9 hHeld hHeld1
           obtain ⟨wq2, hwq2⟩ : ∃ x, x = wr := ⟨_, rfl⟩
           subst hwq2
           have HB3t := hidOf (HB3s.out.trans (HY6.out.mono HB3s.out.size))
           have HVN : Hid (hoV dd A y = -1) := hidOf (by rw [HHO.out])
           go_wp2
           go_loopw [25, 26] (fun f i wr => ∃ k2 : Nat, k2 ≤ A.length ∧ i = .int .i64 k2 ∧ f = .bool (dnB dd A y k2) ∧ Hid (Below w6.heap.size w6 wr)) (fun _ i _ => A.length - (intOf i).toNat)
           case atStart => exact ⟨0, Nat.zero_le _, rfl, by simp [dnB, dnK], hidOf (Below.refl _ _)⟩
           case round =>
            as_aux_lemma =>
             obtain ⟨k2, hk2, rfl, rfl, HZ⟩ := hrel
             have HB3Z := hidOf (HB3t.out.trans (HZ.out.mono HB3t.out.size))
             have t5 : wr.cell? ⟨B2, 5, none⟩ = some (.slice a5 A.length c5) := (hb_cell HB3Z.out l23).trans (HT3.out 5 _ rfl)
             have l2 : B2 < wr.heap.size := lt_of_cell t5
             by_cases hl2 : k2 < A.length
             ·obtain ⟨b1, off1, ha, hQb, hcc⟩ := HA3.out.at k2 hl2
              have hQb' : b1 < w3.heap.size := hQb
              obtain ⟨x, hx⟩ : ∃ x, A[k2] = x := ⟨_, rfl⟩
              have HD1 := hidOf (dnB_at dd A y k2 hl2 x hx)
              rw [hx] at hcc
              clear hx
              have hcr := range_of hcc (HB3Z.out.block b1 hQb')
              have hbl : b1 < wr.heap.size := Nat.lt_of_lt_of_le hQb' HB3Z.out.size
              rw [ha] at t5
              clear ha
              have c0x : wr.cell? ⟨b1, off1 + k2 * 11, none⟩ = some (.int .i64 x.id) := hcr 0 _ rfl
              have c1x : wr.cell? ⟨b1, off1 + k2 * 11 + 1, none⟩ = some (.int .i64 x.jb) := hcr 1 _ rfl
              have c2x : wr.cell? ⟨b1, off1 + k2 * 11 + 2, none⟩ = some (.int .i64 x.ve) := hcr 2 _ rfl
              have c3x : wr.cell? ⟨b1, off1 + k2 * 11 + 3, none⟩ = some (.int .i64 x.gr) := hcr 3 _ rfl
              have c4x : wr.cell? ⟨b1, off1 + k2 * 11 + 4, none⟩ = some (.int .i64 x.ix) := hcr 4 _ rfl
              have c5x : wr.cell? ⟨b1, off1 + k2 * 11 + 5, none⟩ = some (.int .i64 x.nd) := hcr 5 _ rfl
              have c6x : wr.cell? ⟨b1, off1 + k2 * 11 + 6, none⟩ = some (.int .i64 x.ep) := hcr 6 _ rfl
              have c7x : wr.cell? ⟨b1, off1 + k2 * 11 + 7, none⟩ = some (.int .i64 x.c) := hcr 7 _ rfl
              have c8x : wr.cell? ⟨b1, off1 + k2 * 11 + 8, none⟩ = some (.int .i64 x.m) := hcr 8 _ rfl
              have c9x : wr.cell? ⟨b1, off1 + k2 * 11 + 9, none⟩ = some (.bool x.sp) := hcr 9 _ rfl
              have c10x : wr.cell? ⟨b1, off1 + k2 * 11 + 10, none⟩ = some (.int .i64 x.st) := hcr 10 _ rfl
              clear hcc hcr hQb
              have HXB := hidOf (box_new (wr := wr) (cs := Al.cs x) (t := 42) (Below.refl _ _))
              have hi0 : ¬ ((k2 : Int) < 0) := by omega
              have hi1 : (k2 : Int) < (A.length : Int) := by omega
              go_upto_region 50 with (fail)
              clear c0x c1x c2x c3x c4x c5x c6x c7x c8x c9x c10x t5 l2 hi0 hi1
              obtain ⟨wA, hwA⟩ : ∃ wA, wr.alloc (.cells #[.int .i64 x.id, .int .i64 x.jb, .int .i64 x.ve, .int .i64 x.gr, .int .i64 x.ix, .int .i64 x.nd, .int .i64 x.ep, .int .i64 x.c, .int .i64 x.m, .bool x.sp, .int .i64 x.st] 42) = wA := ⟨_, rfl⟩
              have HZA : Hid (Below wr.heap.size wr wA) := hidOf (by rw [← hwA]; exact below1 _ _)
              obtain ⟨B9, hB9⟩ : ∃ B9, wr.heap.size = B9 := ⟨_, rfl⟩
              have HXA0 : Hid (wA.rangeAt B9 0 (Al.cs x)) := hidOf (by rw [← hwA, ← hB9]; exact HXB.out)
              rw [hwA, hB9]
              clear hwA hB9 HXB
              have HB3A := hidOf (HB3Z.out.trans (HZA.out.mono HB3Z.out.size))
              have e1 : wA.cell? ⟨B9, 1, none⟩ = some (.int .i64 x.jb) := HXA0.out 1 _ rfl
              have e2 : wA.cell? ⟨B9, 2, none⟩ = some (.int .i64 x.ve) := HXA0.out 2 _ rfl
              have e3 : wA.cell? ⟨B9, 3, none⟩ = some (.int .i64 x.gr) := HXA0.out 3 _ rfl
              have e4 : wA.cell? ⟨B9, 4, none⟩ = some (.int .i64 x.ix) := HXA0.out 4 _ rfl
              have e10 : wA.cell? ⟨B9, 10, none⟩ = some (.int .i64 x.st) := HXA0.out 10 _ rfl
              have j0 : wA.cell? ⟨B7, 0, none⟩ = some (.int .i64 dd.id) := (hb_cell HB3A.out l73).trans (HJ3.out 0 _ rfl)
              have j1 : wA.cell? ⟨B7, 1, none⟩ = some (.int .i64 dd.ty) := (hb_cell HB3A.out l73).trans (HJ3.out 1 _ rfl)
              have j5 : wA.cell? ⟨B7, 5, none⟩ = some (.int .i64 dd.ve) := (hb_cell HB3A.out l73).trans (HJ3.out 5 _ rfl)
              have y1 : wA.cell? ⟨b9, off9 + k * 2, none⟩ = some (.int .i64 y.1) := (hb_cell HB3A.out hQ9').trans (HC9.out 0 _ rfl)
              have y2 : wA.cell? ⟨b9, off9 + k * 2 + 1, none⟩ = some (.int .i64 y.2) := (hb_cell HB3A.out hQ9').trans (HC9.out 1 _ rfl)
              have hi0 : ¬ ((k : Int) < 0) := by omega
              have hi1 : (k : Int) < (L.length : Int) := by omega
              cases hf : dnB dd A y k2 with
              | true =>
               rw [hf] at HD1
               as_aux_lemma =>
                have HDV : Hid (dnB dd A y (k2 + 1) = true) := hidOf (by rw [HD1.out]; rfl)
                refine wp_region_held_drew (S := fun (_Y : World) => True) (by kernel_rfl) trivial (fun hHeld => ?_)
                refine tkH 0 oRd_36 295 (.bool true) hHeld (by intro w hS; dsimp only [oRd_36] at hS ⊢; go_simp) ?_
                try simp only [pA, pC, pD]
                refine tkH 1 oRd_37 296 (.bool true) hHeld (by intro w hS; dsimp only [oRd_37] at hS ⊢; go_simp) ?_
                try simp only [pA, pC, pD]
                refine tkN 2 oRd_38 297 hHeld ?_
                try simp only [pA, pC, pD]
                refine tkN 3 oRd_39 298 hHeld ?_
                try simp only [pA, pC, pD]
                refine tkN 4 oRd_40 299 hHeld ?_
                try simp only [pA, pC, pD]
                refine tkN 5 oRd_41 300 hHeld ?_
                try simp only [pA, pC, pD]
                refine tkN 6 oRd_42 301 hHeld ?_
                try simp only [pA, pC, pD]
                refine tkN 7 oRd_43 302 hHeld ?_
                try simp only [pA, pC, pD]
                refine tkN 8 oRd_44 303 hHeld ?_
                try simp only [pA, pC, pD]
                refine tkN 9 oRd_45 304 hHeld ?_
                try simp only [pA, pC, pD]
                refine tkN 10 oRd_46 305 hHeld ?_
                try simp only [pA, pC, pD]
                refine tkN 11 oRd_47 306 hHeld ?_
                try simp only [pA, pC, pD]
                refine tkN 12 oRd_48 307 hHeld ?_
                try simp only [pA, pC, pD]
                refine tkN 13 oRd_49 308 hHeld ?_
                try simp only [pA, pC, pD]
                refine tkN 14 oRd_50 309 hHeld ?_
                try simp only [pA, pC, pD]
                refine tkN 15 oRd_51 310 hHeld ?_
                try simp only [pA, pC, pD]
                refine tkN 16 oRd_52 311 hHeld ?_
                try simp only [pA, pC, pD]
                refine tkN 17 oRd_53 312 hHeld ?_
                try simp only [pA, pC, pD]
                refine tkN 18 oRd_54 313 hHeld ?_
                try simp only [pA, pC, pD]
                refine tkN 19 oRd_55 314 hHeld ?_
                try simp only [pA, pC, pD]
                refine tkN 20 oRd_56 315 hHeld ?_
                try simp only [pA, pC, pD]
                refine tkN 21 oRd_57 316 hHeld ?_
                try simp only [pA, pC, pD]
                refine tkN 22 oRd_58 317 hHeld ?_
                try simp only [pA, pC, pD]
                refine tkN 23 oRd_59 318 hHeld ?_
                try simp only [pA, pC, pD]
                refine tkN 24 oRd_60 319 hHeld ?_
                try simp only [pA, pC, pD]
                refine tkN 25 oRd_61 320 hHeld ?_
                try simp only [pA, pC, pD]
                refine tkN 26 oRd_62 321 hHeld ?_
                try simp only [pA, pC, pD]
                refine tkN 27 oRd_63 322 hHeld ?_
                try simp only [pA, pC, pD]
                refine tkN 28 oRd_64 323 hHeld ?_
                try simp only [pA, pC, pD]
                refine tkN 29 oRd_65 324 hHeld ?_
                try simp only [pA, pC, pD]
                refine tkN 30 oRd_66 325 hHeld ?_
                try simp only [pA, pC, pD]
                refine tkN 31 oRd_67 326 hHeld ?_
                try simp only [pA, pC, pD]
                refine tkN 32 oRd_68 327 hHeld ?_
                try simp only [pA, pC, pD]
                refine tkN 33 oRd_69 328 hHeld ?_
                try simp only [pA, pC, pD]
                refine tkN 34 oRd_70 329 hHeld ?_
                try simp only [pA, pC, pD]
                refine tkN 35 oRd_71 330 hHeld ?_
                try simp only [pA, pC, pD]
                refine tkN 36 oRd_72 331 hHeld ?_
                try simp only [pA, pC, pD]
                refine tkN 37 oRd_73 332 hHeld ?_
                try simp only [pA, pC, pD]
                refine tkN 38 oRd_74 333 hHeld ?_
                try simp only [pA, pC, pD]
                refine tkN 39 oRd_75 334 hHeld ?_
                try simp only [pA, pC, pD]
                refine tkN 40 oRd_76 335 hHeld ?_
                try simp only [pA, pC, pD]
                refine tkN 41 oRd_77 336 hHeld ?_
                try simp only [pA, pC, pD]
                refine tkN 42 oRd_78 337 hHeld ?_
                try simp only [pA, pC, pD]
                refine tkN 43 oRd_79 338 hHeld ?_
                try simp only [pA, pC, pD]
                refine tkH 44 oRd_80 339 (.bool true) hHeld (by intro w hS; dsimp only [oRd_80] at hS ⊢; go_simp) ?_
                try simp only [pA, pC, pD]
                refine tkH 45 oRd_81 25 (.bool true) hHeld (by intro w hS; dsimp only [oRd_81] at hS ⊢; go_simp) ?_
                try simp only [pA, pC, pD]
                refine wpAnyH_done (by kernel_rfl) ?_ _
                go_wp2
                go_roundw
                case rel => exact ⟨k2 + 1, by omega, by simp, by rw [HDV.out], hidOf (HZ.out.trans ((HZA.out.trans ((bdrew wA).mono HZA.out.size)).mono HZ.out.size))⟩
                case measure => simp [intOf]; omega
              | false =>
               rw [hf] at HD1
               by_cases q1 : dd.ty = 2
               ·have q1b : (dd.ty == 2) = true := by simp [q1]
                have Q1 := hidOf q1
                clear q1
                by_cases q2 : x.jb = dd.id
                ·have q2b : (x.jb == dd.id) = true := by simp [q2]
                 have Q2 := hidOf q2
                 clear q2
                 by_cases q3 : x.ve = dd.ve
                 ·have q3b : (x.ve == dd.ve) = true := by simp [q3]
                  have Q3 := hidOf q3
                  clear q3
                  by_cases q4 : x.gr = y.1
                  ·have q4b : (x.gr == y.1) = true := by simp [q4]
                   have Q4 := hidOf q4
                   clear q4
                   by_cases q5 : x.ix = y.2
                   ·have q5b : (x.ix == y.2) = true := by simp [q5]
                    have Q5 := hidOf q5
                    clear q5
                    by_cases q6 : x.st = 3
                    ·have q6b : (x.st == 3) = true := by simp [q6]
                     have Q6 := hidOf q6
                     clear q6
                     as_aux_lemma =>
                      have HDV : Hid (dnB dd A y (k2 + 1) = true) := hidOf (by rw [HD1.out]; simp [Q1.out, Q2.out, Q3.out, Q4.out, Q5.out, Q6.out])
                      refine wp_region_held_drew (S := fun (Y : World) => Y.cell? ⟨B7, 1, none⟩ = some (.int .i64 dd.ty) ∧ Y.cell? ⟨B9, 1, none⟩ = some (.int .i64 x.jb) ∧ Y.cell? ⟨B7, 0, none⟩ = some (.int .i64 dd.id) ∧ Y.cell? ⟨B9, 2, none⟩ = some (.int .i64 x.ve) ∧ Y.cell? ⟨B7, 5, none⟩ = some (.int .i64 dd.ve) ∧ Y.cell? ⟨B9, 3, none⟩ = some (.int .i64 x.gr) ∧ Y.cell? ⟨b9, off9 + k * 2, none⟩ = some (.int .i64 y.1) ∧ Y.cell? ⟨B9, 4, none⟩ = some (.int .i64 x.ix) ∧ Y.cell? ⟨b9, off9 + k * 2 + 1, none⟩ = some (.int .i64 y.2) ∧ Y.cell? ⟨B9, 10, none⟩ = some (.int .i64 x.st)) (by kernel_rfl) ⟨j1, e1, j0, e2, j5, e3, y1, e4, y2, e10⟩ (fun hHeld => ?_)
                      refine tkH 0 oRd_36 295 (.bool false) hHeld (by intro w hS; dsimp only [oRd_36] at hS ⊢; go_simp) ?_
                      try simp only [pA, pC, pD]
                      refine tkH 1 oRd_37 296 (.bool false) hHeld (by intro w hS; dsimp only [oRd_37] at hS ⊢; go_simp) ?_
                      try simp only [pA, pC, pD]
                      refine tkH 2 oRd_38 297 (.pointer (some ⟨B7, 1, none⟩)) hHeld (by intro w hS; dsimp only [oRd_38] at hS ⊢; go_simp) ?_
                      try simp only [pA, pC, pD]
                      refine tkH 3 oRd_39 298 (.int .i64 dd.ty) hHeld (by intro w hS; dsimp only [oRd_39] at hS ⊢; go_simp) ?_
                      try simp only [pA, pC, pD]
                      refine tkH 4 oRd_40 299 (.bool true) hHeld (by intro w hS; dsimp only [oRd_40] at hS ⊢; go_simp) ?_
                      try simp only [pA, pC, pD]
                      refine tkH 5 oRd_41 300 (.bool true) hHeld (by intro w hS; dsimp only [oRd_41] at hS ⊢; go_simp) ?_
                      try simp only [pA, pC, pD]
                      refine tkH 6 oRd_42 301 (.pointer (some ⟨B9, 1, none⟩)) hHeld (by intro w hS; dsimp only [oRd_42] at hS ⊢; go_simp) ?_
                      try simp only [pA, pC, pD]
                      refine tkH 7 oRd_43 302 (.int .i64 x.jb) hHeld (by intro w hS; dsimp only [oRd_43] at hS ⊢; go_simp) ?_
                      try simp only [pA, pC, pD]
                      refine tkH 8 oRd_44 303 (.pointer (some ⟨B7, 0, none⟩)) hHeld (by intro w hS; dsimp only [oRd_44] at hS ⊢; go_simp) ?_
                      try simp only [pA, pC, pD]
                      refine tkH 9 oRd_45 304 (.int .i64 dd.id) hHeld (by intro w hS; dsimp only [oRd_45] at hS ⊢; go_simp) ?_
                      try simp only [pA, pC, pD]
                      refine tkH 10 oRd_46 305 (.bool true) hHeld (by intro w hS; dsimp only [oRd_46] at hS ⊢; go_simp) ?_
                      try simp only [pA, pC, pD]
                      refine tkH 11 oRd_47 306 (.bool true) hHeld (by intro w hS; dsimp only [oRd_47] at hS ⊢; go_simp) ?_
                      try simp only [pA, pC, pD]
                      refine tkH 12 oRd_48 307 (.bool true) hHeld (by intro w hS; dsimp only [oRd_48] at hS ⊢; go_simp) ?_
                      try simp only [pA, pC, pD]
                      refine tkH 13 oRd_49 308 (.pointer (some ⟨B9, 2, none⟩)) hHeld (by intro w hS; dsimp only [oRd_49] at hS ⊢; go_simp) ?_
                      try simp only [pA, pC, pD]
                      refine tkH 14 oRd_50 309 (.int .i64 x.ve) hHeld (by intro w hS; dsimp only [oRd_50] at hS ⊢; go_simp) ?_
                      try simp only [pA, pC, pD]
                      refine tkH 15 oRd_51 310 (.pointer (some ⟨B7, 5, none⟩)) hHeld (by intro w hS; dsimp only [oRd_51] at hS ⊢; go_simp) ?_
                      try simp only [pA, pC, pD]
                      refine tkH 16 oRd_52 311 (.int .i64 dd.ve) hHeld (by intro w hS; dsimp only [oRd_52] at hS ⊢; go_simp) ?_
                      try simp only [pA, pC, pD]
                      refine tkH 17 oRd_53 312 (.bool true) hHeld (by intro w hS; dsimp only [oRd_53] at hS ⊢; go_simp) ?_
                      try simp only [pA, pC, pD]
                      refine tkH 18 oRd_54 313 (.bool true) hHeld (by intro w hS; dsimp only [oRd_54] at hS ⊢; go_simp) ?_
                      try simp only [pA, pC, pD]
                      refine tkH 19 oRd_55 314 (.bool true) hHeld (by intro w hS; dsimp only [oRd_55] at hS ⊢; go_simp) ?_
                      try simp only [pA, pC, pD]
                      refine tkH 20 oRd_56 315 (.pointer (some ⟨B9, 3, none⟩)) hHeld (by intro w hS; dsimp only [oRd_56] at hS ⊢; go_simp) ?_
                      try simp only [pA, pC, pD]
                      refine tkH 21 oRd_57 316 (.int .i64 x.gr) hHeld (by intro w hS; dsimp only [oRd_57] at hS ⊢; go_simp) ?_
                      try simp only [pA, pC, pD]
                      refine tkH 22 oRd_58 317 (.slice (some ⟨b9, off9, none⟩) L.length lc) hHeld (by intro w hS; dsimp only [oRd_58] at hS ⊢; go_simp) ?_
                      try simp only [pA, pC, pD]
                      refine tkH 23 oRd_59 318 (.int .i64 (k : Int)) hHeld (by intro w hS; dsimp only [oRd_59] at hS ⊢; go_simp) ?_
                      try simp only [pA, pC, pD]
                      refine tkH 24 oRd_60 319 (.pointer (some ⟨b9, off9 + k * 2, none⟩)) hHeld (by intro w hS; dsimp only [oRd_60] at hS ⊢; go_simp) ?_
                      try simp only [pA, pC, pD]
                      refine tkH 25 oRd_61 320 (.pointer (some ⟨b9, off9 + k * 2, none⟩)) hHeld (by intro w hS; dsimp only [oRd_61] at hS ⊢; go_simp) ?_
                      try simp only [pA, pC, pD]
                      refine tkH 26 oRd_62 321 (.int .i64 y.1) hHeld (by intro w hS; dsimp only [oRd_62] at hS ⊢; go_simp) ?_
                      try simp only [pA, pC, pD]
                      refine tkH 27 oRd_63 322 (.bool true) hHeld (by intro w hS; dsimp only [oRd_63] at hS ⊢; go_simp) ?_
                      try simp only [pA, pC, pD]
                      refine tkH 28 oRd_64 323 (.bool true) hHeld (by intro w hS; dsimp only [oRd_64] at hS ⊢; go_simp) ?_
                      try simp only [pA, pC, pD]
                      refine tkH 29 oRd_65 324 (.bool true) hHeld (by intro w hS; dsimp only [oRd_65] at hS ⊢; go_simp) ?_
                      try simp only [pA, pC, pD]
                      refine tkH 30 oRd_66 325 (.pointer (some ⟨B9, 4, none⟩)) hHeld (by intro w hS; dsimp only [oRd_66] at hS ⊢; go_simp) ?_
                      try simp only [pA, pC, pD]
                      refine tkH 31 oRd_67 326 (.int .i64 x.ix) hHeld (by intro w hS; dsimp only [oRd_67] at hS ⊢; go_simp) ?_
                      try simp only [pA, pC, pD]
                      refine tkH 32 oRd_68 327 (.slice (some ⟨b9, off9, none⟩) L.length lc) hHeld (by intro w hS; dsimp only [oRd_68] at hS ⊢; go_simp) ?_
                      try simp only [pA, pC, pD]
                      refine tkH 33 oRd_69 328 (.int .i64 (k : Int)) hHeld (by intro w hS; dsimp only [oRd_69] at hS ⊢; go_simp) ?_
                      try simp only [pA, pC, pD]
                      refine tkH 34 oRd_70 329 (.pointer (some ⟨b9, off9 + k * 2, none⟩)) hHeld (by intro w hS; dsimp only [oRd_70] at hS ⊢; go_simp) ?_
                      try simp only [pA, pC, pD]
                      refine tkH 35 oRd_71 330 (.pointer (some ⟨b9, off9 + k * 2 + 1, none⟩)) hHeld (by intro w hS; dsimp only [oRd_71] at hS ⊢; go_simp) ?_
                      try simp only [pA, pC, pD]
                      refine tkH 36 oRd_72 331 (.int .i64 y.2) hHeld (by intro w hS; dsimp only [oRd_72] at hS ⊢; go_simp) ?_
                      try simp only [pA, pC, pD]
                      refine tkH 37 oRd_73 332 (.bool true) hHeld (by intro w hS; dsimp only [oRd_73] at hS ⊢; go_simp) ?_
                      try simp only [pA, pC, pD]
                      refine tkH 38 oRd_74 333 (.bool true) hHeld (by intro w hS; dsimp only [oRd_74] at hS ⊢; go_simp) ?_
                      try simp only [pA, pC, pD]
                      refine tkH 39 oRd_75 334 (.bool true) hHeld (by intro w hS; dsimp only [oRd_75] at hS ⊢; go_simp) ?_
                      try simp only [pA, pC, pD]
                      refine tkH 40 oRd_76 335 (.pointer (some ⟨B9, 10, none⟩)) hHeld (by intro w hS; dsimp only [oRd_76] at hS ⊢; go_simp) ?_
                      try simp only [pA, pC, pD]
                      refine tkH 41 oRd_77 336 (.int .i64 x.st) hHeld (by intro w hS; dsimp only [oRd_77] at hS ⊢; go_simp) ?_
                      try simp only [pA, pC, pD]
                      refine tkH 42 oRd_78 337 (.bool true) hHeld (by intro w hS; dsimp only [oRd_78] at hS ⊢; go_simp) ?_
                      try simp only [pA, pC, pD]
                      refine tkH 43 oRd_79 338 (.bool true) hHeld (by intro w hS; dsimp only [oRd_79] at hS ⊢; go_simp) ?_
                      try simp only [pA, pC, pD]
                      refine tkH 44 oRd_80 339 (.bool true) hHeld (by intro w hS; dsimp only [oRd_80] at hS ⊢; go_simp) ?_
                      try simp only [pA, pC, pD]
                      refine tkH 45 oRd_81 25 (.bool true) hHeld (by intro w hS; dsimp only [oRd_81] at hS ⊢; go_simp) ?_
                      try simp only [pA, pC, pD]
                      refine wpAnyH_done (by kernel_rfl) ?_ _
                      go_wp2
                      go_roundw
                      case rel => exact ⟨k2 + 1, by omega, by simp, by rw [HDV.out], hidOf (HZ.out.trans ((HZA.out.trans ((bdrew wA).mono HZA.out.size)).mono HZ.out.size))⟩
                      case measure => simp [intOf]; omega
                    ·have q6b : (x.st == 3) = false := by simp [q6]
                     have Q6 := hidOf q6
                     clear q6
                     as_aux_lemma =>
                      have HDV : Hid (dnB dd A y (k2 + 1) = false) := hidOf (by rw [HD1.out]; simp [Q1.out, Q2.out, Q3.out, Q4.out, Q5.out, Q6.out])
                      refine wp_region_held_drew (S := fun (Y : World) => Y.cell? ⟨B7, 1, none⟩ = some (.int .i64 dd.ty) ∧ Y.cell? ⟨B9, 1, none⟩ = some (.int .i64 x.jb) ∧ Y.cell? ⟨B7, 0, none⟩ = some (.int .i64 dd.id) ∧ Y.cell? ⟨B9, 2, none⟩ = some (.int .i64 x.ve) ∧ Y.cell? ⟨B7, 5, none⟩ = some (.int .i64 dd.ve) ∧ Y.cell? ⟨B9, 3, none⟩ = some (.int .i64 x.gr) ∧ Y.cell? ⟨b9, off9 + k * 2, none⟩ = some (.int .i64 y.1) ∧ Y.cell? ⟨B9, 4, none⟩ = some (.int .i64 x.ix) ∧ Y.cell? ⟨b9, off9 + k * 2 + 1, none⟩ = some (.int .i64 y.2) ∧ Y.cell? ⟨B9, 10, none⟩ = some (.int .i64 x.st)) (by kernel_rfl) ⟨j1, e1, j0, e2, j5, e3, y1, e4, y2, e10⟩ (fun hHeld => ?_)
                      refine tkH 0 oRd_36 295 (.bool false) hHeld (by intro w hS; dsimp only [oRd_36] at hS ⊢; go_simp) ?_
                      try simp only [pA, pC, pD]
                      refine tkH 1 oRd_37 296 (.bool false) hHeld (by intro w hS; dsimp only [oRd_37] at hS ⊢; go_simp) ?_
                      try simp only [pA, pC, pD]
                      refine tkH 2 oRd_38 297 (.pointer (some ⟨B7, 1, none⟩)) hHeld (by intro w hS; dsimp only [oRd_38] at hS ⊢; go_simp) ?_
                      try simp only [pA, pC, pD]
                      refine tkH 3 oRd_39 298 (.int .i64 dd.ty) hHeld (by intro w hS; dsimp only [oRd_39] at hS ⊢; go_simp) ?_
                      try simp only [pA, pC, pD]
                      refine tkH 4 oRd_40 299 (.bool true) hHeld (by intro w hS; dsimp only [oRd_40] at hS ⊢; go_simp) ?_
                      try simp only [pA, pC, pD]
                      refine tkH 5 oRd_41 300 (.bool true) hHeld (by intro w hS; dsimp only [oRd_41] at hS ⊢; go_simp) ?_
                      try simp only [pA, pC, pD]
                      refine tkH 6 oRd_42 301 (.pointer (some ⟨B9, 1, none⟩)) hHeld (by intro w hS; dsimp only [oRd_42] at hS ⊢; go_simp) ?_
                      try simp only [pA, pC, pD]
                      refine tkH 7 oRd_43 302 (.int .i64 x.jb) hHeld (by intro w hS; dsimp only [oRd_43] at hS ⊢; go_simp) ?_
                      try simp only [pA, pC, pD]
                      refine tkH 8 oRd_44 303 (.pointer (some ⟨B7, 0, none⟩)) hHeld (by intro w hS; dsimp only [oRd_44] at hS ⊢; go_simp) ?_
                      try simp only [pA, pC, pD]
                      refine tkH 9 oRd_45 304 (.int .i64 dd.id) hHeld (by intro w hS; dsimp only [oRd_45] at hS ⊢; go_simp) ?_
                      try simp only [pA, pC, pD]
                      refine tkH 10 oRd_46 305 (.bool true) hHeld (by intro w hS; dsimp only [oRd_46] at hS ⊢; go_simp) ?_
                      try simp only [pA, pC, pD]
                      refine tkH 11 oRd_47 306 (.bool true) hHeld (by intro w hS; dsimp only [oRd_47] at hS ⊢; go_simp) ?_
                      try simp only [pA, pC, pD]
                      refine tkH 12 oRd_48 307 (.bool true) hHeld (by intro w hS; dsimp only [oRd_48] at hS ⊢; go_simp) ?_
                      try simp only [pA, pC, pD]
                      refine tkH 13 oRd_49 308 (.pointer (some ⟨B9, 2, none⟩)) hHeld (by intro w hS; dsimp only [oRd_49] at hS ⊢; go_simp) ?_
                      try simp only [pA, pC, pD]
                      refine tkH 14 oRd_50 309 (.int .i64 x.ve) hHeld (by intro w hS; dsimp only [oRd_50] at hS ⊢; go_simp) ?_
                      try simp only [pA, pC, pD]
                      refine tkH 15 oRd_51 310 (.pointer (some ⟨B7, 5, none⟩)) hHeld (by intro w hS; dsimp only [oRd_51] at hS ⊢; go_simp) ?_
                      try simp only [pA, pC, pD]
                      refine tkH 16 oRd_52 311 (.int .i64 dd.ve) hHeld (by intro w hS; dsimp only [oRd_52] at hS ⊢; go_simp) ?_
                      try simp only [pA, pC, pD]
                      refine tkH 17 oRd_53 312 (.bool true) hHeld (by intro w hS; dsimp only [oRd_53] at hS ⊢; go_simp) ?_
                      try simp only [pA, pC, pD]
                      refine tkH 18 oRd_54 313 (.bool true) hHeld (by intro w hS; dsimp only [oRd_54] at hS ⊢; go_simp) ?_
                      try simp only [pA, pC, pD]
                      refine tkH 19 oRd_55 314 (.bool true) hHeld (by intro w hS; dsimp only [oRd_55] at hS ⊢; go_simp) ?_
                      try simp only [pA, pC, pD]
                      refine tkH 20 oRd_56 315 (.pointer (some ⟨B9, 3, none⟩)) hHeld (by intro w hS; dsimp only [oRd_56] at hS ⊢; go_simp) ?_
                      try simp only [pA, pC, pD]
                      refine tkH 21 oRd_57 316 (.int .i64 x.gr) hHeld (by intro w hS; dsimp only [oRd_57] at hS ⊢; go_simp) ?_
                      try simp only [pA, pC, pD]
                      refine tkH 22 oRd_58 317 (.slice (some ⟨b9, off9, none⟩) L.length lc) hHeld (by intro w hS; dsimp only [oRd_58] at hS ⊢; go_simp) ?_
                      try simp only [pA, pC, pD]
                      refine tkH 23 oRd_59 318 (.int .i64 (k : Int)) hHeld (by intro w hS; dsimp only [oRd_59] at hS ⊢; go_simp) ?_
                      try simp only [pA, pC, pD]
                      refine tkH 24 oRd_60 319 (.pointer (some ⟨b9, off9 + k * 2, none⟩)) hHeld (by intro w hS; dsimp only [oRd_60] at hS ⊢; go_simp) ?_
                      try simp only [pA, pC, pD]
                      refine tkH 25 oRd_61 320 (.pointer (some ⟨b9, off9 + k * 2, none⟩)) hHeld (by intro w hS; dsimp only [oRd_61] at hS ⊢; go_simp) ?_
                      try simp only [pA, pC, pD]
                      refine tkH 26 oRd_62 321 (.int .i64 y.1) hHeld (by intro w hS; dsimp only [oRd_62] at hS ⊢; go_simp) ?_
                      try simp only [pA, pC, pD]
                      refine tkH 27 oRd_63 322 (.bool true) hHeld (by intro w hS; dsimp only [oRd_63] at hS ⊢; go_simp) ?_
                      try simp only [pA, pC, pD]
                      refine tkH 28 oRd_64 323 (.bool true) hHeld (by intro w hS; dsimp only [oRd_64] at hS ⊢; go_simp) ?_
                      try simp only [pA, pC, pD]
                      refine tkH 29 oRd_65 324 (.bool true) hHeld (by intro w hS; dsimp only [oRd_65] at hS ⊢; go_simp) ?_
                      try simp only [pA, pC, pD]
                      refine tkH 30 oRd_66 325 (.pointer (some ⟨B9, 4, none⟩)) hHeld (by intro w hS; dsimp only [oRd_66] at hS ⊢; go_simp) ?_
                      try simp only [pA, pC, pD]
                      refine tkH 31 oRd_67 326 (.int .i64 x.ix) hHeld (by intro w hS; dsimp only [oRd_67] at hS ⊢; go_simp) ?_
                      try simp only [pA, pC, pD]
                      refine tkH 32 oRd_68 327 (.slice (some ⟨b9, off9, none⟩) L.length lc) hHeld (by intro w hS; dsimp only [oRd_68] at hS ⊢; go_simp) ?_
                      try simp only [pA, pC, pD]
                      refine tkH 33 oRd_69 328 (.int .i64 (k : Int)) hHeld (by intro w hS; dsimp only [oRd_69] at hS ⊢; go_simp) ?_
                      try simp only [pA, pC, pD]
                      refine tkH 34 oRd_70 329 (.pointer (some ⟨b9, off9 + k * 2, none⟩)) hHeld (by intro w hS; dsimp only [oRd_70] at hS ⊢; go_simp) ?_
                      try simp only [pA, pC, pD]
                      refine tkH 35 oRd_71 330 (.pointer (some ⟨b9, off9 + k * 2 + 1, none⟩)) hHeld (by intro w hS; dsimp only [oRd_71] at hS ⊢; go_simp) ?_
                      try simp only [pA, pC, pD]
                      refine tkH 36 oRd_72 331 (.int .i64 y.2) hHeld (by intro w hS; dsimp only [oRd_72] at hS ⊢; go_simp) ?_
                      try simp only [pA, pC, pD]
                      refine tkH 37 oRd_73 332 (.bool true) hHeld (by intro w hS; dsimp only [oRd_73] at hS ⊢; go_simp) ?_
                      try simp only [pA, pC, pD]
                      refine tkH 38 oRd_74 333 (.bool true) hHeld (by intro w hS; dsimp only [oRd_74] at hS ⊢; go_simp) ?_
                      try simp only [pA, pC, pD]
                      refine tkH 39 oRd_75 334 (.bool true) hHeld (by intro w hS; dsimp only [oRd_75] at hS ⊢; go_simp) ?_
                      try simp only [pA, pC, pD]
                      refine tkH 40 oRd_76 335 (.pointer (some ⟨B9, 10, none⟩)) hHeld (by intro w hS; dsimp only [oRd_76] at hS ⊢; go_simp) ?_
                      try simp only [pA, pC, pD]
                      refine tkH 41 oRd_77 336 (.int .i64 x.st) hHeld (by intro w hS; dsimp only [oRd_77] at hS ⊢; go_simp) ?_
                      try simp only [pA, pC, pD]
                      refine tkH 42 oRd_78 337 (.bool false) hHeld (by intro w hS; dsimp only [oRd_78] at hS ⊢; go_simp) ?_
                      try simp only [pA, pC, pD]
                      refine tkH 43 oRd_79 338 (.bool false) hHeld (by intro w hS; dsimp only [oRd_79] at hS ⊢; go_simp) ?_
                      try simp only [pA, pC, pD]
                      refine tkH 44 oRd_80 339 (.bool false) hHeld (by intro w hS; dsimp only [oRd_80] at hS ⊢; go_simp) ?_
                      try simp only [pA, pC, pD]
                      refine tkH 45 oRd_81 25 (.bool false) hHeld (by intro w hS; dsimp only [oRd_81] at hS ⊢; go_simp) ?_
                      try simp only [pA, pC, pD]
                      refine wpAnyH_done (by kernel_rfl) ?_ _
                      go_wp2
                      go_roundw
                      case rel => exact ⟨k2 + 1, by omega, by simp, by rw [HDV.out], hidOf (HZ.out.trans ((HZA.out.trans ((bdrew wA).mono HZA.out.size)).mono HZ.out.size))⟩
                      case measure => simp [intOf]; omega
                   ·have q5b : (x.ix == y.2) = false := by simp [q5]
                    have Q5 := hidOf q5
                    clear q5
                    as_aux_lemma =>
                     have HDV : Hid (dnB dd A y (k2 + 1) = false) := hidOf (by rw [HD1.out]; simp [Q1.out, Q2.out, Q3.out, Q4.out, Q5.out])
                     refine wp_region_held_drew (S := fun (Y : World) => Y.cell? ⟨B7, 1, none⟩ = some (.int .i64 dd.ty) ∧ Y.cell? ⟨B9, 1, none⟩ = some (.int .i64 x.jb) ∧ Y.cell? ⟨B7, 0, none⟩ = some (.int .i64 dd.id) ∧ Y.cell? ⟨B9, 2, none⟩ = some (.int .i64 x.ve) ∧ Y.cell? ⟨B7, 5, none⟩ = some (.int .i64 dd.ve) ∧ Y.cell? ⟨B9, 3, none⟩ = some (.int .i64 x.gr) ∧ Y.cell? ⟨b9, off9 + k * 2, none⟩ = some (.int .i64 y.1) ∧ Y.cell? ⟨B9, 4, none⟩ = some (.int .i64 x.ix) ∧ Y.cell? ⟨b9, off9 + k * 2 + 1, none⟩ = some (.int .i64 y.2)) (by kernel_rfl) ⟨j1, e1, j0, e2, j5, e3, y1, e4, y2⟩ (fun hHeld => ?_)
                     refine tkH 0 oRd_36 295 (.bool false) hHeld (by intro w hS; dsimp only [oRd_36] at hS ⊢; go_simp) ?_
                     try simp only [pA, pC, pD]
                     refine tkH 1 oRd_37 296 (.bool false) hHeld (by intro w hS; dsimp only [oRd_37] at hS ⊢; go_simp) ?_
                     try simp only [pA, pC, pD]
                     refine tkH 2 oRd_38 297 (.pointer (some ⟨B7, 1, none⟩)) hHeld (by intro w hS; dsimp only [oRd_38] at hS ⊢; go_simp) ?_
                     try simp only [pA, pC, pD]
                     refine tkH 3 oRd_39 298 (.int .i64 dd.ty) hHeld (by intro w hS; dsimp only [oRd_39] at hS ⊢; go_simp) ?_
                     try simp only [pA, pC, pD]
                     refine tkH 4 oRd_40 299 (.bool true) hHeld (by intro w hS; dsimp only [oRd_40] at hS ⊢; go_simp) ?_
                     try simp only [pA, pC, pD]
                     refine tkH 5 oRd_41 300 (.bool true) hHeld (by intro w hS; dsimp only [oRd_41] at hS ⊢; go_simp) ?_
                     try simp only [pA, pC, pD]
                     refine tkH 6 oRd_42 301 (.pointer (some ⟨B9, 1, none⟩)) hHeld (by intro w hS; dsimp only [oRd_42] at hS ⊢; go_simp) ?_
                     try simp only [pA, pC, pD]
                     refine tkH 7 oRd_43 302 (.int .i64 x.jb) hHeld (by intro w hS; dsimp only [oRd_43] at hS ⊢; go_simp) ?_
                     try simp only [pA, pC, pD]
                     refine tkH 8 oRd_44 303 (.pointer (some ⟨B7, 0, none⟩)) hHeld (by intro w hS; dsimp only [oRd_44] at hS ⊢; go_simp) ?_
                     try simp only [pA, pC, pD]
                     refine tkH 9 oRd_45 304 (.int .i64 dd.id) hHeld (by intro w hS; dsimp only [oRd_45] at hS ⊢; go_simp) ?_
                     try simp only [pA, pC, pD]
                     refine tkH 10 oRd_46 305 (.bool true) hHeld (by intro w hS; dsimp only [oRd_46] at hS ⊢; go_simp) ?_
                     try simp only [pA, pC, pD]
                     refine tkH 11 oRd_47 306 (.bool true) hHeld (by intro w hS; dsimp only [oRd_47] at hS ⊢; go_simp) ?_
                     try simp only [pA, pC, pD]
                     refine tkH 12 oRd_48 307 (.bool true) hHeld (by intro w hS; dsimp only [oRd_48] at hS ⊢; go_simp) ?_
                     try simp only [pA, pC, pD]
                     refine tkH 13 oRd_49 308 (.pointer (some ⟨B9, 2, none⟩)) hHeld (by intro w hS; dsimp only [oRd_49] at hS ⊢; go_simp) ?_
                     try simp only [pA, pC, pD]
                     refine tkH 14 oRd_50 309 (.int .i64 x.ve) hHeld (by intro w hS; dsimp only [oRd_50] at hS ⊢; go_simp) ?_
                     try simp only [pA, pC, pD]
                     refine tkH 15 oRd_51 310 (.pointer (some ⟨B7, 5, none⟩)) hHeld (by intro w hS; dsimp only [oRd_51] at hS ⊢; go_simp) ?_
                     try simp only [pA, pC, pD]
                     refine tkH 16 oRd_52 311 (.int .i64 dd.ve) hHeld (by intro w hS; dsimp only [oRd_52] at hS ⊢; go_simp) ?_
                     try simp only [pA, pC, pD]
                     refine tkH 17 oRd_53 312 (.bool true) hHeld (by intro w hS; dsimp only [oRd_53] at hS ⊢; go_simp) ?_
                     try simp only [pA, pC, pD]
                     refine tkH 18 oRd_54 313 (.bool true) hHeld (by intro w hS; dsimp only [oRd_54] at hS ⊢; go_simp) ?_
                     try simp only [pA, pC, pD]
                     refine tkH 19 oRd_55 314 (.bool true) hHeld (by intro w hS; dsimp only [oRd_55] at hS ⊢; go_simp) ?_
                     try simp only [pA, pC, pD]
                     refine tkH 20 oRd_56 315 (.pointer (some ⟨B9, 3, none⟩)) hHeld (by intro w hS; dsimp only [oRd_56] at hS ⊢; go_simp) ?_
                     try simp only [pA, pC, pD]
                     refine tkH 21 oRd_57 316 (.int .i64 x.gr) hHeld (by intro w hS; dsimp only [oRd_57] at hS ⊢; go_simp) ?_
                     try simp only [pA, pC, pD]
                     refine tkH 22 oRd_58 317 (.slice (some ⟨b9, off9, none⟩) L.length lc) hHeld (by intro w hS; dsimp only [oRd_58] at hS ⊢; go_simp) ?_
                     try simp only [pA, pC, pD]
                     refine tkH 23 oRd_59 318 (.int .i64 (k : Int)) hHeld (by intro w hS; dsimp only [oRd_59] at hS ⊢; go_simp) ?_
                     try simp only [pA, pC, pD]
                     refine tkH 24 oRd_60 319 (.pointer (some ⟨b9, off9 + k * 2, none⟩)) hHeld (by intro w hS; dsimp only [oRd_60] at hS ⊢; go_simp) ?_
                     try simp only [pA, pC, pD]
                     refine tkH 25 oRd_61 320 (.pointer (some ⟨b9, off9 + k * 2, none⟩)) hHeld (by intro w hS; dsimp only [oRd_61] at hS ⊢; go_simp) ?_
                     try simp only [pA, pC, pD]
                     refine tkH 26 oRd_62 321 (.int .i64 y.1) hHeld (by intro w hS; dsimp only [oRd_62] at hS ⊢; go_simp) ?_
                     try simp only [pA, pC, pD]
                     refine tkH 27 oRd_63 322 (.bool true) hHeld (by intro w hS; dsimp only [oRd_63] at hS ⊢; go_simp) ?_
                     try simp only [pA, pC, pD]
                     refine tkH 28 oRd_64 323 (.bool true) hHeld (by intro w hS; dsimp only [oRd_64] at hS ⊢; go_simp) ?_
                     try simp only [pA, pC, pD]
                     refine tkH 29 oRd_65 324 (.bool true) hHeld (by intro w hS; dsimp only [oRd_65] at hS ⊢; go_simp) ?_
                     try simp only [pA, pC, pD]
                     refine tkH 30 oRd_66 325 (.pointer (some ⟨B9, 4, none⟩)) hHeld (by intro w hS; dsimp only [oRd_66] at hS ⊢; go_simp) ?_
                     try simp only [pA, pC, pD]
                     refine tkH 31 oRd_67 326 (.int .i64 x.ix) hHeld (by intro w hS; dsimp only [oRd_67] at hS ⊢; go_simp) ?_
                     try simp only [pA, pC, pD]
                     refine tkH 32 oRd_68 327 (.slice (some ⟨b9, off9, none⟩) L.length lc) hHeld (by intro w hS; dsimp only [oRd_68] at hS ⊢; go_simp) ?_
                     try simp only [pA, pC, pD]
                     refine tkH 33 oRd_69 328 (.int .i64 (k : Int)) hHeld (by intro w hS; dsimp only [oRd_69] at hS ⊢; go_simp) ?_
                     try simp only [pA, pC, pD]
                     refine tkH 34 oRd_70 329 (.pointer (some ⟨b9, off9 + k * 2, none⟩)) hHeld (by intro w hS; dsimp only [oRd_70] at hS ⊢; go_simp) ?_
                     try simp only [pA, pC, pD]
                     refine tkH 35 oRd_71 330 (.pointer (some ⟨b9, off9 + k * 2 + 1, none⟩)) hHeld (by intro w hS; dsimp only [oRd_71] at hS ⊢; go_simp) ?_
                     try simp only [pA, pC, pD]
                     refine tkH 36 oRd_72 331 (.int .i64 y.2) hHeld (by intro w hS; dsimp only [oRd_72] at hS ⊢; go_simp) ?_
                     try simp only [pA, pC, pD]
                     refine tkH 37 oRd_73 332 (.bool false) hHeld (by intro w hS; dsimp only [oRd_73] at hS ⊢; go_simp) ?_
                     try simp only [pA, pC, pD]
                     refine tkH 38 oRd_74 333 (.bool false) hHeld (by intro w hS; dsimp only [oRd_74] at hS ⊢; go_simp) ?_
                     try simp only [pA, pC, pD]
                     refine tkH 39 oRd_75 334 (.bool false) hHeld (by intro w hS; dsimp only [oRd_75] at hS ⊢; go_simp) ?_
                     try simp only [pA, pC, pD]
                     refine tkN 40 oRd_76 335 hHeld ?_
                     try simp only [pA, pC, pD]
                     refine tkN 41 oRd_77 336 hHeld ?_
                     try simp only [pA, pC, pD]
                     refine tkN 42 oRd_78 337 hHeld ?_
                     try simp only [pA, pC, pD]
                     refine tkH 43 oRd_79 338 (.bool false) hHeld (by intro w hS; dsimp only [oRd_79] at hS ⊢; go_simp) ?_
                     try simp only [pA, pC, pD]
                     refine tkH 44 oRd_80 339 (.bool false) hHeld (by intro w hS; dsimp only [oRd_80] at hS ⊢; go_simp) ?_
                     try simp only [pA, pC, pD]
                     refine tkH 45 oRd_81 25 (.bool false) hHeld (by intro w hS; dsimp only [oRd_81] at hS ⊢; go_simp) ?_
                     try simp only [pA, pC, pD]
                     refine wpAnyH_done (by kernel_rfl) ?_ _
                     go_wp2
                     go_roundw
                     case rel => exact ⟨k2 + 1, by omega, by simp, by rw [HDV.out], hidOf (HZ.out.trans ((HZA.out.trans ((bdrew wA).mono HZA.out.size)).mono HZ.out.size))⟩
                     case measure => simp [intOf]; omega
                  ·have q4b : (x.gr == y.1) = false := by simp [q4]
                   have Q4 := hidOf q4
                   clear q4
                   as_aux_lemma =>
                    have HDV : Hid (dnB dd A y (k2 + 1) = false) := hidOf (by rw [HD1.out]; simp [Q1.out, Q2.out, Q3.out, Q4.out])
                    refine wp_region_held_drew (S := fun (Y : World) => Y.cell? ⟨B7, 1, none⟩ = some (.int .i64 dd.ty) ∧ Y.cell? ⟨B9, 1, none⟩ = some (.int .i64 x.jb) ∧ Y.cell? ⟨B7, 0, none⟩ = some (.int .i64 dd.id) ∧ Y.cell? ⟨B9, 2, none⟩ = some (.int .i64 x.ve) ∧ Y.cell? ⟨B7, 5, none⟩ = some (.int .i64 dd.ve) ∧ Y.cell? ⟨B9, 3, none⟩ = some (.int .i64 x.gr) ∧ Y.cell? ⟨b9, off9 + k * 2, none⟩ = some (.int .i64 y.1)) (by kernel_rfl) ⟨j1, e1, j0, e2, j5, e3, y1⟩ (fun hHeld => ?_)
                    refine tkH 0 oRd_36 295 (.bool false) hHeld (by intro w hS; dsimp only [oRd_36] at hS ⊢; go_simp) ?_
                    try simp only [pA, pC, pD]
                    refine tkH 1 oRd_37 296 (.bool false) hHeld (by intro w hS; dsimp only [oRd_37] at hS ⊢; go_simp) ?_
                    try simp only [pA, pC, pD]
                    refine tkH 2 oRd_38 297 (.pointer (some ⟨B7, 1, none⟩)) hHeld (by intro w hS; dsimp only [oRd_38] at hS ⊢; go_simp) ?_
                    try simp only [pA, pC, pD]
                    refine tkH 3 oRd_39 298 (.int .i64 dd.ty) hHeld (by intro w hS; dsimp only [oRd_39] at hS ⊢; go_simp) ?_
                    try simp only [pA, pC, pD]
                    refine tkH 4 oRd_40 299 (.bool true) hHeld (by intro w hS; dsimp only [oRd_40] at hS ⊢; go_simp) ?_
                    try simp only [pA, pC, pD]
                    refine tkH 5 oRd_41 300 (.bool true) hHeld (by intro w hS; dsimp only [oRd_41] at hS ⊢; go_simp) ?_
                    try simp only [pA, pC, pD]
                    refine tkH 6 oRd_42 301 (.pointer (some ⟨B9, 1, none⟩)) hHeld (by intro w hS; dsimp only [oRd_42] at hS ⊢; go_simp) ?_
                    try simp only [pA, pC, pD]
                    refine tkH 7 oRd_43 302 (.int .i64 x.jb) hHeld (by intro w hS; dsimp only [oRd_43] at hS ⊢; go_simp) ?_
                    try simp only [pA, pC, pD]
                    refine tkH 8 oRd_44 303 (.pointer (some ⟨B7, 0, none⟩)) hHeld (by intro w hS; dsimp only [oRd_44] at hS ⊢; go_simp) ?_
                    try simp only [pA, pC, pD]
                    refine tkH 9 oRd_45 304 (.int .i64 dd.id) hHeld (by intro w hS; dsimp only [oRd_45] at hS ⊢; go_simp) ?_
                    try simp only [pA, pC, pD]
                    refine tkH 10 oRd_46 305 (.bool true) hHeld (by intro w hS; dsimp only [oRd_46] at hS ⊢; go_simp) ?_
                    try simp only [pA, pC, pD]
                    refine tkH 11 oRd_47 306 (.bool true) hHeld (by intro w hS; dsimp only [oRd_47] at hS ⊢; go_simp) ?_
                    try simp only [pA, pC, pD]
                    refine tkH 12 oRd_48 307 (.bool true) hHeld (by intro w hS; dsimp only [oRd_48] at hS ⊢; go_simp) ?_
                    try simp only [pA, pC, pD]
                    refine tkH 13 oRd_49 308 (.pointer (some ⟨B9, 2, none⟩)) hHeld (by intro w hS; dsimp only [oRd_49] at hS ⊢; go_simp) ?_
                    try simp only [pA, pC, pD]
                    refine tkH 14 oRd_50 309 (.int .i64 x.ve) hHeld (by intro w hS; dsimp only [oRd_50] at hS ⊢; go_simp) ?_
                    try simp only [pA, pC, pD]
                    refine tkH 15 oRd_51 310 (.pointer (some ⟨B7, 5, none⟩)) hHeld (by intro w hS; dsimp only [oRd_51] at hS ⊢; go_simp) ?_
                    try simp only [pA, pC, pD]
                    refine tkH 16 oRd_52 311 (.int .i64 dd.ve) hHeld (by intro w hS; dsimp only [oRd_52] at hS ⊢; go_simp) ?_
                    try simp only [pA, pC, pD]
                    refine tkH 17 oRd_53 312 (.bool true) hHeld (by intro w hS; dsimp only [oRd_53] at hS ⊢; go_simp) ?_
                    try simp only [pA, pC, pD]
                    refine tkH 18 oRd_54 313 (.bool true) hHeld (by intro w hS; dsimp only [oRd_54] at hS ⊢; go_simp) ?_
                    try simp only [pA, pC, pD]
                    refine tkH 19 oRd_55 314 (.bool true) hHeld (by intro w hS; dsimp only [oRd_55] at hS ⊢; go_simp) ?_
                    try simp only [pA, pC, pD]
                    refine tkH 20 oRd_56 315 (.pointer (some ⟨B9, 3, none⟩)) hHeld (by intro w hS; dsimp only [oRd_56] at hS ⊢; go_simp) ?_
                    try simp only [pA, pC, pD]
                    refine tkH 21 oRd_57 316 (.int .i64 x.gr) hHeld (by intro w hS; dsimp only [oRd_57] at hS ⊢; go_simp) ?_
                    try simp only [pA, pC, pD]
                    refine tkH 22 oRd_58 317 (.slice (some ⟨b9, off9, none⟩) L.length lc) hHeld (by intro w hS; dsimp only [oRd_58] at hS ⊢; go_simp) ?_
                    try simp only [pA, pC, pD]
                    refine tkH 23 oRd_59 318 (.int .i64 (k : Int)) hHeld (by intro w hS; dsimp only [oRd_59] at hS ⊢; go_simp) ?_
                    try simp only [pA, pC, pD]
                    refine tkH 24 oRd_60 319 (.pointer (some ⟨b9, off9 + k * 2, none⟩)) hHeld (by intro w hS; dsimp only [oRd_60] at hS ⊢; go_simp) ?_
                    try simp only [pA, pC, pD]
                    refine tkH 25 oRd_61 320 (.pointer (some ⟨b9, off9 + k * 2, none⟩)) hHeld (by intro w hS; dsimp only [oRd_61] at hS ⊢; go_simp) ?_
                    try simp only [pA, pC, pD]
                    refine tkH 26 oRd_62 321 (.int .i64 y.1) hHeld (by intro w hS; dsimp only [oRd_62] at hS ⊢; go_simp) ?_
                    try simp only [pA, pC, pD]
                    refine tkH 27 oRd_63 322 (.bool false) hHeld (by intro w hS; dsimp only [oRd_63] at hS ⊢; go_simp) ?_
                    try simp only [pA, pC, pD]
                    refine tkH 28 oRd_64 323 (.bool false) hHeld (by intro w hS; dsimp only [oRd_64] at hS ⊢; go_simp) ?_
                    try simp only [pA, pC, pD]
                    refine tkH 29 oRd_65 324 (.bool false) hHeld (by intro w hS; dsimp only [oRd_65] at hS ⊢; go_simp) ?_
                    try simp only [pA, pC, pD]
                    refine tkN 30 oRd_66 325 hHeld ?_
                    try simp only [pA, pC, pD]
                    refine tkN 31 oRd_67 326 hHeld ?_
                    try simp only [pA, pC, pD]
                    refine tkN 32 oRd_68 327 hHeld ?_
                    try simp only [pA, pC, pD]
                    refine tkN 33 oRd_69 328 hHeld ?_
                    try simp only [pA, pC, pD]
                    refine tkN 34 oRd_70 329 hHeld ?_
                    try simp only [pA, pC, pD]
                    refine tkN 35 oRd_71 330 hHeld ?_
                    try simp only [pA, pC, pD]
                    refine tkN 36 oRd_72 331 hHeld ?_
                    try simp only [pA, pC, pD]
                    refine tkN 37 oRd_73 332 hHeld ?_
                    try simp only [pA, pC, pD]
                    refine tkH 38 oRd_74 333 (.bool false) hHeld (by intro w hS; dsimp only [oRd_74] at hS ⊢; go_simp) ?_
                    try simp only [pA, pC, pD]
                    refine tkH 39 oRd_75 334 (.bool false) hHeld (by intro w hS; dsimp only [oRd_75] at hS ⊢; go_simp) ?_
                    try simp only [pA, pC, pD]
                    refine tkN 40 oRd_76 335 hHeld ?_
                    try simp only [pA, pC, pD]
                    refine tkN 41 oRd_77 336 hHeld ?_
                    try simp only [pA, pC, pD]
                    refine tkN 42 oRd_78 337 hHeld ?_
                    try simp only [pA, pC, pD]
                    refine tkH 43 oRd_79 338 (.bool false) hHeld (by intro w hS; dsimp only [oRd_79] at hS ⊢; go_simp) ?_
                    try simp only [pA, pC, pD]
                    refine tkH 44 oRd_80 339 (.bool false) hHeld (by intro w hS; dsimp only [oRd_80] at hS ⊢; go_simp) ?_
                    try simp only [pA, pC, pD]
                    refine tkH 45 oRd_81 25 (.bool false) hHeld (by intro w hS; dsimp only [oRd_81] at hS ⊢; go_simp) ?_
                    try simp only [pA, pC, pD]
                    refine wpAnyH_done (by kernel_rfl) ?_ _
                    go_wp2
                    go_roundw
                    case rel => exact ⟨k2 + 1, by omega, by simp, by rw [HDV.out], hidOf (HZ.out.trans ((HZA.out.trans ((bdrew wA).mono HZA.out.size)).mono HZ.out.size))⟩
                    case measure => simp [intOf]; omega
                 ·have q3b : (x.ve == dd.ve) = false := by simp [q3]
                  have Q3 := hidOf q3
                  clear q3
                  as_aux_lemma =>
                   have HDV : Hid (dnB dd A y (k2 + 1) = false) := hidOf (by rw [HD1.out]; simp [Q1.out, Q2.out, Q3.out])
                   refine wp_region_held_drew (S := fun (Y : World) => Y.cell? ⟨B7, 1, none⟩ = some (.int .i64 dd.ty) ∧ Y.cell? ⟨B9, 1, none⟩ = some (.int .i64 x.jb) ∧ Y.cell? ⟨B7, 0, none⟩ = some (.int .i64 dd.id) ∧ Y.cell? ⟨B9, 2, none⟩ = some (.int .i64 x.ve) ∧ Y.cell? ⟨B7, 5, none⟩ = some (.int .i64 dd.ve)) (by kernel_rfl) ⟨j1, e1, j0, e2, j5⟩ (fun hHeld => ?_)
                   refine tkH 0 oRd_36 295 (.bool false) hHeld (by intro w hS; dsimp only [oRd_36] at hS ⊢; go_simp) ?_
                   try simp only [pA, pC, pD]
                   refine tkH 1 oRd_37 296 (.bool false) hHeld (by intro w hS; dsimp only [oRd_37] at hS ⊢; go_simp) ?_
                   try simp only [pA, pC, pD]
                   refine tkH 2 oRd_38 297 (.pointer (some ⟨B7, 1, none⟩)) hHeld (by intro w hS; dsimp only [oRd_38] at hS ⊢; go_simp) ?_
                   try simp only [pA, pC, pD]
                   refine tkH 3 oRd_39 298 (.int .i64 dd.ty) hHeld (by intro w hS; dsimp only [oRd_39] at hS ⊢; go_simp) ?_
                   try simp only [pA, pC, pD]
                   refine tkH 4 oRd_40 299 (.bool true) hHeld (by intro w hS; dsimp only [oRd_40] at hS ⊢; go_simp) ?_
                   try simp only [pA, pC, pD]
                   refine tkH 5 oRd_41 300 (.bool true) hHeld (by intro w hS; dsimp only [oRd_41] at hS ⊢; go_simp) ?_
                   try simp only [pA, pC, pD]
                   refine tkH 6 oRd_42 301 (.pointer (some ⟨B9, 1, none⟩)) hHeld (by intro w hS; dsimp only [oRd_42] at hS ⊢; go_simp) ?_
                   try simp only [pA, pC, pD]
                   refine tkH 7 oRd_43 302 (.int .i64 x.jb) hHeld (by intro w hS; dsimp only [oRd_43] at hS ⊢; go_simp) ?_
                   try simp only [pA, pC, pD]
                   refine tkH 8 oRd_44 303 (.pointer (some ⟨B7, 0, none⟩)) hHeld (by intro w hS; dsimp only [oRd_44] at hS ⊢; go_simp) ?_
                   try simp only [pA, pC, pD]
                   refine tkH 9 oRd_45 304 (.int .i64 dd.id) hHeld (by intro w hS; dsimp only [oRd_45] at hS ⊢; go_simp) ?_
                   try simp only [pA, pC, pD]
                   refine tkH 10 oRd_46 305 (.bool true) hHeld (by intro w hS; dsimp only [oRd_46] at hS ⊢; go_simp) ?_
                   try simp only [pA, pC, pD]
                   refine tkH 11 oRd_47 306 (.bool true) hHeld (by intro w hS; dsimp only [oRd_47] at hS ⊢; go_simp) ?_
                   try simp only [pA, pC, pD]
                   refine tkH 12 oRd_48 307 (.bool true) hHeld (by intro w hS; dsimp only [oRd_48] at hS ⊢; go_simp) ?_
                   try simp only [pA, pC, pD]
                   refine tkH 13 oRd_49 308 (.pointer (some ⟨B9, 2, none⟩)) hHeld (by intro w hS; dsimp only [oRd_49] at hS ⊢; go_simp) ?_
                   try simp only [pA, pC, pD]
                   refine tkH 14 oRd_50 309 (.int .i64 x.ve) hHeld (by intro w hS; dsimp only [oRd_50] at hS ⊢; go_simp) ?_
                   try simp only [pA, pC, pD]
                   refine tkH 15 oRd_51 310 (.pointer (some ⟨B7, 5, none⟩)) hHeld (by intro w hS; dsimp only [oRd_51] at hS ⊢; go_simp) ?_
                   try simp only [pA, pC, pD]
                   refine tkH 16 oRd_52 311 (.int .i64 dd.ve) hHeld (by intro w hS; dsimp only [oRd_52] at hS ⊢; go_simp) ?_
                   try simp only [pA, pC, pD]
                   refine tkH 17 oRd_53 312 (.bool false) hHeld (by intro w hS; dsimp only [oRd_53] at hS ⊢; go_simp) ?_
                   try simp only [pA, pC, pD]
                   refine tkH 18 oRd_54 313 (.bool false) hHeld (by intro w hS; dsimp only [oRd_54] at hS ⊢; go_simp) ?_
                   try simp only [pA, pC, pD]
                   refine tkH 19 oRd_55 314 (.bool false) hHeld (by intro w hS; dsimp only [oRd_55] at hS ⊢; go_simp) ?_
                   try simp only [pA, pC, pD]
                   refine tkN 20 oRd_56 315 hHeld ?_
                   try simp only [pA, pC, pD]
                   refine tkN 21 oRd_57 316 hHeld ?_
                   try simp only [pA, pC, pD]
                   refine tkN 22 oRd_58 317 hHeld ?_
                   try simp only [pA, pC, pD]
                   refine tkN 23 oRd_59 318 hHeld ?_
                   try simp only [pA, pC, pD]
                   refine tkN 24 oRd_60 319 hHeld ?_
                   try simp only [pA, pC, pD]
                   refine tkN 25 oRd_61 320 hHeld ?_
                   try simp only [pA, pC, pD]
                   refine tkN 26 oRd_62 321 hHeld ?_
                   try simp only [pA, pC, pD]
                   refine tkN 27 oRd_63 322 hHeld ?_
                   try simp only [pA, pC, pD]
                   refine tkH 28 oRd_64 323 (.bool false) hHeld (by intro w hS; dsimp only [oRd_64] at hS ⊢; go_simp) ?_
                   try simp only [pA, pC, pD]
                   refine tkH 29 oRd_65 324 (.bool false) hHeld (by intro w hS; dsimp only [oRd_65] at hS ⊢; go_simp) ?_
                   try simp only [pA, pC, pD]
                   refine tkN 30 oRd_66 325 hHeld ?_
                   try simp only [pA, pC, pD]
                   refine tkN 31 oRd_67 326 hHeld ?_
                   try simp only [pA, pC, pD]
                   refine tkN 32 oRd_68 327 hHeld ?_
                   try simp only [pA, pC, pD]
                   refine tkN 33 oRd_69 328 hHeld ?_
                   try simp only [pA, pC, pD]
                   refine tkN 34 oRd_70 329 hHeld ?_
                   try simp only [pA, pC, pD]
                   refine tkN 35 oRd_71 330 hHeld ?_
                   try simp only [pA, pC, pD]
                   refine tkN 36 oRd_72 331 hHeld ?_
                   try simp only [pA, pC, pD]
                   refine tkN 37 oRd_73 332 hHeld ?_
                   try simp only [pA, pC, pD]
                   refine tkH 38 oRd_74 333 (.bool false) hHeld (by intro w hS; dsimp only [oRd_74] at hS ⊢; go_simp) ?_
                   try simp only [pA, pC, pD]
                   refine tkH 39 oRd_75 334 (.bool false) hHeld (by intro w hS; dsimp only [oRd_75] at hS ⊢; go_simp) ?_
                   try simp only [pA, pC, pD]
                   refine tkN 40 oRd_76 335 hHeld ?_
                   try simp only [pA, pC, pD]
                   refine tkN 41 oRd_77 336 hHeld ?_
                   try simp only [pA, pC, pD]
                   refine tkN 42 oRd_78 337 hHeld ?_
                   try simp only [pA, pC, pD]
                   refine tkH 43 oRd_79 338 (.bool false) hHeld (by intro w hS; dsimp only [oRd_79] at hS ⊢; go_simp) ?_
                   try simp only [pA, pC, pD]
                   refine tkH 44 oRd_80 339 (.bool false) hHeld (by intro w hS; dsimp only [oRd_80] at hS ⊢; go_simp) ?_
                   try simp only [pA, pC, pD]
                   refine tkH 45 oRd_81 25 (.bool false) hHeld (by intro w hS; dsimp only [oRd_81] at hS ⊢; go_simp) ?_
                   try simp only [pA, pC, pD]
                   refine wpAnyH_done (by kernel_rfl) ?_ _
                   go_wp2
                   go_roundw
                   case rel => exact ⟨k2 + 1, by omega, by simp, by rw [HDV.out], hidOf (HZ.out.trans ((HZA.out.trans ((bdrew wA).mono HZA.out.size)).mono HZ.out.size))⟩
                   case measure => simp [intOf]; omega
                ·have q2b : (x.jb == dd.id) = false := by simp [q2]
                 have Q2 := hidOf q2
                 clear q2
                 as_aux_lemma =>
                  have HDV : Hid (dnB dd A y (k2 + 1) = false) := hidOf (by rw [HD1.out]; simp [Q1.out, Q2.out])
                  refine wp_region_held_drew (S := fun (Y : World) => Y.cell? ⟨B7, 1, none⟩ = some (.int .i64 dd.ty) ∧ Y.cell? ⟨B9, 1, none⟩ = some (.int .i64 x.jb) ∧ Y.cell? ⟨B7, 0, none⟩ = some (.int .i64 dd.id)) (by kernel_rfl) ⟨j1, e1, j0⟩ (fun hHeld => ?_)
                  refine tkH 0 oRd_36 295 (.bool false) hHeld (by intro w hS; dsimp only [oRd_36] at hS ⊢; go_simp) ?_
                  try simp only [pA, pC, pD]
                  refine tkH 1 oRd_37 296 (.bool false) hHeld (by intro w hS; dsimp only [oRd_37] at hS ⊢; go_simp) ?_
                  try simp only [pA, pC, pD]
                  refine tkH 2 oRd_38 297 (.pointer (some ⟨B7, 1, none⟩)) hHeld (by intro w hS; dsimp only [oRd_38] at hS ⊢; go_simp) ?_
                  try simp only [pA, pC, pD]
                  refine tkH 3 oRd_39 298 (.int .i64 dd.ty) hHeld (by intro w hS; dsimp only [oRd_39] at hS ⊢; go_simp) ?_
                  try simp only [pA, pC, pD]
                  refine tkH 4 oRd_40 299 (.bool true) hHeld (by intro w hS; dsimp only [oRd_40] at hS ⊢; go_simp) ?_
                  try simp only [pA, pC, pD]
                  refine tkH 5 oRd_41 300 (.bool true) hHeld (by intro w hS; dsimp only [oRd_41] at hS ⊢; go_simp) ?_
                  try simp only [pA, pC, pD]
                  refine tkH 6 oRd_42 301 (.pointer (some ⟨B9, 1, none⟩)) hHeld (by intro w hS; dsimp only [oRd_42] at hS ⊢; go_simp) ?_
                  try simp only [pA, pC, pD]
                  refine tkH 7 oRd_43 302 (.int .i64 x.jb) hHeld (by intro w hS; dsimp only [oRd_43] at hS ⊢; go_simp) ?_
                  try simp only [pA, pC, pD]
                  refine tkH 8 oRd_44 303 (.pointer (some ⟨B7, 0, none⟩)) hHeld (by intro w hS; dsimp only [oRd_44] at hS ⊢; go_simp) ?_
                  try simp only [pA, pC, pD]
                  refine tkH 9 oRd_45 304 (.int .i64 dd.id) hHeld (by intro w hS; dsimp only [oRd_45] at hS ⊢; go_simp) ?_
                  try simp only [pA, pC, pD]
                  refine tkH 10 oRd_46 305 (.bool false) hHeld (by intro w hS; dsimp only [oRd_46] at hS ⊢; go_simp) ?_
                  try simp only [pA, pC, pD]
                  refine tkH 11 oRd_47 306 (.bool false) hHeld (by intro w hS; dsimp only [oRd_47] at hS ⊢; go_simp) ?_
                  try simp only [pA, pC, pD]
                  refine tkH 12 oRd_48 307 (.bool false) hHeld (by intro w hS; dsimp only [oRd_48] at hS ⊢; go_simp) ?_
                  try simp only [pA, pC, pD]
                  refine tkN 13 oRd_49 308 hHeld ?_
                  try simp only [pA, pC, pD]
                  refine tkN 14 oRd_50 309 hHeld ?_
                  try simp only [pA, pC, pD]
                  refine tkN 15 oRd_51 310 hHeld ?_
                  try simp only [pA, pC, pD]
                  refine tkN 16 oRd_52 311 hHeld ?_
                  try simp only [pA, pC, pD]
                  refine tkN 17 oRd_53 312 hHeld ?_
                  try simp only [pA, pC, pD]
                  refine tkH 18 oRd_54 313 (.bool false) hHeld (by intro w hS; dsimp only [oRd_54] at hS ⊢; go_simp) ?_
                  try simp only [pA, pC, pD]
                  refine tkH 19 oRd_55 314 (.bool false) hHeld (by intro w hS; dsimp only [oRd_55] at hS ⊢; go_simp) ?_
                  try simp only [pA, pC, pD]
                  refine tkN 20 oRd_56 315 hHeld ?_
                  try simp only [pA, pC, pD]
                  refine tkN 21 oRd_57 316 hHeld ?_
                  try simp only [pA, pC, pD]
                  refine tkN 22 oRd_58 317 hHeld ?_
                  try simp only [pA, pC, pD]
                  refine tkN 23 oRd_59 318 hHeld ?_
                  try simp only [pA, pC, pD]
                  refine tkN 24 oRd_60 319 hHeld ?_
                  try simp only [pA, pC, pD]
                  refine tkN 25 oRd_61 320 hHeld ?_
                  try simp only [pA, pC, pD]
                  refine tkN 26 oRd_62 321 hHeld ?_
                  try simp only [pA, pC, pD]
                  refine tkN 27 oRd_63 322 hHeld ?_
                  try simp only [pA, pC, pD]
                  refine tkH 28 oRd_64 323 (.bool false) hHeld (by intro w hS; dsimp only [oRd_64] at hS ⊢; go_simp) ?_
                  try simp only [pA, pC, pD]
                  refine tkH 29 oRd_65 324 (.bool false) hHeld (by intro w hS; dsimp only [oRd_65] at hS ⊢; go_simp) ?_
                  try simp only [pA, pC, pD]
                  refine tkN 30 oRd_66 325 hHeld ?_
                  try simp only [pA, pC, pD]
                  refine tkN 31 oRd_67 326 hHeld ?_
                  try simp only [pA, pC, pD]
                  refine tkN 32 oRd_68 327 hHeld ?_
                  try simp only [pA, pC, pD]
                  refine tkN 33 oRd_69 328 hHeld ?_
                  try simp only [pA, pC, pD]
                  refine tkN 34 oRd_70 329 hHeld ?_
                  try simp only [pA, pC, pD]
                  refine tkN 35 oRd_71 330 hHeld ?_
                  try simp only [pA, pC, pD]
                  refine tkN 36 oRd_72 331 hHeld ?_
                  try simp only [pA, pC, pD]
                  refine tkN 37 oRd_73 332 hHeld ?_
                  try simp only [pA, pC, pD]
                  refine tkH 38 oRd_74 333 (.bool false) hHeld (by intro w hS; dsimp only [oRd_74] at hS ⊢; go_simp) ?_
                  try simp only [pA, pC, pD]
                  refine tkH 39 oRd_75 334 (.bool false) hHeld (by intro w hS; dsimp only [oRd_75] at hS ⊢; go_simp) ?_
                  try simp only [pA, pC, pD]
                  refine tkN 40 oRd_76 335 hHeld ?_
                  try simp only [pA, pC, pD]
                  refine tkN 41 oRd_77 336 hHeld ?_
                  try simp only [pA, pC, pD]
                  refine tkN 42 oRd_78 337 hHeld ?_
                  try simp only [pA, pC, pD]
                  refine tkH 43 oRd_79 338 (.bool false) hHeld (by intro w hS; dsimp only [oRd_79] at hS ⊢; go_simp) ?_
                  try simp only [pA, pC, pD]
                  refine tkH 44 oRd_80 339 (.bool false) hHeld (by intro w hS; dsimp only [oRd_80] at hS ⊢; go_simp) ?_
                  try simp only [pA, pC, pD]
                  refine tkH 45 oRd_81 25 (.bool false) hHeld (by intro w hS; dsimp only [oRd_81] at hS ⊢; go_simp) ?_
                  try simp only [pA, pC, pD]
                  refine wpAnyH_done (by kernel_rfl) ?_ _
                  go_wp2
                  go_roundw
                  case rel => exact ⟨k2 + 1, by omega, by simp, by rw [HDV.out], hidOf (HZ.out.trans ((HZA.out.trans ((bdrew wA).mono HZA.out.size)).mono HZ.out.size))⟩
                  case measure => simp [intOf]; omega
               ·have q1b : (dd.ty == 2) = false := by simp [q1]
                have Q1 := hidOf q1
                clear q1
                as_aux_lemma =>
                 have HDV : Hid (dnB dd A y (k2 + 1) = false) := hidOf (by rw [HD1.out]; simp [Q1.out])
                 refine wp_region_held_drew (S := fun (Y : World) => Y.cell? ⟨B7, 1, none⟩ = some (.int .i64 dd.ty)) (by kernel_rfl) j1 (fun hHeld => ?_)
                 refine tkH 0 oRd_36 295 (.bool false) hHeld (by intro w hS; dsimp only [oRd_36] at hS ⊢; go_simp) ?_
                 try simp only [pA, pC, pD]
                 refine tkH 1 oRd_37 296 (.bool false) hHeld (by intro w hS; dsimp only [oRd_37] at hS ⊢; go_simp) ?_
                 try simp only [pA, pC, pD]
                 refine tkH 2 oRd_38 297 (.pointer (some ⟨B7, 1, none⟩)) hHeld (by intro w hS; dsimp only [oRd_38] at hS ⊢; go_simp) ?_
                 try simp only [pA, pC, pD]
                 refine tkH 3 oRd_39 298 (.int .i64 dd.ty) hHeld (by intro w hS; dsimp only [oRd_39] at hS ⊢; go_simp) ?_
                 try simp only [pA, pC, pD]
                 refine tkH 4 oRd_40 299 (.bool false) hHeld (by intro w hS; dsimp only [oRd_40] at hS ⊢; go_simp) ?_
                 try simp only [pA, pC, pD]
                 refine tkH 5 oRd_41 300 (.bool false) hHeld (by intro w hS; dsimp only [oRd_41] at hS ⊢; go_simp) ?_
                 try simp only [pA, pC, pD]
                 refine tkN 6 oRd_42 301 hHeld ?_
                 try simp only [pA, pC, pD]
                 refine tkN 7 oRd_43 302 hHeld ?_
                 try simp only [pA, pC, pD]
                 refine tkN 8 oRd_44 303 hHeld ?_
                 try simp only [pA, pC, pD]
                 refine tkN 9 oRd_45 304 hHeld ?_
                 try simp only [pA, pC, pD]
                 refine tkN 10 oRd_46 305 hHeld ?_
                 try simp only [pA, pC, pD]
                 refine tkH 11 oRd_47 306 (.bool false) hHeld (by intro w hS; dsimp only [oRd_47] at hS ⊢; go_simp) ?_
                 try simp only [pA, pC, pD]
                 refine tkH 12 oRd_48 307 (.bool false) hHeld (by intro w hS; dsimp only [oRd_48] at hS ⊢; go_simp) ?_
                 try simp only [pA, pC, pD]
                 refine tkN 13 oRd_49 308 hHeld ?_
                 try simp only [pA, pC, pD]
                 refine tkN 14 oRd_50 309 hHeld ?_
                 try simp only [pA, pC, pD]
                 refine tkN 15 oRd_51 310 hHeld ?_
                 try simp only [pA, pC, pD]
                 refine tkN 16 oRd_52 311 hHeld ?_
                 try simp only [pA, pC, pD]
                 refine tkN 17 oRd_53 312 hHeld ?_
                 try simp only [pA, pC, pD]
                 refine tkH 18 oRd_54 313 (.bool false) hHeld (by intro w hS; dsimp only [oRd_54] at hS ⊢; go_simp) ?_
                 try simp only [pA, pC, pD]
                 refine tkH 19 oRd_55 314 (.bool false) hHeld (by intro w hS; dsimp only [oRd_55] at hS ⊢; go_simp) ?_
                 try simp only [pA, pC, pD]
                 refine tkN 20 oRd_56 315 hHeld ?_
                 try simp only [pA, pC, pD]
                 refine tkN 21 oRd_57 316 hHeld ?_
                 try simp only [pA, pC, pD]
                 refine tkN 22 oRd_58 317 hHeld ?_
                 try simp only [pA, pC, pD]
                 refine tkN 23 oRd_59 318 hHeld ?_
                 try simp only [pA, pC, pD]
                 refine tkN 24 oRd_60 319 hHeld ?_
                 try simp only [pA, pC, pD]
                 refine tkN 25 oRd_61 320 hHeld ?_
                 try simp only [pA, pC, pD]
                 refine tkN 26 oRd_62 321 hHeld ?_
                 try simp only [pA, pC, pD]
                 refine tkN 27 oRd_63 322 hHeld ?_
                 try simp only [pA, pC, pD]
                 refine tkH 28 oRd_64 323 (.bool false) hHeld (by intro w hS; dsimp only [oRd_64] at hS ⊢; go_simp) ?_
                 try simp only [pA, pC, pD]
                 refine tkH 29 oRd_65 324 (.bool false) hHeld (by intro w hS; dsimp only [oRd_65] at hS ⊢; go_simp) ?_
                 try simp only [pA, pC, pD]
                 refine tkN 30 oRd_66 325 hHeld ?_
                 try simp only [pA, pC, pD]
                 refine tkN 31 oRd_67 326 hHeld ?_
                 try simp only [pA, pC, pD]
                 refine tkN 32 oRd_68 327 hHeld ?_
                 try simp only [pA, pC, pD]
                 refine tkN 33 oRd_69 328 hHeld ?_
                 try simp only [pA, pC, pD]
                 refine tkN 34 oRd_70 329 hHeld ?_
                 try simp only [pA, pC, pD]
                 refine tkN 35 oRd_71 330 hHeld ?_
                 try simp only [pA, pC, pD]
                 refine tkN 36 oRd_72 331 hHeld ?_
                 try simp only [pA, pC, pD]
                 refine tkN 37 oRd_73 332 hHeld ?_
                 try simp only [pA, pC, pD]
                 refine tkH 38 oRd_74 333 (.bool false) hHeld (by intro w hS; dsimp only [oRd_74] at hS ⊢; go_simp) ?_
                 try simp only [pA, pC, pD]
                 refine tkH 39 oRd_75 334 (.bool false) hHeld (by intro w hS; dsimp only [oRd_75] at hS ⊢; go_simp) ?_
                 try simp only [pA, pC, pD]
                 refine tkN 40 oRd_76 335 hHeld ?_
                 try simp only [pA, pC, pD]
                 refine tkN 41 oRd_77 336 hHeld ?_
                 try simp only [pA, pC, pD]
                 refine tkN 42 oRd_78 337 hHeld ?_
                 try simp only [pA, pC, pD]
                 refine tkH 43 oRd_79 338 (.bool false) hHeld (by intro w hS; dsimp only [oRd_79] at hS ⊢; go_simp) ?_
                 try simp only [pA, pC, pD]
                 refine tkH 44 oRd_80 339 (.bool false) hHeld (by intro w hS; dsimp only [oRd_80] at hS ⊢; go_simp) ?_
                 try simp only [pA, pC, pD]
                 refine tkH 45 oRd_81 25 (.bool false) hHeld (by intro w hS; dsimp only [oRd_81] at hS ⊢; go_simp) ?_
                 try simp only [pA, pC, pD]
                 refine wpAnyH_done (by kernel_rfl) ?_ _
                 go_wp2
                 go_roundw
                 case rel => exact ⟨k2 + 1, by omega, by simp, by rw [HDV.out], hidOf (HZ.out.trans ((HZA.out.trans ((bdrew wA).mono HZA.out.size)).mono HZ.out.size))⟩
                 case measure => simp [intOf]; omega
             ·have hkl : k2 = A.length := by omega
              subst hkl
              have hl3 : ¬ (A.length : Int) < (A.length : Int) := by omega
              rw [dnB_mem]
              have y1 : wr.cell? ⟨b9, off9 + k * 2, none⟩ = some (.int .i64 y.1) := (hb_cell HB3Z.out hQ9').trans (HC9.out 0 _ rfl)
              have y2 : wr.cell? ⟨b9, off9 + k * 2 + 1, none⟩ = some (.int .i64 y.2) := (hb_cell HB3Z.out hQ9').trans (HC9.out 1 _ rfl)
              have hi0 : ¬ ((k : Int) < 0) := by omega
              have hi1 : (k : Int) < (L.length : Int) := by omega
              have HFq := hidOf (own_kept HFO.out (fun q _ hq => (HZ.out.block q (Nat.lt_of_lt_of_le hq HY6.out.size)).trans (HY6.out.block q hq)))
              have HBq := hidOf (HBs.out.trans ((HY6.out.trans (HZ.out.mono HY6.out.size)).mono HBs.out.size))
              cases hd : decide (y ∈ dnV dd A) with
              | true =>
               have HEM := hidOf (emV_no dd A (L.take k) y (.inl (of_decide_eq_true hd)))
               clear hd
               go_wp2
               go_roundw
               case rel => exact ⟨k + 1, fa, fc, by omega, by simp, by rw [HTK.out, HEM.out], hidOf (by rw [HTK.out, HEM.out]; exact HFq.out), HBq⟩
               case measure => simp [intOf]; omega
              | false =>
               have HEM := hidOf (emV_yes dd A (L.take k) y (of_decide_eq_false hd) HVN.out)
               clear hd
               go_wp2_with (at_builtin; refine wpList_app1p _ rfl _ _ 64 rfl wc.heap.size 67 _ 2 16 Try.underlying64 info40 rfl (by decide) fa fc (emV dd A (L.take k)).length (fl sC (emV dd A (L.take k))) rfl (own_kept HFq.out (fun q _ hq => (below1 wr (.cells #[.int .i64 y.1, .int .i64 y.2] 67)).block q hq)) ⟨wr.heap.size, 0, none⟩ 1 (sC y) rfl rfl (newN wr (sC y) 67) (sC_one _) (by unfold maxLen; omega) (by omega) (by have := HBq.out.size; simp; omega) ?_; intro fa2 fc2 w20 ho hg hat; have HF20 := hidOf ho; have HG20 := hidOf hg; clear ho hg hat)
               go_roundw
               case rel => exact ⟨k + 1, fa2, fc2, by omega, by simp, by rw [HTK.out, HEM.out]; simp, hidOf (by rw [HTK.out, HEM.out, fl_snoc, List.length_append]; exact HF20.out), hidOf ((HBq.out.trans ((below1 wr (.cells #[.int .i64 y.1, .int .i64 y.2] 67)).mono HBq.out.size)).grown HG20.out (by have := HBq.out.size; simp; omega) (fun q hq => (own_blk2 HFq.out q (ob_slice' (ob_slice hq))).1))⟩
               case measure => simp [intOf]; omega
          ·subst hv
           have hg0 : decide ((0 : Int) ≤ (m2 : Int)) = true := by simp
           have hne : ¬ hoV dd A y = -1 := by rw [HHO.out]; omega
           have HEM := hidOf (emV_no dd A (L.take k) y (.inr hne))
           clear hne
           refine wp_region_held_drew (S := fun (Y : World) => Y.cell? ⟨B2, 0, none⟩ = some (.int .i64 ix) ∧ Y.cell? ⟨B2, 1, none⟩ = some (.int .i64 nx) ∧ Y.cell? ⟨B2, 2, none⟩ = some (.slice (some ⟨b, off, none⟩) J.length c2) ∧ Y.cell? ⟨B2, 3, none⟩ = some (.slice a3 n3 c3) ∧ Y.cell? ⟨B2, 4, none⟩ = some (.slice a4 Ln.length c4) ∧ Y.cell? ⟨B2, 5, none⟩ = some (.slice a5 A.length c5) ∧ Y.cell? ⟨B2, 6, none⟩ = some (.slice a6 n6 c6) ∧ Y.cell? ⟨B2, 7, none⟩ = some (.slice a7 n7 c7) ∧ Y.cell? ⟨B2, 8, none⟩ = some (.slice a8 n8 c8) ∧ Y.cell? ⟨B7, 0, none⟩ = some (.int .i64 dd.id) ∧ Y.cell? ⟨b9, off9 + k * 2, none⟩ = some (.int .i64 y.1) ∧ Y.cell? ⟨b9, off9 + k * 2 + 1, none⟩ = some (.int .i64 y.2)) (by kernel_rfl) ⟨t0, t1, t2, t3, t4, t5, t6, t7, t8, j0, y1, y2⟩ (fun hHeld => ?_)
           refine tkH 0 oRd_22 268 (.agg #[.int .i64 ix, .int .i64 nx, .slice (some ⟨b, off, none⟩) J.length c2, .slice a3 n3 c3, .slice a4 Ln.length c4, .slice a5 A.length c5, .slice a6 n6 c6, .slice a7 n7 c7, .slice a8 n8 c8]) hHeld (by intro w hS; dsimp only [oRd_22] at hS ⊢; go_simp) ?_
           try simp only [pA, pC, pD]
           refine tkH 1 oRd_23 269 (.pointer (some ⟨B7, 0, none⟩)) hHeld (by intro w hS; dsimp only [oRd_23] at hS ⊢; go_simp) ?_
           try simp only [pA, pC, pD]
           refine tkH 2 oRd_24 270 (.int .i64 dd.id) hHeld (by intro w hS; dsimp only [oRd_24] at hS ⊢; go_simp) ?_
           try simp only [pA, pC, pD]
           refine tkH 3 oRd_25 271 (.slice (some ⟨b9, off9, none⟩) L.length lc) hHeld (by intro w hS; dsimp only [oRd_25] at hS ⊢; go_simp) ?_
           try simp only [pA, pC, pD]
           refine tkH 4 oRd_26 272 (.int .i64 (k : Int)) hHeld (by intro w hS; dsimp only [oRd_26] at hS ⊢; go_simp) ?_
           try simp only [pA, pC, pD]
           refine tkH 5 oRd_27 273 (.pointer (some ⟨b9, off9 + k * 2, none⟩)) hHeld (by intro w hS; dsimp only [oRd_27] at hS ⊢; go_simp) ?_
           try simp only [pA, pC, pD]
           refine tkH 6 oRd_28 274 (.pointer (some ⟨b9, off9 + k * 2, none⟩)) hHeld (by intro w hS; dsimp only [oRd_28] at hS ⊢; go_simp) ?_
           try simp only [pA, pC, pD]
           refine tkH 7 oRd_29 275 (.int .i64 y.1) hHeld (by intro w hS; dsimp only [oRd_29] at hS ⊢; go_simp) ?_
           try simp only [pA, pC, pD]
           refine tkH 8 oRd_30 276 (.slice (some ⟨b9, off9, none⟩) L.length lc) hHeld (by intro w hS; dsimp only [oRd_30] at hS ⊢; go_simp) ?_
           try simp only [pA, pC, pD]
           refine tkH 9 oRd_31 277 (.int .i64 (k : Int)) hHeld (by intro w hS; dsimp only [oRd_31] at hS ⊢; go_simp) ?_
           try simp only [pA, pC, pD]
           refine tkH 10 oRd_32 278 (.pointer (some ⟨b9, off9 + k * 2, none⟩)) hHeld (by intro w hS; dsimp only [oRd_32] at hS ⊢; go_simp) ?_
           try simp only [pA, pC, pD]
           refine tkH 11 oRd_33 279 (.pointer (some ⟨b9, off9 + k * 2 + 1, none⟩)) hHeld (by intro w hS; dsimp only [oRd_33] at hS ⊢; go_simp) ?_
           try simp only [pA, pC, pD]
           refine tkH 12 oRd_34 280 (.int .i64 y.2) hHeld (by intro w hS; dsimp only [oRd_34] at hS ⊢; go_simp) ?_
           try simp only [pA, pC, pD]
           refine wpAnyH_ready (rs := [13]) (by kernel_rfl) (by simp) ?_
           refine AllReadyH.cons (o := { dst := some 281, op := Op.call { callee := Callee.value (Operand.func 13), args := #[Operand.tmp 268, Operand.tmp 270, Operand.tmp 275, Operand.tmp 280], argTypes := #[29, 3, 3, 3] }, type := 3, pos := "ref.go:95", after := #[{ on := 0, ground := Ground.data }, { on := 2, ground := Ground.data }, { on := 7, ground := Ground.data }, { on := 12, ground := Ground.data }], guard := none }) rfl (fun K hK => ?_) AllReadyH.nil
           go_simp
           refine HSLc.out.mono ?_
           rintro e w6 ⟨rfl, hb6⟩
           have HY6 := hidOf ((bdrew wr).trans (hb6.mono (bdrew wr).size))
           clear hb6
           refine hK.out _ _ ⟨(hb_cell HY6.out l2).trans t0, (hb_cell HY6.out l2).trans t1, (hb_cell HY6.out l2).trans t2, (hb_cell HY6.out l2).trans t3, (hb_cell HY6.out l2).trans t4, (hb_cell HY6.out l2).trans t5, (hb_cell HY6.out l2).trans t6, (hb_cell HY6.out l2).trans t7, (hb_cell HY6.out l2).trans t8, (hb_cell HY6.out l7).trans j0, (hb_cell HY6.out l9).trans y1, (hb_cell HY6.out l9).trans y2⟩ (fun hHeld1 => ?_)
           clear hK K
           try simp only [Act.put, List.setIfInBounds_toArray, List.set_cons_zero, List.set_cons_succ]
           refine tkH 14 oRd_35 282 (.bool true) hHeld1 (by intro w hS; dsimp only [oRd_35] at hS ⊢; go_simp) ?_
           try simp only [pA, pC, pD]
           refine wpAnyH_done (by kernel_rfl) ?_ _
           go_wp2
           go_roundw
           case rel => exact ⟨k + 1, fa, fc, by omega, by simp, by rw [HTK.out, HEM.out], hidOf (by rw [HTK.out, HEM.out]; exact own_kept HFO.out (fun q _ hq => HY6.out.block q hq)), hidOf (HBs.out.trans (HY6.out.mono HBs.out.size))⟩
           case measure => simp [intOf]; omega
         ·have hkl : k = L.length := by omega
          subst hkl
          have hlt3 : ¬ (L.length : Int) < (L.length : Int) := by omega
          have hf := HFO.out
          rw [List.take_length] at hf ⊢
          have HFF := hidOf hf
          clear hf HFO
          go_wp2
          go_ret2
          have hS : dfS Lj Ln A job = T2.map (idA A) := by unfold dfS; rw [if_neg (by have := HDJ.out.2; omega), HDJ.out.1, HT2.out]
          have hF : dfF Lj Ln A job = emV dd A L := by unfold dfF; rw [if_neg (by have := HDJ.out.2; omega), HDJ.out.1, HL.out]
          rw [hS, hF, List.length_map]
          exact ⟨sa, sc, fa, fc, rfl, (own_loM (own_kept HS.out (fun q _ hq => HBs.out.block q hq)) HW3.out.size), own_loM HFF.out (Nat.le_trans HW3.out.size HBr.out.size), HW3.out.trans (HB3s.out.mono HW3.out.size)⟩
     case first =>
      as_aux_lemma =>
        by_cases hty : dd.ty = 1
        ·have hq : (dd.ty == 1) = true := by simp [hty]
         rw [hq]
         have HTY := hidOf hty
         clear hty
         have HPF := hidOf ((own_fl (y := 8) iC_len HP.out (by omega)).kept (w' := wq) (S' := fun q => q < wq.heap.size) (fun _ _ => rfl) (fun q hq => hq.lt))
         go_wp2
         clear t5 l2 j1 l7
         go_loopw [16, 17] (fun c i wr => ∃ (k n : Nat), k ≤ L.length ∧ i = .int .i64 k ∧ c = .int .i64 (n : Nat) ∧ Hid (n = mvN dd A T (L.take k)) ∧ Hid (Below wq.heap.size wq wr)) (fun _ i _ => L.length - (intOf i).toNat)
         case atStart => exact ⟨0, 0, Nat.zero_le _, rfl, rfl, hidOf (by simp [mvN]), hidOf (Below.refl _ _)⟩
         case round =>
          as_aux_lemma =>
           obtain ⟨k, n, hk3, rfl, rfl, HN2, HBs⟩ := hrel
           have hnk : n ≤ k := by rw [HN2.out]; exact Nat.le_trans (mvN_len dd A T _) (by simp; omega)
           have HB3s := hidOf (HBr.out.trans (HBs.out.mono HBr.out.size))
           by_cases hlt2 : k < L.length
           ·obtain ⟨b9, off9, ha9, hQ9, hc9⟩ := HLF.out.at k hlt2
            have hQ9' : b9 < w3.heap.size := hQ9
            obtain ⟨y, hy⟩ : ∃ y, L[k] = y := ⟨_, rfl⟩
            have HTK : Hid (L.take (k + 1) = L.take k ++ [y]) := hidOf (by rw [take_snoc L k hlt2, hy])
            rw [hy] at hc9
            clear hy
            subst ha9
            have HSLc := hidOf (refSlot_any ⟨ix, nx, some ⟨b, off, none⟩, J.length, c2, a3, n3, c3, a4, Ln.length, c4, a5, A.length, c5, a6, n6, c6, a7, n7, c7, a8, n8, c8⟩ dd.id y.1 y.2 A wr.drew rfl (HA3.out.kept (fun q hq => HB3s.out.block q hq) (fun q hq => Nat.lt_of_lt_of_le hq HB3s.out.size)))
            have hho := hoV_fi dd A y
            have hrng := fi_rng (slB dd.id y.1 y.2) A
            obtain ⟨vv, hvv⟩ : ∃ vv, fi (slB dd.id y.1 y.2) A = vv := ⟨_, rfl⟩
            rw [hvv] at HSLc hho hrng
            have HHO := hidOf hho
            clear hvv hho
            have t0 : wr.cell? ⟨B2, 0, none⟩ = some (.int .i64 ix) := (hb_cell HB3s.out l23).trans (HT3.out 0 _ rfl)
            have t1 : wr.cell? ⟨B2, 1, none⟩ = some (.int .i64 nx) := (hb_cell HB3s.out l23).trans (HT3.out 1 _ rfl)
            have t2 : wr.cell? ⟨B2, 2, none⟩ = some (.slice (some ⟨b, off, none⟩) J.length c2) := (hb_cell HB3s.out l23).trans (HT3.out 2 _ rfl)
            have t3 : wr.cell? ⟨B2, 3, none⟩ = some (.slice a3 n3 c3) := (hb_cell HB3s.out l23).trans (HT3.out 3 _ rfl)
            have t4 : wr.cell? ⟨B2, 4, none⟩ = some (.slice a4 Ln.length c4) := (hb_cell HB3s.out l23).trans (HT3.out 4 _ rfl)
            have t5 : wr.cell? ⟨B2, 5, none⟩ = some (.slice a5 A.length c5) := (hb_cell HB3s.out l23).trans (HT3.out 5 _ rfl)
            have t6 : wr.cell? ⟨B2, 6, none⟩ = some (.slice a6 n6 c6) := (hb_cell HB3s.out l23).trans (HT3.out 6 _ rfl)
            have t7 : wr.cell? ⟨B2, 7, none⟩ = some (.slice a7 n7 c7) := (hb_cell HB3s.out l23).trans (HT3.out 7 _ rfl)
            have t8 : wr.cell? ⟨B2, 8, none⟩ = some (.slice a8 n8 c8) := (hb_cell HB3s.out l23).trans (HT3.out 8 _ rfl)
            have j0 : wr.cell? ⟨B7, 0, none⟩ = some (.int .i64 dd.id) := (hb_cell HB3s.out l73).trans (HJ3.out 0 _ rfl)
            have j1 : wr.cell? ⟨B7, 1, none⟩ = some (.int .i64 dd.ty) := (hb_cell HB3s.out l73).trans (HJ3.out 1 _ rfl)
            have j2 : wr.cell? ⟨B7, 2, none⟩ = some (.int .i64 dd.pr) := (hb_cell HB3s.out l73).trans (HJ3.out 2 _ rfl)
            have j3 : wr.cell? ⟨B7, 3, none⟩ = some (.int .i64 dd.pa) := (hb_cell HB3s.out l73).trans (HJ3.out 3 _ rfl)
            have j4 : wr.cell? ⟨B7, 4, none⟩ = some (.slice ga dd.gs.length gc) := (hb_cell HB3s.out l73).trans (HJ3.out 4 _ rfl)
            have j5 : wr.cell? ⟨B7, 5, none⟩ = some (.int .i64 dd.ve) := (hb_cell HB3s.out l73).trans (HJ3.out 5 _ rfl)
            have j6 : wr.cell? ⟨B7, 6, none⟩ = some (.bool dd.sd) := (hb_cell HB3s.out l73).trans (HJ3.out 6 _ rfl)
            have y1 : wr.cell? ⟨b9, off9 + k * 2, none⟩ = some (.int .i64 y.1) := (hb_cell HB3s.out hQ9').trans (hc9 0 _ rfl)
            have y2 : wr.cell? ⟨b9, off9 + k * 2 + 1, none⟩ = some (.int .i64 y.2) := (hb_cell HB3s.out hQ9').trans (hc9 1 _ rfl)
            have l2 : B2 < wr.heap.size := lt_of_cell t0
            have l7 : B7 < wr.heap.size := lt_of_cell j0
            have l9 : b9 < wr.heap.size := lt_of_cell y1
            have hi0 : ¬ ((k : Int) < 0) := by omega
            have hi1 : (k : Int) < (L.length : Int) := by omega
            clear hc9 hQ9
            go_upto_region 27 with (fail)
            refine wp_region_held_drew (S := fun (Y : World) => Y.cell? ⟨B2, 0, none⟩ = some (.int .i64 ix) ∧ Y.cell? ⟨B2, 1, none⟩ = some (.int .i64 nx) ∧ Y.cell? ⟨B2, 2, none⟩ = some (.slice (some ⟨b, off, none⟩) J.length c2) ∧ Y.cell? ⟨B2, 3, none⟩ = some (.slice a3 n3 c3) ∧ Y.cell? ⟨B2, 4, none⟩ = some (.slice a4 Ln.length c4) ∧ Y.cell? ⟨B2, 5, none⟩ = some (.slice a5 A.length c5) ∧ Y.cell? ⟨B2, 6, none⟩ = some (.slice a6 n6 c6) ∧ Y.cell? ⟨B2, 7, none⟩ = some (.slice a7 n7 c7) ∧ Y.cell? ⟨B2, 8, none⟩ = some (.slice a8 n8 c8) ∧ Y.cell? ⟨B7, 0, none⟩ = some (.int .i64 dd.id) ∧ Y.cell? ⟨b9, off9 + k * 2, none⟩ = some (.int .i64 y.1) ∧ Y.cell? ⟨b9, off9 + k * 2 + 1, none⟩ = some (.int .i64 y.2)) (by kernel_rfl) ⟨t0, t1, t2, t3, t4, t5, t6, t7, t8, j0, y1, y2⟩ (fun hHeld => ?_)
            refine tkH 0 oRd_82 142 (.agg #[.int .i64 ix, .int .i64 nx, .slice (some ⟨b, off, none⟩) J.length c2, .slice a3 n3 c3, .slice a4 Ln.length c4, .slice a5 A.length c5, .slice a6 n6 c6, .slice a7 n7 c7, .slice a8 n8 c8]) hHeld (by intro w hS; dsimp only [oRd_82] at hS ⊢; go_simp) ?_
            try simp only [pA, pC, pD]
            refine tkH 1 oRd_83 143 (.pointer (some ⟨B7, 0, none⟩)) hHeld (by intro w hS; dsimp only [oRd_83] at hS ⊢; go_simp) ?_
            try simp only [pA, pC, pD]
            refine tkH 2 oRd_84 144 (.int .i64 dd.id) hHeld (by intro w hS; dsimp only [oRd_84] at hS ⊢; go_simp) ?_
            try simp only [pA, pC, pD]
            refine tkH 3 oRd_85 145 (.slice (some ⟨b9, off9, none⟩) L.length lc) hHeld (by intro w hS; dsimp only [oRd_85] at hS ⊢; go_simp) ?_
            try simp only [pA, pC, pD]
            refine tkH 4 oRd_86 146 (.int .i64 (k : Int)) hHeld (by intro w hS; dsimp only [oRd_86] at hS ⊢; go_simp) ?_
            try simp only [pA, pC, pD]
            refine tkH 5 oRd_87 147 (.pointer (some ⟨b9, off9 + k * 2, none⟩)) hHeld (by intro w hS; dsimp only [oRd_87] at hS ⊢; go_simp) ?_
            try simp only [pA, pC, pD]
            refine tkH 6 oRd_88 148 (.pointer (some ⟨b9, off9 + k * 2, none⟩)) hHeld (by intro w hS; dsimp only [oRd_88] at hS ⊢; go_simp) ?_
            try simp only [pA, pC, pD]
            refine tkH 7 oRd_89 149 (.int .i64 y.1) hHeld (by intro w hS; dsimp only [oRd_89] at hS ⊢; go_simp) ?_
            try simp only [pA, pC, pD]
            refine tkH 8 oRd_90 150 (.slice (some ⟨b9, off9, none⟩) L.length lc) hHeld (by intro w hS; dsimp only [oRd_90] at hS ⊢; go_simp) ?_
            try simp only [pA, pC, pD]
            refine tkH 9 oRd_91 151 (.int .i64 (k : Int)) hHeld (by intro w hS; dsimp only [oRd_91] at hS ⊢; go_simp) ?_
            try simp only [pA, pC, pD]
            refine tkH 10 oRd_92 152 (.pointer (some ⟨b9, off9 + k * 2, none⟩)) hHeld (by intro w hS; dsimp only [oRd_92] at hS ⊢; go_simp) ?_
            try simp only [pA, pC, pD]
            refine tkH 11 oRd_93 153 (.pointer (some ⟨b9, off9 + k * 2 + 1, none⟩)) hHeld (by intro w hS; dsimp only [oRd_93] at hS ⊢; go_simp) ?_
            try simp only [pA, pC, pD]
            refine tkH 12 oRd_94 154 (.int .i64 y.2) hHeld (by intro w hS; dsimp only [oRd_94] at hS ⊢; go_simp) ?_
            try simp only [pA, pC, pD]
            refine wpAnyH_ready (rs := [13]) (by kernel_rfl) (by simp) ?_
            refine AllReadyH.cons (o := { dst := some 155, op := Op.call { callee := Callee.value (Operand.func 13), args := #[Operand.tmp 142, Operand.tmp 144, Operand.tmp 149, Operand.tmp 154], argTypes := #[29, 3, 3, 3] }, type := 3, pos := "ref.go:76", after := #[{ on := 0, ground := Ground.data }, { on := 2, ground := Ground.data }, { on := 7, ground := Ground.data }, { on := 12, ground := Ground.data }], guard := none }) rfl (fun K hK => ?_) AllReadyH.nil
            go_simp
            refine HSLc.out.mono ?_
            rintro e w6 ⟨rfl, hb6⟩
            have HY6 := hidOf ((bdrew wr).trans (hb6.mono (bdrew wr).size))
            clear hb6
            refine hK.out _ _ ⟨(hb_cell HY6.out l2).trans t0, (hb_cell HY6.out l2).trans t1, (hb_cell HY6.out l2).trans t2, (hb_cell HY6.out l2).trans t3, (hb_cell HY6.out l2).trans t4, (hb_cell HY6.out l2).trans t5, (hb_cell HY6.out l2).trans t6, (hb_cell HY6.out l2).trans t7, (hb_cell HY6.out l2).trans t8, (hb_cell HY6.out l7).trans j0, (hb_cell HY6.out l9).trans y1, (hb_cell HY6.out l9).trans y2⟩ (fun hHeld1 => ?_)
            clear hK K
            try simp only [Act.put, List.setIfInBounds_toArray, List.set_cons_zero, List.set_cons_succ]
            refine tkH 14 oRd_95 18 (.int .i64 vv) hHeld1 (by intro w hS; dsimp only [oRd_95] at hS ⊢; go_simp) ?_
            try simp only [pA, pC, pD]
            refine wpAnyH_done (by kernel_rfl) ?_ _
            have ut5 := (hb_cell HY6.out l2).trans t5
            have uj5 := (hb_cell HY6.out l7).trans j5
            clear t0 t1 t2 t3 t4 t5 t6 t7 t8 j0 j1 j2 j3 j4 j5 j6 y1 y2 l2 l7 l9 hi0 hi1 hHeld hHeld1
            have HIN := hidOf (in_any T pa pc vv w6 (HPF.out.kept (fun q hq => (HY6.out.block q (Nat.lt_of_lt_of_le hq HBs.out.size)).trans (HBs.out.block q hq)) (fun q hq => by have := HBs.out.size; have := HY6.out.size; have : q < wq.heap.size := hq; show q < w6.heap.size; omega)))
            go_upto_region 29 with (go_at_call 41; refine HIN.out.mono ?_; rintro e w7 ⟨rfl, hb7⟩; have HY7 := hidOf (HY6.out.trans (hb7.mono HY6.out.size)); have ut5 := (hb_cell hb7 (lt_of_cell ut5)).trans ut5; have uj5 := (hb_cell hb7 (lt_of_cell uj5)).trans uj5; clear hb7)
            rcases hrng with hv | ⟨m2, hv, hm2⟩
            ·subst hv
             have hlt0 : decide ((-1 : Int) < 0) = true := by decide
             obtain ⟨bT, hbT⟩ : ∃ bT, decide ((-1 : Int) ∈ T) = bT := ⟨_, rfl⟩
             rw [hbT]
             clear hbT
             cases bT with
             | true =>
              as_aux_lemma =>
               refine wp_region_held_drew (S := fun (_Y : World) => True) (by kernel_rfl) trivial (fun hHeld => ?_)
               refine tkH 0 oRd_96 159 (.int .i64 (-1)) hHeld (by intro w hS; dsimp only [oRd_96] at hS ⊢; go_simp) ?_
               try simp only [pA, pC, pD]
               refine tkH 1 oRd_97 160 (.bool true) hHeld (by intro w hS; dsimp only [oRd_97] at hS ⊢; go_simp) ?_
               try simp only [pA, pC, pD]
               refine tkH 2 oRd_98 161 (.bool true) hHeld (by intro w hS; dsimp only [oRd_98] at hS ⊢; go_simp) ?_
               try simp only [pA, pC, pD]
               refine tkN 3 oRd_99 162 hHeld ?_
               try simp only [pA, pC, pD]
               refine tkH 4 oRd_100 163 (.bool true) hHeld (by intro w hS; dsimp only [oRd_100] at hS ⊢; go_simp) ?_
               try simp only [pA, pC, pD]
               refine tkH 5 oRd_101 164 (.bool true) hHeld (by intro w hS; dsimp only [oRd_101] at hS ⊢; go_simp) ?_
               try simp only [pA, pC, pD]
               refine tkN 6 oRd_102 165 hHeld ?_
               try simp only [pA, pC, pD]
               refine tkN 7 oRd_103 166 hHeld ?_
               try simp only [pA, pC, pD]
               refine tkN 8 oRd_104 167 hHeld ?_
               try simp only [pA, pC, pD]
               refine tkN 9 oRd_105 168 hHeld ?_
               try simp only [pA, pC, pD]
               refine tkN 10 oRd_106 169 hHeld ?_
               try simp only [pA, pC, pD]
               refine tkN 11 oRd_107 170 hHeld ?_
               try simp only [pA, pC, pD]
               refine tkH 12 oRd_108 171 (.bool true) hHeld (by intro w hS; dsimp only [oRd_108] at hS ⊢; go_simp) ?_
               try simp only [pA, pC, pD]
               refine tkH 13 oRd_109 172 (.bool true) hHeld (by intro w hS; dsimp only [oRd_109] at hS ⊢; go_simp) ?_
               try simp only [pA, pC, pD]
               refine tkN 14 oRd_110 173 hHeld ?_
               try simp only [pA, pC, pD]
               refine tkN 15 oRd_111 174 hHeld ?_
               try simp only [pA, pC, pD]
               refine tkN 16 oRd_112 175 hHeld ?_
               try simp only [pA, pC, pD]
               refine tkN 17 oRd_113 176 hHeld ?_
               try simp only [pA, pC, pD]
               refine tkN 18 oRd_114 177 hHeld ?_
               try simp only [pA, pC, pD]
               refine tkN 19 oRd_115 178 hHeld ?_
               try simp only [pA, pC, pD]
               refine tkN 20 oRd_116 179 hHeld ?_
               try simp only [pA, pC, pD]
               refine tkN 21 oRd_117 180 hHeld ?_
               try simp only [pA, pC, pD]
               refine tkN 22 oRd_118 181 hHeld ?_
               try simp only [pA, pC, pD]
               refine tkN 23 oRd_119 182 hHeld ?_
               try simp only [pA, pC, pD]
               refine tkN 24 oRd_120 183 hHeld ?_
               try simp only [pA, pC, pD]
               refine tkN 25 oRd_121 184 hHeld ?_
               try simp only [pA, pC, pD]
               refine tkN 26 oRd_122 185 hHeld ?_
               try simp only [pA, pC, pD]
               refine tkN 27 oRd_123 186 hHeld ?_
               try simp only [pA, pC, pD]
               refine tkN 28 oRd_124 187 hHeld ?_
               try simp only [pA, pC, pD]
               refine tkN 29 oRd_125 188 hHeld ?_
               try simp only [pA, pC, pD]
               refine tkN 30 oRd_126 189 hHeld ?_
               try simp only [pA, pC, pD]
               refine tkN 31 oRd_127 190 hHeld ?_
               try simp only [pA, pC, pD]
               refine tkH 32 oRd_128 191 (.bool true) hHeld (by intro w hS; dsimp only [oRd_128] at hS ⊢; go_simp) ?_
               try simp only [pA, pC, pD]
               refine wpAnyH_done (by kernel_rfl) ?_ _
               have HMV : Hid (mvB dd A T (hoV dd A y) = true) := hidOf (by rw [HHO.out]; rfl)
               go_wp2
               go_roundw
               case rel => first | exact ⟨k + 1, by omega, by simp, mvN dd A T (L.take (k + 1)), by rw [HTK.out, mvN_yes _ _ _ _ _ HMV.out, ← HN2.out]; simp, hidOf rfl, hidOf (HBs.out.trans ((HY7.out.trans ((bdrew w7).mono HY7.out.size)).mono HBs.out.size))⟩ | exact ⟨k + 1, mvN dd A T (L.take (k + 1)), by omega, by simp, by rw [HTK.out, mvN_yes _ _ _ _ _ HMV.out, ← HN2.out]; simp, hidOf rfl, hidOf (HBs.out.trans ((HY7.out.trans ((bdrew w7).mono HY7.out.size)).mono HBs.out.size))⟩
               case measure => simp [intOf]; omega
             | false =>
              as_aux_lemma =>
               refine wp_region_held_drew (S := fun (_Y : World) => True) (by kernel_rfl) trivial (fun hHeld => ?_)
               refine tkH 0 oRd_96 159 (.int .i64 (-1)) hHeld (by intro w hS; dsimp only [oRd_96] at hS ⊢; go_simp) ?_
               try simp only [pA, pC, pD]
               refine tkH 1 oRd_97 160 (.bool true) hHeld (by intro w hS; dsimp only [oRd_97] at hS ⊢; go_simp) ?_
               try simp only [pA, pC, pD]
               refine tkH 2 oRd_98 161 (.bool true) hHeld (by intro w hS; dsimp only [oRd_98] at hS ⊢; go_simp) ?_
               try simp only [pA, pC, pD]
               refine tkN 3 oRd_99 162 hHeld ?_
               try simp only [pA, pC, pD]
               refine tkH 4 oRd_100 163 (.bool true) hHeld (by intro w hS; dsimp only [oRd_100] at hS ⊢; go_simp) ?_
               try simp only [pA, pC, pD]
               refine tkH 5 oRd_101 164 (.bool true) hHeld (by intro w hS; dsimp only [oRd_101] at hS ⊢; go_simp) ?_
               try simp only [pA, pC, pD]
               refine tkN 6 oRd_102 165 hHeld ?_
               try simp only [pA, pC, pD]
               refine tkN 7 oRd_103 166 hHeld ?_
               try simp only [pA, pC, pD]
               refine tkN 8 oRd_104 167 hHeld ?_
               try simp only [pA, pC, pD]
               refine tkN 9 oRd_105 168 hHeld ?_
               try simp only [pA, pC, pD]
               refine tkN 10 oRd_106 169 hHeld ?_
               try simp only [pA, pC, pD]
               refine tkN 11 oRd_107 170 hHeld ?_
               try simp only [pA, pC, pD]
               refine tkH 12 oRd_108 171 (.bool true) hHeld (by intro w hS; dsimp only [oRd_108] at hS ⊢; go_simp) ?_
               try simp only [pA, pC, pD]
               refine tkH 13 oRd_109 172 (.bool true) hHeld (by intro w hS; dsimp only [oRd_109] at hS ⊢; go_simp) ?_
               try simp only [pA, pC, pD]
               refine tkN 14 oRd_110 173 hHeld ?_
               try simp only [pA, pC, pD]
               refine tkN 15 oRd_111 174 hHeld ?_
               try simp only [pA, pC, pD]
               refine tkN 16 oRd_112 175 hHeld ?_
               try simp only [pA, pC, pD]
               refine tkN 17 oRd_113 176 hHeld ?_
               try simp only [pA, pC, pD]
               refine tkN 18 oRd_114 177 hHeld ?_
               try simp only [pA, pC, pD]
               refine tkN 19 oRd_115 178 hHeld ?_
               try simp only [pA, pC, pD]
               refine tkN 20 oRd_116 179 hHeld ?_
               try simp only [pA, pC, pD]
               refine tkN 21 oRd_117 180 hHeld ?_
               try simp only [pA, pC, pD]
               refine tkN 22 oRd_118 181 hHeld ?_
               try simp only [pA, pC, pD]
               refine tkN 23 oRd_119 182 hHeld ?_
               try simp only [pA, pC, pD]
               refine tkN 24 oRd_120 183 hHeld ?_
               try simp only [pA, pC, pD]
               refine tkN 25 oRd_121 184 hHeld ?_
               try simp only [pA, pC, pD]
               refine tkN 26 oRd_122 185 hHeld ?_
               try simp only [pA, pC, pD]
               refine tkN 27 oRd_123 186 hHeld ?_
               try simp only [pA, pC, pD]
               refine tkN 28 oRd_124 187 hHeld ?_
               try simp only [pA, pC, pD]
               refine tkN 29 oRd_125 188 hHeld ?_
               try simp only [pA, pC, pD]
               refine tkN 30 oRd_126 189 hHeld ?_
               try simp only [pA, pC, pD]
               refine tkN 31 oRd_127 190 hHeld ?_
               try simp only [pA, pC, pD]
               refine tkH 32 oRd_128 191 (.bool true) hHeld (by intro w hS; dsimp only [oRd_128] at hS ⊢; go_simp) ?_
               try simp only [pA, pC, pD]
               refine wpAnyH_done (by kernel_rfl) ?_ _
               have HMV : Hid (mvB dd A T (hoV dd A y) = true) := hidOf (by rw [HHO.out]; rfl)
               go_wp2
               go_roundw
               case rel => first | exact ⟨k + 1, by omega, by simp, mvN dd A T (L.take (k + 1)), by rw [HTK.out, mvN_yes _ _ _ _ _ HMV.out, ← HN2.out]; simp, hidOf rfl, hidOf (HBs.out.trans ((HY7.out.trans ((bdrew w7).mono HY7.out.size)).mono HBs.out.size))⟩ | exact ⟨k + 1, mvN dd A T (L.take (k + 1)), by omega, by simp, by rw [HTK.out, mvN_yes _ _ _ _ _ HMV.out, ← HN2.out]; simp, hidOf rfl, hidOf (HBs.out.trans ((HY7.out.trans ((bdrew w7).mono HY7.out.size)).mono HBs.out.size))⟩
               case measure => simp [intOf]; omega
            ·subst hv
             obtain ⟨b1, off1, ha1, hQ1, hc1⟩ := HA3.out.at m2 hm2
             have hQ1' : b1 < w3.heap.size := hQ1
             obtain ⟨x, hx⟩ : ∃ x, A[m2] = x := ⟨_, rfl⟩
             have HMA := hidOf (mvB_at dd A T m2 hm2 x hx)
             rw [hx] at hc1
             clear hx
             rw [ha1] at ut5
             have HYB := hidOf (HB3s.out.trans (HY7.out.mono HB3s.out.size))
             have ux9 : w7.cell? ⟨b1, off1 + m2 * 11 + 9, none⟩ = some (.bool x.sp) := (hb_cell HYB.out hQ1').trans (hc1 9 _ rfl)
             have ux2 : w7.cell? ⟨b1, off1 + m2 * 11 + 2, none⟩ = some (.int .i64 x.ve) := (hb_cell HYB.out hQ1').trans (hc1 2 _ rfl)
             have ux10 : w7.cell? ⟨b1, off1 + m2 * 11 + 10, none⟩ = some (.int .i64 x.st) := (hb_cell HYB.out hQ1').trans (hc1 10 _ rfl)
             have ul1 : b1 < w7.heap.size := lt_of_cell ux2
             have hm0 : ¬ ((m2 : Int) < 0) := by omega
             have hm1 : (m2 : Int) < (A.length : Int) := by omega
             have hmd : decide ((m2 : Int) < 0) = false := by simp
             clear hc1 hQ1 ha1
             cases hin : decide ((m2 : Int) ∈ T) with
             | true =>
              have HINB := hidOf hin
              clear hin
              as_aux_lemma =>
               refine wp_region_held_drew (S := fun (_Y : World) => True) (by kernel_rfl) trivial (fun hHeld => ?_)
               refine tkH 0 oRd_96 159 (.int .i64 (m2 : Int)) hHeld (by intro w hS; dsimp only [oRd_96] at hS ⊢; go_simp) ?_
               try simp only [pA, pC, pD]
               refine tkH 1 oRd_97 160 (.bool false) hHeld (by intro w hS; dsimp only [oRd_97] at hS ⊢; go_simp) ?_
               try simp only [pA, pC, pD]
               refine tkH 2 oRd_98 161 (.bool false) hHeld (by intro w hS; dsimp only [oRd_98] at hS ⊢; go_simp) ?_
               try simp only [pA, pC, pD]
               refine tkH 3 oRd_99 162 (.bool true) hHeld (by intro w hS; dsimp only [oRd_99] at hS ⊢; go_simp) ?_
               try simp only [pA, pC, pD]
               refine tkH 4 oRd_100 163 (.bool true) hHeld (by intro w hS; dsimp only [oRd_100] at hS ⊢; go_simp) ?_
               try simp only [pA, pC, pD]
               refine tkH 5 oRd_101 164 (.bool true) hHeld (by intro w hS; dsimp only [oRd_101] at hS ⊢; go_simp) ?_
               try simp only [pA, pC, pD]
               refine tkN 6 oRd_102 165 hHeld ?_
               try simp only [pA, pC, pD]
               refine tkN 7 oRd_103 166 hHeld ?_
               try simp only [pA, pC, pD]
               refine tkN 8 oRd_104 167 hHeld ?_
               try simp only [pA, pC, pD]
               refine tkN 9 oRd_105 168 hHeld ?_
               try simp only [pA, pC, pD]
               refine tkN 10 oRd_106 169 hHeld ?_
               try simp only [pA, pC, pD]
               refine tkN 11 oRd_107 170 hHeld ?_
               try simp only [pA, pC, pD]
               refine tkH 12 oRd_108 171 (.bool true) hHeld (by intro w hS; dsimp only [oRd_108] at hS ⊢; go_simp) ?_
               try simp only [pA, pC, pD]
               refine tkH 13 oRd_109 172 (.bool true) hHeld (by intro w hS; dsimp only [oRd_109] at hS ⊢; go_simp) ?_
               try simp only [pA, pC, pD]
               refine tkN 14 oRd_110 173 hHeld ?_
               try simp only [pA, pC, pD]
               refine tkN 15 oRd_111 174 hHeld ?_
               try simp only [pA, pC, pD]
               refine tkN 16 oRd_112 175 hHeld ?_
               try simp only [pA, pC, pD]
               refine tkN 17 oRd_113 176 hHeld ?_
               try simp only [pA, pC, pD]
               refine tkN 18 oRd_114 177 hHeld ?_
               try simp only [pA, pC, pD]
               refine tkN 19 oRd_115 178 hHeld ?_
               try simp only [pA, pC, pD]
               refine tkN 20 oRd_116 179 hHeld ?_
               try simp only [pA, pC, pD]
               refine tkN 21 oRd_117 180 hHeld ?_
               try simp only [pA, pC, pD]
               refine tkN 22 oRd_118 181 hHeld ?_
               try simp only [pA, pC, pD]
               refine tkN 23 oRd_119 182 hHeld ?_
               try simp only [pA, pC, pD]
               refine tkN 24 oRd_120 183 hHeld ?_
               try simp only [pA, pC, pD]
               refine tkN 25 oRd_121 184 hHeld ?_
               try simp only [pA, pC, pD]
               refine tkN 26 oRd_122 185 hHeld ?_
               try simp only [pA, pC, pD]
               refine tkN 27 oRd_123 186 hHeld ?_
               try simp only [pA, pC, pD]
               refine tkN 28 oRd_124 187 hHeld ?_
               try simp only [pA, pC, pD]
               refine tkN 29 oRd_125 188 hHeld ?_
               try simp only [pA, pC, pD]
               refine tkN 30 oRd_126 189 hHeld ?_
               try simp only [pA, pC, pD]
               refine tkN 31 oRd_127 190 hHeld ?_
               try simp only [pA, pC, pD]
               refine tkH 32 oRd_128 191 (.bool true) hHeld (by intro w hS; dsimp only [oRd_128] at hS ⊢; go_simp) ?_
               try simp only [pA, pC, pD]
               refine wpAnyH_done (by kernel_rfl) ?_ _
               have HMV : Hid (mvB dd A T (hoV dd A y) = true) := hidOf (by rw [HHO.out, HMA.out, HINB.out]; rfl)
               go_wp2
               go_roundw
               case rel => first | exact ⟨k + 1, by omega, by simp, mvN dd A T (L.take (k + 1)), by rw [HTK.out, mvN_yes _ _ _ _ _ HMV.out, ← HN2.out]; simp, hidOf rfl, hidOf (HBs.out.trans ((HY7.out.trans ((bdrew w7).mono HY7.out.size)).mono HBs.out.size))⟩ | exact ⟨k + 1, mvN dd A T (L.take (k + 1)), by omega, by simp, by rw [HTK.out, mvN_yes _ _ _ _ _ HMV.out, ← HN2.out]; simp, hidOf rfl, hidOf (HBs.out.trans ((HY7.out.trans ((bdrew w7).mono HY7.out.size)).mono HBs.out.size))⟩
               case measure => simp [intOf]; omega
             | false =>
              have HINB := hidOf hin
              clear hin
              cases hsp : x.sp with
              | true =>
               replace ux9 := ux9.trans (congrArg (fun z => some (Value.bool z)) hsp)
               as_aux_lemma =>
                refine wp_region_held_drew (S := fun (Y : World) => Y.cell? ⟨B2, 5, none⟩ = some (.slice (some ⟨b1, off1, none⟩) A.length c5) ∧ Y.cell? ⟨b1, off1 + m2 * 11 + 9, none⟩ = some (.bool true)) (by kernel_rfl) ⟨ut5, ux9⟩ (fun hHeld => ?_)
                refine tkH 0 oRd_96 159 (.int .i64 (m2 : Int)) hHeld (by intro w hS; dsimp only [oRd_96] at hS ⊢; go_simp) ?_
                try simp only [pA, pC, pD]
                refine tkH 1 oRd_97 160 (.bool false) hHeld (by intro w hS; dsimp only [oRd_97] at hS ⊢; go_simp) ?_
                try simp only [pA, pC, pD]
                refine tkH 2 oRd_98 161 (.bool false) hHeld (by intro w hS; dsimp only [oRd_98] at hS ⊢; go_simp) ?_
                try simp only [pA, pC, pD]
                refine tkH 3 oRd_99 162 (.bool false) hHeld (by intro w hS; dsimp only [oRd_99] at hS ⊢; go_simp) ?_
                try simp only [pA, pC, pD]
                refine tkH 4 oRd_100 163 (.bool false) hHeld (by intro w hS; dsimp only [oRd_100] at hS ⊢; go_simp) ?_
                try simp only [pA, pC, pD]
                refine tkH 5 oRd_101 164 (.bool false) hHeld (by intro w hS; dsimp only [oRd_101] at hS ⊢; go_simp) ?_
                try simp only [pA, pC, pD]
                refine tkH 6 oRd_102 165 (.pointer (some ⟨B2, 5, none⟩)) hHeld (by intro w hS; dsimp only [oRd_102] at hS ⊢; go_simp) ?_
                try simp only [pA, pC, pD]
                refine tkH 7 oRd_103 166 (.slice (some ⟨b1, off1, none⟩) A.length c5) hHeld (by intro w hS; dsimp only [oRd_103] at hS ⊢; go_simp) ?_
                try simp only [pA, pC, pD]
                refine tkH 8 oRd_104 167 (.int .i64 (m2 : Int)) hHeld (by intro w hS; dsimp only [oRd_104] at hS ⊢; go_simp) ?_
                try simp only [pA, pC, pD]
                refine tkH 9 oRd_105 168 (.pointer (some ⟨b1, off1 + m2 * 11, none⟩)) hHeld (by intro w hS; dsimp only [oRd_105] at hS ⊢; go_simp) ?_
                try simp only [pA, pC, pD]
                refine tkH 10 oRd_106 169 (.pointer (some ⟨b1, off1 + m2 * 11 + 9, none⟩)) hHeld (by intro w hS; dsimp only [oRd_106] at hS ⊢; go_simp) ?_
                try simp only [pA, pC, pD]
                refine tkH 11 oRd_107 170 (.bool true) hHeld (by intro w hS; dsimp only [oRd_107] at hS ⊢; go_simp) ?_
                try simp only [pA, pC, pD]
                refine tkH 12 oRd_108 171 (.bool true) hHeld (by intro w hS; dsimp only [oRd_108] at hS ⊢; go_simp) ?_
                try simp only [pA, pC, pD]
                refine tkH 13 oRd_109 172 (.bool true) hHeld (by intro w hS; dsimp only [oRd_109] at hS ⊢; go_simp) ?_
                try simp only [pA, pC, pD]
                refine tkN 14 oRd_110 173 hHeld ?_
                try simp only [pA, pC, pD]
                refine tkN 15 oRd_111 174 hHeld ?_
                try simp only [pA, pC, pD]
                refine tkN 16 oRd_112 175 hHeld ?_
                try simp only [pA, pC, pD]
                refine tkN 17 oRd_113 176 hHeld ?_
                try simp only [pA, pC, pD]
                refine tkN 18 oRd_114 177 hHeld ?_
                try simp only [pA, pC, pD]
                refine tkN 19 oRd_115 178 hHeld ?_
                try simp only [pA, pC, pD]
                refine tkN 20 oRd_116 179 hHeld ?_
                try simp only [pA, pC, pD]
                refine tkN 21 oRd_117 180 hHeld ?_
                try simp only [pA, pC, pD]
                refine tkN 22 oRd_118 181 hHeld ?_
                try simp only [pA, pC, pD]
                refine tkN 23 oRd_119 182 hHeld ?_
                try simp only [pA, pC, pD]
                refine tkN 24 oRd_120 183 hHeld ?_
                try simp only [pA, pC, pD]
                refine tkN 25 oRd_121 184 hHeld ?_
                try simp only [pA, pC, pD]
                refine tkN 26 oRd_122 185 hHeld ?_
                try simp only [pA, pC, pD]
                refine tkN 27 oRd_123 186 hHeld ?_
                try simp only [pA, pC, pD]
                refine tkN 28 oRd_124 187 hHeld ?_
                try simp only [pA, pC, pD]
                refine tkN 29 oRd_125 188 hHeld ?_
                try simp only [pA, pC, pD]
                refine tkN 30 oRd_126 189 hHeld ?_
                try simp only [pA, pC, pD]
                refine tkN 31 oRd_127 190 hHeld ?_
                try simp only [pA, pC, pD]
                refine tkH 32 oRd_128 191 (.bool true) hHeld (by intro w hS; dsimp only [oRd_128] at hS ⊢; go_simp) ?_
                try simp only [pA, pC, pD]
                refine wpAnyH_done (by kernel_rfl) ?_ _
                have HMV : Hid (mvB dd A T (hoV dd A y) = true) := hidOf (by rw [HHO.out, HMA.out, hsp]; simp)
                go_wp2
                go_roundw
                case rel => first | exact ⟨k + 1, by omega, by simp, mvN dd A T (L.take (k + 1)), by rw [HTK.out, mvN_yes _ _ _ _ _ HMV.out, ← HN2.out]; simp, hidOf rfl, hidOf (HBs.out.trans ((HY7.out.trans ((bdrew w7).mono HY7.out.size)).mono HBs.out.size))⟩ | exact ⟨k + 1, mvN dd A T (L.take (k + 1)), by omega, by simp, by rw [HTK.out, mvN_yes _ _ _ _ _ HMV.out, ← HN2.out]; simp, hidOf rfl, hidOf (HBs.out.trans ((HY7.out.trans ((bdrew w7).mono HY7.out.size)).mono HBs.out.size))⟩
                case measure => simp [intOf]; omega
              | false =>
               replace ux9 := ux9.trans (congrArg (fun z => some (Value.bool z)) hsp)
               have HSP := hidOf hsp
               clear hsp
               by_cases hve : x.ve = dd.ve
               ·have hq : (x.ve == dd.ve) = true := by simp [hve]
                have HVE := hidOf hve
                clear hve
                by_cases hst : x.st = 2
                ·have hq2 : (x.st != 2) = false := by simp [hst]
                 have HST := hidOf hst
                 clear hst
                 as_aux_lemma =>
                  refine wp_region_held_drew (S := fun (Y : World) => Y.cell? ⟨B2, 5, none⟩ = some (.slice (some ⟨b1, off1, none⟩) A.length c5) ∧ Y.cell? ⟨b1, off1 + m2 * 11 + 9, none⟩ = some (.bool false) ∧ Y.cell? ⟨b1, off1 + m2 * 11 + 2, none⟩ = some (.int .i64 x.ve) ∧ Y.cell? ⟨B7, 5, none⟩ = some (.int .i64 dd.ve) ∧ Y.cell? ⟨b1, off1 + m2 * 11 + 10, none⟩ = some (.int .i64 x.st)) (by kernel_rfl) ⟨ut5, ux9, ux2, uj5, ux10⟩ (fun hHeld => ?_)
                  refine tkH 0 oRd_96 159 (.int .i64 (m2 : Int)) hHeld (by intro w hS; dsimp only [oRd_96] at hS ⊢; go_simp) ?_
                  try simp only [pA, pC, pD]
                  refine tkH 1 oRd_97 160 (.bool false) hHeld (by intro w hS; dsimp only [oRd_97] at hS ⊢; go_simp) ?_
                  try simp only [pA, pC, pD]
                  refine tkH 2 oRd_98 161 (.bool false) hHeld (by intro w hS; dsimp only [oRd_98] at hS ⊢; go_simp) ?_
                  try simp only [pA, pC, pD]
                  refine tkH 3 oRd_99 162 (.bool false) hHeld (by intro w hS; dsimp only [oRd_99] at hS ⊢; go_simp) ?_
                  try simp only [pA, pC, pD]
                  refine tkH 4 oRd_100 163 (.bool false) hHeld (by intro w hS; dsimp only [oRd_100] at hS ⊢; go_simp) ?_
                  try simp only [pA, pC, pD]
                  refine tkH 5 oRd_101 164 (.bool false) hHeld (by intro w hS; dsimp only [oRd_101] at hS ⊢; go_simp) ?_
                  try simp only [pA, pC, pD]
                  refine tkH 6 oRd_102 165 (.pointer (some ⟨B2, 5, none⟩)) hHeld (by intro w hS; dsimp only [oRd_102] at hS ⊢; go_simp) ?_
                  try simp only [pA, pC, pD]
                  refine tkH 7 oRd_103 166 (.slice (some ⟨b1, off1, none⟩) A.length c5) hHeld (by intro w hS; dsimp only [oRd_103] at hS ⊢; go_simp) ?_
                  try simp only [pA, pC, pD]
                  refine tkH 8 oRd_104 167 (.int .i64 (m2 : Int)) hHeld (by intro w hS; dsimp only [oRd_104] at hS ⊢; go_simp) ?_
                  try simp only [pA, pC, pD]
                  refine tkH 9 oRd_105 168 (.pointer (some ⟨b1, off1 + m2 * 11, none⟩)) hHeld (by intro w hS; dsimp only [oRd_105] at hS ⊢; go_simp) ?_
                  try simp only [pA, pC, pD]
                  refine tkH 10 oRd_106 169 (.pointer (some ⟨b1, off1 + m2 * 11 + 9, none⟩)) hHeld (by intro w hS; dsimp only [oRd_106] at hS ⊢; go_simp) ?_
                  try simp only [pA, pC, pD]
                  refine tkH 11 oRd_107 170 (.bool false) hHeld (by intro w hS; dsimp only [oRd_107] at hS ⊢; go_simp) ?_
                  try simp only [pA, pC, pD]
                  refine tkH 12 oRd_108 171 (.bool false) hHeld (by intro w hS; dsimp only [oRd_108] at hS ⊢; go_simp) ?_
                  try simp only [pA, pC, pD]
                  refine tkH 13 oRd_109 172 (.bool false) hHeld (by intro w hS; dsimp only [oRd_109] at hS ⊢; go_simp) ?_
                  try simp only [pA, pC, pD]
                  refine tkH 14 oRd_110 173 (.pointer (some ⟨B2, 5, none⟩)) hHeld (by intro w hS; dsimp only [oRd_110] at hS ⊢; go_simp) ?_
                  try simp only [pA, pC, pD]
                  refine tkH 15 oRd_111 174 (.slice (some ⟨b1, off1, none⟩) A.length c5) hHeld (by intro w hS; dsimp only [oRd_111] at hS ⊢; go_simp) ?_
                  try simp only [pA, pC, pD]
                  refine tkH 16 oRd_112 175 (.int .i64 (m2 : Int)) hHeld (by intro w hS; dsimp only [oRd_112] at hS ⊢; go_simp) ?_
                  try simp only [pA, pC, pD]
                  refine tkH 17 oRd_113 176 (.pointer (some ⟨b1, off1 + m2 * 11, none⟩)) hHeld (by intro w hS; dsimp only [oRd_113] at hS ⊢; go_simp) ?_
                  try simp only [pA, pC, pD]
                  refine tkH 18 oRd_114 177 (.pointer (some ⟨b1, off1 + m2 * 11 + 2, none⟩)) hHeld (by intro w hS; dsimp only [oRd_114] at hS ⊢; go_simp) ?_
                  try simp only [pA, pC, pD]
                  refine tkH 19 oRd_115 178 (.int .i64 x.ve) hHeld (by intro w hS; dsimp only [oRd_115] at hS ⊢; go_simp) ?_
                  try simp only [pA, pC, pD]
                  refine tkH 20 oRd_116 179 (.pointer (some ⟨B7, 5, none⟩)) hHeld (by intro w hS; dsimp only [oRd_116] at hS ⊢; go_simp) ?_
                  try simp only [pA, pC, pD]
                  refine tkH 21 oRd_117 180 (.int .i64 dd.ve) hHeld (by intro w hS; dsimp only [oRd_117] at hS ⊢; go_simp) ?_
                  try simp only [pA, pC, pD]
                  refine tkH 22 oRd_118 181 (.bool true) hHeld (by intro w hS; dsimp only [oRd_118] at hS ⊢; go_simp) ?_
                  try simp only [pA, pC, pD]
                  refine tkH 23 oRd_119 182 (.bool true) hHeld (by intro w hS; dsimp only [oRd_119] at hS ⊢; go_simp) ?_
                  try simp only [pA, pC, pD]
                  refine tkH 24 oRd_120 183 (.pointer (some ⟨B2, 5, none⟩)) hHeld (by intro w hS; dsimp only [oRd_120] at hS ⊢; go_simp) ?_
                  try simp only [pA, pC, pD]
                  refine tkH 25 oRd_121 184 (.slice (some ⟨b1, off1, none⟩) A.length c5) hHeld (by intro w hS; dsimp only [oRd_121] at hS ⊢; go_simp) ?_
                  try simp only [pA, pC, pD]
                  refine tkH 26 oRd_122 185 (.int .i64 (m2 : Int)) hHeld (by intro w hS; dsimp only [oRd_122] at hS ⊢; go_simp) ?_
                  try simp only [pA, pC, pD]
                  refine tkH 27 oRd_123 186 (.pointer (some ⟨b1, off1 + m2 * 11, none⟩)) hHeld (by intro w hS; dsimp only [oRd_123] at hS ⊢; go_simp) ?_
                  try simp only [pA, pC, pD]
                  refine tkH 28 oRd_124 187 (.pointer (some ⟨b1, off1 + m2 * 11 + 10, none⟩)) hHeld (by intro w hS; dsimp only [oRd_124] at hS ⊢; go_simp) ?_
                  try simp only [pA, pC, pD]
                  refine tkH 29 oRd_125 188 (.int .i64 x.st) hHeld (by intro w hS; dsimp only [oRd_125] at hS ⊢; go_simp) ?_
                  try simp only [pA, pC, pD]
                  refine tkH 30 oRd_126 189 (.bool false) hHeld (by intro w hS; dsimp only [oRd_126] at hS ⊢; go_simp) ?_
                  try simp only [pA, pC, pD]
                  refine tkH 31 oRd_127 190 (.bool false) hHeld (by intro w hS; dsimp only [oRd_127] at hS ⊢; go_simp) ?_
                  try simp only [pA, pC, pD]
                  refine tkH 32 oRd_128 191 (.bool false) hHeld (by intro w hS; dsimp only [oRd_128] at hS ⊢; go_simp) ?_
                  try simp only [pA, pC, pD]
                  refine wpAnyH_done (by kernel_rfl) ?_ _
                  have HMV : Hid (mvB dd A T (hoV dd A y) = false) := hidOf (by rw [HHO.out, HMA.out, HSP.out, HINB.out]; simp [HST.out])
                  go_wp2
                  go_roundw
                  case rel => first | exact ⟨k + 1, by omega, by simp, mvN dd A T (L.take (k + 1)), by rw [HTK.out, mvN_no _ _ _ _ _ HMV.out, ← HN2.out], hidOf rfl, hidOf (HBs.out.trans ((HY7.out.trans ((bdrew w7).mono HY7.out.size)).mono HBs.out.size))⟩ | exact ⟨k + 1, mvN dd A T (L.take (k + 1)), by omega, by simp, by rw [HTK.out, mvN_no _ _ _ _ _ HMV.out, ← HN2.out], hidOf rfl, hidOf (HBs.out.trans ((HY7.out.trans ((bdrew w7).mono HY7.out.size)).mono HBs.out.size))⟩
                  case measure => simp [intOf]; omega
                ·have hq2 : (x.st != 2) = true := by simp [hst]
                 have HST := hidOf hst
                 clear hst
                 as_aux_lemma =>
                  refine wp_region_held_drew (S := fun (Y : World) => Y.cell? ⟨B2, 5, none⟩ = some (.slice (some ⟨b1, off1, none⟩) A.length c5) ∧ Y.cell? ⟨b1, off1 + m2 * 11 + 9, none⟩ = some (.bool false) ∧ Y.cell? ⟨b1, off1 + m2 * 11 + 2, none⟩ = some (.int .i64 x.ve) ∧ Y.cell? ⟨B7, 5, none⟩ = some (.int .i64 dd.ve) ∧ Y.cell? ⟨b1, off1 + m2 * 11 + 10, none⟩ = some (.int .i64 x.st)) (by kernel_rfl) ⟨ut5, ux9, ux2, uj5, ux10⟩ (fun hHeld => ?_)
                  refine tkH 0 oRd_96 159 (.int .i64 (m2 : Int)) hHeld (by intro w hS; dsimp only [oRd_96] at hS ⊢; go_simp) ?_
                  try simp only [pA, pC, pD]
                  refine tkH 1 oRd_97 160 (.bool false) hHeld (by intro w hS; dsimp only [oRd_97] at hS ⊢; go_simp) ?_
                  try simp only [pA, pC, pD]
                  refine tkH 2 oRd_98 161 (.bool false) hHeld (by intro w hS; dsimp only [oRd_98] at hS ⊢; go_simp) ?_
                  try simp only [pA, pC, pD]
                  refine tkH 3 oRd_99 162 (.bool false) hHeld (by intro w hS; dsimp only [oRd_99] at hS ⊢; go_simp) ?_
                  try simp only [pA, pC, pD]
                  refine tkH 4 oRd_100 163 (.bool false) hHeld (by intro w hS; dsimp only [oRd_100] at hS ⊢; go_simp) ?_
                  try simp only [pA, pC, pD]
                  refine tkH 5 oRd_101 164 (.bool false) hHeld (by intro w hS; dsimp only [oRd_101] at hS ⊢; go_simp) ?_
                  try simp only [pA, pC, pD]
                  refine tkH 6 oRd_102 165 (.pointer (some ⟨B2, 5, none⟩)) hHeld (by intro w hS; dsimp only [oRd_102] at hS ⊢; go_simp) ?_
                  try simp only [pA, pC, pD]
                  refine tkH 7 oRd_103 166 (.slice (some ⟨b1, off1, none⟩) A.length c5) hHeld (by intro w hS; dsimp only [oRd_103] at hS ⊢; go_simp) ?_
                  try simp only [pA, pC, pD]
                  refine tkH 8 oRd_104 167 (.int .i64 (m2 : Int)) hHeld (by intro w hS; dsimp only [oRd_104] at hS ⊢; go_simp) ?_
                  try simp only [pA, pC, pD]
                  refine tkH 9 oRd_105 168 (.pointer (some ⟨b1, off1 + m2 * 11, none⟩)) hHeld (by intro w hS; dsimp only [oRd_105] at hS ⊢; go_simp) ?_
                  try simp only [pA, pC, pD]
                  refine tkH 10 oRd_106 169 (.pointer (some ⟨b1, off1 + m2 * 11 + 9, none⟩)) hHeld (by intro w hS; dsimp only [oRd_106] at hS ⊢; go_simp) ?_
                  try simp only [pA, pC, pD]
                  refine tkH 11 oRd_107 170 (.bool false) hHeld (by intro w hS; dsimp only [oRd_107] at hS ⊢; go_simp) ?_
                  try simp only [pA, pC, pD]
                  refine tkH 12 oRd_108 171 (.bool false) hHeld (by intro w hS; dsimp only [oRd_108] at hS ⊢; go_simp) ?_
                  try simp only [pA, pC, pD]
                  refine tkH 13 oRd_109 172 (.bool false) hHeld (by intro w hS; dsimp only [oRd_109] at hS ⊢; go_simp) ?_
                  try simp only [pA, pC, pD]
                  refine tkH 14 oRd_110 173 (.pointer (some ⟨B2, 5, none⟩)) hHeld (by intro w hS; dsimp only [oRd_110] at hS ⊢; go_simp) ?_
                  try simp only [pA, pC, pD]
                  refine tkH 15 oRd_111 174 (.slice (some ⟨b1, off1, none⟩) A.length c5) hHeld (by intro w hS; dsimp only [oRd_111] at hS ⊢; go_simp) ?_
                  try simp only [pA, pC, pD]
                  refine tkH 16 oRd_112 175 (.int .i64 (m2 : Int)) hHeld (by intro w hS; dsimp only [oRd_112] at hS ⊢; go_simp) ?_
                  try simp only [pA, pC, pD]
                  refine tkH 17 oRd_113 176 (.pointer (some ⟨b1, off1 + m2 * 11, none⟩)) hHeld (by intro w hS; dsimp only [oRd_113] at hS ⊢; go_simp) ?_
                  try simp only [pA, pC, pD]
                  refine tkH 18 oRd_114 177 (.pointer (some ⟨b1, off1 + m2 * 11 + 2, none⟩)) hHeld (by intro w hS; dsimp only [oRd_114] at hS ⊢; go_simp) ?_
                  try simp only [pA, pC, pD]
                  refine tkH 19 oRd_115 178 (.int .i64 x.ve) hHeld (by intro w hS; dsimp only [oRd_115] at hS ⊢; go_simp) ?_
                  try simp only [pA, pC, pD]
                  refine tkH 20 oRd_116 179 (.pointer (some ⟨B7, 5, none⟩)) hHeld (by intro w hS; dsimp only [oRd_116] at hS ⊢; go_simp) ?_
                  try simp only [pA, pC, pD]
                  refine tkH 21 oRd_117 180 (.int .i64 dd.ve) hHeld (by intro w hS; dsimp only [oRd_117] at hS ⊢; go_simp) ?_
                  try simp only [pA, pC, pD]
                  refine tkH 22 oRd_118 181 (.bool true) hHeld (by intro w hS; dsimp only [oRd_118] at hS ⊢; go_simp) ?_
                  try simp only [pA, pC, pD]
                  refine tkH 23 oRd_119 182 (.bool true) hHeld (by intro w hS; dsimp only [oRd_119] at hS ⊢; go_simp) ?_
                  try simp only [pA, pC, pD]
                  refine tkH 24 oRd_120 183 (.pointer (some ⟨B2, 5, none⟩)) hHeld (by intro w hS; dsimp only [oRd_120] at hS ⊢; go_simp) ?_
                  try simp only [pA, pC, pD]
                  refine tkH 25 oRd_121 184 (.slice (some ⟨b1, off1, none⟩) A.length c5) hHeld (by intro w hS; dsimp only [oRd_121] at hS ⊢; go_simp) ?_
                  try simp only [pA, pC, pD]
                  refine tkH 26 oRd_122 185 (.int .i64 (m2 : Int)) hHeld (by intro w hS; dsimp only [oRd_122] at hS ⊢; go_simp) ?_
                  try simp only [pA, pC, pD]
                  refine tkH 27 oRd_123 186 (.pointer (some ⟨b1, off1 + m2 * 11, none⟩)) hHeld (by intro w hS; dsimp only [oRd_123] at hS ⊢; go_simp) ?_
                  try simp only [pA, pC, pD]
                  refine tkH 28 oRd_124 187 (.pointer (some ⟨b1, off1 + m2 * 11 + 10, none⟩)) hHeld (by intro w hS; dsimp only [oRd_124] at hS ⊢; go_simp) ?_
                  try simp only [pA, pC, pD]
                  refine tkH 29 oRd_125 188 (.int .i64 x.st) hHeld (by intro w hS; dsimp only [oRd_125] at hS ⊢; go_simp) ?_
                  try simp only [pA, pC, pD]
                  refine tkH 30 oRd_126 189 (.bool true) hHeld (by intro w hS; dsimp only [oRd_126] at hS ⊢; go_simp) ?_
                  try simp only [pA, pC, pD]
                  refine tkH 31 oRd_127 190 (.bool true) hHeld (by intro w hS; dsimp only [oRd_127] at hS ⊢; go_simp) ?_
                  try simp only [pA, pC, pD]
                  refine tkH 32 oRd_128 191 (.bool true) hHeld (by intro w hS; dsimp only [oRd_128] at hS ⊢; go_simp) ?_
                  try simp only [pA, pC, pD]
                  refine wpAnyH_done (by kernel_rfl) ?_ _
                  have HMV : Hid (mvB dd A T (hoV dd A y) = true) := hidOf (by rw [HHO.out, HMA.out, HSP.out]; simp [HVE.out, HST.out])
                  go_wp2
                  go_roundw
                  case rel => first | exact ⟨k + 1, by omega, by simp, mvN dd A T (L.take (k + 1)), by rw [HTK.out, mvN_yes _ _ _ _ _ HMV.out, ← HN2.out]; simp, hidOf rfl, hidOf (HBs.out.trans ((HY7.out.trans ((bdrew w7).mono HY7.out.size)).mono HBs.out.size))⟩ | exact ⟨k + 1, mvN dd A T (L.take (k + 1)), by omega, by simp, by rw [HTK.out, mvN_yes _ _ _ _ _ HMV.out, ← HN2.out]; simp, hidOf rfl, hidOf (HBs.out.trans ((HY7.out.trans ((bdrew w7).mono HY7.out.size)).mono HBs.out.size))⟩
                  case measure => simp [intOf]; omega
               ·have hq : (x.ve == dd.ve) = false := by simp [hve]
                have HVE := hidOf hve
                clear hve
                as_aux_lemma =>
                 refine wp_region_held_drew (S := fun (Y : World) => Y.cell? ⟨B2, 5, none⟩ = some (.slice (some ⟨b1, off1, none⟩) A.length c5) ∧ Y.cell? ⟨b1, off1 + m2 * 11 + 9, none⟩ = some (.bool false) ∧ Y.cell? ⟨b1, off1 + m2 * 11 + 2, none⟩ = some (.int .i64 x.ve) ∧ Y.cell? ⟨B7, 5, none⟩ = some (.int .i64 dd.ve)) (by kernel_rfl) ⟨ut5, ux9, ux2, uj5⟩ (fun hHeld => ?_)
                 refine tkH 0 oRd_96 159 (.int .i64 (m2 : Int)) hHeld (by intro w hS; dsimp only [oRd_96] at hS ⊢; go_simp) ?_
                 try simp only [pA, pC, pD]
                 refine tkH 1 oRd_97 160 (.bool false) hHeld (by intro w hS; dsimp only [oRd_97] at hS ⊢; go_simp) ?_
                 try simp only [pA, pC, pD]
                 refine tkH 2 oRd_98 161 (.bool false) hHeld (by intro w hS; dsimp only [oRd_98] at hS ⊢; go_simp) ?_
                 try simp only [pA, pC, pD]
                 refine tkH 3 oRd_99 162 (.bool false) hHeld (by intro w hS; dsimp only [oRd_99] at hS ⊢; go_simp) ?_
                 try simp only [pA, pC, pD]
                 refine tkH 4 oRd_100 163 (.bool false) hHeld (by intro w hS; dsimp only [oRd_100] at hS ⊢; go_simp) ?_
                 try simp only [pA, pC, pD]
                 refine tkH 5 oRd_101 164 (.bool false) hHeld (by intro w hS; dsimp only [oRd_101] at hS ⊢; go_simp) ?_
                 try simp only [pA, pC, pD]
                 refine tkH 6 oRd_102 165 (.pointer (some ⟨B2, 5, none⟩)) hHeld (by intro w hS; dsimp only [oRd_102] at hS ⊢; go_simp) ?_
                 try simp only [pA, pC, pD]
                 refine tkH 7 oRd_103 166 (.slice (some ⟨b1, off1, none⟩) A.length c5) hHeld (by intro w hS; dsimp only [oRd_103] at hS ⊢; go_simp) ?_
                 try simp only [pA, pC, pD]
                 refine tkH 8 oRd_104 167 (.int .i64 (m2 : Int)) hHeld (by intro w hS; dsimp only [oRd_104] at hS ⊢; go_simp) ?_
                 try simp only [pA, pC, pD]
                 refine tkH 9 oRd_105 168 (.pointer (some ⟨b1, off1 + m2 * 11, none⟩)) hHeld (by intro w hS; dsimp only [oRd_105] at hS ⊢; go_simp) ?_
                 try simp only [pA, pC, pD]
                 refine tkH 10 oRd_106 169 (.pointer (some ⟨b1, off1 + m2 * 11 + 9, none⟩)) hHeld (by intro w hS; dsimp only [oRd_106] at hS ⊢; go_simp) ?_
                 try simp only [pA, pC, pD]
                 refine tkH 11 oRd_107 170 (.bool false) hHeld (by intro w hS; dsimp only [oRd_107] at hS ⊢; go_simp) ?_
                 try simp only [pA, pC, pD]
                 refine tkH 12 oRd_108 171 (.bool false) hHeld (by intro w hS; dsimp only [oRd_108] at hS ⊢; go_simp) ?_
                 try simp only [pA, pC, pD]
                 refine tkH 13 oRd_109 172 (.bool false) hHeld (by intro w hS; dsimp only [oRd_109] at hS ⊢; go_simp) ?_
                 try simp only [pA, pC, pD]
                 refine tkH 14 oRd_110 173 (.pointer (some ⟨B2, 5, none⟩)) hHeld (by intro w hS; dsimp only [oRd_110] at hS ⊢; go_simp) ?_
                 try simp only [pA, pC, pD]
                 refine tkH 15 oRd_111 174 (.slice (some ⟨b1, off1, none⟩) A.length c5) hHeld (by intro w hS; dsimp only [oRd_111] at hS ⊢; go_simp) ?_
                 try simp only [pA, pC, pD]
                 refine tkH 16 oRd_112 175 (.int .i64 (m2 : Int)) hHeld (by intro w hS; dsimp only [oRd_112] at hS ⊢; go_simp) ?_
                 try simp only [pA, pC, pD]
                 refine tkH 17 oRd_113 176 (.pointer (some ⟨b1, off1 + m2 * 11, none⟩)) hHeld (by intro w hS; dsimp only [oRd_113] at hS ⊢; go_simp) ?_
                 try simp only [pA, pC, pD]
                 refine tkH 18 oRd_114 177 (.pointer (some ⟨b1, off1 + m2 * 11 + 2, none⟩)) hHeld (by intro w hS; dsimp only [oRd_114] at hS ⊢; go_simp) ?_
                 try simp only [pA, pC, pD]
                 refine tkH 19 oRd_115 178 (.int .i64 x.ve) hHeld (by intro w hS; dsimp only [oRd_115] at hS ⊢; go_simp) ?_
                 try simp only [pA, pC, pD]
                 refine tkH 20 oRd_116 179 (.pointer (some ⟨B7, 5, none⟩)) hHeld (by intro w hS; dsimp only [oRd_116] at hS ⊢; go_simp) ?_
                 try simp only [pA, pC, pD]
                 refine tkH 21 oRd_117 180 (.int .i64 dd.ve) hHeld (by intro w hS; dsimp only [oRd_117] at hS ⊢; go_simp) ?_
                 try simp only [pA, pC, pD]
                 refine tkH 22 oRd_118 181 (.bool false) hHeld (by intro w hS; dsimp only [oRd_118] at hS ⊢; go_simp) ?_
                 try simp only [pA, pC, pD]
                 refine tkH 23 oRd_119 182 (.bool false) hHeld (by intro w hS; dsimp only [oRd_119] at hS ⊢; go_simp) ?_
                 try simp only [pA, pC, pD]
                 refine tkN 24 oRd_120 183 hHeld ?_
                 try simp only [pA, pC, pD]
                 refine tkN 25 oRd_121 184 hHeld ?_
                 try simp only [pA, pC, pD]
                 refine tkN 26 oRd_122 185 hHeld ?_
                 try simp only [pA, pC, pD]
                 refine tkN 27 oRd_123 186 hHeld ?_
                 try simp only [pA, pC, pD]
                 refine tkN 28 oRd_124 187 hHeld ?_
                 try simp only [pA, pC, pD]
                 refine tkN 29 oRd_125 188 hHeld ?_
                 try simp only [pA, pC, pD]
                 refine tkN 30 oRd_126 189 hHeld ?_
                 try simp only [pA, pC, pD]
                 refine tkH 31 oRd_127 190 (.bool false) hHeld (by intro w hS; dsimp only [oRd_127] at hS ⊢; go_simp) ?_
                 try simp only [pA, pC, pD]
                 refine tkH 32 oRd_128 191 (.bool false) hHeld (by intro w hS; dsimp only [oRd_128] at hS ⊢; go_simp) ?_
                 try simp only [pA, pC, pD]
                 refine wpAnyH_done (by kernel_rfl) ?_ _
                 have HMV : Hid (mvB dd A T (hoV dd A y) = false) := hidOf (by rw [HHO.out, HMA.out, HSP.out, HINB.out]; simp [HVE.out])
                 go_wp2
                 go_roundw
                 case rel => first | exact ⟨k + 1, by omega, by simp, mvN dd A T (L.take (k + 1)), by rw [HTK.out, mvN_no _ _ _ _ _ HMV.out, ← HN2.out], hidOf rfl, hidOf (HBs.out.trans ((HY7.out.trans ((bdrew w7).mono HY7.out.size)).mono HBs.out.size))⟩ | exact ⟨k + 1, mvN dd A T (L.take (k + 1)), by omega, by simp, by rw [HTK.out, mvN_no _ _ _ _ _ HMV.out, ← HN2.out], hidOf rfl, hidOf (HBs.out.trans ((HY7.out.trans ((bdrew w7).mono HY7.out.size)).mono HBs.out.size))⟩
                 case measure => simp [intOf]; omega
           ·have hkl : k = L.length := by omega
            subst hkl
            have hn := HN2.out
            rw [List.take_length] at hn
            have HMN := hidOf hn
            have hlt3 : ¬ (L.length : Int) < (L.length : Int) := by omega
            clear hn HN2
            go_wp2
            have HS0 := hidOf (own_kept HS.out (fun q _ hq => HBs.out.block q hq))
            have HP0 := hidOf (own_kept HP.out (fun q _ hq => HBs.out.block q hq))
            obtain ⟨ws, hws⟩ : ∃ z, z = wr := ⟨_, rfl⟩
            subst hws
            go_loopw [9, 10, 16, 20] (fun vs vp c i wr => ∃ (k : Nat) (T2 : List Int) (n2 : Int) (sa2 : Option Addr) (sc2 : Nat) (pa2 : Option Addr) (pc2 : Nat), k ≤ L.length ∧ i = .int .i64 k ∧ vs = .slice sa2 T2.length sc2 ∧ vp = .slice pa2 T2.length pc2 ∧ c = .int .i64 n2 ∧ Hid ((T2, n2) = rlV dd A (T, (n : Int)) (L.take k)) ∧ 0 ≤ n2 ∧ n2 ≤ n + k ∧ T2.length ≤ A.length + k ∧ Hid (wr.ownsRow w3.heap.size 3 1 (.slice sa2 T2.length sc2) T2.length (fl iC (T2.map (idA A)))) ∧ Hid (wr.ownsRow w3.heap.size 3 1 (.slice pa2 T2.length pc2) T2.length (fl iC T2)) ∧ Hid (Apt sa2 pa2) ∧ Hid (Below w3.heap.size w3 wr)) (fun _ _ _ i _ => L.length - (intOf i).toNat)
            case atStart => exact ⟨0, T, n, sa, sc, pa, pc, Nat.zero_le _, rfl, rfl, rfl, rfl, hidOf rfl, by omega, by omega, by omega, HS0, HP0, HAP, HB3s⟩
            case round =>
             as_aux_lemma =>
              obtain ⟨k, T2, n2, sa2, sc2, pa2, pc2, hk4, rfl, rfl, rfl, rfl, HRL, hn0, hn1, htl2, HS2, HP2, HAP2, HBt⟩ := hrel
              have j3 : wr.cell? ⟨B7, 3, none⟩ = some (.int .i64 dd.pa) := (hb_cell HBt.out l73).trans (HJ3.out 3 _ rfl)
              have l7 : B7 < wr.heap.size := lt_of_cell j3
              by_cases hlt4 : k < L.length
              ·have hi1 : (k : Int) < (L.length : Int) := by omega
               by_cases hpa : n2 < dd.pa
               ·obtain ⟨b9, off9, ha9, hQ9, hc9⟩ := HLF.out.at k hlt4
                have hQ9' : b9 < w3.heap.size := hQ9
                obtain ⟨y, hy⟩ : ∃ y, L[k] = y := ⟨_, rfl⟩
                have HTK : Hid (L.take (k + 1) = L.take k ++ [y]) := hidOf (by rw [take_snoc L k hlt4, hy])
                rw [hy] at hc9
                clear hy
                subst ha9
                have HSLc := hidOf (refSlot_any ⟨ix, nx, some ⟨b, off, none⟩, J.length, c2, a3, n3, c3, a4, Ln.length, c4, a5, A.length, c5, a6, n6, c6, a7, n7, c7, a8, n8, c8⟩ dd.id y.1 y.2 A wr.drew rfl (HA3.out.kept (fun q hq => HBt.out.block q hq) (fun q hq => Nat.lt_of_lt_of_le hq HBt.out.size)))
                have hho := hoV_fi dd A y
                have hrng := fi_rng (slB dd.id y.1 y.2) A
                obtain ⟨vv, hvv⟩ : ∃ vv, fi (slB dd.id y.1 y.2) A = vv := ⟨_, rfl⟩
                rw [hvv] at HSLc hho hrng
                have HHO := hidOf hho
                clear hvv hho j3 l7
                have t0 : wr.cell? ⟨B2, 0, none⟩ = some (.int .i64 ix) := (hb_cell HBt.out l23).trans (HT3.out 0 _ rfl)
                have t1 : wr.cell? ⟨B2, 1, none⟩ = some (.int .i64 nx) := (hb_cell HBt.out l23).trans (HT3.out 1 _ rfl)
                have t2 : wr.cell? ⟨B2, 2, none⟩ = some (.slice (some ⟨b, off, none⟩) J.length c2) := (hb_cell HBt.out l23).trans (HT3.out 2 _ rfl)
                have t3 : wr.cell? ⟨B2, 3, none⟩ = some (.slice a3 n3 c3) := (hb_cell HBt.out l23).trans (HT3.out 3 _ rfl)
                have t4 : wr.cell? ⟨B2, 4, none⟩ = some (.slice a4 Ln.length c4) := (hb_cell HBt.out l23).trans (HT3.out 4 _ rfl)
                have t5 : wr.cell? ⟨B2, 5, none⟩ = some (.slice a5 A.length c5) := (hb_cell HBt.out l23).trans (HT3.out 5 _ rfl)
                have t6 : wr.cell? ⟨B2, 6, none⟩ = some (.slice a6 n6 c6) := (hb_cell HBt.out l23).trans (HT3.out 6 _ rfl)
                have t7 : wr.cell? ⟨B2, 7, none⟩ = some (.slice a7 n7 c7) := (hb_cell HBt.out l23).trans (HT3.out 7 _ rfl)
                have t8 : wr.cell? ⟨B2, 8, none⟩ = some (.slice a8 n8 c8) := (hb_cell HBt.out l23).trans (HT3.out 8 _ rfl)
                have j0 : wr.cell? ⟨B7, 0, none⟩ = some (.int .i64 dd.id) := (hb_cell HBt.out l73).trans (HJ3.out 0 _ rfl)
                have j1 : wr.cell? ⟨B7, 1, none⟩ = some (.int .i64 dd.ty) := (hb_cell HBt.out l73).trans (HJ3.out 1 _ rfl)
                have j2 : wr.cell? ⟨B7, 2, none⟩ = some (.int .i64 dd.pr) := (hb_cell HBt.out l73).trans (HJ3.out 2 _ rfl)
                have j3 : wr.cell? ⟨B7, 3, none⟩ = some (.int .i64 dd.pa) := (hb_cell HBt.out l73).trans (HJ3.out 3 _ rfl)
                have j4 : wr.cell? ⟨B7, 4, none⟩ = some (.slice ga dd.gs.length gc) := (hb_cell HBt.out l73).trans (HJ3.out 4 _ rfl)
                have j5 : wr.cell? ⟨B7, 5, none⟩ = some (.int .i64 dd.ve) := (hb_cell HBt.out l73).trans (HJ3.out 5 _ rfl)
                have j6 : wr.cell? ⟨B7, 6, none⟩ = some (.bool dd.sd) := (hb_cell HBt.out l73).trans (HJ3.out 6 _ rfl)
                have y1 : wr.cell? ⟨b9, off9 + k * 2, none⟩ = some (.int .i64 y.1) := (hb_cell HBt.out hQ9').trans (hc9 0 _ rfl)
                have y2 : wr.cell? ⟨b9, off9 + k * 2 + 1, none⟩ = some (.int .i64 y.2) := (hb_cell HBt.out hQ9').trans (hc9 1 _ rfl)
                have l2 : B2 < wr.heap.size := lt_of_cell t0
                have l7 : B7 < wr.heap.size := lt_of_cell j0
                have l9 : b9 < wr.heap.size := lt_of_cell y1
                have hi0 : ¬ ((k : Int) < 0) := by omega
                have HPF2 := hidOf ((own_fl (y := 8) iC_len HP2.out (by omega)).kept (w' := wr) (S' := fun q => q < wr.heap.size) (fun _ _ => rfl) (fun q hq => hq.lt))
                clear hc9 hQ9
                go_upto_region 34 with (fail)
                refine wp_region_held_drew (S := fun (Y : World) => Y.cell? ⟨B2, 0, none⟩ = some (.int .i64 ix) ∧ Y.cell? ⟨B2, 1, none⟩ = some (.int .i64 nx) ∧ Y.cell? ⟨B2, 2, none⟩ = some (.slice (some ⟨b, off, none⟩) J.length c2) ∧ Y.cell? ⟨B2, 3, none⟩ = some (.slice a3 n3 c3) ∧ Y.cell? ⟨B2, 4, none⟩ = some (.slice a4 Ln.length c4) ∧ Y.cell? ⟨B2, 5, none⟩ = some (.slice a5 A.length c5) ∧ Y.cell? ⟨B2, 6, none⟩ = some (.slice a6 n6 c6) ∧ Y.cell? ⟨B2, 7, none⟩ = some (.slice a7 n7 c7) ∧ Y.cell? ⟨B2, 8, none⟩ = some (.slice a8 n8 c8) ∧ Y.cell? ⟨B7, 0, none⟩ = some (.int .i64 dd.id) ∧ Y.cell? ⟨b9, off9 + k * 2, none⟩ = some (.int .i64 y.1) ∧ Y.cell? ⟨b9, off9 + k * 2 + 1, none⟩ = some (.int .i64 y.2)) (by kernel_rfl) ⟨t0, t1, t2, t3, t4, t5, t6, t7, t8, j0, y1, y2⟩ (fun hHeld => ?_)
                refine tkH 0 oRd_129 206 (.agg #[.int .i64 ix, .int .i64 nx, .slice (some ⟨b, off, none⟩) J.length c2, .slice a3 n3 c3, .slice a4 Ln.length c4, .slice a5 A.length c5, .slice a6 n6 c6, .slice a7 n7 c7, .slice a8 n8 c8]) hHeld (by intro w hS; dsimp only [oRd_129] at hS ⊢; go_simp) ?_
                try simp only [pA, pC, pD]
                refine tkH 1 oRd_130 207 (.pointer (some ⟨B7, 0, none⟩)) hHeld (by intro w hS; dsimp only [oRd_130] at hS ⊢; go_simp) ?_
                try simp only [pA, pC, pD]
                refine tkH 2 oRd_131 208 (.int .i64 dd.id) hHeld (by intro w hS; dsimp only [oRd_131] at hS ⊢; go_simp) ?_
                try simp only [pA, pC, pD]
                refine tkH 3 oRd_132 209 (.slice (some ⟨b9, off9, none⟩) L.length lc) hHeld (by intro w hS; dsimp only [oRd_132] at hS ⊢; go_simp) ?_
                try simp only [pA, pC, pD]
                refine tkH 4 oRd_133 210 (.int .i64 (k : Int)) hHeld (by intro w hS; dsimp only [oRd_133] at hS ⊢; go_simp) ?_
                try simp only [pA, pC, pD]
                refine tkH 5 oRd_134 211 (.pointer (some ⟨b9, off9 + k * 2, none⟩)) hHeld (by intro w hS; dsimp only [oRd_134] at hS ⊢; go_simp) ?_
                try simp only [pA, pC, pD]
                refine tkH 6 oRd_135 212 (.pointer (some ⟨b9, off9 + k * 2, none⟩)) hHeld (by intro w hS; dsimp only [oRd_135] at hS ⊢; go_simp) ?_
                try simp only [pA, pC, pD]
                refine tkH 7 oRd_136 213 (.int .i64 y.1) hHeld (by intro w hS; dsimp only [oRd_136] at hS ⊢; go_simp) ?_
                try simp only [pA, pC, pD]
                refine tkH 8 oRd_137 214 (.slice (some ⟨b9, off9, none⟩) L.length lc) hHeld (by intro w hS; dsimp only [oRd_137] at hS ⊢; go_simp) ?_
                try simp only [pA, pC, pD]
                refine tkH 9 oRd_138 215 (.int .i64 (k : Int)) hHeld (by intro w hS; dsimp only [oRd_138] at hS ⊢; go_simp) ?_
                try simp only [pA, pC, pD]
                refine tkH 10 oRd_139 216 (.pointer (some ⟨b9, off9 + k * 2, none⟩)) hHeld (by intro w hS; dsimp only [oRd_139] at hS ⊢; go_simp) ?_
                try simp only [pA, pC, pD]
                refine tkH 11 oRd_140 217 (.pointer (some ⟨b9, off9 + k * 2 + 1, none⟩)) hHeld (by intro w hS; dsimp only [oRd_140] at hS ⊢; go_simp) ?_
                try simp only [pA, pC, pD]
                refine tkH 12 oRd_141 218 (.int .i64 y.2) hHeld (by intro w hS; dsimp only [oRd_141] at hS ⊢; go_simp) ?_
                try simp only [pA, pC, pD]
                refine wpAnyH_ready (rs := [13]) (by kernel_rfl) (by simp) ?_
                refine AllReadyH.cons (o := { dst := some 219, op := Op.call { callee := Callee.value (Operand.func 13), args := #[Operand.tmp 206, Operand.tmp 208, Operand.tmp 213, Operand.tmp 218], argTypes := #[29, 3, 3, 3] }, type := 3, pos := "ref.go:83", after := #[{ on := 0, ground := Ground.data }, { on := 2, ground := Ground.data }, { on := 7, ground := Ground.data }, { on := 12, ground := Ground.data }], guard := none }) rfl (fun K hK => ?_) AllReadyH.nil
                go_simp
                refine HSLc.out.mono ?_
                rintro e w6 ⟨rfl, hb6⟩
                have HY6 := hidOf ((bdrew wr).trans (hb6.mono (bdrew wr).size))
                clear hb6
                refine hK.out _ _ ⟨(hb_cell HY6.out l2).trans t0, (hb_cell HY6.out l2).trans t1, (hb_cell HY6.out l2).trans t2, (hb_cell HY6.out l2).trans t3, (hb_cell HY6.out l2).trans t4, (hb_cell HY6.out l2).trans t5, (hb_cell HY6.out l2).trans t6, (hb_cell HY6.out l2).trans t7, (hb_cell HY6.out l2).trans t8, (hb_cell HY6.out l7).trans j0, (hb_cell HY6.out l9).trans y1, (hb_cell HY6.out l9).trans y2⟩ (fun hHeld1 => ?_)
                clear hK K
                try simp only [Act.put, List.setIfInBounds_toArray, List.set_cons_zero, List.set_cons_succ]
                refine tkH 14 oRd_142 21 (.int .i64 vv) hHeld1 (by intro w hS; dsimp only [oRd_142] at hS ⊢; go_simp) ?_
                try simp only [pA, pC, pD]
                refine wpAnyH_done (by kernel_rfl) ?_ _
                have ut5 := (hb_cell HY6.out l2).trans t5
                have uj5 := (hb_cell HY6.out l7).trans j5
                clear t0 t1 t2 t3 t4 t5 t6 t7 t8 j0 j1 j2 j3 j4 j5 j6 y1 y2 l2 l7 l9 hi0 hHeld hHeld1
                have HIN := hidOf (in_any T2 pa2 pc2 vv w6 (HPF2.out.kept (fun q hq => HY6.out.block q hq) (fun q hq => by have := HY6.out.size; have : q < wr.heap.size := hq; show q < w6.heap.size; omega)))
                go_upto_region 36 with (go_at_call 41; refine HIN.out.mono ?_; rintro e w7 ⟨rfl, hb7⟩; have HY7 := hidOf (HY6.out.trans (hb7.mono HY6.out.size)); have ut5 := (hb_cell hb7 (lt_of_cell ut5)).trans ut5; have uj5 := (hb_cell hb7 (lt_of_cell uj5)).trans uj5; clear hb7)
                have HBv := hidOf (HBt.out.trans ((HY7.out.trans ((bdrew w7).mono HY7.out.size)).mono HBt.out.size))
                have HKv := hidOf (fun q (hq : q < wr.heap.size) => (show w7.drew.heap[q]? = wr.heap[q]? from HY7.out.block q hq))
                rcases hrng with hv | ⟨m2, hv, hm2⟩
                ·subst hv
                 have hlt0 : decide ((-1 : Int) < 0) = true := by decide
                 obtain ⟨bT, hbT⟩ : ∃ bT, decide ((-1 : Int) ∈ T2) = bT := ⟨_, rfl⟩
                 rw [hbT]
                 clear hbT
                 as_aux_lemma =>
                  refine wp_region_held_drew (S := fun (_Y : World) => True) (by kernel_rfl) trivial (fun hHeld => ?_)
                  refine tkH 0 oRd_143 223 (.int .i64 (-1)) hHeld (by intro w hS; dsimp only [oRd_143] at hS ⊢; go_simp) ?_
                  try simp only [pA, pC, pD]
                  refine tkH 1 oRd_144 224 (.bool true) hHeld (by intro w hS; dsimp only [oRd_144] at hS ⊢; go_simp) ?_
                  try simp only [pA, pC, pD]
                  refine tkH 2 oRd_145 225 (.bool true) hHeld (by intro w hS; dsimp only [oRd_145] at hS ⊢; go_simp) ?_
                  try simp only [pA, pC, pD]
                  refine tkN 3 oRd_146 226 hHeld ?_
                  try simp only [pA, pC, pD]
                  refine tkH 4 oRd_147 227 (.bool true) hHeld (by intro w hS; dsimp only [oRd_147] at hS ⊢; go_simp) ?_
                  try simp only [pA, pC, pD]
                  refine tkH 5 oRd_148 228 (.bool true) hHeld (by intro w hS; dsimp only [oRd_148] at hS ⊢; go_simp) ?_
                  try simp only [pA, pC, pD]
                  refine tkN 6 oRd_149 229 hHeld ?_
                  try simp only [pA, pC, pD]
                  refine tkN 7 oRd_150 230 hHeld ?_
                  try simp only [pA, pC, pD]
                  refine tkN 8 oRd_151 231 hHeld ?_
                  try simp only [pA, pC, pD]
                  refine tkN 9 oRd_152 232 hHeld ?_
                  try simp only [pA, pC, pD]
                  refine tkN 10 oRd_153 233 hHeld ?_
                  try simp only [pA, pC, pD]
                  refine tkN 11 oRd_154 234 hHeld ?_
                  try simp only [pA, pC, pD]
                  refine tkH 12 oRd_155 235 (.bool true) hHeld (by intro w hS; dsimp only [oRd_155] at hS ⊢; go_simp) ?_
                  try simp only [pA, pC, pD]
                  refine tkH 13 oRd_156 236 (.bool true) hHeld (by intro w hS; dsimp only [oRd_156] at hS ⊢; go_simp) ?_
                  try simp only [pA, pC, pD]
                  refine tkN 14 oRd_157 237 hHeld ?_
                  try simp only [pA, pC, pD]
                  refine tkN 15 oRd_158 238 hHeld ?_
                  try simp only [pA, pC, pD]
                  refine tkN 16 oRd_159 239 hHeld ?_
                  try simp only [pA, pC, pD]
                  refine tkN 17 oRd_160 240 hHeld ?_
                  try simp only [pA, pC, pD]
                  refine tkN 18 oRd_161 241 hHeld ?_
                  try simp only [pA, pC, pD]
                  refine tkN 19 oRd_162 242 hHeld ?_
                  try simp only [pA, pC, pD]
                  refine tkN 20 oRd_163 243 hHeld ?_
                  try simp only [pA, pC, pD]
                  refine tkN 21 oRd_164 244 hHeld ?_
                  try simp only [pA, pC, pD]
                  refine tkN 22 oRd_165 245 hHeld ?_
                  try simp only [pA, pC, pD]
                  refine tkH 23 oRd_166 246 (.bool true) hHeld (by intro w hS; dsimp only [oRd_166] at hS ⊢; go_simp) ?_
                  try simp only [pA, pC, pD]
                  refine wpAnyH_done (by kernel_rfl) ?_ _
                  go_wp2
                  go_roundw
                  case rel => exact ⟨k + 1, T2, n2, sa2, sc2, pa2, pc2, by omega, by simp, rfl, rfl, rfl, hidOf (by rw [HTK.out]; exact (rl_no HRL.out (.inl (by rw [HHO.out]; rfl))).symm), hn0, by omega, by omega, hidOf (own_kept HS2.out (fun q _ hq => HKv.out q hq)), hidOf (own_kept HP2.out (fun q _ hq => HKv.out q hq)), HAP2, HBv⟩
                  case measure => simp [intOf]; omega
                ·subst hv
                 obtain ⟨b1, off1, ha1, hQ1, hc1⟩ := HA3.out.at m2 hm2
                 have hQ1' : b1 < w3.heap.size := hQ1
                 obtain ⟨x, hx⟩ : ∃ x, A[m2] = x := ⟨_, rfl⟩
                 have HMA := hidOf (mvB_at dd A T2 m2 hm2 x hx)
                 have HAL := hidOf (alA_at A m2 hm2 x hx)
                 rw [hx] at hc1
                 clear hx
                 rw [ha1] at ut5
                 have HYB := hidOf (HBt.out.trans (HY7.out.mono HBt.out.size))
                 have ux0 : w7.cell? ⟨b1, off1 + m2 * 11, none⟩ = some (.int .i64 x.id) := (hb_cell HYB.out hQ1').trans (hc1 0 _ rfl)
                 have ux9 : w7.cell? ⟨b1, off1 + m2 * 11 + 9, none⟩ = some (.bool x.sp) := (hb_cell HYB.out hQ1').trans (hc1 9 _ rfl)
                 have ux2 : w7.cell? ⟨b1, off1 + m2 * 11 + 2, none⟩ = some (.int .i64 x.ve) := (hb_cell HYB.out hQ1').trans (hc1 2 _ rfl)
                 have ul1 : b1 < w7.heap.size := lt_of_cell ux2
                 have hm0 : ¬ ((m2 : Int) < 0) := by omega
                 have hm1 : (m2 : Int) < (A.length : Int) := by omega
                 have hmd : decide ((m2 : Int) < 0) = false := by simp
                 clear hc1 hQ1 ha1
                 cases hin : decide ((m2 : Int) ∈ T2) with
                 | true =>
                  have HINB := hidOf hin
                  clear hin
                  as_aux_lemma =>
                   refine wp_region_held_drew (S := fun (_Y : World) => True) (by kernel_rfl) trivial (fun hHeld => ?_)
                   refine tkH 0 oRd_143 223 (.int .i64 (m2 : Int)) hHeld (by intro w hS; dsimp only [oRd_143] at hS ⊢; go_simp) ?_
                   try simp only [pA, pC, pD]
                   refine tkH 1 oRd_144 224 (.bool false) hHeld (by intro w hS; dsimp only [oRd_144] at hS ⊢; go_simp) ?_
                   try simp only [pA, pC, pD]
                   refine tkH 2 oRd_145 225 (.bool false) hHeld (by intro w hS; dsimp only [oRd_145] at hS ⊢; go_simp) ?_
                   try simp only [pA, pC, pD]
                   refine tkH 3 oRd_146 226 (.bool true) hHeld (by intro w hS; dsimp only [oRd_146] at hS ⊢; go_simp) ?_
                   try simp only [pA, pC, pD]
                   refine tkH 4 oRd_147 227 (.bool true) hHeld (by intro w hS; dsimp only [oRd_147] at hS ⊢; go_simp) ?_
                   try simp only [pA, pC, pD]
                   refine tkH 5 oRd_148 228 (.bool true) hHeld (by intro w hS; dsimp only [oRd_148] at hS ⊢; go_simp) ?_
                   try simp only [pA, pC, pD]
                   refine tkN 6 oRd_149 229 hHeld ?_
                   try simp only [pA, pC, pD]
                   refine tkN 7 oRd_150 230 hHeld ?_
                   try simp only [pA, pC, pD]
                   refine tkN 8 oRd_151 231 hHeld ?_
                   try simp only [pA, pC, pD]
                   refine tkN 9 oRd_152 232 hHeld ?_
                   try simp only [pA, pC, pD]
                   refine tkN 10 oRd_153 233 hHeld ?_
                   try simp only [pA, pC, pD]
                   refine tkN 11 oRd_154 234 hHeld ?_
                   try simp only [pA, pC, pD]
                   refine tkH 12 oRd_155 235 (.bool true) hHeld (by intro w hS; dsimp only [oRd_155] at hS ⊢; go_simp) ?_
                   try simp only [pA, pC, pD]
                   refine tkH 13 oRd_156 236 (.bool true) hHeld (by intro w hS; dsimp only [oRd_156] at hS ⊢; go_simp) ?_
                   try simp only [pA, pC, pD]
                   refine tkN 14 oRd_157 237 hHeld ?_
                   try simp only [pA, pC, pD]
                   refine tkN 15 oRd_158 238 hHeld ?_
                   try simp only [pA, pC, pD]
                   refine tkN 16 oRd_159 239 hHeld ?_
                   try simp only [pA, pC, pD]
                   refine tkN 17 oRd_160 240 hHeld ?_
                   try simp only [pA, pC, pD]
                   refine tkN 18 oRd_161 241 hHeld ?_
                   try simp only [pA, pC, pD]
                   refine tkN 19 oRd_162 242 hHeld ?_
                   try simp only [pA, pC, pD]
                   refine tkN 20 oRd_163 243 hHeld ?_
                   try simp only [pA, pC, pD]
                   refine tkN 21 oRd_164 244 hHeld ?_
                   try simp only [pA, pC, pD]
                   refine tkN 22 oRd_165 245 hHeld ?_
                   try simp only [pA, pC, pD]
                   refine tkH 23 oRd_166 246 (.bool true) hHeld (by intro w hS; dsimp only [oRd_166] at hS ⊢; go_simp) ?_
                   try simp only [pA, pC, pD]
                   refine wpAnyH_done (by kernel_rfl) ?_ _
                   go_wp2
                   go_roundw
                   case rel => exact ⟨k + 1, T2, n2, sa2, sc2, pa2, pc2, by omega, by simp, rfl, rfl, rfl, hidOf (by rw [HTK.out]; exact (rl_no HRL.out (.inl (by rw [HHO.out, HMA.out, HINB.out]; rfl))).symm), hn0, by omega, by omega, hidOf (own_kept HS2.out (fun q _ hq => HKv.out q hq)), hidOf (own_kept HP2.out (fun q _ hq => HKv.out q hq)), HAP2, HBv⟩
                   case measure => simp [intOf]; omega
                 | false =>
                  have HINB := hidOf hin
                  clear hin
                  cases hsp : x.sp with
                  | true =>
                   replace ux9 := ux9.trans (congrArg (fun z => some (Value.bool z)) hsp)
                   as_aux_lemma =>
                    refine wp_region_held_drew (S := fun (Y : World) => Y.cell? ⟨B2, 5, none⟩ = some (.slice (some ⟨b1, off1, none⟩) A.length c5) ∧ Y.cell? ⟨b1, off1 + m2 * 11 + 9, none⟩ = some (.bool true)) (by kernel_rfl) ⟨ut5, ux9⟩ (fun hHeld => ?_)
                    refine tkH 0 oRd_143 223 (.int .i64 (m2 : Int)) hHeld (by intro w hS; dsimp only [oRd_143] at hS ⊢; go_simp) ?_
                    try simp only [pA, pC, pD]
                    refine tkH 1 oRd_144 224 (.bool false) hHeld (by intro w hS; dsimp only [oRd_144] at hS ⊢; go_simp) ?_
                    try simp only [pA, pC, pD]
                    refine tkH 2 oRd_145 225 (.bool false) hHeld (by intro w hS; dsimp only [oRd_145] at hS ⊢; go_simp) ?_
                    try simp only [pA, pC, pD]
                    refine tkH 3 oRd_146 226 (.bool false) hHeld (by intro w hS; dsimp only [oRd_146] at hS ⊢; go_simp) ?_
                    try simp only [pA, pC, pD]
                    refine tkH 4 oRd_147 227 (.bool false) hHeld (by intro w hS; dsimp only [oRd_147] at hS ⊢; go_simp) ?_
                    try simp only [pA, pC, pD]
                    refine tkH 5 oRd_148 228 (.bool false) hHeld (by intro w hS; dsimp only [oRd_148] at hS ⊢; go_simp) ?_
                    try simp only [pA, pC, pD]
                    refine tkH 6 oRd_149 229 (.pointer (some ⟨B2, 5, none⟩)) hHeld (by intro w hS; dsimp only [oRd_149] at hS ⊢; go_simp) ?_
                    try simp only [pA, pC, pD]
                    refine tkH 7 oRd_150 230 (.slice (some ⟨b1, off1, none⟩) A.length c5) hHeld (by intro w hS; dsimp only [oRd_150] at hS ⊢; go_simp) ?_
                    try simp only [pA, pC, pD]
                    refine tkH 8 oRd_151 231 (.int .i64 (m2 : Int)) hHeld (by intro w hS; dsimp only [oRd_151] at hS ⊢; go_simp) ?_
                    try simp only [pA, pC, pD]
                    refine tkH 9 oRd_152 232 (.pointer (some ⟨b1, off1 + m2 * 11, none⟩)) hHeld (by intro w hS; dsimp only [oRd_152] at hS ⊢; go_simp) ?_
                    try simp only [pA, pC, pD]
                    refine tkH 10 oRd_153 233 (.pointer (some ⟨b1, off1 + m2 * 11 + 9, none⟩)) hHeld (by intro w hS; dsimp only [oRd_153] at hS ⊢; go_simp) ?_
                    try simp only [pA, pC, pD]
                    refine tkH 11 oRd_154 234 (.bool true) hHeld (by intro w hS; dsimp only [oRd_154] at hS ⊢; go_simp) ?_
                    try simp only [pA, pC, pD]
                    refine tkH 12 oRd_155 235 (.bool true) hHeld (by intro w hS; dsimp only [oRd_155] at hS ⊢; go_simp) ?_
                    try simp only [pA, pC, pD]
                    refine tkH 13 oRd_156 236 (.bool true) hHeld (by intro w hS; dsimp only [oRd_156] at hS ⊢; go_simp) ?_
                    try simp only [pA, pC, pD]
                    refine tkN 14 oRd_157 237 hHeld ?_
                    try simp only [pA, pC, pD]
                    refine tkN 15 oRd_158 238 hHeld ?_
                    try simp only [pA, pC, pD]
                    refine tkN 16 oRd_159 239 hHeld ?_
                    try simp only [pA, pC, pD]
                    refine tkN 17 oRd_160 240 hHeld ?_
                    try simp only [pA, pC, pD]
                    refine tkN 18 oRd_161 241 hHeld ?_
                    try simp only [pA, pC, pD]
                    refine tkN 19 oRd_162 242 hHeld ?_
                    try simp only [pA, pC, pD]
                    refine tkN 20 oRd_163 243 hHeld ?_
                    try simp only [pA, pC, pD]
                    refine tkN 21 oRd_164 244 hHeld ?_
                    try simp only [pA, pC, pD]
                    refine tkN 22 oRd_165 245 hHeld ?_
                    try simp only [pA, pC, pD]
                    refine tkH 23 oRd_166 246 (.bool true) hHeld (by intro w hS; dsimp only [oRd_166] at hS ⊢; go_simp) ?_
                    try simp only [pA, pC, pD]
                    refine wpAnyH_done (by kernel_rfl) ?_ _
                    go_wp2
                    go_roundw
                    case rel => exact ⟨k + 1, T2, n2, sa2, sc2, pa2, pc2, by omega, by simp, rfl, rfl, rfl, hidOf (by rw [HTK.out]; exact (rl_no HRL.out (.inl (by rw [HHO.out, HMA.out, hsp]; simp))).symm), hn0, by omega, by omega, hidOf (own_kept HS2.out (fun q _ hq => HKv.out q hq)), hidOf (own_kept HP2.out (fun q _ hq => HKv.out q hq)), HAP2, HBv⟩
                    case measure => simp [intOf]; omega
                  | false =>
                   replace ux9 := ux9.trans (congrArg (fun z => some (Value.bool z)) hsp)
                   have HSP := hidOf hsp
                   clear hsp
                   by_cases hve : x.ve = dd.ve
                   ·have hq2 : (x.ve == dd.ve) = true := by simp [hve]
                    have HVE := hidOf hve
                    clear hve
                    as_aux_lemma =>
                     refine wp_region_held_drew (S := fun (Y : World) => Y.cell? ⟨B2, 5, none⟩ = some (.slice (some ⟨b1, off1, none⟩) A.length c5) ∧ Y.cell? ⟨b1, off1 + m2 * 11 + 9, none⟩ = some (.bool false) ∧ Y.cell? ⟨b1, off1 + m2 * 11 + 2, none⟩ = some (.int .i64 x.ve) ∧ Y.cell? ⟨B7, 5, none⟩ = some (.int .i64 dd.ve)) (by kernel_rfl) ⟨ut5, ux9, ux2, uj5⟩ (fun hHeld => ?_)
                     refine tkH 0 oRd_143 223 (.int .i64 (m2 : Int)) hHeld (by intro w hS; dsimp only [oRd_143] at hS ⊢; go_simp) ?_
                     try simp only [pA, pC, pD]
                     refine tkH 1 oRd_144 224 (.bool false) hHeld (by intro w hS; dsimp only [oRd_144] at hS ⊢; go_simp) ?_
                     try simp only [pA, pC, pD]
                     refine tkH 2 oRd_145 225 (.bool false) hHeld (by intro w hS; dsimp only [oRd_145] at hS ⊢; go_simp) ?_
                     try simp only [pA, pC, pD]
                     refine tkH 3 oRd_146 226 (.bool false) hHeld (by intro w hS; dsimp only [oRd_146] at hS ⊢; go_simp) ?_
                     try simp only [pA, pC, pD]
                     refine tkH 4 oRd_147 227 (.bool false) hHeld (by intro w hS; dsimp only [oRd_147] at hS ⊢; go_simp) ?_
                     try simp only [pA, pC, pD]
                     refine tkH 5 oRd_148 228 (.bool false) hHeld (by intro w hS; dsimp only [oRd_148] at hS ⊢; go_simp) ?_
                     try simp only [pA, pC, pD]
                     refine tkH 6 oRd_149 229 (.pointer (some ⟨B2, 5, none⟩)) hHeld (by intro w hS; dsimp only [oRd_149] at hS ⊢; go_simp) ?_
                     try simp only [pA, pC, pD]
                     refine tkH 7 oRd_150 230 (.slice (some ⟨b1, off1, none⟩) A.length c5) hHeld (by intro w hS; dsimp only [oRd_150] at hS ⊢; go_simp) ?_
                     try simp only [pA, pC, pD]
                     refine tkH 8 oRd_151 231 (.int .i64 (m2 : Int)) hHeld (by intro w hS; dsimp only [oRd_151] at hS ⊢; go_simp) ?_
                     try simp only [pA, pC, pD]
                     refine tkH 9 oRd_152 232 (.pointer (some ⟨b1, off1 + m2 * 11, none⟩)) hHeld (by intro w hS; dsimp only [oRd_152] at hS ⊢; go_simp) ?_
                     try simp only [pA, pC, pD]
                     refine tkH 10 oRd_153 233 (.pointer (some ⟨b1, off1 + m2 * 11 + 9, none⟩)) hHeld (by intro w hS; dsimp only [oRd_153] at hS ⊢; go_simp) ?_
                     try simp only [pA, pC, pD]
                     refine tkH 11 oRd_154 234 (.bool false) hHeld (by intro w hS; dsimp only [oRd_154] at hS ⊢; go_simp) ?_
                     try simp only [pA, pC, pD]
                     refine tkH 12 oRd_155 235 (.bool false) hHeld (by intro w hS; dsimp only [oRd_155] at hS ⊢; go_simp) ?_
                     try simp only [pA, pC, pD]
                     refine tkH 13 oRd_156 236 (.bool false) hHeld (by intro w hS; dsimp only [oRd_156] at hS ⊢; go_simp) ?_
                     try simp only [pA, pC, pD]
                     refine tkH 14 oRd_157 237 (.pointer (some ⟨B2, 5, none⟩)) hHeld (by intro w hS; dsimp only [oRd_157] at hS ⊢; go_simp) ?_
                     try simp only [pA, pC, pD]
                     refine tkH 15 oRd_158 238 (.slice (some ⟨b1, off1, none⟩) A.length c5) hHeld (by intro w hS; dsimp only [oRd_158] at hS ⊢; go_simp) ?_
                     try simp only [pA, pC, pD]
                     refine tkH 16 oRd_159 239 (.int .i64 (m2 : Int)) hHeld (by intro w hS; dsimp only [oRd_159] at hS ⊢; go_simp) ?_
                     try simp only [pA, pC, pD]
                     refine tkH 17 oRd_160 240 (.pointer (some ⟨b1, off1 + m2 * 11, none⟩)) hHeld (by intro w hS; dsimp only [oRd_160] at hS ⊢; go_simp) ?_
                     try simp only [pA, pC, pD]
                     refine tkH 18 oRd_161 241 (.pointer (some ⟨b1, off1 + m2 * 11 + 2, none⟩)) hHeld (by intro w hS; dsimp only [oRd_161] at hS ⊢; go_simp) ?_
                     try simp only [pA, pC, pD]
                     refine tkH 19 oRd_162 242 (.int .i64 x.ve) hHeld (by intro w hS; dsimp only [oRd_162] at hS ⊢; go_simp) ?_
                     try simp only [pA, pC, pD]
                     refine tkH 20 oRd_163 243 (.pointer (some ⟨B7, 5, none⟩)) hHeld (by intro w hS; dsimp only [oRd_163] at hS ⊢; go_simp) ?_
                     try simp only [pA, pC, pD]
                     refine tkH 21 oRd_164 244 (.int .i64 dd.ve) hHeld (by intro w hS; dsimp only [oRd_164] at hS ⊢; go_simp) ?_
                     try simp only [pA, pC, pD]
                     refine tkH 22 oRd_165 245 (.bool true) hHeld (by intro w hS; dsimp only [oRd_165] at hS ⊢; go_simp) ?_
                     try simp only [pA, pC, pD]
                     refine tkH 23 oRd_166 246 (.bool true) hHeld (by intro w hS; dsimp only [oRd_166] at hS ⊢; go_simp) ?_
                     try simp only [pA, pC, pD]
                     refine wpAnyH_done (by kernel_rfl) ?_ _
                     go_wp2
                     go_roundw
                     case rel => exact ⟨k + 1, T2, n2, sa2, sc2, pa2, pc2, by omega, by simp, rfl, rfl, rfl, hidOf (by rw [HTK.out]; exact (rl_no HRL.out (.inr (by rw [HHO.out, HAL.out, HVE.out]))).symm), hn0, by omega, by omega, hidOf (own_kept HS2.out (fun q _ hq => HKv.out q hq)), hidOf (own_kept HP2.out (fun q _ hq => HKv.out q hq)), HAP2, HBv⟩
                     case measure => simp [intOf]; omega
                   ·have hq2 : (x.ve == dd.ve) = false := by simp [hve]
                    have HVE := hidOf hve
                    clear hve
                    have HRY := hidOf (rl_yes HRL.out (show ¬ dd.pa ≤ n2 by omega) (y := y) (by rw [HHO.out, HMA.out, HAL.out, HSP.out, HINB.out]; simp [HVE.out]))
                    have HKw := hidOf (fun q (hq : q < wr.heap.size) => (show (w7.alloc (.cells #[.int .i64 x.id] 3)).drew.heap[q]? = wr.heap[q]? from ((below1 w7 (.cells #[.int .i64 x.id] 3)).block q (by have := HY7.out.size; omega)).trans (HY7.out.block q hq)))
                    have HZ20 := hidOf (show wr.heap.size ≤ (w7.alloc (.cells #[.int .i64 x.id] 3)).drew.heap.size from Nat.le_trans HY7.out.size (below1 w7 (.cells #[.int .i64 x.id] 3)).size)
                    have HIDX : Hid (idA A (m2 : Int) = x.id) := hidOf (by unfold idA; rw [HAL.out])
                    have HHM : Hid (hoV dd A y = (m2 : Int)) := hidOf HHO.out
                    refine wp_region_held_drew (S := fun (Y : World) => Y.cell? ⟨B2, 5, none⟩ = some (.slice (some ⟨b1, off1, none⟩) A.length c5) ∧ Y.cell? ⟨b1, off1 + m2 * 11 + 9, none⟩ = some (.bool false) ∧ Y.cell? ⟨b1, off1 + m2 * 11 + 2, none⟩ = some (.int .i64 x.ve) ∧ Y.cell? ⟨B7, 5, none⟩ = some (.int .i64 dd.ve)) (by kernel_rfl) ⟨ut5, ux9, ux2, uj5⟩ (fun hHeld => ?_)
                    refine tkH 0 oRd_143 223 (.int .i64 (m2 : Int)) hHeld (by intro w hS; dsimp only [oRd_143] at hS ⊢; go_simp) ?_
                    try simp only [pA, pC, pD]
                    refine tkH 1 oRd_144 224 (.bool false) hHeld (by intro w hS; dsimp only [oRd_144] at hS ⊢; go_simp) ?_
                    try simp only [pA, pC, pD]
                    refine tkH 2 oRd_145 225 (.bool false) hHeld (by intro w hS; dsimp only [oRd_145] at hS ⊢; go_simp) ?_
                    try simp only [pA, pC, pD]
                    refine tkH 3 oRd_146 226 (.bool false) hHeld (by intro w hS; dsimp only [oRd_146] at hS ⊢; go_simp) ?_
                    try simp only [pA, pC, pD]
                    refine tkH 4 oRd_147 227 (.bool false) hHeld (by intro w hS; dsimp only [oRd_147] at hS ⊢; go_simp) ?_
                    try simp only [pA, pC, pD]
                    refine tkH 5 oRd_148 228 (.bool false) hHeld (by intro w hS; dsimp only [oRd_148] at hS ⊢; go_simp) ?_
                    try simp only [pA, pC, pD]
                    refine tkH 6 oRd_149 229 (.pointer (some ⟨B2, 5, none⟩)) hHeld (by intro w hS; dsimp only [oRd_149] at hS ⊢; go_simp) ?_
                    try simp only [pA, pC, pD]
                    refine tkH 7 oRd_150 230 (.slice (some ⟨b1, off1, none⟩) A.length c5) hHeld (by intro w hS; dsimp only [oRd_150] at hS ⊢; go_simp) ?_
                    try simp only [pA, pC, pD]
                    refine tkH 8 oRd_151 231 (.int .i64 (m2 : Int)) hHeld (by intro w hS; dsimp only [oRd_151] at hS ⊢; go_simp) ?_
                    try simp only [pA, pC, pD]
                    refine tkH 9 oRd_152 232 (.pointer (some ⟨b1, off1 + m2 * 11, none⟩)) hHeld (by intro w hS; dsimp only [oRd_152] at hS ⊢; go_simp) ?_
                    try simp only [pA, pC, pD]
                    refine tkH 10 oRd_153 233 (.pointer (some ⟨b1, off1 + m2 * 11 + 9, none⟩)) hHeld (by intro w hS; dsimp only [oRd_153] at hS ⊢; go_simp) ?_
                    try simp only [pA, pC, pD]
                    refine tkH 11 oRd_154 234 (.bool false) hHeld (by intro w hS; dsimp only [oRd_154] at hS ⊢; go_simp) ?_
                    try simp only [pA, pC, pD]
                    refine tkH 12 oRd_155 235 (.bool false) hHeld (by intro w hS; dsimp only [oRd_155] at hS ⊢; go_simp) ?_
                    try simp only [pA, pC, pD]
                    refine tkH 13 oRd_156 236 (.bool false) hHeld (by intro w hS; dsimp only [oRd_156] at hS ⊢; go_simp) ?_
                    try simp only [pA, pC, pD]
                    refine tkH 14 oRd_157 237 (.pointer (some ⟨B2, 5, none⟩)) hHeld (by intro w hS; dsimp only [oRd_157] at hS ⊢; go_simp) ?_
                    try simp only [pA, pC, pD]
                    refine tkH 15 oRd_158 238 (.slice (some ⟨b1, off1, none⟩) A.length c5) hHeld (by intro w hS; dsimp only [oRd_158] at hS ⊢; go_simp) ?_
                    try simp only [pA, pC, pD]
                    refine tkH 16 oRd_159 239 (.int .i64 (m2 : Int)) hHeld (by intro w hS; dsimp only [oRd_159] at hS ⊢; go_simp) ?_
                    try simp only [pA, pC, pD]
                    refine tkH 17 oRd_160 240 (.pointer (some ⟨b1, off1 + m2 * 11, none⟩)) hHeld (by intro w hS; dsimp only [oRd_160] at hS ⊢; go_simp) ?_
                    try simp only [pA, pC, pD]
                    refine tkH 18 oRd_161 241 (.pointer (some ⟨b1, off1 + m2 * 11 + 2, none⟩)) hHeld (by intro w hS; dsimp only [oRd_161] at hS ⊢; go_simp) ?_
                    try simp only [pA, pC, pD]
                    refine tkH 19 oRd_162 242 (.int .i64 x.ve) hHeld (by intro w hS; dsimp only [oRd_162] at hS ⊢; go_simp) ?_
                    try simp only [pA, pC, pD]
                    refine tkH 20 oRd_163 243 (.pointer (some ⟨B7, 5, none⟩)) hHeld (by intro w hS; dsimp only [oRd_163] at hS ⊢; go_simp) ?_
                    try simp only [pA, pC, pD]
                    refine tkH 21 oRd_164 244 (.int .i64 dd.ve) hHeld (by intro w hS; dsimp only [oRd_164] at hS ⊢; go_simp) ?_
                    try simp only [pA, pC, pD]
                    refine tkH 22 oRd_165 245 (.bool false) hHeld (by intro w hS; dsimp only [oRd_165] at hS ⊢; go_simp) ?_
                    try simp only [pA, pC, pD]
                    refine tkH 23 oRd_166 246 (.bool false) hHeld (by intro w hS; dsimp only [oRd_166] at hS ⊢; go_simp) ?_
                    try simp only [pA, pC, pD]
                    refine wpAnyH_done (by kernel_rfl) ?_ _
                    have wx0 : w7.drew.cell? ⟨b1, off1 + m2 * 11, none⟩ = some (.int .i64 x.id) := ux0
                    have wt5 : w7.drew.cell? ⟨B2, 5, none⟩ = some (.slice (some ⟨b1, off1, none⟩) A.length c5) := ut5
                    have HML := hidOf (show T2.length + 1 ≤ maxLen by unfold maxLen; omega)
                    have HBY := hidOf (show (T2.length + 1) * 8 ≤ 140737488355328 by omega)
                    go_wp2_with (first | (at_builtin; refine wpList_app1p _ rfl _ _ 33 rfl w3.heap.size 3 _ 1 8 Try.underlying33 info3 rfl (by decide) sa2 sc2 T2.length (fl iC (T2.map (idA A))) rfl (own_kept HS2.out (fun q _ hq => HKw.out q hq)) ⟨w7.heap.size, 0, none⟩ 1 (iC x.id) rfl rfl (fun j u hj => new1 w7 x.id j u hj) (iC_one _) HML.out HBY.out (Nat.le_trans HBt.out.size HZ20.out) ?_; intro sa3 sc3 w20 ho hg hat; have HRW := hidOf (row_step HP2.out HAP2.out HKw.out HZ20.out hg hat ho); have HS20 := hidOf ho; have HG20 := hidOf hg; have HZ22 := hidOf (show w3.heap.size ≤ (w20.alloc (.cells #[.int .i64 (m2 : Int)] 3)).heap.size from Nat.le_trans (Nat.le_trans HBt.out.size HZ20.out) (Nat.le_trans hg.size (below1 w20 (.cells #[.int .i64 (m2 : Int)] 3)).size)); clear ho hg hat) | (at_builtin; refine wpList_app1p _ rfl _ _ 33 rfl w3.heap.size 3 _ 1 8 Try.underlying33 info3 rfl (by decide) pa2 pc2 T2.length (fl iC T2) rfl (own_kept HRW.out.1 (fun q _ hq => (below1 w20 (.cells #[.int .i64 (m2 : Int)] 3)).block q hq)) ⟨w20.heap.size, 0, none⟩ 1 (iC (m2 : Int)) rfl rfl (new1 w20 (m2 : Int)) (iC_one _) HML.out HBY.out HZ22.out ?_; intro pa3 pc3 w21 ho hg hat; have HRX := hidOf (row_step HS20.out HRW.out.2.symm (fun q hq => (below1 w20 (.cells #[.int .i64 (m2 : Int)] 3)).block q hq) (by simp) hg hat ho); have HP21 := hidOf ho; have HG21 := hidOf hg; clear ho hg hat))
                    go_roundw
                    case rel => exact ⟨k + 1, T2 ++ [(m2 : Int)], n2 + 1, sa3, sc3, pa3, pc3, by omega, by simp, by simp, by simp, rfl, hidOf (by rw [HTK.out, HRY.out, HHM.out]), by omega, by omega, by simp; omega, hidOf (by rw [List.map_append, fl_append, List.length_append, List.map_cons, List.map_nil, HIDX.out]; exact HRX.out.1), hidOf (by rw [fl_snoc, List.length_append]; exact HP21.out), hidOf HRX.out.2.symm, hidOf (bel2 HBt.out HKw.out HZ20.out HG20.out HG21.out (own_blk2 HS2.out) (own_blk2 HRW.out.1) HBt.out.size ⟨HY7.out.os, HY7.out.tape, HY7.out.output⟩)⟩
                    case measure => simp [intOf]; omega
               ·have hd2 : T2 = diT dd Ln A := by
                 unfold diT
                 rw [if_pos HTY.out, HL.out, HT0.out, ← HMN.out, rlV_cut dd A _ (L.take k) L (List.take_prefix _ _) (by rw [← HRL.out]; show dd.pa ≤ n2; omega), ← HRL.out]
                have HD2 := hidOf hd2
                clear hd2
                go_wp2
                go_meet
                case rel => exact ⟨T2, sa2, sc2, rfl, HD2, HS2, HBt⟩
              ·have hkl : k = L.length := by omega
               subst hkl
               have hlt5 : ¬ (L.length : Int) < (L.length : Int) := by omega
               have hd2 : T2 = diT dd Ln A := by
                have h9 := HRL.out
                rw [List.take_length] at h9
                unfold diT
                rw [if_pos HTY.out, HL.out, HT0.out, ← HMN.out, ← h9]
               have HD2 := hidOf hd2
               clear hd2
               go_wp2
               go_meet
               case rel => exact ⟨T2, sa2, sc2, rfl, HD2, HS2, HBt⟩
        ·have hq : (dd.ty == 1) = false := by simp [hty]
         have HD2 : Hid (T = diT dd Ln A) := hidOf (by unfold diT; rw [if_neg hty, HL.out, HT0.out])
         clear hty
         go_wp2
         go_meet
         case rel => exact ⟨T, sa, sc, rfl, HD2, HS, HBr⟩
end Go.Proofs.Ytblofbdncolikaa
