import Derived.Test.YtnjmocobncncdaaDoorWireAll
/-
  Small laws of wire's that the law's own texts and the document's reader share. Over this seat's translation.
-/
namespace Go.Proofs.YtnjmocobncncdaaDoor.Wi
open Go.ChangeShapes Go.WideShapes Go.ChangeAt Go.RowKit Go.Proofs.YtnjmocobncncdaaDoor.Mem Go.Proofs.YtnjmocobncncdaaDoor.Bt Go.Proofs.YtnjmocobncncdaaDoor.Tg Go.Proofs.YtnjmocobncncdaaDoor.Sha
set_option linter.unusedVariables false
set_option linter.unusedSimpArgs false

theorem put1 (n : Nat) : put n 1 = [n % 256] := rfl

section
variable {ops : Array Oper} {rest : List Oper} {o : Oper} {a : Act} {w : World} {Q : Exit → Act → World → Prop}
end
section
variable {w w' : World} {base A B C : Nat} {pa pa' : Option Addr} {ca ca' : Nat} {la la' : List Nat} {pb : Option Addr} {cb : Nat} {bs : List Nat} {pc pc' : Option Addr} {cc cc' : Nat} {cs cs' : List Nat} {q : Option Addr} {qc : Nat} {qs : List Nat}
theorem row_step {X : Nat} {t : TypeId} {xs : List Value} (hx : Row w X t xs) (ha : Wr w base A pa ca la) (hs : Step (some A) pa pa' w w') (hne : X ≠ A) (ht : t ≠ 5 := by decide) : Row w' X t xs :=
  hx.of_block (hs.block X hx.lt (fun e => hne (Option.some.inj e).symm) (row_not_own hx ht ha.own))
end
end Go.Proofs.YtnjmocobncncdaaDoor.Wi

/-
  The contracts of the document's Put and Text of layer 4, over this seat's translation.
-/
namespace Go.Proofs.YtnjmocobncncdaaDoor.Wi
open Go.ChangeShapes Go.WideShapes Go.ChangeAt Go.RowKit Go.Proofs.YtnjmocobncncdaaDoor.Mem Go.Proofs.YtnjmocobncncdaaDoor.Bt Go.Proofs.YtnjmocobncncdaaDoor.Tg
set_option linter.unusedVariables false
set_option linter.unusedSimpArgs false

end Go.Proofs.YtnjmocobncncdaaDoor.Wi

/-
  The document's reader of layer 4: its memory, and the contract of Take, over this seat's translation.
-/
namespace Go.Proofs.YtnjmocobncncdaaDoor.Wi
open Go.ChangeShapes Go.WideShapes Go.ChangeAt Go.RowKit Go.Proofs.YtnjmocobncncdaaDoor.Mem Go.Proofs.YtnjmocobncncdaaDoor.Bt Go.Proofs.YtnjmocobncncdaaDoor.Tg
set_option linter.unusedVariables false
set_option linter.unusedSimpArgs false

end Go.Proofs.YtnjmocobncncdaaDoor.Wi

/-
  The contracts of the document's reader of layer 4 (Number, Hash, Text, Left, End), over this seat's translation.
-/
namespace Go.Proofs.YtnjmocobncncdaaDoor.Wi
open Go.ChangeShapes Go.WideShapes Go.ChangeAt Go.RowKit Go.Proofs.YtnjmocobncncdaaDoor.Mem Go.Proofs.YtnjmocobncncdaaDoor.Bt Go.Proofs.YtnjmocobncncdaaDoor.Tg
set_option linter.unusedVariables false
set_option linter.unusedSimpArgs false

end Go.Proofs.YtnjmocobncncdaaDoor.Wi

/-
  The contracts of the document's reader of layer 4 (Text, Hash), over this seat's translation.
-/
namespace Go.Proofs.YtnjmocobncncdaaDoor.Wi
open Go.ChangeShapes Go.WideShapes Go.ChangeAt Go.RowKit Go.Proofs.YtnjmocobncncdaaDoor.Mem Go.Proofs.YtnjmocobncncdaaDoor.Bt Go.Proofs.YtnjmocobncncdaaDoor.Tg
set_option linter.unusedVariables false
set_option linter.unusedSimpArgs false

end Go.Proofs.YtnjmocobncncdaaDoor.Wi
