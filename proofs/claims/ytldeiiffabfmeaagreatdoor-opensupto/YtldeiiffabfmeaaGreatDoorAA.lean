/- The zero value of the document's engine. -/
import Derived.Test.YtldeiiffabfmeaaGreatDoorQ
set_option linter.unusedVariables false
set_option linter.unusedSimpArgs false
namespace Go.Proofs.YtldeiiffabfmeaaGreatDoor
open Go.RowKit

def zeroKind : Value → Nat
  | .bool false => 1
  | .int .i64 0 => 2
  | .slice none 0 0 => 3
  | _ => 0

/-- The kinds of the zeros of an engine, cell by cell. -/
def zeroCellsK : List Nat := List.replicate 100 1 ++ List.replicate 100 2
def zeroStandK : List Nat := List.replicate 11 1 ++ (List.replicate 5 zeroCellsK).flatten
def zeroEngK : List Nat := [3, 2, 2, 2, 2, 3] ++ (List.replicate 4 zeroCellsK).flatten ++ (List.replicate 96 zeroStandK).flatten ++ List.replicate 16 3 ++ List.replicate 96 2 ++ List.replicate 24 1

def sameK : List Value → List Nat → Bool
  | [], [] => true
  | v :: vs, k :: ks => Nat.beq (zeroKind v) k && sameK vs ks
  | _, _ => false

set_option maxRecDepth 1000000 in
theorem zero102 : (Tryz.prog.info? 156).map (fun i => (i.size, match i.zero with | some (.agg z) => sameK z.toList zeroEngK | _ => false)) = some (97998, true) := by kernel_rfl
end Go.Proofs.YtldeiiffabfmeaaGreatDoor
