/-
  No cell of these rows narrows 'for every input' (looked for: loops, veiled, ifaces, maps, wideKeys, modest, calm, conditions, laid).
  DERIVED. THE GIVEN ROWS OF THIS SEAT. 4 by the template 'for every input the law returns true; each argument reads behind the call as it read before'; 0 by the template 'total and deterministic' (their statements: YthgkifkcckandaaTotals.lean).
  GIVEN WITH THE SEED: the statements are not yours to turn. If you find one false, say at which input.
  Laid BY PROGRAM, IN A SANDBOX (cutbox-rows.mjs): the forced cells as the released guide's own fill.sh prints them over the translation ef44c2a4b4cc1caf… (all of the seat's roots in one cut). By AI agents, Wed Nov 11 2026. No macro, syntax, notation, axiom, sorry.
-/
import Derived.Test.YthgkifkcckandaaChecked
import GoSem.Claim
import GoSem.ClaimJoined
import GoSem.ClaimMapViews
import Derived.JoinedTies
import Derived.KernelRfl
namespace Go.Proofs.Ythgkifkcckandaa
/- THE CELL 'sum', in the pinned program and in every row, IS THE sha256 OF THE DUMP (.gsa) THAT YthgkifkcckandaaProg.lean LOADS. Nothing in Lean hashes anything: it is a label: what it is worth is what the hold of that sum in a sandbox is worth. -/
noncomputable def Try.pinned : Pinned := { name := "ythgkifkcckandaa", sum := "ef44c2a4b4cc1caf530d164fdd83a74f4cfaeae0c647c1775f98c2ded1c95628", checked := Try.checked }
namespace Rows
def none {H : Type} : Left H := { results := [], args := [] }

/-- 'fareboxlaw17.JourneyCounts': WHATEVER THE INPUT: true; the input reads as it did. -/
def journeyCountsSpec : ChangeSpec := { name := "journeyCounts", fn := fun _ => fun
  | [d1, d2] => { results := [.lit (.bool true)], args := [d1, d2] }
  | _ => none }
def journeyCountsRow : OpenClaim := { program := "ythgkifkcckandaa", sum := "ef44c2a4b4cc1caf530d164fdd83a74f4cfaeae0c647c1775f98c2ded1c95628", func := "farebox/fareboxlaw17.JourneyCounts", spec := "journeyCounts", inPlace := ["math.Float64bits"], unfollowed := true, recurses := true, apart := false }
def JourneyCountsSaid : Prop := journeyCountsRow.holds Try.pinned (OpenSpec.ofChange journeyCountsSpec)

/-- ITS FALSE NEIGHBOUR: 'it returns false'. Refute it at one input. -/
def journeyCountsWrong : ChangeSpec := { name := "journeyCounts", fn := fun _ => fun
  | [d1, d2] => { results := [.lit (.bool false)], args := [d1, d2] }
  | _ => none }
def JourneyCountsWrongFalsely : Prop := journeyCountsRow.holds Try.pinned (OpenSpec.ofChange journeyCountsWrong)

/-- 'fareboxlaw17.JourneyLies': WHATEVER THE INPUT: true; the input reads as it did. -/
def journeyLiesSpec : ChangeSpec := { name := "journeyLies", fn := fun _ => fun
  | [d1, d2] => { results := [.lit (.bool true)], args := [d1, d2] }
  | _ => none }
def journeyLiesRow : OpenClaim := { program := "ythgkifkcckandaa", sum := "ef44c2a4b4cc1caf530d164fdd83a74f4cfaeae0c647c1775f98c2ded1c95628", func := "farebox/fareboxlaw17.JourneyLies", spec := "journeyLies", inPlace := ["math.Float64bits"], unfollowed := true, recurses := true, apart := false }
def JourneyLiesSaid : Prop := journeyLiesRow.holds Try.pinned (OpenSpec.ofChange journeyLiesSpec)

/-- ITS FALSE NEIGHBOUR: 'it returns false'. Refute it at one input. -/
def journeyLiesWrong : ChangeSpec := { name := "journeyLies", fn := fun _ => fun
  | [d1, d2] => { results := [.lit (.bool false)], args := [d1, d2] }
  | _ => none }
def JourneyLiesWrongFalsely : Prop := journeyLiesRow.holds Try.pinned (OpenSpec.ofChange journeyLiesWrong)

/-- 'fareboxlaw17.JourneyAlone': WHATEVER THE INPUT: true; the input reads as it did. -/
def journeyAloneSpec : ChangeSpec := { name := "journeyAlone", fn := fun _ => fun
  | [d1, d2] => { results := [.lit (.bool true)], args := [d1, d2] }
  | _ => none }
def journeyAloneRow : OpenClaim := { program := "ythgkifkcckandaa", sum := "ef44c2a4b4cc1caf530d164fdd83a74f4cfaeae0c647c1775f98c2ded1c95628", func := "farebox/fareboxlaw17.JourneyAlone", spec := "journeyAlone", inPlace := ["math.Float64bits"], unfollowed := true, recurses := true, apart := false }
def JourneyAloneSaid : Prop := journeyAloneRow.holds Try.pinned (OpenSpec.ofChange journeyAloneSpec)

/-- ITS FALSE NEIGHBOUR: 'it returns false'. Refute it at one input. -/
def journeyAloneWrong : ChangeSpec := { name := "journeyAlone", fn := fun _ => fun
  | [d1, d2] => { results := [.lit (.bool false)], args := [d1, d2] }
  | _ => none }
def JourneyAloneWrongFalsely : Prop := journeyAloneRow.holds Try.pinned (OpenSpec.ofChange journeyAloneWrong)

/-- 'fareboxlaw17.JourneySplits': WHATEVER THE INPUT: true; the input reads as it did. -/
def journeySplitsSpec : ChangeSpec := { name := "journeySplits", fn := fun _ => fun
  | [d1, d2] => { results := [.lit (.bool true)], args := [d1, d2] }
  | _ => none }
def journeySplitsRow : OpenClaim := { program := "ythgkifkcckandaa", sum := "ef44c2a4b4cc1caf530d164fdd83a74f4cfaeae0c647c1775f98c2ded1c95628", func := "farebox/fareboxlaw17.JourneySplits", spec := "journeySplits", inPlace := ["math.Float64bits"], unfollowed := true, recurses := true, apart := false }
def JourneySplitsSaid : Prop := journeySplitsRow.holds Try.pinned (OpenSpec.ofChange journeySplitsSpec)

/-- ITS FALSE NEIGHBOUR: 'it returns false'. Refute it at one input. -/
def journeySplitsWrong : ChangeSpec := { name := "journeySplits", fn := fun _ => fun
  | [d1, d2] => { results := [.lit (.bool false)], args := [d1, d2] }
  | _ => none }
def JourneySplitsWrongFalsely : Prop := journeySplitsRow.holds Try.pinned (OpenSpec.ofChange journeySplitsWrong)

/- THE SECOND FORM. 'bulk': how many values and letters a reading holds, each counted each time it is reached (what is shared counts as often as it is met; a slice's spare places count too). A statement '..UptoSaid' is the law's where the arguments, and the package variables that the reading takes, are together of bulk at most 1048576: NARROWER than '..Said'. Prove '..Said' where nothing that the law and all that it calls make is longer than what came in: it says more and counts as full. Else prove '..UptoSaid'. A law counts once. -/
mutual
def uptoBulk {H : Type} : DataW H → Nat
  | .lit (.string bytes) => bytes.length + 1
  | .lit _ => 1
  | .nil => 1
  | .ptr d => uptoBulk d + 1
  | .slice elems spare => uptoBulkAll elems + uptoBulkAll spare + 1
  | .agg parts => uptoBulkAll parts + 1
  | .iface _ d => uptoBulk d + 1
  | .map entries => uptoBulkEntries entries + 1
  | .held _ => 1
def uptoBulkAll {H : Type} : List (DataW H) → Nat
  | [] => 0
  | d :: r => uptoBulk d + uptoBulkAll r
def uptoBulkEntries {H : Type} : List (Lit × DataW H) → Nat
  | [] => 0
  | x :: r => uptoBulkEntry x + uptoBulkEntries r
def uptoBulkEntry {H : Type} : Lit × DataW H → Nat
  | (.string bytes, d) => bytes.length + uptoBulk d + 1
  | (_, d) => uptoBulk d + 1
 end
def uptoSmall : (H : Type) → List (DataW H) → Bool := fun _ ds => decide (uptoBulkAll ds ≤ 1048576)
def OpenSpec.upto (s : _root_.Go.ChangeSpec) : _root_.Go.OpenSpec := { _root_.Go.OpenSpec.ofChange s with cond := some uptoSmall }

/-- 'fareboxlaw17.JourneyCounts', WHERE WHAT IT READS IS OF BULK AT MOST 1048576: true; the input reads as it did. -/
def journeyCountsUptoRow : OpenClaim := { program := "ythgkifkcckandaa", sum := "ef44c2a4b4cc1caf530d164fdd83a74f4cfaeae0c647c1775f98c2ded1c95628", func := "farebox/fareboxlaw17.JourneyCounts", spec := "journeyCounts", inPlace := ["math.Float64bits"], unfollowed := true, recurses := true, apart := false, narrowed := true }
def JourneyCountsUptoSaid : Prop := journeyCountsUptoRow.holds Try.pinned (OpenSpec.upto journeyCountsSpec)

/-- 'fareboxlaw17.JourneyLies', WHERE WHAT IT READS IS OF BULK AT MOST 1048576: true; the input reads as it did. -/
def journeyLiesUptoRow : OpenClaim := { program := "ythgkifkcckandaa", sum := "ef44c2a4b4cc1caf530d164fdd83a74f4cfaeae0c647c1775f98c2ded1c95628", func := "farebox/fareboxlaw17.JourneyLies", spec := "journeyLies", inPlace := ["math.Float64bits"], unfollowed := true, recurses := true, apart := false, narrowed := true }
def JourneyLiesUptoSaid : Prop := journeyLiesUptoRow.holds Try.pinned (OpenSpec.upto journeyLiesSpec)

/-- 'fareboxlaw17.JourneyAlone', WHERE WHAT IT READS IS OF BULK AT MOST 1048576: true; the input reads as it did. -/
def journeyAloneUptoRow : OpenClaim := { program := "ythgkifkcckandaa", sum := "ef44c2a4b4cc1caf530d164fdd83a74f4cfaeae0c647c1775f98c2ded1c95628", func := "farebox/fareboxlaw17.JourneyAlone", spec := "journeyAlone", inPlace := ["math.Float64bits"], unfollowed := true, recurses := true, apart := false, narrowed := true }
def JourneyAloneUptoSaid : Prop := journeyAloneUptoRow.holds Try.pinned (OpenSpec.upto journeyAloneSpec)

/-- 'fareboxlaw17.JourneySplits', WHERE WHAT IT READS IS OF BULK AT MOST 1048576: true; the input reads as it did. -/
def journeySplitsUptoRow : OpenClaim := { program := "ythgkifkcckandaa", sum := "ef44c2a4b4cc1caf530d164fdd83a74f4cfaeae0c647c1775f98c2ded1c95628", func := "farebox/fareboxlaw17.JourneySplits", spec := "journeySplits", inPlace := ["math.Float64bits"], unfollowed := true, recurses := true, apart := false, narrowed := true }
def JourneySplitsUptoSaid : Prop := journeySplitsUptoRow.holds Try.pinned (OpenSpec.upto journeySplitsSpec)

end Rows
end Go.Proofs.Ythgkifkcckandaa
