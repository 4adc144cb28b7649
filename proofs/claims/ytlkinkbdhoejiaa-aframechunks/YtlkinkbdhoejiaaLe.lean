/- trivetlaw16.AframeChunks answers true of any row of frames, however long, and any cut. Conditions: the row can be read. -/
import Derived.Test.YtlkinkbdhoejiaaLd
namespace Go.Proofs.Ytlkinkbdhoejiaa
open Go.RowKit Go.Lib
set_option maxRecDepth 100000

theorem chunks_law (w : World) (ad : Option Addr) (cap : Nat) (fs : List Fr) (cut : Int) (hfs : 0 < fs.length → ∃ b o, ad = some ⟨b, o, none⟩ ∧ b < w.heap.size ∧ FrsAt w b o fs) (hcap : fs.length ≤ cap) :
    Calls Try.prog 6 #[.slice ad fs.length cap, .int .i64 cut] w fun e w' => e = .returned (.bool true) ∧ Below w.heap.size w w' := by
  by_cases hn : fs.length ≤ 40
  · exact chunks_at w ad cap fs cut hfs hcap hn
  · have d2 : decide ((40 : Int) < (fs.length : Int)) = true := by simp; omega
    clear hfs hcap hn
    go_enter Try.func6, Try.ntmps6
    go_wp2_with fail
    refine (wakes_any _).mono ?_
    rintro e w1 ⟨rfl, hb1⟩
    go_wp2_with fail
    go_ret
    exact ⟨rfl, hb1⟩
end Go.Proofs.Ytlkinkbdhoejiaa
