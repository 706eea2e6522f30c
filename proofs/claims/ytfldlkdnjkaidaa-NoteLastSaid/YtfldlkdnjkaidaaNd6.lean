/-
  The developers' notes: all that is to be known of them.
-/
import Derived.Test.YtfldlkdnjkaidaaTn
import Derived.Test.YtfldlkdnjkaidaaNd2
import Derived.Test.YtfldlkdnjkaidaaNd4
import Derived.Test.YtfldlkdnjkaidaaNd5
set_option linter.unusedVariables false
namespace Go.Proofs.Ytfldlkdnjkaidaa
open Go Go.RowKit

theorem devN : DevN NoIs where
  kept := fun h hk ho hG => h.kept hk ho hG
  new := dnew_any
  add := fun F p S n b w h hF hk hn hb => (dadd_any F p S n b w h hF hk hn hb).mono fun e w' ⟨he, h1, h2⟩ => ⟨he, F, h1, h2⟩
  drop := fun F p S n w h hF hk hn => (ddrop_any F p S n w h hF hn).mono fun e w' ⟨he, h1, h2⟩ => ⟨he, F, h1, h2⟩
  get := fun F p S n w h hF hk hn => dget_any F p S n w h hn
  all := fun F p S w h hF hk => dall_any F p S w h hk
  fits := fun F p S Aa Ad na ca nd cd B L D w h hF hk ha hd hB hwa hwd hna hnd _ _ => dfits_any F p S Aa Ad na ca nd cd B L D w h hk ha hd hB hwa hwd hna hnd
theorem awake11z (w : World) : Calls Try.prog 7 #[] w fun x w' => x = .returned (.bool true) ∧ Below w.heap.size w w' := awake11 devN w
end Go.Proofs.Ytfldlkdnjkaidaa
