/-
  Partitions (plain): joined; many of them joined in any order; what is seen.
-/
import Derived.Test.YthfanonjokpflaaGreatMg
import Derived.Test.YthfanonjokpflaaGreatRw2
set_option linter.unusedVariables false
set_option linter.unusedSimpArgs false
namespace Go.Proofs.YthfanonjokpflaaGreat
open Go Go.RowKit

/-- Joins that are one way, however ordered and however often (GENERAL). -/
structure SL {α : Type} (jn : α → α → α) (G : α → Prop) : Prop where
  good : ∀ {x y}, G x → G y → G (jn x y)
  comm : ∀ {x y}, G x → G y → jn x y = jn y x
  assoc : ∀ {x y z}, G x → G y → G z → jn (jn x y) z = jn x (jn y z)
  self : ∀ {x}, G x → jn x x = x
section
variable {α : Type} {jn : α → α → α} {G : α → Prop}
end

theorem JR : JK Ro.key Ro.join Ro.Up where
  key_ := fun x y _ => rfl
  good := fun hx hy _ => hx.join hy
  comm := fun hx hy e => ro_comm e hx hy
  assoc := fun hx hy hz _ _ => ro_assoc hx hy hz
  self := fun hx => ro_self hx
abbrev Rows := List Ro
abbrev RiseR (l : Rows) : Prop := RiseK Ro.key l
abbrev mrgR (l k : Rows) : Rows := mrgK Ro.key Ro.join l k
/-- A partition: key, gone, rows. -/
structure Pa where
  key : ByteArray
  gone : Int
  rows : Rows
def Pa.join (a b : Pa) : Pa := ⟨a.key, max a.gone b.gone, mrgR a.rows b.rows⟩
structure Pa.Up (p : Pa) : Prop where
  rise : RiseR p.rows
  up : AllK Ro.Up p.rows
theorem Pa.Up.join {a b : Pa} (ha : a.Up) (hb : b.Up) : (a.join b).Up := ⟨mrgK_rise JR.key_ ha.rise, AllK.mrg JR ha.up hb.up⟩
end Go.Proofs.YthfanonjokpflaaGreat
