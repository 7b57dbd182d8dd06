/- Contracts of functions of the program, and what they lean on. -/
import Derived.Test.YthfpcebcfjlkmabMem
import Derived.Laws.Tables
set_option linter.unusedSimpArgs false
set_option linter.unusedVariables false
namespace Go.Proofs.Ythfpcebcfjlkmab
open Go.RowKit
/-- Field f of the struct type t is one cell, at the offset off. -/
def fldB (P : Program) (t f off : Nat) : Bool :=
  match P.underlying t with
  | some (.struct fs) =>
    match fs[f]? with
    | some fd => fd.offset == off && (match P.underlying fd.type with | some (.struct _) => false | some (.array _ _) => false | some _ => true | none => false)
    | none => false
  | _ => false
theorem run_field {P : Program} {w : World} {t f off : Nat} {cs : Array Value} {v : Value} (h : fldB P t f off = true) (hv : cs[off]? = some v) : (Instr.field t (.agg cs) f).run P w = .ok v w := by
  unfold fldB at h
  split at h
  · rename_i fs hu
    split at h
    · rename_i fd hfd
      simp only [Bool.and_eq_true, beq_iff_eq] at h
      obtain ⟨ho, hk⟩ := h
      subst ho
      cases hD : P.underlying fd.type with
      | none => rw [hD] at hk; cases hk
      | some D =>
        rw [hD] at hk
        have hag : (isAgg fd.type).run P w = .ok false w := by
          simp only [isAgg, Sem.run_bind, run_underlying hD, Result.andThen_ok]
          cases D <;> simp_all
        simp [Instr.field, run_underlying hu, hfd, asAgg, part, hag, hv]
    · cases h
  · cases h
/-- The struct type t: the places of its fields, its zero value. -/
def bldP (P : Program) (t : Nat) (pl : List (Nat × Nat)) (zs : Array Value) : Prop :=
  (P.info? t).map (·.zero) = some (some (.agg zs)) ∧ ∃ fs, P.underlying t = some (.struct fs) ∧ fs.toList.mapM (fun f => (P.info? f.type).map fun i => (f.offset, i.size)) = some pl
theorem built_of {P : Program} {t : Nat} {pl : List (Nat × Nat)} {zs : Array Value} (h : bldP P t pl zs) (parts : List (Nat × Value)) : P.built t parts = Instr.fill (pl.toArray[·]?) zs parts := by
  obtain ⟨h1, fs, h2, h3⟩ := h
  cases hi : P.info? t with
  | none => rw [hi] at h1; cases h1
  | some it =>
    rw [hi] at h1
    simp only [Option.map_some, Option.some.injEq] at h1
    simp only [Program.built, hi, h2, h1, h3, Value.cells]

section
variable {P : Program} {n : Nat} {N : Post} {L : Fr} {w : World} {ops : Array Oper} {rest : List Oper}
variable {d : Nat} {ty : TypeId} {pos : String} {af : Array Edge}
theorem WL.field {x : Operand} {t f off : Nat} {cs : Array Value} {v : Value} (hF : fldB P t f off = true) (hx : ev L x = some (.agg cs)) (hv : cs[off]? = some v) (hn : Nat.blt d n = true)
    (h : WL P n ops rest N ((d, v) :: L) w) : WL P n ops (⟨some d, .field t x f, ty, pos, af, none⟩ :: rest) N L w :=
  WL.val rfl rfl hn (fun a ha => by simp [execOp, ha.ev hx, run_field hF hv]) h
theorem WL.build {t : Nat} {pl : List (Nat × Nat)} {zs cells : Array Value} {parts : List (Nat × Operand)} {vs : List Value} (hB : bldP P t pl zs) (hx : evs L (parts.map (·.2)) = some vs)
    (hf : Instr.fill (pl.toArray[·]?) zs ((parts.map (·.1)).zip vs) = some cells) (hn : Nat.blt d n = true)
    (h : WL P n ops rest N ((d, .agg cells) :: L) w) : WL P n ops (⟨some d, .build t parts.toArray, ty, pos, af, none⟩ :: rest) N L w := by
  refine WL.val rfl rfl hn (fun a ha => ?_) h
  have hm := ha.evs hx
  have hz : (parts.map fun x => (x.1, a.eval x.2)) = (parts.map (·.1)).zip vs := by
    rw [← hm]
    clear hm hf hx
    induction parts with
    | nil => rfl
    | cons p l ih => simp [ih]
  have hb : P.built t (parts.map fun x => (x.1, a.eval x.2)) = some cells := by rw [built_of hB, hz]; exact hf
  have := run_build (P := P) w t (parts.map fun x => (x.1, a.eval x.2)).toArray cells (by simpa using hb)
  simp [execOp] at this ⊢
  simp [this]
end
end Go.Proofs.Ythfpcebcfjlkmab
