/- Contracts of functions of the program, and what they lean on: Pure, PL, PL2, Core, Ops, Mem, Draw, Entry, PL3, PL4, Args, St, Vr, Ap, Sc, Se, Facts, Nn, Bl, Pw, Ch, Nm, Va, Ne, Ii. -/
import Derived.WalkKit
import Derived.Maps.AppendAt
import Derived.Orders
import Derived.Still
import Derived.ProofKit
import Derived.OpenShut
import Derived.ShutString
import Derived.ChangeOld
import Derived.Deep.Slices
import Derived.Laws.Tables
import Derived.Scope
import Derived.Laws.StructEq
import Derived.Test.YtdmgbahognfhbabProg
namespace Go.Proofs.Ytdmgbahognfhbab
/-- The value of a list of limbs. -/
def nv : List Nat → Nat
  | [] => 0
  | x :: l => x + 4294967296 * nv l
def Lim (l : List Nat) : Prop := ∀ x ∈ l, x < 4294967296
/-- Canonical limbs of a number, with fuel. -/
def digsF : Nat → Nat → List Nat
  | 0, _ => []
  | f + 1, n => if n = 0 then [] else n % 4294967296 :: digsF f (n / 4294967296)
def digs (n : Nat) : List Nat := digsF n n
/-- The list without zeros at its end. -/
def trimL : List Nat → List Nat
  | [] => []
  | x :: l => match trimL l with
    | [] => if x = 0 then [] else [x]
    | y :: r => x :: y :: r
theorem Lim.nil : Lim [] := fun _ h => by cases h
theorem Lim.cons {x : Nat} {l : List Nat} (hx : x < 4294967296) (h : Lim l) : Lim (x :: l) := fun y hy => by
  rcases List.mem_cons.1 hy with rfl | hy
  · exact hx
  · exact h _ hy
theorem Lim.head {x : Nat} {l : List Nat} (h : Lim (x :: l)) : x < 4294967296 := h x (List.mem_cons_self ..)
theorem digsF_eq (f n : Nat) (h : n ≤ f) : nv (digsF f n) = n := by
  induction f generalizing n with
  | zero => simp [digsF, nv]; omega
  | succ f ih =>
    unfold digsF
    split
    · rename_i h0; subst h0; rfl
    · simp only [nv]; rw [ih _ (by omega)]; omega
theorem nv_digs (n : Nat) : nv (digs n) = n := digsF_eq n n (Nat.le_refl _)
theorem nv_trimL (l : List Nat) : nv (trimL l) = nv l := by
  induction l with
  | nil => rfl
  | cons x l ih =>
    unfold trimL
    split
    · rename_i h; rw [h] at ih; split
      · rename_i h0; subst h0; simp [nv, ← ih]
      · simp [nv, ← ih]
    · rename_i h; rw [h] at ih; rw [nv, ih]; rfl
end Go.Proofs.Ytdmgbahognfhbab
namespace Go.Proofs.Ytdmgbahognfhbab
/-- The number of limbs without the zeros at the end. -/
def sigL (l : List Nat) : Nat := (trimL l).length
theorem getD_out {l : List Nat} {i : Nat} (h : l.length ≤ i) : l.getD i 0 = 0 := by simp [List.getD_eq_getElem?_getD, List.getElem?_eq_none h]
end Go.Proofs.Ytdmgbahognfhbab
namespace Go.Proofs.Ytdmgbahognfhbab
theorem Lim.getD {l : List Nat} (h : Lim l) (i : Nat) : l.getD i 0 < 4294967296 := by
  rcases Nat.lt_or_ge i l.length with h1 | h1
  · simp only [List.getD_eq_getElem?_getD, List.getElem?_eq_getElem h1, Option.getD_some]; exact h _ (List.getElem_mem h1)
  · rw [getD_out h1]; decide
theorem Lim.append {a b : List Nat} (ha : Lim a) (hb : Lim b) : Lim (a ++ b) := fun x hx => by
  rcases List.mem_append.1 hx with h | h
  · exact ha x h
  · exact hb x h
theorem Lim.one {x : Nat} (h : x < 4294967296) : Lim [x] := Lim.cons h Lim.nil
theorem Lim.take {l : List Nat} (h : Lim l) (k : Nat) : Lim (l.take k) := fun x hx => h x (List.mem_of_mem_take hx)
theorem Lim.drop {l : List Nat} (h : Lim l) (k : Nat) : Lim (l.drop k) := fun x hx => h x (List.mem_of_mem_drop hx)
theorem Lim.set {l : List Nat} (h : Lim l) (k : Nat) {x : Nat} (hx : x < 4294967296) : Lim (l.set k x) := fun y hy => by
  rcases List.mem_or_eq_of_mem_set hy with h1 | h1
  · exact h y h1
  · subst h1; exact hx
theorem Lim.zeros (n : Nat) : Lim (List.replicate n 0) := fun x hx => by rw [(List.mem_replicate.1 hx).2]; decide
/-- The comparison of two numbers, as Go gives it. -/
def cmpI (a b : Nat) : Int := if a < b then -1 else if b < a then 1 else 0
end Go.Proofs.Ytdmgbahognfhbab
namespace Go.Proofs.Ytdmgbahognfhbab
open Go.RowKit

abbrev Fr := List (Nat × Value)
/-- What a frame is known to hold at a slot. -/
def lk : Fr → Nat → Option Value
  | [], _ => none
  | (k, v) :: l, t => bif Nat.beq k t then some v else lk l t
structure Has (n : Nat) (a : Act) (L : Fr) : Prop where
  nd : a.defers = []
  sz : a.tmps.size = n
  at_ : ∀ t v, lk L t = some v → a.tmps[t]? = some v
theorem beq_ne {k t : Nat} (h : k ≠ t) : Nat.beq k t = false := by
  cases hb : Nat.beq k t
  · rfl
  · exact absurd (Nat.eq_of_beq_eq_true hb) h
theorem beq_self (k : Nat) : Nat.beq k k = true := Nat.beq_refl k
theorem lk_self (k : Nat) (v : Value) (L : Fr) : lk ((k, v) :: L) k = some v := by simp [lk]
theorem lk_ne {k t : Nat} (h : k ≠ t) (v : Value) (L : Fr) : lk ((k, v) :: L) t = lk L t := by
  simp [lk, beq_ne h]
theorem Has.put {n : Nat} {a : Act} {L : Fr} (h : Has n a L) {d : Nat} (hd : d < n) (v : Value) : Has n (a.put (some d) v) ((d, v) :: L) := by
  refine ⟨h.nd, by simp [Act.put, h.sz], fun t u hu => ?_⟩
  by_cases e : d = t
  · subst e
    rw [lk_self] at hu
    have hs : d < a.tmps.size := by rw [h.sz]; exact hd
    simpa [Act.put, hs] using hu
  · rw [lk_ne e] at hu
    simp [Act.put, e, h.at_ _ _ hu]
def ev (L : Fr) : Operand → Option Value
  | .tmp t => lk L t
  | .const v => some v
  | .global g => some (.pointer (some ⟨g, 0, none⟩))
  | .func f => some (.func (.func f) #[] #[])
theorem Has.ev {n : Nat} {a : Act} {L : Fr} (h : Has n a L) {x : Operand} {v : Value} (hx : ev L x = some v) : a.eval x = v := by
  cases x with
  | tmp t => have := h.at_ t v hx; simp [Act.eval, Array.getD_eq_getD_getElem?, this]
  | const c => simpa [Go.Proofs.Ytdmgbahognfhbab.ev, Act.eval] using hx
  | global g => simpa [Go.Proofs.Ytdmgbahognfhbab.ev, Act.eval] using hx
  | func f => simpa [Go.Proofs.Ytdmgbahognfhbab.ev, Act.eval] using hx
def evs (L : Fr) : List Operand → Option (List Value)
  | [] => some []
  | x :: l => match ev L x with
    | none => none
    | some v => match evs L l with
      | none => none
      | some vs => some (v :: vs)
theorem Has.evs {n : Nat} {a : Act} {L : Fr} (h : Has n a L) {xs : List Operand} {vs : List Value} (hx : evs L xs = some vs) : xs.map a.eval = vs := by
  induction xs generalizing vs with
  | nil => simp [Go.Proofs.Ytdmgbahognfhbab.evs] at hx; simp [hx]
  | cons x l ih =>
    unfold Go.Proofs.Ytdmgbahognfhbab.evs at hx
    split at hx
    · cases hx
    · rename_i v hv
      split at hx
      · cases hx
      · rename_i us hus
        cases hx
        simp [h.ev hv, ih hus]
/-- Every known slot of M is known in L, and the same. -/
def sub : Fr → Fr → Prop
  | [], _ => True
  | (k, v) :: M, L => lk L k = some v ∧ sub M L
theorem Has.sub {n : Nat} {a : Act} {L M : Fr} (h : Has n a L) (hs : sub M L) : Has n a M := by
  refine ⟨h.nd, h.sz, ?_⟩
  induction M with
  | nil => intro t v hv; cases hv
  | cons p M ih =>
    obtain ⟨k, u⟩ := p
    intro t v hv
    by_cases e : k = t
    · subst e; rw [lk_self] at hv; cases hv; exact h.at_ _ _ hs.1
    · rw [lk_ne e] at hv; exact ih hs.2 t v hv

abbrev Post := Fr → World → Prop
abbrev BPost := Exit → Fr → World → Prop
def fin (n : Nat) (N : Post) (B : BPost) : Exit → Act → World → Prop
  | .normal, a, w => ∃ L, Has n a L ∧ N L w
  | e, a, w => ∃ L, Has n a L ∧ B e L w
structure W (P : Program) (n : Nat) (c : Code) (N : Post) (B : BPost) (L : Fr) (w : World) : Prop where
  out : ∀ a, Has n a L → c.wp P (fin n N B) a w
/-- The operations of a region that are left. -/
structure WL (P : Program) (n : Nat) (ops : Array Oper) (l : List Oper) (N : Post) (L : Fr) (w : World) : Prop where
  out : ∀ a, Has n a L → ∀ B, wpList P ops (fin n N B) l a w

section code
variable {P : Program} {n : Nat} {N : Post} {B : BPost} {L : Fr} {w : World}
theorem W.skip (h : N L w) : W P n .skip N B L w := ⟨fun _ ha => wp_skip ⟨_, ha, h⟩⟩
theorem W.ret (h : B .ret L w) : W P n .ret N B L w := ⟨fun _ ha => wp_ret ⟨_, ha, h⟩⟩
theorem W.exit {id : Nat} (h : B (.exit id) L w) : W P n (.exit id) N B L w := ⟨fun _ ha => wp_exit ⟨_, ha, h⟩⟩
theorem W.seq {x y : Code} (h : W P n x (fun L w => W P n y N B L w) B L w) : W P n (.seq x y) N B L w :=
  ⟨fun a ha => wp_seq (wp_mono (h.out a ha) fun e a' w' q => by
    cases e with
    | normal => obtain ⟨L', h1, h2⟩ := q; exact h2.out _ h1
    | _ => exact q)⟩
theorem W.cond {c : Operand} {x y : Code} {b : Bool} (hc : ev L c = some (.bool b)) (h : W P n (bif b then x else y) N B L w) : W P n (.cond c x y) N B L w :=
  ⟨fun a ha => wp_cond (t := b) (ha.ev hc) (by cases b <;> exact h.out a ha)⟩
def blk (id : Nat) (N : Post) (B : BPost) : BPost
  | .exit i, L, w => bif Nat.beq i id then N L w else B (.exit i) L w
  | e, L, w => B e L w
theorem W.block {id : Nat} {c : Code} (h : W P n c N (blk id N B) L w) : W P n (.block id c) N B L w :=
  ⟨fun a ha => wp_block (wp_mono (h.out a ha) fun e a' w' q => by
    cases e with
    | exit i =>
      obtain ⟨L', h1, h2⟩ := q
      by_cases e : i = id
      · subst e
        simp only [blk, beq_self, cond_true] at h2
        simp only [Exit.inBlock, if_true]
        exact ⟨L', h1, h2⟩
      · have hb := beq_ne e
        simp only [blk, hb, cond_false] at h2
        simp only [Exit.inBlock, if_neg e]
        exact ⟨L', h1, h2⟩
    | _ => exact q)⟩
/-- A loop: what holds at the head of a round, of a state s; what the frame then holds; a measure. -/
theorem W.loop {σ : Type} {c : Code} (I : σ → World → Prop) (fr : σ → Fr) (μ : σ → Nat) (s0 : σ) (h0 : I s0 w) (hf : sub (fr s0) L)
    (round : ∀ s w, I s w → W P n c (fun L' w' => ∃ s', sub (fr s') L' ∧ μ s' < μ s ∧ I s' w') B (fr s) w) : W P n (.loop c) N B L w := by
  refine ⟨fun a ha => ?_⟩
  have key : ∀ k s w a, μ s = k → I s w → Has n a (fr s) → (Code.loop c).wp P (fin n N B) a w := by
    intro k
    induction k using Nat.strongRecOn with
    | _ k ih =>
      intro s w a hk hI hF
      refine wp_loop (I := fun a' w' => ∃ s', μ s' < k + 1 ∧ I s' w' ∧ Has n a' (fr s')) (μ := fun a' w' => Classical.epsilon fun m => ∃ s', μ s' = m ∧ I s' w' ∧ Has n a' (fr s') ∧ ∀ s'', I s'' w' → Has n a' (fr s'') → m ≤ μ s'') ⟨s, by omega, hI, hF⟩ ?_
      intro a1 w1 ⟨s1, hlt, hI1, hF1⟩
      -- the least measure of a state that fits
      have hex : ∃ m, ∃ s', μ s' = m ∧ I s' w1 ∧ Has n a1 (fr s') ∧ ∀ s'', I s'' w1 → Has n a1 (fr s'') → m ≤ μ s'' := by
        have : ∀ b s', μ s' ≤ b → I s' w1 → Has n a1 (fr s') → ∃ m, ∃ s', μ s' = m ∧ I s' w1 ∧ Has n a1 (fr s') ∧ ∀ s'', I s'' w1 → Has n a1 (fr s'') → m ≤ μ s'' := by
          intro b
          induction b with
          | zero => intro s' hb hi hh; exact ⟨μ s', s', rfl, hi, hh, fun _ _ _ => by omega⟩
          | succ b ihb =>
            intro s' hb hi hh
            by_cases hc : ∃ s'', μ s'' ≤ b ∧ I s'' w1 ∧ Has n a1 (fr s'')
            · obtain ⟨s'', h1, h2, h3⟩ := hc; exact ihb s'' h1 h2 h3
            · exact ⟨μ s', s', rfl, hi, hh, fun s'' h2 h3 => by
                by_cases h4 : μ s'' ≤ b
                · exact absurd ⟨s'', h4, h2, h3⟩ hc
                · omega⟩
        exact this _ s1 (Nat.le_refl _) hI1 hF1
      have hsp := Classical.epsilon_spec hex
      obtain ⟨s2, hm2, hI2, hF2, hmin2⟩ := hsp
      refine wp_mono ((round s2 w1 hI2).out a1 hF2) fun e a' w' q => ?_
      cases e with
      | normal =>
        obtain ⟨L', h1, s', hs, hl, hi⟩ := q
        have hF' := h1.sub hs
        have hex' : ∃ m, ∃ s', μ s' = m ∧ I s' w' ∧ Has n a' (fr s') ∧ ∀ s'', I s'' w' → Has n a' (fr s'') → m ≤ μ s'' := by
          have : ∀ b s', μ s' ≤ b → I s' w' → Has n a' (fr s') → ∃ m, ∃ s', μ s' = m ∧ I s' w' ∧ Has n a' (fr s') ∧ ∀ s'', I s'' w' → Has n a' (fr s'') → m ≤ μ s'' := by
            intro b
            induction b with
            | zero => intro s' hb hi hh; exact ⟨μ s', s', rfl, hi, hh, fun _ _ _ => by omega⟩
            | succ b ihb =>
              intro s' hb hi hh
              by_cases hc : ∃ s'', μ s'' ≤ b ∧ I s'' w' ∧ Has n a' (fr s'')
              · obtain ⟨s'', h1, h2, h3⟩ := hc; exact ihb s'' h1 h2 h3
              · exact ⟨μ s', s', rfl, hi, hh, fun s'' h2 h3 => by
                  by_cases h4 : μ s'' ≤ b
                  · exact absurd ⟨s'', h4, h2, h3⟩ hc
                  · omega⟩
          exact this _ s' (Nat.le_refl _) hi hF'
        obtain ⟨s3, hm3, hI3, hF3, hmin3⟩ := Classical.epsilon_spec hex'
        have hle := hmin3 s' hi hF'
        have := hmin2 s1 hI1 hF1
        refine ⟨⟨s', by omega, hi, hF'⟩, ?_⟩
        show Classical.epsilon _ < Classical.epsilon _
        rw [← hm2]
        omega
      | _ => exact q
  exact key _ s0 w a rfl h0 (ha.sub hf)
theorem W.region {id : Nat} {l : List Oper} (h : WL P n l.toArray l N L w) : W P n (.region id l.toArray false) N B L w :=
  ⟨fun a ha => wp_region_lit (h.out a ha B)⟩
theorem W.mono {c : Code} {N' : Post} (h : W P n c N' B L w) (hn : ∀ L w, N' L w → N L w) : W P n c N B L w :=
  ⟨fun a ha => wp_mono (h.out a ha) fun e a' w' q => by
    cases e with
    | normal => obtain ⟨L', h1, h2⟩ := q; exact ⟨L', h1, hn _ _ h2⟩
    | _ => exact q⟩
end code
end Go.Proofs.Ytdmgbahognfhbab
namespace Go.Proofs.Ytdmgbahognfhbab
open Go.RowKit

section
variable {P : Program} {n : Nat} {N : Post} {L : Fr} {w : World} {ops : Array Oper} {rest : List Oper}
variable {d : Nat} {ty : TypeId} {pos : String} {af : Array Edge}

theorem WL.done (h : N L w) : WL P n ops [] N L w := ⟨fun _ ha _ => ⟨_, ha, h⟩⟩

/-- An operation that yields a value, in whatever frame of which L is known. -/
theorem WL.val {o : Oper} {v : Value} {w' : World} (hg : o.guard = none) (hd : o.dst = some d) (hn : Nat.blt d n = true)
    (hr : ∀ a, Has n a L → (execOp a.eval o).run P w = .ok (.value v) w') (h : WL P n ops rest N ((d, v) :: L) w') : WL P n ops (o :: rest) N L w := by
  refine ⟨fun a ha B => wpList_plain hg fun K hK => ?_⟩
  unfold Oper.wp
  rw [hr a ha, Oper.upon_value, hd]
  exact hK _ _ (h.out _ (ha.put (by simpa [Nat.blt_eq] using hn) v) B)
/-- An operation that yields no value. -/
theorem WL.act {o : Oper} {w' : World} (hg : o.guard = none) (hd : o.dst = none)
    (hr : ∀ a, Has n a L → (execOp a.eval o).run P w = .ok .skip w') (h : WL P n ops rest N L w') : WL P n ops (o :: rest) N L w := by
  refine ⟨fun a ha B => wpList_plain hg fun K hK => ?_⟩
  unfold Oper.wp
  rw [hr a ha, Oper.upon_skip, hd]
  exact hK _ _ (h.out _ ha B)
/-- The call of a Go function. -/
theorem WL.enter {o : Oper} {f : FuncId} {args : Array Value} {R : Value → World → Prop} (hg : o.guard = none) (hd : o.dst = some d) (hn : Nat.blt d n = true)
    (hr : ∀ a, Has n a L → (execOp a.eval o).run P w = .ok (.enter f args) w)
    (hc : Calls P f args w fun e w' => ∃ v, e = .returned v ∧ R v w') (h : ∀ v w', R v w' → WL P n ops rest N ((d, v) :: L) w') : WL P n ops (o :: rest) N L w := by
  refine ⟨fun a ha B => wpList_plain hg fun K hK => ?_⟩
  unfold Oper.wp
  rw [hr a ha, Oper.upon_enter]
  refine hc.mono fun e w' ⟨v, he, hv⟩ => ?_
  subst he
  show K (a.put o.dst v) w'
  rw [hd]
  exact hK _ _ ((h v w' hv).out _ (ha.put (by simpa [Nat.blt_eq] using hn) v) B)

/-- A guard that says no. -/
theorem WL.pass {op : Op} {j : Nat} {want b : Bool} (hb : ((ops[j]?).bind (·.dst)).bind (lk L) = some (.bool b)) (hne : (b == want) = false) (hn : Nat.blt d n = true)
    (h : WL P n ops rest N ((d, undef) :: L) w) : WL P n ops (⟨some d, op, ty, pos, af, some (j, want)⟩ :: rest) N L w := by
  refine ⟨fun a ha B => ?_⟩
  have hy : yielded ops a.tmps j = some b := by
    unfold yielded
    cases hj : (ops[j]?).bind (·.dst) with
    | none => rw [hj] at hb; cases hb
    | some t => rw [hj] at hb; simp only [Option.bind_some] at hb ⊢; rw [ha.at_ t _ hb]
  refine wpList_skip ?_ (h.out _ (ha.put (by simpa [Nat.blt_eq] using hn) _) B)
  simp only [Region.wanted, hy]
  revert hne; cases b <;> cases want <;> simp
/-- A guard that says yes: the operation is as if it had none. -/
theorem WL.take {op : Op} {j : Nat} {want : Bool} (hb : ((ops[j]?).bind (·.dst)).bind (lk L) = some (.bool want)) 
    (h : WL P n ops (⟨some d, op, ty, pos, af, none⟩ :: rest) N L w) : WL P n ops (⟨some d, op, ty, pos, af, some (j, want)⟩ :: rest) N L w := by
  refine ⟨fun a ha B => ?_⟩
  have hy : yielded ops a.tmps j = some want := by
    unfold yielded
    cases hj : (ops[j]?).bind (·.dst) with
    | none => rw [hj] at hb; cases hb
    | some t => rw [hj] at hb; simp only [Option.bind_some] at hb ⊢; rw [ha.at_ t _ hb]
  have h1 := h.out a ha B
  unfold wpList at h1 ⊢
  rw [if_pos (by simp [Region.wanted])] at h1
  rw [if_pos (by simp [Region.wanted, hy])]
  exact h1

theorem WL.move {x : Operand} {v : Value} (hx : ev L x = some v) (hn : Nat.blt d n = true) (h : WL P n ops rest N ((d, v) :: L) w) :
    WL P n ops (⟨some d, .move x, ty, pos, af, none⟩ :: rest) N L w :=
  WL.val rfl rfl hn (fun a ha => by simp [execOp, ha.ev hx]) h
theorem WL.assign {x : Operand} {v : Value} (hx : ev L x = some v) (hn : Nat.blt d n = true) (h : WL P n ops rest N ((d, v) :: L) w) :
    WL P n ops (⟨some d, .assign x, ty, pos, af, none⟩ :: rest) N L w :=
  WL.val rfl rfl hn (fun a ha => by simp [execOp, ha.ev hx]) h
theorem WL.pick {c x y : Operand} {b : Bool} {v : Value} (hc : ev L c = some (.bool b)) (hx : ev L (bif b then x else y) = some v) (hn : Nat.blt d n = true) (h : WL P n ops rest N ((d, v) :: L) w) :
    WL P n ops (⟨some d, .pick c x y, ty, pos, af, none⟩ :: rest) N L w :=
  WL.val rfl rfl hn (fun a ha => by have hx' := ha.ev hx; cases b <;> simp [execOp, ha.ev hc, asBool] <;> exact hx') h
theorem WL.extract {x : Operand} {vs : Array Value} {i : Nat} {v : Value} (hx : ev L x = some (.tuple vs)) (hv : vs[i]? = some v) (hn : Nat.blt d n = true) (h : WL P n ops rest N ((d, v) :: L) w) :
    WL P n ops (⟨some d, .extract x i, ty, pos, af, none⟩ :: rest) N L w :=
  WL.val rfl rfl hn (fun a ha => by simp [execOp, ha.ev hx, Instr.extract, hv]) h
theorem WL.add {x y : Operand} {k : IntKind} {a b r : Int} {tx tb : TypeId} (hx : ev L x = some (.int k a)) (hy : ev L y = some (.int k b)) (hr : k.wrap (a + b) = r) (hn : Nat.blt d n = true) (h : WL P n ops rest N ((d, .int k r) :: L) w) :
    WL P n ops (⟨some d, .binOp .add tx x y tb, ty, pos, af, none⟩ :: rest) N L w :=
  WL.val rfl rfl hn (fun a ha => by simp [execOp, eqGuard, binOp, Op.intArith, ha.ev hx, ha.ev hy, hr]) h
theorem WL.sub {x y : Operand} {k : IntKind} {a b r : Int} {tx tb : TypeId} (hx : ev L x = some (.int k a)) (hy : ev L y = some (.int k b)) (hr : k.wrap (a - b) = r) (hn : Nat.blt d n = true) (h : WL P n ops rest N ((d, .int k r) :: L) w) :
    WL P n ops (⟨some d, .binOp .sub tx x y tb, ty, pos, af, none⟩ :: rest) N L w :=
  WL.val rfl rfl hn (fun a ha => by simp [execOp, eqGuard, binOp, Op.intArith, ha.ev hx, ha.ev hy, hr]) h
theorem WL.mul {x y : Operand} {k : IntKind} {a b r : Int} {tx tb : TypeId} (hx : ev L x = some (.int k a)) (hy : ev L y = some (.int k b)) (hr : k.wrap (a * b) = r) (hn : Nat.blt d n = true) (h : WL P n ops rest N ((d, .int k r) :: L) w) :
    WL P n ops (⟨some d, .binOp .mul tx x y tb, ty, pos, af, none⟩ :: rest) N L w :=
  WL.val rfl rfl hn (fun a ha => by simp [execOp, eqGuard, binOp, Op.intArith, ha.ev hx, ha.ev hy, hr]) h
theorem WL.quo {x y : Operand} {k : IntKind} {a b r : Int} {tx tb : TypeId} (hx : ev L x = some (.int k a)) (hy : ev L y = some (.int k b)) (h0 : b ≠ 0) (hr : k.wrap (a.tdiv b) = r) (hn : Nat.blt d n = true) (h : WL P n ops rest N ((d, .int k r) :: L) w) :
    WL P n ops (⟨some d, .binOp .quo tx x y tb, ty, pos, af, none⟩ :: rest) N L w :=
  WL.val rfl rfl hn (fun a ha => by simp [execOp, eqGuard, binOp, Op.intDiv, ha.ev hx, ha.ev hy, hr, h0]) h
theorem WL.rem {x y : Operand} {k : IntKind} {a b r : Int} {tx tb : TypeId} (hx : ev L x = some (.int k a)) (hy : ev L y = some (.int k b)) (h0 : b ≠ 0) (hr : a.tmod b = r) (hn : Nat.blt d n = true) (h : WL P n ops rest N ((d, .int k r) :: L) w) :
    WL P n ops (⟨some d, .binOp .rem tx x y tb, ty, pos, af, none⟩ :: rest) N L w :=
  WL.val rfl rfl hn (fun a ha => by simp [execOp, eqGuard, binOp, Op.intDiv, ha.ev hx, ha.ev hy, hr, h0]) h
theorem WL.bits {op : BinOp} {x y : Operand} {k : IntKind} {a b r : Int} {tx tb : TypeId} (hx : ev L x = some (.int k a)) (hy : ev L y = some (.int k b)) (ho : op = .and ∨ op = .or ∨ op = .xor ∨ op = .andNot)
    (hr : (Op.intBits op k a b).run P w = .ok (.int k r) w) (hn : Nat.blt d n = true) (h : WL P n ops rest N ((d, .int k r) :: L) w) :
    WL P n ops (⟨some d, .binOp op tx x y tb, ty, pos, af, none⟩ :: rest) N L w :=
  WL.val rfl rfl hn (fun a ha => by rcases ho with rfl | rfl | rfl | rfl <;> simp [execOp, eqGuard, binOp, ha.ev hx, ha.ev hy, hr]) h
/-- A comparison of numbers: the walk parts. -/
theorem WL.lss {x y : Operand} {k : IntKind} {a b : Int} {tx tb : TypeId} (hx : ev L x = some (.int k a)) (hy : ev L y = some (.int k b)) (hn : Nat.blt d n = true)
    (ht : a < b → WL P n ops rest N ((d, .bool true) :: L) w) (hf : b ≤ a → WL P n ops rest N ((d, .bool false) :: L) w) :
    WL P n ops (⟨some d, .binOp .lss tx x y tb, ty, pos, af, none⟩ :: rest) N L w := by
  by_cases hc : a < b
  · exact WL.val rfl rfl hn (fun a ha => by simp [execOp, eqGuard, binOp, Op.intCmp, ha.ev hx, ha.ev hy, hc]) (ht hc)
  · exact WL.val rfl rfl hn (fun a ha => by simp [execOp, eqGuard, binOp, Op.intCmp, ha.ev hx, ha.ev hy, hc]) (hf (by omega))
theorem WL.leq {x y : Operand} {k : IntKind} {a b : Int} {tx tb : TypeId} (hx : ev L x = some (.int k a)) (hy : ev L y = some (.int k b)) (hn : Nat.blt d n = true)
    (ht : a ≤ b → WL P n ops rest N ((d, .bool true) :: L) w) (hf : b < a → WL P n ops rest N ((d, .bool false) :: L) w) :
    WL P n ops (⟨some d, .binOp .leq tx x y tb, ty, pos, af, none⟩ :: rest) N L w := by
  by_cases hc : a ≤ b
  · exact WL.val rfl rfl hn (fun a ha => by simp [execOp, eqGuard, binOp, Op.intCmp, ha.ev hx, ha.ev hy, hc]) (ht hc)
  · exact WL.val rfl rfl hn (fun a ha => by simp [execOp, eqGuard, binOp, Op.intCmp, ha.ev hx, ha.ev hy, hc]) (hf (by omega))
theorem WL.gtr {x y : Operand} {k : IntKind} {a b : Int} {tx tb : TypeId} (hx : ev L x = some (.int k a)) (hy : ev L y = some (.int k b)) (hn : Nat.blt d n = true)
    (ht : b < a → WL P n ops rest N ((d, .bool true) :: L) w) (hf : a ≤ b → WL P n ops rest N ((d, .bool false) :: L) w) :
    WL P n ops (⟨some d, .binOp .gtr tx x y tb, ty, pos, af, none⟩ :: rest) N L w := by
  by_cases hc : b < a
  · exact WL.val rfl rfl hn (fun a ha => by simp [execOp, eqGuard, binOp, Op.intCmp, ha.ev hx, ha.ev hy, hc]) (ht hc)
  · exact WL.val rfl rfl hn (fun a ha => by simp [execOp, eqGuard, binOp, Op.intCmp, ha.ev hx, ha.ev hy, hc]) (hf (by omega))
theorem WL.geq {x y : Operand} {k : IntKind} {a b : Int} {tx tb : TypeId} (hx : ev L x = some (.int k a)) (hy : ev L y = some (.int k b)) (hn : Nat.blt d n = true)
    (ht : b ≤ a → WL P n ops rest N ((d, .bool true) :: L) w) (hf : a < b → WL P n ops rest N ((d, .bool false) :: L) w) :
    WL P n ops (⟨some d, .binOp .geq tx x y tb, ty, pos, af, none⟩ :: rest) N L w := by
  by_cases hc : b ≤ a
  · exact WL.val rfl rfl hn (fun a ha => by simp [execOp, eqGuard, binOp, Op.intCmp, ha.ev hx, ha.ev hy, hc]) (ht hc)
  · exact WL.val rfl rfl hn (fun a ha => by simp [execOp, eqGuard, binOp, Op.intCmp, ha.ev hx, ha.ev hy, hc]) (hf (by omega))
theorem WL.eql {x y : Operand} {k : IntKind} {a b : Int} {tx tb : TypeId} (hx : ev L x = some (.int k a)) (hy : ev L y = some (.int k b)) (hn : Nat.blt d n = true)
    (ht : a = b → WL P n ops rest N ((d, .bool true) :: L) w) (hf : a ≠ b → WL P n ops rest N ((d, .bool false) :: L) w) :
    WL P n ops (⟨some d, .binOp .eql tx x y tb, ty, pos, af, none⟩ :: rest) N L w := by
  by_cases hc : a = b
  · exact WL.val rfl rfl hn (fun a ha => by simp [execOp, eqGuard, binOp, Op.intCmp, ha.ev hx, ha.ev hy, hc]) (ht hc)
  · exact WL.val rfl rfl hn (fun a ha => by simp [execOp, eqGuard, binOp, Op.intCmp, ha.ev hx, ha.ev hy, hc]) (hf hc)
theorem WL.neq {x y : Operand} {k : IntKind} {a b : Int} {tx tb : TypeId} (hx : ev L x = some (.int k a)) (hy : ev L y = some (.int k b)) (hn : Nat.blt d n = true)
    (ht : a ≠ b → WL P n ops rest N ((d, .bool true) :: L) w) (hf : a = b → WL P n ops rest N ((d, .bool false) :: L) w) :
    WL P n ops (⟨some d, .binOp .neq tx x y tb, ty, pos, af, none⟩ :: rest) N L w := by
  by_cases hc : a = b
  · exact WL.val rfl rfl hn (fun a ha => by simp [execOp, eqGuard, binOp, Op.intCmp, ha.ev hx, ha.ev hy, hc]) (hf hc)
  · exact WL.val rfl rfl hn (fun a ha => by simp [execOp, eqGuard, binOp, Op.intCmp, ha.ev hx, ha.ev hy, hc]) (ht hc)
theorem WL.min2 {x y : Operand} {k : IntKind} {a b r : Int} {ts : Array TypeId} (hx : ev L x = some (.int k a)) (hy : ev L y = some (.int k b)) (hr : min a b = r) (hn : Nat.blt d n = true) (h : WL P n ops rest N ((d, .int k r) :: L) w) :
    WL P n ops (⟨some d, .call ⟨.builtin .min, #[x, y], ts⟩, ty, pos, af, none⟩ :: rest) N L w :=
  WL.val rfl rfl hn (fun a' ha => by
    have e : (if b < a then b else a) = r := by rw [← hr]; split <;> omega
    simp [execOp, resolve, invoke, builtin, Builtin.min_, Builtin.min2, ha.ev hx, ha.ev hy, ← e]) h
theorem WL.not {x : Operand} {b : Bool} {tx : TypeId} (hx : ev L x = some (.bool b)) (hn : Nat.blt d n = true) (h : WL P n ops rest N ((d, .bool !b) :: L) w) :
    WL P n ops (⟨some d, .unOp .not tx x, ty, pos, af, none⟩ :: rest) N L w :=
  WL.val rfl rfl hn (fun a ha => by simp [execOp, Op.unary, ha.ev hx]) h
theorem WL.neg {x : Operand} {k : IntKind} {a r : Int} {tx : TypeId} (hx : ev L x = some (.int k a)) (hr : k.wrap (0 - a) = r) (hn : Nat.blt d n = true) (h : WL P n ops rest N ((d, .int k r) :: L) w) :
    WL P n ops (⟨some d, .unOp .neg tx x, ty, pos, af, none⟩ :: rest) N L w :=
  WL.val rfl rfl hn (fun a ha => by simp [execOp, Op.unary, Op.intArith, ha.ev hx, ← hr]) h
theorem WL.conv {x : Operand} {k k' : IntKind} {a r : Int} {src dst : TypeId} {ds : TypeDesc} (hs : P.underlying src = some ds) (hd : P.underlying dst = some (.int k')) (hx : ev L x = some (.int k a)) (hr : k'.wrap a = r) (hn : Nat.blt d n = true) (h : WL P n ops rest N ((d, .int k' r) :: L) w) :
    WL P n ops (⟨some d, .convert src dst x, ty, pos, af, none⟩ :: rest) N L w :=
  WL.val rfl rfl hn (fun a ha => by simp [execOp, convert, ha.ev hx, run_underlying hs, run_underlying hd, Conv.intToInt, hr]) h
theorem WL.len {x : Operand} {A : Option Addr} {m c : Nat} {t e : TypeId} (ht : P.underlying t = some (.slice e)) (hx : ev L x = some (.slice A m c)) (hn : Nat.blt d n = true) (h : WL P n ops rest N ((d, .int .i64 m) :: L) w) :
    WL P n ops (⟨some d, .call ⟨.builtin .len, #[x], #[t]⟩, ty, pos, af, none⟩ :: rest) N L w :=
  WL.val rfl rfl hn (fun a ha => by simp [execOp, resolve, invoke, builtin, Builtin.len_, ha.ev hx, run_underlying ht, goInt]) h
theorem WL.call {f : FuncId} {fn : Func} {c : Code} {xs : List Operand} {ts : Array TypeId} {vs : List Value} {R : Value → World → Prop} (hf : P.funcs[f]? = some fn) (hb : fn.body = some c) (hnm : (fn.name == "runtime.NumGoroutine") = false)
    (hx : evs L xs = some vs) (hn : Nat.blt d n = true)
    (hc : Calls P f vs.toArray w fun e w' => ∃ v, e = .returned v ∧ R v w') (h : ∀ v w', R v w' → WL P n ops rest N ((d, v) :: L) w') :
    WL P n ops (⟨some d, .call ⟨.value (.func f), xs.toArray, ts⟩, ty, pos, af, none⟩ :: rest) N L w := by
  refine WL.enter rfl rfl hn (fun a ha => ?_) hc h
  have hm := ha.evs hx
  have hnm' : ¬ fn.name = "runtime.NumGoroutine" := by simpa using hnm
  simp only [execOp, resolve, Sem.run_bind]
  simp [Deferred.ofValue, Act.eval, invoke, callFunc, hm, program, Sem.run, hf, hb, hnm']
end
end Go.Proofs.Ytdmgbahognfhbab
namespace Go.Proofs.Ytdmgbahognfhbab
open Go.RowKit

/-- An element type's row of the table. -/
structure Elem (P : Program) (e : TypeId) (z by_ : Nat) (zero : Value) : Prop where
  ex : ∃ i, P.info? e = some i ∧ i.zero = some zero ∧ i.size = z ∧ i.bytes = by_
  zs : zero.cells.size = z
  pos : 0 < z
theorem Elem.mk' {P : Program} {e : TypeId} {z by_ : Nat} {zero : Value} (h : (P.info? e).map (fun i => (i.zero, i.size, i.bytes)) = some (some zero, z, by_)) (hz : zero.cells.size = z) (hp : 0 < z) : Elem P e z by_ zero :=
  ⟨info_parts h, hz, hp⟩

def adOf (A : Option Addr) : Addr := A.getD ⟨0, 0, none⟩
def bl (A : Option Addr) : Option Nat := A.map (·.block)
/-- A slice that reads as the cells cs, below block B. -/
structure Rd (B : Nat) (w : World) (z : Nat) (A : Option Addr) (m c : Nat) (cs : List Value) : Prop where
  len : cs.length = m * z
  cap : m ≤ c
  max : c ≤ maxLen
  cells : 0 < m → ∃ ad, A = some ad ∧ ad.block < B ∧ ∀ j u, cs[j]? = some u → w.cell? (ad.add j) = some u
/-- A slice of the call's own. -/
abbrev Own (b : Nat) (w : World) (e z : Nat) (A : Option Addr) (m c : Nat) (cs : List Value) : Prop := w.ownsRow b e z (.slice A m c) m cs

theorem block_add (a : Addr) (n : Nat) : (a.add n).block = a.block := by unfold Addr.add; split <;> rfl
theorem add_add (a : Addr) (i j : Nat) : (a.add i).add j = a.add (i + j) := by
  unfold Addr.add
  by_cases hi : i = 0 <;> by_cases hj : j = 0 <;> simp [hi, hj, Nat.add_assoc]
section
variable {B b : Nat} {w w' : World} {z e : Nat} {A : Option Addr} {m c : Nat} {cs : List Value}
theorem Rd.nil (h : c ≤ maxLen) : Rd B w z A 0 c [] := ⟨by simp, Nat.zero_le _, h, fun h => absurd h (by omega)⟩
theorem Rd.grown (h : Rd B w z A m c cs) {row : Option Nat} (hg : w.grownBy w' row) (hr : ∀ g, row = some g → B ≤ g) : Rd B w' z A m c cs :=
  ⟨h.len, h.cap, h.max, fun hm => by
    obtain ⟨ad, e1, e2, e3⟩ := h.cells hm
    exact ⟨ad, e1, e2, fun j u hu => hg.cell (e3 j u hu) (fun e => by have := hr _ e.symm; rw [block_add] at this; omega)⟩⟩
theorem Rd.ext (h : Rd B w z A m c cs) (hg : w.grownBy w' none) : Rd B w' z A m c cs := h.grown hg (fun _ e => by cases e)
theorem Rd.more {B' : Nat} (h : Rd B w z A m c cs) (hB : B ≤ B') : Rd B' w z A m c cs :=
  ⟨h.len, h.cap, h.max, fun hm => by obtain ⟨ad, e1, e2, e3⟩ := h.cells hm; exact ⟨ad, e1, by omega, e3⟩⟩
theorem Rd.below (h : Rd B w z A m c cs) (hb : Below B w w') : Rd B w' z A m c cs :=
  ⟨h.len, h.cap, h.max, fun hm => by
    obtain ⟨ad, e1, e2, e3⟩ := h.cells hm
    exact ⟨ad, e1, e2, fun j u hu => (hb.cell (by rw [block_add]; exact e2)).trans (e3 j u hu)⟩⟩
theorem Rd.at_ (h : Rd B w z A m c cs) {j : Nat} {u : Value} (hu : cs[j]? = some u) : w.cell? ((adOf A).add j) = some u := by
  have hj : j < cs.length := (List.getElem?_eq_some_iff.1 hu).1
  have hm : 0 < m := by
    rcases Nat.eq_zero_or_pos m with h0 | h0
    · subst h0; have := h.len; omega
    · exact h0
  obtain ⟨ad, e1, _, e3⟩ := h.cells hm
  subst e1
  exact e3 j u hu
theorem Rd.take (h : Rd B w z A m c cs) {k : Nat} (hk : k ≤ m) : Rd B w z A k c (cs.take (k * z)) :=
  ⟨by rw [List.length_take, h.len]; exact Nat.min_eq_left (Nat.mul_le_mul_right _ hk), by have := h.cap; omega, h.max, fun hm => by
    obtain ⟨ad, e1, e2, e3⟩ := h.cells (by omega)
    exact ⟨ad, e1, e2, fun j u hu => e3 j u (by rw [List.getElem?_take] at hu; split at hu; exact hu; cases hu)⟩⟩
theorem Rd.drop (h : Rd B w z A m c cs) {k : Nat} (hk : k ≤ m) : Rd B w z (if c = k then A else A.map (·.add (k * z))) (m - k) (c - k) (cs.drop (k * z)) :=
  ⟨by rw [List.length_drop, h.len, Nat.sub_mul], by have := h.cap; omega, by have := h.max; omega, fun hm => by
    obtain ⟨ad, e1, e2, e3⟩ := h.cells (by omega)
    have := h.cap
    rw [if_neg (by omega)]
    subst e1
    exact ⟨ad.add (k * z), rfl, by rw [block_add]; exact e2, fun j u hu => by rw [add_add]; exact e3 _ u (by rw [← hu, List.getElem?_drop])⟩⟩
theorem Own.len (h : Own b w e z A m c cs) : cs.length = m * z := h.1
theorem Own.form (h : Own b w e z A m c cs) : (A = none ∧ m = 0 ∧ c = 0) ∨ ∃ g, A = some ⟨g, 0, none⟩ ∧ b ≤ g ∧ g < w.heap.size := by
  rcases h.2 with ⟨h1, _⟩ | ⟨g, cap, cur, h1, h2, h3, _⟩
  · cases h1; exact .inl ⟨rfl, rfl, rfl⟩
  · cases h1
    refine .inr ⟨g, rfl, h2, ?_⟩
    rcases Nat.lt_or_ge g w.heap.size with h | h
    · exact h
    · rw [Array.getElem?_eq_none h] at h3; cases h3
theorem Own.rd (h : Own b w e z A m c cs) : Rd w.heap.size w z A m c cs := by
  rcases h.2 with ⟨h1, h2⟩ | ⟨g, cap, cur, h1, h2, h3, h4, h5, h6, h7⟩
  · cases h1; have := h.1; exact ⟨h.1, Nat.le_refl _, by simp [maxLen], fun hm => by omega⟩
  · cases h1
    refine ⟨h.1, h4, h5, fun hm => ⟨⟨g, 0, none⟩, rfl, ?_, h.cells rfl⟩⟩
    rcases Nat.lt_or_ge g w.heap.size with h | h
    · exact h
    · rw [Array.getElem?_eq_none h] at h3; cases h3
theorem Own.grown (h : Own b w e z A m c cs) {row : Option Nat} (hg : w.grownBy w' row) (hr : ∀ g, row = some g → bl A ≠ some g) : Own b w' e z A m c cs :=
  World.ownsRow.kept h hg (by
    cases A with
    | none => exact .inl rfl
    | some a => exact .inr fun e => hr a.block e.symm rfl)
theorem Own.ext (h : Own b w e z A m c cs) (hg : w.grownBy w' none) : Own b w' e z A m c cs := h.grown hg (fun _ e => by cases e)
theorem Own.bl_ge (h : Own b w e z A m c cs) : ∀ g, bl A = some g → b ≤ g ∧ g < w.heap.size := by
  intro g hg
  rcases h.form with ⟨rfl, _⟩ | ⟨g', rfl, h1, h2⟩
  · cases hg
  · cases hg; exact ⟨h1, h2⟩
theorem Own.low {b' : Nat} (h : Own b w e z A m c cs) (hb : b' ≤ b) : Own b' w e z A m c cs := by
  refine ⟨h.1, h.2.imp id ?_⟩
  rintro ⟨g, cap, cur, h1, h2, h3⟩
  exact ⟨g, cap, cur, h1, by omega, h3⟩
theorem ext_refl (w : World) : w.grownBy w none := World.grownBy.refl w none
theorem ext_trans {a b c : World} (h : a.grownBy b none) (k : b.grownBy c none) : a.grownBy c none := World.grownBy.trans h k
end

section
variable {P : Program} {n : Nat} {N : Post} {L : Fr} {w : World} {ops : Array Oper} {rest : List Oper}
variable {d : Nat} {ty : TypeId} {pos : String} {af : Array Edge}
/-- The address of an element. -/
theorem WL.index {x i : Operand} {t e : TypeId} {z by_ : Nat} {zero : Value} {A : Option Addr} {m c B : Nat} {cs : List Value} {k : IntKind} {J : Int} {wR : World} (j : Nat)
    (ht : P.underlying t = some (.slice e)) (he : Elem P e z by_ zero) (hx : ev L x = some (.slice A m c)) (hi : ev L i = some (.int k J)) (hJ : J = j) (hj : j < m) (hR : Rd B wR z A m c cs) (hn : Nat.blt d n = true)
    (h : WL P n ops rest N ((d, .pointer (some ((adOf A).add (j * z)))) :: L) w) : WL P n ops (⟨some d, .indexAddr t x i, ty, pos, af, none⟩ :: rest) N L w := by
  obtain ⟨inf, h1, h2, h3, h4⟩ := he.ex
  obtain ⟨ad, e1, _, _⟩ := hR.cells (by omega)
  subst e1; subst hJ
  refine WL.val rfl rfl hn (fun a ha => ?_) h
  have hc : (0 : Int) ≤ (j : Int) ∧ (j : Int) < (m : Int) := by omega
  simp [execOp, ha.ev hx, ha.ev hi, Instr.indexAt, asIntOf, run_underlying ht, sizeOf, typeInfo, h1, h3, hj, adOf]
theorem WL.load {x : Operand} {t : TypeId} {D : TypeDesc} {p : Addr} {v : Value} (hu : P.underlying t = some D) (hD : (match D with | .struct _ | .array _ _ => true | _ => false) = false) (hx : ev L x = some (.pointer (some p))) (hc : w.cell? p = some v) (hn : Nat.blt d n = true)
    (h : WL P n ops rest N ((d, v) :: L) w) : WL P n ops (⟨some d, .load t x, ty, pos, af, none⟩ :: rest) N L w := by
  refine WL.val rfl rfl hn (fun a ha => ?_) h
  have hag : (isAgg t).run P w = .ok false w := by
    simp only [isAgg, Sem.run_bind, run_underlying hu, Result.andThen_ok]
    cases D <;> simp_all
  simp [execOp, ha.ev hx, Instr.loadAt, Instr.sureAddr, loadVar, hag, Go.load, Sem.run, hc]
/-- A store into an element of one cell of a row of the call's own. -/
theorem WL.store {x y : Operand} {t e : TypeId} {by_ : Nat} {zero : Value} {A : Option Addr} {m c b j : Nat} {cs : List Value} {v : Value}
    (he : Elem P t 1 by_ zero) (hx : ev L x = some (.pointer (some ((adOf A).add j)))) (hy : ev L y = some v) (h1 : v.oneCell' = true) (hj : j < m) (hO : Own b w e 1 A m c cs) 
    (h : ∀ w', Own b w' e 1 A m c (cs.set j v) → w.grownBy w' (bl A) → WL P n ops rest N L w') : WL P n ops (⟨none, .store t x y, ty, pos, af, none⟩ :: rest) N L w := by
  obtain ⟨inf, i1, i2, i3, i4⟩ := he.ex
  rcases hO.form with ⟨_, h0, _⟩ | ⟨g, rfl, hg1, hg2⟩
  · omega
  · have hs := World.ownsRow.stored hO j v
    refine WL.act rfl rfl (fun a ha => ?_) (h _ hs.1 hs.2)
    have hfr := World.ownsRow.frozenAt hO j
    have hce := World.ownsRow.cellAt hO j (by omega)
    have hl : j < cs.length := by have := hO.1; omega
    rw [List.getElem?_eq_getElem hl] at hce
    have hadd : (adOf (some ⟨g, 0, none⟩)).add j = ⟨g, j, none⟩ := by
      unfold adOf Addr.add; simp; intro h; exact h.symm
    have hcs : v.cells = #[v] := by cases v <;> simp_all [Value.cells, Value.oneCell']
    rw [hadd] at hx
    have hz : (⟨g, j, none⟩ : Addr).add 0 = ⟨g, j, none⟩ := rfl
    simp [execOp, ha.ev hx, ha.ev hy, Instr.storeAt, Instr.sureAddr, storeVar, sizeOf, typeInfo, i1, i3, hcs, storeCells, run_store _ _ _ _ _ h1, hce, hfr, hz]
/-- append, onto a row of the call's own. -/
theorem WL.append {x y : Operand} {t e : TypeId} {z by_ : Nat} {zero : Value} {A A' : Option Addr} {m c m' c' B b : Nat} {cs cs' : List Value} (mm : Nat) (ls : List Value) (ht : P.underlying t = some (.slice e)) (he : Elem P e z by_ zero)
    (hx : ev L x = some (.slice A m c)) (hy : ev L y = some (.slice A' m' c')) (hO : Own b w e z A m c cs) (hR : Rd B w z A' m' c' cs') (h1 : ∀ u ∈ cs', u.oneCell' = true)
    (hmax : m + m' ≤ maxLen) (hby : (m + m') * by_ ≤ 140737488355328) (hb : b ≤ w.heap.size) (hmm : m + m' = mm) (hls : cs ++ cs' = ls) (hn : Nat.blt d n = true)
    (h : ∀ A2 c2 w', Own b w' e z A2 mm c2 ls → w.grownBy w' (bl A) → (bl A2 = bl A ∨ bl A2 = some w.heap.size) → WL P n ops rest N ((d, .slice A2 mm c2) :: L) w') :
    WL P n ops (⟨some d, .call ⟨.builtin .append, #[x, y], #[t, t]⟩, ty, pos, af, none⟩ :: rest) N L w := by
  subst hmm; subst hls
  obtain ⟨inf, i1, i2, i3, i4⟩ := he.ex
  have hob : (Value.slice A m c).ownBlock = bl A := by cases A <;> rfl
  rcases Nat.eq_zero_or_pos m' with h0 | h0
  · subst h0
    have hnil : cs' = [] := List.eq_nil_of_length_eq_zero (by simpa using hR.len)
    subst hnil
    have hr : (Builtin.append_ #[t, t] ty #[.slice A m c, .slice A' 0 c']).run P w = .ok (.slice A m c) w := by
      rcases hO.2 with ⟨h2, h3⟩ | ⟨g, cap, cur, h2, h3, h4, h5, h6, h7, h8⟩
      · cases h2
        cases A' <;> simp [Builtin.append_, run_underlying ht, sizeOf, typeInfo, i1, Builtin.lenOf, Builtin.firstCells, loadCells, loadCellsFrom]
      · cases h2
        cases A' <;> simp [Builtin.append_, run_underlying ht, sizeOf, typeInfo, i1, Builtin.lenOf, Builtin.firstCells, loadCells, loadCellsFrom, h5, storeCells]
    exact WL.val rfl rfl hn (fun a ha => by simp [execOp, resolve, invoke, builtin, ha.ev hx, ha.ev hy, hr]) (h A c w (by simpa using hO) (World.grownBy.refl w _) (.inl rfl))
  · obtain ⟨ad, rfl, _, hcell⟩ := hR.cells h0
    obtain ⟨v', w', hr, o1, o2, _, o4⟩ := run_append_own_at (P := P) w b t ty e inf zero z by_ ht i1 i2 i3 i4 he.zs he.pos (.slice A m c) m cs hO ad m' c' cs' hR.len hcell h1 hmax hby hb
    have hv : ∃ A2 c2, v' = .slice A2 (m + m') c2 := by
      rcases o1.2 with ⟨rfl, h3⟩ | ⟨g, cap, cur, rfl, _⟩
      · omega
      · exact ⟨_, _, rfl⟩
    obtain ⟨A2, c2, rfl⟩ := hv
    have hob2 : (Value.slice A2 (m + m') c2).ownBlock = bl A2 := by cases A2 <;> rfl
    rw [hob] at o2 o4
    rw [hob2] at o4
    exact WL.val rfl rfl hn (fun a ha => by simp [execOp, resolve, invoke, builtin, ha.ev hx, ha.ev hy, hr]) (h A2 c2 w' o1 o2 o4)
/-- A literal of a slice. -/
theorem WL.lit {t e : TypeId} {z by_ : Nat} {zero : Value} {k b : Nat} {parts : List (Nat × Operand)} {cells : List Value} (ht : P.underlying t = some (.slice e)) (he : Elem P e z by_ zero)
    (hk : k * z ≤ 16777216) (hp : ∃ vs, evs L (parts.map (·.2)) = some vs ∧ Instr.fill (fun i => some (i * z, z)) ((Array.range (k * z)).map (zero.cells[· % zero.cells.size]!)) ((parts.map (·.1)).zip vs) = some cells.toArray)
    (hl : cells.length = k * z) (hb : b ≤ w.heap.size) (hn : Nat.blt d n = true)
    (h : ∀ A w', A = some ⟨w.heap.size, 0, none⟩ → Own b w' e z A k k cells → w.grownBy w' none → WL P n ops rest N ((d, .slice A k k) :: L) w') :
    WL P n ops (⟨some d, .buildSlice t k parts.toArray, ty, pos, af, none⟩ :: rest) N L w := by
  obtain ⟨inf, i1, i2, i3, i4⟩ := he.ex
  obtain ⟨vs, hv, hf⟩ := hp
  have hkm : k ≤ maxLen := by
    have : k * 1 ≤ k * z := Nat.mul_le_mul_left _ he.pos
    simp [maxLen]; omega
  have hown := World.ownsRow_lit (e := e) (size := z) w cells.toArray k hb hkm (by simpa using hl)
  refine WL.val rfl rfl hn (fun a ha => ?_) (h _ _ rfl hown (World.grownBy_alloc w _ none))
  have hm := ha.evs hv
  have hz : (parts.map fun x => (x.1, a.eval x.2)) = (parts.map (·.1)).zip vs := by
    rw [← hm]
    clear hm hf hv hl hown
    induction parts with
    | nil => rfl
    | cons p l ih => simp [ih]
  have hgt : ¬ 16777216 < k * z := by omega
  by_cases h0 : k * z = 0
  · have he0 : cells = [] := List.eq_nil_of_length_eq_zero (by rw [hl, h0])
    subst he0
    have hr0 : (Array.range (k * z)).map (fun x => zero.cells[x % zero.cells.size]!) = #[] := Array.eq_empty_of_size_eq_zero (by simp [h0])
    rw [hr0] at hf
    have hr1 : (Array.range 0).map (fun _ => (default : Value)) = #[] := Array.eq_empty_of_size_eq_zero (by simp)
    simp [execOp, Instr.buildSlice, run_underlying ht, sizeOf, typeInfo, i1, i3, h0, newRow, hz, hr1, hf]
  · simp [execOp, Instr.buildSlice, run_underlying ht, sizeOf, typeInfo, zeroValue, i1, i2, i3, h0, hgt, newRow, hz, hf]
end
end Go.Proofs.Ytdmgbahognfhbab
namespace Go.Proofs.Ytdmgbahognfhbab
open Go.RowKit

/-- One operation of a region whose order is open. 'on': those that it waits for and whose values it is told; 'base': what it knows of the frame ahead of the region; 'pure': it asks nothing of the world. -/
structure Plan where
  on : List Nat
  slots : List Nat
  pure : Bool
def dstAt (l : List Oper) (i : Nat) : Option Nat := (l[i]?).bind (·.dst)
def anyOn (l : List Oper) (i : Nat) : List Nat := match l[i]? with
  | some o => (o.after.toList.filter (Region.binds .any)).map (·.on)
  | none => []
def drawB (n : Nat) (l : List Oper) (ps : List Plan) (s : Nat) : Bool :=
  ps.length == l.length && (List.range l.length).all fun i =>
    (anyOn l i).all (fun j => Nat.blt j i) &&
    (match ps[i]? with
     | none => false
     | some p => p.on.all (fun j => (anyOn l i).contains j && j != s) && p.slots.all (fun t => (List.range l.length).all fun k => k == i || dstAt l k != some t || (anyOn l k).contains i) &&
        (p.pure || i == s || Nat.ble l.length s || (anyOn l s).contains i) && (!(p.pure && i == s))) &&
    (match dstAt l i with
     | none => i == s
     | some d => i != s && Nat.blt d n && (List.range l.length).all fun k => k == i || dstAt l k != some d)

/-- What op is told of those that it waits for. -/
def told (l : List Oper) (V : Nat → Value → World → Prop) (w : World) (K : Fr → Prop) : List Nat → Fr → Prop
  | [], F => K F
  | j :: js, F => ∀ u, V j u w → told l V w K js (((dstAt l j).getD 0, u) :: F)

/-- What is to be shown of an operation. -/
def ob (P : Program) (n : Nat) (l : List Oper) (V : Nat → Value → World → Prop) (T : World → Prop) (w0 : World) (s i : Nat) (o : Oper) (p : Plan) (base : Fr) : Prop :=
  ∀ w, (p.pure = false → w0.grownBy w none) → told l V w (fun F => ∀ R : Fr, WL P n l.toArray [o]
    (fun L' w' => if i = s then L' = F ++ R ∧ T w' else ∃ u, L' = ((dstAt l i).getD 0, u) :: (F ++ R) ∧ (if p.pure then w' = w else w.grownBy w' none) ∧ V i u w') (F ++ R) w) p.on base
def obs (P : Program) (n : Nat) (l : List Oper) (V : Nat → Value → World → Prop) (T : World → Prop) (w0 : World) (L : Fr) (s : Nat) : Nat → List Oper → List Plan → List Fr → Prop
  | i, o :: os, p :: ps, b :: bs => (b.map (·.1) = p.slots ∧ sub b L ∧ ob P n l V T w0 s i o p b) ∧ obs P n l V T w0 L s (i + 1) os ps bs
  | _, [], [], [] => True
  | _, _, _, _ => False

theorem obs_at {P : Program} {n : Nat} {l : List Oper} {V : Nat → Value → World → Prop} {T : World → Prop} {w0 : World} {L : Fr} {s : Nat} : ∀ (os : List Oper) (ps : List Plan) (bs : List Fr) (i : Nat),
    obs P n l V T w0 L s i os ps bs → ∀ k o p, os[k]? = some o → ps[k]? = some p → ∃ b, b.map (·.1) = p.slots ∧ sub b L ∧ ob P n l V T w0 s (i + k) o p b
  | [], _, _, _, _, k, _, _, ho, _ => by simp at ho
  | o :: os, [], _, _, h, _, _, _, _, hp => by simp at hp
  | o :: os, p :: ps, [], _, h, _, _, _, _, _ => by exact h.elim
  | o :: os, p :: ps, b :: bs, i, h, k, o', p', ho, hp => by
    cases k with
    | zero =>
      simp at ho hp
      subst ho; subst hp
      exact ⟨b, h.1⟩
    | succ k =>
      obtain ⟨b', h1, h2, h3⟩ := obs_at os ps bs (i + 1) h.2 k o' p' (by simpa using ho) (by simpa using hp)
      exact ⟨b', h1, h2, by rw [show i + (k + 1) = i + 1 + k by omega]; exact h3⟩

theorem told_at {l : List Oper} {V : Nat → Value → World → Prop} {w : World} {K : Fr → Prop} (vals : Nat → Value) : ∀ (js : List Nat) (F : Fr), told l V w K js F → (∀ j ∈ js, V j (vals j) w) →
    K ((js.map fun j => ((dstAt l j).getD 0, vals j)).reverse ++ F)
  | [], F, h, _ => by simpa [told] using h
  | j :: js, F, h, hv => by
    have := told_at vals js _ (h (vals j) (hv j (List.mem_cons_self ..))) (fun k hk => hv k (List.mem_cons_of_mem _ hk))
    simpa using this

theorem oper_wp_mono {P : Program} {o : Oper} {a : Act} {w : World} {K K' : Act → World → Prop} {Q Q' : Exit → Act → World → Prop} (h : ∀ a w, K a w → K' a w) (hq : ∀ e a w, e ≠ .normal → Q e a w → Q' e a w)
    (hh : o.wp P a w K Q) : o.wp P a w K' Q' := by
  unfold Oper.wp at *
  generalize (execOp a.eval o).run P w = r at *
  cases r with
  | ok n w' =>
    cases n <;> simp only [Oper.upon] at hh ⊢ <;>
      first
        | exact h _ _ hh
        | exact Calls.mono hh (fun e w'' he => by
            cases e with
            | returned v => exact h _ _ he
            | panicked c => exact hq _ _ _ (by simp) he
            | outgrown => obtain ⟨a1, w1, h1⟩ := he; exact ⟨a1, w1, hq _ _ _ (by simp) h1⟩)
        | exact Rows.mono hh (fun _ _ he => h _ _ he)
  | halt x w' => cases x <;> simp only [Oper.upon] at hh ⊢ <;> first | exact hh | exact hq _ _ _ (by simp) hh

theorem lk_append (A B : Fr) (t : Nat) : lk (A ++ B) t = match lk A t with | some v => some v | none => lk B t := by
  induction A with
  | nil => rfl
  | cons p A ih =>
    obtain ⟨k, v⟩ := p
    by_cases e : k = t
    · subst e; simp [lk_self]
    · simp [lk_ne e, ih]
theorem lk_mem {A : Fr} {t : Nat} {v : Value} (h : lk A t = some v) : (t, v) ∈ A := by
  induction A with
  | nil => cases h
  | cons p A ih =>
    obtain ⟨k, u⟩ := p
    by_cases e : k = t
    · subst e; rw [lk_self] at h; cases h; exact List.mem_cons_self ..
    · rw [lk_ne e] at h; exact List.mem_cons_of_mem _ (ih h)
theorem lk_full (a : Act) (m t : Nat) (h : t < m) : lk ((List.range m).map fun t => (t, a.tmps.getD t undef)) t = some (a.tmps.getD t undef) := by
  induction m with
  | zero => omega
  | succ m ih =>
    rw [List.range_succ, List.map_append, lk_append]
    by_cases e : t < m
    · rw [ih e]
    · have : t = m := by omega
      subst this
      have hn : lk ((List.range t).map fun t => (t, a.tmps.getD t undef)) t = none := by
        cases hc : lk ((List.range t).map fun t => (t, a.tmps.getD t undef)) t with
        | none => rfl
        | some v => have := lk_mem hc; simp at this; omega
      rw [hn]
      simp [lk]
theorem sub_at {M L : Fr} (h : sub M L) {t : Nat} {v : Value} (hm : (t, v) ∈ M) : lk L t = some v := by
  induction M with
  | nil => cases hm
  | cons p M ih =>
    obtain ⟨k, u⟩ := p
    rcases List.mem_cons.1 hm with e | e
    · cases e; exact h.1
    · exact ih h.2 e

/-- What is known of the frame and the world when the operations 'd' have been carried out. -/
structure DInv (n : Nat) (l : List Oper) (ps : List Plan) (V : Nat → Value → World → Prop) (T : World → Prop) (w0 : World) (L : Fr) (s : Nat) (d : Nat → Bool) (vals : Nat → Value) (a : Act) (w : World) : Prop where
  nd : a.defers = []
  sz : a.tmps.size = n
  old : ∀ t v, lk L t = some v → (∀ k, d k = true → dstAt l k ≠ some t) → a.tmps[t]? = some v
  new : ∀ k t, d k = true → dstAt l k = some t → a.tmps[t]? = some (vals k)
  wd : d s = false → w0.grownBy w none
  ws : d s = true → T w
  vs : ∀ k, d k = true → k ≠ s → V k (vals k) w
  cl : ∀ k, d k = true → ∀ j ∈ anyOn l k, d j = true
  lt : ∀ k, d k = true → k < l.length

theorem lk_of_mem {A : Fr} {t : Nat} {v : Value} (h : (t, v) ∈ A) : ∃ u, lk A t = some u := by
  induction A with
  | nil => cases h
  | cons p A ih =>
    obtain ⟨k, u⟩ := p
    by_cases e : k = t
    · subst e; exact ⟨u, lk_self _ _ _⟩
    · rw [lk_ne e]
      rcases List.mem_cons.1 h with h | h
      · cases h; exact absurd rfl e
      · exact ih h
theorem getD_rep (m j : Nat) : (Array.replicate m false).getD j false = false := by
  rcases Nat.lt_or_ge j m with h | h
  · simp [Array.getD_eq_getD_getElem?, h]
  · simp [Array.getD_eq_getD_getElem?, h]
theorem getD_set (x : Array Bool) (i k : Nat) (hi : i < x.size) : (x.setIfInBounds i true).getD k false = (decide (i = k) || x.getD k false) := by
  simp only [Array.getD_eq_getD_getElem?, Array.getElem?_setIfInBounds]
  by_cases e : i = k
  · subst e; simp [hi]
  · simp [e]
theorem filter_set (x : List Bool) (i : Nat) (hi : x[i]? = some false) : (x.filter (!·)).length = ((x.set i true).filter (!·)).length + 1 := by
  induction x generalizing i with
  | nil => simp at hi
  | cons b x ih =>
    cases i with
    | zero => simp at hi; subst hi; simp
    | succ i => 
      have := ih i (by simpa using hi)
      cases b <;> simp [this]
theorem filter_zero {x : List Bool} (h : (x.filter (!·)).length = 0) (i : Nat) (hi : i < x.length) : x[i]? = some true := by
  have h1 : x.filter (!·) = [] := List.eq_nil_of_length_eq_zero h
  have h2 := List.filter_eq_nil_iff.1 h1 x[i] (List.getElem_mem hi)
  rw [List.getElem?_eq_getElem hi]
  cases hb : x[i] <;> simp_all

end Go.Proofs.Ytdmgbahognfhbab
namespace Go.Proofs.Ytdmgbahognfhbab
open Go.RowKit
def args0 : Nat → List Value → Fr
  | _, [] => []
  | i, v :: vs => (i, v) :: args0 (i + 1) vs
def lks (L : Fr) : List Nat → Option (List Value)
  | [] => some []
  | t :: ts => match lk L t with
    | none => none
    | some v => match lks L ts with
      | none => none
      | some vs => some (v :: vs)
def resv (L : Fr) : List Nat → Option Value
  | [t] => lk L t
  | ts => match lks L ts with
    | none => none
    | some vs => some (.tuple vs.toArray)
def endN (res : List Nat) (R : Value → World → Prop) : Post := fun L w => ∃ v, resv L res = some v ∧ R v w
def endB (res : List Nat) (R : Value → World → Prop) : BPost
  | .ret, L, w => ∃ v, resv L res = some v ∧ R v w
  | _, _, _ => False
theorem args0_at (vs : List Value) (i t : Nat) (v : Value) (h : lk (args0 i vs) t = some v) : i ≤ t ∧ vs[t - i]? = some v := by
  induction vs generalizing i with
  | nil => cases h
  | cons u vs ih =>
    by_cases e : i = t
    · subst e; rw [args0, lk_self] at h; cases h; simp
    · rw [args0, lk_ne e] at h
      obtain ⟨h1, h2⟩ := ih (i + 1) h
      refine ⟨by omega, ?_⟩
      rw [show t - i = (t - (i + 1)) + 1 by omega]
      simpa using h2
theorem lks_at {L : Fr} {a : Act} {n : Nat} (ha : Has n a L) : ∀ (ts : List Nat) (vs : List Value), lks L ts = some vs → ts.map (fun t => a.tmps.getD t undef) = vs
  | [], vs, h => by simp [lks] at h; simp [h]
  | t :: ts, vs, h => by
    unfold lks at h
    split at h
    · cases h
    · rename_i v hv
      split at h
      · cases h
      · rename_i us hus
        cases h
        rw [List.map_cons, lks_at ha ts us hus]
        simp [Array.getD_eq_getD_getElem?, ha.at_ t v hv]
theorem run_mapM {P : Program} {a : Act} {w : World} (g : ResultVar → Sem Value) (hg : ∀ t, g (.tmp t) = pure (a.tmps.getD t undef)) (res : List Nat) :
    (List.mapM g (res.map ResultVar.tmp)).run P w = .ok (res.map fun t => a.tmps.getD t undef) w := by
  induction res with
  | nil => rfl
  | cons t ts ih =>
    rw [List.map_cons, List.mapM_cons, Sem.run_bind, hg, Sem.run_pure, Result.andThen_ok, Sem.run_bind, ih]
    rfl
theorem run_results {P : Program} {fn : Func} {res : List Nat} {a : Act} {n : Nat} {L : Fr} {v : Value} {w : World} (hres : fn.results = (res.map ResultVar.tmp).toArray) (ha : Has n a L) (hv : resv L res = some v) :
    (results fn a.tmps).run P w = .ok v w := by
  unfold results
  rw [Sem.run_bind, hres, List.mapM_toArray, Sem.run_map, run_mapM _ (fun t => rfl)]
  simp only [Result.andThen_ok]
  unfold resv at hv
  split at hv
  · rename_i t
    simp [Array.getD_eq_getD_getElem?, ha.at_ t v hv]
  · rename_i hne
    split at hv
    · cases hv
    · rename_i vs hvs
      cases hv
      rw [lks_at ha _ _ hvs]
      have hl : vs.length ≠ 1 := by
        rw [← lks_at ha _ _ hvs, List.length_map]
        intro h1
        obtain ⟨t, rfl⟩ := List.length_eq_one_iff.1 h1
        exact hne t rfl
      simp [hl]
theorem calls_of_W {P : Program} {f : FuncId} {fn : Func} {c : Code} {n : Nat} {vs : List Value} {R : Value → World → Prop} {w : World} (res : List Nat) (hf : P.funcs[f]? = some fn) (hb : fn.body = some c) (hn : fn.ntmps = n)
    (hres : fn.results = (res.map ResultVar.tmp).toArray) (hle : Nat.ble vs.length n = true) (h : W P n c (endN res R) (endB res R) (args0 0 vs) w) : Calls P f vs.toArray w fun e w' => ∃ v, e = .returned v ∧ R v w' := by
  have hle' : vs.length ≤ n := by simpa [Nat.ble_eq] using hle
  refine calls_of_wp hf hb (wp_mono (h.out _ ⟨rfl, by simp [hn]; omega, fun t v hv => ?_⟩) fun e a w' q => ?_)
  · obtain ⟨_, h2⟩ := args0_at vs 0 t v hv
    have ht : t < vs.length := (List.getElem?_eq_some_iff.1 h2).1
    rw [Array.getElem?_append_left (by simpa using ht)]
    simpa using h2
  · cases e with
    | normal =>
      obtain ⟨L, hL, v, hv, hR⟩ := q
      exact ⟨hL.nd, v, run_results hres hL hv, v, rfl, hR⟩
    | ret =>
      obtain ⟨L, hL, v, hv, hR⟩ := q
      exact ⟨hL.nd, v, run_results hres hL hv, v, rfl, hR⟩
    | _ => obtain ⟨L, _, h⟩ := q; exact h.elim
theorem W.condT {P : Program} {n : Nat} {N : Post} {B : BPost} {L : Fr} {w : World} {c : Operand} {x y : Code} (hc : ev L c = some (.bool true)) (h : W P n x N B L w) : W P n (.cond c x y) N B L w := W.cond hc h
theorem W.condF {P : Program} {n : Nat} {N : Post} {B : BPost} {L : Fr} {w : World} {c : Operand} {x y : Code} (hc : ev L c = some (.bool false)) (h : W P n y N B L w) : W P n (.cond c x y) N B L w := W.cond hc h
/-! ### numbers -/
theorem wi64 {n r : Int} (lo : -9223372036854775808 ≤ n) (hi : n ≤ 9223372036854775807) (h : n = r) : IntKind.i64.wrap n = r := by rw [IntKind.wrap_i64]; omega
theorem tdiv_nat {x y : Int} {a b : Nat} (hx : x = a) (hy : y = b) : x.tdiv y = ((a / b : Nat) : Int) := by
  subst hx; subst hy; rw [Int.tdiv_eq_ediv_of_nonneg (by omega)]; rfl
theorem tmod_nat {x y : Int} {a b : Nat} (hx : x = a) (hy : y = b) : x.tmod y = ((a % b : Nat) : Int) := by
  subst hx; subst hy; rw [Int.tmod_eq_emod_of_nonneg (by omega)]; rfl
theorem qi64 {x y : Int} {a b : Nat} (hx : x = a) (hy : y = b) (ha : a < 9223372036854775808) : IntKind.i64.wrap (x.tdiv y) = ((a / b : Nat) : Int) := by
  rw [tdiv_nat hx hy]; have := Nat.div_le_self a b; generalize a / b = q at *; exact wi64 (by omega) (by omega) rfl
theorem iv {k : IntKind} {a b : Int} (h : a = b) : some (Value.int k a) = some (Value.int k b) := by rw [h]
/-! ### lists of limbs -/
def us (l : List Nat) : List Value := l.map fun x : Nat => .int .u32 (x : Int)
section
variable {P : Program} {n : Nat} {N : Post} {L : Fr} {w : World} {ops : Array Oper} {rest : List Oper}
variable {d : Nat} {ty : TypeId} {pos : String} {af : Array Edge}
theorem WL.index1 {x i : Operand} {t e : TypeId} {by_ : Nat} {zero : Value} {A : Option Addr} {m c B : Nat} {cs : List Value} {k : IntKind} {J : Int} {wR : World} (j : Nat)
    (ht : P.underlying t = some (.slice e)) (he : Elem P e 1 by_ zero) (hx : ev L x = some (.slice A m c)) (hi : ev L i = some (.int k J)) (hJ : J = j) (hj : j < m) (hR : Rd B wR 1 A m c cs) (hn : Nat.blt d n = true)
    (h : WL P n ops rest N ((d, .pointer (some ((adOf A).add j))) :: L) w) : WL P n ops (⟨some d, .indexAddr t x i, ty, pos, af, none⟩ :: rest) N L w :=
  WL.index j ht he hx hi hJ hj hR hn (by rw [Nat.mul_one]; exact h)
end
theorem fill_seq (vs : List Value) : ∀ (c : List Value) (i : Nat), (∀ v ∈ vs, v.oneCell' = true) → i + vs.length ≤ c.length →
    Instr.fill (fun i => some (i * 1, 1)) c.toArray ((List.range' i vs.length).zip vs) = some (c.take i ++ vs ++ c.drop (i + vs.length)).toArray := by
  induction vs with
  | nil => intro c i _ _; simp [Instr.fill]
  | cons v vs ih =>
    intro c i h1 hl
    have hv : v.cells = #[v] := by have := h1 v (List.mem_cons_self ..); cases v <;> simp_all [Value.cells, Value.oneCell']
    simp only [List.length_cons] at hl
    have hlt : i < c.length := by omega
    simp only [List.length_cons, List.range'_succ, List.zip_cons_cons, Instr.fill, hv, Nat.mul_one]
    rw [if_neg (by simp; omega)]
    have := ih (c.set i v) (i + 1) (fun u hu => h1 u (List.mem_cons_of_mem _ hu)) (by simp; omega)
    have hz : (#[v] : Array Value).zipIdx = #[(v, 0)] := by simp [Array.zipIdx]
    have hf : Array.foldl (fun (cs : Array Value) (x : Value × Nat) => cs.setIfInBounds (i + x.2) x.1) c.toArray #[(v, 0)] = (c.set i v).toArray := by simp
    rw [hz]
    refine Eq.trans (congrArg (fun q => Instr.fill _ q _) hf) ?_
    simp only [Nat.mul_one] at this
    rw [this]
    congr 2
    rw [List.take_succ_eq_append_getElem (by simpa using hlt)]
    simp only [List.getElem_set_self, List.take_set_of_le (Nat.le_refl i), List.append_assoc, List.singleton_append]
    congr 2
    rw [show i + (vs.length + 1) = i + 1 + vs.length by omega, List.drop_set_of_lt (by omega)]
section
variable {P : Program} {n : Nat} {N : Post} {L : Fr} {w : World} {ops : Array Oper} {rest : List Oper}
variable {d : Nat} {ty : TypeId} {pos : String} {af : Array Edge}
/-- A literal of a slice whose elements are one cell each, all given, in order. -/
theorem WL.lit1 {t e : TypeId} {by_ : Nat} {zero : Value} {k b : Nat} {parts : List (Nat × Operand)} {vs : List Value} (ht : P.underlying t = some (.slice e)) (he : Elem P e 1 by_ zero)
    (hk : Nat.ble k 1000 = true) (hv : evs L (parts.map (·.2)) = some vs) (hp : parts.map (·.1) = List.range' 0 k) (hl : vs.length = k) (h1 : ∀ v ∈ vs, v.oneCell' = true) (hb : b ≤ w.heap.size) (hn : Nat.blt d n = true)
    (h : ∀ A w', A = some ⟨w.heap.size, 0, none⟩ → Own b w' e 1 A k k vs → w.grownBy w' none → WL P n ops rest N ((d, .slice A k k) :: L) w') :
    WL P n ops (⟨some d, .buildSlice t k parts.toArray, ty, pos, af, none⟩ :: rest) N L w := by
  have hk' : k ≤ 1000 := by simpa [Nat.ble_eq] using hk
  refine WL.lit (cells := vs) ht he (by omega) ⟨vs, hv, ?_⟩ (by omega) hb hn h
  rw [hp, ← hl]
  have := fill_seq vs ((Array.range (vs.length * 1)).map (zero.cells[· % zero.cells.size]!)).toList 0 h1 (by simp)
  rw [Array.toArray_toList, List.drop_of_length_le (by simp), List.append_nil, List.take_zero, List.nil_append] at this
  exact this
end
theorem ext_own {w0 w w' : World} {A : Option Addr} (h : w0.grownBy w none) (hg : w.grownBy w' (bl A)) (hb : ∀ g, bl A = some g → w0.heap.size ≤ g) : w0.grownBy w' none :=
  ⟨hg.os.trans h.os, hg.tape.trans h.tape, hg.output.trans h.output, Nat.le_trans h.size hg.size, fun k hk _ => (hg.block k (Nat.lt_of_lt_of_le hk h.size) (fun e => by have := hb k e.symm; omega)).trans (h.block k hk (by simp))⟩
theorem Rd.norm {B : Nat} {w : World} {z : Nat} {A : Option Addr} {m c : Nat} {cs : List Value} (h : Rd B w z A m c cs) (hz : 0 < z := by decide) : Rd w.heap.size w z A m c cs :=
  ⟨h.len, h.cap, h.max, fun hm => by
    obtain ⟨ad, e1, _, e3⟩ := h.cells hm
    have hl : 0 < cs.length := by rw [h.len]; exact Nat.mul_pos hm hz
    exact ⟨ad, e1, by have := World.block_lt_of_cell? w _ (e3 0 _ (List.getElem?_eq_getElem hl)); rwa [block_add] at this, e3⟩⟩
theorem bel_of {w w' : World} (h : w.grownBy w' none) : Below w.heap.size w w' := ⟨h.os, h.tape, h.output, h.size, fun k hk => h.block k hk (by simp)⟩
end Go.Proofs.Ytdmgbahognfhbab
namespace Go.Proofs.Ytdmgbahognfhbab
open Go.RowKit
def sA : Value → Option Addr | .slice A _ _ => A | _ => none
def sM : Value → Nat | .slice _ m _ => m | _ => 0
def sC : Value → Nat | .slice _ _ c => c | _ => 0
/-- Cells that are slices of limbs. -/
structure NatsR (B : Nat) (w : World) (cells : List Value) (xss : List (List Nat)) : Prop where
  len : cells.length = xss.length
  all : ∀ j, j < xss.length → cells.getD j undef = .slice (sA (cells.getD j undef)) (sM (cells.getD j undef)) (sC (cells.getD j undef)) ∧ Rd B w 1 (sA (cells.getD j undef)) (sM (cells.getD j undef)) (sC (cells.getD j undef)) (us (xss.getD j []))
theorem NatsR.at_ {B : Nat} {w : World} {cells : List Value} {xss : List (List Nat)} (h : NatsR B w cells xss) (j : Nat) (hj : j < xss.length) : cells.getD j undef = .slice (sA (cells.getD j undef)) (sM (cells.getD j undef)) (sC (cells.getD j undef)) ∧ Rd B w 1 (sA (cells.getD j undef)) (sM (cells.getD j undef)) (sC (cells.getD j undef)) (us (xss.getD j [])) := h.all j hj
theorem NatsR.cell {B : Nat} {w : World} {cells : List Value} {xss : List (List Nat)} (h : NatsR B w cells xss) (j : Nat) (hj : j < xss.length) : cells[j]? = some (.slice (sA (cells.getD j undef)) (sM (cells.getD j undef)) (sC (cells.getD j undef))) := by
  rw [← (h.at_ j hj).1]
  have : j < cells.length := by rw [h.len]; exact hj
  simp [List.getD_eq_getElem?_getD, this]
theorem NatsR.nil (B : Nat) (w : World) : NatsR B w [] [] := ⟨rfl, fun j h => by cases h⟩
theorem NatsR.cons {B : Nat} {w : World} {A : Option Addr} {m c : Nat} {l : List Nat} {cells : List Value} {xss : List (List Nat)} (h : Rd B w 1 A m c (us l)) (hs : NatsR B w cells xss) : NatsR B w (.slice A m c :: cells) (l :: xss) :=
  ⟨by simp [hs.len], fun j hj => by
    cases j with
    | zero => exact ⟨rfl, h⟩
    | succ j => simpa using hs.all j (by simpa using hj)⟩
theorem NatsR.ext {B : Nat} {w w' : World} {cells : List Value} {xss : List (List Nat)} (h : NatsR B w cells xss) (hg : w.grownBy w' none) : NatsR B w' cells xss := ⟨h.len, fun j hj => ⟨(h.all j hj).1, (h.all j hj).2.ext hg⟩⟩
theorem NatsR.below {B : Nat} {w w' : World} {cells : List Value} {xss : List (List Nat)} (h : NatsR B w cells xss) (hg : Below B w w') : NatsR B w' cells xss := ⟨h.len, fun j hj => ⟨(h.all j hj).1, (h.all j hj).2.below hg⟩⟩
theorem NatsR.norm {B : Nat} {w : World} {cells : List Value} {xss : List (List Nat)} (h : NatsR B w cells xss) : NatsR w.heap.size w cells xss := ⟨h.len, fun j hj => ⟨(h.all j hj).1, (h.all j hj).2.norm⟩⟩
theorem NatsR.take {B : Nat} {w : World} {cells : List Value} {xss : List (List Nat)} (h : NatsR B w cells xss) (k : Nat) : NatsR B w (cells.take k) (xss.take k) := by
  refine ⟨by simp [h.len], fun j hj => ?_⟩
  have hj' : j < xss.length ∧ j < k := by simp at hj; omega
  have e1 : (cells.take k).getD j undef = cells.getD j undef := by simp [List.getD_eq_getElem?_getD, hj'.2]
  have e2 : (xss.take k).getD j [] = xss.getD j [] := by simp [List.getD_eq_getElem?_getD, hj'.2]
  rw [e1, e2]; exact h.all j hj'.1
theorem NatsR.drop {B : Nat} {w : World} {cells : List Value} {xss : List (List Nat)} (h : NatsR B w cells xss) (k : Nat) : NatsR B w (cells.drop k) (xss.drop k) := by
  refine ⟨by simp [h.len], fun j hj => ?_⟩
  have hj' : k + j < xss.length := by simp at hj; omega
  have e1 : (cells.drop k).getD j undef = cells.getD (k + j) undef := by simp [List.getD_eq_getElem?_getD]
  have e2 : (xss.drop k).getD j [] = xss.getD (k + j) [] := by simp [List.getD_eq_getElem?_getD]
  rw [e1, e2]; exact h.all _ hj'
end Go.Proofs.Ytdmgbahognfhbab
namespace Go.Proofs.Ytdmgbahognfhbab
open Go.RowKit
/-- The sum of a list of numbers. -/
def sumN (l : List (List Nat)) : Nat := (l.map nv).sum
def prodN (l : List (List Nat)) : Nat := (l.map nv).foldr (· * ·) 1
def LimAll (l : List (List Nat)) : Prop := ∀ i, i < l.length → Lim (l.getD i [])
def LenAll (K : Nat) (l : List (List Nat)) : Prop := ∀ i, i < l.length → (l.getD i []).length ≤ K
@[simp] theorem sumN_nil : sumN [] = 0 := rfl
@[simp] theorem sumN_cons (x : List Nat) (l : List (List Nat)) : sumN (x :: l) = nv x + sumN l := by simp [sumN]
@[simp] theorem prodN_nil : prodN [] = 1 := rfl
@[simp] theorem prodN_cons (x : List Nat) (l : List (List Nat)) : prodN (x :: l) = nv x * prodN l := by simp [prodN]
@[simp] theorem nv_nil : nv [] = 0 := rfl
@[simp] theorem nv_one (x : Nat) : nv [x] = x := by simp [nv]
attribute [simp] nv_digs nv_trimL
theorem LimAll.nil : LimAll [] := fun i h => by cases h
theorem LimAll.cons {x : List Nat} {l : List (List Nat)} (h : Lim x) (hs : LimAll l) : LimAll (x :: l) := fun i hi => by
  cases i with
  | zero => exact h
  | succ i => exact hs i (by simpa using hi)
theorem LenAll.nil (K : Nat) : LenAll K [] := fun i h => by cases h
theorem LenAll.cons {K : Nat} {x : List Nat} {l : List (List Nat)} (h : x.length ≤ K) (hs : LenAll K l) : LenAll K (x :: l) := fun i hi => by
  cases i with
  | zero => exact h
  | succ i => exact hs i (by simpa using hi)
theorem getD_take {l : List (List Nat)} {k j : Nat} (h : j < k) : (l.take k).getD j [] = l.getD j [] := by simp [List.getD_eq_getElem?_getD, h]
theorem getD_drop (l : List (List Nat)) (k j : Nat) : (l.drop k).getD j [] = l.getD (k + j) [] := by simp [List.getD_eq_getElem?_getD]
theorem LimAll.take {l : List (List Nat)} (h : LimAll l) (k : Nat) : LimAll (l.take k) := fun i hi => by
  simp at hi; rw [getD_take (by omega)]; exact h i (by omega)
theorem LimAll.drop {l : List (List Nat)} (h : LimAll l) (k : Nat) : LimAll (l.drop k) := fun i hi => by
  simp at hi; rw [getD_drop]; exact h _ (by omega)
theorem LenAll.take {K : Nat} {l : List (List Nat)} (h : LenAll K l) (k : Nat) : LenAll K (l.take k) := fun i hi => by
  simp at hi; rw [getD_take (by omega)]; exact h i (by omega)
theorem LenAll.drop {K : Nat} {l : List (List Nat)} (h : LenAll K l) (k : Nat) : LenAll K (l.drop k) := fun i hi => by
  simp at hi; rw [getD_drop]; exact h _ (by omega)
end Go.Proofs.Ytdmgbahognfhbab
namespace Go.Proofs.Ytdmgbahognfhbab
open Go.ChangeShapes Go.WideShapes Go.ChangeAt Go.RowKit
theorem u8_arg {x : Int} (h : (Lit.int .u8 x).wf = true) : ∃ n : Nat, x = n ∧ n < 256 := by
  simp [Lit.wf, IntKind.min, IntKind.max, IntKind.signed, IntKind.bits] at h
  exact ⟨x.toNat, by omega, by omega⟩
end Go.Proofs.Ytdmgbahognfhbab
set_option linter.unusedSimpArgs false
set_option linter.unusedVariables false
namespace Go.Proofs.Ytdmgbahognfhbab
open Go.RowKit
/-- Field f of the struct type t is one cell, at the offset off. -/
def fldB (P : Program) (t f off : Nat) : Bool :=
  match P.underlying t with
  | some (.struct fs) =>
    match fs[f]? with
    | some fd => fd.offset == off && (match P.underlying fd.type with | some (.struct _) => false | some (.array _ _) => false | some _ => true | none => false)
    | none => false
  | _ => false
/-- The struct type t: the places of its fields, its zero value. -/
def bldP (P : Program) (t : Nat) (pl : List (Nat × Nat)) (zs : Array Value) : Prop :=
  (P.info? t).map (·.zero) = some (some (.agg zs)) ∧ ∃ fs, P.underlying t = some (.struct fs) ∧ fs.toList.mapM (fun f => (P.info? f.type).map fun i => (f.offset, i.size)) = some pl
theorem built_of {P : Program} {t : Nat} {pl : List (Nat × Nat)} {zs : Array Value} (h : bldP P t pl zs) (parts : List (Nat × Value)) : P.built t parts = Instr.fill (pl.toArray[·]?) zs parts := by
  obtain ⟨h1, fs, h2, h3⟩ := h
  cases hi : P.info? t with
  | none => rw [hi] at h1; cases h1
  | some it =>
    rw [hi] at h1
    simp only [Option.map_some, Option.some.injEq] at h1
    simp only [Program.built, hi, h2, h1, h3, Value.cells]

section
variable {P : Program} {n : Nat} {N : Post} {L : Fr} {w : World} {ops : Array Oper} {rest : List Oper}
variable {d : Nat} {ty : TypeId} {pos : String} {af : Array Edge}
theorem WL.build {t : Nat} {pl : List (Nat × Nat)} {zs cells : Array Value} {parts : List (Nat × Operand)} {vs : List Value} (hB : bldP P t pl zs) (hx : evs L (parts.map (·.2)) = some vs)
    (hf : Instr.fill (pl.toArray[·]?) zs ((parts.map (·.1)).zip vs) = some cells) (hn : Nat.blt d n = true)
    (h : WL P n ops rest N ((d, .agg cells) :: L) w) : WL P n ops (⟨some d, .build t parts.toArray, ty, pos, af, none⟩ :: rest) N L w := by
  refine WL.val rfl rfl hn (fun a ha => ?_) h
  have hm := ha.evs hx
  have hz : (parts.map fun x => (x.1, a.eval x.2)) = (parts.map (·.1)).zip vs := by
    rw [← hm]
    clear hm hf hx
    induction parts with
    | nil => rfl
    | cons p l ih => simp [ih]
  have hb : P.built t (parts.map fun x => (x.1, a.eval x.2)) = some cells := by rw [built_of hB, hz]; exact hf
  have := run_build (P := P) w t (parts.map fun x => (x.1, a.eval x.2)).toArray cells (by simpa using hb)
  simp [execOp] at this ⊢
  simp [this]
end
end Go.Proofs.Ytdmgbahognfhbab
set_option linter.unusedSimpArgs false
set_option linter.unusedVariables false
namespace Go.Proofs.Ytdmgbahognfhbab
open Go.RowKit
/-! ### variables of struct type -/
def aggB (P : Program) (t : Nat) : Bool := match P.underlying t with | some (.struct _) => true | some (.array _ _) => true | _ => false
theorem isAgg_of {P : Program} {t : Nat} (h : aggB P t = true) (w : World) : (isAgg t).run P w = .ok true w := by
  unfold aggB at h
  cases hu : P.underlying t with
  | none => rw [hu] at h; cases h
  | some D =>
    rw [hu] at h
    simp only [isAgg, Sem.run_bind, run_underlying hu, Result.andThen_ok]
    cases D <;> simp_all
theorem run_loadV {P : Program} {w : World} {t z by_ : Nat} {zero : Value} {p : Addr} {cs : List Value} (he : Elem P t z by_ zero) (ha : aggB P t = true) (hl : cs.length = z) (hc : ∀ j u, cs[j]? = some u → w.cell? (p.add j) = some u) :
    (loadVar t p).run P w = .ok (.agg cs.toArray) w := by
  obtain ⟨inf, i1, i2, i3, i4⟩ := he.ex
  have h := run_loadCells_list (P := P) w p cs hc
  rw [hl] at h
  simp [loadVar, Sem.run_bind, isAgg_of ha, sizeOf, typeInfo, i1, i3, h]
theorem Own.vcells {b : Nat} {w : World} {e z g : Nat} {cs : List Value} (h : Own b w e z (some ⟨g, 0, none⟩) 1 1 cs) : ∀ j u, cs[j]? = some u → w.cell? ((⟨g, 0, none⟩ : Addr).add j) = some u := fun j u hu => h.rd.at_ hu
/-- A field's place: one that is no empty one. -/
def fldA (P : Program) (t f off : Nat) : Bool :=
  match P.underlying t with
  | some (.struct fs) =>
    match fs[f]? with
    | some fd => fd.offset == off && (match P.info? fd.type with | some i => i.size != 0 | none => false)
    | none => false
  | _ => false
theorem run_fieldAt {P : Program} {w : World} {t f off : Nat} {p : Addr} (h : fldA P t f off = true) : (Instr.fieldAt t (.pointer (some p)) f).run P w = .ok (.pointer (some (p.add off))) w := by
  unfold fldA at h
  split at h
  · rename_i fs hu
    split at h
    · rename_i fd hfd
      simp only [Bool.and_eq_true, beq_iff_eq] at h
      obtain ⟨ho, hk⟩ := h
      subst ho
      cases hi : P.info? fd.type with
      | none => rw [hi] at hk; cases hk
      | some i =>
        rw [hi] at hk
        have hk' : i.size ≠ 0 := by simpa using hk
        simp [Instr.fieldAt, run_underlying hu, hfd, Instr.sureAddr, fieldPlace, sizeOf, typeInfo, hi, hk']
    · cases h
  · cases h
theorem apart {g h : Nat} (hn : g ≠ h) : ∀ k, bl (some ⟨h, 0, none⟩) = some k → bl (some ⟨g, 0, none⟩) ≠ some k := fun k e1 e2 => by
  simp only [bl, Option.map_some, Option.some.injEq] at e1 e2
  omega
theorem ap_row {A : Option Addr} {g : Nat} (h : ∀ k, bl A = some k → k ≠ g) : ∀ k, bl (some ⟨g, 0, none⟩) = some k → bl A ≠ some k := fun k e1 e2 => by
  simp only [bl, Option.map_some, Option.some.injEq] at e1
  exact h k e2 e1.symm
theorem ap_old {b : Nat} {w : World} {e z m c : Nat} {A : Option Addr} {cs : List Value} {g : Nat} (h : Own b w e z A m c cs) (hg : g = w.heap.size) : ∀ k, bl A = some k → k ≠ g := fun k hk => by
  have := (h.bl_ge k hk).2; omega
theorem own_new (w : World) (t z : Nat) (cs : Array Value) (hz : cs.size = z) : Own w.heap.size (w.alloc (.cells cs t)) t z (some ⟨w.heap.size, 0, none⟩) 1 1 cs.toList :=
  World.ownsRow_lit (e := t) (size := z) w cs 1 (Nat.le_refl _) (by simp [maxLen]) (by simpa using hz)

section
variable {P : Program} {n : Nat} {N : Post} {L : Fr} {w : World} {ops : Array Oper} {rest : List Oper}
variable {d : Nat} {ty : TypeId} {pos : String} {af : Array Edge}
theorem WL.alloc {t z by_ : Nat} {zero : Value} (he : Elem P t z by_ zero) (hn : Nat.blt d n = true)
    (h : ∀ g w', g = w.heap.size → Own w.heap.size w' t z (some ⟨g, 0, none⟩) 1 1 zero.cells.toList → w.grownBy w' none → WL P n ops rest N ((d, .pointer (some ⟨g, 0, none⟩)) :: L) w') :
    WL P n ops (⟨some d, .alloc t, ty, pos, af, none⟩ :: rest) N L w := by
  obtain ⟨inf, i1, i2, i3, i4⟩ := he.ex
  refine WL.val rfl rfl hn (fun a ha => ?_) (h _ _ rfl (own_new w t z zero.cells he.zs) (World.grownBy_alloc w _ none))
  simp [execOp, Instr.alloc, zeroValue, typeInfo, i1, i2, newVar, newRow]
theorem WL.loadV {x : Operand} {t z by_ : Nat} {zero : Value} {p : Addr} {cs : List Value} (he : Elem P t z by_ zero) (hag : aggB P t = true) (hx : ev L x = some (.pointer (some p))) (hl : cs.length = z) (hc : ∀ j u, cs[j]? = some u → w.cell? (p.add j) = some u)
    (hn : Nat.blt d n = true) (h : WL P n ops rest N ((d, .agg cs.toArray) :: L) w) : WL P n ops (⟨some d, .load t x, ty, pos, af, none⟩ :: rest) N L w :=
  WL.val rfl rfl hn (fun a ha => by simp [execOp, ha.ev hx, Instr.loadAt, Instr.sureAddr, run_loadV he hag hl hc]) h
theorem WL.fieldA {x : Operand} {t f off : Nat} {p : Addr} (hF : fldA P t f off = true) (hx : ev L x = some (.pointer (some p))) (hn : Nat.blt d n = true)
    (h : WL P n ops rest N ((d, .pointer (some (p.add off))) :: L) w) : WL P n ops (⟨some d, .fieldAddr t x f, ty, pos, af, none⟩ :: rest) N L w :=
  WL.val rfl rfl hn (fun a ha => by simp [execOp, ha.ev hx, run_fieldAt hF]) h
theorem WL.storeV {x y : Operand} {t e z by_ b g : Nat} {zero : Value} {cells : Array Value} {old : List Value} (he : Elem P t z by_ zero) (hx : ev L x = some (.pointer (some ⟨g, 0, none⟩))) (hy : ev L y = some (.agg cells)) (hz : cells.size = z)
    (h1 : cells.toList.all (·.oneCell') = true) (hO : Own b w e z (some ⟨g, 0, none⟩) 1 1 old)
    (h : ∀ w', Own b w' e z (some ⟨g, 0, none⟩) 1 1 cells.toList → w.grownBy w' (bl (some ⟨g, 0, none⟩)) → WL P n ops rest N L w') : WL P n ops (⟨none, .store t x y, ty, pos, af, none⟩ :: rest) N L w := by
  obtain ⟨inf, i1, i2, i3, i4⟩ := he.ex
  obtain ⟨hl, hO2⟩ := hO
  rcases hO2 with ⟨hx0, _⟩ | ⟨g', cap, cur, hg1, hg2, hg3, hg4, hg5, hg6, hg7⟩
  · cases hx0
  · cases hg1
    have hcz : cur.size = cells.size := by rw [hg6, hz, Nat.one_mul]
    have hrun := run_storeVar_row (P := P) w g e t cur cells hg3 (by simp [i1, i3, hz]) hcz (by rw [← Array.all_toList]; exact h1)
    refine WL.act (w' := w.setRow g cells) rfl rfl (fun a ha => by simp [execOp, ha.ev hx, ha.ev hy, Instr.storeAt, Instr.sureAddr, hrun]) (h _ ?_ ?_)
    · refine ⟨by simp [hz], .inr ⟨g, 1, cells, rfl, hg2, setRow_heap w g cur cells e _ hg3, Nat.le_refl _, by simp [maxLen], by simp [hz], ?_⟩⟩
      rw [Nat.one_mul, ← hz, ← Array.length_toList, List.take_length]
    · refine ⟨rfl, rfl, rfl, Nat.le_of_eq (setRow_size w g cells).symm, fun k hk hr => setRow_other w g k cells (fun e => hr (by rw [e]; rfl))⟩
end

/-! ### results that are read out of variables -/
def resC (P : Program) (L : Fr) (w : World) : List ResultVar → List Value → Prop
  | [], vs => vs = []
  | .tmp t :: r, vs => ∃ v us, vs = v :: us ∧ lk L t = some v ∧ resC P L w r us
  | .cell a ty :: r, vs => ∃ p v us, vs = v :: us ∧ lk L a = some (.pointer (some p)) ∧ (loadVar ty p).run P w = .ok v w ∧ resC P L w r us
def resV : List Value → Value
  | [v] => v
  | vs => .tuple vs.toArray
def endCN (P : Program) (res : List ResultVar) (R : Value → World → Prop) : Post := fun L w => ∃ vs, resC P L w res vs ∧ R (resV vs) w
def endC (P : Program) (res : List ResultVar) (R : Value → World → Prop) : BPost
  | .ret, L, w => ∃ vs, resC P L w res vs ∧ R (resV vs) w
  | _, _, _ => False
end Go.Proofs.Ytdmgbahognfhbab
namespace Go.Proofs.Ytdmgbahognfhbab
open Go.RowKit
/-- Rows of two types are apart. -/
theorem ap_type {b b' : Nat} {w : World} {e e' z z' m c m' c' g : Nat} {A : Option Addr} {cs cs' : List Value} (h : Own b w e z A m c cs) (hV : Own b' w e' z' (some ⟨g, 0, none⟩) m' c' cs') (hne : e ≠ e') : ∀ k, bl A = some k → k ≠ g := by
  intro k hk hkg
  subst hkg
  rcases h.2 with ⟨h1, _⟩ | ⟨g1, cap, cur, h1, h2, h3, _⟩
  · cases h1; cases hk
  · cases h1
    rcases hV.2 with ⟨k1, _⟩ | ⟨g2, cap2, cur2, k1, k2, k3, _⟩
    · cases k1
    · cases k1
      cases hk
      rw [h3] at k3
      cases k3
      exact hne rfl
end Go.Proofs.Ytdmgbahognfhbab
set_option linter.unusedSimpArgs false
set_option linter.unusedVariables false
namespace Go.Proofs.Ytdmgbahognfhbab
open Go.RowKit
/-- A scope that no jump leaves. -/
def ng (B : BPost) : BPost
  | .goto _, _, _ => False
  | e, L, w => B e L w
section
variable {P : Program} {n : Nat} {N : Post} {B : BPost} {L : Fr} {w : World}
theorem W.scope {c : Code} (h : W P n c N (ng B) L w) : W P n (.scope c) N B L w :=
  ⟨fun a ha => wp_scope_straight (wp_mono (h.out a ha) fun e a' w' q => by
    cases e with
    | goto l => obtain ⟨L', h1, h2⟩ := q; exact h2.elim
    | normal => exact q
    | exit id => exact q
    | ret => exact q
    | panic ch => exact q
    | outgrown => exact q)⟩
theorem W.label {l : Nat} (h : N L w) : W P n (.label l) N B L w := ⟨fun a ha => wp_label ⟨L, ha, h⟩⟩
end
/-- Arrays as values: one cell an entry. -/
def arrB (P : Program) (t n : Nat) : Bool :=
  match P.underlying t with
  | some (.array m e) => m == n && (match P.underlying e with | some (.struct _) => false | some (.array _ _) => false | some _ => true | none => false) && (match P.info? e with | some i => i.size == 1 | none => false)
  | _ => false
theorem run_indexA {P : Program} {w : World} {t n j : Nat} {cs : Array Value} {v : Value} {k : IntKind} {J : Int} (h : arrB P t n = true) (hJ : J = j) (hj : j < n) (hv : cs[j]? = some v) : (Instr.index t (.agg cs) (.int k J)).run P w = .ok v w := by
  unfold arrB at h
  split at h
  · rename_i m e hu
    simp only [Bool.and_eq_true, beq_iff_eq] at h
    obtain ⟨⟨hm, hk⟩, hs⟩ := h
    subst hm
    cases hi : P.info? e with
    | none => rw [hi] at hs; cases hs
    | some it =>
      rw [hi] at hs
      simp only [beq_iff_eq] at hs
      cases hD : P.underlying e with
      | none => rw [hD] at hk; cases hk
      | some D =>
        rw [hD] at hk
        have hag : (isAgg e).run P w = .ok false w := by
          simp only [isAgg, Sem.run_bind, run_underlying hD, Result.andThen_ok]
          cases D <;> simp_all
        have h1 : 0 ≤ J ∧ J < (m : Int) := by omega
        simp [Instr.index, asIntOf, run_underlying hu, h1, sizeOf, typeInfo, hi, hs, part, hag, hJ, hv, hj]
  · cases h
section
variable {P : Program} {n : Nat} {N : Post} {L : Fr} {w : World} {ops : Array Oper} {rest : List Oper}
variable {d : Nat} {ty : TypeId} {pos : String} {af : Array Edge}
theorem WL.indexA {x i : Operand} {t m : Nat} {cs : Array Value} {v : Value} {k : IntKind} {J : Int} (j : Nat) (hA : arrB P t m = true) (hx : ev L x = some (.agg cs)) (hi : ev L i = some (.int k J)) (hJ : J = j) (hj : j < m) (hv : cs[j]? = some v) (hn : Nat.blt d n = true)
    (h : WL P n ops rest N ((d, v) :: L) w) : WL P n ops (⟨some d, .index t x i, ty, pos, af, none⟩ :: rest) N L w :=
  WL.val rfl rfl hn (fun a ha => by simp [execOp, ha.ev hx, ha.ev hi, run_indexA hA hJ hj hv]) h
theorem WL.buildG {t : Nat} {cells : Array Value} {parts : List (Nat × Operand)} {vs : List Value} (hx : evs L (parts.map (·.2)) = some vs)
    (hf : P.built t ((parts.map (·.1)).zip vs) = some cells) (hn : Nat.blt d n = true)
    (h : WL P n ops rest N ((d, .agg cells) :: L) w) : WL P n ops (⟨some d, .build t parts.toArray, ty, pos, af, none⟩ :: rest) N L w := by
  refine WL.val rfl rfl hn (fun a ha => ?_) h
  have hm := ha.evs hx
  have hz : (parts.map fun x => (x.1, a.eval x.2)) = (parts.map (·.1)).zip vs := by
    rw [← hm]
    clear hm hf hx
    induction parts with
    | nil => rfl
    | cons p l ih => simp [ih]
  have hb : P.built t (parts.map fun x => (x.1, a.eval x.2)) = some cells := by rw [hz]; exact hf
  have := run_build (P := P) w t (parts.map fun x => (x.1, a.eval x.2)).toArray cells (by simpa using hb)
  simp [execOp] at this ⊢
  simp [this]
end
end Go.Proofs.Ytdmgbahognfhbab
set_option linter.unusedSimpArgs false
set_option linter.unusedVariables false
namespace Go.Proofs.Ytdmgbahognfhbab
open Go.RowKit
/-- A struct type of two ints. -/
structure Eq2 (P : Program) (t : TypeId) : Prop where
  ht : P.underlying t = some (.struct (P.fieldsOf t))
  hp : P.stoodInHeld t = false
  hg : P.eqGuardType P.depth t = false
  fs : ∃ f0 f1, (P.fieldsOf t).toList = [f0, f1] ∧ (f0.name == "_") = false ∧ (f1.name == "_") = false ∧ f0.offset = 0 ∧ f1.offset = 1 ∧ P.underlying f0.type = some (.int .i64) ∧ P.underlying f1.type = some (.int .i64)
theorem run_part_int {P : Program} {w : World} {t : TypeId} {xs : Array Value} {i : Nat} {v : Value} (ht : P.underlying t = some (.int .i64)) (hv : xs[i]? = some v) : (part t xs i).run P w = .ok v w := by
  have hag : (isAgg t).run P w = .ok false w := by simp only [isAgg, Sem.run_bind, run_underlying ht, Result.andThen_ok]; rfl
  simp [part, hag, hv]
theorem run_eq2 {P : Program} {w : World} {t : TypeId} (h : Eq2 P t) (a b c d : Int) (n : Nat) : (Op.equalIn (n + 2) t (.agg #[.int .i64 a, .int .i64 b]) (.agg #[.int .i64 c, .int .i64 d])).run P w = .ok (a == c && b == d) w := by
  obtain ⟨f0, f1, hf, n0, n1, o0, o1, u0, u1⟩ := h.fs
  have n0' : f0.name ≠ "_" := by simpa using n0
  have n1' : f1.name ≠ "_" := by simpa using n1
  rw [run_equalIn_struct w (n + 1) t _ _ h.ht h.hp, hf]
  simp only [Op.eqFields, if_pos n0', if_pos n1', o0, o1, Sem.run_bind]
  rw [run_part_int u0 (v := .int .i64 a) rfl, Result.andThen_ok, run_part_int u0 (v := .int .i64 c) rfl, Result.andThen_ok, run_equalIn_int w n _ _ _ _ _ u0, Result.andThen_ok]
  cases hac : (a == c)
  · simp
  · simp only [Bool.not_true, Bool.false_eq_true, if_false, Sem.run_bind]
    rw [run_part_int u1 (v := .int .i64 b) rfl, Result.andThen_ok, run_part_int u1 (v := .int .i64 d) rfl, Result.andThen_ok, run_equalIn_int w n _ _ _ _ _ u1, Result.andThen_ok]
    cases hbd : (b == d) <;> simp
section
variable {P : Program} {n : Nat} {N : Post} {L : Fr} {w : World} {ops : Array Oper} {rest : List Oper}
variable {d : Nat} {ty : TypeId} {pos : String} {af : Array Edge}
theorem WL.neq2 {x y : Operand} {tx tb : TypeId} {a b a' b' : Int} {r : Bool} (hE : Eq2 P tx) (hx : ev L x = some (.agg #[.int .i64 a, .int .i64 b])) (hy : ev L y = some (.agg #[.int .i64 a', .int .i64 b'])) (hr : (!(a == a' && b == b')) = r) (hn : Nat.blt d n = true)
    (h : WL P n ops rest N ((d, .bool r) :: L) w) : WL P n ops (⟨some d, .binOp .neq tx x y tb, ty, pos, af, none⟩ :: rest) N L w :=
  WL.val rfl rfl hn (fun c ha => by
    simp only [execOp, ha.ev hx, ha.ev hy, Sem.run_bind]
    rw [run_eqGuard_agg w _ _ _ _ _ _ hE.hg, Result.andThen_ok, run_neq_struct, run_eq2 hE _ _ _ _ 9998, Result.andThen_ok, hr]; rfl) h
end
end Go.Proofs.Ytdmgbahognfhbab
set_option linter.unusedVariables false
namespace Go.Proofs.Ytdmgbahognfhbab
open Go.RowKit
theorem Try.mixed : Try.prog.follows .mixedOrders = true := by kernel_rfl
theorem Try.el3 : Elem Try.prog 3 1 8 (.int .i64 0) := .mk' (by kernel_rfl) rfl (by decide)
theorem Try.el73 : Elem Try.prog 73 2 16 (.agg #[.int .i64 0, .int .i64 0]) := .mk' (by kernel_rfl) rfl (by decide)
theorem Try.agg73 : aggB Try.prog 73 = true := by kernel_rfl
theorem Try.fla73_0 : fldA Try.prog 73 0 0 = true := by kernel_rfl
theorem Try.fla73_1 : fldA Try.prog 73 1 1 = true := by kernel_rfl
theorem Try.bld73 : bldP Try.prog 73 [(0, 1), (1, 1)] #[.int .i64 0, .int .i64 0] := ⟨by kernel_rfl, _, Try.underlying73, by kernel_rfl⟩
theorem Try.nm15 : (Try.f15.name == "runtime.NumGoroutine") = false := by kernel_rfl
theorem Try.nm16 : (Try.f16.name == "runtime.NumGoroutine") = false := by kernel_rfl
theorem Try.nm17 : (Try.f17.name == "runtime.NumGoroutine") = false := by kernel_rfl
theorem Try.nm55 : (Try.f55.name == "runtime.NumGoroutine") = false := by kernel_rfl
theorem Try.nm56 : (Try.f56.name == "runtime.NumGoroutine") = false := by kernel_rfl
theorem Try.nm57 : (Try.f57.name == "runtime.NumGoroutine") = false := by kernel_rfl
theorem Try.nm58 : (Try.f58.name == "runtime.NumGoroutine") = false := by kernel_rfl
theorem Try.nm59 : (Try.f59.name == "runtime.NumGoroutine") = false := by kernel_rfl
theorem Try.nm60 : (Try.f60.name == "runtime.NumGoroutine") = false := by kernel_rfl
theorem Try.nm61 : (Try.f61.name == "runtime.NumGoroutine") = false := by kernel_rfl
theorem Try.nm62 : (Try.f62.name == "runtime.NumGoroutine") = false := by kernel_rfl
theorem Try.nm63 : (Try.f63.name == "runtime.NumGoroutine") = false := by kernel_rfl
theorem Try.nm64 : (Try.f64.name == "runtime.NumGoroutine") = false := by kernel_rfl
theorem Try.nm65 : (Try.f65.name == "runtime.NumGoroutine") = false := by kernel_rfl
theorem Try.nm66 : (Try.f66.name == "runtime.NumGoroutine") = false := by kernel_rfl
theorem Try.nm67 : (Try.f67.name == "runtime.NumGoroutine") = false := by kernel_rfl
theorem Try.nm88 : (Try.f88.name == "runtime.NumGoroutine") = false := by kernel_rfl
theorem Try.nm89 : (Try.f89.name == "runtime.NumGoroutine") = false := by kernel_rfl
theorem Try.nm90 : (Try.f90.name == "runtime.NumGoroutine") = false := by kernel_rfl
theorem Try.nm91 : (Try.f91.name == "runtime.NumGoroutine") = false := by kernel_rfl
theorem Try.nm92 : (Try.f92.name == "runtime.NumGoroutine") = false := by kernel_rfl
theorem Try.nm93 : (Try.f93.name == "runtime.NumGoroutine") = false := by kernel_rfl
theorem Try.nm94 : (Try.f94.name == "runtime.NumGoroutine") = false := by kernel_rfl
theorem Try.arr55 : arrB Try.prog 55 3 = true := by kernel_rfl
theorem Try.arr104 : arrB Try.prog 104 8 = true := by kernel_rfl
set_option maxRecDepth 100000 in
theorem Try.eq73 : Eq2 Try.prog 73 := by
  have h := Try.underlying73
  refine ⟨by unfold Program.fieldsOf; rw [h], by kernel_rfl, by kernel_rfl, ?_⟩
  exact ⟨_, _, by unfold Program.fieldsOf; rw [h], rfl, rfl, rfl, rfl, Try.underlying3, Try.underlying3⟩
end Go.Proofs.Ytdmgbahognfhbab
set_option linter.unusedSimpArgs false
set_option linter.unusedVariables false
namespace Go.Proofs.Ytdmgbahognfhbab
/-! ### divisors, prime powers -/
structure IsLf (n d : Nat) : Prop where
  two : 2 ≤ d
  dvd : n % d = 0
  min : ∀ e, 2 ≤ e → n % e = 0 → d ≤ e
theorem IsLf.uniq {n d e : Nat} (h : IsLf n d) (h' : IsLf n e) : d = e := Nat.le_antisymm (h.min e h'.two h'.dvd) (h'.min d h.two h.dvd)
theorem IsLf.le {n d : Nat} (h : IsLf n d) (hn : 0 < n) : d ≤ n := Nat.le_of_dvd hn (Nat.dvd_of_mod_eq_zero h.dvd)
theorem IsLf.of_lt {n d : Nat} (h2 : 2 ≤ d) (hd : n % d = 0) (h : ∀ e, e < d → 2 ≤ e → n % e ≠ 0) : IsLf n d := ⟨h2, hd, fun e he hm => by
  rcases Nat.lt_or_ge e d with hc | hc
  · exact absurd hm (h e hc he)
  · exact hc⟩
/-- A search that stops beyond the root. -/
theorem IsLf.self_of_root {n k : Nat} (hn : 2 ≤ n) (hk : n < k * k) (h : ∀ e, e < k → 2 ≤ e → n % e = 0 → e = n) : IsLf n n := by
  refine ⟨hn, Nat.mod_self n, fun e he hm => ?_⟩
  rcases Nat.lt_or_ge e k with hc | hc
  · exact Nat.le_of_eq (h e hc he hm).symm
  · obtain ⟨q, hq⟩ := Nat.dvd_of_mod_eq_zero hm
    have hq1 : q < k := by
      rcases Nat.lt_or_ge q k with h1 | h1
      · exact h1
      · have := Nat.mul_le_mul hc h1; omega
    rcases Nat.lt_or_ge q 2 with h2 | h2
    · have : q = 0 ∨ q = 1 := by omega
      rcases this with rfl | rfl
      · omega
      · omega
    · have := h q hq1 h2 (by rw [hq]; exact Nat.mul_mod_left _ _)
      subst this
      have := Nat.mul_le_mul_right q he
      omega
instance decAll {n : Nat} {p : Nat → Prop} [DecidablePred p] : Decidable (∀ e, e < n → p e) := Nat.decidableBallLT n (fun e _ => p e)
def sgI (z : Int) : Int := if 0 < z then 1 else if z < 0 then -1 else 0
/-- p ^ e divides n out: m is left. -/
inductive IsFac : Nat → List (Nat × Nat) → Prop
  | one : IsFac 1 []
  | step {n p e m : Nat} {L : List (Nat × Nat)} : IsLf n p → n = m * p ^ e → m % p ≠ 0 → 0 < e → IsFac m L → IsFac n ((p, e) :: L)
theorem strip_uniq {p m m' e e' : Nat} (hp : 2 ≤ p) (h : m * p ^ e = m' * p ^ e') (hm : m % p ≠ 0) (hm' : m' % p ≠ 0) : m = m' ∧ e = e' := by
  have key : ∀ {m m' e e' : Nat}, m * p ^ e = m' * p ^ e' → m % p ≠ 0 → e ≤ e' → m = m' ∧ e = e' := by
    intro m m' e e' h hm hle
    obtain ⟨k, rfl⟩ := Nat.exists_eq_add_of_le hle
    have hpos : 0 < p ^ e := Nat.pow_pos (by omega)
    have h2 : m = m' * p ^ k := by
      rw [Nat.pow_add, ← Nat.mul_assoc, Nat.mul_right_comm] at h
      exact Nat.eq_of_mul_eq_mul_right hpos h
    cases k with
    | zero => simp at h2; exact ⟨h2, rfl⟩
    | succ k => exact absurd (by rw [h2, Nat.pow_succ, ← Nat.mul_assoc]; exact Nat.mul_mod_left _ _) hm
  rcases Nat.le_total e e' with h1 | h1
  · exact key h hm h1
  · obtain ⟨a, b⟩ := key h.symm hm' h1
    exact ⟨a.symm, b.symm⟩
theorem IsFac.pos {n : Nat} {L : List (Nat × Nat)} (h : IsFac n L) : 0 < n := by
  induction h with
  | one => decide
  | step hl hn hm he _ ih => subst hn; exact Nat.mul_pos ih (Nat.pow_pos (by have := hl.two; omega))
theorem IsFac.uniq {n : Nat} {L L' : List (Nat × Nat)} (h : IsFac n L) (h' : IsFac n L') : L = L' := by
  induction h generalizing L' with
  | one =>
    cases h' with
    | one => rfl
    | step hl hn hm he h2 =>
      have := hl.le (by decide); have := hl.two; omega
  | step hl hn hm he h2 ih =>
    rename_i n p e m L
    cases h' with
    | one => have := hl.le (by decide); have := hl.two; omega
    | step hl' hn' hm' he' h2' =>
      have hp := hl.uniq hl'
      subst hp
      obtain ⟨rfl, rfl⟩ := strip_uniq hl.two (hn ▸ hn') hm hm'
      rw [ih h2']
theorem IsFac.nil {n : Nat} (h : IsFac n []) : n = 1 := by cases h; rfl
theorem strip_lt {n p e m : Nat} (hl : IsLf n p) (hn : n = m * p ^ e) (he : 0 < e) (h0 : 0 < m) : 2 * m ≤ n := by
  have h1 : 2 ≤ p ^ e := Nat.le_trans hl.two (Nat.le_pow he)
  have := Nat.mul_le_mul_left m h1
  omega
theorem IsFac.two_pow {n : Nat} {L : List (Nat × Nat)} (h : IsFac n L) : 2 ^ L.length ≤ n := by
  induction h with
  | one => decide
  | step hl hn hm he h2 ih =>
    have := strip_lt hl hn he h2.pos
    rw [List.length_cons, Nat.pow_succ]; omega
theorem lf_prime {n p : Nat} (hl : IsLf n p) : IsLf p p := ⟨hl.two, Nat.mod_self p, fun e he hm => hl.min e he (by
  obtain ⟨a, ha⟩ := Nat.dvd_of_mod_eq_zero hl.dvd
  obtain ⟨b, hb⟩ := Nat.dvd_of_mod_eq_zero hm
  rw [ha]; exact Nat.mod_eq_zero_of_dvd (Nat.dvd_trans ⟨b, hb⟩ ⟨a, rfl⟩))⟩
/-! ### the extended algorithm of Euclid -/
structure Eu (a0 b0 : Nat) (a b F S : Nat) (e : Int) : Prop where
  sgn : e = 1 ∨ e = -1
  gcd : Nat.gcd a b = Nat.gcd a0 b0
  det : F * b + S * a = b0
  ca : ∃ k : Int, e * F * a0 = a + k * b0
  cb : ∃ k : Int, -(e * S) * a0 = b + k * b0
theorem Eu.start (a0 b0 : Nat) : Eu a0 b0 a0 b0 1 0 1 := ⟨.inl rfl, rfl, by omega, ⟨0, by omega⟩, ⟨-1, by omega⟩⟩
theorem Eu.next {a0 b0 a b F S : Nat} {e : Int} (h : Eu a0 b0 a b F S e) (hb : 0 < b) : Eu a0 b0 b (a % b) S (F + a / b * S) (-e) := by
  obtain ⟨k1, h1⟩ := h.ca; obtain ⟨k2, h2⟩ := h.cb
  have hd := Nat.div_add_mod a b
  refine ⟨by rcases h.sgn with r | r <;> omega, ?_, ?_, ⟨k2, by rw [← h2]; grind⟩, ⟨k1 - (a / b : Nat) * k2, ?_⟩⟩
  · rw [← h.gcd, Nat.gcd_comm, Nat.gcd_comm a b]
    exact (Nat.gcd_rec b a).symm
  · have h3 := h.det
    have h4 : S * a = S * (b * (a / b)) + S * (a % b) := by rw [← Nat.mul_add, hd]
    have h5 : S * (b * (a / b)) = a / b * S * b := by rw [Nat.mul_comm b, ← Nat.mul_assoc, Nat.mul_comm S]
    rw [Nat.add_mul]; omega
  · have h6 : ((a % b : Nat) : Int) = a - b * (a / b : Nat) := by
      have : (a : Int) = b * (a / b : Nat) + (a % b : Nat) := by exact_mod_cast hd.symm
      omega
    rw [h6]
    have e1 : -(-e * ((F + a / b * S : Nat) : Int)) * a0 = (e * F * a0) - (a / b : Nat) * (-(e * S) * a0) := by push_cast; grind
    rw [e1, h1, h2]; grind
theorem Eu.bound {a0 b0 a b F S : Nat} {e : Int} (h : Eu a0 b0 a b F S e) (hb : 0 < b) : F ≤ b0 ∧ S * a ≤ b0 := by
  have h1 := h.det
  have := Nat.le_mul_of_pos_right F hb
  omega
theorem Eu.quo_bound {a0 b0 a b F S : Nat} {e : Int} (h : Eu a0 b0 a b F S e) (hb : 0 < b) : a / b * S ≤ b0 ∧ F + a / b * S ≤ b0 := by
  have h1 := h.det
  have h2 := Nat.div_mul_le_self a b
  have h3 : a / b * S * b ≤ S * a := by
    rw [Nat.mul_right_comm, Nat.mul_comm S a]; exact Nat.mul_le_mul_right S h2
  have h4 := Nat.le_mul_of_pos_right (F + a / b * S) hb
  rw [Nat.add_mul] at h4
  constructor <;> omega
theorem Eu.done {a0 b0 a F S : Nat} {e : Int} (h : Eu a0 b0 a 0 F S e) : a = Nat.gcd a0 b0 := by have := h.gcd; rwa [Nat.gcd_zero_right] at this
end Go.Proofs.Ytdmgbahognfhbab
namespace Go.Proofs.Ytdmgbahognfhbab
open Go.RowKit
/-- The number of binary digits. -/
def bitn (x : Nat) : Nat := if x = 0 then 0 else Nat.log2 x + 1
end Go.Proofs.Ytdmgbahognfhbab
namespace Go.Proofs.Ytdmgbahognfhbab
open Go.RowKit
/-- The greatest number of limbs, and twice that. -/
def c4 : Nat := 4096
def c8 : Nat := 8192
theorem c48 : c8 = c4 + c4 := rfl
/-- The least number with more than 4096 limbs. -/
def bigN : Nat := 4294967296 ^ c4
end Go.Proofs.Ytdmgbahognfhbab
namespace Go.Proofs.Ytdmgbahognfhbab
open Go.RowKit
/-- Binomial coefficients. -/
def choose : Nat → Nat → Nat
  | _, 0 => 1
  | 0, _ + 1 => 0
  | n + 1, k + 1 => choose n k + choose n (k + 1)
theorem choose_zero (n : Nat) : choose n 0 = 1 := by cases n <;> rfl
theorem choose_succ (n k : Nat) : choose (n + 1) (k + 1) = choose n k + choose n (k + 1) := rfl
theorem choose_big : ∀ {n k : Nat}, n < k → choose n k = 0
  | 0, k + 1, _ => rfl
  | n + 1, k + 1, h => by rw [choose_succ, choose_big (by omega : n < k), choose_big (by omega : n < k + 1)]
theorem choose_self : ∀ n : Nat, choose n n = 1
  | 0 => rfl
  | n + 1 => by rw [choose_succ, choose_self n, choose_big (by omega)]
theorem choose_absorb : ∀ n k : Nat, (n + 1) * choose n k = choose (n + 1) (k + 1) * (k + 1)
  | 0, 0 => rfl
  | 0, k + 1 => by rw [choose_big (by omega : 0 < k + 1), choose_big (by omega : 0 + 1 < k + 1 + 1)]; simp
  | n + 1, 0 => by
    have h := choose_absorb n 0
    rw [choose_zero] at h ⊢
    rw [choose_succ (n + 1) 0, choose_zero]
    omega
  | n + 1, k + 1 => by
    have h1 := choose_absorb n k
    have h2 := choose_absorb n (k + 1)
    rw [choose_succ (n + 1) (k + 1), Nat.add_mul (choose (n + 1) (k + 1)), ← h2]
    rw [show choose (n + 1) (k + 1) * (k + 1 + 1) = choose (n + 1) (k + 1) * (k + 1) + choose (n + 1) (k + 1) by rw [Nat.mul_add, Nat.mul_one], ← h1]
    rw [show (n + 1 + 1) * choose (n + 1) (k + 1) = (n + 1) * choose (n + 1) (k + 1) + choose (n + 1) (k + 1) by rw [Nat.add_mul (n + 1) 1, Nat.one_mul]]
    rw [choose_succ n k, Nat.mul_add]
    omega
theorem choose_symm_add : ∀ a b : Nat, choose (a + b) a = choose (a + b) b
  | 0, b => by rw [Nat.zero_add, choose_zero, choose_self]
  | a + 1, 0 => by rw [Nat.add_zero, choose_zero, choose_self]
  | a + 1, b + 1 => by
    have h1 := choose_symm_add a (b + 1)
    have h2 := choose_symm_add (a + 1) b
    rw [show a + 1 + (b + 1) = (a + (b + 1)) + 1 by omega, choose_succ, choose_succ, h1]
    rw [show a + 1 + b = a + (b + 1) by omega] at h2
    rw [h2]; omega
theorem choose_symm {n k : Nat} (h : k ≤ n) : choose n (n - k) = choose n k := by
  have := choose_symm_add (n - k) k
  rw [show n - k + k = n by omega] at this
  exact this
theorem choose_pow : ∀ n k : Nat, choose n k ≤ 2 ^ n
  | _, 0 => by rw [choose_zero]; exact Nat.pow_pos (by decide)
  | 0, k + 1 => by rw [choose_big (by omega)]; exact Nat.zero_le _
  | n + 1, k + 1 => by rw [choose_succ, Nat.pow_succ]; have := choose_pow n k; have := choose_pow n (k + 1); omega
def c129 : Nat := 129
/-- The same at every whole number below. -/
def chz (n : Nat) (k : Int) : Nat := if k < 0 then 0 else choose n k.toNat
theorem wi64n {n : Nat} (h : n < 9223372036854775808) : IntKind.i64.wrap (n : Int) = (n : Int) := wi64 (by omega) (by omega) rfl
end Go.Proofs.Ytdmgbahognfhbab
set_option linter.unusedSimpArgs false
set_option linter.unusedVariables false
namespace Go.Proofs.Ytdmgbahognfhbab
/-! ### numbers modulo n -/
theorem idvd {a b c : Int} (h : a ∣ b * c) (hg : Nat.gcd a.natAbs b.natAbs = 1) : a ∣ c := by
  have h1 := Int.natAbs_dvd_natAbs.2 h
  rw [Int.natAbs_mul] at h1
  exact Int.natAbs_dvd_natAbs.1 (Nat.Coprime.dvd_of_dvd_mul_left hg h1)
theorem dvd_small {n z : Int} (h : n ∣ z) (h1 : -n < z) (h2 : z < n) : z = 0 := by
  obtain ⟨k, rfl⟩ := h
  have hn : 0 < n := by omega
  rcases Int.lt_trichotomy k 0 with h | h | h
  · have := Int.mul_le_mul_of_nonneg_left (show k ≤ -1 by omega) (Int.le_of_lt hn)
    rw [Int.mul_neg, Int.mul_one] at this; omega
  · rw [h, Int.mul_zero]
  · have := Int.mul_le_mul_of_nonneg_left (show 1 ≤ k by omega) (Int.le_of_lt hn)
    rw [Int.mul_one] at this; omega
theorem igcd_emod (a n : Int) : Int.gcd (a % n) n = Int.gcd a n := by
  rw [Int.emod_def, show a - n * (a / n) = a + n * (-(a / n)) by rw [Int.mul_neg]; omega]
  exact Int.gcd_add_mul_left_left n a _
theorem gcd_emod (a : Int) {n : Nat} (hn : 0 < n) : Nat.gcd (a % n).toNat n = Nat.gcd a.natAbs n := by
  have h := igcd_emod a n
  have h0 := Int.emod_nonneg a (show (n : Int) ≠ 0 by omega)
  unfold Int.gcd at h
  rwa [show (a % (n : Int)).natAbs = (a % (n : Int)).toNat by omega, Int.natAbs_natCast] at h
theorem tmod_cases {a n : Int} (hn : 0 < n) : (a.tmod n = a % n ∧ (0 ≤ a ∨ a % n = 0)) ∨ (a.tmod n = a % n - n ∧ a < 0 ∧ 0 < a % n) := by
  rw [Int.tmod_eq_emod]
  have h1 := Int.emod_nonneg a (show n ≠ 0 by omega)
  by_cases h : 0 ≤ a ∨ n ∣ a
  · rw [if_pos h]
    refine .inl ⟨by simp, h.imp id fun h => Int.emod_eq_zero_of_dvd h⟩
  · rw [if_neg h]
    have h2 : a % n ≠ 0 := fun h3 => h (.inr (Int.dvd_of_emod_eq_zero h3))
    refine .inr ⟨by omega, by omega, by omega⟩
theorem tmod_neg {a n : Int} (hn : 0 < n) (h : a.tmod n < 0) : a.tmod n + n = a % n := by
  have h0 := Int.emod_nonneg a (show n ≠ 0 by omega)
  rcases tmod_cases (a := a) hn with h1 | h1 <;> omega
theorem tmod_nn {a n : Int} (hn : 0 < n) (h : 0 ≤ a.tmod n) : a.tmod n = a % n := by
  have h0 := Int.emod_lt_of_pos a hn
  rcases tmod_cases (a := a) hn with h1 | h1 <;> omega
theorem tmod_range {a n : Int} (hn : 0 < n) : -n < a.tmod n ∧ a.tmod n < n := by
  have h0 := Int.emod_lt_of_pos a hn
  have h1 := Int.emod_nonneg a (show n ≠ 0 by omega)
  rcases tmod_cases (a := a) hn with h1 | h1 <;> omega
/-! ### inverses -/
structure IsInv (a : Int) (n : Nat) (x : Nat) : Prop where
  lt : x < n
  dvd : (n : Int) ∣ a * x - 1
theorem IsInv.cop {a : Int} {n x : Nat} (h : IsInv a n x) : Nat.gcd a.natAbs n = 1 := by
  have hg1 : ((Nat.gcd a.natAbs n : Nat) : Int) ∣ a := Int.ofNat_dvd_left.2 (Nat.gcd_dvd_left _ _)
  have hg2 : ((Nat.gcd a.natAbs n : Nat) : Int) ∣ a * x - 1 := Int.dvd_trans (Int.ofNat_dvd.2 (Nat.gcd_dvd_right _ _)) h.dvd
  have h3 : ((Nat.gcd a.natAbs n : Nat) : Int) ∣ 1 := by
    have h4 := Int.dvd_sub (Int.dvd_mul_of_dvd_left (c := x) hg1) hg2
    rwa [show a * x - (a * x - 1) = 1 by omega] at h4
  have h5 : Nat.gcd a.natAbs n ∣ 1 := Int.ofNat_dvd.1 h3
  exact Nat.dvd_one.1 h5
theorem IsInv.uniq {a : Int} {n x y : Nat} (h : IsInv a n x) (h' : IsInv a n y) : x = y := by
  have h1 : (n : Int) ∣ a * ((x : Int) - y) := by
    have := Int.dvd_sub h.dvd h'.dvd
    rwa [show a * (x : Int) - 1 - (a * y - 1) = a * ((x : Int) - y) by rw [Int.mul_sub]; omega] at this
  have h2 := idvd h1 (by rw [Int.natAbs_natCast, Nat.gcd_comm]; exact h.cop)
  have := h.lt; have := h'.lt
  have := dvd_small h2 (by omega) (by omega)
  omega
theorem IsInv.emod {a : Int} {n x : Nat} (h : IsInv (a % n) n x) : IsInv a n x := ⟨h.lt, by
  have h1 := h.dvd
  have e : a * x - 1 = (a % n) * x - 1 + n * ((a / n) * x) := by
    have := Int.emod_def a n
    rw [this, Int.sub_mul, Int.mul_assoc]; omega
  rw [e]; exact Int.dvd_add h1 (Int.dvd_mul_right _ _)⟩
/-- What Euclid's algorithm gives. -/
theorem IsInv.mk' {a X : Int} {n : Nat} (hn : 0 < n) (h : (n : Int) ∣ X * a - 1) : IsInv a n (X % n).toNat := by
  have h0 := Int.emod_nonneg X (show (n : Int) ≠ 0 by omega)
  have h1 := Int.emod_lt_of_pos X (show 0 < (n : Int) by omega)
  refine ⟨by omega, ?_⟩
  rw [Int.toNat_of_nonneg h0]
  have e : a * (X % n) - 1 = X * a - 1 - n * ((X / n) * a) := by
    have := Int.emod_def X n
    rw [this, Int.mul_sub, Int.mul_comm a X, Int.mul_comm a, Int.mul_assoc]; omega
  rw [e]; exact Int.dvd_sub h (Int.dvd_mul_right _ _)
/-! ### coefficients of Bezout -/
structure Bez (a b : Int) (g : Nat) (x y : Int) : Prop where
  gg : g = Nat.gcd a.natAbs b.natAbs
  x0 : 0 ≤ x
  x1 : x < ((b.natAbs / g : Nat) : Int)
  e : a * x + b * y = g
theorem Bez.uniq {a b : Int} {g g' : Nat} {x y x' y' : Int} (hb : b ≠ 0) (h : Bez a b g x y) (h' : Bez a b g' x' y') : g = g' ∧ x = x' ∧ y = y' := by
  have hg : g = g' := h.gg.trans h'.gg.symm
  subst hg
  have hgp : 0 < g := by rw [h.gg]; exact Nat.gcd_pos_of_pos_right _ (by omega)
  obtain ⟨a1, ha⟩ : (g : Int) ∣ a := by rw [h.gg]; exact Int.ofNat_dvd_left.2 (Nat.gcd_dvd_left _ _)
  obtain ⟨b1, hb1⟩ : (g : Int) ∣ b := by rw [h.gg]; exact Int.ofNat_dvd_left.2 (Nat.gcd_dvd_right _ _)
  have hc : Nat.gcd a1.natAbs b1.natAbs = 1 := by
    have h2 := h.gg
    rw [ha, hb1, Int.natAbs_mul, Int.natAbs_mul, Int.natAbs_natCast, Nat.gcd_mul_left] at h2
    have h3 : g * Nat.gcd a1.natAbs b1.natAbs = g * 1 := by omega
    exact Nat.eq_of_mul_eq_mul_left hgp h3
  have hB : b.natAbs / g = b1.natAbs := by rw [hb1, Int.natAbs_mul, Int.natAbs_natCast]; exact Nat.mul_div_cancel_left _ hgp
  have e1 : a1 * x + b1 * y = a1 * x' + b1 * y' := by
    have h1 := h.e; have h2 := h'.e
    have h3 : (g : Int) * (a1 * x + b1 * y) = g * (a1 * x' + b1 * y') := by
      rw [Int.mul_add, Int.mul_add, ← Int.mul_assoc, ← Int.mul_assoc, ← Int.mul_assoc, ← Int.mul_assoc, ← ha, ← hb1]; omega
    exact Int.eq_of_mul_eq_mul_left (by omega) h3
  have e2 : b1 ∣ a1 * (x - x') := ⟨y' - y, by rw [Int.mul_sub, Int.mul_sub]; omega⟩
  have e3 := idvd e2 (by rw [Nat.gcd_comm]; exact hc)
  have hx : x - x' = 0 := by
    have r1 := h.x0; have r2 := h.x1; have r3 := h'.x0; have r4 := h'.x1
    rw [hB] at r2 r4
    exact dvd_small (n := (b1.natAbs : Int)) (Int.natAbs_dvd.2 e3) (by omega) (by omega)
  have hx' : x = x' := by omega
  subst hx'
  have hb0 : b1 ≠ 0 := fun h => hb (by rw [hb1, h, Int.mul_zero])
  exact ⟨rfl, rfl, Int.eq_of_mul_eq_mul_left hb0 (by omega)⟩
/-- The rest of the division makes the second coefficient. -/
theorem Bez.of {a b x : Int} {g : Nat} (hb : b ≠ 0) (hg : g = Nat.gcd a.natAbs b.natAbs) (h0 : 0 ≤ x) (h1 : x < ((b.natAbs / g : Nat) : Int)) (hd : (b.natAbs : Int) ∣ x * a - g) : Bez a b g x (((g : Int) - a * x).tdiv b) := by
  refine ⟨hg, h0, h1, ?_⟩
  have h2 : b ∣ (g : Int) - a * x := by
    have h3 := Int.natAbs_dvd.1 hd
    obtain ⟨k, hk⟩ := h3
    exact ⟨-k, by rw [Int.mul_neg, ← hk, Int.mul_comm a x]; omega⟩
  rw [Int.mul_tdiv_cancel' h2]; omega
/-! ### the theorem of the Chinese remainders -/
inductive Chin (rs ms : List Int) : Nat → Nat → Nat → Option (Nat × Nat) → Prop
  | done {i x P : Nat} : ms.length ≤ i → Chin rs ms i x P (some (x, P))
  | fail {i x P : Nat} : i < ms.length → Nat.gcd P (ms.getD i 0).natAbs ≠ 1 → Chin rs ms i x P none
  | step {i x P m y : Nat} {R : Option (Nat × Nat)} : i < ms.length → ms.getD i 0 = m → 0 < m → IsInv P m y → Chin rs ms (i + 1) (x + P * (((rs.getD i 0 - x) % m).toNat * y % m)) (P * m) R → Chin rs ms i x P R
theorem Chin.uniq {rs ms : List Int} {i x P : Nat} {R R' : Option (Nat × Nat)} (h : Chin rs ms i x P R) (h' : Chin rs ms i x P R') : R = R' := by
  induction h with
  | done hi =>
    cases h' with
    | done => rfl
    | fail h1 => omega
    | step h1 => omega
  | fail hi hg =>
    cases h' with
    | done h1 => omega
    | fail => rfl
    | step h1 hm h0 hv => rw [hm] at hg; exact absurd (by have := hv.cop; simpa using this) hg
  | step h1 hm h0 hv hr ih =>
    cases h' with
    | done h2 => omega
    | fail h2 hg => rw [hm] at hg; exact absurd (by have := hv.cop; simpa using this) hg
    | step h2 hm' h0' hv' hr' =>
      rw [hm] at hm'
      have := Int.ofNat_inj.1 hm'
      subst this
      have := hv.uniq hv'
      subst this
      exact ih hr'
theorem chin_step {x P m y : Nat} {r : Int} (hm : 0 < m) (hv : IsInv P m y) :
    ((x + P * (((r - x) % m).toNat * y % m) : Nat) : Int) % m = r % m := by
  have h0 := Int.emod_nonneg (r - x) (show (m : Int) ≠ 0 by omega)
  apply Int.emod_eq_emod_iff_emod_sub_eq_zero.2
  apply Int.emod_eq_zero_of_dvd
  obtain ⟨k, hk⟩ := hv.dvd
  have e1 : ((((r - x) % m).toNat * y % m : Nat) : Int) = ((r - x) % m * y) % m := by push_cast; rw [Int.toNat_of_nonneg h0]
  have e2 : ((x + P * (((r - x) % m).toNat * y % m) : Nat) : Int) = x + P * (((r - x) % m * y) % m) := by rw [← e1]; push_cast; rfl
  rw [e2, Int.emod_def ((r - x) % m * y), Int.emod_def (r - x)]
  generalize (r - x) / (m : Int) = q1
  generalize (((r - x) - m * q1) * y) / (m : Int) = q2
  refine ⟨k * (r - x) - P * y * q1 - P * q2, ?_⟩
  have : (P : Int) * y = 1 + m * k := by omega
  have e3 : (P : Int) * ((r - x - m * q1) * y - m * q2) = (P * y) * (r - x) - P * y * (m * q1) - P * (m * q2) := by grind
  rw [e3]
  grind
structure ChinR (rs ms : List Int) (i x P X N : Nat) : Prop where
  dvd : P ∣ N
  cong : (P : Int) ∣ (X : Int) - x
  lt : x < P → X < N
  all : ∀ j, i ≤ j → j < ms.length → (X : Int) % ms.getD j 0 = rs.getD j 0 % ms.getD j 0
  pos : ∀ j, i ≤ j → j < ms.length → 0 < ms.getD j 0
  uniq : ∀ z : Int, (P : Int) ∣ z - X → (∀ j, i ≤ j → j < ms.length → ms.getD j 0 ∣ z - X) → (N : Int) ∣ z - X
theorem Chin.ok {rs ms : List Int} {i x P X N : Nat} (h : Chin rs ms i x P (some (X, N))) : ChinR rs ms i x P X N := by
  generalize hR : some (X, N) = R at h
  induction h with
  | done hi =>
    simp only [Option.some.injEq, Prod.mk.injEq] at hR
    obtain ⟨rfl, rfl⟩ := hR
    exact ⟨Nat.dvd_refl _, by simp, id, fun j h1 h2 => by omega, fun j h1 h2 => by omega, fun z h _ => h⟩
  | fail => cases hR
  | step h1 hm h0 hv hr ih =>
    rename_i i x P m y R
    have I := ih hR
    have hPm : (P : Int) ∣ ((P * m : Nat) : Int) := ⟨m, by push_cast; rfl⟩
    have hmm : (m : Int) ∣ ((P * m : Nat) : Int) := ⟨P, by push_cast; rw [Int.mul_comm]⟩
    have hx := I.cong
    have hxm : (X : Int) % m = rs.getD i 0 % m := by
      rw [← chin_step (x := x) (r := rs.getD i 0) h0 hv]
      exact Int.emod_eq_emod_iff_emod_sub_eq_zero.2 (Int.emod_eq_zero_of_dvd (Int.dvd_trans hmm hx))
    refine ⟨Nat.dvd_trans (Nat.dvd_mul_right P m) I.dvd, ?_, fun hlt => I.lt ?_, fun j hj hl => ?_, fun j hj hl => ?_, fun z hz ha => ?_⟩
    · have := Int.dvd_trans hPm hx
      have h2 := Int.dvd_add this (show (P : Int) ∣ ((P * (((rs.getD i 0 - x) % m).toNat * y % m) : Nat) : Int) from ⟨_, by push_cast; rfl⟩)
      rwa [show (X : Int) - ((x + P * (((rs.getD i 0 - x) % m).toNat * y % m) : Nat) : Int) + ((P * (((rs.getD i 0 - x) % m).toNat * y % m) : Nat) : Int) = (X : Int) - x by omega] at h2
    · have h3 : ((rs.getD i 0 - x) % m).toNat * y % m < m := Nat.mod_lt _ h0
      generalize ((rs.getD i 0 - x) % m).toNat * y % m = k at *
      have h4 : P * (k + 1) ≤ P * m := Nat.mul_le_mul_left P h3
      rw [Nat.mul_add, Nat.mul_one] at h4
      omega
    · rcases Nat.eq_or_lt_of_le hj with rfl | h4
      · rw [hm]; exact hxm
      · exact I.all j h4 hl
    · rcases Nat.eq_or_lt_of_le hj with rfl | h4
      · rw [hm]; omega
      · exact I.pos j h4 hl
    · refine I.uniq z ?_ fun j h4 h5 => ha j (by omega) h5
      have hmz : (m : Int) ∣ z - X := by have := ha i (Nat.le_refl _) h1; rwa [hm] at this
      have hc : Nat.gcd P m = 1 := by have := hv.cop; simpa using this
      have h6 : P ∣ (z - X).natAbs := Int.ofNat_dvd_left.1 hz
      have h7 : m ∣ (z - X).natAbs := Int.ofNat_dvd_left.1 hmz
      exact Int.ofNat_dvd_left.2 (Nat.Coprime.mul_dvd_of_dvd_of_dvd hc h6 h7)
end Go.Proofs.Ytdmgbahognfhbab
namespace Go.Proofs.Ytdmgbahognfhbab
open Go.RowKit
def sumTo (f : Nat → Nat) : Nat → Nat
  | 0 => 0
  | j + 1 => sumTo f j + f j
theorem sumTo_add (f g : Nat → Nat) : ∀ j, sumTo (fun i => f i + g i) j = sumTo f j + sumTo g j
  | 0 => rfl
  | j + 1 => by simp only [sumTo]; rw [sumTo_add f g j]; omega
theorem sumTo_shift (f : Nat → Nat) : ∀ j, sumTo f (j + 1) = f 0 + sumTo (fun i => f (i + 1)) j
  | 0 => by simp [sumTo]
  | j + 1 => by rw [sumTo, sumTo_shift f j]; simp only [sumTo]; omega
theorem sumTo_congr {f g : Nat → Nat} : ∀ {j : Nat}, (∀ i, i < j → f i = g i) → sumTo f j = sumTo g j
  | 0, _ => rfl
  | j + 1, h => by simp only [sumTo]; rw [sumTo_congr (fun i hi => h i (by omega)), h j (by omega)]
theorem sumTo_le (f : Nat → Nat) {j k : Nat} (h : j ≤ k) : sumTo f j ≤ sumTo f k := by
  induction h with
  | refl => exact Nat.le_refl _
  | step _ ih => simp only [sumTo]; omega
/-- The first terms of the identity of Vandermonde. -/
def vs (p q r j : Nat) : Nat := sumTo (fun i => choose p i * choose q (r - i)) j
theorem choose_pos : ∀ {n k : Nat}, k ≤ n → 0 < choose n k
  | n, 0, _ => by rw [choose_zero]; decide
  | n + 1, k + 1, h => by rw [choose_succ]; have := choose_pos (show k ≤ n by omega); omega
end Go.Proofs.Ytdmgbahognfhbab
set_option linter.unusedSimpArgs false
set_option linter.unusedVariables false
namespace Go.Proofs.Ytdmgbahognfhbab
/-! ### primes -/
theorem prime_cop {p k : Nat} (hp : IsLf p p) (hk : k % p ≠ 0) : Nat.gcd p k = 1 := by
  have h1 := Nat.gcd_dvd_left p k
  rcases Nat.lt_or_ge (Nat.gcd p k) 2 with h | h
  · have : 0 < Nat.gcd p k := Nat.gcd_pos_of_pos_left _ (by have := hp.two; omega)
    omega
  · have h2 := hp.min _ h (Nat.mod_eq_zero_of_dvd h1)
    have h3 := Nat.le_of_dvd (by have := hp.two; omega) h1
    have h4 : Nat.gcd p k = p := by omega
    have h5 := Nat.gcd_dvd_right p k
    rw [h4] at h5
    exact absurd (Nat.mod_eq_zero_of_dvd h5) hk
theorem prime_dvd {p a b : Nat} (hp : IsLf p p) (h : p ∣ a * b) : p ∣ a ∨ p ∣ b := by
  by_cases ha : a % p = 0
  · exact .inl (Nat.dvd_of_mod_eq_zero ha)
  · exact .inr (Nat.Coprime.dvd_of_dvd_mul_left (prime_cop hp ha) h)
theorem prime_dvd_pow {p q : Nat} (hp : IsLf p p) : ∀ {e : Nat}, p ∣ q ^ e → p ∣ q
  | 0, h => by rw [Nat.pow_zero] at h; have := Nat.le_of_dvd (by decide) h; have := hp.two; omega
  | e + 1, h => by
    rw [Nat.pow_succ] at h
    rcases prime_dvd hp h with h | h
    · exact prime_dvd_pow hp h
    · exact h
theorem lf_exists : ∀ {n : Nat}, 2 ≤ n → ∃ p, IsLf n p := fun {n} hn => by
  have key : ∀ k, k ≤ n → (∃ p, IsLf n p) ∨ ∀ e, e < k → 2 ≤ e → n % e ≠ 0 := by
    intro k
    induction k with
    | zero => intro _; exact .inr fun e h => by omega
    | succ k ih =>
      intro hk
      rcases ih (by omega) with h | h
      · exact .inl h
      · by_cases h2 : 2 ≤ k ∧ n % k = 0
        · exact .inl ⟨k, .of_lt h2.1 h2.2 h⟩
        · refine .inr fun e he h3 => ?_
          rcases Nat.lt_succ_iff_lt_or_eq.1 he with h4 | rfl
          · exact h e h4 h3
          · exact fun h4 => h2 ⟨h3, h4⟩
  rcases key n (Nat.le_refl n) with h | h
  · exact h
  · exact ⟨n, .of_lt hn (Nat.mod_self n) h⟩
theorem IsFac.mem {n q : Nat} {L : List (Nat × Nat)} (h : IsFac n L) (hq : IsLf q q) (hd : q ∣ n) : ∃ e, (q, e) ∈ L := by
  induction h with
  | one => have := Nat.le_of_dvd (by decide) hd; have := hq.two; omega
  | step hl hn hm he h2 ih =>
    rename_i n p e m L
    rw [hn] at hd
    rcases prime_dvd hq hd with h | h
    · obtain ⟨e, he⟩ := ih h; exact ⟨e, List.mem_cons_of_mem _ he⟩
    · have h3 := prime_dvd_pow hq h
      have h4 := (lf_prime hl).min q hq.two (Nat.mod_eq_zero_of_dvd h3)
      have h5 := Nat.le_of_dvd (by have := hl.two; omega) h3
      have : q = p := by omega
      subst this; exact ⟨e, List.mem_cons_self⟩
/-! ### congruence to 1 -/
def One (n : Nat) (x : Nat) : Prop := (n : Int) ∣ (x : Int) - 1
theorem One.mul {n x y : Nat} (hx : One n x) (hy : One n y) : One n (x * y) := by
  unfold One at *
  have : ((x * y : Nat) : Int) - 1 = x * ((y : Int) - 1) + ((x : Int) - 1) := by push_cast; rw [Int.mul_sub]; omega
  rw [this]; exact Int.dvd_add (Int.dvd_mul_of_dvd_right hy) hx
theorem One.pow {n x : Nat} (hx : One n x) : ∀ k, One n (x ^ k)
  | 0 => by unfold One; simp
  | k + 1 => by rw [Nat.pow_succ]; exact (hx.pow k).mul hx
theorem One.iff {n x : Nat} : One n x ↔ x % n = 1 % n := by
  unfold One
  constructor
  · intro h
    have h2 := Int.emod_eq_emod_iff_emod_sub_eq_zero.2 (Int.emod_eq_zero_of_dvd h)
    have : ((x % n : Nat) : Int) = ((1 % n : Nat) : Int) := by push_cast; exact h2
    exact Int.ofNat_inj.1 this
  · intro h
    refine Int.dvd_of_emod_eq_zero (Int.emod_eq_emod_iff_emod_sub_eq_zero.1 ?_)
    have : ((x % n : Nat) : Int) = ((1 % n : Nat) : Int) := by rw [h]
    push_cast at this; exact this
theorem One.cancel {n x y : Nat} (hx : One n x) (h : One n (x * y)) : One n y := by
  unfold One at *
  have : (y : Int) - 1 = (((x * y : Nat) : Int) - 1) - ((x : Int) - 1) * y := by push_cast; rw [Int.sub_mul]; omega
  rw [this]; exact Int.dvd_sub h (Int.dvd_mul_of_dvd_left hx)
theorem One.rem {n a x y : Nat} (hx : One n (a ^ x)) (hy : One n (a ^ y)) : One n (a ^ (x % y)) := by
  have h : a ^ x = a ^ (y * (x / y)) * a ^ (x % y) := by rw [← Nat.pow_add, Nat.div_add_mod]
  rw [h] at hx
  exact One.cancel (by rw [Nat.pow_mul]; exact hy.pow _) hx
theorem One.gcd {n a : Nat} : ∀ {x y : Nat}, One n (a ^ x) → One n (a ^ y) → One n (a ^ Nat.gcd x y) := fun {x y} => by
  induction x, y using Nat.gcd.induction with
  | H0 y => intro _ h; simpa using h
  | H1 x y h0 ih => intro hx hy; rw [Nat.gcd_rec]; exact ih (One.rem hy hx) hx
theorem One.cop {n a k : Nat} (h : One n (a ^ k)) (hk : 0 < k) : Nat.gcd a n = 1 := by
  obtain ⟨k, rfl⟩ : ∃ j, k = j + 1 := ⟨k - 1, by omega⟩
  unfold One at h
  have h1 : ((Nat.gcd a n : Nat) : Int) ∣ ((a ^ (k + 1) : Nat) : Int) := Int.ofNat_dvd.2 (Nat.dvd_trans (Nat.gcd_dvd_left a n) ⟨a ^ k, by rw [Nat.pow_succ, Nat.mul_comm]⟩)
  have h2 : ((Nat.gcd a n : Nat) : Int) ∣ ((a ^ (k + 1) : Nat) : Int) - 1 := Int.dvd_trans (Int.ofNat_dvd.2 (Nat.gcd_dvd_right a n)) h
  have h3 := Int.dvd_sub h1 h2
  rw [show ((a ^ (k + 1) : Nat) : Int) - (((a ^ (k + 1) : Nat) : Int) - 1) = ((1 : Nat) : Int) by omega] at h3
  exact Nat.dvd_one.1 (Int.ofNat_dvd.1 h3)
/-! ### the theorem of Fermat, the theorem of Euler -/
theorem binom (a : Nat) : ∀ n, (a + 1) ^ n = sumTo (fun k => choose n k * a ^ k) (n + 1)
  | 0 => by simp [sumTo, choose]
  | n + 1 => by
    have hS : sumTo (fun k => choose (n + 1) k * a ^ k) (n + 1 + 1) = choose (n + 1) 0 * a ^ 0 + sumTo (fun k => choose (n + 1) (k + 1) * a ^ (k + 1)) (n + 1) := sumTo_shift (fun k => choose (n + 1) k * a ^ k) (n + 1)
    have hc : sumTo (fun k => choose (n + 1) (k + 1) * a ^ (k + 1)) (n + 1) = sumTo (fun k => choose n k * a ^ k * a) (n + 1) + sumTo (fun k => choose n (k + 1) * a ^ (k + 1)) (n + 1) := by
      rw [← sumTo_add]
      exact sumTo_congr (fun i _ => by rw [choose_succ, Nat.add_mul, Nat.pow_succ, Nat.mul_assoc])
    have h1 : ∀ m, sumTo (fun k => choose n k * a ^ k * a) m = sumTo (fun k => choose n k * a ^ k) m * a := by
      intro m; induction m with
      | zero => simp [sumTo]
      | succ m ih => simp only [sumTo, ih, Nat.add_mul]
    have h2 : sumTo (fun k => choose n (k + 1) * a ^ (k + 1)) (n + 1) + choose n 0 * a ^ 0 = sumTo (fun k => choose n k * a ^ k) (n + 1) := by
      have e1 : sumTo (fun k => choose n k * a ^ k) (n + 1) = choose n 0 * a ^ 0 + sumTo (fun k => choose n (k + 1) * a ^ (k + 1)) n := sumTo_shift (fun k => choose n k * a ^ k) n
      have e2 : sumTo (fun k => choose n (k + 1) * a ^ (k + 1)) (n + 1) = sumTo (fun k => choose n (k + 1) * a ^ (k + 1)) n := by
        simp only [sumTo]; rw [choose_big (by omega)]; simp
      rw [e2, e1]; omega
    rw [Nat.pow_succ, binom a n, hS, hc, h1]
    rw [choose_zero] at h2 ⊢
    rw [Nat.mul_add, Nat.mul_one]; omega
theorem prime_choose {p k : Nat} (hp : IsLf p p) (h0 : 0 < k) (hk : k < p) : p ∣ choose p k := by
  obtain ⟨n, rfl⟩ : ∃ n, p = n + 1 := ⟨p - 1, by omega⟩
  obtain ⟨j, rfl⟩ : ∃ j, k = j + 1 := ⟨k - 1, by omega⟩
  have h := choose_absorb n j
  have h2 : (n + 1) ∣ choose (n + 1) (j + 1) * (j + 1) := ⟨_, h.symm⟩
  exact Nat.Coprime.dvd_of_dvd_mul_right (prime_cop hp (by rw [Nat.mod_eq_of_lt hk]; omega)) h2
theorem sumTo_dvd {p : Nat} {f : Nat → Nat} : ∀ n, (∀ i, i < n → p ∣ f i) → p ∣ sumTo f n
  | 0, _ => Nat.dvd_zero p
  | n + 1, h => by simp only [sumTo]; exact Nat.dvd_add (sumTo_dvd n fun i hi => h i (by omega)) (h n (by omega))
theorem fermat {p : Nat} (hp : IsLf p p) : ∀ a : Nat, (p : Int) ∣ ((a ^ p : Nat) : Int) - a
  | 0 => by rw [Nat.zero_pow (by have := hp.two; omega)]; simp
  | a + 1 => by
    obtain ⟨n, rfl⟩ : ∃ n, p = n + 1 := ⟨p - 1, by have := hp.two; omega⟩
    have ih := fermat hp a
    have h1 : (a + 1) ^ (n + 1) = 1 + sumTo (fun k => choose (n + 1) (k + 1) * a ^ (k + 1)) n + a ^ (n + 1) := by
      rw [binom a (n + 1), sumTo_shift]
      simp only [sumTo, choose_self, choose_zero, Nat.pow_zero, Nat.one_mul]
      omega
    obtain ⟨k, hk⟩ := sumTo_dvd (p := n + 1) (f := fun k => choose (n + 1) (k + 1) * a ^ (k + 1)) n (fun i hi => Nat.dvd_trans (prime_choose hp (by omega) (by omega)) ⟨_, rfl⟩)
    rw [h1, hk]
    have e : (((1 + (n + 1) * k + a ^ (n + 1) : Nat)) : Int) - ((a + 1 : Nat) : Int) = ((n + 1 : Nat) : Int) * k + (((a ^ (n + 1) : Nat) : Int) - a) := by push_cast; omega
    rw [e]; exact Int.dvd_add (Int.dvd_mul_right _ _) ih
theorem fermat1 {p a : Nat} (hp : IsLf p p) (ha : a % p ≠ 0) : One p (a ^ (p - 1)) := by
  have h := fermat hp a
  have e : ((a ^ p : Nat) : Int) - a = a * (((a ^ (p - 1) : Nat) : Int) - 1) := by
    obtain ⟨n, rfl⟩ : ∃ n, p = n + 1 := ⟨p - 1, by have := hp.two; omega⟩
    rw [Nat.add_sub_cancel, Nat.pow_succ, Int.mul_sub, Int.mul_one, Nat.mul_comm]; push_cast; rfl
  rw [e] at h
  exact idvd h (by simpa using prime_cop hp ha)
def geo (x : Nat) : Nat → Nat | 0 => 0 | n + 1 => geo x n + x ^ n
theorem geo_mul (x : Nat) : ∀ n, ((x : Int) - 1) * geo x n = ((x ^ n : Nat) : Int) - 1
  | 0 => by simp [geo]
  | n + 1 => by
    have := geo_mul x n
    simp only [geo, Nat.pow_succ]; push_cast; rw [Int.mul_add]; push_cast at this; rw [this]; grind
theorem geo_dvd {p x : Nat} (h : One p x) : ∀ n, (p : Int) ∣ (geo x n : Int) - n
  | 0 => by simp [geo]
  | n + 1 => by
    have h1 := geo_dvd h n
    have h2 := h.pow n
    have : (geo x (n + 1) : Int) - ((n + 1 : Nat) : Int) = ((geo x n : Int) - n) + (((x ^ n : Nat) : Int) - 1) := by simp only [geo]; push_cast; omega
    rw [this]; exact Int.dvd_add h1 h2
theorem lift_one {p x e : Nat} (h : One (p ^ (e + 1)) x) : One (p ^ (e + 2)) (x ^ p) := by
  have h1 : One p x := Int.dvd_trans (Int.ofNat_dvd.2 ⟨p ^ e, by rw [Nat.pow_succ, Nat.mul_comm]⟩) h
  have h2 : (p : Int) ∣ (geo x p : Int) := by have := Int.dvd_add (geo_dvd h1 p) (Int.dvd_refl (p : Int)); rwa [Int.sub_add_cancel] at this
  unfold One
  rw [← geo_mul, Nat.pow_succ]
  push_cast
  exact Int.mul_dvd_mul (by unfold One at h; push_cast at h; exact h) h2
theorem euler_pp {p a : Nat} (hp : IsLf p p) (ha : a % p ≠ 0) : ∀ e, One (p ^ (e + 1)) (a ^ (p ^ e * (p - 1)))
  | 0 => by simpa using fermat1 hp ha
  | e + 1 => by
    rw [show p ^ (e + 1) * (p - 1) = p ^ e * (p - 1) * p by rw [Nat.pow_succ, Nat.mul_right_comm], Nat.pow_mul]
    exact lift_one (euler_pp hp ha e)
def phiL : List (Nat × Nat) → Nat | [] => 1 | (p, e) :: L => p ^ (e - 1) * (p - 1) * phiL L
theorem cop_pow {p m : Nat} (hp : IsLf p p) (hm : m % p ≠ 0) : ∀ e, Nat.gcd m (p ^ e) = 1
  | 0 => by simp
  | e + 1 => by
    rw [Nat.pow_succ]
    exact Nat.Coprime.mul_right (cop_pow hp hm e) (by rw [Nat.Coprime, Nat.gcd_comm]; exact prime_cop hp hm)
theorem euler {n a : Nat} {L : List (Nat × Nat)} (h : IsFac n L) (ha : Nat.gcd a n = 1) : One n (a ^ phiL L) := by
  induction h with
  | one => exact ⟨_, (Int.one_mul _).symm⟩
  | step hl hn hm he h2 ih =>
    rename_i n p e m L
    obtain ⟨e, rfl⟩ : ∃ j, e = j + 1 := ⟨e - 1, by omega⟩
    have hp := lf_prime hl
    have hap : a % p ≠ 0 := fun h => by
      have h3 : p ∣ Nat.gcd a n := Nat.dvd_gcd (Nat.dvd_of_mod_eq_zero h) (Nat.dvd_of_mod_eq_zero hl.dvd)
      rw [ha] at h3
      have := Nat.le_of_dvd (by decide) h3; have := hp.two; omega
    have ham : Nat.gcd a m = 1 := Nat.Coprime.coprime_dvd_right ⟨p ^ (e + 1), hn⟩ ha
    have e1 : One (p ^ (e + 1)) (a ^ phiL ((p, e + 1) :: L)) := by
      simp only [phiL, Nat.add_sub_cancel]; rw [Nat.pow_mul]; exact (euler_pp hp hap e).pow _
    have e2 : One m (a ^ phiL ((p, e + 1) :: L)) := by
      simp only [phiL]; rw [Nat.mul_comm, Nat.pow_mul]; exact (ih ham).pow _
    rw [hn]
    unfold One at *
    exact Int.ofNat_dvd_left.2 (Nat.Coprime.mul_dvd_of_dvd_of_dvd (cop_pow hp hm (e + 1)) (Int.ofNat_dvd_left.1 e2) (Int.ofNat_dvd_left.1 e1))
theorem phiL_pos {n : Nat} {L : List (Nat × Nat)} (h : IsFac n L) : 0 < phiL L ∧ phiL L ≤ n := by
  induction h with
  | one => decide
  | step hl hn hm he h2 ih =>
    rename_i n p e m L
    obtain ⟨e, rfl⟩ : ∃ j, e = j + 1 := ⟨e - 1, by omega⟩
    have := hl.two
    simp only [phiL, Nat.add_sub_cancel]
    have h3 : 0 < p ^ e := Nat.pow_pos (by omega)
    refine ⟨Nat.mul_pos (Nat.mul_pos h3 (by omega)) ih.1, ?_⟩
    rw [hn, Nat.pow_succ, Nat.mul_comm m]
    exact Nat.mul_le_mul (Nat.mul_le_mul_left _ (by omega)) ih.2
/-! ### orders -/
structure IsOrd (a n k : Nat) : Prop where
  pos : 0 < k
  one : One n (a ^ k)
  min : ∀ j, 0 < j → One n (a ^ j) → k ≤ j
theorem IsOrd.uniq {a n j k : Nat} (h : IsOrd a n j) (h' : IsOrd a n k) : j = k := Nat.le_antisymm (h.min k h'.pos h'.one) (h'.min j h.pos h.one)
theorem IsOrd.dvd {a n k j : Nat} (h : IsOrd a n k) (hj : One n (a ^ j)) : k ∣ j := by
  have h1 := One.rem hj h.one
  rcases Nat.eq_zero_or_pos (j % k) with h0 | h0
  · exact Nat.dvd_of_mod_eq_zero h0
  · have := h.min _ h0 h1
    have := Nat.mod_lt j h.pos
    omega
/-- No prime may be taken out of the exponent. -/
theorem IsOrd.of {a n k f : Nat} {L : List (Nat × Nat)} (hf : IsFac f L) (hk : k ∣ f) (h0 : 0 < k) (h1 : One n (a ^ k)) (h : ∀ pe ∈ L, ¬ (k % pe.1 = 0 ∧ One n (a ^ (k / pe.1)))) : IsOrd a n k := by
  refine ⟨h0, h1, fun j hj hj1 => ?_⟩
  rcases Nat.lt_or_ge j k with hc | hc
  · exfalso
    have hg := One.gcd hj1 h1
    have hgk := Nat.gcd_dvd_right j k
    have hgj := Nat.gcd_le_left k hj
    generalize Nat.gcd j k = g at *
    obtain ⟨t, ht⟩ := hgk
    have ht2 : 2 ≤ t := by
      rcases Nat.lt_or_ge t 2 with h3 | h3
      · have : t = 0 ∨ t = 1 := by omega
        rcases this with rfl | rfl <;> omega
      · exact h3
    obtain ⟨q, hq⟩ := lf_exists ht2
    obtain ⟨u, hu⟩ := Nat.dvd_of_mod_eq_zero hq.dvd
    have hqk : k = q * (g * u) := by rw [ht, hu]; rw [← Nat.mul_assoc, Nat.mul_comm g q, Nat.mul_assoc]
    obtain ⟨e, he⟩ := hf.mem (lf_prime hq) (Nat.dvd_trans ⟨_, hqk⟩ hk)
    refine h _ he ⟨by rw [hqk]; exact Nat.mul_mod_right _ _, ?_⟩
    have : k / q = g * u := by rw [hqk]; exact Nat.mul_div_cancel_left _ (by have := hq.two; omega)
    show One n (a ^ (k / q))
    rw [this, Nat.pow_mul]; exact hg.pow u
  · exact hc
end Go.Proofs.Ytdmgbahognfhbab
set_option linter.unusedSimpArgs false
set_option linter.unusedVariables false
namespace Go.Proofs.Ytdmgbahognfhbab
open Go.RowKit
/-! ### rows of ints -/
def is (l : List Int) : List Value := l.map fun x : Int => .int .i64 x
theorem is_len (l : List Int) : (is l).length = l.length := by simp [is]
theorem is_at {l : List Int} {j : Nat} (h : j < l.length) : (is l)[j]? = some (.int .i64 (l.getD j 0)) := by simp [is, h]
theorem Rd.ilen {B : Nat} {w : World} {A : Option Addr} {m c : Nat} {l : List Int} (h : Rd B w 1 A m c (is l)) : l.length = m := by have := h.len; rw [is_len] at this; omega
/-- All numbers of a row fit into an int. -/
def ILim (l : List Int) : Prop := ∀ x ∈ l, -9223372036854775808 ≤ x ∧ x ≤ 9223372036854775807
theorem ILim.getD {l : List Int} (h : ILim l) (i : Nat) : -9223372036854775808 ≤ l.getD i 0 ∧ l.getD i 0 ≤ 9223372036854775807 := by
  rcases Nat.lt_or_ge i l.length with h1 | h1
  · simp only [List.getD_eq_getElem?_getD, List.getElem?_eq_getElem h1, Option.getD_some]; exact h _ (List.getElem_mem h1)
  · rw [List.getD_eq_getElem?_getD, List.getElem?_eq_none h1]; decide
theorem ILim.nil : ILim [] := fun x h => by cases h
theorem ILim.cons {x : Int} {l : List Int} (h : -9223372036854775808 ≤ x ∧ x ≤ 9223372036854775807) (hl : ILim l) : ILim (x :: l) := fun y hy => by
  rcases List.mem_cons.1 hy with rfl | h1
  · exact h
  · exact hl y h1
/-! ### rows of prime powers: two cells each -/
def pc : List (Nat × Nat) → List Value
  | [] => []
  | (p, e) :: L => .int .i64 (p : Int) :: .int .i64 (e : Int) :: pc L
theorem pc_len : ∀ L : List (Nat × Nat), (pc L).length = L.length * 2
  | [] => rfl
  | (p, e) :: L => by simp [pc, pc_len L]; omega
theorem pc_append : ∀ L M : List (Nat × Nat), pc L ++ pc M = pc (L ++ M)
  | [], M => rfl
  | (p, e) :: L, M => by simp [pc, pc_append L M]
theorem pc_app {a b c : List (Nat × Nat)} (h : a ++ b = c) : pc a ++ pc b = pc c := by rw [pc_append, h]
theorem pc_one : ∀ L : List (Nat × Nat), ∀ u ∈ pc L, u.oneCell' = true
  | [], u, h => by cases h
  | (p, e) :: L, u, h => by
    simp only [pc, List.mem_cons] at h
    rcases h with rfl | rfl | h
    · rfl
    · rfl
    · exact pc_one L u h
theorem pc_at : ∀ {L : List (Nat × Nat)} {j : Nat}, j < L.length → (pc L)[j * 2]? = some (.int .i64 ((L.getD j (0, 0)).1 : Nat)) ∧ (pc L)[j * 2 + 1]? = some (.int .i64 ((L.getD j (0, 0)).2 : Nat))
  | [], j, h => by simp at h
  | (p, e) :: L, 0, h => ⟨rfl, rfl⟩
  | (p, e) :: L, j + 1, h => by
    have := pc_at (L := L) (j := j) (by simpa using h)
    rw [show (j + 1) * 2 = j * 2 + 1 + 1 by omega]
    simpa [pc] using this
theorem Rd.plen {B : Nat} {w : World} {A : Option Addr} {m c : Nat} {l : List (Nat × Nat)} (h : Rd B w 2 A m c (pc l)) : l.length = m := by have := h.len; rw [pc_len] at this; omega
theorem pc_load {B : Nat} {w : World} {A : Option Addr} {m c : Nat} {L : List (Nat × Nat)} (hR : Rd B w 2 A m c (pc L)) (j : Nat) (hj : j < L.length) :
    ∀ i u, [Value.int .i64 ((L.getD j (0, 0)).1 : Nat), .int .i64 ((L.getD j (0, 0)).2 : Nat)][i]? = some u → w.cell? (((adOf A).add (j * 2)).add i) = some u := by
  intro i u hu
  rw [add_add]
  match i, hu with
  | 0, hu => cases hu; exact hR.at_ (pc_at hj).1
  | 1, hu => cases hu; exact hR.at_ (pc_at hj).2
  | i + 2, hu => simp at hu
theorem getD_pmem {L : List (Nat × Nat)} {j : Nat} (h : j < L.length) : L.getD j (0, 0) ∈ L := by
  simp only [List.getD_eq_getElem?_getD, List.getElem?_eq_getElem h, Option.getD_some]; exact List.getElem_mem h
end Go.Proofs.Ytdmgbahognfhbab
