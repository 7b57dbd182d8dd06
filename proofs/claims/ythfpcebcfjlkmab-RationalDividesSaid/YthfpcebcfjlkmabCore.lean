/- A calculus of frames: what is known of a frame is a list, and code is followed by rules on that list. -/
import Derived.WalkKit
namespace Go.Proofs.Ythfpcebcfjlkmab
open Go.RowKit

abbrev Fr := List (Nat × Value)
/-- What a frame is known to hold at a slot. -/
def lk : Fr → Nat → Option Value
  | [], _ => none
  | (k, v) :: l, t => bif Nat.beq k t then some v else lk l t
structure Has (n : Nat) (a : Act) (L : Fr) : Prop where
  nd : a.defers = []
  sz : a.tmps.size = n
  at_ : ∀ t v, lk L t = some v → a.tmps[t]? = some v
theorem beq_ne {k t : Nat} (h : k ≠ t) : Nat.beq k t = false := by
  cases hb : Nat.beq k t
  · rfl
  · exact absurd (Nat.eq_of_beq_eq_true hb) h
theorem beq_self (k : Nat) : Nat.beq k k = true := Nat.beq_refl k
theorem lk_self (k : Nat) (v : Value) (L : Fr) : lk ((k, v) :: L) k = some v := by simp [lk]
theorem lk_ne {k t : Nat} (h : k ≠ t) (v : Value) (L : Fr) : lk ((k, v) :: L) t = lk L t := by
  simp [lk, beq_ne h]
theorem Has.put {n : Nat} {a : Act} {L : Fr} (h : Has n a L) {d : Nat} (hd : d < n) (v : Value) : Has n (a.put (some d) v) ((d, v) :: L) := by
  refine ⟨h.nd, by simp [Act.put, h.sz], fun t u hu => ?_⟩
  by_cases e : d = t
  · subst e
    rw [lk_self] at hu
    have hs : d < a.tmps.size := by rw [h.sz]; exact hd
    simpa [Act.put, hs] using hu
  · rw [lk_ne e] at hu
    simp [Act.put, e, h.at_ _ _ hu]
def ev (L : Fr) : Operand → Option Value
  | .tmp t => lk L t
  | .const v => some v
  | .global g => some (.pointer (some ⟨g, 0, none⟩))
  | .func f => some (.func (.func f) #[] #[])
theorem Has.ev {n : Nat} {a : Act} {L : Fr} (h : Has n a L) {x : Operand} {v : Value} (hx : ev L x = some v) : a.eval x = v := by
  cases x with
  | tmp t => have := h.at_ t v hx; simp [Act.eval, Array.getD_eq_getD_getElem?, this]
  | const c => simpa [Go.Proofs.Ythfpcebcfjlkmab.ev, Act.eval] using hx
  | global g => simpa [Go.Proofs.Ythfpcebcfjlkmab.ev, Act.eval] using hx
  | func f => simpa [Go.Proofs.Ythfpcebcfjlkmab.ev, Act.eval] using hx
def evs (L : Fr) : List Operand → Option (List Value)
  | [] => some []
  | x :: l => match ev L x with
    | none => none
    | some v => match evs L l with
      | none => none
      | some vs => some (v :: vs)
theorem Has.evs {n : Nat} {a : Act} {L : Fr} (h : Has n a L) {xs : List Operand} {vs : List Value} (hx : evs L xs = some vs) : xs.map a.eval = vs := by
  induction xs generalizing vs with
  | nil => simp [Go.Proofs.Ythfpcebcfjlkmab.evs] at hx; simp [hx]
  | cons x l ih =>
    unfold Go.Proofs.Ythfpcebcfjlkmab.evs at hx
    split at hx
    · cases hx
    · rename_i v hv
      split at hx
      · cases hx
      · rename_i us hus
        cases hx
        simp [h.ev hv, ih hus]
/-- Every known slot of M is known in L, and the same. -/
def sub : Fr → Fr → Prop
  | [], _ => True
  | (k, v) :: M, L => lk L k = some v ∧ sub M L
theorem Has.sub {n : Nat} {a : Act} {L M : Fr} (h : Has n a L) (hs : sub M L) : Has n a M := by
  refine ⟨h.nd, h.sz, ?_⟩
  induction M with
  | nil => intro t v hv; cases hv
  | cons p M ih =>
    obtain ⟨k, u⟩ := p
    intro t v hv
    by_cases e : k = t
    · subst e; rw [lk_self] at hv; cases hv; exact h.at_ _ _ hs.1
    · rw [lk_ne e] at hv; exact ih hs.2 t v hv

abbrev Post := Fr → World → Prop
abbrev BPost := Exit → Fr → World → Prop
def fin (n : Nat) (N : Post) (B : BPost) : Exit → Act → World → Prop
  | .normal, a, w => ∃ L, Has n a L ∧ N L w
  | e, a, w => ∃ L, Has n a L ∧ B e L w
structure W (P : Program) (n : Nat) (c : Code) (N : Post) (B : BPost) (L : Fr) (w : World) : Prop where
  out : ∀ a, Has n a L → c.wp P (fin n N B) a w
/-- The operations of a region that are left. -/
structure WL (P : Program) (n : Nat) (ops : Array Oper) (l : List Oper) (N : Post) (L : Fr) (w : World) : Prop where
  out : ∀ a, Has n a L → ∀ B, wpList P ops (fin n N B) l a w

section code
variable {P : Program} {n : Nat} {N : Post} {B : BPost} {L : Fr} {w : World}
theorem W.skip (h : N L w) : W P n .skip N B L w := ⟨fun _ ha => wp_skip ⟨_, ha, h⟩⟩
theorem W.ret (h : B .ret L w) : W P n .ret N B L w := ⟨fun _ ha => wp_ret ⟨_, ha, h⟩⟩
theorem W.exit {id : Nat} (h : B (.exit id) L w) : W P n (.exit id) N B L w := ⟨fun _ ha => wp_exit ⟨_, ha, h⟩⟩
theorem W.seq {x y : Code} (h : W P n x (fun L w => W P n y N B L w) B L w) : W P n (.seq x y) N B L w :=
  ⟨fun a ha => wp_seq (wp_mono (h.out a ha) fun e a' w' q => by
    cases e with
    | normal => obtain ⟨L', h1, h2⟩ := q; exact h2.out _ h1
    | _ => exact q)⟩
theorem W.cond {c : Operand} {x y : Code} {b : Bool} (hc : ev L c = some (.bool b)) (h : W P n (bif b then x else y) N B L w) : W P n (.cond c x y) N B L w :=
  ⟨fun a ha => wp_cond (t := b) (ha.ev hc) (by cases b <;> exact h.out a ha)⟩
theorem W.cond2 {c : Operand} {x y : Code} {b : Bool} (hc : ev L c = some (.bool b)) (ht : b = true → W P n x N B L w) (hf : b = false → W P n y N B L w) : W P n (.cond c x y) N B L w :=
  ⟨fun a ha => wp_cond_split (ha.ev hc) (fun e => (ht e).out a ha) (fun e => (hf e).out a ha)⟩
def blk (id : Nat) (N : Post) (B : BPost) : BPost
  | .exit i, L, w => bif Nat.beq i id then N L w else B (.exit i) L w
  | e, L, w => B e L w
theorem W.block {id : Nat} {c : Code} (h : W P n c N (blk id N B) L w) : W P n (.block id c) N B L w :=
  ⟨fun a ha => wp_block (wp_mono (h.out a ha) fun e a' w' q => by
    cases e with
    | exit i =>
      obtain ⟨L', h1, h2⟩ := q
      by_cases e : i = id
      · subst e
        simp only [blk, beq_self, cond_true] at h2
        simp only [Exit.inBlock, if_true]
        exact ⟨L', h1, h2⟩
      · have hb := beq_ne e
        simp only [blk, hb, cond_false] at h2
        simp only [Exit.inBlock, if_neg e]
        exact ⟨L', h1, h2⟩
    | _ => exact q)⟩
/-- A loop: what holds at the head of a round, of a state s; what the frame then holds; a measure. -/
theorem W.loop {σ : Type} {c : Code} (I : σ → World → Prop) (fr : σ → Fr) (μ : σ → Nat) (s0 : σ) (h0 : I s0 w) (hf : sub (fr s0) L)
    (round : ∀ s w, I s w → W P n c (fun L' w' => ∃ s', sub (fr s') L' ∧ μ s' < μ s ∧ I s' w') B (fr s) w) : W P n (.loop c) N B L w := by
  refine ⟨fun a ha => ?_⟩
  have key : ∀ k s w a, μ s = k → I s w → Has n a (fr s) → (Code.loop c).wp P (fin n N B) a w := by
    intro k
    induction k using Nat.strongRecOn with
    | _ k ih =>
      intro s w a hk hI hF
      refine wp_loop (I := fun a' w' => ∃ s', μ s' < k + 1 ∧ I s' w' ∧ Has n a' (fr s')) (μ := fun a' w' => Classical.epsilon fun m => ∃ s', μ s' = m ∧ I s' w' ∧ Has n a' (fr s') ∧ ∀ s'', I s'' w' → Has n a' (fr s'') → m ≤ μ s'') ⟨s, by omega, hI, hF⟩ ?_
      intro a1 w1 ⟨s1, hlt, hI1, hF1⟩
      -- the least measure of a state that fits
      have hex : ∃ m, ∃ s', μ s' = m ∧ I s' w1 ∧ Has n a1 (fr s') ∧ ∀ s'', I s'' w1 → Has n a1 (fr s'') → m ≤ μ s'' := by
        have : ∀ b s', μ s' ≤ b → I s' w1 → Has n a1 (fr s') → ∃ m, ∃ s', μ s' = m ∧ I s' w1 ∧ Has n a1 (fr s') ∧ ∀ s'', I s'' w1 → Has n a1 (fr s'') → m ≤ μ s'' := by
          intro b
          induction b with
          | zero => intro s' hb hi hh; exact ⟨μ s', s', rfl, hi, hh, fun _ _ _ => by omega⟩
          | succ b ihb =>
            intro s' hb hi hh
            by_cases hc : ∃ s'', μ s'' ≤ b ∧ I s'' w1 ∧ Has n a1 (fr s'')
            · obtain ⟨s'', h1, h2, h3⟩ := hc; exact ihb s'' h1 h2 h3
            · exact ⟨μ s', s', rfl, hi, hh, fun s'' h2 h3 => by
                by_cases h4 : μ s'' ≤ b
                · exact absurd ⟨s'', h4, h2, h3⟩ hc
                · omega⟩
        exact this _ s1 (Nat.le_refl _) hI1 hF1
      have hsp := Classical.epsilon_spec hex
      obtain ⟨s2, hm2, hI2, hF2, hmin2⟩ := hsp
      refine wp_mono ((round s2 w1 hI2).out a1 hF2) fun e a' w' q => ?_
      cases e with
      | normal =>
        obtain ⟨L', h1, s', hs, hl, hi⟩ := q
        have hF' := h1.sub hs
        have hex' : ∃ m, ∃ s', μ s' = m ∧ I s' w' ∧ Has n a' (fr s') ∧ ∀ s'', I s'' w' → Has n a' (fr s'') → m ≤ μ s'' := by
          have : ∀ b s', μ s' ≤ b → I s' w' → Has n a' (fr s') → ∃ m, ∃ s', μ s' = m ∧ I s' w' ∧ Has n a' (fr s') ∧ ∀ s'', I s'' w' → Has n a' (fr s'') → m ≤ μ s'' := by
            intro b
            induction b with
            | zero => intro s' hb hi hh; exact ⟨μ s', s', rfl, hi, hh, fun _ _ _ => by omega⟩
            | succ b ihb =>
              intro s' hb hi hh
              by_cases hc : ∃ s'', μ s'' ≤ b ∧ I s'' w' ∧ Has n a' (fr s'')
              · obtain ⟨s'', h1, h2, h3⟩ := hc; exact ihb s'' h1 h2 h3
              · exact ⟨μ s', s', rfl, hi, hh, fun s'' h2 h3 => by
                  by_cases h4 : μ s'' ≤ b
                  · exact absurd ⟨s'', h4, h2, h3⟩ hc
                  · omega⟩
          exact this _ s' (Nat.le_refl _) hi hF'
        obtain ⟨s3, hm3, hI3, hF3, hmin3⟩ := Classical.epsilon_spec hex'
        have hle := hmin3 s' hi hF'
        have := hmin2 s1 hI1 hF1
        refine ⟨⟨s', by omega, hi, hF'⟩, ?_⟩
        show Classical.epsilon _ < Classical.epsilon _
        rw [← hm2]
        omega
      | _ => exact q
  exact key _ s0 w a rfl h0 (ha.sub hf)
/-- The ways meet again. -/
theorem W.cut {σ : Type} {x y : Code} (I : σ → World → Prop) (fr : σ → Fr) (h : W P n x (fun L' w' => ∃ s, sub (fr s) L' ∧ I s w') B L w)
    (k : ∀ s w, I s w → W P n y N B (fr s) w) : W P n (.seq x y) N B L w :=
  W.seq ⟨fun a ha => wp_mono (h.out a ha) fun e a' w' q => by
    cases e with
    | normal => obtain ⟨L', h1, s, hs, hi⟩ := q; exact ⟨fr s, h1.sub hs, k s w' hi⟩
    | _ => exact q⟩
theorem W.region {id : Nat} {l : List Oper} (h : WL P n l.toArray l N L w) : W P n (.region id l.toArray false) N B L w :=
  ⟨fun a ha => wp_region_lit (h.out a ha B)⟩
theorem W.mono {c : Code} {N' : Post} (h : W P n c N' B L w) (hn : ∀ L w, N' L w → N L w) : W P n c N B L w :=
  ⟨fun a ha => wp_mono (h.out a ha) fun e a' w' q => by
    cases e with
    | normal => obtain ⟨L', h1, h2⟩ := q; exact ⟨L', h1, hn _ _ h2⟩
    | _ => exact q⟩
end code
end Go.Proofs.Ythfpcebcfjlkmab
