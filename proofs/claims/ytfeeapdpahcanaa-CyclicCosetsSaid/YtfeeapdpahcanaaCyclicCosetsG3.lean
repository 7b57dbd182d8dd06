/- Contracts of functions of the program, and what they lean on: Fa, Fb, Fg, Fp, Fk, Fc, V1, C2, C4, C5. -/
import Derived.Test.YtfeeapdpahcanaaCyclicCosetsG2
set_option linter.unusedVariables false
namespace Go.Proofs.Ytfeeapdpahcanaa
abbrev Vec := Nat -> Int
def tX (m : Nat) (c : Vec) (v : Vec) : Vec := fun i => if i < m then (if i = 0 then 0 else v (i - 1)) - c i * v (m - 1) else 0
def Jp (u v : Vec) : Vec := fun i => u i + v i
def vsm (a : Int) (v : Vec) : Vec := fun i => a * v i
def vz : Vec := fun _ => 0
def e0 : Vec := fun i => if i = 0 then 1 else 0
def tXn (m : Nat) (c : Vec) : Nat -> Vec -> Vec
  | 0, v => v
  | n + 1, v => tX m c (tXn m c n v)
def opr (m : Nat) (c b : Vec) : Nat -> Vec -> Vec
  | 0, _ => vz
  | n + 1, v => Jp (opr m c b n v) (vsm (b n) (tXn m c n v))
def JN (m : Nat) (c a b : Vec) : Vec := opr m c b m a
section
variable (m : Nat) (c : Vec)
theorem tX_add (u v : Vec) : tX m c (Jp u v) = Jp (tX m c u) (tX m c v) := by
 funext i; simp only [tX, Jp]; split
 .split <;> grind
 .rfl
theorem tX_sm (a : Int) (v : Vec) : tX m c (vsm a v) = vsm a (tX m c v) := by
 funext i; simp only [tX, vsm]; split
 .split <;> grind
 .grind
theorem tX_z : tX m c vz = vz := by funext i; simp [tX, vz]
theorem Yp (u : Vec) : Jp u vz = u := by funext i; simp [Jp, vz]
theorem Z0 (u v : Vec) : Jp u v = Jp v u := by funext i; simp only [Jp]; omega
theorem Y1 (u v w : Vec) : Jp (Jp u v) w = Jp u (Jp v w) := by funext i; simp only [Jp]; omega
theorem Zs (a : Int) (u v : Vec) : vsm a (Jp u v) = Jp (vsm a u) (vsm a v) := by funext i; simp only [Jp, vsm]; grind
theorem vsm_sm (a b : Int) (u : Vec) : vsm a (vsm b u) = vsm (a * b) u := by funext i; simp only [vsm]; grind
theorem vsm_z (a : Int) : vsm a vz = vz := by funext i; simp [vsm, vz]
theorem Zy (n : Nat) (u v : Vec) : tXn m c n (Jp u v) = Jp (tXn m c n u) (tXn m c n v) := by
 induction n with
 | zero => rfl
 | succ n ih => simp only [tXn, ih, tX_add]
theorem Jas (n : Nat) (a : Int) (v : Vec) : tXn m c n (vsm a v) = vsm a (tXn m c n v) := by
 induction n with
 | zero => rfl
 | succ n ih => simp only [tXn, ih, tX_sm]
theorem tXn_z (n : Nat) : tXn m c n vz = vz := by
 induction n with
 | zero => rfl
 | succ n ih => simp only [tXn, ih, tX_z]
theorem Jce (n k : Nat) (v : Vec) : tXn m c n (tXn m c k v) = tXn m c (n + k) v := by
 induction n with
 | zero => simp [tXn]
 | succ n ih => rw [Nat.succ_add]; simp only [tXn, ih]
variable (b : Vec)
theorem Jcp (n : Nat) (u v : Vec) : opr m c b n (Jp u v) = Jp (opr m c b n u) (opr m c b n v) := by
 induction n with
 | zero => simp [opr, Yp]
 | succ n ih => simp only [opr, ih, Zy, Zs]; funext i; simp only [Jp]; omega
theorem opr_sm (n : Nat) (a : Int) (v : Vec) : opr m c b n (vsm a v) = vsm a (opr m c b n v) := by
 induction n with
 | zero => simp [opr, vsm_z]
 | succ n ih => simp only [opr, ih, Jas, Zs, vsm_sm]; rw [Int.mul_comm (b n) a]
theorem opr_z (n : Nat) : opr m c b n vz = vz := by
 induction n with
 | zero => rfl
 | succ n ih => simp only [opr, ih, tXn_z, vsm_z, Yp]
theorem Jco (n k : Nat) (v : Vec) : opr m c b n (tXn m c k v) = tXn m c k (opr m c b n v) := by
 induction n with
 | zero => simp [opr, tXn_z]
 | succ n ih => simp only [opr, ih, Zy, Jas, Jce]; rw [Nat.add_comm n k]
theorem YL (d : Vec) (n k : Nat) (v : Vec) : opr m c b n (opr m c d k v) = opr m c d k (opr m c b n v) := by
 induction n with
 | zero => simp only [opr, opr_z]
 | succ n ih => simp only [opr, ih, Jcp, opr_sm, Jco]
theorem Ja2 (d : Vec) (n : Nat) (v : Vec) : opr m c (Jp b d) n v = Jp (opr m c b n v) (opr m c d n v) := by
 induction n with
 | zero => simp [opr, Yp]
 | succ n ih => simp only [opr, ih]; funext i; simp only [Jp, vsm]; grind
end
def vei (k : Nat) : Vec := fun i => if i = k then 1 else 0
theorem Jat {m : Nat} {c : Vec} : ∀ {k : Nat}, k < m -> tXn m c k e0 = vei k
 | 0, _ => rfl
 | k + 1, h => by
  have ih : tXn m c k e0 = vei k := Jat (by omega); simp only [tXn, ih]; funext i; simp only [tX, vei]; split
  .rw [if_neg (show ¬ m - 1 = k by omega)]; by_cases h0 : i = 0
   .subst h0; simp
   .simp only [h0, if_false]; by_cases h1 : i = k + 1
    .subst h1; simp
    .rw [if_neg (by omega), if_neg h1]; simp
  .rw [if_neg (by omega)]
theorem Ja3 {m : Nat} {c a : Vec} : ∀ {n : Nat}, n <= m -> ∀ i, opr m c a n e0 i = if i < n then a i else 0
  | 0, _, i => by simp [opr, vz]
  | n + 1, h, i => by
    simp only [opr, Jp, vsm]
    rw [Ja3 (n := n) (by omega) i, Jat (by omega)]
    simp only [vei]
    by_cases h1 : i = n
    . subst h1; simp
    . by_cases h2 : i < n
      . simp [h2, h1, show i < n + 1 by omega]
      . simp [h2, h1, show ¬ i < n + 1 by omega]
def Sup (m : Nat) (v : Vec) : Prop := ∀ i, m <= i -> v i = 0
theorem YK {m : Nat} {c a : Vec} (h : Sup m a) : opr m c a m e0 = a := by
 funext i; rw [Ja3 (Nat.le_refl m)]; split
 .rfl
 .exact (h i (by omega)).symm
theorem Sup.z {m : Nat} : Sup m vz := fun _ _ => rfl
theorem Sup.tX {m : Nat} {c v : Vec} : Sup m (tX m c v) := fun i h => by simp [Go.Proofs.Ytfeeapdpahcanaa.tX, show ¬ i < m by omega]
theorem Sup.add {m : Nat} {u v : Vec} (hu : Sup m u) (hv : Sup m v) : Sup m (Jp u v) := fun i h => by simp [Jp, hu i h, hv i h]
theorem Sup.sm {m : Nat} {a : Int} {v : Vec} (hv : Sup m v) : Sup m (vsm a v) := fun i h => by simp [vsm, hv i h]
theorem Sup.tXn {m : Nat} {c v : Vec} (hv : Sup m v) : ∀ n, Sup m (tXn m c n v)
 | 0 => hv
 | _ + 1 => Sup.tX
theorem Sup.opr {m : Nat} {c b v : Vec} (hv : Sup m v) : ∀ n, Sup m (opr m c b n v)
 | 0 => Sup.z
 | n + 1 => (Sup.opr hv n).add (hv.tXn n).sm
theorem Qt {m : Nat} {c a b : Vec} (ha : Sup m a) (hb : Sup m b) : JN m c a b = JN m c b a := by
 unfold JN
 calc opr m c b m a = opr m c b m (opr m c a m e0) := by rw [YK ha]
  _ = opr m c a m (opr m c b m e0) := YL ..
  _ = opr m c a m b := by rw [YK hb]
theorem Y0 {m : Nat} {c a b d : Vec} (ha : Sup m a) (hb : Sup m b) (hd : Sup m d) : JN m c (JN m c a b) d = JN m c a (JN m c b d) := by
 rw [Qt (a := a) (b := JN m c b d) ha (Sup.opr hb m)]; show opr m c d m (opr m c b m a) = opr m c a m (opr m c d m b); rw [<- YL m c d a m m b]; show opr m c d m (JN m c a b) = opr m c d m (JN m c b a); rw [Qt ha hb]
theorem Jan {m : Nat} {c a b d : Vec} : JN m c a (Jp b d) = Jp (JN m c a b) (JN m c a d) := Ja2 ..
theorem Jam {m : Nat} {c a : Vec} (hm : 0 < m) : JN m c a e0 = a := by
 have key : ∀ n, 0 < n -> opr m c e0 n a = a := by
  intro n
  induction n with
  | zero => intro h; omega
  | succ n ih =>
   intro _; rcases Nat.eq_zero_or_pos n with h | h
   .subst h; funext i; simp [opr, e0, Jp, vsm, vz, tXn]
   .simp only [opr, ih h]; funext i; simp [e0, Jp, vsm, show n ≠ 0 by omega]
 exact key m hm
def vcg (p : Int) (u v : Vec) : Prop := ∀ i, u i % p = v i % p
section
variable {p : Int} {m : Nat} {c c' u u' v v' b b' : Vec}
theorem vcg.refl (u : Vec) : vcg p u u := fun _ => rfl
theorem vcg.symm (h : vcg p u v) : vcg p v u := fun i => (h i).symm
theorem vcg.trans {w : Vec} (h : vcg p u v) (k : vcg p v w) : vcg p u w := fun i => (h i).trans (k i)
theorem QX {a a' d d' : Int} (h : a % p = a' % p) (k : d % p = d' % p) : (a * d) % p = (a' * d') % p := by
 rw [Int.mul_emod, h, k, <- Int.mul_emod]
theorem Jby {a a' d d' : Int} (h : a % p = a' % p) (k : d % p = d' % p) : (a + d) % p = (a' + d') % p := by
 rw [Int.add_emod, h, k, <- Int.add_emod]
theorem Y4 {a a' d d' : Int} (h : a % p = a' % p) (k : d % p = d' % p) : (a - d) % p = (a' - d') % p := by
 rw [Int.sub_emod, h, k, <- Int.sub_emod]
theorem vcg.add (h : vcg p u u') (k : vcg p v v') : vcg p (Jp u v) (Jp u' v') := fun i => Jby (h i) (k i)
theorem vcg.sm {a a' : Int} (ha : a % p = a' % p) (h : vcg p u u') : vcg p (vsm a u) (vsm a' u') := fun i => QX ha (h i)
theorem vcg.tX (hc : vcg p c c') (h : vcg p u u') : vcg p (tX m c u) (tX m c' u') := fun i => by
 simp only [Go.Proofs.Ytfeeapdpahcanaa.tX]; split
 .split
  .exact Y4 rfl (QX (hc i) (h _))
  .exact Y4 (h _) (QX (hc i) (h _))
 .rfl
theorem vcg.tXn (hc : vcg p c c') (h : vcg p u u') : ∀ n, vcg p (tXn m c n u) (tXn m c' n u')
 | 0 => h
 | n + 1 => vcg.tX hc (vcg.tXn hc h n)
theorem vcg.opr (hc : vcg p c c') (hb : vcg p b b') (h : vcg p u u') : ∀ n, vcg p (opr m c b n u) (opr m c' b' n u')
 | 0 => .refl _
 | n + 1 => (vcg.opr hc hb h n).add (vcg.sm (hb n) (vcg.tXn hc h n))
theorem vcg.mul (hc : vcg p c c') (h : vcg p u u') (hb : vcg p b b') : vcg p (JN m c u b) (JN m c' u' b') := vcg.opr hc hb h m
end
end Go.Proofs.Ytfeeapdpahcanaa
namespace Go.Proofs.Ytfeeapdpahcanaa
def dv (p x : Nat) : Vec := fun i => ((x / p ^ i % p : Nat) : Int)
def vl (p : Nat) : Nat -> Vec -> Int
  | 0, _ => 0
  | n + 1, v => v 0 + (p : Int) * vl p n (fun i => v (i + 1))
def Cn (p n : Nat) (v : Vec) : Prop := ∀ i, i < n -> 0 <= v i /\ v i < p
def nm (p m : Nat) (v : Vec) : Nat := (vl p m (fun i => v i % (p : Int))).toNat
theorem ZP (p x i : Nat) : dv p x (i + 1) = dv p (x / p) i := by
 simp only [dv]; rw [Nat.pow_succ', <- Nat.div_div_eq_div_mul]
theorem Yx (p x : Nat) : dv p x 0 = ((x % p : Nat) : Int) := by simp [dv]
theorem Cn.tl {p n : Nat} {v : Vec} (h : Cn p (n + 1) v) : Cn p n (fun i => v (i + 1)) := fun i hi => h (i + 1) (by omega)
theorem Jao {p : Nat} (hp : 0 < p) : ∀ {n : Nat} {v : Vec}, Cn p n v -> 0 <= vl p n v /\ vl p n v < ((p ^ n : Nat) : Int)
 | 0, v, _ => by simp [vl]
 | n + 1, v, h => by
  have ih := Jao hp h.tl; have h0 := h 0 (by omega); simp only [vl]; have h1 : (p : Int) * vl p n (fun i => v (i + 1)) <= p * (((p ^ n : Nat) : Int) - 1) := Int.mul_le_mul_of_nonneg_left (by omega) (by omega); have h2 : 0 <= (p : Int) * vl p n (fun i => v (i + 1)) := Int.mul_nonneg (by omega) ih.1; have h3 : ((p ^ (n + 1) : Nat) : Int) = p * ((p ^ n : Nat) : Int) := by rw [Nat.pow_succ']; push_cast; rfl
  have h4 : (p : Int) * (((p ^ n : Nat) : Int) - 1) = p * ((p ^ n : Nat) : Int) - p := by rw [Int.mul_sub, Int.mul_one]
  omega
theorem QQ {p : Nat} : ∀ {n : Nat} {u v : Vec}, (∀ i, i < n -> u i = v i) -> vl p n u = vl p n v
 | 0, _, _, _ => rfl
 | n + 1, u, v, h => by simp only [vl]; rw [h 0 (by omega), QQ (n := n) fun i hi => h (i + 1) (by omega)]
theorem vl_dv {p : Nat} (hp : 0 < p) : ∀ {n x : Nat}, x < p ^ n -> vl p n (dv p x) = x
 | 0, x, h => by simp at h; subst h; rfl
 | n + 1, x, h => by
  simp only [vl]; have : (fun i => dv p x (i + 1)) = dv p (x / p) := by funext i; exact ZP p x i
  rw [this, vl_dv hp (n := n) (by rw [Nat.div_lt_iff_lt_mul hp, <- Nat.pow_succ]; exact h), Yx]; have := Nat.mod_add_div x p; have h2 : ((x % p + p * (x / p) : Nat) : Int) = (x : Int) := by rw [this]
  push_cast at h2 ⊢; exact h2
theorem dv_vl {p : Nat} (hp : 0 < p) : ∀ {n : Nat} {v : Vec}, Cn p n v -> ∀ i, i < n -> dv p (vl p n v).toNat i = v i
 | 0, _, _, i, hi => by omega
 | n + 1, v, h, i, hi => by
  have ih := Jao hp h.tl; have h0 := h 0 (by omega); obtain ⟨t, ht⟩ := Int.eq_ofNat_of_zero_le ih.1; obtain ⟨a, ha⟩ := Int.eq_ofNat_of_zero_le h0.1; have hv : (vl p (n + 1) v).toNat = a + p * t := by
   simp only [vl]; rw [ht, ha]; have : (a : Int) + (p : Int) * (t : Int) = ((a + p * t : Nat) : Int) := by push_cast; rfl
   rw [this]; rfl
  have hap : a < p := by have := h0.2; rw [ha] at this; omega
  rw [hv]; cases i with
  | zero => rw [Yx, Nat.add_mul_mod_self_left, Nat.mod_eq_of_lt hap, ha]
  | succ i =>
   rw [ZP]; have h2 : (a + p * t) / p = t := by rw [Nat.add_mul_div_left _ _ hp, Nat.div_eq_of_lt hap, Nat.zero_add]
   have ih2 := dv_vl hp h.tl i (by omega); rw [ht] at ih2; rw [h2]; exact ih2
section
variable {p m : Nat}
theorem md_cn (hp : 0 < p) (v : Vec) (n : Nat) : Cn p n (fun i => v i % (p : Int)) := fun i _ => ⟨Int.emod_nonneg _ (by omega), Int.emod_lt_of_pos _ (by omega)⟩
theorem ZI (hp : 0 < p) (v : Vec) : nm p m v < p ^ m := by
 have := Jao hp (md_cn hp v m); unfold nm; omega
theorem dv_nm (hp : 0 < p) (v : Vec) {i : Nat} (hi : i < m) : dv p (nm p m v) i = v i % (p : Int) := dv_vl hp (md_cn hp v m) i hi
theorem dv_hi {x i : Nat} (hx : x < p ^ m) (hi : m <= i) : dv p x i = 0 := by
 rcases Nat.eq_zero_or_pos p with rfl | hp
 .simp only [dv]; cases m with
  | zero =>
   have : x = 0 := by simpa using hx
   subst this; simp
  | succ m => simp at hx
 .have : x / p ^ i = 0 := Nat.div_eq_of_lt (Nat.lt_of_lt_of_le hx (Nat.pow_le_pow_right hp hi)); simp [dv, this]
theorem J1 {x : Nat} (hx : x < p ^ m) : Sup m (dv p x) := fun i hi => dv_hi hx hi
theorem dv_mod (x i : Nat) : dv p x i % (p : Int) = dv p x i := by
 simp only [dv]; rw [<- Int.natCast_emod, Nat.mod_mod]
theorem ZJ (hp : 0 < p) {x : Nat} (hx : x < p ^ m) : nm p m (dv p x) = x := by
 unfold nm; rw [QQ (v := dv p x) fun i _ => dv_mod x i, vl_dv hp hx]; rfl
theorem nm_cg {u v : Vec} (h : ∀ i, i < m -> u i % (p : Int) = v i % (p : Int)) : nm p m u = nm p m v := by
 unfold nm; rw [QQ h]
theorem Qk {u v : Vec} (h : vcg p u v) : nm p m u = nm p m v := nm_cg fun i _ => h i
theorem Jbo (hp : 0 < p) {v : Vec} (hv : Sup m v) : vcg p (dv p (nm p m v)) v := fun i => by
 rcases Nat.lt_or_ge i m with h | h
 .rw [dv_nm hp v h, Int.emod_emod]
 .rw [dv_hi (ZI hp v) h, hv i h]
end
def J5 (p m x y : Nat) : Nat := nm p m (Jp (dv p x) (dv p y))
def fneg (p m x : Nat) : Nat := nm p m (vsm (-1) (dv p x))
def JS (p m : Nat) (c : Vec) (x y : Nat) : Nat := nm p m (JN m c (dv p x) (dv p y))
section
variable {p m : Nat} {c : Vec}
theorem Jc1 (hp : 0 < p) (x y : Nat) : J5 p m x y < p ^ m := ZI hp _
theorem Jcz (hp : 0 < p) (x : Nat) : fneg p m x < p ^ m := ZI hp _
theorem Jc0 (hp : 0 < p) (x y : Nat) : JS p m c x y < p ^ m := ZI hp _
theorem Yy (hp : 0 < p) {x y : Nat} (hx : x < p ^ m) (hy : y < p ^ m) : vcg p (dv p (J5 p m x y)) (Jp (dv p x) (dv p y)) := Jbo hp ((J1 hx).add (J1 hy))
theorem Jc3 (hp : 0 < p) {x : Nat} (hx : x < p ^ m) : vcg p (dv p (fneg p m x)) (vsm (-1) (dv p x)) := Jbo hp (J1 hx).sm
theorem Jal {a b : Vec} (ha : Sup m a) : Sup m (JN m c a b) := Sup.opr ha m
theorem QL (hp : 0 < p) {x y : Nat} (hx : x < p ^ m) : vcg p (dv p (JS p m c x y)) (JN m c (dv p x) (dv p y)) := Jbo hp (Jal (J1 hx))
theorem Jac (x y : Nat) : J5 p m x y = J5 p m y x := by unfold J5; rw [Z0]
theorem Zj (hp : 0 < p) {x y z : Nat} (hx : x < p ^ m) (hy : y < p ^ m) (hz : z < p ^ m) : J5 p m (J5 p m x y) z = J5 p m x (J5 p m y z) := by
 show nm p m (Jp (dv p (J5 p m x y)) (dv p z)) = nm p m (Jp (dv p x) (dv p (J5 p m y z))); rw [Qk ((Yy hp hx hy).add (vcg.refl _)), Qk ((vcg.refl (p := p) (dv p x)).add (Yy hp hy hz)), Y1]
theorem dv_z (p : Nat) : dv p 0 = vz := by funext i; simp [dv, vz]
theorem Jab (hp : 0 < p) {x : Nat} (hx : x < p ^ m) : J5 p m x 0 = x := by unfold J5; rw [dv_z, Yp, ZJ hp hx]
theorem Jbj (hp : 0 < p) {x : Nat} (hx : x < p ^ m) : J5 p m x (fneg p m x) = 0 := by
 show nm p m (Jp (dv p x) (dv p (fneg p m x))) = 0; rw [Qk ((vcg.refl (p := p) (dv p x)).add (Jc3 hp hx))]; have : Jp (dv p x) (vsm (-1) (dv p x)) = vz := by funext i; simp only [Jp, vsm, vz]; omega
 rw [this, <- dv_z p, ZJ hp (by exact Nat.pow_pos hp)]
theorem Yj {x y : Nat} (hx : x < p ^ m) (hy : y < p ^ m) : JS p m c x y = JS p m c y x := by
 unfold JS; rw [Qt (J1 hx) (J1 hy)]
theorem Zh (hp : 0 < p) {x y z : Nat} (hx : x < p ^ m) (hy : y < p ^ m) (hz : z < p ^ m) : JS p m c (JS p m c x y) z = JS p m c x (JS p m c y z) := by
 show nm p m (JN m c (dv p (JS p m c x y)) (dv p z)) = nm p m (JN m c (dv p x) (dv p (JS p m c y z))); rw [Qk (vcg.mul (vcg.refl c) (QL hp hx) (vcg.refl _)), Qk (vcg.mul (vcg.refl c) (vcg.refl (dv p x)) (QL hp hy)), Y0 (J1 hx) (J1 hy) (J1 hz)]
theorem dv_one (hp : 2 <= p) : dv p 1 = e0 := by
 funext i; cases i with
 | zero => rw [Yx, Nat.mod_eq_of_lt (by omega)]; rfl
 | succ i =>
  have : (1 : Nat) / p ^ (i + 1) = 0 := Nat.div_eq_of_lt (Nat.one_lt_pow (by omega) (by omega)); simp [dv, this, e0]
theorem Jbg (hp : 2 <= p) (hm : 0 < m) {x : Nat} (hx : x < p ^ m) : JS p m c x 1 = x := by
 unfold JS; rw [dv_one hp, Jam hm, ZJ (by omega) hx]
theorem Z9 (hp : 0 < p) {x : Nat} (hx : x < p ^ m) : JS p m c x 0 = 0 := by
 rw [Yj hx (Nat.pow_pos hp)]; unfold JS; rw [dv_z]; have : JN m c vz (dv p x) = vz := opr_z ..; rw [this, <- dv_z p, ZJ hp (Nat.pow_pos hp)]
theorem Jbh (hp : 0 < p) {x y z : Nat} (hx : x < p ^ m) (hy : y < p ^ m) (hz : z < p ^ m) : JS p m c x (J5 p m y z) = J5 p m (JS p m c x y) (JS p m c x z) := by
 show nm p m (JN m c (dv p x) (dv p (J5 p m y z))) = nm p m (Jp (dv p (JS p m c x y)) (dv p (JS p m c x z))); rw [Qk (vcg.mul (vcg.refl c) (vcg.refl (dv p x)) (Yy hp hy hz)), Qk ((QL (c := c) hp hx).add (QL hp hx)), Jan]
end
structure CR (q : Nat) (A M : Nat -> Nat -> Nat) : Prop where
  q2 : 2 <= q
  Al : ∀ x y, A x y < q
  Ml : ∀ x y, M x y < q
  Ac : ∀ x y, A x y = A y x
  Aa : ∀ {x y z}, x < q -> y < q -> z < q -> A (A x y) z = A x (A y z)
  Az : ∀ {x}, x < q -> A x 0 = x
  An : ∀ {x}, x < q -> ∃ y, y < q /\ A x y = 0
  Mc : ∀ {x y}, x < q -> y < q -> M x y = M y x
  Ma : ∀ {x y z}, x < q -> y < q -> z < q -> M (M x y) z = M x (M y z)
  M1 : ∀ {x}, x < q -> M x 1 = x
  M0 : ∀ {x}, x < q -> M x 0 = 0
  Md : ∀ {x y z}, x < q -> y < q -> z < q -> M x (A y z) = A (M x y) (M x z)
theorem CR.mk' {p m : Nat} (c : Vec) (hp : 2 <= p) (hm : 0 < m) : CR (p ^ m) (J5 p m) (JS p m c) where
 q2 := Nat.le_trans hp (by have := Nat.pow_le_pow_right (n := p) (by omega) hm; simpa using this)
 Al := Jc1 (by omega)
 Ml := Jc0 (by omega)
 Ac := Jac
 Aa := Zj (by omega)
 Az := Jab (by omega)
 An := fun {x} hx => ⟨fneg p m x, Jcz (by omega) x, Jbj (by omega) hx⟩
 Mc := Yj
 Ma := Zh (by omega)
 M1 := Jbg hp hm
 M0 := Z9 (by omega)
 Md := Jbh (by omega)
end Go.Proofs.Ytfeeapdpahcanaa
namespace Go.Proofs.Ytfeeapdpahcanaa
def pw (M : Nat -> Nat -> Nat) (g : Nat) : Nat -> Nat
  | 0 => 1
  | k + 1 => M (pw M g k) g
section
variable {q : Nat} {A M : Nat -> Nat -> Nat} (R : CR q A M)
include R
namespace CR
theorem one_lt : 1 < q := R.q2
theorem pos : 0 < q := by have := R.q2; omega
theorem pw_lt (g : Nat) : ∀ k, pw M g k < q
 | 0 => R.one_lt
 | k + 1 => R.Ml _ _
theorem pw_add {g : Nat} (hg : g < q) (i : Nat) : ∀ j, pw M g (i + j) = M (pw M g i) (pw M g j)
 | 0 => (R.M1 (R.pw_lt g i)).symm
 | j + 1 => by
  show M (pw M g (i + j)) g = M (pw M g i) (M (pw M g j) g); rw [pw_add hg i j, R.Ma (R.pw_lt g i) (R.pw_lt g j) hg]
theorem pw_pw {g : Nat} (hg : g < q) (i : Nat) : ∀ j, pw M (pw M g i) j = pw M g (i * j)
 | 0 => rfl
 | j + 1 => by
  show M (pw M (pw M g i) j) (pw M g i) = _; rw [pw_pw hg i j, <- R.pw_add hg]; rfl
theorem one_pw : ∀ j, pw M 1 j = 1
 | 0 => rfl
 | j + 1 => by show M (pw M 1 j) 1 = 1; rw [one_pw j, R.M1 R.one_lt]
end CR
end
structure Gn (q : Nat) (M : Nat -> Nat -> Nat) (g : Nat) : Prop where
  lt : g < q
  one : pw M g (q - 1) = 1
  no : ∀ k, 0 < k -> k < q - 1 -> pw M g k ≠ 1
namespace Gn
variable {q g : Nat} {A M : Nat -> Nat -> Nat}
theorem per (G : Gn q M g) (R : CR q A M) (i k : Nat) : pw M g (i + (q - 1) * k) = pw M g i := by
 rw [R.pw_add G.lt, <- R.pw_pw G.lt, G.one, R.one_pw, R.M1 (R.pw_lt g i)]
theorem inj (G : Gn q M g) (R : CR q A M) {i j : Nat} (hij : i < j) (hj : j < q - 1) : pw M g i ≠ pw M g j := fun h => by
 have e1 : M (pw M g i) (pw M g (q - 1 - i)) = 1 := by rw [<- R.pw_add G.lt, show i + (q - 1 - i) = q - 1 by omega, G.one]
 have e2 : M (pw M g j) (pw M g (q - 1 - i)) = pw M g (j - i) := by
  rw [<- R.pw_add G.lt, show j + (q - 1 - i) = (j - i) + (q - 1) * 1 by omega, G.per R]
 rw [h] at e1; exact G.no (j - i) (by omega) (by omega) (e2.symm.trans e1)
open Classical in
noncomputable def lg (q : Nat) (M : Nat -> Nat -> Nat) (g x : Nat) : Nat := if h : ∃ k, k < q - 1 /\ pw M g k = x then Classical.choose h else 0
end Gn
end Go.Proofs.Ytfeeapdpahcanaa
namespace Go.Proofs.Ytfeeapdpahcanaa
structure IsLf (n d : Nat) : Prop where
  two : 2 <= d
  dvd : n % d = 0
  min : ∀ e, 2 <= e -> n % e = 0 -> d <= e
def Jbn : Nat -> Nat -> Nat
  | _, 0 => 1
  | 0, _ + 1 => 0
  | n + 1, k + 1 => Jbn n k + Jbn n (k + 1)
section
variable {q : Nat} {A M : Nat -> Nat -> Nat} (R : CR q A M)
include R
namespace CR
end CR
end
end Go.Proofs.Ytfeeapdpahcanaa
namespace Go.Proofs.Ytfeeapdpahcanaa
def hz (m : Nat) (c b y : Vec) (n : Nat) : Nat -> Vec
  | 0 => vz
  | k + 1 => Jp (tX m c (hz m c b y n k)) (vsm (b (n - 1 - k)) y)
@[reducible] noncomputable def hd0 (l : List Nat) : Nat := List.rec (motive := fun _ => Nat) 0 (fun x _ _ => x) l
@[reducible] noncomputable def tl0 (l : List Nat) : List Nat := List.rec (motive := fun _ => List Nat) [] (fun _ l _ => l) l
noncomputable def go (p a top : Nat) (cs : List Nat) : Nat -> List Nat -> List Nat -> List Nat :=
  List.rec (motive := fun _ => Nat -> List Nat -> List Nat -> List Nat) (fun _ _ _ => [])
    (fun c _ ih prev us ys => ((prev + (p - c) * top + a * hd0 ys) % p) :: ih (hd0 us) (tl0 us) (tl0 ys)) cs
noncomputable def tp (l : List Nat) : Nat -> Nat := List.rec (motive := fun _ => Nat -> Nat) (fun d => d) (fun x _ ih _ => ih x) l
noncomputable def mulL (p : Nat) (cs ys gs : List Nat) : List Nat -> List Nat :=
  List.rec (motive := fun _ => List Nat -> List Nat) (fun acc => acc) (fun g _ ih acc => ih (go p g (tp acc 0) cs 0 acc ys)) gs
noncomputable def az (l : List Nat) : Bool := List.rec (motive := fun _ => Bool) true (fun x _ ih => bif Nat.beq x 0 then ih else false) l
noncomputable def is1 (l : List Nat) : Bool := List.rec (motive := fun _ => Bool) false (fun x t _ => bif Nat.beq x 1 then az t else false) l
noncomputable def run (p : Nat) (cs gs : List Nat) (n : Nat) : List Nat -> Bool :=
  Nat.rec (motive := fun _ => List Nat -> Bool) (fun y => is1 y) (fun _ ih y => bif is1 y then false else ih (mulL p cs y gs y)) n
theorem Jbb (l : List Nat) : hd0 l = l.getD 0 0 := by cases l <;> rfl
theorem Y2 (l : List Nat) (i : Nat) : (tl0 l).getD i 0 = l.getD (i + 1) 0 := by cases l <;> rfl
theorem Yw (p a top c : Nat) (cs : List Nat) (prev : Nat) (us ys : List Nat) : go p a top (c :: cs) prev us ys = ((prev + (p - c) * top + a * hd0 ys) % p) :: go p a top cs (hd0 us) (tl0 us) (tl0 ys) := rfl
theorem Jbc (p a top : Nat) : ∀ (cs : List Nat) (prev : Nat) (us ys : List Nat), (go p a top cs prev us ys).length = cs.length
 | [], _, _, _ => rfl
 | c :: cs, prev, us, ys => by rw [Yw, List.length_cons, Jbc p a top cs, List.length_cons]
theorem go_at (p a top : Nat) : ∀ (cs : List Nat) (prev : Nat) (us ys : List Nat) (i : Nat), i < cs.length -> (go p a top cs prev us ys).getD i 0 = ((if i = 0 then prev else us.getD (i - 1) 0) + (p - cs.getD i 0) * top + a * ys.getD i 0) % p
 | [], _, _, _, i, h => by simp at h
 | c :: cs, prev, us, ys, 0, _ => by rw [Yw, Jbb]; rfl
 | c :: cs, prev, us, ys, i + 1, h => by
  rw [Yw]; show (go p a top cs (hd0 us) (tl0 us) (tl0 ys)).getD i 0 = _; rw [go_at p a top cs _ _ _ i (by simpa using h)]; cases i with
  | zero => rw [if_pos rfl, if_neg (by omega), Jbb, Y2]; rfl
  | succ i => rw [if_neg (by omega), if_neg (by omega), Y2, Y2]; rfl
theorem tp_eq : ∀ (l : List Nat) (d : Nat), 0 < l.length -> tp l d = l.getD (l.length - 1) 0
 | [], _, h => by simp at h
 | [x], d, _ => rfl
 | x :: y :: l, d, _ => by
  show tp (y :: l) x = _; rw [tp_eq (y :: l) x (by simp)]; simp
def Rep (p m : Nat) (L : List Nat) (v : Vec) : Prop := L.length = m /\ ∀ i, i < m -> ((L.getD i 0 : Nat) : Int) = v i % (p : Int)
def hl (m : Nat) (c y : Vec) : List Nat -> Vec -> Vec
  | [], u => u
  | g :: gs, u => hl m c y gs (Jp (tX m c u) (vsm g y))
theorem Rep.step {p m : Nat} {cs us ys : List Nat} {c u y : Vec} (hp : 0 < p) (hm : 0 < m) (hc : Rep p m cs c) (hu : Rep p m us u) (hy : Rep p m ys y) (g : Nat) :
  Rep p m (go p g (tp us 0) cs 0 us ys) (Jp (tX m c u) (vsm g y)) := by
 refine ⟨by rw [Jbc, hc.1], fun i hi => ?_⟩; rw [go_at _ _ _ _ _ _ _ _ (by rw [hc.1]; exact hi), tp_eq _ _ (by rw [hu.1]; exact hm), hu.1]; have h1 := hu.2 (m - 1) (by omega); have h2 := hc.2 i hi; have h3 := hy.2 i hi; have hlt : cs.getD i 0 <= p := by
  have := Int.emod_lt_of_pos (c i) (show (0 : Int) < p by omega); omega
 have e : (((if i = 0 then 0 else us.getD (i - 1) 0) : Nat) : Int) % p = (if i = 0 then (0 : Int) else u (i - 1)) % p := by
  split
  .rfl
  .rw [hu.2 (i - 1) (by omega), Int.emod_emod]
 simp only [Jp, vsm, tX, if_pos hi]; generalize (if i = 0 then 0 else us.getD (i - 1) 0 : Nat) = A at *
 generalize (if i = 0 then (0 : Int) else u (i - 1)) = B at *
 generalize us.getD (m - 1) 0 = T at *
 generalize cs.getD i 0 = C at *
 generalize ys.getD i 0 = Y at *
 have hT : ((T : Nat) : Int) % p = u (m - 1) % p := by rw [h1, Int.emod_emod]
 have hC : ((C : Nat) : Int) % p = c i % p := by rw [h2, Int.emod_emod]
 have hY : ((Y : Nat) : Int) % p = y i % p := by rw [h3, Int.emod_emod]
 obtain ⟨D, hD⟩ : ∃ D, p = C + D := ⟨p - C, by omega⟩
 have hsub : p - C = D := by omega
 rw [hsub]; have hcast : ((A + D * T + g * Y : Nat) : Int) = ((A : Int) - C * T + g * Y) + p * T := by
  have : (p : Int) = C + D := by omega
  rw [this]; push_cast; rw [Int.add_mul]; omega
 rw [Int.natCast_emod, hcast, Int.add_mul_emod_self_left]; exact Jby (Y4 e (QX hC hT)) (QX rfl hY)
theorem Z6 (p : Nat) (cs ys : List Nat) (g : Nat) (gs acc : List Nat) : mulL p cs ys (g :: gs) acc = mulL p cs ys gs (go p g (tp acc 0) cs 0 acc ys) := rfl
theorem Rep.mul {p m : Nat} {cs ys : List Nat} {c y : Vec} (hp : 0 < p) (hm : 0 < m) (hc : Rep p m cs c) (hy : Rep p m ys y) : ∀ {gs us : List Nat} {u : Vec}, Rep p m us u -> Rep p m (mulL p cs ys gs us) (hl m c y gs u)
 | [], _, _, h => h
 | g :: gs, us, u, h => by rw [Z6]; exact Rep.mul hp hm hc hy (Rep.step hp hm hc h hy g)
def rst (p d i : Nat) (l R : Vec) : Vec := fun j => if i <= j + d /\ j < i then (R j - l (j + d - i) * R i) % (p : Int) else R j
def rem (p d : Nat) (l R : Vec) (n : Nat) : Nat -> Vec
  | 0 => R
  | k + 1 => rst p d (n - 1 - k) l (rem p d l R n k)
end Go.Proofs.Ytfeeapdpahcanaa
namespace Go.Proofs.Ytfeeapdpahcanaa
end Go.Proofs.Ytfeeapdpahcanaa
set_option linter.unusedSimpArgs false
namespace Go.Proofs.Ytfeeapdpahcanaa
theorem JT {x : Int} (h : -1000000000000 <= x) (h2 : x <= 1000000000000) : I64 x := ⟨by omega, by omega⟩
end Go.Proofs.Ytfeeapdpahcanaa
namespace Go.Proofs.Ytfeeapdpahcanaa
/-! ### cyclotomic cosets: the contracts -/
theorem Jbd {x : List Bool} {r i : Nat} (hr : r < x.length) (b : Bool) : gb (sb x (r : Int) b) (i : Int) = if i = r then b else gb x (i : Int) := by
  rw [gb_sb (by omega) (by omega) (by omega)]
  by_cases e : i = r
  . rw [if_pos e, if_pos (by omega)]
  . rw [if_neg e, if_neg (by omega)]
theorem Jbe (n : Nat) (i : Int) : gb (List.replicate n false) i = false := by
 unfold gb; rw [List.getD_eq_getElem?_getD, List.getElem?_replicate]; split <;> rfl
theorem Jbm {x : List Bool} {r : Nat} (hr : r < x.length) (h : gb x (r : Int) = false) : (sb x (r : Int) true).count false + 1 = x.count false := by
 unfold gb at h; rw [Int.toNat_natCast, List.getD_eq_getElem?_getD, List.getElem?_eq_getElem hr] at h; have h' : x[r] = false := h; unfold sb; rw [Int.toNat_natCast, List.count_set hr, h']; have : 0 < x.count false := List.count_pos_iff.2 (by rw [<- h']; exact List.getElem_mem hr); simp; omega
theorem Za (a q n : Nat) : (((a : Int) * (q : Int))).tmod (n : Int) = ((a * q % n : Nat) : Int) := by
 rw [<- Int.natCast_mul]; rfl
theorem bn {b : Bool} (h : (!b) = true) : b = false := by cases b <;> simp_all
theorem bt {b : Bool} (h : (!b) = false) : b = true := by cases b <;> simp_all
section
variable {q N : Nat}
theorem Zb {a : Nat} (ha : a < 300) (hq : q <= 256) : I64 ((a : Int) * (q : Int)) := by
 have : a * q <= 300 * 256 := Nat.mul_le_mul (by omega) hq; rw [<- Int.natCast_mul]; exact JT (by omega) (by omega)
theorem Qo {qq n : Int} {Q : LL × Int -> Prop} (h6 : ¬ (2 <= qq /\ qq <= 256 /\ 1 <= n /\ n <= 65536) -> Q ([], 6)) (h10 : 2 <= qq -> qq <= 256 -> 1 <= n -> n <= 65536 -> Int.gcd qq n ≠ 1 -> Q ([], 10))
  (hb : 2 <= qq -> qq <= 256 -> 1 <= n -> n <= 65536 -> Int.gcd qq n = 1 -> n <= 300) (h : ∀ q N : Nat, qq = q -> n = N -> 2 <= q -> q <= 256 -> 1 <= N -> N <= 300 -> Nat.gcd q N = 1 -> Q (CL q N N, 0)) : JX qq n Q := by
 refine ⟨fun c => h6 (by omega), fun c1 => ⟨fun c => h6 (by omega), fun c2 => ⟨fun c => h6 (by omega), fun c3 => ⟨fun c => h6 (by omega), fun c4 => w_Gcd (by omega) (by omega) (by omega) (by omega) ?_⟩⟩⟩⟩; refine ⟨fun c => absurd rfl c, fun _ => ⟨fun c => h10 (by omega) (by omega) (by omega) (by omega) (by omega), fun c5 => ?_⟩⟩; have hg : Int.gcd qq n = 1 := by omega
 have h300 := hb (by omega) (by omega) (by omega) (by omega) hg; obtain ⟨q, rfl⟩ := Int.eq_ofNat_of_zero_le (show 0 <= qq by omega); obtain ⟨N, rfl⟩ := Int.eq_ofNat_of_zero_le (show 0 <= n by omega); have hc : Nat.gcd q N = 1 := by rwa [Int.gcd_natCast_natCast] at hg
 have hN : 0 < N := by omega
 rw [Int.toNat_natCast]; refine ⟨⟨by omega, by omega, by omega⟩, fun x y z => ∃ i : Nat, z = i /\ i <= N /\ x.length = N /\ y = CL q N i /\ ∀ j : Nat, j < N -> (gb x (j : Int) = true ↔ ∃ k, k < i /\ Cst q N k j), fun _ _ z => ((N : Int) - z).toNat, ⟨0, rfl, by omega, by simp, rfl, fun j hj => ⟨fun c => (by rw [Jbe] at c; cases c), fun ⟨s, hs, _⟩ => by omega⟩⟩, ?_⟩; rintro x _ _ ⟨i, rfl, hi, hx, rfl, hm⟩; refine ⟨fun hlt => ?_, fun hge => ?_⟩
 case refine_2 =>
  have : i = N := by omega
  subst this; exact h q i rfl rfl (by omega) (by omega) (by omega) (by omega) hc
 have hiN : i < N := by omega
 have hCL := YD (q := q) (n := N) i; refine ⟨fun y x' z b1 b2 => x'.length = N /\ y = CL q N (i + 1) /\ ∀ j : Nat, j < N -> (gb x' (j : Int) = true ↔ ∃ k, k < i + 1 /\ Cst q N k j), ?_, fun y x' z b1 b2 ⟨h1, h2, h3⟩ => ⟨JT (by omega) (by omega), ⟨i + 1, by push_cast; rfl, hiN, h1, h2, h3⟩, by show ((N : Int) - ((i : Int) + 1)).toNat < ((N : Int) - (i : Int)).toNat; omega⟩⟩; refine ⟨fun x' l z => ∃ t : Nat, z = itr q N i t /\ l.length = t /\ x'.length = N /\ t + x'.count false <= N /\ (∀ v : Int, v ∈ l ↔ ∃ s, s < t /\ v = itr q N i s) /\ l.Nodup /\ (∀ j : Nat, j < N -> (gb x' (j : Int) = true ↔ (∃ k, k < i /\ Cst q N k j) ∨ ∃ s, s < t /\ itr q N i s = j)) /\ (0 < t -> Ldr q N i), fun x' _ _ => x'.count false, ⟨0, rfl, rfl, hx, ?_, fun v => ?_, List.nodup_nil, fun j hj => ?_, fun c => absurd c (by omega)⟩, ?_⟩
 .have := List.count_le_length (a := false) (l := x); omega
 .exact ⟨fun c => absurd c (by simp), fun ⟨s, hs, _⟩ => by omega⟩
 .rw [hm j hj]; exact ⟨fun c => .inl c, fun c => c.elim id fun ⟨s, hs, _⟩ => by omega⟩
 rintro x' l _ ⟨t, rfl, hl, hx', hct, hml, hnd, hm', hL⟩; have hz := J6 (q := q) hN hiN t; refine ⟨⟨by omega, by omega⟩, fun hg' => ?_, fun hg' => ?_⟩
 .have hf := bn hg'; have hcs := Jbm (x := x') (r := itr q N i t) (by omega) hf; refine ⟨⟨by omega, by omega⟩, by omega, Zb (by omega) (by omega), by omega, ⟨t + 1, Za _ _ _, by rw [List.length_append, hl]; rfl, by rw [Jax]; exact hx', by omega, fun v => ?_, ?_, fun j hj => ?_, fun _ => ?_⟩, by show (sb x' _ true).count false < x'.count false; omega⟩
  .rw [List.mem_append, hml, List.mem_singleton]; constructor
   .rintro (⟨s, hs, e⟩ | e)
    .exact ⟨s, by omega, e⟩
    .exact ⟨t, by omega, e⟩
   .rintro ⟨s, hs, e⟩; by_cases c : s = t
    .subst c; exact .inr e
    .exact .inl ⟨s, by omega, e⟩
  .refine List.nodup_append.2 ⟨hnd, by simp, fun a ha b hb e => ?_⟩; rw [List.mem_singleton] at hb; subst hb; subst e; obtain ⟨s, hs, e⟩ := (hml _).1 ha; have := (hm' _ hz).2 (.inr ⟨s, hs, by omega⟩); rw [hf] at this; cases this
  .rw [Jbd (by omega)]; by_cases e : j = itr q N i t
   .rw [if_pos e]; exact ⟨fun _ => .inr ⟨t, by omega, e.symm⟩, fun _ => rfl⟩
   .rw [if_neg e, hm' j hj]; constructor
    .rintro (c | ⟨s, hs, e⟩)
     .exact .inl c
     .exact .inr ⟨s, by omega, e⟩
    .rintro (c | ⟨s, hs, e'⟩)
     .exact .inl c
     .by_cases c : s = t
      .subst c; exact absurd e'.symm e
      .exact .inr ⟨s, by omega, e'⟩
  .rcases Nat.eq_zero_or_pos t with ht | ht
   .subst ht; intro k hk hr; have := (hm' i hiN).2 (.inl ⟨k, hk, hr⟩); rw [show gb x' (i : Int) = false from hf] at this; cases this
   .exact hL ht
 .have htr := (hm' _ hz).1 (bt hg'); rcases Nat.eq_zero_or_pos t with ht | ht
  .subst ht; have hk : ∃ k, k < i /\ Cst q N k i := htr.elim id fun ⟨s, hs, _⟩ => by omega
   refine ⟨fun c => by omega, fun _ => ⟨hx', ?_, fun j hj => ?_⟩⟩
   .obtain ⟨k, hk, hr⟩ := hk; rw [Jcb fun c => c k hk hr]
   .rw [hm' j hj]; constructor
    .rintro (⟨k, hk, hr⟩ | ⟨s, hs, _⟩)
     .exact ⟨k, by omega, hr⟩
     .omega
    .rintro ⟨k, hk', hr⟩; by_cases c : k = i
     .subst c; obtain ⟨k', h1, h2⟩ := hk; exact .inl ⟨k', h1, h2.trans hr⟩
     .exact .inl ⟨k, by omega, hr⟩
  .have hM := hL ht; have hcl : ∃ s, s < t /\ itr q N i t = itr q N i s := htr.elim (fun ⟨k, hk, hr⟩ => absurd (hr.trans (Cst.symm hc hN hiN ⟨t, rfl⟩)) (hM k hk)) fun ⟨s, hs, e⟩ => ⟨s, hs, e.symm⟩
   refine ⟨fun _ => ⟨by omega, by omega, hx', ?_, fun j hj => ?_⟩, fun c => absurd (by omega) c⟩
   .rw [Jca hM, srt_AL hnd (P := Cst q N i) (m := N) fun v => ?_]
    .rfl
    .rw [hml]; constructor
     .rintro ⟨s, hs, e⟩; exact ⟨itr q N i s, J6 hN hiN s, ⟨s, rfl⟩, e⟩
     .rintro ⟨j, hj, hr, e⟩; obtain ⟨s, hs, e'⟩ := (Qm hcl).1 hr; exact ⟨s, hs, by rw [e, e']⟩
   .rw [hm' j hj]; constructor
    .rintro (⟨k, hk, hr⟩ | ⟨s, hs, e⟩)
     .exact ⟨k, by omega, hr⟩
     .exact ⟨i, by omega, ⟨s, e⟩⟩
    .rintro ⟨k, hk', hr⟩; by_cases c : k = i
     .subst c; exact .inr ((Qm hcl).1 hr)
     .exact .inl ⟨k, by omega, hr⟩
end
end Go.Proofs.Ytfeeapdpahcanaa
namespace Go.Proofs.Ytfeeapdpahcanaa
section
variable {q N : Nat}
end
theorem Jb9 (q N m : Nat) (z : Int) : (gl (CL q N m) z).length <= N := by
 by_cases h : z.toNat < (CL q N m).length
 .obtain ⟨i, _, _, _, e⟩ := ZY (q := q) (n := N) h; have : gl (CL q N m) z = gl (CL q N m) (z.toNat : Int) := by unfold gl; rw [Int.toNat_natCast]
  rw [this, e]; exact YF _ _
 .unfold gl; rw [List.getD_eq_getElem?_getD, List.getElem?_eq_none (by omega)]; simp
end Go.Proofs.Ytfeeapdpahcanaa
namespace Go.Proofs.Ytfeeapdpahcanaa
end Go.Proofs.Ytfeeapdpahcanaa
