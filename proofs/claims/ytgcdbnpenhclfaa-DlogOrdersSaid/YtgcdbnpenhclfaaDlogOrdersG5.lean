/- Contracts of functions of the program, and what they lean on: Fk, Fc, V1, V2, V3, V4, V5, V6, V7, Q1, O1, O2. -/
import Derived.Test.YtgcdbnpenhclfaaDlogOrdersG4
set_option linter.unusedVariables false
namespace Go.Proofs.Ytgcdbnpenhclfaa
def hz (m : Nat) (c b y : Vec) (n : Nat) : Nat -> Vec
  | 0 => vz
  | k + 1 => Jw (tX m c (hz m c b y n k)) (vsm (b (n - 1 - k)) y)
theorem Jis {m : Nat} {c b y : Vec} {n : Nat} : ∀ {k : Nat}, k <= n -> Jw (tXn m c (n - k) (hz m c b y n k)) (opr m c b (n - k) y) = opr m c b n y
 | 0, _ => by simp only [hz, Nat.sub_zero]; rw [Jb7, z_vadd]
 | k + 1, h => by
  have ih := Jis (m := m) (c := c) (b := b) (y := y) (n := n) (k := k) (by omega); obtain ⟨r, hr⟩ : ∃ r, n - k = r + 1 := ⟨n - k - 1, by omega⟩
  rw [show n - (k + 1) = r by omega]; rw [hr] at ih; rw [<- ih]; show Jw (tXn m c r (Jw (tX m c (hz m c b y n k)) (vsm (b (n - 1 - k)) y))) (opr m c b r y) = Jw (tX m c (tXn m c r (hz m c b y n k))) (Jw (opr m c b r y) (vsm (b r) (tXn m c r y))); rw [YF, Y1, Jh0, show n - 1 - k = r by omega, QG, Jah (vsm _ _)]
theorem hz_all (m : Nat) (c b y : Vec) (n : Nat) : hz m c b y n n = opr m c b n y := by
 have := Jis (m := m) (c := c) (b := b) (y := y) (n := n) (k := n) (Nat.le_refl n); rw [Nat.sub_self] at this; rw [<- this]; exact (Yt _).symm
def dgl (p : Nat) : Nat -> Nat -> List Nat
  | 0, _ => []
  | n + 1, x => (x % p) :: dgl p n (x / p)
theorem J3 (p : Nat) : ∀ n x, (dgl p n x).length = n
 | 0, _ => rfl
 | n + 1, x => by simp [dgl, J3 p n]
theorem Zb (p : Nat) : ∀ n x i, i < n -> (((dgl p n x).getD i 0 : Nat) : Int) = dv p x i
 | 0, _, i, h => by omega
 | n + 1, x, 0, _ => by rw [QM]; rfl
 | n + 1, x, i + 1, h => by
  show (((dgl p n (x / p)).getD i 0 : Nat) : Int) = _; rw [Zb p n (x / p) i (by omega), Yf]
@[reducible] noncomputable def hd0 (l : List Nat) : Nat := List.rec (motive := fun _ => Nat) 0 (fun x _ _ => x) l
@[reducible] noncomputable def tl0 (l : List Nat) : List Nat := List.rec (motive := fun _ => List Nat) [] (fun _ l _ => l) l
noncomputable def go (p a top : Nat) (cs : List Nat) : Nat -> List Nat -> List Nat -> List Nat :=
  List.rec (motive := fun _ => Nat -> List Nat -> List Nat -> List Nat) (fun _ _ _ => [])
    (fun c _ ih prev us ys => ((prev + (p - c) * top + a * hd0 ys) % p) :: ih (hd0 us) (tl0 us) (tl0 ys)) cs
noncomputable def tp (l : List Nat) : Nat -> Nat := List.rec (motive := fun _ => Nat -> Nat) (fun d => d) (fun x _ ih _ => ih x) l
noncomputable def Jd6 (p : Nat) (cs ys gs : List Nat) : List Nat -> List Nat :=
  List.rec (motive := fun _ => List Nat -> List Nat) (fun acc => acc) (fun g _ ih acc => ih (go p g (tp acc 0) cs 0 acc ys)) gs
noncomputable def az (l : List Nat) : Bool := List.rec (motive := fun _ => Bool) true (fun x _ ih => bif Nat.beq x 0 then ih else false) l
noncomputable def is1 (l : List Nat) : Bool := List.rec (motive := fun _ => Bool) false (fun x t _ => bif Nat.beq x 1 then az t else false) l
noncomputable def run (p : Nat) (cs gs : List Nat) (n : Nat) : List Nat -> Bool :=
  Nat.rec (motive := fun _ => List Nat -> Bool) (fun y => is1 y) (fun _ ih y => bif is1 y then false else ih (Jd6 p cs y gs y)) n
noncomputable def Jca (p c : Nat) (al : List Nat) : List Nat -> List Nat :=
  List.rec (motive := fun _ => List Nat -> List Nat) (fun bs => bs) (fun a _ ih bs => ((hd0 bs + (p - a) * c) % p) :: ih (tl0 bs)) al
noncomputable def dvg (p : Nat) (low : List Nat) (k : Nat) : List Nat -> Bool :=
  Nat.rec (motive := fun _ => List Nat -> Bool) (fun r => az r) (fun _ ih r => ih (Jca p (hd0 r) low (tl0 r))) k
noncomputable def nob (f : Nat -> Bool) (n : Nat) : Bool := Nat.rec (motive := fun _ => Bool) true (fun i ih => bif f i then false else ih) n
noncomputable def irrB (p m : Nat) (ml : List Nat) : Bool :=
  nob (fun d => !nob (fun w => dvg p (dgl p (d + 1) w).reverse (m - d) (1 :: ml.reverse)) (p ^ (d + 1))) (m / 2)
noncomputable def cand (p c : Nat) : List Nat := bif Nat.blt c p then [c] else bif Nat.blt c (p + p * p) then [(c - p) / p, (c - p) % p] else [(c - p - p * p) / (p * p), (c - p - p * p) / p % p, (c - p - p * p) % p]
noncomputable def gen1 (p m : Nat) (cs gs : List Nat) : Bool := run p cs gs (p ^ m - 2) (Jd6 p cs (dgl p m 1) gs (dgl p m 1))
noncomputable def Jec (p m : Nat) (cs : List Nat) : Bool := !nob (fun c => gen1 p m cs (cand p (p + p * p + p * p * p - 1 - c))) (p + p * p + p * p * p)
noncomputable def chk (p m lo n : Nat) : Bool := nob (fun v => bif irrB p m (dgl p m (lo + v)) then !Jec p m (dgl p m (lo + v)) else false) n

theorem Jbl (l : List Nat) : hd0 l = l.getD 0 0 := by cases l <;> rfl
theorem ZG (l : List Nat) (i : Nat) : (tl0 l).getD i 0 = l.getD (i + 1) 0 := by cases l <;> rfl
theorem Jjz (l : List Nat) : (tl0 l).length = l.length - 1 := by cases l <;> simp [tl0]
theorem Jbm (p a top c : Nat) (cs : List Nat) (prev : Nat) (us ys : List Nat) : go p a top (c :: cs) prev us ys = ((prev + (p - c) * top + a * hd0 ys) % p) :: go p a top cs (hd0 us) (tl0 us) (tl0 ys) := rfl
theorem Jiu (p a top : Nat) : ∀ (cs : List Nat) (prev : Nat) (us ys : List Nat), (go p a top cs prev us ys).length = cs.length
 | [], _, _, _ => rfl
 | c :: cs, prev, us, ys => by rw [Jbm, List.length_cons, Jiu p a top cs, List.length_cons]
theorem go_at (p a top : Nat) : ∀ (cs : List Nat) (prev : Nat) (us ys : List Nat) (i : Nat), i < cs.length -> (go p a top cs prev us ys).getD i 0 = ((if i = 0 then prev else us.getD (i - 1) 0) + (p - cs.getD i 0) * top + a * ys.getD i 0) % p
 | [], _, _, _, i, h => by simp at h
 | c :: cs, prev, us, ys, 0, _ => by rw [Jbm, Jbl]; rfl
 | c :: cs, prev, us, ys, i + 1, h => by
  rw [Jbm]; show (go p a top cs (hd0 us) (tl0 us) (tl0 ys)).getD i 0 = _; rw [go_at p a top cs _ _ _ i (by simpa using h)]; cases i with
  | zero => rw [if_pos rfl, if_neg (by omega), Jbl, ZG]; rfl
  | succ i => rw [if_neg (by omega), if_neg (by omega), ZG, ZG]; rfl
theorem tp_eq : ∀ (l : List Nat) (d : Nat), 0 < l.length -> tp l d = l.getD (l.length - 1) 0
 | [], _, h => by simp at h
 | [x], d, _ => rfl
 | x :: y :: l, d, _ => by
  show tp (y :: l) x = _; rw [tp_eq (y :: l) x (by simp)]; simp
def Rep (p m : Nat) (L : List Nat) (v : Vec) : Prop := L.length = m /\ ∀ i, i < m -> ((L.getD i 0 : Nat) : Int) = v i % (p : Int)
def hl (m : Nat) (c y : Vec) : List Nat -> Vec -> Vec
  | [], u => u
  | g :: gs, u => hl m c y gs (Jw (tX m c u) (vsm g y))
theorem Rep.step {p m : Nat} {cs us ys : List Nat} {c u y : Vec} (hp : 0 < p) (hm : 0 < m) (hc : Rep p m cs c) (hu : Rep p m us u) (hy : Rep p m ys y) (g : Nat) :
  Rep p m (go p g (tp us 0) cs 0 us ys) (Jw (tX m c u) (vsm g y)) := by
 refine ⟨by rw [Jiu, hc.1], fun i hi => ?_⟩; rw [go_at _ _ _ _ _ _ _ _ (by rw [hc.1]; exact hi), tp_eq _ _ (by rw [hu.1]; exact hm), hu.1]; have h1 := hu.2 (m - 1) (by omega); have h2 := hc.2 i hi; have h3 := hy.2 i hi; have hlt : cs.getD i 0 <= p := by
  have := Int.emod_lt_of_pos (c i) (show (0 : Int) < p by omega); omega
 have e : (((if i = 0 then 0 else us.getD (i - 1) 0) : Nat) : Int) % p = (if i = 0 then (0 : Int) else u (i - 1)) % p := by
  split
  .rfl
  .rw [hu.2 (i - 1) (by omega), Int.emod_emod]
 simp only [Jw, vsm, tX, if_pos hi]; generalize (if i = 0 then 0 else us.getD (i - 1) 0 : Nat) = A at *
 generalize (if i = 0 then (0 : Int) else u (i - 1)) = B at *
 generalize us.getD (m - 1) 0 = T at *
 generalize cs.getD i 0 = C at *
 generalize ys.getD i 0 = Y at *
 have hT : ((T : Nat) : Int) % p = u (m - 1) % p := by rw [h1, Int.emod_emod]
 have hC : ((C : Nat) : Int) % p = c i % p := by rw [h2, Int.emod_emod]
 have hY : ((Y : Nat) : Int) % p = y i % p := by rw [h3, Int.emod_emod]
 obtain ⟨D, hD⟩ : ∃ D, p = C + D := ⟨p - C, by omega⟩
 have hsub : p - C = D := by omega
 rw [hsub]; have hcast : ((A + D * T + g * Y : Nat) : Int) = ((A : Int) - C * T + g * Y) + p * T := by
  have : (p : Int) = C + D := by omega
  rw [this]; push_cast; rw [Int.add_mul]; omega
 rw [Int.natCast_emod, hcast, Int.add_mul_emod_self_left]; exact Zd (Jdr e (Y6 hC hT)) (Y6 rfl hY)
theorem Jgn (p : Nat) (cs ys : List Nat) (g : Nat) (gs acc : List Nat) : Jd6 p cs ys (g :: gs) acc = Jd6 p cs ys gs (go p g (tp acc 0) cs 0 acc ys) := rfl
theorem Rep.mul {p m : Nat} {cs ys : List Nat} {c y : Vec} (hp : 0 < p) (hm : 0 < m) (hc : Rep p m cs c) (hy : Rep p m ys y) : ∀ {gs us : List Nat} {u : Vec}, Rep p m us u -> Rep p m (Jd6 p cs ys gs us) (hl m c y gs u)
 | [], _, _, h => h
 | g :: gs, us, u, h => by rw [Jgn]; exact Rep.mul hp hm hc hy (Rep.step hp hm hc h hy g)
theorem Jd9 {m : Nat} {c y : Vec} (hy : Sup m y) : ∀ {gs : List Nat} {u : Vec}, Sup m u -> Sup m (hl m c y gs u)
 | [], _, h => h
 | g :: gs, u, h => Jd9 (gs := gs) (u := Jw (tX m c u) (vsm g y)) hy (Sup.add Sup.tX hy.sm)
theorem Jit {m : Nat} {c y : Vec} (hy : Sup m y) : ∀ {gs : List Nat} {U : Vec}, hl m c y gs (opr m c y m U) = opr m c y m (hl m c e0 gs U)
  | [], _ => rfl
  | g :: gs, U => by
    show hl m c y gs (Jw (tX m c (opr m c y m U)) (vsm g y)) = opr m c y m (hl m c e0 gs (Jw (tX m c U) (vsm g e0)))
    rw [<- Jit hy, Jfi, Jif, QV hy]
    have := Jfh m c y m 1 U
    rw [show tXn m c 1 U = tX m c U from rfl, show tXn m c 1 (opr m c y m U) = tX m c (opr m c y m U) from rfl] at this
    rw [this]
theorem Jbo {m : Nat} (hm : 0 < m) : Sup m e0 := fun i hi => by simp [e0, show i ≠ 0 by omega]
theorem hl_mul {m : Nat} {c y : Vec} (hm : 0 < m) (hy : Sup m y) (gs : List Nat) : hl m c y gs y = Qi m c y (hl m c e0 gs e0) := by
 rw [Q9 hy (Jd9 (Jbo hm) (Jbo hm))]; show _ = opr m c y m (hl m c e0 gs e0); rw [<- Jit hy, QV hy]
theorem Jjt {p m x : Nat} : Rep p m (dgl p m x) (dv p x) := ⟨J3 p m x, fun i hi => by rw [Zb p m x i hi, Yw]⟩
theorem Rep.cg {p m : Nat} {L : List Nat} {u v : Vec} (h : Rep p m L u) (hv : ∀ i, i < m -> u i % (p : Int) = v i % (p : Int)) : Rep p m L v := ⟨h.1, fun i hi => by rw [h.2 i hi, hv i hi]⟩
theorem Jkq (x : Nat) (l : List Nat) : az (x :: l) = bif Nat.beq x 0 then az l else false := rfl
theorem Jbt : ∀ l : List Nat, az l = true ↔ ∀ i, i < l.length -> l.getD i 0 = 0
 | [] => ⟨fun _ i h => by simp at h, fun _ => rfl⟩
 | x :: l => by
  rw [Jkq]; cases hx : Nat.beq x 0 with
  | true =>
   have := Nat.eq_of_beq_eq_true hx; subst this; rw [show (bif true then az l else false) = az l from rfl, Jbt l]; constructor
   .intro h i hi; cases i with
    | zero => rfl
    | succ i => exact h i (by simpa using hi)
   .intro h i hi; exact h (i + 1) (by simpa using hi)
  | false =>
   rw [show (bif false then az l else false) = false from rfl]; constructor
   .intro h; cases h
   .intro h; have := h 0 (by simp); simp only [List.getD_cons_zero] at this; subst this; cases hx
theorem Jfp {p m x : Nat} {L : List Nat} (hp : 2 <= p) (hm : 0 < m) (hx : x < p ^ m) (h : Rep p m L (Go.Proofs.Ytgcdbnpenhclfaa.dv p x)) : is1 L = true ↔ x = 1 := by
 obtain ⟨a, l, rfl⟩ : ∃ a l, L = a :: l := by
  cases L with
  | nil => have := h.1; simp at this; omega
  | cons a l => exact ⟨a, l, rfl⟩
 have hlen : l.length + 1 = m := h.1; have h0 := h.2 0 hm; have e : is1 (a :: l) = bif Nat.beq a 1 then az l else false := rfl; rw [e]; constructor
 .intro hb; cases ha : Nat.beq a 1 with
  | false => rw [ha] at hb; cases hb
  | true =>
   rw [ha] at hb; have hz := (Jbt l).1 hb; have ha1 := Nat.eq_of_beq_eq_true ha; subst ha1; rw [<- Ys (p := p) (m := m) (by omega) hx, <- Ys (p := p) (m := m) (x := 1) (by omega) (Nat.one_lt_pow (by omega) (by omega))]; refine Jin fun i hi => ?_; rw [Jbp hp, Yw, <- Yw, <- h.2 i hi]; cases i with
   | zero =>
    show (1 : Int) = e0 0 % p; simp only [e0, if_pos]; exact (Int.emod_eq_of_lt (by omega) (by omega)).symm
   | succ i =>
    show ((l.getD i 0 : Nat) : Int) = e0 (i + 1) % p; rw [hz i (by omega)]; simp [e0]
 .intro hx1; subst hx1; have ha : a = 1 := by
   have : ((a : Nat) : Int) = Go.Proofs.Ytgcdbnpenhclfaa.dv p 1 0 % p := h0; rw [Yw, Jbp hp] at this; simp [e0] at this; omega
  subst ha; show az l = true; refine (Jbt l).2 fun i hi => ?_; have : ((l.getD i 0 : Nat) : Int) = Go.Proofs.Ytgcdbnpenhclfaa.dv p 1 (i + 1) % p := h.2 (i + 1) (by omega); rw [Yw, Jbp hp] at this; simp only [e0] at this; rw [if_neg (by omega)] at this; exact Int.ofNat_eq_zero.1 this
def gel (p m : Nat) (c : Vec) (gs : List Nat) : Nat := nm p m (hl m c e0 gs e0)
theorem Jdk {p m x : Nat} {cs L gs : List Nat} {c : Vec} (hp : 2 <= p) (hm : 0 < m) (hx : x < p ^ m) (hc : Rep p m cs c) (h : Rep p m L (Go.Proofs.Ytgcdbnpenhclfaa.dv p x)) : Rep p m (Jd6 p cs L gs L) (Go.Proofs.Ytgcdbnpenhclfaa.dv p (Js p m c x (gel p m c gs))) := by
 have h1 := Rep.mul (gs := gs) (by omega) hm hc h h; rw [hl_mul hm (Qe hx)] at h1; refine h1.cg fun i hi => ?_; have hs := Jd9 (c := c) (gs := gs) (Jbo hm) (Jbo hm); have e1 := YI (p := p) (m := m) (c := c) (by omega) hx (y := gel p m c gs); have e2 := vcg.mul (m := m) (vcg.refl (p := p) c) (vcg.refl (Go.Proofs.Ytgcdbnpenhclfaa.dv p x)) (Jc7 (p := p) (m := m) (by omega) hs); exact ((e1.trans e2) i).symm
theorem Jh4 (p : Nat) (cs gs : List Nat) (n : Nat) (y : List Nat) : run p cs gs (n + 1) y = bif is1 y then false else run p cs gs n (Jd6 p cs y gs y) := rfl
theorem Jh5 {p m : Nat} {cs gs : List Nat} {c : Vec} (hp : 2 <= p) (hm : 0 < m) (hc : Rep p m cs c) : ∀ {n : Nat} {L : List Nat} {x : Nat}, x < p ^ m -> Rep p m L (Go.Proofs.Ytgcdbnpenhclfaa.dv p x) -> run p cs gs n L = true ->
  (∀ k, k < n -> Js p m c x (pw (Js p m c) (gel p m c gs) k) ≠ 1) /\ Js p m c x (pw (Js p m c) (gel p m c gs) n) = 1
 | 0, L, x, hx, h, hr => by
  refine ⟨fun k hk => by omega, ?_⟩; show Js p m c x 1 = 1; rw [ZW hp hm hx]; exact (Jfp hp hm hx h).1 hr
 | n + 1, L, x, hx, h, hr => by
  rw [Jh4] at hr; cases h1 : is1 L with
  | true => rw [h1] at hr; cases hr
  | false =>
   rw [h1] at hr; have R := Je1 (p := p) (m := m) c hp hm; have hg : gel p m c gs < p ^ m := Yr (by omega) _; have ih := Jh5 hp hm hc (Jfs (by omega) x _) (Jdk (gs := gs) hp hm hx hc h) hr; have e : ∀ k, Js p m c (Js p m c x (gel p m c gs)) (pw (Js p m c) (gel p m c gs) k) = Js p m c x (pw (Js p m c) (gel p m c gs) (k + 1)) := fun k => by
    rw [R.Ma hx hg (R.pw_lt _ k), R.Mc hg (R.pw_lt _ k)]; rfl
   refine ⟨fun k hk => ?_, by rw [<- e]; exact ih.2⟩; cases k with
   | zero =>
    show Js p m c x 1 ≠ 1; rw [ZW hp hm hx]; intro hx1; rw [(Jfp hp hm hx h).2 hx1] at h1; cases h1
   | succ k => rw [<- e]; exact ih.1 k (by omega)
theorem Jkk {p m : Nat} {cs gs : List Nat} {c : Vec} (hp : 2 <= p) (hm : 0 < m) (hc : Rep p m cs c) (h : gen1 p m cs gs = true) : Gn (p ^ m) (Js p m c) (gel p m c gs) := by
 have R := Je1 (p := p) (m := m) c hp hm; have hg : gel p m c gs < p ^ m := Yr (by omega) _; have h1 := Jdk (gs := gs) hp hm R.one_lt hc Jjt; rw [R.I1 hg] at h1; obtain ⟨h2, h3⟩ := Jh5 hp hm hc hg h1 h; have hq := R.q2; have e : ∀ k, Js p m c (gel p m c gs) (pw (Js p m c) (gel p m c gs) k) = pw (Js p m c) (gel p m c gs) (k + 1) := fun k => R.Mc hg (R.pw_lt _ k); refine ⟨hg, ?_, fun k h0 hk => ?_⟩
 .rw [show p ^ m - 1 = (p ^ m - 2) + 1 by omega, <- e]; exact h3
 .rw [show k = (k - 1) + 1 by omega, <- e]; exact h2 (k - 1) (by omega)
theorem Jim (f : Nat -> Bool) (n : Nat) : nob f (n + 1) = bif f n then false else nob f n := rfl
theorem Yc (f : Nat -> Bool) : ∀ n, nob f n = true ↔ ∀ i, i < n -> f i = false
 | 0 => ⟨fun _ i h => by omega, fun _ => rfl⟩
 | n + 1 => by
  rw [Jim]; cases h : f n with
  | true =>
   refine ⟨fun h' => ?_, fun h' => ?_⟩
   .cases h'
   .rw [h' n (by omega)] at h; cases h
  | false =>
   show nob f n = true ↔ _; rw [Yc f n]; refine ⟨fun h' i hi => ?_, fun h' i hi => h' i (by omega)⟩; rcases Nat.lt_or_ge i n with h1 | h1
   .exact h' i h1
   .rw [show i = n by omega]; exact h
theorem Jgm (f : Nat -> Bool) (n : Nat) (h : nob f n = false) : ∃ i, i < n /\ f i = true := by
 have hn : ¬ ∀ i, i < n -> f i = false := fun h' => by rw [(Yc f n).2 h'] at h; cases h
 have := Classical.not_forall.1 hn; obtain ⟨i, hi⟩ := this; have h2 := Classical.not_imp.1 hi; exact ⟨i, h2.1, by cases hf : f i with | true => rfl | false => exact absurd hf h2.2⟩
theorem Jfr {p m : Nat} {cs : List Nat} {c : Vec} (hp : 2 <= p) (hm : 0 < m) (hc : Rep p m cs c) (h : Jec p m cs = true) : ∃ g, Gn (p ^ m) (Js p m c) g := by
 unfold Jec at h; obtain ⟨i, _, hi⟩ := Jgm _ _ (by simpa using h); exact ⟨_, Jkk hp hm hc hi⟩
def rst (p d i : Nat) (l R : Vec) : Vec := fun j => if i <= j + d /\ j < i then (R j - l (j + d - i) * R i) % (p : Int) else R j
def rem (p d : Nat) (l R : Vec) (n : Nat) : Nat -> Vec
  | 0 => R
  | k + 1 => rst p d (n - 1 - k) l (rem p d l R n k)
def Dvd (p d : Nat) (l R : Vec) (n : Nat) : Prop := ∀ j, j < d -> rem p d l R n (n - d) j = 0
def Irr (p m : Nat) (c : Vec) : Prop := ∀ d, 0 < d -> 2 * d <= m -> ∀ w, w < p ^ d -> ¬ Dvd p d (dv p w) (fun i => if i = m then 1 else c i) (m + 1)
theorem Y2 (p c a : Nat) (al bs : List Nat) : Jca p c (a :: al) bs = ((hd0 bs + (p - a) * c) % p) :: Jca p c al (tl0 bs) := rfl
theorem Jb9 (p c : Nat) : ∀ al bs : List Nat, al.length <= bs.length -> (Jca p c al bs).length = bs.length
 | [], _, _ => rfl
 | a :: al, [], h => by simp at h
 | a :: al, b :: bs, h => by
  rw [Y2, List.length_cons]; show (Jca p c al bs).length + 1 = _; rw [Jb9 p c al bs (by simpa using h)]; rfl
theorem Jfa (p c : Nat) : ∀ (al bs : List Nat) (t : Nat), (Jca p c al bs).getD t 0 = if t < al.length then (bs.getD t 0 + (p - al.getD t 0) * c) % p else bs.getD t 0
 | [], bs, t => by simp; rfl
 | a :: al, bs, 0 => by rw [Y2, Jbl]; simp
 | a :: al, bs, t + 1 => by
  rw [Y2]; show (Jca p c al (tl0 bs)).getD t 0 = _; rw [Jfa p c al (tl0 bs) t, ZG]; simp
theorem Ji1 (p : Nat) (low : List Nat) (k : Nat) (r : List Nat) : dvg p low (k + 1) r = dvg p low k (Jca p (hd0 r) low (tl0 r)) := rfl
theorem Ji2 {p d n : Nat} {l R : Vec} {low : List Nat} (hp : 0 < p) (hl : low.length = d) (hlow : ∀ t, t < d -> ((low.getD t 0 : Nat) : Int) = l (d - 1 - t)) (hlp : ∀ t, t < d -> low.getD t 0 <= p) : ∀ (s k : Nat) (r : List Nat), s + k + d = n -> r.length = n - k ->
  (∀ t, t < n - k -> ((r.getD t 0 : Nat) : Int) = rem p d l R n k (n - 1 - k - t)) -> (dvg p low s r = true ↔ Dvd p d l R n)
 | 0, k, r, hs, hr, hv => by
  have : n - k = d := by omega
  rw [this] at hr hv; show az r = true ↔ _; rw [Jbt, hr]; have hk : n - d = k := by omega
  unfold Dvd; rw [hk]; constructor
  .intro h j hj; have := hv (d - 1 - j) (by omega); rw [h (d - 1 - j) (by omega), show n - 1 - k - (d - 1 - j) = j by omega] at this; exact this.symm
  .intro h t ht; have := hv t ht; rw [h (n - 1 - k - t) (by omega)] at this; exact Int.ofNat_eq_zero.1 this
 | s + 1, k, r, hs, hr, hv => by
  rw [Ji1]; have htl : (tl0 r).length = n - (k + 1) := by rw [Jjz, hr]; omega
  refine Ji2 hp hl hlow hlp s (k + 1) _ (by omega) (by rw [Jb9 _ _ _ _ (by rw [htl, hl]; omega), htl]) fun t ht => ?_; rw [Jfa, hl, ZG, Jbl]; have h0 := hv 0 (by omega); rw [Nat.sub_zero] at h0; have h1 := hv (t + 1) (by omega); rw [show n - 1 - k - (t + 1) = n - 1 - (k + 1) - t by omega] at h1; show _ = rst p d (n - 1 - k) l (rem p d l R n k) (n - 1 - (k + 1) - t); unfold rst; by_cases htd : t < d
  .rw [if_pos htd, if_pos (by omega)]; have h2 := hlow t htd; have h3 := hlp t htd; rw [show n - 1 - (k + 1) - t + d - (n - 1 - k) = d - 1 - t by omega, <- h0, <- h1, <- h2]; generalize r.getD (t + 1) 0 = X at *
   generalize low.getD t 0 = Y at *
   generalize r.getD 0 0 = Z at *
   obtain ⟨D, hD⟩ : ∃ D, p = Y + D := ⟨p - Y, by omega⟩
   rw [show p - Y = D by omega, Int.natCast_emod]; have hcast : ((X + D * Z : Nat) : Int) = ((X : Int) - Y * Z) + p * Z := by
    have : (p : Int) = Y + D := by omega
    rw [this]; push_cast; rw [Int.add_mul]; omega
   rw [hcast, Int.add_mul_emod_self_left]
  .rw [if_neg htd, if_neg (by omega)]; exact h1
theorem ZV (l : List Nat) (t : Nat) (h : t < l.length) : l.reverse.getD t 0 = l.getD (l.length - 1 - t) 0 := by
 rw [List.getD_eq_getElem?_getD, List.getD_eq_getElem?_getD, List.getElem?_reverse h]
theorem Jfu {p : Nat} (hp : 0 < p) (x i : Nat) : 0 <= dv p x i /\ dv p x i < p := Jav hp x (i + 1) i (by omega)
theorem Jiq {p m v : Nat} (hp : 0 < p) (hv : v < p ^ m) : irrB p m (dgl p m v) = true ↔ Irr p m (dv p v) := by
 have key : ∀ d w, 0 < d -> 2 * d <= m -> (dvg p (dgl p d w).reverse (m + 1 - d) (1 :: (dgl p m v).reverse) = true ↔ Dvd p d (dv p w) (fun i => if i = m then 1 else dv p v i) (m + 1)) := fun d w hd h2 => by
  refine Ji2 hp (by rw [List.length_reverse, J3]) (fun t ht => ?_) (fun t ht => ?_) (m + 1 - d) 0 _ (by omega) (by simp [J3]) fun t ht => ?_
  .rw [ZV _ _ (by rw [J3]; exact ht), J3, Zb _ _ _ _ (by omega)]
  .rw [ZV _ _ (by rw [J3]; exact ht), J3]; have := Zb p d w (d - 1 - t) (by omega); have := Jfu hp w (d - 1 - t); omega
  .show _ = if m + 1 - 1 - 0 - t = m then (1 : Int) else dv p v (m + 1 - 1 - 0 - t)
   cases t with
   | zero => rw [if_pos (by omega)]; rfl
   | succ t =>
    rw [if_neg (by omega)]; show (((dgl p m v).reverse.getD t 0 : Nat) : Int) = _; rw [ZV _ _ (by rw [J3]; omega), J3, Zb _ _ _ _ (by omega), show m + 1 - 1 - 0 - (t + 1) = m - 1 - t by omega]
 unfold irrB; rw [Yc]; constructor
 .intro h d hd h2 w hw hD; have h3 := h (d - 1) (by omega); have h4 := (Yc _ _).1 (by simpa using h3) w (by rw [show d - 1 + 1 = d by omega]; exact hw); rw [show d - 1 + 1 = d by omega, show m - (d - 1) = m + 1 - d by omega, (key d w hd h2).2 hD] at h4; cases h4
 .intro h d hd; have : nob (fun w => dvg p (dgl p (d + 1) w).reverse (m - d) (1 :: (dgl p m v).reverse)) (p ^ (d + 1)) = true := (Yc _ _).2 fun w hw => by
   cases hb : dvg p (dgl p (d + 1) w).reverse (m - d) (1 :: (dgl p m v).reverse) with
   | false => rfl
   | true =>
    rw [show m - d = m + 1 - (d + 1) by omega] at hb; exact absurd ((key (d + 1) w (by omega) (by omega)).1 hb) (h (d + 1) (by omega) (by omega) w hw)
  rw [this]; rfl
theorem Ju {p m lo n v : Nat} (hp : 2 <= p) (hm : 0 < m) (h : chk p m lo n = true) (h1 : lo <= v) (h2 : v < lo + n) (hv : v < p ^ m) (hi : Irr p m (dv p v)) : ∃ g, Gn (p ^ m) (Js p m (dv p v)) g := by
 have h3 := (Yc _ _).1 h (v - lo) (by omega); simp only [show lo + (v - lo) = v by omega, (Jiq (by omega) hv).2 hi, cond_true] at h3; exact Jfr hp hm Jjt (by simpa using h3)
end Go.Proofs.Ytgcdbnpenhclfaa
namespace Go.Proofs.Ytgcdbnpenhclfaa
theorem Jg9 : chk 2 2 0 4 = true := by decide +kernel
theorem Jg8 : chk 2 3 0 8 = true := by decide +kernel
theorem Jg7 : chk 2 4 0 16 = true := by decide +kernel
theorem Jg6 : chk 2 5 0 32 = true := by decide +kernel
theorem Jg5 : chk 2 6 0 64 = true := by decide +kernel
theorem Jg4 : chk 2 7 0 64 = true := by decide +kernel
theorem Jeq : chk 2 7 64 64 = true := by decide +kernel
theorem Jg3 : chk 2 8 0 24 = true := by decide +kernel
theorem Jep : chk 2 8 24 24 = true := by decide +kernel
theorem Jeo : chk 2 8 48 24 = true := by decide +kernel
theorem Jen : chk 2 8 72 24 = true := by decide +kernel
theorem Jem : chk 2 8 96 24 = true := by decide +kernel
theorem Jc4 : chk 2 8 120 24 = true := by decide +kernel
theorem Jc3 : chk 2 8 144 24 = true := by decide +kernel
theorem Jc2 : chk 2 8 168 24 = true := by decide +kernel
theorem Jc1 : chk 2 8 192 24 = true := by decide +kernel
theorem Jc0 : chk 2 8 216 24 = true := by decide +kernel
theorem Jcz : chk 2 8 240 16 = true := by decide +kernel
theorem Jg2 : chk 3 2 0 9 = true := by decide +kernel
theorem Jg1 : chk 3 3 0 27 = true := by decide +kernel
theorem Jg0 : chk 3 4 0 64 = true := by decide +kernel
theorem Jel : chk 3 4 64 17 = true := by decide +kernel
theorem Jgz : chk 3 5 0 24 = true := by decide +kernel
theorem Jek : chk 3 5 24 24 = true := by decide +kernel
theorem Jej : chk 3 5 48 24 = true := by decide +kernel
theorem Jei : chk 3 5 72 24 = true := by decide +kernel
theorem Jeh : chk 3 5 96 24 = true := by decide +kernel
theorem Jcy : chk 3 5 120 24 = true := by decide +kernel
theorem Jcx : chk 3 5 144 24 = true := by decide +kernel
theorem Jcw : chk 3 5 168 24 = true := by decide +kernel
theorem Jcv : chk 3 5 192 24 = true := by decide +kernel
theorem Jcu : chk 3 5 216 24 = true := by decide +kernel
theorem Jct : chk 3 5 240 3 = true := by decide +kernel
theorem Jgy : chk 5 2 0 25 = true := by decide +kernel
theorem Jgx : chk 5 3 0 64 = true := by decide +kernel
theorem Jeg : chk 5 3 64 61 = true := by decide +kernel
theorem Jgw : chk 7 2 0 49 = true := by decide +kernel
theorem Jes : chk 11 2 0 64 = true := by decide +kernel
theorem Jc6 : chk 11 2 64 57 = true := by decide +kernel
theorem Jer : chk 13 2 0 64 = true := by decide +kernel
theorem Jc5 : chk 13 2 64 64 = true := by decide +kernel
theorem Jbr : chk 13 2 128 41 = true := by decide +kernel
theorem chk1_0 : ([2, 3, 5, 7, 11, 13, 17, 19, 23, 29, 31, 37, 41, 43, 47, 53, 59, 61] : List Nat).all (fun p => Jec p 1 [0]) = true := by decide +kernel
theorem chk1_1 : ([67, 71, 73, 79, 83, 89, 97, 101, 103, 107, 109, 113, 127, 131, 137, 139, 149, 151] : List Nat).all (fun p => Jec p 1 [0]) = true := by decide +kernel
theorem chk1_2 : ([157, 163, 167, 173, 179, 181, 191, 193, 197, 199, 211, 223, 227, 229, 233, 239, 241, 251] : List Nat).all (fun p => Jec p 1 [0]) = true := by decide +kernel
theorem gx_2_2 {v : Nat} (hv : v < 2 ^ 2) (hI : Irr 2 2 (dv 2 v)) : ∃ g, Gn (2 ^ 2) (Js 2 2 (dv 2 v)) g := by
 have hv2 : v < 4 := hv; exact Ju (by decide) (by decide) Jg9 (by omega) (by omega) hv hI
theorem gx_2_3 {v : Nat} (hv : v < 2 ^ 3) (hI : Irr 2 3 (dv 2 v)) : ∃ g, Gn (2 ^ 3) (Js 2 3 (dv 2 v)) g := by
 have hv2 : v < 8 := hv; exact Ju (by decide) (by decide) Jg8 (by omega) (by omega) hv hI
theorem gx_2_4 {v : Nat} (hv : v < 2 ^ 4) (hI : Irr 2 4 (dv 2 v)) : ∃ g, Gn (2 ^ 4) (Js 2 4 (dv 2 v)) g := by
 have hv2 : v < 16 := hv; exact Ju (by decide) (by decide) Jg7 (by omega) (by omega) hv hI
theorem gx_2_5 {v : Nat} (hv : v < 2 ^ 5) (hI : Irr 2 5 (dv 2 v)) : ∃ g, Gn (2 ^ 5) (Js 2 5 (dv 2 v)) g := by
 have hv2 : v < 32 := hv; exact Ju (by decide) (by decide) Jg6 (by omega) (by omega) hv hI
theorem gx_2_6 {v : Nat} (hv : v < 2 ^ 6) (hI : Irr 2 6 (dv 2 v)) : ∃ g, Gn (2 ^ 6) (Js 2 6 (dv 2 v)) g := by
 have hv2 : v < 64 := hv; exact Ju (by decide) (by decide) Jg5 (by omega) (by omega) hv hI
theorem gx_2_7 {v : Nat} (hv : v < 2 ^ 7) (hI : Irr 2 7 (dv 2 v)) : ∃ g, Gn (2 ^ 7) (Js 2 7 (dv 2 v)) g := by
 have hv2 : v < 128 := hv; rcases Nat.lt_or_ge v 64 with h | h
 .exact Ju (by decide) (by decide) Jg4 (by omega) (by omega) hv hI
 exact Ju (by decide) (by decide) Jeq (by omega) (by omega) hv hI
theorem gx_2_8 {v : Nat} (hv : v < 2 ^ 8) (hI : Irr 2 8 (dv 2 v)) : ∃ g, Gn (2 ^ 8) (Js 2 8 (dv 2 v)) g := by
 have hv2 : v < 256 := hv; rcases Nat.lt_or_ge v 24 with h | h
 .exact Ju (by decide) (by decide) Jg3 (by omega) (by omega) hv hI
 rcases Nat.lt_or_ge v 48 with h | h
 .exact Ju (by decide) (by decide) Jep (by omega) (by omega) hv hI
 rcases Nat.lt_or_ge v 72 with h | h
 .exact Ju (by decide) (by decide) Jeo (by omega) (by omega) hv hI
 rcases Nat.lt_or_ge v 96 with h | h
 .exact Ju (by decide) (by decide) Jen (by omega) (by omega) hv hI
 rcases Nat.lt_or_ge v 120 with h | h
 .exact Ju (by decide) (by decide) Jem (by omega) (by omega) hv hI
 rcases Nat.lt_or_ge v 144 with h | h
 .exact Ju (by decide) (by decide) Jc4 (by omega) (by omega) hv hI
 rcases Nat.lt_or_ge v 168 with h | h
 .exact Ju (by decide) (by decide) Jc3 (by omega) (by omega) hv hI
 rcases Nat.lt_or_ge v 192 with h | h
 .exact Ju (by decide) (by decide) Jc2 (by omega) (by omega) hv hI
 rcases Nat.lt_or_ge v 216 with h | h
 .exact Ju (by decide) (by decide) Jc1 (by omega) (by omega) hv hI
 rcases Nat.lt_or_ge v 240 with h | h
 .exact Ju (by decide) (by decide) Jc0 (by omega) (by omega) hv hI
 exact Ju (by decide) (by decide) Jcz (by omega) (by omega) hv hI
theorem gx_3_2 {v : Nat} (hv : v < 3 ^ 2) (hI : Irr 3 2 (dv 3 v)) : ∃ g, Gn (3 ^ 2) (Js 3 2 (dv 3 v)) g := by
 have hv2 : v < 9 := hv; exact Ju (by decide) (by decide) Jg2 (by omega) (by omega) hv hI
theorem gx_3_3 {v : Nat} (hv : v < 3 ^ 3) (hI : Irr 3 3 (dv 3 v)) : ∃ g, Gn (3 ^ 3) (Js 3 3 (dv 3 v)) g := by
 have hv2 : v < 27 := hv; exact Ju (by decide) (by decide) Jg1 (by omega) (by omega) hv hI
theorem gx_3_4 {v : Nat} (hv : v < 3 ^ 4) (hI : Irr 3 4 (dv 3 v)) : ∃ g, Gn (3 ^ 4) (Js 3 4 (dv 3 v)) g := by
 have hv2 : v < 81 := hv; rcases Nat.lt_or_ge v 64 with h | h
 .exact Ju (by decide) (by decide) Jg0 (by omega) (by omega) hv hI
 exact Ju (by decide) (by decide) Jel (by omega) (by omega) hv hI
theorem gx_3_5 {v : Nat} (hv : v < 3 ^ 5) (hI : Irr 3 5 (dv 3 v)) : ∃ g, Gn (3 ^ 5) (Js 3 5 (dv 3 v)) g := by
 have hv2 : v < 243 := hv; rcases Nat.lt_or_ge v 24 with h | h
 .exact Ju (by decide) (by decide) Jgz (by omega) (by omega) hv hI
 rcases Nat.lt_or_ge v 48 with h | h
 .exact Ju (by decide) (by decide) Jek (by omega) (by omega) hv hI
 rcases Nat.lt_or_ge v 72 with h | h
 .exact Ju (by decide) (by decide) Jej (by omega) (by omega) hv hI
 rcases Nat.lt_or_ge v 96 with h | h
 .exact Ju (by decide) (by decide) Jei (by omega) (by omega) hv hI
 rcases Nat.lt_or_ge v 120 with h | h
 .exact Ju (by decide) (by decide) Jeh (by omega) (by omega) hv hI
 rcases Nat.lt_or_ge v 144 with h | h
 .exact Ju (by decide) (by decide) Jcy (by omega) (by omega) hv hI
 rcases Nat.lt_or_ge v 168 with h | h
 .exact Ju (by decide) (by decide) Jcx (by omega) (by omega) hv hI
 rcases Nat.lt_or_ge v 192 with h | h
 .exact Ju (by decide) (by decide) Jcw (by omega) (by omega) hv hI
 rcases Nat.lt_or_ge v 216 with h | h
 .exact Ju (by decide) (by decide) Jcv (by omega) (by omega) hv hI
 rcases Nat.lt_or_ge v 240 with h | h
 .exact Ju (by decide) (by decide) Jcu (by omega) (by omega) hv hI
 exact Ju (by decide) (by decide) Jct (by omega) (by omega) hv hI
theorem gx_5_2 {v : Nat} (hv : v < 5 ^ 2) (hI : Irr 5 2 (dv 5 v)) : ∃ g, Gn (5 ^ 2) (Js 5 2 (dv 5 v)) g := by
 have hv2 : v < 25 := hv; exact Ju (by decide) (by decide) Jgy (by omega) (by omega) hv hI
theorem gx_5_3 {v : Nat} (hv : v < 5 ^ 3) (hI : Irr 5 3 (dv 5 v)) : ∃ g, Gn (5 ^ 3) (Js 5 3 (dv 5 v)) g := by
 have hv2 : v < 125 := hv; rcases Nat.lt_or_ge v 64 with h | h
 .exact Ju (by decide) (by decide) Jgx (by omega) (by omega) hv hI
 exact Ju (by decide) (by decide) Jeg (by omega) (by omega) hv hI
theorem gx_7_2 {v : Nat} (hv : v < 7 ^ 2) (hI : Irr 7 2 (dv 7 v)) : ∃ g, Gn (7 ^ 2) (Js 7 2 (dv 7 v)) g := by
 have hv2 : v < 49 := hv; exact Ju (by decide) (by decide) Jgw (by omega) (by omega) hv hI
theorem Jkj {v : Nat} (hv : v < 11 ^ 2) (hI : Irr 11 2 (dv 11 v)) : ∃ g, Gn (11 ^ 2) (Js 11 2 (dv 11 v)) g := by
 have hv2 : v < 121 := hv; rcases Nat.lt_or_ge v 64 with h | h
 .exact Ju (by decide) (by decide) Jes (by omega) (by omega) hv hI
 exact Ju (by decide) (by decide) Jc6 (by omega) (by omega) hv hI
theorem Jki {v : Nat} (hv : v < 13 ^ 2) (hI : Irr 13 2 (dv 13 v)) : ∃ g, Gn (13 ^ 2) (Js 13 2 (dv 13 v)) g := by
 have hv2 : v < 169 := hv; rcases Nat.lt_or_ge v 64 with h | h
 .exact Ju (by decide) (by decide) Jer (by omega) (by omega) hv hI
 rcases Nat.lt_or_ge v 128 with h | h
 .exact Ju (by decide) (by decide) Jc5 (by omega) (by omega) hv hI
 exact Ju (by decide) (by decide) Jbr (by omega) (by omega) hv hI
noncomputable def prL : List Nat := [2, 3, 5, 7, 11, 13, 17, 19, 23, 29, 31, 37, 41, 43, 47, 53, 59, 61, 67, 71, 73, 79, 83, 89, 97, 101, 103, 107, 109, 113, 127, 131, 137, 139, 149, 151, 157, 163, 167, 173, 179, 181, 191, 193, 197, 199, 211, 223, 227, 229, 233, 239, 241, 251]
theorem Jj3 : (List.range 257).all (fun p => prL.contains p || Nat.blt p 2 || (List.range p).any (fun e => Nat.ble 2 e && Nat.beq (p % e) 0)) = true := by decide +kernel
theorem Jj2 {p : Nat} (hp : IsLf p p) (h : p <= 256) : p ∈ prL := by
 have h1 := List.all_eq_true.1 Jj3 p (List.mem_range.2 (by omega)); simp only [Bool.or_eq_true, List.contains_iff_mem, List.any_eq_true, List.mem_range, Bool.and_eq_true] at h1; rcases h1 with (h1 | h1) | ⟨e, he, h2, h3⟩
 .exact h1
 .have := hp.two; have := Nat.le_of_ble_eq_true h1; omega
 .have := hp.min e (Nat.le_of_ble_eq_true h2) (Nat.eq_of_beq_eq_true h3); omega
theorem gx_1 {p : Nat} (hp : IsLf p p) (h : p <= 256) : ∃ g, Gn (p ^ 1) (Js p 1 (dv p 0)) g := by
 have hm := Jj2 hp h; have hg : Jec p 1 [0] = true := by
  unfold prL at hm; rw [show ([2, 3, 5, 7, 11, 13, 17, 19, 23, 29, 31, 37, 41, 43, 47, 53, 59, 61, 67, 71, 73, 79, 83, 89, 97, 101, 103, 107, 109, 113, 127, 131, 137, 139, 149, 151, 157, 163, 167, 173, 179, 181, 191, 193, 197, 199, 211, 223, 227, 229, 233, 239, 241, 251] : List Nat) = ([2, 3, 5, 7, 11, 13, 17, 19, 23, 29, 31, 37, 41, 43, 47, 53, 59, 61] : List Nat) ++ ([67, 71, 73, 79, 83, 89, 97, 101, 103, 107, 109, 113, 127, 131, 137, 139, 149, 151] : List Nat) ++ ([157, 163, 167, 173, 179, 181, 191, 193, 197, 199, 211, 223, 227, 229, 233, 239, 241, 251] : List Nat) from rfl] at hm; simp only [List.mem_append] at hm; rcases hm with (h | h) | h
  .exact List.all_eq_true.1 chk1_0 p h
  .exact List.all_eq_true.1 chk1_1 p h
  .exact List.all_eq_true.1 chk1_2 p h
 refine Jfr hp.two (by decide) ⟨rfl, fun i hi => ?_⟩ hg; rw [show i = 0 by omega, Jac]; simp [vz]
theorem Jic {p m : Nat} (hp : IsLf p p) (hm : 2 <= m) (hq : p ^ m <= 256) : (p = 2 /\ m = 2) ∨ (p = 2 /\ m = 3) ∨ (p = 2 /\ m = 4) ∨ (p = 2 /\ m = 5) ∨ (p = 2 /\ m = 6) ∨ (p = 2 /\ m = 7) ∨ (p = 2 /\ m = 8) ∨ (p = 3 /\ m = 2) ∨ (p = 3 /\ m = 3) ∨ (p = 3 /\ m = 4) ∨ (p = 3 /\ m = 5) ∨ (p = 5 /\ m = 2) ∨ (p = 5 /\ m = 3) ∨ (p = 7 /\ m = 2) ∨ (p = 11 /\ m = 2) ∨ (p = 13 /\ m = 2) := by
  have h2 := hp.two
  have hpow : ∀ k, k <= m -> p ^ k <= 256 := fun k hk => Nat.le_trans (Nat.pow_le_pow_right (by omega) hk) hq
  have hp2 : p <= 16 := by
    rcases Nat.lt_or_ge 16 p with h | h
    . have h1 := hpow 2 hm
      have h3 : 17 ^ 2 <= p ^ 2 := Nat.pow_le_pow_left h 2
      omega
    . exact h
  have hnd : ∀ e, 2 <= e -> e < p -> p % e ≠ 0 := fun e he hlt h0 => by have := hp.min e he h0; omega
  have hc : p = 2 ∨ p = 3 ∨ p = 5 ∨ p = 7 ∨ p = 11 ∨ p = 13 := by
    have h3 := hnd 2 (by omega)
    have h4 := hnd 3 (by omega)
    omega
  rcases hc with rfl | rfl | rfl | rfl | rfl | rfl
  . have : m <= 8 := by
      rcases Nat.lt_or_ge 8 m with h | h
      . have := hpow 9 h; omega
      . exact h
    omega
  . have : m <= 5 := by
      rcases Nat.lt_or_ge 5 m with h | h
      . have := hpow 6 h; omega
      . exact h
    omega
  . have : m <= 3 := by
      rcases Nat.lt_or_ge 3 m with h | h
      . have := hpow 4 h; omega
      . exact h
    omega
  . have : m <= 2 := by
      rcases Nat.lt_or_ge 2 m with h | h
      . have := hpow 3 h; omega
      . exact h
    omega
  . have : m <= 2 := by
      rcases Nat.lt_or_ge 2 m with h | h
      . have := hpow 3 h; omega
      . exact h
    omega
  . have : m <= 2 := by
      rcases Nat.lt_or_ge 2 m with h | h
      . have := hpow 3 h; omega
      . exact h
    omega
theorem gen_ex {p m v : Nat} (hp : IsLf p p) (hm : 0 < m) (hq : p ^ m <= 256) (hv : v < p ^ m) (h1 : m = 1 -> v = 0) (hI : Irr p m (dv p v)) : ∃ g, Gn (p ^ m) (Js p m (dv p v)) g := by
  rcases Nat.lt_or_ge m 2 with h | h
  . have : m = 1 := by omega
    subst this
    rw [h1 rfl]
    exact gx_1 hp (by simpa using hq)
  . rcases Jic hp h hq with ⟨rfl, rfl⟩ | ⟨rfl, rfl⟩ | ⟨rfl, rfl⟩ | ⟨rfl, rfl⟩ | ⟨rfl, rfl⟩ | ⟨rfl, rfl⟩ | ⟨rfl, rfl⟩ | ⟨rfl, rfl⟩ | ⟨rfl, rfl⟩ | ⟨rfl, rfl⟩ | ⟨rfl, rfl⟩ | ⟨rfl, rfl⟩ | ⟨rfl, rfl⟩ | ⟨rfl, rfl⟩ | ⟨rfl, rfl⟩ | ⟨rfl, rfl⟩
    . exact gx_2_2 hv hI
    . exact gx_2_3 hv hI
    . exact gx_2_4 hv hI
    . exact gx_2_5 hv hI
    . exact gx_2_6 hv hI
    . exact gx_2_7 hv hI
    . exact gx_2_8 hv hI
    . exact gx_3_2 hv hI
    . exact gx_3_3 hv hI
    . exact gx_3_4 hv hI
    . exact gx_3_5 hv hI
    . exact gx_5_2 hv hI
    . exact gx_5_3 hv hI
    . exact gx_7_2 hv hI
    . exact Jkj hv hI
    . exact Jki hv hI
end Go.Proofs.Ytgcdbnpenhclfaa
set_option linter.unusedSimpArgs false
namespace Go.Proofs.Ytgcdbnpenhclfaa
def vo (l : LI) : Vec := fun i => l.getD i 0
theorem JB (l : LI) (i : Nat) : gi l (i : Int) = vo l i := rfl
theorem Qd (l : LI) (i : Nat) (x : Int) : si l (i : Int) x = l.set i x := rfl
theorem Yp (a b : Nat) : (a : Int).tmod (b : Int) = ((a % b : Nat) : Int) := rfl
theorem Je8 (a b : Nat) : (a : Int).tdiv (b : Int) = ((a / b : Nat) : Int) := rfl
theorem JP (l : LI) (i j : Nat) (x : Int) : vo (l.set i x) j = if i = j /\ i < l.length then x else vo l j := by
 unfold vo; rw [List.getD_eq_getElem?_getD, List.getD_eq_getElem?_getD, List.getElem?_set]; by_cases h : i = j
 .subst h; by_cases h2 : i < l.length
  .simp [h2]
  .simp [h2]
 .simp [h]
theorem Jdm (n : Nat) (i : Nat) : vo (List.replicate n (0 : Int)) i = 0 := by
 unfold vo; rw [List.getD_eq_getElem?_getD, List.getElem?_replicate]; split <;> rfl
theorem vo_hi {l : LI} {i : Nat} (h : l.length <= i) : vo l i = 0 := by
 unfold vo; rw [List.getD_eq_getElem?_getD, List.getElem?_eq_none h]; rfl
theorem YZ {l o : LI} (h : l.length = o.length) (hv : ∀ i, i < l.length -> vo l i = vo o i) : l = o := by
 refine List.ext_getElem h fun i h1 h2 => ?_; have := hv i h1; unfold vo at this; rw [List.getD_eq_getElem?_getD, List.getD_eq_getElem?_getD, List.getElem?_eq_getElem h1, List.getElem?_eq_getElem h2] at this; exact this
theorem Jm {x : Int} (h : -1000000000000 <= x) (h2 : x <= 1000000000000) : I64 x := ⟨by omega, by omega⟩
theorem J1 {n : Nat} (h : n <= 1000000000000) : I64 (n : Int) := Jm (by omega) (by omega)
def dgi (p n x : Nat) : LI := (dgl p n x).map fun (a : Nat) => (a : Int)
theorem JA (p n x : Nat) : (dgi p n x).length = n := by simp [dgi, J3]
theorem Qn {p n x i : Nat} (h : i < n) : vo (dgi p n x) i = dv p x i := by
 rw [<- Zb p n x i h]; unfold vo dgi; rw [List.getD_eq_getElem?_getD, List.getElem?_map, List.getD_eq_getElem?_getD]; rw [List.getElem?_eq_getElem (by rw [J3]; exact h)]; rfl
theorem Jhw {b : Bool} {Q : Int -> Prop} (h : Q (if b = true then 0 else 1)) : Z6 b Q := by
 cases b
 .exact ⟨fun h' => absurd h' (by decide), fun _ => h⟩
 .exact ⟨fun _ => h, fun h' => absurd h' (by decide)⟩
theorem v_gcd {x y : Nat} {Q : Int -> Prop} (h : Q ((Nat.gcd x y : Nat) : Int)) : Jf2 x y Q := by
 refine ⟨fun a b => ∃ c d : Nat, a = c /\ b = d /\ Nat.gcd c d = Nat.gcd x y, fun a b => b.toNat, ⟨x, y, rfl, rfl, rfl⟩, ?_⟩; rintro _ _ ⟨c, d, rfl, rfl, hg⟩; dsimp only; refine ⟨fun hd => ⟨hd, ?_, ?_⟩, fun hd => ?_⟩
 .rw [Yp]; exact ⟨d, c % d, rfl, rfl, by rw [<- hg, Nat.gcd_comm c d, Nat.gcd_rec d c, Nat.gcd_comm]⟩
 .rw [Yp]; have := Nat.mod_lt c (show 0 < d by omega); show (((c % d : Nat) : Int)).toNat < ((d : Nat) : Int).toNat; omega
 .have hd0 : d = 0 := by omega
  subst hd0; rw [Nat.gcd_zero_right] at hg; rw [hg]; exact h
theorem Jke {n k : Nat} (hn : 2 <= n) (hk : n < k * k) (h : ∀ e, e < k -> 2 <= e -> n % e ≠ 0) : IsLf n n := by
 refine ⟨hn, Nat.mod_self n, fun e he hm => ?_⟩; rcases Nat.lt_or_ge e k with hc | hc
 .exact absurd hm (h e hc he)
 .obtain ⟨t, ht⟩ := Nat.dvd_of_mod_eq_zero hm; have hq1 : t < k := by
   rcases Nat.lt_or_ge t k with h1 | h1
   .exact h1
   .have := Nat.mul_le_mul hc h1; omega
  rcases Nat.lt_or_ge t 2 with h2 | h2
  .have : t = 0 ∨ t = 1 := by omega
   rcases this with rfl | rfl
   .omega
   .omega
  .exact absurd (Nat.mod_eq_zero_of_dvd ⟨e, by rw [ht, Nat.mul_comm]⟩) (h t hq1 h2)
theorem ZB {x : Nat} {Q : Int -> Prop} (h2 : 2 <= x) (hx : x <= 256) (h : ∀ d : Nat, IsLf x d -> Q d) : Qb x Q := by
 refine ⟨fun z => ∃ k : Nat, z = k /\ 2 <= k /\ k <= 17 /\ ∀ e, e < k -> 2 <= e -> x % e ≠ 0, fun z => (20 - z).toNat, ⟨2, rfl, by omega, by omega, fun e _ _ => by omega⟩, ?_⟩; rintro _ ⟨k, rfl, hk2, hk, hm⟩; dsimp only; have e1 : ((k : Nat) : Int) * (k : Int) = ((k * k : Nat) : Int) := by push_cast; rfl
 have hb : k * k <= 17 * 17 := Nat.mul_le_mul hk hk; rw [e1]; refine ⟨Jm (by omega) (by omega), fun hle => ⟨by omega, ?_, ?_⟩, fun hgt => ?_⟩
 .intro h0; rw [Yp] at h0; refine h k ⟨hk2, by omega, fun e he h3 => ?_⟩; rcases Nat.lt_or_ge e k with hc | hc
  .exact absurd h3 (hm e hc he)
  .exact hc
 .intro h0; rw [Yp] at h0; have hk16 : k <= 16 := by
   rcases Nat.lt_or_ge 16 k with hc | hc
   .have := Nat.mul_le_mul hc hc; omega
   .exact hc
  refine ⟨Jm (by omega) (by omega), ⟨k + 1, by push_cast; rfl, by omega, by omega, fun e he h3 => ?_⟩, by omega⟩; rcases Nat.lt_or_ge e k with hc | hc
  .exact hm e hc h3
  .rw [show e = k by omega]; omega
 .exact h x (Jke h2 (by omega) hm)
theorem IsLf.uniq {n d e : Nat} (h : IsLf n d) (h' : IsLf n e) : d = e := Nat.le_antisymm (h.min e h'.two h'.dvd) (h'.min d h.two h.dvd)
theorem Jf9 {x : Int} {Q : Bool -> Prop} (hx : x <= 256) (h : ∀ b : Bool, (b = true ↔ 2 <= x /\ IsLf x.toNat x.toNat) -> Q b) : Yl x Q := by
 refine ⟨fun h2 => ?_, fun h2 => h false ⟨fun h' => by (cases h'), fun h' => absurd h'.1 h2⟩⟩; obtain ⟨n, rfl⟩ := Int.eq_ofNat_of_zero_le (show 0 <= x by omega); refine ZB (by omega) (by omega) fun d hd => h _ ?_; rw [decide_eq_true_iff, Int.toNat_natCast]; constructor
 .intro he; have : d = n := by omega
  subst this; exact ⟨h2, hd⟩
 .rintro ⟨_, hn⟩; rw [hd.uniq hn]
theorem Jht {x : Nat} {Q : Bool -> Prop} (h2 : 2 <= x) (hx : x <= 256) (h : ∀ b : Bool, (b = true ↔ IsLf x x) -> Q b) : YQ x Q := by
 refine ⟨fun z => ∃ k : Nat, z = k /\ 2 <= k /\ k <= x /\ ∀ e, e < k -> 2 <= e -> x % e ≠ 0, fun z => (x - z).toNat, ⟨2, rfl, by omega, by omega, fun e _ _ => by omega⟩, ?_⟩; rintro _ ⟨k, rfl, hk2, hk, hm⟩; dsimp only; refine ⟨fun hlt => ⟨by omega, fun h0 => ?_, fun h0 => ?_⟩, fun hge => ?_⟩
 .rw [Yp] at h0; refine h false ⟨fun h' => by (cases h'), fun hp => ?_⟩; have := hp.min k hk2 (by omega); omega
 .rw [Yp] at h0; refine ⟨Jm (by omega) (by omega), ⟨k + 1, by push_cast; rfl, by omega, by omega, fun e he h3 => ?_⟩, by omega⟩; rcases Nat.lt_or_ge e k with hc | hc
  .exact hm e hc h3
  .rw [show e = k by omega]; omega
 .refine h true ⟨fun _ => ⟨h2, Nat.mod_self x, fun e he h0 => ?_⟩, fun _ => rfl⟩; rcases Nat.lt_or_ge e x with hc | hc
  .exact absurd h0 (hm e (by omega) he)
  .exact hc
theorem JQ {p a b : Nat} (hp : 0 < p) (h : a <= b) : p ^ a <= p ^ b := Nat.pow_le_pow_right hp h
theorem Ja3 {p : Nat} {M : Int} {mf : LI} {Q : Int -> Prop} (hp : 2 <= p) (hp2 : p <= 256) (h : ∀ r : Int, (p ^ M.toNat <= 256 -> r = ((p ^ M.toNat : Nat) : Int)) -> (256 < p ^ M.toNat -> 256 < r) -> Q r) : QQ p M mf Q := by
 refine ⟨fun r => (p ^ M.toNat <= 256 -> r = ((p ^ M.toNat : Nat) : Int)) /\ (256 < p ^ M.toNat -> 256 < r), ⟨fun z i => ∃ k : Nat, i = k /\ k <= M.toNat /\ z = ((p ^ k : Nat) : Int) /\ p ^ k <= 65536 /\ k <= 16, fun z i => (20 - i).toNat, ⟨0, rfl, Nat.zero_le _, by simp, by simp, by omega⟩, ?_⟩, fun r hr => h r hr.1 hr.2⟩; rintro _ _ ⟨k, rfl, hk, rfl, hb, hk16⟩; dsimp only; refine ⟨fun hlt => ⟨fun hle => ?_, fun hgt => ?_⟩, fun hge => ?_⟩
 .have hk8 : p ^ k <= 256 := by omega
  have hkk : k < 16 := by
   rcases Nat.lt_or_ge k 16 with hc | hc
   .exact hc
   .have h1 := JQ (p := p) (by omega) hc; have h2 : 2 ^ 16 <= p ^ 16 := Nat.pow_le_pow_left hp 16; omega
  have e1 : ((p ^ k : Nat) : Int) * (p : Int) = ((p ^ (k + 1) : Nat) : Int) := by rw [Nat.pow_succ]; push_cast; rfl
  have hb2 : p ^ (k + 1) <= 65536 := by
   rw [Nat.pow_succ]; have := Nat.mul_le_mul hk8 hp2; omega
  rw [e1]; exact ⟨Jm (by omega) (by omega), Jm (by omega) (by omega), ⟨k + 1, by push_cast; rfl, by omega, rfl, hb2, by omega⟩, by omega⟩
 .have := JQ (p := p) (by omega) hk; exact ⟨fun h' => by omega, fun _ => by omega⟩
 .have : k = M.toNat := by omega
  subst this; exact ⟨fun _ => rfl, fun h' => by omega⟩
def Z8 (P M : Int) : Int := if 2 <= P /\ 1 <= M /\ P.toNat ^ M.toNat <= 256 then ((P.toNat ^ M.toNat : Nat) : Int) else 0
theorem Jb3 {P M : Int} {mf : LI} {Q : Int -> Prop} (h : Q (Z8 P M)) : Q5 P M mf Q := by
 refine ⟨fun h1 => ?_, fun h1 => ⟨fun h2 => ?_, fun h2 => ⟨fun h3 => ?_, fun h3 => ?_⟩⟩⟩
 .rw [Z8, if_neg (by omega)] at h; exact h
 .rw [Z8, if_neg (by omega)] at h; exact h
 .rw [Z8, if_neg] at h
  .exact h
  .rintro ⟨h4, h5, h6⟩; have e1 : 2 ^ 9 <= P.toNat ^ 9 := Nat.pow_le_pow_left (by omega) 9; have e2 := JQ (p := P.toNat) (by omega) (show 9 <= M.toNat by omega); omega
 .obtain ⟨p, rfl⟩ := Int.eq_ofNat_of_zero_le (show 0 <= P by omega); obtain ⟨m, rfl⟩ := Int.eq_ofNat_of_zero_le (show 0 <= M by omega); refine ⟨fun z i => ∃ k : Nat, i = k /\ k <= m /\ z = ((p ^ k : Nat) : Int) /\ p ^ k <= 256, fun z i => (20 - i).toNat, ⟨0, rfl, Nat.zero_le _, by simp, by simp⟩, ?_⟩; rintro _ _ ⟨k, rfl, hk, rfl, hb⟩; dsimp only; rw [show (256 : Int) = ((256 : Nat) : Int) from rfl, Je8]; have hd : 256 / p <= 256 := Nat.div_le_self _ _; have hdm : ∀ a, a <= 256 / p ↔ a * p <= 256 := fun a => Nat.le_div_iff_mul_le (show 0 < p by omega); generalize 256 / p = D at *
  refine ⟨fun hlt => ⟨⟨by omega, Jm (by omega) (by omega)⟩, fun hgt => ?_, fun hle => ?_⟩, fun hge => ?_⟩
  .rw [Z8, if_neg] at h
   .exact h
   .rintro ⟨_, _, h6⟩; simp only [Int.toNat_natCast] at h6; have h7 : p ^ (k + 1) <= 256 := Nat.le_trans (JQ (by omega) (by omega)) h6; rw [Nat.pow_succ] at h7; have := (hdm _).2 h7; omega
  .have h7 : p ^ (k + 1) <= 256 := by rw [Nat.pow_succ]; exact (hdm _).1 (by omega)
   have e1 : ((p ^ k : Nat) : Int) * (p : Int) = ((p ^ (k + 1) : Nat) : Int) := by rw [Nat.pow_succ]; push_cast; rfl
   rw [e1]; exact ⟨Jm (by omega) (by omega), Jm (by omega) (by omega), ⟨k + 1, by push_cast; rfl, by omega, rfl, h7⟩, by omega⟩
  .have : k = m := by omega
   subst this; rw [Z8, if_pos ⟨by omega, by omega, by simpa using hb⟩] at h
   simpa using h
theorem YL (x p i : Nat) : x / p ^ i / p = x / p ^ (i + 1) := by rw [Nat.div_div_eq_div_mul, Nat.pow_succ]
theorem ZD {p n x : Nat} {Q : LI -> Prop} (hp : 0 < p) (hn : n <= 1000) (hx : x <= 1000) (h : Q (dgi p n x)) : QE p n x Q := by
 refine ⟨⟨by omega, by omega, by omega⟩, fun l z i => ∃ k : Nat, i = k /\ k <= n /\ z = ((x / p ^ k : Nat) : Int) /\ l.length = n /\ ∀ j, j < k -> vo l j = dv p x j, fun l z i => (n - i).toNat, ⟨0, rfl, Nat.zero_le _, by simp, by simp, fun j hj => by omega⟩, ?_⟩; rintro l _ _ ⟨k, rfl, hk, rfl, hl, hv⟩; dsimp only; have hd : x / p ^ k <= x := Nat.div_le_self _ _; have hd2 : x / p ^ k / p <= x / p ^ k := Nat.div_le_self _ _; rw [Je8, Yp, Qd]; simp only [Int.toNat_natCast]; refine ⟨fun hlt => ⟨by omega, ⟨by omega, by omega⟩, ⟨by omega, J1 (by omega)⟩, Jm (by omega) (by omega), ⟨k + 1, by push_cast; rfl, by omega, by rw [YL], by rw [List.length_set, hl], fun j hj => ?_⟩, by omega⟩, fun hge => ?_⟩
 .rw [JP]; by_cases hjk : k = j
  .subst hjk; rw [if_pos ⟨rfl, by omega⟩]; rfl
  .rw [if_neg (by omega)]; exact hv j (by omega)
 .have : l = dgi p n x := YZ (by rw [hl, JA]) fun j hj => by rw [hv j (by omega), Qn (by omega)]
  rw [this]; exact h
theorem Jai {p n x : Nat} {Q : LI -> Prop} (hp : 0 < p) (hn : n <= 1000) (hx : x <= 1000) (h : Q (dgi p n x)) : QB x p n Q := by
 refine ⟨⟨by omega, by omega, by omega⟩, fun l z i => ∃ k : Nat, i = k /\ k <= n /\ z = ((x / p ^ k : Nat) : Int) /\ l.length = n /\ ∀ j, j < k -> vo l j = dv p x j, fun l z i => (n - i).toNat, ⟨0, rfl, Nat.zero_le _, by simp, by simp, fun j hj => by omega⟩, ?_⟩; rintro l _ _ ⟨k, rfl, hk, rfl, hl, hv⟩; dsimp only; have hd : x / p ^ k <= x := Nat.div_le_self _ _; have hd2 : x / p ^ k / p <= x / p ^ k := Nat.div_le_self _ _; rw [Je8, Yp, Qd]; simp only [Int.toNat_natCast]; refine ⟨fun hlt => ⟨by omega, ⟨by omega, by omega⟩, ⟨by omega, J1 (by omega)⟩, Jm (by omega) (by omega), ⟨k + 1, by push_cast; rfl, by omega, by rw [YL], by rw [List.length_set, hl], fun j hj => ?_⟩, by omega⟩, fun hge => ?_⟩
 .rw [JP]; by_cases hjk : k = j
  .subst hjk; rw [if_pos ⟨rfl, by omega⟩]; rfl
  .rw [if_neg (by omega)]; exact hv j (by omega)
 .have : l = dgi p n x := YZ (by rw [hl, JA]) fun j hj => by rw [hv j (by omega), Qn (by omega)]
  rw [this]; exact h
theorem Jb2 {p m x : Nat} {mf : LI} {Q : Int -> Prop} (hp : 2 <= p) (hp2 : p <= 256) (hx : x <= 256) (h : Q ((if x % p = p - 1 then x - x % p else x + 1 : Nat) : Int)) : Qw p m mf x Q := by
 have hm := Nat.mod_lt x (show 0 < p by omega); have hm2 := Nat.mod_le x p; refine ⟨by omega, Jm (by omega) (by omega), fun h0 => ⟨by omega, ?_⟩, fun h0 => ?_⟩
 .rw [Yp] at h0 ⊢; rw [if_pos (by omega)] at h; refine ⟨Jm (by omega) (by omega), ?_⟩; rw [show (x : Int) - ((x % p : Nat) : Int) = ((x - x % p : Nat) : Int) by omega]; exact h
 .rw [Yp] at h0; rw [if_neg (by omega)] at h; exact ⟨Jm (by omega) (by omega), by push_cast at h ⊢; exact h⟩
theorem Ja5 {l : LI} {Q : LI -> Prop} (hl : l.length <= 1000000) (h : Q l) : Ym l Q := by
 intro b hb; refine ⟨fun h1 => by rw [<- hb h1]; exact h, fun _ => ⟨by omega, by simpa using h⟩⟩
end Go.Proofs.Ytgcdbnpenhclfaa
namespace Go.Proofs.Ytgcdbnpenhclfaa
theorem Yg {l : LI} {f : Int -> Bool} : l.any f = true ↔ ∃ i, i < l.length /\ f (vo l i) = true := by
  rw [List.any_eq_true]
  constructor
  . rintro ⟨x, hx, hf⟩
    obtain ⟨i, hi, rfl⟩ := List.mem_iff_getElem.1 hx
    refine ⟨i, hi, ?_⟩
    unfold vo; rw [List.getD_eq_getElem?_getD, List.getElem?_eq_getElem hi]; exact hf
  . rintro ⟨i, hi, hf⟩
    unfold vo at hf
    rw [List.getD_eq_getElem?_getD, List.getElem?_eq_getElem hi] at hf
    exact ⟨l[i], List.getElem_mem hi, hf⟩
theorem ZE {l : LI} {p : Int -> (Bool -> Prop) -> Prop} {f : Int -> Bool} {Q : Bool -> Prop} (hl : l.length <= 1000000000) (hp : ∀ x (R : Bool -> Prop), R (f x) -> p x R) (h : Q (l.any f)) : Qu l p Q := by
 refine ⟨fun z => ∃ k : Nat, z = k /\ k <= l.length /\ ∀ j, j < k -> f (vo l j) = false, fun z => (l.length - z).toNat, ⟨0, rfl, Nat.zero_le _, fun j hj => by omega⟩, ?_⟩; rintro _ ⟨k, rfl, hk, hv⟩; dsimp only; refine ⟨fun hlt => ⟨⟨by omega, by omega⟩, hp _ _ ⟨fun hb => ?_, fun hb => ⟨Jm (by omega) (by omega), ⟨k + 1, by push_cast; rfl, by omega, fun j hj => ?_⟩, by omega⟩⟩⟩, fun hge => ?_⟩
 .rw [Yg.2 ⟨k, by omega, hb⟩] at h; rw [decide_eq_true (by omega)]; exact h
 .rw [JB] at hb; by_cases hjk : j = k
  .subst hjk; exact hb
  .exact hv j (by omega)
 .have : l.any f = false := by
   cases hb : l.any f with
   | false => rfl
   | true =>
    obtain ⟨i, hi, hf⟩ := Yg.1 hb; rw [hv i (by omega)] at hf; cases hf
  rw [this] at h; exact h
theorem Ja8 {p : Nat} {a l c : Int} (hp : 0 < p) (ha : 0 <= a) (hl : l <= p) (hc : 0 <= c) : (a + ((p : Int) - l) * c).tmod p = (a - l * c) % (p : Int) := by
 have h1 : 0 <= ((p : Int) - l) * c := Int.mul_nonneg (by omega) hc; rw [Int.tmod_eq_emod_of_nonneg (by omega)]; have : a + ((p : Int) - l) * c = (a - l * c) + p * c := by rw [Int.sub_mul]; omega
 rw [this, Int.add_mul_emod_self_left]
theorem Jdy {p d n : Nat} {l R : Vec} (hp : 0 < p) {N : Nat} (hR : Cn p N R) : ∀ k, Cn p N (rem p d l R n k)
 | 0 => hR
 | k + 1 => fun j hj => by
  show 0 <= rst _ _ _ _ _ j /\ rst _ _ _ _ _ j < _; unfold rst; split
  .exact ⟨Int.emod_nonneg _ (by omega), Int.emod_lt_of_pos _ (by omega)⟩
  .exact Jdy hp hR k j hj
theorem Q1 {a b : Int} {p : Nat} (hp : p <= 256) (ha : 0 <= a /\ a <= p) (hb : 0 <= b /\ b <= p) : 0 <= a * b /\ a * b <= 65536 := by
 obtain ⟨x, rfl⟩ := Int.eq_ofNat_of_zero_le ha.1; obtain ⟨y, rfl⟩ := Int.eq_ofNat_of_zero_le hb.1; have : x * y <= 256 * 256 := Nat.mul_le_mul (by omega) (by omega); have e : ((x : Int)) * (y : Int) = ((x * y : Nat) : Int) := by push_cast; rfl
 rw [e]; omega
theorem Ja6 {l : LI} {n i : Nat} (h : i < n) : vo (l.take n) i = vo l i := by
 unfold vo; rw [List.getD_eq_getElem?_getD, List.getD_eq_getElem?_getD, List.getElem?_take, if_pos h]
theorem Jak {p : Nat} {l o : LI} {Q : Bool -> Prop} (hp : 0 < p) (hp2 : p <= 256) (hl : Cn p l.length (vo l)) (ho : Cn p o.length (vo o)) (hd : 0 < l.length) (hdn : l.length <= o.length) (hn : o.length <= 1000)
  (h : ∀ b : Bool, (b = true ↔ Dvd p l.length (vo l) (vo o) o.length) -> Q b) : QD p l o Q := by
 refine Ja5 (by omega) ⟨Jm (by omega) (by omega), ?_⟩; generalize hdd : l.length = d at *
 generalize hnn : o.length = n at *
 refine ⟨fun x z => ∃ k : Nat, z = (n : Int) - 1 - k /\ k <= n - d /\ x.length = n /\ ∀ j, j < n -> vo x j = rem p d (vo l) (vo o) n k j, fun x z => (z + 1).toNat, ⟨0, by omega, by omega, hnn, fun j _ => rfl⟩, ?_⟩; rintro x _ ⟨k, rfl, hk, hx, hv⟩; dsimp only; have hc := Jdy (d := d) (l := vo l) (n := n) hp ho k; refine ⟨fun hle => ?_, fun hgt => ?_⟩
 .obtain ⟨i, hi⟩ : ∃ i : Nat, (n : Int) - 1 - k = i := ⟨n - 1 - k, by omega⟩
  rw [hi]; have hin : i = n - 1 - k := by omega
  refine ⟨fun y z => ∃ t : Nat, z = t /\ t <= d /\ y.length = n /\ ∀ j, j < n -> vo y j = if i <= j + d /\ j + d < i + t then rem p d (vo l) (vo o) n (k + 1) j else rem p d (vo l) (vo o) n k j, fun y z => (d - z).toNat, ⟨0, rfl, Nat.zero_le _, hx, fun j hj => by rw [if_neg (by omega)]; exact hv j hj⟩, ?_⟩; rintro y _ ⟨t, rfl, ht, hy, hw⟩; dsimp only; have e1 : (i : Int) - (d : Int) + (t : Int) = ((i - d + t : Nat) : Int) := by omega
  rw [e1, JB, JB, JB, Qd]; have hyi : vo y i = rem p d (vo l) (vo o) n k i := by rw [hw i (by omega), if_neg (by omega)]
  refine ⟨fun hlt => ?_, fun hge => ?_⟩
  .have hyj : vo y (i - d + t) = rem p d (vo l) (vo o) n k (i - d + t) := by rw [hw _ (by omega), if_neg (by omega)]
   have c1 := hl t (by omega); have c2 := hc i (by omega); have c3 := hc (i - d + t) (by omega); rw [hyi, hyj]; have c4 := Q1 (a := (p : Int) - vo l t) (b := rem p d (vo l) (vo o) n k i) hp2 ⟨by omega, by omega⟩ ⟨c2.1, by omega⟩; refine ⟨⟨by omega, by omega⟩, Jm (by omega) (by omega), Jm (by omega) (by omega), ⟨by omega, by omega⟩, Jm (by omega) (by omega), ⟨by omega, by omega⟩, Jm (by omega) (by omega), Jm (by omega) (by omega), by omega, ⟨by omega, by omega⟩, Jm (by omega) (by omega), ⟨t + 1, by push_cast; rfl, by omega, by rw [List.length_set, hy], fun j hj => ?_⟩, by omega⟩; rw [JP]; by_cases hjt : i - d + t = j
   .subst hjt; rw [if_pos ⟨rfl, by omega⟩, if_pos (by omega), Ja8 hp c3.1 (by omega) c2.1]; show _ = rst p d (n - 1 - k) (vo l) (rem p d (vo l) (vo o) n k) (i - d + t); unfold rst; rw [<- hin, if_pos (by omega), show i - d + t + d - i = t by omega]
   .rw [if_neg (fun h => hjt h.1), hw j hj]; by_cases hc2 : i <= j + d /\ j + d < i + t
    .rw [if_pos hc2, if_pos (by omega)]
    .rw [if_neg hc2, if_neg (by omega)]
  .refine ⟨Jm (by omega) (by omega), ⟨k + 1, by omega, by omega, hy, fun j hj => ?_⟩, by omega⟩; rw [hw j hj]; have htd : t = d := by omega
   by_cases hc2 : i <= j + d /\ j + d < i + t
   .rw [if_pos hc2]
   .rw [if_neg hc2]; show _ = rst p d (n - 1 - k) (vo l) (rem p d (vo l) (vo o) n k) j; unfold rst; rw [<- hin, if_neg (by omega)]
 .refine ⟨⟨by omega, by omega⟩, ZE (f := fun x => decide (x ≠ 0)) (by rw [List.length_take]; omega) (fun x R hR => hR) (h _ ?_)⟩; have hkk : k = n - d := by omega
  have hlen : (x.take (d : Int).toNat).length = d := by rw [List.length_take]; omega
  rw [Bool.not_eq_true']; constructor
  .intro hb j hj; have h2 : ¬ (x.take (d : Int).toNat).any (fun x => decide (x ≠ 0)) = true := by rw [hb]; decide
   rw [Yg] at h2; have h3 : decide (vo (x.take (d : Int).toNat) j ≠ 0) = false := by
    cases hc3 : decide (vo (x.take (d : Int).toNat) j ≠ 0) with
    | false => rfl
    | true => exact absurd ⟨j, by omega, hc3⟩ h2
   rw [Ja6 (by simpa using hj), hv j (by omega), hkk] at h3; have h4 := of_decide_eq_false h3; omega
  .intro hD; cases hb : (x.take (d : Int).toNat).any (fun x => decide (x ≠ 0)) with
   | false => rfl
   | true =>
    obtain ⟨i, hi, hf⟩ := Yg.1 hb; rw [Ja6 (by simpa using (by omega : i < d)), hv i (by omega), hkk, hD i (by omega)] at hf; exact absurd hf (by decide)
theorem Zs (o : LI) : vo (o ++ [(1 : Int)]) = fun i => if i = o.length then 1 else vo o i := by
 funext i; unfold vo; rw [List.getD_eq_getElem?_getD, List.getD_eq_getElem?_getD]; rcases Nat.lt_trichotomy i o.length with h | h | h
 .rw [List.getElem?_append_left h, if_neg (by omega)]
 .subst h; simp
 .rw [if_neg (by omega), List.getElem?_eq_none (by simp; omega), List.getElem?_eq_none (by omega)]
theorem Jfc {p : Nat} {o : LI} (hp : 2 <= p) (ho : Cn p o.length (vo o)) : Cn p (o.length + 1) (vo (o ++ [(1 : Int)])) := fun i hi => by
 rw [Zs]; dsimp only; split
 .omega
 .exact ho i (by omega)
theorem Jdo {p : Nat} {l o : LI} {Q : Bool -> Prop} (hp : 2 <= p) (hp2 : p <= 256) (hl : Cn p l.length (vo l)) (ho : Cn p o.length (vo o)) (hd : 0 < l.length) (hdn : l.length <= o.length) (hn : o.length <= 1000)
  (h : ∀ b : Bool, (b = true ↔ Dvd p l.length (vo l) (fun i => if i = o.length then 1 else vo o i) (o.length + 1)) -> Q b) : Qt l o p Q := by
 unfold Qt; simp only [List.nil_append]; rw [<- Zs] at h; have hcR := Jfc hp ho; have hnn : (o ++ [(1 : Int)]).length = o.length + 1 := by simp
 refine ⟨by omega, by omega, Jm (by omega) (by omega), ?_⟩; generalize hdd : l.length = d at *
 generalize hN : o.length + 1 = n at *
 generalize hoo : o ++ [(1 : Int)] = r at *
 refine ⟨fun x z => ∃ k : Nat, z = (n : Int) - 1 - k /\ k <= n - d /\ x.length = n /\ ∀ j, j < n -> vo x j = if j + k < n then rem p d (vo l) (vo r) n k j else 0, fun x z => (z + 1).toNat, ⟨0, by omega, by omega, hnn, fun j hj => by rw [if_pos (by omega)]; rfl⟩, ?_⟩; rintro x _ ⟨k, rfl, hk, hx, hv⟩; dsimp only; have hc := Jdy (d := d) (l := vo l) (n := n) (p := p) (by omega) hcR k; refine ⟨fun hle => ⟨⟨by omega, by omega⟩, ?_⟩, fun hgt => ?_⟩
 .obtain ⟨i, hi⟩ : ∃ i : Nat, (n : Int) - 1 - k = i := ⟨n - 1 - k, by omega⟩
  rw [hi]; have hin : i = n - 1 - k := by omega
  have hxi : vo x i = rem p d (vo l) (vo r) n k i := by rw [hv i (by omega), if_pos (by omega)]
  refine ⟨fun y z => ∃ t : Nat, z = t /\ t <= d /\ y.length = n /\ ∀ j, j < n -> vo y j = if i <= j + d /\ j + d < i + t then rem p d (vo l) (vo r) n (k + 1) j else vo x j, fun y z => (d - z).toNat, ⟨0, rfl, Nat.zero_le _, hx, fun j hj => by rw [if_neg (by omega)]⟩, ?_⟩; rintro y _ ⟨t, rfl, ht, hy, hw⟩; dsimp only; have e1 : (i : Int) - (d : Int) + (t : Int) = ((i - d + t : Nat) : Int) := by omega
  rw [e1, JB, JB, JB, Qd, Qd]; refine ⟨fun hlt => ?_, fun hge => ?_⟩
  .have hyj : vo y (i - d + t) = rem p d (vo l) (vo r) n k (i - d + t) := by rw [hw _ (by omega), if_neg (by omega), hv _ (by omega), if_pos (by omega)]
   have c1 := hl t (by omega); have c2 := hc i (by omega); have c3 := hc (i - d + t) (by omega); rw [hxi, hyj]; have c4 := Q1 (a := (p : Int) - rem p d (vo l) (vo r) n k i) (b := vo l t) hp2 ⟨by omega, by omega⟩ ⟨c1.1, by omega⟩; refine ⟨Jm (by omega) (by omega), Jm (by omega) (by omega), Jm (by omega) (by omega), Jm (by omega) (by omega), ⟨by omega, by omega⟩, Jm (by omega) (by omega), ⟨by omega, by omega⟩, Jm (by omega) (by omega), Jm (by omega) (by omega), by omega, ⟨by omega, by omega⟩, Jm (by omega) (by omega), ⟨t + 1, by push_cast; rfl, by omega, by rw [List.length_set, hy], fun j hj => ?_⟩, by omega⟩; rw [JP]; by_cases hjt : i - d + t = j
   .subst hjt; rw [if_pos ⟨rfl, by omega⟩, if_pos (by omega), Ja8 (by omega) c3.1 (by omega) c1.1]; show _ = rst p d (n - 1 - k) (vo l) (rem p d (vo l) (vo r) n k) (i - d + t); unfold rst; rw [<- hin, if_pos (by omega), show i - d + t + d - i = t by omega, Int.mul_comm]
   .rw [if_neg (fun h => hjt h.1), hw j hj]; by_cases hc2 : i <= j + d /\ j + d < i + t
    .rw [if_pos hc2, if_pos (by omega)]
    .rw [if_neg hc2, if_neg (by omega)]
  .refine ⟨⟨by omega, by omega⟩, Jm (by omega) (by omega), ⟨k + 1, by omega, by omega, by rw [List.length_set, hy], fun j hj => ?_⟩, by omega⟩; rw [JP]; by_cases hij : i = j
   .subst hij; rw [if_pos ⟨rfl, by omega⟩, if_neg (by omega)]
   .rw [if_neg (fun h => hij h.1), hw j hj]; have htd : t = d := by omega
    by_cases hc2 : i <= j + d /\ j + d < i + t
    .rw [if_pos hc2, if_pos (by omega)]
    .rw [if_neg hc2, hv j hj]; by_cases hjk : j + k < n
     .rw [if_pos hjk, if_pos (by omega)]; show _ = rst p d (n - 1 - k) (vo l) (rem p d (vo l) (vo r) n k) j; unfold rst; rw [<- hin, if_neg (by omega)]
     .rw [if_neg hjk, if_neg (by omega)]
 .have hkk : k = n - d := by omega
  refine ⟨fun z => ∃ t : Nat, z = t /\ t <= n /\ ∀ j, j < t -> vo x j = 0, fun z => (n - z).toNat, ⟨0, rfl, Nat.zero_le _, fun j hj => by omega⟩, ?_⟩; rintro _ ⟨t, rfl, ht, hz⟩; dsimp only; rw [JB]; refine ⟨fun hlt => ⟨⟨by omega, by omega⟩, fun hne => ?_, fun heq => ⟨Jm (by omega) (by omega), ⟨t + 1, by push_cast; rfl, by omega, fun j hj => ?_⟩, by omega⟩⟩, fun hge => ?_⟩
  .refine h false ⟨fun h' => absurd h' (by decide), fun hD => ?_⟩; rw [hv t (by omega)] at hne; by_cases hc2 : t + k < n
   .rw [if_pos hc2, hkk, hD t (by omega)] at hne; exact absurd rfl hne
   .rw [if_neg hc2] at hne; exact absurd rfl hne
  .by_cases hjt : j = t
   .subst hjt; omega
   .exact hz j (by omega)
  .refine h true ⟨fun _ j hj => ?_, fun _ => rfl⟩; have h1 := hz j (by omega); rw [hv j (by omega), if_pos (by omega), hkk] at h1; exact h1
theorem Qz {p d w : Nat} (hw : w < p ^ d) : vo (dgi p d w) = dv p w := by
 funext i; rcases Nat.lt_or_ge i d with h | h
 .exact Qn h
 .rw [vo_hi (by rw [JA]; exact h), Ji3 hw h]
theorem Zc {p d w : Nat} (hp : 0 < p) (hw : w < p ^ d) (n : Nat) : Cn p n (vo (dgi p d w)) := by rw [Qz hw]; exact Jav hp w n
theorem Jjw {p m : Nat} {mf : LI} {Q : Bool -> Prop} (hp : 2 <= p) (hp2 : p <= 256) (hm : mf.length = m) (hq : p ^ m <= 256) (hc : Cn p m (vo mf))
  (h : ∀ b : Bool, (b = true ↔ Irr p m (vo mf)) -> Q b) : J4 p m mf Q := by
 have hm9 : m <= 8 := by
  rcases Nat.lt_or_ge 8 m with h1 | h1
  .have e1 : 2 ^ 9 <= p ^ 9 := Nat.pow_le_pow_left (by omega) 9; have e2 := JQ (p := p) (by omega) (show 9 <= m by omega); omega
  .exact h1
 refine Ja5 (by omega) ⟨by omega, ?_⟩; have hlen : (mf ++ [(1 : Int)]).length = m + 1 := by simp [hm]
 have hcs : Cn p (m + 1) (vo (mf ++ [(1 : Int)])) := by have := Jfc hp (o := mf) (by rw [hm]; exact hc); rwa [hm] at this
 have hpd : ∀ d, 2 * d <= m -> p ^ d <= 256 := fun d hd => Nat.le_trans (JQ (by omega) (by omega)) hq; refine ⟨fun a b => ∃ d : Nat, a = d /\ 1 <= d /\ 2 * (d - 1) <= m /\ b = ((p ^ d : Nat) : Int) /\ p ^ d <= 65536 /\ ∀ e, 0 < e -> e < d -> 2 * e <= m -> ∀ w, w < p ^ e -> ¬ Dvd p e (dv p w) (fun i => if i = m then 1 else vo mf i) (m + 1), fun a b => (20 - a).toNat, ⟨1, rfl, by omega, by omega, by simp, by simp; omega, fun e h1 h2 => by omega⟩, ?_⟩; rintro _ _ ⟨d, rfl, hd1, hd2, rfl, hdp, hnd⟩; dsimp only; refine ⟨Jm (by omega) (by omega), fun hle => ?_, fun hgt => ?_⟩
 .have hpd' := hpd d (by omega); refine ⟨fun z => ∃ w : Nat, z = w /\ w <= p ^ d /\ ∀ u, u < w -> ¬ Dvd p d (dv p u) (fun i => if i = m then 1 else vo mf i) (m + 1), fun z => ((p ^ d : Nat) - z).toNat, ⟨0, rfl, Nat.zero_le _, fun u hu => by omega⟩, ?_⟩; rintro _ ⟨w, rfl, hw, hnw⟩; dsimp only; refine ⟨fun hlt => ?_, fun hge => ?_⟩
  .have hw2 : w < p ^ d := by omega
   refine ⟨_, ZD (by omega) (by omega) (by omega) rfl, ?_⟩; have hdl := JA p d w; refine (?_ : ∃ r : Bool, QD p (dgi p d w) (mf ++ [(1 : Int)]) (fun q => q = r) /\ _); by_cases hD : Dvd p d (dv p w) (fun i => if i = m then 1 else vo mf i) (m + 1)
   .refine ⟨true, Jak (by omega) hp2 (by rw [hdl]; exact Zc (by omega) hw2 d) (by rw [hlen]; exact hcs) (by omega) (by omega) (by omega) fun b hb => ?_, fun _ => ?_, fun h' => absurd h' (by decide)⟩
    .rw [hdl, hlen, Qz hw2, Zs, hm] at hb; exact hb.2 hD
    .exact h false ⟨fun h' => absurd h' (by decide), fun hI => absurd hD (hI d (by omega) (by omega) w hw2)⟩
   .refine ⟨false, Jak (by omega) hp2 (by rw [hdl]; exact Zc (by omega) hw2 d) (by rw [hlen]; exact hcs) (by omega) (by omega) (by omega) fun b hb => ?_, fun h' => absurd h' (by decide), fun _ => ?_⟩
    .rw [hdl, hlen, Qz hw2, Zs, hm] at hb; cases b with
     | false => rfl
     | true => exact absurd (hb.1 rfl) hD
    .refine ⟨Jm (by omega) (by omega), ⟨w + 1, by push_cast; rfl, by omega, fun u hu => ?_⟩, by omega⟩; by_cases huw : u = w
     .subst huw; exact hD
     .exact hnw u (by omega)
  .have e1 : ((p ^ d : Nat) : Int) * (p : Int) = ((p ^ (d + 1) : Nat) : Int) := by rw [Nat.pow_succ]; push_cast; rfl
   have hb2 : p ^ (d + 1) <= 65536 := by
    rw [Nat.pow_succ]; have := Nat.mul_le_mul hpd' hp2; omega
   rw [e1]; refine ⟨Jm (by omega) (by omega), J1 (by omega), ⟨d + 1, by push_cast; rfl, by omega, by omega, rfl, hb2, fun e he0 he h2 u hu => ?_⟩, by omega⟩; by_cases hed : e = d
   .subst hed; exact hnw u (by omega)
   .exact hnd e he0 (by omega) h2 u hu
 .exact h true ⟨fun _ e he0 h2 u hu => hnd e he0 (by omega) h2 u hu, fun _ => rfl⟩
theorem v_rirr {p m : Nat} {mf : LI} {Q : Bool -> Prop} (hp : 2 <= p) (hp2 : p <= 256) (hm : mf.length = m) (hq : p ^ m <= 256) (hc : Cn p m (vo mf))
  (h : ∀ b : Bool, (b = true ↔ Irr p m (vo mf)) -> Q b) : Z5 mf p Q := by
 have hm9 : m <= 8 := by
  rcases Nat.lt_or_ge 8 m with h1 | h1
  .have e1 : 2 ^ 9 <= p ^ 9 := Nat.pow_le_pow_left (by omega) 9; have e2 := JQ (p := p) (by omega) (show 9 <= m by omega); omega
  .exact h1
 unfold Z5; rw [hm]; have hpd : ∀ d, 2 * d <= m -> p ^ d <= 256 := fun d hd => Nat.le_trans (JQ (by omega) (by omega)) hq; refine ⟨fun b a => ∃ d : Nat, a = d + 1 /\ 2 * d <= m /\ b = ((p ^ d : Nat) : Int) /\ ∀ e, 0 < e -> e <= d -> 2 * e <= m -> ∀ w, w < p ^ e -> ¬ Dvd p e (dv p w) (fun i => if i = m then 1 else vo mf i) (m + 1), fun b a => (20 - a).toNat, ⟨0, rfl, by omega, by simp, fun e h1 h2 => by omega⟩, ?_⟩; rintro _ _ ⟨d, rfl, hd2, rfl, hnd⟩; dsimp only; have hpd' := hpd d hd2; refine ⟨Jm (by omega) (by omega), fun hle => ?_, fun hgt => ?_⟩
 .have e1 : ((p ^ d : Nat) : Int) * (p : Int) = ((p ^ (d + 1) : Nat) : Int) := by rw [Nat.pow_succ]; push_cast; rfl
  have hpd2 := hpd (d + 1) (by omega); rw [e1]; refine ⟨J1 (by omega), ?_⟩; refine ⟨fun z => ∃ w : Nat, z = w /\ w <= p ^ (d + 1) /\ ∀ u, u < w -> ¬ Dvd p (d + 1) (dv p u) (fun i => if i = m then 1 else vo mf i) (m + 1), fun z => ((p ^ (d + 1) : Nat) - z).toNat, ⟨0, rfl, Nat.zero_le _, fun u hu => by omega⟩, ?_⟩; rintro _ ⟨w, rfl, hw, hnw⟩; dsimp only; rw [show (d : Int) + 1 = ((d + 1 : Nat) : Int) by push_cast; rfl]; refine ⟨fun hlt => ?_, fun hge => ?_⟩
  .have hw2 : w < p ^ (d + 1) := by omega
   have hdl := JA p (d + 1) w; refine Jai (by omega) (by omega) (by omega) (Jdo hp hp2 (by rw [hdl]; exact Zc (by omega) hw2 _) (by rw [hm]; exact hc) (by omega) (by omega) (by omega) fun b hb => ?_); rw [hdl, hm, Qz hw2] at hb; refine ⟨fun hb1 => ?_, fun hb0 => ?_⟩
   .exact h false ⟨fun h' => absurd h' (by decide), fun hI => absurd (hb.1 hb1) (hI (d + 1) (by omega) (by omega) w hw2)⟩
   .refine ⟨Jm (by omega) (by omega), ⟨w + 1, by push_cast; rfl, by omega, fun u hu => ?_⟩, by omega⟩; by_cases huw : u = w
    .subst huw; intro hD; rw [hb.2 hD] at hb0; exact absurd hb0 (by decide)
    .exact hnw u (by omega)
  .refine ⟨Jm (by omega) (by omega), ⟨d + 1, rfl, by omega, rfl, fun e he0 he h2 u hu => ?_⟩, by omega⟩; by_cases hed : e = d + 1
   .subst hed; exact hnw u (by omega)
   .exact hnd e he0 (by omega) h2 u hu
 .exact h true ⟨fun _ e he0 h2 u hu => hnd e he0 (by omega) h2 u hu, fun _ => rfl⟩
structure FV (P M : Int) (mf : LI) (p m v : Nat) : Prop where
  eP : P = p
  eM : M = m
  pr : IsLf p p
  m0 : 0 < m
  q : p ^ m <= 256
  vlt : v < p ^ m
  m1 : m = 1 -> mf = [] /\ v = 0
  m2 : m ≠ 1 -> mf = dgi p m v
  irr : Irr p m (dv p v)
def Z4 (P M : Int) (mf : LI) : Prop := ∃ p m v, FV P M mf p m v
open Classical in
noncomputable def ck (P M : Int) (mf : LI) : Int := if Z4 P M mf then 0 else 1
theorem Jaw {P M : Int} {mf : LI} (h : Z4 P M mf) : ck P M mf = 0 := if_pos h
theorem Ql {P M : Int} {mf : LI} (h : ¬ Z4 P M mf) : ck P M mf = 1 := if_neg h
theorem Jkg (p : Nat) (c : Vec) : Irr p 1 c := fun d h1 h2 => by omega
theorem Jag {p : Nat} (hp : IsLf p p) (hq : p <= 256) : FV p ((1 : Nat) : Int) [] p 1 0 := ⟨rfl, rfl, hp, by omega, by simpa using hq, by have := hp.two; simp; omega, fun _ => ⟨rfl, rfl⟩, fun h => absurd rfl h, Jkg p _⟩
theorem Jfv {p m : Nat} {mf : LI} (hp : 0 < p) (hl : mf.length = m) (hc : Cn p m (vo mf)) : nm p m (vo mf) < p ^ m /\ mf = dgi p m (nm p m (vo mf)) /\ vo mf = dv p (nm p m (vo mf)) := by
 have hlt := Yr (m := m) hp (vo mf); have he : mf = dgi p m (nm p m (vo mf)) := YZ (by rw [hl, JA]) fun i hi => by
  have h1 := hc i (by omega); rw [Qn (by omega), Jft hp _ (by omega), Int.emod_eq_of_lt h1.1 h1.2]
 exact ⟨hlt, he, by have := congrArg vo he; rw [Qz hlt] at this; exact this⟩
theorem FV.cn {P M : Int} {mf : LI} {p m v : Nat} (h : FV P M mf p m v) (hm : m ≠ 1) : mf.length = m /\ Cn p m (vo mf) /\ Irr p m (vo mf) := by
 have := h.pr.two; rw [h.m2 hm]; exact ⟨JA p m v, Zc (by omega) h.vlt m, by rw [Qz h.vlt]; exact h.irr⟩
theorem FV.vo {P M : Int} {mf : LI} {p m v : Nat} (h : FV P M mf p m v) : Go.Proofs.Ytgcdbnpenhclfaa.vo mf = dv p v := by
 by_cases hm : m = 1
 .rw [(h.m1 hm).1, (h.m1 hm).2, Jac]; rfl
 .rw [h.m2 hm, Qz h.vlt]
theorem Jjx {P M : Int} {mf : LI} {Q : Int -> Prop} (h : Q (ck P M mf)) : Zz P M mf Q := by
 refine ⟨fun h1 => ?_, fun h1 => Jf9 (by omega) fun b hb => ⟨fun hb0 => ?_, fun hb1 => ?_⟩⟩
 .rw [Ql] at h
  .exact h
  .rintro ⟨p, m, v, hV⟩; have e1 := JQ (p := p) (by have := hV.pr.two; omega) hV.m0; have := hV.q; have := hV.eP; rw [show p ^ (0 + 1) = p from Nat.pow_one p] at e1; omega
 .rw [Ql] at h
  .exact h
  .rintro ⟨p, m, v, hV⟩; have := hV.pr.two; have : b = true := hb.2 ⟨by rw [hV.eP]; omega, by rw [hV.eP]; exact hV.pr⟩; rw [this] at hb0; exact absurd hb0 (by decide)
 .have hbt : b = true := by cases b <;> first | rfl | exact absurd hb1 (by decide)
  obtain ⟨hP2, hPr⟩ := hb.1 hbt; obtain ⟨p, rfl⟩ := Int.eq_ofNat_of_zero_le (show 0 <= P by omega); rw [Int.toNat_natCast] at hPr; refine ⟨fun h2 => ?_, fun h2 => Ja3 (by omega) (by omega) fun r hr1 hr2 => ⟨fun h3 => ?_, fun h3 => ?_⟩⟩
  .rw [Ql] at h
   .exact h
   .rintro ⟨p', m, v, hV⟩; have := hV.m0; have := hV.eM; omega
  .rw [Ql] at h
   .exact h
   .rintro ⟨p', m, v, hV⟩; have e1 := hV.eM; have e2 := hV.eP; have e3 := hV.q; have : p = p' := by omega
    subst this; rw [e1, Int.toNat_natCast] at hr1; have := hr1 e3; omega
  .obtain ⟨m, rfl⟩ := Int.eq_ofNat_of_zero_le (show 0 <= M by omega); rw [Int.toNat_natCast] at hr1 hr2; have hq : p ^ m <= 256 := by
    rcases Nat.lt_or_ge 256 (p ^ m) with hc | hc
    .exact absurd (hr2 hc) h3
    .exact hc
   refine ⟨fun h4 => Jhw ?_, fun h4 => ⟨fun h5 => ?_, fun h5 => ?_⟩⟩
   .have hm1 : m = 1 := by omega
    subst hm1; by_cases hl : mf = []
    .subst hl; rw [Jaw ⟨_, _, _, Jag hPr (by omega)⟩] at h
     simpa using h
    .rw [Ql] at h
     .simpa [hl] using h
     .rintro ⟨p', m, v, hV⟩; exact hl (hV.m1 (by have := hV.eM; omega)).1
   .rw [Ql] at h
    .exact h
    .rintro ⟨p', m', v, hV⟩; have e1 := hV.eM; have := (hV.cn (by omega)).1; omega
   .have hlen : mf.length = m := by omega
    have hm8 : mf.length <= 1000000000 := by
     have := Nat.lt_two_pow_self (n := m); have e1 : 2 ^ m <= p ^ m := Nat.pow_le_pow_left (by omega) m; omega
    refine ZE (f := fun x => if x < 0 then true else decide ((p : Int) <= x)) hm8 (fun x R hR => ⟨fun hx => by simpa [hx] using hR, fun hx => by simpa [hx] using hR⟩) ⟨fun hb6 => ?_, fun hb6 => ?_⟩
    .rw [Ql] at h
     .exact h
     .rintro ⟨p', m', v, hV⟩; have e1 := hV.eM; have e2 := hV.eP; have e3 : p = p' := by omega
      have e4 : m = m' := by omega
      subst e3; subst e4; obtain ⟨i, hi, hf⟩ := Yg.1 hb6; have hcn := (hV.cn (by omega)).2.1 i (by omega); rw [if_neg (by omega)] at hf; have := of_decide_eq_true hf; omega
    .have hcn : Cn p m (vo mf) := fun i hi => by
      have h6 : ¬ mf.any (fun x => if x < 0 then true else decide ((p : Int) <= x)) = true := by rw [hb6]; decide
      rw [Yg] at h6; by_cases hx : vo mf i < 0
      .exact absurd ⟨i, by omega, by rw [if_pos hx]⟩ h6
      .by_cases hx2 : (p : Int) <= vo mf i
       .exact absurd ⟨i, by omega, by rw [if_neg hx, decide_eq_true hx2]⟩ h6
       .omega
     have hcl := Jfv (by omega) hlen hcn; refine Jjw (by omega) (by omega) hlen hq hcn fun b2 hb2 => Jhw ?_; by_cases hI : Irr p m (vo mf)
     .rw [hb2.2 hI, if_pos rfl]; rw [Jaw ⟨p, m, nm p m (vo mf), rfl, rfl, hPr, by omega, hq, hcl.1, fun e => by omega, fun _ => hcl.2.1, by rw [<- hcl.2.2]; exact hI⟩] at h; exact h
     .rw [if_neg (fun e => hI (hb2.1 e))]; rw [Ql] at h
      .exact h
      .rintro ⟨p', m', v, hV⟩; have e1 := hV.eM; have e2 := hV.eP; have e3 : p = p' := by omega
       have e4 : m = m' := by omega
       subst e3; subst e4; exact hI (hV.cn (by omega)).2.2
theorem Jb4 {P M : Int} {mf : LI} {Q : Int -> Prop} (h : Q (ck P M mf)) : Q6 P M mf Q := by
 refine Jb3 ⟨fun h0 => ?_, fun h0 => ?_⟩
 .rw [Ql] at h
  .exact h
  .rintro ⟨p, m, v, hV⟩; have h1 := hV.pr.two; have h2 := hV.m0; have h3 := hV.q; rw [hV.eP, hV.eM, Z8, if_pos ⟨by omega, by omega, by simpa using h3⟩] at h0; have h4 : 0 < p ^ m := Nat.pow_pos (by omega); simp only [Int.toNat_natCast] at h0; omega
 .unfold Z8 at h0; by_cases hc : 2 <= P /\ 1 <= M /\ P.toNat ^ M.toNat <= 256
  .obtain ⟨h1, h2, hq⟩ := hc; obtain ⟨p, rfl⟩ := Int.eq_ofNat_of_zero_le (show 0 <= P by omega); obtain ⟨m, rfl⟩ := Int.eq_ofNat_of_zero_le (show 0 <= M by omega); simp only [Int.toNat_natCast] at hq; have hp256 : p <= 256 := by
    have := JQ (p := p) (by omega) (show 1 <= m by omega); rw [Nat.pow_one] at this; omega
   refine Jht (by omega) hp256 fun b hb => ⟨fun hb0 => ?_, fun hb1 => ?_⟩
   .rw [Ql] at h
    .exact h
    .rintro ⟨p', m', v, hV⟩; have e2 := hV.eP; have e3 : p = p' := by omega
     subst e3; rw [hb.2 hV.pr] at hb0; exact absurd hb0 (by decide)
   .have hbt : b = true := by cases b <;> first | rfl | exact absurd hb1 (by decide)
    have hPr := hb.1 hbt; refine ⟨fun h4 => ⟨fun h5 => ?_, fun h5 => ?_⟩, fun h4 => ⟨fun h5 => ?_, fun h5 => ?_⟩⟩
    .rw [Ql] at h
     .exact h
     .rintro ⟨p', m', v, hV⟩; have e1 := hV.eM; have := (hV.m1 (by omega)).1; rw [this] at h5; exact h5 rfl
    .have hm1 : m = 1 := by omega
     subst hm1; have hl : mf = [] := List.length_eq_zero_iff.1 (by omega); subst hl; rw [Jaw ⟨_, _, _, Jag hPr hp256⟩] at h; exact h
    .rw [Ql] at h
     .exact h
     .rintro ⟨p', m', v, hV⟩; have e1 := hV.eM; have := (hV.cn (by omega)).1; omega
    .have hlen : mf.length = m := by omega
     refine ⟨fun z => ∃ k : Nat, z = k /\ k <= m /\ Cn p k (vo mf), fun z => (m - z).toNat, ⟨0, rfl, Nat.zero_le _, fun i hi => by omega⟩, ?_⟩; rintro _ ⟨k, rfl, hk, hcn⟩; dsimp only; rw [JB]; have hno : ¬ (0 <= vo mf k /\ vo mf k < p) -> k < m -> ¬ Z4 p m mf := by
      rintro hbad hkm ⟨p', m', v, hV⟩; have e1 := hV.eM; have e2 := hV.eP; have e3 : p = p' := by omega
      have e4 : m = m' := by omega
      subst e3; subst e4; exact hbad ((hV.cn (by omega)).2.1 k hkm)
     have hm8 : m <= 1000000000 := by
      have := Nat.lt_two_pow_self (n := m); have e1 : 2 ^ m <= p ^ m := Nat.pow_le_pow_left (by omega) m; omega
     refine ⟨fun hlt => ⟨fun hneg => ⟨⟨by omega, by omega⟩, ?_⟩, fun hpos => ⟨⟨by omega, by omega⟩, ⟨by omega, by omega⟩, fun hbig => ?_, fun hsm => ⟨Jm (by omega) (by omega), ⟨k + 1, by push_cast; rfl, by omega, fun i hi => ?_⟩, by omega⟩⟩⟩, fun hge => ?_⟩
     .rw [Ql (hno (by omega) (by omega))] at h; exact h
     .rw [Ql (hno (by omega) (by omega))] at h; exact h
     .by_cases hik : i = k
      .subst hik; omega
      .exact hcn i (by omega)
     .have hkm : k = m := by omega
      subst hkm; have hcl := Jfv (by omega) hlen hcn; refine v_rirr (by omega) hp256 hlen hq hcn fun b2 hb2 => ⟨fun hb3 => ?_, fun hb3 => ?_⟩
      .rw [Ql] at h
       .exact h
       .rintro ⟨p', m', v, hV⟩; have e1 := hV.eM; have e2 := hV.eP; have e3 : p = p' := by omega
        have e4 : k = m' := by omega
        subst e3; subst e4; rw [hb2.2 (hV.cn (by omega)).2.2] at hb3; exact absurd hb3 (by decide)
      .have hbt2 : b2 = true := by cases b2 <;> first | rfl | exact absurd hb3 (by decide)
       rw [Jaw ⟨p, k, nm p k (vo mf), rfl, rfl, hPr, by omega, hq, hcl.1, fun e => by omega, fun _ => hcl.2.1, by rw [<- hcl.2.2]; exact hb2.1 hbt2⟩] at h; exact h
  .rw [if_neg hc] at h0; exact absurd rfl h0
end Go.Proofs.Ytgcdbnpenhclfaa
namespace Go.Proofs.Ytgcdbnpenhclfaa
theorem YM {p m : Nat} {r : LI} {u : Vec} (hp : 0 < p) (hl : r.length = m) (hv : ∀ i, i < m -> vo r i = u i % (p : Int)) : r = dgi p m (nm p m u) :=
  YZ (by rw [hl, JA]) fun i hi => by rw [hv i (by omega), Qn (by omega), Jft hp _ (by omega)]
theorem Zt (p i : Nat) (l : LI) (n : Nat) (h : i < n) : vl p (i + 1) (fun t => vo l (n - (i + 1) + t)) = vo l (n - (i + 1)) + (p : Int) * vl p i (fun t => vo l (n - i + t)) := by
 show vo l (n - (i + 1) + 0) + (p : Int) * vl p i (fun t => vo l (n - (i + 1) + (t + 1))) = _; rw [Nat.add_zero]; have : (fun t => vo l (n - (i + 1) + (t + 1))) = fun t => vo l (n - i + t) := by
  funext t; rw [show n - (i + 1) + (t + 1) = n - i + t by omega]
 rw [this]
theorem Zu {p : Nat} {l : LI} {n i : Nat} (hp : 2 <= p) (hc : Cn p n (vo l)) (hq : p ^ n <= 256) (hi : i <= n) : 0 <= vl p i (fun t => vo l (n - i + t)) /\ vl p i (fun t => vo l (n - i + t)) < 256 := by
 have h1 := Je4 (p := p) (n := i) (v := fun t => vo l (n - i + t)) (by omega) (fun t ht => hc (n - i + t) (by omega)); have h2 := JQ (p := p) (by omega) hi; omega
theorem Ja4 {p : Nat} {l : LI} {Q : Int -> Prop} (hp : 2 <= p) (hp2 : p <= 256) (hc : Cn p l.length (vo l)) (hq : p ^ l.length <= 256) (h : Q (vl p l.length (vo l))) : Qo p l Q := by
 refine ⟨fun i z => i <= l.length /\ z = vl p i (fun t => vo l (l.length - i + t)), ⟨Nat.zero_le _, rfl⟩, ?_, ?_⟩
 .rintro i hi _ ⟨_, rfl⟩; have h1 := Zu hp hc hq (i := i) (by omega); have h2 := Zu hp hc hq (i := i + 1) (by omega); rw [Zt p i l l.length hi] at h2; have h3 := Q1 (a := vl p i (fun t => vo l (l.length - i + t))) (b := p) (p := 256) (by omega) ⟨h1.1, by omega⟩ ⟨by omega, by omega⟩; rw [show ((l.length - 1 - i : Nat) : Int) = ((l.length - (i + 1) : Nat) : Int) by omega, JB]; refine ⟨Jm (by omega) (by omega), ?_, by omega, ?_⟩
  .rw [Int.mul_comm, Int.add_comm]; exact Jm (by omega) (by omega)
  .rw [Zt p i l l.length hi, Int.mul_comm, Int.add_comm]
 .rintro _ ⟨_, rfl⟩; have : (fun t => vo l (l.length - l.length + t)) = vo l := by funext t; rw [Nat.sub_self, Nat.zero_add]
  rw [this]; exact h
theorem Jhu {p : Nat} {M : Int} {mf l : LI} {Q : Int -> Prop} (hp : 2 <= p) (hp2 : p <= 256) (hl : l.length <= 1000) (hc : Cn p l.length (vo l)) (hq : p ^ l.length <= 256) (h : Q (vl p l.length (vo l))) : Q4 p M mf l Q := by
 refine ⟨Jm (by omega) (by omega), fun z j => ∃ i : Nat, j = (l.length : Int) - 1 - i /\ i <= l.length /\ z = vl p i (fun t => vo l (l.length - i + t)), fun z j => (j + 1).toNat, ⟨0, by omega, Nat.zero_le _, rfl⟩, ?_⟩; rintro _ _ ⟨i, rfl, hi, rfl⟩; dsimp only; refine ⟨fun hge => ?_, fun hlt => ?_⟩
 .have h1 := Zu hp hc hq (i := i) (by omega); have h2 := Zu hp hc hq (i := i + 1) (by omega); rw [Zt p i l l.length (by omega)] at h2; have h3 := Q1 (a := vl p i (fun t => vo l (l.length - i + t))) (b := p) (p := 256) (by omega) ⟨h1.1, by omega⟩ ⟨by omega, by omega⟩; rw [show (l.length : Int) - 1 - i = ((l.length - (i + 1) : Nat) : Int) by omega, JB]; refine ⟨Jm (by omega) (by omega), ⟨by omega, by omega⟩, ?_, Jm (by omega) (by omega), ⟨i + 1, by omega, by omega, ?_⟩, by omega⟩
  .rw [Int.mul_comm, Int.add_comm]; exact Jm (by omega) (by omega)
  .rw [Zt p i l l.length (by omega), Int.mul_comm, Int.add_comm]
 .have hil : i = l.length := by omega
  subst hil; have : (fun t => vo l (l.length - l.length + t)) = vo l := by funext t; rw [Nat.sub_self, Nat.zero_add]
  rw [this]; exact h
theorem Jhr {p m x : Nat} (hp : 0 < p) (hx : x < p ^ m) : vl p (dgi p m x).length (vo (dgi p m x)) = (x : Int) := by
 rw [JA, Qz hx, Jhq hp hx]
namespace FV
variable {P M : Int} {mf : LI} {p m v : Nat} (F : FV P M mf p m v)
include F
theorem p2 : 2 <= p := F.pr.two
theorem pq : p <= p ^ m := by
 have := JQ (p := p) (by have := F.pr.two; omega) F.m0
 rwa [show p ^ (0 + 1) = p from Nat.pow_one p] at this
theorem p256 : p <= 256 := Nat.le_trans F.pq F.q
theorem m8 : m <= 8 := by
 rcases Nat.lt_or_ge 8 m with h1 | h1
 .have e1 : 2 ^ 9 <= p ^ 9 := Nat.pow_le_pow_left F.p2 9; have e2 := JQ (p := p) (by have := F.p2; omega) (show 9 <= m by omega); have := F.q; omega
 .exact h1
theorem ring : CR (p ^ m) (Qs p m) (Js p m (dv p v)) := Je1 _ F.p2 F.m0
theorem gen : ∃ g, Gn (p ^ m) (Js p m (dv p v)) g := gen_ex F.pr F.m0 F.q F.vlt (fun h => (F.m1 h).2) F.irr
end FV
def sh (v : Vec) : Vec := fun i => if i = 0 then 0 else v (i - 1)
theorem Jh1 {m : Nat} {c v : Vec} {i : Nat} (hi : i < m) : tX m c v i = sh v i - c i * v (m - 1) := by simp only [tX, if_pos hi, sh]
theorem Jhs {P M : Int} {mf : LI} {p m v : Nat} (F : FV P M mf p m v) {x : Nat} {Q : LI -> Prop} (hx : x < p ^ m) (h : Q (dgi p m (nm p m (tX m (dv p v) (dv p x))))) : YP P M mf (dgi p m x) Q := by
 have hp := F.p2; have hp2 := F.p256; have hm0 := F.m0; have hm8 := F.m8; rw [F.eP, F.eM]; have hlen := JA p m x; have hcx := Jav (p := p) (by omega) x m; refine ⟨Jm (by omega) (by omega), ⟨by omega, by omega⟩, ⟨by omega, by omega⟩, ⟨by omega, by omega⟩, ?_⟩; generalize hA : (si ((dgi p m x).take ((1 : Int).toNat) ++ (dgi p m x).take (min (dgi p m x).length ((dgi p m x).length - ((1 : Int).toNat))) ++ (dgi p m x).drop ((1 : Int).toNat + (min (dgi p m x).length ((dgi p m x).length - ((1 : Int).toNat))))) (0 : Int) (0 : Int)) = A; have hAl : A.length = m := by
  rw [<- hA]; show (List.set _ _ _).length = m; rw [List.length_set]; simp only [List.length_append, List.length_take, List.length_drop, hlen]; show min 1 m + min (min m (m - 1)) m + (m - (1 + min m (m - 1))) = m; omega
 have hAv : ∀ i, i < m -> vo A i = sh (dv p x) i := fun i hi => by
  unfold sh; rw [<- hA]; show vo (List.set _ 0 0) i = _; rw [JP]; by_cases h0 : i = 0
  .subst h0; rw [if_pos ⟨rfl, by simp only [List.length_append, List.length_take, hlen]; show 0 < min 1 m + _ + _; omega⟩, if_pos rfl]
  .rw [if_neg (fun h => h0 h.1.symm), if_neg h0]; have e1 : ((dgi p m x).take ((1 : Int).toNat)).length = 1 := by rw [List.length_take, hlen]; show min 1 m = 1; omega
   have e2 : (min (dgi p m x).length ((dgi p m x).length - ((1 : Int).toNat))) = m - 1 := by rw [hlen]; show min m (m - 1) = m - 1; omega
   rw [e2]; have e3 : ((dgi p m x).take (m - 1)).length = m - 1 := by rw [List.length_take, hlen]; omega
   unfold vo; rw [List.getD_eq_getElem?_getD, List.append_assoc, List.getElem?_append_right (by omega), e1, List.getElem?_append_left (by omega), List.getElem?_take, if_pos (by omega)]; have := Qn (p := p) (x := x) (i := i - 1) (n := m) (by omega); unfold vo at this; rw [List.getD_eq_getElem?_getD] at this; exact this
 rw [show (m : Int) - 1 = ((m - 1 : Nat) : Int) by omega, JB, Qn (by omega)]; have hshift : ∀ i, i < m -> 0 <= sh (dv p x) i /\ sh (dv p x) i < p := fun i hi => by
  unfold sh; split
  .omega
  .exact hcx (i - 1) (by omega)
 refine ⟨fun h0 => ?_, fun h0 => ?_⟩
 .rw [YM (p := p) (u := tX m (dv p v) (dv p x)) (by omega) hAl fun i hi => ?_]
  .exact h
  .have := hshift i hi; rw [hAv i hi]; rw [Jh1 hi, h0, Int.mul_zero, Int.sub_zero, Int.emod_eq_of_lt this.1 this.2]
 .have hml : mf.length <= m := by
   by_cases hm1 : m = 1
   .rw [(F.m1 hm1).1]; simp
   .rw [F.m2 hm1, JA]; omega
  have hcv := Jav (p := p) (by omega) v m; have ht := hcx (m - 1) (by omega); refine ⟨fun l z => ∃ k : Nat, z = k /\ k <= mf.length /\ l.length = m /\ ∀ i, i < m -> vo l i = if i < k then tX m (dv p v) (dv p x) i % (p : Int) else vo A i, fun l z => (mf.length - z).toNat, ⟨0, rfl, Nat.zero_le _, hAl, fun i hi => by rw [if_neg (by omega)]⟩, ?_⟩; rintro l _ ⟨k, rfl, hk, hl, hv⟩; dsimp only; rw [JB, JB, Qd, F.vo]; refine ⟨fun hlt => ?_, fun hge => ?_⟩
  .have c1 := hcv k (by omega); have c2 := hshift k (by omega); have c3 := Q1 (a := (p : Int) - dv p v k) (b := dv p x (m - 1)) hp2 ⟨by omega, by omega⟩ ⟨ht.1, by omega⟩; rw [hv k (by omega), if_neg (by omega), hAv k (by omega)]; refine ⟨⟨by omega, by omega⟩, ⟨by omega, by omega⟩, Jm (by omega) (by omega), Jm (by omega) (by omega), Jm (by omega) (by omega), by omega, ⟨by omega, by omega⟩, Jm (by omega) (by omega), ⟨k + 1, by push_cast; rfl, by omega, by rw [List.length_set, hl], fun i hi => ?_⟩, by omega⟩; rw [JP]; by_cases hki : k = i
   .subst hki; rw [if_pos ⟨rfl, by omega⟩, if_pos (by omega), Ja8 (by omega) c2.1 (by omega) ht.1, Jh1 hi]
   .rw [if_neg (fun h => hki h.1), hv i hi]; by_cases hik : i < k
    .rw [if_pos hik, if_pos (by omega)]
    .rw [if_neg hik, if_neg (by omega)]
  .rw [YM (p := p) (u := tX m (dv p v) (dv p x)) (by omega) hl fun i hi => ?_]
   .exact h
   .rw [hv i hi]; by_cases hik : i < k
    .rw [if_pos hik]
    .rw [if_neg hik]; have hm1 : m = 1 := by
      by_cases hm1 : m = 1
      .exact hm1
      .rw [F.m2 hm1, JA] at hge hk; omega
     have hi0 : i = 0 := by omega
     rw [hAv i hi, Jh1 hi, (F.m1 hm1).2, Jac]; subst hi0; simp [sh, vz]
theorem hz_z {m : Nat} {c b y : Vec} {n : Nat} : ∀ {k : Nat}, k <= n -> (∀ i, n - k <= i -> i < n -> b i = 0) -> hz m c b y n k = vz
 | 0, _, _ => rfl
 | k + 1, hk, h => by
  show Jw (tX m c (hz m c b y n k)) (vsm (b (n - 1 - k)) y) = vz; rw [hz_z (k := k) (by omega) (fun i h1 h2 => h i (by omega) h2), h (n - 1 - k) (by omega) (by omega), tX_z]; funext i; simp [Jw, vsm, vz]
theorem hz_sup {m : Nat} {c b y : Vec} {n : Nat} (hy : Sup m y) : ∀ k, Sup m (hz m c b y n k)
 | 0 => Sup.z
 | k + 1 => Sup.add Sup.tX hy.sm
theorem rep_z (p m : Nat) : List.replicate m (0 : Int) = dgi p m 0 := YZ (by simp [JA]) fun i hi => by
 rw [Jdm, Qn (by simpa using hi), Jac]; rfl
theorem nm_z {p m : Nat} (hp : 0 < p) : nm p m vz = 0 := by rw [<- Jac p, Ys hp (Nat.pow_pos hp)]
theorem Jf8 {P M : Int} {mf : LI} {p m v : Nat} (F : FV P M mf p m v) {o : LI} {x y : Nat} {Q : LI -> Prop} (ho : o.length = m) (hx : x < p ^ m) (hy : y < p ^ m) (h : Q (dgi p m (Js p m (dv p v) x y))) : Yj P M mf o (dgi p m x) (dgi p m y) Q := by
 have hp := F.p2; have hp2 := F.p256; have hm0 := F.m0; have hm8 := F.m8; obtain rfl := F.eP; obtain rfl := F.eM; have hlx := JA p m x; have hly := JA p m y; have hcx := Jav (p := p) (by omega) x m; have hcy := Jav (p := p) (by omega) y m; refine ⟨Jm (by omega) (by omega), fun z => ∃ k : Nat, z = k /\ k < m /\ ∀ i, k < i -> i < m -> dv p y i = 0, ⟨fun z => ∃ k : Nat, z = k /\ k < m /\ ∀ i, k < i -> i < m -> dv p y i = 0, fun z => z.toNat, ⟨m - 1, by omega, by omega, fun i h1 h2 => by omega⟩, ?_⟩, ?_⟩
 .rintro _ ⟨k, rfl, hk, hzz⟩; dsimp only; refine ⟨fun hlt => ⟨⟨by omega, by omega⟩, fun h0 => ⟨Jm (by omega) (by omega), ⟨k - 1, by omega, by omega, fun i h1 h2 => ?_⟩, by omega⟩, fun _ => ⟨k, rfl, hk, hzz⟩⟩, fun _ => ⟨k, rfl, hk, hzz⟩⟩; rw [JB, Qn hk] at h0; by_cases hik : i = k
  .subst hik; exact h0
  .exact hzz i (by omega) h2
 .rintro _ ⟨k0, rfl, hk0, hzz⟩; refine ⟨fun l z => ∃ k : Nat, z = (m : Int) - 1 - k /\ k <= m /\ l = dgi p m (nm p m (hz m (dv p v) (dv p y) (dv p x) m k)), fun l z => (z + 1).toNat, ⟨m - 1 - k0, by omega, by omega, ?_⟩, ?_⟩
  .rw [hz_z (by omega) (fun i h1 h2 => hzz i (by omega) h2), nm_z (by omega), ho, rep_z p m]
  .rintro _ _ ⟨k, rfl, hk, rfl⟩; dsimp only; refine ⟨fun hge => Jhs F (Yr (by omega) _) ?_, fun hlt => ?_⟩
   .have hs := hz_sup (c := dv p v) (b := dv p y) (n := m) (Qe hx) k; rw [QI (vcg.tX (vcg.refl _) (Jc7 (by omega) hs))]; generalize hT : tX m (dv p v) (hz m (dv p v) (dv p y) (dv p x) m k) = T; have hnT := Yr (p := p) (m := m) (by omega) T; refine ⟨fun l z => ∃ t : Nat, z = t /\ t <= m /\ l.length = m /\ ∀ i, i < m -> vo l i = if i < t then (T i + dv p y (m - 1 - k) * dv p x i) % (p : Int) else T i % (p : Int), fun l z => (m - z).toNat, ⟨0, rfl, Nat.zero_le _, JA _ _ _, fun i hi => by rw [if_neg (by omega), Qn hi, Jft (by omega) _ hi]⟩, ?_⟩; rintro l _ ⟨t, rfl, ht, hl, hv⟩; dsimp only; rw [show (m : Int) - 1 - k = ((m - 1 - k : Nat) : Int) by omega, JB, JB, JB, Qd]; rw [hlx]; refine ⟨fun hlt => ?_, fun hge2 => ?_⟩
    .rw [hv t (by omega), if_neg (by omega), Qn (by omega), Qn (by omega)]; have c1 := hcy (m - 1 - k) (by omega); have c2 := hcx t (by omega); have c3 := Q1 (a := dv p y (m - 1 - k)) (b := dv p x t) hp2 ⟨c1.1, by omega⟩ ⟨c2.1, by omega⟩; have c4 : 0 <= T t % (p : Int) /\ T t % (p : Int) < p := ⟨Int.emod_nonneg _ (by omega), Int.emod_lt_of_pos _ (by omega)⟩
     refine ⟨⟨by omega, by omega⟩, ⟨by omega, by omega⟩, ⟨by omega, by omega⟩, Jm (by omega) (by omega), Jm (by omega) (by omega), by omega, ⟨by omega, by omega⟩, Jm (by omega) (by omega), ⟨t + 1, by push_cast; rfl, by omega, by rw [List.length_set, hl], fun i hi => ?_⟩, by omega⟩; rw [JP]; by_cases hti : t = i
     .subst hti; rw [if_pos ⟨rfl, by omega⟩, if_pos (by omega), Int.tmod_eq_emod_of_nonneg (by omega)]; exact Zd (Int.emod_emod _ _) rfl
     .rw [if_neg (fun h => hti h.1), hv i hi]; by_cases hit : i < t
      .rw [if_pos hit, if_pos (by omega)]
      .rw [if_neg hit, if_neg (by omega)]
    .refine ⟨Jm (by omega) (by omega), ⟨k + 1, by omega, by omega, ?_⟩, by omega⟩; refine YM (by omega) hl fun i hi => ?_; rw [hv i hi, if_pos (by omega)]; show _ = (Jw (tX m (dv p v) (hz m (dv p v) (dv p y) (dv p x) m k)) (vsm (dv p y (m - 1 - k)) (dv p x))) i % _; rw [hT]; rfl
   .have hkm : k = m := by omega
    subst hkm; rw [hz_all]; exact h
def pwl (M : Nat -> Nat -> Nat) (x n : Nat) : LI := (List.range n).map fun k => ((pw M x k : Nat) : Int)
theorem Ya (M : Nat -> Nat -> Nat) (x n : Nat) : (pwl M x n).length = n := by simp [pwl]
theorem ZK {M : Nat -> Nat -> Nat} {x n i : Nat} (h : i < n) : vo (pwl M x n) i = ((pw M x i : Nat) : Int) := by
 unfold vo pwl; rw [List.getD_eq_getElem?_getD, List.getElem?_map, List.getElem?_range h]; rfl
theorem Jh9 (M : Nat -> Nat -> Nat) (x n : Nat) : pwl M x (n + 1) = pwl M x n ++ [((pw M x n : Nat) : Int)] := by simp [pwl, List.range_succ]
structure Od (M : Nat -> Nat -> Nat) (x n : Nat) : Prop where
  pos : 0 < n
  one : pw M x n = 1
  least : ∀ k, 0 < k -> k < n -> pw M x k ≠ 1
theorem Jhv {P M : Int} {mf : LI} {p m v : Nat} (F : FV P M mf p m v) {x : Nat} {Q : LI -> Prop} (h0 : 0 < x) (hx : x < p ^ m)
  (h : ∀ n, Od (Js p m (dv p v)) x n -> n <= p ^ m - 1 -> Q (pwl (Js p m (dv p v)) x n)) : YS P M mf x Q := by
 have hp := F.p2; have hp2 := F.p256; have hm0 := F.m0; have hm8 := F.m8; have hq := F.q; have R := F.ring; obtain ⟨g, G⟩ := F.gen; have hone := G.xone R h0 hx; have hq2 := R.q2; obtain rfl := F.eP; obtain rfl := F.eM; refine Ja3 hp hp2 fun r hr _ => ?_; rw [Int.toNat_natCast] at hr; rw [hr hq]; refine ⟨⟨by omega, by omega, by omega⟩, by omega, _, ZD (by omega) (by omega) (by omega) rfl, _, ZD (by omega) (by omega) (by omega) rfl, ⟨by omega, by omega, by omega⟩, ?_⟩; refine ⟨fun l z a b => ∃ k : Nat, 0 < k /\ k <= p ^ m - 1 /\ l = pwl (Js p m (dv p v)) x k /\ z = ((pw (Js p m (dv p v)) x k : Nat) : Int) /\ a = dgi p m (pw (Js p m (dv p v)) x k) /\ b.length = m /\ ∀ j, 0 < j -> j < k -> pw (Js p m (dv p v)) x j ≠ 1, fun l z a b => 300 - l.length, ⟨1, by omega, by omega, rfl, by rw [R.pw_one hx], by rw [R.pw_one hx], by simp, fun j h1 h2 => by omega⟩, ?_⟩; rintro _ _ _ b ⟨k, hk0, hk, rfl, rfl, rfl, hb, hno⟩; dsimp only; refine ⟨fun hne => ?_, fun heq => ?_⟩
 .have hkq : k < p ^ m - 1 := by
   rcases Nat.lt_or_ge k (p ^ m - 1) with hc | hc
   .exact hc
   .have : k = p ^ m - 1 := by omega
    rw [this, hone] at hne; exact absurd rfl hne
  rw [Ya]; refine ⟨by omega, ?_⟩; refine Jf8 F hb (R.pw_lt x k) hx ?_; have hlt := R.pw_lt x (k + 1); refine Ja4 hp hp2 (by rw [JA]; exact Zc (by omega) hlt _) (by rw [JA]; exact hq) ?_; have hvd := Jhr (p := p) (m := m) (by omega) hlt; refine ⟨⟨k + 1, by omega, by omega, (Jh9 _ _ _).symm, hvd, rfl, JA _ _ _, fun j h1 h2 => ?_⟩, ?_⟩
  .by_cases hjk : j = k
   .subst hjk; intro e; rw [e] at hne; exact hne rfl
   .exact hno j h1 (by omega)
  .rw [List.length_append, Ya]; simp; omega
 .refine h k ⟨hk0, ?_, hno⟩ hk; have : ((pw (Js p m (dv p v)) x k : Nat) : Int) = 1 := by
   by_cases hc : ((pw (Js p m (dv p v)) x k : Nat) : Int) = 1
   .exact hc
   .exact absurd hc heq
  omega
end Go.Proofs.Ytgcdbnpenhclfaa
namespace Go.Proofs.Ytgcdbnpenhclfaa
theorem gb_nat (l : List Bool) (i : Nat) : gb l (i : Int) = l.getD i false := rfl
theorem Jh3 (l : List Bool) (i : Nat) (x : Bool) : sb l (i : Int) x = l.set i x := rfl
theorem Ye (l : List Bool) (i j : Nat) (x : Bool) : (l.set i x).getD j false = if i = j /\ i < l.length then x else l.getD j false := by
 rw [List.getD_eq_getElem?_getD, List.getD_eq_getElem?_getD, List.getElem?_set]; by_cases h : i = j
 .subst h; by_cases h2 : i < l.length
  .simp [h2]
  .simp [h2]
 .simp [h]
theorem Jjv {P M : Int} {mf : LI} {p m v : Nat} (F : FV P M mf p m v) {Q : LI -> Prop}
  (h : ∀ g, Gn (p ^ m) (Js p m (dv p v)) g -> Q (pwl (Js p m (dv p v)) g (p ^ m - 1))) : Zx ⟨P, M, mf, ((p ^ m : Nat) : Int), [], [], []⟩ Q := by
 have hq := F.q; have R := F.ring; have hq2 := R.q2; obtain ⟨g0, G0⟩ := F.gen; generalize hqq : p ^ m = q at *
 generalize hMM : Js p m (dv p v) = Mu at *
 refine ⟨⟨by show (0 : Int) <= q; omega, by show (q : Int) * 1 <= _; omega, by show (q : Int) <= _; omega⟩, ⟨by omega, by show (0 : Int) < ((((q : Nat) : Int).toNat : Nat) : Int); omega⟩, ?_⟩; refine ⟨J1 (by omega), fun i x s => s.length = q /\ s.getD 0 false = true /\ (∀ j, j < i -> ¬ Gn q Mu j) /\ ∀ j, j < q -> s.getD j false = true -> ¬ Gn q Mu j, fun x s => ∃ g, Gn q Mu g /\ x = pwl Mu g (q - 1), ?_, ?_, ?_, ?_⟩
 .have h0 : ¬ Gn q Mu 0 := fun G => by
   have := G.one; rw [R.zero_pw (by omega)] at this; omega
  dsimp only; rw [show (0 : Int) = ((0 : Nat) : Int) from rfl, Jh3]; refine ⟨by rw [List.length_set, List.length_replicate]; exact Int.toNat_natCast q, ?_, fun j hj => by omega, fun j hj hs => ?_⟩
  .rw [Ye, if_pos ⟨rfl, by rw [List.length_replicate, Int.toNat_natCast]; omega⟩]
  .rw [Ye] at hs; by_cases hj0 : 0 = j
   .rw [<- hj0]; exact h0
   .rw [if_neg (fun h => hj0 h.1), List.getD_eq_getElem?_getD, List.getElem?_replicate] at hs; split at hs <;> exact absurd hs (by decide)
 .rintro i hi x s ⟨hs, hs0, hno, hsn⟩; dsimp only at hi ⊢; rw [Int.toNat_natCast] at hi; rw [gb_nat]; refine ⟨⟨by omega, by rw [Int.toNat_natCast]; omega⟩, fun hb => ⟨hs, hs0, fun j hj => ?_, hsn⟩, fun hb => ?_⟩
  .by_cases hji : j = i
   .subst hji; exact hsn j hi hb
   .exact hno j (by omega)
  .have hi0 : 0 < i := by
    rcases Nat.eq_zero_or_pos i with h0 | h0
    .subst h0; rw [hs0] at hb; exact absurd hb (by decide)
    .exact h0
   refine Jhv F hi0 (by rw [hqq]; exact hi) fun n O hn => ?_; rw [hMM] at O ⊢; rw [hqq] at hn; rw [Ya]; refine ⟨Jm (by omega) (by omega), fun he => ?_, fun hne => ?_⟩
   .have hnq : n = q - 1 := by omega
    subst hnq; exact ⟨i, ⟨hi, O.one, O.least⟩, rfl⟩
   .have hnq : n < q - 1 := by omega
    have hnG : ∀ k, ¬ Gn q Mu (pw Mu i k) := fun k G => by
     have h1 : pw Mu (pw Mu i k) n = 1 := by rw [R.pw_pw hi, Nat.mul_comm, <- R.pw_pw hi, O.one, R.one_pw]
     exact G.no n O.pos hnq h1
    refine ⟨fun s' z => ∃ k : Nat, z = k /\ k <= n /\ s'.length = q /\ s'.getD 0 false = true /\ ∀ j, j < q -> s'.getD j false = true -> ¬ Gn q Mu j, fun s' z => (n - z).toNat, ⟨0, rfl, Nat.zero_le _, hs, hs0, hsn⟩, ?_⟩; rintro s' _ ⟨k, rfl, hk, hs', hs0', hsn'⟩; dsimp only; rw [JB]; refine ⟨fun hlt => ?_, fun hge => ⟨hs', hs0', fun j hj => ?_, hsn'⟩⟩
    .rw [ZK (by omega), Jh3]; have hlt2 := R.pw_lt i k; refine ⟨⟨by omega, by omega⟩, ⟨by omega, by rw [Int.toNat_natCast]; omega⟩, Jm (by omega) (by omega), ⟨k + 1, by push_cast; rfl, by omega, by rw [List.length_set, hs'], ?_, fun j hj hj2 => ?_⟩, by omega⟩
     .rw [Ye]; split
      .rfl
      .exact hs0'
     .rw [Ye] at hj2; by_cases hjk : pw Mu i k = j
      .rw [<- hjk]; exact hnG k
      .rw [if_neg (fun h => hjk h.1)] at hj2; exact hsn' j hj hj2
    .by_cases hji : j = i
     .subst hji; have := hnG 1
      rwa [R.pw_one hi] at this
     .exact hno j (by omega)
 .rintro x s ⟨hs, hs0, hno, hsn⟩; have := G0.lt; exact absurd G0 (hno g0 (by show g0 < ((q : Nat) : Int).toNat; rw [Int.toNat_natCast]; exact this))
 .rintro x s ⟨g, G, rfl⟩; exact h g G
structure GFk (F : GFv) (p m v g : Nat) : Prop where
  fv : FV F.P F.M F.mod p m v
  q : F.q = ((p ^ m : Nat) : Int)
  G : Gn (p ^ m) (Js p m (dv p v)) g
  el : F.exp.length = 2 * (p ^ m - 1)
  ev : ∀ k, k < 2 * (p ^ m - 1) -> vo F.exp k = ((pw (Js p m (dv p v)) g k : Nat) : Int)
  ll : F.log.length = p ^ m
  l0 : vo F.log 0 = -1
  lv : ∀ k, k < p ^ m - 1 -> vo F.log (pw (Js p m (dv p v)) g k) = (k : Int)
  al : F.above.length = p ^ m - 1
  av : ∀ k, k < p ^ m - 1 -> vo F.above k = vo F.log (Qs p m (pw (Js p m (dv p v)) g k) 1)
theorem Jgb {p m x : Nat} (hp : 2 <= p) (hm : 0 < m) (hx : x < p ^ m) : (if x % p = p - 1 then x - x % p else x + 1) = Qs p m x 1 := by
 have hmd := Nat.mod_add_div x p; have hlt := Nat.mod_lt x (show 0 < p by omega); obtain ⟨n, rfl⟩ : ∃ n, m = n + 1 := ⟨m - 1, by omega⟩
 have hxd : x / p < p ^ n := by rw [Nat.div_lt_iff_lt_mul (by omega), <- Nat.pow_succ]; exact hx
 generalize hA : x / p = a at *
 generalize hR : x % p = r at *
 have key : ∀ y s, y = s + p * a -> s < p -> s = (r + 1) % p -> y = Qs p (n + 1) x 1 := fun y s hy hs hsr => by
  have hyd : y / p = a := by rw [hy, Nat.add_mul_div_left _ _ (by omega), Nat.div_eq_of_lt hs, Nat.zero_add]
  have hym : y % p = s := by rw [hy, Nat.add_mul_mod_self_left, Nat.mod_eq_of_lt hs]
  have hyl : y < p ^ (n + 1) := by
   have h1 : p * (a + 1) <= p * p ^ n := Nat.mul_le_mul_left p hxd; rw [Nat.pow_succ', hy]; rw [Nat.mul_add, Nat.mul_one] at h1; omega
  refine (nm_eq (by omega) hyl fun i hi => ?_).symm; cases i with
  | zero =>
   simp only [Jw]; rw [QM, QM, QM, hym, hR, Nat.mod_eq_of_lt (show 1 < p by omega), hsr]; push_cast; rfl
  | succ i =>
   simp only [Jw]; rw [Yf, Yf, Yf, hyd, hA, Nat.div_eq_of_lt (show 1 < p by omega), Jac]; simp only [vz]; rw [Int.add_zero, Yw]
 by_cases hc : r = p - 1
 .rw [if_pos hc]; refine key (x - r) 0 (by omega) (by omega) ?_; rw [hc, show p - 1 + 1 = p by omega, Nat.mod_self]
 .rw [if_neg hc]; exact key (x + 1) (r + 1) (by omega) (by omega) (Nat.mod_eq_of_lt (by omega)).symm
theorem vo_app {a b : LI} {i : Nat} : vo (a ++ b) i = if i < a.length then vo a i else vo b (i - a.length) := by
 unfold vo; rw [List.getD_eq_getElem?_getD]; split
 .rename_i h
  rw [List.getElem?_append_left h, List.getD_eq_getElem?_getD]
 .rename_i h
  rw [List.getElem?_append_right (by omega), List.getD_eq_getElem?_getD]
theorem v_New {P M : Int} {mf : LI} {Q : Option GFv × Int -> Prop} (hno : ¬ Z4 P M mf -> Q (none, 1)) (h : ∀ (F : GFv) (p m v g : Nat), GFk F p m v g -> F.P = P -> F.M = M -> F.mod = mf -> Q (some F, 0)) : Jf3 P M mf Q := by
 refine Jjx ?_; by_cases hV : Z4 P M mf
 .rw [Jaw hV]; refine ⟨fun h1 => absurd rfl h1, fun _ => ?_⟩; obtain ⟨p, m, v, F⟩ := hV; obtain rfl := F.eP; obtain rfl := F.eM; have hp := F.p2; have hp2 := F.p256; have hm0 := F.m0; have hm8 := F.m8; have hq := F.q; have R := F.ring; have hq2 := R.q2; have hml : mf.length <= 1000000 := by
   by_cases hm1 : m = 1
   .rw [(F.m1 hm1).1]; simp
   .rw [F.m2 hm1, JA]; omega
  have hJ : YW p m mf (fun q => match q with | (r27, r28, x29) => QQ p m mf (fun r34 => r27 = p /\ r28 = m /\ x29 = mf /\ r34 = ((p ^ m : Nat) : Int))) := Ja5 hml (Ja3 hp hp2 fun r hr _ => by
   rw [Int.toNat_natCast] at hr; exact ⟨rfl, rfl, rfl, hr hq⟩)
  refine ⟨fun a b c d => a = p /\ b = m /\ c = mf /\ d = ((p ^ m : Nat) : Int), hJ, ?_⟩; rintro _ _ _ _ ⟨rfl, rfl, rfl, rfl⟩; refine Jjv F fun g G => ?_; have hg := G.lt; generalize hqq : p ^ m = q at *
  generalize hMM : Js p m (dv p v) = Mu at *
  rw [Ya]; have hql : (List.replicate ((q : Nat) : Int).toNat (0 : Int)).length = q := by rw [List.length_replicate, Int.toNat_natCast]
  rw [Int.toNat_natCast, Int.toNat_natCast]; rw [Int.toNat_natCast] at hql; refine ⟨⟨by omega, by omega, by omega⟩, ⟨by omega, by omega, by omega⟩, ⟨by omega, by omega⟩, ?_⟩; refine ⟨fun l z => ∃ k : Nat, z = k /\ k <= q - 1 /\ l.length = q /\ vo l 0 = -1 /\ ∀ t, t < k -> vo l (pw Mu g t) = (t : Int), fun l z => (q - z).toNat, ⟨0, rfl, Nat.zero_le _, ?_, ?_, fun t ht => by omega⟩, ?_⟩
  .rw [show (0 : Int) = ((0 : Nat) : Int) from rfl, Qd, List.length_set]; exact hql
  .rw [show si (List.replicate q (0 : Int)) 0 (-1) = (List.replicate q (0 : Int)).set 0 (-1) from rfl, JP, if_pos ⟨rfl, by rw [hql]; omega⟩]
  .rintro l _ ⟨k, rfl, hk, hl, hl0, hlv⟩; dsimp only; rw [JB]; refine ⟨fun hlt => ?_, fun hge => ?_⟩
   .rw [ZK (by omega), Qd]; have hlt2 := R.pw_lt g k; refine ⟨⟨by omega, by omega⟩, ⟨by omega, by omega⟩, Jm (by omega) (by omega), ⟨k + 1, by push_cast; rfl, by omega, by rw [List.length_set, hl], ?_, fun t ht => ?_⟩, by omega⟩
    .rw [JP, if_neg (fun h => G.ne0 R k h.1)]; exact hl0
    .rw [JP]; by_cases htk : t = k
     .subst htk; rw [if_pos ⟨rfl, by rw [hl]; exact hlt2⟩]
     .rw [if_neg (fun h => G.inj R (show t < k by omega) (by omega) h.1.symm)]; exact hlv t (by omega)
   .have hkq : k = q - 1 := by omega
    subst hkq; refine ⟨⟨by omega, by omega, by omega⟩, fun a z => ∃ k : Nat, z = k /\ k <= q - 1 /\ a.length = q - 1 /\ ∀ t, t < k -> vo a t = vo l (Qs p m (pw Mu g t) 1), fun a z => (q - z).toNat, ⟨0, rfl, Nat.zero_le _, by simp, fun t ht => by omega⟩, ?_⟩; rintro a _ ⟨k, rfl, hk, hal, hav⟩; dsimp only; rw [JB]; refine ⟨fun hlt => ?_, fun hge => ?_⟩
    .rw [ZK (by omega)]; have hlt2 := R.pw_lt g k; have hsl := R.Al (pw Mu g k) 1; have hsf := Jgb hp hm0 (x := pw Mu g k) (by rw [hqq]; exact hlt2); refine ⟨⟨by omega, by omega⟩, _, Jb2 hp hp2 (by omega) rfl, ?_⟩; rw [hsf, JB, Qd]; refine ⟨⟨by omega, by omega⟩, ⟨by omega, by omega⟩, Jm (by omega) (by omega), ⟨k + 1, by push_cast; rfl, by omega, by rw [List.length_set, hal], fun t ht => ?_⟩, by omega⟩; rw [JP]; by_cases htk : k = t
     .subst htk; rw [if_pos ⟨rfl, by omega⟩]
     .rw [if_neg (fun h => htk h.1)]; exact hav t (by omega)
    .have hkq : k = q - 1 := by omega
     subst hkq; subst hMM; subst hqq; refine h _ p m v g ⟨F, rfl, G, ?_, fun k hk2 => ?_, hl, hl0, hlv, hal, hav⟩ rfl rfl rfl
     .simp only [List.length_append, Ya]; omega
     .show vo (pwl _ g _ ++ pwl _ g _) k = _; rw [vo_app, Ya]; by_cases hkl : k < p ^ m - 1
      .rw [if_pos hkl, ZK hkl]
      .rw [if_neg hkl, ZK (by omega)]; have := G.per R (k - (p ^ m - 1)) 1; rw [Nat.mul_one, show k - (p ^ m - 1) + (p ^ m - 1) = k by omega] at this; rw [this]
 .rw [Ql hV]; exact ⟨fun _ => hno hV, fun h1 => absurd (show (1 : Int) ≠ 0 by decide) h1⟩
end Go.Proofs.Ytgcdbnpenhclfaa
namespace Go.Proofs.Ytgcdbnpenhclfaa
def inE (q : Nat) (x : Int) : Nat := if 0 <= x /\ x < q then x.toNat else 0
theorem Y7 {q : Nat} (hq : 0 < q) (x : Int) : inE q x < q := by unfold inE; split <;> omega
theorem Jbk {q x : Nat} (h : x < q) : inE q (x : Int) = x := by unfold inE; rw [if_pos (by omega)]; rfl
section
variable {P M : Int} {mf : LI} {p m v : Nat}
theorem FV.ord (F : FV P M mf p m v) : Z8 P M = ((p ^ m : Nat) : Int) := by
 rw [F.eP, F.eM, Z8, if_pos]
 .simp
 .have := F.p2; have := F.m0; have := F.q; exact ⟨by omega, by omega, by simpa using this⟩
theorem FV.i64 (F : FV P M mf p m v) : I64 P := by
 have := F.p256; rw [F.eP]; exact Jm (by omega) (by omega)
theorem v_rIs (F : FV P M mf p m v) {x : Int} {Q : Bool -> Prop} (h : Q (decide (0 <= x /\ x < ((p ^ m : Nat) : Int)))) : Jf1 P M mf x Q := by
 refine ⟨fun h0 => Jb3 ?_, fun h0 => ?_⟩
 .rw [F.ord]; simpa [h0] using h
 .simpa [h0] using h
theorem v_rIn (F : FV P M mf p m v) {x : Int} {Q : Int -> Prop} (h : Q ((inE (p ^ m) x : Nat) : Int)) : Jdg P M mf x Q := by
 refine v_rIs F ⟨fun hb => ?_, fun hb => ?_⟩
 .have hb := of_decide_eq_true hb; unfold inE at h; rw [if_pos hb] at h
  rwa [Int.toNat_of_nonneg hb.1] at h
 .have hb := of_decide_eq_false hb; unfold inE at h; rw [if_neg hb] at h; exact h
theorem Jaj (F : FV P M mf p m v) {x : Int} {Q : LI -> Prop} (h : Q (dgi p m (inE (p ^ m) x))) : QC P M mf x Q := by
 have hp := F.p2; have hq := F.q; have hm8 := F.m8; have hlt := Y7 F.ring.pos x; refine ⟨_, v_rIn F rfl, _, ?_, h⟩; rw [F.eP, F.eM]; exact Jai (by omega) (by omega) (by omega) rfl
theorem v_rVal (F : FV P M mf p m v) {l : LI} {u : Vec} {Q : Int -> Prop} (hl : l.length = m) (hv : ∀ i, i < m -> vo l i = u i % (p : Int)) (h : Q ((nm p m u : Nat) : Int)) : Q4 P M mf l Q := by
 have hp := F.p2; rw [YM (by omega) hl hv, F.eP]; have hlt := Yr (p := p) (m := m) (by omega) u; refine Jhu hp F.p256 (by rw [JA]; have := F.m8; omega) (by rw [JA]; exact Zc (by omega) hlt _) (by rw [JA]; exact F.q) ?_; rw [Jhr (by omega) hlt]; exact h
end
theorem Jbc {p m : Nat} {c w w' u : Vec} {s : Int} {k : Nat} (hk : w' k % (p : Int) = (w k + s) % (p : Int)) (ho : ∀ i, i ≠ k -> w' i = w i) : ∀ n, vcg p (opr m c w' n u) (Jw (opr m c w n u) (if k < n then vsm s (tXn m c k u) else vz))
  | 0 => fun i => by simp [opr, Jw, vz]
  | n + 1 => fun i => by
    have ih := Jbc hk ho (m := m) (c := c) (u := u) n i
    show (opr m c w' n u i + w' n * tXn m c n u i) % (p : Int) = ((opr m c w n u i + w n * tXn m c n u i) + (if k < n + 1 then vsm s (tXn m c k u) else vz) i) % (p : Int)
    rcases Nat.lt_trichotomy k n with h | h | h
    . rw [if_pos (by omega)]
      rw [if_pos h] at ih
      rw [ho n (by omega)]
      have := Zd ih (rfl : (w n * tXn m c n u i) % (p : Int) = _)
      rw [this]
      congr 1
      show opr m c w n u i + (vsm s (tXn m c k u)) i + _ = _
      omega
    . subst h
      rw [if_pos (by omega)]
      rw [if_neg (by omega)] at ih
      have := Zd ih (Y6 hk (rfl : (tXn m c k u i) % (p : Int) = _))
      rw [this]
      congr 1
      show opr m c w k u i + 0 + (w k + s) * tXn m c k u i = _ + s * tXn m c k u i
      rw [Int.add_mul]; omega
    . rw [if_neg (by omega)]
      rw [if_neg (by omega)] at ih
      rw [ho n (by omega)]
      have := Zd ih (rfl : (w n * tXn m c n u i) % (p : Int) = _)
      rw [this]
      congr 1
      show opr m c w n u i + 0 + _ = _ + 0
      omega
theorem Xm {m : Nat} {c : Vec} (hm : 0 < m) : tXn m c m e0 = vsm (-1) (opr m c c m e0) := by
 obtain ⟨n, rfl⟩ : ∃ n, m = n + 1 := ⟨m - 1, by omega⟩
 show tX (n + 1) c (tXn (n + 1) c n e0) = _; rw [Jdq (by omega)]; funext i; simp only [vsm]; rw [Jbd (Nat.le_refl _)]; simp only [tX, vei]; by_cases hi : i < n + 1
 .rw [if_pos hi, if_pos hi]; have e1 : (if i = 0 then (0 : Int) else if i - 1 = n then 1 else 0) = 0 := by
   split
   .rfl
   .rw [if_neg (by omega)]
  rw [e1, show n + 1 - 1 = n by omega, if_pos rfl]; omega
 .rw [if_neg hi, if_neg hi]; rfl
section
variable {P M : Int} {mf : LI} {p m v : Nat}
theorem v_rMul (F : FV P M mf p m v) {x y : Int} {Q : Int -> Prop} (h : Q ((Js p m (dv p v) (inE (p ^ m) x) (inE (p ^ m) y) : Nat) : Int)) : Jbw P M mf x y Q := by
 have hp := F.p2; have hp2 := F.p256; have hm0 := F.m0; have hm8 := F.m8; have hx := Y7 F.ring.pos x; have hy := Y7 F.ring.pos y; refine Jaj F (Jaj F ?_); obtain rfl := F.eP; obtain rfl := F.eM; generalize inE (p ^ m) x = a at *
 generalize inE (p ^ m) y = b at *
 rw [Y8 hx hy] at h; have hla := JA p m a; have hlb := JA p m b; have hva := Qz hx; have hvb := Qz hy; have hsa := Qe hx; have hsb := Qe hy; have hN : (2 * (m : Int) - 1).toNat = 2 * m - 1 := by omega
 have e2 : (2 * (m : Int) - 1) = ((2 * m - 1 : Nat) : Int) := by omega
 rw [e2]; generalize hNN : 2 * m - 1 = N at *
 rw [Int.toNat_natCast]; have hself := QV (c := dv p v) hsb; refine ⟨Jm (by omega) (by omega), J1 (by omega), ⟨by omega, by omega, by omega⟩, ?_⟩; refine ⟨fun l z => ∃ k : Nat, z = k /\ k <= m /\ l.length = N /\ Cn p N (vo l) /\ vcg p (opr m (dv p v) (vo l) N e0) (opr m (dv p v) (dv p a) k (dv p b)), fun l z => (m - z).toNat, ⟨0, rfl, Nat.zero_le _, by simp, fun i hi => by rw [Jdm]; omega, ?_⟩, ?_⟩
 .have : vo (List.replicate N (0 : Int)) = vz := by funext i; rw [Jdm]; rfl
  rw [this]; have h0 : ∀ n, opr m (dv p v) vz n e0 = vz := fun n => by
   induction n with
   | zero => rfl
   | succ n ih => show Jw (opr m (dv p v) vz n e0) (vsm (vz n) _) = vz; rw [ih]; funext i; simp [Jw, vsm, vz]
  rw [h0]; exact vcg.refl _
 rintro l _ ⟨i, rfl, hi, hl, hcn, hE⟩; dsimp only; refine ⟨fun hlt => ?_, fun hge => ?_⟩
 .refine ⟨fun r z => ∃ j : Nat, z = j /\ j <= m /\ r.length = N /\ Cn p N (vo r) /\ vcg p (opr m (dv p v) (vo r) N e0) (Jw (opr m (dv p v) (dv p a) i (dv p b)) (vsm (dv p a i) (tXn m (dv p v) i (opr m (dv p v) (dv p b) j e0)))), fun r z => (m - z).toNat, ⟨0, rfl, Nat.zero_le _, hl, hcn, ?_⟩, ?_⟩
  .show vcg p _ (Jw _ (vsm _ (tXn m (dv p v) i vz))); rw [Jb7, Je3, Yt]; exact hE
  rintro r _ ⟨j, rfl, hj, hr, hcr, hEr⟩; dsimp only; rw [show (i : Int) + (j : Int) = ((i + j : Nat) : Int) by push_cast; rfl, JB, JB, JB, Qd, hva, hvb]; refine ⟨fun hltj => ?_, fun hgej => ?_⟩
  .have c1 := Jfu (p := p) (by omega) a i; have c2 := Jfu (p := p) (by omega) b j; have c3 := hcr (i + j) (by omega); have c4 := Q1 (a := dv p a i) (b := dv p b j) hp2 ⟨c1.1, by omega⟩ ⟨c2.1, by omega⟩; refine ⟨J1 (by omega), J1 (by omega), ⟨by omega, by omega⟩, ⟨by omega, by omega⟩, ⟨by omega, by omega⟩, Jm (by omega) (by omega), Jm (by omega) (by omega), by omega, ⟨by omega, by omega⟩, Jm (by omega) (by omega), ⟨j + 1, by push_cast; rfl, by omega, by rw [List.length_set, hr], fun t ht => ?_, ?_⟩, by omega⟩
   .rw [JP]; split
    .rw [Int.tmod_eq_emod_of_nonneg (by omega)]; exact ⟨Int.emod_nonneg _ (by omega), Int.emod_lt_of_pos _ (by omega)⟩
    .exact hcr t ht
   .have hup := Jbc (p := p) (m := m) (c := dv p v) (w := vo r) (w' := vo (r.set (i + j) ((vo r (i + j) + dv p a i * dv p b j).tmod p))) (u := e0) (s := dv p a i * dv p b j) (k := i + j) (by
     rw [JP, if_pos ⟨rfl, by omega⟩, Int.tmod_eq_emod_of_nonneg (by omega), Int.emod_emod]) (fun t ht => by rw [JP, if_neg (fun h => ht h.1.symm)]) N
    rw [if_pos (by omega)] at hup; refine hup.trans ((hEr.add (vcg.refl _)).trans ?_); show vcg p _ (Jw _ (vsm _ (tXn m (dv p v) i (Jw (opr m (dv p v) (dv p b) j e0) (vsm (dv p b j) (tXn m (dv p v) j e0)))))); rw [YF, Y1, Zv, Zr, Ja2, <- QG]; exact vcg.refl _
  .have hjm : j = m := by omega
   subst hjm; rw [hself] at hEr; exact ⟨Jm (by omega) (by omega), ⟨i + 1, by push_cast; rfl, by omega, hr, hcr, hEr⟩, by omega⟩
 .have him : i = m := by omega
  subst him; have hE2 : vcg p (opr i (dv p v) (vo l) N e0) (Qi i (dv p v) (dv p b) (dv p a)) := hE; refine ⟨Jm (by omega) (by omega), Jm (by omega) (by omega), ?_⟩; refine ⟨fun r z => ∃ t : Nat, z = (t : Int) - 1 /\ i <= t /\ t <= N /\ r.length = N /\ Cn p N (vo r) /\ vcg p (opr i (dv p v) (vo r) t e0) (Qi i (dv p v) (dv p b) (dv p a)), fun r z => (z + 1).toNat, ⟨N, by omega, by omega, by omega, hl, hcn, hE2⟩, ?_⟩; rintro r _ ⟨t, rfl, hit, htN, hr, hcr, hEr⟩; dsimp only; refine ⟨fun hle => ?_, fun hgt => ?_⟩
  .obtain ⟨k, rfl⟩ : ∃ k, t = k + 1 := ⟨t - 1, by omega⟩
   have ek : ((k + 1 : Nat) : Int) - 1 = (k : Int) := by omega
   rw [ek] at hle ⊢; have hm1 : i ≠ 1 := by omega
   have hmf : vo mf = dv p v := F.vo; have hml : mf.length = i := (F.cn hm1).1; have hwk := hcr k (by omega); refine ⟨fun s z => ∃ j : Nat, z = j /\ j <= i /\ s.length = N /\ Cn p N (vo s) /\ vo s k = vo r k /\ vcg p (opr i (dv p v) (vo s) k e0) (Jw (opr i (dv p v) (vo r) k e0) (vsm (-(vo r k)) (tXn i (dv p v) (k - i) (opr i (dv p v) (dv p v) j e0)))), fun s z => (i - z).toNat, ⟨0, rfl, Nat.zero_le _, hr, hcr, rfl, ?_⟩, ?_⟩
   .show vcg p _ (Jw _ (vsm _ (tXn i (dv p v) (k - i) vz))); rw [Jb7, Je3, Yt]; exact vcg.refl _
   rintro s _ ⟨j, rfl, hj, hs, hcs, hsk, hEs⟩; dsimp only; rw [show (k : Int) - (i : Int) + (j : Int) = ((k - i + j : Nat) : Int) by omega, JB, JB, JB, Qd, hmf, hsk]; refine ⟨fun hltj => ?_, fun hgej => ?_⟩
   .have c1 := Jfu (p := p) (by omega) v j; have c3 := hcs (k - i + j) (by omega); have c4 := Q1 (a := (p : Int) - vo r k) (b := dv p v j) hp2 ⟨by omega, by omega⟩ ⟨c1.1, by omega⟩; refine ⟨Jm (by omega) (by omega), J1 (by omega), Jm (by omega) (by omega), J1 (by omega), ⟨by omega, by omega⟩, ⟨by omega, by omega⟩, Jm (by omega) (by omega), ⟨by omega, by omega⟩, Jm (by omega) (by omega), Jm (by omega) (by omega), by omega, ⟨by omega, by omega⟩, Jm (by omega) (by omega), ⟨j + 1, by push_cast; rfl, by omega, by rw [List.length_set, hs], fun u hu => ?_, ?_, ?_⟩, by omega⟩
    .rw [JP]; split
     .rw [Int.tmod_eq_emod_of_nonneg (by omega)]; exact ⟨Int.emod_nonneg _ (by omega), Int.emod_lt_of_pos _ (by omega)⟩
     .exact hcs u hu
    .rw [JP, if_neg (by omega)]; exact hsk
    .have hup := Jbc (p := p) (m := i) (c := dv p v) (w := vo s) (w' := vo (s.set (k - i + j) ((vo s (k - i + j) + ((p : Int) - vo r k) * dv p v j).tmod p))) (u := e0) (s := -(vo r k) * dv p v j) (k := k - i + j) (by
      rw [JP, if_pos ⟨rfl, by omega⟩, Ja8 (by omega) c3.1 (by omega) c1.1, Int.emod_emod, Int.neg_mul]; rfl) (fun t ht => by rw [JP, if_neg (fun h => ht h.1.symm)]) k
     rw [if_pos (by omega)] at hup; refine hup.trans ((hEs.add (vcg.refl _)).trans ?_); show vcg p _ (Jw _ (vsm _ (tXn i (dv p v) (k - i) (Jw (opr i (dv p v) (dv p v) j e0) (vsm (dv p v j) (tXn i (dv p v) j e0)))))); rw [YF, Y1, Zv, Zr, Ja2, <- QG]; exact vcg.refl _
   .have hji : j = i := by omega
    subst hji; refine ⟨Jm (by omega) (by omega), ⟨k, by omega, by omega, by omega, hs, hcs, ?_⟩, by omega⟩; refine hEs.trans (vcg.trans ?_ hEr); show vcg p _ (Jw (opr j (dv p v) (vo r) k e0) (vsm (vo r k) (tXn j (dv p v) k e0))); have e1 : tXn j (dv p v) k e0 = tXn j (dv p v) (k - j) (tXn j (dv p v) j e0) := by rw [Zv, show k - j + j = k by omega]
    rw [e1, Xm hm0, Y1, Ja2, show vo r k * -1 = -(vo r k) by omega]; exact vcg.refl _
  .have hti : t = i := by omega
   subst hti; refine ⟨⟨by omega, by omega⟩, _, v_rVal F (u := opr t (dv p v) (vo r) t e0) ?_ (fun j hj => ?_) rfl, ?_⟩
   .rw [List.length_take, Int.toNat_natCast, hr]; omega
   .rw [Int.toNat_natCast, Ja6 hj, Jbd (Nat.le_refl _), if_pos hj]; have := hcr j (by omega); exact (Int.emod_eq_of_lt this.1 this.2).symm
   .rw [QI hEr]; exact h
theorem modk {n k : Int} (hk : 0 < k) : (n.tmod k + k).tmod k = n % k := by
 have h1 := Int.tmod_lt_of_pos n hk; have h2 : -k < n.tmod k := by
  have := Int.lt_tmod_of_pos n hk; omega
 rw [Int.tmod_eq_emod_of_nonneg (by omega)]; have h3 := Int.mul_tdiv_add_tmod n k; have : n = n.tmod k + k * (n.tdiv k) := by omega
 rw [show n.tmod k + k = n.tmod k + k * 1 by omega, Int.add_mul_emod_self_left]
 conv => rhs; rw [this, Int.add_mul_emod_self_left]
theorem Zi (F : FV P M mf p m v) {x : Int} {Q : Int -> Prop} (h0 : inE (p ^ m) x = 0 -> Q 0) (h1 : ∀ n : Nat, inE (p ^ m) x ≠ 0 -> Od (Js p m (dv p v)) (inE (p ^ m) x) n -> n <= p ^ m - 1 -> Q n) : Qx P M mf x Q := by
 have hq := F.q; have R := F.ring; have hq2 := R.q2; have hlt := Y7 R.pos x; obtain ⟨g, G⟩ := F.gen; refine v_rIn F ⟨fun hz => h0 (by omega), fun hz => ?_⟩; have hz' : inE (p ^ m) x ≠ 0 := by omega
 have hone := G.xone R (Nat.pos_of_ne_zero hz') hlt
 replace h1 := fun n => h1 n hz'
 generalize inE (p ^ m) x = a at *
 generalize hqq : p ^ m = q at *
 refine ⟨fun i z => ∃ k : Nat, i = k /\ 0 < k /\ k <= q - 1 /\ z = ((pw (Js p m (dv p v)) a k : Nat) : Int) /\ ∀ j, 0 < j -> j < k -> pw (Js p m (dv p v)) a j ≠ 1, fun i z => (q - i).toNat, ⟨1, rfl, by omega, by omega, by rw [R.pw_one hlt], fun j h1 h2 => by omega⟩, ?_⟩; rintro _ _ ⟨k, rfl, hk0, hk, rfl, hno⟩; dsimp only; refine ⟨fun hne => ?_, fun heq => h1 k ⟨hk0, ?_, hno⟩ hk⟩
 .have hkq : k < q - 1 := by
   rcases Nat.lt_or_ge k (q - 1) with hc | hc
   .exact hc
   .rw [show k = q - 1 by omega, hone] at hne; exact absurd rfl hne
  refine ⟨Jm (by omega) (by omega), v_rMul F ?_⟩; rw [hqq, Jbk (R.pw_lt a k), Jbk hlt]; refine ⟨⟨k + 1, by push_cast; rfl, by omega, by omega, rfl, fun j h3 h4 => ?_⟩, by omega⟩; by_cases hjk : j = k
  .subst hjk; intro e; rw [e] at hne; exact hne rfl
  .exact hno j h3 (by omega)
 .by_cases hc : ((pw (Js p m (dv p v)) a k : Nat) : Int) = 1
  .omega
  .exact absurd hc heq
end
end Go.Proofs.Ytgcdbnpenhclfaa
namespace Go.Proofs.Ytgcdbnpenhclfaa
section
variable {F : GFv} {p m v g : Nat}
theorem Jb5 {x : Int} {Q : Bool -> Prop} (K : GFk F p m v g) (h : Q (decide (inE (p ^ m) x ≠ 0))) : Q8 F x Q := by
 unfold inE at h; refine ⟨fun h0 => ?_, fun h0 => ?_⟩
 .rw [K.q]; by_cases hx : x < ((p ^ m : Nat) : Int)
  .rw [if_pos ⟨by omega, hx⟩] at h; rw [decide_eq_true hx]; rw [decide_eq_true (by omega)] at h; exact h
  .rw [if_neg (by omega)] at h; rw [decide_eq_false hx]; exact h
 .by_cases hx : 0 <= x /\ x < ((p ^ m : Nat) : Int)
  .rw [if_pos hx] at h; rw [decide_eq_false (by omega)] at h; exact h
  .rw [if_neg hx] at h; exact h
theorem Jir {q : Nat} {x : Int} (h : inE q x ≠ 0) : x = ((inE q x : Nat) : Int) := by
 unfold inE at h ⊢; split
 .rename_i hc; exact (Int.toNat_of_nonneg hc.1).symm
 .rename_i hc; rw [if_neg hc] at h; exact absurd rfl h
theorem GFk.lg (K : GFk F p m v g) {x : Int} (h : inE (p ^ m) x ≠ 0) : ∃ a : Nat, a < p ^ m - 1 /\ inE (p ^ m) x = pw (Js p m (dv p v)) g a /\ gi F.log x = (a : Int) /\ (0 <= x /\ x < (F.log.length : Nat)) := by
  have R := K.fv.ring
  have hlt := Y7 R.pos x
  obtain ⟨a, ha, he⟩ := K.G.surj R (Nat.pos_of_ne_zero h) hlt
  have hx := Jir h
  refine ⟨a, ha, he.symm, ?_, ?_⟩
  . rw [hx, <- he, JB, K.lv a ha]
  . rw [K.ll]; omega
theorem ZC {n : Int} {Q : Int -> Prop} (K : GFk F p m v g) (hn : I64 n) (h : Q (n % (((p ^ m : Nat) : Int) - 1))) : Qg F n Q := by
 have hq := K.fv.q; have hq2 := K.fv.ring.q2; unfold Qg; rw [K.q]; have hk : (0 : Int) < ((p ^ m : Nat) : Int) - 1 := by omega
 have t1 := Int.tmod_lt_of_pos n hk; have t2 := Int.lt_tmod_of_pos n hk; have hm := modk (n := n) hk; refine ⟨Jm (by omega) (by omega), by omega, fun z => z = n % (((p ^ m : Nat) : Int) - 1), ⟨fun hneg => ⟨Jm (by omega) (by omega), Jm (by omega) (by omega), ?_⟩, fun hpos => ?_⟩, fun z hz => by rw [hz]; exact h⟩
 .rw [<- hm, Int.tmod_eq_emod_of_nonneg (by omega), Int.emod_eq_of_lt (by omega) (by omega)]
 .rw [<- hm, Int.tmod_eq_emod_of_nonneg (by omega), show n.tmod (((p ^ m : Nat) : Int) - 1) + (((p ^ m : Nat) : Int) - 1) = n.tmod (((p ^ m : Nat) : Int) - 1) + (((p ^ m : Nat) : Int) - 1) * 1 by omega, Int.add_mul_emod_self_left, Int.emod_eq_of_lt (by omega) (by omega)]
theorem v_Pow {x n : Int} {Q : Int × Int -> Prop} (K : GFk F p m v g) (hn : I64 n) (h0 : inE (p ^ m) x = 0 -> Q (if n = 0 then (1, 0) else if n < 0 then (0, 7) else (0, 0)))
  (h1 : inE (p ^ m) x ≠ 0 -> Q (((pw (Js p m (dv p v)) (inE (p ^ m) x) (n % (((p ^ m : Nat) : Int) - 1)).toNat : Nat) : Int), 0)) : Jdh F x n Q := by
 have R := K.fv.ring; have hq := K.fv.q; have hq2 := R.q2; refine Jb5 K ⟨fun hb => ?_, fun hb => ?_⟩
 .have hne : inE (p ^ m) x ≠ 0 := by simpa using hb
  obtain ⟨a, ha, ea, la, bx⟩ := K.lg hne; have hel := K.el; have hk : (0 : Int) < ((p ^ m : Nat) : Int) - 1 := by omega
  have e1 := Int.emod_nonneg n (show ((p ^ m : Nat) : Int) - 1 ≠ 0 by omega); have e2 := Int.emod_lt_of_pos n hk; have h1 := h1 hne; refine ⟨bx, _, ZC K hn rfl, ?_⟩; rw [la]; obtain ⟨e, he⟩ := Int.eq_ofNat_of_zero_le e1; rw [he] at h1 ⊢; rw [Int.toNat_natCast] at h1; have hae : a * e <= 256 * 256 := Nat.mul_le_mul (by omega) (by omega); have hcast : (a : Int) * (e : Int) = ((a * e : Nat) : Int) := by push_cast; rfl
  have hmod : ((a * e : Nat) : Int) % (((p ^ m : Nat) : Int) - 1) = ((a * e % (p ^ m - 1) : Nat) : Int) := by
   rw [show ((p ^ m : Nat) : Int) - 1 = ((p ^ m - 1 : Nat) : Int) by omega]; rfl
  have hlt := Nat.mod_lt (a * e) (show 0 < p ^ m - 1 by omega); rw [hcast]; refine ⟨J1 (by omega), _, ZC K (J1 (by omega)) rfl, ?_⟩; rw [hmod]; refine ⟨⟨by omega, by omega⟩, ?_⟩; rw [JB, K.ev _ (by omega), K.G.modp R, <- R.pw_pw K.G.lt, <- ea]; exact h1
 .have hz : inE (p ^ m) x = 0 := by simpa using hb
  have h0 := h0 hz; refine ⟨fun hneg => ?_, fun hpos => ⟨fun hz0 => ?_, fun hz0 => ?_⟩⟩
  .rwa [if_neg (by omega), if_pos hneg] at h0
  .rwa [if_pos hz0] at h0
  .rwa [if_neg hz0, if_neg hpos] at h0
theorem od_gcd {q : Nat} {A M : Nat -> Nat -> Nat} {g : Nat} (G : Gn q M g) (R : CR q A M) (e : Nat) : Od M (pw M g e) ((q - 1) / Nat.gcd (q - 1) e) := by
 have hq := R.q2; have hg : 0 < Nat.gcd (q - 1) e := Nat.gcd_pos_of_pos_left _ (by omega); have hle : Nat.gcd (q - 1) e <= q - 1 := Nat.le_of_dvd (by omega) (Nat.gcd_dvd_left _ _); have hpos : 0 < (q - 1) / Nat.gcd (q - 1) e := Nat.div_pos hle hg; refine ⟨hpos, (G.ord_iff R e _).2 (Nat.dvd_refl _), fun k h0 hk h1 => ?_⟩; have := Nat.le_of_dvd h0 ((G.ord_iff R e k).1 h1); omega
theorem Od.uniq {M : Nat -> Nat -> Nat} {x n k : Nat} (h : Od M x n) (h' : Od M x k) : n = k := by
 rcases Nat.lt_trichotomy n k with h1 | h1 | h1
 .exact absurd h.one (h'.least n h.pos h1)
 .exact h1
 .exact absurd h'.one (h.least k h'.pos h1)
theorem Jdp {x : Int} {Q : Int × Int -> Prop} (K : GFk F p m v g) (h0 : inE (p ^ m) x = 0 -> Q (0, 7)) (h1 : ∀ a : Nat, a < p ^ m - 1 -> inE (p ^ m) x = pw (Js p m (dv p v)) g a -> Q ((((p ^ m - 1) / Nat.gcd (p ^ m - 1) a : Nat) : Int), 0)) : QS F x Q := by
 have R := K.fv.ring; have hq := K.fv.q; have hq2 := R.q2; refine Jb5 K ⟨fun hb => h0 (by simpa using hb), fun hb => ?_⟩; have hne : inE (p ^ m) x ≠ 0 := by simpa using hb
 obtain ⟨a, ha, ea, la, bx⟩ := K.lg hne; have h1 := h1 a ha ea; rw [K.q, la]; have e1 : ((p ^ m : Nat) : Int) - 1 = ((p ^ m - 1 : Nat) : Int) := by omega
 rw [e1]; have hg : 0 < Nat.gcd (p ^ m - 1) a := Nat.gcd_pos_of_pos_left _ (by omega); have hd : (p ^ m - 1) / Nat.gcd (p ^ m - 1) a <= p ^ m - 1 := Nat.div_le_self _ _; refine ⟨J1 (by omega), J1 (by omega), bx, _, v_gcd rfl, ⟨by omega, ?_⟩, h1⟩; rw [Je8]; exact J1 (by omega)
end
end Go.Proofs.Ytgcdbnpenhclfaa
namespace Go.Proofs.Ytgcdbnpenhclfaa
theorem FV.same {P M : Int} {mf : LI} {p m v p' m' v' : Nat} (F : FV P M mf p m v) (F' : FV P M mf p' m' v') : p = p' /\ m = m' /\ v = v' := by
 have h1 := F.eP; have h2 := F'.eP; have h3 := F.eM; have h4 := F'.eM; have e1 : p = p' := by omega
 have e2 : m = m' := by omega
 subst e1; subst e2; refine ⟨rfl, rfl, ?_⟩; have hp := F.p2; rw [<- Ys (p := p) (m := m) (by omega) F.vlt, <- Ys (p := p) (m := m) (by omega) F'.vlt, <- F.vo, <- F'.vo]
theorem Jjy {F : GFv} {p m v g : Nat} {Q : Int -> Prop} (K : GFk F p m v g) (h : Q ((p ^ m : Nat) : Int)) : YX F Q := by
 unfold YX; rw [K.q]; exact h
theorem FV.len {P M : Int} {mf : LI} {p m v : Nat} (F : FV P M mf p m v) : mf.length <= 1000000 := by
 have := F.m8; by_cases hm1 : m = 1
 .rw [(F.m1 hm1).1]; simp
 .rw [F.m2 hm1, JA]; omega
theorem Gn.xmod {q g : Nat} {A M : Nat -> Nat -> Nat} (G : Gn q M g) (R : CR q A M) {x : Nat} (h0 : 0 < x) (hx : x < q) (n : Nat) : pw M x (n % (q - 1)) = pw M x n := by
 have h1 := G.xone R h0 hx; have h2 := Nat.mod_add_div n (q - 1); have h3 : pw M x (n % (q - 1) + (q - 1) * (n / (q - 1))) = pw M x (n % (q - 1)) := by rw [R.pw_add hx, <- R.pw_pw hx, h1, R.one_pw, R.M1 (R.pw_lt x _)]
 rw [h2] at h3; exact h3.symm
theorem v_PowN {F : GFv} {p m v g n : Nat} {x : Int} {Q : Int × Int -> Prop} (K : GFk F p m v g) (hn0 : 0 < n) (hn : n <= 1000) (h : Q (((pw (Js p m (dv p v)) (inE (p ^ m) x) n : Nat) : Int), 0)) : Jdh F x n Q := by
 have R := K.fv.ring; have hq2 := R.q2; refine v_Pow K (J1 (by omega)) (fun h0 => ?_) (fun h1 => ?_)
 .rw [if_neg (by omega), if_neg (by omega)]; rw [h0, R.zero_pw hn0] at h; exact h
 .have e : ((n : Int) % (((p ^ m : Nat) : Int) - 1)).toNat = n % (p ^ m - 1) := by
   rw [show ((p ^ m : Nat) : Int) - 1 = ((p ^ m - 1 : Nat) : Int) by omega]; rfl
  rw [e, K.G.xmod R (Nat.pos_of_ne_zero h1) (Y7 R.pos x)]; exact h
end Go.Proofs.Ytgcdbnpenhclfaa
namespace Go.Proofs.Ytgcdbnpenhclfaa
section
variable {F : GFv} {p m v g : Nat} {P M : Int} {mf : LI}
theorem w_open {Q : Option GFv × Bool -> Prop} (h0 : ¬ Z4 P M mf -> Q (none, true)) (h1 : ∀ (F : GFv) (p m v g : Nat), GFk F p m v g -> FV P M mf p m v -> Q (some F, true)) : Jbx P M mf Q := by
 refine v_New (fun hV => Jb4 ⟨fun _ => h0 hV, fun hn => absurd (Ql hV) (by intro e; rw [e] at hn; exact hn (by decide))⟩) fun F p m v g K eP eM em => ?_; have hF : FV P M mf p m v := by have := K.fv; rwa [eP, eM, em] at this
 refine Jb4 ⟨fun hn => ?_, fun hn => ⟨fun h => absurd rfl h, fun _ => h1 F p m v g K hF⟩⟩; exact absurd (Jaw ⟨_, _, _, hF⟩) hn
end
end Go.Proofs.Ytgcdbnpenhclfaa
namespace Go.Proofs.Ytgcdbnpenhclfaa
/-! ### orders and the primes that divide them -/
def ldB : List Nat := [2, 3, 5, 7, 11, 13, 17, 19, 23, 29, 31]
def ldv (n : Nat) : Nat := (ldB.find? fun p => n % p == 0).getD n
def strp : Nat -> Nat -> Nat -> Nat
  | 0, _, n => n
  | f + 1, r, n => if n % r = 0 then strp f r (n / r) else n
def st_ (r n : Nat) : Nat := strp 9 r n
def prB (k d : Nat) : Bool := (List.range d).all fun e => decide (e < 2) || !(k % e == 0)
def prd (n p : Nat) : Bool := decide (2 <= p) && (n % p == 0) && prB p p
def plk (n k : Nat) : List Nat := (List.range k).filter (prd n)
def pl (n : Nat) : List Nat := plk n (n + 1)
def li (l : List Nat) : LI := l.map fun p : Nat => ((p : Nat) : Int)
theorem Jio : ∀ z, z < 256 -> ∀ k, k < 11 -> (∀ i, i < k -> z % ldB.getD i 0 ≠ 0) -> z % ldB.getD k 0 = 0 -> ldv z = ldB.getD k 0 := by decide +kernel
theorem ldv_no : ∀ z, z < 256 -> (∀ i, i < 11 -> z % ldB.getD i 0 ≠ 0) -> ldv z = z := by decide +kernel
theorem ldv_ok : ∀ z, z < 256 -> 1 < z -> 2 <= ldv z /\ ldv z <= z /\ z % ldv z = 0 /\ 0 < st_ (ldv z) z /\ st_ (ldv z) z < z := by decide +kernel
theorem st_div : ∀ n, n < 256 -> 0 < n -> ∀ r, r < 256 -> 2 <= r -> n % r = 0 -> st_ r (n / r) = st_ r n := by decide +kernel
theorem st_no {r n : Nat} (h : n % r ≠ 0) : st_ r n = n := by unfold st_ strp; rw [if_neg h]
theorem pl_ld : ∀ z, z < 256 -> 1 < z -> pl z = ldv z :: pl (st_ (ldv z) z) := by decide +kernel
theorem pl_mem : ∀ o, o < 256 -> ∀ p, p ∈ pl o -> 2 <= p /\ o % p = 0 := fun o _ p h => by
 have := (List.mem_filter.1 h).2; unfold prd at this; simp at this; exact ⟨this.1.1, this.1.2⟩
theorem Jdz (n : Nat) : (pl n).length <= n + 1 := by
 have := List.length_filter_le (prd n) (List.range (n + 1)); rw [List.length_range] at this; exact this
theorem Y0 (a b : Nat) : ((a : Int)).tmod (b : Int) = ((a % b : Nat) : Int) := rfl
theorem Jhy (a b : Nat) : ((a : Int)).tdiv (b : Int) = ((a / b : Nat) : Int) := rfl
theorem g3 {k : Nat} (h : k < 3) : gi ([(2 : Int), (3 : Int), (5 : Int)] : LI) (k : Int) = (ldB.getD k 0 : Int) /\ 2 <= ldB.getD k 0 := by
 match k, h with
 | 0, _ => exact ⟨rfl, by decide⟩
 | 1, _ => exact ⟨rfl, by decide⟩
 | 2, _ => exact ⟨rfl, by decide⟩
theorem g8 {k : Nat} (h : k < 8) : gi ([(7 : Int), (11 : Int), (13 : Int), (17 : Int), (19 : Int), (23 : Int), (29 : Int), (31 : Int)] : LI) (k : Int) = (ldB.getD (k + 3) 0 : Int) /\ 2 <= ldB.getD (k + 3) 0 /\ ldB.getD (k + 3) 0 <= 31 := by
 match k, h with
 | 0, _ => exact ⟨rfl, by decide, by decide⟩
 | 1, _ => exact ⟨rfl, by decide, by decide⟩
 | 2, _ => exact ⟨rfl, by decide, by decide⟩
 | 3, _ => exact ⟨rfl, by decide, by decide⟩
 | 4, _ => exact ⟨rfl, by decide, by decide⟩
 | 5, _ => exact ⟨rfl, by decide, by decide⟩
 | 6, _ => exact ⟨rfl, by decide, by decide⟩
 | 7, _ => exact ⟨rfl, by decide, by decide⟩
theorem Jhl {z : Nat} {Q : Int -> Prop} (h1 : 1 < z) (h2 : z < 256) (h : Q (ldv z : Int)) : YT (z : Int) Q := by
 refine ⟨fun i => ∃ k : Nat, i = k /\ k <= 3 /\ ∀ j, j < k -> z % ldB.getD j 0 ≠ 0, fun i => ((3 : Int) - i).toNat, ⟨0, rfl, by omega, fun j hj => by omega⟩, ?_⟩; rintro _ ⟨k, rfl, hk, hno⟩; refine ⟨fun hlt => ?_, fun hge => ?_⟩
 .have hk3 : k < 3 := by omega
  obtain ⟨e, e2⟩ := g3 hk3; rw [e, Y0]; refine ⟨⟨by omega, hlt⟩, by omega, fun c => ?_, fun c => ⟨Jm (by omega) (by omega), ⟨k + 1, by push_cast; rfl, by omega, fun j hj => ?_⟩, by show ((3 : Int) - ((k : Int) + 1)).toNat < ((3 : Int) - (k : Int)).toNat; omega⟩⟩
  .rw [<- Jio z h2 k (by omega) hno (by omega)]; exact h
  .by_cases c2 : j = k
   .subst c2; exact fun d => c (by rw [d]; rfl)
   .exact hno j (by omega)
 .have hk3 : k = 3 := by omega
  subst hk3; refine ⟨fun r => r = (ldv z : Int), ⟨fun b => b = 0 ∨ (b = 30 /\ ldv z = z), fun b => ((31 : Int) - b).toNat, .inl rfl, ?_⟩, fun r hr => by rw [hr]; exact h⟩; rintro b hb; have hbb : b * b = 0 ∨ b * b = 900 := by rcases hb with rfl | ⟨rfl, _⟩ <;> decide
  refine ⟨Jm (by omega) (by omega), fun hle => ?_, fun hgt => ?_⟩
  .have hb0 : b = 0 := by
    rcases hb with c | ⟨rfl, _⟩
    .exact c
    .omega
   subst hb0; refine ⟨fun i => ∃ k : Nat, i = k /\ k <= 8 /\ ∀ j, j < k + 3 -> z % ldB.getD j 0 ≠ 0, fun i => ((8 : Int) - i).toNat, ⟨0, rfl, by omega, hno⟩, ?_⟩; rintro _ ⟨k, rfl, hk, hno'⟩; refine ⟨fun hlt => ?_, fun hge2 => ⟨Jm (by omega) (by omega), .inr ⟨rfl, ldv_no z h2 fun i hi => hno' i (by omega)⟩, by decide⟩⟩; have hk8 : k < 8 := by omega
   obtain ⟨e, e2, e3⟩ := g8 hk8; rw [e, Int.zero_add, Y0]; refine ⟨⟨by omega, hlt⟩, Jm (by omega) (by omega), by omega, fun c => ⟨Jm (by omega) (by omega), ?_⟩, fun c => ⟨Jm (by omega) (by omega), ⟨k + 1, by push_cast; rfl, by omega, fun j hj => ?_⟩, by show ((8 : Int) - ((k : Int) + 1)).toNat < ((8 : Int) - (k : Int)).toNat; omega⟩⟩
   .rw [Jio z h2 (k + 3) (by omega) hno' (by omega)]
   .by_cases c2 : j = k + 3
    .subst c2; exact fun d => c (by rw [d]; rfl)
    .exact hno' j (by omega)
  .rcases hb with rfl | ⟨rfl, e⟩
   .omega
   .rw [e]
theorem Jf6 {x : Nat} {Q : List (Int × Int) × Int -> Prop} (h1 : 1 <= x) (h2 : x < 256) (h : ∀ l : List (Int × Int), l.length <= 300 -> l.map (fun a => a.1) = li (pl x) -> Q (l, 0)) : Yk (x : Int) Q := by
 have hlx := Jdz x; refine ⟨fun _ => ?_, fun c => absurd (show (1 : Int) <= x by omega) c⟩; rw [decide_eq_true (by omega)]; refine ⟨fun c => absurd c (by decide), fun _ => ⟨fun z l => ∃ n : Nat, z = n /\ 1 <= n /\ n <= x /\ l.map (fun a => a.1) ++ li (pl n) = li (pl x), fun z _ => z.toNat, ⟨x, rfl, h1, Nat.le_refl _, rfl⟩, ?_⟩⟩; rintro _ l ⟨n, rfl, hn1, hnx, hl⟩; have hll : l.length + (pl n).length = (pl x).length := by
  have := congrArg List.length hl; unfold li at this
  simpa using this
 refine ⟨fun hgt => ?_, fun hle => ?_⟩
 .have hn2 : 1 < n := by omega
  obtain ⟨r2, rn, r0, s0, s1⟩ := ldv_ok n (by omega) hn2; have hpl := pl_ld n (by omega) hn2; refine Jhl hn2 (by omega) ?_; generalize ldv n = r at *
  refine ⟨fun a k => ∃ m : Nat, a = m /\ 1 <= m /\ m <= n /\ st_ r m = st_ r n /\ 0 <= k /\ k <= (n : Int) - m, fun a _ => a.toNat, ⟨n, rfl, hn1, Nat.le_refl _, rfl, by omega, by omega⟩, ?_⟩; rintro _ k ⟨m, rfl, hm1, hmn, hst, hk0, hk⟩; rw [Y0, Jhy]; refine ⟨by omega, fun c => ?_, fun c => ?_⟩
  .have hd : m % r = 0 := by omega
   have hlt := Nat.div_lt_self (show 0 < m by omega) r2; have hge : 1 <= m / r := Nat.div_pos (Nat.le_of_dvd (by omega) (Nat.dvd_of_mod_eq_zero hd)) (by omega); exact ⟨⟨by omega, Jm (by omega) (by omega)⟩, Jm (by omega) (by omega), ⟨m / r, rfl, hge, by omega, by rw [st_div m (by omega) (by omega) r (by omega) r2 hd, hst], by omega, by omega⟩, by show ((m / r : Nat) : Int).toNat < ((m : Nat) : Int).toNat; omega⟩
  .have hd : m % r ≠ 0 := fun e => c (by rw [e]; rfl); have hm : m = st_ r n := by rw [<- hst, st_no hd]
   refine ⟨by omega, ⟨m, rfl, hm1, by omega, ?_⟩, by show ((m : Nat) : Int).toNat < ((n : Nat) : Int).toNat; omega⟩; rw [List.map_append, List.append_assoc, <- hl, hpl, hm]; rfl
 .have : n = 1 := by omega
  subst this; refine h l (by omega) ?_; rw [<- hl]; show _ = _ ++ []
  rw [List.append_nil]
theorem Jb0 {x : Nat} {Q : LI -> Prop} (h1 : 1 <= x) (h2 : x < 256) (h : Q (li (pl x))) : Q7 (x : Int) Q := by
 refine Jf6 h1 h2 fun l hl he => ⟨⟨by omega, by omega, by omega⟩, ?_⟩
 rw [Int.toNat_natCast]; refine ⟨fun y z => ∃ j : Nat, z = j /\ j <= l.length /\ y.length = l.length /\ ∀ i, i < j -> vo y i = (gpr l (i : Int)).1, fun _ z => ((l.length : Nat) - z : Int).toNat, ⟨0, rfl, Nat.zero_le _, by simp, fun i hi => by omega⟩, ?_⟩; rintro y _ ⟨j, rfl, hj, hy, hv⟩; refine ⟨fun hlt => ⟨⟨by omega, by omega⟩, ⟨by omega, by omega⟩, Jm (by omega) (by omega), ⟨j + 1, by push_cast; rfl, by omega, by unfold si; simp [hy], fun i hi => ?_⟩, by show ((l.length : Nat) - ((j : Int) + 1) : Int).toNat < ((l.length : Nat) - (j : Int) : Int).toNat; omega⟩, fun hge => ?_⟩
 .rw [Qd, JP]; by_cases c : i = j
  .subst c; rw [if_pos ⟨rfl, by omega⟩]
  .rw [if_neg (fun d => c d.1.symm)]; exact hv i (by omega)
 .have : j = l.length := by omega
  subst this; have e : y = l.map (fun a => a.1) := YZ (by rw [hy, List.length_map]) fun i hi => by
   rw [hv i (by omega)]; unfold vo gpr; rw [Int.toNat_natCast, List.getD_eq_getElem?_getD, List.getD_eq_getElem?_getD, List.getElem?_map, List.getElem?_eq_getElem (by omega)]; rfl
  rw [e, he]; exact h
end Go.Proofs.Ytgcdbnpenhclfaa
namespace Go.Proofs.Ytgcdbnpenhclfaa
theorem li_app (a b : List Nat) : li (a ++ b) = li a ++ li b := by unfold li; rw [List.map_append]
theorem ZM (n k : Nat) : plk n (k + 1) = plk n k ++ (if prd n k = true then [k] else []) := by
 unfold plk; rw [List.range_succ, List.filter_append]; by_cases h : prd n k = true
 .rw [if_pos h, List.filter_cons_of_pos h]; rfl
 .rw [if_neg h, List.filter_cons_of_neg h]; rfl
theorem Jce (k d : Nat) : prB k (d + 1) = (prB k d && (decide (d < 2) || !(k % d == 0))) := by
 unfold prB; rw [List.range_succ, List.all_append]; simp
theorem Jf5 {n : Nat} {Q : LI -> Prop} (h1 : 1 <= n) (h2 : n < 256) (h : Q (li (pl n))) : Yi (n : Int) Q := by
 refine ⟨fun l z => ∃ k : Nat, z = k /\ 2 <= k /\ k <= n + 1 /\ l = li (plk n k), fun _ z => ((n : Int) + 1 - z).toNat, ⟨2, rfl, by omega, by omega, rfl⟩, ?_⟩; rintro _ _ ⟨k, rfl, hk2, hk, rfl⟩; have hlen : (li (plk n k)).length <= k := by
  have := List.length_filter_le (prd n) (List.range k); rw [List.length_range] at this; unfold li plk; rw [List.length_map]; exact this
 refine ⟨fun hle => ?_, fun hgt => ?_⟩
 .rw [Y0]; refine ⟨fun l => l = li (plk n (k + 1)), ⟨by omega, fun c => ?_, fun c => ?_⟩, ?_⟩
  .have hp : ¬ prd n k = true := fun d => c (by unfold prd at d; simp at d; omega); rw [ZM, if_neg hp, List.append_nil]
  .refine ⟨fun b z => ∃ d : Nat, z = d /\ 2 <= d /\ d <= k /\ b = prB k d, fun _ z => ((k : Int) - z).toNat, ⟨2, rfl, by omega, by omega, rfl⟩, ?_⟩; rintro _ _ ⟨d, rfl, hd2, hd, rfl⟩; refine ⟨fun hlt => ⟨fun b => b = prB k (d + 1), ⟨by omega, fun e => ?_, fun e => ?_⟩, ?_⟩, fun hge => ?_⟩
   .rw [Y0] at e; rw [Jce, show k % d = 0 by omega]; simp; omega
   .rw [Y0] at e; have : (k % d == 0) = false := by simp; omega
    rw [Jce, this]; simp
   .rintro _ rfl; exact ⟨Jm (by omega) (by omega), ⟨d + 1, by push_cast; rfl, by omega, by omega, rfl⟩, by show ((k : Int) - ((d : Int) + 1)).toNat < ((k : Int) - (d : Int)).toNat; omega⟩
   .have : d = k := by omega
    subst this; have hm : n % d = 0 := by
     rcases Nat.eq_zero_or_pos (n % d) with e | e
     .exact e
     .exact absurd (by omega) c
    refine ⟨fun hb => ⟨by omega, ?_⟩, fun hb => ?_⟩
    .have hp : prd n d = true := by unfold prd; rw [hb, hm]; simp; omega
     rw [ZM, if_pos hp, li_app]; rfl
    .have hp : ¬ prd n d = true := fun e => by unfold prd at e; rw [hb] at e; simp at e
     rw [ZM, if_neg hp, List.append_nil]
  .rintro _ rfl; exact ⟨Jm (by omega) (by omega), ⟨k + 1, by push_cast; rfl, by omega, by omega, rfl⟩, by show ((n : Int) + 1 - ((k : Int) + 1)).toNat < ((n : Int) + 1 - (k : Int)).toNat; omega⟩
 .have : k = n + 1 := by omega
  subst this; exact h
theorem Jhm {l : LI} {Q : Bool -> Prop} (hl : l.length <= 1000000) (h : Q true) : Zy l l Q := by
 refine ⟨fun c => absurd rfl c, fun _ => ⟨fun z => 0 <= z, fun z => ((l.length : Nat) - z : Int).toNat, by omega, fun z hz => ⟨fun hlt => ⟨⟨hz, hlt⟩, ⟨hz, hlt⟩, fun c => absurd rfl c, fun _ => ⟨Jm (by omega) (by omega), by omega, by show ((l.length : Nat) - (z + 1) : Int).toNat < ((l.length : Nat) - z : Int).toNat; omega⟩⟩, fun _ => h⟩⟩⟩
theorem Jaf {o : Int} {l : LI} {Q : Bool -> Prop} (hl : l.length <= 1000000) (h : Q true) : YR o l o l Q := by
 refine ⟨fun c => absurd rfl c, fun _ => ⟨fun c => absurd rfl c, fun _ => ⟨fun z => 0 <= z, fun z => ((l.length : Nat) - z : Int).toNat, by omega, fun z hz => ⟨fun hlt => ⟨⟨hz, hlt⟩, ⟨hz, hlt⟩, fun c => absurd rfl c, fun _ => ⟨Jm (by omega) (by omega), by omega, by show ((l.length : Nat) - (z + 1) : Int).toNat < ((l.length : Nat) - z : Int).toNat; omega⟩⟩, fun _ => h⟩⟩⟩⟩
section
variable {F : GFv} {p m v g : Nat} {P M : Int} {mf : LI}
theorem Jb1 {x : Int} {Q : Int × LI × Int -> Prop} (K : GFk F p m v g) (h0 : inE (p ^ m) x = 0 -> Q (0, [], 7)) (h : ∀ o : Nat, inE (p ^ m) x ≠ 0 -> Od (Js p m (dv p v)) (inE (p ^ m) x) o -> o <= p ^ m - 1 -> Q ((o : Int), li (pl o), 0)) : QF F x Q := by
 have R := K.fv.ring; have hq := K.fv.q; have hq2 := R.q2; refine Jdp K (fun hz => ⟨fun _ => h0 hz, fun c => absurd (by decide) c⟩) fun a ha ea => ⟨fun c => absurd rfl c, fun _ => ?_⟩
 have O := od_gcd K.G R a; rw [<- ea] at O; have hle : (p ^ m - 1) / Nat.gcd (p ^ m - 1) a <= p ^ m - 1 := Nat.div_le_self _ _; generalize (p ^ m - 1) / Nat.gcd (p ^ m - 1) a = o at *
 exact Jb0 O.pos (by omega) (h o (by rw [ea]; exact K.G.ne0 R a) O hle)
theorem Je2 {x : Int} {n : Nat} {Q : Bool -> Prop} (K : GFk F p m v g) (hn0 : 0 < n) (hn : n <= 1000) (h : Q (decide (pw (Js p m (dv p v)) (inE (p ^ m) x) n = 1))) : YU F x n Q := by
 refine v_PowN K hn0 hn ?_; have e : decide (((pw (Js p m (dv p v)) (inE (p ^ m) x) n : Nat) : Int) = 1) = decide (pw (Js p m (dv p v)) (inE (p ^ m) x) n = 1) := by
  by_cases c : pw (Js p m (dv p v)) (inE (p ^ m) x) n = 1
  .rw [decide_eq_true c, decide_eq_true (by omega)]
  .rw [decide_eq_false c, decide_eq_false (by omega)]
 show Q (decide _); rw [e]; exact h
theorem Jf7 {x : Int} {o : Nat} {Q : Int -> Prop} (K : GFk F p m v g) (O : Od (Js p m (dv p v)) (inE (p ^ m) x) o) (ho : o <= p ^ m - 1) (h : Q 0) : YV F x (o : Int) (li (pl o)) Q := by
 have hq := K.fv.q; have hq2 := K.fv.ring.q2; have o1 := O.pos; have hl : (li (pl o)).length <= 257 := by unfold li; rw [List.length_map]; have := Jdz o; omega
 refine ⟨by omega, ((p ^ m : Nat) : Int), Jjy K rfl, by omega, li (pl o), Jb0 o1 (by omega) rfl, Jhm (by omega) rfl, true, Je2 K o1 (by omega) (decide_eq_true O.one), fun c => absurd c (by decide), fun _ => ⟨fun z => 0 <= z, fun z => (((li (pl o)).length : Nat) - z : Int).toNat, by omega, fun z hz => ⟨fun hlt => ?_, fun _ => h⟩⟩⟩; obtain ⟨j, rfl⟩ := Int.eq_ofNat_of_zero_le hz; have hj : j < (li (pl o)).length := by omega
 have hm : (li (pl o))[j] ∈ li (pl o) := List.getElem_mem hj; have eg : gi (li (pl o)) ((j : Nat) : Int) = (li (pl o))[j] := by
  unfold gi; rw [Int.toNat_natCast, List.getD_eq_getElem?_getD, List.getElem?_eq_getElem hj]; rfl
 obtain ⟨r, hr, er⟩ := List.mem_map.1 hm; obtain ⟨r2, r0⟩ := pl_mem o (by omega) r hr; rw [eg, <- er, Jhy]; have hlt2 := Nat.div_lt_self o1 r2; have hge : 1 <= o / r := Nat.div_pos (Nat.le_of_dvd o1 (Nat.dvd_of_mod_eq_zero r0)) (by omega); refine ⟨⟨by omega, hlt⟩, ⟨by omega, Jm (by omega) (by omega)⟩, Je2 K hge (by omega) ?_⟩; rw [decide_eq_false (O.least _ hge hlt2)]; exact ⟨fun c => absurd c (by decide), fun _ => ⟨Jm (by omega) (by omega), by show (0 : Int) <= (j : Int) + 1; omega, by show (((li (pl o)).length : Nat) - ((j : Int) + 1) : Int).toNat < (((li (pl o)).length : Nat) - (j : Int) : Int).toNat; omega⟩⟩
end
theorem ZT (P M : Int) (mf : LI) (x : Int) : QT P M mf x (fun b => b = true) := by
 refine w_open (fun _ => rfl) fun F p m v g K hF => ?_; have R := hF.ring; have hq := hF.q; have hq2 := R.q2; have ne : ∀ {A B : Prop} {a : Int}, B -> (a ≠ a -> A) /\ (¬ (a ≠ a) -> B) := fun h => ⟨fun c => absurd rfl c, fun _ => h⟩
 have e1 : inE (p ^ m) 1 = 1 := Jbk (x := 1) R.one_lt; have one : ∀ {Q : Int × LI × Int -> Prop}, Q (1, [], 0) -> QF F 1 Q := fun {Q} h => by
  refine Jb1 K (fun hz => absurd (e1.symm.trans hz) (by decide)) fun o _ O _ => ?_; have : o = 1 := by
   rcases Nat.lt_or_ge 1 o with c | c
   .exact absurd (by rw [e1]; exact R.one_pw 1) (O.least 1 (by omega) c)
   .have := O.pos; omega
  subst this; exact h
 refine Jb1 K (fun hz => ?_) fun o hn O ho => ?_
 .exact Zi hF (fun _ => ⟨fun _ => ne (Jaf (by simp) ⟨fun c => absurd c (by decide), fun _ => one (ne (ne ⟨fun _ => rfl, fun c => absurd (by decide) c⟩))⟩), fun c => absurd rfl c⟩) fun n hn _ _ => absurd hz hn
 .refine Zi hF (fun hz => absurd hz hn) fun n _ On _ => ?_; have : n = o := On.uniq O; subst this; have n1 := O.pos; have hl : (li (pl n)).length <= 257 := by unfold li; rw [List.length_map]; have := Jdz n; omega
  exact ⟨fun c => by omega, fun _ => Jf5 n1 (by omega) (ne (Jaf (by omega) ⟨fun c => absurd c (by decide), fun _ => one (ne (ne (ne (Jf7 K O ho (decide_eq_true rfl)))))⟩))⟩
end Go.Proofs.Ytgcdbnpenhclfaa
