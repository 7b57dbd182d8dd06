/- Contracts of functions of the program, and what they lean on: V2, V3, V4, V5, V6, M1, M2, M3, M4, M5. -/
import Derived.Test.YtiboieijhehjnaaMatrixUniqueG8
set_option linter.unusedVariables false
set_option linter.unusedSimpArgs false
namespace Go.Proofs.Ytiboieijhehjnaa
theorem Z7 {l : List Int} {f : Int -> Bool} : l.any f = true ↔ ∃ i, i < l.length /\ f (vo l i) = true := by
  rw [List.any_eq_true]
  constructor
  . rintro ⟨x, hx, hf⟩
    obtain ⟨i, hi, rfl⟩ := List.mem_iff_getElem.1 hx
    refine ⟨i, hi, ?_⟩
    unfold vo; rw [List.getD_eq_getElem?_getD, List.getElem?_eq_getElem hi]; exact hf
  . rintro ⟨i, hi, hf⟩
    unfold vo at hf
    rw [List.getD_eq_getElem?_getD, List.getElem?_eq_getElem hi] at hf
    exact ⟨l[i], List.getElem_mem hi, hf⟩
theorem Jdr {l : List Int} {p : Int -> (Bool -> Prop) -> Prop} {f : Int -> Bool} {Q : Bool -> Prop} (hl : l.length <= 1000000000) (hp : ∀ x (R : Bool -> Prop), R (f x) -> p x R) (h : Q (l.any f)) : YJ l p Q := by
 refine ⟨fun z => ∃ k : Nat, z = k /\ k <= l.length /\ ∀ j, j < k -> f (vo l j) = false, fun z => (l.length - z).toNat, ⟨0, rfl, Nat.zero_le _, fun j hj => by omega⟩, ?_⟩; rintro _ ⟨k, rfl, hk, hv⟩; dsimp only; refine ⟨fun hlt => ⟨⟨by omega, by omega⟩, hp _ _ ⟨fun hb => ?_, fun hb => ⟨Jv (by omega) (by omega), ⟨k + 1, by push_cast; rfl, by omega, fun j hj => ?_⟩, by omega⟩⟩⟩, fun hge => ?_⟩
 .rw [Z7.2 ⟨k, by omega, hb⟩] at h; rw [decide_eq_true (by omega)]; exact h
 .rw [JQ] at hb; by_cases hjk : j = k
  .subst hjk; exact hb
  .exact hv j (by omega)
 .have : l.any f = false := by
   cases hb : l.any f with
   | false => rfl
   | true =>
    obtain ⟨i, hi, hf⟩ := Z7.1 hb; rw [hv i (by omega)] at hf; cases hf
  rw [this] at h; exact h
theorem Jfv {p : Nat} {a l c : Int} (hp : 0 < p) (ha : 0 <= a) (hl : l <= p) (hc : 0 <= c) : (a + ((p : Int) - l) * c).tmod p = (a - l * c) % (p : Int) := by
 have h1 : 0 <= ((p : Int) - l) * c := Int.mul_nonneg (by omega) hc; rw [Int.tmod_eq_emod_of_nonneg (by omega)]; have : a + ((p : Int) - l) * c = (a - l * c) + p * c := by rw [Int.sub_mul]; omega
 rw [this, Int.add_mul_emod_self_left]
theorem Jjb {p d n : Nat} {l R : Vec} (hp : 0 < p) {N : Nat} (hR : Cn p N R) : ∀ k, Cn p N (rem p d l R n k)
 | 0 => hR
 | k + 1 => fun j hj => by
  show 0 <= rst _ _ _ _ _ j /\ rst _ _ _ _ _ j < _; unfold rst; split
  .exact ⟨Int.emod_nonneg _ (by omega), Int.emod_lt_of_pos _ (by omega)⟩
  .exact Jjb hp hR k j hj
theorem ZO {a b : Int} {p : Nat} (hp : p <= 256) (ha : 0 <= a /\ a <= p) (hb : 0 <= b /\ b <= p) : 0 <= a * b /\ a * b <= 65536 := by
 obtain ⟨x, rfl⟩ := Int.eq_ofNat_of_zero_le ha.1; obtain ⟨y, rfl⟩ := Int.eq_ofNat_of_zero_le hb.1; have : x * y <= 256 * 256 := Nat.mul_le_mul (by omega) (by omega); have e : ((x : Int)) * (y : Int) = ((x * y : Nat) : Int) := by push_cast; rfl
 rw [e]; omega
theorem Jfq {l : List Int} {n i : Nat} (h : i < n) : vo (l.take n) i = vo l i := by
 unfold vo; rw [List.getD_eq_getElem?_getD, List.getD_eq_getElem?_getD, List.getElem?_take, if_pos h]
theorem Jew {p : Nat} {l o : List Int} {Q : Bool -> Prop} (hp : 0 < p) (hp2 : p <= 256) (hl : Cn p l.length (vo l)) (ho : Cn p o.length (vo o)) (hd : 0 < l.length) (hdn : l.length <= o.length) (hn : o.length <= 1000)
  (h : ∀ b : Bool, (b = true ↔ Dvd p l.length (vo l) (vo o) o.length) -> Q b) : Zc p l o Q := by
 refine Jc3 (by omega) ⟨Jv (by omega) (by omega), ?_⟩; generalize hdd : l.length = d at *
 generalize hnn : o.length = n at *
 refine ⟨fun x z => ∃ k : Nat, z = (n : Int) - 1 - k /\ k <= n - d /\ x.length = n /\ ∀ j, j < n -> vo x j = rem p d (vo l) (vo o) n k j, fun x z => (z + 1).toNat, ⟨0, by omega, by omega, hnn, fun j _ => rfl⟩, ?_⟩; rintro x _ ⟨k, rfl, hk, hx, hv⟩; dsimp only; have hc := Jjb (d := d) (l := vo l) (n := n) hp ho k; refine ⟨fun hle => ?_, fun hgt => ?_⟩
 .obtain ⟨i, hi⟩ : ∃ i : Nat, (n : Int) - 1 - k = i := ⟨n - 1 - k, by omega⟩
  rw [hi]; have hin : i = n - 1 - k := by omega
  refine ⟨fun y z => ∃ t : Nat, z = t /\ t <= d /\ y.length = n /\ ∀ j, j < n -> vo y j = if i <= j + d /\ j + d < i + t then rem p d (vo l) (vo o) n (k + 1) j else rem p d (vo l) (vo o) n k j, fun y z => (d - z).toNat, ⟨0, rfl, Nat.zero_le _, hx, fun j hj => by rw [if_neg (by omega)]; exact hv j hj⟩, ?_⟩; rintro y _ ⟨t, rfl, ht, hy, hw⟩; dsimp only; have e1 : (i : Int) - (d : Int) + (t : Int) = ((i - d + t : Nat) : Int) := by omega
  rw [e1, JQ, JQ, JQ, QA]; have hyi : vo y i = rem p d (vo l) (vo o) n k i := by rw [hw i (by omega), if_neg (by omega)]
  refine ⟨fun hlt => ?_, fun hge => ?_⟩
  .have hyj : vo y (i - d + t) = rem p d (vo l) (vo o) n k (i - d + t) := by rw [hw _ (by omega), if_neg (by omega)]
   have c1 := hl t (by omega); have c2 := hc i (by omega); have c3 := hc (i - d + t) (by omega); rw [hyi, hyj]; have c4 := ZO (a := (p : Int) - vo l t) (b := rem p d (vo l) (vo o) n k i) hp2 ⟨by omega, by omega⟩ ⟨c2.1, by omega⟩; refine ⟨⟨by omega, by omega⟩, Jv (by omega) (by omega), Jv (by omega) (by omega), ⟨by omega, by omega⟩, Jv (by omega) (by omega), ⟨by omega, by omega⟩, Jv (by omega) (by omega), Jv (by omega) (by omega), by omega, ⟨by omega, by omega⟩, Jv (by omega) (by omega), ⟨t + 1, by push_cast; rfl, by omega, by rw [List.length_set, hy], fun j hj => ?_⟩, by omega⟩; rw [Ql]; by_cases hjt : i - d + t = j
   .subst hjt; rw [if_pos ⟨rfl, by omega⟩, if_pos (by omega), Jfv hp c3.1 (by omega) c2.1]; show _ = rst p d (n - 1 - k) (vo l) (rem p d (vo l) (vo o) n k) (i - d + t); unfold rst; rw [<- hin, if_pos (by omega), show i - d + t + d - i = t by omega]
   .rw [if_neg (fun h => hjt h.1), hw j hj]; by_cases hc2 : i <= j + d /\ j + d < i + t
    .rw [if_pos hc2, if_pos (by omega)]
    .rw [if_neg hc2, if_neg (by omega)]
  .refine ⟨Jv (by omega) (by omega), ⟨k + 1, by omega, by omega, hy, fun j hj => ?_⟩, by omega⟩; rw [hw j hj]; have htd : t = d := by omega
   by_cases hc2 : i <= j + d /\ j + d < i + t
   .rw [if_pos hc2]
   .rw [if_neg hc2]; show _ = rst p d (n - 1 - k) (vo l) (rem p d (vo l) (vo o) n k) j; unfold rst; rw [<- hin, if_neg (by omega)]
 .refine ⟨⟨by omega, by omega⟩, Jdr (f := fun x => decide (x ≠ 0)) (by rw [List.length_take]; omega) (fun x R hR => hR) (h _ ?_)⟩; have hkk : k = n - d := by omega
  have hlen : (x.take (d : Int).toNat).length = d := by rw [List.length_take]; omega
  rw [Bool.not_eq_true']; constructor
  .intro hb j hj; have h2 : ¬ (x.take (d : Int).toNat).any (fun x => decide (x ≠ 0)) = true := by rw [hb]; decide
   rw [Z7] at h2; have h3 : decide (vo (x.take (d : Int).toNat) j ≠ 0) = false := by
    cases hc3 : decide (vo (x.take (d : Int).toNat) j ≠ 0) with
    | false => rfl
    | true => exact absurd ⟨j, by omega, hc3⟩ h2
   rw [Jfq (by simpa using hj), hv j (by omega), hkk] at h3; have h4 := of_decide_eq_false h3; omega
  .intro hD; cases hb : (x.take (d : Int).toNat).any (fun x => decide (x ≠ 0)) with
   | false => rfl
   | true =>
    obtain ⟨i, hi, hf⟩ := Z7.1 hb; rw [Jfq (by simpa using (by omega : i < d)), hv i (by omega), hkk, hD i (by omega)] at hf; exact absurd hf (by decide)
theorem Jc0 (o : List Int) : vo (o ++ [(1 : Int)]) = fun i => if i = o.length then 1 else vo o i := by
 funext i; unfold vo; rw [List.getD_eq_getElem?_getD, List.getD_eq_getElem?_getD]; rcases Nat.lt_trichotomy i o.length with h | h | h
 .rw [List.getElem?_append_left h, if_neg (by omega)]
 .subst h; simp
 .rw [if_neg (by omega), List.getElem?_eq_none (by simp; omega), List.getElem?_eq_none (by omega)]
theorem Jk4 {p : Nat} {o : List Int} (hp : 2 <= p) (ho : Cn p o.length (vo o)) : Cn p (o.length + 1) (vo (o ++ [(1 : Int)])) := fun i hi => by
 rw [Jc0]; dsimp only; split
 .omega
 .exact ho i (by omega)
theorem Ji1 {p : Nat} {l o : List Int} {Q : Bool -> Prop} (hp : 2 <= p) (hp2 : p <= 256) (hl : Cn p l.length (vo l)) (ho : Cn p o.length (vo o)) (hd : 0 < l.length) (hdn : l.length <= o.length) (hn : o.length <= 1000)
  (h : ∀ b : Bool, (b = true ↔ Dvd p l.length (vo l) (fun i => if i = o.length then 1 else vo o i) (o.length + 1)) -> Q b) : YH l o p Q := by
 unfold YH; simp only [List.nil_append]; rw [<- Jc0] at h; have hcR := Jk4 hp ho; have hnn : (o ++ [(1 : Int)]).length = o.length + 1 := by simp
 refine ⟨by omega, by omega, Jv (by omega) (by omega), ?_⟩; generalize hdd : l.length = d at *
 generalize hN : o.length + 1 = n at *
 generalize hoo : o ++ [(1 : Int)] = r at *
 refine ⟨fun x z => ∃ k : Nat, z = (n : Int) - 1 - k /\ k <= n - d /\ x.length = n /\ ∀ j, j < n -> vo x j = if j + k < n then rem p d (vo l) (vo r) n k j else 0, fun x z => (z + 1).toNat, ⟨0, by omega, by omega, hnn, fun j hj => by rw [if_pos (by omega)]; rfl⟩, ?_⟩; rintro x _ ⟨k, rfl, hk, hx, hv⟩; dsimp only; have hc := Jjb (d := d) (l := vo l) (n := n) (p := p) (by omega) hcR k; refine ⟨fun hle => ⟨⟨by omega, by omega⟩, ?_⟩, fun hgt => ?_⟩
 .obtain ⟨i, hi⟩ : ∃ i : Nat, (n : Int) - 1 - k = i := ⟨n - 1 - k, by omega⟩
  rw [hi]; have hin : i = n - 1 - k := by omega
  have hxi : vo x i = rem p d (vo l) (vo r) n k i := by rw [hv i (by omega), if_pos (by omega)]
  refine ⟨fun y z => ∃ t : Nat, z = t /\ t <= d /\ y.length = n /\ ∀ j, j < n -> vo y j = if i <= j + d /\ j + d < i + t then rem p d (vo l) (vo r) n (k + 1) j else vo x j, fun y z => (d - z).toNat, ⟨0, rfl, Nat.zero_le _, hx, fun j hj => by rw [if_neg (by omega)]⟩, ?_⟩; rintro y _ ⟨t, rfl, ht, hy, hw⟩; dsimp only; have e1 : (i : Int) - (d : Int) + (t : Int) = ((i - d + t : Nat) : Int) := by omega
  rw [e1, JQ, JQ, JQ, QA, QA]; refine ⟨fun hlt => ?_, fun hge => ?_⟩
  .have hyj : vo y (i - d + t) = rem p d (vo l) (vo r) n k (i - d + t) := by rw [hw _ (by omega), if_neg (by omega), hv _ (by omega), if_pos (by omega)]
   have c1 := hl t (by omega); have c2 := hc i (by omega); have c3 := hc (i - d + t) (by omega); rw [hxi, hyj]; have c4 := ZO (a := (p : Int) - rem p d (vo l) (vo r) n k i) (b := vo l t) hp2 ⟨by omega, by omega⟩ ⟨c1.1, by omega⟩; refine ⟨Jv (by omega) (by omega), Jv (by omega) (by omega), Jv (by omega) (by omega), Jv (by omega) (by omega), ⟨by omega, by omega⟩, Jv (by omega) (by omega), ⟨by omega, by omega⟩, Jv (by omega) (by omega), Jv (by omega) (by omega), by omega, ⟨by omega, by omega⟩, Jv (by omega) (by omega), ⟨t + 1, by push_cast; rfl, by omega, by rw [List.length_set, hy], fun j hj => ?_⟩, by omega⟩; rw [Ql]; by_cases hjt : i - d + t = j
   .subst hjt; rw [if_pos ⟨rfl, by omega⟩, if_pos (by omega), Jfv (by omega) c3.1 (by omega) c1.1]; show _ = rst p d (n - 1 - k) (vo l) (rem p d (vo l) (vo r) n k) (i - d + t); unfold rst; rw [<- hin, if_pos (by omega), show i - d + t + d - i = t by omega, Int.mul_comm]
   .rw [if_neg (fun h => hjt h.1), hw j hj]; by_cases hc2 : i <= j + d /\ j + d < i + t
    .rw [if_pos hc2, if_pos (by omega)]
    .rw [if_neg hc2, if_neg (by omega)]
  .refine ⟨⟨by omega, by omega⟩, Jv (by omega) (by omega), ⟨k + 1, by omega, by omega, by rw [List.length_set, hy], fun j hj => ?_⟩, by omega⟩; rw [Ql]; by_cases hij : i = j
   .subst hij; rw [if_pos ⟨rfl, by omega⟩, if_neg (by omega)]
   .rw [if_neg (fun h => hij h.1), hw j hj]; have htd : t = d := by omega
    by_cases hc2 : i <= j + d /\ j + d < i + t
    .rw [if_pos hc2, if_pos (by omega)]
    .rw [if_neg hc2, hv j hj]; by_cases hjk : j + k < n
     .rw [if_pos hjk, if_pos (by omega)]; show _ = rst p d (n - 1 - k) (vo l) (rem p d (vo l) (vo r) n k) j; unfold rst; rw [<- hin, if_neg (by omega)]
     .rw [if_neg hjk, if_neg (by omega)]
 .have hkk : k = n - d := by omega
  refine ⟨fun z => ∃ t : Nat, z = t /\ t <= n /\ ∀ j, j < t -> vo x j = 0, fun z => (n - z).toNat, ⟨0, rfl, Nat.zero_le _, fun j hj => by omega⟩, ?_⟩; rintro _ ⟨t, rfl, ht, hz⟩; dsimp only; rw [JQ]; refine ⟨fun hlt => ⟨⟨by omega, by omega⟩, fun hne => ?_, fun heq => ⟨Jv (by omega) (by omega), ⟨t + 1, by push_cast; rfl, by omega, fun j hj => ?_⟩, by omega⟩⟩, fun hge => ?_⟩
  .refine h false ⟨fun h' => absurd h' (by decide), fun hD => ?_⟩; rw [hv t (by omega)] at hne; by_cases hc2 : t + k < n
   .rw [if_pos hc2, hkk, hD t (by omega)] at hne; exact absurd rfl hne
   .rw [if_neg hc2] at hne; exact absurd rfl hne
  .by_cases hjt : j = t
   .subst hjt; omega
   .exact hz j (by omega)
  .refine h true ⟨fun _ j hj => ?_, fun _ => rfl⟩; have h1 := hz j (by omega); rw [hv j (by omega), if_pos (by omega), hkk] at h1; exact h1
theorem YX {p d w : Nat} (hw : w < p ^ d) : vo (dgi p d w) = dv p w := by
 funext i; rcases Nat.lt_or_ge i d with h | h
 .exact Yc h
 .rw [Jcj (by rw [J4]; exact h), Jpq hw h]
theorem Jcc {p d w : Nat} (hp : 0 < p) (hw : w < p ^ d) (n : Nat) : Cn p n (vo (dgi p d w)) := by rw [YX hw]; exact Jfc hp w n
theorem Jq3 {p m : Nat} {mf : List Int} {Q : Bool -> Prop} (hp : 2 <= p) (hp2 : p <= 256) (hm : mf.length = m) (hq : p ^ m <= 256) (hc : Cn p m (vo mf))
  (h : ∀ b : Bool, (b = true ↔ Irr p m (vo mf)) -> Q b) : QU p m mf Q := by
 have hm9 : m <= 8 := by
  rcases Nat.lt_or_ge 8 m with h1 | h1
  .have e1 : 2 ^ 9 <= p ^ 9 := Nat.pow_le_pow_left (by omega) 9; have e2 := Qw (p := p) (by omega) (show 9 <= m by omega); omega
  .exact h1
 refine Jc3 (by omega) ⟨by omega, ?_⟩; have hlen : (mf ++ [(1 : Int)]).length = m + 1 := by simp [hm]
 have hcs : Cn p (m + 1) (vo (mf ++ [(1 : Int)])) := by have := Jk4 hp (o := mf) (by rw [hm]; exact hc); rwa [hm] at this
 have hpd : ∀ d, 2 * d <= m -> p ^ d <= 256 := fun d hd => Nat.le_trans (Qw (by omega) (by omega)) hq; refine ⟨fun a b => ∃ d : Nat, a = d /\ 1 <= d /\ 2 * (d - 1) <= m /\ b = ((p ^ d : Nat) : Int) /\ p ^ d <= 65536 /\ ∀ e, 0 < e -> e < d -> 2 * e <= m -> ∀ w, w < p ^ e -> ¬ Dvd p e (dv p w) (fun i => if i = m then 1 else vo mf i) (m + 1), fun a b => (20 - a).toNat, ⟨1, rfl, by omega, by omega, by simp, by simp; omega, fun e h1 h2 => by omega⟩, ?_⟩; rintro _ _ ⟨d, rfl, hd1, hd2, rfl, hdp, hnd⟩; dsimp only; refine ⟨Jv (by omega) (by omega), fun hle => ?_, fun hgt => ?_⟩
 .have hpd' := hpd d (by omega); refine ⟨fun z => ∃ w : Nat, z = w /\ w <= p ^ d /\ ∀ u, u < w -> ¬ Dvd p d (dv p u) (fun i => if i = m then 1 else vo mf i) (m + 1), fun z => ((p ^ d : Nat) - z).toNat, ⟨0, rfl, Nat.zero_le _, fun u hu => by omega⟩, ?_⟩; rintro _ ⟨w, rfl, hw, hnw⟩; dsimp only; refine ⟨fun hlt => ?_, fun hge => ?_⟩
  .have hw2 : w < p ^ d := by omega
   refine ⟨_, Jdq (by omega) (by omega) (by omega) rfl, ?_⟩; have hdl := J4 p d w; refine (?_ : ∃ r : Bool, Zc p (dgi p d w) (mf ++ [(1 : Int)]) (fun q => q = r) /\ _); by_cases hD : Dvd p d (dv p w) (fun i => if i = m then 1 else vo mf i) (m + 1)
   .refine ⟨true, Jew (by omega) hp2 (by rw [hdl]; exact Jcc (by omega) hw2 d) (by rw [hlen]; exact hcs) (by omega) (by omega) (by omega) fun b hb => ?_, fun _ => ?_, fun h' => absurd h' (by decide)⟩
    .rw [hdl, hlen, YX hw2, Jc0, hm] at hb; exact hb.2 hD
    .exact h false ⟨fun h' => absurd h' (by decide), fun hI => absurd hD (hI d (by omega) (by omega) w hw2)⟩
   .refine ⟨false, Jew (by omega) hp2 (by rw [hdl]; exact Jcc (by omega) hw2 d) (by rw [hlen]; exact hcs) (by omega) (by omega) (by omega) fun b hb => ?_, fun h' => absurd h' (by decide), fun _ => ?_⟩
    .rw [hdl, hlen, YX hw2, Jc0, hm] at hb; cases b with
     | false => rfl
     | true => exact absurd (hb.1 rfl) hD
    .refine ⟨Jv (by omega) (by omega), ⟨w + 1, by push_cast; rfl, by omega, fun u hu => ?_⟩, by omega⟩; by_cases huw : u = w
     .subst huw; exact hD
     .exact hnw u (by omega)
  .have e1 : ((p ^ d : Nat) : Int) * (p : Int) = ((p ^ (d + 1) : Nat) : Int) := by rw [Nat.pow_succ]; push_cast; rfl
   have hb2 : p ^ (d + 1) <= 65536 := by
    rw [Nat.pow_succ]; have := Nat.mul_le_mul hpd' hp2; omega
   rw [e1]; refine ⟨Jv (by omega) (by omega), YV (by omega), ⟨d + 1, by push_cast; rfl, by omega, by omega, rfl, hb2, fun e he0 he h2 u hu => ?_⟩, by omega⟩; by_cases hed : e = d
   .subst hed; exact hnw u (by omega)
   .exact hnd e he0 (by omega) h2 u hu
 .exact h true ⟨fun _ e he0 h2 u hu => hnd e he0 (by omega) h2 u hu, fun _ => rfl⟩
theorem v_rirr {p m : Nat} {mf : List Int} {Q : Bool -> Prop} (hp : 2 <= p) (hp2 : p <= 256) (hm : mf.length = m) (hq : p ^ m <= 256) (hc : Cn p m (vo mf))
  (h : ∀ b : Bool, (b = true ↔ Irr p m (vo mf)) -> Q b) : Jeh mf p Q := by
 have hm9 : m <= 8 := by
  rcases Nat.lt_or_ge 8 m with h1 | h1
  .have e1 : 2 ^ 9 <= p ^ 9 := Nat.pow_le_pow_left (by omega) 9; have e2 := Qw (p := p) (by omega) (show 9 <= m by omega); omega
  .exact h1
 unfold Jeh; rw [hm]; have hpd : ∀ d, 2 * d <= m -> p ^ d <= 256 := fun d hd => Nat.le_trans (Qw (by omega) (by omega)) hq; refine ⟨fun b a => ∃ d : Nat, a = d + 1 /\ 2 * d <= m /\ b = ((p ^ d : Nat) : Int) /\ ∀ e, 0 < e -> e <= d -> 2 * e <= m -> ∀ w, w < p ^ e -> ¬ Dvd p e (dv p w) (fun i => if i = m then 1 else vo mf i) (m + 1), fun b a => (20 - a).toNat, ⟨0, rfl, by omega, by simp, fun e h1 h2 => by omega⟩, ?_⟩; rintro _ _ ⟨d, rfl, hd2, rfl, hnd⟩; dsimp only; have hpd' := hpd d hd2; refine ⟨Jv (by omega) (by omega), fun hle => ?_, fun hgt => ?_⟩
 .have e1 : ((p ^ d : Nat) : Int) * (p : Int) = ((p ^ (d + 1) : Nat) : Int) := by rw [Nat.pow_succ]; push_cast; rfl
  have hpd2 := hpd (d + 1) (by omega); rw [e1]; refine ⟨YV (by omega), ?_⟩; refine ⟨fun z => ∃ w : Nat, z = w /\ w <= p ^ (d + 1) /\ ∀ u, u < w -> ¬ Dvd p (d + 1) (dv p u) (fun i => if i = m then 1 else vo mf i) (m + 1), fun z => ((p ^ (d + 1) : Nat) - z).toNat, ⟨0, rfl, Nat.zero_le _, fun u hu => by omega⟩, ?_⟩; rintro _ ⟨w, rfl, hw, hnw⟩; dsimp only; rw [show (d : Int) + 1 = ((d + 1 : Nat) : Int) by push_cast; rfl]; refine ⟨fun hlt => ?_, fun hge => ?_⟩
  .have hw2 : w < p ^ (d + 1) := by omega
   have hdl := J4 p (d + 1) w; refine Jeu (by omega) (by omega) (by omega) (Ji1 hp hp2 (by rw [hdl]; exact Jcc (by omega) hw2 _) (by rw [hm]; exact hc) (by omega) (by omega) (by omega) fun b hb => ?_); rw [hdl, hm, YX hw2] at hb; refine ⟨fun hb1 => ?_, fun hb0 => ?_⟩
   .exact h false ⟨fun h' => absurd h' (by decide), fun hI => absurd (hb.1 hb1) (hI (d + 1) (by omega) (by omega) w hw2)⟩
   .refine ⟨Jv (by omega) (by omega), ⟨w + 1, by push_cast; rfl, by omega, fun u hu => ?_⟩, by omega⟩; by_cases huw : u = w
    .subst huw; intro hD; rw [hb.2 hD] at hb0; exact absurd hb0 (by decide)
    .exact hnw u (by omega)
  .refine ⟨Jv (by omega) (by omega), ⟨d + 1, rfl, by omega, rfl, fun e he0 he h2 u hu => ?_⟩, by omega⟩; by_cases hed : e = d + 1
   .subst hed; exact hnw u (by omega)
   .exact hnd e he0 (by omega) h2 u hu
 .exact h true ⟨fun _ e he0 h2 u hu => hnd e he0 (by omega) h2 u hu, fun _ => rfl⟩
structure FV (P M : Int) (mf : List Int) (p m v : Nat) : Prop where
  eP : P = p
  eM : M = m
  pr : IsLf p p
  m0 : 0 < m
  q : p ^ m <= 256
  vlt : v < p ^ m
  m1 : m = 1 -> mf = [] /\ v = 0
  m2 : m ≠ 1 -> mf = dgi p m v
  irr : Irr p m (dv p v)
def Yu (P M : Int) (mf : List Int) : Prop := ∃ p m v, FV P M mf p m v
open Classical in
noncomputable def ck (P M : Int) (mf : List Int) : Int := if Yu P M mf then 0 else 1
theorem Jfd {P M : Int} {mf : List Int} (h : Yu P M mf) : ck P M mf = 0 := if_pos h
theorem Ys {P M : Int} {mf : List Int} (h : ¬ Yu P M mf) : ck P M mf = 1 := if_neg h
theorem Jrt (p : Nat) (c : Vec) : Irr p 1 c := fun d h1 h2 => by omega
theorem ZW {p : Nat} (hp : IsLf p p) (hq : p <= 256) : FV p ((1 : Nat) : Int) [] p 1 0 := ⟨rfl, rfl, hp, by omega, by simpa using hq, by have := hp.two; simp; omega, fun _ => ⟨rfl, rfl⟩, fun h => absurd rfl h, Jrt p _⟩
theorem Jlr {p m : Nat} {mf : List Int} (hp : 0 < p) (hl : mf.length = m) (hc : Cn p m (vo mf)) : nm p m (vo mf) < p ^ m /\ mf = dgi p m (nm p m (vo mf)) /\ vo mf = dv p (nm p m (vo mf)) := by
 have hlt := Jal (m := m) hp (vo mf); have he : mf = dgi p m (nm p m (vo mf)) := YU (by rw [hl, J4]) fun i hi => by
  have h1 := hc i (by omega); rw [Yc (by omega), Jlp hp _ (by omega), Int.emod_eq_of_lt h1.1 h1.2]
 exact ⟨hlt, he, by have := congrArg vo he; rw [YX hlt] at this; exact this⟩
theorem FV.cn {P M : Int} {mf : List Int} {p m v : Nat} (h : FV P M mf p m v) (hm : m ≠ 1) : mf.length = m /\ Cn p m (vo mf) /\ Irr p m (vo mf) := by
 have := h.pr.two; rw [h.m2 hm]; exact ⟨J4 p m v, Jcc (by omega) h.vlt m, by rw [YX h.vlt]; exact h.irr⟩
theorem FV.vo {P M : Int} {mf : List Int} {p m v : Nat} (h : FV P M mf p m v) : Go.Proofs.Ytiboieijhehjnaa.vo mf = dv p v := by
 by_cases hm : m = 1
 .rw [(h.m1 hm).1, (h.m1 hm).2, Jd9]; rfl
 .rw [h.m2 hm, YX h.vlt]
theorem Jq4 {P M : Int} {mf : List Int} {Q : Int -> Prop} (h : Q (ck P M mf)) : Jdj P M mf Q := by
 refine ⟨fun h1 => ?_, fun h1 => Jmb (by omega) fun b hb => ⟨fun hb0 => ?_, fun hb1 => ?_⟩⟩
 .rw [Ys] at h
  .exact h
  .rintro ⟨p, m, v, hV⟩; have e1 := Qw (p := p) (by have := hV.pr.two; omega) hV.m0; have := hV.q; have := hV.eP; rw [show p ^ (0 + 1) = p from Nat.pow_one p] at e1; omega
 .rw [Ys] at h
  .exact h
  .rintro ⟨p, m, v, hV⟩; have := hV.pr.two; have : b = true := hb.2 ⟨by rw [hV.eP]; omega, by rw [hV.eP]; exact hV.pr⟩; rw [this] at hb0; exact absurd hb0 (by decide)
 .have hbt : b = true := by cases b <;> first | rfl | exact absurd hb1 (by decide)
  obtain ⟨hP2, hPr⟩ := hb.1 hbt; obtain ⟨p, rfl⟩ := Int.eq_ofNat_of_zero_le (show 0 <= P by omega); rw [Int.toNat_natCast] at hPr; refine ⟨fun h2 => ?_, fun h2 => Jfn (by omega) (by omega) fun r hr1 hr2 => ⟨fun h3 => ?_, fun h3 => ?_⟩⟩
  .rw [Ys] at h
   .exact h
   .rintro ⟨p', m, v, hV⟩; have := hV.m0; have := hV.eM; omega
  .rw [Ys] at h
   .exact h
   .rintro ⟨p', m, v, hV⟩; have e1 := hV.eM; have e2 := hV.eP; have e3 := hV.q; have : p = p' := by omega
    subst this; rw [e1, Int.toNat_natCast] at hr1; have := hr1 e3; omega
  .obtain ⟨m, rfl⟩ := Int.eq_ofNat_of_zero_le (show 0 <= M by omega); rw [Int.toNat_natCast] at hr1 hr2; have hq : p ^ m <= 256 := by
    rcases Nat.lt_or_ge 256 (p ^ m) with hc | hc
    .exact absurd (hr2 hc) h3
    .exact hc
   refine ⟨fun h4 => Joa ?_, fun h4 => ⟨fun h5 => ?_, fun h5 => ?_⟩⟩
   .have hm1 : m = 1 := by omega
    subst hm1; by_cases hl : mf = []
    .subst hl; rw [Jfd ⟨_, _, _, ZW hPr (by omega)⟩] at h
     simpa using h
    .rw [Ys] at h
     .simpa [hl] using h
     .rintro ⟨p', m, v, hV⟩; exact hl (hV.m1 (by have := hV.eM; omega)).1
   .rw [Ys] at h
    .exact h
    .rintro ⟨p', m', v, hV⟩; have e1 := hV.eM; have := (hV.cn (by omega)).1; omega
   .have hlen : mf.length = m := by omega
    have hm8 : mf.length <= 1000000000 := by
     have := Nat.lt_two_pow_self (n := m); have e1 : 2 ^ m <= p ^ m := Nat.pow_le_pow_left (by omega) m; omega
    refine Jdr (f := fun x => if x < 0 then true else decide ((p : Int) <= x)) hm8 (fun x R hR => ⟨fun hx => by simpa [hx] using hR, fun hx => by simpa [hx] using hR⟩) ⟨fun hb6 => ?_, fun hb6 => ?_⟩
    .rw [Ys] at h
     .exact h
     .rintro ⟨p', m', v, hV⟩; have e1 := hV.eM; have e2 := hV.eP; have e3 : p = p' := by omega
      have e4 : m = m' := by omega
      subst e3; subst e4; obtain ⟨i, hi, hf⟩ := Z7.1 hb6; have hcn := (hV.cn (by omega)).2.1 i (by omega); rw [if_neg (by omega)] at hf; have := of_decide_eq_true hf; omega
    .have hcn : Cn p m (vo mf) := fun i hi => by
      have h6 : ¬ mf.any (fun x => if x < 0 then true else decide ((p : Int) <= x)) = true := by rw [hb6]; decide
      rw [Z7] at h6; by_cases hx : vo mf i < 0
      .exact absurd ⟨i, by omega, by rw [if_pos hx]⟩ h6
      .by_cases hx2 : (p : Int) <= vo mf i
       .exact absurd ⟨i, by omega, by rw [if_neg hx, decide_eq_true hx2]⟩ h6
       .omega
     have hcl := Jlr (by omega) hlen hcn; refine Jq3 (by omega) (by omega) hlen hq hcn fun b2 hb2 => Joa ?_; by_cases hI : Irr p m (vo mf)
     .rw [hb2.2 hI, if_pos rfl]; rw [Jfd ⟨p, m, nm p m (vo mf), rfl, rfl, hPr, by omega, hq, hcl.1, fun e => by omega, fun _ => hcl.2.1, by rw [<- hcl.2.2]; exact hI⟩] at h; exact h
     .rw [if_neg (fun e => hI (hb2.1 e))]; rw [Ys] at h
      .exact h
      .rintro ⟨p', m', v, hV⟩; have e1 := hV.eM; have e2 := hV.eP; have e3 : p = p' := by omega
       have e4 : m = m' := by omega
       subst e3; subst e4; exact hI (hV.cn (by omega)).2.2
theorem Jn8 {P M : Int} {mf : List Int} {Q : Int -> Prop} (h : Q (ck P M mf)) : Jbr P M mf Q := by
 refine Jdn ⟨fun h0 => ?_, fun h0 => ?_⟩
 .rw [Ys] at h
  .exact h
  .rintro ⟨p, m, v, hV⟩; have h1 := hV.pr.two; have h2 := hV.m0; have h3 := hV.q; rw [hV.eP, hV.eM, Jdw, if_pos ⟨by omega, by omega, by simpa using h3⟩] at h0; have h4 : 0 < p ^ m := Nat.pow_pos (by omega); simp only [Int.toNat_natCast] at h0; omega
 .unfold Jdw at h0; by_cases hc : 2 <= P /\ 1 <= M /\ P.toNat ^ M.toNat <= 256
  .obtain ⟨h1, h2, hq⟩ := hc; obtain ⟨p, rfl⟩ := Int.eq_ofNat_of_zero_le (show 0 <= P by omega); obtain ⟨m, rfl⟩ := Int.eq_ofNat_of_zero_le (show 0 <= M by omega); simp only [Int.toNat_natCast] at hq; have hp256 : p <= 256 := by
    have := Qw (p := p) (by omega) (show 1 <= m by omega); rw [Nat.pow_one] at this; omega
   refine Jn5 (by omega) hp256 fun b hb => ⟨fun hb0 => ?_, fun hb1 => ?_⟩
   .rw [Ys] at h
    .exact h
    .rintro ⟨p', m', v, hV⟩; have e2 := hV.eP; have e3 : p = p' := by omega
     subst e3; rw [hb.2 hV.pr] at hb0; exact absurd hb0 (by decide)
   .have hbt : b = true := by cases b <;> first | rfl | exact absurd hb1 (by decide)
    have hPr := hb.1 hbt; refine ⟨fun h4 => ⟨fun h5 => ?_, fun h5 => ?_⟩, fun h4 => ⟨fun h5 => ?_, fun h5 => ?_⟩⟩
    .rw [Ys] at h
     .exact h
     .rintro ⟨p', m', v, hV⟩; have e1 := hV.eM; have := (hV.m1 (by omega)).1; rw [this] at h5; exact h5 rfl
    .have hm1 : m = 1 := by omega
     subst hm1; have hl : mf = [] := List.length_eq_zero_iff.1 (by omega); subst hl; rw [Jfd ⟨_, _, _, ZW hPr hp256⟩] at h; exact h
    .rw [Ys] at h
     .exact h
     .rintro ⟨p', m', v, hV⟩; have e1 := hV.eM; have := (hV.cn (by omega)).1; omega
    .have hlen : mf.length = m := by omega
     refine ⟨fun z => ∃ k : Nat, z = k /\ k <= m /\ Cn p k (vo mf), fun z => (m - z).toNat, ⟨0, rfl, Nat.zero_le _, fun i hi => by omega⟩, ?_⟩; rintro _ ⟨k, rfl, hk, hcn⟩; dsimp only; rw [JQ]; have hno : ¬ (0 <= vo mf k /\ vo mf k < p) -> k < m -> ¬ Yu p m mf := by
      rintro hbad hkm ⟨p', m', v, hV⟩; have e1 := hV.eM; have e2 := hV.eP; have e3 : p = p' := by omega
      have e4 : m = m' := by omega
      subst e3; subst e4; exact hbad ((hV.cn (by omega)).2.1 k hkm)
     have hm8 : m <= 1000000000 := by
      have := Nat.lt_two_pow_self (n := m); have e1 : 2 ^ m <= p ^ m := Nat.pow_le_pow_left (by omega) m; omega
     refine ⟨fun hlt => ⟨fun hneg => ⟨⟨by omega, by omega⟩, ?_⟩, fun hpos => ⟨⟨by omega, by omega⟩, ⟨by omega, by omega⟩, fun hbig => ?_, fun hsm => ⟨Jv (by omega) (by omega), ⟨k + 1, by push_cast; rfl, by omega, fun i hi => ?_⟩, by omega⟩⟩⟩, fun hge => ?_⟩
     .rw [Ys (hno (by omega) (by omega))] at h; exact h
     .rw [Ys (hno (by omega) (by omega))] at h; exact h
     .by_cases hik : i = k
      .subst hik; omega
      .exact hcn i (by omega)
     .have hkm : k = m := by omega
      subst hkm; have hcl := Jlr (by omega) hlen hcn; refine v_rirr (by omega) hp256 hlen hq hcn fun b2 hb2 => ⟨fun hb3 => ?_, fun hb3 => ?_⟩
      .rw [Ys] at h
       .exact h
       .rintro ⟨p', m', v, hV⟩; have e1 := hV.eM; have e2 := hV.eP; have e3 : p = p' := by omega
        have e4 : k = m' := by omega
        subst e3; subst e4; rw [hb2.2 (hV.cn (by omega)).2.2] at hb3; exact absurd hb3 (by decide)
      .have hbt2 : b2 = true := by cases b2 <;> first | rfl | exact absurd hb3 (by decide)
       rw [Jfd ⟨p, k, nm p k (vo mf), rfl, rfl, hPr, by omega, hq, hcl.1, fun e => by omega, fun _ => hcl.2.1, by rw [<- hcl.2.2]; exact hb2.1 hbt2⟩] at h; exact h
  .rw [if_neg hc] at h0; exact absurd rfl h0
end Go.Proofs.Ytiboieijhehjnaa
set_option linter.unusedVariables false
set_option linter.unusedSimpArgs false
namespace Go.Proofs.Ytiboieijhehjnaa
theorem Jbk {p m : Nat} {r : List Int} {u : Vec} (hp : 0 < p) (hl : r.length = m) (hv : ∀ i, i < m -> vo r i = u i % (p : Int)) : r = dgi p m (nm p m u) :=
  YU (by rw [hl, J4]) fun i hi => by rw [hv i (by omega), Yc (by omega), Jlp hp _ (by omega)]
theorem Jc1 (p i : Nat) (l : List Int) (n : Nat) (h : i < n) : vl p (i + 1) (fun t => vo l (n - (i + 1) + t)) = vo l (n - (i + 1)) + (p : Int) * vl p i (fun t => vo l (n - i + t)) := by
 show vo l (n - (i + 1) + 0) + (p : Int) * vl p i (fun t => vo l (n - (i + 1) + (t + 1))) = _; rw [Nat.add_zero]; have : (fun t => vo l (n - (i + 1) + (t + 1))) = fun t => vo l (n - i + t) := by
  funext t; rw [show n - (i + 1) + (t + 1) = n - i + t by omega]
 rw [this]
theorem Jc2 {p : Nat} {l : List Int} {n i : Nat} (hp : 2 <= p) (hc : Cn p n (vo l)) (hq : p ^ n <= 256) (hi : i <= n) : 0 <= vl p i (fun t => vo l (n - i + t)) /\ vl p i (fun t => vo l (n - i + t)) < 256 := by
 have h1 := Jkv (p := p) (n := i) (v := fun t => vo l (n - i + t)) (by omega) (fun t ht => hc (n - i + t) (by omega)); have h2 := Qw (p := p) (by omega) hi; omega
theorem Jfo {p : Nat} {l : List Int} {Q : Int -> Prop} (hp : 2 <= p) (hp2 : p <= 256) (hc : Cn p l.length (vo l)) (hq : p ^ l.length <= 256) (h : Q (vl p l.length (vo l))) : YB p l Q := by
 refine ⟨fun i z => i <= l.length /\ z = vl p i (fun t => vo l (l.length - i + t)), ⟨Nat.zero_le _, rfl⟩, ?_, ?_⟩
 .rintro i hi _ ⟨_, rfl⟩; have h1 := Jc2 hp hc hq (i := i) (by omega); have h2 := Jc2 hp hc hq (i := i + 1) (by omega); rw [Jc1 p i l l.length hi] at h2; have h3 := ZO (a := vl p i (fun t => vo l (l.length - i + t))) (b := p) (p := 256) (by omega) ⟨h1.1, by omega⟩ ⟨by omega, by omega⟩; rw [show ((l.length - 1 - i : Nat) : Int) = ((l.length - (i + 1) : Nat) : Int) by omega, JQ]; refine ⟨Jv (by omega) (by omega), ?_, by omega, ?_⟩
  .rw [Int.mul_comm, Int.add_comm]; exact Jv (by omega) (by omega)
  .rw [Jc1 p i l l.length hi, Int.mul_comm, Int.add_comm]
 .rintro _ ⟨_, rfl⟩; have : (fun t => vo l (l.length - l.length + t)) = vo l := by funext t; rw [Nat.sub_self, Nat.zero_add]
  rw [this]; exact h
theorem Jn6 {p : Nat} {M : Int} {mf l : List Int} {Q : Int -> Prop} (hp : 2 <= p) (hp2 : p <= 256) (hl : l.length <= 1000) (hc : Cn p l.length (vo l)) (hq : p ^ l.length <= 256) (h : Q (vl p l.length (vo l))) : Y8 p M mf l Q := by
 refine ⟨Jv (by omega) (by omega), fun z j => ∃ i : Nat, j = (l.length : Int) - 1 - i /\ i <= l.length /\ z = vl p i (fun t => vo l (l.length - i + t)), fun z j => (j + 1).toNat, ⟨0, by omega, Nat.zero_le _, rfl⟩, ?_⟩; rintro _ _ ⟨i, rfl, hi, rfl⟩; dsimp only; refine ⟨fun hge => ?_, fun hlt => ?_⟩
 .have h1 := Jc2 hp hc hq (i := i) (by omega); have h2 := Jc2 hp hc hq (i := i + 1) (by omega); rw [Jc1 p i l l.length (by omega)] at h2; have h3 := ZO (a := vl p i (fun t => vo l (l.length - i + t))) (b := p) (p := 256) (by omega) ⟨h1.1, by omega⟩ ⟨by omega, by omega⟩; rw [show (l.length : Int) - 1 - i = ((l.length - (i + 1) : Nat) : Int) by omega, JQ]; refine ⟨Jv (by omega) (by omega), ⟨by omega, by omega⟩, ?_, Jv (by omega) (by omega), ⟨i + 1, by omega, by omega, ?_⟩, by omega⟩
  .rw [Int.mul_comm, Int.add_comm]; exact Jv (by omega) (by omega)
  .rw [Jc1 p i l l.length (by omega), Int.mul_comm, Int.add_comm]
 .have hil : i = l.length := by omega
  subst hil; have : (fun t => vo l (l.length - l.length + t)) = vo l := by funext t; rw [Nat.sub_self, Nat.zero_add]
  rw [this]; exact h
theorem Jn2 {p m x : Nat} (hp : 0 < p) (hx : x < p ^ m) : vl p (dgi p m x).length (vo (dgi p m x)) = (x : Int) := by
 rw [J4, YX hx, Jn1 hp hx]
namespace FV
variable {P M : Int} {mf : List Int} {p m v : Nat} (F : FV P M mf p m v)
include F
theorem p2 : 2 <= p := F.pr.two
theorem pq : p <= p ^ m := by
 have := Qw (p := p) (by have := F.pr.two; omega) F.m0
 rwa [show p ^ (0 + 1) = p from Nat.pow_one p] at this
theorem p256 : p <= 256 := Nat.le_trans F.pq F.q
theorem m8 : m <= 8 := by
 rcases Nat.lt_or_ge 8 m with h1 | h1
 .have e1 : 2 ^ 9 <= p ^ 9 := Nat.pow_le_pow_left F.p2 9; have e2 := Qw (p := p) (by have := F.p2; omega) (show 9 <= m by omega); have := F.q; omega
 .exact h1
theorem ring : CR (p ^ m) (J2 p m) (Jw p m (dv p v)) := Jkr _ F.p2 F.m0
theorem gen : ∃ g, Gn (p ^ m) (Jw p m (dv p v)) g := gen_ex F.pr F.m0 F.q F.vlt (fun h => (F.m1 h).2) F.irr
end FV
def sh (v : Vec) : Vec := fun i => if i = 0 then 0 else v (i - 1)
theorem Jof {m : Nat} {c v : Vec} {i : Nat} (hi : i < m) : tX m c v i = sh v i - c i * v (m - 1) := by simp only [tX, if_pos hi, sh]
theorem Jn4 {P M : Int} {mf : List Int} {p m v : Nat} (F : FV P M mf p m v) {x : Nat} {Q : List Int -> Prop} (hx : x < p ^ m) (h : Q (dgi p m (nm p m (tX m (dv p v) (dv p x))))) : Jbo P M mf (dgi p m x) Q := by
 have hp := F.p2; have hp2 := F.p256; have hm0 := F.m0; have hm8 := F.m8; rw [F.eP, F.eM]; have hlen := J4 p m x; have hcx := Jfc (p := p) (by omega) x m; refine ⟨Jv (by omega) (by omega), ⟨by omega, by omega⟩, ⟨by omega, by omega⟩, ⟨by omega, by omega⟩, ?_⟩; generalize hA : (si ((dgi p m x).take ((1 : Int).toNat) ++ (dgi p m x).take (min (dgi p m x).length ((dgi p m x).length - ((1 : Int).toNat))) ++ (dgi p m x).drop ((1 : Int).toNat + (min (dgi p m x).length ((dgi p m x).length - ((1 : Int).toNat))))) (0 : Int) (0 : Int)) = A; have hAl : A.length = m := by
  rw [<- hA]; show (List.set _ _ _).length = m; rw [List.length_set]; simp only [List.length_append, List.length_take, List.length_drop, hlen]; show min 1 m + min (min m (m - 1)) m + (m - (1 + min m (m - 1))) = m; omega
 have hAv : ∀ i, i < m -> vo A i = sh (dv p x) i := fun i hi => by
  unfold sh; rw [<- hA]; show vo (List.set _ 0 0) i = _; rw [Ql]; by_cases h0 : i = 0
  .subst h0; rw [if_pos ⟨rfl, by simp only [List.length_append, List.length_take, hlen]; show 0 < min 1 m + _ + _; omega⟩, if_pos rfl]
  .rw [if_neg (fun h => h0 h.1.symm), if_neg h0]; have e1 : ((dgi p m x).take ((1 : Int).toNat)).length = 1 := by rw [List.length_take, hlen]; show min 1 m = 1; omega
   have e2 : (min (dgi p m x).length ((dgi p m x).length - ((1 : Int).toNat))) = m - 1 := by rw [hlen]; show min m (m - 1) = m - 1; omega
   rw [e2]; have e3 : ((dgi p m x).take (m - 1)).length = m - 1 := by rw [List.length_take, hlen]; omega
   unfold vo; rw [List.getD_eq_getElem?_getD, List.append_assoc, List.getElem?_append_right (by omega), e1, List.getElem?_append_left (by omega), List.getElem?_take, if_pos (by omega)]; have := Yc (p := p) (x := x) (i := i - 1) (n := m) (by omega); unfold vo at this; rw [List.getD_eq_getElem?_getD] at this; exact this
 rw [show (m : Int) - 1 = ((m - 1 : Nat) : Int) by omega, JQ, Yc (by omega)]; have hshift : ∀ i, i < m -> 0 <= sh (dv p x) i /\ sh (dv p x) i < p := fun i hi => by
  unfold sh; split
  .omega
  .exact hcx (i - 1) (by omega)
 refine ⟨fun h0 => ?_, fun h0 => ?_⟩
 .rw [Jbk (p := p) (u := tX m (dv p v) (dv p x)) (by omega) hAl fun i hi => ?_]
  .exact h
  .have := hshift i hi; rw [hAv i hi]; rw [Jof hi, h0, Int.mul_zero, Int.sub_zero, Int.emod_eq_of_lt this.1 this.2]
 .have hml : mf.length <= m := by
   by_cases hm1 : m = 1
   .rw [(F.m1 hm1).1]; simp
   .rw [F.m2 hm1, J4]; omega
  have hcv := Jfc (p := p) (by omega) v m; have ht := hcx (m - 1) (by omega); refine ⟨fun l z => ∃ k : Nat, z = k /\ k <= mf.length /\ l.length = m /\ ∀ i, i < m -> vo l i = if i < k then tX m (dv p v) (dv p x) i % (p : Int) else vo A i, fun l z => (mf.length - z).toNat, ⟨0, rfl, Nat.zero_le _, hAl, fun i hi => by rw [if_neg (by omega)]⟩, ?_⟩; rintro l _ ⟨k, rfl, hk, hl, hv⟩; dsimp only; rw [JQ, JQ, QA, F.vo]; refine ⟨fun hlt => ?_, fun hge => ?_⟩
  .have c1 := hcv k (by omega); have c2 := hshift k (by omega); have c3 := ZO (a := (p : Int) - dv p v k) (b := dv p x (m - 1)) hp2 ⟨by omega, by omega⟩ ⟨ht.1, by omega⟩; rw [hv k (by omega), if_neg (by omega), hAv k (by omega)]; refine ⟨⟨by omega, by omega⟩, ⟨by omega, by omega⟩, Jv (by omega) (by omega), Jv (by omega) (by omega), Jv (by omega) (by omega), by omega, ⟨by omega, by omega⟩, Jv (by omega) (by omega), ⟨k + 1, by push_cast; rfl, by omega, by rw [List.length_set, hl], fun i hi => ?_⟩, by omega⟩; rw [Ql]; by_cases hki : k = i
   .subst hki; rw [if_pos ⟨rfl, by omega⟩, if_pos (by omega), Jfv (by omega) c2.1 (by omega) ht.1, Jof hi]
   .rw [if_neg (fun h => hki h.1), hv i hi]; by_cases hik : i < k
    .rw [if_pos hik, if_pos (by omega)]
    .rw [if_neg hik, if_neg (by omega)]
  .rw [Jbk (p := p) (u := tX m (dv p v) (dv p x)) (by omega) hl fun i hi => ?_]
   .exact h
   .rw [hv i hi]; by_cases hik : i < k
    .rw [if_pos hik]
    .rw [if_neg hik]; have hm1 : m = 1 := by
      by_cases hm1 : m = 1
      .exact hm1
      .rw [F.m2 hm1, J4] at hge hk; omega
     have hi0 : i = 0 := by omega
     rw [hAv i hi, Jof hi, (F.m1 hm1).2, Jd9]; subst hi0; simp [sh, vz]
theorem hz_z {m : Nat} {c b y : Vec} {n : Nat} : ∀ {k : Nat}, k <= n -> (∀ i, n - k <= i -> i < n -> b i = 0) -> hz m c b y n k = vz
 | 0, _, _ => rfl
 | k + 1, hk, h => by
  show JX (tX m c (hz m c b y n k)) (vsm (b (n - 1 - k)) y) = vz; rw [hz_z (k := k) (by omega) (fun i h1 h2 => h i (by omega) h2), h (n - 1 - k) (by omega) (by omega), tX_z]; funext i; simp [JX, vsm, vz]
theorem hz_sup {m : Nat} {c b y : Vec} {n : Nat} (hy : Sup m y) : ∀ k, Sup m (hz m c b y n k)
 | 0 => Sup.z
 | k + 1 => Sup.add Sup.tX hy.sm
theorem rep_z (p m : Nat) : List.replicate m (0 : Int) = dgi p m 0 := YU (by simp [J4]) fun i hi => by
 rw [Jfm, Yc (by simpa using hi), Jd9]; rfl
theorem nm_z {p m : Nat} (hp : 0 < p) : nm p m vz = 0 := by rw [<- Jd9 p, Jam hp (Nat.pow_pos hp)]
theorem Jma {P M : Int} {mf : List Int} {p m v : Nat} (F : FV P M mf p m v) {o : List Int} {x y : Nat} {Q : List Int -> Prop} (ho : o.length = m) (hx : x < p ^ m) (hy : y < p ^ m) (h : Q (dgi p m (Jw p m (dv p v) x y))) : Z9 P M mf o (dgi p m x) (dgi p m y) Q := by
 have hp := F.p2; have hp2 := F.p256; have hm0 := F.m0; have hm8 := F.m8; obtain rfl := F.eP; obtain rfl := F.eM; have hlx := J4 p m x; have hly := J4 p m y; have hcx := Jfc (p := p) (by omega) x m; have hcy := Jfc (p := p) (by omega) y m; refine ⟨Jv (by omega) (by omega), fun z => ∃ k : Nat, z = k /\ k < m /\ ∀ i, k < i -> i < m -> dv p y i = 0, ⟨fun z => ∃ k : Nat, z = k /\ k < m /\ ∀ i, k < i -> i < m -> dv p y i = 0, fun z => z.toNat, ⟨m - 1, by omega, by omega, fun i h1 h2 => by omega⟩, ?_⟩, ?_⟩
 .rintro _ ⟨k, rfl, hk, hzz⟩; dsimp only; refine ⟨fun hlt => ⟨⟨by omega, by omega⟩, fun h0 => ⟨Jv (by omega) (by omega), ⟨k - 1, by omega, by omega, fun i h1 h2 => ?_⟩, by omega⟩, fun _ => ⟨k, rfl, hk, hzz⟩⟩, fun _ => ⟨k, rfl, hk, hzz⟩⟩; rw [JQ, Yc hk] at h0; by_cases hik : i = k
  .subst hik; exact h0
  .exact hzz i (by omega) h2
 .rintro _ ⟨k0, rfl, hk0, hzz⟩; refine ⟨fun l z => ∃ k : Nat, z = (m : Int) - 1 - k /\ k <= m /\ l = dgi p m (nm p m (hz m (dv p v) (dv p y) (dv p x) m k)), fun l z => (z + 1).toNat, ⟨m - 1 - k0, by omega, by omega, ?_⟩, ?_⟩
  .rw [hz_z (by omega) (fun i h1 h2 => hzz i (by omega) h2), nm_z (by omega), ho, rep_z p m]
  .rintro _ _ ⟨k, rfl, hk, rfl⟩; dsimp only; refine ⟨fun hge => Jn4 F (Jal (by omega) _) ?_, fun hlt => ?_⟩
   .have hs := hz_sup (c := dv p v) (b := dv p y) (n := m) (Yb hx) k; rw [YW (vcg.tX (vcg.refl _) (Jig (by omega) hs))]; generalize hT : tX m (dv p v) (hz m (dv p v) (dv p y) (dv p x) m k) = T; have hnT := Jal (p := p) (m := m) (by omega) T; refine ⟨fun l z => ∃ t : Nat, z = t /\ t <= m /\ l.length = m /\ ∀ i, i < m -> vo l i = if i < t then (T i + dv p y (m - 1 - k) * dv p x i) % (p : Int) else T i % (p : Int), fun l z => (m - z).toNat, ⟨0, rfl, Nat.zero_le _, J4 _ _ _, fun i hi => by rw [if_neg (by omega), Yc hi, Jlp (by omega) _ hi]⟩, ?_⟩; rintro l _ ⟨t, rfl, ht, hl, hv⟩; dsimp only; rw [show (m : Int) - 1 - k = ((m - 1 - k : Nat) : Int) by omega, JQ, JQ, JQ, QA]; rw [hlx]; refine ⟨fun hlt => ?_, fun hge2 => ?_⟩
    .rw [hv t (by omega), if_neg (by omega), Yc (by omega), Yc (by omega)]; have c1 := hcy (m - 1 - k) (by omega); have c2 := hcx t (by omega); have c3 := ZO (a := dv p y (m - 1 - k)) (b := dv p x t) hp2 ⟨c1.1, by omega⟩ ⟨c2.1, by omega⟩; have c4 : 0 <= T t % (p : Int) /\ T t % (p : Int) < p := ⟨Int.emod_nonneg _ (by omega), Int.emod_lt_of_pos _ (by omega)⟩
     refine ⟨⟨by omega, by omega⟩, ⟨by omega, by omega⟩, ⟨by omega, by omega⟩, Jv (by omega) (by omega), Jv (by omega) (by omega), by omega, ⟨by omega, by omega⟩, Jv (by omega) (by omega), ⟨t + 1, by push_cast; rfl, by omega, by rw [List.length_set, hl], fun i hi => ?_⟩, by omega⟩; rw [Ql]; by_cases hti : t = i
     .subst hti; rw [if_pos ⟨rfl, by omega⟩, if_pos (by omega), Int.tmod_eq_emod_of_nonneg (by omega)]; exact Jcd (Int.emod_emod _ _) rfl
     .rw [if_neg (fun h => hti h.1), hv i hi]; by_cases hit : i < t
      .rw [if_pos hit, if_pos (by omega)]
      .rw [if_neg hit, if_neg (by omega)]
    .refine ⟨Jv (by omega) (by omega), ⟨k + 1, by omega, by omega, ?_⟩, by omega⟩; refine Jbk (by omega) hl fun i hi => ?_; rw [hv i hi, if_pos (by omega)]; show _ = (JX (tX m (dv p v) (hz m (dv p v) (dv p y) (dv p x) m k)) (vsm (dv p y (m - 1 - k)) (dv p x))) i % _; rw [hT]; rfl
   .have hkm : k = m := by omega
    subst hkm; rw [hz_all]; exact h
def pwl (M : Nat -> Nat -> Nat) (x n : Nat) : List Int := (List.range n).map fun k => ((pw M x k : Nat) : Int)
theorem ZZ (M : Nat -> Nat -> Nat) (x n : Nat) : (pwl M x n).length = n := by simp [pwl]
theorem Jdv {M : Nat -> Nat -> Nat} {x n i : Nat} (h : i < n) : vo (pwl M x n) i = ((pw M x i : Nat) : Int) := by
 unfold vo pwl; rw [List.getD_eq_getElem?_getD, List.getElem?_map, List.getElem?_range h]; rfl
theorem Jou (M : Nat -> Nat -> Nat) (x n : Nat) : pwl M x (n + 1) = pwl M x n ++ [((pw M x n : Nat) : Int)] := by simp [pwl, List.range_succ]
structure Od (M : Nat -> Nat -> Nat) (x n : Nat) : Prop where
  pos : 0 < n
  one : pw M x n = 1
  least : ∀ k, 0 < k -> k < n -> pw M x k ≠ 1
theorem Jn9 {P M : Int} {mf : List Int} {p m v : Nat} (F : FV P M mf p m v) {x : Nat} {Q : List Int -> Prop} (h0 : 0 < x) (hx : x < p ^ m)
  (h : ∀ n, Od (Jw p m (dv p v)) x n -> n <= p ^ m - 1 -> Q (pwl (Jw p m (dv p v)) x n)) : Jbs P M mf x Q := by
 have hp := F.p2; have hp2 := F.p256; have hm0 := F.m0; have hm8 := F.m8; have hq := F.q; have R := F.ring; obtain ⟨g, G⟩ := F.gen; have hone := G.xone R h0 hx; have hq2 := R.q2; obtain rfl := F.eP; obtain rfl := F.eM; refine Jfn hp hp2 fun r hr _ => ?_; rw [Int.toNat_natCast] at hr; rw [hr hq]; refine ⟨⟨by omega, by omega, by omega⟩, by omega, _, Jdq (by omega) (by omega) (by omega) rfl, _, Jdq (by omega) (by omega) (by omega) rfl, ⟨by omega, by omega, by omega⟩, ?_⟩; refine ⟨fun l z a b => ∃ k : Nat, 0 < k /\ k <= p ^ m - 1 /\ l = pwl (Jw p m (dv p v)) x k /\ z = ((pw (Jw p m (dv p v)) x k : Nat) : Int) /\ a = dgi p m (pw (Jw p m (dv p v)) x k) /\ b.length = m /\ ∀ j, 0 < j -> j < k -> pw (Jw p m (dv p v)) x j ≠ 1, fun l z a b => 300 - l.length, ⟨1, by omega, by omega, rfl, by rw [R.pw_one hx], by rw [R.pw_one hx], by simp, fun j h1 h2 => by omega⟩, ?_⟩; rintro _ _ _ b ⟨k, hk0, hk, rfl, rfl, rfl, hb, hno⟩; dsimp only; refine ⟨fun hne => ?_, fun heq => ?_⟩
 .have hkq : k < p ^ m - 1 := by
   rcases Nat.lt_or_ge k (p ^ m - 1) with hc | hc
   .exact hc
   .have : k = p ^ m - 1 := by omega
    rw [this, hone] at hne; exact absurd rfl hne
  rw [ZZ]; refine ⟨by omega, ?_⟩; refine Jma F hb (R.pw_lt x k) hx ?_; have hlt := R.pw_lt x (k + 1); refine Jfo hp hp2 (by rw [J4]; exact Jcc (by omega) hlt _) (by rw [J4]; exact hq) ?_; have hvd := Jn2 (p := p) (m := m) (by omega) hlt; refine ⟨⟨k + 1, by omega, by omega, (Jou _ _ _).symm, hvd, rfl, J4 _ _ _, fun j h1 h2 => ?_⟩, ?_⟩
  .by_cases hjk : j = k
   .subst hjk; intro e; rw [e] at hne; exact hne rfl
   .exact hno j h1 (by omega)
  .rw [List.length_append, ZZ]; simp; omega
 .refine h k ⟨hk0, ?_, hno⟩ hk; have : ((pw (Jw p m (dv p v)) x k : Nat) : Int) = 1 := by
   by_cases hc : ((pw (Jw p m (dv p v)) x k : Nat) : Int) = 1
   .exact hc
   .exact absurd hc heq
  omega
end Go.Proofs.Ytiboieijhehjnaa
set_option linter.unusedVariables false
set_option linter.unusedSimpArgs false
namespace Go.Proofs.Ytiboieijhehjnaa
theorem gb_nat (l : List Bool) (i : Nat) : gb l (i : Int) = l.getD i false := rfl
theorem Jon (l : List Bool) (i : Nat) (x : Bool) : sb l (i : Int) x = l.set i x := rfl
theorem Z5 (l : List Bool) (i j : Nat) (x : Bool) : (l.set i x).getD j false = if i = j /\ i < l.length then x else l.getD j false := by
 rw [List.getD_eq_getElem?_getD, List.getD_eq_getElem?_getD, List.getElem?_set]; by_cases h : i = j
 .subst h; by_cases h2 : i < l.length
  .simp [h2]
  .simp [h2]
 .simp [h]
theorem Jq2 {P M : Int} {mf : List Int} {p m v : Nat} (F : FV P M mf p m v) {Q : List Int -> Prop}
  (h : ∀ g, Gn (p ^ m) (Jw p m (dv p v)) g -> Q (pwl (Jw p m (dv p v)) g (p ^ m - 1))) : Jdg ⟨P, M, mf, ((p ^ m : Nat) : Int), [], [], []⟩ Q := by
 have hq := F.q; have R := F.ring; have hq2 := R.q2; obtain ⟨g0, G0⟩ := F.gen; generalize hqq : p ^ m = q at *
 generalize hMM : Jw p m (dv p v) = Mu at *
 refine ⟨⟨by show (0 : Int) <= q; omega, by show (q : Int) * 1 <= _; omega, by show (q : Int) <= _; omega⟩, ⟨by omega, by show (0 : Int) < ((((q : Nat) : Int).toNat : Nat) : Int); omega⟩, ?_⟩; refine ⟨YV (by omega), fun i x s => s.length = q /\ s.getD 0 false = true /\ (∀ j, j < i -> ¬ Gn q Mu j) /\ ∀ j, j < q -> s.getD j false = true -> ¬ Gn q Mu j, fun x s => ∃ g, Gn q Mu g /\ x = pwl Mu g (q - 1), ?_, ?_, ?_, ?_⟩
 .have h0 : ¬ Gn q Mu 0 := fun G => by
   have := G.one; rw [R.zero_pw (by omega)] at this; omega
  dsimp only; rw [show (0 : Int) = ((0 : Nat) : Int) from rfl, Jon]; refine ⟨by rw [List.length_set, List.length_replicate]; exact Int.toNat_natCast q, ?_, fun j hj => by omega, fun j hj hs => ?_⟩
  .rw [Z5, if_pos ⟨rfl, by rw [List.length_replicate, Int.toNat_natCast]; omega⟩]
  .rw [Z5] at hs; by_cases hj0 : 0 = j
   .rw [<- hj0]; exact h0
   .rw [if_neg (fun h => hj0 h.1), List.getD_eq_getElem?_getD, List.getElem?_replicate] at hs; split at hs <;> exact absurd hs (by decide)
 .rintro i hi x s ⟨hs, hs0, hno, hsn⟩; dsimp only at hi ⊢; rw [Int.toNat_natCast] at hi; rw [gb_nat]; refine ⟨⟨by omega, by rw [Int.toNat_natCast]; omega⟩, fun hb => ⟨hs, hs0, fun j hj => ?_, hsn⟩, fun hb => ?_⟩
  .by_cases hji : j = i
   .subst hji; exact hsn j hi hb
   .exact hno j (by omega)
  .have hi0 : 0 < i := by
    rcases Nat.eq_zero_or_pos i with h0 | h0
    .subst h0; rw [hs0] at hb; exact absurd hb (by decide)
    .exact h0
   refine Jn9 F hi0 (by rw [hqq]; exact hi) fun n O hn => ?_; rw [hMM] at O ⊢; rw [hqq] at hn; rw [ZZ]; refine ⟨Jv (by omega) (by omega), fun he => ?_, fun hne => ?_⟩
   .have hnq : n = q - 1 := by omega
    subst hnq; exact ⟨i, ⟨hi, O.one, O.least⟩, rfl⟩
   .have hnq : n < q - 1 := by omega
    have hnG : ∀ k, ¬ Gn q Mu (pw Mu i k) := fun k G => by
     have h1 : pw Mu (pw Mu i k) n = 1 := by rw [R.pw_pw hi, Nat.mul_comm, <- R.pw_pw hi, O.one, R.one_pw]
     exact G.no n O.pos hnq h1
    refine ⟨fun s' z => ∃ k : Nat, z = k /\ k <= n /\ s'.length = q /\ s'.getD 0 false = true /\ ∀ j, j < q -> s'.getD j false = true -> ¬ Gn q Mu j, fun s' z => (n - z).toNat, ⟨0, rfl, Nat.zero_le _, hs, hs0, hsn⟩, ?_⟩; rintro s' _ ⟨k, rfl, hk, hs', hs0', hsn'⟩; dsimp only; rw [JQ]; refine ⟨fun hlt => ?_, fun hge => ⟨hs', hs0', fun j hj => ?_, hsn'⟩⟩
    .rw [Jdv (by omega), Jon]; have hlt2 := R.pw_lt i k; refine ⟨⟨by omega, by omega⟩, ⟨by omega, by rw [Int.toNat_natCast]; omega⟩, Jv (by omega) (by omega), ⟨k + 1, by push_cast; rfl, by omega, by rw [List.length_set, hs'], ?_, fun j hj hj2 => ?_⟩, by omega⟩
     .rw [Z5]; split
      .rfl
      .exact hs0'
     .rw [Z5] at hj2; by_cases hjk : pw Mu i k = j
      .rw [<- hjk]; exact hnG k
      .rw [if_neg (fun h => hjk h.1)] at hj2; exact hsn' j hj hj2
    .by_cases hji : j = i
     .subst hji; have := hnG 1
      rwa [R.pw_one hi] at this
     .exact hno j (by omega)
 .rintro x s ⟨hs, hs0, hno, hsn⟩; have := G0.lt; exact absurd G0 (hno g0 (by show g0 < ((q : Nat) : Int).toNat; rw [Int.toNat_natCast]; exact this))
 .rintro x s ⟨g, G, rfl⟩; exact h g G
structure GFk (F : GFv) (p m v g : Nat) : Prop where
  fv : FV F.P F.M F.mod p m v
  q : F.q = ((p ^ m : Nat) : Int)
  G : Gn (p ^ m) (Jw p m (dv p v)) g
  el : F.exp.length = 2 * (p ^ m - 1)
  ev : ∀ k, k < 2 * (p ^ m - 1) -> vo F.exp k = ((pw (Jw p m (dv p v)) g k : Nat) : Int)
  ll : F.log.length = p ^ m
  l0 : vo F.log 0 = -1
  lv : ∀ k, k < p ^ m - 1 -> vo F.log (pw (Jw p m (dv p v)) g k) = (k : Int)
  al : F.above.length = p ^ m - 1
  av : ∀ k, k < p ^ m - 1 -> vo F.above k = vo F.log (J2 p m (pw (Jw p m (dv p v)) g k) 1)
theorem Jmd {p m x : Nat} (hp : 2 <= p) (hm : 0 < m) (hx : x < p ^ m) : (if x % p = p - 1 then x - x % p else x + 1) = J2 p m x 1 := by
 have hmd := Nat.mod_add_div x p; have hlt := Nat.mod_lt x (show 0 < p by omega); obtain ⟨n, rfl⟩ : ∃ n, m = n + 1 := ⟨m - 1, by omega⟩
 have hxd : x / p < p ^ n := by rw [Nat.div_lt_iff_lt_mul (by omega), <- Nat.pow_succ]; exact hx
 generalize hA : x / p = a at *
 generalize hR : x % p = r at *
 have key : ∀ y s, y = s + p * a -> s < p -> s = (r + 1) % p -> y = J2 p (n + 1) x 1 := fun y s hy hs hsr => by
  have hyd : y / p = a := by rw [hy, Nat.add_mul_div_left _ _ (by omega), Nat.div_eq_of_lt hs, Nat.zero_add]
  have hym : y % p = s := by rw [hy, Nat.add_mul_mod_self_left, Nat.mod_eq_of_lt hs]
  have hyl : y < p ^ (n + 1) := by
   have h1 : p * (a + 1) <= p * p ^ n := Nat.mul_le_mul_left p hxd; rw [Nat.pow_succ', hy]; rw [Nat.mul_add, Nat.mul_one] at h1; omega
  refine (nm_eq (by omega) hyl fun i hi => ?_).symm; cases i with
  | zero =>
   simp only [JX]; rw [YQ, YQ, YQ, hym, hR, Nat.mod_eq_of_lt (show 1 < p by omega), hsr]; push_cast; rfl
  | succ i =>
   simp only [JX]; rw [Zq, Zq, Zq, hyd, hA, Nat.div_eq_of_lt (show 1 < p by omega), Jd9]; simp only [vz]; rw [Int.add_zero, Jar]
 by_cases hc : r = p - 1
 .rw [if_pos hc]; refine key (x - r) 0 (by omega) (by omega) ?_; rw [hc, show p - 1 + 1 = p by omega, Nat.mod_self]
 .rw [if_neg hc]; exact key (x + 1) (r + 1) (by omega) (by omega) (Nat.mod_eq_of_lt (by omega)).symm
theorem vo_app {a b : List Int} {i : Nat} : vo (a ++ b) i = if i < a.length then vo a i else vo b (i - a.length) := by
 unfold vo; rw [List.getD_eq_getElem?_getD]; split
 .rename_i h
  rw [List.getElem?_append_left h, List.getD_eq_getElem?_getD]
 .rename_i h
  rw [List.getElem?_append_right (by omega), List.getD_eq_getElem?_getD]
theorem v_New {P M : Int} {mf : List Int} {Q : Option GFv × Int -> Prop} (hno : ¬ Yu P M mf -> Q (none, 1)) (h : ∀ (F : GFv) (p m v g : Nat), GFk F p m v g -> F.P = P -> F.M = M -> F.mod = mf -> Q (some F, 0)) : Jl4 P M mf Q := by
 refine Jq4 ?_; by_cases hV : Yu P M mf
 .rw [Jfd hV]; refine ⟨fun h1 => absurd rfl h1, fun _ => ?_⟩; obtain ⟨p, m, v, F⟩ := hV; obtain rfl := F.eP; obtain rfl := F.eM; have hp := F.p2; have hp2 := F.p256; have hm0 := F.m0; have hm8 := F.m8; have hq := F.q; have R := F.ring; have hq2 := R.q2; have hml : mf.length <= 1000000 := by
   by_cases hm1 : m = 1
   .rw [(F.m1 hm1).1]; simp
   .rw [F.m2 hm1, J4]; omega
  have hJ : Jbu p m mf (fun q => match q with | (r27, r28, x29) => Zz p m mf (fun r34 => r27 = p /\ r28 = m /\ x29 = mf /\ r34 = ((p ^ m : Nat) : Int))) := Jc3 hml (Jfn hp hp2 fun r hr _ => by
   rw [Int.toNat_natCast] at hr; exact ⟨rfl, rfl, rfl, hr hq⟩)
  refine ⟨fun a b c d => a = p /\ b = m /\ c = mf /\ d = ((p ^ m : Nat) : Int), hJ, ?_⟩; rintro _ _ _ _ ⟨rfl, rfl, rfl, rfl⟩; refine Jq2 F fun g G => ?_; have hg := G.lt; generalize hqq : p ^ m = q at *
  generalize hMM : Jw p m (dv p v) = Mu at *
  rw [ZZ]; have hql : (List.replicate ((q : Nat) : Int).toNat (0 : Int)).length = q := by rw [List.length_replicate, Int.toNat_natCast]
  rw [Int.toNat_natCast, Int.toNat_natCast]; rw [Int.toNat_natCast] at hql; refine ⟨⟨by omega, by omega, by omega⟩, ⟨by omega, by omega, by omega⟩, ⟨by omega, by omega⟩, ?_⟩; refine ⟨fun l z => ∃ k : Nat, z = k /\ k <= q - 1 /\ l.length = q /\ vo l 0 = -1 /\ ∀ t, t < k -> vo l (pw Mu g t) = (t : Int), fun l z => (q - z).toNat, ⟨0, rfl, Nat.zero_le _, ?_, ?_, fun t ht => by omega⟩, ?_⟩
  .rw [show (0 : Int) = ((0 : Nat) : Int) from rfl, QA, List.length_set]; exact hql
  .rw [show si (List.replicate q (0 : Int)) 0 (-1) = (List.replicate q (0 : Int)).set 0 (-1) from rfl, Ql, if_pos ⟨rfl, by rw [hql]; omega⟩]
  .rintro l _ ⟨k, rfl, hk, hl, hl0, hlv⟩; dsimp only; rw [JQ]; refine ⟨fun hlt => ?_, fun hge => ?_⟩
   .rw [Jdv (by omega), QA]; have hlt2 := R.pw_lt g k; refine ⟨⟨by omega, by omega⟩, ⟨by omega, by omega⟩, Jv (by omega) (by omega), ⟨k + 1, by push_cast; rfl, by omega, by rw [List.length_set, hl], ?_, fun t ht => ?_⟩, by omega⟩
    .rw [Ql, if_neg (fun h => G.ne0 R k h.1)]; exact hl0
    .rw [Ql]; by_cases htk : t = k
     .subst htk; rw [if_pos ⟨rfl, by rw [hl]; exact hlt2⟩]
     .rw [if_neg (fun h => G.inj R (show t < k by omega) (by omega) h.1.symm)]; exact hlv t (by omega)
   .have hkq : k = q - 1 := by omega
    subst hkq; refine ⟨⟨by omega, by omega, by omega⟩, fun a z => ∃ k : Nat, z = k /\ k <= q - 1 /\ a.length = q - 1 /\ ∀ t, t < k -> vo a t = vo l (J2 p m (pw Mu g t) 1), fun a z => (q - z).toNat, ⟨0, rfl, Nat.zero_le _, by simp, fun t ht => by omega⟩, ?_⟩; rintro a _ ⟨k, rfl, hk, hal, hav⟩; dsimp only; rw [JQ]; refine ⟨fun hlt => ?_, fun hge => ?_⟩
    .rw [Jdv (by omega)]; have hlt2 := R.pw_lt g k; have hsl := R.Al (pw Mu g k) 1; have hsf := Jmd hp hm0 (x := pw Mu g k) (by rw [hqq]; exact hlt2); refine ⟨⟨by omega, by omega⟩, _, Jg7 hp hp2 (by omega) rfl, ?_⟩; rw [hsf, JQ, QA]; refine ⟨⟨by omega, by omega⟩, ⟨by omega, by omega⟩, Jv (by omega) (by omega), ⟨k + 1, by push_cast; rfl, by omega, by rw [List.length_set, hal], fun t ht => ?_⟩, by omega⟩; rw [Ql]; by_cases htk : k = t
     .subst htk; rw [if_pos ⟨rfl, by omega⟩]
     .rw [if_neg (fun h => htk h.1)]; exact hav t (by omega)
    .have hkq : k = q - 1 := by omega
     subst hkq; subst hMM; subst hqq; refine h _ p m v g ⟨F, rfl, G, ?_, fun k hk2 => ?_, hl, hl0, hlv, hal, hav⟩ rfl rfl rfl
     .simp only [List.length_append, ZZ]; omega
     .show vo (pwl _ g _ ++ pwl _ g _) k = _; rw [vo_app, ZZ]; by_cases hkl : k < p ^ m - 1
      .rw [if_pos hkl, Jdv hkl]
      .rw [if_neg hkl, Jdv (by omega)]; have := G.per R (k - (p ^ m - 1)) 1; rw [Nat.mul_one, show k - (p ^ m - 1) + (p ^ m - 1) = k by omega] at this; rw [this]
 .rw [Ys hV]; exact ⟨fun _ => hno hV, fun h1 => absurd (show (1 : Int) ≠ 0 by decide) h1⟩
end Go.Proofs.Ytiboieijhehjnaa
set_option linter.unusedVariables false
set_option linter.unusedSimpArgs false
namespace Go.Proofs.Ytiboieijhehjnaa
def inE (q : Nat) (x : Int) : Nat := if 0 <= x /\ x < q then x.toNat else 0
theorem Qe {q : Nat} (hq : 0 < q) (x : Int) : inE q x < q := by unfold inE; split <;> omega
theorem Q7 {q x : Nat} (h : x < q) : inE q (x : Int) = x := by unfold inE; rw [if_pos (by omega)]; rfl
section
variable {P M : Int} {mf : List Int} {p m v : Nat}
theorem FV.ord (F : FV P M mf p m v) : Jdw P M = ((p ^ m : Nat) : Int) := by
 rw [F.eP, F.eM, Jdw, if_pos]
 .simp
 .have := F.p2; have := F.m0; have := F.q; exact ⟨by omega, by omega, by simpa using this⟩
theorem FV.i64 (F : FV P M mf p m v) : I64 P := by
 have := F.p256; rw [F.eP]; exact Jv (by omega) (by omega)
theorem v_rIs (F : FV P M mf p m v) {x : Int} {Q : Bool -> Prop} (h : Q (decide (0 <= x /\ x < ((p ^ m : Nat) : Int)))) : Jir P M mf x Q := by
 refine ⟨fun h0 => Jdn ?_, fun h0 => ?_⟩
 .rw [F.ord]; simpa [h0] using h
 .simpa [h0] using h
theorem v_rIn (F : FV P M mf p m v) {x : Int} {Q : Int -> Prop} (h : Q ((inE (p ^ m) x : Nat) : Int)) : Jl2 P M mf x Q := by
 refine v_rIs F ⟨fun hb => ?_, fun hb => ?_⟩
 .have hb := of_decide_eq_true hb; unfold inE at h; rw [if_pos hb] at h
  rwa [Int.toNat_of_nonneg hb.1] at h
 .have hb := of_decide_eq_false hb; unfold inE at h; rw [if_neg hb] at h; exact h
theorem ZX (F : FV P M mf p m v) {x : Int} {Q : List Int -> Prop} (h : Q (dgi p m (inE (p ^ m) x))) : Yl P M mf x Q := by
 have hp := F.p2; have hq := F.q; have hm8 := F.m8; have hlt := Qe F.ring.pos x; refine ⟨_, v_rIn F rfl, _, ?_, h⟩; rw [F.eP, F.eM]; exact Jeu (by omega) (by omega) (by omega) rfl
theorem Jn7 (F : FV P M mf p m v) {l : List Int} {u : Vec} {Q : Int -> Prop} (hl : l.length = m) (hv : ∀ i, i < m -> vo l i = u i % (p : Int)) (h : Q ((nm p m u : Nat) : Int)) : Y8 P M mf l Q := by
 have hp := F.p2; rw [Jbk (by omega) hl hv, F.eP]; have hlt := Jal (p := p) (m := m) (by omega) u; refine Jn6 hp F.p256 (by rw [J4]; have := F.m8; omega) (by rw [J4]; exact Jcc (by omega) hlt _) (by rw [J4]; exact F.q) ?_; rw [Jn2 (by omega) hlt]; exact h
theorem v_rAdd (F : FV P M mf p m v) {x y : Int} {Q : Int -> Prop} (h : Q ((J2 p m (inE (p ^ m) x) (inE (p ^ m) y) : Nat) : Int)) : Jgy P M mf x y Q := by
 have hp := F.p2; have hp2 := F.p256; have hm8 := F.m8; have hx := Qe F.ring.pos x; have hy := Qe F.ring.pos y; refine ZX F (ZX F ?_); generalize inE (p ^ m) x = a at *
 generalize inE (p ^ m) y = b at *
 have hla := J4 p m a; have hlb := J4 p m b; rw [hla]; refine ⟨fun l z => ∃ k : Nat, z = k /\ k <= m /\ l.length = m /\ ∀ i, i < m -> vo l i = if i < k then (JX (dv p a) (dv p b)) i % (p : Int) else dv p a i, fun l z => (m - z).toNat, ⟨0, rfl, Nat.zero_le _, hla, fun i hi => by rw [if_neg (by omega), Yc hi]⟩, ?_⟩; rintro l _ ⟨k, rfl, hk, hl, hv⟩; dsimp only; rw [JQ, JQ, QA]; refine ⟨fun hlt => ?_, fun hge => Jn7 F hl (fun i hi => by rw [hv i hi, if_pos (by omega)]) h⟩; rw [hv k (by omega), if_neg (by omega), Yc (by omega)]; have c1 := Jfb (p := p) (by omega) a k; have c2 := Jfb (p := p) (by omega) b k; refine ⟨⟨by omega, by omega⟩, ⟨by omega, by omega⟩, Jv (by omega) (by omega), by rw [F.eP]; omega, ⟨by omega, by omega⟩, Jv (by omega) (by omega), ⟨k + 1, by push_cast; rfl, by omega, by rw [List.length_set, hl], fun i hi => ?_⟩, by omega⟩; rw [Ql]; by_cases hki : k = i
 .subst hki; rw [if_pos ⟨rfl, by omega⟩, if_pos (by omega), F.eP, Int.tmod_eq_emod_of_nonneg (by omega)]; rfl
 .rw [if_neg (fun h => hki h.1), hv i hi]; by_cases hik : i < k
  .rw [if_pos hik, if_pos (by omega)]
  .rw [if_neg hik, if_neg (by omega)]
end
theorem Jfz {p m : Nat} {c w w' u : Vec} {s : Int} {k : Nat} (hk : w' k % (p : Int) = (w k + s) % (p : Int)) (ho : ∀ i, i ≠ k -> w' i = w i) : ∀ n, vcg p (opr m c w' n u) (JX (opr m c w n u) (if k < n then vsm s (tXn m c k u) else vz))
  | 0 => fun i => by simp [opr, JX, vz]
  | n + 1 => fun i => by
    have ih := Jfz hk ho (m := m) (c := c) (u := u) n i
    show (opr m c w' n u i + w' n * tXn m c n u i) % (p : Int) = ((opr m c w n u i + w n * tXn m c n u i) + (if k < n + 1 then vsm s (tXn m c k u) else vz) i) % (p : Int)
    rcases Nat.lt_trichotomy k n with h | h | h
    . rw [if_pos (by omega)]
      rw [if_pos h] at ih
      rw [ho n (by omega)]
      have := Jcd ih (rfl : (w n * tXn m c n u i) % (p : Int) = _)
      rw [this]
      congr 1
      show opr m c w n u i + (vsm s (tXn m c k u)) i + _ = _
      omega
    . subst h
      rw [if_pos (by omega)]
      rw [if_neg (by omega)] at ih
      have := Jcd ih (Jb5 hk (rfl : (tXn m c k u i) % (p : Int) = _))
      rw [this]
      congr 1
      show opr m c w k u i + 0 + (w k + s) * tXn m c k u i = _ + s * tXn m c k u i
      rw [Int.add_mul]; omega
    . rw [if_neg (by omega)]
      rw [if_neg (by omega)] at ih
      rw [ho n (by omega)]
      have := Jcd ih (rfl : (w n * tXn m c n u i) % (p : Int) = _)
      rw [this]
      congr 1
      show opr m c w n u i + 0 + _ = _ + 0
      omega
theorem Xm {m : Nat} {c : Vec} (hm : 0 < m) : tXn m c m e0 = vsm (-1) (opr m c c m e0) := by
 obtain ⟨n, rfl⟩ : ∃ n, m = n + 1 := ⟨m - 1, by omega⟩
 show tX (n + 1) c (tXn (n + 1) c n e0) = _; rw [Ji2 (by omega)]; funext i; simp only [vsm]; rw [Jf0 (Nat.le_refl _)]; simp only [tX, vei]; by_cases hi : i < n + 1
 .rw [if_pos hi, if_pos hi]; have e1 : (if i = 0 then (0 : Int) else if i - 1 = n then 1 else 0) = 0 := by
   split
   .rfl
   .rw [if_neg (by omega)]
  rw [e1, show n + 1 - 1 = n by omega, if_pos rfl]; omega
 .rw [if_neg hi, if_neg hi]; rfl
section
variable {P M : Int} {mf : List Int} {p m v : Nat}
theorem v_rMul (F : FV P M mf p m v) {x y : Int} {Q : Int -> Prop} (h : Q ((Jw p m (dv p v) (inE (p ^ m) x) (inE (p ^ m) y) : Nat) : Int)) : Jgw P M mf x y Q := by
 have hp := F.p2; have hp2 := F.p256; have hm0 := F.m0; have hm8 := F.m8; have hx := Qe F.ring.pos x; have hy := Qe F.ring.pos y; refine ZX F (ZX F ?_); obtain rfl := F.eP; obtain rfl := F.eM; generalize inE (p ^ m) x = a at *
 generalize inE (p ^ m) y = b at *
 rw [Jb9 hx hy] at h; have hla := J4 p m a; have hlb := J4 p m b; have hva := YX hx; have hvb := YX hy; have hsa := Yb hx; have hsb := Yb hy; have hN : (2 * (m : Int) - 1).toNat = 2 * m - 1 := by omega
 have e2 : (2 * (m : Int) - 1) = ((2 * m - 1 : Nat) : Int) := by omega
 rw [e2]; generalize hNN : 2 * m - 1 = N at *
 rw [Int.toNat_natCast]; have hself := Y0 (c := dv p v) hsb; refine ⟨Jv (by omega) (by omega), YV (by omega), ⟨by omega, by omega, by omega⟩, ?_⟩; refine ⟨fun l z => ∃ k : Nat, z = k /\ k <= m /\ l.length = N /\ Cn p N (vo l) /\ vcg p (opr m (dv p v) (vo l) N e0) (opr m (dv p v) (dv p a) k (dv p b)), fun l z => (m - z).toNat, ⟨0, rfl, Nat.zero_le _, by simp, fun i hi => by rw [Jfm]; omega, ?_⟩, ?_⟩
 .have : vo (List.replicate N (0 : Int)) = vz := by funext i; rw [Jfm]; rfl
  rw [this]; have h0 : ∀ n, opr m (dv p v) vz n e0 = vz := fun n => by
   induction n with
   | zero => rfl
   | succ n ih => show JX (opr m (dv p v) vz n e0) (vsm (vz n) _) = vz; rw [ih]; funext i; simp [JX, vsm, vz]
  rw [h0]; exact vcg.refl _
 rintro l _ ⟨i, rfl, hi, hl, hcn, hE⟩; dsimp only; refine ⟨fun hlt => ?_, fun hge => ?_⟩
 .refine ⟨fun r z => ∃ j : Nat, z = j /\ j <= m /\ r.length = N /\ Cn p N (vo r) /\ vcg p (opr m (dv p v) (vo r) N e0) (JX (opr m (dv p v) (dv p a) i (dv p b)) (vsm (dv p a i) (tXn m (dv p v) i (opr m (dv p v) (dv p b) j e0)))), fun r z => (m - z).toNat, ⟨0, rfl, Nat.zero_le _, hl, hcn, ?_⟩, ?_⟩
  .show vcg p _ (JX _ (vsm _ (tXn m (dv p v) i vz))); rw [Jg8, Jku, Jan]; exact hE
  rintro r _ ⟨j, rfl, hj, hr, hcr, hEr⟩; dsimp only; rw [show (i : Int) + (j : Int) = ((i + j : Nat) : Int) by push_cast; rfl, JQ, JQ, JQ, QA, hva, hvb]; refine ⟨fun hltj => ?_, fun hgej => ?_⟩
  .have c1 := Jfb (p := p) (by omega) a i; have c2 := Jfb (p := p) (by omega) b j; have c3 := hcr (i + j) (by omega); have c4 := ZO (a := dv p a i) (b := dv p b j) hp2 ⟨c1.1, by omega⟩ ⟨c2.1, by omega⟩; refine ⟨YV (by omega), YV (by omega), ⟨by omega, by omega⟩, ⟨by omega, by omega⟩, ⟨by omega, by omega⟩, Jv (by omega) (by omega), Jv (by omega) (by omega), by omega, ⟨by omega, by omega⟩, Jv (by omega) (by omega), ⟨j + 1, by push_cast; rfl, by omega, by rw [List.length_set, hr], fun t ht => ?_, ?_⟩, by omega⟩
   .rw [Ql]; split
    .rw [Int.tmod_eq_emod_of_nonneg (by omega)]; exact ⟨Int.emod_nonneg _ (by omega), Int.emod_lt_of_pos _ (by omega)⟩
    .exact hcr t ht
   .have hup := Jfz (p := p) (m := m) (c := dv p v) (w := vo r) (w' := vo (r.set (i + j) ((vo r (i + j) + dv p a i * dv p b j).tmod p))) (u := e0) (s := dv p a i * dv p b j) (k := i + j) (by
     rw [Ql, if_pos ⟨rfl, by omega⟩, Int.tmod_eq_emod_of_nonneg (by omega), Int.emod_emod]) (fun t ht => by rw [Ql, if_neg (fun h => ht h.1.symm)]) N
    rw [if_pos (by omega)] at hup; refine hup.trans ((hEr.add (vcg.refl _)).trans ?_); show vcg p _ (JX _ (vsm _ (tXn m (dv p v) i (JX (opr m (dv p v) (dv p b) j e0) (vsm (dv p b j) (tXn m (dv p v) j e0)))))); rw [Ja2, Jby, Jc4, Jcz, Jfl, <- Zf]; exact vcg.refl _
  .have hjm : j = m := by omega
   subst hjm; rw [hself] at hEr; exact ⟨Jv (by omega) (by omega), ⟨i + 1, by push_cast; rfl, by omega, hr, hcr, hEr⟩, by omega⟩
 .have him : i = m := by omega
  subst him; have hE2 : vcg p (opr i (dv p v) (vo l) N e0) (Yi i (dv p v) (dv p b) (dv p a)) := hE; refine ⟨Jv (by omega) (by omega), Jv (by omega) (by omega), ?_⟩; refine ⟨fun r z => ∃ t : Nat, z = (t : Int) - 1 /\ i <= t /\ t <= N /\ r.length = N /\ Cn p N (vo r) /\ vcg p (opr i (dv p v) (vo r) t e0) (Yi i (dv p v) (dv p b) (dv p a)), fun r z => (z + 1).toNat, ⟨N, by omega, by omega, by omega, hl, hcn, hE2⟩, ?_⟩; rintro r _ ⟨t, rfl, hit, htN, hr, hcr, hEr⟩; dsimp only; refine ⟨fun hle => ?_, fun hgt => ?_⟩
  .obtain ⟨k, rfl⟩ : ∃ k, t = k + 1 := ⟨t - 1, by omega⟩
   have ek : ((k + 1 : Nat) : Int) - 1 = (k : Int) := by omega
   rw [ek] at hle ⊢; have hm1 : i ≠ 1 := by omega
   have hmf : vo mf = dv p v := F.vo; have hml : mf.length = i := (F.cn hm1).1; have hwk := hcr k (by omega); refine ⟨fun s z => ∃ j : Nat, z = j /\ j <= i /\ s.length = N /\ Cn p N (vo s) /\ vo s k = vo r k /\ vcg p (opr i (dv p v) (vo s) k e0) (JX (opr i (dv p v) (vo r) k e0) (vsm (-(vo r k)) (tXn i (dv p v) (k - i) (opr i (dv p v) (dv p v) j e0)))), fun s z => (i - z).toNat, ⟨0, rfl, Nat.zero_le _, hr, hcr, rfl, ?_⟩, ?_⟩
   .show vcg p _ (JX _ (vsm _ (tXn i (dv p v) (k - i) vz))); rw [Jg8, Jku, Jan]; exact vcg.refl _
   rintro s _ ⟨j, rfl, hj, hs, hcs, hsk, hEs⟩; dsimp only; rw [show (k : Int) - (i : Int) + (j : Int) = ((k - i + j : Nat) : Int) by omega, JQ, JQ, JQ, QA, hmf, hsk]; refine ⟨fun hltj => ?_, fun hgej => ?_⟩
   .have c1 := Jfb (p := p) (by omega) v j; have c3 := hcs (k - i + j) (by omega); have c4 := ZO (a := (p : Int) - vo r k) (b := dv p v j) hp2 ⟨by omega, by omega⟩ ⟨c1.1, by omega⟩; refine ⟨Jv (by omega) (by omega), YV (by omega), Jv (by omega) (by omega), YV (by omega), ⟨by omega, by omega⟩, ⟨by omega, by omega⟩, Jv (by omega) (by omega), ⟨by omega, by omega⟩, Jv (by omega) (by omega), Jv (by omega) (by omega), by omega, ⟨by omega, by omega⟩, Jv (by omega) (by omega), ⟨j + 1, by push_cast; rfl, by omega, by rw [List.length_set, hs], fun u hu => ?_, ?_, ?_⟩, by omega⟩
    .rw [Ql]; split
     .rw [Int.tmod_eq_emod_of_nonneg (by omega)]; exact ⟨Int.emod_nonneg _ (by omega), Int.emod_lt_of_pos _ (by omega)⟩
     .exact hcs u hu
    .rw [Ql, if_neg (by omega)]; exact hsk
    .have hup := Jfz (p := p) (m := i) (c := dv p v) (w := vo s) (w' := vo (s.set (k - i + j) ((vo s (k - i + j) + ((p : Int) - vo r k) * dv p v j).tmod p))) (u := e0) (s := -(vo r k) * dv p v j) (k := k - i + j) (by
      rw [Ql, if_pos ⟨rfl, by omega⟩, Jfv (by omega) c3.1 (by omega) c1.1, Int.emod_emod, Int.neg_mul]; rfl) (fun t ht => by rw [Ql, if_neg (fun h => ht h.1.symm)]) k
     rw [if_pos (by omega)] at hup; refine hup.trans ((hEs.add (vcg.refl _)).trans ?_); show vcg p _ (JX _ (vsm _ (tXn i (dv p v) (k - i) (JX (opr i (dv p v) (dv p v) j e0) (vsm (dv p v j) (tXn i (dv p v) j e0)))))); rw [Ja2, Jby, Jc4, Jcz, Jfl, <- Zf]; exact vcg.refl _
   .have hji : j = i := by omega
    subst hji; refine ⟨Jv (by omega) (by omega), ⟨k, by omega, by omega, by omega, hs, hcs, ?_⟩, by omega⟩; refine hEs.trans (vcg.trans ?_ hEr); show vcg p _ (JX (opr j (dv p v) (vo r) k e0) (vsm (vo r k) (tXn j (dv p v) k e0))); have e1 : tXn j (dv p v) k e0 = tXn j (dv p v) (k - j) (tXn j (dv p v) j e0) := by rw [Jc4, show k - j + j = k by omega]
    rw [e1, Xm hm0, Jby, Jfl, show vo r k * -1 = -(vo r k) by omega]; exact vcg.refl _
  .have hti : t = i := by omega
   subst hti; refine ⟨⟨by omega, by omega⟩, _, Jn7 F (u := opr t (dv p v) (vo r) t e0) ?_ (fun j hj => ?_) rfl, ?_⟩
   .rw [List.length_take, Int.toNat_natCast, hr]; omega
   .rw [Int.toNat_natCast, Jfq hj, Jf0 (Nat.le_refl _), if_pos hj]; have := hcr j (by omega); exact (Int.emod_eq_of_lt this.1 this.2).symm
   .rw [YW hEr]; exact h
end
end Go.Proofs.Ytiboieijhehjnaa
set_option linter.unusedVariables false
set_option linter.unusedSimpArgs false
namespace Go.Proofs.Ytiboieijhehjnaa
section
variable {F : GFv} {p m v g : Nat}
theorem v_Is {x : Int} {Q : Bool -> Prop} (K : GFk F p m v g) (h : Q (decide (0 <= x /\ x < ((p ^ m : Nat) : Int)))) : V_Is F x Q := by
 refine ⟨fun h0 => ?_, fun h0 => ?_⟩
 .rw [K.q]; simpa [h0] using h
 .simpa [h0] using h
theorem Jdp {x : Int} {Q : Bool -> Prop} (K : GFk F p m v g) (h : Q (decide (inE (p ^ m) x ≠ 0))) : Za F x Q := by
 unfold inE at h; refine ⟨fun h0 => ?_, fun h0 => ?_⟩
 .rw [K.q]; by_cases hx : x < ((p ^ m : Nat) : Int)
  .rw [if_pos ⟨by omega, hx⟩] at h; rw [decide_eq_true hx]; rw [decide_eq_true (by omega)] at h; exact h
  .rw [if_neg (by omega)] at h; rw [decide_eq_false hx]; exact h
 .by_cases hx : 0 <= x /\ x < ((p ^ m : Nat) : Int)
  .rw [if_pos hx] at h; rw [decide_eq_false (by omega)] at h; exact h
  .rw [if_neg hx] at h; exact h
theorem Jev {x : Int} {Q : Int -> Prop} (K : GFk F p m v g) (h : Q ((inE (p ^ m) x : Nat) : Int)) : Zb F x Q := by
 refine v_Is K ⟨fun hb => ?_, fun hb => ?_⟩
 .have hb := of_decide_eq_true hb; unfold inE at h; rw [if_pos hb, Int.toNat_of_nonneg hb.1] at h; exact h
 .have hb := of_decide_eq_false hb; unfold inE at h; rw [if_neg hb] at h; exact h
theorem Jpd {q : Nat} {x : Int} (h : inE q x ≠ 0) : x = ((inE q x : Nat) : Int) := by
 unfold inE at h ⊢; split
 .rename_i hc; exact (Int.toNat_of_nonneg hc.1).symm
 .rename_i hc; rw [if_neg hc] at h; exact absurd rfl h
theorem GFk.lg (K : GFk F p m v g) {x : Int} (h : inE (p ^ m) x ≠ 0) : ∃ a : Nat, a < p ^ m - 1 /\ inE (p ^ m) x = pw (Jw p m (dv p v)) g a /\ gi F.log x = (a : Int) /\ (0 <= x /\ x < (F.log.length : Nat)) := by
  have R := K.fv.ring
  have hlt := Qe R.pos x
  obtain ⟨a, ha, he⟩ := K.G.surj R (Nat.pos_of_ne_zero h) hlt
  have hx := Jpd h
  refine ⟨a, ha, he.symm, ?_, ?_⟩
  . rw [hx, <- he, JQ, K.lv a ha]
  . rw [K.ll]; omega
theorem Jkw {x y : Int} {Q : Int -> Prop} (K : GFk F p m v g) (h : Q ((Jw p m (dv p v) (inE (p ^ m) x) (inE (p ^ m) y) : Nat) : Int)) : Jel F x y Q := by
 have R := K.fv.ring; have hq := K.fv.q; have hx := Qe R.pos x; have hy := Qe R.pos y; refine Jdp K ⟨fun hb => ?_, fun hb => Jdp K ⟨fun hb2 => ?_, fun hb2 => ?_⟩⟩
 .have h0 : inE (p ^ m) x = 0 := by simpa using hb
  rw [h0, R.Z0 hy] at h; exact h
 .have h0 : inE (p ^ m) y = 0 := by simpa using hb2
  rw [h0, R.M0 hx] at h; exact h
 .obtain ⟨a, ha, ea, la, bx⟩ := K.lg (x := x) (by simpa using hb); obtain ⟨b, hb', eb, lb, by_⟩ := K.lg (x := y) (by simpa using hb2); rw [la, lb]; have hel := K.el; refine ⟨bx, by_, Jv (by omega) (by omega), ⟨by omega, by omega⟩, ?_⟩; rw [show (a : Int) + (b : Int) = ((a + b : Nat) : Int) by push_cast; rfl, JQ, K.ev _ (by omega), R.pw_add K.G.lt, <- ea, <- eb]; exact h
theorem Jrk {p m : Nat} {c : Vec} {x : Nat} (hp : 2 <= p) (hm : 0 < m) (hx : x < p ^ m) : Jw p m c (p - 1) x = Zp p m x := by
 unfold Jw Zp; have hd : vcg p (dv p (p - 1)) (vsm (-1) e0) := fun i => by
  cases i with
  | zero =>
   rw [YQ, Nat.mod_eq_of_lt (by omega)]; show ((p - 1 : Nat) : Int) % p = (-1 * 1) % p; rw [show ((p - 1 : Nat) : Int) = -1 * 1 + p * 1 by omega, Int.add_mul_emod_self_left]
  | succ i =>
   rw [Zq, Nat.div_eq_of_lt (by omega), Jd9]; simp [vz, vsm, e0]
 rw [YW (vcg.mul (vcg.refl c) hd (vcg.refl _))]; have : Yi m c (vsm (-1) e0) (dv p x) = vsm (-1) (dv p x) := by
  show opr m c (dv p x) m (vsm (-1) e0) = _; rw [Jjc, Y0 (Yb hx)]
 rw [this]
theorem Job {x : Int} {Q : Int -> Prop} (K : GFk F p m v g) (h : Q ((Zp p m (inE (p ^ m) x) : Nat) : Int)) : Ze F x Q := by
 have hp := K.fv.p2; have hpq := K.fv.pq; have h256 := K.fv.p256; have R := K.fv.ring; unfold Ze; rw [K.fv.eP]; refine ⟨Jv (by omega) (by omega), Jkw K ?_⟩; rw [show (p : Int) - 1 = ((p - 1 : Nat) : Int) by omega, Q7 (by omega), Jrk hp K.fv.m0 (Qe R.pos x)]; exact h
theorem Jns {m x y : Nat} (hx : x < 2 ^ m) (hy : y < 2 ^ m) : x ^^^ y = J2 2 m x y := by
 refine (nm_eq (by decide) (Nat.xor_lt_two_pow hx hy) fun i hi => ?_).symm; have h := Nat.testBit_xor x y i; rw [Nat.testBit_eq_decide_div_mod_eq, Nat.testBit_eq_decide_div_mod_eq, Nat.testBit_eq_decide_div_mod_eq] at h; simp only [dv, JX]; have h1 := Nat.mod_two_eq_zero_or_one (x / 2 ^ i); have h2 := Nat.mod_two_eq_zero_or_one (y / 2 ^ i); have h3 := Nat.mod_two_eq_zero_or_one ((x ^^^ y) / 2 ^ i); rcases h1 with h1 | h1 <;> rcases h2 with h2 | h2 <;> rcases h3 with h3 | h3 <;> rw [h1, h2, h3] at h <;> rw [h1, h2, h3] <;> first | rfl | exact absurd h (by decide)
theorem v_Add {x y : Int} {Q : Int -> Prop} (K : GFk F p m v g) (h : Q ((J2 p m (inE (p ^ m) x) (inE (p ^ m) y) : Nat) : Int)) : Jl7 F x y Q := by
 have R := K.fv.ring; have hq := K.fv.q; have hx := Qe R.pos x; have hy := Qe R.pos y; have hq2 := R.q2; refine Jev K (Jev K ⟨fun h2 => ⟨⟨by omega, by omega, by omega, by omega⟩, ?_⟩, fun h2 => ⟨fun h0 => ?_, fun h0 => ⟨fun h1 => ?_, fun h1 => ?_⟩⟩⟩)
 .have hp2 : p = 2 := by have := K.fv.eP; omega
  subst hp2; rw [<- Jns hx hy] at h; exact h
 .rw [show inE (p ^ m) x = 0 by omega, R.zA hy] at h; exact h
 .rw [show inE (p ^ m) y = 0 by omega, R.Az hx] at h; exact h
 .have hi : ∀ z : Nat, z < p ^ m -> inE (p ^ m) (z : Int) = z := fun z hz => Q7 hz; obtain ⟨a, ha, ea, la, bx⟩ := K.lg (x := ((inE (p ^ m) x : Nat) : Int)) (by rw [hi _ hx]; omega); obtain ⟨b, hb, eb, lb, by_⟩ := K.lg (x := ((inE (p ^ m) y : Nat) : Int)) (by rw [hi _ hy]; omega); rw [hi _ hx] at ea; rw [hi _ hy] at eb; rw [la, lb]; have hal := K.al; have hel := K.el; refine ⟨by_, bx, Jv (by omega) (by omega), fun z => ∃ d : Nat, z = d /\ d < p ^ m - 1 /\ pw (Jw p m (dv p v)) g (a + d) = pw (Jw p m (dv p v)) g b, ⟨fun hn => ?_, fun hn => ?_⟩, ?_⟩
  .rw [K.q]; refine ⟨Jv (by omega) (by omega), Jv (by omega) (by omega), b + (p ^ m - 1) - a, by omega, by omega, ?_⟩; have := K.G.per R b 1; rw [Nat.mul_one] at this; rw [show a + (b + (p ^ m - 1) - a) = b + (p ^ m - 1) by omega]; exact this
  .exact ⟨b - a, by omega, by omega, by rw [show a + (b - a) = b by omega]⟩
  .rintro _ ⟨d, rfl, hd, hpd⟩; rw [JQ, K.av d hd]; have hgd := R.pw_lt g d; have hga := R.pw_lt g a
   -- x + y = x (g^d + 1)
   have hsum : J2 p m (inE (p ^ m) x) (inE (p ^ m) y) = Jw p m (dv p v) (pw (Jw p m (dv p v)) g a) (J2 p m (pw (Jw p m (dv p v)) g d) 1) := by
    rw [R.Md hga hgd R.one_lt, R.M1 hga, <- R.pw_add K.G.lt, hpd, <- ea, <- eb, R.Ac]
   rw [hsum] at h; have hsl := R.Al (pw (Jw p m (dv p v)) g d) 1; refine ⟨⟨by omega, by omega⟩, fun hm1 => ?_, fun hm1 => ?_⟩
   .have hz : J2 p m (pw (Jw p m (dv p v)) g d) 1 = 0 := by
     rcases Nat.eq_zero_or_pos (J2 p m (pw (Jw p m (dv p v)) g d) 1) with h3 | h3
     .exact h3
     .obtain ⟨s, hs, hse⟩ := K.G.surj R h3 hsl; rw [<- hse, K.lv s hs] at hm1; omega
    rw [hz, R.M0 hga] at h; exact h
   .have hnz : 0 < J2 p m (pw (Jw p m (dv p v)) g d) 1 := by
     rcases Nat.eq_zero_or_pos (J2 p m (pw (Jw p m (dv p v)) g d) 1) with h3 | h3
     .rw [h3, K.l0] at hm1; exact absurd rfl hm1
     .exact h3
    obtain ⟨s, hs, hse⟩ := K.G.surj R hnz hsl; rw [<- hse] at h ⊢; rw [K.lv s hs]; refine ⟨bx, Jv (by omega) (by omega), ⟨by omega, by omega⟩, ?_⟩; rw [show (a : Int) + (s : Int) = ((a + s : Nat) : Int) by push_cast; rfl, JQ, K.ev _ (by omega), R.pw_add K.G.lt]; exact h
theorem v_Inv {x : Int} {Q : Int × Int -> Prop} (K : GFk F p m v g) (h0 : inE (p ^ m) x = 0 -> Q (0, 7)) (h1 : ∀ z : Nat, inE (p ^ m) x ≠ 0 -> z < p ^ m -> Jw p m (dv p v) z (inE (p ^ m) x) = 1 -> Q ((z : Int), 0)) : Jl5 F x Q := by
 have R := K.fv.ring; have hq := K.fv.q; refine Jdp K ⟨fun hb => h0 (by simpa using hb), fun hb => ?_⟩; have hne : inE (p ^ m) x ≠ 0 := by simpa using hb
 obtain ⟨a, ha, ea, la, bx⟩ := K.lg hne; have hel := K.el; rw [la, K.q]; refine ⟨Jv (by omega) (by omega), bx, Jv (by omega) (by omega), ⟨by omega, by omega⟩, ?_⟩; rw [show ((p ^ m : Nat) : Int) - 1 - (a : Int) = ((p ^ m - 1 - a : Nat) : Int) by omega, JQ, K.ev _ (by omega)]; refine h1 _ hne (R.pw_lt g _) ?_; rw [ea, <- R.pw_add K.G.lt, show p ^ m - 1 - a + a = p ^ m - 1 by omega, K.G.one]
theorem Od.uniq {M : Nat -> Nat -> Nat} {x n k : Nat} (h : Od M x n) (h' : Od M x k) : n = k := by
 rcases Nat.lt_trichotomy n k with h1 | h1 | h1
 .exact absurd h.one (h'.least n h.pos h1)
 .exact h1
 .exact absurd h'.one (h.least k h'.pos h1)
theorem Jq5 {x : Int} {l : List Int} {Q : List Int -> Prop} (K : GFk F p m v g) (hl : l.length <= 1000) (h : ∀ r : List Int, r.length = l.length -> (∀ i, i < l.length -> vo r i = ((Jw p m (dv p v) (inE (p ^ m) x) (inE (p ^ m) (vo l i)) : Nat) : Int)) -> Q r) : ZC F x l Q := by
 refine ⟨⟨by omega, by omega, by omega⟩, fun r i => ∃ k : Nat, i = k /\ k <= l.length /\ r.length = l.length /\ ∀ j, j < k -> vo r j = ((Jw p m (dv p v) (inE (p ^ m) x) (inE (p ^ m) (vo l j)) : Nat) : Int), fun r i => (l.length - i).toNat, ⟨0, rfl, Nat.zero_le _, by simp, fun j hj => by omega⟩, ?_⟩; rintro r _ ⟨k, rfl, hk, hr, hv⟩; dsimp only; rw [JQ]; refine ⟨fun hlt => ⟨⟨by omega, by omega⟩, Jkw K ⟨⟨by omega, by omega⟩, Jv (by omega) (by omega), ⟨k + 1, by push_cast; rfl, by omega, ?_, fun j hj => ?_⟩, by omega⟩⟩, fun hge => h r hr fun i hi => hv i (by omega)⟩
 .rw [QA, List.length_set, hr]
 .rw [QA, Ql]; by_cases hkj : k = j
  .subst hkj; rw [if_pos ⟨rfl, by omega⟩]
  .rw [if_neg (fun h => hkj h.1)]; exact hv j (by omega)
end
end Go.Proofs.Ytiboieijhehjnaa
set_option linter.unusedVariables false
set_option linter.unusedSimpArgs false
namespace Go.Proofs.Ytiboieijhehjnaa
section
variable (p m v : Nat)
def Ad (x y : Int) : Int := ((J2 p m (inE (p ^ m) x) (inE (p ^ m) y) : Nat) : Int)
def Ml (x y : Int) : Int := ((Jw p m (dv p v) (inE (p ^ m) x) (inE (p ^ m) y) : Nat) : Int)
def Ng (x : Int) : Int := ((Zp p m (inE (p ^ m) x) : Nat) : Int)
def Iv (x : Int) : Int := ((((List.range (p ^ m)).find? fun z => Jw p m (dv p v) z (inE (p ^ m) x) == 1).getD 0 : Nat) : Int)
def El (x : Int) : Prop := 0 <= x /\ x < ((p ^ m : Nat) : Int)
def Elr (l : List Int) : Prop := ∀ x ∈ l, El p m x
def Els (X : List (List Int)) : Prop := ∀ r ∈ X, Elr p m r
def sc (x : Int) (l : List Int) : List Int := l.map (Ml p m v x)
def adm (a : List Int) (x : Int) (o : List Int) : List Int := (List.range a.length).map fun i => if vo o i = 0 then vo a i else Ad p m (vo a i) (Ml p m v x (vo o i))
def adx (a : List Int) (x : Int) (o : List Int) : List Int := if x = 0 then a else adm p m v a x o
def row (X : List (List Int)) (t : Nat) : List Int := X.getD t []
def nz (X : List (List Int)) (c s : Nat) : Nat := s + ((X.drop s).takeWhile fun r => vo r c == 0).length
def swp (X : List (List Int)) (i j : Nat) : List (List Int) := (X.set i (row X j)).set j (row X i)
def clr (f : Nat -> Int) (cur : Nat) (X : List (List Int)) : List (List Int) := (List.range X.length).map fun t => if t = cur then row X t else adx p m v (row X t) (f t) (row X cur)
structure ES where
  X : List (List Int)
  Y : List (List Int)
  pv : List Int
  d : Int
def es1 (c r cur : Nat) (S : ES) : ES :=
  let X1 := if r = cur then S.X else swp S.X r cur
  let Y1 := if r = cur then S.Y else swp S.Y r cur
  let e := vo (row X1 cur) c
  let X2 := X1.set cur (sc p m v (Iv p m v e) (row X1 cur))
  let Y2 := Y1.set cur (sc p m v (Iv p m v e) (row Y1 cur))
  { X := clr p m v (fun t => Ng p m (vo (row X2 t) c)) cur X2, Y := clr p m v (fun t => Ng p m (vo (row X2 t) c)) cur Y2, pv := S.pv ++ [(c : Int)], d := Ml p m v (if r = cur then S.d else Ng p m S.d) e }
def Yq (S : ES) (c : Nat) : ES :=
  if S.pv.length < S.X.length /\ nz S.X c S.pv.length < S.X.length then es1 p m v c (nz S.X c S.pv.length) S.pv.length S else S
def elim (cols : Nat) (S : ES) : ES := (List.range cols).foldl (Yq p m v) S
end
theorem YN {X Y : List (List Int)} (h : X.length = Y.length) (hv : ∀ i, i < X.length -> row X i = row Y i) : X = Y := by
 apply List.ext_getElem?; intro i; rcases Nat.lt_or_ge i X.length with hi | hi
 .rw [Zo (d := []) hi, Zo (d := []) (ls := Y) (by omega)]; exact congrArg some (hv i hi)
 .rw [List.getElem?_eq_none hi, List.getElem?_eq_none (by omega)]
theorem QM (X : List (List Int)) (i j : Nat) (l : List Int) : row (X.set i l) j = if i = j /\ i < X.length then l else row X j := by
 unfold row; rw [List.getD_eq_getElem?_getD, List.getD_eq_getElem?_getD, List.getElem?_set]; by_cases h : i = j
 .subst h; by_cases hi : i < X.length <;> simp [hi]
 .simp [h]
theorem Jft {n : Nat} {f : Nat -> List Int} {t : Nat} (h : t < n) : row ((List.range n).map f) t = f t := by
 unfold row; rw [List.getD_eq_getElem?_getD]; simp [h]
theorem vo_map {n : Nat} {f : Nat -> Int} {t : Nat} (h : t < n) : vo ((List.range n).map f) t = f t := by
 unfold vo; rw [List.getD_eq_getElem?_getD]; simp [h]
theorem row_hi {X : List (List Int)} {t : Nat} (h : X.length <= t) : row X t = [] := by
 unfold row; rw [List.getD_eq_getElem?_getD, List.getElem?_eq_none h]; rfl
theorem Zi {X : List (List Int)} {t : Nat} (h : t < X.length) : row X t ∈ X := List.mem_of_getElem? (Zo h)
theorem Jba {X : List (List Int)} {r : List Int} (h : r ∈ X) : ∃ t, t < X.length /\ row X t = r := by
 obtain ⟨t, ht, e⟩ := List.mem_iff_getElem.1 h; refine ⟨t, ht, ?_⟩; unfold row; rw [List.getD_eq_getElem?_getD, List.getElem?_eq_getElem ht]; exact e
theorem Jjp {l : List Int} {x : Int} (h : x ∈ l) : ∃ t, t < l.length /\ vo l t = x := by
 obtain ⟨t, ht, e⟩ := List.mem_iff_getElem.1 h; refine ⟨t, ht, ?_⟩; unfold vo; rw [List.getD_eq_getElem?_getD, List.getElem?_eq_getElem ht]; exact e
theorem Jbx {l : List Int} {t : Nat} (h : t < l.length) : vo l t ∈ l := List.mem_of_getElem? (Zo h)
theorem Jk1 (X : List (List Int)) (i j : Nat) : (swp X i j).length = X.length := by simp [swp]
theorem Jfr {X : List (List Int)} {i j t : Nat} (hi : i < X.length) (hj : j < X.length) : row (swp X i j) t = if t = j then row X i else if t = i then row X j else row X t := by
 unfold swp; rw [QM, QM, List.length_set]; by_cases h1 : t = j
 .subst h1; simp [hj]
 .by_cases h2 : t = i
  .subst h2; simp [hi, Ne.symm h1, h1]
  .simp [Ne.symm h1, Ne.symm h2, h1, h2]
theorem Ja8 (X : List (List Int)) (c : Nat) : ∀ s, s <= X.length -> nz X c s <= X.length /\ (∀ t, s <= t -> t < nz X c s -> vo (row X t) c = 0) /\ (nz X c s < X.length -> vo (row X (nz X c s)) c ≠ 0) := by
 have key : ∀ (n s : Nat), n + s = X.length -> nz X c s <= X.length /\ (∀ t, s <= t -> t < nz X c s -> vo (row X t) c = 0) /\ (nz X c s < X.length -> vo (row X (nz X c s)) c ≠ 0) := by
  intro n
  induction n with
  | zero =>
   intro s hs; have hd : X.drop s = [] := List.drop_eq_nil_of_le (by omega); have e : nz X c s = s := by unfold nz; rw [hd]; rfl
   rw [e]; exact ⟨by omega, fun t h1 h2 => by omega, fun h => by omega⟩
  | succ n ih =>
   intro s hs; have hlt : s < X.length := by omega
   have hd : X.drop s = row X s :: X.drop (s + 1) := by
    rw [List.drop_eq_getElem_cons hlt]
    congr 1
    unfold row; rw [List.getD_eq_getElem?_getD, List.getElem?_eq_getElem hlt]; rfl
   by_cases h0 : vo (row X s) c = 0
   .have e : nz X c s = nz X c (s + 1) := by
     unfold nz; rw [hd, List.takeWhile_cons, if_pos (by simp [h0]), List.length_cons]; omega
    obtain ⟨h1, h2, h3⟩ := ih (s + 1) (by omega); rw [e]; refine ⟨h1, fun t ht1 ht2 => ?_, h3⟩; rcases Nat.eq_or_lt_of_le ht1 with rfl | h
    .exact h0
    .exact h2 t h ht2
   .have e : nz X c s = s := by
     unfold nz; rw [hd, List.takeWhile_cons, if_neg (by simpa using h0)]; rfl
    rw [e]; exact ⟨by omega, fun t h1 h2 => by omega, fun _ => h0⟩
 exact fun s hs => key (X.length - s) s (by omega)
theorem nz_ge (X : List (List Int)) (c s : Nat) : s <= nz X c s := Nat.le_add_right _ _
theorem nz_eq {X : List (List Int)} {c s r : Nat} (hs : s <= r) (hr : r <= X.length) (h1 : ∀ t, s <= t -> t < r -> vo (row X t) c = 0) (h2 : r < X.length -> vo (row X r) c ≠ 0) : r = nz X c s := by
 obtain ⟨a, b, d⟩ := Ja8 X c s (by omega); have := nz_ge X c s; rcases Nat.lt_trichotomy r (nz X c s) with h | h | h
 .exact absurd (b r hs h) (h2 (by omega))
 .exact h
 .exact absurd (h1 _ this h) (d (by omega))
section
variable {p m v : Nat}
theorem Zs (a : List Int) (x : Int) (o : List Int) : (adm p m v a x o).length = a.length := by simp [adm]
theorem Jde (a : List Int) (x : Int) (o : List Int) : (adx p m v a x o).length = a.length := by
 unfold adx; split
 .rfl
 .exact Zs ..
theorem Ji8 (x : Int) (l : List Int) : (sc p m v x l).length = l.length := by simp [sc]
theorem Zr (f : Nat -> Int) (cur : Nat) (X : List (List Int)) : (clr p m v f cur X).length = X.length := by simp [clr]
theorem Zj {f : Nat -> Int} {cur t : Nat} {X : List (List Int)} (h : t < X.length) : row (clr p m v f cur X) t = if t = cur then row X t else adx p m v (row X t) (f t) (row X cur) := Jft h
theorem ZF {a o : List Int} {x : Int} {t : Nat} (h : t < a.length) : vo (adm p m v a x o) t = if vo o t = 0 then vo a t else Ad p m (vo a t) (Ml p m v x (vo o t)) := vo_map h
theorem Jg5 {x : Int} {l : List Int} {t : Nat} (h : t < l.length) : vo (sc p m v x l) t = Ml p m v x (vo l t) := by
 unfold vo sc; rw [List.getD_eq_getElem?_getD, List.getElem?_map, List.getD_eq_getElem?_getD, List.getElem?_eq_getElem h]; rfl
end
section
variable {F : GFv} {p m v g : Nat} {P M : Int} {mf : List Int} {X : List (List Int)}
theorem Jai {l : List Int} {Q : Bool -> Prop} (K : GFk F p m v g) (hl : l.length <= 1000000) (h1 : Elr p m l -> Q true) (h2 : ¬ Elr p m l -> Q false) : QR F l Q := by
 refine ⟨fun z => ∃ t : Nat, z = t /\ t <= l.length /\ ∀ k, k < t -> El p m (vo l k), fun z => (l.length - z).toNat, ⟨0, rfl, Nat.zero_le _, fun k h => by omega⟩, ?_⟩; rintro _ ⟨t, rfl, ht, hk⟩; dsimp only; rw [JQ]; refine ⟨fun hlt => ⟨⟨by omega, by omega⟩, v_Is K ?_⟩, fun hge => h1 fun x hx => ?_⟩
 .by_cases he : El p m (vo l t)
  .rw [decide_eq_true (show 0 <= vo l t /\ vo l t < ((p ^ m : Nat) : Int) from he)]; refine ⟨fun h => absurd h (by decide), fun _ => ⟨Jv (by omega) (by omega), ⟨t + 1, by push_cast; rfl, by omega, fun k hk' => ?_⟩, by omega⟩⟩; rcases Nat.lt_or_ge k t with h | h
   .exact hk k h
   .rw [show k = t by omega]; exact he
  .rw [decide_eq_false (show ¬ (0 <= vo l t /\ vo l t < ((p ^ m : Nat) : Int)) from he)]; exact ⟨fun _ => h2 fun h => he (h _ (Jbx (by omega))), fun h => absurd h (by decide)⟩
 .obtain ⟨t', h3, rfl⟩ := Jjp hx; exact hk t' (by omega)
theorem Jdl {l : List Int} {Q : Int -> Prop} (hF : FV P M mf p m v) (hl : l.length <= 1000000) (h1 : Elr p m l -> Q 0) (h2 : ¬ Elr p m l -> Q 2) : Zy P M mf l Q := by
 refine ⟨fun z => ∃ t : Nat, z = t /\ t <= l.length /\ ∀ k, k < t -> El p m (vo l k), fun z => (l.length - z).toNat, ⟨0, rfl, Nat.zero_le _, fun k h => by omega⟩, ?_⟩; rintro _ ⟨t, rfl, ht, hk⟩; dsimp only; rw [JQ]; refine ⟨fun hlt => ⟨⟨by omega, by omega⟩, _, v_rIs hF rfl, ?_⟩, fun hge => h1 fun x hx => ?_⟩
 .by_cases he : El p m (vo l t)
  .rw [decide_eq_true (show 0 <= vo l t /\ vo l t < ((p ^ m : Nat) : Int) from he)]; refine ⟨fun h => absurd h (by decide), fun _ => ⟨Jv (by omega) (by omega), ⟨t + 1, by push_cast; rfl, by omega, fun k hk' => ?_⟩, by omega⟩⟩; rcases Nat.lt_or_ge k t with h | h
   .exact hk k h
   .rw [show k = t by omega]; exact he
  .rw [decide_eq_false (show ¬ (0 <= vo l t /\ vo l t < ((p ^ m : Nat) : Int)) from he)]; exact ⟨fun _ => h2 fun h => he (h _ (Jbx (by omega))), fun h => absurd h (by decide)⟩
 .obtain ⟨t', h3, rfl⟩ := Jjp hx; exact hk t' (by omega)
def shp (C : Int) (X : List (List Int)) : Prop := 0 <= C /\ C <= 256 /\ X.length <= 256 /\ ∀ r ∈ X, (r.length : Int) = C
theorem Jiy {C : Int} {Q : Bool -> Prop} (h1 : shp C X -> Q true) (h2 : ¬ shp C X -> Q false) : YI C X Q := by
 refine ⟨fun h => h2 fun s => by have := s.1; omega, fun h0 => ⟨fun h => h2 fun s => by have := s.2.1; omega, fun h3 => ⟨fun h => h2 fun s => by have := s.2.2.1; omega, fun h4 => ?_⟩⟩⟩; refine ⟨fun z => ∃ t : Nat, z = t /\ t <= X.length /\ ∀ k, k < t -> ((row X k).length : Int) = C, fun z => (X.length - z).toNat, ⟨0, rfl, Nat.zero_le _, fun k h => by omega⟩, ?_⟩; rintro _ ⟨t, rfl, ht, hk⟩; dsimp only; refine ⟨fun hlt => ⟨⟨by omega, by omega⟩, fun hne => h2 fun s => hne (s.2.2.2 _ (Zi (by omega))), fun he => ⟨Jv (by omega) (by omega), ⟨t + 1, by push_cast; rfl, by omega, fun k hk' => ?_⟩, by omega⟩⟩, fun hge => h1 ⟨by omega, by omega, by omega, fun r hr => ?_⟩⟩
 .rcases Nat.lt_or_ge k t with h | h
  .exact hk k h
  .rw [show k = t by omega]; exact Classical.not_not.1 he
 .obtain ⟨t', h3, rfl⟩ := Jba hr; exact hk t' (by omega)
theorem Ja0 {Q : List (List Int) -> Prop} (hX : X.length <= 1000000) (hr : ∀ r ∈ X, r.length <= 1000000) (h : Q X) : YK X Q := by
 refine ⟨⟨by omega, by omega, by omega⟩, fun x z => ∃ t : Nat, z = t /\ t <= X.length /\ x.length = X.length /\ ∀ k, k < t -> row x k = row X k, fun x z => (X.length - z).toNat, ⟨0, rfl, Nat.zero_le _, by simp, fun k h => by omega⟩, ?_⟩; rintro x _ ⟨t, rfl, ht, hx, hk⟩; dsimp only; refine ⟨fun hlt => ⟨⟨by omega, by omega⟩, Jc3 (hr _ (Zi (t := t) (by omega))) ⟨⟨by omega, by omega⟩, Jv (by omega) (by omega), ⟨t + 1, by push_cast; rfl, by omega, ?_, fun k hk' => ?_⟩, ?_⟩⟩, fun hge => ?_⟩
 .rw [Jc5]; exact hx
 .show row (x.set t (row X t)) k = row X k; rw [QM]; by_cases e : t = k
  .rw [if_pos ⟨e, by omega⟩, e]
  .rw [if_neg (fun h => e h.1)]; exact hk k (by omega)
 .omega
 .rw [show x = X from YN hx fun i hi => hk i (by omega)]; exact h
theorem Jqz {c s : Nat} {Q : Int -> Prop} (hs : s <= X.length) (hX : X.length <= 1000000) (hc : ∀ t, t < X.length -> c < (row X t).length) (h : Q ((nz X c s : Nat) : Int)) : Yh X s c Q := by
 refine ⟨fun r => r = ((nz X c s : Nat) : Int), ⟨fun z => ∃ t : Nat, z = t /\ s <= t /\ t <= X.length /\ ∀ k, s <= k -> k < t -> vo (row X k) c = 0, fun z => (X.length - z).toNat, ⟨s, rfl, Nat.le_refl _, hs, fun k h1 h2 => by omega⟩, ?_⟩, ?_⟩
 .rintro _ ⟨t, rfl, h1, h2, h3⟩; dsimp only; refine ⟨fun hlt => ⟨⟨by omega, by omega⟩, ⟨by omega, by have := hc t (by omega); show (c : Int) < ((row X t).length : Nat); omega⟩, fun he => ⟨Jv (by omega) (by omega), ⟨t + 1, by push_cast; rfl, by omega, by omega, fun k hk1 hk2 => ?_⟩, by omega⟩, fun hne => ?_⟩, fun hge => ?_⟩
  .rcases Nat.lt_or_ge k t with h | h
   .exact h3 k hk1 h
   .rw [show k = t by omega]; exact he
  .exact congrArg _ (nz_eq h1 h2 h3 fun _ => hne)
  .exact congrArg _ (nz_eq h1 h2 h3 fun h => by omega)
 .rintro _ rfl; exact h
theorem YT {a o : List Int} {x : Int} {Q : List Int -> Prop} (K : GFk F p m v g) (hl : o.length <= a.length) (ha : a.length <= 1000000) (h : Q (adx p m v a x o)) : JY F a x o Q := by
 refine ⟨fun h0 => by unfold adx at h; rwa [if_pos h0] at h, fun h0 => ?_⟩; unfold adx at h; rw [if_neg h0] at h; refine ⟨fun y z => ∃ t : Nat, z = t /\ t <= o.length /\ y.length = a.length /\ ∀ k, k < a.length -> vo y k = if k < t then vo (adm p m v a x o) k else vo a k, fun y z => (o.length - z).toNat, ⟨0, rfl, Nat.zero_le _, rfl, fun k hk => by simp⟩, ?_⟩; rintro y _ ⟨t, rfl, ht, hy, hk⟩; dsimp only; rw [JQ, JQ]; refine ⟨fun hlt => ⟨fun y' => y'.length = a.length /\ ∀ k, k < a.length -> vo y' k = if k < t + 1 then vo (adm p m v a x o) k else vo a k, ⟨⟨by omega, by omega⟩, fun hne => ⟨⟨by omega, by omega⟩, _, Jkw K rfl, _, v_Add K rfl, ⟨by omega, by omega⟩, ?_⟩, fun he => ?_⟩, ?_⟩, fun hge => ?_⟩
 .rw [QA]; refine ⟨by rw [List.length_set]; exact hy, fun k hk' => ?_⟩; rw [Ql]; by_cases e : t = k
  .subst e; rw [if_pos ⟨rfl, by omega⟩, if_pos (by omega), ZF hk', if_neg hne, hk t hk', if_neg (by omega)]; rfl
  .rw [if_neg (fun h => e h.1), hk k hk']; by_cases hkt : k < t
   .rw [if_pos hkt, if_pos (by omega)]
   .rw [if_neg hkt, if_neg (by omega)]
 .have he' : vo o t = 0 := Classical.not_not.1 he; refine ⟨hy, fun k hk' => ?_⟩; rw [hk k hk']; by_cases e : k = t
  .subst e; rw [if_neg (by omega), if_pos (by omega), ZF hk', if_pos he']
  .by_cases hkt : k < t
   .rw [if_pos hkt, if_pos (by omega)]
   .rw [if_neg hkt, if_neg (by omega)]
 .rintro y' ⟨h1, h2⟩; exact ⟨Jv (by omega) (by omega), ⟨t + 1, by push_cast; rfl, by omega, h1, h2⟩, by omega⟩
 .have : y = adm p m v a x o := YU (by rw [Zs]; exact hy) fun i hi => by
   rw [hk i (by omega)]; by_cases hit : i < t
   .rw [if_pos hit]
   .rw [if_neg hit, ZF (by omega), if_pos (Jcj (by omega))]
  rw [this]; exact h
theorem Jkt {x : Int} {l : List Int} {Q : List Int -> Prop} (K : GFk F p m v g) (hl : l.length <= 1000) (h : Q (sc p m v x l)) : ZC F x l Q := Jq5 K hl fun r h1 h2 => by
 have : r = sc p m v x l := YU (by rw [Ji8]; exact h1) fun i hi => by rw [h2 i (by omega), Jg5 (by omega)]; rfl
 rw [this]; exact h
theorem Jg3 {a u : List Int} {x : Int} {Q : List Int -> Prop} (hF : FV P M mf p m v) (hl : a.length <= u.length) (ha : a.length <= 1000000) (h : Q (adm p m v a x u)) : ZP P M mf a x u Q := by
 refine ⟨⟨by omega, by omega, by omega⟩, fun y z => ∃ t : Nat, z = t /\ t <= a.length /\ y.length = a.length /\ ∀ k, k < t -> vo y k = vo (adm p m v a x u) k, fun y z => (a.length - z).toNat, ⟨0, rfl, Nat.zero_le _, by simp, fun k h => by omega⟩, ?_⟩; rintro y _ ⟨t, rfl, ht, hy, hk⟩; dsimp only; rw [JQ, JQ]; refine ⟨fun hlt => ⟨fun y' => y'.length = a.length /\ ∀ k, k < t + 1 -> vo y' k = vo (adm p m v a x u) k, ⟨⟨by omega, by omega⟩, ⟨by omega, by omega⟩, ⟨by omega, by omega⟩, fun hne => ⟨⟨by omega, by omega⟩, ⟨by omega, by omega⟩, _, v_rMul hF rfl, _, v_rAdd hF rfl, ⟨by omega, by omega⟩, ?_⟩, fun he => ?_⟩, ?_⟩, fun hge => ?_⟩
 .rw [QA, QA]; refine ⟨by rw [List.length_set, List.length_set]; exact hy, fun k hk' => ?_⟩; rw [Ql, List.length_set]; by_cases e : t = k
  .subst e; rw [if_pos ⟨rfl, by omega⟩, ZF (by omega), if_neg hne]; rfl
  .rw [if_neg (fun h => e h.1), Ql, if_neg (fun h => e h.1)]; exact hk k (by omega)
 .have he' : vo u t = 0 := Classical.not_not.1 he; rw [QA]; refine ⟨by rw [List.length_set]; exact hy, fun k hk' => ?_⟩; rw [Ql]; by_cases e : t = k
  .subst e; rw [if_pos ⟨rfl, by omega⟩, ZF (by omega), if_pos he']
  .rw [if_neg (fun h => e h.1)]; exact hk k (by omega)
 .rintro y' ⟨h1, h2⟩; exact ⟨Jv (by omega) (by omega), ⟨t + 1, by push_cast; rfl, by omega, h1, h2⟩, by omega⟩
 .rw [show y = adm p m v a x u from YU (by rw [Zs]; exact hy) fun i hi => hk i (by omega)]; exact h
theorem Jqy {Q : List (List Int) -> Prop} (hX : X.length <= 1000000) (hr : ∀ r ∈ X, r.length <= 1000000) (h : Q X) : Jdh X Q := by
 refine ⟨fun x z => ∃ t : Nat, z = t /\ t <= X.length /\ x = X.take t, fun x z => (X.length - z).toNat, ⟨0, rfl, Nat.zero_le _, rfl⟩, ?_⟩; rintro _ _ ⟨t, rfl, ht, rfl⟩; dsimp only; refine ⟨fun hlt => ?_, fun hge => by rw [List.take_of_length_le (by omega)]; exact h⟩; have h1 := hr _ (Zi (t := t) (X := X) (by omega)); refine ⟨⟨by omega, by omega⟩, ?_, ?_, Jv (by omega) (by omega), ⟨t + 1, by push_cast; rfl, by omega, ?_⟩, by omega⟩
 .show ((0 : Nat) + ((row X t).length : Nat) : Int) * 8 <= _; omega
 .rw [List.length_take]; omega
 .show X.take t ++ [[] ++ row X t] = _; rw [List.take_add_one, Zo (d := []) (by omega)]; rfl
theorem YL {a : List Int} {Q : Bool -> Prop} (ha : a.length <= 1000000) (h : Q true) : QL a a Q := by
 refine ⟨fun hne => absurd rfl hne, fun _ => ⟨fun z => ∃ t : Nat, z = t /\ t <= a.length, fun z => (a.length - z).toNat, ⟨0, rfl, Nat.zero_le _⟩, ?_⟩⟩; rintro _ ⟨t, rfl, ht⟩; dsimp only; exact ⟨fun hlt => ⟨⟨by omega, by omega⟩, ⟨by omega, by omega⟩, fun hne => absurd rfl hne, fun _ => ⟨Jv (by omega) (by omega), ⟨t + 1, by push_cast; rfl, by omega⟩, by omega⟩⟩, fun _ => h⟩
theorem Jg2 {Q : Bool -> Prop} (hX : X.length <= 1000000) (hr : ∀ r ∈ X, r.length <= 1000000) (h : Q true) : YS X X Q := by
 refine ⟨fun hne => absurd rfl hne, fun _ => ⟨fun z => ∃ t : Nat, z = t /\ t <= X.length, fun z => (X.length - z).toNat, ⟨0, rfl, Nat.zero_le _⟩, ?_⟩⟩; rintro _ ⟨t, rfl, ht⟩; dsimp only; exact ⟨fun hlt => ⟨⟨by omega, by omega⟩, ⟨by omega, by omega⟩, _, YL (hr _ (Zi (t := t) (X := X) (by omega))) rfl, fun h => absurd h (by decide), fun _ => ⟨Jv (by omega) (by omega), ⟨t + 1, by push_cast; rfl, by omega⟩, by omega⟩⟩, fun _ => h⟩
theorem ZT {C : Int} {Q : Bool -> Prop} (hX : X.length <= 1000000) (hr : ∀ r ∈ X, r.length <= 1000000) (h : Q true) : YA C X C X Q := ⟨fun _ => Jg2 hX hr h, fun hne => absurd rfl hne⟩
theorem w_rFew {C : Int} {n : Int} {Q : Bool -> Prop} (hn : 0 <= n /\ n <= 1000000) (h1 : C <= 260 -> X.length <= n -> (∀ r ∈ X, (r.length : Int) <= n) -> Q true) (h2 : Q false) : Jgx C X n Q := by
 refine ⟨fun _ => h2, fun hC => ⟨fun _ => h2, fun hX => ⟨Jv (by omega) (by omega), fun y z => ∃ t : Nat, z = t /\ t <= X.length /\ 0 <= y /\ y <= n /\ ∀ k, k < t -> ((row X k).length : Int) <= n, fun y z => (X.length - z).toNat, ⟨0, rfl, Nat.zero_le _, by omega, by omega, fun k h => by omega⟩, ?_⟩⟩⟩; rintro y _ ⟨t, rfl, ht, hy, hy2, hk⟩; dsimp only; refine ⟨fun hlt => ⟨⟨by omega, by omega⟩, fun _ => h2, fun hge => ?_⟩, fun hge => h1 (by omega) (by omega) fun r hr => ?_⟩
 .have hge' : ((row X t).length : Int) <= y := by
   have : ¬ (y < (((row X t).length : Nat) : Int)) := hge; omega
  have hg : gl X (t : Int) = row X t := rfl; rw [hg]; refine ⟨⟨by omega, by omega⟩, Jv (by omega) (by omega), Jv (by omega) (by omega), ⟨t + 1, by push_cast; rfl, by omega, by omega, by omega, fun k hk' => ?_⟩, by omega⟩; rcases Nat.lt_or_ge k t with h | h
  .exact hk k h
  .rw [show k = t by omega]; omega
 .obtain ⟨t', h3, rfl⟩ := Jba hr; exact hk t' (by omega)
end
end Go.Proofs.Ytiboieijhehjnaa
set_option linter.unusedVariables false
set_option linter.unusedSimpArgs false
namespace Go.Proofs.Ytiboieijhehjnaa
structure Shp (n w wy : Nat) (S : ES) : Prop where
  xl : S.X.length = n
  xr : ∀ t, t < n -> (row S.X t).length = w
  yl : S.Y.length = n
  yr : ∀ t, t < n -> (row S.Y t).length = wy
  pl : S.pv.length <= n
section
variable {p m v n w wy : Nat}
theorem Jg9 {X : List (List Int)} {i j t w : Nat} (hi : i < X.length) (hj : j < X.length) (h : ∀ t, t < X.length -> (row X t).length = w) (ht : t < X.length) : (row (swp X i j) t).length = w := by
 rw [Jfr hi hj]; split
 .exact h _ hi
 .split
  .exact h _ hj
  .exact h _ ht
def swq (X : List (List Int)) (r cur : Nat) : List (List Int) := if r = cur then X else swp X r cur
theorem JW (X : List (List Int)) (r cur : Nat) : (swq X r cur).length = X.length := by
 unfold swq; split
 .rfl
 .exact Jk1 ..
theorem QX {X : List (List Int)} {i j t w : Nat} (hi : i < X.length) (hj : j < X.length) (h : ∀ t, t < X.length -> (row X t).length = w) (ht : t < X.length) : (row (swq X i j) t).length = w := by
 unfold swq; split
 .exact h _ ht
 .exact Jg9 hi hj h ht
def scq (p m v : Nat) (X : List (List Int)) (cur : Nat) (e : Int) : List (List Int) := X.set cur (sc p m v (Iv p m v e) (row X cur))
theorem Qt (X : List (List Int)) (cur : Nat) (e : Int) : (scq p m v X cur e).length = X.length := by simp [scq]
theorem QY {X : List (List Int)} {cur t w : Nat} {e : Int} (hc : cur < X.length) (h : ∀ t, t < X.length -> (row X t).length = w) (ht : t < X.length) : (row (scq p m v X cur e) t).length = w := by
 unfold scq; rw [QM]; split
 .rw [Ji8]; exact h _ hc
 .exact h _ ht
theorem Jct {X : List (List Int)} {f : Nat -> Int} {cur t w : Nat} (h : ∀ t, t < X.length -> (row X t).length = w) (ht : t < X.length) : (row (clr p m v f cur X) t).length = w := by
 rw [Zj ht]; split
 .exact h _ ht
 .rw [Jde]; exact h _ ht
theorem Jcs (c r cur : Nat) (S : ES) : (es1 p m v c r cur S).X = clr p m v (fun t => Ng p m (vo (row (scq p m v (swq S.X r cur) cur (vo (row (swq S.X r cur) cur) c)) t) c)) cur (scq p m v (swq S.X r cur) cur (vo (row (swq S.X r cur) cur) c)) := rfl
theorem Jpj (c r cur : Nat) (S : ES) : (es1 p m v c r cur S).Y = clr p m v (fun t => Ng p m (vo (row (scq p m v (swq S.X r cur) cur (vo (row (swq S.X r cur) cur) c)) t) c)) cur (scq p m v (swq S.Y r cur) cur (vo (row (swq S.X r cur) cur) c)) := rfl
theorem Jry {c r cur : Nat} {S : ES} (h : Shp n w wy S) (hr : r < n) (hc : cur < n) (hp : S.pv.length < n) : Shp n w wy (es1 p m v c r cur S) := by
 have hx := h.xl; have hy := h.yl; have ax : ∀ t, t < S.X.length -> (row S.X t).length = w := fun t ht => h.xr t (by omega); have ay : ∀ t, t < S.Y.length -> (row S.Y t).length = wy := fun t ht => h.yr t (by omega); refine ⟨?_, fun t ht => ?_, ?_, fun t ht => ?_, ?_⟩
 .rw [Jcs, Zr, Qt, JW]; exact hx
 .rw [Jcs]; refine Jct (fun t ht => ?_) (by rw [Qt, JW]; omega); rw [Qt, JW] at ht; refine QY (by rw [JW]; omega) (fun t ht => ?_) (by rw [JW]; omega); rw [JW] at ht; exact QX (by omega) (by omega) ax ht
 .rw [Jpj, Zr, Qt, JW]; exact hy
 .rw [Jpj]; refine Jct (fun t ht => ?_) (by rw [Qt, JW]; omega); rw [Qt, JW] at ht; refine QY (by rw [JW]; omega) (fun t ht => ?_) (by rw [JW]; omega); rw [JW] at ht; exact QX (by omega) (by omega) ay ht
 .show (S.pv ++ [(c : Int)]).length <= n; rw [List.length_append]; simp; omega
theorem Jmw {c : Nat} {S : ES} (h : Shp n w wy S) : Shp n w wy (Yq p m v S c) := by
 unfold Yq; split
 .rename_i hc
  exact Jry h (by have := h.xl; omega) (by have := h.xl; omega) (by have := h.xl; omega)
 .exact h
theorem QZ (k : Nat) (S : ES) : elim p m v (k + 1) S = Yq p m v (elim p m v k S) k := by
 unfold elim; rw [List.range_succ, List.foldl_append]; rfl
theorem YG {S : ES} (h : Shp n w wy S) : ∀ k, Shp n w wy (elim p m v k S)
 | 0 => h
 | k + 1 => by rw [QZ]; exact Jmw (YG h k)
theorem Jfa {S : ES} {k : Nat} (h : ¬ (elim p m v k S).pv.length < (elim p m v k S).X.length) : ∀ j, elim p m v (k + j) S = elim p m v k S
 | 0 => rfl
 | j + 1 => by
  rw [<- Nat.add_assoc, QZ, Jfa h j]; unfold Yq; rw [if_neg (fun hc => h hc.1)]
end
section
variable {F : GFv} {p m v g : Nat} {P M : Int} {mf : List Int} {X Y : List (List Int)}
theorem Iv_eq (R : CR (p ^ m) (J2 p m) (Jw p m (dv p v))) {x : Int} {z : Nat} (hx : inE (p ^ m) x < p ^ m) (hz : z < p ^ m) (h : Jw p m (dv p v) z (inE (p ^ m) x) = 1) : Iv p m v x = (z : Int) := by
 unfold Iv; cases hf : (List.range (p ^ m)).find? fun z => Jw p m (dv p v) z (inE (p ^ m) x) == 1 with
 | none =>
  have := List.find?_eq_none.1 hf z (List.mem_range.2 hz); simp [h] at this
 | some y =>
  have h1 := List.find?_some hf; have h2 := List.mem_range.1 (List.mem_of_find?_eq_some hf); have h1' : Jw p m (dv p v) y (inE (p ^ m) x) = 1 := by simpa using h1
  show (y : Int) = z; have e : y = z := by
   have q1 : 1 < p ^ m := R.q2
   calc y = Jw p m (dv p v) y 1 := (R.M1 h2).symm
    _ = Jw p m (dv p v) y (Jw p m (dv p v) z (inE (p ^ m) x)) := by rw [h]
    _ = Jw p m (dv p v) y (Jw p m (dv p v) (inE (p ^ m) x) z) := by rw [R.Mc hz hx]
    _ = Jw p m (dv p v) (Jw p m (dv p v) y (inE (p ^ m) x)) z := (R.Ma h2 hx hz).symm
    _ = Jw p m (dv p v) 1 z := by rw [h1']
    _ = Jw p m (dv p v) z 1 := R.Mc q1 hz
    _ = z := R.M1 hz
  rw [e]
theorem Jss (R : CR (p ^ m) (J2 p m) (Jw p m (dv p v))) {x : Int} (hx : inE (p ^ m) x = 0) : Iv p m v x = 0 := by
 unfold Iv; cases hf : (List.range (p ^ m)).find? fun z => Jw p m (dv p v) z (inE (p ^ m) x) == 1 with
 | none => rfl
 | some y =>
  have h1 := List.find?_some hf; have h2 := List.mem_range.1 (List.mem_of_find?_eq_some hf); rw [hx, R.M0 h2] at h1; simp at h1
def prt (p m v : Nat) (f : Nat -> Int) (cur t : Nat) (X : List (List Int)) : List (List Int) := (List.range X.length).map fun s => if s < t /\ s ≠ cur then adx p m v (row X s) (f s) (row X cur) else row X s
theorem Q5 (f : Nat -> Int) (cur t : Nat) (X : List (List Int)) : (prt p m v f cur t X).length = X.length := by simp [prt]
theorem Q4 {f : Nat -> Int} {cur t s : Nat} (h : s < X.length) : row (prt p m v f cur t X) s = if s < t /\ s ≠ cur then adx p m v (row X s) (f s) (row X cur) else row X s := Jft h
theorem Jhj (f : Nat -> Int) (cur : Nat) : prt p m v f cur 0 X = X := YN (Q5 ..) fun i hi => by
 rw [Q5] at hi; rw [Q4 hi, if_neg (by omega)]
theorem Jk7 (f : Nat -> Int) (cur : Nat) : prt p m v f cur X.length X = clr p m v f cur X := YN (by rw [Q5, Zr]) fun i hi => by
 rw [Q5] at hi; rw [Q4 hi, Zj hi]; by_cases h : i = cur
 .rw [if_neg (fun hh => hh.2 h), if_pos h]
 .rw [if_pos ⟨hi, h⟩, if_neg h]
theorem prt_same {f : Nat -> Int} {cur : Nat} : prt p m v f cur (cur + 1) X = prt p m v f cur cur X := YN (by rw [Q5, Q5]) fun i hi => by
 rw [Q5] at hi; rw [Q4 hi, Q4 hi]; by_cases h : i = cur
 .rw [if_neg (fun hh => hh.2 h), if_neg (fun hh => hh.2 h)]
 .by_cases h1 : i < cur
  .rw [if_pos ⟨by omega, h⟩, if_pos ⟨h1, h⟩]
  .rw [if_neg (fun hh => h1 (by omega)), if_neg (fun hh => h1 hh.1)]
theorem Jhk {f : Nat -> Int} {cur t : Nat} (ht : t < X.length) (hc : t ≠ cur) : (prt p m v f cur t X).set t (adx p m v (row X t) (f t) (row X cur)) = prt p m v f cur (t + 1) X := YN (by rw [List.length_set, Q5, Q5]) fun i hi => by
 rw [List.length_set, Q5] at hi; rw [QM, Q5, Q4 (t := t + 1) hi]; by_cases h : t = i
 .subst h; rw [if_pos ⟨rfl, ht⟩, if_pos ⟨by omega, hc⟩]
 .rw [if_neg (fun hh => h hh.1), Q4 hi]; by_cases h1 : i < t
  .by_cases h2 : i = cur
   .rw [if_neg (fun hh => hh.2 h2), if_neg (fun hh => hh.2 h2)]
   .rw [if_pos ⟨h1, h2⟩, if_pos ⟨by omega, h2⟩]
  .rw [if_neg (fun hh => h1 hh.1), if_neg (fun hh => h1 (by omega))]
theorem YM {cols wy : Nat} {Q : List Int × Int × List (List Int) × List (List Int) -> Prop} (K : GFk F p m v g) (hX : X.length <= 300) (hc : cols <= 300) (hw : wy <= 300) (hS : Shp X.length cols wy ⟨X, Y, [], 1⟩)
  (h : Q ((elim p m v cols ⟨X, Y, [], 1⟩).pv, (elim p m v cols ⟨X, Y, [], 1⟩).d, (elim p m v cols ⟨X, Y, [], 1⟩).X, (elim p m v cols ⟨X, Y, [], 1⟩).Y)) : J7 F cols X Y Q := by
 have hYl : Y.length = X.length := hS.yl; generalize hS0 : (⟨X, Y, [], 1⟩ : ES) = S0 at h hS; refine ⟨fun a b c d => (⟨a, b, c, d⟩ : ES) = elim p m v cols S0, ⟨fun a b c d z => ∃ k : Nat, z = k /\ k <= cols /\ (⟨a, b, c, d⟩ : ES) = elim p m v k S0, fun _ _ _ _ z => (cols - z).toNat, ⟨0, rfl, Nat.zero_le _, hS0⟩, ?_⟩, ?_⟩
 .rintro a b c d _ ⟨k, rfl, hk, he⟩; have hs := YG (p := p) (m := m) (v := v) hS k; have hstop := Jfa (p := p) (m := m) (v := v) (S := S0) (k := k); have hsucc := QZ (p := p) (m := m) (v := v) k S0; rw [<- he] at hs hstop hsucc; have hal : a.length = X.length := hs.xl; have hbl : b.length = X.length := hs.yl; have har := hs.xr; have hbr := hs.yr; have hpl : c.length <= X.length := hs.pl; simp only at har hbr; refine ⟨fun hlt => ⟨fun hlc => ?_, fun hge => ?_⟩, fun hge => ?_⟩
  .have hcur : c.length < X.length := by omega
   have hkc : k < cols := by omega
   refine ⟨fun pv x y d' _ _ => (⟨x, y, pv, d'⟩ : ES) = elim p m v (k + 1) S0, Jqz (by omega) (by omega) (fun t ht => by rw [har t (by omega)]; exact hkc) ?_, ?_⟩
   .refine ⟨fun heq => ?_, fun hne => ?_⟩
    .rw [hsucc]; unfold Yq; rw [if_neg (fun hh => by have := hh.2; simp only at this; omega)]
    .have hnz := (Ja8 a k c.length (by omega)).1; have hr : nz a k c.length < X.length := by omega
     generalize hrr : nz a k c.length = r at hr hne; rw [show Yq p m v ⟨a, b, c, d⟩ k = es1 p m v k r c.length ⟨a, b, c, d⟩ by unfold Yq; rw [if_pos ⟨by simp only; omega, by simp only; omega⟩, <- hrr]] at hsucc; refine ⟨fun x y d' => x = swq a r c.length /\ y = swq b r c.length /\ d' = (if r = c.length then d else Ng p m d), ⟨fun hrc => ⟨⟨by omega, by omega⟩, ⟨by omega, by omega⟩, ⟨by omega, by omega⟩, ⟨by omega, by omega⟩, ⟨by omega, by omega⟩, ⟨by omega, by omega⟩, ⟨by omega, by omega⟩, ⟨by omega, by omega⟩, Job K ?_⟩, fun hrc => ?_⟩, ?_⟩
     .have hrc' : r ≠ c.length := fun e => hrc (by rw [e]); refine ⟨?_, ?_, by rw [if_neg hrc']; rfl⟩
      .unfold swq; rw [if_neg hrc']; rfl
      .unfold swq; rw [if_neg hrc']; rfl
     .have hrc' : r = c.length := by have := Classical.not_not.1 hrc; omega
      refine ⟨?_, ?_, by rw [if_pos hrc']⟩
      .unfold swq; rw [if_pos hrc']
      .unfold swq; rw [if_pos hrc']
     .rintro _ _ _ ⟨rfl, rfl, rfl⟩; have hx1 : ∀ t, t < X.length -> (row (swq a r c.length) t).length = cols := fun t ht => QX (by omega) (by omega) (fun t ht => har t (by omega)) (by omega); have hy1 : ∀ t, t < X.length -> (row (swq b r c.length) t).length = wy := fun t ht => QX (by omega) (by omega) (fun t ht => hbr t (by omega)) (by omega); have hl1 := JW a r c.length; have hl2 := JW b r c.length; have hxs := Jcs (p := p) (m := m) (v := v) k r c.length ⟨a, b, c, d⟩; have hys := Jpj (p := p) (m := m) (v := v) k r c.length ⟨a, b, c, d⟩; have hds : (es1 p m v k r c.length ⟨a, b, c, d⟩).d = Ml p m v (if r = c.length then d else Ng p m d) (vo (row (swq a r c.length) c.length) k) := rfl; have hps : (es1 p m v k r c.length ⟨a, b, c, d⟩).pv = c ++ [(k : Int)] := rfl; simp only at hxs hys; generalize swq a r c.length = x1 at *
      generalize swq b r c.length = y1 at *
      have he1 : gi (gl x1 (c.length : Nat)) (k : Int) = vo (row x1 c.length) k := rfl; refine ⟨⟨by omega, by omega⟩, ⟨by omega, ?_⟩, _, Jkw K rfl, fun z => z = Iv p m v (vo (row x1 c.length) k), ⟨⟨by omega, by omega⟩, ⟨by omega, ?_⟩, Iv p m v (vo (row x1 c.length) k), ?_⟩, ?_⟩
      .show (k : Int) < ((row x1 c.length).length : Nat); rw [hx1 _ hcur]; omega
      .show (k : Int) < ((row x1 c.length).length : Nat); rw [hx1 _ hcur]; omega
      .by_cases h0 : inE (p ^ m) (vo (row x1 c.length) k) = 0
       .exact ⟨7, v_Inv K (fun _ => by rw [Jss K.fv.ring h0]) (fun z h1 => absurd h0 h1), rfl⟩
       .exact ⟨0, v_Inv K (fun h1 => absurd h1 h0) (fun z h1 h2 h3 => by have e := Iv_eq (x := vo (row x1 c.length) k) K.fv.ring (Qe (by have := K.fv.ring.q2; omega) _) h2 h3; rw [e]), rfl⟩
      .rintro _ rfl; have hsx : sll x1 (c.length : Int) (sc p m v (Iv p m v (vo (row x1 c.length) k)) (row x1 c.length)) = scq p m v x1 c.length (vo (row x1 c.length) k) := rfl; have hsy : sll y1 (c.length : Int) (sc p m v (Iv p m v (vo (row x1 c.length) k)) (row y1 c.length)) = scq p m v y1 c.length (vo (row x1 c.length) k) := rfl; refine ⟨⟨by omega, by omega⟩, _, Jkt K (by show (row x1 c.length).length <= 1000; rw [hx1 _ hcur]; omega) rfl, ⟨by omega, by omega⟩, ⟨by omega, by omega⟩, _, Jkt K (by show (row y1 c.length).length <= 1000; rw [hy1 _ hcur]; omega) rfl, ⟨by omega, by omega⟩, ?_⟩; have hx2 : ∀ t, t < X.length -> (row (scq p m v x1 c.length (vo (row x1 c.length) k)) t).length = cols := fun t ht => QY (by omega) (fun t ht => hx1 t (by omega)) (by omega); have hy2 : ∀ t, t < X.length -> (row (scq p m v y1 c.length (vo (row x1 c.length) k)) t).length = wy := fun t ht => QY (by omega) (fun t ht => hy1 t (by omega)) (by omega); have hl3 := Qt (p := p) (m := m) (v := v) x1 c.length (vo (row x1 c.length) k); have hl4 := Qt (p := p) (m := m) (v := v) y1 c.length (vo (row x1 c.length) k); generalize scq p m v x1 c.length (vo (row x1 c.length) k) = x2 at *
       generalize scq p m v y1 c.length (vo (row x1 c.length) k) = y2 at *
       have hfm : ∀ t, t < X.length -> vo (row (prt p m v (fun t => Ng p m (vo (row x2 t) k)) c.length t x2) t) k = vo (row x2 t) k := fun t ht => by
        rw [Q4 (by omega), if_neg (by omega)]
       generalize hf : (fun t => Ng p m (vo (row x2 t) k)) = f at *
       refine ⟨fun x y z => ∃ t : Nat, z = t /\ t <= X.length /\ x = prt p m v f c.length t x2 /\ y = prt p m v f c.length t y2, fun x y z => (X.length - z).toNat, ⟨0, rfl, Nat.zero_le _, hsx.trans (Jhj _ _).symm, hsy.trans (Jhj _ _).symm⟩, ?_⟩; rintro _ _ _ ⟨t, rfl, ht, rfl, rfl⟩; refine ⟨fun hlt2 => ?_, fun hge2 => ?_⟩
       .have htX : t < X.length := by omega
        have hg1 : gl (prt p m v f c.length t x2) (t : Int) = row x2 t := by
         show row (prt p m v f c.length t x2) t = _; rw [Q4 (by omega), if_neg (by omega)]
        have hg2 : gl (prt p m v f c.length t y2) (t : Int) = row y2 t := by
         show row (prt p m v f c.length t y2) t = _; rw [Q4 (by omega), if_neg (by omega)]
        have hg3 : gl (prt p m v f c.length t x2) (c.length : Int) = row x2 c.length := by
         show row (prt p m v f c.length t x2) c.length = _; rw [Q4 (by omega), if_neg (by omega)]
        have hg4 : gl (prt p m v f c.length t y2) (c.length : Int) = row y2 c.length := by
         show row (prt p m v f c.length t y2) c.length = _; rw [Q4 (by omega), if_neg (by omega)]
        rw [hg1, hg2, hg3, hg4]; have hft : Ng p m (gi (row x2 t) (k : Int)) = f t := by rw [<- hf]; rfl
        refine ⟨fun x y z => x = prt p m v f c.length (t + 1) x2 /\ y = prt p m v f c.length (t + 1) y2, ⟨⟨by omega, by omega⟩, ⟨by omega, by rw [hx2 t htX]; omega⟩, _, Job K rfl, fun hne2 => ?_, fun he2 => ?_⟩, ?_⟩
        .have hne3 : t ≠ c.length := fun e => hne2 (by rw [e]); have hne4 : (c.length : Int).toNat ≠ (t : Int).toNat := by omega
         refine ⟨⟨by omega, by omega⟩, ⟨by omega, by omega⟩, hne4, YT K (by rw [hx2 t htX, hx2 _ hcur]; exact Nat.le_refl _) (by rw [hx2 t htX]; omega) ⟨⟨by omega, by omega⟩, ⟨by omega, by omega⟩, hne4, YT K (by rw [hy2 t htX, hy2 _ hcur]; exact Nat.le_refl _) (by rw [hy2 t htX]; omega) ⟨?_, ?_⟩⟩⟩
         .show (prt p m v f c.length t x2).set t (adx p m v (row x2 t) (Ng p m (gi (row x2 t) (k : Int))) (row x2 c.length)) = _; rw [hft, Jhk (by omega) hne3]
         .show (prt p m v f c.length t y2).set t (adx p m v (row y2 t) (Ng p m (gi (row x2 t) (k : Int))) (row y2 c.length)) = _; rw [hft, Jhk (by omega) hne3]
        .have he3 : t = c.length := by have := Classical.not_not.1 he2; omega
         subst he3; exact ⟨prt_same.symm, prt_same.symm⟩
        .rintro _ _ _ ⟨rfl, rfl⟩; refine ⟨Jv (by omega) (by omega), ⟨t + 1, by push_cast; rfl, by omega, rfl, rfl⟩, ?_⟩; show ((X.length : Int) - ((t : Int) + 1)).toNat < ((X.length : Int) - (t : Int)).toNat; omega
       .have hte : t = X.length := by omega
        subst hte; refine ⟨by omega, ?_⟩; have e1 := Jk7 (p := p) (m := m) (v := v) (X := x2) f c.length; have e2 := Jk7 (p := p) (m := m) (v := v) (X := y2) f c.length; rw [show x2.length = X.length by omega] at e1; rw [show y2.length = X.length by omega] at e2; rw [e1, e2, hsucc]; rw [<- hxs, <- hys]; show (⟨_, _, c ++ [(k : Int)], _⟩ : ES) = _; rw [<- hps]; show (⟨(es1 p m v k r c.length ⟨a, b, c, d⟩).X, (es1 p m v k r c.length ⟨a, b, c, d⟩).Y, (es1 p m v k r c.length ⟨a, b, c, d⟩).pv, Ml p m v (if r = c.length then d else Ng p m d) (vo (row x1 c.length) k)⟩ : ES) = _; rw [<- hds]
   .rintro pv x y d' _ _ hE; refine ⟨Jv (by omega) (by omega), ⟨k + 1, by push_cast; rfl, by omega, hE⟩, ?_⟩; show ((cols : Int) - ((k : Int) + 1)).toNat < ((cols : Int) - (k : Int)).toNat; omega
  .have hst := hstop (by show ¬ c.length < a.length; omega) (cols - k); rw [show k + (cols - k) = cols by omega] at hst; exact hst.symm
  .show (⟨a, b, c, d⟩ : ES) = _; rw [he, show k = cols by omega]
 .rintro a b c d he; rw [<- he] at h; exact h
end
end Go.Proofs.Ytiboieijhehjnaa
set_option linter.unusedVariables false
set_option linter.unusedSimpArgs false
namespace Go.Proofs.Ytiboieijhehjnaa
section
variable {p m v n w wy : Nat}
theorem Jpn {q : Nat} (h : q < p ^ m) : El p m (q : Int) := ⟨by omega, by omega⟩
theorem Jj3 {l : List Int} (h : Elr p m l) {t : Nat} (ht : t < l.length) : El p m (vo l t) := h _ (Jbx ht)
theorem Qu {X : List (List Int)} (h : Els p m X) (t : Nat) : Elr p m (row X t) := by
 rcases Nat.lt_or_ge t X.length with ht | ht
 .exact h _ (Zi ht)
 .rw [row_hi ht]; exact fun x hx => by cases hx
theorem Jd8 {X : List (List Int)} (h : ∀ t, t < X.length -> Elr p m (row X t)) : Els p m X := fun r hr => by
 obtain ⟨t, ht, rfl⟩ := Jba hr; exact h t ht
theorem Jpm {l : List Int} (h : ∀ t, t < l.length -> El p m (vo l t)) : Elr p m l := fun x hx => by
 obtain ⟨t, ht, rfl⟩ := Jjp hx; exact h t ht
theorem sc_els (hp : 0 < p) {x : Int} {l : List Int} : Elr p m (sc p m v x l) := Jpm fun t ht => by
 rw [Ji8] at ht; rw [Jg5 ht]; exact Jpn (Jge hp _ _)
theorem Jgp (hp : 0 < p) {a o : List Int} {x : Int} (ha : Elr p m a) : Elr p m (adm p m v a x o) := Jpm fun t ht => by
 rw [Zs] at ht; rw [ZF ht]; split
 .exact Jj3 ha ht
 .exact Jpn (Jln hp _ _)
theorem Jr7 (hp : 0 < p) {a o : List Int} {x : Int} (ha : Elr p m a) : Elr p m (adx p m v a x o) := by
 unfold adx; split
 .exact ha
 .exact Jgp hp ha
theorem Jlo (hp : 0 < p) {c r cur : Nat} {S : ES} (h : Els p m S.X) (hr : r < S.X.length) (hc : cur < S.X.length) : Els p m (es1 p m v c r cur S).X := by
 rw [Jcs]; have h1 : Els p m (swq S.X r cur) := Jd8 fun t ht => by
  rw [JW] at ht; unfold swq; split
  .exact Qu h t
  .rw [Jfr hr hc]; split
   .exact Qu h _
   .split <;> exact Qu h _
 have h2 : ∀ e, Els p m (scq p m v (swq S.X r cur) cur e) := fun e => Jd8 fun t ht => by
  unfold scq; rw [QM]; split
  .exact sc_els hp
  .exact Qu h1 t
 refine Jd8 fun t ht => ?_; rw [Zr] at ht; rw [Zj ht]; split
 .exact Qu (h2 _) t
 .exact Jr7 hp (Qu (h2 _) t)
theorem Jmx (hp : 0 < p) {c : Nat} {S : ES} (h : Els p m S.X) : Els p m (Yq p m v S c).X := by
 unfold Yq; split
 .rename_i hc; exact Jlo hp h hc.2 hc.1
 .exact h
theorem Jbg (hp : 0 < p) {S : ES} (h : Els p m S.X) : ∀ k, Els p m (elim p m v k S).X
 | 0 => h
 | k + 1 => by rw [QZ]; exact Jmx hp (Jbg hp h k)
end
section
variable {F : GFv} {p m v g : Nat} {P M : Int} {mf : List Int} {X Y : List (List Int)}
theorem Jga {x : Int} (h : El p m x) : ((inE (p ^ m) x : Nat) : Int) = x := by
 unfold inE; rw [if_pos (show 0 <= x /\ x < ((p ^ m : Nat) : Int) from h)]; have := h.1; omega
end
end Go.Proofs.Ytiboieijhehjnaa
set_option linter.unusedVariables false
set_option linter.unusedSimpArgs false
namespace Go.Proofs.Ytiboieijhehjnaa
section
variable {F : GFv} {p m v g : Nat} {P M : Int} {mf : List Int} {X Y : List (List Int)} {C : Int}
def Jnr (P M : Int) (mf : List Int) (X : List (List Int)) : Prop := ∃ p m v, FV P M mf p m v /\ Els p m X
open Classical in
noncomputable def mck (P M : Int) (mf : List Int) (C : Int) (X : List (List Int)) : Int := if ¬ Yu P M mf then 1 else if ¬ shp C X then 3 else if ¬ Jnr P M mf X then 2 else 0
theorem FV.uniq {p' m' v' : Nat} (h : FV P M mf p m v) (h' : FV P M mf p' m' v') : p = p' /\ m = m' := ⟨by have := h.eP; have := h'.eP; omega, by have := h.eM; have := h'.eM; omega⟩
theorem YF (h : FV P M mf p m v) : Jnr P M mf X ↔ Els p m X := ⟨fun ⟨p', m', v', h1, h2⟩ => by obtain ⟨rfl, rfl⟩ := h.uniq h1; exact h2, fun h2 => ⟨p, m, v, h, h2⟩⟩
theorem Jf5 (h : ¬ Yu P M mf) : mck P M mf C X = 1 := if_pos h
theorem Z4 (h : Yu P M mf) (hs : ¬ shp C X) : mck P M mf C X = 3 := by unfold mck; rw [if_neg (fun hh => hh h), if_pos hs]
theorem Jda (h : Yu P M mf) (hs : shp C X) (he : ¬ Jnr P M mf X) : mck P M mf C X = 2 := by unfold mck; rw [if_neg (fun hh => hh h), if_neg (fun hh => hh hs), if_pos he]
theorem Jd1 (h : Yu P M mf) (hs : shp C X) (he : Jnr P M mf X) : mck P M mf C X = 0 := by unfold mck; rw [if_neg (fun hh => hh h), if_neg (fun hh => hh hs), if_neg (fun hh => hh he)]
theorem Jo7 (h : mck P M mf C X = 0) : Yu P M mf /\ shp C X /\ Jnr P M mf X := by
 by_cases h1 : Yu P M mf
 .by_cases h2 : shp C X
  .by_cases h3 : Jnr P M mf X
   .exact ⟨h1, h2, h3⟩
   .rw [Jda h1 h2 h3] at h; exact absurd h (by decide)
  .rw [Z4 h1 h2] at h; exact absurd h (by decide)
 .rw [Jf5 h1] at h; exact absurd h (by decide)
theorem Jc6 (h : shp C X) : X.length <= 256 := h.2.2.1
theorem Q3 (h : shp C X) {t : Nat} (ht : t < X.length) : (row X t).length = C.toNat := by
 have := h.2.2.2 _ (Zi ht); have := h.1; omega
noncomputable def Jf1 (P M : Int) (mf : List Int) : List Mt -> Int
  | [] => 0
  | (C, X) :: ms => if mck P M mf C X = 0 then Jf1 P M mf ms else mck P M mf C X
theorem w_open {ms : List Mt} {Q : Option GFv × Int -> Prop} (hl : ms.length <= 1000) (hno : ¬ Yu P M mf -> Q (none, 1))
  (h : ∀ (F : GFv) (p m v g : Nat), GFk F p m v g -> FV P M mf p m v -> Jf1 P M mf ms = 0 -> Q (some F, 0)) (hb : Yu P M mf -> Jf1 P M mf ms ≠ 0 -> Q (none, Jf1 P M mf ms)) : YY P M mf ms Q := by
 refine v_New (fun hn => ⟨fun h0 => ⟨h0, hno hn⟩, fun h0 => absurd (show (1 : Int) ≠ 0 by decide) h0⟩) fun F p m v g K eP eM emf => ⟨fun h0 => absurd rfl h0, fun _ => ?_⟩
 have hF : FV P M mf p m v := by rw [<- eP, <- eM, <- emf]; exact K.fv
 have hV : Yu P M mf := ⟨p, m, v, hF⟩
 refine ⟨fun z => ∃ t : Nat, z = t /\ t <= ms.length /\ Jf1 P M mf (ms.drop t) = Jf1 P M mf ms, fun z => (ms.length - z).toNat, ⟨0, rfl, Nat.zero_le _, rfl⟩, ?_⟩; rintro _ ⟨t, rfl, ht, he⟩; refine ⟨fun hlt => ?_, fun hge => ?_⟩
 .have htl : t < ms.length := by omega
  have hd : ms.drop t = gm ms t :: ms.drop (t + 1) := by
   rw [List.drop_eq_getElem_cons htl]
   congr 1
   unfold gm; show _ = ms.getD t (0, []); rw [List.getD_eq_getElem?_getD, List.getElem?_eq_getElem htl]; rfl
  rw [hd] at he; generalize gm ms t = mt at *
  obtain ⟨C, X⟩ := mt; simp only [Jf1] at he; dsimp only; refine ⟨⟨by omega, by omega⟩, Jiy (fun hs => ⟨fun h => absurd h (by decide), fun _ => ?_⟩) (fun hs => ⟨fun _ => ⟨by decide, ?_⟩, fun h => absurd h (by decide)⟩)⟩
  .refine ⟨fun z => ∃ s : Nat, z = s /\ s <= X.length /\ ∀ k, k < s -> Elr p m (row X k), fun z => (X.length - z).toNat, ⟨0, rfl, Nat.zero_le _, fun k hk => by omega⟩, ?_⟩; rintro _ ⟨s, rfl, hs1, hs2⟩; have hX : X.length <= 256 := Jc6 hs; dsimp only; refine ⟨fun hlt2 => ⟨⟨by omega, by omega⟩, Jai K (by show (row X s).length <= _; rw [Q3 hs (by omega)]; have := hs.2.1; omega) (fun hel => ⟨fun h => absurd h (by decide), fun _ => ⟨Jv (by omega) (by omega), ⟨s + 1, by push_cast; rfl, by omega, fun k hk => ?_⟩, by omega⟩⟩) (fun hel => ⟨fun _ => ⟨by decide, ?_⟩, fun h => absurd h (by decide)⟩)⟩, fun hge2 => ?_⟩
   .rcases Nat.lt_or_ge k s with h | h
    .exact hs2 k h
    .rw [show k = s by omega]; exact hel
   .have e : mck P M mf C X = 2 := Jda hV hs fun hv => hel (Qu ((YF hF).1 hv) s); rw [e, if_neg (by decide)] at he; have := hb hV (by rw [<- he]; decide)
    rwa [<- he] at this
   .have e : mck P M mf C X = 0 := Jd1 hV hs ((YF hF).2 (Jd8 fun k hk => hs2 k (by omega))); rw [e, if_pos rfl] at he; exact ⟨Jv (by omega) (by omega), ⟨t + 1, by push_cast; rfl, by omega, he⟩, by omega⟩
  .have e : mck P M mf C X = 3 := Z4 hV hs; rw [e, if_neg (by decide)] at he; have := hb hV (by rw [<- he]; decide)
   rwa [<- he] at this
 .rw [show t = ms.length by omega, List.drop_length] at he; exact h F p m v g K hF he.symm
theorem Jhn : Jf1 P M mf [(C, X)] = mck P M mf C X := by
 simp only [Jf1]; split
 .rename_i h; exact h.symm
 .rfl
theorem ZU {Q : Option GFv × Int -> Prop} (hb : mck P M mf C X ≠ 0 -> Q (none, mck P M mf C X))
    (h : ∀ (F : GFv) (p m v g : Nat), GFk F p m v g -> FV P M mf p m v -> shp C X -> Els p m X -> mck P M mf C X = 0 -> Q (some F, 0)) : YY P M mf [(C, X)] Q := by
  refine w_open (by simp) (fun hn => ?_) (fun F p m v g K hF he => ?_) (fun hV he => ?_)
  . have := hb (by rw [Jf5 hn]; decide); rwa [Jf5 hn] at this
  . rw [Jhn] at he
    obtain ⟨_, h2, h3⟩ := Jo7 he
    exact h F p m v g K hF h2 ((YF hF).1 h3) he
  . rw [Jhn] at he ⊢; exact hb he
theorem Jg4 {Q : Int -> Prop} (h : Q (mck P M mf C X)) : ZQ P M mf C X Q := ZU (fun _ _ => h) (fun F p m v g K hF h1 h2 h3 => by show Q 0; rw [<- h3]; exact h)
theorem Jes {Q : Int -> Prop} (h : Q (mck P M mf C X)) : Z8 P M mf C X Q := by
 refine Jn8 ?_; by_cases hV : Yu P M mf
 .rw [Jfd hV]; refine ⟨fun h0 => absurd rfl h0, fun _ => ⟨fun h0 => ?_, fun h0 => ⟨fun h1 => ?_, fun h1 => ⟨fun h2 => ?_, fun h2 => ?_⟩⟩⟩⟩
  .rw [Z4 hV fun s => by have := s.1; omega] at h; exact h
  .rw [Z4 hV fun s => by have := s.2.1; omega] at h; exact h
  .rw [Z4 hV fun s => by have := s.2.2.1; omega] at h; exact h
  .refine ⟨fun z => ∃ t : Nat, z = t /\ t <= X.length /\ ∀ k, k < t -> ((row X k).length : Int) = C, fun z => (X.length - z).toNat, ⟨0, rfl, Nat.zero_le _, fun k hk => by omega⟩, ?_⟩; rintro _ ⟨t, rfl, ht, hk⟩; dsimp only; refine ⟨fun hlt => ⟨⟨by omega, by omega⟩, fun hne => ?_, fun he => ⟨Jv (by omega) (by omega), ⟨t + 1, by push_cast; rfl, by omega, fun k hk' => ?_⟩, by omega⟩⟩, fun hge => ?_⟩
   .rw [Z4 hV fun s => hne (s.2.2.2 _ (Zi (by omega)))] at h; exact h
   .rcases Nat.lt_or_ge k t with h | h
    .exact hk k h
    .rw [show k = t by omega]; exact Classical.not_not.1 he
   .have hs : shp C X := ⟨by omega, by omega, by omega, fun r hr => by obtain ⟨s, h3, rfl⟩ := Jba hr; exact hk s (by omega)⟩
    obtain ⟨p, m, v, hF⟩ := hV; refine ⟨fun r z => r = 0 /\ ∃ s : Nat, z = s /\ s <= X.length /\ ∀ k, k < s -> Elr p m (row X k), fun _ z => (X.length - z).toNat, ⟨rfl, 0, rfl, Nat.zero_le _, fun k hk => by omega⟩, ?_⟩; rintro _ _ ⟨rfl, s, rfl, hs1, hs2⟩; dsimp only; refine ⟨fun hlt2 => ⟨⟨by omega, by omega⟩, ?_⟩, fun hge2 => ?_⟩
    .have hrl : (row X s).length <= 1000000 := by rw [Q3 hs (by omega)]; have := hs.2.1; omega
     by_cases hel : Elr p m (row X s)
     .refine ⟨0, Jdl hF hrl (fun _ => rfl) (fun h => absurd hel h), fun h0 => absurd rfl h0, fun _ => ⟨Jv (by omega) (by omega), ⟨rfl, s + 1, by push_cast; rfl, by omega, fun k hk' => ?_⟩, by omega⟩⟩; rcases Nat.lt_or_ge k s with h | h
      .exact hs2 k h
      .rw [show k = s by omega]; exact hel
     .refine ⟨2, Jdl hF hrl (fun h => absurd h hel) (fun _ => rfl), fun _ => ?_, fun h0 => absurd (by decide) h0⟩; rw [Jda ⟨p, m, v, hF⟩ hs fun hv => hel (Qu ((YF hF).1 hv) s)] at h; exact h
    .rw [Jd1 ⟨p, m, v, hF⟩ hs ((YF hF).2 (Jd8 fun k hk' => hs2 k (by omega)))] at h; exact h
 .rw [Ys hV]; rw [Jf5 hV] at h; exact ⟨fun _ => h, fun h0 => absurd (by decide) h0⟩
def ec (p m v : Nat) (C : Int) (X : List (List Int)) : ES := elim p m v C.toNat ⟨X, List.replicate X.length [], [], 1⟩
def Qj (p m v : Nat) (C : Int) (X : List (List Int)) : List (List Int) := (ec p m v C X).X.take (ec p m v C X).pv.length
def J5 (p m v : Nat) (C : Int) (X : List (List Int)) : List Int := (ec p m v C X).pv
theorem Jq7 {n t : Nat} {l : List Int} (h : t < n) : row (List.replicate n l) t = l := by
 unfold row; rw [List.getD_eq_getElem?_getD, List.getElem?_replicate, if_pos h]; rfl
theorem Ji5 (hs : shp C X) {Z : List (List Int)} {wz : Nat} {d : Int} (hZ : Z.length = X.length) (hz : ∀ t, t < X.length -> (row Z t).length = wz) : Shp X.length C.toNat wz ⟨X, Z, [], d⟩ := ⟨rfl, fun t ht => Q3 hs ht, hZ, hz, Nat.zero_le _⟩
theorem ZY (hs : shp C X) : Shp X.length C.toNat 0 ⟨X, List.replicate X.length [], [], 1⟩ := Ji5 hs (by simp) fun t ht => by rw [Jq7 ht]; rfl
theorem Zg (hs : shp C X) : X.length <= 256 /\ C.toNat <= 256 /\ ((C.toNat : Nat) : Int) = C := ⟨hs.2.2.1, by have := hs.2.1; omega, by have := hs.1; omega⟩
theorem Yo (hs : shp C X) : ∀ r ∈ X, r.length <= 1000000 := fun r hr => by have := hs.2.2.2 r hr; have := hs.2.1; omega
theorem Jaq (hs : shp C X) : Shp X.length C.toNat 0 (ec p m v C X) := YG (ZY hs) _
theorem ZE {Q : Int × List (List Int) × List Int -> Prop} (K : GFk F p m v g) (hs : shp C X) (h : Q (C, Qj p m v C X, J5 p m v C X)) : Q1 F C X Q := by
 obtain ⟨h1, h2, h3⟩ := Zg hs; refine Ja0 (by omega) (Yo hs) ⟨⟨by omega, by omega, by omega⟩, ?_⟩; show J7 F C X (List.replicate X.length ([] : List Int)) _; rw [<- h3]; refine YM K (by omega) (by omega) (wy := 0) (by omega) (ZY hs) ?_; rw [h3]; have := (Jaq (p := p) (m := m) (v := v) hs).pl; exact ⟨⟨by omega, by show ((ec p m v C X).pv.length : Int) <= _; omega⟩, h⟩
theorem QW {Q : Int × List (List Int) × List Int × Int -> Prop} (hb : mck P M mf C X ≠ 0 -> Q (0, [], [], mck P M mf C X))
  (h : ∀ p m v, FV P M mf p m v -> shp C X -> Els p m X -> mck P M mf C X = 0 -> Q (C, Qj p m v C X, J5 p m v C X, 0)) : Qs P M mf C X Q :=
 ZU (fun h0 _ => hb h0) fun F p m v g K hF hs he h0 => ZE K hs (h p m v hF hs he h0)
theorem w_Rank {Q : Int × Int -> Prop} (hb : mck P M mf C X ≠ 0 -> Q (0, mck P M mf C X))
 (h : ∀ p m v, FV P M mf p m v -> shp C X -> Els p m X -> mck P M mf C X = 0 -> Q (((J5 p m v C X).length : Nat), 0)) : Jg0 P M mf C X Q := QW hb h
theorem FV.uniq3 {p' m' v' : Nat} (h : FV P M mf p m v) (h' : FV P M mf p' m' v') : p = p' /\ m = m' /\ v = v' := by
 obtain ⟨e1, e2⟩ := h.uniq h'; subst e1; subst e2; refine ⟨rfl, rfl, ?_⟩; by_cases hm : m = 1
 .rw [(h.m1 hm).2, (h'.m1 hm).2]
 .have e1 := h.m2 hm; have e2 := h'.m2 hm; have hp := h.p2; have h3 : dv p v = dv p v' := by rw [<- h.vo, <- h'.vo]
  have h4 := Jam (p := p) (m := m) (x := v) (by omega) h.vlt; have h5 := Jam (p := p) (m := m) (x := v') (by omega) h'.vlt; rw [<- h4, <- h5, h3]
end
end Go.Proofs.Ytiboieijhehjnaa
set_option linter.unusedVariables false
set_option linter.unusedSimpArgs false
namespace Go.Proofs.Ytiboieijhehjnaa
section
variable {p m v : Nat}
def Asc (k : Nat) (l : List Int) : Prop := (∀ i, i < l.length -> 0 <= vo l i /\ vo l i < (k : Int)) /\ ∀ i j, i < j -> j < l.length -> vo l i < vo l j
theorem Ja1 {l : List Int} {x : Int} {i : Nat} : vo (l ++ [x]) i = if i < l.length then vo l i else if i = l.length then x else 0 := by
 unfold vo; rw [List.getD_eq_getElem?_getD, List.getD_eq_getElem?_getD, List.getElem?_append]; by_cases h : i < l.length
 .rw [if_pos h, if_pos h]
 .rw [if_neg h, if_neg h]; by_cases h2 : i = l.length
  .subst h2; simp
  .rw [if_neg h2]; have : i - l.length ≠ 0 := by omega
   cases hh : i - l.length with
   | zero => omega
   | succ n => simp
theorem Asc.snoc {k : Nat} {l : List Int} (h : Asc k l) : Asc (k + 1) (l ++ [(k : Int)]) := by
 refine ⟨fun i hi => ?_, fun i j hij hj => ?_⟩
 .rw [List.length_append] at hi; rw [Ja1]; split
  .rename_i h1; have := h.1 i h1; omega
  .split
   .omega
   .simp at hi; omega
 .rw [List.length_append] at hj; have hj' : j < l.length + 1 := by simpa using hj
  rw [Ja1, Ja1, if_pos (show i < l.length by omega)]; split
  .rename_i h1; exact h.2 i j hij h1
  .rw [if_pos (show j = l.length by omega)]; exact (h.1 i (by omega)).2
theorem Asc.up {k : Nat} {l : List Int} (h : Asc k l) : Asc (k + 1) l := ⟨fun i hi => by have := h.1 i hi; omega, h.2⟩
theorem Jbh {S : ES} (h : S.pv = []) : ∀ k, Asc k (elim p m v k S).pv
 | 0 => by
  show Asc 0 S.pv; rw [h]; exact ⟨fun i hi => absurd hi (Nat.not_lt_zero i), fun i j _ hj => absurd hj (Nat.not_lt_zero j)⟩
 | k + 1 => by
  have ih := Jbh h k; rw [QZ]; unfold Yq; split
  .exact ih.snoc
  .exact ih.up
theorem Y5 (C : Int) (X : List (List Int)) : Asc C.toNat (J5 p m v C X) := Jbh rfl _
end
section
variable {F : GFv} {p m v g : Nat} {P M : Int} {mf : List Int} {X Y : List (List Int)} {C : Int}
theorem Jnt {l : List Int} {x : Int} {k : Nat} {Q : Int × Bool -> Prop} (hl : l.length <= 1000000) (hs : Asc k l) (h1 : ∀ i, (∃ j, j < l.length /\ vo l j = x) -> Q (i, true)) (h2 : ∀ i, (¬ ∃ j, j < l.length /\ vo l j = x) -> Q (i, false)) : Jbp l x Q := by
 refine ⟨fun a b => ∃ s t : Nat, a = s /\ b = t /\ s <= t /\ t <= l.length /\ (∀ j, j < s -> vo l j < x) /\ ∀ j, t <= j -> j < l.length -> x <= vo l j, fun a b => (b - a).toNat, ⟨0, l.length, rfl, rfl, Nat.zero_le _, Nat.le_refl _, fun j hj => by omega, fun j hj1 hj2 => by omega⟩, ?_⟩; rintro _ _ ⟨s, t, rfl, rfl, hst, htl, hlo, hhi⟩; dsimp only; refine ⟨fun hlt => ?_, fun hge => ?_⟩
 .obtain ⟨q, hq⟩ : ∃ q : Nat, ((s : Int) + t).fdiv 2 = q := ⟨(s + t) / 2, by
   rw [Int.fdiv_eq_ediv_of_nonneg _ (by decide)]; omega⟩
  have hq2 : q = (s + t) / 2 := by
   have : ((s : Int) + t).fdiv 2 = (((s + t) / 2 : Nat) : Int) := by rw [Int.fdiv_eq_ediv_of_nonneg _ (by decide)]; omega
   omega
  rw [hq]; have hql : q < l.length := by omega
  rw [JQ]; refine ⟨Jv (by omega) (by omega), ⟨by omega, by omega⟩, Jv (by omega) (by omega), ⟨by omega, by omega⟩, ?_⟩; show (decide (vo l q ≠ vo l q) = true -> _) /\ (decide (vo l q ≠ vo l q) = false -> _)
  refine ⟨fun h => absurd (of_decide_eq_true h) (fun h => h rfl), fun _ => ⟨fun h => ?_, fun h => ?_⟩⟩
  .have hlt2 := of_decide_eq_true h; refine ⟨Jv (by omega) (by omega), ⟨q + 1, t, by push_cast; rfl, rfl, by omega, htl, fun j hj => ?_, hhi⟩, by omega⟩; rcases Nat.lt_or_ge j q with h3 | h3
   .have := hs.2 j q h3 hql; omega
   .rw [show j = q by omega]; exact hlt2
  .have hge2 := of_decide_eq_false h; refine ⟨⟨s, q, rfl, rfl, by omega, by omega, hlo, fun j hj1 hj2 => ?_⟩, by omega⟩; rcases Nat.eq_or_lt_of_le hj1 with h3 | h3
   .subst h3; omega
   .have := hs.2 q j h3 hj2; omega
 .have hse : s = t := by omega
  subst hse; rw [JQ]; refine ⟨fun hlt2 => ⟨⟨by omega, by omega⟩, fun he => h1 _ ⟨s, by omega, he⟩, fun hne => ⟨⟨by omega, by omega⟩, ?_⟩⟩, fun hge2 => ?_⟩
  .have hno : ¬ ∃ j, j < l.length /\ vo l j = x := fun ⟨j, hj, he⟩ => by
    rcases Nat.lt_trichotomy j s with h3 | h3 | h3
    .have := hlo j h3; omega
    .subst h3; exact hne he
    .have := hs.2 s j h3 hj; have := hhi s (Nat.le_refl _) (by omega); omega
   show (decide (vo l s ≠ vo l s) = true -> _) /\ (decide (vo l s ≠ vo l s) = false -> _)
   exact ⟨fun h => absurd (of_decide_eq_true h) (fun h => h rfl), fun _ => h2 _ hno⟩
  .refine h2 _ fun ⟨j, hj, he⟩ => ?_; have := hlo j (by omega); omega
def Jen (p m : Nat) (C : Nat) (R : List (List Int)) (pv : List Int) (t k : Nat) : List Int := (List.range k).foldl (fun x i => x.set (vo pv i).toNat (Ng p m (vo (row R i) t))) ((List.replicate C 0).set t 1)
theorem Jey (C : Nat) (R : List (List Int)) (pv : List Int) (t k : Nat) : Jen p m C R pv t (k + 1) = (Jen p m C R pv t k).set (vo pv k).toNat (Ng p m (vo (row R k) t)) := by
 unfold Jen; rw [List.range_succ, List.foldl_append]; rfl
theorem Jhd (C : Nat) (R : List (List Int)) (pv : List Int) (t : Nat) : ∀ k, (Jen p m C R pv t k).length = C
 | 0 => by simp [Jen]
 | k + 1 => by rw [Jey, List.length_set]; exact Jhd C R pv t k
theorem Jix {R : List (List Int)} {pv : List Int} {t : Nat} {Q : List Int -> Prop} (K : GFk F p m v g) (hC : 0 <= C /\ C <= 256) (ht : t < C.toNat) (hR : pv.length <= R.length) (hl : pv.length <= 1000000) (hr : ∀ i, i < R.length -> t < (row R i).length) (hp : Asc C.toNat pv)
  (h : Q (Jen p m C.toNat R pv t pv.length)) : Zx F C R pv t Q := by
 refine ⟨⟨by omega, by omega, by omega⟩, ⟨by omega, by omega⟩, fun x z => ∃ k : Nat, z = k /\ k <= pv.length /\ x = Jen p m C.toNat R pv t k, fun _ z => (pv.length - z).toNat, ⟨0, rfl, Nat.zero_le _, rfl⟩, ?_⟩; rintro _ _ ⟨k, rfl, hk, rfl⟩; dsimp only; rw [JQ]; refine ⟨fun hlt => ⟨⟨by omega, by omega⟩, ⟨by omega, by omega⟩, ⟨by omega, by show (t : Int) < ((row R k).length : Nat); have := hr k (by omega); omega⟩, Job K ?_⟩, fun hge => by rw [show k = pv.length by omega]; exact h⟩; have hv : 0 <= gi pv (k : Int) /\ gi pv (k : Int) < ((C.toNat : Nat) : Int) := hp.1 k (by omega); refine ⟨⟨hv.1, by have := hv.2; omega⟩, Jv (by omega) (by omega), ⟨k + 1, by push_cast; rfl, by omega, ?_⟩, by omega⟩; rw [Jey]; rfl
def inP (pv : List Int) (c : Nat) : Bool := (List.range pv.length).any fun i => vo pv i == (c : Int)
theorem Jlk {pv : List Int} {c : Nat} : inP pv c = true ↔ ∃ j, j < pv.length /\ vo pv j = (c : Int) := by
 unfold inP; rw [List.any_eq_true]; exact ⟨fun ⟨i, hi, h⟩ => ⟨i, List.mem_range.1 hi, by simpa using h⟩, fun ⟨i, hi, h⟩ => ⟨i, List.mem_range.2 hi, by simpa using h⟩⟩
def bas (p m : Nat) (C : Nat) (R : List (List Int)) (pv : List Int) (k : Nat) : List (List Int) := (List.range k).foldl (fun B c => if inP pv c then B else B ++ [Jen p m C R pv c pv.length]) []
theorem Jbl (C : Nat) (R : List (List Int)) (pv : List Int) (k : Nat) : bas p m C R pv (k + 1) = if inP pv k then bas p m C R pv k else bas p m C R pv k ++ [Jen p m C R pv k pv.length] := by
 unfold bas; rw [List.range_succ, List.foldl_append]; rfl
theorem Jgm (C : Nat) (R : List (List Int)) (pv : List Int) : ∀ k, (bas p m C R pv k).length <= k
 | 0 => Nat.le_refl _
 | k + 1 => by
  rw [Jbl]; have := Jgm C R pv k; split
  .omega
  .rw [List.length_append]; simp; omega
theorem Jgl (C : Nat) (R : List (List Int)) (pv : List Int) : ∀ k, ∀ r ∈ bas p m C R pv k, ∃ c, c < k /\ inP pv c = false /\ r = Jen p m C R pv c pv.length
 | 0, r, h => by cases h
 | k + 1, r, h => by
  rw [Jbl] at h; split at h
  .obtain ⟨c, h1, h2⟩ := Jgl C R pv k r h; exact ⟨c, by omega, h2⟩
  .rename_i hn
   rcases List.mem_append.1 h with h | h
   .obtain ⟨c, h1, h2⟩ := Jgl C R pv k r h; exact ⟨c, by omega, h2⟩
   .exact ⟨k, by omega, by simpa using hn, by simpa using h⟩
def basC (p m v : Nat) (C : Int) (X : List (List Int)) : List (List Int) := bas p m C.toNat (Qj p m v C X) (J5 p m v C X) C.toNat
theorem Jpy (hs : shp C X) : shp C (basC p m v C X) := by
 obtain ⟨h1, h2, h3⟩ := Zg hs; refine ⟨hs.1, hs.2.1, by have := Jgm (p := p) (m := m) C.toNat (Qj p m v C X) (J5 p m v C X) C.toNat; unfold basC; omega, fun r hr => ?_⟩; obtain ⟨c, _, _, rfl⟩ := Jgl _ _ _ _ r hr; rw [Jhd]; exact h3
theorem Yt (hs : shp C X) : (Qj p m v C X).length = (J5 p m v C X).length := by
 have h0 := Jaq (p := p) (m := m) (v := v) hs; unfold Qj J5; rw [List.length_take]; have h1 := h0.pl; have h2 := h0.xl; omega
theorem ZG {Z : List (List Int)} {n t : Nat} (h : t < n) : row (Z.take n) t = row Z t := by
 unfold row; rw [List.getD_eq_getElem?_getD, List.getD_eq_getElem?_getD, List.getElem?_take, if_pos h]
theorem Jii (hs : shp C X) {t : Nat} (ht : t < (Qj p m v C X).length) : (row (Qj p m v C X) t).length = C.toNat := by
 have h1 := Jaq (p := p) (m := m) (v := v) hs; rw [Yt hs] at ht; unfold Qj; rw [ZG (n := (ec p m v C X).pv.length) ht]; exact h1.xr t (Nat.lt_of_lt_of_le ht h1.pl)
theorem Jec (hs : shp C X) : shp C (Qj p m v C X) := by
 obtain ⟨h1, h2, h3⟩ := Zg hs; have h4 := Jaq (p := p) (m := m) (v := v) hs; refine ⟨hs.1, hs.2.1, by rw [Yt hs]; have := h4.pl; show (ec p m v C X).pv.length <= 256; omega, fun r hr => ?_⟩; obtain ⟨t, ht, rfl⟩ := Jba hr; rw [Jii hs ht]; exact h3
theorem Jed (hs : shp C X) : (J5 p m v C X).length <= X.length := (Jaq (p := p) (m := m) (v := v) hs).pl
theorem Jnv {Q : Int × List (List Int) × Int -> Prop} (hb : mck P M mf C X ≠ 0 -> Q (0, [], mck P M mf C X))
  (h : ∀ p m v, FV P M mf p m v -> shp C X -> Els p m X -> mck P M mf C X = 0 -> Q (C, Qj p m v C (basC p m v C X), 0)) : Jbv P M mf C X Q := by
 refine ZU (fun h0 _ => hb h0) fun F p m v g K hF hs he h0 => ZE K hs ?_; obtain ⟨h1, h2, h3⟩ := Zg hs; have hpl := Jed (p := p) (m := m) (v := v) hs; have hcl := Yt (p := p) (m := m) (v := v) hs; have hasc := Y5 (p := p) (m := m) (v := v) C X; have hrow := fun i (hi : i < (Qj p m v C X).length) => Jii (p := p) (m := m) (v := v) hs hi; have hfin := ZE (Q := fun q => Q (q.1, q.2.1, 0)) K (Jpy (p := p) (m := m) (v := v) hs) (h p m v hF hs he h0); unfold basC at hfin; generalize Qj p m v C X = R at *
 generalize J5 p m v C X = pv at *
 refine ⟨fun x z => ∃ k : Nat, z = k /\ k <= C.toNat /\ x = bas p m C.toNat R pv k, fun _ z => (C - z).toNat, ⟨0, rfl, Nat.zero_le _, rfl⟩, ?_⟩; rintro _ _ ⟨k, rfl, hk, rfl⟩; have hbl := Jgm (p := p) (m := m) C.toNat R pv k; dsimp only; refine ⟨fun hlt => ⟨fun x _ _ => x = bas p m C.toNat R pv (k + 1), Jnt (by omega) hasc (fun i hin => ⟨fun h => absurd h (by simp), fun _ => ?_⟩) (fun i hin => ⟨fun _ => ⟨_, Jix K ⟨hs.1, hs.2.1⟩ (by omega) (by omega) (by omega) (fun i hi => by rw [hrow i hi]; omega) hasc rfl, by omega, ?_⟩, fun h => absurd h (by simp)⟩), ?_⟩, fun hge => ?_⟩
 .rw [Jbl, if_pos (Jlk.2 hin)]
 .rw [Jbl, if_neg (fun hh => hin (Jlk.1 hh))]
 .rintro _ _ _ rfl; exact ⟨Jv (by omega) (by omega), ⟨k + 1, by push_cast; rfl, by omega, rfl⟩, by omega⟩
 .rw [show k = C.toNat by omega]; exact hfin
end
end Go.Proofs.Ytiboieijhehjnaa
