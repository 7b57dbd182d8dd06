/- Contracts of functions of the program, and what they lean on: V2, V3, V4, V5, V6, Pa, Pb, P1, P2, P3, P4, P5, P6, V7. -/
import Derived.Test.YtopemhgpdlbkjaaTowerMinimalG5
set_option linter.unusedVariables false
set_option linter.unusedSimpArgs false
namespace Go.Proofs.Ytopemhgpdlbkjaa
theorem YQ {l : LI} {f : Int -> Bool} : l.any f = true ↔ ∃ i, i < l.length /\ f (vo l i) = true := by
  rw [List.any_eq_true]
  constructor
  . rintro ⟨x, hx, hf⟩
    obtain ⟨i, hi, rfl⟩ := List.mem_iff_getElem.1 hx
    refine ⟨i, hi, ?_⟩
    unfold vo; rw [List.getD_eq_getElem?_getD, List.getElem?_eq_getElem hi]; exact hf
  . rintro ⟨i, hi, hf⟩
    unfold vo at hf
    rw [List.getD_eq_getElem?_getD, List.getElem?_eq_getElem hi] at hf
    exact ⟨l[i], List.getElem_mem hi, hf⟩
theorem Jbc {l : LI} {p : Int -> (Bool -> Prop) -> Prop} {f : Int -> Bool} {Q : Bool -> Prop} (hl : l.length <= 1000000000) (hp : ∀ x (R : Bool -> Prop), R (f x) -> p x R) (h : Q (l.any f)) : QU l p Q := by
 refine ⟨fun z => ∃ k : Nat, z = k /\ k <= l.length /\ ∀ j, j < k -> f (vo l j) = false, fun z => (l.length - z).toNat, ⟨0, rfl, Nat.zero_le _, fun j hj => by omega⟩, ?_⟩; rintro _ ⟨k, rfl, hk, hv⟩; dsimp only; refine ⟨fun hlt => ⟨⟨by omega, by omega⟩, hp _ _ ⟨fun hb => ?_, fun hb => ⟨Jo (by omega) (by omega), ⟨k + 1, by push_cast; rfl, by omega, fun j hj => ?_⟩, by omega⟩⟩⟩, fun hge => ?_⟩
 .rw [YQ.2 ⟨k, by omega, hb⟩] at h; rw [decide_eq_true (by omega)]; exact h
 .rw [Jy] at hb; by_cases hjk : j = k
  .subst hjk; exact hb
  .exact hv j (by omega)
 .have : l.any f = false := by
   cases hb : l.any f with
   | false => rfl
   | true =>
    obtain ⟨i, hi, hf⟩ := YQ.1 hb; rw [hv i (by omega)] at hf; cases hf
  rw [this] at h; exact h
theorem Jdx {p : Nat} {a l c : Int} (hp : 0 < p) (ha : 0 <= a) (hl : l <= p) (hc : 0 <= c) : (a + ((p : Int) - l) * c).tmod p = (a - l * c) % (p : Int) := by
 have h1 : 0 <= ((p : Int) - l) * c := Int.mul_nonneg (by omega) hc; rw [Int.tmod_eq_emod_of_nonneg (by omega)]; have : a + ((p : Int) - l) * c = (a - l * c) + p * c := by rw [Int.sub_mul]; omega
 rw [this, Int.add_mul_emod_self_left]
theorem Jg1 {p d n : Nat} {l R : Vec} (hp : 0 < p) {N : Nat} (hR : Cn p N R) : ∀ k, Cn p N (rem p d l R n k)
 | 0 => hR
 | k + 1 => fun j hj => by
  show 0 <= rst _ _ _ _ _ j /\ rst _ _ _ _ _ j < _; unfold rst; split
  .exact ⟨Int.emod_nonneg _ (by omega), Int.emod_lt_of_pos _ (by omega)⟩
  .exact Jg1 hp hR k j hj
theorem YD {a b : Int} {p : Nat} (hp : p <= 256) (ha : 0 <= a /\ a <= p) (hb : 0 <= b /\ b <= p) : 0 <= a * b /\ a * b <= 65536 := by
 obtain ⟨x, rfl⟩ := Int.eq_ofNat_of_zero_le ha.1; obtain ⟨y, rfl⟩ := Int.eq_ofNat_of_zero_le hb.1; have : x * y <= 256 * 256 := Nat.mul_le_mul (by omega) (by omega); have e : ((x : Int)) * (y : Int) = ((x * y : Nat) : Int) := by push_cast; rfl
 rw [e]; omega
theorem Jdt {l : LI} {n i : Nat} (h : i < n) : vo (l.take n) i = vo l i := by
 unfold vo; rw [List.getD_eq_getElem?_getD, List.getD_eq_getElem?_getD, List.getElem?_take, if_pos h]
theorem Jcz {p : Nat} {l o : LI} {Q : Bool -> Prop} (hp : 0 < p) (hp2 : p <= 256) (hl : Cn p l.length (vo l)) (ho : Cn p o.length (vo o)) (hd : 0 < l.length) (hdn : l.length <= o.length) (hn : o.length <= 1000)
  (h : ∀ b : Bool, (b = true ↔ Dvd p l.length (vo l) (vo o) o.length) -> Q b) : Ye p l o Q := by
 refine Jam (by omega) ⟨Jo (by omega) (by omega), ?_⟩; generalize hdd : l.length = d at *
 generalize hnn : o.length = n at *
 refine ⟨fun x z => ∃ k : Nat, z = (n : Int) - 1 - k /\ k <= n - d /\ x.length = n /\ ∀ j, j < n -> vo x j = rem p d (vo l) (vo o) n k j, fun x z => (z + 1).toNat, ⟨0, by omega, by omega, hnn, fun j _ => rfl⟩, ?_⟩; rintro x _ ⟨k, rfl, hk, hx, hv⟩; dsimp only; have hc := Jg1 (d := d) (l := vo l) (n := n) hp ho k; refine ⟨fun hle => ?_, fun hgt => ?_⟩
 .obtain ⟨i, hi⟩ : ∃ i : Nat, (n : Int) - 1 - k = i := ⟨n - 1 - k, by omega⟩
  rw [hi]; have hin : i = n - 1 - k := by omega
  refine ⟨fun y z => ∃ t : Nat, z = t /\ t <= d /\ y.length = n /\ ∀ j, j < n -> vo y j = if i <= j + d /\ j + d < i + t then rem p d (vo l) (vo o) n (k + 1) j else rem p d (vo l) (vo o) n k j, fun y z => (d - z).toNat, ⟨0, rfl, Nat.zero_le _, hx, fun j hj => by rw [if_neg (by omega)]; exact hv j hj⟩, ?_⟩; rintro y _ ⟨t, rfl, ht, hy, hw⟩; dsimp only; have e1 : (i : Int) - (d : Int) + (t : Int) = ((i - d + t : Nat) : Int) := by omega
  rw [e1, Jy, Jy, Jy, JR]; have hyi : vo y i = rem p d (vo l) (vo o) n k i := by rw [hw i (by omega), if_neg (by omega)]
  refine ⟨fun hlt => ?_, fun hge => ?_⟩
  .have hyj : vo y (i - d + t) = rem p d (vo l) (vo o) n k (i - d + t) := by rw [hw _ (by omega), if_neg (by omega)]
   have c1 := hl t (by omega); have c2 := hc i (by omega); have c3 := hc (i - d + t) (by omega); rw [hyi, hyj]; have c4 := YD (a := (p : Int) - vo l t) (b := rem p d (vo l) (vo o) n k i) hp2 ⟨by omega, by omega⟩ ⟨c2.1, by omega⟩; refine ⟨⟨by omega, by omega⟩, Jo (by omega) (by omega), Jo (by omega) (by omega), ⟨by omega, by omega⟩, Jo (by omega) (by omega), ⟨by omega, by omega⟩, Jo (by omega) (by omega), Jo (by omega) (by omega), by omega, ⟨by omega, by omega⟩, Jo (by omega) (by omega), ⟨t + 1, by push_cast; rfl, by omega, by rw [List.length_set, hy], fun j hj => ?_⟩, by omega⟩; rw [JQ]; by_cases hjt : i - d + t = j
   .subst hjt; rw [if_pos ⟨rfl, by omega⟩, if_pos (by omega), Jdx hp c3.1 (by omega) c2.1]; show _ = rst p d (n - 1 - k) (vo l) (rem p d (vo l) (vo o) n k) (i - d + t); unfold rst; rw [<- hin, if_pos (by omega), show i - d + t + d - i = t by omega]
   .rw [if_neg (fun h => hjt h.1), hw j hj]; by_cases hc2 : i <= j + d /\ j + d < i + t
    .rw [if_pos hc2, if_pos (by omega)]
    .rw [if_neg hc2, if_neg (by omega)]
  .refine ⟨Jo (by omega) (by omega), ⟨k + 1, by omega, by omega, hy, fun j hj => ?_⟩, by omega⟩; rw [hw j hj]; have htd : t = d := by omega
   by_cases hc2 : i <= j + d /\ j + d < i + t
   .rw [if_pos hc2]
   .rw [if_neg hc2]; show _ = rst p d (n - 1 - k) (vo l) (rem p d (vo l) (vo o) n k) j; unfold rst; rw [<- hin, if_neg (by omega)]
 .refine ⟨⟨by omega, by omega⟩, Jbc (f := fun x => decide (x ≠ 0)) (by rw [List.length_take]; omega) (fun x R hR => hR) (h _ ?_)⟩; have hkk : k = n - d := by omega
  have hlen : (x.take (d : Int).toNat).length = d := by rw [List.length_take]; omega
  rw [Bool.not_eq_true']; constructor
  .intro hb j hj; have h2 : ¬ (x.take (d : Int).toNat).any (fun x => decide (x ≠ 0)) = true := by rw [hb]; decide
   rw [YQ] at h2; have h3 : decide (vo (x.take (d : Int).toNat) j ≠ 0) = false := by
    cases hc3 : decide (vo (x.take (d : Int).toNat) j ≠ 0) with
    | false => rfl
    | true => exact absurd ⟨j, by omega, hc3⟩ h2
   rw [Jdt (by simpa using hj), hv j (by omega), hkk] at h3; have h4 := of_decide_eq_false h3; omega
  .intro hD; cases hb : (x.take (d : Int).toNat).any (fun x => decide (x ≠ 0)) with
   | false => rfl
   | true =>
    obtain ⟨i, hi, hf⟩ := YQ.1 hb; rw [Jdt (by simpa using (by omega : i < d)), hv i (by omega), hkk, hD i (by omega)] at hf; exact absurd hf (by decide)
theorem Jaj (o : LI) : vo (o ++ [(1 : Int)]) = fun i => if i = o.length then 1 else vo o i := by
 funext i; unfold vo; rw [List.getD_eq_getElem?_getD, List.getD_eq_getElem?_getD]; rcases Nat.lt_trichotomy i o.length with h | h | h
 .rw [List.getElem?_append_left h, if_neg (by omega)]
 .subst h; simp
 .rw [if_neg (by omega), List.getElem?_eq_none (by simp; omega), List.getElem?_eq_none (by omega)]
theorem Jin {p : Nat} {o : LI} (hp : 2 <= p) (ho : Cn p o.length (vo o)) : Cn p (o.length + 1) (vo (o ++ [(1 : Int)])) := fun i hi => by
 rw [Jaj]; dsimp only; split
 .omega
 .exact ho i (by omega)
theorem Jgr {p : Nat} {l o : LI} {Q : Bool -> Prop} (hp : 2 <= p) (hp2 : p <= 256) (hl : Cn p l.length (vo l)) (ho : Cn p o.length (vo o)) (hd : 0 < l.length) (hdn : l.length <= o.length) (hn : o.length <= 1000)
  (h : ∀ b : Bool, (b = true ↔ Dvd p l.length (vo l) (fun i => if i = o.length then 1 else vo o i) (o.length + 1)) -> Q b) : QQ l o p Q := by
 unfold QQ; simp only [List.nil_append]; rw [<- Jaj] at h; have hcR := Jin hp ho; have hnn : (o ++ [(1 : Int)]).length = o.length + 1 := by simp
 refine ⟨by omega, by omega, Jo (by omega) (by omega), ?_⟩; generalize hdd : l.length = d at *
 generalize hN : o.length + 1 = n at *
 generalize hoo : o ++ [(1 : Int)] = r at *
 refine ⟨fun x z => ∃ k : Nat, z = (n : Int) - 1 - k /\ k <= n - d /\ x.length = n /\ ∀ j, j < n -> vo x j = if j + k < n then rem p d (vo l) (vo r) n k j else 0, fun x z => (z + 1).toNat, ⟨0, by omega, by omega, hnn, fun j hj => by rw [if_pos (by omega)]; rfl⟩, ?_⟩; rintro x _ ⟨k, rfl, hk, hx, hv⟩; dsimp only; have hc := Jg1 (d := d) (l := vo l) (n := n) (p := p) (by omega) hcR k; refine ⟨fun hle => ⟨⟨by omega, by omega⟩, ?_⟩, fun hgt => ?_⟩
 .obtain ⟨i, hi⟩ : ∃ i : Nat, (n : Int) - 1 - k = i := ⟨n - 1 - k, by omega⟩
  rw [hi]; have hin : i = n - 1 - k := by omega
  have hxi : vo x i = rem p d (vo l) (vo r) n k i := by rw [hv i (by omega), if_pos (by omega)]
  refine ⟨fun y z => ∃ t : Nat, z = t /\ t <= d /\ y.length = n /\ ∀ j, j < n -> vo y j = if i <= j + d /\ j + d < i + t then rem p d (vo l) (vo r) n (k + 1) j else vo x j, fun y z => (d - z).toNat, ⟨0, rfl, Nat.zero_le _, hx, fun j hj => by rw [if_neg (by omega)]⟩, ?_⟩; rintro y _ ⟨t, rfl, ht, hy, hw⟩; dsimp only; have e1 : (i : Int) - (d : Int) + (t : Int) = ((i - d + t : Nat) : Int) := by omega
  rw [e1, Jy, Jy, Jy, JR, JR]; refine ⟨fun hlt => ?_, fun hge => ?_⟩
  .have hyj : vo y (i - d + t) = rem p d (vo l) (vo r) n k (i - d + t) := by rw [hw _ (by omega), if_neg (by omega), hv _ (by omega), if_pos (by omega)]
   have c1 := hl t (by omega); have c2 := hc i (by omega); have c3 := hc (i - d + t) (by omega); rw [hxi, hyj]; have c4 := YD (a := (p : Int) - rem p d (vo l) (vo r) n k i) (b := vo l t) hp2 ⟨by omega, by omega⟩ ⟨c1.1, by omega⟩; refine ⟨Jo (by omega) (by omega), Jo (by omega) (by omega), Jo (by omega) (by omega), Jo (by omega) (by omega), ⟨by omega, by omega⟩, Jo (by omega) (by omega), ⟨by omega, by omega⟩, Jo (by omega) (by omega), Jo (by omega) (by omega), by omega, ⟨by omega, by omega⟩, Jo (by omega) (by omega), ⟨t + 1, by push_cast; rfl, by omega, by rw [List.length_set, hy], fun j hj => ?_⟩, by omega⟩; rw [JQ]; by_cases hjt : i - d + t = j
   .subst hjt; rw [if_pos ⟨rfl, by omega⟩, if_pos (by omega), Jdx (by omega) c3.1 (by omega) c1.1]; show _ = rst p d (n - 1 - k) (vo l) (rem p d (vo l) (vo r) n k) (i - d + t); unfold rst; rw [<- hin, if_pos (by omega), show i - d + t + d - i = t by omega, Int.mul_comm]
   .rw [if_neg (fun h => hjt h.1), hw j hj]; by_cases hc2 : i <= j + d /\ j + d < i + t
    .rw [if_pos hc2, if_pos (by omega)]
    .rw [if_neg hc2, if_neg (by omega)]
  .refine ⟨⟨by omega, by omega⟩, Jo (by omega) (by omega), ⟨k + 1, by omega, by omega, by rw [List.length_set, hy], fun j hj => ?_⟩, by omega⟩; rw [JQ]; by_cases hij : i = j
   .subst hij; rw [if_pos ⟨rfl, by omega⟩, if_neg (by omega)]
   .rw [if_neg (fun h => hij h.1), hw j hj]; have htd : t = d := by omega
    by_cases hc2 : i <= j + d /\ j + d < i + t
    .rw [if_pos hc2, if_pos (by omega)]
    .rw [if_neg hc2, hv j hj]; by_cases hjk : j + k < n
     .rw [if_pos hjk, if_pos (by omega)]; show _ = rst p d (n - 1 - k) (vo l) (rem p d (vo l) (vo r) n k) j; unfold rst; rw [<- hin, if_neg (by omega)]
     .rw [if_neg hjk, if_neg (by omega)]
 .have hkk : k = n - d := by omega
  refine ⟨fun z => ∃ t : Nat, z = t /\ t <= n /\ ∀ j, j < t -> vo x j = 0, fun z => (n - z).toNat, ⟨0, rfl, Nat.zero_le _, fun j hj => by omega⟩, ?_⟩; rintro _ ⟨t, rfl, ht, hz⟩; dsimp only; rw [Jy]; refine ⟨fun hlt => ⟨⟨by omega, by omega⟩, fun hne => ?_, fun heq => ⟨Jo (by omega) (by omega), ⟨t + 1, by push_cast; rfl, by omega, fun j hj => ?_⟩, by omega⟩⟩, fun hge => ?_⟩
  .refine h false ⟨fun h' => absurd h' (by decide), fun hD => ?_⟩; rw [hv t (by omega)] at hne; by_cases hc2 : t + k < n
   .rw [if_pos hc2, hkk, hD t (by omega)] at hne; exact absurd rfl hne
   .rw [if_neg hc2] at hne; exact absurd rfl hne
  .by_cases hjt : j = t
   .subst hjt; omega
   .exact hz j (by omega)
  .refine h true ⟨fun _ j hj => ?_, fun _ => rfl⟩; have h1 := hz j (by omega); rw [hv j (by omega), if_pos (by omega), hkk] at h1; exact h1
theorem Q4 {p d w : Nat} (hw : w < p ^ d) : vo (dgi p d w) = dv p w := by
 funext i; rcases Nat.lt_or_ge i d with h | h
 .exact Ql h
 .rw [Jer (by rw [JI]; exact h), Jm8 hw h]
theorem ZW {p d w : Nat} (hp : 0 < p) (hw : w < p ^ d) (n : Nat) : Cn p n (vo (dgi p d w)) := by rw [Q4 hw]; exact Jdb hp w n
theorem Jof {p m : Nat} {mf : LI} {Q : Bool -> Prop} (hp : 2 <= p) (hp2 : p <= 256) (hm : mf.length = m) (hq : p ^ m <= 256) (hc : Cn p m (vo mf))
  (h : ∀ b : Bool, (b = true ↔ Irr p m (vo mf)) -> Q b) : Qi p m mf Q := by
 have hm9 : m <= 8 := by
  rcases Nat.lt_or_ge 8 m with h1 | h1
  .have e1 : 2 ^ 9 <= p ^ 9 := Nat.pow_le_pow_left (by omega) 9; have e2 := J1 (p := p) (by omega) (show 9 <= m by omega); omega
  .exact h1
 refine Jam (by omega) ⟨by omega, ?_⟩; have hlen : (mf ++ [(1 : Int)]).length = m + 1 := by simp [hm]
 have hcs : Cn p (m + 1) (vo (mf ++ [(1 : Int)])) := by have := Jin hp (o := mf) (by rw [hm]; exact hc); rwa [hm] at this
 have hpd : ∀ d, 2 * d <= m -> p ^ d <= 256 := fun d hd => Nat.le_trans (J1 (by omega) (by omega)) hq; refine ⟨fun a b => ∃ d : Nat, a = d /\ 1 <= d /\ 2 * (d - 1) <= m /\ b = ((p ^ d : Nat) : Int) /\ p ^ d <= 65536 /\ ∀ e, 0 < e -> e < d -> 2 * e <= m -> ∀ w, w < p ^ e -> ¬ Dvd p e (dv p w) (fun i => if i = m then 1 else vo mf i) (m + 1), fun a b => (20 - a).toNat, ⟨1, rfl, by omega, by omega, by simp, by simp; omega, fun e h1 h2 => by omega⟩, ?_⟩; rintro _ _ ⟨d, rfl, hd1, hd2, rfl, hdp, hnd⟩; dsimp only; refine ⟨Jo (by omega) (by omega), fun hle => ?_, fun hgt => ?_⟩
 .have hpd' := hpd d (by omega); refine ⟨fun z => ∃ w : Nat, z = w /\ w <= p ^ d /\ ∀ u, u < w -> ¬ Dvd p d (dv p u) (fun i => if i = m then 1 else vo mf i) (m + 1), fun z => ((p ^ d : Nat) - z).toNat, ⟨0, rfl, Nat.zero_le _, fun u hu => by omega⟩, ?_⟩; rintro _ ⟨w, rfl, hw, hnw⟩; dsimp only; refine ⟨fun hlt => ?_, fun hge => ?_⟩
  .have hw2 : w < p ^ d := by omega
   refine ⟨_, Jbb (by omega) (by omega) (by omega) rfl, ?_⟩; have hdl := JI p d w; refine (?_ : ∃ r : Bool, Ye p (dgi p d w) (mf ++ [(1 : Int)]) (fun q => q = r) /\ _); by_cases hD : Dvd p d (dv p w) (fun i => if i = m then 1 else vo mf i) (m + 1)
   .refine ⟨true, Jcz (by omega) hp2 (by rw [hdl]; exact ZW (by omega) hw2 d) (by rw [hlen]; exact hcs) (by omega) (by omega) (by omega) fun b hb => ?_, fun _ => ?_, fun h' => absurd h' (by decide)⟩
    .rw [hdl, hlen, Q4 hw2, Jaj, hm] at hb; exact hb.2 hD
    .exact h false ⟨fun h' => absurd h' (by decide), fun hI => absurd hD (hI d (by omega) (by omega) w hw2)⟩
   .refine ⟨false, Jcz (by omega) hp2 (by rw [hdl]; exact ZW (by omega) hw2 d) (by rw [hlen]; exact hcs) (by omega) (by omega) (by omega) fun b hb => ?_, fun h' => absurd h' (by decide), fun _ => ?_⟩
    .rw [hdl, hlen, Q4 hw2, Jaj, hm] at hb; cases b with
     | false => rfl
     | true => exact absurd (hb.1 rfl) hD
    .refine ⟨Jo (by omega) (by omega), ⟨w + 1, by push_cast; rfl, by omega, fun u hu => ?_⟩, by omega⟩; by_cases huw : u = w
     .subst huw; exact hD
     .exact hnw u (by omega)
  .have e1 : ((p ^ d : Nat) : Int) * (p : Int) = ((p ^ (d + 1) : Nat) : Int) := by rw [Nat.pow_succ]; push_cast; rfl
   have hb2 : p ^ (d + 1) <= 65536 := by
    rw [Nat.pow_succ]; have := Nat.mul_le_mul hpd' hp2; omega
   rw [e1]; refine ⟨Jo (by omega) (by omega), Qf (by omega), ⟨d + 1, by push_cast; rfl, by omega, by omega, rfl, hb2, fun e he0 he h2 u hu => ?_⟩, by omega⟩; by_cases hed : e = d
   .subst hed; exact hnw u (by omega)
   .exact hnd e he0 (by omega) h2 u hu
 .exact h true ⟨fun _ e he0 h2 u hu => hnd e he0 (by omega) h2 u hu, fun _ => rfl⟩
theorem v_rirr {p m : Nat} {mf : LI} {Q : Bool -> Prop} (hp : 2 <= p) (hp2 : p <= 256) (hm : mf.length = m) (hq : p ^ m <= 256) (hc : Cn p m (vo mf))
  (h : ∀ b : Bool, (b = true ↔ Irr p m (vo mf)) -> Q b) : Jce mf p Q := by
 have hm9 : m <= 8 := by
  rcases Nat.lt_or_ge 8 m with h1 | h1
  .have e1 : 2 ^ 9 <= p ^ 9 := Nat.pow_le_pow_left (by omega) 9; have e2 := J1 (p := p) (by omega) (show 9 <= m by omega); omega
  .exact h1
 unfold Jce; rw [hm]; have hpd : ∀ d, 2 * d <= m -> p ^ d <= 256 := fun d hd => Nat.le_trans (J1 (by omega) (by omega)) hq; refine ⟨fun b a => ∃ d : Nat, a = d + 1 /\ 2 * d <= m /\ b = ((p ^ d : Nat) : Int) /\ ∀ e, 0 < e -> e <= d -> 2 * e <= m -> ∀ w, w < p ^ e -> ¬ Dvd p e (dv p w) (fun i => if i = m then 1 else vo mf i) (m + 1), fun b a => (20 - a).toNat, ⟨0, rfl, by omega, by simp, fun e h1 h2 => by omega⟩, ?_⟩; rintro _ _ ⟨d, rfl, hd2, rfl, hnd⟩; dsimp only; have hpd' := hpd d hd2; refine ⟨Jo (by omega) (by omega), fun hle => ?_, fun hgt => ?_⟩
 .have e1 : ((p ^ d : Nat) : Int) * (p : Int) = ((p ^ (d + 1) : Nat) : Int) := by rw [Nat.pow_succ]; push_cast; rfl
  have hpd2 := hpd (d + 1) (by omega); rw [e1]; refine ⟨Qf (by omega), ?_⟩; refine ⟨fun z => ∃ w : Nat, z = w /\ w <= p ^ (d + 1) /\ ∀ u, u < w -> ¬ Dvd p (d + 1) (dv p u) (fun i => if i = m then 1 else vo mf i) (m + 1), fun z => ((p ^ (d + 1) : Nat) - z).toNat, ⟨0, rfl, Nat.zero_le _, fun u hu => by omega⟩, ?_⟩; rintro _ ⟨w, rfl, hw, hnw⟩; dsimp only; rw [show (d : Int) + 1 = ((d + 1 : Nat) : Int) by push_cast; rfl]; refine ⟨fun hlt => ?_, fun hge => ?_⟩
  .have hw2 : w < p ^ (d + 1) := by omega
   have hdl := JI p (d + 1) w; refine Jcw (by omega) (by omega) (by omega) (Jgr hp hp2 (by rw [hdl]; exact ZW (by omega) hw2 _) (by rw [hm]; exact hc) (by omega) (by omega) (by omega) fun b hb => ?_); rw [hdl, hm, Q4 hw2] at hb; refine ⟨fun hb1 => ?_, fun hb0 => ?_⟩
   .exact h false ⟨fun h' => absurd h' (by decide), fun hI => absurd (hb.1 hb1) (hI (d + 1) (by omega) (by omega) w hw2)⟩
   .refine ⟨Jo (by omega) (by omega), ⟨w + 1, by push_cast; rfl, by omega, fun u hu => ?_⟩, by omega⟩; by_cases huw : u = w
    .subst huw; intro hD; rw [hb.2 hD] at hb0; exact absurd hb0 (by decide)
    .exact hnw u (by omega)
  .refine ⟨Jo (by omega) (by omega), ⟨d + 1, rfl, by omega, rfl, fun e he0 he h2 u hu => ?_⟩, by omega⟩; by_cases hed : e = d + 1
   .subst hed; exact hnw u (by omega)
   .exact hnd e he0 (by omega) h2 u hu
 .exact h true ⟨fun _ e he0 h2 u hu => hnd e he0 (by omega) h2 u hu, fun _ => rfl⟩
structure FV (P M : Int) (mf : LI) (p m v : Nat) : Prop where
  eP : P = p
  eM : M = m
  pr : IsLf p p
  m0 : 0 < m
  q : p ^ m <= 256
  vlt : v < p ^ m
  m1 : m = 1 -> mf = [] /\ v = 0
  m2 : m ≠ 1 -> mf = dgi p m v
  irr : Irr p m (dv p v)
def Jae (P M : Int) (mf : LI) : Prop := ∃ p m v, FV P M mf p m v
open Classical in
noncomputable def ck (P M : Int) (mf : LI) : Int := if Jae P M mf then 0 else 1
theorem Jb9 {P M : Int} {mf : LI} (h : Jae P M mf) : ck P M mf = 0 := if_pos h
theorem Qx {P M : Int} {mf : LI} (h : ¬ Jae P M mf) : ck P M mf = 1 := if_neg h
theorem Jo8 (p : Nat) (c : Vec) : Irr p 1 c := fun d h1 h2 => by omega
theorem Jcu {p : Nat} (hp : IsLf p p) (hq : p <= 256) : FV p ((1 : Nat) : Int) [] p 1 0 := ⟨rfl, rfl, hp, by omega, by simpa using hq, by have := hp.two; simp; omega, fun _ => ⟨rfl, rfl⟩, fun h => absurd rfl h, Jo8 p _⟩
theorem Jjk {p m : Nat} {mf : LI} (hp : 0 < p) (hl : mf.length = m) (hc : Cn p m (vo mf)) : nm p m (vo mf) < p ^ m /\ mf = dgi p m (nm p m (vo mf)) /\ vo mf = dv p (nm p m (vo mf)) := by
 have hlt := Y6 (m := m) hp (vo mf); have he : mf = dgi p m (nm p m (vo mf)) := Q3 (by rw [hl, JI]) fun i hi => by
  have h1 := hc i (by omega); rw [Ql (by omega), Jjj hp _ (by omega), Int.emod_eq_of_lt h1.1 h1.2]
 exact ⟨hlt, he, by have := congrArg vo he; rw [Q4 hlt] at this; exact this⟩
theorem FV.cn {P M : Int} {mf : LI} {p m v : Nat} (h : FV P M mf p m v) (hm : m ≠ 1) : mf.length = m /\ Cn p m (vo mf) /\ Irr p m (vo mf) := by
 have := h.pr.two; rw [h.m2 hm]; exact ⟨JI p m v, ZW (by omega) h.vlt m, by rw [Q4 h.vlt]; exact h.irr⟩
theorem FV.vo {P M : Int} {mf : LI} {p m v : Nat} (h : FV P M mf p m v) : Go.Proofs.Ytopemhgpdlbkjaa.vo mf = dv p v := by
 by_cases hm : m = 1
 .rw [(h.m1 hm).1, (h.m1 hm).2, ZU]; rfl
 .rw [h.m2 hm, Q4 h.vlt]
theorem Joh {P M : Int} {mf : LI} {Q : Int -> Prop} (h : Q (ck P M mf)) : Ja1 P M mf Q := by
 refine ⟨fun h1 => ?_, fun h1 => Jj0 (by omega) fun b hb => ⟨fun hb0 => ?_, fun hb1 => ?_⟩⟩
 .rw [Qx] at h
  .exact h
  .rintro ⟨p, m, v, hV⟩; have e1 := J1 (p := p) (by have := hV.pr.two; omega) hV.m0; have := hV.q; have := hV.eP; rw [show p ^ (0 + 1) = p from Nat.pow_one p] at e1; omega
 .rw [Qx] at h
  .exact h
  .rintro ⟨p, m, v, hV⟩; have := hV.pr.two; have : b = true := hb.2 ⟨by rw [hV.eP]; omega, by rw [hV.eP]; exact hV.pr⟩; rw [this] at hb0; exact absurd hb0 (by decide)
 .have hbt : b = true := by cases b <;> first | rfl | exact absurd hb1 (by decide)
  obtain ⟨hP2, hPr⟩ := hb.1 hbt; obtain ⟨p, rfl⟩ := Int.eq_ofNat_of_zero_le (show 0 <= P by omega); rw [Int.toNat_natCast] at hPr; refine ⟨fun h2 => ?_, fun h2 => Jdp (by omega) (by omega) fun r hr1 hr2 => ⟨fun h3 => ?_, fun h3 => ?_⟩⟩
  .rw [Qx] at h
   .exact h
   .rintro ⟨p', m, v, hV⟩; have := hV.m0; have := hV.eM; omega
  .rw [Qx] at h
   .exact h
   .rintro ⟨p', m, v, hV⟩; have e1 := hV.eM; have e2 := hV.eP; have e3 := hV.q; have : p = p' := by omega
    subst this; rw [e1, Int.toNat_natCast] at hr1; have := hr1 e3; omega
  .obtain ⟨m, rfl⟩ := Int.eq_ofNat_of_zero_le (show 0 <= M by omega); rw [Int.toNat_natCast] at hr1 hr2; have hq : p ^ m <= 256 := by
    rcases Nat.lt_or_ge 256 (p ^ m) with hc | hc
    .exact absurd (hr2 hc) h3
    .exact hc
   refine ⟨fun h4 => Jlt ?_, fun h4 => ⟨fun h5 => ?_, fun h5 => ?_⟩⟩
   .have hm1 : m = 1 := by omega
    subst hm1; by_cases hl : mf = []
    .subst hl; rw [Jb9 ⟨_, _, _, Jcu hPr (by omega)⟩] at h
     simpa using h
    .rw [Qx] at h
     .simpa [hl] using h
     .rintro ⟨p', m, v, hV⟩; exact hl (hV.m1 (by have := hV.eM; omega)).1
   .rw [Qx] at h
    .exact h
    .rintro ⟨p', m', v, hV⟩; have e1 := hV.eM; have := (hV.cn (by omega)).1; omega
   .have hlen : mf.length = m := by omega
    have hm8 : mf.length <= 1000000000 := by
     have := Nat.lt_two_pow_self (n := m); have e1 : 2 ^ m <= p ^ m := Nat.pow_le_pow_left (by omega) m; omega
    refine Jbc (f := fun x => if x < 0 then true else decide ((p : Int) <= x)) hm8 (fun x R hR => ⟨fun hx => by simpa [hx] using hR, fun hx => by simpa [hx] using hR⟩) ⟨fun hb6 => ?_, fun hb6 => ?_⟩
    .rw [Qx] at h
     .exact h
     .rintro ⟨p', m', v, hV⟩; have e1 := hV.eM; have e2 := hV.eP; have e3 : p = p' := by omega
      have e4 : m = m' := by omega
      subst e3; subst e4; obtain ⟨i, hi, hf⟩ := YQ.1 hb6; have hcn := (hV.cn (by omega)).2.1 i (by omega); rw [if_neg (by omega)] at hf; have := of_decide_eq_true hf; omega
    .have hcn : Cn p m (vo mf) := fun i hi => by
      have h6 : ¬ mf.any (fun x => if x < 0 then true else decide ((p : Int) <= x)) = true := by rw [hb6]; decide
      rw [YQ] at h6; by_cases hx : vo mf i < 0
      .exact absurd ⟨i, by omega, by rw [if_pos hx]⟩ h6
      .by_cases hx2 : (p : Int) <= vo mf i
       .exact absurd ⟨i, by omega, by rw [if_neg hx, decide_eq_true hx2]⟩ h6
       .omega
     have hcl := Jjk (by omega) hlen hcn; refine Jof (by omega) (by omega) hlen hq hcn fun b2 hb2 => Jlt ?_; by_cases hI : Irr p m (vo mf)
     .rw [hb2.2 hI, if_pos rfl]; rw [Jb9 ⟨p, m, nm p m (vo mf), rfl, rfl, hPr, by omega, hq, hcl.1, fun e => by omega, fun _ => hcl.2.1, by rw [<- hcl.2.2]; exact hI⟩] at h; exact h
     .rw [if_neg (fun e => hI (hb2.1 e))]; rw [Qx] at h
      .exact h
      .rintro ⟨p', m', v, hV⟩; have e1 := hV.eM; have e2 := hV.eP; have e3 : p = p' := by omega
       have e4 : m = m' := by omega
       subst e3; subst e4; exact hI (hV.cn (by omega)).2.2
theorem Jet {P M : Int} {mf : LI} {Q : Int -> Prop} (h : Q (ck P M mf)) : ZA P M mf Q := by
 refine Zk ⟨fun h0 => ?_, fun h0 => ?_⟩
 .rw [Qx] at h
  .exact h
  .rintro ⟨p, m, v, hV⟩; have h1 := hV.pr.two; have h2 := hV.m0; have h3 := hV.q; rw [hV.eP, hV.eM, Jcn, if_pos ⟨by omega, by omega, by simpa using h3⟩] at h0; have h4 : 0 < p ^ m := Nat.pow_pos (by omega); simp only [Int.toNat_natCast] at h0; omega
 .unfold Jcn at h0; by_cases hc : 2 <= P /\ 1 <= M /\ P.toNat ^ M.toNat <= 256
  .obtain ⟨h1, h2, hq⟩ := hc; obtain ⟨p, rfl⟩ := Int.eq_ofNat_of_zero_le (show 0 <= P by omega); obtain ⟨m, rfl⟩ := Int.eq_ofNat_of_zero_le (show 0 <= M by omega); simp only [Int.toNat_natCast] at hq; have hp256 : p <= 256 := by
    have := J1 (p := p) (by omega) (show 1 <= m by omega); rw [Nat.pow_one] at this; omega
   refine Jlp (by omega) hp256 fun b hb => ⟨fun hb0 => ?_, fun hb1 => ?_⟩
   .rw [Qx] at h
    .exact h
    .rintro ⟨p', m', v, hV⟩; have e2 := hV.eP; have e3 : p = p' := by omega
     subst e3; rw [hb.2 hV.pr] at hb0; exact absurd hb0 (by decide)
   .have hbt : b = true := by cases b <;> first | rfl | exact absurd hb1 (by decide)
    have hPr := hb.1 hbt; refine ⟨fun h4 => ⟨fun h5 => ?_, fun h5 => ?_⟩, fun h4 => ⟨fun h5 => ?_, fun h5 => ?_⟩⟩
    .rw [Qx] at h
     .exact h
     .rintro ⟨p', m', v, hV⟩; have e1 := hV.eM; have := (hV.m1 (by omega)).1; rw [this] at h5; exact h5 rfl
    .have hm1 : m = 1 := by omega
     subst hm1; have hl : mf = [] := List.length_eq_zero_iff.1 (by omega); subst hl; rw [Jb9 ⟨_, _, _, Jcu hPr hp256⟩] at h; exact h
    .rw [Qx] at h
     .exact h
     .rintro ⟨p', m', v, hV⟩; have e1 := hV.eM; have := (hV.cn (by omega)).1; omega
    .have hlen : mf.length = m := by omega
     refine ⟨fun z => ∃ k : Nat, z = k /\ k <= m /\ Cn p k (vo mf), fun z => (m - z).toNat, ⟨0, rfl, Nat.zero_le _, fun i hi => by omega⟩, ?_⟩; rintro _ ⟨k, rfl, hk, hcn⟩; dsimp only; rw [Jy]; have hno : ¬ (0 <= vo mf k /\ vo mf k < p) -> k < m -> ¬ Jae p m mf := by
      rintro hbad hkm ⟨p', m', v, hV⟩; have e1 := hV.eM; have e2 := hV.eP; have e3 : p = p' := by omega
      have e4 : m = m' := by omega
      subst e3; subst e4; exact hbad ((hV.cn (by omega)).2.1 k hkm)
     have hm8 : m <= 1000000000 := by
      have := Nat.lt_two_pow_self (n := m); have e1 : 2 ^ m <= p ^ m := Nat.pow_le_pow_left (by omega) m; omega
     refine ⟨fun hlt => ⟨fun hneg => ⟨⟨by omega, by omega⟩, ?_⟩, fun hpos => ⟨⟨by omega, by omega⟩, ⟨by omega, by omega⟩, fun hbig => ?_, fun hsm => ⟨Jo (by omega) (by omega), ⟨k + 1, by push_cast; rfl, by omega, fun i hi => ?_⟩, by omega⟩⟩⟩, fun hge => ?_⟩
     .rw [Qx (hno (by omega) (by omega))] at h; exact h
     .rw [Qx (hno (by omega) (by omega))] at h; exact h
     .by_cases hik : i = k
      .subst hik; omega
      .exact hcn i (by omega)
     .have hkm : k = m := by omega
      subst hkm; have hcl := Jjk (by omega) hlen hcn; refine v_rirr (by omega) hp256 hlen hq hcn fun b2 hb2 => ⟨fun hb3 => ?_, fun hb3 => ?_⟩
      .rw [Qx] at h
       .exact h
       .rintro ⟨p', m', v, hV⟩; have e1 := hV.eM; have e2 := hV.eP; have e3 : p = p' := by omega
        have e4 : k = m' := by omega
        subst e3; subst e4; rw [hb2.2 (hV.cn (by omega)).2.2] at hb3; exact absurd hb3 (by decide)
      .have hbt2 : b2 = true := by cases b2 <;> first | rfl | exact absurd hb3 (by decide)
       rw [Jb9 ⟨p, k, nm p k (vo mf), rfl, rfl, hPr, by omega, hq, hcl.1, fun e => by omega, fun _ => hcl.2.1, by rw [<- hcl.2.2]; exact hb2.1 hbt2⟩] at h; exact h
  .rw [if_neg hc] at h0; exact absurd rfl h0
end Go.Proofs.Ytopemhgpdlbkjaa
namespace Go.Proofs.Ytopemhgpdlbkjaa
theorem Zs {p m : Nat} {r : LI} {u : Vec} (hp : 0 < p) (hl : r.length = m) (hv : ∀ i, i < m -> vo r i = u i % (p : Int)) : r = dgi p m (nm p m u) :=
  Q3 (by rw [hl, JI]) fun i hi => by rw [hv i (by omega), Ql (by omega), Jjj hp _ (by omega)]
theorem Jak (p i : Nat) (l : LI) (n : Nat) (h : i < n) : vl p (i + 1) (fun t => vo l (n - (i + 1) + t)) = vo l (n - (i + 1)) + (p : Int) * vl p i (fun t => vo l (n - i + t)) := by
 show vo l (n - (i + 1) + 0) + (p : Int) * vl p i (fun t => vo l (n - (i + 1) + (t + 1))) = _; rw [Nat.add_zero]; have : (fun t => vo l (n - (i + 1) + (t + 1))) = fun t => vo l (n - i + t) := by
  funext t; rw [show n - (i + 1) + (t + 1) = n - i + t by omega]
 rw [this]
theorem Jal {p : Nat} {l : LI} {n i : Nat} (hp : 2 <= p) (hc : Cn p n (vo l)) (hq : p ^ n <= 256) (hi : i <= n) : 0 <= vl p i (fun t => vo l (n - i + t)) /\ vl p i (fun t => vo l (n - i + t)) < 256 := by
 have h1 := Jif (p := p) (n := i) (v := fun t => vo l (n - i + t)) (by omega) (fun t ht => hc (n - i + t) (by omega)); have h2 := J1 (p := p) (by omega) hi; omega
theorem Jdq {p : Nat} {l : LI} {Q : Int -> Prop} (hp : 2 <= p) (hp2 : p <= 256) (hc : Cn p l.length (vo l)) (hq : p ^ l.length <= 256) (h : Q (vl p l.length (vo l))) : QJ p l Q := by
 refine ⟨fun i z => i <= l.length /\ z = vl p i (fun t => vo l (l.length - i + t)), ⟨Nat.zero_le _, rfl⟩, ?_, ?_⟩
 .rintro i hi _ ⟨_, rfl⟩; have h1 := Jal hp hc hq (i := i) (by omega); have h2 := Jal hp hc hq (i := i + 1) (by omega); rw [Jak p i l l.length hi] at h2; have h3 := YD (a := vl p i (fun t => vo l (l.length - i + t))) (b := p) (p := 256) (by omega) ⟨h1.1, by omega⟩ ⟨by omega, by omega⟩; rw [show ((l.length - 1 - i : Nat) : Int) = ((l.length - (i + 1) : Nat) : Int) by omega, Jy]; refine ⟨Jo (by omega) (by omega), ?_, by omega, ?_⟩
  .rw [Int.mul_comm, Int.add_comm]; exact Jo (by omega) (by omega)
  .rw [Jak p i l l.length hi, Int.mul_comm, Int.add_comm]
 .rintro _ ⟨_, rfl⟩; have : (fun t => vo l (l.length - l.length + t)) = vo l := by funext t; rw [Nat.sub_self, Nat.zero_add]
  rw [this]; exact h
theorem Jlq {p : Nat} {M : Int} {mf l : LI} {Q : Int -> Prop} (hp : 2 <= p) (hp2 : p <= 256) (hl : l.length <= 1000) (hc : Cn p l.length (vo l)) (hq : p ^ l.length <= 256) (h : Q (vl p l.length (vo l))) : QR p M mf l Q := by
 refine ⟨Jo (by omega) (by omega), fun z j => ∃ i : Nat, j = (l.length : Int) - 1 - i /\ i <= l.length /\ z = vl p i (fun t => vo l (l.length - i + t)), fun z j => (j + 1).toNat, ⟨0, by omega, Nat.zero_le _, rfl⟩, ?_⟩; rintro _ _ ⟨i, rfl, hi, rfl⟩; dsimp only; refine ⟨fun hge => ?_, fun hlt => ?_⟩
 .have h1 := Jal hp hc hq (i := i) (by omega); have h2 := Jal hp hc hq (i := i + 1) (by omega); rw [Jak p i l l.length (by omega)] at h2; have h3 := YD (a := vl p i (fun t => vo l (l.length - i + t))) (b := p) (p := 256) (by omega) ⟨h1.1, by omega⟩ ⟨by omega, by omega⟩; rw [show (l.length : Int) - 1 - i = ((l.length - (i + 1) : Nat) : Int) by omega, Jy]; refine ⟨Jo (by omega) (by omega), ⟨by omega, by omega⟩, ?_, Jo (by omega) (by omega), ⟨i + 1, by omega, by omega, ?_⟩, by omega⟩
  .rw [Int.mul_comm, Int.add_comm]; exact Jo (by omega) (by omega)
  .rw [Jak p i l l.length (by omega), Int.mul_comm, Int.add_comm]
 .have hil : i = l.length := by omega
  subst hil; have : (fun t => vo l (l.length - l.length + t)) = vo l := by funext t; rw [Nat.sub_self, Nat.zero_add]
  rw [this]; exact h
theorem Jln {p m x : Nat} (hp : 0 < p) (hx : x < p ^ m) : vl p (dgi p m x).length (vo (dgi p m x)) = (x : Int) := by
 rw [JI, Q4 hx, Jlm hp hx]
namespace FV
variable {P M : Int} {mf : LI} {p m v : Nat} (F : FV P M mf p m v)
include F
theorem p2 : 2 <= p := F.pr.two
theorem pq : p <= p ^ m := by
 have := J1 (p := p) (by have := F.pr.two; omega) F.m0
 rwa [show p ^ (0 + 1) = p from Nat.pow_one p] at this
theorem p256 : p <= 256 := Nat.le_trans F.pq F.q
theorem m8 : m <= 8 := by
 rcases Nat.lt_or_ge 8 m with h1 | h1
 .have e1 : 2 ^ 9 <= p ^ 9 := Nat.pow_le_pow_left F.p2 9; have e2 := J1 (p := p) (by have := F.p2; omega) (show 9 <= m by omega); have := F.q; omega
 .exact h1
theorem ring : CR (p ^ m) (JZ p m) (Jq p m (dv p v)) := Jh9 _ F.p2 F.m0
theorem gen : ∃ g, Gn (p ^ m) (Jq p m (dv p v)) g := gen_ex F.pr F.m0 F.q F.vlt (fun h => (F.m1 h).2) F.irr
end FV
def sh (v : Vec) : Vec := fun i => if i = 0 then 0 else v (i - 1)
theorem Jlx {m : Nat} {c v : Vec} {i : Nat} (hi : i < m) : tX m c v i = sh v i - c i * v (m - 1) := by simp only [tX, if_pos hi, sh]
theorem Jlo {P M : Int} {mf : LI} {p m v : Nat} (F : FV P M mf p m v) {x : Nat} {Q : LI -> Prop} (hx : x < p ^ m) (h : Q (dgi p m (nm p m (tX m (dv p v) (dv p x))))) : Zv P M mf (dgi p m x) Q := by
 have hp := F.p2; have hp2 := F.p256; have hm0 := F.m0; have hm8 := F.m8; rw [F.eP, F.eM]; have hlen := JI p m x; have hcx := Jdb (p := p) (by omega) x m; refine ⟨Jo (by omega) (by omega), ⟨by omega, by omega⟩, ⟨by omega, by omega⟩, ⟨by omega, by omega⟩, ?_⟩; generalize hA : (si ((dgi p m x).take ((1 : Int).toNat) ++ (dgi p m x).take (min (dgi p m x).length ((dgi p m x).length - ((1 : Int).toNat))) ++ (dgi p m x).drop ((1 : Int).toNat + (min (dgi p m x).length ((dgi p m x).length - ((1 : Int).toNat))))) (0 : Int) (0 : Int)) = A; have hAl : A.length = m := by
  rw [<- hA]; show (List.set _ _ _).length = m; rw [List.length_set]; simp only [List.length_append, List.length_take, List.length_drop, hlen]; show min 1 m + min (min m (m - 1)) m + (m - (1 + min m (m - 1))) = m; omega
 have hAv : ∀ i, i < m -> vo A i = sh (dv p x) i := fun i hi => by
  unfold sh; rw [<- hA]; show vo (List.set _ 0 0) i = _; rw [JQ]; by_cases h0 : i = 0
  .subst h0; rw [if_pos ⟨rfl, by simp only [List.length_append, List.length_take, hlen]; show 0 < min 1 m + _ + _; omega⟩, if_pos rfl]
  .rw [if_neg (fun h => h0 h.1.symm), if_neg h0]; have e1 : ((dgi p m x).take ((1 : Int).toNat)).length = 1 := by rw [List.length_take, hlen]; show min 1 m = 1; omega
   have e2 : (min (dgi p m x).length ((dgi p m x).length - ((1 : Int).toNat))) = m - 1 := by rw [hlen]; show min m (m - 1) = m - 1; omega
   rw [e2]; have e3 : ((dgi p m x).take (m - 1)).length = m - 1 := by rw [List.length_take, hlen]; omega
   unfold vo; rw [List.getD_eq_getElem?_getD, List.append_assoc, List.getElem?_append_right (by omega), e1, List.getElem?_append_left (by omega), List.getElem?_take, if_pos (by omega)]; have := Ql (p := p) (x := x) (i := i - 1) (n := m) (by omega); unfold vo at this; rw [List.getD_eq_getElem?_getD] at this; exact this
 rw [show (m : Int) - 1 = ((m - 1 : Nat) : Int) by omega, Jy, Ql (by omega)]; have hshift : ∀ i, i < m -> 0 <= sh (dv p x) i /\ sh (dv p x) i < p := fun i hi => by
  unfold sh; split
  .omega
  .exact hcx (i - 1) (by omega)
 refine ⟨fun h0 => ?_, fun h0 => ?_⟩
 .rw [Zs (p := p) (u := tX m (dv p v) (dv p x)) (by omega) hAl fun i hi => ?_]
  .exact h
  .have := hshift i hi; rw [hAv i hi]; rw [Jlx hi, h0, Int.mul_zero, Int.sub_zero, Int.emod_eq_of_lt this.1 this.2]
 .have hml : mf.length <= m := by
   by_cases hm1 : m = 1
   .rw [(F.m1 hm1).1]; simp
   .rw [F.m2 hm1, JI]; omega
  have hcv := Jdb (p := p) (by omega) v m; have ht := hcx (m - 1) (by omega); refine ⟨fun l z => ∃ k : Nat, z = k /\ k <= mf.length /\ l.length = m /\ ∀ i, i < m -> vo l i = if i < k then tX m (dv p v) (dv p x) i % (p : Int) else vo A i, fun l z => (mf.length - z).toNat, ⟨0, rfl, Nat.zero_le _, hAl, fun i hi => by rw [if_neg (by omega)]⟩, ?_⟩; rintro l _ ⟨k, rfl, hk, hl, hv⟩; dsimp only; rw [Jy, Jy, JR, F.vo]; refine ⟨fun hlt => ?_, fun hge => ?_⟩
  .have c1 := hcv k (by omega); have c2 := hshift k (by omega); have c3 := YD (a := (p : Int) - dv p v k) (b := dv p x (m - 1)) hp2 ⟨by omega, by omega⟩ ⟨ht.1, by omega⟩; rw [hv k (by omega), if_neg (by omega), hAv k (by omega)]; refine ⟨⟨by omega, by omega⟩, ⟨by omega, by omega⟩, Jo (by omega) (by omega), Jo (by omega) (by omega), Jo (by omega) (by omega), by omega, ⟨by omega, by omega⟩, Jo (by omega) (by omega), ⟨k + 1, by push_cast; rfl, by omega, by rw [List.length_set, hl], fun i hi => ?_⟩, by omega⟩; rw [JQ]; by_cases hki : k = i
   .subst hki; rw [if_pos ⟨rfl, by omega⟩, if_pos (by omega), Jdx (by omega) c2.1 (by omega) ht.1, Jlx hi]
   .rw [if_neg (fun h => hki h.1), hv i hi]; by_cases hik : i < k
    .rw [if_pos hik, if_pos (by omega)]
    .rw [if_neg hik, if_neg (by omega)]
  .rw [Zs (p := p) (u := tX m (dv p v) (dv p x)) (by omega) hl fun i hi => ?_]
   .exact h
   .rw [hv i hi]; by_cases hik : i < k
    .rw [if_pos hik]
    .rw [if_neg hik]; have hm1 : m = 1 := by
      by_cases hm1 : m = 1
      .exact hm1
      .rw [F.m2 hm1, JI] at hge hk; omega
     have hi0 : i = 0 := by omega
     rw [hAv i hi, Jlx hi, (F.m1 hm1).2, ZU]; subst hi0; simp [sh, vz]
theorem hz_z {m : Nat} {c b y : Vec} {n : Nat} : ∀ {k : Nat}, k <= n -> (∀ i, n - k <= i -> i < n -> b i = 0) -> hz m c b y n k = vz
 | 0, _, _ => rfl
 | k + 1, hk, h => by
  show JH (tX m c (hz m c b y n k)) (vsm (b (n - 1 - k)) y) = vz; rw [hz_z (k := k) (by omega) (fun i h1 h2 => h i (by omega) h2), h (n - 1 - k) (by omega) (by omega), tX_z]; funext i; simp [JH, vsm, vz]
theorem hz_sup {m : Nat} {c b y : Vec} {n : Nat} (hy : Sup m y) : ∀ k, Sup m (hz m c b y n k)
 | 0 => Sup.z
 | k + 1 => Sup.add Sup.tX hy.sm
theorem rep_z (p m : Nat) : List.replicate m (0 : Int) = dgi p m 0 := Q3 (by simp [JI]) fun i hi => by
 rw [Ja6, Ql (by simpa using hi), ZU]; rfl
theorem nm_z {p m : Nat} (hp : 0 < p) : nm p m vz = 0 := by rw [<- ZU p, Yt hp (Nat.pow_pos hp)]
theorem Jjz {P M : Int} {mf : LI} {p m v : Nat} (F : FV P M mf p m v) {o : LI} {x y : Nat} {Q : LI -> Prop} (ho : o.length = m) (hx : x < p ^ m) (hy : y < p ^ m) (h : Q (dgi p m (Jq p m (dv p v) x y))) : YW P M mf o (dgi p m x) (dgi p m y) Q := by
 have hp := F.p2; have hp2 := F.p256; have hm0 := F.m0; have hm8 := F.m8; obtain rfl := F.eP; obtain rfl := F.eM; have hlx := JI p m x; have hly := JI p m y; have hcx := Jdb (p := p) (by omega) x m; have hcy := Jdb (p := p) (by omega) y m; refine ⟨Jo (by omega) (by omega), fun z => ∃ k : Nat, z = k /\ k < m /\ ∀ i, k < i -> i < m -> dv p y i = 0, ⟨fun z => ∃ k : Nat, z = k /\ k < m /\ ∀ i, k < i -> i < m -> dv p y i = 0, fun z => z.toNat, ⟨m - 1, by omega, by omega, fun i h1 h2 => by omega⟩, ?_⟩, ?_⟩
 .rintro _ ⟨k, rfl, hk, hzz⟩; dsimp only; refine ⟨fun hlt => ⟨⟨by omega, by omega⟩, fun h0 => ⟨Jo (by omega) (by omega), ⟨k - 1, by omega, by omega, fun i h1 h2 => ?_⟩, by omega⟩, fun _ => ⟨k, rfl, hk, hzz⟩⟩, fun _ => ⟨k, rfl, hk, hzz⟩⟩; rw [Jy, Ql hk] at h0; by_cases hik : i = k
  .subst hik; exact h0
  .exact hzz i (by omega) h2
 .rintro _ ⟨k0, rfl, hk0, hzz⟩; refine ⟨fun l z => ∃ k : Nat, z = (m : Int) - 1 - k /\ k <= m /\ l = dgi p m (nm p m (hz m (dv p v) (dv p y) (dv p x) m k)), fun l z => (z + 1).toNat, ⟨m - 1 - k0, by omega, by omega, ?_⟩, ?_⟩
  .rw [hz_z (by omega) (fun i h1 h2 => hzz i (by omega) h2), nm_z (by omega), ho, rep_z p m]
  .rintro _ _ ⟨k, rfl, hk, rfl⟩; dsimp only; refine ⟨fun hge => Jlo F (Y6 (by omega) _) ?_, fun hlt => ?_⟩
   .have hs := hz_sup (c := dv p v) (b := dv p y) (n := m) (Qk hx) k; rw [QN (vcg.tX (vcg.refl _) (Jdc (by omega) hs))]; generalize hT : tX m (dv p v) (hz m (dv p v) (dv p y) (dv p x) m k) = T; have hnT := Y6 (p := p) (m := m) (by omega) T; refine ⟨fun l z => ∃ t : Nat, z = t /\ t <= m /\ l.length = m /\ ∀ i, i < m -> vo l i = if i < t then (T i + dv p y (m - 1 - k) * dv p x i) % (p : Int) else T i % (p : Int), fun l z => (m - z).toNat, ⟨0, rfl, Nat.zero_le _, JI _ _ _, fun i hi => by rw [if_neg (by omega), Ql hi, Jjj (by omega) _ hi]⟩, ?_⟩; rintro l _ ⟨t, rfl, ht, hl, hv⟩; dsimp only; rw [show (m : Int) - 1 - k = ((m - 1 - k : Nat) : Int) by omega, Jy, Jy, Jy, JR]; rw [hlx]; refine ⟨fun hlt => ?_, fun hge2 => ?_⟩
    .rw [hv t (by omega), if_neg (by omega), Ql (by omega), Ql (by omega)]; have c1 := hcy (m - 1 - k) (by omega); have c2 := hcx t (by omega); have c3 := YD (a := dv p y (m - 1 - k)) (b := dv p x t) hp2 ⟨c1.1, by omega⟩ ⟨c2.1, by omega⟩; have c4 : 0 <= T t % (p : Int) /\ T t % (p : Int) < p := ⟨Int.emod_nonneg _ (by omega), Int.emod_lt_of_pos _ (by omega)⟩
     refine ⟨⟨by omega, by omega⟩, ⟨by omega, by omega⟩, ⟨by omega, by omega⟩, Jo (by omega) (by omega), Jo (by omega) (by omega), by omega, ⟨by omega, by omega⟩, Jo (by omega) (by omega), ⟨t + 1, by push_cast; rfl, by omega, by rw [List.length_set, hl], fun i hi => ?_⟩, by omega⟩; rw [JQ]; by_cases hti : t = i
     .subst hti; rw [if_pos ⟨rfl, by omega⟩, if_pos (by omega), Int.tmod_eq_emod_of_nonneg (by omega)]; exact ZX (Int.emod_emod _ _) rfl
     .rw [if_neg (fun h => hti h.1), hv i hi]; by_cases hit : i < t
      .rw [if_pos hit, if_pos (by omega)]
      .rw [if_neg hit, if_neg (by omega)]
    .refine ⟨Jo (by omega) (by omega), ⟨k + 1, by omega, by omega, ?_⟩, by omega⟩; refine Zs (by omega) hl fun i hi => ?_; rw [hv i hi, if_pos (by omega)]; show _ = (JH (tX m (dv p v) (hz m (dv p v) (dv p y) (dv p x) m k)) (vsm (dv p y (m - 1 - k)) (dv p x))) i % _; rw [hT]; rfl
   .have hkm : k = m := by omega
    subst hkm; rw [hz_all]; exact h
def pwl (M : Nat -> Nat -> Nat) (x n : Nat) : LI := (List.range n).map fun k => ((pw M x k : Nat) : Int)
theorem YI (M : Nat -> Nat -> Nat) (x n : Nat) : (pwl M x n).length = n := by simp [pwl]
theorem Jbn {M : Nat -> Nat -> Nat} {x n i : Nat} (h : i < n) : vo (pwl M x n) i = ((pw M x i : Nat) : Int) := by
 unfold vo pwl; rw [List.getD_eq_getElem?_getD, List.getElem?_map, List.getElem?_range h]; rfl
theorem Jl8 (M : Nat -> Nat -> Nat) (x n : Nat) : pwl M x (n + 1) = pwl M x n ++ [((pw M x n : Nat) : Int)] := by simp [pwl, List.range_succ]
structure Od (M : Nat -> Nat -> Nat) (x n : Nat) : Prop where
  pos : 0 < n
  one : pw M x n = 1
  least : ∀ k, 0 < k -> k < n -> pw M x k ≠ 1
theorem Jls {P M : Int} {mf : LI} {p m v : Nat} (F : FV P M mf p m v) {x : Nat} {Q : LI -> Prop} (h0 : 0 < x) (hx : x < p ^ m)
  (h : ∀ n, Od (Jq p m (dv p v)) x n -> n <= p ^ m - 1 -> Q (pwl (Jq p m (dv p v)) x n)) : ZB P M mf x Q := by
 have hp := F.p2; have hp2 := F.p256; have hm0 := F.m0; have hm8 := F.m8; have hq := F.q; have R := F.ring; obtain ⟨g, G⟩ := F.gen; have hone := G.xone R h0 hx; have hq2 := R.q2; obtain rfl := F.eP; obtain rfl := F.eM; refine Jdp hp hp2 fun r hr _ => ?_; rw [Int.toNat_natCast] at hr; rw [hr hq]; refine ⟨⟨by omega, by omega, by omega⟩, by omega, _, Jbb (by omega) (by omega) (by omega) rfl, _, Jbb (by omega) (by omega) (by omega) rfl, ⟨by omega, by omega, by omega⟩, ?_⟩; refine ⟨fun l z a b => ∃ k : Nat, 0 < k /\ k <= p ^ m - 1 /\ l = pwl (Jq p m (dv p v)) x k /\ z = ((pw (Jq p m (dv p v)) x k : Nat) : Int) /\ a = dgi p m (pw (Jq p m (dv p v)) x k) /\ b.length = m /\ ∀ j, 0 < j -> j < k -> pw (Jq p m (dv p v)) x j ≠ 1, fun l z a b => 300 - l.length, ⟨1, by omega, by omega, rfl, by rw [R.pw_one hx], by rw [R.pw_one hx], by simp, fun j h1 h2 => by omega⟩, ?_⟩; rintro _ _ _ b ⟨k, hk0, hk, rfl, rfl, rfl, hb, hno⟩; dsimp only; refine ⟨fun hne => ?_, fun heq => ?_⟩
 .have hkq : k < p ^ m - 1 := by
   rcases Nat.lt_or_ge k (p ^ m - 1) with hc | hc
   .exact hc
   .have : k = p ^ m - 1 := by omega
    rw [this, hone] at hne; exact absurd rfl hne
  rw [YI]; refine ⟨by omega, ?_⟩; refine Jjz F hb (R.pw_lt x k) hx ?_; have hlt := R.pw_lt x (k + 1); refine Jdq hp hp2 (by rw [JI]; exact ZW (by omega) hlt _) (by rw [JI]; exact hq) ?_; have hvd := Jln (p := p) (m := m) (by omega) hlt; refine ⟨⟨k + 1, by omega, by omega, (Jl8 _ _ _).symm, hvd, rfl, JI _ _ _, fun j h1 h2 => ?_⟩, ?_⟩
  .by_cases hjk : j = k
   .subst hjk; intro e; rw [e] at hne; exact hne rfl
   .exact hno j h1 (by omega)
  .rw [List.length_append, YI]; simp; omega
 .refine h k ⟨hk0, ?_, hno⟩ hk; have : ((pw (Jq p m (dv p v)) x k : Nat) : Int) = 1 := by
   by_cases hc : ((pw (Jq p m (dv p v)) x k : Nat) : Int) = 1
   .exact hc
   .exact absurd hc heq
  omega
end Go.Proofs.Ytopemhgpdlbkjaa
namespace Go.Proofs.Ytopemhgpdlbkjaa
theorem gb_nat (l : List Bool) (i : Nat) : gb l (i : Int) = l.getD i false := rfl
theorem Jlz (l : List Bool) (i : Nat) (x : Bool) : sb l (i : Int) x = l.set i x := rfl
theorem YP (l : List Bool) (i j : Nat) (x : Bool) : (l.set i x).getD j false = if i = j /\ i < l.length then x else l.getD j false := by
 rw [List.getD_eq_getElem?_getD, List.getD_eq_getElem?_getD, List.getElem?_set]; by_cases h : i = j
 .subst h; by_cases h2 : i < l.length
  .simp [h2]
  .simp [h2]
 .simp [h]
theorem Joe {P M : Int} {mf : LI} {p m v : Nat} (F : FV P M mf p m v) {Q : LI -> Prop}
  (h : ∀ g, Gn (p ^ m) (Jq p m (dv p v)) g -> Q (pwl (Jq p m (dv p v)) g (p ^ m - 1))) : Jaw ⟨P, M, mf, ((p ^ m : Nat) : Int), [], [], []⟩ Q := by
 have hq := F.q; have R := F.ring; have hq2 := R.q2; obtain ⟨g0, G0⟩ := F.gen; generalize hqq : p ^ m = q at *
 generalize hMM : Jq p m (dv p v) = Mu at *
 refine ⟨⟨by show (0 : Int) <= q; omega, by show (q : Int) * 1 <= _; omega, by show (q : Int) <= _; omega⟩, ⟨by omega, by show (0 : Int) < ((((q : Nat) : Int).toNat : Nat) : Int); omega⟩, ?_⟩; refine ⟨Qf (by omega), fun i x s => s.length = q /\ s.getD 0 false = true /\ (∀ j, j < i -> ¬ Gn q Mu j) /\ ∀ j, j < q -> s.getD j false = true -> ¬ Gn q Mu j, fun x s => ∃ g, Gn q Mu g /\ x = pwl Mu g (q - 1), ?_, ?_, ?_, ?_⟩
 .have h0 : ¬ Gn q Mu 0 := fun G => by
   have := G.one; rw [R.zero_pw (by omega)] at this; omega
  dsimp only; rw [show (0 : Int) = ((0 : Nat) : Int) from rfl, Jlz]; refine ⟨by rw [List.length_set, List.length_replicate]; exact Int.toNat_natCast q, ?_, fun j hj => by omega, fun j hj hs => ?_⟩
  .rw [YP, if_pos ⟨rfl, by rw [List.length_replicate, Int.toNat_natCast]; omega⟩]
  .rw [YP] at hs; by_cases hj0 : 0 = j
   .rw [<- hj0]; exact h0
   .rw [if_neg (fun h => hj0 h.1), List.getD_eq_getElem?_getD, List.getElem?_replicate] at hs; split at hs <;> exact absurd hs (by decide)
 .rintro i hi x s ⟨hs, hs0, hno, hsn⟩; dsimp only at hi ⊢; rw [Int.toNat_natCast] at hi; rw [gb_nat]; refine ⟨⟨by omega, by rw [Int.toNat_natCast]; omega⟩, fun hb => ⟨hs, hs0, fun j hj => ?_, hsn⟩, fun hb => ?_⟩
  .by_cases hji : j = i
   .subst hji; exact hsn j hi hb
   .exact hno j (by omega)
  .have hi0 : 0 < i := by
    rcases Nat.eq_zero_or_pos i with h0 | h0
    .subst h0; rw [hs0] at hb; exact absurd hb (by decide)
    .exact h0
   refine Jls F hi0 (by rw [hqq]; exact hi) fun n O hn => ?_; rw [hMM] at O ⊢; rw [hqq] at hn; rw [YI]; refine ⟨Jo (by omega) (by omega), fun he => ?_, fun hne => ?_⟩
   .have hnq : n = q - 1 := by omega
    subst hnq; exact ⟨i, ⟨hi, O.one, O.least⟩, rfl⟩
   .have hnq : n < q - 1 := by omega
    have hnG : ∀ k, ¬ Gn q Mu (pw Mu i k) := fun k G => by
     have h1 : pw Mu (pw Mu i k) n = 1 := by rw [R.pw_pw hi, Nat.mul_comm, <- R.pw_pw hi, O.one, R.one_pw]
     exact G.no n O.pos hnq h1
    refine ⟨fun s' z => ∃ k : Nat, z = k /\ k <= n /\ s'.length = q /\ s'.getD 0 false = true /\ ∀ j, j < q -> s'.getD j false = true -> ¬ Gn q Mu j, fun s' z => (n - z).toNat, ⟨0, rfl, Nat.zero_le _, hs, hs0, hsn⟩, ?_⟩; rintro s' _ ⟨k, rfl, hk, hs', hs0', hsn'⟩; dsimp only; rw [Jy]; refine ⟨fun hlt => ?_, fun hge => ⟨hs', hs0', fun j hj => ?_, hsn'⟩⟩
    .rw [Jbn (by omega), Jlz]; have hlt2 := R.pw_lt i k; refine ⟨⟨by omega, by omega⟩, ⟨by omega, by rw [Int.toNat_natCast]; omega⟩, Jo (by omega) (by omega), ⟨k + 1, by push_cast; rfl, by omega, by rw [List.length_set, hs'], ?_, fun j hj hj2 => ?_⟩, by omega⟩
     .rw [YP]; split
      .rfl
      .exact hs0'
     .rw [YP] at hj2; by_cases hjk : pw Mu i k = j
      .rw [<- hjk]; exact hnG k
      .rw [if_neg (fun h => hjk h.1)] at hj2; exact hsn' j hj hj2
    .by_cases hji : j = i
     .subst hji; have := hnG 1
      rwa [R.pw_one hi] at this
     .exact hno j (by omega)
 .rintro x s ⟨hs, hs0, hno, hsn⟩; have := G0.lt; exact absurd G0 (hno g0 (by show g0 < ((q : Nat) : Int).toNat; rw [Int.toNat_natCast]; exact this))
 .rintro x s ⟨g, G, rfl⟩; exact h g G
structure GFk (F : GFv) (p m v g : Nat) : Prop where
  fv : FV F.P F.M F.mod p m v
  q : F.q = ((p ^ m : Nat) : Int)
  G : Gn (p ^ m) (Jq p m (dv p v)) g
  el : F.exp.length = 2 * (p ^ m - 1)
  ev : ∀ k, k < 2 * (p ^ m - 1) -> vo F.exp k = ((pw (Jq p m (dv p v)) g k : Nat) : Int)
  ll : F.log.length = p ^ m
  l0 : vo F.log 0 = -1
  lv : ∀ k, k < p ^ m - 1 -> vo F.log (pw (Jq p m (dv p v)) g k) = (k : Int)
  al : F.above.length = p ^ m - 1
  av : ∀ k, k < p ^ m - 1 -> vo F.above k = vo F.log (JZ p m (pw (Jq p m (dv p v)) g k) 1)
theorem Jj2 {p m x : Nat} (hp : 2 <= p) (hm : 0 < m) (hx : x < p ^ m) : (if x % p = p - 1 then x - x % p else x + 1) = JZ p m x 1 := by
 have hmd := Nat.mod_add_div x p; have hlt := Nat.mod_lt x (show 0 < p by omega); obtain ⟨n, rfl⟩ : ∃ n, m = n + 1 := ⟨m - 1, by omega⟩
 have hxd : x / p < p ^ n := by rw [Nat.div_lt_iff_lt_mul (by omega), <- Nat.pow_succ]; exact hx
 generalize hA : x / p = a at *
 generalize hR : x % p = r at *
 have key : ∀ y s, y = s + p * a -> s < p -> s = (r + 1) % p -> y = JZ p (n + 1) x 1 := fun y s hy hs hsr => by
  have hyd : y / p = a := by rw [hy, Nat.add_mul_div_left _ _ (by omega), Nat.div_eq_of_lt hs, Nat.zero_add]
  have hym : y % p = s := by rw [hy, Nat.add_mul_mod_self_left, Nat.mod_eq_of_lt hs]
  have hyl : y < p ^ (n + 1) := by
   have h1 : p * (a + 1) <= p * p ^ n := Nat.mul_le_mul_left p hxd; rw [Nat.pow_succ', hy]; rw [Nat.mul_add, Nat.mul_one] at h1; omega
  refine (nm_eq (by omega) hyl fun i hi => ?_).symm; cases i with
  | zero =>
   simp only [JH]; rw [QW, QW, QW, hym, hR, Nat.mod_eq_of_lt (show 1 < p by omega), hsr]; push_cast; rfl
  | succ i =>
   simp only [JH]; rw [Yn, Yn, Yn, hyd, hA, Nat.div_eq_of_lt (show 1 < p by omega), ZU]; simp only [vz]; rw [Int.add_zero, Zc]
 by_cases hc : r = p - 1
 .rw [if_pos hc]; refine key (x - r) 0 (by omega) (by omega) ?_; rw [hc, show p - 1 + 1 = p by omega, Nat.mod_self]
 .rw [if_neg hc]; exact key (x + 1) (r + 1) (by omega) (by omega) (Nat.mod_eq_of_lt (by omega)).symm
theorem vo_app {a b : LI} {i : Nat} : vo (a ++ b) i = if i < a.length then vo a i else vo b (i - a.length) := by
 unfold vo; rw [List.getD_eq_getElem?_getD]; split
 .rename_i h
  rw [List.getElem?_append_left h, List.getD_eq_getElem?_getD]
 .rename_i h
  rw [List.getElem?_append_right (by omega), List.getD_eq_getElem?_getD]
theorem v_New {P M : Int} {mf : LI} {Q : Option GFv × Int -> Prop} (hno : ¬ Jae P M mf -> Q (none, 1)) (h : ∀ (F : GFv) (p m v g : Nat), GFk F p m v g -> F.P = P -> F.M = M -> F.mod = mf -> Q (some F, 0)) : Jjv P M mf Q := by
 refine Joh ?_; by_cases hV : Jae P M mf
 .rw [Jb9 hV]; refine ⟨fun h1 => absurd rfl h1, fun _ => ?_⟩; obtain ⟨p, m, v, F⟩ := hV; obtain rfl := F.eP; obtain rfl := F.eM; have hp := F.p2; have hp2 := F.p256; have hm0 := F.m0; have hm8 := F.m8; have hq := F.q; have R := F.ring; have hq2 := R.q2; have hml : mf.length <= 1000000 := by
   by_cases hm1 : m = 1
   .rw [(F.m1 hm1).1]; simp
   .rw [F.m2 hm1, JI]; omega
  have hJ : Yg p m mf (fun q => match q with | (r27, r28, x29) => Yr p m mf (fun r34 => r27 = p /\ r28 = m /\ x29 = mf /\ r34 = ((p ^ m : Nat) : Int))) := Jam hml (Jdp hp hp2 fun r hr _ => by
   rw [Int.toNat_natCast] at hr; exact ⟨rfl, rfl, rfl, hr hq⟩)
  refine ⟨fun a b c d => a = p /\ b = m /\ c = mf /\ d = ((p ^ m : Nat) : Int), hJ, ?_⟩; rintro _ _ _ _ ⟨rfl, rfl, rfl, rfl⟩; refine Joe F fun g G => ?_; have hg := G.lt; generalize hqq : p ^ m = q at *
  generalize hMM : Jq p m (dv p v) = Mu at *
  rw [YI]; have hql : (List.replicate ((q : Nat) : Int).toNat (0 : Int)).length = q := by rw [List.length_replicate, Int.toNat_natCast]
  rw [Int.toNat_natCast, Int.toNat_natCast]; rw [Int.toNat_natCast] at hql; refine ⟨⟨by omega, by omega, by omega⟩, ⟨by omega, by omega, by omega⟩, ⟨by omega, by omega⟩, ?_⟩; refine ⟨fun l z => ∃ k : Nat, z = k /\ k <= q - 1 /\ l.length = q /\ vo l 0 = -1 /\ ∀ t, t < k -> vo l (pw Mu g t) = (t : Int), fun l z => (q - z).toNat, ⟨0, rfl, Nat.zero_le _, ?_, ?_, fun t ht => by omega⟩, ?_⟩
  .rw [show (0 : Int) = ((0 : Nat) : Int) from rfl, JR, List.length_set]; exact hql
  .rw [show si (List.replicate q (0 : Int)) 0 (-1) = (List.replicate q (0 : Int)).set 0 (-1) from rfl, JQ, if_pos ⟨rfl, by rw [hql]; omega⟩]
  .rintro l _ ⟨k, rfl, hk, hl, hl0, hlv⟩; dsimp only; rw [Jy]; refine ⟨fun hlt => ?_, fun hge => ?_⟩
   .rw [Jbn (by omega), JR]; have hlt2 := R.pw_lt g k; refine ⟨⟨by omega, by omega⟩, ⟨by omega, by omega⟩, Jo (by omega) (by omega), ⟨k + 1, by push_cast; rfl, by omega, by rw [List.length_set, hl], ?_, fun t ht => ?_⟩, by omega⟩
    .rw [JQ, if_neg (fun h => G.ne0 R k h.1)]; exact hl0
    .rw [JQ]; by_cases htk : t = k
     .subst htk; rw [if_pos ⟨rfl, by rw [hl]; exact hlt2⟩]
     .rw [if_neg (fun h => G.inj R (show t < k by omega) (by omega) h.1.symm)]; exact hlv t (by omega)
   .have hkq : k = q - 1 := by omega
    subst hkq; refine ⟨⟨by omega, by omega, by omega⟩, fun a z => ∃ k : Nat, z = k /\ k <= q - 1 /\ a.length = q - 1 /\ ∀ t, t < k -> vo a t = vo l (JZ p m (pw Mu g t) 1), fun a z => (q - z).toNat, ⟨0, rfl, Nat.zero_le _, by simp, fun t ht => by omega⟩, ?_⟩; rintro a _ ⟨k, rfl, hk, hal, hav⟩; dsimp only; rw [Jy]; refine ⟨fun hlt => ?_, fun hge => ?_⟩
    .rw [Jbn (by omega)]; have hlt2 := R.pw_lt g k; have hsl := R.Al (pw Mu g k) 1; have hsf := Jj2 hp hm0 (x := pw Mu g k) (by rw [hqq]; exact hlt2); refine ⟨⟨by omega, by omega⟩, _, Jes hp hp2 (by omega) rfl, ?_⟩; rw [hsf, Jy, JR]; refine ⟨⟨by omega, by omega⟩, ⟨by omega, by omega⟩, Jo (by omega) (by omega), ⟨k + 1, by push_cast; rfl, by omega, by rw [List.length_set, hal], fun t ht => ?_⟩, by omega⟩; rw [JQ]; by_cases htk : k = t
     .subst htk; rw [if_pos ⟨rfl, by omega⟩]
     .rw [if_neg (fun h => htk h.1)]; exact hav t (by omega)
    .have hkq : k = q - 1 := by omega
     subst hkq; subst hMM; subst hqq; refine h _ p m v g ⟨F, rfl, G, ?_, fun k hk2 => ?_, hl, hl0, hlv, hal, hav⟩ rfl rfl rfl
     .simp only [List.length_append, YI]; omega
     .show vo (pwl _ g _ ++ pwl _ g _) k = _; rw [vo_app, YI]; by_cases hkl : k < p ^ m - 1
      .rw [if_pos hkl, Jbn hkl]
      .rw [if_neg hkl, Jbn (by omega)]; have := G.per R (k - (p ^ m - 1)) 1; rw [Nat.mul_one, show k - (p ^ m - 1) + (p ^ m - 1) = k by omega] at this; rw [this]
 .rw [Qx hV]; exact ⟨fun _ => hno hV, fun h1 => absurd (show (1 : Int) ≠ 0 by decide) h1⟩
end Go.Proofs.Ytopemhgpdlbkjaa
namespace Go.Proofs.Ytopemhgpdlbkjaa
def inE (q : Nat) (x : Int) : Nat := if 0 <= x /\ x < q then x.toNat else 0
theorem JU {q : Nat} (hq : 0 < q) (x : Int) : inE q x < q := by unfold inE; split <;> omega
theorem J4 {q x : Nat} (h : x < q) : inE q (x : Int) = x := by unfold inE; rw [if_pos (by omega)]; rfl
section
variable {P M : Int} {mf : LI} {p m v : Nat}
theorem FV.ord (F : FV P M mf p m v) : Jcn P M = ((p ^ m : Nat) : Int) := by
 rw [F.eP, F.eM, Jcn, if_pos]
 .simp
 .have := F.p2; have := F.m0; have := F.q; exact ⟨by omega, by omega, by simpa using this⟩
theorem FV.i64 (F : FV P M mf p m v) : I64 P := by
 have := F.p256; rw [F.eP]; exact Jo (by omega) (by omega)
theorem v_rIs (F : FV P M mf p m v) {x : Int} {Q : Bool -> Prop} (h : Q (decide (0 <= x /\ x < ((p ^ m : Nat) : Int)))) : Jjt P M mf x Q := by
 refine ⟨fun h0 => Zk ?_, fun h0 => ?_⟩
 .rw [F.ord]; simpa [h0] using h
 .simpa [h0] using h
theorem Jcx (F : FV P M mf p m v) {x : Int} {Q : Int -> Prop} (h : Q ((inE (p ^ m) x : Nat) : Int)) : Yu P M mf x Q := by
 refine v_rIs F ⟨fun hb => ?_, fun hb => ?_⟩
 .have hb := of_decide_eq_true hb; unfold inE at h; rw [if_pos hb] at h
  rwa [Int.toNat_of_nonneg hb.1] at h
 .have hb := of_decide_eq_false hb; unfold inE at h; rw [if_neg hb] at h; exact h
theorem Q6 (F : FV P M mf p m v) {x : Int} {Q : LI -> Prop} (h : Q (dgi p m (inE (p ^ m) x))) : Qp P M mf x Q := by
 have hp := F.p2; have hq := F.q; have hm8 := F.m8; have hlt := JU F.ring.pos x; refine ⟨_, Jcx F rfl, _, ?_, h⟩; rw [F.eP, F.eM]; exact Jcw (by omega) (by omega) (by omega) rfl
theorem Jgs (F : FV P M mf p m v) {l : LI} {u : Vec} {Q : Int -> Prop} (hl : l.length = m) (hv : ∀ i, i < m -> vo l i = u i % (p : Int)) (h : Q ((nm p m u : Nat) : Int)) : QR P M mf l Q := by
 have hp := F.p2; rw [Zs (by omega) hl hv, F.eP]; have hlt := Y6 (p := p) (m := m) (by omega) u; refine Jlq hp F.p256 (by rw [JI]; have := F.m8; omega) (by rw [JI]; exact ZW (by omega) hlt _) (by rw [JI]; exact F.q) ?_; rw [Jln (by omega) hlt]; exact h
theorem v_rAdd (F : FV P M mf p m v) {x y : Int} {Q : Int -> Prop} (h : Q ((JZ p m (inE (p ^ m) x) (inE (p ^ m) y) : Nat) : Int)) : Zf P M mf x y Q := by
 have hp := F.p2; have hp2 := F.p256; have hm8 := F.m8; have hx := JU F.ring.pos x; have hy := JU F.ring.pos y; refine Q6 F (Q6 F ?_); generalize inE (p ^ m) x = a at *
 generalize inE (p ^ m) y = b at *
 have hla := JI p m a; have hlb := JI p m b; rw [hla]; refine ⟨fun l z => ∃ k : Nat, z = k /\ k <= m /\ l.length = m /\ ∀ i, i < m -> vo l i = if i < k then (JH (dv p a) (dv p b)) i % (p : Int) else dv p a i, fun l z => (m - z).toNat, ⟨0, rfl, Nat.zero_le _, hla, fun i hi => by rw [if_neg (by omega), Ql hi]⟩, ?_⟩; rintro l _ ⟨k, rfl, hk, hl, hv⟩; dsimp only; rw [Jy, Jy, JR]; refine ⟨fun hlt => ?_, fun hge => Jgs F hl (fun i hi => by rw [hv i hi, if_pos (by omega)]) h⟩; rw [hv k (by omega), if_neg (by omega), Ql (by omega)]; have c1 := Jb7 (p := p) (by omega) a k; have c2 := Jb7 (p := p) (by omega) b k; refine ⟨⟨by omega, by omega⟩, ⟨by omega, by omega⟩, Jo (by omega) (by omega), by rw [F.eP]; omega, ⟨by omega, by omega⟩, Jo (by omega) (by omega), ⟨k + 1, by push_cast; rfl, by omega, by rw [List.length_set, hl], fun i hi => ?_⟩, by omega⟩; rw [JQ]; by_cases hki : k = i
 .subst hki; rw [if_pos ⟨rfl, by omega⟩, if_pos (by omega), F.eP, Int.tmod_eq_emod_of_nonneg (by omega)]; rfl
 .rw [if_neg (fun h => hki h.1), hv i hi]; by_cases hik : i < k
  .rw [if_pos hik, if_pos (by omega)]
  .rw [if_neg hik, if_neg (by omega)]
theorem v_rNeg (F : FV P M mf p m v) {x : Int} {Q : Int -> Prop} (h : Q ((Jcq p m (inE (p ^ m) x) : Nat) : Int)) : Z1 P M mf x Q := by
 have hp := F.p2; have hp2 := F.p256; have hm8 := F.m8; have hx := JU F.ring.pos x; refine Q6 F ?_; generalize inE (p ^ m) x = a at *
 have hla := JI p m a; rw [hla]; refine ⟨fun l z => ∃ k : Nat, z = k /\ k <= m /\ l.length = m /\ ∀ i, i < m -> vo l i = if i < k then (vsm (-1) (dv p a)) i % (p : Int) else dv p a i, fun l z => (m - z).toNat, ⟨0, rfl, Nat.zero_le _, hla, fun i hi => by rw [if_neg (by omega), Ql hi]⟩, ?_⟩; rintro l _ ⟨k, rfl, hk, hl, hv⟩; dsimp only; rw [Jy, JR]; refine ⟨fun hlt => ?_, fun hge => Jgs F hl (fun i hi => by rw [hv i hi, if_pos (by omega)]) h⟩; rw [hv k (by omega), if_neg (by omega)]; have c1 := Jb7 (p := p) (by omega) a k; rw [F.eP]; refine ⟨⟨by omega, by omega⟩, Jo (by omega) (by omega), by omega, ⟨by omega, by omega⟩, Jo (by omega) (by omega), ⟨k + 1, by push_cast; rfl, by omega, by rw [List.length_set, hl], fun i hi => ?_⟩, by omega⟩; rw [JQ]; by_cases hki : k = i
 .subst hki; rw [if_pos ⟨rfl, by omega⟩, if_pos (by omega), Int.tmod_eq_emod_of_nonneg (by omega)]; show _ = (-1 * dv p a k) % (p : Int); rw [show (p : Int) - dv p a k = -1 * dv p a k + p * 1 by omega, Int.add_mul_emod_self_left]
 .rw [if_neg (fun h => hki h.1), hv i hi]; by_cases hik : i < k
  .rw [if_pos hik, if_pos (by omega)]
  .rw [if_neg hik, if_neg (by omega)]
end
theorem Jd1 {p m : Nat} {c w w' u : Vec} {s : Int} {k : Nat} (hk : w' k % (p : Int) = (w k + s) % (p : Int)) (ho : ∀ i, i ≠ k -> w' i = w i) : ∀ n, vcg p (opr m c w' n u) (JH (opr m c w n u) (if k < n then vsm s (tXn m c k u) else vz))
  | 0 => fun i => by simp [opr, JH, vz]
  | n + 1 => fun i => by
    have ih := Jd1 hk ho (m := m) (c := c) (u := u) n i
    show (opr m c w' n u i + w' n * tXn m c n u i) % (p : Int) = ((opr m c w n u i + w n * tXn m c n u i) + (if k < n + 1 then vsm s (tXn m c k u) else vz) i) % (p : Int)
    rcases Nat.lt_trichotomy k n with h | h | h
    . rw [if_pos (by omega)]
      rw [if_pos h] at ih
      rw [ho n (by omega)]
      have := ZX ih (rfl : (w n * tXn m c n u i) % (p : Int) = _)
      rw [this]
      congr 1
      show opr m c w n u i + (vsm s (tXn m c k u)) i + _ = _
      omega
    . subst h
      rw [if_pos (by omega)]
      rw [if_neg (by omega)] at ih
      have := ZX ih (ZO hk (rfl : (tXn m c k u i) % (p : Int) = _))
      rw [this]
      congr 1
      show opr m c w k u i + 0 + (w k + s) * tXn m c k u i = _ + s * tXn m c k u i
      rw [Int.add_mul]; omega
    . rw [if_neg (by omega)]
      rw [if_neg (by omega)] at ih
      rw [ho n (by omega)]
      have := ZX ih (rfl : (w n * tXn m c n u i) % (p : Int) = _)
      rw [this]
      congr 1
      show opr m c w n u i + 0 + _ = _ + 0
      omega
theorem Xm {m : Nat} {c : Vec} (hm : 0 < m) : tXn m c m e0 = vsm (-1) (opr m c c m e0) := by
 obtain ⟨n, rfl⟩ : ∃ n, m = n + 1 := ⟨m - 1, by omega⟩
 show tX (n + 1) c (tXn (n + 1) c n e0) = _; rw [Jgu (by omega)]; funext i; simp only [vsm]; rw [Jd2 (Nat.le_refl _)]; simp only [tX, vei]; by_cases hi : i < n + 1
 .rw [if_pos hi, if_pos hi]; have e1 : (if i = 0 then (0 : Int) else if i - 1 = n then 1 else 0) = 0 := by
   split
   .rfl
   .rw [if_neg (by omega)]
  rw [e1, show n + 1 - 1 = n by omega, if_pos rfl]; omega
 .rw [if_neg hi, if_neg hi]; rfl
section
variable {P M : Int} {mf : LI} {p m v : Nat}
theorem Jlr (F : FV P M mf p m v) {x y : Int} {Q : Int -> Prop} (h : Q ((Jq p m (dv p v) (inE (p ^ m) x) (inE (p ^ m) y) : Nat) : Int)) : QT P M mf x y Q := by
 have hp := F.p2; have hp2 := F.p256; have hm0 := F.m0; have hm8 := F.m8; have hx := JU F.ring.pos x; have hy := JU F.ring.pos y; refine Q6 F (Q6 F ?_); obtain rfl := F.eP; obtain rfl := F.eM; generalize inE (p ^ m) x = a at *
 generalize inE (p ^ m) y = b at *
 rw [ZR hx hy] at h; have hla := JI p m a; have hlb := JI p m b; have hva := Q4 hx; have hvb := Q4 hy; have hsa := Qk hx; have hsb := Qk hy; have hN : (2 * (m : Int) - 1).toNat = 2 * m - 1 := by omega
 have e2 : (2 * (m : Int) - 1) = ((2 * m - 1 : Nat) : Int) := by omega
 rw [e2]; generalize hNN : 2 * m - 1 = N at *
 rw [Int.toNat_natCast]; have hself := Q8 (c := dv p v) hsb; refine ⟨Jo (by omega) (by omega), Qf (by omega), ⟨by omega, by omega, by omega⟩, ?_⟩; refine ⟨fun l z => ∃ k : Nat, z = k /\ k <= m /\ l.length = N /\ Cn p N (vo l) /\ vcg p (opr m (dv p v) (vo l) N e0) (opr m (dv p v) (dv p a) k (dv p b)), fun l z => (m - z).toNat, ⟨0, rfl, Nat.zero_le _, by simp, fun i hi => by rw [Ja6]; omega, ?_⟩, ?_⟩
 .have : vo (List.replicate N (0 : Int)) = vz := by funext i; rw [Ja6]; rfl
  rw [this]; have h0 : ∀ n, opr m (dv p v) vz n e0 = vz := fun n => by
   induction n with
   | zero => rfl
   | succ n ih => show JH (opr m (dv p v) vz n e0) (vsm (vz n) _) = vz; rw [ih]; funext i; simp [JH, vsm, vz]
  rw [h0]; exact vcg.refl _
 rintro l _ ⟨i, rfl, hi, hl, hcn, hE⟩; dsimp only; refine ⟨fun hlt => ?_, fun hge => ?_⟩
 .refine ⟨fun r z => ∃ j : Nat, z = j /\ j <= m /\ r.length = N /\ Cn p N (vo r) /\ vcg p (opr m (dv p v) (vo r) N e0) (JH (opr m (dv p v) (dv p a) i (dv p b)) (vsm (dv p a i) (tXn m (dv p v) i (opr m (dv p v) (dv p b) j e0)))), fun r z => (m - z).toNat, ⟨0, rfl, Nat.zero_le _, hl, hcn, ?_⟩, ?_⟩
  .show vcg p _ (JH _ (vsm _ (tXn m (dv p v) i vz))); rw [Jev, Jie, Y8]; exact hE
  rintro r _ ⟨j, rfl, hj, hr, hcr, hEr⟩; dsimp only; rw [show (i : Int) + (j : Int) = ((i + j : Nat) : Int) by push_cast; rfl, Jy, Jy, Jy, JR, hva, hvb]; refine ⟨fun hltj => ?_, fun hgej => ?_⟩
  .have c1 := Jb7 (p := p) (by omega) a i; have c2 := Jb7 (p := p) (by omega) b j; have c3 := hcr (i + j) (by omega); have c4 := YD (a := dv p a i) (b := dv p b j) hp2 ⟨c1.1, by omega⟩ ⟨c2.1, by omega⟩; refine ⟨Qf (by omega), Qf (by omega), ⟨by omega, by omega⟩, ⟨by omega, by omega⟩, ⟨by omega, by omega⟩, Jo (by omega) (by omega), Jo (by omega) (by omega), by omega, ⟨by omega, by omega⟩, Jo (by omega) (by omega), ⟨j + 1, by push_cast; rfl, by omega, by rw [List.length_set, hr], fun t ht => ?_, ?_⟩, by omega⟩
   .rw [JQ]; split
    .rw [Int.tmod_eq_emod_of_nonneg (by omega)]; exact ⟨Int.emod_nonneg _ (by omega), Int.emod_lt_of_pos _ (by omega)⟩
    .exact hcr t ht
   .have hup := Jd1 (p := p) (m := m) (c := dv p v) (w := vo r) (w' := vo (r.set (i + j) ((vo r (i + j) + dv p a i * dv p b j).tmod p))) (u := e0) (s := dv p a i * dv p b j) (k := i + j) (by
     rw [JQ, if_pos ⟨rfl, by omega⟩, Int.tmod_eq_emod_of_nonneg (by omega), Int.emod_emod]) (fun t ht => by rw [JQ, if_neg (fun h => ht h.1.symm)]) N
    rw [if_pos (by omega)] at hup; refine hup.trans ((hEr.add (vcg.refl _)).trans ?_); show vcg p _ (JH _ (vsm _ (tXn m (dv p v) i (JH (opr m (dv p v) (dv p b) j e0) (vsm (dv p b j) (tXn m (dv p v) j e0)))))); rw [Zl, ZG, Jan, Jai, Jdn, <- Yh]; exact vcg.refl _
  .have hjm : j = m := by omega
   subst hjm; rw [hself] at hEr; exact ⟨Jo (by omega) (by omega), ⟨i + 1, by push_cast; rfl, by omega, hr, hcr, hEr⟩, by omega⟩
 .have him : i = m := by omega
  subst him; have hE2 : vcg p (opr i (dv p v) (vo l) N e0) (Qy i (dv p v) (dv p b) (dv p a)) := hE; refine ⟨Jo (by omega) (by omega), Jo (by omega) (by omega), ?_⟩; refine ⟨fun r z => ∃ t : Nat, z = (t : Int) - 1 /\ i <= t /\ t <= N /\ r.length = N /\ Cn p N (vo r) /\ vcg p (opr i (dv p v) (vo r) t e0) (Qy i (dv p v) (dv p b) (dv p a)), fun r z => (z + 1).toNat, ⟨N, by omega, by omega, by omega, hl, hcn, hE2⟩, ?_⟩; rintro r _ ⟨t, rfl, hit, htN, hr, hcr, hEr⟩; dsimp only; refine ⟨fun hle => ?_, fun hgt => ?_⟩
  .obtain ⟨k, rfl⟩ : ∃ k, t = k + 1 := ⟨t - 1, by omega⟩
   have ek : ((k + 1 : Nat) : Int) - 1 = (k : Int) := by omega
   rw [ek] at hle ⊢; have hm1 : i ≠ 1 := by omega
   have hmf : vo mf = dv p v := F.vo; have hml : mf.length = i := (F.cn hm1).1; have hwk := hcr k (by omega); refine ⟨fun s z => ∃ j : Nat, z = j /\ j <= i /\ s.length = N /\ Cn p N (vo s) /\ vo s k = vo r k /\ vcg p (opr i (dv p v) (vo s) k e0) (JH (opr i (dv p v) (vo r) k e0) (vsm (-(vo r k)) (tXn i (dv p v) (k - i) (opr i (dv p v) (dv p v) j e0)))), fun s z => (i - z).toNat, ⟨0, rfl, Nat.zero_le _, hr, hcr, rfl, ?_⟩, ?_⟩
   .show vcg p _ (JH _ (vsm _ (tXn i (dv p v) (k - i) vz))); rw [Jev, Jie, Y8]; exact vcg.refl _
   rintro s _ ⟨j, rfl, hj, hs, hcs, hsk, hEs⟩; dsimp only; rw [show (k : Int) - (i : Int) + (j : Int) = ((k - i + j : Nat) : Int) by omega, Jy, Jy, Jy, JR, hmf, hsk]; refine ⟨fun hltj => ?_, fun hgej => ?_⟩
   .have c1 := Jb7 (p := p) (by omega) v j; have c3 := hcs (k - i + j) (by omega); have c4 := YD (a := (p : Int) - vo r k) (b := dv p v j) hp2 ⟨by omega, by omega⟩ ⟨c1.1, by omega⟩; refine ⟨Jo (by omega) (by omega), Qf (by omega), Jo (by omega) (by omega), Qf (by omega), ⟨by omega, by omega⟩, ⟨by omega, by omega⟩, Jo (by omega) (by omega), ⟨by omega, by omega⟩, Jo (by omega) (by omega), Jo (by omega) (by omega), by omega, ⟨by omega, by omega⟩, Jo (by omega) (by omega), ⟨j + 1, by push_cast; rfl, by omega, by rw [List.length_set, hs], fun u hu => ?_, ?_, ?_⟩, by omega⟩
    .rw [JQ]; split
     .rw [Int.tmod_eq_emod_of_nonneg (by omega)]; exact ⟨Int.emod_nonneg _ (by omega), Int.emod_lt_of_pos _ (by omega)⟩
     .exact hcs u hu
    .rw [JQ, if_neg (by omega)]; exact hsk
    .have hup := Jd1 (p := p) (m := i) (c := dv p v) (w := vo s) (w' := vo (s.set (k - i + j) ((vo s (k - i + j) + ((p : Int) - vo r k) * dv p v j).tmod p))) (u := e0) (s := -(vo r k) * dv p v j) (k := k - i + j) (by
      rw [JQ, if_pos ⟨rfl, by omega⟩, Jdx (by omega) c3.1 (by omega) c1.1, Int.emod_emod, Int.neg_mul]; rfl) (fun t ht => by rw [JQ, if_neg (fun h => ht h.1.symm)]) k
     rw [if_pos (by omega)] at hup; refine hup.trans ((hEs.add (vcg.refl _)).trans ?_); show vcg p _ (JH _ (vsm _ (tXn i (dv p v) (k - i) (JH (opr i (dv p v) (dv p v) j e0) (vsm (dv p v j) (tXn i (dv p v) j e0)))))); rw [Zl, ZG, Jan, Jai, Jdn, <- Yh]; exact vcg.refl _
   .have hji : j = i := by omega
    subst hji; refine ⟨Jo (by omega) (by omega), ⟨k, by omega, by omega, by omega, hs, hcs, ?_⟩, by omega⟩; refine hEs.trans (vcg.trans ?_ hEr); show vcg p _ (JH (opr j (dv p v) (vo r) k e0) (vsm (vo r k) (tXn j (dv p v) k e0))); have e1 : tXn j (dv p v) k e0 = tXn j (dv p v) (k - j) (tXn j (dv p v) j e0) := by rw [Jan, show k - j + j = k by omega]
    rw [e1, Xm hm0, ZG, Jdn, show vo r k * -1 = -(vo r k) by omega]; exact vcg.refl _
  .have hti : t = i := by omega
   subst hti; refine ⟨⟨by omega, by omega⟩, _, Jgs F (u := opr t (dv p v) (vo r) t e0) ?_ (fun j hj => ?_) rfl, ?_⟩
   .rw [List.length_take, Int.toNat_natCast, hr]; omega
   .rw [Int.toNat_natCast, Jdt hj, Jd2 (Nat.le_refl _), if_pos hj]; have := hcr j (by omega); exact (Int.emod_eq_of_lt this.1 this.2).symm
   .rw [QN hEr]; exact h
theorem modk {n k : Int} (hk : 0 < k) : (n.tmod k + k).tmod k = n % k := by
 have h1 := Int.tmod_lt_of_pos n hk; have h2 : -k < n.tmod k := by
  have := Int.lt_tmod_of_pos n hk; omega
 rw [Int.tmod_eq_emod_of_nonneg (by omega)]; have h3 := Int.mul_tdiv_add_tmod n k; have : n = n.tmod k + k * (n.tdiv k) := by omega
 rw [show n.tmod k + k = n.tmod k + k * 1 by omega, Int.add_mul_emod_self_left]
 conv => rhs; rw [this, Int.add_mul_emod_self_left]
theorem v_rPow (F : FV P M mf p m v) {x n : Int} {Q : Int × Int -> Prop} (h0 : inE (p ^ m) x = 0 -> Q (if n = 0 then (1, 0) else if n < 0 then (0, 7) else (0, 0)))
  (h1 : inE (p ^ m) x ≠ 0 -> Q (((pw (Jq p m (dv p v)) (inE (p ^ m) x) (n % (((p ^ m : Nat) : Int) - 1)).toNat : Nat) : Int), 0)) (hn : I64 n) : Jcf P M mf x n Q := by
 have hq := F.q; have R := F.ring; have hq2 := R.q2; have hlt := JU R.pos x; refine Jcx F ⟨fun hn0 => ?_, fun hn0 => ⟨fun hz => ⟨fun hneg => ?_, fun hpos => ?_⟩, fun hz => Zk ?_⟩⟩
 .by_cases hz : inE (p ^ m) x = 0
  .have := h0 hz; rwa [if_pos hn0] at this
  .have := h1 hz; rw [hn0, Int.zero_emod] at this; exact this
 .have := h0 (by omega); rwa [if_neg hn0, if_pos hneg] at this
 .have := h0 (by omega); rwa [if_neg hn0, if_neg hpos] at this
 .rw [F.ord]; have h1 := h1 (by omega); generalize inE (p ^ m) x = a at *
  generalize hqq : p ^ m = q at *
  have hk : (0 : Int) < (q : Int) - 1 := by omega
  have t1 := Int.tmod_lt_of_pos n hk; have t2 := Int.lt_tmod_of_pos n hk; have e1 := Int.emod_nonneg n (show (q : Int) - 1 ≠ 0 by omega); have e2 := Int.emod_lt_of_pos n hk; rw [modk hk]; refine ⟨Jo (by omega) (by omega), by omega, Jo (by omega) (by omega), by omega, ?_⟩; obtain ⟨e, he⟩ := Int.eq_ofNat_of_zero_le e1; rw [he] at h1 ⊢; rw [Int.toNat_natCast] at h1; refine ⟨fun z i => ∃ k : Nat, i = k /\ k <= e /\ z = ((pw (Jq p m (dv p v)) a k : Nat) : Int), fun z i => (e - i).toNat, ⟨0, rfl, Nat.zero_le _, rfl⟩, ?_⟩; rintro _ _ ⟨k, rfl, hk2, rfl⟩; dsimp only; refine ⟨fun hltk => Jlr F ?_, fun hge => ?_⟩
  .rw [hqq, J4 (R.pw_lt a k), J4 hlt]; exact ⟨Jo (by omega) (by omega), ⟨k + 1, by push_cast; rfl, by omega, rfl⟩, by omega⟩
  .rw [show k = e by omega]; exact h1
end
end Go.Proofs.Ytopemhgpdlbkjaa
namespace Go.Proofs.Ytopemhgpdlbkjaa
section
variable {F : GFv} {p m v g : Nat}
theorem v_Is {x : Int} {Q : Bool -> Prop} (K : GFk F p m v g) (h : Q (decide (0 <= x /\ x < ((p ^ m : Nat) : Int)))) : V_Is F x Q := by
 refine ⟨fun h0 => ?_, fun h0 => ?_⟩
 .rw [K.q]; simpa [h0] using h
 .simpa [h0] using h
theorem Ja9 {x : Int} {Q : Bool -> Prop} (K : GFk F p m v g) (h : Q (decide (inE (p ^ m) x ≠ 0))) : Yc F x Q := by
 unfold inE at h; refine ⟨fun h0 => ?_, fun h0 => ?_⟩
 .rw [K.q]; by_cases hx : x < ((p ^ m : Nat) : Int)
  .rw [if_pos ⟨by omega, hx⟩] at h; rw [decide_eq_true hx]; rw [decide_eq_true (by omega)] at h; exact h
  .rw [if_neg (by omega)] at h; rw [decide_eq_false hx]; exact h
 .by_cases hx : 0 <= x /\ x < ((p ^ m : Nat) : Int)
  .rw [if_pos hx] at h; rw [decide_eq_false (by omega)] at h; exact h
  .rw [if_neg hx] at h; exact h
theorem Jcy {x : Int} {Q : Int -> Prop} (K : GFk F p m v g) (h : Q ((inE (p ^ m) x : Nat) : Int)) : Yd F x Q := by
 refine v_Is K ⟨fun hb => ?_, fun hb => ?_⟩
 .have hb := of_decide_eq_true hb; unfold inE at h; rw [if_pos hb, Int.toNat_of_nonneg hb.1] at h; exact h
 .have hb := of_decide_eq_false hb; unfold inE at h; rw [if_neg hb] at h; exact h
theorem Jmx {q : Nat} {x : Int} (h : inE q x ≠ 0) : x = ((inE q x : Nat) : Int) := by
 unfold inE at h ⊢; split
 .rename_i hc; exact (Int.toNat_of_nonneg hc.1).symm
 .rename_i hc; rw [if_neg hc] at h; exact absurd rfl h
theorem GFk.lg (K : GFk F p m v g) {x : Int} (h : inE (p ^ m) x ≠ 0) : ∃ a : Nat, a < p ^ m - 1 /\ inE (p ^ m) x = pw (Jq p m (dv p v)) g a /\ gi F.log x = (a : Int) /\ (0 <= x /\ x < (F.log.length : Nat)) := by
  have R := K.fv.ring
  have hlt := JU R.pos x
  obtain ⟨a, ha, he⟩ := K.G.surj R (Nat.pos_of_ne_zero h) hlt
  have hx := Jmx h
  refine ⟨a, ha, he.symm, ?_, ?_⟩
  . rw [hx, <- he, Jy, K.lv a ha]
  . rw [K.ll]; omega
theorem v_Mul {x y : Int} {Q : Int -> Prop} (K : GFk F p m v g) (h : Q ((Jq p m (dv p v) (inE (p ^ m) x) (inE (p ^ m) y) : Nat) : Int)) : Jdg F x y Q := by
 have R := K.fv.ring; have hq := K.fv.q; have hx := JU R.pos x; have hy := JU R.pos y; refine Ja9 K ⟨fun hb => ?_, fun hb => Ja9 K ⟨fun hb2 => ?_, fun hb2 => ?_⟩⟩
 .have h0 : inE (p ^ m) x = 0 := by simpa using hb
  rw [h0, R.Z0 hy] at h; exact h
 .have h0 : inE (p ^ m) y = 0 := by simpa using hb2
  rw [h0, R.M0 hx] at h; exact h
 .obtain ⟨a, ha, ea, la, bx⟩ := K.lg (x := x) (by simpa using hb); obtain ⟨b, hb', eb, lb, by_⟩ := K.lg (x := y) (by simpa using hb2); rw [la, lb]; have hel := K.el; refine ⟨bx, by_, Jo (by omega) (by omega), ⟨by omega, by omega⟩, ?_⟩; rw [show (a : Int) + (b : Int) = ((a + b : Nat) : Int) by push_cast; rfl, Jy, K.ev _ (by omega), R.pw_add K.G.lt, <- ea, <- eb]; exact h
theorem mul_neg {p m : Nat} {c : Vec} {x : Nat} (hp : 2 <= p) (hm : 0 < m) (hx : x < p ^ m) : Jq p m c (p - 1) x = Jcq p m x := by
 unfold Jq Jcq; have hd : vcg p (dv p (p - 1)) (vsm (-1) e0) := fun i => by
  cases i with
  | zero =>
   rw [QW, Nat.mod_eq_of_lt (by omega)]; show ((p - 1 : Nat) : Int) % p = (-1 * 1) % p; rw [show ((p - 1 : Nat) : Int) = -1 * 1 + p * 1 by omega, Int.add_mul_emod_self_left]
  | succ i =>
   rw [Yn, Nat.div_eq_of_lt (by omega), ZU]; simp [vz, vsm, e0]
 rw [QN (vcg.mul (vcg.refl c) hd (vcg.refl _))]; have : Qy m c (vsm (-1) e0) (dv p x) = vsm (-1) (dv p x) := by
  show opr m c (dv p x) m (vsm (-1) e0) = _; rw [Jg4, Q8 (Qk hx)]
 rw [this]
theorem v_Neg {x : Int} {Q : Int -> Prop} (K : GFk F p m v g) (h : Q ((Jcq p m (inE (p ^ m) x) : Nat) : Int)) : Jdf F x Q := by
 have hp := K.fv.p2; have hpq := K.fv.pq; have h256 := K.fv.p256; have R := K.fv.ring; unfold Jdf; rw [K.fv.eP]; refine ⟨Jo (by omega) (by omega), v_Mul K ?_⟩; rw [show (p : Int) - 1 = ((p - 1 : Nat) : Int) by omega, J4 (by omega), mul_neg hp K.fv.m0 (JU R.pos x)]; exact h
theorem Jlc {m x y : Nat} (hx : x < 2 ^ m) (hy : y < 2 ^ m) : x ^^^ y = JZ 2 m x y := by
 refine (nm_eq (by decide) (Nat.xor_lt_two_pow hx hy) fun i hi => ?_).symm; have h := Nat.testBit_xor x y i; rw [Nat.testBit_eq_decide_div_mod_eq, Nat.testBit_eq_decide_div_mod_eq, Nat.testBit_eq_decide_div_mod_eq] at h; simp only [dv, JH]; have h1 := Nat.mod_two_eq_zero_or_one (x / 2 ^ i); have h2 := Nat.mod_two_eq_zero_or_one (y / 2 ^ i); have h3 := Nat.mod_two_eq_zero_or_one ((x ^^^ y) / 2 ^ i); rcases h1 with h1 | h1 <;> rcases h2 with h2 | h2 <;> rcases h3 with h3 | h3 <;> rw [h1, h2, h3] at h <;> rw [h1, h2, h3] <;> first | rfl | exact absurd h (by decide)
theorem v_Add {x y : Int} {Q : Int -> Prop} (K : GFk F p m v g) (h : Q ((JZ p m (inE (p ^ m) x) (inE (p ^ m) y) : Nat) : Int)) : Jdh F x y Q := by
 have R := K.fv.ring; have hq := K.fv.q; have hx := JU R.pos x; have hy := JU R.pos y; have hq2 := R.q2; refine Jcy K (Jcy K ⟨fun h2 => ⟨⟨by omega, by omega, by omega, by omega⟩, ?_⟩, fun h2 => ⟨fun h0 => ?_, fun h0 => ⟨fun h1 => ?_, fun h1 => ?_⟩⟩⟩)
 .have hp2 : p = 2 := by have := K.fv.eP; omega
  subst hp2; rw [<- Jlc hx hy] at h; exact h
 .rw [show inE (p ^ m) x = 0 by omega, R.zA hy] at h; exact h
 .rw [show inE (p ^ m) y = 0 by omega, R.Az hx] at h; exact h
 .have hi : ∀ z : Nat, z < p ^ m -> inE (p ^ m) (z : Int) = z := fun z hz => J4 hz; obtain ⟨a, ha, ea, la, bx⟩ := K.lg (x := ((inE (p ^ m) x : Nat) : Int)) (by rw [hi _ hx]; omega); obtain ⟨b, hb, eb, lb, by_⟩ := K.lg (x := ((inE (p ^ m) y : Nat) : Int)) (by rw [hi _ hy]; omega); rw [hi _ hx] at ea; rw [hi _ hy] at eb; rw [la, lb]; have hal := K.al; have hel := K.el; refine ⟨by_, bx, Jo (by omega) (by omega), fun z => ∃ d : Nat, z = d /\ d < p ^ m - 1 /\ pw (Jq p m (dv p v)) g (a + d) = pw (Jq p m (dv p v)) g b, ⟨fun hn => ?_, fun hn => ?_⟩, ?_⟩
  .rw [K.q]; refine ⟨Jo (by omega) (by omega), Jo (by omega) (by omega), b + (p ^ m - 1) - a, by omega, by omega, ?_⟩; have := K.G.per R b 1; rw [Nat.mul_one] at this; rw [show a + (b + (p ^ m - 1) - a) = b + (p ^ m - 1) by omega]; exact this
  .exact ⟨b - a, by omega, by omega, by rw [show a + (b - a) = b by omega]⟩
  .rintro _ ⟨d, rfl, hd, hpd⟩; rw [Jy, K.av d hd]; have hgd := R.pw_lt g d; have hga := R.pw_lt g a
   -- x + y = x (g^d + 1)
   have hsum : JZ p m (inE (p ^ m) x) (inE (p ^ m) y) = Jq p m (dv p v) (pw (Jq p m (dv p v)) g a) (JZ p m (pw (Jq p m (dv p v)) g d) 1) := by
    rw [R.Md hga hgd R.one_lt, R.M1 hga, <- R.pw_add K.G.lt, hpd, <- ea, <- eb, R.Ac]
   rw [hsum] at h; have hsl := R.Al (pw (Jq p m (dv p v)) g d) 1; refine ⟨⟨by omega, by omega⟩, fun hm1 => ?_, fun hm1 => ?_⟩
   .have hz : JZ p m (pw (Jq p m (dv p v)) g d) 1 = 0 := by
     rcases Nat.eq_zero_or_pos (JZ p m (pw (Jq p m (dv p v)) g d) 1) with h3 | h3
     .exact h3
     .obtain ⟨s, hs, hse⟩ := K.G.surj R h3 hsl; rw [<- hse, K.lv s hs] at hm1; omega
    rw [hz, R.M0 hga] at h; exact h
   .have hnz : 0 < JZ p m (pw (Jq p m (dv p v)) g d) 1 := by
     rcases Nat.eq_zero_or_pos (JZ p m (pw (Jq p m (dv p v)) g d) 1) with h3 | h3
     .rw [h3, K.l0] at hm1; exact absurd rfl hm1
     .exact h3
    obtain ⟨s, hs, hse⟩ := K.G.surj R hnz hsl; rw [<- hse] at h ⊢; rw [K.lv s hs]; refine ⟨bx, Jo (by omega) (by omega), ⟨by omega, by omega⟩, ?_⟩; rw [show (a : Int) + (s : Int) = ((a + s : Nat) : Int) by push_cast; rfl, Jy, K.ev _ (by omega), R.pw_add K.G.lt]; exact h
theorem Jba {n : Int} {Q : Int -> Prop} (K : GFk F p m v g) (hn : I64 n) (h : Q (n % (((p ^ m : Nat) : Int) - 1))) : QB F n Q := by
 have hq := K.fv.q; have hq2 := K.fv.ring.q2; unfold QB; rw [K.q]; have hk : (0 : Int) < ((p ^ m : Nat) : Int) - 1 := by omega
 have t1 := Int.tmod_lt_of_pos n hk; have t2 := Int.lt_tmod_of_pos n hk; have hm := modk (n := n) hk; refine ⟨Jo (by omega) (by omega), by omega, fun z => z = n % (((p ^ m : Nat) : Int) - 1), ⟨fun hneg => ⟨Jo (by omega) (by omega), Jo (by omega) (by omega), ?_⟩, fun hpos => ?_⟩, fun z hz => by rw [hz]; exact h⟩
 .rw [<- hm, Int.tmod_eq_emod_of_nonneg (by omega), Int.emod_eq_of_lt (by omega) (by omega)]
 .rw [<- hm, Int.tmod_eq_emod_of_nonneg (by omega), show n.tmod (((p ^ m : Nat) : Int) - 1) + (((p ^ m : Nat) : Int) - 1) = n.tmod (((p ^ m : Nat) : Int) - 1) + (((p ^ m : Nat) : Int) - 1) * 1 by omega, Int.add_mul_emod_self_left, Int.emod_eq_of_lt (by omega) (by omega)]
theorem v_Pow {x n : Int} {Q : Int × Int -> Prop} (K : GFk F p m v g) (hn : I64 n) (h0 : inE (p ^ m) x = 0 -> Q (if n = 0 then (1, 0) else if n < 0 then (0, 7) else (0, 0)))
  (h1 : inE (p ^ m) x ≠ 0 -> Q (((pw (Jq p m (dv p v)) (inE (p ^ m) x) (n % (((p ^ m : Nat) : Int) - 1)).toNat : Nat) : Int), 0)) : Jgh F x n Q := by
 have R := K.fv.ring; have hq := K.fv.q; have hq2 := R.q2; refine Ja9 K ⟨fun hb => ?_, fun hb => ?_⟩
 .have hne : inE (p ^ m) x ≠ 0 := by simpa using hb
  obtain ⟨a, ha, ea, la, bx⟩ := K.lg hne; have hel := K.el; have hk : (0 : Int) < ((p ^ m : Nat) : Int) - 1 := by omega
  have e1 := Int.emod_nonneg n (show ((p ^ m : Nat) : Int) - 1 ≠ 0 by omega); have e2 := Int.emod_lt_of_pos n hk; have h1 := h1 hne; refine ⟨bx, _, Jba K hn rfl, ?_⟩; rw [la]; obtain ⟨e, he⟩ := Int.eq_ofNat_of_zero_le e1; rw [he] at h1 ⊢; rw [Int.toNat_natCast] at h1; have hae : a * e <= 256 * 256 := Nat.mul_le_mul (by omega) (by omega); have hcast : (a : Int) * (e : Int) = ((a * e : Nat) : Int) := by push_cast; rfl
  have hmod : ((a * e : Nat) : Int) % (((p ^ m : Nat) : Int) - 1) = ((a * e % (p ^ m - 1) : Nat) : Int) := by
   rw [show ((p ^ m : Nat) : Int) - 1 = ((p ^ m - 1 : Nat) : Int) by omega]; rfl
  have hlt := Nat.mod_lt (a * e) (show 0 < p ^ m - 1 by omega); rw [hcast]; refine ⟨Qf (by omega), _, Jba K (Qf (by omega)) rfl, ?_⟩; rw [hmod]; refine ⟨⟨by omega, by omega⟩, ?_⟩; rw [Jy, K.ev _ (by omega), K.G.modp R, <- R.pw_pw K.G.lt, <- ea]; exact h1
 .have hz : inE (p ^ m) x = 0 := by simpa using hb
  have h0 := h0 hz; refine ⟨fun hneg => ?_, fun hpos => ⟨fun hz0 => ?_, fun hz0 => ?_⟩⟩
  .rwa [if_neg (by omega), if_pos hneg] at h0
  .rwa [if_pos hz0] at h0
  .rwa [if_neg hz0, if_neg hpos] at h0
theorem Od.uniq {M : Nat -> Nat -> Nat} {x n k : Nat} (h : Od M x n) (h' : Od M x k) : n = k := by
 rcases Nat.lt_trichotomy n k with h1 | h1 | h1
 .exact absurd h.one (h'.least n h.pos h1)
 .exact h1
 .exact absurd h'.one (h.least k h'.pos h1)
def Jkk (p m : Nat) (l : LI) : Nat -> Nat
  | 0 => 0
  | k + 1 => JZ p m (Jkk p m l k) (inE (p ^ m) (vo l k))
theorem Jpc {p m : Nat} {l : LI} (hp : 0 < p) : ∀ k, Jkk p m l k < p ^ m
 | 0 => Nat.pow_pos hp
 | k + 1 => Jjh hp _ _
theorem v_Sum {l : LI} {Q : Int -> Prop} (K : GFk F p m v g) (hl : l.length <= 1000) (h : Q ((Jkk p m l l.length : Nat) : Int)) : Jju F l Q := by
 have hp := K.fv.p2; refine ⟨fun z i => ∃ k : Nat, i = k /\ k <= l.length /\ z = ((Jkk p m l k : Nat) : Int), fun z i => (l.length - i).toNat, ⟨0, rfl, Nat.zero_le _, rfl⟩, ?_⟩; rintro _ _ ⟨k, rfl, hk, rfl⟩; dsimp only; rw [Jy]; refine ⟨fun hlt => ⟨⟨by omega, by omega⟩, v_Add K ?_⟩, fun hge => by rw [show k = l.length by omega]; exact h⟩; rw [J4 (Jpc (by omega) k)]; exact ⟨Jo (by omega) (by omega), ⟨k + 1, by push_cast; rfl, by omega, rfl⟩, by omega⟩
end
end Go.Proofs.Ytopemhgpdlbkjaa
namespace Go.Proofs.Ytopemhgpdlbkjaa
/-! ### commutative rings, sums, series -/
class Cr (α : Type) where
  add : α -> α -> α
  mul : α -> α -> α
  neg : α -> α
  zero : α
  one : α
  ac : ∀ x y, add x y = add y x
  aa : ∀ x y z, add (add x y) z = add x (add y z)
  az : ∀ x, add x zero = x
  an : ∀ x, add x (neg x) = zero
  mc : ∀ x y, mul x y = mul y x
  ma : ∀ x y z, mul (mul x y) z = mul x (mul y z)
  m1 : ∀ x, mul x one = x
  md : ∀ x y z, mul x (add y z) = add (mul x y) (mul x z)
section
variable {α : Type} [Cr α]
instance (priority := 100) crAdd : Add α := ⟨Cr.add⟩
instance (priority := 100) crMul : Mul α := ⟨Cr.mul⟩
instance (priority := 100) crNeg : Neg α := ⟨Cr.neg⟩
instance (priority := 100) crSub : Sub α := ⟨fun x y => Cr.add x (Cr.neg y)⟩
instance (priority := 100) crZero : OfNat α 0 := ⟨Cr.zero⟩
instance (priority := 100) crOne : OfNat α 1 := ⟨Cr.one⟩
namespace Cr
theorem add_comm (x y : α) : x + y = y + x := Cr.ac x y
theorem add_assoc (x y z : α) : x + y + z = x + (y + z) := Cr.aa x y z
theorem add_zero (x : α) : x + 0 = x := Cr.az x
theorem zero_add (x : α) : 0 + x = x := by rw [Cr.add_comm, Cr.add_zero]
theorem add_neg (x : α) : x + -x = 0 := Cr.an x
theorem neg_add (x : α) : -x + x = 0 := by rw [Cr.add_comm, Cr.add_neg]
theorem mul_comm (x y : α) : x * y = y * x := Cr.mc x y
theorem mul_assoc (x y z : α) : x * y * z = x * (y * z) := Cr.ma x y z
theorem mul_one (x : α) : x * 1 = x := Cr.m1 x
theorem one_mul (x : α) : 1 * x = x := by rw [Cr.mul_comm, Cr.mul_one]
theorem mul_add (x y z : α) : x * (y + z) = x * y + x * z := Cr.md x y z
theorem add_mul (x y z : α) : (x + y) * z = x * z + y * z := by rw [Cr.mul_comm, Cr.mul_add, Cr.mul_comm z x, Cr.mul_comm z y]
theorem sub_eq (x y : α) : x - y = x + -y := rfl
theorem add_left_comm (x y z : α) : x + (y + z) = y + (x + z) := by rw [<- Cr.add_assoc, Cr.add_comm x y, Cr.add_assoc]
theorem add_left_cancel {x y z : α} (h : x + y = x + z) : y = z := by
 have := congrArg (fun u => -x + u) h
 simpa [<- Cr.add_assoc, Cr.neg_add, Cr.zero_add] using this
theorem mul_zero (x : α) : x * 0 = 0 := by
 refine Cr.add_left_cancel (x := x * 0) ?_; rw [<- Cr.mul_add, Cr.add_zero, Cr.add_zero]
theorem zero_mul (x : α) : 0 * x = 0 := by rw [Cr.mul_comm, Cr.mul_zero]
theorem neg_uniq {x y : α} (h : x + y = 0) : y = -x := Cr.add_left_cancel (x := x) (by rw [h, Cr.add_neg])
theorem neg_zero : -(0 : α) = 0 := (Cr.neg_uniq (Cr.add_zero (0 : α))).symm
theorem neg_neg (x : α) : - -x = x := (Cr.neg_uniq (Cr.neg_add x)).symm
theorem neg_addd (x y : α) : -(x + y) = -x + -y := (Cr.neg_uniq (by
 rw [Cr.add_assoc, Cr.add_left_comm y, <- Cr.add_assoc, Cr.add_neg, Cr.add_neg, Cr.add_zero])).symm
theorem mul_neg (x y : α) : x * -y = -(x * y) := Cr.neg_uniq (by rw [<- Cr.mul_add, Cr.add_neg, Cr.mul_zero])
theorem neg_mul (x y : α) : -x * y = -(x * y) := by rw [Cr.mul_comm, Cr.mul_neg, Cr.mul_comm]
theorem sub_self (x : α) : x - x = 0 := Cr.add_neg x
theorem sub_zero (x : α) : x - 0 = x := by rw [Cr.sub_eq, Cr.neg_zero, Cr.add_zero]
theorem sub_add (x y : α) : x - y + y = x := by rw [Cr.sub_eq, Cr.add_assoc, Cr.neg_add, Cr.add_zero]
theorem add_sub (x y : α) : x + y - y = x := by rw [Cr.sub_eq, Cr.add_assoc, Cr.add_neg, Cr.add_zero]
theorem eq_of_sub {x y : α} (h : x - y = 0) : x = y := by rw [<- Cr.sub_add x y, h, Cr.zero_add]
theorem sub_iff {x y z : α} : x - y = z ↔ x = z + y := ⟨fun h => by rw [<- h, Cr.sub_add], fun h => by rw [h, Cr.add_sub]⟩
theorem mul_sub (x y z : α) : x * (y - z) = x * y - x * z := by rw [Cr.sub_eq, Cr.mul_add, Cr.mul_neg]; rfl
theorem sub_mul (x y z : α) : (x - y) * z = x * z - y * z := by rw [Cr.mul_comm, Cr.mul_sub, Cr.mul_comm z, Cr.mul_comm z]
theorem neg_sub (x y : α) : -(x - y) = y - x := by rw [Cr.sub_eq, Cr.neg_addd, Cr.neg_neg, Cr.add_comm]; rfl
end Cr
instance : Std.Commutative (α := α) (· + ·) := ⟨Cr.add_comm⟩
instance : Std.Associative (α := α) (· + ·) := ⟨Cr.add_assoc⟩
instance : Std.Commutative (α := α) (· * ·) := ⟨Cr.mul_comm⟩
instance : Std.Associative (α := α) (· * ·) := ⟨Cr.mul_assoc⟩
def sgm (f : Nat -> α) : Nat -> α
  | 0 => 0
  | n + 1 => sgm f n + f n
theorem JP {f g : Nat -> α} : ∀ {n : Nat}, (∀ i, i < n -> f i = g i) -> sgm f n = sgm g n
 | 0, _ => rfl
 | n + 1, h => by rw [sgm, sgm, JP (n := n) fun i hi => h i (by omega), h n (by omega)]
theorem Jaq (f g : Nat -> α) : ∀ n, sgm (fun i => f i + g i) n = sgm f n + sgm g n
 | 0 => (Cr.add_zero 0).symm
 | n + 1 => by rw [sgm, sgm, sgm, Jaq f g n]; ac_rfl
theorem Jap (a : α) (f : Nat -> α) : ∀ n, sgm (fun i => a * f i) n = a * sgm f n
 | 0 => (Cr.mul_zero a).symm
 | n + 1 => by rw [sgm, sgm, Jap a f n, Cr.mul_add]
theorem Jbj (a : α) (f : Nat -> α) (n : Nat) : sgm (fun i => f i * a) n = sgm f n * a := by
 rw [Cr.mul_comm _ a, <- Jap]; exact JP fun i _ => Cr.mul_comm _ _
theorem Q7 {f : Nat -> α} : ∀ {n : Nat}, (∀ i, i < n -> f i = 0) -> sgm f n = 0
 | 0, _ => rfl
 | n + 1, h => by rw [sgm, Q7 (n := n) fun i hi => h i (by omega), h n (by omega), Cr.add_zero]
theorem Jc1 (f : Nat -> α) : ∀ n, sgm f (n + 1) = f 0 + sgm (fun i => f (i + 1)) n
 | 0 => by rw [sgm, sgm, sgm, Cr.add_comm]
 | n + 1 => by rw [sgm, Jc1 f n, sgm, Cr.add_assoc]
theorem Jip (f : Nat -> α) (n : Nat) : ∀ m, sgm f (n + m) = sgm f n + sgm (fun i => f (n + i)) m
 | 0 => by rw [Nat.add_zero, sgm, Cr.add_zero]
 | m + 1 => by rw [<- Nat.add_assoc, sgm, Jip f n m, sgm, Cr.add_assoc]
theorem Jio (f : Nat -> α) : ∀ n, sgm f n = sgm (fun i => f (n - 1 - i)) n
 | 0 => rfl
 | n + 1 => by
  rw [Jc1 (fun i => f (n + 1 - 1 - i)) n, sgm, Jio f n, Cr.add_comm]
  congr 1
  exact JP fun i hi => by congr 1; omega
theorem Jao {f : Nat -> α} {k : Nat} : ∀ {n : Nat}, k < n -> (∀ i, i < n -> i ≠ k -> f i = 0) -> sgm f n = f k
 | 0, h, _ => absurd h (Nat.not_lt_zero k)
 | n + 1, h, h0 => by
  by_cases hk : k = n
  .subst hk; rw [sgm, Q7 fun i hi => h0 i (by omega) (by omega), Cr.zero_add]
  .rw [sgm, Jao (n := n) (by omega) fun i hi hne => h0 i (by omega) hne, h0 n (by omega) (Ne.symm hk), Cr.add_zero]
theorem Jdv (F : Nat -> Nat -> α) : ∀ n, sgm (fun s => sgm (fun i => F i (s - i)) (s + 1)) n = sgm (fun i => sgm (F i) (n - i)) n
 | 0 => rfl
 | n + 1 => by
  rw [sgm, Jdv F n, sgm]; have h1 : sgm (fun i => sgm (F i) (n + 1 - i)) n = sgm (fun i => sgm (F i) (n - i)) n + sgm (fun i => F i (n - i)) n := by
   rw [<- Jaq]; exact JP fun i hi => by rw [show n + 1 - i = (n - i) + 1 by omega, sgm]
  rw [sgm, h1, show n + 1 - n = 0 + 1 by omega, sgm, sgm, Cr.zero_add, Nat.sub_self, Cr.add_assoc]
theorem Jdw {f : Nat -> α} {n m : Nat} (h : n <= m) (h0 : ∀ i, n <= i -> i < m -> f i = 0) : sgm f m = sgm f n := by
 obtain ⟨k, rfl⟩ := Nat.exists_eq_add_of_le h; rw [Jip, Q7 fun i hi => h0 (n + i) (by omega) (by omega), Cr.add_zero]
/-! series -/
def Pl (α : Type) : Type := Nat -> α
def Jaf (f g : Nat -> α) : Nat -> α := fun k => sgm (fun i => f i * g (k - i)) (k + 1)
theorem Jc3 (f g : Nat -> α) : Jaf f g = Jaf g f := by
 funext k; unfold Jaf; rw [Jio]; exact JP fun i hi => by
  rw [Cr.mul_comm]
  congr 2 <;> omega
theorem Jg3 (f g h : Nat -> α) : Jaf (Jaf f g) h = Jaf f (Jaf g h) := by
 funext k; have e1 : Jaf (Jaf f g) h k = sgm (fun s => sgm (fun i => f i * g (s - i) * h (k - (i + (s - i)))) (s + 1)) (k + 1) := by
  show sgm (fun s => sgm (fun i => f i * g (s - i)) (s + 1) * h (k - s)) (k + 1) = _; refine JP fun s hs => ?_; rw [<- Jbj]; exact JP fun i hi => by rw [show i + (s - i) = s by omega]
 have e2 : Jaf f (Jaf g h) k = sgm (fun i => sgm (fun j => f i * g j * h (k - (i + j))) (k + 1 - i)) (k + 1) := by
  show sgm (fun i => f i * sgm (fun j => g j * h (k - i - j)) (k - i + 1)) (k + 1) = _; refine JP fun i hi => ?_; rw [<- Jap, show k + 1 - i = k - i + 1 by omega]; exact JP fun j hj => by rw [Cr.mul_assoc, show k - i - j = k - (i + j) by omega]
 rw [e1, e2]; exact Jdv (fun i j => f i * g j * h (k - (i + j))) (k + 1)
instance : Cr (Pl α) where
  add f g := fun i => f i + g i
  mul f g := Jaf f g
  neg f := fun i => -(f i)
  zero := fun _ => 0
  one := fun i => if i = 0 then 1 else 0
  ac f g := funext fun i => Cr.add_comm _ _
  aa f g h := funext fun i => Cr.add_assoc _ _ _
  az f := funext fun i => Cr.add_zero _
  an f := funext fun i => Cr.add_neg _
  mc f g := Jc3 f g
  ma f g h := Jg3 f g h
  m1 f := by
    refine (Jc3 (α := α) f (fun i => if i = 0 then 1 else 0)).trans ?_
    funext k
    show sgm (fun i => (if i = 0 then (1 : α) else 0) * f (k - i)) (k + 1) = f k
    rw [Jao (k := 0) (by omega) fun i hi hne => by rw [if_neg hne, Cr.zero_mul], if_pos rfl, Cr.one_mul, Nat.sub_zero]
  md f g h := by
    funext k
    show sgm (fun i => f i * (g (k - i) + h (k - i))) (k + 1) = sgm (fun i => f i * g (k - i)) (k + 1) + sgm (fun i => f i * h (k - i)) (k + 1)
    rw [<- Jaq]
    exact JP fun i _ => Cr.mul_add _ _ _
namespace Pl
omit [Cr α] in
theorem ext {f g : Pl α} (h : ∀ i, f i = g i) : f = g := funext h
theorem add_at (f g : Pl α) (i : Nat) : (f + g) i = f i + g i := rfl
theorem neg_at (f : Pl α) (i : Nat) : (-f) i = -(f i) := rfl
theorem sub_at (f g : Pl α) (i : Nat) : (f - g) i = f i - g i := rfl
theorem one_at (i : Nat) : (1 : Pl α) i = if i = 0 then 1 else 0 := rfl
theorem mul_at (f g : Pl α) (k : Nat) : (f * g) k = sgm (fun i => f i * g (k - i)) (k + 1) := rfl
end Pl
/-! finite support -/
def Su (f : Pl α) (n : Nat) : Prop := ∀ i, n <= i -> f i = 0
theorem Su.mono {f : Pl α} {n m : Nat} (h : Su f n) (hm : n <= m) : Su f m := fun i hi => h i (by omega)
theorem Su.add {f g : Pl α} {n : Nat} (hf : Su f n) (hg : Su g n) : Su (f + g) n := fun i hi => by rw [Pl.add_at, hf i hi, hg i hi, Cr.add_zero]
theorem Su.neg {f : Pl α} {n : Nat} (hf : Su f n) : Su (-f) n := fun i hi => by rw [Pl.neg_at, hf i hi, Cr.neg_zero]
theorem Su.sub {f g : Pl α} {n : Nat} (hf : Su f n) (hg : Su g n) : Su (f - g) n := Su.add hf hg.neg
theorem Su.zero (n : Nat) : Su (0 : Pl α) n := fun i _ => rfl
theorem Su.one : Su (1 : Pl α) 1 := fun i hi => by rw [Pl.one_at, if_neg (by omega)]
theorem Su.eq0 {f : Pl α} (h : Su f 0) : f = 0 := Pl.ext fun i => h i (Nat.zero_le i)
theorem Su.mul {f g : Pl α} {n m : Nat} (hf : Su f n) (hg : Su g m) : Su (f * g) (n + m - 1) := fun k hk => by
 rw [Pl.mul_at]; refine Q7 fun i hi => ?_; by_cases h : n <= i
 .rw [hf i h, Cr.zero_mul]
 .rw [hg (k - i) (by omega), Cr.mul_zero]
theorem Jds {f g : Pl α} {n m : Nat} (hf : Su f (n + 1)) (hg : Su g (m + 1)) : (f * g) (n + m) = f n * g m := by
 rw [Pl.mul_at, Jao (k := n) (by omega) fun i hi hne => ?_, show n + m - n = m by omega]; by_cases h : n + 1 <= i
 .rw [hf i h, Cr.zero_mul]
 .rw [hg (n + m - i) (by omega), Cr.mul_zero]
/-- degree d -/
def Dg (f : Pl α) (d : Nat) : Prop := f d ≠ 0 /\ Su f (d + 1)
open Classical in
theorem Jab {f : Pl α} : ∀ {n : Nat}, Su f n -> f = 0 ∨ ∃ d, d < n /\ Dg f d
  | 0, h => .inl h.eq0
  | n + 1, h => by
    by_cases h0 : f n = 0
    . rcases Jab (f := f) (n := n) (fun i hi => by
        by_cases e : i = n
        . rw [e, h0]
        . exact h i (by omega)) with h1 | ⟨d, h1, h2⟩
      . exact .inl h1
      . exact .inr ⟨d, by omega, h2⟩
    . exact .inr ⟨n, by omega, h0, h⟩
theorem Dg.ne {f : Pl α} {d : Nat} (h : Dg f d) : f ≠ 0 := fun e => h.1 (by rw [e]; rfl)
theorem Dg.lt {f : Pl α} {d n : Nat} (h : Dg f d) (hs : Su f n) : d < n := by
 rcases Nat.lt_or_ge d n with h1 | h1
 .exact h1
 .exact absurd (hs d h1) h.1
theorem Dg.uniq {f : Pl α} {d e : Nat} (h : Dg f d) (h' : Dg f e) : d = e := by
 have h1 := h.lt h'.2; have h2 := h'.lt h.2; omega
/-- a a monomial -/
def mo (a : α) (n : Nat) : Pl α := fun i => if i = n then a else 0
theorem Jc5 (a : α) (n : Nat) : Su (mo a n) (n + 1) := fun i hi => if_neg (by omega)
theorem ZP (a : α) (n : Nat) (f : Pl α) (k : Nat) : (mo a n * f) k = if n <= k then a * f (k - n) else 0 := by
 rw [Pl.mul_at]; split
 .rename_i h
  rw [Jao (k := n) (by omega) fun i hi hne => by rw [mo, if_neg hne, Cr.zero_mul], mo, if_pos rfl]
 .rename_i h
  exact Q7 fun i hi => by rw [mo, if_neg (by omega), Cr.zero_mul]
theorem Ji8 (n : Nat) : mo (0 : α) n = 0 := Pl.ext fun i => by unfold mo; split <;> rfl
/-- a constant -/
def ct (a : α) : Pl α := mo a 0
theorem Jb8 (a : α) (f : Pl α) (k : Nat) : (ct a * f) k = a * f k := by rw [ct, ZP, if_pos (Nat.zero_le k), Nat.sub_zero]
theorem ct_su (a : α) : Su (ct a) 1 := Jc5 a 0
theorem Su.ct {f : Pl α} {n : Nat} (a : α) (h : Su f n) : Su (Go.Proofs.Ytopemhgpdlbkjaa.ct a * f) n := fun i hi => by rw [Jb8, h i hi, Cr.mul_zero]
end
end Go.Proofs.Ytopemhgpdlbkjaa
set_option linter.unusedSectionVars false
namespace Go.Proofs.Ytopemhgpdlbkjaa
/-! ### polynomials over a field -/
class Fd (α : Type) [Cr α] : Prop where
  ne : (1 : α) ≠ 0
  inv : ∀ x : α, x ≠ 0 -> ∃ y, x * y = 1
section
variable {α : Type} [Cr α]
def Fs (f : Pl α) : Prop := ∃ n, Su f n
theorem Fs.add {f g : Pl α} : Fs f -> Fs g -> Fs (f + g) := fun ⟨n, hn⟩ ⟨m, hm⟩ => ⟨max n m, (hn.mono (by omega)).add (hm.mono (by omega))⟩
theorem Fs.neg {f : Pl α} : Fs f -> Fs (-f) := fun ⟨n, hn⟩ => ⟨n, hn.neg⟩
theorem Fs.sub {f g : Pl α} (hf : Fs f) (hg : Fs g) : Fs (f - g) := hf.add hg.neg
theorem Fs.mul {f g : Pl α} : Fs f -> Fs g -> Fs (f * g) := fun ⟨n, hn⟩ ⟨m, hm⟩ => ⟨_, hn.mul hm⟩
theorem Fs.zero : Fs (0 : Pl α) := ⟨0, Su.zero 0⟩
theorem Fs.one : Fs (1 : Pl α) := ⟨1, Su.one⟩
theorem Jn2 (a : α) (n : Nat) : Fs (mo a n) := ⟨n + 1, Jc5 a n⟩
theorem Fs.ct (a : α) : Fs (ct a) := ⟨1, ct_su a⟩
theorem Dg.fs {f : Pl α} {d : Nat} (h : Dg f d) : Fs f := ⟨_, h.2⟩
/-! divisibility -/
def Dv (f g : Pl α) : Prop := ∃ h, Fs h /\ g = f * h
theorem Dv.refl (f : Pl α) : Dv f f := ⟨1, Fs.one, (Cr.mul_one f).symm⟩
theorem Dv.zero (f : Pl α) : Dv f 0 := ⟨0, Fs.zero, (Cr.mul_zero f).symm⟩
theorem Dv.trans {f g h : Pl α} : Dv f g -> Dv g h -> Dv f h := fun ⟨a, ha, h1⟩ ⟨b, hb, h2⟩ => ⟨a * b, ha.mul hb, by rw [h2, h1, Cr.mul_assoc]⟩
theorem Dv.add {f g h : Pl α} : Dv f g -> Dv f h -> Dv f (g + h) := fun ⟨a, ha, h1⟩ ⟨b, hb, h2⟩ => ⟨a + b, ha.add hb, by rw [h1, h2, Cr.mul_add]⟩
theorem Dv.neg {f g : Pl α} : Dv f g -> Dv f (-g) := fun ⟨a, ha, h1⟩ => ⟨-a, ha.neg, by rw [h1, Cr.mul_neg]⟩
theorem Dv.sub {f g h : Pl α} (h1 : Dv f g) (h2 : Dv f h) : Dv f (g - h) := h1.add h2.neg
theorem Dv.mulr {f g : Pl α} (h : Dv f g) {a : Pl α} (ha : Fs a) : Dv f (g * a) := by
 obtain ⟨b, hb, rfl⟩ := h; exact ⟨b * a, hb.mul ha, Cr.mul_assoc _ _ _⟩
theorem Dv.mull {f g : Pl α} (h : Dv f g) {a : Pl α} (ha : Fs a) : Dv f (a * g) := by rw [Cr.mul_comm]; exact h.mulr ha
/-- the greatest common divisors of two polynomials, but for a factor -/
def Gd (p q d : Pl α) : Prop := Dv d p /\ Dv d q /\ ∀ c, Dv c p -> Dv c q -> Dv c d
theorem Gd.step {p q a r d : Pl α} (ha : Fs a) (e : p = a * q + r) (h : Gd q r d) : Gd p q d := by
 refine ⟨by rw [e]; exact (h.1.mull ha).add h.2.1, h.1, fun c h1 h2 => h.2.2 c h2 ?_⟩; have : r = p - a * q := by rw [e, Cr.add_comm, Cr.add_sub]
 rw [this]; exact h1.sub (h2.mull ha)
theorem Gd.zero (p : Pl α) : Gd p 0 p := ⟨Dv.refl p, Dv.zero p, fun c h _ => h⟩
theorem Gd.symm {p q d : Pl α} (h : Gd p q d) : Gd q p d := ⟨h.2.1, h.1, fun c h1 h2 => h.2.2 c h2 h1⟩
def Mn (f : Pl α) : Prop := ∃ d, Dg f d /\ f d = 1
/-! congruence -/
def Cg (m f g : Pl α) : Prop := Dv m (f - g)
theorem Cg.refl (m f : Pl α) : Cg m f f := by unfold Cg; rw [Cr.sub_self]; exact Dv.zero m
theorem Cg.symm {m f g : Pl α} (h : Cg m f g) : Cg m g f := by have := Dv.neg h; rwa [Cr.neg_sub] at this
theorem Cg.trans {m f g k : Pl α} (h : Cg m f g) (h' : Cg m g k) : Cg m f k := by
 have := Dv.add h h'; have e : f - g + (g - k) = f - k := by
  rw [Cr.sub_eq, Cr.sub_eq, Cr.sub_eq, Cr.add_assoc, <- Cr.add_assoc (-g), Cr.neg_add, Cr.zero_add]
 rwa [e] at this
theorem Cg.mul {m f g f' g' : Pl α} (h : Cg m f g) (h' : Cg m f' g') (hf : Fs f') (hg : Fs g) : Cg m (f * f') (g * g') := by
 have := Dv.add (Dv.mulr h hf) (Dv.mull h' hg); have e : (f - g) * f' + g * (f' - g') = f * f' - g * g' := by
  rw [Cr.sub_mul, Cr.mul_sub, Cr.sub_eq, Cr.sub_eq, Cr.sub_eq, Cr.add_assoc, <- Cr.add_assoc (-(g * f')), Cr.neg_add, Cr.zero_add]
 rw [e] at this; exact this
/-! powers and values -/
def pwr (x : α) : Nat -> α
  | 0 => 1
  | n + 1 => pwr x n * x
theorem Jir (x : α) (m : Nat) : ∀ n, pwr x (m + n) = pwr x m * pwr x n
 | 0 => (Cr.mul_one _).symm
 | n + 1 => by rw [<- Nat.add_assoc, pwr, Jir x m n, pwr, Cr.mul_assoc]
def evp (f : Pl α) (n : Nat) (x : α) : α := sgm (fun i => f i * pwr x i) n
theorem Jji {f : Pl α} {n m : Nat} (hf : Su f n) (h : n <= m) (x : α) : evp f m x = evp f n x :=
 Jdw h fun i h1 _ => by rw [hf i h1, Cr.zero_mul]
theorem Jpg {f : Pl α} {n m : Nat} (hf : Su f n) (hg : Su f m) (x : α) : evp f m x = evp f n x := by
 rcases Nat.le_total n m with h | h
 .exact Jji hf h x
 .exact (Jji hg h x).symm
theorem Jph (f g : Pl α) (n : Nat) (x : α) : evp (f + g) n x = evp f n x + evp g n x := by
 unfold evp; rw [<- Jaq]; exact JP fun i _ => Cr.add_mul _ _ _
theorem Jpf {f g : Pl α} {n m : Nat} (hf : Su f n) (hg : Su g m) (x : α) : evp (f * g) (n + m) x = evp f n x * evp g m x := by
 unfold evp; have e1 : sgm (fun k => (f * g) k * pwr x k) (n + m) = sgm (fun s => sgm (fun i => (fun i j => (f i * pwr x i) * (g j * pwr x j)) i (s - i)) (s + 1)) (n + m) := by
  refine JP fun s hs => ?_; rw [Pl.mul_at, <- Jbj]; refine JP fun i hi => ?_; show f i * g (s - i) * pwr x s = f i * pwr x i * (g (s - i) * pwr x (s - i))
  rw [show pwr x s = pwr x i * pwr x (s - i) by rw [<- Jir]; congr 1; omega]
  ac_rfl
 rw [e1, Jdv (fun i j => f i * pwr x i * (g j * pwr x j)), Jdw (n := n) (by omega) fun i h1 _ => Q7 fun j _ => by show f i * pwr x i * _ = 0; rw [hf i h1, Cr.zero_mul, Cr.zero_mul], <- Jbj]; refine JP fun i hi => ?_; show sgm (fun j => f i * pwr x i * (g j * pwr x j)) (n + m - i) = _; rw [Jap, Jdw (n := m) (by omega) fun j h1 _ => by rw [hg j h1, Cr.zero_mul]]
open Classical in
noncomputable def vl_ (f : Pl α) (x : α) : α := if h : Fs f then evp f (Classical.choose h) x else 0
theorem Yv {f : Pl α} {n : Nat} (hf : Su f n) (x : α) : vl_ f x = evp f n x := by
 have h : Fs f := ⟨n, hf⟩
 unfold vl_; rw [dif_pos h]; exact Jpg hf (Classical.choose_spec h) x
theorem vl_add {f g : Pl α} (hf : Fs f) (hg : Fs g) (x : α) : vl_ (f + g) x = vl_ f x + vl_ g x := by
 obtain ⟨n, hn⟩ := hf; obtain ⟨m, hm⟩ := hg; have h1 := hn.mono (show n <= max n m by omega); have h2 := hm.mono (show m <= max n m by omega); rw [Yv h1, Yv h2, Yv (h1.add h2), Jph]
theorem Jgq {f g : Pl α} (hf : Fs f) (hg : Fs g) (x : α) : vl_ (f * g) x = vl_ f x * vl_ g x := by
 obtain ⟨n, hn⟩ := hf; obtain ⟨m, hm⟩ := hg; rw [Yv hn, Yv hm, Yv ((hn.mul hm).mono (show n + m - 1 <= n + m by omega)), Jpf hn hm]
theorem vl_ct (a x : α) : vl_ (ct a) x = a := by
 rw [Yv (ct_su a)]; show (0 : α) + ct a 0 * 1 = a; rw [Cr.zero_add, Cr.mul_one]; rfl
theorem vl_one (x : α) : vl_ (1 : Pl α) x = 1 := vl_ct 1 x
/-! linear factors -/
def lin (a : α) : Pl α := fun i => if i = 0 then -a else if i = 1 then 1 else 0
theorem Yz (a : α) : Su (lin a) 2 := fun i hi => by unfold lin; rw [if_neg (by omega), if_neg (by omega)]
theorem Jll (a x : α) : vl_ (lin a) x = x - a := by
 rw [Yv (Yz a)]; show (0 : α) + lin a 0 * 1 + lin a 1 * (1 * x) = x - a; rw [Cr.zero_add, Cr.mul_one, Cr.one_mul]; show -a + 1 * x = x - a; rw [Cr.one_mul, Cr.add_comm]; rfl
def lpf (r : Pl α) : Nat -> Pl α
  | 0 => 1
  | k + 1 => lpf r k * lin (r k)
theorem Jby (r : Pl α) : ∀ k, Fs (lpf r k)
 | 0 => Fs.one
 | k + 1 => (Jby r k).mul ⟨2, Yz _⟩
theorem Jbx (r : Pl α) : ∀ k, Su (lpf r k) (k + 1)
 | 0 => Su.one
 | k + 1 => ((Jbx r k).mul (Yz _)).mono (by omega)
theorem Jja (r : Pl α) : ∀ k, lpf r k k = 1
 | 0 => rfl
 | k + 1 => by
  rw [lpf, Jds (Jbx r k) (Yz (r k)), Jja r k, Cr.one_mul]; rfl
/-! derivatives -/
def nt (x : α) : Nat -> α
  | 0 => 0
  | n + 1 => nt x n + x
end
section
variable {α : Type} [Cr α] [Fd α]
theorem Jck {x y : α} (h : x * y = 0) : x = 0 ∨ y = 0 := by
 by_cases h0 : x = 0
 .exact .inl h0
 .obtain ⟨z, hz⟩ := Fd.inv x h0; refine .inr ?_; rw [<- Cr.one_mul y, <- hz, Cr.mul_comm x, Cr.mul_assoc, h, Cr.mul_zero]
theorem Jlb {x y z : α} (hx : x ≠ 0) (h : x * y = x * z) : y = z := by
 have : x * (y - z) = 0 := by rw [Cr.mul_sub, h, Cr.sub_self]
 exact Cr.eq_of_sub ((Jck this).resolve_left hx)
theorem Dg.mul {f g : Pl α} {a b : Nat} (hf : Dg f a) (hg : Dg g b) : Dg (f * g) (a + b) :=
 ⟨fun h => by rw [Jds hf.2 hg.2] at h; rcases Jck h with h | h; exact hf.1 h; exact hg.1 h, (hf.2.mul hg.2).mono (by omega)⟩
theorem Pl.nzd {f g : Pl α} (hf : Fs f) (hg : Fs g) (h : f * g = 0) : f = 0 ∨ g = 0 := by
 obtain ⟨n, hn⟩ := hf; obtain ⟨m, hm⟩ := hg; rcases Jab hn with h1 | ⟨a, _, h1⟩
 .exact .inl h1
 .rcases Jab hm with h2 | ⟨b, _, h2⟩
  .exact .inr h2
  .exact absurd h (h1.mul h2).ne
theorem Pl.cancel {f g h : Pl α} (hf : Fs f) (hg : Fs g) (hh : Fs h) (h0 : f ≠ 0) (e : f * g = f * h) : g = h := by
 have : f * (g - h) = 0 := by rw [Cr.mul_sub, e, Cr.sub_self]
 exact Cr.eq_of_sub ((Pl.nzd hf (hg.sub hh) this).resolve_left h0)
theorem Jhn {q : Pl α} {d : Nat} (hq : Dg q d) : ∀ {n : Nat} {f : Pl α}, Su f n -> ∃ a r, Su a (n - d) /\ f = a * q + r /\ Su r d
 | 0, f, h => ⟨0, f, Su.zero _, by rw [Cr.zero_mul, Cr.zero_add], h.mono (Nat.zero_le d)⟩
 | n + 1, f, h => by
  rcases Nat.lt_or_ge n d with hnd | hnd
  .exact ⟨0, f, Su.zero _, by rw [Cr.zero_mul, Cr.zero_add], h.mono (by omega)⟩
  .obtain ⟨u, hu⟩ := Fd.inv (q d) hq.1; have hs : Su (f - mo (f n * u) (n - d) * q) n := fun i hi => by
    rw [Pl.sub_at, ZP, if_pos (by omega)]; by_cases e : i = n
    .rw [e, show n - (n - d) = d by omega, Cr.mul_assoc, Cr.mul_comm u, hu, Cr.mul_one, Cr.sub_self]
    .rw [h i (by omega), hq.2 (i - (n - d)) (by omega), Cr.mul_zero, Cr.sub_self]
   obtain ⟨a, r, h1, h2, h3⟩ := Jhn hq hs; refine ⟨a + mo (f n * u) (n - d), r, (h1.mono (by omega)).add ((Jc5 _ _).mono (by omega)), ?_, h3⟩; have e := (Cr.sub_add f (mo (f n * u) (n - d) * q)).symm; rw [h2] at e; refine e.trans ?_; rw [Cr.add_mul]
   ac_rfl
theorem Jfq {q a r a' r' : Pl α} {d : Nat} (hq : Dg q d) (ha : Fs a) (ha' : Fs a') (hr : Su r d) (hr' : Su r' d) (e : a * q + r = a' * q + r') : a = a' /\ r = r' := by
 have e1 : (a - a') * q = r' - r := by
  rw [Cr.sub_mul, Cr.sub_iff, Cr.sub_eq, Cr.add_assoc, Cr.add_comm (-r), <- Cr.add_assoc, Cr.add_comm r', <- e, Cr.add_assoc, Cr.add_neg, Cr.add_zero]
 have h0 : a - a' = 0 := by
  obtain ⟨n, hn⟩ := ha.sub ha'; rcases Jab hn with h | ⟨k, _, h⟩
  .exact h
  .have h1 := h.mul hq; rw [e1] at h1; have := h1.lt (hr'.sub hr); omega
 rw [h0, Cr.zero_mul] at e1; exact ⟨Cr.eq_of_sub h0, (Cr.eq_of_sub e1.symm).symm⟩
theorem Jl7 {q a r p : Pl α} {d : Nat} (hq : Dg q d) (ha : Fs a) (hr : Su r d) (e : p = a * q + r) : Dv q p ↔ r = 0 := by
 constructor
 .rintro ⟨h, hh, h1⟩; have := (Jfq hq ha hh hr (Su.zero d) (by rw [<- e, h1, Cr.add_zero, Cr.mul_comm])).2; exact this
 .rintro rfl; rw [Cr.add_zero] at e; exact ⟨a, ha, by rw [e, Cr.mul_comm]⟩
theorem Dv.dg {f g : Pl α} {a b : Nat} (h : Dv f g) (hf : Dg f a) (hg : Dg g b) : a <= b := by
 obtain ⟨k, ⟨n, hn⟩, rfl⟩ := h; rcases Jab hn with h1 | ⟨c, _, h1⟩
 .rw [h1, Cr.mul_zero] at hg; exact absurd rfl hg.ne
 .have := (hf.mul h1).uniq hg; omega
theorem Mn.uniq {f g : Pl α} (hf : Mn f) (hg : Mn g) (h1 : Dv f g) (h2 : Dv g f) : f = g := by
 obtain ⟨a, ha, ea⟩ := hf; obtain ⟨b, hb, eb⟩ := hg; have e1 := h1.dg ha hb; have e2 := h2.dg hb ha; obtain rfl : a = b := by omega
 obtain ⟨k, ⟨n, hn⟩, rfl⟩ := h1; rcases Jab hn with h | ⟨c, _, h⟩
 .rw [h, Cr.mul_zero] at hb; exact absurd rfl hb.ne
 .have hc := (ha.mul h).uniq hb; have hc0 : c = 0 := by omega
  subst hc0; have hk : k = ct (k 0) := Pl.ext fun i => by
   show _ = if i = 0 then k 0 else 0
   split
   .rename_i hi; rw [hi]
   .rename_i hi; exact h.2 i (by omega)
  have := Jds ha.2 h.2; rw [Nat.add_zero, eb, ea, Cr.one_mul] at this; rw [hk, <- this]; exact (Cr.mul_one f).symm
theorem Gd.uniq {p q d e : Pl α} (h1 : Gd p q d) (h2 : Gd p q e) (hd : Mn d) (he : Mn e) : d = e :=
 hd.uniq he (h2.2.2 d h1.1 h1.2.1) (h1.2.2 e h2.1 h2.2.1)
theorem Jb1 (a : α) : Dg (lin a) 1 := ⟨by show (1 : α) ≠ 0; exact Fd.ne, Yz a⟩
theorem lpf_dg (r : Pl α) (k : Nat) : Dg (lpf r k) k := ⟨by rw [Jja]; exact Fd.ne, Jbx r k⟩
theorem su_one {r : Pl α} (h : Su r 1) : r = ct (r 0) := Pl.ext fun i => by
 show _ = if i = 0 then r 0 else 0
 split
 .rename_i hi; rw [hi]
 .rename_i hi; exact h i (by omega)
/-- the remainder of a division by x - a is the value at a -/
theorem Jo4 {f b r : Pl α} {a : α} (hb : Fs b) (hr : Su r 1) (e : f = b * lin a + r) : r = ct (vl_ f a) := by
  have h1 := su_one hr
  have : vl_ f a = r 0 := by
    rw [e, vl_add (hb.mul ⟨2, Yz a⟩) ⟨1, hr⟩, Jgq hb ⟨2, Yz a⟩, Jll, Cr.sub_self, Cr.mul_zero, Cr.zero_add, h1, vl_ct]; rfl
  rw [this]; exact h1
theorem Jok {f : Pl α} {a : α} (hf : Fs f) (h : vl_ f a = 0) : Dv (lin a) f := by
 obtain ⟨n, hn⟩ := hf; obtain ⟨b, r, h1, h2, h3⟩ := Jhn (Jb1 a) hn; have h4 := Jo4 ⟨_, h1⟩ h3 h2; rw [h] at h4; refine ⟨b, ⟨_, h1⟩, ?_⟩; rw [h2, h4, Cr.mul_comm]; show _ + mo 0 0 = _; rw [Ji8, Cr.add_zero]
theorem Jdo (r : Pl α) (x : α) : ∀ k, vl_ (lpf r k) x = 0 ↔ ∃ i, i < k /\ r i = x
 | 0 => ⟨fun h => absurd (by rw [<- h]; exact (vl_one x).symm) (Fd.ne (α := α)), fun ⟨i, hi, _⟩ => by omega⟩
 | k + 1 => by
  rw [lpf, Jgq (Jby r k) ⟨2, Yz _⟩, Jll]; constructor
  .intro h; rcases Jck h with h | h
   .obtain ⟨i, hi, e⟩ := (Jdo r x k).1 h; exact ⟨i, by omega, e⟩
   .exact ⟨k, by omega, (Cr.eq_of_sub h).symm⟩
  .rintro ⟨i, hi, e⟩; by_cases hik : i = k
   .subst hik; rw [e, Cr.sub_self, Cr.mul_zero]
   .rw [(Jdo r x k).2 ⟨i, by omega, e⟩, Cr.zero_mul]
theorem Jmt {f : Pl α} (hf : Fs f) (r : Pl α) : ∀ k, (∀ i, i < k -> vl_ f (r i) = 0) -> (∀ i j, i < j -> j < k -> r i ≠ r j) -> Dv (lpf r k) f
 | 0, _, _ => ⟨f, hf, (Cr.one_mul f).symm⟩
 | k + 1, h, hd => by
  obtain ⟨g, hg, e⟩ := Jmt hf r k (fun i hi => h i (by omega)) (fun i j h1 h2 => hd i j h1 (by omega)); have h1 := h k (by omega); rw [e, Jgq (Jby r k) hg] at h1; rcases Jck h1 with h2 | h2
  .obtain ⟨i, hi, e2⟩ := (Jdo r (r k) k).1 h2; exact absurd e2 (hd i k hi (by omega))
  .obtain ⟨u, hu, e3⟩ := Jok hg h2; exact ⟨u, hu, by rw [e, e3, lpf, Cr.mul_assoc]⟩
open Classical in
/-- the monic greatest common divisor -/
noncomputable def gc (f g : Pl α) : Pl α := if h : ∃ d, Gd f g d /\ Fs d /\ (Mn d ∨ d = 0) then Classical.choose h else 0
open Classical in
noncomputable def qt (f g : Pl α) : Pl α := if h : ∃ a r d, Dg g d /\ Fs a /\ f = a * g + r /\ Su r d then Classical.choose h else 0
noncomputable def rm (f g : Pl α) : Pl α := f - qt f g * g
theorem Jiq {f g a r : Pl α} {d : Nat} (hg : Dg g d) (ha : Fs a) (e : f = a * g + r) (hr : Su r d) : qt f g = a /\ rm f g = r := by
 have h : ∃ a r d, Dg g d /\ Fs a /\ f = a * g + r /\ Su r d := ⟨a, r, d, hg, ha, e, hr⟩
 have hq : qt f g = a := by
  unfold qt; rw [dif_pos h]; obtain ⟨r', d', h1, h2, h3, h4⟩ := Classical.choose_spec h; obtain rfl := h1.uniq hg; exact (Jfq hg h2 ha h4 hr (by rw [<- h3, <- e])).1
 exact ⟨hq, by unfold rm; rw [hq, e, Cr.add_comm, Cr.add_sub]⟩
theorem Joo {f g : Pl α} {n d : Nat} (hf : Su f n) (hg : Dg g d) : Su (qt f g) (n - d) /\ f = qt f g * g + rm f g /\ Su (rm f g) d := by
 obtain ⟨a, r, h1, h2, h3⟩ := Jhn hg hf; obtain ⟨e1, e2⟩ := Jiq hg ⟨_, h1⟩ h2 h3; rw [e1, e2]; exact ⟨h1, h2, h3⟩
theorem Jol {f g : Pl α} {d : Nat} (hf : Fs f) (hg : Dg g d) : Dv g f ↔ rm f g = 0 := by
 obtain ⟨n, hn⟩ := hf; obtain ⟨h1, h2, h3⟩ := Joo hn hg; exact Jl7 hg ⟨_, h1⟩ h3 h2
open Classical in
noncomputable def Zb (x : α) : α := if h : ∃ y, x * y = 1 then Classical.choose h else 0
theorem Jas {x : α} (h : x ≠ 0) : x * Zb x = 1 := by
 have h := Fd.inv x h; unfold Zb; rw [dif_pos h]; exact Classical.choose_spec h
theorem Jmv {x y : α} (h : y * x = 1) : y = Zb x := by
 have h0 : x ≠ 0 := fun e => Fd.ne (α := α) (by rw [<- h, e, Cr.mul_zero]); exact Jlb h0 (by rw [Jas h0, Cr.mul_comm, h])
theorem inv_ne {x : α} (h : x ≠ 0) : Zb x ≠ 0 := fun e => Fd.ne (α := α) (by rw [<- Jas h, e, Cr.mul_zero])
theorem Dg.ct {f : Pl α} {d : Nat} {a : α} (h : Dg f d) (ha : a ≠ 0) : Dg (Go.Proofs.Ytopemhgpdlbkjaa.ct a * f) d :=
 ⟨fun e => by rw [Jb8] at e; rcases Jck e with e | e; exact ha e; exact h.1 e, h.2.ct a⟩
end
end Go.Proofs.Ytopemhgpdlbkjaa
namespace Go.Proofs.Ytopemhgpdlbkjaa
/-! ### the elements of a field, and lists of them as polynomials -/
structure Ks where
  p : Nat
  m : Nat
  v : Nat
  g : Nat
  p2 : 2 <= p
  m0 : 0 < m
  q256 : p ^ m <= 256
  R : CR (p ^ m) (JZ p m) (Jq p m (dv p v))
  G : Gn (p ^ m) (Jq p m (dv p v)) g
def Ks.E (k : Ks) : Type := {x : Nat // x < k.p ^ k.m}
instance (k : Ks) : Cr k.E where
  add x y := ⟨JZ k.p k.m x.1 y.1, k.R.Al _ _⟩
  mul x y := ⟨Jq k.p k.m (dv k.p k.v) x.1 y.1, k.R.Ml _ _⟩
  neg x := ⟨Jcq k.p k.m x.1, Jjf (by have := k.p2; omega) _⟩
  zero := ⟨0, k.R.pos⟩
  one := ⟨1, k.R.one_lt⟩
  ac x y := Subtype.ext (k.R.Ac _ _)
  aa x y z := Subtype.ext (k.R.Aa x.2 y.2 z.2)
  az x := Subtype.ext (k.R.Az x.2)
  an x := Subtype.ext (Jfp (by have := k.p2; omega) x.2)
  mc x y := Subtype.ext (k.R.Mc x.2 y.2)
  ma x y z := Subtype.ext (k.R.Ma x.2 y.2 z.2)
  m1 x := Subtype.ext (k.R.M1 x.2)
  md x y z := Subtype.ext (k.R.Md x.2 y.2 z.2)
theorem Ks.inv (k : Ks) (x : k.E) (h : x ≠ 0) : ∃ y : k.E, x * y = 1 := by
 have h0 : 0 < x.1 := Nat.pos_of_ne_zero fun e => h (Subtype.ext e); obtain ⟨a, ha, e⟩ := k.G.surj k.R h0 x.2; refine ⟨⟨pw (Jq k.p k.m (dv k.p k.v)) k.g (k.p ^ k.m - 1 - a), k.R.pw_lt _ _⟩, Subtype.ext ?_⟩; show Jq k.p k.m (dv k.p k.v) x.1 _ = 1; rw [<- e, <- k.R.pw_add k.G.lt, show a + (k.p ^ k.m - 1 - a) = k.p ^ k.m - 1 by omega, k.G.one]
instance (k : Ks) : Fd k.E where
  ne := fun h => absurd (congrArg Subtype.val h) (by show ¬ (1 : Nat) = 0; omega)
  inv := k.inv
namespace Ks
variable (k : Ks)
def el (x : Int) : k.E := ⟨inE (k.p ^ k.m) x, JU k.R.pos x⟩
def co (e : k.E) : Int := ((e.1 : Nat) : Int)
variable {k}
theorem co_lt (e : k.E) : 0 <= k.co e /\ k.co e < ((k.p ^ k.m : Nat) : Int) := ⟨Int.natCast_nonneg _, Int.ofNat_lt.2 e.2⟩
theorem el_co (e : k.E) : k.el (k.co e) = e := Subtype.ext (J4 e.2)
theorem co_el {x : Int} (h : 0 <= x /\ x < ((k.p ^ k.m : Nat) : Int)) : k.co (k.el x) = x := by
 show ((inE _ x : Nat) : Int) = x; unfold inE; rw [if_pos h]; omega
theorem co_inj {a b : k.E} (h : k.co a = k.co b) : a = b := Subtype.ext (Int.ofNat.inj h)
theorem co_eq0 {a : k.E} : k.co a = 0 ↔ a = 0 := ⟨fun h => co_inj h, fun h => by rw [h]; rfl⟩
theorem el_zero : k.el 0 = 0 := Subtype.ext (J4 (x := 0) k.R.pos)
theorem el_one : k.el 1 = 1 := Subtype.ext (J4 (x := 1) k.R.one_lt)
variable (k)
def pol (l : LI) : Pl k.E := fun i => k.el (vo l i)
def Ell (l : LI) : Prop := ∀ i, i < l.length -> 0 <= vo l i /\ vo l i < ((k.p ^ k.m : Nat) : Int)
/-- l is the canonical list of f -/
def Rp (l : LI) (f : Pl k.E) : Prop := k.Ell l /\ (0 < l.length -> vo l (l.length - 1) ≠ 0) /\ k.pol l = f
variable {k}
theorem pol_su (l : LI) : Su (k.pol l) l.length := fun i hi => by
 show k.el (vo l i) = 0; rw [Jer hi, el_zero]
theorem pol_fs (l : LI) : Fs (k.pol l) := ⟨_, pol_su l⟩
theorem Rp.su {l : LI} {f : Pl k.E} (h : k.Rp l f) : Su f l.length := by rw [<- h.2.2]; exact pol_su l
theorem Rp.dg {l : LI} {f : Pl k.E} (h : k.Rp l f) (h0 : 0 < l.length) : Dg f (l.length - 1) := by
 refine ⟨fun e => h.2.1 h0 ?_, by rw [show l.length - 1 + 1 = l.length by omega]; exact h.su⟩; rw [<- h.2.2] at e; have h1 := h.1 (l.length - 1) (by omega); have : k.co (k.el (vo l (l.length - 1))) = 0 := by
  show k.co (k.pol l (l.length - 1)) = 0; rw [e]; rfl
 rwa [co_el h1] at this
theorem Rp.at_ {l : LI} {f : Pl k.E} (h : k.Rp l f) {i : Nat} (hi : i < l.length) : vo l i = k.co (f i) := by
 rw [<- h.2.2]; exact (co_el (h.1 i hi)).symm
theorem Rp.len {l : LI} {f : Pl k.E} (h : k.Rp l f) {d : Nat} (hd : Dg f d) : l.length = d + 1 := by
 rcases Nat.eq_zero_or_pos l.length with h0 | h0
 .have := h.su; rw [h0] at this; exact absurd (this.eq0) hd.ne
 .have := (h.dg h0).uniq hd; omega
theorem Rp.uniq {l l' : LI} {f : Pl k.E} (h : k.Rp l f) (h' : k.Rp l' f) : l = l' := by
 have hl : l.length = l'.length := by
  rcases Nat.eq_zero_or_pos l'.length with h0 | h0
  .rcases Nat.eq_zero_or_pos l.length with h1 | h1
   .omega
   .have := h'.len (h.dg h1); omega
  .have := h.len (h'.dg h0); omega
 exact Q3 hl fun i hi => by rw [h.at_ hi, h'.at_ (by omega)]
theorem vo_map (f : Nat -> Int) (n i : Nat) : vo ((List.range n).map f) i = if i < n then f i else 0 := by
 unfold vo; rw [List.getD_eq_getElem?_getD, List.getElem?_map]; split
 .rename_i h; rw [List.getElem?_range h]; rfl
 .rename_i h; rw [List.getElem?_eq_none (by simp; omega)]; rfl
theorem rp_ex {f : Pl k.E} (hf : Fs f) : ∃ l, k.Rp l f := by
 obtain ⟨n, hn⟩ := hf; have key : ∀ d, (∀ h : 0 < d, f (d - 1) ≠ 0) -> Su f d -> k.Rp ((List.range d).map fun i => k.co (f i)) f := fun d h1 h2 => by
  have hl : ((List.range d).map fun i => k.co (f i)).length = d := by simp
  refine ⟨fun i hi => ?_, fun h0 => ?_, Pl.ext fun i => ?_⟩
  .rw [vo_map]; split
   .exact co_lt _
   .exact ⟨Int.le_refl 0, by have := k.R.pos; omega⟩
  .rw [hl] at h0 ⊢; rw [vo_map, if_pos (by omega)]; exact fun e => h1 h0 (co_eq0.1 e)
  .show k.el (vo _ i) = f i; rw [vo_map]; split
   .exact el_co _
   .rw [h2 i (by omega), el_zero]
 rcases Jab hn with h | ⟨d, _, h⟩
 .exact ⟨_, key 0 (fun h => absurd h (Nat.lt_irrefl 0)) (by rw [h]; exact Su.zero 0)⟩
 .exact ⟨_, key (d + 1) (fun _ => h.1) h.2⟩
variable (k)
open Classical in
/-- the canonical list -/
noncomputable def L (f : Pl k.E) : LI := if h : ∃ l, k.Rp l f then Classical.choose h else []
variable {k}
theorem L_rp {f : Pl k.E} (hf : Fs f) : k.Rp (k.L f) f := by
 have h := rp_ex hf; unfold L; rw [dif_pos h]; exact Classical.choose_spec h
theorem L_eq {l : LI} {f : Pl k.E} (h : k.Rp l f) : l = k.L f := h.uniq (L_rp ⟨_, h.su⟩)
theorem pol_L {f : Pl k.E} (hf : Fs f) : k.pol (k.L f) = f := (L_rp hf).2.2
theorem L_su {f : Pl k.E} (hf : Fs f) : Su f (k.L f).length := (L_rp hf).su
theorem L_len {f : Pl k.E} {n : Nat} (hf : Su f n) : (k.L f).length <= n := by
 rcases Nat.eq_zero_or_pos (k.L f).length with h | h
 .omega
 .have := ((L_rp ⟨n, hf⟩).dg h).lt hf; omega
theorem L_dg {f : Pl k.E} {d : Nat} (h : Dg f d) : (k.L f).length = d + 1 := (L_rp h.fs).len h
theorem L_zero : k.L 0 = [] := List.eq_nil_of_length_eq_zero (Nat.le_zero.1 (L_len (Su.zero 0)))
theorem L_len0 {f : Pl k.E} (hf : Fs f) : (k.L f).length = 0 ↔ f = 0 := ⟨fun h => by have := L_su hf; rw [h] at this; exact this.eq0, fun h => by rw [h, L_zero]; rfl⟩
theorem L_at {f : Pl k.E} (hf : Fs f) (i : Nat) : vo (k.L f) i = k.co (f i) := by
 by_cases h : i < (k.L f).length
 .exact (L_rp hf).at_ h
 .rw [Jer (by omega), L_su hf i (by omega)]; rfl
/-- what Degree answers -/
def DegI (f : Pl k.E) (r : Int) : Prop := (r = -1 /\ f = 0) ∨ ∃ d : Nat, r = d /\ Dg f d
theorem DegI.uniq {f : Pl k.E} {r r' : Int} (h : DegI f r) (h' : DegI f r') : r = r' := by
 rcases h with ⟨h1, h2⟩ | ⟨d, h1, h2⟩ <;> rcases h' with ⟨h3, h4⟩ | ⟨e, h3, h4⟩
 .omega
 .exact absurd h2 h4.ne
 .exact absurd h4 h2.ne
 .have := h2.uniq h4; omega
end Ks
end Go.Proofs.Ytopemhgpdlbkjaa
namespace Go.Proofs.Ytopemhgpdlbkjaa
open Ks
/-! ### the field's operations -/
section
variable {k : Ks} {F : GFv} {P M : Int} {mf : LI}
theorem w_Mul {x y : Int} {Q : Int -> Prop} (K : GFk F k.p k.m k.v k.g) (h : Q (k.co (k.el x * k.el y))) : Jdg F x y Q := v_Mul K h
theorem w_Add {x y : Int} {Q : Int -> Prop} (K : GFk F k.p k.m k.v k.g) (h : Q (k.co (k.el x + k.el y))) : Jdh F x y Q := v_Add K h
theorem w_Neg {x : Int} {Q : Int -> Prop} (K : GFk F k.p k.m k.v k.g) (h : Q (k.co (-(k.el x)))) : Jdf F x Q := v_Neg K h
theorem Jlf {x : Int} {Q : Int -> Prop} (hF : FV P M mf k.p k.m k.v) (h : Q (k.co (k.el x))) : Yu P M mf x Q := Jcx hF h
theorem Jgo {x y : Int} {Q : Int -> Prop} (hF : FV P M mf k.p k.m k.v) (h : Q (k.co (k.el x + k.el y))) : Zf P M mf x y Q := v_rAdd hF h
theorem ZD {x y : Int} {Q : Int -> Prop} (hF : FV P M mf k.p k.m k.v) (h : Q (k.co (k.el x * k.el y))) : QT P M mf x y Q := Jlr hF h
theorem Jle {x : Int} {Q : Int -> Prop} (hF : FV P M mf k.p k.m k.v) (h : Q (k.co (-(k.el x)))) : Z1 P M mf x Q := v_rNeg hF h
theorem w_rInv {x : Int} {Q : Int -> Prop} (hF : FV P M mf k.p k.m k.v) (hx : k.el x ≠ 0) (h : Q (k.co (Zb (k.el x)))) : Jen P M mf x Q := by
 have hq := k.q256; have hlt := (Zb (k.el x)).2; have hpos : 0 < (Zb (k.el x)).1 := Nat.pos_of_ne_zero fun e => inv_ne hx (Subtype.ext e); refine ⟨fun z => ∃ j : Nat, z = j /\ 1 <= j /\ j <= (Zb (k.el x)).1, fun z => (300 - z).toNat, ⟨1, rfl, Nat.le_refl _, hpos⟩, ?_⟩; rintro _ ⟨j, rfl, h1, h2⟩; dsimp only; refine Zk ?_; rw [hF.ord]; refine ⟨fun hlt2 => ZD hF ⟨fun h3 => ?_, fun h3 => ⟨Jo (by omega) (by omega), ⟨j + 1, by push_cast; rfl, by omega, ?_⟩, by omega⟩⟩, fun hge => by omega⟩
 .have e : k.el (j : Int) * k.el x = 1 := by rw [Cr.mul_comm]; exact co_inj h3
  rw [<- Jmv e] at h
  rwa [co_el ⟨by omega, hlt2⟩] at h
 .rcases Nat.lt_or_ge j (Zb (k.el x)).1 with h4 | h4
  .exact h4
  .exfalso; have e : k.el (j : Int) = Zb (k.el x) := by
    have : (j : Int) = k.co (Zb (k.el x)) := by show (j : Int) = (((Zb (k.el x)).1 : Nat) : Int); omega
    rw [this, el_co]
   rw [e, Jas hx] at h3; exact h3 rfl
/-! ### lists that a loop fills -/
def Fill (val : Nat -> Int) (n : Nat) (x : LI) (z : Int) : Prop := ∃ j : Nat, z = j /\ j <= n /\ x.length = n /\ ∀ i, i < j -> vo x i = val i
theorem Zi (val : Nat -> Int) (n : Nat) : Fill val n (List.replicate n (0 : Int)) 0 := ⟨0, rfl, Nat.zero_le _, List.length_replicate, fun i hi => by omega⟩
theorem Fill.step {val : Nat -> Int} {n j : Nat} {x : LI} (h : Fill val n x j) (hj : j < n) {u : Int} (hu : u = val j) : Fill val n (si x j u) ((j : Int) + 1) := by
 obtain ⟨i, e, h1, h2, h3⟩ := h; obtain rfl : j = i := by omega
 refine ⟨j + 1, by push_cast; rfl, hj, by rw [JR, List.length_set, h2], fun i hi => ?_⟩; rw [JR, JQ]; by_cases e2 : j = i
 .subst e2; rw [if_pos ⟨rfl, by omega⟩, hu]
 .rw [if_neg (fun h => e2 h.1)]; exact h3 i (by omega)
theorem Zo {x : LI} {n : Nat} {f : Pl k.E} (hl : x.length = n) (hv : ∀ i, i < n -> vo x i = k.co (f i)) (hs : Su f n) : k.Ell x /\ k.pol x = f := by
 refine ⟨fun i hi => by rw [hv i (by omega)]; exact co_lt _, Pl.ext fun i => ?_⟩; show k.el (vo x i) = f i; by_cases hi : i < n
 .rw [hv i hi, el_co]
 .rw [Jer (by omega), hs i (by omega), el_zero]
theorem Jis (p t : LI) : Su (k.pol p) (max p.length t.length) /\ Su (k.pol t) (max p.length t.length) := ⟨(pol_su p).mono (by omega), (pol_su t).mono (by omega)⟩
def trn (f : Pl k.E) (j : Nat) : Pl k.E := fun i => if i < j then f i else 0
theorem Jcl {s p : LI} {o : Nat} {a : Int} {Q : LI -> Prop} (K : GFk F k.p k.m k.v k.g) (hs : s.length <= 100000) (hp : o + p.length <= s.length) (he : k.Ell s)
  (h : ∀ x, x.length = s.length -> k.Ell x -> k.pol x = k.pol s + mo (k.el a) o * k.pol p -> Q x) : QD F s o a p Q := by
 refine ⟨fun ha => h s rfl he ?_, fun ha => ?_⟩
 .rw [ha, el_zero, Ji8, Cr.zero_mul, Cr.add_zero]
 .have hsum : ∀ j, j <= p.length -> ∀ i, (if o <= i /\ i < o + j then k.pol s i + k.el a * k.pol p (i - o) else k.pol s i) = (k.pol s + mo (k.el a) o * trn (k.pol p) j) i := fun j hj i => by
   rw [Pl.add_at, ZP]; unfold trn; by_cases h1 : o <= i
   .by_cases h2 : i < o + j
    .rw [if_pos ⟨h1, h2⟩, if_pos h1, if_pos (by omega)]
    .rw [if_neg (by omega), if_pos h1, if_neg (by omega), Cr.mul_zero, Cr.add_zero]
   .rw [if_neg (by omega), if_neg h1, Cr.add_zero]
  refine ⟨fun x z => ∃ j : Nat, z = j /\ j <= p.length /\ x.length = s.length /\ ∀ i, i < s.length -> vo x i = k.co (if o <= i /\ i < o + j then k.pol s i + k.el a * k.pol p (i - o) else k.pol s i), fun x z => (p.length - z).toNat,
   ⟨0, rfl, Nat.zero_le _, rfl, fun i hi => by rw [if_neg (by omega)]; exact (co_el (he i hi)).symm⟩, ?_⟩
  rintro x _ ⟨j, rfl, hj, hl, hv⟩; dsimp only; rw [Jy, Int.toNat_natCast]; refine ⟨fun hz => ⟨⟨by omega, by omega⟩, ⟨by omega, by omega⟩, _, w_Mul K rfl, _, w_Add K rfl, ⟨by omega, by omega⟩, Jo (by omega) (by omega), ⟨j + 1, by push_cast; rfl, by omega, by rw [JR, List.length_set, hl], fun i hi => ?_⟩, by omega⟩, fun hz => ?_⟩
  .rw [JR, JQ, Jy]; by_cases e : o + j = i
   .subst e; rw [if_pos ⟨rfl, by omega⟩, if_pos ⟨by omega, by omega⟩, hv _ (by omega), if_neg (by omega), el_co, el_co, show o + j - o = j by omega]; rfl
   .rw [if_neg (fun h => e h.1), hv i hi]
    congr 1
    by_cases h1 : o <= i /\ i < o + j
    .rw [if_pos h1, if_pos (by omega)]
    .rw [if_neg h1, if_neg (by omega)]
  .have hjp : j = p.length := by omega
   subst hjp; have hsu : Su (k.pol s + mo (k.el a) o * k.pol p) s.length := ((pol_su s)).add (((Jc5 (k.el a) o).mul (pol_su p)).mono (by omega)); obtain ⟨h1, h2⟩ := Zo (f := k.pol s + mo (k.el a) o * k.pol p) hl (fun i hi => by
    rw [hv i hi, hsum p.length (Nat.le_refl _) i]; have : trn (k.pol p) p.length = k.pol p := Pl.ext fun i => by
     unfold trn; split
     .rfl
     .rename_i hc; exact (pol_su p i (by omega)).symm
    rw [this]) hsu
   exact h x hl h1 h2
end
end Go.Proofs.Ytopemhgpdlbkjaa
namespace Go.Proofs.Ytopemhgpdlbkjaa
open Ks
/-! ### products, quotients, greatest common divisors -/
section
variable {k : Ks} {F : GFv} {P M : Int} {mf : LI}
theorem Jbe (f : Pl k.E) (j : Nat) : trn f (j + 1) = trn f j + mo (f j) j := Pl.ext fun i => by
 rw [Pl.add_at]; unfold trn mo; by_cases h : i < j
 .rw [if_pos (by omega), if_pos h, if_neg (by omega), Cr.add_zero]
 .by_cases h2 : i = j
  .rw [if_pos (by omega), if_neg h, if_pos h2, Cr.zero_add, h2]
  .rw [if_neg (by omega), if_neg h, if_neg h2, Cr.add_zero]
theorem Jdr {f : Pl k.E} {n : Nat} (h : Su f n) : trn f n = f := Pl.ext fun i => by
 unfold trn; split
 .rfl
 .rename_i hc; exact (h i (by omega)).symm
theorem Jbd (f : Pl k.E) : trn f 0 = 0 := Pl.ext fun i => if_neg (Nat.not_lt_zero i)
theorem Jau (n : Nat) : k.Ell (List.replicate n (0 : Int)) := fun i hi => by rw [Ja6]; exact ⟨Int.le_refl 0, by have := k.R.pos; omega⟩
theorem YJ (n : Nat) : k.pol (List.replicate n (0 : Int)) = 0 := Pl.ext fun i => by show k.el (vo _ i) = 0; rw [Ja6, el_zero]
theorem Jgt {x : LI} {n : Nat} (hn : x.length = n) (h : k.pol x (n - 1) ≠ 0) : 0 < x.length -> vo x (x.length - 1) ≠ 0 := fun _ e => h (by
 show k.el (vo x (n - 1)) = 0; rw [hn] at e; rw [e, el_zero])
theorem Jn5 {f h : Pl k.E} {Q : LI -> Prop} (K : GFk F k.p k.m k.v k.g) (hf : Fs f) (hh : Fs h) (h1 : (k.L f).length <= 40000) (h2 : (k.L h).length <= 40000) (hQ : Q (k.L (f * h))) : Jay F (k.L f) (k.L h) Q := by
 refine ⟨fun e => ?_, fun e => ⟨fun e2 => ?_, fun e2 => ?_⟩⟩
 .rw [(L_len0 hf).1 (by omega), Cr.zero_mul, L_zero] at hQ; exact hQ
 .rw [(L_len0 hh).1 (by omega), Cr.mul_zero, L_zero] at hQ; exact hQ
 .obtain ⟨a, ha⟩ : ∃ a, Dg f a := ⟨_, (L_rp hf).dg (by omega)⟩
  obtain ⟨b, hb⟩ : ∃ b, Dg h b := ⟨_, (L_rp hh).dg (by omega)⟩
  have la := L_dg ha; have lb := L_dg hb; have hab := ha.mul hb; have hn : (((k.L f).length : Nat) : Int) + (((k.L h).length : Nat) : Int) - 1 = ((a + b + 1 : Nat) : Int) := by omega
  rw [hn, Int.toNat_natCast]; refine ⟨Jo (by omega) (by omega), Jo (by omega) (by omega), ⟨by omega, by omega, by omega⟩, fun x z => ∃ j : Nat, z = j /\ j <= b + 1 /\ x.length = a + b + 1 /\ k.Ell x /\ k.pol x = trn h j * f, fun x z => (b + 1 - z).toNat,
   ⟨0, rfl, Nat.zero_le _, List.length_replicate, Jau _, by rw [YJ, Jbd, Cr.zero_mul]⟩, ?_⟩
  rintro x _ ⟨j, rfl, hj, hl, he, hp⟩; dsimp only; refine ⟨fun hz => ⟨⟨by omega, by omega⟩, ⟨by omega, by omega⟩, ?_⟩, fun hz => ?_⟩
  .rw [Int.toNat_natCast]; refine Jcl K (by omega) (by omega) he fun x' hl' he' hp' => ⟨Jo (by omega) (by omega), ⟨j + 1, by push_cast; rfl, by omega, by omega, he', ?_⟩, by omega⟩
   rw [hp', hp, Jbe, Cr.add_mul, Jy, L_at hh, el_co, pol_L hf]
  .have hjb : j = b + 1 := by omega
   subst hjb; rw [Jdr hb.2, Cr.mul_comm] at hp; have : x = k.L (f * h) := L_eq ⟨he, Jgt hl (by rw [hp]; exact hab.1), hp⟩; rw [this]; exact hQ
theorem L_one : k.L 1 = [1] := by
 refine (L_eq ⟨fun i hi => ?_, fun _ => ?_, Pl.ext fun i => ?_⟩).symm
 .have : i = 0 := by simp at hi; exact hi
  subst this; exact ⟨by decide, Int.ofNat_lt.2 k.R.one_lt⟩
 .decide
 .show k.el (vo [1] i) = if i = 0 then 1 else 0
  by_cases h : i = 0
  .subst h; exact el_one
  .rw [if_neg h, Jer (by simp; omega), el_zero]
theorem L_two {f : Pl k.E} (h : Dg f 1) : k.L f = [k.co (f 0), k.co (f 1)] := by
 refine Q3 (by rw [L_dg h]; rfl) fun i hi => ?_; rw [L_dg h] at hi; rw [L_at h.fs]
 match i, hi with
 | 0, _ => rfl
 | 1, _ => rfl
theorem L_lin (a : k.E) : k.L (lin a) = [k.co (-a), 1] := L_two (Jb1 a)
variable (k) in
def lpm (fs : LL) : Nat -> Pl k.E
  | 0 => 1
  | n + 1 => lpm fs n * k.pol (gl fs n)
end
end Go.Proofs.Ytopemhgpdlbkjaa
namespace Go.Proofs.Ytopemhgpdlbkjaa
open Ks
/-! ### greatest common divisors, values, derivatives, roots -/
section
variable {k : Ks} {F : GFv} {P M : Int} {mf : LI}
/-- what cofactor answers -/
structure Cof (f h d u : Pl k.E) : Prop where
  fu : Fs u
  ex : ∃ v, Fs v /\ d = u * f + v * h
  z0 : h = 0 -> f = 0 -> u = 0
  z1 : h = 0 -> f ≠ 0 -> ∃ c, c ≠ 0 /\ u = ct c
  dg : ∀ b e, Dg h b -> Dg d e -> Su u (b - e)
theorem Jeq {rs : LI} {Q : LI -> Prop} (K : GFk F k.p k.m k.v k.g) (hn : rs.length <= 1000) (h : Q (k.L (lpf (k.pol rs) rs.length))) : Q1 F rs Q := by
 refine ⟨fun x z => ∃ j : Nat, z = j /\ j <= rs.length /\ x = k.L (lpf (k.pol rs) j), fun x z => (rs.length - z).toNat, ⟨0, rfl, Nat.zero_le _, L_one.symm⟩, ?_⟩; rintro _ _ ⟨j, rfl, hj, rfl⟩; dsimp only; refine ⟨fun hz => ⟨⟨by omega, by omega⟩, w_Neg K ?_⟩, fun hz => ?_⟩
 .have e : ([k.co (-(k.el (gi rs (j : Int)))), 1] : LI) = k.L (lin (k.pol rs j)) := (L_lin _).symm; rw [e]; exact Jn5 K (Jby _ _) (Jb1 _).fs (Nat.le_trans (L_len (Jbx _ j)) (by omega)) (by rw [L_dg (Jb1 _)]; omega) ⟨Jo (by omega) (by omega), ⟨j + 1, by push_cast; rfl, by omega, rfl⟩, by omega⟩
 .rw [show j = rs.length by omega]; exact h
variable (k) in
def rvs (f : Pl k.E) (n : Nat) : Pl k.E := fun i => if i <= n then f (n - i) else 0
variable (k) in
open Classical in
/-- the roots among the elements below n -/
noncomputable def rts (f : Pl k.E) : Nat -> LI
  | 0 => []
  | n + 1 => if vl_ f (k.el (n : Int)) = 0 then rts f n ++ [(n : Int)] else rts f n
end
end Go.Proofs.Ytopemhgpdlbkjaa
namespace Go.Proofs.Ytopemhgpdlbkjaa
open Ks
/-! ### derivatives, interpolation -/
section
variable {k : Ks} {F : GFv} {P M : Int} {mf : LI}
/-! ### the reference's polynomials -/
theorem QF {p : LI} {Q : LI -> Prop} (hF : FV P M mf k.p k.m k.v) (hp : p.length <= 1000000) (h : Q (k.L (k.pol p))) : Qd P M mf p Q := by
  refine ⟨fun z i => ∃ n j : Nat, z = n /\ i = j /\ j <= p.length /\ n <= j /\ (∀ t, n <= t -> t < j -> k.pol p t = 0) /\ (0 < n -> k.pol p (n - 1) ≠ 0), fun z i => (p.length - i).toNat, ⟨0, 0, rfl, rfl, Nat.zero_le _, Nat.le_refl _, fun t _ h => by omega, fun h => by omega⟩, ?_⟩
  rintro _ _ ⟨n, j, rfl, rfl, hj, hnj, hz, hn0⟩
  dsimp only
  refine ⟨fun hlt => ⟨fun z _ => ∃ n' : Nat, z = n' /\ n' <= j + 1 /\ (∀ t, n' <= t -> t < j + 1 -> k.pol p t = 0) /\ (0 < n' -> k.pol p (n' - 1) ≠ 0), ⟨⟨by omega, by omega⟩, _, Jlf hF rfl, fun hne => ⟨Jo (by omega) (by omega), j + 1, by push_cast; rfl, Nat.le_refl _, fun t _ _ => by omega, fun _ => ?_⟩, fun he => ⟨n, rfl, by omega, fun t h1 h2 => ?_, hn0⟩⟩, ?_⟩, fun hge => ?_⟩
  . rw [Nat.add_sub_cancel]; exact fun e => hne (co_eq0.2 e)
  . by_cases e : t = j
    . have he2 : k.co (k.el (gi p (j : Int))) = 0 := by simpa using he
      rw [e]; exact co_eq0.1 he2
    . exact hz t h1 (by omega)
  . rintro _ b ⟨n', rfl, h1, h2, h3⟩
    exact ⟨Jo (by omega) (by omega), ⟨n', j + 1, rfl, by push_cast; rfl, by omega, h1, h2, h3⟩, by omega⟩
  . have hjp : j = p.length := by omega
    subst hjp
    have hsu : Su (k.pol p) n := fun i hi => by
      by_cases h1 : i < p.length
      . exact hz i hi h1
      . exact pol_su p i (by omega)
    rw [Int.toNat_natCast]
    refine ⟨⟨by omega, by omega, by omega⟩, Fill (fun i => k.co (k.pol p i)) n, fun x z => (n - z).toNat, Zi _ n, ?_⟩
    rintro x _ ⟨j, rfl, hj2, hl, hv⟩
    dsimp only
    refine ⟨fun hlt => ⟨⟨by omega, by omega⟩, _, Jlf hF rfl, ⟨by omega, by omega⟩, Jo (by omega) (by omega), Fill.step ⟨j, rfl, hj2, hl, hv⟩ (by omega) rfl, by omega⟩, fun hge2 => ?_⟩
    obtain ⟨he, hpol⟩ := Zo hl (fun i hi => hv i (by omega)) hsu
    have : x = k.L (k.pol p) := L_eq ⟨he, fun h0 => ?_, hpol⟩
    . rw [this]; exact h
    . refine Jgt (k := k) hl ?_ h0
      rw [hpol]; exact hn0 (by omega)
theorem w_rat {p : LI} {i : Nat} {Q : Int -> Prop} (hF : FV P M mf k.p k.m k.v) (h : Q (k.co (k.pol p i))) : Jgg P M mf p i Q := by
 refine ⟨fun h0 => by omega, fun _ => ⟨fun h1 => ?_, fun h1 => ⟨⟨by omega, by omega⟩, _, Jlf hF rfl, h⟩⟩⟩; rw [pol_su p i (by omega)] at h; exact h
theorem Jn7 {p t : LI} {Q : LI -> Prop} (hF : FV P M mf k.p k.m k.v) (hp : p.length <= 100000) (ht : t.length <= 100000) (h : Q (k.L (k.pol p + k.pol t))) : Zy P M mf p t Q := by
 have hm : max (p.length : Int) (t.length : Int) = ((max p.length t.length : Nat) : Int) := by omega
 have hs := (Jis (k := k) p t).1.add (Jis p t).2; unfold Zy; rw [hm]; generalize hn : max p.length t.length = n at *
 rw [Int.toNat_natCast]; refine ⟨⟨by omega, by omega, by omega⟩, Fill (fun i => k.co ((k.pol p + k.pol t) i)) n, fun x z => (n - z).toNat, Zi _ n, ?_⟩; rintro x _ ⟨j, rfl, hj, hl, hv⟩; dsimp only; refine ⟨fun hz => ⟨_, w_rat hF rfl, _, w_rat hF rfl, _, Jgo hF rfl, ⟨by omega, by omega⟩, Jo (by omega) (by omega), Fill.step ⟨j, rfl, hj, hl, hv⟩ (by omega) ?_, by omega⟩, fun hz => ?_⟩
 .rw [el_co, el_co]; rfl
 .obtain ⟨he, hpol⟩ := Zo (k := k) hl (fun i hi => hv i (by omega)) hs; refine QF hF (by omega) ?_; rw [hpol]; exact h
theorem Jct {p : LI} {a : Int} {Q : LI -> Prop} (hF : FV P M mf k.p k.m k.v) (hp : p.length <= 100000) (h : Q (k.L (ct (k.el a) * k.pol p))) : QL P M mf a p Q := by
 unfold QL; refine ⟨⟨by omega, by omega, by omega⟩, ?_⟩; rw [Int.toNat_natCast]; refine ⟨Fill (fun i => k.co ((ct (k.el a) * k.pol p) i)) p.length, fun x z => (p.length - z).toNat, Zi _ _, ?_⟩; rintro x _ ⟨j, rfl, hj, hl, hv⟩; dsimp only; refine ⟨fun hz => ⟨⟨by omega, by omega⟩, _, ZD hF rfl, ⟨by omega, by omega⟩, Jo (by omega) (by omega), Fill.step ⟨j, rfl, hj, hl, hv⟩ (by omega) ?_, by omega⟩, fun hz => ?_⟩
 .rw [Jb8, Jy]; rfl
 .obtain ⟨he, hpol⟩ := Zo (k := k) hl (fun i hi => hv i (by omega)) ((pol_su p).ct _); refine QF hF (by omega) ?_; rw [hpol]; exact h
theorem Jpj (f : Pl k.E) : ct (-(1 : k.E)) * f = -f := Pl.ext fun i => by rw [Jb8, Cr.neg_mul, Cr.one_mul]; rfl
theorem Jn6 {p t : LI} {Q : LI -> Prop} (hF : FV P M mf k.p k.m k.v) (hp : p.length <= 100000) (ht : t.length <= 100000) (h : Q (k.L (k.pol p - k.pol t))) : Jaz P M mf p t Q := by
 have hl := L_len (k := k) ((pol_su (k := k) t).ct (k.el (k.co (-(k.el 1))))); refine ⟨_, Jle hF rfl, _, Jct hF ht rfl, _, Jn7 hF hp (by omega) rfl, ?_⟩; rw [pol_L ((Fs.ct _).mul (pol_fs t)), el_co, el_one, Jpj]; exact h
theorem mo_mo (a b : k.E) (i j : Nat) : mo a i * mo b j = mo (a * b) (i + j) := Pl.ext fun t => by
 rw [ZP]; unfold mo; by_cases h : i <= t
 .rw [if_pos h]; by_cases h2 : t - i = j
  .rw [if_pos h2, if_pos (by omega)]
  .rw [if_neg h2, if_neg (by omega), Cr.mul_zero]
 .rw [if_neg h, if_neg (by omega)]
theorem Jg2 {x : LI} {i : Nat} {a : k.E} (hi : i < x.length) : k.pol (si x (i : Int) (k.co (k.pol x i + a))) = k.pol x + mo a i := Pl.ext fun j => by
 show k.el (vo _ j) = _; rw [JR, JQ, Pl.add_at]; unfold mo; by_cases h : i = j
 .subst h; rw [if_pos ⟨rfl, hi⟩, if_pos rfl, el_co]
 .rw [if_neg (fun e => h e.1), if_neg (Ne.symm h), Cr.add_zero]; rfl
theorem Jhm {x : LI} {i : Nat} {a : k.E} (he : k.Ell x) : k.Ell (si x (i : Int) (k.co a)) := fun j hj => by
 rw [JR, List.length_set] at hj; rw [JR, JQ]; split
 .exact co_lt a
 .exact he j hj
theorem Jia {p t : LI} {Q : LI -> Prop} (hF : FV P M mf k.p k.m k.v) (hp : p.length <= 40000) (ht : t.length <= 40000) (hQ : Q (k.L (k.pol p * k.pol t))) : Zx P M mf p t Q := by
 have hcp := L_len (pol_su (k := k) p); have hct := L_len (pol_su (k := k) t); refine QF hF (by omega) (QF hF (by omega) ?_); have hff := pol_fs (k := k) p; have hhf := pol_fs (k := k) t; generalize hf : k.pol p = f at *
 generalize hh : k.pol t = h at *
 have hfs := L_su hff; have hhs := L_su hhf; generalize ha : (k.L f).length = a at *
 generalize hb : (k.L h).length = b at *
 rw [show (a : Int) + (b : Int) = ((a + b : Nat) : Int) by push_cast; rfl, Int.toNat_natCast]; refine ⟨Jo (by omega) (by omega), ⟨by omega, by omega, by omega⟩, fun x z => ∃ i : Nat, z = i /\ i <= a /\ x.length = a + b /\ k.Ell x /\ k.pol x = trn f i * h, fun x z => (a - z).toNat,
  ⟨0, rfl, Nat.zero_le _, List.length_replicate, Jau _, by rw [YJ, Jbd, Cr.zero_mul]⟩, ?_⟩
 rintro x _ ⟨i, rfl, hi, hl, he, hx⟩; dsimp only; refine ⟨fun hz => ⟨fun x z => ∃ j : Nat, z = j /\ j <= b /\ x.length = a + b /\ k.Ell x /\ k.pol x = trn f i * h + mo (f i) i * trn h j, fun x z => (b - z).toNat, ⟨0, rfl, Nat.zero_le _, hl, he, by rw [hx, Jbd, Cr.mul_zero, Cr.add_zero]⟩, ?_⟩, fun hz => ?_⟩
 .rintro y _ ⟨j, rfl, hj, hl2, he2, hy⟩; dsimp only; refine ⟨fun hz2 => ?_, fun hz2 => ⟨Jo (by omega) (by omega), ⟨i + 1, by push_cast; rfl, by omega, hl2, he2, ?_⟩, by omega⟩⟩
  .rw [show (i : Int) + (j : Int) = ((i + j : Nat) : Int) by push_cast; rfl]; refine ⟨Jo (by omega) (by omega), Jo (by omega) (by omega), ⟨by omega, by omega⟩, ⟨by omega, by omega⟩, ⟨by omega, by omega⟩, _, ZD hF rfl, _, Jgo hF rfl, ⟨by omega, by omega⟩, Jo (by omega) (by omega), ⟨j + 1, by push_cast; rfl, by omega, by rw [JR, List.length_set, hl2], ?_, ?_⟩, by omega⟩
   .exact Jhm he2
   .rw [Jy, Jy, Jy, L_at hff, L_at hhf, el_co, el_co, el_co]; have e1 : k.pol (si y ((i + j : Nat) : Int) (k.co (k.el (vo y (i + j)) + f i * h j))) = k.pol y + mo (f i * h j) (i + j) := Jg2 (by omega); rw [e1, hy, Jbe, Cr.mul_add, mo_mo, Cr.add_assoc]
  .rw [hy, show j = b by omega, Jdr hhs, Jbe, Cr.add_mul]
 .rw [show i = a by omega, Jdr hfs] at hx; refine QF hF (by omega) ?_; rw [hx]; exact hQ
theorem Jld {n : Nat} {Q : LI -> Prop} (hn : n <= 100000) (h : Q (k.L (mo 1 n))) : Ya n Q := by
 rw [show Ya n Q = _ from rfl]; unfold Ya; rw [show (n : Int) + 1 = ((n + 1 : Nat) : Int) by push_cast; rfl, Int.toNat_natCast]; refine ⟨Jo (by omega) (by omega), ⟨by omega, by omega, by omega⟩, ⟨by omega, by omega⟩, ?_⟩; have hl : (List.replicate (n + 1) (0 : Int)).length = n + 1 := List.length_replicate; have e := Jg2 (k := k) (x := List.replicate (n + 1) (0 : Int)) (i := n) (a := 1) (by omega); have e2 : k.co (k.pol (List.replicate (n + 1) (0 : Int)) n + 1) = 1 := by rw [YJ]; show k.co (0 + 1) = 1; rw [Cr.zero_add]; rfl
 rw [e2, YJ, Cr.zero_add] at e; have : si (List.replicate (n + 1) (0 : Int)) (n : Int) 1 = k.L (mo 1 n) := L_eq ⟨?_, fun h0 => ?_, e⟩
 .rw [this]; exact h
 .have := Jhm (k := k) (x := List.replicate (n + 1) (0 : Int)) (i := n) (a := 1) (Jau _); exact this
 .refine Jgt (k := k) (n := n + 1) (by rw [JR, List.length_set, hl]) ?_ h0; rw [e, Nat.add_sub_cancel, mo, if_pos rfl]; exact Fd.ne
end
end Go.Proofs.Ytopemhgpdlbkjaa
namespace Go.Proofs.Ytopemhgpdlbkjaa
open Ks
/-! ### the reference's quotients, values; what the laws ask first -/
section
variable {k : Ks} {F : GFv} {P M : Int} {mf : LI}
theorem Ji9 (c : k.E) (h : Pl k.E) (n t : Nat) : (ct c * h * mo (1 : k.E) n) t = if n <= t then c * h (t - n) else 0 := by
 rw [Cr.mul_comm, ZP]; split
 .rw [Cr.one_mul, Jb8]
 .rfl
theorem Jjx {p t : LI} {Q : LI × LI -> Prop} (hF : FV P M mf k.p k.m k.v) (hp : p.length <= 10000) (ht : t.length <= 10000) (h0 : k.pol t ≠ 0) (hQ : Q (k.L (qt (k.pol p) (k.pol t)), k.L (rm (k.pol p) (k.pol t)))) : YV P M mf p t Q := by
 have hcp := L_len (pol_su (k := k) p); have hct := L_len (pol_su (k := k) t); refine QF hF (by omega) (QF hF (by omega) ?_); obtain ⟨d, hd⟩ : ∃ d, Dg (k.pol t) d := by
  rcases Jab (pol_su (k := k) t) with h | ⟨d, _, h⟩
  .exact absurd h h0
  .exact ⟨d, h⟩
 have hdl := L_dg hd; have hff := pol_fs (k := k) p; generalize hf : k.pol p = f at *
 generalize hh : k.pol t = h at *
 generalize hm : (k.L f).length = m at *
 have hfm : Su f m := by rw [<- hm]; exact L_su hff
 rw [hdl, show (((d + 1 : Nat) : Int) - 1) = (d : Int) by omega]; obtain ⟨n, hn, hnm⟩ : ∃ n : Nat, max ((m : Int) - (d : Int)) 0 = n /\ n = m - d := ⟨m - d, by omega, rfl⟩
 rw [hn, Int.toNat_natCast]; refine ⟨Jo (by omega) (by omega), ⟨by omega, by omega⟩, _, w_rInv hF ?_ rfl, Jo (by omega) (by omega), ⟨by omega, by omega, by omega⟩, ?_⟩
 .rw [Jy, L_at hd.fs, el_co]; exact hd.1
 rw [Jy, L_at hd.fs, el_co]; refine ⟨fun xq xr => ∃ r, Su r m /\ xr = k.L r /\ xq.length = n /\ k.Ell xq /\ f = k.pol xq * h + r /\ ∀ j, j + d < (k.L r).length -> k.pol xq j = 0, fun xq xr => xr.length, ⟨f, hfm, rfl, List.length_replicate, Jau n, by rw [YJ, Cr.zero_mul, Cr.zero_add], fun j _ => by rw [YJ]; rfl⟩, ?_⟩; rintro xq _ ⟨r, hrs, rfl, hql, hqe, hfe, hq0⟩; dsimp only; have hlr := L_len (k := k) hrs; refine ⟨fun hlt => ?_, fun hge => ?_⟩
 .obtain ⟨e, he⟩ : ∃ e, Dg r e := ⟨_, (L_rp ⟨m, hrs⟩).dg (by omega)⟩
  have hel := L_dg he; rw [hel] at hlt hlr hq0; have e1 : (((e + 1 : Nat) : Int) - 1) = (e : Int) := by omega
  have e2 : (e : Int) - (d : Int) = ((e - d : Nat) : Int) := by omega
  rw [hel, e1, e2]; have hval : k.el (gi (k.L r) (e : Int)) = r e := by rw [Jy, L_at he.fs, el_co]
  have hdt := hd.lt (show Su h t.length by rw [<- hh]; exact pol_su t); obtain ⟨c, hc⟩ : ∃ c, r e * Zb (h d) = c := ⟨_, rfl⟩
  have hcc : k.el (gi (k.L r) (e : Int)) * k.el (k.co (Zb (h d))) = c := by rw [hval, el_co, hc]
  have hX : Fs (ct c * h) := (Fs.ct c).mul hd.fs; have hXs : Su (ct c * h) (d + 1) := hd.2.ct c; have hY : Fs (ct c * h * mo 1 (e - d)) := hX.mul (Jn2 1 (e - d)); have hYs : Su (ct c * h * mo 1 (e - d)) (e + 1) := (hXs.mul (Jc5 1 (e - d))).mono (by omega); have hs' : Su (r - ct c * h * mo 1 (e - d)) e := fun j hj => by
   rw [Pl.sub_at, Ji9]; by_cases hje : j = e
   .rw [hje, if_pos (by omega), show e - (e - d) = d by omega, <- hc, Cr.mul_assoc, Cr.mul_comm (Zb (h d)), Jas hd.1, Cr.mul_one, Cr.sub_self]
   .rw [if_pos (by omega), he.2 j (by omega), hd.2 (j - (e - d)) (by omega), Cr.mul_zero, Cr.sub_self]
  have hl' := L_len (k := k) hs'; have lX := L_len (k := k) hXs; have lY := L_len (k := k) hYs; have lM := L_len (k := k) (Jc5 (1 : k.E) (e - d)); refine ⟨Jo (by omega) (by omega), Jo (by omega) (by omega), Jo (by omega) (by omega), ⟨by omega, by omega⟩, _, ZD hF rfl, ⟨by omega, by omega⟩, _, Jct hF (by omega) rfl, _, Jld (k := k) (by omega) rfl, _, Jia (k := k) hF ?_ (by omega) rfl, _, Jn6 (k := k) hF (by omega) ?_ rfl, ?_, ?_⟩
  .rw [hcc, el_co, pol_L hd.fs]; omega
  .rw [hcc, el_co, pol_L hd.fs, pol_L hX, pol_L (Jn2 _ _)]; omega
  all_goals rw [hcc, el_co, pol_L hd.fs, pol_L hX, pol_L (Jn2 _ _), pol_L hY, pol_L he.fs]
  .have hset : k.pol (si xq ((e - d : Nat) : Int) (k.co c)) = k.pol xq + mo c (e - d) := by
    have e3 := Jg2 (k := k) (x := xq) (i := e - d) (a := c) (by omega)
    rwa [hq0 (e - d) (by omega), Cr.zero_add] at e3
   refine ⟨r - ct c * h * mo 1 (e - d), hs'.mono (by omega), rfl, by rw [JR, List.length_set, hql], Jhm hqe, ?_, fun j hj => ?_⟩
   .rw [hset, Cr.add_mul]; have e4 : mo c (e - d) * h = ct c * h * mo 1 (e - d) := Pl.ext fun j => by rw [ZP, Ji9]
    rw [e4]; refine hfe.trans ?_; rw [Cr.add_assoc, Cr.add_comm _ (r - _), Cr.sub_add]
   .rw [hset, Pl.add_at, hq0 j (by omega), mo, if_neg (by omega), Cr.add_zero]
  .omega
 .have hrd : Su r d := (L_su ⟨m, hrs⟩).mono (by omega); obtain ⟨q1, q2⟩ := Jiq hd (pol_fs xq) hfe hrd; refine QF hF (by omega) ?_; rw [<- q1, <- q2]; exact hQ
theorem w_rrem {p t : LI} {Q : LI -> Prop} (hF : FV P M mf k.p k.m k.v) (hp : p.length <= 10000) (ht : t.length <= 10000) (h0 : k.pol t ≠ 0) (hQ : Q (k.L (rm (k.pol p) (k.pol t)))) : Jem P M mf p t Q :=
 Jjx hF hp ht h0 hQ
theorem Jib {p : LI} {x : Int} {Q : Int -> Prop} (hF : FV P M mf k.p k.m k.v) (hp : p.length <= 100000) (h : Q (k.co (vl_ (k.pol p) (k.el x)))) : Zz P M mf p x Q := by
 refine ⟨fun a b z => ∃ j : Nat, z = j /\ j <= p.length /\ a = k.co (evp (k.pol p) j (k.el x)) /\ b = k.co (pwr (k.el x) j), fun a b z => (p.length - z).toNat, ⟨0, rfl, Nat.zero_le _, rfl, rfl⟩, ?_⟩; rintro _ _ _ ⟨j, rfl, hj, rfl, rfl⟩; dsimp only; refine ⟨fun hz => ⟨⟨by omega, by omega⟩, _, ZD hF rfl, _, Jgo hF rfl, ZD hF ⟨Jo (by omega) (by omega), ⟨j + 1, by push_cast; rfl, by omega, ?_, ?_⟩, by omega⟩⟩, fun hz => ?_⟩
 .rw [el_co, el_co, el_co]; rfl
 .rw [el_co]; rfl
 .rw [show j = p.length by omega, <- Yv (pol_su p)]; exact h
theorem Jdl {rs : LI} {Q : LI -> Prop} (hF : FV P M mf k.p k.m k.v) (hn : rs.length <= 1000) (h : Q (k.L (lpf (k.pol rs) rs.length))) : QI P M mf rs Q := by
 refine ⟨fun x z => ∃ j : Nat, z = j /\ j <= rs.length /\ x = k.L (lpf (k.pol rs) j), fun x z => (rs.length - z).toNat, ⟨0, rfl, Nat.zero_le _, L_one.symm⟩, ?_⟩; rintro _ _ ⟨j, rfl, hj, rfl⟩; dsimp only; refine ⟨fun hz => ?_, fun hz => ?_⟩
 .have l1 := L_len (k := k) (Jbx (k.pol rs) j); have e : ([k.co (-(k.el (gi rs (j : Int)))), 1] : LI) = k.L (lin (k.pol rs j)) := (L_lin _).symm; refine ⟨⟨by omega, by omega⟩, _, Jle hF rfl, _, Jia (k := k) hF (by omega) (by simp) rfl, Jo (by omega) (by omega), ⟨j + 1, by push_cast; rfl, by omega, ?_⟩, by omega⟩; rw [e, pol_L (Jby _ _), pol_L (Jb1 _).fs]; rfl
 .rw [show j = rs.length by omega]; exact h
theorem Job {l o : LI} {Q : Bool -> Prop} (hl : l.length <= 1000000) (h : Q (decide (l = o))) : YY l o Q := by
 refine ⟨fun hne => ?_, fun he => ?_⟩
 .rw [decide_eq_false (fun e => hne (by rw [e]))] at h; exact h
 .have hlen : l.length = o.length := by omega
  refine ⟨fun z => ∃ j : Nat, z = j /\ j <= l.length /\ ∀ i, i < j -> vo l i = vo o i, fun z => (l.length - z).toNat, ⟨0, rfl, Nat.zero_le _, fun i hi => by omega⟩, ?_⟩; rintro _ ⟨j, rfl, hj, hv⟩; dsimp only; rw [Jy, Jy]; refine ⟨fun hz => ⟨⟨by omega, by omega⟩, ⟨by omega, by omega⟩, fun hne => ?_, fun he => ⟨Jo (by omega) (by omega), ⟨j + 1, by push_cast; rfl, by omega, fun i hi => ?_⟩, by omega⟩⟩, fun hz => ?_⟩
  .rw [decide_eq_false (fun e => hne (by rw [e]))] at h; exact h
  .by_cases e : i = j
   .rw [e]; exact Decidable.not_not.1 he
   .exact hv i (by omega)
  .rw [decide_eq_true (Q3 hlen fun i hi => hv i (by omega))] at h; exact h
end
theorem FV.same {P M : Int} {mf : LI} {p m v p' m' v' : Nat} (F : FV P M mf p m v) (F' : FV P M mf p' m' v') : p = p' /\ m = m' /\ v = v' := by
 have h1 := F.eP; have h2 := F'.eP; have h3 := F.eM; have h4 := F'.eM; have e1 : p = p' := by omega
 have e2 : m = m' := by omega
 subst e1; subst e2; refine ⟨rfl, rfl, ?_⟩; have hp := F.p2; rw [<- Yt (p := p) (m := m) (by omega) F.vlt, <- Yt (p := p) (m := m) (by omega) F'.vlt, <- F.vo, <- F'.vo]
theorem w_made {P M : Int} {mf : LI} {Q : Option GFv -> Prop} (h0 : ¬ Jae P M mf -> Q none) (h1 : ∀ (F : GFv) (k : Ks), GFk F k.p k.m k.v k.g -> FV P M mf k.p k.m k.v -> Q (some F)) : Z2 P M mf Q := by
 refine Jet ⟨fun hn => h0 fun hV => hn (Jb9 hV), fun hn => ?_⟩; refine v_New (fun hV => absurd (Qx hV) (by intro e; rw [e] at hn; exact hn (by decide))) fun F p m v g K eP eM em => ⟨fun h => absurd rfl h, fun _ => ?_⟩
 have hF : FV P M mf p m v := by have := K.fv; rwa [eP, eM, em] at this
 exact h1 F ⟨p, m, v, g, hF.p2, hF.m0, hF.q, hF.ring, K.G⟩ K hF
end Go.Proofs.Ytopemhgpdlbkjaa
namespace Go.Proofs.Ytopemhgpdlbkjaa
theorem Jog {F : GFv} {Q : Int × Int × LI -> Prop} (hl : F.mod.length <= 1000000) (h : Q (F.P, F.M, F.mod)) : Q2 F Q := by
 unfold Q2 Yg; exact Jam hl h
theorem FV.len {P M : Int} {mf : LI} {p m v : Nat} (F : FV P M mf p m v) : mf.length <= 1000000 := by
 have := F.m8; by_cases hm1 : m = 1
 .rw [(F.m1 hm1).1]; simp
 .rw [F.m2 hm1, JI]; omega
theorem Gn.xmod {q g : Nat} {A M : Nat -> Nat -> Nat} (G : Gn q M g) (R : CR q A M) {x : Nat} (h0 : 0 < x) (hx : x < q) (n : Nat) : pw M x (n % (q - 1)) = pw M x n := by
 have h1 := G.xone R h0 hx; have h2 := Nat.mod_add_div n (q - 1); have h3 : pw M x (n % (q - 1) + (q - 1) * (n / (q - 1))) = pw M x (n % (q - 1)) := by rw [R.pw_add hx, <- R.pw_pw hx, h1, R.one_pw, R.M1 (R.pw_lt x _)]
 rw [h2] at h3; exact h3.symm
theorem v_PowN {F : GFv} {p m v g n : Nat} {x : Int} {Q : Int × Int -> Prop} (K : GFk F p m v g) (hn0 : 0 < n) (hn : n <= 1000) (h : Q (((pw (Jq p m (dv p v)) (inE (p ^ m) x) n : Nat) : Int), 0)) : Jgh F x n Q := by
 have R := K.fv.ring; have hq2 := R.q2; refine v_Pow K (Qf (by omega)) (fun h0 => ?_) (fun h1 => ?_)
 .rw [if_neg (by omega), if_neg (by omega)]; rw [h0, R.zero_pw hn0] at h; exact h
 .have e : ((n : Int) % (((p ^ m : Nat) : Int) - 1)).toNat = n % (p ^ m - 1) := by
   rw [show ((p ^ m : Nat) : Int) - 1 = ((p ^ m - 1 : Nat) : Int) by omega]; rfl
  rw [e, K.G.xmod R (Nat.pos_of_ne_zero h1) (JU R.pos x)]; exact h
end Go.Proofs.Ytopemhgpdlbkjaa
