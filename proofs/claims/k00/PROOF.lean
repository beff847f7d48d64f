import PyProof.Rows.All
import Wide.All
import OpenK.AllK
import Wide.FinOn
import HandS.ForMost
import HandS.IsInst
import HandS.RaiseMore
import HandS.Codes
import PySem.Challenge.RW_sumstand_k00_primes_and_inverses
set_option Elab.async false
set_option linter.all false
set_option maxRecDepth 100000
namespace LW
open PySem L2
/-! ### rules in short -/
section
variable {X : Cx}
theorem call_intI : CallR X (.type "int") (fun xs H Q => ∃ i, xs = [.int i] ∧ Q (.int i) H) := fun pins s σ H xs us Q I r h =>
  call_int1 pins s σ H xs us Q I r (.inl h)
theorem call_intB : CallR X (.type "int") (fun xs H Q => ∃ k, xs = [.bl k] ∧ Q (.int (if k then 1 else 0)) H) := fun pins s σ H xs us Q I r h =>
  call_int1 pins s σ H xs us Q I r (.inr h)
theorem call_lenL : CallR X (.builtin "len") (fun xs H Q => ∃ p ys, xs = [.ref p] ∧ SqL X.K H p ys ∧ Q (.int ys.length) H) := fun pins s σ H xs us Q I r ⟨p, ys, e, h, q⟩ =>
  call_len_seq pins s σ H xs us Q I r ⟨p, ys, e, .inl h, q⟩
theorem call_lenT : CallR X (.builtin "len") (fun xs H Q => ∃ p ys, xs = [.ref p] ∧ SqT X.K H p ys ∧ Q (.int ys.length) H) := fun pins s σ H xs us Q I r ⟨p, ys, e, h, q⟩ =>
  call_len_seq pins s σ H xs us Q I r ⟨p, ys, e, .inr h, q⟩
theorem call_reprI : CallR X (.builtin "repr") (fun xs H Q => ∃ i, xs = [.int i] ∧ i.natAbs.log2 < 1920 ∧ Q (.str (toString i)) H) := SkE.call_repr_int
def yesNo (b : Bool) : Str := if b then "True" else "False"
theorem call_reprB : CallR X (.builtin "repr") (fun xs H Q => ∃ b, xs = [.bl b] ∧ Q (.str (yesNo b)) H) := by
  intro pins s σ H xs us Q I r h
  obtain ⟨b, rfl, q⟩ := h
  obtain ⟨u, rfl, e⟩ := vals1 r
  cases e
  exact PySem.P.repr_of_bool ⟨.str (yesNo b), H, I.tok _, ⟨_, rfl⟩, q⟩
end
/-! ### a def by its name, its promise beside it -/
structure Dk (P : Program) (w : World) (K : PySem.W.Frag) (mg : Str → Option Value) (base : Heap) (k : Nat) (x : Str) (ps : List Str) (sp : Sp) where
  f : Addr
  fd : FuncData
  G : FnOk P w K mg base CX0 k f fd ps sp
  gm : mg x = some (.ref f)
  kp : PySem.W.keepIn K (.ref f) = true
  b : Binds K fd ps []
section
variable {X : Cx} {k : Nat} {x : Str} {ps : List Str} {sp : Sp} {p pos : Pos} {e : Expr} {es : List Expr} {t : TA}
theorem pe_dk (d : Dk X.prog X.w X.K X.mg X.base k x ps sp) (hr : Room k X.A) (hg : Gl X x) (ha : PA X (e :: es) t) (hdb : (x == ("__debug__" : Str)) = false := by decide)
    (he : starEach (e :: es) X.env = (false, eval e X.env) :: starEach es X.env := by rfl) (hpl : (backTo pos (starEach es X.env)).any (·.1) = false := by rfl) :
    PE X (.Call (.Name x p) (e :: es) [] pos) (tCall sp [] E0 t) := pe_call d.G hr hg d.gm d.kp d.b .nil pass0 ha hdb he hpl
/-- only keywords, in the parameters' order -/
def gK {α : Type} : List α → List α → List α
  | [], ws => ws
  | _ :: _, _ => []
theorem kb_mk {K : PySem.W.Frag} {fd : FuncData} {ps : List Str} (h : ∀ (s : Shared) (ws : List Value), ws.length = ps.length → BindsTo s fd ⟨[], ps.zip ws⟩ (ps.zip ws)) (h0 : 0 < ps.length) : KBinds K fd ps ps gK gK where
  to := fun s us ws _ hl => by
    cases us with
    | nil => exact h s ws hl
    | cons u us =>
      have e : 0 = ps.length := hl
      omega
  rel := fun {vs us zs ws} r q => by
    cases r with
    | nil => exact q
    | cons a b => exact .nil
theorem pe_dkK0 {ks : List Str} {g : List Value → List Value → List Value} {gV : List V → List V → List V} {kws : List Keyword} {tk : TA} (d : Dk X.prog X.w X.K X.mg X.base k x ps sp) (hr : Room k X.A) (hg : Gl X x) (hb : KBinds X.K d.fd ps ks g gV)
    (hkw : PK X kws tk) (hall : (backToKw pos (keywordEach kws X.env)).all (·.1.isSome) = true := by rfl) (hks : (backToKw pos (keywordEach kws X.env)).filterMap (·.1) = ks := by rfl)
    (hdb : (x == ("__debug__" : Str)) = false := by decide)
    (hpl : ((backTo pos (starEach [] X.env)).any (·.1) || (backToKw pos (keywordEach kws X.env)).any (·.1.isNone)) = false := by rfl) :
    PE X (.Call (.Name x p) [] kws pos) (tCallK sp gV E0 tNil tk) := by
  refine ⟨fun pins s σ H Q I h => ?_⟩
  refine wpAny_Call_Name_kw (ld_glob I hg d.gm ?_ hdb)
  refine PySem.W.callWith_KW0 (h₀ := X.base) I.ok.mod.kin d.kp hall (thn (hkw.run pos pins s σ H _ I h) fun ws s2 ⟨zs, H2, I2, rz, q2⟩ => ⟨I2.kIn, ?_⟩) hpl
  rw [hks]
  exact run_fnk (us := []) d.G hr hb pass0 I2 .nil rz q2
end
/-! ### heaps -/
theorem Same.newU {H H' : Hp} {p : Addr} {o : HO} (s : Same H H') (h : H p = none) : Same H (upd H' p o) := fun b x e => by
  rw [upd_ne (ne_of_none e h)]
  exact s _ _ e
theorem same_upd {H : Hp} {p : Addr} {o : HO} (h : H p = none) : Same H (upd H p o) := fun b x e => by
  rw [upd_ne (ne_of_none e h)]
  exact e
theorem Same.seqT {K : PySem.W.Frag} {H H' : Hp} {a : Addr} {xs : List V} (e : Same H H') (h : SqT K H a xs) : SqT K H' a xs := by
  rcases h with (h | ⟨o, h⟩) | h
  · exact .inl (.inl (e _ _ h))
  · exact .inl (.inr ⟨o, e _ _ h⟩)
  · exact .inr h
/-- all but the pool at p is as it was -/
def Rl (p : Addr) (H H' : Hp) : Prop := ∀ b o, b ≠ p → H b = some o → H' b = some o
theorem Rl.refl (p : Addr) (H : Hp) : Rl p H H := fun _ _ _ h => h
theorem Rl.trans {p : Addr} {H H1 H2 : Hp} (a : Rl p H H1) (b : Rl p H1 H2) : Rl p H H2 := fun c o n h => b c o n (a c o n h)
theorem Rl.same {p : Addr} {H H1 : Hp} (a : Same H H1) : Rl p H H1 := fun c o _ h => a c o h
theorem Rl.upd {p : Addr} {H : Hp} {o : HO} : Rl p H (upd H p o) := fun b x n e => by
  rw [upd_ne n]
  exact e
theorem Rl.seq {K : PySem.W.Frag} {p : Addr} {H H' : Hp} {a : Addr} {xs : List V} (e : Rl p H H') (n : a ≠ p) (h : SqL K H a xs) : SqL K H' a xs := by
  rcases h with (h | ⟨o, h⟩) | h
  · exact .inl (.inl (e _ _ n h))
  · exact .inl (.inr ⟨o, e _ _ n h⟩)
  · exact .inr h
theorem Rl.seqT {K : PySem.W.Frag} {p : Addr} {H H' : Hp} {a : Addr} {xs : List V} (e : Rl p H H') (n : a ≠ p) (h : SqT K H a xs) : SqT K H' a xs := by
  rcases h with (h | ⟨o, h⟩) | h
  · exact .inl (.inl (e _ _ n h))
  · exact .inl (.inr ⟨o, e _ _ n h⟩)
  · exact .inr h
/-- a pool at p: two numbers, the second below the greatest -/
def Pl (H : Hp) (p : Addr) : Prop := ∃ x y : Int, 0 ≤ x ∧ 0 ≤ y ∧ y < 2147483647 ∧ H p = some (.lst [.int x, .int y])
theorem Pl.same {H H' : Hp} {p : Addr} (h : Pl H p) (s : Same H H') : Pl H' p := by
  obtain ⟨x, y, a, b, c, e⟩ := h
  exact ⟨x, y, a, b, c, s _ _ e⟩
theorem Pl.ne {H : Hp} {p q : Addr} (h : Pl H p) (n : H q = none) : p ≠ q := by
  obtain ⟨x, y, a, b, c, e⟩ := h
  exact ne_of_none e n
theorem int0 {x : Int} {ys : List V} : atI (V.int x :: ys) 0 = some (V.int x) := atI_nat (j := 0) rfl
theorem int1 {x : Int} {z : V} {ys : List V} : atI (z :: V.int x :: ys) 1 = some (V.int x) := atI_nat (j := 1) rfl
/-! ### data -/
theorem dpAll_ints {K : PySem.W.Frag} {H : Hp} : ∀ ns : List Int, DpAll K H (ns.map V.int) (ns.map PyData.int)
  | [] => .nil
  | n :: ns => .cons (.int n) (dpAll_ints ns)
theorem eqv_nil (ds : List PyData) : PyData.eqv (.list ds) (.list []) = ds.isEmpty := by
  cases ds <;> rfl
theorem shaped_ints (ns : List Int) : SeqAt.shaped (.list (ns.map PyData.int)) = true := PySem.W.ke_shaped_ints ns
end LW
namespace K00
/-! ### numbers -/
def tst (n : Int) (i : Nat) : Bool := decide ((2 + (i : Int)) * (2 + (i : Int)) ≤ n) && decide (n % (2 + (i : Int)) = 0)
def isP (n : Int) : Bool := decide (2 ≤ n) && (List.range 255).all fun i => !tst n i
def isPr (n : Int) : Bool := decide (n ≤ 65521) && isP n
theorem isP_iff {n : Int} : isP n = true ↔ 2 ≤ n ∧ ∀ i : Nat, i < 255 → tst n i = false := by
  unfold isP
  simp only [Bool.and_eq_true, decide_eq_true_eq, List.all_eq_true, List.mem_range, Bool.not_eq_true']
theorem tst_iff {n : Int} {i : Nat} : tst n i = true ↔ (2 + (i : Int)) * (2 + (i : Int)) ≤ n ∧ n % (2 + (i : Int)) = 0 := by
  unfold tst
  simp only [Bool.and_eq_true, decide_eq_true_eq]
theorem isP_ge {n : Int} (h : isP n = true) : 2 ≤ n := (isP_iff.mp h).1
/-- no number d with d * d ≤ n divides -/
theorem isP_no {n d : Int} (h : isP n = true) (h2 : 2 ≤ d) (hd : d < 257) (hs : d * d ≤ n) (hm : n % d = 0) : False := by
  obtain ⟨_, q⟩ := isP_iff.mp h
  have e : (2 : Int) + ((d - 2).toNat : Int) = d := by omega
  have t : tst n (d - 2).toNat = true := by
    rw [tst_iff, e]
    exact ⟨hs, hm⟩
  rw [q (d - 2).toNat (by omega)] at t
  cases t
theorem isP_of {n : Int} (h2 : 2 ≤ n) (h : ∀ d : Int, 2 ≤ d → d < 257 → d * d ≤ n → n % d ≠ 0) : isP n = true := by
  rw [isP_iff]
  refine ⟨h2, fun i hi => ?_⟩
  cases e : tst n i with
  | false => rfl
  | true =>
    rw [tst_iff] at e
    exact absurd e.2 (h _ (by omega) (by omega) e.1)
theorem isP_false {n d : Int} (h2 : 2 ≤ d) (hd : d < 257) (hs : d * d ≤ n) (hm : n % d = 0) : isP n = false := by
  cases e : isP n with
  | false => rfl
  | true => exact (isP_no e h2 hd hs hm).elim
theorem bez : ∀ (m : Nat) (a n : Int), 0 ≤ a → 0 ≤ n → a.toNat ≤ m → ∃ g u v : Int, 0 ≤ g ∧ (∃ x, n = g * x) ∧ (∃ y, a = g * y) ∧ u * n + v * a = g
  | 0, a, n, h, hn, hm => by
    have : a = 0 := by omega
    subst this
    exact ⟨n, 1, 0, hn, ⟨1, by omega⟩, ⟨0, by omega⟩, by omega⟩
  | m + 1, a, n, h, hn, hm => by
    by_cases ha : a = 0
    · subst ha
      exact ⟨n, 1, 0, hn, ⟨1, by omega⟩, ⟨0, by omega⟩, by omega⟩
    · have hlt : n % a < a := Int.emod_lt_of_pos n (by omega)
      have hge : 0 ≤ n % a := Int.emod_nonneg n ha
      obtain ⟨g, u, v, hg, ⟨x, hx⟩, ⟨y, hy⟩, e⟩ := bez m (n % a) a hge h (by omega)
      have hd : n = a * (n / a) + n % a := (Int.mul_ediv_add_emod n a).symm
      refine ⟨g, v, u - v * (n / a), hg, ⟨x * (n / a) + y, ?_⟩, ⟨x, hx⟩, ?_⟩
      · generalize n / a = q at *
        generalize n % a = r at *
        grind
      · generalize n / a = q at *
        generalize n % a = r at *
        grind
/-- numbers below a prime have an inverse -/
def Cop (a p : Int) : Prop := ∃ u v : Int, u * p + v * a = 1
theorem cop_of {a p : Int} (hp : isP p = true) (hp2 : p ≤ 65521) (h1 : 1 ≤ a) (h2 : a < p) : Cop a p := by
  obtain ⟨g, u, v, hg, ⟨x, hx⟩, ⟨y, hy⟩, e⟩ := bez a.toNat a p (by omega) (by omega) (Nat.le_refl _)
  have gpos : 0 < g := by
    by_cases h0 : g = 0
    · subst h0
      omega
    · omega
  have g1 : g = 1 := by
    by_cases h : g = 1
    · exact h
    · exfalso
      have ypos : 0 < y := by
        by_cases hy0 : 0 < y
        · exact hy0
        · have : g * y ≤ 0 := Int.mul_nonpos_of_nonneg_of_nonpos hg (by omega)
          omega
      have xpos : y < x := by
        by_cases hx0 : y < x
        · exact hx0
        · have : g * x ≤ g * y := Int.mul_le_mul_of_nonneg_left (by omega) hg
          omega
      by_cases hgx : g ≤ x
      · have hsq : g * g ≤ p := by
          rw [hx]
          exact Int.mul_le_mul_of_nonneg_left hgx hg
        have hlt : g < 257 := by
          by_cases h257 : g < 257
          · exact h257
          · have : 257 * 257 ≤ g * g := Int.mul_le_mul (by omega) (by omega) (by omega) hg
            omega
        exact isP_no hp (by omega) hlt hsq (by rw [hx]; exact Int.mul_emod_right g x)
      · have hsq : x * x ≤ p := by
          rw [hx]
          exact Int.mul_le_mul_of_nonneg_right (by omega) (by omega)
        have hlt : x < 257 := by
          by_cases h257 : x < 257
          · exact h257
          · have : 257 * 257 ≤ x * x := Int.mul_le_mul (by omega) (by omega) (by omega) (by omega)
            omega
        exact isP_no hp (by omega) hlt hsq (by rw [hx]; exact Int.mul_emod_left g x)
  subst g1
  exact ⟨u, v, e⟩
theorem cop_mul {a b p : Int} (ha : Cop a p) (hb : Cop b p) : Cop (a * b % p) p := by
  obtain ⟨u, v, e⟩ := ha
  obtain ⟨r, s, f⟩ := hb
  have hd : a * b = p * (a * b / p) + a * b % p := (Int.mul_ediv_add_emod (a * b) p).symm
  refine ⟨u * r * p + u * s * b + v * a * r + v * s * (a * b / p), v * s, ?_⟩
  generalize a * b / p = q at *
  generalize a * b % p = w at *
  have h1 : (u * p + v * a) * (r * p + s * b) = 1 := by rw [e, f]; rfl
  grind
theorem one_mod {p x : Int} (hp : 2 ≤ p) (h : ∃ k, x = 1 + k * p) : x % p = 1 := by
  obtain ⟨k, rfl⟩ := h
  rw [Int.add_mul_emod_self_right]
  exact Int.emod_eq_of_lt (by omega) (by omega)
/-- what makes a product one is one number -/
theorem inv_unique {a b c p : Int} (hb : 0 < b) (hb2 : b < p) (hc : 0 < c) (hc2 : c < p) (h1 : a * b % p = 1) (h2 : a * c % p = 1) : b = c := by
  have e1 : a * b = p * (a * b / p) + 1 := by
    have := (Int.mul_ediv_add_emod (a * b) p).symm
    rw [h1] at this
    exact this
  have e2 : a * c = p * (a * c / p) + 1 := by
    have := (Int.mul_ediv_add_emod (a * c) p).symm
    rw [h2] at this
    exact this
  generalize a * b / p = q1 at *
  generalize a * c / p = q2 at *
  have e3 : b - c = p * (q2 * b - q1 * c) * (-1) := by
    have : b * (a * c) = c * (a * b) := by grind
    rw [e1, e2] at this
    grind
  generalize q2 * b - q1 * c = z at *
  have hz : z = 0 := by
    by_cases hz : z = 0
    · exact hz
    · exfalso
      by_cases hp : 0 < z
      · have : p * 1 ≤ p * z := Int.mul_le_mul_of_nonneg_left (by omega) (by omega)
        omega
      · have : p * z ≤ p * (-1) := Int.mul_le_mul_of_nonneg_left (by omega) (by omega)
        omega
  subst hz
  omega
theorem mod_pos {x p : Int} (hp : 2 ≤ p) (h : ∃ y k, x * y = 1 + k * p) : 0 < x % p ∧ x % p < p := by
  have h1 : x % p < p := Int.emod_lt_of_pos x (by omega)
  have h0 : 0 ≤ x % p := Int.emod_nonneg x (by omega)
  refine ⟨?_, h1⟩
  by_cases hz : x % p = 0
  · exfalso
    obtain ⟨y, k, e⟩ := h
    have hd : x = p * (x / p) + x % p := (Int.mul_ediv_add_emod x p).symm
    rw [hz] at hd
    generalize x / p = q at *
    have e2 : (q * y - k) * p = 1 := by grind
    generalize q * y - k = z at *
    by_cases hz1 : 0 < z
    · have : 1 * p ≤ z * p := Int.mul_le_mul_of_nonneg_right (by omega) (by omega)
      omega
    · have : z * p ≤ 0 * p := Int.mul_le_mul_of_nonneg_right (by omega) (by omega)
      omega
  · omega
/-! ### a prime stands below within 120 -/
def gaps : List Int → Bool
  | a :: b :: r => isP a && decide (b - a ≤ 119) && decide (a < b) && gaps (b :: r)
  | [a] => isP a && decide (a = 65521)
  | [] => false
theorem gaps_find : ∀ (l : List Int) (a n : Int), gaps (a :: l) = true → a ≤ n → n ≤ 65521 → ∃ q, isP q = true ∧ q ≤ n ∧ n - q ≤ 118
  | [], a, n, h, h1, h2 => by
    simp only [gaps, Bool.and_eq_true, decide_eq_true_eq] at h
    exact ⟨a, h.1, h1, by omega⟩
  | b :: r, a, n, h, h1, h2 => by
    simp only [gaps, Bool.and_eq_true, decide_eq_true_eq] at h
    by_cases hb : b ≤ n
    · exact gaps_find r b n h.2 hb h2
    · exact ⟨a, h.1.1.1, h1, by omega⟩
def marks : List Int := [2, 113, 229, 347, 463, 577, 691, 809, 919, 1033, 1151, 1259, 1373, 1489, 1607, 1723, 1831, 1949, 2063, 2179, 2297, 2411, 2521, 2633, 2749, 2861, 2971, 3089, 3203, 3319, 3433, 3547, 3659, 3769, 3881, 3989, 4099, 4217, 4327, 4441, 4549, 4663, 4759, 4877, 4993, 5107, 5209, 5323, 5441, 5557, 5669, 5783, 5897, 6011, 6121, 6229, 6343, 6451, 6569, 6679, 6793, 6911, 7027, 7129, 7247, 7351, 7459, 7577, 7691, 7793, 7907, 8017, 8123, 8237, 8353, 8467, 8581, 8699, 8807, 8923, 9041, 9157, 9257, 9371, 9479, 9587, 9697, 9811, 9929, 10039, 10151, 10267, 10369, 10487, 10601, 10711, 10799, 10909, 11027, 11131, 11243, 11353, 11471, 11587, 11701, 11813, 11927, 12043, 12161, 12277, 12391, 12503, 12619, 12721, 12829, 12941, 13049, 13163, 13267, 13381, 13499, 13613, 13729, 13841, 13933, 14051, 14159, 14251, 14369, 14479, 14593, 14699, 14813, 14929, 15031, 15149, 15263, 15377, 15493, 15607, 15683, 15797, 15913, 16007, 16111, 16229, 16339, 16453, 16567, 16673, 16787, 16903, 17021, 17137, 17239, 17351, 17467, 17581, 17683, 17791, 17909, 18013, 18131, 18233, 18341, 18457, 18553, 18671, 18787, 18899, 19013, 19121, 19237, 19333, 19447, 19559, 19661, 19777, 19891, 19997, 20113, 20231, 20347, 20443, 20551, 20663, 20773, 20887, 21001, 21107, 21221, 21323, 21433, 21529, 21647, 21757, 21871, 21977, 22093, 22193, 22307, 22409, 22511, 22621, 22739, 22853, 22963, 23081, 23197, 23311, 23417, 23531, 23633, 23747, 23857, 23971, 24083, 24197, 24281, 24391, 24509, 24623, 24733, 24851, 24967, 25073, 25189, 25307, 25423, 25541, 25657, 25771, 25889, 26003, 26119, 26237, 26347, 26459, 26573, 26687, 26801, 26903, 27017, 27127, 27241, 27337, 27449, 27551, 27653, 27767, 27883, 28001, 28111, 28229, 28319, 28433, 28549, 28663, 28771, 28879, 28979, 29077, 29191, 29303, 29411, 29527, 29641, 29759, 29873, 29989, 30103, 30211, 30323, 30431, 30539, 30649, 30763, 30881, 30983, 31091, 31193, 31307, 31397, 31513, 31627, 31741, 31859, 31973, 32089, 32203, 32321, 32429, 32537, 32653, 32771, 32887, 32999, 33113, 33223, 33331, 33427, 33533, 33647, 33757, 33871, 33967, 34061, 34171, 34283, 34381, 34499, 34613, 34729, 34847, 34963, 35081, 35171, 35281, 35393, 35509, 35617, 35731, 35839, 35951, 36067, 36161, 36277, 36389, 36497, 36607, 36721, 36833, 36947, 37061, 37171, 37277, 37379, 37493, 37607, 37717, 37831, 37907, 38011, 38119, 38237, 38351, 38461, 38569, 38677, 38791, 38903, 39019, 39133, 39251, 39367, 39461, 39569, 39679, 39791, 39901, 40013, 40129, 40241, 40357, 40471, 40583, 40699, 40813, 40927, 41039, 41149, 41263, 41381, 41491, 41609, 41719, 41813, 41927, 42043, 42157, 42257, 42373, 42491, 42589, 42703, 42821, 42937, 43051, 43159, 43271, 43331, 43441, 43543, 43661, 43777, 43891, 43997, 44111, 44221, 44293, 44389, 44507, 44623, 44741, 44851, 44963, 45077, 45191, 45307, 45413, 45523, 45641, 45757, 45869, 45979, 46093, 46199, 46309, 46411, 46523, 46639, 46757, 46867, 46957, 47059, 47161, 47279, 47389, 47507, 47623, 47741, 47857, 47969, 48079, 48197, 48313, 48413, 48527, 48623, 48733, 48847, 48953, 49069, 49177, 49279, 49393, 49499, 49613, 49727, 49843, 49957, 50069, 50177, 50291, 50387, 50503, 50599, 50707, 50821, 50929, 51047, 51157, 51263, 51361, 51479, 51593, 51691, 51803, 51913, 52027, 52127, 52237, 52321, 52433, 52543, 52639, 52757, 52861, 52973, 53089, 53201, 53309, 53419, 53527, 53639, 53731, 53849, 53959, 54059, 54167, 54277, 54377, 54493, 54601, 54713, 54829, 54941, 55057, 55171, 55259, 55373, 55487, 55603, 55721, 55837, 55949, 56053, 56171, 56269, 56383, 56501, 56611, 56713, 56827, 56941, 57059, 57173, 57287, 57397, 57503, 57601, 57719, 57829, 57947, 58061, 58171, 58271, 58379, 58481, 58579, 58693, 58789, 58907, 59023, 59141, 59243, 59359, 59473, 59581, 59699, 59809, 59921, 60037, 60149, 60259, 60373, 60457, 60539, 60649, 60763, 60869, 60961, 61057, 61169, 61283, 61381, 61493, 61609, 61723, 61837, 61949, 62057, 62171, 62273, 62383, 62501, 62617, 62731, 62827, 62939, 63031, 63149, 63247, 63361, 63473, 63589, 63703, 63809, 63913, 64019, 64123, 64237, 64333, 64451, 64567, 64679, 64793, 64901, 65011, 65129, 65239, 65357, 65449, 65521]
theorem marks_ok : gaps marks = true := by decide +kernel
theorem prime_near {n : Int} (h1 : 2 ≤ n) (h2 : n ≤ 65521) : ∃ q, isP q = true ∧ q ≤ n ∧ n - q ≤ 118 :=
  gaps_find marks.tail 2 n marks_ok h1 h2
theorem isP_rim {n : Int} (h0 : n ≤ 65531) (h : 65521 < n) : isP n = false := by
  have h' : n = 65522 ∨ n = 65523 ∨ n = 65524 ∨ n = 65525 ∨ n = 65526 ∨ n = 65527 ∨ n = 65528 ∨ n = 65529 ∨ n = 65530 ∨ n = 65531 := by omega
  rcases h' with e | e | e | e | e | e | e | e | e | e <;> (subst e; decide +kernel)
theorem isPr_eq {n : Int} (h : n ≤ 65531) : isPr n = isP n := by
  unfold isPr
  by_cases h2 : n ≤ 65521
  · rw [decide_eq_true h2, Bool.true_and]
  · rw [isP_rim h (by omega), Bool.and_false]
theorem small_log {m : Int} (h : m.natAbs < 2 ^ 60) : m.natAbs.log2 < 1920 := by
  by_cases h0 : m.natAbs = 0
  · rw [h0]
    decide
  · have : m.natAbs.log2 < 60 := (Nat.log2_lt h0).mpr h
    omega
/-- the product of the inverses is the product's -/
theorem inv_mul {a b l r e p : Int} (hp : 2 ≤ p) (e0 : 0 < e) (e1 : e < p) (h1 : a * b % p = 1) (h2 : l * r % p = 1) (h3 : (a * l % p) * e % p = 1) : e = b * r % p := by
  have d1 : a * b = p * (a * b / p) + 1 := by
    have := (Int.mul_ediv_add_emod (a * b) p).symm
    rw [h1] at this
    exact this
  have d2 : l * r = p * (l * r / p) + 1 := by
    have := (Int.mul_ediv_add_emod (l * r) p).symm
    rw [h2] at this
    exact this
  have d3 : a * l = p * (a * l / p) + a * l % p := (Int.mul_ediv_add_emod (a * l) p).symm
  have d4 : b * r = p * (b * r / p) + b * r % p := (Int.mul_ediv_add_emod (b * r) p).symm
  have hz : (a * l % p) * (b * r % p) % p = 1 := by
    refine one_mod hp ?_
    generalize a * b / p = q1 at *
    generalize l * r / p = q2 at *
    generalize a * l / p = q3 at *
    generalize b * r / p = q4 at *
    generalize a * l % p = x at *
    generalize b * r % p = y at *
    refine ⟨q1 * q2 * p + q1 + q2 - q3 * y - a * l * q4, ?_⟩
    have e5 : (a * b) * (l * r) = (p * q1 + 1) * (p * q2 + 1) := by rw [d1, d2]
    have ex : x = a * l - p * q3 := by omega
    have ey : y = b * r - p * q4 := by omega
    grind
  obtain ⟨y0, y1⟩ := mod_pos (x := b * r) hp ⟨a * l, (a * b / p) * (l * r / p) * p + a * b / p + l * r / p, by
    generalize a * b / p = q1 at *
    generalize l * r / p = q2 at *
    have e5 : (a * b) * (l * r) = (p * q1 + 1) * (p * q2 + 1) := by rw [d1, d2]
    grind⟩
  exact inv_unique e0 e1 y0 y1 h3 hz
end K00
namespace K00
open PySem L2 LW
def topS (i : Nat) : Stmt := PySem.Challenge.pw_sumstand_k00_primes_and_inverses.main.body.getD i (.Pass ⟨0, 0, 0, 0⟩)
abbrev s_is_number : Stmt := topS 1
abbrev n_is_number : List Str := ["thing"]
theorem sc_is_number : FnScope n_is_number ["thing"] (defScope s_is_number) := ⟨rfl, rfl, rfl, by decide +kernel, rfl, by decide +kernel, by decide +kernel⟩
abbrev s_is_from : Stmt := topS 2
abbrev n_is_from : List Str := ["thing", "low", "high"]
theorem sc_is_from : FnScope n_is_from ["thing", "low", "high"] (defScope s_is_from) := ⟨rfl, rfl, rfl, by decide +kernel, rfl, by decide +kernel, by decide +kernel⟩
abbrev s_is_prime : Stmt := topS 5
abbrev n_is_prime : List Str := ["p", "divisor"]
theorem sc_is_prime : FnScope n_is_prime ["p"] (defScope s_is_prime) := ⟨rfl, rfl, rfl, by decide +kernel, rfl, by decide +kernel, by decide +kernel⟩
abbrev s_inverse : Stmt := topS 6
abbrev n_inverse : List Str := ["a", "p", "rest", "next_rest", "factor", "next_factor", "often"]
theorem sc_inverse : FnScope n_inverse ["a", "p"] (defScope s_inverse) := ⟨rfl, rfl, rfl, by decide +kernel, rfl, by decide +kernel, by decide +kernel⟩
abbrev s_law_pool : Stmt := topS 8
abbrev n_law_pool : List Str := ["_law_script", "_law_k", "_law_cell", "_law_big", "_law_mixed"]
theorem sc_law_pool : FnScope n_law_pool ["_law_script", "_law_k"] (defScope s_law_pool) := ⟨rfl, rfl, rfl, by decide +kernel, rfl, by decide +kernel, by decide +kernel⟩
abbrev s_law_take : Stmt := topS 9
abbrev n_law_take : List Str := ["_law_source", "_law_top", "_law_drawn"]
theorem sc_law_take : FnScope n_law_take ["_law_source", "_law_top"] (defScope s_law_take) := ⟨rfl, rfl, rfl, by decide +kernel, rfl, by decide +kernel, by decide +kernel⟩
abbrev s_law_one : Stmt := topS 10
abbrev n_law_one : List Str := ["_law_source", "_law_things"]
theorem sc_law_one : FnScope n_law_one ["_law_source", "_law_things"] (defScope s_law_one) := ⟨rfl, rfl, rfl, by decide +kernel, rfl, by decide +kernel, by decide +kernel⟩
abbrev s_law_is_prime : Stmt := topS 11
abbrev n_law_is_prime : List Str := ["_law_number", "_law_d"]
theorem sc_law_is_prime : FnScope n_law_is_prime ["_law_number"] (defScope s_law_is_prime) := ⟨rfl, rfl, rfl, by decide +kernel, rfl, by decide +kernel, by decide +kernel⟩
abbrev s_law_prime : Stmt := topS 12
abbrev n_law_prime : List Str := ["_law_source", "_law_number", "_law_turn"]
theorem sc_law_prime : FnScope n_law_prime ["_law_source"] (defScope s_law_prime) := ⟨rfl, rfl, rfl, by decide +kernel, rfl, by decide +kernel, by decide +kernel⟩
abbrev s_law_primes_right : Stmt := topS 13
abbrev n_law_primes_right : List Str := ["_law_source", "_law_p", "_law_some", "_law_turn", "_law_one_here", "_law_other", "_law_number"]
theorem sc_law_primes_right : FnScope n_law_primes_right ["_law_source", "_law_p"] (defScope s_law_primes_right) := ⟨rfl, rfl, rfl, by decide +kernel, rfl, by decide +kernel, by decide +kernel⟩
abbrev s_law : Stmt := topS 14
abbrev n_law : List Str := ["_law_script", "_law_source", "_law_p", "_law_last", "_law_turn", "_law_a", "_law_told", "_law_product"]
theorem sc_law : FnScope n_law ["_law_script"] (defScope s_law) := ⟨rfl, rfl, rfl, by decide +kernel, rfl, by decide +kernel, by decide +kernel⟩

structure Tx (mg : Str → Option Value) where
  m_int : mg "int" = none
  m_bool : mg "bool" = none
  m_len : mg "len" = none
  m_max : mg "max" = none
  m_range : mg "range" = none
  m_repr : mg "repr" = none
  m_isinstance : mg "isinstance" = none
  tGP : Tok
  g_GREATEST_PRIME : mg "GREATEST_PRIME" = some (.int 65521 tGP)
section
variable {P : Program} {w : World} {K : PySem.W.Frag} {mg : Str → Option Value} {base : Heap}
/-! ### the program's defs -/
def spNum : Sp := fun vs H Q _ => ∃ i : Int, vs = [.int i] ∧ Q (.bl true) H
theorem ok_number {f : Addr} {fd : FuncData} (F : Fun K "is_number" "is_number" s_is_number f fd) (T : Tx mg) : FnOk P w K mg base CX0 1 f fd ["thing"] spNum := by
  refine F.ok sc_is_number (fun vs H Q E h => ?_) (fun cdv A outer s H vs Q E hr h => ?_)
  · obtain ⟨i, rfl, _⟩ := h
    rfl
  · obtain ⟨i, rfl, k⟩ := h
    refine ⟨_, /- slots 0:thing -/
      (pss_one (ps_ret (pe_and (pe_callB call_isi (by rfl) T.m_isinstance (by decide +kernel) (pa_cons (pv 0) (pa_cons (pe_bltn (v := .ty "int") (by rfl) T.m_int (by decide +kernel) rfl) pa_nil))) (pe_one (pe_not (pe_callB call_isi (by rfl) T.m_isinstance (by decide +kernel) (pa_cons (pv 0) (pa_cons (pe_bltn (v := .ty "bool") (by rfl) T.m_bool (by decide +kernel) rfl) pa_nil)))))))), ?_⟩
    refine ⟨_, rfl, _, _, _, _, true, rfl, .ty "int", .base (.int _), kit_ty (by decide +kernel), _, rfl, iteT ?_⟩
    refine ⟨_, rfl, _, _, _, _, false, rfl, .ty "bool", .base (.int _), kit_ty (by decide +kernel), _, rfl, ?_⟩
    exact k
def spFrom : Sp := fun vs H Q _ => ∃ i lo hi : Int, vs = [.int i, .int lo, .int hi] ∧ Q (.bl (decide (lo ≤ i) && decide (i ≤ hi))) H
theorem ok_from {f : Addr} {fd : FuncData} (F : Fun K "is_from" "is_from" s_is_from f fd) (T : Tx mg) (d_is_number : Dk P w K mg base 1 "is_number" ["thing"] spNum) : FnOk P w K mg base CX0 2 f fd ["thing", "low", "high"] spFrom := by
  refine F.ok sc_is_from (fun vs H Q E h => ?_) (fun cdv A outer s H vs Q E hr h => ?_)
  · obtain ⟨i, lo, hi, rfl, _⟩ := h
    rfl
  · obtain ⟨i, lo, hi, rfl, k⟩ := h
    refine ⟨_, /- slots 0:thing 1:low 2:high -/
      (pss_one (ps_ret (pe_and (pe_dk d_is_number (hr.mono (by decide)) (by rfl) (pa_cons (pv 0) pa_nil)) (pe_one (pe_chain op_le op_le (pv 1) (pv 0) (pv 2)))))), ?_⟩
    refine ⟨_, rfl, i, rfl, _, rfl, iteT ?_⟩
    refine ⟨_, rfl, _, rfl, _, _, rfl, rfl, _, rfl, ?_⟩
    refine ite2 (fun h1 => ?_) (fun h1 => ?_)
    · refine ⟨_, rfl, _, _, rfl, rfl, ?_⟩
      rw [h1, Bool.true_and] at k
      exact k
    · rw [Bool.eq_false_iff.mpr h1, Bool.false_and] at k
      exact k
def spIsPrime : Sp := fun vs H Q _ => ∃ n : Int, vs = [.int n] ∧ Q (.bl (isPr n)) H
theorem ok_is_prime {f : Addr} {fd : FuncData} (F : Fun K "is_prime" "is_prime" s_is_prime f fd) (T : Tx mg) (d_is_from : Dk P w K mg base 2 "is_from" ["thing", "low", "high"] spFrom) : FnOk P w K mg base CX0 3 f fd ["p"] spIsPrime := by
  refine F.ok sc_is_prime (fun vs H Q E h => ?_) (fun cdv A outer s H vs Q E hr h => ?_)
  · obtain ⟨n, rfl, _⟩ := h
    rfl
  · obtain ⟨n, rfl, k⟩ := h
    refine ⟨_, /- slots 0:p 1:divisor -/
      (pss_cons (ps_if (pt_not (pt_val (pe_dk d_is_from (hr.mono (by decide)) (by rfl) (pa_cons (pv 0) (pa_cons pe_int (pa_cons (pe_glob (v := .int 65521) rfl T.g_GREATEST_PRIME ⟨_, rfl⟩) pa_nil))))))
        (pss_one (ps_ret pe_bl))
        pss_nil) -- if not is_from(p, 2, GREATEST_PRIME):
      (pss_cons (ps_if (pt_cmpR op_eq (pe_op op_mod (pv 0) pe_int) pe_int (nomark _))
        (pss_one (ps_ret (pe_cmpR op_eq (pv 0) pe_int (nomark _))))
        pss_nil) -- if p % 2 == 0:
      (pss_cons (ps_set (i := 1) sc_is_prime.nd rfl (by first | exact Or.inl rfl | exact Or.inr rfl) pe_int) -- divisor = 3
      (pss_cons (ps_while PassesOwn.never (pt_cmpR op_le (pe_op op_mul (pv 1) (pv 1)) (pv 0) (nomark _))
        (pss_cons (ps_if (pt_cmpR op_eq (pe_op op_mod (pv 0) (pv 1)) pe_int (nomark _))
          (pss_one (ps_ret pe_bl))
          pss_nil) -- if p % divisor == 0:
        (pss_one (ps_aug (i := 1) sc_is_prime.nd rfl (by first | exact Or.inl rfl | exact Or.inr rfl) pe_int ip_add)))) -- while divisor * divisor <= p:
      (pss_one (ps_ret pe_bl)))))), ?_⟩
    refine ⟨_, rfl, n, 2, 65521, rfl, _, rfl, ?_⟩
    refine ite2 (fun h1 => ?_) (fun h1 => ?_)
    · -- not from 2 to 65521
      have e : isPr n = false := by
        unfold isPr isP
        simp only [Bool.not_eq_true', Bool.and_eq_false_iff, decide_eq_false_iff_not] at h1
        rcases h1 with h1 | h1
        · rw [decide_eq_false h1, Bool.false_and, Bool.and_false]
        · rw [decide_eq_false h1, Bool.false_and]
      rw [e] at k
      exact k
    · have h2 : 2 ≤ n ∧ n ≤ 65521 := by
        simp only [Bool.not_eq_true', Bool.and_eq_false_iff, decide_eq_false_iff_not] at h1
        omega
      obtain ⟨h2, h3⟩ := h2
      have ep : isPr n = isP n := by
        unfold isPr
        rw [decide_eq_true h3, Bool.true_and]
      rw [ep] at k
      refine ⟨_, rfl, _, _, rfl, rfl, (by show (0 : Int) < 2; decide), rfl, _, rfl, ?_⟩
      refine ite2 (fun h4 => ?_) (fun h4 => ?_)
      · have h5 : n % 2 = 0 := V.int.inj (of_decide_eq_true h4)
        refine ⟨_, rfl, rfl, ?_⟩
        have e : isP n = decide (V.int n = V.int 2) := by
          by_cases h6 : n = 2
          · subst h6
            rw [decide_eq_true rfl]
            decide +kernel
          · rw [decide_eq_false (fun q => h6 (V.int.inj q))]
            exact isP_false (d := 2) (by omega) (by omega) (by omega) h5
        rw [e] at k
        exact k
      · have h5 : n % 2 ≠ 0 := fun q => h4 (decide_eq_true (congrArg V.int q))
        refine ⟨fun m σ H' => ∃ d : Int, σ = [some (.int n), some (.int d)] ∧ H = H' ∧ m = (600 - d).toNat ∧ 3 ≤ d ∧ d ≤ 257 ∧ d % 2 = 1 ∧ ∀ c : Int, 3 ≤ c → c < d → c % 2 = 1 → n % c ≠ 0, ⟨_, 3, rfl, rfl, rfl, by omega, by omega, by omega, fun c h6 h7 => by omega⟩, fun m σ H' hW => ?_⟩
        obtain ⟨d, rfl, rfl, rfl, hd3, hd, hdo, hno⟩ := hW
        refine ⟨_, rfl, _, rfl, _, _, rfl, rfl, .inl ⟨by omega, by omega⟩, _, rfl, _, _, rfl, rfl, _, rfl, ?_⟩
        refine ite2 (fun h6 => ?_) (fun h6 => ?_)
        · have h7 : d * d ≤ n := of_decide_eq_true h6
          have h8 : d < 257 := by
            by_cases hh : d < 257
            · exact hh
            · have : d = 257 := by omega
              subst this
              omega
          refine ⟨fun σ' H' => ∃ m' : Nat, m' < (600 - d).toNat ∧ ∃ d : Int, σ' = [some (.int n), some (.int d)] ∧ H = H' ∧ m' = (600 - d).toNat ∧ 3 ≤ d ∧ d ≤ 257 ∧ d % 2 = 1 ∧ ∀ c : Int, 3 ≤ c → c < d → c % 2 = 1 → n % c ≠ 0, fun σ' H' h => h, ?_⟩
          refine ⟨_, rfl, _, rfl, _, _, rfl, rfl, (by show (0 : Int) < d; omega), rfl, _, rfl, ?_⟩
          refine ite2 (fun h9 => ?_) (fun h9 => ?_)
          · have h10 : n % d = 0 := V.int.inj (of_decide_eq_true h9)
            rw [isP_false (d := d) (by omega) h8 h7 h10] at k
            exact k
          · have h10 : n % d ≠ 0 := fun q => h9 (decide_eq_true (congrArg V.int q))
            refine ⟨_, rfl, _, _, rfl, rfl, ?_⟩
            refine ⟨_, ?_, d + 2, rfl, rfl, rfl, by omega, by omega, by omega, fun c c3 c4 c5 => ?_⟩
            · omega
            · by_cases hc : c < d
              · exact hno c c3 hc c5
              · have : c = d := by omega
                subst this
                exact h10
        · have h7 : ¬ d * d ≤ n := fun q => h6 (decide_eq_true q)
          have e : isP n = true := by
            refine isP_of h2 fun c c2 c257 cs cm => ?_
            by_cases hc : c < d
            · by_cases h3c : 3 ≤ c
              · by_cases ho : c % 2 = 1
                · exact hno c h3c hc ho cm
                · obtain ⟨q, hq⟩ : ∃ q, c = 2 * q := ⟨c / 2, by omega⟩
                  have e1 : n = c * (n / c) + n % c := (Int.mul_ediv_add_emod n c).symm
                  rw [cm, hq, Int.mul_assoc] at e1
                  omega
              · have : c = 2 := by omega
                subst this
                exact h5 cm
            · have : d * d ≤ c * c := Int.mul_le_mul (by omega) (by omega) (by omega) (by omega)
              omega
          rw [e] at k
          exact k
def spInverse : Sp := fun vs H Q _ => ∃ a p : Int, vs = [.int a, .int p] ∧ 2 ≤ p ∧ p ≤ 65521 ∧ Cop a p ∧ ∀ (b : Int) (H' : Hp), 0 < b → b < p → a * b % p = 1 → Same H H' → Q (.int b) H'
theorem ok_inverse {f : Addr} {fd : FuncData} {k : Nat} (F : Fun K "inverse" "inverse" s_inverse f fd) : FnOk P w K mg base CX0 (k + 1) f fd ["a", "p"] spInverse := by
  refine F.ok sc_inverse (fun vs H Q E h => ?_) (fun cdv A outer s H vs Q E hr h => ?_)
  · obtain ⟨n, p, rfl, _⟩ := h
    rfl
  · obtain ⟨a, p, rfl, hp, hp2, hc, k⟩ := h
    refine ⟨_, /- slots 0:a 1:p 2:rest 3:next_rest 4:factor 5:next_factor 6:often -/
      (pss_cons (ps_par (i := 2) (j := 3) (by rfl) sc_inverse.nd rfl rfl (by decide) (by rfl) (by rfl) (pa_cons (pv 1) (pa_cons (pe_op op_mod (pv 0) (pv 1)) pa_nil)) (by rfl)) -- rest, next_rest = (p, a % p)
      (pss_cons (ps_asg (pe_tup (pa_cons pe_int (pa_cons pe_int pa_nil))) (pg_tup (by rfl) (pgs_cons (pg_name (i := 4) sc_inverse.nd rfl (by first | exact Or.inl rfl | exact Or.inr rfl)) (pgs_cons (pg_name (i := 5) sc_inverse.nd rfl (by first | exact Or.inl rfl | exact Or.inr rfl)) pgs_nil)))) -- factor, next_factor = (0, 1)
      (pss_cons (ps_while PassesOwn.never (pt_cmpR op_ne (pv 3) pe_int (nomark _))
        (pss_cons (ps_set (i := 6) sc_inverse.nd rfl (by first | exact Or.inl rfl | exact Or.inr rfl) (pe_op op_fdiv (pv 2) (pv 3))) -- often = rest // next_rest
        (pss_cons (ps_par (i := 2) (j := 3) (by rfl) sc_inverse.nd rfl rfl (by decide) (by rfl) (by rfl) (pa_cons (pv 3) (pa_cons (pe_op op_sub (pv 2) (pe_op op_mul (pv 6) (pv 3))) pa_nil)) (by rfl)) -- rest, next_rest = (next_rest, rest - often * next_rest)
        (pss_one (ps_par (i := 4) (j := 5) (by rfl) sc_inverse.nd rfl rfl (by decide) (by rfl) (by rfl) (pa_cons (pv 5) (pa_cons (pe_op op_sub (pv 4) (pe_op op_mul (pv 6) (pv 5))) pa_nil)) (by rfl)))))) -- while next_rest != 0:
      (pss_one (ps_ret (pe_op op_mod (pv 4) (pv 1))))))), ?_⟩
    refine ⟨_, rfl, _, rfl, _, rfl, _, _, rfl, rfl, (by show (0 : Int) < p; omega), _, _, rfl, ?_⟩
    refine ⟨(by show 2 ≤ sizeLine; decide), fun z hz => ?_⟩
    have sz : Same H (upd H z (.tup [.int 0, .int 1])) := same_upd hz
    refine ⟨z, _, rfl, SqT.of upd_same, rfl, _, _, rfl, _, _, rfl, rfl, ?_⟩
    have hr0 : 0 ≤ a % p := Int.emod_nonneg a (by omega)
    have hr1 : a % p < p := Int.emod_lt_of_pos a (by omega)
    have ha : a = p * (a / p) + a % p := (Int.mul_ediv_add_emod a p).symm
    obtain ⟨u0, v0, huv⟩ := hc
    refine ⟨fun m σ H' => ∃ (r n g h : Int) (tv : Option V), σ = [some (.int a), some (.int p), some (.int r), some (.int n), some (.int g), some (.int h), tv] ∧ Same H H' ∧ m = n.toNat ∧ 0 ≤ n ∧ n < r ∧ r ≤ p ∧
      (∃ c, r = g * a + c * p) ∧ (∃ c, n = h * a + c * p) ∧ ∃ u v, u * r + v * n = 1,
      ⟨_, p, a % p, 0, 1, none, rfl, sz, rfl, hr0, hr1, Int.le_refl _, ⟨1, by omega⟩, ⟨-(a / p), ?_⟩, u0 + v0 * (a / p), v0, ?_⟩, fun m σ H' hW => ?_⟩
    · generalize a / p = q at *
      generalize a % p = r at *
      grind
    · generalize a / p = q at *
      generalize a % p = r at *
      grind
    · obtain ⟨r, n, g, h, tv, rfl, sm, rfl, hn0, hnr, hrp, ⟨c1, hc1⟩, ⟨c2, hc2⟩, u, v, huv⟩ := hW
      refine ⟨_, rfl, rfl, _, rfl, ?_⟩
      refine ite2 (fun h1 => ?_) (fun h1 => ?_)
      · have hn : n ≠ 0 := fun q => by
          subst q
          exact absurd h1 (by decide)
        have e1 : r = n * (r / n) + r % n := (Int.mul_ediv_add_emod r n).symm
        have m0 : 0 ≤ r % n := Int.emod_nonneg r hn
        have m1 : r % n < n := Int.emod_lt_of_pos r (by omega)
        have q0 : 0 ≤ r / n := Int.ediv_nonneg (by omega) hn0
        have q1 : r / n ≤ r := Int.ediv_le_self _ (by omega)
        have e2 : r % n = r - r / n * n := by
          rw [Int.mul_comm (r / n) n]
          omega
        rw [e2] at m0 m1
        refine ⟨fun σ' H' => ∃ m' : Nat, m' < n.toNat ∧ ∃ (r n g h : Int) (tv : Option V), σ' = [some (.int a), some (.int p), some (.int r), some (.int n), some (.int g), some (.int h), tv] ∧ Same H H' ∧ m' = n.toNat ∧ 0 ≤ n ∧ n < r ∧ r ≤ p ∧
          (∃ c, r = g * a + c * p) ∧ (∃ c, n = h * a + c * p) ∧ ∃ u v, u * r + v * n = 1, fun σ' H' h => h, ?_⟩
        refine ⟨_, rfl, _, rfl, _, _, rfl, rfl, ⟨by omega, by omega⟩, ?_⟩
        refine ⟨_, rfl, _, rfl, _, rfl, _, rfl, _, _, rfl, rfl, .inl ⟨by omega, by omega⟩, _, _, rfl, rfl, _, _, rfl, ?_⟩
        refine ⟨_, rfl, _, rfl, _, rfl, _, rfl, _, _, rfl, rfl, .inl ⟨by omega, by omega⟩, _, _, rfl, rfl, _, _, rfl, ?_⟩
        refine ⟨_, ?_, n, r - r / n * n, h, g - r / n * h, _, rfl, sm, rfl, by omega, by omega, by omega, ⟨c2, hc2⟩, ⟨c1 - r / n * c2, ?_⟩, v + u * (r / n), u, ?_⟩
        · omega
        · generalize r / n = t at *
          grind
        · generalize r / n = t at *
          grind
      · have hn : n = 0 := by
          by_cases q : n = 0
          · exact q
          · exact absurd (by rw [decide_eq_false (fun z => q (V.int.inj z))]; rfl) h1
        subst hn
        have r1 : r = 1 := by
          have e : u * r = 1 := by omega
          by_cases q : r = 1
          · exact q
          · exfalso
            by_cases hu : 0 < u
            · have : 1 * r ≤ u * r := Int.mul_le_mul_of_nonneg_right (by omega) (by omega)
              omega
            · have : u * r ≤ 0 * r := Int.mul_le_mul_of_nonneg_right (by omega) (by omega)
              omega
        subst r1
        refine ⟨_, rfl, _, rfl, _, _, rfl, rfl, (by show (0 : Int) < p; omega), ?_⟩
        have e1 : g * a = 1 + (-c1) * p := by grind
        obtain ⟨b0, b1⟩ := mod_pos (x := g) hp ⟨a, -c1, e1⟩
        refine k _ _ b0 b1 (one_mod hp ⟨-c1 - a * (g / p), ?_⟩) sm
        have ed : g = p * (g / p) + g % p := (Int.mul_ediv_add_emod g p).symm
        generalize g / p = q at *
        generalize g % p = z at *
        grind
end
end K00
namespace K00
open PySem L2 LW
section
variable {P : Program} {w : World} {K : PySem.W.Frag} {mg : Str → Option Value} {base : Heap}
/-! ### the law's pool -/
def spPool (K : PySem.W.Frag) : Sp := fun vs H Q _ => ∃ (a : Addr) (ns : List Int) (k : Int), vs = [.ref a, .int k] ∧ SqL K H a (ns.map V.int) ∧ ns.length ≤ 63 ∧ 0 ≤ k ∧ k ≤ 1000 ∧ ∀ H' p, Same H H' → H p = none → Pl H' p → Q (.ref p) H'
theorem ok_pool {f : Addr} {fd : FuncData} {n : Nat} (F : Fun K "_law_pool" "_law_pool" s_law_pool f fd) (T : Tx mg) : FnOk P w K mg base CX0 (n + 1) f fd ["_law_script", "_law_k"] (spPool K) := by
  refine F.ok sc_law_pool (fun vs H Q E h => ?_) (fun cdv A outer s H vs Q E hr h => ?_)
  · obtain ⟨a, ns, k, rfl, _⟩ := h
    rfl
  · obtain ⟨a, ns, k, rfl, hS, hl, hk0, hk1, q⟩ := h
    refine ⟨_, /- slots 0:_law_script 1:_law_k 2:_law_cell 3:_law_big 4:_law_mixed -/
      (pss_cons (ps_set (i := 2) sc_law_pool.nd rfl (by first | exact Or.inl rfl | exact Or.inr rfl) pe_int) -- _law_cell = 0
      (C8.pss_cut (ps_if (pt_cmpR op_lt (pv 1) (pe_callB call_lenL (by rfl) T.m_len (by decide +kernel) (pa_cons (pv 0) pa_nil)) (nomark _))
        (pss_one (ps_set (i := 2) sc_law_pool.nd rfl (by first | exact Or.inl rfl | exact Or.inr rfl) (pe_ix ix_list (pv 0) (pv 1) (fun _ _ => rfl))))
        (pss_one (ps_if (pt_cmpR (op_neD hr.units) (pv 0) (pe_lst pa_nil) (nomark _))
          (pss_one (ps_set (i := 2) sc_law_pool.nd rfl (by first | exact Or.inl rfl | exact Or.inr rfl) (pe_ix ix_list (pv 0) pe_int (fun _ _ => rfl))))
          pss_nil))) -- if _law_k < len(_law_script):
      (pss_cons (ps_set (i := 3) sc_law_pool.nd rfl (by first | exact Or.inl rfl | exact Or.inr rfl) (pe_callB (call_max2 rfl) (by rfl) T.m_max (by decide +kernel) (pa_cons (pe_callTy call_intI (by rfl) T.m_int (by decide +kernel) (pa_cons (pv 2) pa_nil)) (pa_cons (pe_callTy call_intI (by rfl) T.m_int (by decide +kernel) (pa_cons (pe_op op_sub (pe_un un_neg pe_int) (pv 2)) pa_nil)) pa_nil)))) -- _law_big = max(int(_law_cell), int(-1 - _law_cell))
      (pss_cons (ps_set (i := 4) sc_law_pool.nd rfl (by first | exact Or.inl rfl | exact Or.inr rfl) (pe_op op_mod (pe_callTy call_intI (by rfl) T.m_int (by decide +kernel) (pa_cons (pe_op op_mul (pe_op op_add (pe_op op_add (pe_op op_add (pe_op op_mod (pe_callTy call_intI (by rfl) T.m_int (by decide +kernel) (pa_cons (pv 3) pa_nil)) pe_int) (pe_op op_mul (pe_op op_mul pe_int (pv 1)) (pv 1))) (pe_op op_mul pe_int (pv 1))) pe_int) pe_int) pa_nil)) pe_int)) -- _law_mixed = int((int(_law_big) % 2147483629 + 7919 * _law_k * _law_k + 31 * _law_k + 17) * 48271) %
      (pss_one (ps_ret (pe_lst (pa_cons (pe_op op_mul (pv 3) (pe_callTy call_intB (by rfl) T.m_int (by decide +kernel) (pa_cons (pe_and (pe_cmpR op_ge (pv 3) (pe_op op_pow pe_int pe_int) (nomark _)) (pe_one (pe_cmpR op_lt (pv 1) (pe_callB call_lenL (by rfl) T.m_len (by decide +kernel) (pa_cons (pv 0) pa_nil)) (nomark _)))) pa_nil))) (pa_cons (pv 4) pa_nil))))))))), ?_⟩
    have at_ns : ∀ {i : Nat}, i < ns.length → ∃ c, (ns.map V.int)[i]? = some (.int c) := fun {i} hi => ⟨ns[i], by rw [List.getElem?_map, List.getElem?_eq_getElem hi]; rfl⟩
    have len_ns : (ns.map V.int).length = ns.length := List.length_map ..
    refine ⟨fun σ' H' => ∃ c : Int, σ' = [some (.ref a), some (.int k), some (.int c), none, none] ∧ Same H H', ?_, ?_⟩
    · refine ⟨_, rfl, _, rfl, a, _, rfl, hS, _, _, rfl, rfl, _, rfl, ?_⟩
      refine ite2 (fun h1 => ?_) (fun h1 => ?_)
      · have h2 : k < ((ns.map V.int).length : Int) := of_decide_eq_true h1
        rw [len_ns] at h2
        obtain ⟨c, hc⟩ := at_ns (i := k.toNat) (by omega)
        exact ⟨_, rfl, _, rfl, a, _, _, _, rfl, rfl, hS, at_of (j := k.toNat) (by omega) hc, c, rfl, Same.refl H⟩
      · refine ⟨_, rfl, Nat.zero_le _, fun z hz => ?_⟩
        have sz : Same H (upd H z (.lst [])) := same_upd hz
        refine ⟨.list (ns.map PyData.int), .list [], .lst (sz.seq hS) (dpAll_ints ns), .lst (SqL.of upd_same) .nil, shaped_ints ns, by decide, _, rfl, ?_⟩
        rw [eqv_nil]
        refine ite2 (fun h3 => ?_) (fun h3 => ?_)
        · have h4 : 0 < ns.length := by
            cases ns with
            | nil => exact absurd h3 (by decide)
            | cons x r => exact Nat.succ_pos _
          obtain ⟨c, hc⟩ := at_ns (i := 0) h4
          exact ⟨_, rfl, a, _, _, _, rfl, rfl, sz.seq hS, atI_nat (j := 0) hc, c, rfl, sz⟩
        · exact ⟨0, rfl, sz⟩
    · rintro σ' H' ⟨c, rfl, sm⟩
      -- big = max(int(cell), int(-1 - cell))
      refine ⟨_, rfl, _, rfl, _, rfl, _, rfl, _, _, rfl, rfl, _, rfl, _, _, rfl, ?_⟩
      obtain ⟨b, hb, hb0⟩ : ∃ b : Int, (if -1 - c > c then -1 - c else c) = b ∧ 0 ≤ b := ⟨_, rfl, by split <;> omega⟩
      dsimp only
      rw [hb]
      -- mixed
      refine ⟨_, rfl, _, rfl, _, _, rfl, rfl, (by show (0 : Int) < 2147483629; decide), _, rfl, _, _, rfl, rfl, .inl ⟨by omega, by omega⟩, _, rfl, _, _, rfl, rfl, .inr ⟨by omega, by omega⟩, _, _, rfl, rfl, _, rfl, _, _, rfl, rfl, .inl ⟨by omega, by omega⟩, _, _, rfl, rfl, _, _, rfl, rfl, _, _, rfl, rfl, .inr ⟨by omega, by omega⟩, _, rfl, _, _, rfl, rfl, (by show (0 : Int) < 2147483647; decide), ?_⟩
      obtain ⟨y, hy, hy0, hy1⟩ : ∃ y : Int, (b % 2147483629 + 7919 * k * k + 31 * k + 17) * 48271 % 2147483647 = y ∧ 0 ≤ y ∧ y < 2147483647 := ⟨_, rfl, Int.emod_nonneg _ (by decide), Int.emod_lt_of_pos _ (by decide)⟩
      dsimp only
      rw [hy]
      -- [big * int(big >= 10 ** 18 and k < len(script)), mixed]
      refine ⟨_, rfl, _, rfl, _, _, rfl, rfl, ⟨by decide, by decide, by decide⟩, _, _, rfl, rfl, _, rfl, ?_⟩
      refine ite2 (fun h1 => ?_) (fun h1 => ?_)
      · refine ⟨_, rfl, _, rfl, a, _, rfl, sm.seq hS, _, _, rfl, rfl, _, rfl, _, _, rfl, rfl, .inr ?_, ?_⟩
        · split <;> exact ⟨by decide, by decide⟩
        · refine ⟨_, rfl, (by show 2 ≤ sizeLine; decide), fun p hp => q _ p (sm.trans (same_upd hp)) (sm.free hp) ⟨_, y, ?_, hy0, hy1, upd_same⟩⟩
          split <;> omega
      · refine ⟨_, rfl, _, _, rfl, rfl, .inr ⟨by decide, by decide⟩, _, rfl, (by show 2 ≤ sizeLine; decide), fun p hp => q _ p (sm.trans (same_upd hp)) (sm.free hp) ⟨_, y, ?_, hy0, hy1, upd_same⟩⟩
        show 0 ≤ b * 0
        omega
def spTake : Sp := fun vs H Q _ => ∃ (p : Addr) (top : Int), vs = [.ref p, .int top] ∧ Pl H p ∧ 0 < top ∧ top < 1073741824 ∧ ∀ d H', 0 ≤ d → d < top → Rl p H H' → Pl H' p → Q (.int d) H'
theorem ok_take {f : Addr} {fd : FuncData} {n : Nat} (F : Fun K "_law_take" "_law_take" s_law_take f fd) (T : Tx mg) : FnOk P w K mg base CX0 (n + 1) f fd ["_law_source", "_law_top"] spTake := by
  refine F.ok sc_law_take (fun vs H Q E h => ?_) (fun cdv A outer s H vs Q E hr h => ?_)
  · obtain ⟨p, t, rfl, _⟩ := h
    rfl
  · obtain ⟨p, top, rfl, ⟨x, y, hx, hy, hy1, hp⟩, ht0, ht1, q⟩ := h
    refine ⟨_, /- slots 0:_law_source 1:_law_top 2:_law_drawn -/
      (pss_cons (ps_if (pt_cmpR op_gt (pe_ix ix_list (pv 0) pe_int (fun _ _ => rfl)) pe_int (nomark _))
        (pss_cons (ps_set (i := 2) sc_law_take.nd rfl (by first | exact Or.inl rfl | exact Or.inr rfl) (pe_op op_mod (pe_callTy call_intI (by rfl) T.m_int (by decide +kernel) (pa_cons (pe_ix ix_list (pv 0) pe_int (fun _ _ => rfl)) pa_nil)) (pv 1))) -- _law_drawn = int(_law_source[0]) % _law_top
        (pss_cons (ps_asg (pe_op op_fdiv (pe_ix ix_list (pv 0) pe_int (fun _ _ => rfl)) (pv 1)) (pg_sub (pv 0) pe_int set_list)) -- _law_source[0] = _law_source[0] // _law_top
        (pss_one (ps_ret (pv 2)))))
        pss_nil) -- if _law_source[0] > 0:
      (pss_cons (ps_asg (pe_op op_mod (pe_callTy call_intI (by rfl) T.m_int (by decide +kernel) (pa_cons (pe_op op_add (pe_op op_mul (pe_ix ix_list (pv 0) pe_int (fun _ _ => rfl)) pe_int) pe_int) pa_nil)) pe_int) (pg_sub (pv 0) pe_int set_list)) -- _law_source[1] = int(_law_source[1] * 39373 + 7) % 2147483647
      (pss_one (ps_ret (pe_op op_mod (pe_callTy call_intI (by rfl) T.m_int (by decide +kernel) (pa_cons (pe_op op_fdiv (pe_op op_mod (pe_callTy call_intI (by rfl) T.m_int (by decide +kernel) (pa_cons (pe_op op_mul (pe_ix ix_list (pv 0) pe_int (fun _ _ => rfl)) (pe_ix ix_list (pv 0) pe_int (fun _ _ => rfl))) pa_nil)) pe_int) pe_int) pa_nil)) (pv 1)))))), ?_⟩
    refine ⟨_, rfl, p, _, _, _, rfl, rfl, SqL.of hp, int0, _, _, rfl, rfl, _, rfl, ?_⟩
    refine ite2 (fun h1 => ?_) (fun h1 => ?_)
    · refine ⟨_, rfl, p, _, _, _, rfl, rfl, SqL.of hp, int0, _, rfl, _, rfl, _, _, rfl, rfl, ht0, ?_⟩
      refine ⟨_, rfl, p, _, _, _, rfl, rfl, SqL.of hp, int0, _, rfl, _, _, rfl, rfl, ⟨ht0, ht1⟩, ?_⟩
      refine ⟨_, rfl, p, _, _, _, rfl, rfl, hp, rfl, ?_⟩
      refine ⟨_, rfl, ?_⟩
      exact q _ _ (Int.emod_nonneg _ (by omega)) (Int.emod_lt_of_pos _ ht0) Rl.upd ⟨_, y, Int.ediv_nonneg hx (by omega), hy, hy1, upd_same⟩
    · refine ⟨_, rfl, p, _, _, _, rfl, rfl, SqL.of hp, int1, _, _, rfl, rfl, .inl ⟨by omega, by omega⟩, _, _, rfl, rfl, _, rfl, _, _, rfl, rfl, (by show (0 : Int) < 2147483647; decide), ?_⟩
      obtain ⟨z, hz, hz0, hz1⟩ : ∃ z : Int, (y * 39373 + 7) % 2147483647 = z ∧ 0 ≤ z ∧ z < 2147483647 := ⟨_, rfl, Int.emod_nonneg _ (by decide), Int.emod_lt_of_pos _ (by decide)⟩
      refine ⟨_, rfl, p, _, _, _, rfl, rfl, hp, rfl, ?_⟩
      dsimp only
      rw [hz]
      have h1 : (upd H p (.lst [.int x, .int z])) p = some (.lst [.int x, .int z]) := upd_same
      refine ⟨_, rfl, p, _, _, _, rfl, rfl, SqL.of h1, int1, _, rfl, p, _, _, _, rfl, rfl, SqL.of h1, int1, _, _, rfl, rfl, .inl ⟨by omega, by omega⟩, _, rfl, _, _, rfl, rfl, (by show (0 : Int) < 2147483629; decide), _, _, rfl, rfl, ⟨by decide, by decide⟩, _, rfl, _, rfl, _, _, rfl, rfl, ht0, ?_⟩
      exact q _ _ (Int.emod_nonneg _ (by omega)) (Int.emod_lt_of_pos _ ht0) Rl.upd ⟨x, z, hx, hz0, hz1, h1⟩
def spOne (K : PySem.W.Frag) : Sp := fun vs H Q _ => ∃ (p t : Addr) (xs : List V), vs = [.ref p, .ref t] ∧ Pl H p ∧ t ≠ p ∧ SqL K H t xs ∧ 0 < xs.length ∧ xs.length < 1073741824 ∧ ∀ (j : Nat) v H', xs[j]? = some v → Rl p H H' → Pl H' p → Q v H'
theorem ok_one {f : Addr} {fd : FuncData} (F : Fun K "_law_one" "_law_one" s_law_one f fd) (T : Tx mg) (d_law_take : Dk P w K mg base 1 "_law_take" ["_law_source", "_law_top"] spTake) : FnOk P w K mg base CX0 2 f fd ["_law_source", "_law_things"] (spOne K) := by
  refine F.ok sc_law_one (fun vs H Q E h => ?_) (fun cdv A outer s H vs Q E hr h => ?_)
  · obtain ⟨p, t, xs, rfl, _⟩ := h
    rfl
  · obtain ⟨p, t, xs, rfl, hp, nt, hS, hl0, hl1, q⟩ := h
    refine ⟨_, /- slots 0:_law_source 1:_law_things -/
      (pss_one (ps_ret (pe_ix ix_list (pv 1) (pe_dk d_law_take (hr.mono (by decide)) (by rfl) (pa_cons (pv 0) (pa_cons (pe_callB call_lenL (by rfl) T.m_len (by decide +kernel) (pa_cons (pv 1) pa_nil)) pa_nil))) (fun _ _ => rfl)))), ?_⟩
    refine ⟨_, rfl, _, rfl, _, rfl, t, xs, rfl, hS, p, _, rfl, hp, by omega, by omega, fun d H' d0 d1 rl hp' => ?_⟩
    have hd : d.toNat < xs.length := by omega
    exact ⟨t, xs, d, xs[d.toNat], rfl, rfl, rl.seq nt hS, at_of (j := d.toNat) (by omega) (List.getElem?_eq_getElem hd), q d.toNat _ _ (List.getElem?_eq_getElem hd) rl hp'⟩
end
end K00
namespace K00
open PySem L2 LW
section
variable {P : Program} {w : World} {K : PySem.W.Frag} {mg : Str → Option Value} {base : Heap}
def spIsP : Sp := fun vs H Q _ => ∃ n : Int, vs = [.int n] ∧ -(2 ^ 40) < n ∧ n < 2 ^ 40 ∧ ∀ H', Same H H' → Q (.bl (isP n)) H'
theorem all_false {n : Int} {ns : List Int} (h : ns = [] ↔ ∀ j, j < 255 → tst n j = false) (h2 : 2 ≤ n) : (ns.map PyData.int).isEmpty = isP n := by
  cases e : isP n with
  | true =>
    have := h.mpr (isP_iff.mp e).2
    subst this
    rfl
  | false =>
    cases ns with
    | nil => 
      have := isP_iff.mpr ⟨h2, h.mp rfl⟩
      rw [e] at this
      cases this
    | cons x r => rfl
theorem ok_isP {f : Addr} {fd : FuncData} (F : Fun K "_law_is_prime" "_law_is_prime" s_law_is_prime f fd) (T : Tx mg) : FnOk P w K mg base CX0 1 f fd ["_law_number"] spIsP := by
  refine F.ok sc_law_is_prime (fun vs H Q E h => ?_) (fun cdv A outer s H vs Q E hr h => ?_)
  · obtain ⟨n, rfl, _⟩ := h
    rfl
  · obtain ⟨n, rfl, hn0, hn1, k⟩ := h
    refine ⟨_, /- slots 0:_law_number 1:_law_d -/
      (pss_cons (ps_if (pt_cmpR op_lt (pv 0) pe_int (nomark _))
        (pss_one (ps_ret pe_bl))
        pss_nil) -- if _law_number < 2:
      (pss_one (ps_ret (pe_cmpR (op_eqD hr.units) (pe_lc (own := [("_law_d", 1)]) (g := (gName 1)) (by rfl) sc_law_is_prime.nd (pi_range2 (by rfl) T.m_range (pa_cons pe_int (pa_cons pe_int pa_nil))) (blkOk_by (own := [("_law_d", 1)]) (N := n_law_is_prime) (sc := defScope s_law_is_prime) (by decide +kernel)) (fun _ _ _ _ _ => (pg_name (i := 1) sc_law_is_prime.nd rfl (by first | exact Or.inl rfl | exact Or.inr rfl))) (fun _ _ _ _ _ => (pts_one (PW.pt (pw_and (pt_cmpR op_le (pe_op op_mul (pv 1) (pv 1)) (pv 0) (nomark _)) (pw_and1 (pt_cmpR op_eq (pe_op op_mod (pe_callTy call_intI (by rfl) T.m_int (by decide +kernel) (pa_cons (pv 0) pa_nil)) (pv 1)) pe_int (nomark _))))))) (fun _ _ _ _ _ => (pv 1))) (pe_lst pa_nil) (nomark _))))), ?_⟩
    refine ⟨_, rfl, _, _, rfl, rfl, _, rfl, ?_⟩
    refine ite2 (fun h1 => ?_) (fun h1 => ?_)
    · have h2 : n < 2 := of_decide_eq_true h1
      have e : isP n = false := by
        unfold isP
        rw [decide_eq_false (by omega), Bool.false_and]
      rw [e] at k
      exact k H (Same.refl H)
    · have h2 : 2 ≤ n := by
        have := of_decide_eq_false (Bool.eq_false_iff.mpr h1)
        omega
      refine ⟨2, 257, rfl, ⟨by decide, by decide, by decide, by decide⟩, fun D nD => ?_⟩
      refine lc_range (lo := 2) (n := 255) (fun i H' => Same H H' ∧ ∃ ns : List Int, H' D = some (.lst (ns.map V.int)) ∧ ns.length ≤ i ∧ (ns = [] ↔ ∀ j, j < i → tst n j = false))
        ⟨same_upd nD, [], upd_same, Nat.le_refl _, fun _ j hj => absurd hj (Nat.not_lt_zero j), fun _ => rfl⟩ ?_ ?_
      · rintro i H' hi ⟨sm, ns, hD, hl, hiff⟩
        have skip : tst n i = false → Same H H' ∧ ∃ ns : List Int, H' D = some (.lst (ns.map V.int)) ∧ ns.length ≤ i + 1 ∧ (ns = [] ↔ ∀ j, j < i + 1 → tst n j = false) := fun ht =>
          ⟨sm, ns, hD, by omega, fun e j hj => by
            by_cases hj2 : j < i
            · exact hiff.mp e j hj2
            · have : j = i := by omega
              subst this
              exact ht, fun h => hiff.mpr fun j hj => h j (by omega)⟩
        refine ⟨rfl, ?_⟩
        refine ⟨_, rfl, _, rfl, _, _, rfl, rfl, .inl ⟨by omega, by omega⟩, _, rfl, _, _, rfl, rfl, _, rfl, ?_⟩
        refine ite2 (fun h3 => ?_) (fun h3 => ?_)
        · refine ⟨_, rfl, _, rfl, _, rfl, _, _, rfl, rfl, (by show (0 : Int) < 2 + (i : Int); omega), rfl, _, rfl, ?_⟩
          refine ite2 (fun h4 => ?_) (fun h4 => ?_)
          · have ht : tst n i = true := tst_iff.mpr ⟨of_decide_eq_true h3, V.int.inj (of_decide_eq_true h4)⟩
            refine ⟨_, rfl, _, hD, (by rw [List.length_map]; exact small1000 (by omega)), Same.newU sm nD, ns ++ [2 + (i : Int)], ?_, ?_, ?_⟩
            · rw [upd_same, List.map_append]
              rfl
            · rw [List.length_append, List.length_singleton]
              omega
            · refine ⟨fun e => absurd e (by simp), fun h => ?_⟩
              rw [h i (Nat.lt_succ_self i)] at ht
              cases ht
          · refine skip ?_
            cases e : tst n i with
            | false => rfl
            | true => exact absurd (decide_eq_true (congrArg V.int (tst_iff.mp e).2)) h4
        · refine skip ?_
          cases e : tst n i with
          | false => rfl
          | true => exact absurd (decide_eq_true (tst_iff.mp e).1) h3
      · rintro H' ⟨sm, ns, hD, hl, hiff⟩
        refine ⟨Nat.zero_le _, fun z hz => ?_⟩
        have nz : D ≠ z := ne_of_none hD hz
        refine ⟨.list (ns.map PyData.int), .list [], .lst (SqL.of (by rw [upd_ne nz]; exact hD)) (dpAll_ints ns), .lst (SqL.of upd_same) .nil, shaped_ints ns, by decide, ?_⟩
        rw [eqv_nil, all_false hiff h2]
        exact k _ (sm.trans (same_upd hz))
def spPrime : Sp := fun vs H Q _ => ∃ p : Addr, vs = [.ref p] ∧ Pl H p ∧ ∀ n H', isP n = true → n ≤ 65521 → Rl p H H' → Pl H' p → Q (.int n) H'
theorem ok_prime {f : Addr} {fd : FuncData} (F : Fun K "_law_prime" "_law_prime" s_law_prime f fd) (T : Tx mg) (d_law_take : Dk P w K mg base 1 "_law_take" ["_law_source", "_law_top"] spTake)
    (d_law_one : Dk P w K mg base 2 "_law_one" ["_law_source", "_law_things"] (spOne K)) (d_law_is_prime : Dk P w K mg base 1 "_law_is_prime" ["_law_number"] spIsP) : FnOk P w K mg base CX0 3 f fd ["_law_source"] spPrime := by
  refine F.ok sc_law_prime (fun vs H Q E h => ?_) (fun cdv A outer s H vs Q E hr h => ?_)
  · obtain ⟨p, rfl, _⟩ := h
    rfl
  · obtain ⟨p, rfl, hp, k⟩ := h
    refine ⟨_, /- slots 0:_law_source 1:_law_number 2:_law_turn -/
      (pss_cons (ps_set (i := 1) sc_law_prime.nd rfl (by first | exact Or.inl rfl | exact Or.inr rfl) (pe_dk d_law_one (hr.mono (by decide)) (by rfl) (pa_cons (pv 0) (pa_cons (pe_lst (pa_cons pe_int (pa_cons pe_int (pa_cons pe_int (pa_cons pe_int (pa_cons (pe_op op_add pe_int (pe_dk d_law_take (hr.mono (by decide)) (by rfl) (pa_cons (pv 0) (pa_cons pe_int pa_nil)))) (pa_cons (pe_op op_add pe_int (pe_dk d_law_take (hr.mono (by decide)) (by rfl) (pa_cons (pv 0) (pa_cons pe_int pa_nil)))) pa_nil))))))) pa_nil)))) -- _law_number = _law_one(_law_source, [65521, 2, 3, 257, 2 + _law_take(_law_source, 65520), 2 + _law_t
      (pss_cons (ps_for PassesOwn.never rfl (pi_range1 (by rfl) T.m_range (pa_cons pe_int pa_nil)) (pg_name (i := 2) sc_law_prime.nd rfl (by first | exact Or.inl rfl | exact Or.inr rfl))
        (pss_cons (ps_if (pt_val (pe_dk d_law_is_prime (hr.mono (by decide)) (by rfl) (pa_cons (pv 1) pa_nil)))
          (pss_one ps_break)
          pss_nil) -- if _law_is_prime(_law_number):
        (pss_one (ps_set (i := 1) sc_law_prime.nd rfl (by first | exact Or.inl rfl | exact Or.inr rfl) (pe_op op_sub (pv 1) pe_int))))) -- for _law_turn in range(120):
      (pss_one (ps_ret (pv 1))))), ?_⟩
    refine ⟨_, rfl, _, rfl, p, 65520, rfl, hp, by decide, by decide, fun d1 H1 d10 d11 rl1 hp1 => ?_⟩
    refine ⟨_, _, rfl, rfl, _, rfl, p, 300, rfl, hp1, by decide, by decide, fun d2 H2 d20 d21 rl2 hp2 => ?_⟩
    refine ⟨_, _, rfl, rfl, (by show 6 ≤ sizeLine; decide), fun t nt => ?_⟩
    refine ⟨p, t, _, rfl, hp2.same (same_upd nt), (hp2.ne nt).symm, SqL.of upd_same, by show 0 < 6; decide, by show 6 < 1073741824; decide, fun j v H3 hj rl3 hp3 => ?_⟩
    have rl : Rl p H H3 := rl1.trans (rl2.trans ((Rl.same (same_upd nt)).trans rl3))
    obtain ⟨m, rfl, hm0, hm1⟩ : ∃ m : Int, v = .int m ∧ 2 ≤ m ∧ m ≤ 65521 := by
      match j, hj with
      | 0, hj => exact ⟨65521, (Option.some.inj hj).symm, by decide, by decide⟩
      | 1, hj => exact ⟨2, (Option.some.inj hj).symm, by decide, by decide⟩
      | 2, hj => exact ⟨3, (Option.some.inj hj).symm, by decide, by decide⟩
      | 3, hj => exact ⟨257, (Option.some.inj hj).symm, by decide, by decide⟩
      | 4, hj => exact ⟨2 + d1, (Option.some.inj hj).symm, by omega, by omega⟩
      | 5, hj => exact ⟨2 + d2, (Option.some.inj hj).symm, by omega, by omega⟩
      | n + 6, hj => cases hj
    obtain ⟨q, hq, hqm, hqd⟩ := prime_near hm0 hm1
    refine ⟨120, rfl, by decide, by decide, ?_⟩
    refine for_range (lo := 0) (n := 120) (fun i σ H' => ∃ (c : Int) (tv : Option V), σ = [some (.ref p), some (.int c), tv] ∧ Rl p H H' ∧ Pl H' p ∧ q ≤ c ∧ c = m - (i : Int)) ⟨m, none, rfl, rl, hp3, hqm, by omega⟩ ?_ ?_
    · rintro i σ H' hi ⟨c, tv, rfl, rlc, hpc, hqc, ec⟩
      have := isP_ge hq
      refine ⟨_, rfl, c, rfl, by omega, by omega, fun H4 sm4 => ?_⟩
      refine ⟨_, rfl, ?_⟩
      refine ite2 (fun h1 => ?_) (fun h1 => ?_)
      · exact ⟨_, rfl, k c H4 h1 (by omega) (rlc.trans (Rl.same sm4)) (hpc.same sm4)⟩
      · refine ⟨_, rfl, _, _, rfl, rfl, ?_⟩
        have hne : c ≠ q := fun e => by
          subst e
          exact h1 hq
        exact ⟨c - 1, _, rfl, rlc.trans (Rl.same sm4), hpc.same sm4, by omega, by omega⟩
    · rintro σ H' ⟨c, tv, rfl, rlc, hpc, hqc, ec⟩
      exfalso
      omega
def spRight : Sp := fun vs H Q _ => ∃ (p : Addr) (g : Int), vs = [.ref p, .int g] ∧ Pl H p ∧ 2 ≤ g ∧ g ≤ 65521 ∧ ∀ H', Rl p H H' → Pl H' p → Q (.bl true) H'
theorem ok_right {f : Addr} {fd : FuncData} (F : Fun K "_law_primes_right" "_law_primes_right" s_law_primes_right f fd) (T : Tx mg) (d_law_take : Dk P w K mg base 1 "_law_take" ["_law_source", "_law_top"] spTake)
    (d_is_prime : Dk P w K mg base 3 "is_prime" ["p"] spIsPrime) (d_law_is_prime : Dk P w K mg base 1 "_law_is_prime" ["_law_number"] spIsP) : FnOk P w K mg base CX0 4 f fd ["_law_source", "_law_p"] spRight := by
  refine F.ok sc_law_primes_right (fun vs H Q E h => ?_) (fun cdv A outer s H vs Q E hr h => ?_)
  · obtain ⟨p, g, rfl, _⟩ := h
    rfl
  · obtain ⟨p, g, rfl, hp, hg0, hg1, k⟩ := h
    refine ⟨_, /- slots 0:_law_source 1:_law_p 2:_law_some 3:_law_turn 4:_law_one_here 5:_law_other 6:_law_number -/
      (pss_cons (ps_set (i := 2) sc_law_primes_right.nd rfl (by first | exact Or.inl rfl | exact Or.inr rfl) (pe_lst (pa_cons pe_int (pa_cons pe_int (pa_cons pe_int (pa_cons pe_int (pa_cons pe_int (pa_cons pe_int (pa_cons pe_int (pa_cons pe_int (pa_cons pe_int (pa_cons pe_int (pa_cons pe_int (pa_cons pe_int (pa_cons pe_int (pa_cons (pv 1) (pa_cons (pe_op op_add (pv 1) pe_int) (pa_cons (pe_op op_sub (pv 1) pe_int) pa_nil)))))))))))))))))) -- _law_some = [0, 1, 2, 3, 4, 5, 9, 25, 65519, 65520, 65521, 65522, 65531, _law_p, _law_p + 1, _law_p 
      (pss_cons (ps_for PassesOwn.never rfl (pi_range1 (by rfl) T.m_range (pa_cons pe_int pa_nil)) (pg_name (i := 3) sc_law_primes_right.nd rfl (by first | exact Or.inl rfl | exact Or.inr rfl))
        (pss_cons (ps_par (i := 4) (j := 5) (by rfl) sc_law_primes_right.nd rfl rfl (by decide) (by rfl) (by rfl) (pa_cons (pe_dk d_law_take (hr.mono (by decide)) (by rfl) (pa_cons (pv 0) (pa_cons pe_int pa_nil))) (pa_cons (pe_dk d_law_take (hr.mono (by decide)) (by rfl) (pa_cons (pv 0) (pa_cons pe_int pa_nil))) pa_nil)) (by rfl)) -- _law_one_here, _law_other = (_law_take(_law_source, 256), _law_take(_law_source, 256))
        (pss_one (ps_set (i := 2) sc_law_primes_right.nd rfl (by first | exact Or.inl rfl | exact Or.inr rfl) (pe_op op_cat (pv 2) (pe_lst (pa_cons (pe_op op_mul (pv 4) (pv 4)) (pa_cons (pe_op op_mul (pv 4) (pv 5)) (pa_cons (pe_dk d_law_take (hr.mono (by decide)) (by rfl) (pa_cons (pv 0) (pa_cons pe_int pa_nil))) pa_nil))))))))) -- for _law_turn in range(8):
      (pss_one (ps_ret (pe_cmpR (op_eqD hr.units) (pe_lc (own := [("_law_number", 6)]) (g := (gName 6)) (by rfl) sc_law_primes_right.nd (pi_list (pv 2)) (blkOk_by (own := [("_law_number", 6)]) (N := n_law_primes_right) (sc := defScope s_law_primes_right) (by decide +kernel)) (fun _ _ _ _ _ => (pg_name (i := 6) sc_law_primes_right.nd rfl (by first | exact Or.inl rfl | exact Or.inr rfl))) (fun _ _ _ _ _ => (pts_one (pt_cmpR op_ne (pe_callB call_reprB (by rfl) T.m_repr (by decide +kernel) (pa_cons (pe_dk d_is_prime (hr.mono (by decide)) (by rfl) (pa_cons (pv 6) pa_nil)) pa_nil)) (pe_callB call_reprB (by rfl) T.m_repr (by decide +kernel) (pa_cons (pe_dk d_law_is_prime (hr.mono (by decide)) (by rfl) (pa_cons (pv 6) pa_nil)) pa_nil)) (nomark _)))) (fun _ _ _ _ _ => (pv 6))) (pe_lst pa_nil) (nomark _)))))), ?_⟩
    refine ⟨_, rfl, _, rfl, _, _, rfl, rfl, _, rfl, _, _, rfl, rfl, (by show 16 ≤ sizeLine; decide), fun L nL => ?_⟩
    refine ⟨8, rfl, by decide, by decide, ?_⟩
    refine for_range (lo := 0) (n := 8) (fun i σ H' => ∃ (L : Addr) (ns : List Int) (v3 v4 v5 v6 : Option V), σ = [some (.ref p), some (.int g), some (.ref L), v3, v4, v5, v6] ∧ Rl p H H' ∧ Pl H' p ∧ L ≠ p ∧ H' L = some (.lst (ns.map V.int)) ∧ ns.length ≤ 16 + 3 * i ∧ ∀ n ∈ ns, 0 ≤ n ∧ n ≤ 65531)
      ⟨L, [0, 1, 2, 3, 4, 5, 9, 25, 65519, 65520, 65521, 65522, 65531, g, g + 1, g - 1], none, none, none, none, rfl, Rl.same (same_upd nL), hp.same (same_upd nL), (hp.ne nL).symm, upd_same, Nat.le_refl _, ?_⟩ ?_ ?_
    · simp only [List.mem_cons, List.not_mem_nil, or_false]
      intro n hn
      omega
    · rintro i σ H' hi ⟨L, ns, v3, v4, v5, v6, rfl, rl, hp1, nLp, hL, hl, hns⟩
      refine ⟨_, rfl, p, 256, rfl, hp1, by decide, by decide, fun a H1 a0 a1 rl1 hp1 => ?_⟩
      refine ⟨_, rfl, p, 256, rfl, hp1, by decide, by decide, fun b H2 b0 b1 rl2 hp2 => ?_⟩
      refine ⟨_, _, rfl, ?_⟩
      refine ⟨_, rfl, _, rfl, _, rfl, _, _, rfl, rfl, .inl ⟨by omega, by omega⟩, _, rfl, _, rfl, _, _, rfl, rfl, .inl ⟨by omega, by omega⟩, _, rfl, p, 65532, rfl, hp2, by decide, by decide, fun c H3 c0 c1 rl3 hp3 => ?_⟩
      refine ⟨(by show 3 ≤ sizeLine; decide), fun z nz => ?_⟩
      have hL3 : H3 L = some (.lst (ns.map V.int)) := rl3 _ _ nLp (rl2 _ _ nLp (rl1 _ _ nLp hL))
      refine ⟨L, z, _, _, rfl, rfl, (same_upd nz) _ _ hL3, upd_same, ?_, fun M nM => ?_⟩
      · rw [List.length_map]
        exact Nat.le_of_lt (small1000 (by show ns.length + 3 ≤ 1000; omega))
      · refine ⟨M, ns ++ [a * a, a * b, c], _, _, _, _, rfl, rl.trans (rl1.trans (rl2.trans (rl3.trans ((Rl.same (same_upd nz)).trans (Rl.same (same_upd nM)))))), (hp3.same (same_upd nz)).same (same_upd nM), ((hp3.same (same_upd nz)).ne nM).symm, ?_, ?_, ?_⟩
        · rw [upd_same, List.map_append]
          rfl
        · rw [List.length_append]
          show ns.length + 3 ≤ _
          omega
        · intro n hn
          rcases List.mem_append.mp hn with h | h
          · exact hns n h
          · have e1 : a * a ≤ 255 * 255 := Int.mul_le_mul (by omega) (by omega) (by omega) (by omega)
            have e2 : a * b ≤ 255 * 255 := Int.mul_le_mul (by omega) (by omega) (by omega) (by omega)
            have e3 : 0 ≤ a * a := Int.mul_nonneg a0 a0
            have e4 : 0 ≤ a * b := Int.mul_nonneg a0 b0
            simp only [List.mem_cons, List.not_mem_nil, or_false] at h
            omega
    · rintro σ H' ⟨L, ns, v3, v4, v5, v6, rfl, rl, hp1, nLp, hL, hl, hns⟩
      refine ⟨_, rfl, L, rfl, ⟨_, SqL.of hL⟩, fun D nD => ?_⟩
      refine lc_list (K := K) (a := L) (xs := ns.map V.int) (fun i H2 => Same H' H2 ∧ H2 D = some (.lst [])) ⟨same_upd nD, upd_same⟩ (fun i H2 _ ⟨sm, _⟩ => SqL.of (sm _ _ hL)) ?_ ?_
      · rintro i x H2 hx ⟨sm, hD⟩
        obtain ⟨n, rfl, hn⟩ : ∃ n, x = V.int n ∧ n ∈ ns := by
          obtain ⟨n, hn, e⟩ := List.mem_map.mp (List.mem_of_getElem? hx)
          exact ⟨n, e.symm, hn⟩
        have hb := hns n hn
        refine ⟨rfl, _, rfl, n, rfl, _, rfl, _, rfl, n, rfl, by omega, by omega, fun H3 sm3 => ?_⟩
        refine ⟨_, rfl, rfl, _, rfl, ?_⟩
        rw [isPr_eq hb.2]
        refine iteNS rfl ?_
        exact ⟨sm.trans sm3, sm3 _ _ hD⟩
      · rintro H2 ⟨sm, hD⟩
        refine ⟨Nat.zero_le _, fun z hz => ?_⟩
        have nz : D ≠ z := ne_of_none hD hz
        refine ⟨.list [], .list [], .lst (SqL.of (by rw [upd_ne nz]; exact hD)) .nil, .lst (SqL.of upd_same) .nil, by decide, by decide, ?_⟩
        exact k _ (rl.trans ((Rl.same sm).trans (Rl.same (same_upd hz)))) ((hp1.same sm).same (same_upd hz))
end
end K00
namespace K00
open PySem L2 LW
section
variable {P : Program} {w : World} {K : PySem.W.Frag} {mg : Str → Option Value} {base : Heap}
def spLaw (K : PySem.W.Frag) : Sp := fun vs H Q _ => ∃ (a : Addr) (ns : List Int), vs = [.ref a] ∧ SqL K H a (ns.map V.int) ∧ ns.length ≤ 63 ∧ ∀ H', Q (.bl true) H'
theorem ok_law {f : Addr} {fd : FuncData} (F : Fun K "law" "law" s_law f fd) (T : Tx mg) (d_law_pool : Dk P w K mg base 1 "_law_pool" ["_law_script", "_law_k"] (spPool K)) (d_law_take : Dk P w K mg base 1 "_law_take" ["_law_source", "_law_top"] spTake)
    (d_law_one : Dk P w K mg base 2 "_law_one" ["_law_source", "_law_things"] (spOne K)) (d_law_prime : Dk P w K mg base 3 "_law_prime" ["_law_source"] spPrime) (d_law_primes_right : Dk P w K mg base 4 "_law_primes_right" ["_law_source", "_law_p"] spRight)
    (d_inverse : Dk P w K mg base 1 "inverse" ["a", "p"] spInverse) (kb_inverse : KBinds K d_inverse.fd ["a", "p"] ["a", "p"] gK gK) : FnOk P w K mg base CX0 5 f fd ["_law_script"] (spLaw K) := by
  refine F.ok sc_law (fun vs H Q E h => ?_) (fun cdv A outer s H vs Q E hr h => ?_)
  · obtain ⟨a, ns, rfl, _⟩ := h
    rfl
  · obtain ⟨a, ns, rfl, hS, hl, k⟩ := h
    refine ⟨_, /- slots 0:_law_script 1:_law_source 2:_law_p 3:_law_last 4:_law_turn 5:_law_a 6:_law_told 7:_law_product -/
      (pss_cons (ps_set (i := 1) sc_law.nd rfl (by first | exact Or.inl rfl | exact Or.inr rfl) (pe_dk d_law_pool (hr.mono (by decide)) (by rfl) (pa_cons (pv 0) (pa_cons pe_int pa_nil)))) -- _law_source = _law_pool(_law_script, 0)
      (pss_cons (ps_set (i := 2) sc_law.nd rfl (by first | exact Or.inl rfl | exact Or.inr rfl) (pe_dk d_law_prime (hr.mono (by decide)) (by rfl) (pa_cons (pv 1) pa_nil))) -- _law_p = _law_prime(_law_source)
      (pss_cons (ps_if (pt_not (pt_val (pe_dk d_law_primes_right (hr.mono (by decide)) (by rfl) (pa_cons (pv 1) (pa_cons (pv 2) pa_nil)))))
        (pss_one (ps_ret pe_bl))
        pss_nil) -- if not _law_primes_right(_law_source, _law_p):
      (pss_cons (ps_set (i := 3) sc_law.nd rfl (by first | exact Or.inl rfl | exact Or.inr rfl) pe_int) -- _law_last = 1
      (pss_cons (ps_for PassesOwn.never rfl (pi_range1 (by rfl) T.m_range (pa_cons pe_int pa_nil)) (pg_name (i := 4) sc_law.nd rfl (by first | exact Or.inl rfl | exact Or.inr rfl))
        (pss_cons (ps_set (i := 5) sc_law.nd rfl (by first | exact Or.inl rfl | exact Or.inr rfl) (pe_dk d_law_one (hr.mono (by decide)) (by rfl) (pa_cons (pv 1) (pa_cons (pe_lst (pa_cons pe_int (pa_cons (pe_op op_sub (pv 2) pe_int) (pa_cons (pe_op op_add pe_int (pe_dk d_law_take (hr.mono (by decide)) (by rfl) (pa_cons (pv 1) (pa_cons (pe_op op_sub (pv 2) pe_int) pa_nil)))) (pa_cons (pe_op op_add pe_int (pe_dk d_law_take (hr.mono (by decide)) (by rfl) (pa_cons (pv 1) (pa_cons (pe_op op_sub (pv 2) pe_int) pa_nil)))) pa_nil))))) pa_nil)))) -- _law_a = _law_one(_law_source, [1, _law_p - 1, 1 + _law_take(_law_source, _law_p - 1), 1 + _law_take
        (pss_cons (ps_set (i := 6) sc_law.nd rfl (by first | exact Or.inl rfl | exact Or.inr rfl) (pe_dk d_inverse (hr.mono (by decide)) (by rfl) (pa_cons (pv 5) (pa_cons (pv 2) pa_nil)))) -- _law_told = inverse(_law_a, _law_p)
        (pss_cons (ps_if (PW.pt (pw_or (pt_not (pt_val (pe_callB call_isi (by rfl) T.m_isinstance (by decide +kernel) (pa_cons (pv 6) (pa_cons (pe_bltn (v := .ty "int") (by rfl) T.m_int (by decide +kernel) rfl) pa_nil))))) (pw_or (pt_val (pe_callB call_isi (by rfl) T.m_isinstance (by decide +kernel) (pa_cons (pv 6) (pa_cons (pe_bltn (v := .ty "bool") (by rfl) T.m_bool (by decide +kernel) rfl) pa_nil)))) (pw_or (pt_not (pt_chain op_lt op_lt pe_int (pv 6) (pv 2))) (pw_or1 (pt_cmpR op_ne (pe_op op_mod (pe_callTy call_intI (by rfl) T.m_int (by decide +kernel) (pa_cons (pe_op op_mul (pv 5) (pv 6)) pa_nil)) (pv 2)) pe_int (nomark _)))))))
          (pss_one (ps_ret pe_bl))
          pss_nil) -- if not isinstance(_law_told, int) or isinstance(_law_told, bool) or (not 0 < _law_told < _law_p) or 
        (pss_cons (ps_if (pt_cmpR op_ne (pe_callB call_reprI (by rfl) T.m_repr (by decide +kernel) (pa_cons (pe_dkK0 d_inverse (hr.mono (by decide)) (by rfl) kb_inverse (pk_cons (pv 6) (pk_cons (pv 2) pk_nil))) pa_nil)) (pe_callB call_reprI (by rfl) T.m_repr (by decide +kernel) (pa_cons (pv 5) pa_nil)) (nomark _))
          (pss_one (ps_ret pe_bl))
          pss_nil) -- if repr(inverse(a=_law_told, p=_law_p)) != repr(_law_a):
        (pss_cons (ps_set (i := 7) sc_law.nd rfl (by first | exact Or.inl rfl | exact Or.inr rfl) (pe_op op_mod (pe_callTy call_intI (by rfl) T.m_int (by decide +kernel) (pa_cons (pe_op op_mul (pv 5) (pv 3)) pa_nil)) (pv 2))) -- _law_product = int(_law_a * _law_last) % _law_p
        (pss_cons (ps_if (pt_cmpR op_ne (pe_dk d_inverse (hr.mono (by decide)) (by rfl) (pa_cons (pv 7) (pa_cons (pv 2) pa_nil))) (pe_op op_mod (pe_callTy call_intI (by rfl) T.m_int (by decide +kernel) (pa_cons (pe_op op_mul (pv 6) (pe_dk d_inverse (hr.mono (by decide)) (by rfl) (pa_cons (pv 3) (pa_cons (pv 2) pa_nil)))) pa_nil)) (pv 2)) (nomark _))
          (pss_one (ps_ret pe_bl))
          pss_nil) -- if inverse(_law_product, _law_p) != int(_law_told * inverse(_law_last, _law_p)) % _law_p:
        (pss_one (ps_set (i := 3) sc_law.nd rfl (by first | exact Or.inl rfl | exact Or.inr rfl) (pv 5)))))))))) -- for _law_turn in range(6):
      (pss_one (ps_ret pe_bl))))))), ?_⟩
    refine ⟨_, rfl, a, ns, 0, rfl, hS, hl, by decide, by decide, fun H1 p sm1 nP hp1 => ?_⟩
    refine ⟨_, rfl, p, rfl, hp1, fun g H2 hg hg1 rl2 hp2 => ?_⟩
    have hg0 := isP_ge hg
    refine ⟨_, rfl, _, rfl, p, g, rfl, hp2, hg0, hg1, fun H3 rl3 hp3 => ⟨_, rfl, iteF ?_⟩⟩
    refine ⟨6, rfl, by decide, by decide, ?_⟩
    refine for_range (lo := 0) (n := 6) (fun i σ H' => ∃ (l : Int) (v4 v5 v6 v7 : Option V), σ = [some (.ref a), some (.ref p), some (.int g), some (.int l), v4, v5, v6, v7] ∧ Pl H' p ∧ 1 ≤ l ∧ l < g) ⟨1, none, none, none, none, rfl, hp3, by omega, by omega⟩ ?_ ?_
    · rintro i σ H' hi ⟨l, v4, v5, v6, v7, rfl, hp, hl0, hl1⟩
      refine ⟨_, rfl, _, rfl, _, _, rfl, rfl, _, rfl, _, rfl, _, _, rfl, rfl, p, g - 1, rfl, hp, by omega, by omega, fun d1 H4 d10 d11 rl4 hp4 => ?_⟩
      refine ⟨_, _, rfl, rfl, _, rfl, _, rfl, _, _, rfl, rfl, p, g - 1, rfl, hp4, by omega, by omega, fun d2 H5 d20 d21 rl5 hp5 => ?_⟩
      refine ⟨_, _, rfl, rfl, (by show 4 ≤ sizeLine; decide), fun t nt => ?_⟩
      refine ⟨p, t, _, rfl, hp5.same (same_upd nt), (hp5.ne nt).symm, SqL.of upd_same, by show 0 < 4; decide, by show 4 < 1073741824; decide, fun j v H6 hj rl6 hp6 => ?_⟩
      obtain ⟨m, rfl, hm0, hm1⟩ : ∃ m : Int, v = .int m ∧ 1 ≤ m ∧ m < g := by
        match j, hj with
        | 0, hj => exact ⟨1, (Option.some.inj hj).symm, by omega, by omega⟩
        | 1, hj => exact ⟨g - 1, (Option.some.inj hj).symm, by omega, by omega⟩
        | 2, hj => exact ⟨1 + d1, (Option.some.inj hj).symm, by omega, by omega⟩
        | 3, hj => exact ⟨1 + d2, (Option.some.inj hj).symm, by omega, by omega⟩
        | n + 4, hj => cases hj
      have cm := cop_of hg hg1 hm0 hm1
      have cl := cop_of hg hg1 hl0 hl1
      -- told = inverse(a, p)
      refine ⟨_, rfl, _, rfl, m, g, rfl, hg0, hg1, cm, fun b H7 b0 b1 hb sm7 => ?_⟩
      refine ⟨_, rfl, _, _, _, _, true, rfl, .ty "int", .base (.int _), kit_ty (by decide +kernel), _, rfl, iteF ?_⟩
      refine ⟨_, rfl, _, _, _, _, false, rfl, .ty "bool", .base (.int _), kit_ty (by decide +kernel), _, rfl, iteF ?_⟩
      refine ⟨_, rfl, _, _, rfl, rfl, _, rfl, ?_⟩
      rw [decide_eq_true b0]
      refine iteT ?_
      refine ⟨_, rfl, _, _, rfl, rfl, _, rfl, ?_⟩
      rw [decide_eq_true b1]
      refine iteF ?_
      refine ⟨_, rfl, _, rfl, _, _, rfl, rfl, .inl ⟨by omega, by omega⟩, _, rfl, _, rfl, _, _, rfl, rfl, (by show (0 : Int) < g; omega), rfl, _, rfl, ?_⟩
      refine iteNS (congrArg V.int hb) ?_
      -- repr(inverse(a=told, p=p)) != repr(a)
      refine ⟨_, rfl, _, rfl, b, g, rfl, hg0, hg1, cop_of hg hg1 (by omega) b1, fun c H8 c0 c1 hc sm8 => ?_⟩
      have ec : c = m := inv_unique (a := b) (p := g) c0 c1 (by omega) hm1 hc (by rw [Int.mul_comm]; exact hb)
      subst ec
      refine ⟨_, rfl, ?_, _, rfl, _, rfl, ?_, rfl, _, rfl, ?_⟩
      · exact small_log (by omega)
      · exact small_log (by omega)
      refine iteNS rfl ?_
      -- product
      refine ⟨_, rfl, _, rfl, _, _, rfl, rfl, .inl ⟨by omega, by omega⟩, _, rfl, _, rfl, _, _, rfl, rfl, (by show (0 : Int) < g; omega), ?_⟩
      have cp : Cop (c * l % g) g := cop_mul cm cl
      refine ⟨_, rfl, _, rfl, _, g, rfl, hg0, hg1, cp, fun e H9 e0 e1 he sm9 => ?_⟩
      refine ⟨_, rfl, _, rfl, _, rfl, l, g, rfl, hg0, hg1, cl, fun r H10 r0 r1 hr' sm10 => ?_⟩
      refine ⟨_, _, rfl, rfl, .inl ⟨by omega, by omega⟩, _, rfl, _, rfl, _, _, rfl, rfl, (by show (0 : Int) < g; omega), rfl, _, rfl, ?_⟩
      have ee : e = b * r % g := inv_mul hg0 e0 e1 hb hr' he
      refine iteNS (congrArg V.int ee) ?_
      exact ⟨_, rfl, c, _, _, _, _, rfl, ((((hp6.same sm7).same sm8).same sm9).same sm10), hm0, hm1⟩
    · rintro σ H' ⟨l, v4, v5, v6, v7, rfl, hp, hl0, hl1⟩
      exact k H'
end
end K00
namespace K00
open PySem L2 LW
theorem all_mk {l : PySem.W.OpenLaw} {w : World} {K : PySem.W.Frag} {h : Heap} {mg : Str → Option Value} {fa f1 f2 f3 f4 f5 f6 f7 f8 f9 f10 f11 : Addr} (X : K.In h) (G : h.Ns mainGlobals mg) (hfa : mg "law" = some (.ref fa))
    {od1 an1 od2 an2 od3 an3 od4 an4 od5 an5 od6 an6 od7 an7 od8 an8 od9 an9 od10 an10 od11 an11 : Option Addr} {sl1 sl2 sl3 sl4 sl5 sl6 sl7 sl8 sl9 sl10 sl11 : Array (Option Value)} {oc1 kV1 dc1 pm1 cd1 ct1 oc2 kV2 dc2 pm2 cd2 ct2 oc3 kV3 dc3 pm3 cd3 ct3 oc4 kV4 dc4 pm4 cd4 ct4 oc5 kV5 dc5 pm5 cd5 ct5 oc6 kV6 dc6 pm6 cd6 ct6 oc7 kV7 dc7 pm7 cd7 ct7 oc8 kV8 dc8 pm8 cd8 ct8 oc9 kV9 dc9 pm9 cd9 ct9 oc10 kV10 dc10 pm10 cd10 ct10 oc11 kV11 dc11 pm11 cd11 ct11 : Value}
    {t_GREATEST_PRIME : Tok}
    (a1 : PySem.W.nsIn K mainGlobals "is_number" = some (some (.ref f1))) (l1 : K.lookup f1 = some ⟨oc1, od1, .func (PySem.W.fnOf "is_number" "is_number" (defArgs s_is_number) (defBody s_is_number) (defScope s_is_number) .none kV1 dc1 pm1 an1 cd1 ct1), sl1⟩) (c1 : PySem.W.codeIn K cd1 "is_number" = true) (k1 : PySem.W.keepIn K (.ref f1) = true)
    (a2 : PySem.W.nsIn K mainGlobals "is_from" = some (some (.ref f2))) (l2 : K.lookup f2 = some ⟨oc2, od2, .func (PySem.W.fnOf "is_from" "is_from" (defArgs s_is_from) (defBody s_is_from) (defScope s_is_from) .none kV2 dc2 pm2 an2 cd2 ct2), sl2⟩) (c2 : PySem.W.codeIn K cd2 "is_from" = true) (k2 : PySem.W.keepIn K (.ref f2) = true)
    (a3 : PySem.W.nsIn K mainGlobals "is_prime" = some (some (.ref f3))) (l3 : K.lookup f3 = some ⟨oc3, od3, .func (PySem.W.fnOf "is_prime" "is_prime" (defArgs s_is_prime) (defBody s_is_prime) (defScope s_is_prime) .none kV3 dc3 pm3 an3 cd3 ct3), sl3⟩) (c3 : PySem.W.codeIn K cd3 "is_prime" = true) (k3 : PySem.W.keepIn K (.ref f3) = true)
    (a4 : PySem.W.nsIn K mainGlobals "inverse" = some (some (.ref f4))) (l4 : K.lookup f4 = some ⟨oc4, od4, .func (PySem.W.fnOf "inverse" "inverse" (defArgs s_inverse) (defBody s_inverse) (defScope s_inverse) .none kV4 dc4 pm4 an4 cd4 ct4), sl4⟩) (c4 : PySem.W.codeIn K cd4 "inverse" = true) (k4 : PySem.W.keepIn K (.ref f4) = true)
    (a5 : PySem.W.nsIn K mainGlobals "_law_pool" = some (some (.ref f5))) (l5 : K.lookup f5 = some ⟨oc5, od5, .func (PySem.W.fnOf "_law_pool" "_law_pool" (defArgs s_law_pool) (defBody s_law_pool) (defScope s_law_pool) .none kV5 dc5 pm5 an5 cd5 ct5), sl5⟩) (c5 : PySem.W.codeIn K cd5 "_law_pool" = true) (k5 : PySem.W.keepIn K (.ref f5) = true)
    (a6 : PySem.W.nsIn K mainGlobals "_law_take" = some (some (.ref f6))) (l6 : K.lookup f6 = some ⟨oc6, od6, .func (PySem.W.fnOf "_law_take" "_law_take" (defArgs s_law_take) (defBody s_law_take) (defScope s_law_take) .none kV6 dc6 pm6 an6 cd6 ct6), sl6⟩) (c6 : PySem.W.codeIn K cd6 "_law_take" = true) (k6 : PySem.W.keepIn K (.ref f6) = true)
    (a7 : PySem.W.nsIn K mainGlobals "_law_one" = some (some (.ref f7))) (l7 : K.lookup f7 = some ⟨oc7, od7, .func (PySem.W.fnOf "_law_one" "_law_one" (defArgs s_law_one) (defBody s_law_one) (defScope s_law_one) .none kV7 dc7 pm7 an7 cd7 ct7), sl7⟩) (c7 : PySem.W.codeIn K cd7 "_law_one" = true) (k7 : PySem.W.keepIn K (.ref f7) = true)
    (a8 : PySem.W.nsIn K mainGlobals "_law_is_prime" = some (some (.ref f8))) (l8 : K.lookup f8 = some ⟨oc8, od8, .func (PySem.W.fnOf "_law_is_prime" "_law_is_prime" (defArgs s_law_is_prime) (defBody s_law_is_prime) (defScope s_law_is_prime) .none kV8 dc8 pm8 an8 cd8 ct8), sl8⟩) (c8 : PySem.W.codeIn K cd8 "_law_is_prime" = true) (k8 : PySem.W.keepIn K (.ref f8) = true)
    (a9 : PySem.W.nsIn K mainGlobals "_law_prime" = some (some (.ref f9))) (l9 : K.lookup f9 = some ⟨oc9, od9, .func (PySem.W.fnOf "_law_prime" "_law_prime" (defArgs s_law_prime) (defBody s_law_prime) (defScope s_law_prime) .none kV9 dc9 pm9 an9 cd9 ct9), sl9⟩) (c9 : PySem.W.codeIn K cd9 "_law_prime" = true) (k9 : PySem.W.keepIn K (.ref f9) = true)
    (a10 : PySem.W.nsIn K mainGlobals "_law_primes_right" = some (some (.ref f10))) (l10 : K.lookup f10 = some ⟨oc10, od10, .func (PySem.W.fnOf "_law_primes_right" "_law_primes_right" (defArgs s_law_primes_right) (defBody s_law_primes_right) (defScope s_law_primes_right) .none kV10 dc10 pm10 an10 cd10 ct10), sl10⟩) (c10 : PySem.W.codeIn K cd10 "_law_primes_right" = true) (k10 : PySem.W.keepIn K (.ref f10) = true)
    (a11 : PySem.W.nsIn K mainGlobals "law" = some (some (.ref f11))) (l11 : K.lookup f11 = some ⟨oc11, od11, .func (PySem.W.fnOf "law" "law" (defArgs s_law) (defBody s_law) (defScope s_law) .none kV11 dc11 pm11 an11 cd11 ct11), sl11⟩) (c11 : PySem.W.codeIn K cd11 "law" = true) (k11 : PySem.W.keepIn K (.ref f11) = true)
    (z_int : PySem.W.nsIn K mainGlobals "int" = some none)
    (z_bool : PySem.W.nsIn K mainGlobals "bool" = some none)
    (z_len : PySem.W.nsIn K mainGlobals "len" = some none)
    (z_max : PySem.W.nsIn K mainGlobals "max" = some none)
    (z_range : PySem.W.nsIn K mainGlobals "range" = some none)
    (z_repr : PySem.W.nsIn K mainGlobals "repr" = some none)
    (z_isinstance : PySem.W.nsIn K mainGlobals "isinstance" = some none)
    (g_GREATEST_PRIME : PySem.W.nsIn K mainGlobals "GREATEST_PRIME" = some (some (.int 65521 t_GREATEST_PRIME)))
    : ∃ fd : FuncData, (∀ (s : Shared) (v : Value), BindsTo s fd ⟨[v], []⟩ [("_law_script", v)]) ∧ ∀ base : Heap, K.In base → base.Ns mainGlobals mg → FnOk l.prog w K mg base CX0 5 fa fd ["_law_script"] (spLaw K) := by
  have e := hfa.symm.trans (PySem.W.mg_of X G a11)
  cases e
  have F1 := fun_mk (st := s_is_number) l1 c1 k1
  have F2 := fun_mk (st := s_is_from) l2 c2 k2
  have F3 := fun_mk (st := s_is_prime) l3 c3 k3
  have F4 := fun_mk (st := s_inverse) l4 c4 k4
  have F5 := fun_mk (st := s_law_pool) l5 c5 k5
  have F6 := fun_mk (st := s_law_take) l6 c6 k6
  have F7 := fun_mk (st := s_law_one) l7 c7 k7
  have F8 := fun_mk (st := s_law_is_prime) l8 c8 k8
  have F9 := fun_mk (st := s_law_prime) l9 c9 k9
  have F10 := fun_mk (st := s_law_primes_right) l10 c10 k10
  have F11 := fun_mk (st := s_law) l11 c11 k11
  have T : Tx mg := ⟨PySem.W.mg_none_of X G z_int, PySem.W.mg_none_of X G z_bool, PySem.W.mg_none_of X G z_len, PySem.W.mg_none_of X G z_max, PySem.W.mg_none_of X G z_range, PySem.W.mg_none_of X G z_repr, PySem.W.mg_none_of X G z_isinstance, t_GREATEST_PRIME, PySem.W.mg_of X G g_GREATEST_PRIME⟩
  have b1 := F1.binds (ps := ["thing"]) fun _ _ _ _ _ _ us hl => match us, hl with | [_], _ => rfl
  have b2 := F2.binds (ps := ["thing", "low", "high"]) fun _ _ _ _ _ _ us hl => match us, hl with | [_, _, _], _ => rfl
  have b3 := F3.binds (ps := ["p"]) fun _ _ _ _ _ _ us hl => match us, hl with | [_], _ => rfl
  have b4 := F4.binds (ps := ["a", "p"]) fun _ _ _ _ _ _ us hl => match us, hl with | [_, _], _ => rfl
  have b5 := F5.binds (ps := ["_law_script", "_law_k"]) fun _ _ _ _ _ _ us hl => match us, hl with | [_, _], _ => rfl
  have b6 := F6.binds (ps := ["_law_source", "_law_top"]) fun _ _ _ _ _ _ us hl => match us, hl with | [_, _], _ => rfl
  have b7 := F7.binds (ps := ["_law_source", "_law_things"]) fun _ _ _ _ _ _ us hl => match us, hl with | [_, _], _ => rfl
  have b8 := F8.binds (ps := ["_law_number"]) fun _ _ _ _ _ _ us hl => match us, hl with | [_], _ => rfl
  have b9 := F9.binds (ps := ["_law_source"]) fun _ _ _ _ _ _ us hl => match us, hl with | [_], _ => rfl
  have b10 := F10.binds (ps := ["_law_source", "_law_p"]) fun _ _ _ _ _ _ us hl => match us, hl with | [_, _], _ => rfl
  have b11 := F11.binds (ps := ["_law_script"]) fun _ _ _ _ _ _ us hl => match us, hl with | [_], _ => rfl
  refine ⟨PySem.W.fnOf "law" "law" (defArgs s_law) (defBody s_law) (defScope s_law) .none kV11 dc11 pm11 an11 cd11 ct11, fun s v => .of_eq rfl, fun base _ _ => ?_⟩
  let d_is_number : Dk l.prog w K mg base 1 "is_number" ["thing"] (spNum) := ⟨f1, _, ok_number F1 T , PySem.W.mg_of X G a1, k1, b1⟩
  let d_is_from : Dk l.prog w K mg base 2 "is_from" ["thing", "low", "high"] (spFrom) := ⟨f2, _, ok_from F2 T d_is_number, PySem.W.mg_of X G a2, k2, b2⟩
  let d_is_prime : Dk l.prog w K mg base 3 "is_prime" ["p"] (spIsPrime) := ⟨f3, _, ok_is_prime F3 T d_is_from, PySem.W.mg_of X G a3, k3, b3⟩
  let d_inverse : Dk l.prog w K mg base 1 "inverse" ["a", "p"] (spInverse) := ⟨f4, _, ok_inverse F4 , PySem.W.mg_of X G a4, k4, b4⟩
  have kb_inverse : KBinds K d_inverse.fd ["a", "p"] ["a", "p"] gK gK := kb_mk (fun s ws hl => match ws, hl with | [_, _], _ => .of_eq rfl) (by decide)
  let d_law_pool : Dk l.prog w K mg base 1 "_law_pool" ["_law_script", "_law_k"] (spPool K) := ⟨f5, _, ok_pool F5 T , PySem.W.mg_of X G a5, k5, b5⟩
  let d_law_take : Dk l.prog w K mg base 1 "_law_take" ["_law_source", "_law_top"] (spTake) := ⟨f6, _, ok_take F6 T , PySem.W.mg_of X G a6, k6, b6⟩
  let d_law_one : Dk l.prog w K mg base 2 "_law_one" ["_law_source", "_law_things"] (spOne K) := ⟨f7, _, ok_one F7 T d_law_take, PySem.W.mg_of X G a7, k7, b7⟩
  let d_law_is_prime : Dk l.prog w K mg base 1 "_law_is_prime" ["_law_number"] (spIsP) := ⟨f8, _, ok_isP F8 T , PySem.W.mg_of X G a8, k8, b8⟩
  let d_law_prime : Dk l.prog w K mg base 3 "_law_prime" ["_law_source"] (spPrime) := ⟨f9, _, ok_prime F9 T d_law_take d_law_one d_law_is_prime, PySem.W.mg_of X G a9, k9, b9⟩
  let d_law_primes_right : Dk l.prog w K mg base 4 "_law_primes_right" ["_law_source", "_law_p"] (spRight) := ⟨f10, _, ok_right F10 T d_law_take d_is_prime d_law_is_prime, PySem.W.mg_of X G a10, k10, b10⟩
  exact ok_law F11 T d_law_pool d_law_take d_law_one d_law_prime d_law_primes_right d_inverse kb_inverse

end K00
open PySem PySem.W PyProof.Rows in
set_option maxRecDepth 100000 in
set_option maxHeartbeats 0 in
theorem PySem.Challenge.cw_sumstand_k00_primes_and_inverses_holds : PySem.Challenge.rw_sumstand_k00_primes_and_inverses.Holds := by
  w_on; o_law; k_head; (case hw => w_witness2)
  k_fill
  refine L2.walk_of (l := PySem.Challenge.rw_sumstand_k00_primes_and_inverses) (n := 63) (k := 5) (x := "_law_script") (CX := fun _ => L2.CX0) (sp := fun w => K00.spLaw _) rfl (by decide) rfl ⟨rfl, by decide, by decide⟩ (fun w h Y => PySem.W.kIn_of Y) ?F (fun _ _ a ns hl _ hS => ⟨a, ns, rfl, hS, hl, fun _ => rfl⟩) (fun _ _ _ _ _ h => h)
  case F =>
    intro w mg fa h KX G hmg
    refine' K00.all_mk KX G hmg ?a1 ?l1 ?c1 ?k1 ?a2 ?l2 ?c2 ?k2 ?a3 ?l3 ?c3 ?k3 ?a4 ?l4 ?c4 ?k4 ?a5 ?l5 ?c5 ?k5 ?a6 ?l6 ?c6 ?k6 ?a7 ?l7 ?c7 ?k7 ?a8 ?l8 ?c8 ?k8 ?a9 ?l9 ?c9 ?k9 ?a10 ?l10 ?c10 ?k10 ?a11 ?l11 ?c11 ?k11 ?z_int ?z_bool ?z_len ?z_max ?z_range ?z_repr ?z_isinstance ?g_GREATEST_PRIME
    (case a1 => k_is)
    (case l1 => k_is)
    (case c1 => k_is)
    (case k1 => k_is)
    (case a2 => k_is)
    (case l2 => k_is)
    (case c2 => k_is)
    (case k2 => k_is)
    (case a3 => k_is)
    (case l3 => k_is)
    (case c3 => k_is)
    (case k3 => k_is)
    (case a4 => k_is)
    (case l4 => k_is)
    (case c4 => k_is)
    (case k4 => k_is)
    (case a5 => k_is)
    (case l5 => k_is)
    (case c5 => k_is)
    (case k5 => k_is)
    (case a6 => k_is)
    (case l6 => k_is)
    (case c6 => k_is)
    (case k6 => k_is)
    (case a7 => k_is)
    (case l7 => k_is)
    (case c7 => k_is)
    (case k7 => k_is)
    (case a8 => k_is)
    (case l8 => k_is)
    (case c8 => k_is)
    (case k8 => k_is)
    (case a9 => k_is)
    (case l9 => k_is)
    (case c9 => k_is)
    (case k9 => k_is)
    (case a10 => k_is)
    (case l10 => k_is)
    (case c10 => k_is)
    (case k10 => k_is)
    (case a11 => k_is)
    (case l11 => k_is)
    (case c11 => k_is)
    (case k11 => k_is)
    (case z_int => k_is)
    (case z_bool => k_is)
    (case z_len => k_is)
    (case z_max => k_is)
    (case z_range => k_is)
    (case z_repr => k_is)
    (case z_isinstance => k_is)
    (case g_GREATEST_PRIME => k_is)

