import PyProof.Rows.All
import Wide.All
import OpenK.AllK
import Wide.FinOn
import PyProof.TupleOfGen
import HandS.ForMost
import HandS.IsInst
import HandS.RaiseMore
import HandS.Codes
import HandS.AnyAll
import HandS.GenList
import HandS.Walk
import HandS.WordsExc
import HandS.ExcInit
import HandS.ExcField
import HandS.ExcIs
import HandS.TupAny
import HandS.TupMul
import HandS.Style
import HandS.SortInts
import HandS.Zip
import KE.GoesMore
import HandS.ExcOwn
import KE.KExcIs
import KE.DataEq
import KE.KTypeName
import KE.GoesEnum
import KE.DataAny
import HandS.Deep
import HandS.Conv
import KE.KDictZip
import HandS.EndTab
import PySem.Challenge.RW_sumstand_k02_left_inverses
import HandS.Lambda
set_option Elab.async false
set_option linter.all false
set_option maxRecDepth 100000
namespace LW
open PySem L2
/-! ### rules in short -/
section
variable {X : Cx}
theorem call_intI : CallR X (.type "int") (fun xs H Q => ∃ i, xs = [.int i] ∧ Q (.int i) H) := fun pins s σ H xs us Q I r h =>
  call_int1 pins s σ H xs us Q I r (.inl h)
theorem call_intB : CallR X (.type "int") (fun xs H Q => ∃ k, xs = [.bl k] ∧ Q (.int (if k then 1 else 0)) H) := fun pins s σ H xs us Q I r h =>
  call_int1 pins s σ H xs us Q I r (.inr h)
theorem call_lenL : CallR X (.builtin "len") (fun xs H Q => ∃ p ys, xs = [.ref p] ∧ SqL X.K H p ys ∧ Q (.int ys.length) H) := fun pins s σ H xs us Q I r ⟨p, ys, e, h, q⟩ =>
  call_len_seq pins s σ H xs us Q I r ⟨p, ys, e, .inl h, q⟩
theorem call_lenT : CallR X (.builtin "len") (fun xs H Q => ∃ p ys, xs = [.ref p] ∧ SqT X.K H p ys ∧ Q (.int ys.length) H) := fun pins s σ H xs us Q I r ⟨p, ys, e, h, q⟩ =>
  call_len_seq pins s σ H xs us Q I r ⟨p, ys, e, .inr h, q⟩
theorem call_reprI : CallR X (.builtin "repr") (fun xs H Q => ∃ i, xs = [.int i] ∧ i.natAbs.log2 < 1920 ∧ Q (.str (toString i)) H) := SkE.call_repr_int
def yesNo (b : Bool) : Str := if b then "True" else "False"
theorem call_reprB : CallR X (.builtin "repr") (fun xs H Q => ∃ b, xs = [.bl b] ∧ Q (.str (yesNo b)) H) := by
  intro pins s σ H xs us Q I r h
  obtain ⟨b, rfl, q⟩ := h
  obtain ⟨u, rfl, e⟩ := vals1 r
  cases e
  exact PySem.P.repr_of_bool ⟨.str (yesNo b), H, I.tok _, ⟨_, rfl⟩, q⟩
end
/-! ### a def by its name, its promise beside it -/
structure Dk (P : Program) (w : World) (K : PySem.W.Frag) (mg : Str → Option Value) (base : Heap) (k : Nat) (x : Str) (ps : List Str) (sp : Sp) where
  f : Addr
  fd : FuncData
  G : FnOk P w K mg base CX0 k f fd ps sp
  gm : mg x = some (.ref f)
  kp : PySem.W.keepIn K (.ref f) = true
  b : Binds K fd ps []
section
variable {X : Cx} {k : Nat} {x : Str} {ps : List Str} {sp : Sp} {p pos : Pos} {e : Expr} {es : List Expr} {t : TA}
theorem pe_dk (d : Dk X.prog X.w X.K X.mg X.base k x ps sp) (hr : Room k X.A) (hg : Gl X x) (ha : PA X (e :: es) t) (hdb : (x == ("__debug__" : Str)) = false := by decide)
    (he : starEach (e :: es) X.env = (false, eval e X.env) :: starEach es X.env := by rfl) (hpl : (backTo pos (starEach es X.env)).any (·.1) = false := by rfl) :
    PE X (.Call (.Name x p) (e :: es) [] pos) (tCall sp [] E0 t) := pe_call d.G hr hg d.gm d.kp d.b .nil pass0 ha hdb he hpl
/-- only keywords, in the parameters' order -/
def gK {α : Type} : List α → List α → List α
  | [], ws => ws
  | _ :: _, _ => []
theorem kb_mk {K : PySem.W.Frag} {fd : FuncData} {ps : List Str} (h : ∀ (s : Shared) (ws : List Value), ws.length = ps.length → BindsTo s fd ⟨[], ps.zip ws⟩ (ps.zip ws)) (h0 : 0 < ps.length) : KBinds K fd ps ps gK gK where
  to := fun s us ws _ hl => by
    cases us with
    | nil => exact h s ws hl
    | cons u us =>
      have e : 0 = ps.length := hl
      omega
  rel := fun {vs us zs ws} r q => by
    cases r with
    | nil => exact q
    | cons a b => exact .nil
theorem pe_dkK0 {ks : List Str} {g : List Value → List Value → List Value} {gV : List V → List V → List V} {kws : List Keyword} {tk : TA} (d : Dk X.prog X.w X.K X.mg X.base k x ps sp) (hr : Room k X.A) (hg : Gl X x) (hb : KBinds X.K d.fd ps ks g gV)
    (hkw : PK X kws tk) (hall : (backToKw pos (keywordEach kws X.env)).all (·.1.isSome) = true := by rfl) (hks : (backToKw pos (keywordEach kws X.env)).filterMap (·.1) = ks := by rfl)
    (hdb : (x == ("__debug__" : Str)) = false := by decide)
    (hpl : ((backTo pos (starEach [] X.env)).any (·.1) || (backToKw pos (keywordEach kws X.env)).any (·.1.isNone)) = false := by rfl) :
    PE X (.Call (.Name x p) [] kws pos) (tCallK sp gV E0 tNil tk) := by
  refine ⟨fun pins s σ H Q I h => ?_⟩
  refine wpAny_Call_Name_kw (ld_glob I hg d.gm ?_ hdb)
  refine PySem.W.callWith_KW0 (h₀ := X.base) I.ok.mod.kin d.kp hall (thn (hkw.run pos pins s σ H _ I h) fun ws s2 ⟨zs, H2, I2, rz, q2⟩ => ⟨I2.kIn, ?_⟩) hpl
  rw [hks]
  exact run_fnk (us := []) d.G hr hb pass0 I2 .nil rz q2
end
/-! ### heaps -/
theorem Same.newU {H H' : Hp} {p : Addr} {o : HO} (s : Same H H') (h : H p = none) : Same H (upd H' p o) := fun b x e => by
  rw [upd_ne (ne_of_none e h)]
  exact s _ _ e
theorem same_upd {H : Hp} {p : Addr} {o : HO} (h : H p = none) : Same H (upd H p o) := fun b x e => by
  rw [upd_ne (ne_of_none e h)]
  exact e
theorem Same.seqT {K : PySem.W.Frag} {H H' : Hp} {a : Addr} {xs : List V} (e : Same H H') (h : SqT K H a xs) : SqT K H' a xs := by
  rcases h with (h | ⟨o, h⟩) | h
  · exact .inl (.inl (e _ _ h))
  · exact .inl (.inr ⟨o, e _ _ h⟩)
  · exact .inr h
/-- all but the pool at p is as it was -/
def Rl (p : Addr) (H H' : Hp) : Prop := ∀ b o, b ≠ p → H b = some o → H' b = some o
theorem Rl.refl (p : Addr) (H : Hp) : Rl p H H := fun _ _ _ h => h
theorem Rl.trans {p : Addr} {H H1 H2 : Hp} (a : Rl p H H1) (b : Rl p H1 H2) : Rl p H H2 := fun c o n h => b c o n (a c o n h)
theorem Rl.same {p : Addr} {H H1 : Hp} (a : Same H H1) : Rl p H H1 := fun c o _ h => a c o h
theorem Rl.upd {p : Addr} {H : Hp} {o : HO} : Rl p H (upd H p o) := fun b x n e => by
  rw [upd_ne n]
  exact e
theorem Rl.seq {K : PySem.W.Frag} {p : Addr} {H H' : Hp} {a : Addr} {xs : List V} (e : Rl p H H') (n : a ≠ p) (h : SqL K H a xs) : SqL K H' a xs := by
  rcases h with (h | ⟨o, h⟩) | h
  · exact .inl (.inl (e _ _ n h))
  · exact .inl (.inr ⟨o, e _ _ n h⟩)
  · exact .inr h
theorem Rl.seqT {K : PySem.W.Frag} {p : Addr} {H H' : Hp} {a : Addr} {xs : List V} (e : Rl p H H') (n : a ≠ p) (h : SqT K H a xs) : SqT K H' a xs := by
  rcases h with (h | ⟨o, h⟩) | h
  · exact .inl (.inl (e _ _ n h))
  · exact .inl (.inr ⟨o, e _ _ n h⟩)
  · exact .inr h
/-- a pool at p: two numbers, the second below the greatest -/
def Pl (H : Hp) (p : Addr) : Prop := ∃ x y : Int, 0 ≤ x ∧ 0 ≤ y ∧ y < 2147483647 ∧ H p = some (.lst [.int x, .int y])
theorem Pl.same {H H' : Hp} {p : Addr} (h : Pl H p) (s : Same H H') : Pl H' p := by
  obtain ⟨x, y, a, b, c, e⟩ := h
  exact ⟨x, y, a, b, c, s _ _ e⟩
theorem Pl.ne {H : Hp} {p q : Addr} (h : Pl H p) (n : H q = none) : p ≠ q := by
  obtain ⟨x, y, a, b, c, e⟩ := h
  exact ne_of_none e n
theorem int0 {x : Int} {ys : List V} : atI (V.int x :: ys) 0 = some (V.int x) := atI_nat (j := 0) rfl
theorem int1 {x : Int} {z : V} {ys : List V} : atI (z :: V.int x :: ys) 1 = some (V.int x) := atI_nat (j := 1) rfl
/-! ### data -/
theorem dpAll_ints {K : PySem.W.Frag} {H : Hp} : ∀ ns : List Int, DpAll K H (ns.map V.int) (ns.map PyData.int)
  | [] => .nil
  | n :: ns => .cons (.int n) (dpAll_ints ns)
theorem eqv_nil (ds : List PyData) : PyData.eqv (.list ds) (.list []) = ds.isEmpty := by
  cases ds <;> rfl
theorem shaped_ints (ns : List Int) : SeqAt.shaped (.list (ns.map PyData.int)) = true := PySem.W.ke_shaped_ints ns
end LW
namespace K00
/-! ### numbers -/
def tst (n : Int) (i : Nat) : Bool := decide ((2 + (i : Int)) * (2 + (i : Int)) ≤ n) && decide (n % (2 + (i : Int)) = 0)
def isP (n : Int) : Bool := decide (2 ≤ n) && (List.range 255).all fun i => !tst n i
def isPr (n : Int) : Bool := decide (n ≤ 65521) && isP n
theorem isP_iff {n : Int} : isP n = true ↔ 2 ≤ n ∧ ∀ i : Nat, i < 255 → tst n i = false := by
  unfold isP
  simp only [Bool.and_eq_true, decide_eq_true_eq, List.all_eq_true, List.mem_range, Bool.not_eq_true']
theorem tst_iff {n : Int} {i : Nat} : tst n i = true ↔ (2 + (i : Int)) * (2 + (i : Int)) ≤ n ∧ n % (2 + (i : Int)) = 0 := by
  unfold tst
  simp only [Bool.and_eq_true, decide_eq_true_eq]
theorem isP_ge {n : Int} (h : isP n = true) : 2 ≤ n := (isP_iff.mp h).1
/-- no number d with d * d ≤ n divides -/
theorem isP_no {n d : Int} (h : isP n = true) (h2 : 2 ≤ d) (hd : d < 257) (hs : d * d ≤ n) (hm : n % d = 0) : False := by
  obtain ⟨_, q⟩ := isP_iff.mp h
  have e : (2 : Int) + ((d - 2).toNat : Int) = d := by omega
  have t : tst n (d - 2).toNat = true := by
    rw [tst_iff, e]
    exact ⟨hs, hm⟩
  rw [q (d - 2).toNat (by omega)] at t
  cases t
theorem isP_of {n : Int} (h2 : 2 ≤ n) (h : ∀ d : Int, 2 ≤ d → d < 257 → d * d ≤ n → n % d ≠ 0) : isP n = true := by
  rw [isP_iff]
  refine ⟨h2, fun i hi => ?_⟩
  cases e : tst n i with
  | false => rfl
  | true =>
    rw [tst_iff] at e
    exact absurd e.2 (h _ (by omega) (by omega) e.1)
theorem isP_false {n d : Int} (h2 : 2 ≤ d) (hd : d < 257) (hs : d * d ≤ n) (hm : n % d = 0) : isP n = false := by
  cases e : isP n with
  | false => rfl
  | true => exact (isP_no e h2 hd hs hm).elim
theorem bez : ∀ (m : Nat) (a n : Int), 0 ≤ a → 0 ≤ n → a.toNat ≤ m → ∃ g u v : Int, 0 ≤ g ∧ (∃ x, n = g * x) ∧ (∃ y, a = g * y) ∧ u * n + v * a = g
  | 0, a, n, h, hn, hm => by
    have : a = 0 := by omega
    subst this
    exact ⟨n, 1, 0, hn, ⟨1, by omega⟩, ⟨0, by omega⟩, by omega⟩
  | m + 1, a, n, h, hn, hm => by
    by_cases ha : a = 0
    · subst ha
      exact ⟨n, 1, 0, hn, ⟨1, by omega⟩, ⟨0, by omega⟩, by omega⟩
    · have hlt : n % a < a := Int.emod_lt_of_pos n (by omega)
      have hge : 0 ≤ n % a := Int.emod_nonneg n ha
      obtain ⟨g, u, v, hg, ⟨x, hx⟩, ⟨y, hy⟩, e⟩ := bez m (n % a) a hge h (by omega)
      have hd : n = a * (n / a) + n % a := (Int.mul_ediv_add_emod n a).symm
      refine ⟨g, v, u - v * (n / a), hg, ⟨x * (n / a) + y, ?_⟩, ⟨x, hx⟩, ?_⟩
      · generalize n / a = q at *
        generalize n % a = r at *
        grind
      · generalize n / a = q at *
        generalize n % a = r at *
        grind
/-- numbers below a prime have an inverse -/
def Cop (a p : Int) : Prop := ∃ u v : Int, u * p + v * a = 1
theorem cop_of {a p : Int} (hp : isP p = true) (hp2 : p ≤ 65521) (h1 : 1 ≤ a) (h2 : a < p) : Cop a p := by
  obtain ⟨g, u, v, hg, ⟨x, hx⟩, ⟨y, hy⟩, e⟩ := bez a.toNat a p (by omega) (by omega) (Nat.le_refl _)
  have gpos : 0 < g := by
    by_cases h0 : g = 0
    · subst h0
      omega
    · omega
  have g1 : g = 1 := by
    by_cases h : g = 1
    · exact h
    · exfalso
      have ypos : 0 < y := by
        by_cases hy0 : 0 < y
        · exact hy0
        · have : g * y ≤ 0 := Int.mul_nonpos_of_nonneg_of_nonpos hg (by omega)
          omega
      have xpos : y < x := by
        by_cases hx0 : y < x
        · exact hx0
        · have : g * x ≤ g * y := Int.mul_le_mul_of_nonneg_left (by omega) hg
          omega
      by_cases hgx : g ≤ x
      · have hsq : g * g ≤ p := by
          rw [hx]
          exact Int.mul_le_mul_of_nonneg_left hgx hg
        have hlt : g < 257 := by
          by_cases h257 : g < 257
          · exact h257
          · have : 257 * 257 ≤ g * g := Int.mul_le_mul (by omega) (by omega) (by omega) hg
            omega
        exact isP_no hp (by omega) hlt hsq (by rw [hx]; exact Int.mul_emod_right g x)
      · have hsq : x * x ≤ p := by
          rw [hx]
          exact Int.mul_le_mul_of_nonneg_right (by omega) (by omega)
        have hlt : x < 257 := by
          by_cases h257 : x < 257
          · exact h257
          · have : 257 * 257 ≤ x * x := Int.mul_le_mul (by omega) (by omega) (by omega) (by omega)
            omega
        exact isP_no hp (by omega) hlt hsq (by rw [hx]; exact Int.mul_emod_left g x)
  subst g1
  exact ⟨u, v, e⟩
theorem cop_mul {a b p : Int} (ha : Cop a p) (hb : Cop b p) : Cop (a * b % p) p := by
  obtain ⟨u, v, e⟩ := ha
  obtain ⟨r, s, f⟩ := hb
  have hd : a * b = p * (a * b / p) + a * b % p := (Int.mul_ediv_add_emod (a * b) p).symm
  refine ⟨u * r * p + u * s * b + v * a * r + v * s * (a * b / p), v * s, ?_⟩
  generalize a * b / p = q at *
  generalize a * b % p = w at *
  have h1 : (u * p + v * a) * (r * p + s * b) = 1 := by rw [e, f]; rfl
  grind
theorem one_mod {p x : Int} (hp : 2 ≤ p) (h : ∃ k, x = 1 + k * p) : x % p = 1 := by
  obtain ⟨k, rfl⟩ := h
  rw [Int.add_mul_emod_self_right]
  exact Int.emod_eq_of_lt (by omega) (by omega)
/-- what makes a product one is one number -/
theorem inv_unique {a b c p : Int} (hb : 0 < b) (hb2 : b < p) (hc : 0 < c) (hc2 : c < p) (h1 : a * b % p = 1) (h2 : a * c % p = 1) : b = c := by
  have e1 : a * b = p * (a * b / p) + 1 := by
    have := (Int.mul_ediv_add_emod (a * b) p).symm
    rw [h1] at this
    exact this
  have e2 : a * c = p * (a * c / p) + 1 := by
    have := (Int.mul_ediv_add_emod (a * c) p).symm
    rw [h2] at this
    exact this
  generalize a * b / p = q1 at *
  generalize a * c / p = q2 at *
  have e3 : b - c = p * (q2 * b - q1 * c) * (-1) := by
    have : b * (a * c) = c * (a * b) := by grind
    rw [e1, e2] at this
    grind
  generalize q2 * b - q1 * c = z at *
  have hz : z = 0 := by
    by_cases hz : z = 0
    · exact hz
    · exfalso
      by_cases hp : 0 < z
      · have : p * 1 ≤ p * z := Int.mul_le_mul_of_nonneg_left (by omega) (by omega)
        omega
      · have : p * z ≤ p * (-1) := Int.mul_le_mul_of_nonneg_left (by omega) (by omega)
        omega
  subst hz
  omega
theorem mod_pos {x p : Int} (hp : 2 ≤ p) (h : ∃ y k, x * y = 1 + k * p) : 0 < x % p ∧ x % p < p := by
  have h1 : x % p < p := Int.emod_lt_of_pos x (by omega)
  have h0 : 0 ≤ x % p := Int.emod_nonneg x (by omega)
  refine ⟨?_, h1⟩
  by_cases hz : x % p = 0
  · exfalso
    obtain ⟨y, k, e⟩ := h
    have hd : x = p * (x / p) + x % p := (Int.mul_ediv_add_emod x p).symm
    rw [hz] at hd
    generalize x / p = q at *
    have e2 : (q * y - k) * p = 1 := by grind
    generalize q * y - k = z at *
    by_cases hz1 : 0 < z
    · have : 1 * p ≤ z * p := Int.mul_le_mul_of_nonneg_right (by omega) (by omega)
      omega
    · have : z * p ≤ 0 * p := Int.mul_le_mul_of_nonneg_right (by omega) (by omega)
      omega
  · omega
/-! ### a prime stands below within 120 -/
def gaps : List Int → Bool
  | a :: b :: r => isP a && decide (b - a ≤ 119) && decide (a < b) && gaps (b :: r)
  | [a] => isP a && decide (a = 65521)
  | [] => false
theorem gaps_find : ∀ (l : List Int) (a n : Int), gaps (a :: l) = true → a ≤ n → n ≤ 65521 → ∃ q, isP q = true ∧ q ≤ n ∧ n - q ≤ 118
  | [], a, n, h, h1, h2 => by
    simp only [gaps, Bool.and_eq_true, decide_eq_true_eq] at h
    exact ⟨a, h.1, h1, by omega⟩
  | b :: r, a, n, h, h1, h2 => by
    simp only [gaps, Bool.and_eq_true, decide_eq_true_eq] at h
    by_cases hb : b ≤ n
    · exact gaps_find r b n h.2 hb h2
    · exact ⟨a, h.1.1.1, h1, by omega⟩
def marks : List Int := [2, 113, 229, 347, 463, 577, 691, 809, 919, 1033, 1151, 1259, 1373, 1489, 1607, 1723, 1831, 1949, 2063, 2179, 2297, 2411, 2521, 2633, 2749, 2861, 2971, 3089, 3203, 3319, 3433, 3547, 3659, 3769, 3881, 3989, 4099, 4217, 4327, 4441, 4549, 4663, 4759, 4877, 4993, 5107, 5209, 5323, 5441, 5557, 5669, 5783, 5897, 6011, 6121, 6229, 6343, 6451, 6569, 6679, 6793, 6911, 7027, 7129, 7247, 7351, 7459, 7577, 7691, 7793, 7907, 8017, 8123, 8237, 8353, 8467, 8581, 8699, 8807, 8923, 9041, 9157, 9257, 9371, 9479, 9587, 9697, 9811, 9929, 10039, 10151, 10267, 10369, 10487, 10601, 10711, 10799, 10909, 11027, 11131, 11243, 11353, 11471, 11587, 11701, 11813, 11927, 12043, 12161, 12277, 12391, 12503, 12619, 12721, 12829, 12941, 13049, 13163, 13267, 13381, 13499, 13613, 13729, 13841, 13933, 14051, 14159, 14251, 14369, 14479, 14593, 14699, 14813, 14929, 15031, 15149, 15263, 15377, 15493, 15607, 15683, 15797, 15913, 16007, 16111, 16229, 16339, 16453, 16567, 16673, 16787, 16903, 17021, 17137, 17239, 17351, 17467, 17581, 17683, 17791, 17909, 18013, 18131, 18233, 18341, 18457, 18553, 18671, 18787, 18899, 19013, 19121, 19237, 19333, 19447, 19559, 19661, 19777, 19891, 19997, 20113, 20231, 20347, 20443, 20551, 20663, 20773, 20887, 21001, 21107, 21221, 21323, 21433, 21529, 21647, 21757, 21871, 21977, 22093, 22193, 22307, 22409, 22511, 22621, 22739, 22853, 22963, 23081, 23197, 23311, 23417, 23531, 23633, 23747, 23857, 23971, 24083, 24197, 24281, 24391, 24509, 24623, 24733, 24851, 24967, 25073, 25189, 25307, 25423, 25541, 25657, 25771, 25889, 26003, 26119, 26237, 26347, 26459, 26573, 26687, 26801, 26903, 27017, 27127, 27241, 27337, 27449, 27551, 27653, 27767, 27883, 28001, 28111, 28229, 28319, 28433, 28549, 28663, 28771, 28879, 28979, 29077, 29191, 29303, 29411, 29527, 29641, 29759, 29873, 29989, 30103, 30211, 30323, 30431, 30539, 30649, 30763, 30881, 30983, 31091, 31193, 31307, 31397, 31513, 31627, 31741, 31859, 31973, 32089, 32203, 32321, 32429, 32537, 32653, 32771, 32887, 32999, 33113, 33223, 33331, 33427, 33533, 33647, 33757, 33871, 33967, 34061, 34171, 34283, 34381, 34499, 34613, 34729, 34847, 34963, 35081, 35171, 35281, 35393, 35509, 35617, 35731, 35839, 35951, 36067, 36161, 36277, 36389, 36497, 36607, 36721, 36833, 36947, 37061, 37171, 37277, 37379, 37493, 37607, 37717, 37831, 37907, 38011, 38119, 38237, 38351, 38461, 38569, 38677, 38791, 38903, 39019, 39133, 39251, 39367, 39461, 39569, 39679, 39791, 39901, 40013, 40129, 40241, 40357, 40471, 40583, 40699, 40813, 40927, 41039, 41149, 41263, 41381, 41491, 41609, 41719, 41813, 41927, 42043, 42157, 42257, 42373, 42491, 42589, 42703, 42821, 42937, 43051, 43159, 43271, 43331, 43441, 43543, 43661, 43777, 43891, 43997, 44111, 44221, 44293, 44389, 44507, 44623, 44741, 44851, 44963, 45077, 45191, 45307, 45413, 45523, 45641, 45757, 45869, 45979, 46093, 46199, 46309, 46411, 46523, 46639, 46757, 46867, 46957, 47059, 47161, 47279, 47389, 47507, 47623, 47741, 47857, 47969, 48079, 48197, 48313, 48413, 48527, 48623, 48733, 48847, 48953, 49069, 49177, 49279, 49393, 49499, 49613, 49727, 49843, 49957, 50069, 50177, 50291, 50387, 50503, 50599, 50707, 50821, 50929, 51047, 51157, 51263, 51361, 51479, 51593, 51691, 51803, 51913, 52027, 52127, 52237, 52321, 52433, 52543, 52639, 52757, 52861, 52973, 53089, 53201, 53309, 53419, 53527, 53639, 53731, 53849, 53959, 54059, 54167, 54277, 54377, 54493, 54601, 54713, 54829, 54941, 55057, 55171, 55259, 55373, 55487, 55603, 55721, 55837, 55949, 56053, 56171, 56269, 56383, 56501, 56611, 56713, 56827, 56941, 57059, 57173, 57287, 57397, 57503, 57601, 57719, 57829, 57947, 58061, 58171, 58271, 58379, 58481, 58579, 58693, 58789, 58907, 59023, 59141, 59243, 59359, 59473, 59581, 59699, 59809, 59921, 60037, 60149, 60259, 60373, 60457, 60539, 60649, 60763, 60869, 60961, 61057, 61169, 61283, 61381, 61493, 61609, 61723, 61837, 61949, 62057, 62171, 62273, 62383, 62501, 62617, 62731, 62827, 62939, 63031, 63149, 63247, 63361, 63473, 63589, 63703, 63809, 63913, 64019, 64123, 64237, 64333, 64451, 64567, 64679, 64793, 64901, 65011, 65129, 65239, 65357, 65449, 65521]
theorem marks_ok : gaps marks = true := by decide +kernel
theorem prime_near {n : Int} (h1 : 2 ≤ n) (h2 : n ≤ 65521) : ∃ q, isP q = true ∧ q ≤ n ∧ n - q ≤ 118 :=
  gaps_find marks.tail 2 n marks_ok h1 h2
theorem isP_rim {n : Int} (h0 : n ≤ 65531) (h : 65521 < n) : isP n = false := by
  have h' : n = 65522 ∨ n = 65523 ∨ n = 65524 ∨ n = 65525 ∨ n = 65526 ∨ n = 65527 ∨ n = 65528 ∨ n = 65529 ∨ n = 65530 ∨ n = 65531 := by omega
  rcases h' with e | e | e | e | e | e | e | e | e | e <;> (subst e; decide +kernel)
theorem isPr_eq {n : Int} (h : n ≤ 65531) : isPr n = isP n := by
  unfold isPr
  by_cases h2 : n ≤ 65521
  · rw [decide_eq_true h2, Bool.true_and]
  · rw [isP_rim h (by omega), Bool.and_false]
theorem small_log {m : Int} (h : m.natAbs < 2 ^ 60) : m.natAbs.log2 < 1920 := by
  by_cases h0 : m.natAbs = 0
  · rw [h0]
    decide
  · have : m.natAbs.log2 < 60 := (Nat.log2_lt h0).mpr h
    omega
/-- the product of the inverses is the product's -/
theorem inv_mul {a b l r e p : Int} (hp : 2 ≤ p) (e0 : 0 < e) (e1 : e < p) (h1 : a * b % p = 1) (h2 : l * r % p = 1) (h3 : (a * l % p) * e % p = 1) : e = b * r % p := by
  have d1 : a * b = p * (a * b / p) + 1 := by
    have := (Int.mul_ediv_add_emod (a * b) p).symm
    rw [h1] at this
    exact this
  have d2 : l * r = p * (l * r / p) + 1 := by
    have := (Int.mul_ediv_add_emod (l * r) p).symm
    rw [h2] at this
    exact this
  have d3 : a * l = p * (a * l / p) + a * l % p := (Int.mul_ediv_add_emod (a * l) p).symm
  have d4 : b * r = p * (b * r / p) + b * r % p := (Int.mul_ediv_add_emod (b * r) p).symm
  have hz : (a * l % p) * (b * r % p) % p = 1 := by
    refine one_mod hp ?_
    generalize a * b / p = q1 at *
    generalize l * r / p = q2 at *
    generalize a * l / p = q3 at *
    generalize b * r / p = q4 at *
    generalize a * l % p = x at *
    generalize b * r % p = y at *
    refine ⟨q1 * q2 * p + q1 + q2 - q3 * y - a * l * q4, ?_⟩
    have e5 : (a * b) * (l * r) = (p * q1 + 1) * (p * q2 + 1) := by rw [d1, d2]
    have ex : x = a * l - p * q3 := by omega
    have ey : y = b * r - p * q4 := by omega
    grind
  obtain ⟨y0, y1⟩ := mod_pos (x := b * r) hp ⟨a * l, (a * b / p) * (l * r / p) * p + a * b / p + l * r / p, by
    generalize a * b / p = q1 at *
    generalize l * r / p = q2 at *
    have e5 : (a * b) * (l * r) = (p * q1 + 1) * (p * q2 + 1) := by rw [d1, d2]
    grind⟩
  exact inv_unique e0 e1 y0 y1 h3 hz
end K00
set_option maxHeartbeats 2000000
/-! generator expressions over the layer: elements of any kind -/
namespace GX
open PySem PySem.Spec PyProof.Rows L2 GenW
/-- the context of a generator expression's frame, made at s -/
abbrev gblk (X : Cx) (A : Around) (s : Shared) (H : Hp) (scope : Scope) (cenv : Env) (fp : List Addr) (pn : List (Addr × Obj)) : Cx :=
  { X with A := A, s_0 := s, H_0 := H, env := cenv, outer := X.stack, stack := cenv :: X.stack, ex := fp, fn := fun x => scope.names.lookup x == some .cell, pn := pn, xe := fun _ _ => False }

/-- an item is out: y, behind ys -/
def YP (XB : Cx) (N : Nat) (Pn : List V → List (Addr × Obj) → Prop) (Sl : Value → Shared → Shared → Prop) (Py : V → List V → Hp → Prop) (Cont : V → Prop) : Protocol := fun n s₀ v s kap =>
  ∃ ys y pn ip σ H, n + 1 + ys.length = N ∧ RelV y v ∧ Pn ys pn ∧ Inv XB (pn ++ ip) σ H s ∧ Py y ys H ∧ (Cont y → ∀ s', Sl v s s' → kap (.send .none) s')
/-- all is out -/
def RP (XB : Cx) (N : Nat) (σ0 : L2.St) (Pn : List V → List (Addr × Obj) → Prop) (Qs : List V → Hp → Prop) : GenEnd := fun n s₀ r s =>
  r = .ok .next ∧ ∃ ys pn H, n + ys.length = N ∧ Pn ys pn ∧ Inv XB pn σ0 H s ∧ Qs ys H

theorem seg_loop {XB : Cx} {elt tg iter : Expr} {ifs : List Expr} {scope : Scope} {pos : Pos} {it : Addr} {fp : List Addr} {tn : Nat → Heap → Prop} {J : It} {A : Around} {g : TG} {tt : TT} {te : TE} {vs : List Nat} {σ0 : L2.St} {N : Nat}
    (T : Turn XB.prog XB.w XB.K tg J fp it tn) (hc : XB.calm = true) (hco : XB.env.scope.isCoroutine = false) (hw0 : wipe σ0 vs = σ0)
    (hA : A.over (.compLoop (.GeneratorExp elt [⟨tg, iter, ifs, 0⟩] scope pos) 0 (.ref it) .none XB.env) [] = XB.A) (hxe : XB.xe = fun _ _ => False)
    (pg : PG XB tg g) (pt : PTs XB ifs tt) (pe : PE XB elt te) (hex : ∀ b ∈ fp, b ∈ XB.ex) (hpnf : ∀ p ∈ XB.pn, p.1 ∉ fp)
    {Pn : List V → List (Addr × Obj) → Prop} {Sl : Value → Shared → Shared → Prop} (apart : ∀ ys pn, Pn ys pn → ∀ p ∈ pn, p.1 ∉ fp)
    (wake : ∀ ys x v pn ip σ H s s', Pn ys pn → (∀ p ∈ ip, p.1 ∈ fp) → Inv XB (pn ++ ip) σ H s → RelV x v → Sl v s s' → ∃ pn', Pn (ys ++ [x]) pn' ∧ Inv XB (pn' ++ ip) σ H s')
    {W : Nat → Nat → List V → Hp → Prop} {Py : V → List V → Hp → Prop} {Cont : V → Prop} {Qs : List V → Hp → Prop}
    (turn : ∀ i m ys H, W i m ys H → (J.stop i H ∧ Qs ys H) ∨ (J.go i H ∧ ∃ Nx : List V → Hp → Prop, (∀ ys' H', Nx ys' H' → ∃ m', m' < m ∧ W (i + 1) m' ys' H') ∧ ∀ x H', J.yld i H x H' → g x σ0 H' fun σ2 H2 => wipe σ2 vs = σ0 ∧ tt σ2 H2 fun b H3 =>
      if b = true then te σ2 H3 fun y H4 => Py y ys H4 ∧ (Cont y → Nx (ys ++ [y]) H4) else Nx ys H3)) :
    ∀ (m n i : Nat) (ys : List V) (s₀ s : Shared) (H : Hp) (pn : List (Addr × Obj)), m < n → n + ys.length = N → W i m ys H → Pn ys pn → Inv XB pn σ0 H s → tn i s.heap → (∀ b ∈ fp, H b = none) →
      Seg (model XB.prog XB.w) A (RP XB N σ0 Pn Qs) (YP XB N Pn Sl Py Cont) n s₀ (.compLoop (.GeneratorExp elt [⟨tg, iter, ifs, 0⟩] scope pos) 0 (.ref it) .none XB.env)
        ((model XB.prog XB.w).den (.compLoop (.GeneratorExp elt [⟨tg, iter, ifs, 0⟩] scope pos) 0 (.ref it) .none XB.env)) [] s := by
  intro m
  induction m using Nat.strongRecOn with
  | ind m ih =>
    intro n i ys s₀ s H pn hmn hN w hpn I st nfp
    have stat : ∀ {pins : List (Addr × Obj)} {σ' : L2.St} {H' : Hp} {s' : Shared}, Inv XB pins σ' H' s' → (∀ p ∈ pins, p.1 ∉ fp) → (∀ b ∈ fp, H' b = none) → ∀ b ∈ fp, FpOk XB pins H' b := fun {pins σ' H' s'} I' hp hn b hb =>
      ⟨hn b hb, (I'.ok.exf b (hex b hb)).1, I'.ok.exfs b (hex b hb), .inl (hex b hb), fun x c e => (I'.ok.exf b (hex b hb)).2 x c e, fun p hq z => by
        rcases List.mem_append.mp hq with q | q
        · exact hpnf p q (by rw [z]; exact hb)
        · exact hp p q (by rw [z]; exact hb)⟩
    show Seg _ A _ _ _ s₀ _ ((compTurn (.GeneratorExp elt [⟨tg, iter, ifs, 0⟩] scope pos) 0 (.ref it) .none XB.env).onRaise (leaving XB.env)) [] s
    rw [compTurn_gen, Sem.onRaise_eq_wrap]
    refine seg_bind_wrap (wpAny_standAt ?_)
    rcases turn i m ys H w with ⟨stop, qq⟩ | ⟨go, Nx, hNx, step⟩
    · have td := T.done XB rfl rfl rfl hc i pn s σ0 H (fun _ _ => False) I (stat I (apart ys pn hpn) nfp) st stop
      refine seg_bind_wrap ?_
      rw [hA]
      refine thnF td fun r s6 ⟨hr, I6⟩ => ?_
      subst hr
      exact seg_end (.ok .next) ⟨rfl, ys, pn, H, hN, hpn, I6, qq⟩
    · have ti := T.item XB rfl rfl rfl hc i pn s σ0 H (fun _ _ => False) I (stat I (apart ys pn hpn) nfp) st go
      refine seg_bind_wrap ?_
      rw [hA]
      refine thnF ti fun r s6 ⟨u, hr, h6⟩ => ?_
      subst hr
      refine seg_bind_wrap ?_
      rw [hA]
      refine thnF h6 fun _ s7 ⟨x, H7, I7, r7, y7, st7, n7⟩ => ?_
      have I7' := I7.pinned (stat I7 (apart ys pn hpn) n7) (T.obj _ _ st7)
      have hip : ∀ p ∈ pinsAt fp s7.heap, p.1 ∈ fp := fun p hp => (of_pinsAt hp).1
      have noE : ∀ (e : Value) (s' : Shared), XB.xe e s' → False := fun e s' h => by rw [hxe] at h; exact h
      refine seg_bind_wrap ?_
      rw [hA]
      refine wpAny_mono (pg.run _ s7 _ H7 x u _ I7' r7 (step x H7 y7)) (fun _ s8 ⟨σ8, H8, I8, hw8, q8⟩ => ?_) fun e s' h => (noE e s' h).elim
      refine seg_bind_wrap ?_
      rw [hA]
      refine wpAny_mono (pt.run _ s8 σ8 H8 _ I8 q8) (fun b s9 ⟨H9, I9, q9⟩ => ?_) fun e s' h => (noE e s' h).elim
      -- the turn's end
      have fin : ∀ {s' : Shared} {H' : Hp} {ys' : List V} {pn' : List (Addr × Obj)}, Inv XB (pn' ++ pinsAt fp s7.heap) σ8 H' s' → Inv XB pn' σ0 H' s' ∧ tn (i + 1) s'.heap ∧ ∀ b ∈ fp, H' b = none := fun {s' H' ys' pn'} I' => by
        have pin' : ∀ b ∈ fp, ∀ o, s7.heap.get? b = some o → s'.heap.get? b = some o ∧ H' b = none := fun b hb o e =>
          let z := I'.pin (b, o) (List.mem_append_right _ (List.mem_append_right _ (mem_pinsAt hb e)))
          ⟨z.1, z.2.1⟩
        have hl : σ0.length = σ8.length := by rw [← hw8, wipe_length]
        refine ⟨(I'.unpinned (pins := pn')).weak hl (fun j v e => ?_), T.keep _ _ _ st7 fun b hb o e => (pin' b hb o e).1, fun b hb => ?_⟩
        · rw [← hw8] at e
          exact (wipe_some e).1
        · obtain ⟨o, e, _⟩ := T.obj _ _ st7 b hb
          exact (pin' b hb o e).2
      cases b with
      | false =>
        rw [if_neg Bool.false_ne_true] at q9
        obtain ⟨m', hm, w'⟩ := hNx ys H9 q9
        obtain ⟨a1, a2, a3⟩ := fin (ys' := ys) I9
        simp only [Bool.false_eq_true, if_false]
        exact seg_again rfl (ih m' hm n (i + 1) ys s₀ s9 H9 pn (by omega) hN w' hpn a1 a2 a3)
      | true =>
        rw [if_pos rfl] at q9
        obtain ⟨n, rfl⟩ : ∃ k, n = k + 1 := ⟨n - 1, by omega⟩
        have hy : ∀ v, yieldOut XB.env v = yieldValue v := fun v => by simp only [yieldOut, hco, Bool.false_eq_true, if_false]
        simp only [if_true]
        simp only [hy]
        rw [Sem.bind_eq_wrap', Sem.bind_eq_wrap', Sem.wrap_wrap, Sem.wrap_wrap]
        refine seg_wrap ?_
        rw [hA]
        refine wpAny_mono (pe.run _ s9 σ8 H9 _ I9 q9) (fun z s10 ⟨yv, H10, I10, r10, py, nx⟩ => ?_) fun e s' h => (noE e s' h).elim
        refine seg_at (seg_yield rfl rfl rfl ⟨ys, yv, pn, pinsAt fp s7.heap, σ8, H10, by omega, r10, hpn, I10, py, fun hcont s'' hsl => ?_⟩)
        obtain ⟨m', hm, w'⟩ := hNx _ _ (nx hcont)
        obtain ⟨pn', hp', J'⟩ := wake ys yv z pn _ σ8 H10 s10 s'' hpn hip I10 r10 hsl
        obtain ⟨a1, a2, a3⟩ := fin (ys' := ys) J'
        exact seg_again rfl (ih m' hm n (i + 1) (ys ++ [yv]) s'' s'' H10 pn' (by omega) (by rw [List.length_append, List.length_singleton]; omega) w' hp' a1 a2 a3)
end GX
set_option maxHeartbeats 4000000
namespace GX
open PySem PySem.Spec PyProof.Rows L2 GenW
/-- a generator expression has been made at a, and has not begun -/
structure GRdy (X : Cx) (pins : List (Addr × Obj)) (σ : L2.St) (vs : List Nat) (ge tg : Expr) (scope : Scope) (J : It) (H2 : Hp) (sc s5 : Shared) (a : Addr) (gn : Nat) (it : Addr) (fp : List Addr) (tn : Nat → Heap → Prop) (cenv : Env) (go : Obj) : Prop where
  inv : Inv X pins σ H2 sc
  turn : Turn X.prog X.w X.K tg J fp it tn
  st : tn 0 sc.heap
  fok : ∀ b ∈ fp, FpOk X pins H2 b ∧ b < sc.heap.objs.size
  os : s5.os = sc.os
  bare : AllBare s5.gens
  kp : ∀ b o, sc.heap.get? b = some o → s5.heap.get? b = some o
  ga : sc.heap.objs.size ≤ a
  la : a < s5.heap.objs.size
  gen : ∀ h : Heap, h.get? a = some go → h.IsGen a gn
  at_ : s5.heap.get? a = some go
  gs : s5.gens[gn]? = some (.fresh (.compStart ge 0 (.ref it) .none cenv))
  nolim : s5.heap.NoLimit
  loc : cenv.locals = sc.heap.objs.size
  lc : sc.heap.objs.size < a
  env : ∃ cl C code bi, cenv = genEnv scope cl C code bi X.env
  blk : ∀ (A' : Around) (s2 : Shared), A'.handled = none → A'.frames = some (cenv :: X.stack) → (∀ b o, s5.heap.get? b = some o → s2.heap.get? b = some o) → s2.os = sc.os → AllBare s2.gens →
    Inv (gblk X A' sc H2 scope cenv fp [(a, go)]) [] (wipe σ vs) H2 s2
section
variable {X : Cx} {pins : List (Addr × Obj)} {σ : L2.St} {H : Hp} {s : Shared}
/-- the frame's first state -/
theorem gblk_start {scope : Scope} {own : List (Str × Nat)} {fp : List Addr} {a : Addr} {go : Obj} {code : Value} {A' : Around} {s2 : Shared} {m0 : Str → Option Value} (I : Inv X pins σ H s) (ok : BlkOk X.N X.env.scope scope own) (hN : X.N.Nodup) (hfp : ∀ b ∈ fp, FpOk X pins H b ∧ b < s.heap.objs.size)
    (hcell : ∀ y ∈ scope.names, y.2 ≠ .cell) (hh : A'.handled = none) (hfr : A'.frames = some (genEnv scope (cloFrom X.env.cells scope.names []) s.heap.objs.size code builtinsNs X.env :: X.stack)) (kp : ∀ b o, s.heap.get? b = some o → s2.heap.get? b = some o)
    (hos : s2.os = s.os) (hba : AllBare s2.gens) (hns : s2.heap.Ns s.heap.objs.size m0) (ha : s.heap.objs.size < a) (hat : s2.heap.get? a = some go) (hgd : ∀ v, go.data ≠ .cell v) :
    Inv (gblk X A' s H scope (genEnv scope (cloFrom X.env.cells scope.names []) s.heap.objs.size code builtinsNs X.env) fp [(a, go)]) [] (wipe σ (own.map (·.2))) H s2 := by
  have hfree : ∀ y ∈ scope.names, y.2 = .free → ∃ c, X.env.cells.lookup y.1 = some c := fun y hy e => by
    rcases ok.free y hy e with k | k
    · exact I.ok.has _ (.inl k)
    · exact I.ok.has _ (.inr k)
  generalize hcenv : genEnv scope (cloFrom X.env.cells scope.names []) s.heap.objs.size code builtinsNs X.env = cenv at hfr ⊢
  have hL : cenv.locals = s.heap.objs.size := by rw [← hcenv]; rfl
  have hcl : cenv.cells = cloFrom X.env.cells scope.names [] := by rw [← hcenv]; rfl
  have hsc : cenv.scope = scope := by rw [← hcenv]; rfl
  have hfm : cenv.frame = some cenv.locals := by rw [← hcenv]; rfl
  have cm : ∀ {y c}, (y, c) ∈ cloFrom X.env.cells scope.names [] → X.env.cells.lookup y = some c ∧ c < s.heap.objs.size := fun {y c} hm => by
    rcases cloFrom_mem hm with hm | ⟨h1, rfl⟩
    · cases hm
    · obtain ⟨c, hc⟩ := hfree _ h1 rfl
      rw [hc]
      obtain ⟨w, z⟩ := I.cell _ _ hc
      exact ⟨rfl, z.lt⟩
  have mem : ∀ {y c}, cenv.cells.lookup y = some c → X.env.cells.lookup y = some c ∧ c < s.heap.objs.size := fun {y c} e => by
    rw [hcl] at e
    exact cm (PySem.mem_of_lookup e)
  have look : ∀ {y}, scope.names.lookup y = some .free → ∃ c, cenv.cells.lookup y = some c ∧ X.env.cells.lookup y = some c := fun {y} hl => by
    have hy : (y, NameKind.free) ∈ scope.names := PySem.mem_of_lookup hl
    obtain ⟨c', e'⟩ := mem_lookup (cloFrom_has (cells := X.env.cells) (acc := []) hy)
    rw [← hcl] at e'
    exact ⟨c', e', (mem e').1⟩
  have noc : ∀ {y}, scope.names.lookup y = some .cell → False := fun {y} hl => hcell _ (PySem.mem_of_lookup hl) rfl
  have okB : (gblk X A' s H scope cenv fp [(a, go)]).Ok := by
    refine ⟨I.ok.mod, by show cenv.scope.kind = _; rw [hsc]; exact ok.kind, by show cenv.globals = _; rw [← hcenv]; exact I.ok.glob, by show cenv.builtins = _; rw [← hcenv]; rfl, by show s.heap.objs.size ≤ cenv.locals; rw [hL]; exact Nat.le_refl _,
      fun y z c e1 e2 => I.ok.inj y z c (mem e1).1 (mem e2).1, fun y hy => ?_, fun y c z e => ?_, fun _ => hh, hfr, .inr ⟨rfl, hfm⟩, fun b hb => ⟨?_, fun y c e z => ?_⟩, I.bs, Nat.le_trans I.ok.bsz I.sz, fun b o e hb => ?_, fun b hb z => ?_, I.stack, I.stkFree⟩
    · show ∃ c, cenv.cells.lookup y = some c
      have hy : scope.names.lookup y = some .cell ∨ scope.names.lookup y = some .free := by
        rcases hy with hy | hy
        · exact .inl (by rw [← hsc]; exact hy)
        · exact .inr (by rw [← hsc]; exact hy)
      rcases hy with hy | hy
      · exact (noc hy).elim
      · obtain ⟨c, h1, _⟩ := look hy
        exact ⟨c, h1⟩
    · have z : (scope.names.lookup y == some NameKind.cell) = true := z
      exact (noc (by simpa using z)).elim
    · show b ≠ cenv.locals
      rw [hL]; exact Nat.ne_of_lt (hfp b hb).2
    · exact (hfp b hb).1.2.2.2.2.1 y c (mem e).1 z
    · rcases (hfp b hb).1.2.2.2.1 with z | z
      · exact I.ok.noex b o e z
      · exact absurd (Nat.lt_of_lt_of_le (Heap.lt_size e) (Nat.le_trans I.ok.bsz z)) (Nat.lt_irrefl _)
    · rcases List.mem_cons.mp (I.stkSub b z) with z | z
      · exact (hfp b hb).1.2.1 z
      · exact (hfp b hb).1.2.2.1 z
  refine ⟨okB, hos, hba, Un.kept kp, ⟨m0, by show s2.heap.Ns cenv.locals _; rw [hL]; exact hns, fun i y av e1 e2 e3 => ?_⟩, fun y c e => ?_, ?_, fun y c e => ?_, fun p hp => ?_, I.hok.kept kp, by rw [wipe_length]; exact I.len⟩
  · obtain ⟨e2, hne⟩ := wipe_some e2
    have hfr2 : scope.names.lookup y = some .free := by
      have no : ∀ k, scope.names.lookup y = some k → k = .local ∨ k = .cell → False := fun k e hh => by
        rcases ok.own _ (PySem.mem_of_lookup e) hh with e' | e'
        · obtain ⟨p, hp, hpy⟩ := List.mem_map.mp e'
          have e3 := ok.ix p hp
          have : p.1 = y := hpy
          rw [this] at e3
          exact hne (List.mem_map.mpr ⟨p, hp, L2.nodup_ix hN e3 e1⟩)
        · exact e' (List.mem_of_getElem? e1)
      have e3 : Vis cenv.scope y := e3
      rw [hsc] at e3
      rcases e3 with e3 | e3 | e3
      · exact (no _ e3 (.inl rfl)).elim
      · exact (no _ e3 (.inr rfl)).elim
      · exact e3
    obtain ⟨m, hn, hl⟩ := I.loc
    have hvis : Vis X.env.scope y := (ok.free _ (PySem.mem_of_lookup hfr2) rfl).elim (fun k => .inr (.inl k)) (fun k => .inr (.inr k))
    obtain ⟨w, r, q⟩ := hl i y av e1 e2 hvis
    refine ⟨w, r, .inr ⟨.inr (by show cenv.scope.names.lookup y = _; rw [hsc]; exact hfr2), ?_⟩⟩
    obtain ⟨c, h1, h2⟩ := look hfr2
    rcases q with ⟨k, _⟩ | ⟨_, c', e', z⟩
    · have k : X.env.scope.names.lookup y = some .local := k
      rcases ok.free _ (PySem.mem_of_lookup hfr2) rfl with k' | k' <;> rw [show X.env.scope.names.lookup y = _ from k'] at k <;> cases k
    · rw [h2] at e'; cases e'
      exact ⟨c, h1, z.keeps kp⟩
  · have e : cenv.cells.lookup y = some c := e
    obtain ⟨w, z⟩ := I.cell y c (mem e).1
    exact ⟨w, z.keeps kp⟩
  · show H cenv.locals = none
    rw [hL]; exact I.hok.fresh (Nat.le_refl _)
  · have e : cenv.cells.lookup y = some c := e
    exact I.freeC y c (mem e).1
  · have e : p = (a, go) := by
      have hp : p ∈ [(a, go)] ++ ([] : List (Addr × Obj)) := hp
      simpa using hp
    subst e
    refine ⟨hat, I.hok.fresh (Nat.le_of_lt ha), ?_, fun z => ?_, hgd⟩
    · show a ≠ cenv.locals
      rw [hL]; exact Nat.ne_of_gt ha
    · rcases List.mem_cons.mp (I.stkSub _ z) with e | e
      · have h1 := I.lt
        rw [← e] at h1
        exact Nat.lt_irrefl _ (Nat.lt_trans h1 ha)
      · exact I.nofs (Nat.le_of_lt ha) e
end
end GX
set_option maxHeartbeats 4000000
namespace GX
open PySem PySem.Spec PyProof.Rows L2 GenW
section
variable {X : Cx} {pins : List (Addr × Obj)} {σ : L2.St} {H : Hp} {s : Shared}
theorem gen_make {c P : Addr} {elt tg iter : Expr} {ifs : List Expr} {scope : Scope} {own : List (Str × Nat)} {gpos : Pos} {wi : TI} {k : Nat} {Q' : Value → Shared → Prop} {Rk : It → Hp → Prop}
    (hr : Room k X.A) (hN : X.N.Nodup) (TB : GxR.TabB X.base X.mg c P) (hcode : X.env.code = .ref c) (ok : BlkOk X.N X.env.scope scope own) (hco : scope.isCoroutine = false) (hcell : ∀ y ∈ scope.names, y.2 ≠ .cell)
    (h0 : scope.names.lookup (".0" : Str) = some NameKind.local) (hi : PI X tg iter wi) (hs : ∀ v, genFold iter X.env v = pure v) (I : Inv X pins σ H s)
    (h : wi σ H fun J H1 => GxR.TabG H1 P ∧ ∀ H2, GxR.Tabbed P H1 H2 → Rk J H2)
    (hQ : ∀ J H2 sc s5 a gn it fp tn cenv go, Rk J H2 → GRdy X pins σ (own.map (·.2)) (.GeneratorExp elt [⟨tg, iter, ifs, 0⟩] scope gpos) tg scope J H2 sc s5 a gn it fp tn cenv go → Q' (.ref a) s5) :
    wpAny (model X.prog X.w) X.A (eval (.GeneratorExp elt [⟨tg, iter, ifs, 0⟩] scope gpos) X.env) Q' X.xe s := by
  have hfree : ∀ y ∈ scope.names, y.2 = .free → ∃ c, X.env.cells.lookup y.1 = some c := fun y hy e => by
    rcases ok.free y hy e with k | k
    · exact I.ok.has _ (.inl k)
    · exact I.ok.has _ (.inr k)
  refine wpAny_GeneratorExp_make hco (closure_ok hfree) hcell h0 ok.kind hr.depth ?_ hs
  refine thn (hi.run pins s σ H _ I h) fun xv s0 hx => thn hx fun itv s1 h1 => ?_
  obtain ⟨it, fp, tn, J, H1, e, I1, T, st1, f1, ⟨ps, hP, ht⟩, q⟩ := h1
  subst e
  have lim1 : s1.heap.NoLimit := I1.nolimit
  have hPs : s1.heap.get? P = some { cls := .none, data := .fields ps } := I1.hok P _ hP
  have hPlt : P < s1.heap.objs.size := Heap.lt_size hPs
  have cd : PySem.W.CodeHd s1.heap c P := TB.code.keeps fun b u e => I1.bk b u e
  have cont : ∀ (code : Value) (h3 : Heap) (tk : Nat) (more : Array Value), Heap.ExtBut P s1.heap h3 → s1.heap.objs.size ≤ h3.objs.size → h3.get? P = some { cls := .none, data := .fields (ps ++ more) } → TriplesOk (ps ++ more).toList →
      wpAny (model X.prog X.w) X.A (builtinsFor X.env.globals X.env.builtins) (fun bi s₄ =>
        ∀ h', h'.Ns s₄.heap.objs.size (fun y => if y = ".0" then some (.ref it) else none) → Heap.SameBut s₄.heap.objs.size (s₄.heap.push { cls := .type "frame", data := .dict #[] }) h' →
          Q' (.ref h'.objs.size) { s₄ with
            gens := s₄.gens.push (.fresh (.compStart (.GeneratorExp elt [⟨tg, iter, ifs, 0⟩] scope gpos) 0 (.ref it) .none (genEnv scope (cloFrom X.env.cells scope.names []) s₄.heap.objs.size code bi X.env))),
            toks := s₄.toks + 1 + 1 + 1,
            heap := h'.push { cls := .type "generator", data := .fields #[.int s₄.gens.size 0, .str "<genexpr>" (s₄.toks + 1), .str (X.env.qual ++ "<genexpr>") (s₄.toks + 1 + 1)] } }) X.xe { s1 with heap := h3, toks := tk } := by
    intro code h3 tk more hx hsz hP3 ht3
    obtain ⟨bm, ob, e1, e2, e3, e4, e5, e6, e7, e8⟩ := TB.bm
    have keep3 : ∀ b u, b ≠ P → s1.heap.get? b = some u → h3.get? b = some u := fun b u hb e => hx b u hb e
    have I3 : Inv X pins σ (upd H1 P (.tbl (ps ++ more))) { s1 with heap := h3, toks := tk } :=
      GxR.inv_tab (more := more) (h' := h3) (g' := s1.gens) (d' := s1.drawn) (t' := tk) I1 hP keep3 hP3 I1.bare
    have hcP : cStatics ≠ P := fun e => by
      obtain ⟨_, hns, _⟩ := id lim1
      obtain ⟨o', es, ep, ho, hd, _⟩ := hns
      rw [e, hPs] at ho
      cases ho
      cases hd
    have lim3 : h3.NoLimit := lim1.extBut hx hcP
    refine wpAny_builtinsFor (m := X.mg) (by rw [I1.ok.glob]; exact (I1.mod.glob.keeps I1.bk).extBut hx TB.gP) e1 e2 (keep3 _ _ e4 (I1.bk _ _ e5)) e6 e7 e8 ?_
    intro h' hn' hs'
    have hn' : h'.Ns h3.objs.size (fun y => if y = ".0" then some (.ref it) else none) := hn'
    have hs' : Heap.SameBut h3.objs.size (h3.push { cls := .type "frame", data := .dict #[] }) h' := hs'
    have hsz' : h'.objs.size = h3.objs.size + 1 := by rw [hs'.1, Heap.size_push]
    have keep' : ∀ b o, h3.get? b = some o → h'.get? b = some o := fun b o e => hs'.extBut b o (Nat.ne_of_lt (Heap.lt_size e)) (Heap.get?_push_of_some _ e)
    have fin : ∀ (go : Obj) (nm qn : Value) (tk2 : Nat), go.cls = .type "generator" → go.data = .fields #[.int s1.gens.size 0, nm, qn] → go.slots = #[] → (h'.push go).get? h'.objs.size = some go →
        Q' (.ref h'.objs.size) { s1 with gens := s1.gens.push (.fresh (.compStart (.GeneratorExp elt [⟨tg, iter, ifs, 0⟩] scope gpos) 0 (.ref it) .none (genEnv scope (cloFrom X.env.cells scope.names []) h3.objs.size code builtinsNs X.env))), toks := tk2, heap := h'.push go } := by
      intro go nm qn tk2 hgc hgd hgs hgat
      have tabd : GxR.Tabbed P H1 (upd H1 P (.tbl (ps ++ more))) := ⟨⟨_, upd_same, ht3⟩, fun b hb => upd_ne hb⟩
      have kp5 : ∀ b o, h3.get? b = some o → (h'.push go).get? b = some o := fun b o e => Heap.get?_push_of_some _ (keep' b o e)
      have nfp : ∀ b ∈ fp, b ≠ P := fun b hb z => by
        have := (f1 b hb).1
        rw [z, hP] at this
        cases this
      have f3 : ∀ b ∈ fp, FpOk X pins (upd H1 P (.tbl (ps ++ more))) b ∧ b < h3.objs.size := fun b hb => by
        obtain ⟨o, e, _⟩ := T.obj _ _ st1 b hb
        exact ⟨⟨by rw [upd_ne (nfp b hb)]; exact (f1 b hb).1, (f1 b hb).2⟩, Nat.lt_of_lt_of_le (Heap.lt_size e) hsz⟩
      have dcell : ∀ v, go.data ≠ .cell v := fun v z => by rw [hgd] at z; cases z
      refine hQ J _ { s1 with heap := h3, toks := tk } _ h'.objs.size s1.gens.size it fp tn _ go (q _ tabd) ⟨I3, T, T.keep _ _ _ st1 fun b hb o e => keep3 b o (nfp b hb) e, f3, rfl, ?_, kp5, ?_, ?_, fun h e => ⟨go, nm, qn, e, hgc, hgd, hgs⟩, hgat, Array.getElem?_push_size .., (lim3.keeps kp5), rfl, ?_, ⟨_, _, _, _, rfl⟩, ?_⟩
      · exact AllBare.push I1.bare rfl
      · show h3.objs.size ≤ h'.objs.size
        rw [hsz']; exact Nat.le_succ _
      · show h'.objs.size < (h'.push go).objs.size
        rw [Heap.size_push]; exact Nat.lt_succ_self _
      · show h3.objs.size < h'.objs.size
        rw [hsz']; exact Nat.lt_succ_self _
      · intro A' s2 hh hfr k2 hos hba
        exact gblk_start (s := { s1 with heap := h3, toks := tk }) I3 ok hN f3 hcell hh hfr (fun b o e => k2 b o (kp5 b o e)) hos hba ((hn'.push _).keeps k2) (by show h3.objs.size < h'.objs.size; rw [hsz']; exact Nat.lt_succ_self _) (k2 _ _ hgat) dcell
    exact fin _ _ _ _ rfl rfl rfl (Heap.get?_push_size _ rfl)
  refine ⟨lim1, ?_⟩
  cases hf : codeAmong gpos ps.toList with
  | none =>
    refine wpAny_genexprCodeX hcode (cd.code hPs ht) (cd.tab hPs) hf fun c' h' tk hx hge hlt hco' _ htab' _ => ?_
    obtain ⟨o1, vs, f1, tf, fl, tg, inF, tx, tt, op, _, _, _, _, _, _, _, _, _, htr, _⟩ := hco'
    exact cont _ h' tk _ hx (Nat.le_trans hge (Nat.le_of_lt hlt)) htab'.2 htr
  | some cv =>
    refine wpAny_genexprCode_hit hcode (cd.code hPs ht) hf ?_
    exact cont cv s1.heap s1.toks #[] (Heap.ExtBut.refl _ _) (Nat.le_refl _) (by rw [Array.append_empty]; exact hPs) (by rw [Array.append_empty]; exact ht)
end
end GX
set_option maxHeartbeats 4000000
namespace GX
open PySem PySem.Spec PyProof.Rows L2 GenW
/-- the generator's around -/
abbrev Ag (A : Around) (ge : Expr) (it : Addr) (cenv : Env) : Around := A.over (.compLoop ge 0 (.ref it) .none cenv) []
section
variable {A : Around} {elt : Expr} {gs : List Comprehension} {scope : Scope} {pos : Pos} {it : Addr} {cenv : Env} {l : List Env} {k : Nat}
theorem Ag_frames (h : A.frames = some l) : (Ag A (.GeneratorExp elt gs scope pos) it cenv).frames = some (cenv :: l) := by
  unfold Ag Around.over
  dsimp only
  rw [h]
  first
    | rfl
    | (simp [Code.envs, Code.isFrame, Code.env?, envsOf, pushEnvs]; done)
    | (unfold Code.envs; simp [envsOf, pushEnvs]; done)
theorem Ag_room (h : Room (k + 1) A) : Room k (Ag A (.GeneratorExp elt gs scope pos) it cenv) := by
  refine ⟨h.hd, ?_, ?_⟩
  · have := h.dp
    have e : (Ag A (.GeneratorExp elt gs scope pos) it cenv).depth = A.depth + 1 := rfl
    omega
  · have := h.un
    have e : (Ag A (.GeneratorExp elt gs scope pos) it cenv).units = A.units + 3 := rfl
    omega
theorem room_in2 (h : Room (k + 1) A) : Room (k + 1) A.in1.in1 ∨ True := .inr trivial
end
/-- room for k behind three more units -/
theorem room_in {k : Nat} {A : Around} (h : Room (k + 2) A) : Room (k + 1) A.in1.in1 ∧ Room (k + 1) A.in1.in1.in1.in1.in1 := by
  refine ⟨⟨h.hd, ?_, ?_⟩, ⟨h.hd, ?_, ?_⟩⟩
  · have := h.dp
    show A.depth + 3 * (k + 1) + 5 < _
    omega
  · have := h.un
    show A.units + 1 + 1 + 16 * (k + 1) + 200 < _
    omega
  · have := h.dp
    show A.depth + 3 * (k + 1) + 5 < _
    omega
  · have := h.un
    show A.units + 1 + 1 + 1 + 1 + 1 + 16 * (k + 1) + 200 < _
    omega
section
variable {X : Cx} {pins : List (Addr × Obj)} {σ : L2.St}
/-- back in the maker's context -/
theorem GRdy.leave {vs : List Nat} {ge tg : Expr} {scope : Scope} {J : It} {H2 H : Hp} {sc s5 s1 s' : Shared} {a : Addr} {gn : Nat} {it : Addr} {fp : List Addr} {tn : Nat → Heap → Prop} {cenv : Env} {go : Obj} {A' : Around} {pn : List (Addr × Obj)} {σ' : L2.St}
    (G : GRdy X pins σ vs ge tg scope J H2 sc s5 a gn it fp tn cenv go) (I : Inv (gblk X A' sc H2 scope cenv fp [(a, go)]) pn σ' H s1) (hos : s'.os = s1.os) (hb : AllBare s'.gens) (k : ∀ b o, s1.heap.get? b = some o → s'.heap.get? b = some o) : Inv X pins σ H s' := by
  have ub : Un (frs X.stack) fp H2 H sc.heap s1.heap := I.base
  have eos : s1.os = sc.os := I.os
  refine G.inv.call' (ch := fp) (hos.trans eos) (ub.trans (Un.kept k)) (I.hok.kept k) hb fun b hb => ?_
  obtain ⟨⟨_, h2, h3, h4, h5, h6⟩, _⟩ := G.fok b hb
  exact ⟨h4, h2, h5, h6⟩
/-- the generator as it is made: it goes -/
theorem GRdy.goes {elt tg iter : Expr} {ifs : List Expr} {pos : Pos} {vs : List Nat} {scope : Scope} {J : It} {H2 : Hp} {sc s5 s2 : Shared} {a : Addr} {gn : Nat} {it : Addr} {fp : List Addr} {tn : Nat → Heap → Prop} {cenv : Env} {go : Obj} {A : Around} {k : Nat} {g : TG} {tt : TT} {te : TE} {N : Nat} {pn : List (Addr × Obj)}
    (G : GRdy X pins σ vs (.GeneratorExp elt [⟨tg, iter, ifs, 0⟩] scope pos) tg scope J H2 sc s5 a gn it fp tn cenv go) (hc : X.calm = true) (hr : Room (k + 1) A) (hf : A.frames = some X.stack) (hco : scope.isCoroutine = false) (hw : wipe (wipe σ vs) vs = wipe σ vs)
    (hg : ∀ (A' : Around), Room k A' → ∀ (s : Shared) (H : Hp) (cl : List (Str × Addr)) (C : Addr) (code : Value) (bi : Addr) (fp : List Addr) (pn : List (Addr × Obj)), PG (gblk X A' s H scope (genEnv scope cl C code bi X.env) fp pn) tg g)
    (ht : ∀ (A' : Around), Room k A' → ∀ (s : Shared) (H : Hp) (cl : List (Str × Addr)) (C : Addr) (code : Value) (bi : Addr) (fp : List Addr) (pn : List (Addr × Obj)), PTs (gblk X A' s H scope (genEnv scope cl C code bi X.env) fp pn) ifs tt)
    (he : ∀ (A' : Around), Room k A' → ∀ (s : Shared) (H : Hp) (cl : List (Str × Addr)) (C : Addr) (code : Value) (bi : Addr) (fp : List Addr) (pn : List (Addr × Obj)), PE (gblk X A' s H scope (genEnv scope cl C code bi X.env) fp pn) elt te)
    {Pn : List V → List (Addr × Obj) → Prop} {Sl : Value → Shared → Shared → Prop} (apart : ∀ ys pn, Pn ys pn → ∀ p ∈ pn, p.1 ∉ fp)
    (wake : ∀ ys x v pn ip σ' H s s', Pn ys pn → (∀ p ∈ ip, p.1 ∈ fp) → Inv (gblk X (Ag A (.GeneratorExp elt [⟨tg, iter, ifs, 0⟩] scope pos) it cenv) sc H2 scope cenv fp [(a, go)]) (pn ++ ip) σ' H s → RelV x v → Sl v s s' →
      ∃ pn', Pn (ys ++ [x]) pn' ∧ Inv (gblk X (Ag A (.GeneratorExp elt [⟨tg, iter, ifs, 0⟩] scope pos) it cenv) sc H2 scope cenv fp [(a, go)]) (pn' ++ ip) σ' H s')
    {W : Nat → Nat → List V → Hp → Prop} {Py : V → List V → Hp → Prop} {Cont : V → Prop} {Qs : List V → Hp → Prop}
    (turn : ∀ i m ys H, W i m ys H → (J.stop i H ∧ Qs ys H) ∨ (J.go i H ∧ ∃ Nx : List V → Hp → Prop, (∀ ys' H', Nx ys' H' → ∃ m', m' < m ∧ W (i + 1) m' ys' H') ∧ ∀ x H', J.yld i H x H' → g x (wipe σ vs) H' fun σ2 H2 => wipe σ2 vs = wipe σ vs ∧ tt σ2 H2 fun b H3 =>
      if b = true then te σ2 H3 fun y H4 => Py y ys H4 ∧ (Cont y → Nx (ys ++ [y]) H4) else Nx ys H3))
    {m : Nat} (w0 : W 0 m [] H2) (hm : m < N) (hpn : Pn [] pn) (k5 : ∀ b o, s5.heap.get? b = some o → s2.heap.get? b = some o) (hos : s2.os = sc.os) (hba : AllBare s2.gens)
    (hpin : ∀ p ∈ pn, s2.heap.get? p.1 = some p.2 ∧ s5.heap.objs.size ≤ p.1 ∧ ∀ v, p.2.data ≠ .cell v) :
    Seg (model X.prog X.w) A (RP (gblk X (Ag A (.GeneratorExp elt [⟨tg, iter, ifs, 0⟩] scope pos) it cenv) sc H2 scope cenv fp [(a, go)]) N (wipe σ vs) Pn Qs)
      (YP (gblk X (Ag A (.GeneratorExp elt [⟨tg, iter, ifs, 0⟩] scope pos) it cenv) sc H2 scope cenv fp [(a, go)]) N Pn Sl Py Cont) N s2 (.compStart (.GeneratorExp elt [⟨tg, iter, ifs, 0⟩] scope pos) 0 (.ref it) .none cenv)
      ((model X.prog X.w).den (.compStart (.GeneratorExp elt [⟨tg, iter, ifs, 0⟩] scope pos) 0 (.ref it) .none cenv)) [] s2 := by
  obtain ⟨cl, C, code, bi, ec⟩ := G.env
  subst ec
  have hrg : Room k (Ag A (.GeneratorExp elt [⟨tg, iter, ifs, 0⟩] scope pos) it (genEnv scope cl C code bi X.env)) := Ag_room hr
  have I0 := G.blk (Ag A (.GeneratorExp elt [⟨tg, iter, ifs, 0⟩] scope pos) it (genEnv scope cl C code bi X.env)) s2 hrg.hd (Ag_frames hf) k5 hos hba
  have young : ∀ b, s5.heap.objs.size ≤ b → H2 b = none ∧ b ≠ C ∧ b ∉ frs X.stack ∧ b ∉ fp := fun b hb => by
    have h1 : sc.heap.objs.size < b := Nat.lt_of_lt_of_le (Nat.lt_trans G.lc G.la) hb
    have hC : C = sc.heap.objs.size := G.loc
    refine ⟨G.inv.hok.fresh (Nat.le_of_lt h1), fun z => ?_, fun z => ?_, fun z => ?_⟩
    · rw [z, hC] at h1
      exact Nat.lt_irrefl _ h1
    · rcases List.mem_cons.mp (G.inv.stkSub _ z) with e | e
      · have h2 := G.inv.lt
        rw [← e] at h2
        exact Nat.lt_irrefl _ (Nat.lt_trans h2 h1)
      · exact G.inv.nofs (Nat.le_of_lt h1) e
    · exact Nat.lt_irrefl _ (Nat.lt_trans (G.fok b z).2 h1)
  have I1 : Inv (gblk X (Ag A (.GeneratorExp elt [⟨tg, iter, ifs, 0⟩] scope pos) it (genEnv scope cl C code bi X.env)) sc H2 scope (genEnv scope cl C code bi X.env) fp [(a, go)]) pn (wipe σ vs) H2 s2 := by
    refine I0.pins_of fun p hp => ?_
    obtain ⟨h1, h2, h3⟩ := hpin p hp
    obtain ⟨y1, y2, y3, _⟩ := young p.1 h2
    exact ⟨h1, y1, y2, y3, h3⟩
  have st2 : tn 0 s2.heap := G.turn.keep _ _ _ G.st fun b _ o e => k5 b o (G.kp b o e)
  have hpa : ∀ p ∈ [(a, go)], p.1 ∉ fp := fun p hp z => by
    have e : p = (a, go) := by simpa using hp
    subst e
    exact Nat.lt_irrefl _ (Nat.lt_of_lt_of_le (G.fok a z).2 G.ga)
  have loop := seg_loop (XB := gblk X (Ag A (.GeneratorExp elt [⟨tg, iter, ifs, 0⟩] scope pos) it (genEnv scope cl C code bi X.env)) sc H2 scope (genEnv scope cl C code bi X.env) fp [(a, go)]) (iter := iter) (scope := scope) (pos := pos) (it := it) (A := A) (N := N)
    G.turn hc hco hw rfl rfl (hg _ hrg _ _ _ _ _ _ _ _) (ht _ hrg _ _ _ _ _ _ _ _) (he _ hrg _ _ _ _ _ _ _ _) (fun b hb => hb) hpa apart wake turn m N 0 [] s2 s2 H2 pn hm (Nat.add_zero _) w0 hpn I1 st2 (fun b hb => (G.fok b hb).1.1)
  show Seg _ A _ _ _ s2 _ ((compStart (.GeneratorExp elt [⟨tg, iter, ifs, 0⟩] scope pos) 0 (.ref it) .none (genEnv scope cl C code bi X.env)).onRaise (leaving (genEnv scope cl C code bi X.env))) [] s2
  unfold compStart
  rw [Sem.onRaise_eq_wrap]
  show Seg _ A _ _ _ s2 _ ((ask >>= _).wrap _ _ _ _) [] s2
  refine seg_bind_wrap (wpAny_askSetting ?_)
  split
  · exact seg_again rfl loop
  · first
      | exact seg_bind_wrap (wpAny_rule (seg_bind_wrap (wpAny_standAt (seg_bind_wrap (G.turn.self _ 0 s2 _ _ st2 (seg_again rfl loop))))))
      | (refine seg_bind_wrap (wpAny_rule ?_); show Seg _ A _ _ _ s2 _ ((standAt iter.pos >>= _).wrap _ _ _ _) [] s2; exact seg_bind_wrap (wpAny_standAt (seg_bind_wrap (G.turn.self _ 0 s2 _ _ st2 (seg_again rfl loop)))))
end
end GX
set_option maxHeartbeats 4000000
namespace GX
open PySem PySem.Spec PyProof.Rows L2 GenW
/-- the consumer changes nothing while the generator sleeps -/
def Sl0 (_ : Value) (s s' : Shared) : Prop := s'.os = s.os ∧ AllBare s'.gens ∧ ∀ b o, s.heap.get? b = some o → s'.heap.get? b = some o
def Pn0 (_ : List V) (pn : List (Addr × Obj)) : Prop := pn = []
theorem wake0 {XB : Cx} {fp : List Addr} : ∀ ys x v pn ip σ H s s', Pn0 ys pn → (∀ p ∈ ip, p.1 ∈ fp) → Inv XB (pn ++ ip) σ H s → RelV x v → Sl0 v s s' → ∃ pn', Pn0 (ys ++ [x]) pn' ∧ Inv XB (pn' ++ ip) σ H s' := by
  intro ys x v pn ip σ H s s' hp _ I _ ⟨h1, h2, h3⟩
  have e : pn = [] := hp
  subst e
  exact ⟨[], rfl, I.call' (ch := []) h1 (Un.kept h3) (I.hok.kept h3) h2 fun b z => by simp at z⟩
section
variable {XB : Cx} {N : Nat} {σ0 : L2.St} {Py : V → List V → Hp → Prop} {Cont : V → Prop} {Qs : List V → Hp → Prop} {a : Addr} {g : Nat} {go : Obj} {A : Around} {R : Result → Shared → Prop}
theorem all_loop (hh : A.handled = none) (hd : A.depth < recursionLimit) (hpn : XB.pn = [(a, go)]) (hgen : ∀ h : Heap, h.get? a = some go → h.IsGen a g)
    (hPy : ∀ y ys H, Py y ys H → ∃ k, y = .bl k ∧ (k = true → Cont y))
    (hT : ∀ ys H s1 s', Inv XB [] σ0 H s1 → Qs ys H → s'.os = s1.os → AllBare s'.gens → (∀ b o, s1.heap.get? b = some o → s'.heap.get? b = some o) → R (.ok (.ret (.bool true))) s')
    (hF : ∀ ys ip σ H s1 s', Inv XB ip σ H s1 → Py (.bl false) ys H → s'.os = s1.os → AllBare s'.gens → (∀ b o, s1.heap.get? b = some o → s'.heap.get? b = some o) → R (.ok (.ret (.bool false))) s') :
    ∀ (n : Nat) (s : Shared), s.heap.IsGen a g → s.heap.NoLimit →
      (∃ gs, s.gens[g]? = some gs ∧ gs.Goes (model XB.prog XB.w) A.in1.in1 (RP XB N σ0 Pn0 Qs) (YP XB N Pn0 Sl0 Py Cont) n (.send .none) (s.setGen g .running)) →
      codeAny (model XB.prog XB.w) A (.builtin "all.loop" ⟨[.ref a], []⟩) R s := by
  have pinned : ∀ {pins : List (Addr × Obj)} {σ : L2.St} {H : Hp} {s : Shared}, Inv XB pins σ H s → s.heap.IsGen a g := fun {pins σ H s} I =>
    hgen _ (I.pin (a, go) (List.mem_append_left _ (by rw [hpn]; exact List.mem_singleton.mpr rfl))).1
  intro n
  induction n with
  | zero =>
    intro s hg hl ⟨gs, hgs, hgo⟩
    refine codeAny_builtin F.entry_all_loop ?_
    rw [Around.under_plainId F.plain_all_loop _]
    show wpAny _ A.in1 (pyNext (.ref a) >>= _) _ _ s
    refine wpAny_bind (wpAny_pyNext_genexpQ (A := A.in1) (P := fun n s₀ s₁ => ∃ (ys : List V) (pn : List (Addr × Obj)) (H : Hp), n + ys.length = N ∧ Pn0 ys pn ∧ Inv XB pn σ0 H s₁ ∧ Qs ys H) (n := 0) hh hl hd hg hgs hgo (fun v s₁ gs' hb hv => ?_) (fun s₁ hp h' hk => ?_))
    · obtain ⟨ys, y, pn, ip, σ, H, _, rv, _, I, py, kap⟩ := hv
      obtain ⟨k, rfl, hk⟩ := hPy _ _ _ py
      cases (show v = Value.bool k from rv)
      refine wpAny_bind (wpAny_holding (wpAny_truthy_bool ?_))
      refine wpAny_bind (wpAny_letGo ?_)
      cases k with
      | true => exact (kap (hk rfl) s₁ ⟨rfl, I.bare, fun _ _ e => e⟩).elim
      | false =>
        simp only [Bool.false_eq_true, if_false]
        exact wpAny_bind (wpAny_rule (wpAny_pure (hF ys _ σ H s₁ _ I py rfl (allBare_setGen I.bare hb) fun _ _ e => e)))
    · obtain ⟨ys, pn, H, _, e, I, qs⟩ := hp
      have e : pn = [] := e
      subst e
      exact wpAny_bind (wpAny_rule (wpAny_pure (hT ys H s₁ _ I qs rfl (allBare_setGen I.bare rfl) hk)))
  | succ n ih =>
    intro s hg hl ⟨gs, hgs, hgo⟩
    have hgl : g < s.gens.size := (Array.getElem?_eq_some_iff.mp hgs).1
    refine codeAny_builtin F.entry_all_loop ?_
    rw [Around.under_plainId F.plain_all_loop _]
    show wpAny _ A.in1 (pyNext (.ref a) >>= _) _ _ s
    refine wpAny_bind (wpAny_gsz (n := g + 1) hgl (wpAny_pyNext_genexpQ (A := A.in1) (P := fun n s₀ s₁ => ∃ (ys : List V) (pn : List (Addr × Obj)) (H : Hp), n + ys.length = N ∧ Pn0 ys pn ∧ Inv XB pn σ0 H s₁ ∧ Qs ys H) (n := n + 1) hh hl hd hg hgs hgo (fun v s₁ gs' hb hv => ?_) (fun s₁ hp h' hk => ?_)))
    · intro hsz
      obtain ⟨ys, y, pn, ip, σ, H, _, rv, _, I, py, kap⟩ := hv
      obtain ⟨k, rfl, hk⟩ := hPy _ _ _ py
      cases (show v = Value.bool k from rv)
      refine wpAny_bind (wpAny_holding (wpAny_truthy_bool ?_))
      refine wpAny_bind (wpAny_letGo ?_)
      cases k with
      | true =>
        simp only [if_true]
        have hsz1 : g < s₁.gens.size := by
          have q : (s₁.setGen g gs').gens.size = s₁.gens.size := setGen_size _ _ _
          have hsz' : g + 1 ≤ (s₁.setGen g gs').gens.size := hsz
          omega
        exact wpAny_pure ⟨plainId_quiet F.plain_all_loop _, ih (s₁.setGen g gs') (show s₁.heap.IsGen a g from pinned I) (show s₁.heap.NoLimit from I.nolimit) ⟨gs', setGen_at hsz1, kap (hk rfl) _ ⟨rfl, allBare_setGen (s := s₁.setGen g gs') (allBare_setGen I.bare hb) rfl, fun _ _ e => e⟩⟩⟩
      | false =>
        simp only [Bool.false_eq_true, if_false]
        exact wpAny_bind (wpAny_rule (wpAny_pure (hF ys _ σ H s₁ _ I py rfl (allBare_setGen I.bare hb) fun _ _ e => e)))
    · intro hsz
      obtain ⟨ys, pn, H, _, e, I, qs⟩ := hp
      have e : pn = [] := e
      subst e
      exact wpAny_bind (wpAny_rule (wpAny_pure (hT ys H s₁ _ I qs rfl (allBare_setGen I.bare rfl) hk)))
theorem any_loop (hh : A.handled = none) (hd : A.depth < recursionLimit) (hpn : XB.pn = [(a, go)]) (hgen : ∀ h : Heap, h.get? a = some go → h.IsGen a g)
    (hPy : ∀ y ys H, Py y ys H → ∃ k, y = .bl k ∧ (k = false → Cont y))
    (hT : ∀ ys H s1 s', Inv XB [] σ0 H s1 → Qs ys H → s'.os = s1.os → AllBare s'.gens → (∀ b o, s1.heap.get? b = some o → s'.heap.get? b = some o) → R (.ok (.ret (.bool false))) s')
    (hF : ∀ ys ip σ H s1 s', Inv XB ip σ H s1 → Py (.bl true) ys H → s'.os = s1.os → AllBare s'.gens → (∀ b o, s1.heap.get? b = some o → s'.heap.get? b = some o) → R (.ok (.ret (.bool true))) s') :
    ∀ (n : Nat) (s : Shared), s.heap.IsGen a g → s.heap.NoLimit →
      (∃ gs, s.gens[g]? = some gs ∧ gs.Goes (model XB.prog XB.w) A.in1.in1 (RP XB N σ0 Pn0 Qs) (YP XB N Pn0 Sl0 Py Cont) n (.send .none) (s.setGen g .running)) →
      codeAny (model XB.prog XB.w) A (.builtin "any.loop" ⟨[.ref a], []⟩) R s := by
  have pinned : ∀ {pins : List (Addr × Obj)} {σ : L2.St} {H : Hp} {s : Shared}, Inv XB pins σ H s → s.heap.IsGen a g := fun {pins σ H s} I =>
    hgen _ (I.pin (a, go) (List.mem_append_left _ (by rw [hpn]; exact List.mem_singleton.mpr rfl))).1
  intro n
  induction n with
  | zero =>
    intro s hg hl ⟨gs, hgs, hgo⟩
    refine codeAny_builtin F.entry_any_loop ?_
    rw [Around.under_plainId F.plain_any_loop _]
    show wpAny _ A.in1 (pyNext (.ref a) >>= _) _ _ s
    refine wpAny_bind (wpAny_pyNext_genexpQ (A := A.in1) (P := fun n s₀ s₁ => ∃ (ys : List V) (pn : List (Addr × Obj)) (H : Hp), n + ys.length = N ∧ Pn0 ys pn ∧ Inv XB pn σ0 H s₁ ∧ Qs ys H) (n := 0) hh hl hd hg hgs hgo (fun v s₁ gs' hb hv => ?_) (fun s₁ hp h' hk => ?_))
    · obtain ⟨ys, y, pn, ip, σ, H, _, rv, _, I, py, kap⟩ := hv
      obtain ⟨k, rfl, hk⟩ := hPy _ _ _ py
      cases (show v = Value.bool k from rv)
      refine wpAny_bind (wpAny_holding (wpAny_truthy_bool ?_))
      refine wpAny_bind (wpAny_letGo ?_)
      cases k with
      | false => exact (kap (hk rfl) s₁ ⟨rfl, I.bare, fun _ _ e => e⟩).elim
      | true =>
        simp only [if_true]
        exact wpAny_bind (wpAny_rule (wpAny_pure (hF ys _ σ H s₁ _ I py rfl (allBare_setGen I.bare hb) fun _ _ e => e)))
    · obtain ⟨ys, pn, H, _, e, I, qs⟩ := hp
      have e : pn = [] := e
      subst e
      exact wpAny_bind (wpAny_rule (wpAny_pure (hT ys H s₁ _ I qs rfl (allBare_setGen I.bare rfl) hk)))
  | succ n ih =>
    intro s hg hl ⟨gs, hgs, hgo⟩
    have hgl : g < s.gens.size := (Array.getElem?_eq_some_iff.mp hgs).1
    refine codeAny_builtin F.entry_any_loop ?_
    rw [Around.under_plainId F.plain_any_loop _]
    show wpAny _ A.in1 (pyNext (.ref a) >>= _) _ _ s
    refine wpAny_bind (wpAny_gsz (n := g + 1) hgl (wpAny_pyNext_genexpQ (A := A.in1) (P := fun n s₀ s₁ => ∃ (ys : List V) (pn : List (Addr × Obj)) (H : Hp), n + ys.length = N ∧ Pn0 ys pn ∧ Inv XB pn σ0 H s₁ ∧ Qs ys H) (n := n + 1) hh hl hd hg hgs hgo (fun v s₁ gs' hb hv => ?_) (fun s₁ hp h' hk => ?_)))
    · intro hsz
      obtain ⟨ys, y, pn, ip, σ, H, _, rv, _, I, py, kap⟩ := hv
      obtain ⟨k, rfl, hk⟩ := hPy _ _ _ py
      cases (show v = Value.bool k from rv)
      refine wpAny_bind (wpAny_holding (wpAny_truthy_bool ?_))
      refine wpAny_bind (wpAny_letGo ?_)
      cases k with
      | false =>
        simp only [Bool.false_eq_true, if_false]
        have hsz1 : g < s₁.gens.size := by
          have q : (s₁.setGen g gs').gens.size = s₁.gens.size := setGen_size _ _ _
          have hsz' : g + 1 ≤ (s₁.setGen g gs').gens.size := hsz
          omega
        exact wpAny_pure ⟨plainId_quiet F.plain_any_loop _, ih (s₁.setGen g gs') (show s₁.heap.IsGen a g from pinned I) (show s₁.heap.NoLimit from I.nolimit) ⟨gs', setGen_at hsz1, kap (hk rfl) _ ⟨rfl, allBare_setGen (s := s₁.setGen g gs') (allBare_setGen I.bare hb) rfl, fun _ _ e => e⟩⟩⟩
      | true =>
        simp only [if_true]
        exact wpAny_bind (wpAny_rule (wpAny_pure (hF ys _ σ H s₁ _ I py rfl (allBare_setGen I.bare hb) fun _ _ e => e)))
    · intro hsz
      obtain ⟨ys, pn, H, _, e, I, qs⟩ := hp
      have e : pn = [] := e
      subst e
      exact wpAny_bind (wpAny_rule (wpAny_pure (hT ys H s₁ _ I qs rfl (allBare_setGen I.bare rfl) hk)))
end
end GX
set_option maxHeartbeats 4000000
namespace GX
open PySem PySem.Spec PyProof.Rows L2 GenW
theorem wipe_wipe (σ : L2.St) : ∀ vs : List Nat, wipe (wipe σ vs) vs = wipe σ vs := by
  intro vs
  refine List.ext_getElem? fun i => ?_
  have key : ∀ (vs : List Nat) (σ : L2.St) (i : Nat), i ∈ vs → (wipe σ vs)[i]? = if i < σ.length then some none else none := by
    intro vs
    induction vs with
    | nil => intro σ i h; cases h
    | cons v vs ih =>
      intro σ i h
      unfold wipe
      by_cases e : v = i
      · subst e
        by_cases hv : v < (wipe σ vs).length
        · rw [List.getElem?_set_self hv]
          rw [wipe_length] at hv
          rw [if_pos hv]
        · rw [List.getElem?_eq_none (by rw [List.length_set]; omega)]
          rw [wipe_length] at hv
          rw [if_neg hv]
      · rw [List.getElem?_set_ne e]
        rcases List.mem_cons.mp h with h | h
        · exact absurd h.symm e
        · exact ih σ i h
  by_cases h : i ∈ vs
  · rw [key vs _ i h, key vs _ i h, wipe_length]
  · exact wipe_out h
/-- all(e for tg in iter if ..) (d true), any(..) (d false): W by the turn and a measure -/
def tFlagG (d : Bool) (P : Addr) (wi : TI) (g : TG) (tt : TT) (te : TE) (vs : List Nat) : TE := fun σ H Q => wi σ H fun J H1 => GxR.TabG H1 P ∧ ∀ H2, GxR.Tabbed P H1 H2 →
  ∃ W : Nat → Nat → Hp → Prop, (∃ m, W 0 m H2) ∧ ∀ i m H, W i m H → (J.stop i H ∧ Q (.bl d) H) ∨ (J.go i H ∧ ∃ Nx : Hp → Prop, (∀ H', Nx H' → ∃ m', m' < m ∧ W (i + 1) m' H') ∧ ∀ x H', J.yld i H x H' → g x (wipe σ vs) H' fun σ2 H2 =>
    wipe σ2 vs = wipe σ vs ∧ tt σ2 H2 fun b H3 => if b = true then te σ2 H3 fun y H4 => (∃ k, y = .bl k ∧ (k = (!d) → Q (.bl (!d)) H4)) ∧ (y = .bl d → Nx H4) else Nx H3)
section
variable {X : Cx} {c P : Addr} {elt tg iter : Expr} {ifs : List Expr} {scope : Scope} {own : List (Str × Nat)} {p pos gpos : Pos} {wi : TI} {g : TG} {tt : TT} {te : TE} {k : Nat}
theorem pe_allG (hr : Room (k + 2) X.A) (hc : X.calm = true) (hN : X.N.Nodup) (hgl : Gl X "all") (hm : X.mg "all" = none) (hbt : bootBuiltins "all" = some (.builtin "all")) (TB : GxR.TabB X.base X.mg c P) (hcode : X.env.code = .ref c)
    (hi : PI X tg iter wi) (ok : BlkOk X.N X.env.scope scope own) (hsc : scope.isCoroutine = false ∧ (∀ y ∈ scope.names, y.2 ≠ .cell) ∧ scope.names.lookup (".0" : Str) = some NameKind.local)
    (hg : ∀ (A' : Around), Room k A' → ∀ (s : Shared) (H : Hp) (cl : List (Str × Addr)) (C : Addr) (code : Value) (bi : Addr) (fp : List Addr) (pn : List (Addr × Obj)), PG (gblk X A' s H scope (genEnv scope cl C code bi X.env) fp pn) tg g)
    (ht : ∀ (A' : Around), Room k A' → ∀ (s : Shared) (H : Hp) (cl : List (Str × Addr)) (C : Addr) (code : Value) (bi : Addr) (fp : List Addr) (pn : List (Addr × Obj)), PTs (gblk X A' s H scope (genEnv scope cl C code bi X.env) fp pn) ifs tt)
    (he : ∀ (A' : Around), Room k A' → ∀ (s : Shared) (H : Hp) (cl : List (Str × Addr)) (C : Addr) (code : Value) (bi : Addr) (fp : List Addr) (pn : List (Addr × Obj)), PE (gblk X A' s H scope (genEnv scope cl C code bi X.env) fp pn) elt te)
    (hs : ∀ v, genFold iter X.env v = pure v := by intro _; rfl)
    (hst : starEach [.GeneratorExp elt [⟨tg, iter, ifs, 0⟩] scope gpos] X.env = (false, eval (.GeneratorExp elt [⟨tg, iter, ifs, 0⟩] scope gpos) X.env) :: starEach [] X.env := by rfl) :
    PE X (.Call (.Name "all" p) [.GeneratorExp elt [⟨tg, iter, ifs, 0⟩] scope gpos] [] pos) (tFlagG true P wi g tt te (own.map (·.2))) := by
  obtain ⟨hco, hcell, h0⟩ := hsc
  obtain ⟨hr1, _⟩ := room_in hr
  refine ⟨fun pins s σ H Q I h => ?_⟩
  refine wpAny_Call_Name_kw (ld_blt I hgl hm hbt ?_)
  refine PyProof.Rows.callWith_builtin1 ?_ hst (by rfl)
  rw [hst]
  show wpAny _ _ (spliced ((false, eval (.GeneratorExp elt [⟨tg, iter, ifs, 0⟩] scope gpos) X.env) :: backTo pos (starEach [] X.env))) _ _ s
  refine Calls.spliced_cons (gen_make hr hN TB hcode ok hco hcell h0 hi hs I h fun J H2 sc s5 a gn it fp tn cenv go hR G => ?_)
  obtain ⟨W, ⟨m, w0⟩, turn⟩ := hR
  refine Calls.spliced_nil ?_
  refine call_function_tree F.kind_all F.plain_all F.entry_all (F.args_all1 _) ?_
  unfold Builtin.«all»
  refine wpAny_bind (m := oneArg "all" _) (wpAny_pure ?_)
  refine wpAny_bind (wpAny_pyIter_gen (G.gen _ G.at_) ?_)
  refine wpAny_pure ⟨plainId_quiet F.plain_all_loop _, ?_⟩
  refine all_loop (XB := gblk X (Ag X.A.in1.in1 (.GeneratorExp elt [⟨tg, iter, ifs, 0⟩] scope gpos) it cenv) sc H2 scope cenv fp [(a, go)]) (N := m + 1) (σ0 := wipe σ (own.map (·.2))) (Py := fun y _ H => ∃ k, y = .bl k ∧ (k = false → Q (.bl false) H)) (Cont := fun y => y = .bl true) (Qs := fun _ H => Q (.bl true) H)
    (A := X.A) hr.hd hr.depth rfl G.gen (fun y _ H ⟨k, e, _⟩ => ⟨k, e, fun z => by rw [e, z]⟩) (fun _ H s1 s' J1 q os hb kp => ⟨.bl true, H, G.leave J1 os hb kp, rfl, q⟩)
    (fun _ ip σ' H s1 s' J1 ⟨k, e, q⟩ os hb kp => ⟨.bl false, H, G.leave J1 os hb kp, rfl, q (by cases e; rfl)⟩) (m + 1) s5 (G.gen _ G.at_) G.nolim ⟨_, G.gs, rfl, ?_⟩
  refine G.goes (pn := []) (W := fun i m _ H => W i m H) hc hr1 I.ok.frames hco (wipe_wipe σ _) hg ht he (fun _ _ e p hp => by rw [show _ = _ from e] at hp; cases hp) wake0 (fun i m _ H w => ?_) w0 (Nat.lt_succ_self m) rfl (fun b o e => e) G.os (allBare_setGen G.bare rfl) (fun p hp => by cases hp)
  rcases turn i m H w with ⟨stop, qq⟩ | ⟨go', Nx, hNx, step⟩
  · exact .inl ⟨stop, qq⟩
  · refine .inr ⟨go', fun _ H => Nx H, fun _ H' n => hNx H' n, fun x H' y => ?_⟩
    exact step x H' y
theorem pe_anyG (hr : Room (k + 2) X.A) (hc : X.calm = true) (hN : X.N.Nodup) (hgl : Gl X "any") (hm : X.mg "any" = none) (hbt : bootBuiltins "any" = some (.builtin "any")) (TB : GxR.TabB X.base X.mg c P) (hcode : X.env.code = .ref c)
    (hi : PI X tg iter wi) (ok : BlkOk X.N X.env.scope scope own) (hsc : scope.isCoroutine = false ∧ (∀ y ∈ scope.names, y.2 ≠ .cell) ∧ scope.names.lookup (".0" : Str) = some NameKind.local)
    (hg : ∀ (A' : Around), Room k A' → ∀ (s : Shared) (H : Hp) (cl : List (Str × Addr)) (C : Addr) (code : Value) (bi : Addr) (fp : List Addr) (pn : List (Addr × Obj)), PG (gblk X A' s H scope (genEnv scope cl C code bi X.env) fp pn) tg g)
    (ht : ∀ (A' : Around), Room k A' → ∀ (s : Shared) (H : Hp) (cl : List (Str × Addr)) (C : Addr) (code : Value) (bi : Addr) (fp : List Addr) (pn : List (Addr × Obj)), PTs (gblk X A' s H scope (genEnv scope cl C code bi X.env) fp pn) ifs tt)
    (he : ∀ (A' : Around), Room k A' → ∀ (s : Shared) (H : Hp) (cl : List (Str × Addr)) (C : Addr) (code : Value) (bi : Addr) (fp : List Addr) (pn : List (Addr × Obj)), PE (gblk X A' s H scope (genEnv scope cl C code bi X.env) fp pn) elt te)
    (hs : ∀ v, genFold iter X.env v = pure v := by intro _; rfl)
    (hst : starEach [.GeneratorExp elt [⟨tg, iter, ifs, 0⟩] scope gpos] X.env = (false, eval (.GeneratorExp elt [⟨tg, iter, ifs, 0⟩] scope gpos) X.env) :: starEach [] X.env := by rfl) :
    PE X (.Call (.Name "any" p) [.GeneratorExp elt [⟨tg, iter, ifs, 0⟩] scope gpos] [] pos) (tFlagG false P wi g tt te (own.map (·.2))) := by
  obtain ⟨hco, hcell, h0⟩ := hsc
  obtain ⟨hr1, _⟩ := room_in hr
  refine ⟨fun pins s σ H Q I h => ?_⟩
  refine wpAny_Call_Name_kw (ld_blt I hgl hm hbt ?_)
  refine PyProof.Rows.callWith_builtin1 ?_ hst (by rfl)
  rw [hst]
  show wpAny _ _ (spliced ((false, eval (.GeneratorExp elt [⟨tg, iter, ifs, 0⟩] scope gpos) X.env) :: backTo pos (starEach [] X.env))) _ _ s
  refine Calls.spliced_cons (gen_make hr hN TB hcode ok hco hcell h0 hi hs I h fun J H2 sc s5 a gn it fp tn cenv go hR G => ?_)
  obtain ⟨W, ⟨m, w0⟩, turn⟩ := hR
  refine Calls.spliced_nil ?_
  refine call_function_tree F.kind_any F.plain_any F.entry_any (F.args_any1 _) ?_
  unfold Builtin.«any»
  refine wpAny_bind (m := oneArg "any" _) (wpAny_pure ?_)
  refine wpAny_bind (wpAny_pyIter_gen (G.gen _ G.at_) ?_)
  refine wpAny_pure ⟨plainId_quiet F.plain_any_loop _, ?_⟩
  refine any_loop (XB := gblk X (Ag X.A.in1.in1 (.GeneratorExp elt [⟨tg, iter, ifs, 0⟩] scope gpos) it cenv) sc H2 scope cenv fp [(a, go)]) (N := m + 1) (σ0 := wipe σ (own.map (·.2))) (Py := fun y _ H => ∃ k, y = .bl k ∧ (k = true → Q (.bl true) H)) (Cont := fun y => y = .bl false) (Qs := fun _ H => Q (.bl false) H)
    (A := X.A) hr.hd hr.depth rfl G.gen (fun y _ H ⟨k, e, _⟩ => ⟨k, e, fun z => by rw [e, z]⟩) (fun _ H s1 s' J1 q os hb kp => ⟨.bl false, H, G.leave J1 os hb kp, rfl, q⟩)
    (fun _ ip σ' H s1 s' J1 ⟨k, e, q⟩ os hb kp => ⟨.bl true, H, G.leave J1 os hb kp, rfl, q (by cases e; rfl)⟩) (m + 1) s5 (G.gen _ G.at_) G.nolim ⟨_, G.gs, rfl, ?_⟩
  refine G.goes (pn := []) (W := fun i m _ H => W i m H) hc hr1 I.ok.frames hco (wipe_wipe σ _) hg ht he (fun _ _ e p hp => by rw [show _ = _ from e] at hp; cases hp) wake0 (fun i m _ H w => ?_) w0 (Nat.lt_succ_self m) rfl (fun b o e => e) G.os (allBare_setGen G.bare rfl) (fun p hp => by cases hp)
  rcases turn i m H w with ⟨stop, qq⟩ | ⟨go', Nx, hNx, step⟩
  · exact .inl ⟨stop, qq⟩
  · refine .inr ⟨go', fun _ H => Nx H, fun _ H' n => hNx H' n, fun x H' y => ?_⟩
    exact step x H' y
end
end GX
set_option maxHeartbeats 4000000
namespace GX
open PySem PySem.Spec PyProof.Rows L2 GenW
/-- the consumer's list S holds what is out -/
def PnS (S : Addr) (ys : List V) (pn : List (Addr × Obj)) : Prop := ∃ (acc : Array Value) (c : Nat), Vals ys acc.toList ∧ pn = [(S, lstObj acc c)]
theorem wakeS {XB : Cx} {fp : List Addr} {S : Addr} (hpn : ∀ p ∈ XB.pn, p.1 ≠ S) (hSf : S ∉ fp) (hA : Apart XB S) : ∀ ys x v pn ip σ H s s', PnS S ys pn → (∀ p ∈ ip, p.1 ∈ fp) → Inv XB (pn ++ ip) σ H s → RelV x v → Slept S v s s' → ∃ pn', PnS S (ys ++ [x]) pn' ∧ Inv XB (pn' ++ ip) σ H s' := by
  intro ys x v pn ip σ H s s' hp hip I rv z
  obtain ⟨acc, c, r, e⟩ := hp
  subst e
  obtain ⟨acc', c', r', I'⟩ := GI.woken (S := S) (ip := ip) (ys := ys) hpn (fun p hp e => hSf (by rw [← e]; exact hip p hp)) hA ⟨acc, c, r, I⟩ rv z
  exact ⟨_, ⟨acc', c', r', rfl⟩, I'⟩
section
variable {XB : Cx} {N : Nat} {σ0 : L2.St} {Qs : List V → Hp → Prop} {a S : Addr} {g : Nat} {go : Obj} {A : Around} {R : Result → Shared → Prop} {res : Value}
theorem ext_loop (hh : A.handled = none) (hd : A.depth < recursionLimit) (hpn : XB.pn = [(a, go)]) (hgen : ∀ h : Heap, h.get? a = some go → h.IsGen a g) (hSa : S ≠ a) (hSc : S ≠ cStatics) (hN : N ≤ sizeLine)
    (hend : ∀ ys acc c H s1 s', Vals ys acc.toList → ys.length ≤ N → Inv XB [(S, lstObj acc c)] σ0 H s1 → Qs ys H → s'.os = s1.os → AllBare s'.gens → (∀ b o, s1.heap.get? b = some o → s'.heap.get? b = some o) → R (.ok (.ret res)) s') :
    ∀ (n : Nat) (s : Shared), s.heap.IsGen a g → s.heap.NoLimit →
      (∃ gs, s.gens[g]? = some gs ∧ gs.Goes (model XB.prog XB.w) A.in1.in1 (RP XB N σ0 (PnS S) Qs) (YP XB N (PnS S) (Slept S) (fun _ _ _ => True) (fun _ => True)) n (.send .none) (s.setGen g .running)) →
      codeAny (model XB.prog XB.w) A (.builtin "list.extend.loop" ⟨[.ref S, .ref a, res], []⟩) R s := by
  have pinned : ∀ {pins : List (Addr × Obj)} {σ : L2.St} {H : Hp} {s : Shared}, Inv XB pins σ H s → s.heap.IsGen a g := fun {pins σ H s} I =>
    hgen _ (I.pin (a, go) (List.mem_append_left _ (by rw [hpn]; exact List.mem_singleton.mpr rfl))).1
  intro n
  induction n with
  | zero =>
    intro s hg hl ⟨gs, hgs, hgo⟩
    refine codeAny_builtin F.entry_extend_loop ?_
    rw [Around.under_plainId F.plain_extend_loop _]
    show wpAny _ A.in1 (pyNext (.ref a) >>= _) _ _ s
    refine wpAny_bind (wpAny_pyNext_genexpQ (A := A.in1) (P := fun n s₀ s₁ => ∃ (ys : List V) (pn : List (Addr × Obj)) (H : Hp), n + ys.length = N ∧ PnS S ys pn ∧ Inv XB pn σ0 H s₁ ∧ Qs ys H) (n := 0) hh hl hd hg hgs hgo (fun v s₁ gs' hb hv => ?_) (fun s₁ hp h' hk => ?_))
    · obtain ⟨ys, y, pn, ip, σ, H, _, rv, ⟨acc, c, r, e⟩, I, _, kap⟩ := hv
      subst e
      have hS1 : s₁.heap.get? S = some (lstObj acc c) := (I.pin (S, lstObj acc c) (List.mem_append_right _ (by simp))).1
      exact (kap trivial _ (Slept.push hS1 I.bare)).elim
    · obtain ⟨ys, pn, H, hn, ⟨acc, c, r, e⟩, I, qs⟩ := hp
      subst e
      exact wpAny_pure (hend ys acc c H s₁ _ r (by omega) I qs rfl (allBare_setGen I.bare rfl) hk)
  | succ n ih =>
    intro s hg hl ⟨gs, hgs, hgo⟩
    have hgl : g < s.gens.size := (Array.getElem?_eq_some_iff.mp hgs).1
    refine codeAny_builtin F.entry_extend_loop ?_
    rw [Around.under_plainId F.plain_extend_loop _]
    show wpAny _ A.in1 (pyNext (.ref a) >>= _) _ _ s
    refine wpAny_bind (wpAny_gsz (n := g + 1) hgl (wpAny_pyNext_genexpQ (A := A.in1) (P := fun n s₀ s₁ => ∃ (ys : List V) (pn : List (Addr × Obj)) (H : Hp), n + ys.length = N ∧ PnS S ys pn ∧ Inv XB pn σ0 H s₁ ∧ Qs ys H) (n := n + 1) hh hl hd hg hgs hgo (fun v s₁ gs' hb hv => ?_) (fun s₁ hp h' hk => ?_)))
    · intro hsz
      obtain ⟨ys, y, pn, ip, σ, H, hn, rv, ⟨acc, c, r, e⟩, I, _, kap⟩ := hv
      subst e
      have hS1 : s₁.heap.get? S = some (lstObj acc c) := (I.pin (S, lstObj acc c) (List.mem_append_right _ (by simp))).1
      have hasz : acc.size = ys.length := by
        have e1 := r.length
        have e2 : acc.toList.length = acc.size := by simp
        omega
      have hasz' : acc.size < sizeLine := by omega
      show wpAny _ A.in1 (updateSeq S (·.push v) >>= _) _ _ _
      refine wpAny_bind ?_
      refine wpAny_updateSeq hS1 rfl (wpAny_pure ⟨plainId_quiet F.plain_extend_loop _, ?_⟩) (Nat.le_of_lt hasz') (by show (acc.push v).size ≤ sizeLine + 1; rw [Array.size_push]; omega)
      have keep3 : ∀ b o, b ≠ S → s₁.heap.get? b = some o → (s₁.heap.update S (Obj.mapSeq (·.push v))).get? b = some o := fun b o hbS e => (Heap.get?_update_other _ _ (Ne.symm hbS)).trans e
      have hsz1 : g < s₁.gens.size := by
        have q : (s₁.setGen g gs').gens.size = s₁.gens.size := setGen_size _ _ _
        have hsz' : g + 1 ≤ (s₁.setGen g gs').gens.size := hsz
        omega
      refine ih { s₁.setGen g gs' with heap := s₁.heap.update S (Obj.mapSeq (·.push v)) } ?_ ?_ ⟨gs', setGen_at hsz1, ?_⟩
      · obtain ⟨o, nm, qn, ho, r⟩ := pinned I
        exact ⟨o, nm, qn, keep3 a o (Ne.symm hSa) ho, r⟩
      · obtain ⟨mc, hns, hnn⟩ := I.nolimit
        exact ⟨mc, hns.at' fun o e => keep3 _ o (Ne.symm hSc) e, hnn⟩
      · exact kap trivial _ (Slept.push hS1 (allBare_setGen (s := s₁.setGen g gs') (allBare_setGen I.bare hb) rfl))
    · intro hsz
      obtain ⟨ys, pn, H, hn, ⟨acc, c, r, e⟩, I, qs⟩ := hp
      subst e
      exact wpAny_pure (hend ys acc c H s₁ _ r (by omega) I qs rfl (allBare_setGen I.bare rfl) hk)
end
section
variable {prog : Program} {w : World} {A : Around} {E : Value → Shared → Prop} {s : Shared} {a : Addr} {g : Nat}
/-- collect(g), the loop told -/
theorem collect_G {Q : List Value → Shared → Prop} {Qe : Array Value → Shared → Prop} (hg : s.heap.IsGen a g)
    (loop : ∀ (S : Addr) (s2 : Shared) (c : Nat) (R : Result → Shared → Prop), S = s.heap.objs.size → s2.os = s.os → s2.gens = s.gens → (∀ b o, s.heap.get? b = some o → s2.heap.get? b = some o) → s2.heap.get? S = some (lstObj #[] c) →
      (∀ acc c' s', s'.heap.get? S = some (lstObj acc c') → Qe acc s' → R (.ok (.ret (.ref S))) s') → codeAny (model prog w) A (.builtin "list.extend.loop" ⟨[.ref S, .ref a, .ref S], []⟩) R s2)
    (hQ : ∀ s' acc, Qe acc s' → Q acc.toList s') : wpAny (model prog w) A (collect (.ref a)) Q E s := by
  have ha : a < s.heap.objs.size := by
    obtain ⟨o, nm, qn, ho, _⟩ := id hg
    exact Heap.lt_size ho
  have hSI : s.heap.objs.size ≠ a := Nat.ne_of_gt ha
  unfold collect
  refine wpAny_bind (wpAny_runValue (codeAny_builtin F.entry_proto_collect ?_))
  rw [Around.under_plainId F.plain_proto_collect _]
  show wpAny _ A.in1 (newList [] >>= fun l => again (.builtin "list.__iadd__" ⟨[l, .ref a], []⟩)) _ _ s
  refine wpAny_bind (wpAny_newObj_type ?_)
  refine wpAny_pure ⟨plainId_quiet F.plain_list_iadd _, codeAny_builtin F.entry_list_iadd ?_⟩
  rw [Around.under_plainId F.plain_list_iadd _]
  have k1 : ∀ b o, s.heap.get? b = some o → (s.heap.push { cls := .type "list", data := .seq ([] : List Value).toArray }).get? b = some o := fun b o e => Heap.get?_push_of_some _ e
  have gty : ∀ {h : Heap}, (∀ b o, s.heap.get? b = some o → h.get? b = some o) → h.IsGen a g := fun {h} q => hg.keeps q
  show wpAny _ A.in1 (Builtin.List.listExtendWith (.ref s.heap.objs.size) (.ref a) (.ref s.heap.objs.size)) _ _ _
  unfold Builtin.List.listExtendWith
  refine wpAny_bind (wpAny_typeOf (Heap.IsGen.typeIs (s := { s with heap := _ }) (gty k1)) ?_)
  have h1 : Builtin.List.listSameRef (.ref s.heap.objs.size) (.ref a) = false := by simp [Builtin.List.listSameRef, hSI]
  have h2 : (Value.type "generator" == Value.type "list") = false := by decide
  have h3 : (Value.type "generator" == Value.type "tuple") = false := by decide
  simp only [h1, h2, h3, Bool.or_false, Bool.false_eq_true, if_false]
  refine wpAny_bind (wpAny_pyIter_gen (s := { s with heap := _ }) (gty k1) ?_)
  refine wpAny_bind (wpAny_holding ?_)
  unfold Builtin.List.listLengthHint
  refine wpAny_bind (wpAny_specialOf (Heap.IsGen.typeIs (s := { s with heap := _ }) (gty k1)) F.gen_no_len ?_)
  show wpAny _ A.in1 (specialOf (Value.ref a) (Str.ofString "__length_hint__") >>= _) _ _ _
  refine wpAny_bind (wpAny_specialOf (Heap.IsGen.typeIs (s := { s with heap := _ }) (gty k1)) F.gen_no_hint ?_)
  refine wpAny_pure ?_
  show wpAny _ A.in1 (rule "list.extend.makes-room" >>= fun _ => Builtin.List.listTouch (.ref s.heap.objs.size) >>= fun _ =>
    again (.builtin "list.extend.loop" ⟨[.ref s.heap.objs.size, .ref a, .ref s.heap.objs.size], []⟩)) _ _ _
  refine wpAny_bind (wpAny_rule ?_)
  have hS₁ : (s.heap.push { cls := .type "list", data := .seq ([] : List Value).toArray }).get? s.heap.objs.size = some { cls := .type "list", data := .seq ([] : List Value).toArray } := Heap.get?_push_size _ rfl
  refine wpAny_bind ?_
  show wpAny _ A.in1 (updateSeq s.heap.objs.size (·.push .none) >>= fun _ => updateSeq s.heap.objs.size (·.pop)) _ _ _
  refine wpAny_bind (wpAny_updateSeq hS₁ rfl ?_)
  have hS₂ := Heap.get?_update_self (Obj.mapSeq (·.push Value.none)) hS₁ rfl
  refine wpAny_updateSeq hS₂ rfl ?_
  have hS₃ := Heap.get?_update_self (Obj.mapSeq (·.pop)) hS₂ rfl
  have oth : ∀ b o, s.heap.get? b = some o →
      (((s.heap.push { cls := .type "list", data := .seq ([] : List Value).toArray }).update s.heap.objs.size (Obj.mapSeq (·.push Value.none))).update s.heap.objs.size (Obj.mapSeq (·.pop))).get? b = some o :=
    fun b o e => (Heap.get?_update_other _ _ (Ne.symm (Nat.ne_of_lt (Heap.lt_size e)))).trans ((Heap.get?_update_other _ _ (Ne.symm (Nat.ne_of_lt (Heap.lt_size e)))).trans (k1 b o e))
  refine wpAny_pure ⟨plainId_quiet F.plain_extend_loop _, loop _ _ _ _ rfl rfl rfl oth hS₃ fun acc c' s' hS' hq => ?_⟩
  show wpAny _ A (load s.heap.objs.size >>= _) _ _ s'
  refine wpAny_bind (wpAny_load hS' ?_)
  exact wpAny_pure (hQ s' acc hq)
open AutoSeq1 (wpAny_loadPart') in
theorem tuple_new_G {Q₁ : Value → Shared → Prop} {Qe : Array Value → Shared → Prop} (hg : s.heap.IsGen a g) (hsz : ∀ s' acc, Qe acc s' → acc.size ≤ sizeLine)
    (loop : ∀ (S : Addr) (s2 : Shared) (c : Nat) (R : Result → Shared → Prop), S = s.heap.objs.size → s2.os = s.os → s2.gens = s.gens → (∀ b o, s.heap.get? b = some o → s2.heap.get? b = some o) → s2.heap.get? S = some (lstObj #[] c) →
      (∀ acc c' s', s'.heap.get? S = some (lstObj acc c') → Qe acc s' → R (.ok (.ret (.ref S))) s') → codeAny (model prog w) A.in1 (.builtin "list.extend.loop" ⟨[.ref S, .ref a, .ref S], []⟩) R s2)
    (h : ∀ s' acc, Qe acc s' → Q₁ (.ref s'.heap.objs.size) { s' with heap := s'.heap.push { cls := .type "tuple", data := .seq acc } }) :
    codeAny (model prog w) A (.call (.builtin "tuple.__new__") ⟨[.type "tuple", .ref a], []⟩) (wants Q₁ E) s := by
  refine codeAny_of_tree ?_
  show wpAny _ A.in1 (do checkBuiltinCall "tuple.__new__" ⟨[.type "tuple", .ref a], []⟩; again (.builtin "tuple.__new__" ⟨[.type "tuple", .ref a], []⟩)) _ _ s
  refine wpAny_bind (wpAny_of_eq (F.newCall_tuple_1 _) (wpAny_pure ⟨plainId_quiet F.plain_tuple_new _, codeAny_builtin F.entry_tuple_new ?_⟩))
  rw [Around.under_plainId F.plain_tuple_new _]
  have hsub := sub_tuple_self
  have hinit := init_tuple_lookup
  have hmh := madeHere_tuple
  have hTI := Heap.IsGen.typeIs (s := s) hg
  wp_walk using wpAny_typeOf hTI, wpAny_pyIter_gen hg, collect_G hg loop
  intro s' acc hacc
  show wpAny _ _ (Builtin.Tuple.tupleExact acc.toList.toArray >>= fun v => ret v) _ _ _
  unfold Builtin.Tuple.tupleExact
  refine wpAny_bind (wpAny_newObj_type ?_ (by show acc.toList.toArray.size ≤ sizeLine; simp only [Array.toArray_toList]; exact hsz _ _ hacc))
  refine wpAny_pure ?_
  have e : acc.toList.toArray = acc := by simp
  rw [e]
  exact h s' acc hacc
theorem call_tuple_G {Q : Value → Shared → Prop} {Qe : Array Value → Shared → Prop} (hg : s.heap.IsGen a g) (hsz : ∀ s' acc, Qe acc s' → acc.size ≤ sizeLine)
    (loop : ∀ (S : Addr) (s2 : Shared) (c : Nat) (R : Result → Shared → Prop), S = s.heap.objs.size → s2.os = s.os → s2.gens = s.gens → (∀ b o, s.heap.get? b = some o → s2.heap.get? b = some o) → s2.heap.get? S = some (lstObj #[] c) →
      (∀ acc c' s', s'.heap.get? S = some (lstObj acc c') → Qe acc s' → R (.ok (.ret (.ref S))) s') → codeAny (model prog w) A.in1.in1 (.builtin "list.extend.loop" ⟨[.ref S, .ref a, .ref S], []⟩) R s2)
    (hQ : ∀ s' acc, Qe acc s' → Q (.ref s'.heap.objs.size) { s' with heap := s'.heap.push { cls := .type "tuple", data := .seq acc } }) :
    wpAny (model prog w) A (call (.type "tuple") [.ref a]) Q E s := by
  refine callType_codes (Q₁ := fun obj s₁ => s₁.TypeIs obj "tuple" ∧ Q obj s₁) F.called_tuple (F.typeCall_tuple_1 _) F.entry_object_init
    (tuple_new_G hg hsz loop fun s' acc hacc => ⟨⟨_, Heap.get?_push_size _ rfl, rfl⟩, hQ s' acc hacc⟩) fun obj s₁ h₁ => ?_
  exact ⟨h₁.1, F.args_object_init_2 obj _, object_init_meets F.called_tuple.init.lookup F.called_tuple.made (by decide) prog w A.in1 _ s₁ ⟨h₁.1, rfl, h₁.2⟩⟩
end
end GX
set_option maxHeartbeats 4000000
namespace GX
open PySem PySem.Spec PyProof.Rows L2 GenW
/-- tuple(e for tg in iter if ..): W by the turn, a measure, what is out so far -/
def tTupG (P : Addr) (wi : TI) (g : TG) (tt : TT) (te : TE) (vs : List Nat) : TE := fun σ H Q => wi σ H fun J H1 => GxR.TabG H1 P ∧ ∀ H2, GxR.Tabbed P H1 H2 →
  ∃ W : Nat → Nat → List V → Hp → Prop, (∃ m, m < sizeLine ∧ W 0 m [] H2) ∧ ∀ i m ys H, W i m ys H → (J.stop i H ∧ ∀ p, H p = none → Q (.ref p) (upd H p (.tup ys))) ∨ (J.go i H ∧ ∃ Nx : List V → Hp → Prop, (∀ ys' H', Nx ys' H' → ∃ m', m' < m ∧ W (i + 1) m' ys' H') ∧
    ∀ x H', J.yld i H x H' → g x (wipe σ vs) H' fun σ2 H2 => wipe σ2 vs = wipe σ vs ∧ tt σ2 H2 fun b H3 => if b = true then te σ2 H3 fun y H4 => True ∧ (True → Nx (ys ++ [y]) H4) else Nx ys H3)
section
variable {X : Cx} {c P : Addr} {elt tg iter : Expr} {ifs : List Expr} {scope : Scope} {own : List (Str × Nat)} {p pos gpos : Pos} {wi : TI} {g : TG} {tt : TT} {te : TE} {k : Nat}
theorem room_in3 {A : Around} (h : Room (k + 2) A) : Room (k + 1) A.in1.in1.in1.in1 := by
  refine ⟨h.hd, ?_, ?_⟩
  · have := h.dp
    show A.depth + 3 * (k + 1) + 5 < _
    omega
  · have := h.un
    show A.units + 1 + 1 + 1 + 1 + 16 * (k + 1) + 200 < _
    omega
theorem pe_tupG (hr : Room (k + 2) X.A) (hc : X.calm = true) (hN : X.N.Nodup) (hgl : Gl X "tuple") (hm : X.mg "tuple" = none) (hbt : bootBuiltins "tuple" = some (.type "tuple")) (TB : GxR.TabB X.base X.mg c P) (hcode : X.env.code = .ref c)
    (hi : PI X tg iter wi) (ok : BlkOk X.N X.env.scope scope own) (hsc : scope.isCoroutine = false ∧ (∀ y ∈ scope.names, y.2 ≠ .cell) ∧ scope.names.lookup (".0" : Str) = some NameKind.local)
    (hg : ∀ (A' : Around), Room k A' → ∀ (s : Shared) (H : Hp) (cl : List (Str × Addr)) (C : Addr) (code : Value) (bi : Addr) (fp : List Addr) (pn : List (Addr × Obj)), PG (gblk X A' s H scope (genEnv scope cl C code bi X.env) fp pn) tg g)
    (ht : ∀ (A' : Around), Room k A' → ∀ (s : Shared) (H : Hp) (cl : List (Str × Addr)) (C : Addr) (code : Value) (bi : Addr) (fp : List Addr) (pn : List (Addr × Obj)), PTs (gblk X A' s H scope (genEnv scope cl C code bi X.env) fp pn) ifs tt)
    (he : ∀ (A' : Around), Room k A' → ∀ (s : Shared) (H : Hp) (cl : List (Str × Addr)) (C : Addr) (code : Value) (bi : Addr) (fp : List Addr) (pn : List (Addr × Obj)), PE (gblk X A' s H scope (genEnv scope cl C code bi X.env) fp pn) elt te)
    (hs : ∀ v, genFold iter X.env v = pure v := by intro _; rfl)
    (hst : starEach [.GeneratorExp elt [⟨tg, iter, ifs, 0⟩] scope gpos] X.env = (false, eval (.GeneratorExp elt [⟨tg, iter, ifs, 0⟩] scope gpos) X.env) :: starEach [] X.env := by rfl) :
    PE X (.Call (.Name "tuple" p) [.GeneratorExp elt [⟨tg, iter, ifs, 0⟩] scope gpos] [] pos) (tTupG P wi g tt te (own.map (·.2))) := by
  obtain ⟨hco, hcell, h0⟩ := hsc
  have hr1 := room_in3 hr
  refine ⟨fun pins s σ H Q I h => ?_⟩
  refine wpAny_Call_Name_kw (ld_blt I hgl hm hbt ?_)
  refine PyProof.Rows.callWith_type1 ?_ hst rfl
  rw [hst]
  show wpAny _ _ (spliced ((false, eval (.GeneratorExp elt [⟨tg, iter, ifs, 0⟩] scope gpos) X.env) :: backTo pos (starEach [] X.env))) _ _ s
  refine Calls.spliced_cons (gen_make hr hN TB hcode ok hco hcell h0 hi hs I h fun J H2 sc s5 a gn it fp tn cenv go hR G => ?_)
  obtain ⟨W, ⟨m, hml, w0⟩, turn⟩ := hR
  refine Calls.spliced_nil ?_
  refine call_tuple_G (Qe := fun acc s' => ∃ ys H, Vals ys acc.toList ∧ ys.length ≤ sizeLine ∧ Inv X pins σ H s' ∧ ∀ p, H p = none → Q (.ref p) (upd H p (.tup ys))) (G.gen _ G.at_) (fun s' acc ⟨ys, H, r, hl, _⟩ => ?_) (fun S s2 c R hS os2 gs2 k2 hS2 hR => ?_) fun s' acc ⟨ys, H, r, hl, J1, q⟩ => ?_
  · have e1 := r.length
    have e2 : acc.toList.length = acc.size := by simp
    omega
  · subst hS
    have hSa : s5.heap.objs.size ≠ a := Nat.ne_of_gt G.la
    have hcl : cStatics < s5.heap.objs.size := let ⟨_, hn, _⟩ := G.nolim; hn.lt
    have hSf : s5.heap.objs.size ∉ fp := fun z => by
      have h1 := (G.fok _ z).2
      have h2 : sc.heap.objs.size < s5.heap.objs.size := Nat.lt_trans G.lc G.la
      exact Nat.lt_irrefl _ (Nat.lt_trans h1 h2)
    have hap : Apart (gblk X (Ag X.A.in1.in1.in1.in1 (.GeneratorExp elt [⟨tg, iter, ifs, 0⟩] scope gpos) it cenv) sc H2 scope cenv fp [(a, go)]) s5.heap.objs.size := by
      have hlt : sc.heap.objs.size < s5.heap.objs.size := Nat.lt_trans G.lc G.la
      refine ⟨Nat.le_of_lt hlt, ?_, fun x cc e z => ?_⟩
      · show _ ≠ cenv.locals
        rw [G.loc]
        exact Nat.ne_of_gt hlt
      · have J2 := G.blk (Ag X.A.in1.in1.in1.in1 (.GeneratorExp elt [⟨tg, iter, ifs, 0⟩] scope gpos) it cenv) s5 hr.hd (by
          obtain ⟨cl, C, code, bi, ec⟩ := G.env
          exact Ag_frames I.ok.frames) (fun b o e => e) G.os G.bare
        obtain ⟨v, q⟩ := J2.cell x cc e
        have := q.lt
        rw [z] at this
        exact Nat.lt_irrefl _ this
    refine ext_loop (XB := gblk X (Ag X.A.in1.in1.in1.in1 (.GeneratorExp elt [⟨tg, iter, ifs, 0⟩] scope gpos) it cenv) sc H2 scope cenv fp [(a, go)]) (N := m + 1) (σ0 := wipe σ (own.map (·.2))) (Qs := fun ys H => ∀ p, H p = none → Q (.ref p) (upd H p (.tup ys)))
      (A := X.A.in1.in1) (S := s5.heap.objs.size) hr.hd hr.depth rfl G.gen hSa (Nat.ne_of_gt hcl) hml (fun ys acc c H s1 s' r hl J1 q os hb kp => ?_) (m + 1) s2 (G.gen _ (k2 _ _ G.at_)) (G.nolim.keeps k2) ⟨_, (show s2.gens[gn]? = s5.gens[gn]? by rw [gs2]).trans G.gs, rfl, ?_⟩
    · have hS1 : s1.heap.get? s5.heap.objs.size = some (lstObj acc c) := (J1.pin (s5.heap.objs.size, lstObj acc c) (List.mem_append_right _ (by simp))).1
      exact hR acc c s' (kp _ _ hS1) ⟨ys, H, r, by omega, G.leave J1 os hb kp, q⟩
    · have ap1 : ∀ (ys : List V) (pn : List (Addr × Obj)), PnS s5.heap.objs.size ys pn → ∀ p ∈ pn, p.1 ∉ fp := fun ys pn ⟨acc, c', _, e⟩ p hp => by
        subst e
        have e : p = (s5.heap.objs.size, lstObj acc c') := by simpa using hp
        subst e
        exact hSf
      have ap2 : ∀ p ∈ (gblk X (Ag X.A.in1.in1.in1.in1 (.GeneratorExp elt [⟨tg, iter, ifs, 0⟩] scope gpos) it cenv) sc H2 scope cenv fp [(a, go)]).pn, p.1 ≠ s5.heap.objs.size := fun p hp z => by
        have hp : p ∈ [(a, go)] := hp
        have e : p = (a, go) := by simpa using hp
        subst e
        exact hSa z.symm
      have ap3 : ∀ p ∈ [(s5.heap.objs.size, lstObj #[] c)], (s2.setGen gn .running).heap.get? p.1 = some p.2 ∧ s5.heap.objs.size ≤ p.1 ∧ ∀ v, p.2.data ≠ .cell v := fun p hp => by
        have e : p = (s5.heap.objs.size, lstObj #[] c) := by simpa using hp
        subst e
        exact ⟨hS2, Nat.le_refl _, fun v z => by cases z⟩
      exact G.goes (pn := [(s5.heap.objs.size, lstObj #[] c)]) (W := W) hc hr1 I.ok.frames hco (wipe_wipe σ _) hg ht he ap1 (wakeS ap2 hSf hap) turn w0 (Nat.lt_succ_self m) ⟨#[], c, .nil, rfl⟩ k2 (os2.trans G.os) (allBare_setGen (s := s2) (by rw [gs2]; exact G.bare) rfl) ap3
  · have hf : H s'.heap.objs.size = none := J1.hok.fresh (Nat.le_refl _)
    refine ⟨.ref s'.heap.objs.size, upd H s'.heap.objs.size (.tup ys), J1.laid (t' := s'.toks) (fun b u e => Heap.get?_push_of_some _ e) (Nat.le_refl _) ?_, rfl, q _ hf⟩
    exact ⟨hl, acc.toList, r, ⟨_, Heap.get?_push_size _ rfl, rfl, 0, by simp⟩⟩
end
/-! ### over a walk -/
section
variable {J : It} {n : Nat} {G : Hp → Prop} {Y : Nat → Hp → V → Hp → Prop}
theorem flag_it (w : Walk J n G Y) {d : Bool} {g : TG} {tt : TT} {te : TE} {vs : List Nat} {σ : L2.St} {H2 : Hp} {Q : VK} (Pv : Nat → Hp → Prop) (h0 : Pv 0 H2) (hG : ∀ i H, i ≤ n → Pv i H → G H)
    (hs : ∀ i x H H', i < n → Pv i H → Y i H x H' → g x (wipe σ vs) H' fun σ2 H2 => wipe σ2 vs = wipe σ vs ∧ tt σ2 H2 fun b H3 => if b = true then te σ2 H3 fun y H4 => (∃ k, y = .bl k ∧ (k = (!d) → Q (.bl (!d)) H4)) ∧ (y = .bl d → Pv (i + 1) H4) else Pv (i + 1) H3)
    (hd : ∀ H, Pv n H → Q (.bl d) H) :
    ∃ W : Nat → Nat → Hp → Prop, (∃ m, W 0 m H2) ∧ ∀ i m H, W i m H → (J.stop i H ∧ Q (.bl d) H) ∨ (J.go i H ∧ ∃ Nx : Hp → Prop, (∀ H', Nx H' → ∃ m', m' < m ∧ W (i + 1) m' H') ∧ ∀ x H', J.yld i H x H' → g x (wipe σ vs) H' fun σ2 H2 =>
      wipe σ2 vs = wipe σ vs ∧ tt σ2 H2 fun b H3 => if b = true then te σ2 H3 fun y H4 => (∃ k, y = .bl k ∧ (k = (!d) → Q (.bl (!d)) H4)) ∧ (y = .bl d → Nx H4) else Nx H3) := by
  refine ⟨fun i m H => m = n - i ∧ i ≤ n ∧ Pv i H, ⟨n, by simp, Nat.zero_le _, h0⟩, ?_⟩
  rintro i m H ⟨rfl, hi, p⟩
  have q := hG i H hi p
  by_cases hlt : i < n
  · exact .inr ⟨w.goes i H hlt q, Pv (i + 1), fun H' p' => ⟨n - (i + 1), by omega, rfl, hlt, p'⟩, fun x H' y => hs i x H H' hlt p (w.yields i H x H' hlt q y)⟩
  · have e : i = n := by omega
    subst e
    exact .inl ⟨w.stops H q, hd H p⟩
theorem tup_it (w : Walk J n G Y) (hn : n < sizeLine) {g : TG} {tt : TT} {te : TE} {vs : List Nat} {σ : L2.St} {H2 : Hp} {Q : VK} (Pv : Nat → List V → Hp → Prop) (h0 : Pv 0 [] H2) (hG : ∀ i ys H, i ≤ n → Pv i ys H → G H)
    (hs : ∀ i x ys H H', i < n → Pv i ys H → Y i H x H' → g x (wipe σ vs) H' fun σ2 H2 => wipe σ2 vs = wipe σ vs ∧ tt σ2 H2 fun b H3 => if b = true then te σ2 H3 fun y H4 => True ∧ (True → Pv (i + 1) (ys ++ [y]) H4) else Pv (i + 1) ys H3)
    (hd : ∀ ys H, Pv n ys H → ∀ p, H p = none → Q (.ref p) (upd H p (.tup ys))) :
    ∃ W : Nat → Nat → List V → Hp → Prop, (∃ m, m < sizeLine ∧ W 0 m [] H2) ∧ ∀ i m ys H, W i m ys H → (J.stop i H ∧ ∀ p, H p = none → Q (.ref p) (upd H p (.tup ys))) ∨ (J.go i H ∧ ∃ Nx : List V → Hp → Prop, (∀ ys' H', Nx ys' H' → ∃ m', m' < m ∧ W (i + 1) m' ys' H') ∧
      ∀ x H', J.yld i H x H' → g x (wipe σ vs) H' fun σ2 H2 => wipe σ2 vs = wipe σ vs ∧ tt σ2 H2 fun b H3 => if b = true then te σ2 H3 fun y H4 => True ∧ (True → Nx (ys ++ [y]) H4) else Nx ys H3) := by
  refine ⟨fun i m ys H => m = n - i ∧ i ≤ n ∧ Pv i ys H, ⟨n, hn, by simp, Nat.zero_le _, h0⟩, ?_⟩
  rintro i m ys H ⟨rfl, hi, p⟩
  have q := hG i ys H hi p
  by_cases hlt : i < n
  · exact .inr ⟨w.goes i H hlt q, Pv (i + 1), fun ys' H' p' => ⟨n - (i + 1), by omega, rfl, hlt, p'⟩, fun x H' y => hs i x ys H H' hlt p (w.yields i H x H' hlt q y)⟩
  · have e : i = n := by omega
    subst e
    exact .inl ⟨w.stops H q, hd ys H p⟩
end
end GX
set_option maxHeartbeats 4000000
/-! defs whose around's guards are known (repr of a tuple asks them), and the end of a law over such -/
namespace GX
open PySem PySem.Spec PyProof.Rows L2 GenW
/-- a promise kept where nothing is being shown -/
structure FnG (P : Program) (w : World) (K : PySem.W.Frag) (mg : Str → Option Value) (base : Heap) (CX : CXT) (k : Nat) (f : Addr) (fd : FuncData) (ps : List Str) (sp : Sp) : Prop where
  len : ∀ vs H Q E, sp vs H Q E → vs.length = ps.length
  run : ∀ (A : Around) (outer : List Env) (s : Shared) (H : Hp) (args : Args) (us : List Value) (vs : List V) (Q : VK) (E : XK), Room k A → A.guards = some [] → Env0 P w K mg base A outer s H → BindsTo s fd args (ps.zip us) → Vals vs us → sp vs H Q E →
    codeAny (model P w) A (.call (.ref f) args) (CR CX outer P w H s Q E) s
theorem fnG_of {CX : CXT} {P : Program} {w : World} {K : PySem.W.Frag} {mg : Str → Option Value} {base : Heap} {k : Nat} {f : Addr} {name qual : Str} {params : Arguments} {body : List Stmt} {scope : Scope} {dV kV doc pm cdv ct oc : Value} {an od : Option Addr}
    {osl : Array (Option Value)} {N ps : List Str} {sp : Sp} (lk : K.lookup f = some ⟨oc, od, .func (PySem.W.fnOf name qual params body scope dV kV doc pm an cdv ct), osl⟩) (hcd : PySem.W.codeIn K cdv qual = true) (S : FnScope N ps scope)
    (len : ∀ vs H Q E, sp vs H Q E → vs.length = ps.length)
    (hbody : ∀ (A : Around) (outer : List Env) (s : Shared) (H : Hp) (vs : List V) (Q : VK) (E : XK), Room k (A.deeper (envOfC qual scope s.heap.objs.size f cdv)) → (A.deeper (envOfC qual scope s.heap.objs.size f cdv)).guards = some [] → sp vs H Q E →
      ∃ t, PSs (cxOf CX P w K mg base N qual scope f cdv A outer s H E) body t ∧ t { nx := fun _ H' => Q .non H', rt := Q } (start N vs) H) :
    FnG P w K mg base CX (k + 1) f (PySem.W.fnOf name qual params body scope dV kV doc pm an cdv ct) ps sp := by
  refine ⟨len, fun A outer s H args us vs Q E hr hgd e0 hb r hsp => ?_⟩
  have hl := len _ _ _ _ hsp
  have KX : K.In s.heap := e0.mod.kin.keeps fun b o e => (e0.bs b o e).1
  have lim : s.heap.NoLimit := e0.mod.nolimit.keeps fun b o e => (e0.bs b o e).1
  have hkind : ∀ y ∈ ps.zip us, scope.names.lookup y.1 = some .local ∨ (scope.names.lookup y.1 = some .cell ∧ ((cellsFrom (s.heap.objs.size + 1) scope.names []).lookup y.1).isSome = true) := fun ⟨n, v⟩ hy => by
    rcases S.par n (List.of_mem_zip hy).1 with q | q
    · exact .inl q
    · exact .inr ⟨q, PySem.W.cellsFrom_some _ _ _ (.inl q)⟩
  refine codeAny_call_function hr.depth (KX _ _ lk) rfl S.co S.gen rfl (PySem.W.codeRec_of KX hcd) (hb _ _ _ _ ?_)
  refine wpAny_newFunctionEnv_cells S.kind hkind fun env he s1 x => ?_
  subst he
  refine ⟨lim.keeps x.toInCall.keep, codeAny_func ?_⟩
  have hgd2 : (A.deeper (envOfC qual scope s.heap.objs.size f cdv)).guards = some [] := by
    first
      | exact hgd
      | (unfold Around.deeper; exact hgd)
      | (simp only [Around.deeper, hgd]; rfl)
  obtain ⟨t, ht, hq⟩ := hbody A outer s H vs Q E (hr.deeper _) hgd2 hsp
  have I : Inv (cxOf CX P w K mg base N qual scope f cdv A outer s H E) [] (start N vs) H s1 := inv_start S hr.hd e0 hl r x
  refine wpAny_mono (ht.run [] s1 (start N vs) H _ I hq) (fun fl s' hs => ?_) fun e s' hs => hs
  have fin : ∀ {σ' : L2.St} {H' : Hp} {v : V} {u : Value}, Inv (cxOf CX P w K mg base N qual scope f cdv A outer s H E) [] σ' H' s' → RelV v u → Q v H' → CE outer P w H s Q u s' :=
    fun {σ' H' v u} J rv q => ⟨v, H', J.os, J.bare, J.base, J.hok, rv, q⟩
  cases fl with
  | ret u =>
    obtain ⟨v, σ', H', J, rv, q⟩ := hs
    exact fin J rv q
  | next =>
    obtain ⟨σ', H', J, q⟩ := hs
    exact fin (v := V.non) (u := Value.none) J rfl q
  | brk =>
    obtain ⟨_, _, _, q⟩ := hs
    exact False.elim q
  | cont =>
    obtain ⟨_, _, _, q⟩ := hs
    exact False.elim q
/-- a def of the text, its code object told -/
structure FunC (K : PySem.W.Frag) (x qual : Str) (st : Stmt) (f : Addr) (fd : FuncData) (cdv : Value) : Prop where
  ex : ∃ (oc : Value) (od : Option Addr) (kV doc pm : Value) (an : Option Addr) (ct : Value) (osl : Array (Option Value)),
    fd = PySem.W.fnOf x qual (defArgs st) (defBody st) (defScope st) .none kV doc pm an cdv ct ∧ K.lookup f = some ⟨oc, od, .func fd, osl⟩ ∧ PySem.W.codeIn K cdv qual = true
  kp : PySem.W.keepIn K (.ref f) = true
theorem funC_mk {K : PySem.W.Frag} {x qual : Str} {st : Stmt} {f : Addr} {oc : Value} {od an : Option Addr} {osl : Array (Option Value)} {kV doc pm cdv ct : Value} (l : K.lookup f = some ⟨oc, od, .func (PySem.W.fnOf x qual (defArgs st) (defBody st) (defScope st) .none kV doc pm an cdv ct), osl⟩)
    (c : PySem.W.codeIn K cdv qual = true) (k : PySem.W.keepIn K (.ref f) = true) : FunC K x qual st f (PySem.W.fnOf x qual (defArgs st) (defBody st) (defScope st) .none kV doc pm an cdv ct) cdv := ⟨⟨oc, od, kV, doc, pm, an, ct, osl, rfl, l, c⟩, k⟩
section
variable {P : Program} {w : World} {K : PySem.W.Frag} {mg : Str → Option Value} {base : Heap} {x qual : Str} {st : Stmt} {f : Addr} {fd : FuncData} {N ps : List Str} {k : Nat} {sp : Sp} {cdv : Value} {CX : CXT}
theorem FunC.fn (F : FunC K x qual st f fd cdv) : Fun K x qual st f fd := by
  obtain ⟨oc, od, kV, doc, pm, an, ct, osl, e, lk, hcd⟩ := F.ex
  exact ⟨⟨oc, od, kV, doc, pm, an, cdv, ct, osl, e, lk, hcd⟩, F.kp⟩
theorem FunC.okC (F : FunC K x qual st f fd cdv) (S : FnScope N ps (defScope st)) (len : ∀ vs H Q E, sp vs H Q E → vs.length = ps.length)
    (hbody : ∀ (A : Around) (outer : List Env) (s : Shared) (H : Hp) (vs : List V) (Q : VK) (E : XK), Room k (A.deeper (envOfC qual (defScope st) s.heap.objs.size f cdv)) → sp vs H Q E →
      ∃ t, PSs (cxOf CX P w K mg base N qual (defScope st) f cdv A outer s H E).nox (defBody st) t ∧ t { nx := fun _ H' => Q .non H', rt := Q } (start N vs) H) : FnOk P w K mg base CX (k + 1) f fd ps sp := by
  obtain ⟨oc, od, kV, doc, pm, an, ct, osl, rfl, lk, hcd⟩ := F.ex
  refine fn_of lk hcd S len fun A outer s H vs Q E hr hsp => ?_
  obtain ⟨t, h, q⟩ := hbody A outer s H vs Q E hr hsp
  exact ⟨t, h.nox, q⟩
theorem FunC.okG (F : FunC K x qual st f fd cdv) (S : FnScope N ps (defScope st)) (len : ∀ vs H Q E, sp vs H Q E → vs.length = ps.length)
    (hbody : ∀ (A : Around) (outer : List Env) (s : Shared) (H : Hp) (vs : List V) (Q : VK) (E : XK), Room k (A.deeper (envOfC qual (defScope st) s.heap.objs.size f cdv)) → (A.deeper (envOfC qual (defScope st) s.heap.objs.size f cdv)).guards = some [] → sp vs H Q E →
      ∃ t, PSs (cxOf CX P w K mg base N qual (defScope st) f cdv A outer s H E).nox (defBody st) t ∧ t { nx := fun _ H' => Q .non H', rt := Q } (start N vs) H) : FnG P w K mg base CX (k + 1) f fd ps sp := by
  obtain ⟨oc, od, kV, doc, pm, an, ct, osl, rfl, lk, hcd⟩ := F.ex
  refine fnG_of lk hcd S len fun A outer s H vs Q E hr hg hsp => ?_
  obtain ⟨t, h, q⟩ := hbody A outer s H vs Q E hr hg hsp
  exact ⟨t, h.nox, q⟩
end
/-- a def by its name, kept where nothing is being shown -/
structure DkG (P : Program) (w : World) (K : PySem.W.Frag) (mg : Str → Option Value) (base : Heap) (k : Nat) (x : Str) (ps : List Str) (sp : Sp) where
  f : Addr
  fd : FuncData
  G : FnG P w K mg base CX0 k f fd ps sp
  gm : mg x = some (.ref f)
  kp : PySem.W.keepIn K (.ref f) = true
  b : Binds K fd ps []
section
variable {X : Cx} {k : Nat} {x : Str} {ps : List Str} {sp : Sp} {p pos : Pos} {e : Expr} {es : List Expr} {t : TA}
theorem pe_dkG (d : DkG X.prog X.w X.K X.mg X.base k x ps sp) (hr : Room k X.A) (hgd : X.A.guards = some []) (hg : Gl X x) (ha : PA X (e :: es) t) (hdb : (x == ("__debug__" : Str)) = false := by decide)
    (he : starEach (e :: es) X.env = (false, eval e X.env) :: starEach es X.env := by rfl) (hpl : (backTo pos (starEach es X.env)).any (·.1) = false := by rfl) :
    PE X (.Call (.Name x p) (e :: es) [] pos) (tCall sp [] E0 t) := by
  refine ⟨fun pins s σ H Q I h => ?_⟩
  refine wpAny_Call_Name_kw (ld_glob I hg d.gm ?_ hdb)
  refine PySem.W.callWith_K (h₀ := X.base) I.ok.mod.kin d.kp (thn (ha.run pos pins s σ H _ I h) fun us s1 ⟨vs, H1, I1, r, q⟩ => ⟨I1.kIn, ?_⟩) he hpl
  have r2 : Vals (vs ++ []) (us ++ []) := r.append .nil
  have hl : (us ++ []).length = ps.length := by rw [← r2.length]; exact d.G.len _ _ _ _ q
  refine wpAny_call (codeAny_mono (d.G.run X.A X.stack s1 H1 ⟨us, []⟩ (us ++ []) (vs ++ []) Q E0 hr hgd I1.env0 (d.b s1 us I1.kIn hl) r2 q) fun r s' hq => ?_)
  cases r with
  | error e => exact (pass0 pins σ H1 s1 e s' I1 hq)
  | ok fl =>
    cases fl with
    | ret u => exact I1.after hq
    | next => exact False.elim hq
    | brk => exact False.elim hq
    | cont => exact False.elim hq
/-- a def that may raise, called where it doesn't -/
structure DkX (P : Program) (w : World) (K : PySem.W.Frag) (mg : Str → Option Value) (base : Heap) (k : Nat) (x : Str) (ps : List Str) (sp : Sp) where
  f : Addr
  fd : FuncData
  G : FnOk P w K mg base (L2.CX P w) k f fd ps sp
  gm : mg x = some (.ref f)
  kp : PySem.W.keepIn K (.ref f) = true
  b : Binds K fd ps []
theorem pe_dkX (d : DkX X.prog X.w X.K X.mg X.base k x ps sp) (hr : Room k X.A) (hg : Gl X x) (ha : PA X (e :: es) t) (hdb : (x == ("__debug__" : Str)) = false := by decide)
    (he : starEach (e :: es) X.env = (false, eval e X.env) :: starEach es X.env := by rfl) (hpl : (backTo pos (starEach es X.env)).any (·.1) = false := by rfl) :
    PE X (.Call (.Name x p) (e :: es) [] pos) (tCall sp [] E0 t) := pe_call d.G hr hg d.gm d.kp d.b .nil passL ha hdb he hpl
end
end GX
set_option maxHeartbeats 4000000
namespace GX
open PySem PySem.Spec PyProof.Rows L2 GenW
theorem law_callG {P : Program} {w : World} {K : PySem.W.Frag} {mg mb : Str → Option Value} {CX : CXT} {k : Nat} {fa a : Addr} {cs : List (Addr × Addr)} {fd : FuncData} {x : Str} {sp : Sp} {s₁ : Shared} {vs : List Value} {ns : List Int}
    (KX : K.In s₁.heap) (hns : s₁.heap.Ns mainGlobals mg) (hb : s₁.heap.Ns builtinsNs mb) (hbb : ∀ x : Str, x ≠ "__name__" → mb x = bootBuiltins x) (hlim : s₁.heap.NoLimit) (hg : s₁.gens = #[])
    (hT : ∀ p ∈ cs, s₁.heap.get? p.2 = some { cls := .none, data := .fields #[] }) (nT : ∀ p ∈ cs, K.lookup p.2 = none) (C : ∀ p ∈ cs, PySem.W.CodeHd s₁.heap p.1 p.2)
    (hbm : ∃ (bm : Addr) (ob : Obj), mg "__builtins__" = some (.ref bm) ∧ bm ≠ builtinsNs ∧ s₁.heap.get? bm = some ob ∧ ob.cls = .type "module" ∧ ob.dict = some builtinsNs ∧ ob.data = .plain)
    (ha : s₁.heap.get? a = some { cls := .type "list", data := .seq vs.toArray }) (hi : IntsAre vs ns) (hl : ns.length ≤ sizeLine) (hr : Room k callerA)
    (F : ∀ base : Heap, K.In base → base.Ns mainGlobals mg → (∀ p ∈ cs, GxR.TabB base mg p.1 p.2) → FnG P w K mg base CX k fa fd [x] sp) (hbind : ∀ (s : Shared) (u : Value), BindsTo s fd ⟨[u], []⟩ [(x, u)])
    (hsp : ∀ H : Hp, (∀ p ∈ cs, H p.2 = some (.tbl #[])) → SqL K H a (ns.map V.int) → sp [.ref a] H (fun v _ => v = .bl true) fun _ _ _ => False)
    (hCX : ∀ H e s', CX [] H s₁ (fun _ _ _ => False) e s' → False) :
    codeAny (model P w) callerA (.call (.ref fa) ⟨[.ref a], []⟩) (fun r s' => r = .ok (.ret (.bool true)) ∧ OldK s₁.heap s'.heap ∧ s'.os = s₁.os ∧ AllBare s'.gens) s₁ := by
  have rv := vals_ints hi
  have lenV := hi.length
  have isT : ∀ b : Addr, b ∈ cs.map (·.2) → s₁.heap.get? b = some { cls := .none, data := .fields #[] } := fun b hb => by
    obtain ⟨p, hp, e⟩ := List.mem_map.mp hb
    rw [← e]
    exact hT p hp
  have aT : a ∉ cs.map (·.2) := fun z => by
    have q := isT a z
    rw [ha] at q
    have z' : Data.seq vs.toArray _ = Data.fields #[] := congrArg Obj.data (Option.some.inj q)
    cases z'
  have memT : ∀ p ∈ cs, p.2 ∈ cs.map (·.2) := fun p hp => List.mem_map.mpr ⟨p, hp, rfl⟩
  -- from an abstract heap in which nothing but the script and the tables may be tracked
  have core : ∀ H : Hp, (∀ p ∈ cs, H p.2 = some (.tbl #[])) → (∀ b, H b = none ∨ b ∈ cs.map (·.2) ∨ ∃ o xs, H b = some (.frz o (.lst xs))) → SqL K H a (ns.map V.int) → HOk P w H s₁.heap → (∀ b, H b ≠ none → b = a ∨ b ∈ cs.map (·.2)) → (H a ≠ none → K.lookup a = none) →
      codeAny (model P w) callerA (.call (.ref fa) ⟨[.ref a], []⟩) (fun r s' => r = .ok (.ret (.bool true)) ∧ OldK s₁.heap s'.heap ∧ s'.os = s₁.os ∧ AllBare s'.gens) s₁ := by
    intro H hH hO hS hok hA hK
    have base_of : ∀ {b : Addr} {o : Obj}, s₁.heap.get? b = some o → H b = none → (hidT s₁.heap H).get? b = some o := fun e n => hidT_get e n
    have noD : ∀ {b : Addr} {o : Obj}, s₁.heap.get? b = some o → (∀ vs n, o.data ≠ .seq vs n) → o.data ≠ .fields #[] → H b = none := fun {b o} e h1 h2 => by
      cases q : H b with
      | none => rfl
      | some u =>
        rcases hA b (by rw [q]; simp) with e' | e'
        · rw [e', ha] at e
          cases e
          exact (h1 _ _ rfl).elim
        · rw [isT b e'] at e
          cases e
          exact (h2 rfl).elim
    have noA : ∀ {b : Addr} {o : Obj} {es : Array DictEntry} {ep : Nat}, s₁.heap.get? b = some o → o.data = .dict es ep → H b = none := fun {b o es ep} e d => by
      refine noD e (fun vs n z => ?_) fun z => ?_
      · rw [d] at z
        cases z
      · rw [d] at z
        cases z
    have nsK : ∀ {b : Addr} {m : Str → Option Value}, s₁.heap.Ns b m → (hidT s₁.heap H).Ns b m := fun {b m} ⟨o, es, ep, e, d, r⟩ => ⟨o, es, ep, base_of e (noA e d), d, r⟩
    have hKb : K.In (hidT s₁.heap H) := fun b o e => base_of (KX b o e) (by
      cases q : H b with
      | none => rfl
      | some u =>
        rcases hA b (by rw [q]; simp) with e' | e'
        · rw [e'] at e q
          rw [hK (by rw [q]; simp)] at e
          cases e
        · obtain ⟨p, hp, ep⟩ := List.mem_map.mp e'
          rw [← ep, nT p hp] at e
          cases e)
    have hM : L2.Mod K mg (hidT s₁.heap H) := ⟨hKb, nsK hns, ⟨mb, nsK hb, hbb⟩, let ⟨mc, h1, h2⟩ := hlim; ⟨mc, nsK h1, h2⟩⟩
    have TB : ∀ p ∈ cs, GxR.TabB (hidT s₁.heap H) mg p.1 p.2 := fun p hp => by
      have hTp := hT p hp
      refine ⟨?_, ?_, fun z => ?_⟩
      · obtain ⟨o, us, file, tf, flags, tg, inF, text, tt, e1, r1, r2, r3, r4, r5, r6, r7, r8, hne⟩ := C p hp
        refine ⟨o, us, file, tf, flags, tg, inF, text, tt, base_of e1 (noD e1 (fun vs n z => ?_) fun z => ?_), r1, r2, r3, r4, r5, r6, r7, r8, hne⟩
        · rw [r2] at z
          cases z
        · rw [r2] at z
          cases z
          simp at r3
      · obtain ⟨bm, ob, b1, b2, b3, b4, b5, b6⟩ := hbm
        have nG : bm ≠ mainGlobals := fun q => by
          obtain ⟨o, es, ep, e, hd, _⟩ := hns
          rw [q, e] at b3
          cases b3
          rw [hd] at b6
          cases b6
        have nP : bm ≠ p.2 := fun q => by
          rw [q, hTp] at b3
          cases b3
          cases b6
        refine ⟨bm, ob, b1, b2, nG, nP, base_of b3 (noD b3 (fun vs n z => ?_) fun z => ?_), b4, b5, b6⟩
        · rw [b6] at z
          cases z
        · rw [b6] at z
          cases z
      · obtain ⟨o, es, ep, e, hd, _⟩ := hns
        rw [z, hTp] at e
        cases e
        cases hd
    have e0 : Env0 P w K mg (hidT s₁.heap H) callerA [] s₁ H := ⟨rfl, hM, fun b o e => of_hidT e, Nat.le_of_eq (hidT_size _ _), trivial, fun b hb => absurd (show b ∈ ([] : List Addr) from hb) (by simp), hok, .of_eq hg⟩
    refine codeAny_mono ((F _ hKb (nsK hns) TB).run callerA [] s₁ H ⟨[.ref a], []⟩ [.ref a] [.ref a] _ _ hr rfl e0 (hbind s₁ (.ref a)) (.cons rfl .nil) (hsp H hH hS)) fun r s' h => ?_
    cases r with
    | error e => exact (hCX H e s' h).elim
    | ok fl =>
      cases fl with
      | next => exact False.elim h
      | brk => exact False.elim h
      | cont => exact False.elim h
      | ret u =>
        obtain ⟨v, H', os, bare, un, hok', r', q⟩ := h
        have q' : v = .bl true := q
        subst q'
        obtain rfl : u = Value.bool true := r'
        have key : ∀ b o, b ∉ cs.map (·.2) → s₁.heap.get? b = some o → s'.heap.get? b = some o := fun b o nb e => by
          cases q : H b with
          | none => exact un.keep b o e q (by intro z; exact absurd (show b ∈ ([] : List Addr) from z) (by simp)) (by simp)
          | some u =>
            rcases hO b with z | z | ⟨ob, xs, z⟩
            · rw [q] at z; cases z
            · exact absurd z nb
            · have z2 := un.frzs b ob _ z
              obtain ⟨e1, _⟩ := hok b _ z
              obtain ⟨e2, _⟩ := hok' b _ z2
              rw [e] at e1; cases e1
              exact e2
        have grown : ∀ p ∈ cs, ∃ more : Array Value, s'.heap.get? p.2 = some { cls := .none, data := .fields more } := fun p hp => by
          obtain ⟨more, z⟩ := un.tbls p.2 #[] (hH p hp)
          exact ⟨_, hok' p.2 _ z⟩
        refine ⟨rfl, ⟨fun b o e => ?_, fun b o e => ?_⟩, os, bare⟩
        · by_cases hb : b ∈ cs.map (·.2)
          · obtain ⟨p, hp, ep⟩ := List.mem_map.mp hb
            obtain ⟨more, hm⟩ := grown p hp
            rw [← ep] at e ⊢
            rw [hT p hp] at e
            cases e
            exact .inr (.inl ⟨((C p hp).tab (hT p hp)).isCodeTable, rfl, #[], more, rfl, by rw [Array.empty_append]; exact hm⟩)
          · exact .inl (key b o hb e)
        · by_cases hb : b ∈ cs.map (·.2)
          · obtain ⟨p, hp, ep⟩ := List.mem_map.mp hb
            obtain ⟨more, hm⟩ := grown p hp
            rw [← ep]
            exact ⟨_, hm⟩
          · exact ⟨o, key b o hb e⟩
  cases hk : K.lookup a with
  | some o =>
    have e := KX a o hk
    rw [ha] at e
    cases e
    refine core (fun b => if b ∈ cs.map (·.2) then some (.tbl #[]) else none) (fun p hp => if_pos (memT p hp)) (fun b => ?_) (.inr ⟨_, vs.toArray, _, hk, rfl, rfl, rfl, by rw [List.size_toArray, lenV]; exact hl, by simpa using rv⟩) (fun b u z => ?_) (fun b z => ?_) fun z => absurd (show (if a ∈ cs.map (·.2) then some (HO.tbl #[]) else none) = none from if_neg aT) z
    · by_cases hb : b ∈ cs.map (·.2)
      · exact .inr (.inl hb)
      · exact .inl (if_neg hb)
    · by_cases hb : b ∈ cs.map (·.2)
      · have z' := (if_pos hb).symm.trans z
        cases z'
        exact isT b hb
      · have z' := (if_neg hb).symm.trans z
        cases z'
    · by_cases hb : b ∈ cs.map (·.2)
      · exact .inr hb
      · exact absurd (if_neg hb) z
  | none =>
    refine core (fun b => if b = a then some (.frz { cls := .type "list", data := .seq vs.toArray } (.lst (ns.map V.int))) else if b ∈ cs.map (·.2) then some (.tbl #[]) else none) (fun p hp => (if_neg (show ¬ p.2 = a from fun z => aT (by rw [← z]; exact memT p hp))).trans (if_pos (memT p hp))) (fun b => ?_)
      (.inl (.inr ⟨{ cls := .type "list", data := .seq vs.toArray }, if_pos rfl⟩)) (fun b u z => ?_) (fun b z => ?_) fun _ => hk
    · by_cases hb : b = a
      · exact .inr (.inr ⟨_, _, if_pos hb⟩)
      · by_cases hb2 : b ∈ cs.map (·.2)
        · exact .inr (.inl hb2)
        · exact .inl ((if_neg hb).trans (if_neg hb2))
    · by_cases hb : b = a
      · have z' := (if_pos hb).symm.trans z
        cases z'
        rw [hb]
        exact ⟨ha, by rw [List.length_map]; exact hl, vs, _, rv, ha⟩
      · have z1 := (if_neg hb).symm.trans z
        by_cases hb2 : b ∈ cs.map (·.2)
        · have z' := (if_pos hb2).symm.trans z1
          cases z'
          exact isT b hb2
        · have z' := (if_neg hb2).symm.trans z1
          cases z'
    · by_cases hb : b = a
      · exact .inl hb
      · by_cases hb2 : b ∈ cs.map (·.2)
        · exact .inr hb2
        · exact absurd ((if_neg hb).trans (if_neg hb2)) z
/-- what is known of the law's promise at the head's heap -/
def LawAtG (l : PySem.W.OpenLaw) (w : World) (K : PySem.W.Frag) (CX : CXT) (k n : Nat) (x : Str) (mg : Str → Option Value) (fa : Addr) (h : Heap) : Prop :=
  ∃ (fd : FuncData) (cs : List (Addr × Addr)) (sp : Sp), (∀ p ∈ cs, h.get? p.2 = some { cls := .none, data := .fields #[] }) ∧ (∀ p ∈ cs, K.lookup p.2 = none) ∧ (∀ p ∈ cs, PySem.W.CodeHd h p.1 p.2) ∧ (∀ (s : Shared) (u : Value), BindsTo s fd ⟨[u], []⟩ [(x, u)]) ∧
    (∀ (H : Hp) (a : Addr) (ns : List Int), ns.length ≤ n → (∀ p ∈ cs, H p.2 = some (.tbl #[])) → SqL K H a (ns.map V.int) → sp [.ref a] H (fun v _ => v = .bl true) fun _ _ _ => False) ∧
    ∀ base : Heap, K.In base → base.Ns mainGlobals mg → (∀ p ∈ cs, GxR.TabB base mg p.1 p.2) → FnG l.prog w K mg base CX k fa fd [x] sp
theorem walk_ofG {l : PySem.W.OpenLaw} {n k : Nat} {q : Program} {loose : List Str} {XP : (Str → Option Value) → Heap → Prop} {YP : World → Heap → Prop} {d : DefRec} {K : Params → PySem.W.Frag} {CX : World → CXT} {x : Str}
    (hn : l.most = some n) (hn2 : n ≤ sizeLine) (hdf : d.params.defaults = []) (hr : Room k callerA) (hY : ∀ (w : World) (h : Heap), YP w h → (K w.params).In h)
    (F : ∀ (w : World) (mg mb : Str → Option Value) (fa : Addr) (h : Heap) (lo : List Str) (mean : ExcName → Option Value), Top q lo mean mg mb h → (K w.params).In h → h.Ns mainGlobals mg → mg d.name = some (.ref fa) → LawAtG l w (K w.params) (CX w) k n x mg fa h)
    (hCX : ∀ (w : World) (H : Hp) (s : Shared) (e : Value) (s' : Shared), CX w [] H s (fun _ _ _ => False) e s' → False) :
    PySem.W.WalkO q loose XP YP l.row.toRowW d [] (fun f vs => PySem.call f vs) := by
  refine Att.attach_callB hn hdf fun w s₀ s₁ mg mb fa o pm cd doc a vs ns G Y ho hd hcd hmg hobj hints hlen hbits hg => ?_
  have KX := hY w _ Y
  obtain ⟨fd, cs, sp, hT, nT, C, hb, hsp, hF⟩ := F w mg mb fa _ _ _ G.T KX G.T.g hmg
  exact law_callG KX G.T.g G.T.b G.T.builtins G.T.nolimit hg hT nT C G.T.bmain hobj hints (Nat.le_trans hlen hn2) hr hF hb (fun H hH hS => hsp H a ns hlen hH hS) fun H e s' => hCX w H s₁ e s'
end GX
set_option maxHeartbeats 2000000
/-! data of none, ints, texts and tuples, and what is kept of it -/
namespace LD
open PySem PySem.Spec PyProof.Rows L2 GenW GX
/-- all but the tables of code objects is as it was -/
def Sm (H H' : Hp) : Prop := ∀ b o, H b = some o → (∀ ps, o ≠ .tbl ps) → H' b = some o
theorem Sm.refl (H : Hp) : Sm H H := fun _ _ h _ => h
theorem Sm.trans {H H1 H2 : Hp} (a : Sm H H1) (b : Sm H1 H2) : Sm H H2 := fun c o h n => b c o (a c o h n) n
theorem Sm.of {H H' : Hp} (e : Same H H') : Sm H H' := fun b o h _ => e b o h
theorem Sm.tab {P : Addr} {H H' : Hp} (t : GxR.Tabbed P H H') {ps : Array Value} (hP : H P = some (.tbl ps)) : Sm H H' := fun b o h n => by
  by_cases e : b = P
  · rw [e, hP] at h
    cases h
    exact absurd rfl (n ps)
  · rw [t.2 b e]
    exact h
theorem Sm.seq {K : PySem.W.Frag} {H H' : Hp} {a : Addr} {xs : List V} (e : Sm H H') (h : SqL K H a xs) : SqL K H' a xs := by
  rcases h with (h | ⟨o, h⟩) | h
  · exact .inl (.inl (e _ _ h (fun _ z => by cases z)))
  · exact .inl (.inr ⟨o, e _ _ h (fun _ z => by cases z)⟩)
  · exact .inr h
theorem Sm.seqT {K : PySem.W.Frag} {H H' : Hp} {a : Addr} {xs : List V} (e : Sm H H') (h : SqT K H a xs) : SqT K H' a xs := by
  rcases h with (h | ⟨o, h⟩) | h
  · exact .inl (.inl (e _ _ h (fun _ z => by cases z)))
  · exact .inl (.inr ⟨o, e _ _ h (fun _ z => by cases z)⟩)
  · exact .inr h
/-- the tables of Ts stand -/
def Tb (Ts : List Addr) (H : Hp) : Prop := ∀ P ∈ Ts, GxR.TabG H P
theorem Tb.same {Ts : List Addr} {H H' : Hp} (t : Tb Ts H) (e : Same H H') : Tb Ts H' := fun P hP => by
  obtain ⟨ps, h1, h2⟩ := t P hP
  exact ⟨ps, e _ _ h1, h2⟩
theorem Tb.tab {Ts : List Addr} {P : Addr} {H H' : Hp} (t : Tb Ts H) (e : GxR.Tabbed P H H') : Tb Ts H' := fun R hR => by
  by_cases z : R = P
  · rw [z]
    exact e.1
  · obtain ⟨ps, h1, h2⟩ := t R hR
    exact ⟨ps, by rw [e.2 R z]; exact h1, h2⟩
/-! ### data -/
mutual
inductive DT (K : PySem.W.Frag) (H : Hp) : V → PyData → Prop
  | non : DT K H .non .none
  | int (i : Int) : DT K H (.int i) (.int i)
  | str (x : Str) : DT K H (.str x) (.str x)
  | tup {a : Addr} {xs : List V} {ds : List PyData} : SqT K H a xs → DTs K H xs ds → DT K H (.ref a) (.tuple ds)
inductive DTs (K : PySem.W.Frag) (H : Hp) : List V → List PyData → Prop
  | nil : DTs K H [] []
  | cons {v : V} {vs : List V} {d : PyData} {ds : List PyData} : DT K H v d → DTs K H vs ds → DTs K H (v :: vs) (d :: ds)
end
section
variable {K : PySem.W.Frag} {H H' : Hp}
mutual
theorem DT.mono (e : ∀ a xs, SqT K H a xs → SqT K H' a xs) : ∀ {v : V} {d : PyData}, DT K H v d → DT K H' v d
  | _, _, .non => .non
  | _, _, .int i => .int i
  | _, _, .str x => .str x
  | _, _, .tup h hs => .tup (e _ _ h) (DTs.mono e hs)
theorem DTs.mono (e : ∀ a xs, SqT K H a xs → SqT K H' a xs) : ∀ {vs : List V} {ds : List PyData}, DTs K H vs ds → DTs K H' vs ds
  | _, _, .nil => .nil
  | _, _, .cons h hs => .cons (DT.mono e h) (DTs.mono e hs)
end
mutual
theorem DT.dp : ∀ {v : V} {d : PyData}, DT K H v d → Dp K H v d
  | _, _, .non => .non
  | _, _, .int i => .int i
  | _, _, .str x => .str x
  | _, _, .tup h hs => .tup h (DTs.dp hs)
theorem DTs.dp : ∀ {vs : List V} {ds : List PyData}, DTs K H vs ds → DpAll K H vs ds
  | _, _, .nil => .nil
  | _, _, .cons h hs => .cons (DT.dp h) (DTs.dp hs)
end
theorem DT.sm {v : V} {d : PyData} (h : DT K H v d) (e : Sm H H') : DT K H' v d := h.mono fun _ _ q => e.seqT q
theorem DTs.sm {v : List V} {d : List PyData} (h : DTs K H v d) (e : Sm H H') : DTs K H' v d := h.mono fun _ _ q => e.seqT q
theorem DTs.len : ∀ {vs : List V} {ds : List PyData}, DTs K H vs ds → vs.length = ds.length
  | _, _, .nil => rfl
  | _, _, .cons _ hs => congrArg Nat.succ (DTs.len hs)
theorem DTs.app : ∀ {vs ws : List V} {ds es : List PyData}, DTs K H vs ds → DTs K H ws es → DTs K H (vs ++ ws) (ds ++ es)
  | _, _, _, _, .nil, h => h
  | _, _, _, _, .cons h hs, g => .cons h (DTs.app hs g)
theorem DTs.take : ∀ {vs : List V} {ds : List PyData} (n : Nat), DTs K H vs ds → DTs K H (vs.take n) (ds.take n)
  | _, _, 0, _ => .nil
  | _, _, _ + 1, .nil => .nil
  | _, _, n + 1, .cons h hs => .cons h (DTs.take n hs)
theorem DTs.drop : ∀ {vs : List V} {ds : List PyData} (n : Nat), DTs K H vs ds → DTs K H (vs.drop n) (ds.drop n)
  | _, _, 0, h => h
  | _, _, _ + 1, .nil => .nil
  | _, _, n + 1, .cons _ hs => DTs.drop n hs
theorem DTs.get : ∀ {vs : List V} {ds : List PyData} {i : Nat} {v : V}, DTs K H vs ds → vs[i]? = some v → ∃ d, ds[i]? = some d ∧ DT K H v d
  | _, _, i, v, .nil, h => by simp at h
  | _, _, 0, v, .cons h hs, e => ⟨_, rfl, by cases e; exact h⟩
  | _ :: _, _ :: _, i + 1, v, .cons h hs, e => DTs.get (i := i) hs e
theorem DTs.ints (ns : List Int) : DTs K H (ns.map V.int) (ns.map PyData.int) := by
  induction ns with
  | nil => exact .nil
  | cons n ns ih => exact .cons (.int n) ih
/-- the type of data -/
def tyD : PyData → String
  | .none => "NoneType"
  | .bool _ => "bool"
  | .int _ => "int"
  | .str _ => "str"
  | .list _ => "list"
  | .tuple _ => "tuple"
  | .dict _ => "dict"
theorem tup_ty {a : Addr} {xs : List V} (h : SqT K H a xs) : TyX K H (.ref a) (.type "tuple") := by
  rcases h with (h | ⟨o, h⟩) | ⟨_, _, _, hk, hc, _⟩
  · exact .base (.tup h)
  · exact .fTuple h
  · exact .kTuple hk hc
theorem DT.ty {v : V} {d : PyData} (h : DT K H v d) : TyX K H v (.type (tyD d)) := by
  cases h with
  | non => exact .base .non
  | int i => exact .base (.int i)
  | str x => exact .base (.str x)
  | tup h _ => exact tup_ty h
def isTup : PyData → Bool
  | .tuple _ => true
  | _ => false
theorem kit_tup (d : PyData) : PySem.W.kitOne K (.type (tyD d)) (.type "tuple") = some (isTup d) := by
  cases d
  · exact kit_ty (a := "NoneType") (b := "tuple") (r := false) (by decide +kernel)
  · exact kit_ty (a := "bool") (b := "tuple") (r := false) (by decide +kernel)
  · exact kit_ty (a := "int") (b := "tuple") (r := false) (by decide +kernel)
  · exact kit_ty (a := "str") (b := "tuple") (r := false) (by decide +kernel)
  · exact kit_ty (a := "list") (b := "tuple") (r := false) (by decide +kernel)
  · exact kit_ty (a := "tuple") (b := "tuple") (r := true) (by decide +kernel)
  · exact kit_ty (a := "dict") (b := "tuple") (r := false) (by decide +kernel)
def isI : PyData → Bool
  | .int _ => true
  | .bool _ => true
  | _ => false
def isB : PyData → Bool
  | .bool _ => true
  | _ => false
theorem kit_int (d : PyData) : PySem.W.kitOne K (.type (tyD d)) (.type "int") = some (isI d) := by
  cases d
  · exact kit_ty (a := "NoneType") (b := "int") (r := false) (by decide +kernel)
  · exact kit_ty (a := "bool") (b := "int") (r := true) (by decide +kernel)
  · exact kit_ty (a := "int") (b := "int") (r := true) (by decide +kernel)
  · exact kit_ty (a := "str") (b := "int") (r := false) (by decide +kernel)
  · exact kit_ty (a := "list") (b := "int") (r := false) (by decide +kernel)
  · exact kit_ty (a := "tuple") (b := "int") (r := false) (by decide +kernel)
  · exact kit_ty (a := "dict") (b := "int") (r := false) (by decide +kernel)
theorem kit_bool (d : PyData) : PySem.W.kitOne K (.type (tyD d)) (.type "bool") = some (isB d) := by
  cases d
  · exact kit_ty (a := "NoneType") (b := "bool") (r := false) (by decide +kernel)
  · exact kit_ty (a := "bool") (b := "bool") (r := true) (by decide +kernel)
  · exact kit_ty (a := "int") (b := "bool") (r := false) (by decide +kernel)
  · exact kit_ty (a := "str") (b := "bool") (r := false) (by decide +kernel)
  · exact kit_ty (a := "list") (b := "bool") (r := false) (by decide +kernel)
  · exact kit_ty (a := "tuple") (b := "bool") (r := false) (by decide +kernel)
  · exact kit_ty (a := "dict") (b := "bool") (r := false) (by decide +kernel)
end
/-! ### rules in short -/
section
variable {X : Cx}
/-- t + u, whatever the two are -/
theorem op_catD : OpR X (binaryOp .Add) (fun x y H Q => ∃ a b xs ys, x = .ref a ∧ y = .ref b ∧ SqT X.K H a xs ∧ SqT X.K H b ys ∧ xs.length + ys.length ≤ sizeLine ∧ ∀ r H', Same H H' → SqT X.K H' r (xs ++ ys) → Q (.ref r) H') := by
  intro pins s σ H x y v u Q I rx ry h
  obtain ⟨a, b, xs, ys, e1, e2, ha, hb, hz, q⟩ := h
  refine op_catA pins s σ H x y v u Q I rx ry ⟨a, b, xs, ys, e1, e2, ha, hb, hz, fun z => q b H (Same.refl H) (by rw [z]; exact hb), fun _ z => q a H (Same.refl H) (by rw [z, List.append_nil]; exact ha), fun _ _ p hp => q p _ (fun c o e => ?_) (SqT.of upd_same)⟩
  rw [upd_ne (ne_of_none e hp)]
  exact e
/-- t[lo:hi] -/
theorem sl_tupD : SlR X (fun x lo hi H Q => ∃ a xs, x = .ref a ∧ SqT X.K H a xs ∧ ∀ r H', Same H H' → SqT X.K H' r (cutV xs lo hi) → Q (.ref r) H') := by
  intro pins s σ H x v vl vu lo hi sl Q I rx hs pl pu h
  obtain ⟨a, xs, e, hx, q⟩ := h
  refine sl_tupA pins s σ H x v vl vu lo hi sl Q I rx hs pl pu ⟨a, xs, e, hx, fun z => q a H (Same.refl H) ?_, fun _ p hp => q p _ (fun c o e => ?_) (SqT.of upd_same)⟩
  · unfold cutV
    rw [z.1, z.2, List.drop_zero, Nat.sub_zero, List.take_length]
    exact hx
  · rw [upd_ne (ne_of_none e hp)]
    exact e
theorem cut_to (xs : List V) (k : Nat) : cutV xs none (some (k : Int)) = xs.take k := by
  unfold cutV
  rw [HT.sIx_none, show HT.sIx xs.length xs.length (some (k : Int)) = min k xs.length from HT.sIx_nat xs.length _ k, List.drop_zero, Nat.sub_zero]
  by_cases h : k ≤ xs.length
  · rw [Nat.min_eq_left h]
  · rw [Nat.min_eq_right (by omega), List.take_length, List.take_of_length_le (by omega)]
theorem cut_from (xs : List V) (k : Nat) : cutV xs (some (k : Int)) none = xs.drop k := by
  unfold cutV
  rw [HT.sIx_none, show HT.sIx xs.length 0 (some (k : Int)) = min k xs.length from HT.sIx_nat xs.length _ k]
  by_cases h : k ≤ xs.length
  · rw [Nat.min_eq_left h, List.take_of_length_le (by rw [List.length_drop]; omega)]
  · rw [Nat.min_eq_right (by omega), List.drop_of_length_le (Nat.le_refl _), List.drop_of_length_le (by omega), List.take_nil]
/-- repr of a tuple -/
theorem call_reprD (hg : X.A.guards = some []) : CallR X (.builtin "repr") (fun xs H Q => ∃ a d, xs = [.ref a] ∧ DT X.K H (.ref a) d ∧ d.showable = true ∧ d.hasDict = false ∧ d.shown.length ≤ sizeLine ∧ X.A.units + (d.depth + 1) < cLine ∧ Q (.str d.shown) H) := by
  intro pins s σ H xs us Q I r h
  obtain ⟨a, d, rfl, hd, hs, hn, hl, hu, q⟩ := h
  obtain ⟨u, rfl, e⟩ := vals1 r
  cases e
  obtain ⟨as, rd⟩ := Dp.reads I d (.ref a) (.ref a) hd.dp rfl
  refine repr_of_reads' rd hs (fun z => by rw [hn] at z; cases z) hg hu (fun _ _ e => e) (fun h' t tk k => ?_) hl
  exact ⟨.str d.shown, H, I.kept k, ⟨t, rfl⟩, q⟩
end
end LD
set_option maxHeartbeats 4000000
/-! the tables of generator expressions stand, those of lambdas tell their own code objects only -/
namespace LD
open PySem PySem.Spec PyProof.Rows L2 LW
structure TB (Ts : List Addr) (Tl : List (Addr × Str)) (H : Hp) : Prop where
  tabs : Tb Ts H
  lams : LamX.Tabs Tl H
  dis : ∀ P ∈ Ts, ∀ p ∈ Tl, p.1 ≠ P
section
variable {Ts : List Addr} {Tl : List (Addr × Str)} {H H' : Hp} {P p : Addr}
theorem TB.at (t : TB Ts Tl H) (hP : P ∈ Ts) : GxR.TabG H P := t.tabs P hP
theorem TB.same (t : TB Ts Tl H) (e : Same H H') : TB Ts Tl H' := ⟨t.tabs.same e, t.lams.ext e, t.dis⟩
theorem TB.tab (t : TB Ts Tl H) (hP : P ∈ Ts) (e : GxR.Tabbed P H H') : TB Ts Tl H' := by
  refine ⟨t.tabs.tab e, fun q hq => ?_, t.dis⟩
  obtain ⟨ps, h1, h2, h3⟩ := t.lams q hq
  obtain ⟨pz, hz, _⟩ := t.tabs P hP
  refine ⟨ps, by rw [e.2 _ (t.dis P hP q hq)]; exact h1, h2, fun pos cv hc => ?_⟩
  obtain ⟨c, e1, e2⟩ := h3 pos cv hc
  exact ⟨c, e1, by rw [e.2 c (fun z => by rw [z, hz] at e2; cases e2)]; exact e2⟩
theorem TB.rl (t : TB Ts Tl H) (e : Rl p H H') (hp : Pl H p) : TB Ts Tl H' := by
  obtain ⟨x, y, _, _, _, hh⟩ := hp
  refine ⟨fun P hP => ?_, fun q hq => ?_, t.dis⟩
  · obtain ⟨ps, h1, h2⟩ := t.tabs P hP
    exact ⟨ps, e _ _ (fun z => by rw [z, hh] at h1; cases h1) h1, h2⟩
  · obtain ⟨ps, h1, h2, h3⟩ := t.lams q hq
    refine ⟨ps, e _ _ (fun z => by rw [z, hh] at h1; cases h1) h1, h2, fun pos cv hc => ?_⟩
    obtain ⟨c, e1, e2⟩ := h3 pos cv hc
    exact ⟨c, e1, e _ _ (fun z => by rw [z, hh] at e2; cases e2) e2⟩
end
end LD
set_option maxHeartbeats 4000000
/-! enumerate(tuple) walked; zip of tuples as a walk -/
namespace EN
open PySem PySem.Spec PyProof.Rows L2
theorem new_enum1 {v : Value} {o : Obj} {G : Heap → Prop} (B : Begins v o G) : Meets (Builtin.«enumerate.__new__» ⟨[.type "enumerate", v], []⟩) (fun _ R s => G s.heap ∧
    R (.ok (.ret (.ref (s.heap.objs.size + 1)))) { s with heap := (s.heap.push o).push { cls := .type "enumerate", data := .fields #[.none, .bool false, .ref s.heap.objs.size, rawInt 0, .none, .none] } }) := .of_wp fun prog w A R s hs => by
  obtain ⟨hp, g, d, tk, os⟩ := s
  obtain ⟨hG, hR⟩ := hs
  have sub0 := sub_enumerate
  have hz : (hp.push o).objs.size = hp.objs.size + 1 := Heap.size_push ..
  have it1 : ∀ {A' : Around} {E Q : Value → Shared → Prop}, Q (.ref hp.objs.size) ⟨hp.push o, g, d, tk, os⟩ → wpAny (model prog w) A' (pyIter v) Q E ⟨hp, g, d, tk, os⟩ := fun q => B.iter prog w _ _ ⟨hp, g, d, tk, os⟩ _ hG q
  have fin : R (.ok (.ret (.ref (hp.push o).objs.size))) ⟨(hp.push o).push { cls := .type "enumerate", data := .fields #[.none, .bool false, .ref hp.objs.size, rawInt 0, .none, .none] }, g, d, tk, os⟩ := by
    rw [hz]
    exact hR
  wp_walk using it1
  refine wpAny_stack_any fun st => wpAny_pure ?_
  split
  · rename_i c _ _ _ _ _
    cases (c == Value.type "enumerate") <;> (wp_walk using it1; exact ⟨_, rfl, fin⟩)
  · wp_walk using it1
    exact ⟨_, rfl, fin⟩
theorem call_enum1 {prog : Program} {w : World} {A : Around} {E : Value → Shared → Prop} {s : Shared} {v : Value} {o : Obj} {G : Heap → Prop} {Q : Value → Shared → Prop} (B : Begins v o G) (hG : G s.heap)
    (h : ∀ h', IsEnum h' (s.heap.objs.size + 1) s.heap.objs.size 0 .none → h'.get? s.heap.objs.size = some o → (∀ b ob, s.heap.get? b = some ob → h'.get? b = some ob) → Q (.ref (s.heap.objs.size + 1)) { s with heap := h' }) :
    wpAny (model prog w) A (call (.type "enumerate") [v]) Q E s := by
  refine callType_new F.called_enumerate (by decide) (F.typeCall_enumerate_1 _) (F.newCall_enumerate_1 _) (fun obj => F.args_object_init_2 obj _) F.entry_enumerate_new (new_enum1 B) ⟨hG, ?_⟩
  have hz : (s.heap.push o).objs.size = s.heap.objs.size + 1 := Heap.size_push ..
  have he : IsEnum ((s.heap.push o).push { cls := .type "enumerate", data := .fields #[.none, .bool false, .ref s.heap.objs.size, rawInt 0, .none, .none] }) (s.heap.objs.size + 1) s.heap.objs.size 0 .none := by
    have q := Heap.get?_push_size (s.heap.push o) (o := { cls := .type "enumerate", data := .fields #[.none, .bool false, .ref s.heap.objs.size, rawInt 0, .none, .none] }) rfl
    rw [hz] at q
    exact q
  exact ⟨⟨_, he, rfl⟩, h _ he (Heap.get?_push_of_some _ (Heap.get?_push_size _ B.free)) fun b ob x => Heap.get?_push_of_some _ (Heap.get?_push_of_some _ x)⟩
/-- the tuple at a, each item in a new pair behind its place -/
def IteT (K : PySem.W.Frag) (a : Addr) : It :=
  ⟨fun i H => ∃ (xs : List V) (x : V), SqT K H a xs ∧ xs[i]? = some x, fun i H v H' => ∃ T x, v = .ref T ∧ H T = none ∧ H' = upd H T (.tup [.int (i : Nat), x]) ∧ ∀ xs, SqT K H a xs → xs[i]? = some x, fun i H => ∃ xs : List V, SqT K H a xs ∧ xs.length = i⟩
theorem walk_enumT {K : PySem.W.Frag} {a : Addr} {xs : List V} : Walk (IteT K a) xs.length (fun H => SqT K H a xs) (YPair (fun i => some (.int (i : Nat))) (fun i => xs[i]?)) := by
  refine ⟨fun i _ hi q => ⟨xs, xs[i], q, by simp [hi]⟩, fun _ q => ⟨xs, q, rfl⟩, ?_⟩
  rintro i H v H' - q ⟨T, x, e1, e2, e3, e4⟩
  exact ⟨T, .int (i : Nat), x, e1, e2, e3, rfl, e4 xs q⟩
theorem walk_zipT {K : PySem.W.Frag} {a b : Addr} {xs ys : List V} {n : Nat} (hn : n = min xs.length ys.length) : Walk (RZ.ItzT K a b) n (fun H => SqT K H a xs ∧ SqT K H b ys) (YPair (fun i => xs[i]?) (fun i => ys[i]?)) := by
  subst hn
  constructor
  · intro i H hi q
    have h1 : i < xs.length := by omega
    have h2 : i < ys.length := by omega
    exact ⟨xs, ys, xs[i], ys[i], q.1, q.2, List.getElem?_eq_getElem h1, List.getElem?_eq_getElem h2⟩
  · intro H q
    exact ⟨xs, ys, q.1, q.2, by omega⟩
  · rintro i H v H' - q ⟨T, x, y, e1, e2, e3, e4, e5⟩
    exact ⟨T, x, y, e1, e2, e3, e4 xs q.1, e5 ys q.2⟩
theorem turn_enumT {P : Program} {w : World} {K : PySem.W.Frag} {elts : List Expr} {kk : Nat} {tpos : Pos} (a e it : Addr) (hei : e ≠ it) (hea : e ≠ a) (hai : a ≠ it) :
    Turn P w K (.Tuple elts kk tpos) (IteT K a) [e, it] e (fun i h => (∃ old, IsEnum h e it ((i : Nat) : Int) old) ∧ h.IsTupleIter it a i) where
  mem := List.mem_cons_self
  obj := by
    rintro i h ⟨⟨old, he⟩, o, ho, hc, hd⟩ b hb
    rcases List.mem_cons.mp hb with rfl | hb
    · exact ⟨_, he, fun v q => nomatch q⟩
    · obtain rfl := List.mem_singleton.mp hb
      exact ⟨o, ho, fun v q => by rw [hd] at q; cases q⟩
  keep := by
    rintro i h h' ⟨⟨old, he⟩, hi⟩ k
    exact ⟨⟨old, k e (by simp) _ he⟩, hi.at fun o q => k it (by simp) o q⟩
  item := by
    rintro X rfl rfl rfl hc i pins s σ H E I hf ⟨⟨old, he⟩, hit⟩ ⟨xs, x, hq, hx⟩
    obtain ⟨its, rv, p, _⟩ := I.tuple hq
    obtain ⟨u, hu, ru⟩ := rv.get hx
    have hel : e < s.heap.objs.size := Heap.lt_size he
    have hil : it < s.heap.objs.size := by
      obtain ⟨_, q, _⟩ := id hit
      exact Heap.lt_size q
    have hi : i < its.toArray.size := by
      have := (List.getElem?_eq_some_iff.mp hu).1
      simpa using this
    refine wpAny_pyNext_enum_itemD (Draws.tuple (show X.A.in1.handled = none from I.ok.hd hc) it a hai its.toArray) he ⟨hit, p⟩ hi hei (by simp [hei, hea]) fun u2 h' tk hu2 ho hst hT hsz hk => ?_
    obtain rfl : u2 = u := by
      have q : its.toArray[i]? = some u2 := hu2
      rw [List.getElem?_toArray, hu] at q
      exact (Option.some.inj q).symm
    refine ⟨_, rfl, wpAny_letOwnedTupleGo_enum (s := { s with heap := h', toks := tk + 1 }) ho fun h2 he2 sb => ?_⟩
    have hT2 : h2.get? s.heap.objs.size = some { cls := .type "tuple", data := .seq #[.int i tk, u2] } := (sb.2 _ (Nat.ne_of_gt hel)).trans hT
    have new : ObjOk X.prog X.w (upd H s.heap.objs.size (.tup [.int (i : Nat), x])) h2 s.heap.objs.size (.tup [.int (i : Nat), x]) :=
      ⟨by show 2 ≤ sizeLine; decide, [.int i tk, u2], .cons ⟨_, rfl⟩ (.cons ru .nil), ⟨_, hT2, rfl, _, rfl⟩⟩
    have I1 : Inv X pins σ (upd H s.heap.objs.size (.tup [.int (i : Nat), x])) { s with heap := h2, toks := tk + 1 } :=
      I.turnedNew (ch := [e, it]) (fun b ob hb q => by
        have b1 : b ≠ e := fun z => hb (by simp [z])
        have b2 : b ≠ it := fun z => hb (by simp [z])
        exact (sb.2 b b1).trans (hk b ob b1 b2 q)) hf (Nat.le_refl _) new
    refine ⟨.ref s.heap.objs.size, _, I1, rfl, ⟨_, x, rfl, I.hok.fresh (Nat.le_refl _), rfl, fun ys hy => by rw [I.tuple_inj hy hq]; exact hx⟩, ⟨⟨u2, ?_⟩, hst.1.at fun o q => (sb.2 it (Ne.symm hei)).trans q⟩, fun b hb => ?_⟩
    · rw [show ((i + 1 : Nat) : Int) = (i : Int) + 1 from by omega]
      exact he2
    · have hb2 : b ≠ s.heap.objs.size := by
        rcases List.mem_cons.mp hb with rfl | hb'
        · exact Nat.ne_of_lt hel
        · obtain rfl := List.mem_singleton.mp hb'
          exact Nat.ne_of_lt hil
      rw [upd_ne hb2]
      exact (hf b hb).1
  done := by
    rintro X rfl rfl rfl hc i pins s σ H E I hf ⟨⟨old, he⟩, hit⟩ ⟨xs, hq, hx⟩
    obtain ⟨its, rv, p, _⟩ := I.tuple hq
    have hl := rv.length
    obtain ⟨f0, f1, f2, f3, f4, f5⟩ := hf it (by simp)
    obtain rfl : its.toArray.size = i := by
      rw [List.size_toArray, ← hl]
      exact hx
    exact wpAny_pyNext_enum_endD (Draws.tuple (show X.A.in1.handled = none from I.ok.hd hc) it a hai its.toArray) he ⟨hit, p⟩ fun h' eb => ⟨rfl, I.turned (t' := s.toks) (fun b o hb q => eb b o hb q) f0 f1 f3 f4 f5⟩
  self := by
    rintro A i s Q E ⟨⟨old, he⟩, _⟩ h
    exact wpAny_pyIter_enum he h
def iEnumT (K : PySem.W.Frag) (ta : TA) : TI := fun σ H R => ta σ H fun vs H1 => ∃ a xs, vs = [.ref a] ∧ SqT K H1 a xs ∧ R (IteT K a) H1
theorem pi_enumT {X : Cx} {e : Expr} {ta : TA} {p pos tpos : Pos} {elts : List Expr} {kk : Nat} (hg : Gl X "enumerate") (hm : X.mg "enumerate" = none) (ha : PA X [e] ta) (hs : starEach [e] X.env = [(false, eval e X.env)] := by rfl) :
    PI X (.Tuple elts kk tpos) (.Call (.Name "enumerate" p) [e] [] pos) (iEnumT X.K ta) := by
  refine ⟨fun pins s σ H R I h => Call_ (ld_blt I hg hm boot_enumerate (PyProof.Rows.callWith_type1 (thn (ha.run pos pins s σ H _ I h) fun us s1 hh => ?_) hs rfl))⟩
  obtain ⟨vs, H1, I1, r1, a, xs, rfl, hq, q⟩ := hh
  match us, r1 with
  | [_], .cons rfl .nil =>
    obtain ⟨its, rv, p1, _⟩ := I1.tuple hq
    have hlt : a < s1.heap.objs.size := by
      obtain ⟨o, ho, _⟩ := id p1
      exact Heap.lt_size ho
    refine call_enum1 (begins_tuple a its.toArray) p1 fun h' he hit hk => wpAny_pyIter_enum he ?_
    refine ⟨s1.heap.objs.size + 1, [s1.heap.objs.size + 1, s1.heap.objs.size], _, _, H1, rfl, I1.kept (t' := s1.toks) hk, turn_enumT a (s1.heap.objs.size + 1) s1.heap.objs.size (Nat.succ_ne_self _) (Nat.ne_of_gt (Nat.lt_succ_of_lt hlt)) (Nat.ne_of_lt hlt), ⟨⟨.none, he⟩, _, hit, rfl, rfl⟩, fun b hb => ?_, q⟩
    have hle : s1.heap.objs.size ≤ b := by
      rcases List.mem_cons.mp hb with rfl | hb
      · exact Nat.le_succ _
      · exact Nat.le_of_eq (List.mem_singleton.mp hb).symm
    exact I1.fpOk hle (I1.hok.fresh hle)
end EN
set_option maxHeartbeats 4000000
/-! a tuple times a number from 1 on -/
namespace RT
open PySem PySem.Spec PyProof.Rows L2
theorem mul_once (l : Addr) (items : Array Value) (n : Nat) (dd : Option Addr) (sl : Array (Option Value)) (u : Tok) :
    Meets (Builtin.«tuple.__mul__» ⟨[.ref l, .int 1 u], []⟩) (fun _ R s => s.heap.get? l = some { cls := .type "tuple", dict := dd, data := .seq items n, slots := sl } ∧ R (.ok (.ret (Value.ref l))) s) :=
  .of_wp fun prog w A R s h => by
    obtain ⟨hp, g, d, tk, os⟩ := s
    obtain ⟨hl, h⟩ := h
    have f1 := AutoSeq1.idx_int
    have c1 : (items.isEmpty || (1 : Int) == 1) = true := by simp
    wp_walk using wpAny_loadPart' hl
    exact ⟨_, rfl, h⟩
/-- xs * k, k from 1 on -/
def rRepA (K : PySem.W.Frag) : R2 := fun x y H Q => ∃ l k xs, x = .ref l ∧ y = .int k ∧ SqT K H l xs ∧ xs ≠ [] ∧ 1 ≤ k ∧ k ≤ 1000 ∧ xs.length ≤ 1000 ∧ ∀ r H', Same H H' → SqT K H' r (List.replicate k.toNat xs).flatten → Q (.ref r) H'
theorem op_repTA {X : Cx} : OpR X (binaryOp .Mult) (rRepA X.K) := by
  rintro pins s σ H x y v u Q I rx ry ⟨l, k, xs, rfl, rfl, hT, hne, h1, h2, hz, q⟩
  by_cases hk : k = 1
  · subst hk
    cases rx
    obtain ⟨t, rfl⟩ := ry
    obtain ⟨its, r, ⟨⟨cls, dd, data, sl⟩, ho, hc, n, hd⟩, hs⟩ := I.tuple hT
    simp only at hc hd
    subst hc hd
    refine wpAny_binaryOp_repeat_ref (T := "tuple") (U := "int") (by decide) ⟨_, ho, rfl⟩ (fun s' => typeIs_int s' 1 t) noFill_tuple_mul F.fills_int_mul F.slot_int_rmul repeat_tuple F.slot_int_index.lookup
      (call_meets F.slot_int_rmul (typeIs_int s 1 t) F.entry_int_rmul (F.args_int_rmul_2 _ _) (int_rmul_tuple 1 t l its.toArray n dd sl)
        ⟨ho, rfl, ⟨_, ho, rfl⟩, call_meets F.slot_tuple_mul ⟨_, ho, rfl⟩ F.entry_tuple_mul (F.args_tuple_mul_2 _ _) (mul_once l its.toArray n dd sl t) ⟨ho, ?_⟩⟩)
    refine ⟨.ref l, H, I, rfl, q l H (fun _ _ e => e) ?_⟩
    have e : (List.replicate (1 : Int).toNat xs).flatten = xs := by
      show (List.replicate 1 xs).flatten = xs
      simp
    rw [e]
    exact hT
  · exact op_repT pins s σ H _ _ v u Q I rx ry ⟨l, k, xs, rfl, rfl, hT, hne, by omega, h2, hz, fun p np => q p _ (fun b o e => by rw [upd_ne (fun z => by rw [z, np] at e; cases e)]; exact e) (.inl (.inl upd_same))⟩
end RT
set_option maxHeartbeats 4000000
/-! self.__class__.__name__ of an exception that is being made -/
namespace GX
open PySem PySem.Spec PyProof.Rows L2 GenW PySem.W PySem.Calls Builtin Builtin.ObjectAttr Builtin.Getset_descriptor
/-- what the written part tells of the class at C and of its name -/
structure ClsN (K : Frag) (C : Addr) (nm : Str) : Prop where
  ob : ∃ (o : Obj) (tk : Tok), K.lookup C = some o ∧ (o.slots[2]?).join = some (.str nm tk)
  hc : (clsIn K C).isSome = true
  ga : findIn K (.ref C) "__getattribute__" = some (some (.builtin "BaseException.__getattribute__"))
  gt : findIn K (.ref C) "__getattr__" = some none
  ca : findIn K (.ref C) "__class__" = some (some (.builtin "object.__class__"))
  cg : specialIn K (.builtin "object.__class__") "__get__" = some (some (.builtin "getset_descriptor.__get__"))
  ct : takesIn K (.builtin "object.__class__") = some true
  mo : mroIn K C (.type "object") = some true
  op : nsIn K cStatics "thirdparty.any" = some none
  ty : typeIn K (.ref C) = some (.type "type")
  st : subIn K (.ref C) (.type "BaseException") = some true
  fn : findCls K (.ref C) (.type "type") "__name__" = some (.get (.builtin "getset_descriptor.__get__") (.builtin "type.__name__") (.ref C) (.type "type"))
section
variable {prog : Program} {w : World} {A : Around} {E : Value → Shared → Prop} {R : Result → Shared → Prop} {s : Shared} {K : Frag} {x C : Addr} {ox : Obj} {od : Option Obj} {nm : Str}
theorem exc_cls {xp : Bool} {Q : Value → Shared → Prop} (Y : K.In s.heap) (J : InstAt s.heap x ox C od) (F : ClsN K C nm) (h : Q (.ref C) { s with toks := s.toks + 1 }) : wpAny (model prog w) A (getAttr (.ref x) "__class__" xp) Q E s := by
  obtain ⟨hh, gg, dd, tt, oo⟩ := s
  have T0 := J.type (M := model prog w)
  have T1 := looks_findIn (M := model prog w) Y F.ga
  have T2 := looks_findIn (M := model prog w) Y F.gt
  have T3 := looks_find (M := model prog w) Y J (findObj_dataE (od := od) F.hc F.ca F.cg F.ct)
  have sb : Looks (model prog w) hh (isInstance (.ref x) (.type "BaseException")) true := T0.andThen (looks_subIn Y F.st)
  have n0 : (xp && onTheHeap (Value.builtin "BaseException.__getattribute__")) = false := by cases xp <;> rfl
  have n1 : (onTheHeap (Value.ref C) && Value.builtin "BaseException.__getattribute__" == Value.builtin "object.__getattribute__") = false := by
    rw [show (Value.builtin "BaseException.__getattribute__" == Value.builtin "object.__getattribute__") = false by decide +kernel]
    rfl
  unfold getAttr getAttrBy
  refine wpAny_bind (wpAny_mkText (wpAny_holding (wpAny_bind (T0.at (wpAny_bind (T1.at ?_))))))
  dsimp only
  rw [n1, if_neg Bool.false_ne_true]
  unfold getAttrByItsOwn hookBefore
  refine wpAny_bind ?_
  rw [if_pos (show onTheHeap (Value.ref C) = true by rfl)]
  refine T2.at (wpAny_bind (wpAny_attempt (wpAny_holding ?_)))
  unfold callGetattribute
  rw [n0, if_neg Bool.false_ne_true]
  unfold boundAndCalled
  rw [PySem.F.excAttr_ValueError.ga.bind (.ref x)]
  refine wpAny_bind (wpAny_pure ?_)
  have key : codeAny (model prog w) A (.call (.builtin "BaseException.__getattribute__") ⟨[.ref x, .str "__class__" tt], []⟩) (fun r s' => r = .ok (.ret (.ref C)) ∧ s' = ⟨hh, gg, dd, tt + 1, oo⟩) ⟨hh, gg, dd, tt + 1, oo⟩ := by
    refine codeAny_call_builtin PySem.F.excAttr_ValueError.ga.plain PySem.F.entry_bexc_ga ?_
    refine @check_slot (model prog w) _ _ ⟨hh, gg, dd, tt + 1, oo⟩ "BaseException.__getattribute__" "BaseException" "__getattribute__" (.ref x) [.str "__class__" tt] [] _ (by decide +kernel) (by decide +kernel) sb (PySem.F.args_bexc_ga (.ref x) (.str "__class__" tt)) ?_
    unfold Builtin.«object.__getattribute__»
    refine wpAny_bind (wpAny_of_eq (a := ((Value.ref x : Value), [Value.str "__class__" tt])) (by first | rfl | (simp only [slotArgs]; rfl)) ?_)
    refine wpAny_bind (wpAny_pure (wpAny_bind (T0.at (wpAny_bind (T3.at (wpAny_bind (wpAny_holding (wpAny_call (class_get (s := ⟨hh, gg, dd, tt + 1, oo⟩) Y J F.mo ?_)))))))))
    exact wpAny_pure ⟨rfl, rfl⟩
  refine wpAny_call (codeAny_mono key fun r s' z => ?_)
  obtain ⟨rfl, rfl⟩ := z
  show wpAny _ _ (handedOut (.ref C)) _ _ _
  rw [handedOut_of (show handedIn (.ref C) = true by rfl)]
  exact wpAny_pure h
theorem nm_get {tp : Value} {o : Obj} {tk : Tok} (Y : K.In s.heap) (F : ClsN K C nm) (ho : K.lookup C = some o) (hk : (o.slots[2]?).join = some (.str nm tk)) (h : R (.ok (.ret (.str nm tk))) s) :
    codeAny (model prog w) A (.call (.builtin "getset_descriptor.__get__") ⟨[.builtin "type.__name__", .ref C, tp], []⟩) R s := by
  obtain ⟨hh, gg, dd, tt, oo⟩ := s
  have L0 : Looks (model prog w) hh (typeOf (.ref C)) (.type "type") := looks_typeIn Y F.ty
  have L1 : Looks (model prog w) hh (isSubtype (.type "type") (.type "type")) true := Looks.of_pure (by rw [isSubtype_type]; kernel_rfl)
  refine codeAny_call_builtin KF.slot_gs.plain KF.entry_gs (KF.slot_gs.check _ _ _ _ _ _ _ _ ktyn_type (KF.args_gs _ _ _) ?_)
  unfold Builtin.«getset_descriptor.__get__» descrGet
  rw [show descrGetArgs ⟨[Value.builtin "type.__name__", .ref C, tp], []⟩ = pure (.builtin "type.__name__", some (.ref C), given tp) by kernel_rfl]
  refine wpAny_bind (wpAny_pure ?_)
  unfold descrGetter descrCheckInstance descrNameAndClass isInstance
  simp only [ktyn_owner]
  repeat lk
  refine ⟨Code.quiet_builtin _ (by decide +kernel), codeAny_builtin ktyn_entry ?_⟩
  unfold Builtin.«type.__name__» keptObject slotAt
  dsimp only
  refine wpAny_bind (wpAny_bind (wpAny_loadPart (Y _ _ ho) (wpAny_pure ?_)))
  rw [hk]
  exact wpAny_pure h
theorem nm_attr {xp : Bool} {Q : Value → Shared → Prop} (Y : K.In s.heap) (F : ClsN K C nm) (h : ∀ tk u, Q (.str nm tk) { s with toks := u }) : wpAny (model prog w) A (getAttr (.ref C) "__name__" xp) Q E s := by
  obtain ⟨o, tk, ho, hk⟩ := F.ob
  refine cls_open Y (looks_opaque Y F.op) (looks_typeIn Y F.ty) type_tga (looks_hook Y (r := none) (by rfl)) (by show subIn K _ _ = _; rfl) F.fn ?_
  refine wpAny_bind (wpAny_holding (wpAny_call (nm_get (s := { s with toks := s.toks + 1 }) Y F ho hk ?_)))
  exact wpAny_pure (handed_on rfl (h _ _))
end
section
variable {X : Cx} {e : Expr} {te : TE} {p1 p2 : Pos} {C : Addr} {nm : Str}
/-- e.__class__.__name__, e an exception that is being made -/
def tNm (K : Frag) (te : TE) : TE := fun σ H Q => te σ H fun x H1 => ∃ (a C dx : Addr) (nm : Str), x = .ref a ∧ H1 a = some (exo a C (some dx)) ∧ (∃ fs, H1 dx = some (exd dx fs)) ∧ ClsN K C nm ∧ Q (.str nm) H1
theorem pe_nm (he : PE X e te) (hb : attributeBase e "__class__" X.env (eval e X.env) = eval e X.env := by rfl)
    (hb2 : attributeBase (.Attribute e "__class__" p1) "__name__" X.env (eval (.Attribute e "__class__" p1) X.env) = eval (.Attribute e "__class__" p1) X.env := by rfl) :
    PE X (.Attribute (.Attribute e "__class__" p1) "__name__" p2) (tNm X.K te) := by
  refine ⟨fun pins s σ H Q I h => ?_⟩
  refine attr_of hb2 (attr_of hb (thn (he.run pins s σ H _ I h) fun u s1 hh => ?_))
  obtain ⟨x, H1, I1, rx, a, C, dx, nm, rfl, ea, ⟨fs, ed⟩, F, q⟩ := hh
  obtain rfl : u = Value.ref a := rx
  obtain ⟨t1, ho⟩ := exo_at I1.hok ea
  obtain ⟨mA, hns, rel⟩ := exd_at I1.hok ed
  obtain ⟨oD, _, _, hoD, _, _⟩ := hns.count (within_of rel)
  refine exc_cls I1.kIn (ox := { cls := .ref C, dict := some dx, data := .fields #[.ref t1, .none, .none, .none, .bool false, .none] }) (od := some oD) ⟨ho, rfl, rfl, hoD⟩ F ?_
  exact nm_attr (s := { s1 with toks := s1.toks + 1 }) I1.kIn F fun tk u => ⟨.str nm, H1, I1.tok _, ⟨tk, rfl⟩, q⟩
end
end GX
set_option maxHeartbeats 4000000
/-! exceptions of an own class whose __init__ keeps one value: made, raised, caught by the first of several clauses -/
namespace GX
open PySem PySem.Spec PyProof.Rows L2 GenW
def spInit (K : PySem.W.Frag) : Sp := fun vs H Q _ => ∃ (a C : Addr) (y : V) (nm : Str), vs = [.ref a, y] ∧ OexC K C ∧ ClsN K C nm ∧ PySem.W.findIn K (.ref C) "what" = some none ∧ PySem.W.findIn K (.ref C) "word" = some none ∧ H a = some (exo a C none) ∧
  ∀ dx, H dx = none → dx ≠ a → Q .non (upd (upd (upd H dx (exd dx [("what", y)])) a (exo a C (some dx))) dx (exd dx [("word", .str nm), ("what", y)]))
structure ExK (P : Program) (w : World) (K : PySem.W.Frag) (mg : Str → Option Value) (base : Heap) (n : Nat) (x : Str) (C : Addr) where
  fI : Addr
  fd : FuncData
  nm : Str
  T : OexC K C
  N : ClsN K C nm
  iC : PySem.W.findIn K (.ref C) "__init__" = some (some (.ref fI))
  tI : PySem.W.typeIn K (.ref fI) = some (.type "function")
  G : FnOk P w K mg base CX0 n fI fd ["self", "what"] (spInit K)
  b : Binds K fd ["self", "what"] []
  gm : mg x = some (.ref C)
  nw : PySem.W.findIn K (.ref C) "what" = some none
  nd : PySem.W.findIn K (.ref C) "word" = some none
theorem pmk_ex {X : Cx} {n : Nat} {x : Str} {C : Addr} {e : Expr} {es : List Expr} {ta : TA} {p pos : Pos} (k : ExK X.prog X.w X.K X.mg X.base n x C) (hr : Room (n + 1) X.A) (hg : Gl X x) (ha : PA X (e :: es) ta)
    (hdb : (x == ("__debug__" : Str)) = false := by decide) (he : starEach (e :: es) X.env = (false, eval e X.env) :: starEach es X.env := by rfl) (hpl : (backTo pos (starEach es X.env)).any (·.1) = false := by rfl) :
    PMk X (.Call (.Name x p) (e :: es) [] pos) (tMkO C (spInit X.K) [] ta) := pmk_oex k.T k.iC k.tI k.G hr k.b .nil pass0 hg k.gm ha hdb he hpl
/-- what is left to show where C(y) is made -/
theorem mk_in {P : Program} {w : World} {K : PySem.W.Frag} {mg : Str → Option Value} {base : Heap} {n : Nat} {x : Str} {C : Addr} {H : Hp} {y : V} {Q : XK} (k : ExK P w K mg base n x C)
    (q : ∀ d fs, H d = none → fs.lookup ("what" : Str) = some y → Q (.ref C) (some d) (upd H d (.xd fs))) :
    [y].length ≤ 1000 ∧ ∀ a, H a = none → spInit K (.ref a :: ([y] ++ [])) (upd H a (exo a C none))
      (fun v H2 => v = .non ∧ ∃ (d : Addr) (fs : List (Str × V)), H2 a = some (exo a C (some d)) ∧ H2 d = some (exd d fs) ∧ H d = none ∧ Q (.ref C) (some d) (upd (del H2 a) d (.xd fs))) (fun _ _ _ => False) := by
  refine ⟨by show 1 ≤ 1000; decide, fun a na => ⟨a, C, y, k.nm, rfl, k.T, k.N, k.nw, k.nd, upd_same, fun dx nd ne => ⟨rfl, dx, [("word", .str k.nm), ("what", y)], ?_, upd_same, ?_, ?_⟩⟩⟩
  · rw [upd_ne (fun z => ne z.symm), upd_same]
  · rw [upd_ne ne] at nd
    exact nd
  · rw [upd_ne ne] at nd
    have e : upd (del (upd (upd (upd (upd H a (exo a C none)) dx (exd dx [("what", y)])) a (exo a C (some dx))) dx (exd dx [("word", .str k.nm), ("what", y)])) a) dx (.xd [("word", .str k.nm), ("what", y)]) = upd H dx (.xd [("word", .str k.nm), ("what", y)]) := by
      funext b
      by_cases hb : b = dx
      · rw [hb, upd_same, upd_same]
      · rw [upd_ne hb, upd_ne hb]
        by_cases ha : b = a
        · rw [ha, del_same, na]
        · rw [del_ne ha, upd_ne hb, upd_ne ha, upd_ne hb, upd_ne ha]
    rw [e]
    exact q dx _ nd rfl
/-- a def that may raise, called in a suite that is tried -/
theorem pe_dkT {X : Cx} {W : WX} {k : Nat} {x : Str} {ps : List Str} {sp : Sp} {p pos : Pos} {e : Expr} {es : List Expr} {t : TA} (tk : Takes X W) (d : DkX X.prog X.w X.K X.mg X.base k x ps sp) (hr : Room k X.A) (hg : Gl X x) (ha : PA X (e :: es) t)
    (hdb : (x == ("__debug__" : Str)) = false := by decide) (he : starEach (e :: es) X.env = (false, eval e X.env) :: starEach es X.env := by rfl) (hpl : (backTo pos (starEach es X.env)).any (·.1) = false := by rfl) :
    PE X (.Call (.Name x p) (e :: es) [] pos) (tCallS sp (WE W) t) := pe_callS d.G hr hg d.gm d.kp d.b (fun σ => passAt tk σ) ha hdb he hpl
/-- isinstance(fault, D), fault the error that the suite holds, with a dict -/
def rIsX (K : PySem.W.Frag) (a : Addr) (cls : Value) (d : Option Addr) (C : Addr) : List V → Hp → VK → Prop := fun xs H Q => ∃ (c : V) (cv : Value) (b : Bool) (dd : Addr) (fs : List (Str × V)), xs = [.ref a, c] ∧ cls = .ref C ∧ d = some dd ∧ H dd = some (.xd fs) ∧
  (∀ u, RelV c u → u = cv) ∧ PySem.W.kitOne K (.ref C) cv = some b ∧ Q (.bl b) H
theorem call_isX {X : Cx} {a C : Addr} {oe : Obj} {cls : Value} {d : Option Addr} {pn : List (Addr × Obj)} (T : ExcC X.K C) (hz : Zc cls d oe) (hf : ∃ vs, oe.data = .fields vs) : CallR (X.suite a ((a, oe) :: pn)) (.builtin "isinstance") (rIsX X.K a cls d C) := by
  rintro pins s σ H xs us Q I r ⟨c, cv, b, dd, fs, rfl, rfl, rfl, hdd, hcv, e, q⟩
  match us, r with
  | [_, u], .cons rfl (.cons rt .nil) =>
    obtain rfl := hcv _ rt
    obtain ⟨ha, _⟩ := I.pin (a, oe) (List.mem_append_left _ List.mem_cons_self)
    obtain ⟨vs, hv⟩ := hf
    have hx : ObjOk X.prog X.w H s.heap dd (.xd fs) := I.hok dd _ hdd
    obtain ⟨mA, hns, _⟩ := hx
    obtain ⟨od, ho, _⟩ := lookIn_ns hns
    have J : PySem.W.InstAt s.heap a oe C (some od) := ⟨ha, hz.1, by unfold PySem.W.notCls; rw [hv] <;> rfl, by rw [hz.2]; exact ho⟩
    have hcl : (PySem.W.clsIn X.K C).isSome = true := by
      obtain ⟨cd, hc, _⟩ := PySem.W.any_some T.hd
      rw [hc]
      rfl
    exact PySem.W.kia_one (PySem.W.kitx_exc (K := X.K) hcl T.hg T.hk T.hs T.ha T.hn T.ht T.hm) I.kIn J e (fun z => nomatch z) fun tk => ⟨.bl b, H, I.kept (t' := tk) fun _ _ z => z, rfl, q⟩
/-- what the first clause wishes of an exception that is its own -/
def wFst (K : PySem.W.Frag) (c : Value) (i : Nat) (ts : Addr → Value → Option Addr → TS) (D : Ends) : WX := fun cls d σ H =>
  PySem.W.exmOne K cls c = some true ∧ ∀ a, H a = none → ts a cls d { nx := fun σ' H' => D.nx (σ'.set i none) H', rt := D.rt, bk := fun σ' H' => D.bk (σ'.set i none) H', ct := fun σ' H' => D.ct (σ'.set i none) H' } (σ.set i (some (.ref a))) H
section
variable {X : Cx} {x n : Str} {c : Value} {i : Nat} {body suite : List Stmt} {b₀ : Stmt} {hds : List ExceptHandler} {np pos pos' : Pos} {tb : WX → TS} {ts : Addr → Value → Option Addr → TS}
theorem ps_try_fst (hs : X.stack = X.env :: X.outer) (hf : X.env.frame = some X.env.locals) (hN : X.N.Nodup) (hi : X.N[i]? = some n) (hln : X.env.kindOf n = some .local) (hc : Names X x c)
    (hb : ∀ (W : WX) (pn : List (Addr × Obj)) (xe : Value → Shared → Prop), Takes (X.tr pn xe) W → PassesOwn (model X.prog X.w) X.A X.env xe → PSs (X.tr pn xe) body (tb W))
    (hsu : ∀ (a : Addr) (oe : Obj) (cls : Value) (d : Option Addr) (pn : List (Addr × Obj)), Zc cls d oe → (∃ vs, oe.data = .fields vs) → PSs (X.suite a ((a, oe) :: pn)) (b₀ :: suite) (ts a cls d)) :
    PS X (.Try body (.ExceptHandler (some (.Name x np)) (some n) (b₀ :: suite) pos' :: hds) [] [] pos) (fun D σ H => tb (wFst X.K c i ts D) D σ H) := by
  refine ⟨fun pins s σ H D I h => wpAny_Try_except ?_⟩
  have hfr : X.A.frames = some (X.env :: X.outer) := I.ok.frames.trans (congrArg some hs)
  let catcher : Value → Shared → Prop := fun e s₁ => wpAny (model X.prog X.w) X.A (noteFrame e X.env) (fun _ s₂ => wpAny (model X.prog X.w) X.A (setFlight e none) (fun _ s₃ =>
    wpAny (model X.prog X.w) X.A (handleBy e X.env (.ExceptHandler (some (.Name x np)) (some n) (b₀ :: suite) pos' :: hds)) (SP X pins D) X.xe s₃) X.xe s₂) X.xe s₁
  have tk : Takes (X.tr (X.pn ++ pins) catcher) (wFst X.K c i ts D) := by
    rintro u s' ⟨a, B, sI, pins', σ', H', cls, d, rfl, J', nb, up, sky, na, os, ag, hcls, go⟩
    have J := J'.ofTry I.ok
    have sky2 : Sky B (X.env :: X.outer) a (Zc cls d) X.env.locals s'.heap := by
      rw [← hs]
      exact sky
    show wpAny (model X.prog X.w) X.A (noteFrame (.ref a) X.env) _ _ _
    refine Sky.land Zc.steady hfr hf sky2 fun hA flA upA => ?_
    -- the error lies on the ground, nobody's frame
    have out : ∀ (h : Heap), HandSPX.FlyingZ B (X.env :: X.outer) a (Zc cls d) h → s'.heap.UpToSlots h →
        ∃ (oe : Obj), h.get? a = some oe ∧ Zc cls d oe ∧ (∃ vs, oe.data = .fields vs) ∧ Inv X pins σ' H' { s' with heap := h } ∧ Inv (X.suite a ((a, oe) :: (X.pn ++ pins))) [] σ' H' { s' with heap := h } := by
      intro h fl hup
      have Jh : Inv X pins σ' H' { s' with heap := h } := J.landed nb fl.1 (up.trans hup) os ag
      obtain ⟨oe, vs, he, hz, hd⟩ := fl.there
      have nfr : a ∉ frs (X.env :: X.outer) := fun hm => by
        obtain ⟨_, o, ho, hno⟩ := fl.2.2.1.mem hm
        cases he.symm.trans ho
        exact hno vs hd
      have nF : a ∉ X.fs := fun hm => by
        obtain ⟨y, hy, q⟩ := List.mem_filterMap.mp hm
        exact nfr (List.mem_filterMap.mpr ⟨y, List.mem_cons_of_mem _ hy, q⟩)
      have nL : a ≠ X.env.locals := fun z => nfr (List.mem_filterMap.mpr ⟨X.env, List.mem_cons_self, by rw [hf, z]⟩)
      exact ⟨oe, he, hz, ⟨vs, hd⟩, Jh, Jh.suite he hd na nL nF⟩
    obtain ⟨oA, heA, hzA, _, JA, SA⟩ := out hA flA upA
    refine wpAny_handleBy_cons (codeAny_handlers_test ?_) (by intro q; cases q)
    have isIt := PySem.W.exm_one (M := model X.prog X.w) JA.kIn (fun _ _ _ _ k q => wpAny_typeOf_ref (k _ _ heA) (by rw [hzA.1]; exact q)) hcls
    have named : ∀ {R : Value → Shared → Prop} {E' : Value → Shared → Prop}, R c { s' with heap := hA } → wpAny (model X.prog X.w) (X.A.mark (some (.ref a))) (eval (.Name x np) X.env) R E' { s' with heap := hA } := by
      intro R E' q
      obtain ⟨hg, hdbg, hm | ⟨hm, hv, hnn⟩⟩ := hc
      · exact ld_glob (X := X.suite a ((a, oA) :: (X.pn ++ pins))) SA hg hm q hdbg
      · exact ld_blt (X := X.suite a ((a, oA) :: (X.pn ++ pins))) SA hg hm hv q hnn hdbg
    refine named ?_
    refine isIt.here (codeAny_handlers_suite_as ?_)
    refine HandSPX.lands_againZ flA fun hB flB upB => ?_
    obtain ⟨oB, heB, hzB, hfB, _, SB⟩ := out hB flB (upA.trans upB)
    refine store_ok (X := X.suite a ((a, oB) :: (X.pn ++ pins))) (v := .ref a) SB hN hi (.inl hln) rfl (fun s5 S5 => ?_) (.inr hln)
    refine wpAny_mono ((hsu a oB cls d (X.pn ++ pins) hzB hfB).run [] s5 _ H' _ S5 (go a na)) (fun f s6 hsp => ?_) (fun _ _ z => z.elim)
    cases f with
    | ret u =>
      obtain ⟨v6, σ6, H6, S6, r6, q6⟩ := hsp
      exact gone_ok (S6.unsuite I.ok) hN hi hln fun s7 J7 => ⟨v6, _, _, J7, r6, q6⟩
    | next =>
      obtain ⟨σ6, H6, S6, q6⟩ := hsp
      exact gone_ok (S6.unsuite I.ok) hN hi hln fun s7 J7 => ⟨_, _, J7, q6⟩
    | brk =>
      obtain ⟨σ6, H6, S6, q6⟩ := hsp
      exact gone_ok (S6.unsuite I.ok) hN hi hln fun s7 J7 => ⟨_, _, J7, q6⟩
    | cont =>
      obtain ⟨σ6, H6, S6, q6⟩ := hsp
      exact gone_ok (S6.unsuite I.ok) hN hi hln fun s7 J7 => ⟨_, _, J7, q6⟩
  refine wpAny_mono ((hb _ (X.pn ++ pins) catcher tk PassesOwn.looking).run [] s σ H D (I.toTry _) h) (fun f s1 hsp => ?_) (fun e s1 he => he)
  cases f with
  | ret u =>
    obtain ⟨v, σ', H', J', r, q⟩ := hsp
    exact ⟨v, σ', H', J'.ofTry I.ok, r, q⟩
  | next =>
    obtain ⟨σ', H', J', q⟩ := hsp
    exact wpAny_execs_nil ⟨σ', H', J'.ofTry I.ok, q⟩
  | brk =>
    obtain ⟨σ', H', J', q⟩ := hsp
    exact ⟨σ', H', J'.ofTry I.ok, q⟩
  | cont =>
    obtain ⟨σ', H', J', q⟩ := hsp
    exact ⟨σ', H', J'.ofTry I.ok, q⟩
end
end GX
set_option maxHeartbeats 4000000
/-! enumerate(zip(a, b)) of two tuples, walked by `for i, p in ..`: the body may keep the pair p, so zip's next step makes a new tuple or writes its old one -/
namespace EZ
open PySem PySem.Spec PyProof.Rows L2
def ZF (f : Value) : Prop := f = .none ∨ ∃ T : Nat, f = rawInt T
abbrev ZO (f0 : Value) (f1 : Bool) (TI TO : Addr) : Obj := { cls := .type "zip", dict := none, data := .fields #[f0, .bool f1, .bool false, .ref TI, .ref TO], slots := #[] }
/-- zip's object, whatever it gave out before -/
def ZG (h : Heap) (z TI TO : Addr) : Prop := ∃ f0 f1, ZF f0 ∧ h.get? z = some (ZO f0 f1 TI TO)
theorem ZG.keep {h h' : Heap} {z TI TO : Addr} (q : ZG h z TI TO) (k : ∀ o, h.get? z = some o → h'.get? z = some o) : ZG h' z TI TO := by
  obtain ⟨f0, f1, hf, hz⟩ := q
  exact ⟨f0, f1, hf, k _ hz⟩
theorem ZG.get {h : Heap} {z TI TO : Addr} (q : ZG h z TI TO) : ∃ o, h.get? z = some o := by
  obtain ⟨f0, f1, hf, hz⟩ := q
  exact ⟨_, hz⟩
section
variable {prog : Program} {w : World} {A : Around} {E : Value → Shared → Prop} {s : Shared}
theorem alive {a : Addr} {Q : Option Obj → Shared → Prop} (h : Q (s.heap.get? a) s) : wpAny (model prog w) A (loadIfAlive a) Q E s := fun _ _ _ => h
theorem free {z TI TO : Addr} {Q : Bool → Shared → Prop} (hz : ZG s.heap z TI TO) (h1 : Q true s) (h2 : ∀ h', ZG h' z TI TO → Heap.SameBut z s.heap h' → Q false { s with heap := h' }) :
    wpAny (model prog w) A (Builtin.SmallTypes.ownedTupleIsFree (.ref z)) Q E s := by
  obtain ⟨f0, f1, hf, hz⟩ := hz
  unfold Builtin.SmallTypes.ownedTupleIsFree
  rcases hf with rfl | ⟨T, rfl⟩
  · exact wpAny_bind (wpAny_field hz rfl (x := .none) rfl (wpAny_pure h1))
  · refine wpAny_bind (wpAny_field hz rfl (x := rawInt T) rfl ?_)
    show wpAny _ _ (loadIfAlive ((T : Int).toNat) >>= _) _ _ _
    refine wpAny_bind (alive ?_)
    cases s.heap.get? ((T : Int).toNat) with
    | none =>
      simp only [Option.isNone_none, if_true]
      exact wpAny_pure h1
    | some o =>
      simp only [Option.isNone_some, Bool.false_eq_true, if_false]
      refine wpAny_bind (wpAny_field hz rfl (x := .bool f1) rfl ?_)
      cases f1 with
      | true =>
        rw [if_neg (show ¬ ((Value.bool true != Value.bool true) = true) from Bool.false_ne_true)]
        exact wpAny_pure (h2 s.heap ⟨_, _, .inr ⟨T, rfl⟩, hz⟩ (Heap.SameBut.refl _ _))
      | false =>
        rw [if_pos (show (Value.bool false != Value.bool true) = true from rfl)]
        exact wpAny_bind (wpAny_setField_rec hz (by simp) fun h₁ hz₁ hs₁ => wpAny_pure (h2 h₁ ⟨rawInt T, true, .inr ⟨T, rfl⟩, hz₁⟩ hs₁))
theorem next_item {z TI TO i1 i2 l1 l2 : Addr} {k1 k2 : Nat} {xs ys : Array Value} {x y : Value} {Q : Value → Shared → Prop} (D : ZipApart z TI TO i1 i2 l1 l2)
    (hz : ZG s.heap z TI TO) (hTI : IsPair s.heap TI (.ref i1) (.ref i2)) (hTO : ∃ a b, IsPair s.heap TO a b)
    (h1 : s.heap.IsTupleIter i1 l1 k1) (h2 : s.heap.IsTupleIter i2 l2 k2) (hl1 : s.heap.IsTuple l1 xs) (hl2 : s.heap.IsTuple l2 ys) (hx : xs[k1]? = some x) (hy : ys[k2]? = some y)
    (hQ : ∀ h', ZG h' z TI TO → (∃ a b, IsPair h' TO a b) → h'.IsTupleIter i1 l1 (k1 + 1) → h'.IsTupleIter i2 l2 (k2 + 1) → IsPair h' s.heap.objs.size x y → h'.objs.size = s.heap.objs.size + 1 →
      (∀ c o, c ≠ z → c ≠ TO → c ≠ i1 → c ≠ i2 → s.heap.get? c = some o → h'.get? c = some o) → Q (.ref s.heap.objs.size) { s with heap := h' }) :
    wpAny (model prog w) A (Builtin.«zip.__next__» ⟨[.ref z], []⟩) (fun fin s' => ∃ v, fin = .done (.ret v) ∧ Q v s') E s := by
  obtain ⟨f0, f1, hf, hz0⟩ := id hz
  obtain ⟨a, b, hTO⟩ := hTO
  show wpAny _ _ (field (.ref z) 2 >>= _) _ _ _
  refine wpAny_bind (wpAny_field hz0 rfl (x := .bool false) rfl ?_)
  show wpAny _ _ (field (.ref z) 3 >>= _) _ _ _
  refine wpAny_bind (wpAny_field hz0 rfl (x := .ref TI) rfl ?_)
  refine wpAny_bind (wpAny_seqItems hTI rfl ?_)
  show wpAny _ _ (Builtin.SmallTypes.ownedTupleIsFree (.ref z) >>= _) _ _ _
  refine wpAny_bind (free hz ?_ fun h₁ hz₁ hs₁ => ?_)
  · simp only [if_true]
    refine wpAny_bind (wpAny_rule ?_)
    refine wpAny_bind (wpAny_field hz0 rfl (x := .ref TO) rfl ?_)
    refine wpAny_bind (wpAny_setField_rec hz0 (by simp) fun h₁ hz₁ hs₁ => ?_)
    replace hz₁ : h₁.get? z = some (ZO .ellipsis f1 TI TO) := hz₁
    refine wpAny_bind ?_
    simp only [List.zipIdx_cons, List.zipIdx_nil, List.forIn_cons, List.forIn_nil]
    refine wpAny_bind (wpAny_bind (wpAny_onRaise ?_))
    show wpAny _ _ (Builtin.SmallTypes.nextOf (.ref i1) >>= _) _ _ _
    refine wpAny_bind (RZ.nextOf_tuple_item (h1.extBut hs₁.extBut D.i1z) (hl1.extBut hs₁.extBut D.l1z) hx fun h₂ h1₂ hs₂ => wpAny_pure ?_)
    have hTO₂ : IsPair h₂ TO a b := hs₂.extBut _ _ D.TOi1 (hs₁.extBut _ _ D.TOz hTO)
    refine wpAny_bind (wpAny_seqItems hTO₂ rfl ?_)
    refine wpAny_bind (wpAny_updateSeq_pair hTO₂ fun h₃ hTO₃ hs₃ => ?_)
    replace hTO₃ : IsPair h₃ TO x b := hTO₃
    refine wpAny_bind (wpAny_letGo (wpAny_pure ?_))
    refine wpAny_bind (wpAny_bind (wpAny_onRaise ?_))
    show wpAny _ _ (Builtin.SmallTypes.nextOf (.ref i2) >>= _) _ _ _
    refine wpAny_bind (RZ.nextOf_tuple_item (((h2.extBut hs₁.extBut D.i2z).extBut hs₂.extBut D.i12.symm).extBut hs₃.extBut D.TOi2.symm)
      (((hl2.extBut hs₁.extBut D.l2z).extBut hs₂.extBut D.l2i1).extBut hs₃.extBut D.l2TO) hy fun h₄ h2₄ hs₄ => wpAny_pure ?_)
    have hTO₄ : IsPair h₄ TO x b := hs₄.extBut _ _ D.TOi2 hTO₃
    refine wpAny_bind (wpAny_seqItems hTO₄ rfl ?_)
    refine wpAny_bind (wpAny_updateSeq_pair hTO₄ fun h₅ hTO₅ hs₅ => ?_)
    replace hTO₅ : IsPair h₅ TO x y := hTO₅
    refine wpAny_bind (wpAny_letGo (wpAny_pure (wpAny_pure ?_)))
    refine wpAny_bind (wpAny_seqItems hTO₅ rfl ?_)
    refine wpAny_bind (wpAny_newTuple ?_)
    have hsz : h₅.objs.size = s.heap.objs.size := by rw [hs₅.1, hs₄.1, hs₃.1, hs₂.1, hs₁.1]
    have hk₅ : ∀ c o, c ≠ TO → c ≠ i1 → c ≠ i2 → h₁.get? c = some o → h₅.get? c = some o := fun c o c2 c3 c4 e =>
      hs₅.extBut _ _ c2 (hs₄.extBut _ _ c4 (hs₃.extBut _ _ c2 (hs₂.extBut _ _ c3 e)))
    have hz₅ := hk₅ _ _ D.TOz.symm D.i1z.symm D.i2z.symm hz₁
    have h1₅ : h₅.IsTupleIter i1 l1 (k1 + 1) := ((h1₂.extBut hs₃.extBut D.TOi1.symm).extBut hs₄.extBut D.i12).extBut hs₅.extBut D.TOi1.symm
    have h2₅ : h₅.IsTupleIter i2 l2 (k2 + 1) := h2₄.extBut hs₅.extBut D.TOi2.symm
    have hzlt : z < h₅.objs.size := Heap.lt_size hz₅
    show wpAny _ _ (Builtin.SmallTypes.ownedTupleHandOut (.ref z) (.ref h₅.objs.size) >>= _) _ _ _
    refine wpAny_bind ?_
    unfold Builtin.SmallTypes.ownedTupleHandOut
    refine wpAny_bind (wpAny_setField_rec (s := { s with heap := h₅.push { cls := .type "tuple", data := .seq #[x, y] } }) (Heap.get?_push_of_some _ hz₅) (by simp) fun h₇ hz₇ hs₇ => ?_)
    replace hz₇ : h₇.get? z = some (ZO (rawInt h₅.objs.size) f1 TI TO) := hz₇
    refine wpAny_setField_rec hz₇ (by simp) fun h₈ hz₈ hs₈ => ?_
    replace hz₈ : h₈.get? z = some (ZO (rawInt h₅.objs.size) false TI TO) := hz₈
    have up : ∀ c o, c ≠ z → h₅.get? c = some o → h₈.get? c = some o := fun c o c1 e => hs₈.extBut _ _ c1 (hs₇.extBut _ _ c1 (Heap.get?_push_of_some _ e))
    have hT₈ : IsPair h₈ h₅.objs.size x y := hs₈.extBut _ _ (Nat.ne_of_gt hzlt) (hs₇.extBut _ _ (Nat.ne_of_gt hzlt) (Heap.get?_push_size _ rfl))
    have hz8 : h₈.objs.size = h₅.objs.size + 1 := by rw [hs₈.1, hs₇.1, Heap.size_push]
    rw [hsz] at hT₈ hz8
    refine wpAny_pure ⟨_, rfl, ?_⟩
    show Q (.ref h₅.objs.size) _
    rw [hsz]
    exact hQ h₈ ⟨_, _, .inr ⟨_, rfl⟩, hz₈⟩ ⟨_, _, up _ _ D.TOz hTO₅⟩ (h1₅.at fun o e => up _ o D.i1z e) (h2₅.at fun o e => up _ o D.i2z e) hT₈ hz8 fun c o c1 c2 c3 c4 e => up c o c1 (hk₅ c o c2 c3 c4 (hs₁.extBut _ _ c1 e))
  · simp only [Bool.false_eq_true, if_false]
    refine wpAny_bind ?_
    rw [← Array.forIn_toList]
    simp only [List.forIn_cons, List.forIn_nil]
    refine wpAny_bind (wpAny_bind (wpAny_holding ?_))
    show wpAny _ _ (Builtin.SmallTypes.nextOf (.ref i1) >>= _) _ _ _
    refine wpAny_bind (RZ.nextOf_tuple_item (s := { s with heap := h₁ }) (h1.extBut hs₁.extBut D.i1z) (hl1.extBut hs₁.extBut D.l1z) hx fun h₂ h1₂ hs₂ => wpAny_pure ?_)
    refine wpAny_pure ?_
    refine wpAny_bind (wpAny_bind (wpAny_holding ?_))
    show wpAny _ _ (Builtin.SmallTypes.nextOf (.ref i2) >>= _) _ _ _
    refine wpAny_bind (RZ.nextOf_tuple_item (s := { s with heap := h₂ }) ((h2.extBut hs₁.extBut D.i2z).extBut hs₂.extBut D.i12.symm) ((hl2.extBut hs₁.extBut D.l2z).extBut hs₂.extBut D.l2i1) hy fun h₃ h2₃ hs₃ => wpAny_pure ?_)
    refine wpAny_pure (wpAny_pure ?_)
    show wpAny _ _ (newTuple [x, y] >>= _) _ _ _
    refine wpAny_bind (wpAny_newTuple ?_)
    have hsz : h₃.objs.size = s.heap.objs.size := by rw [hs₃.1, hs₂.1, hs₁.1]
    have hk : ∀ c o, c ≠ i1 → c ≠ i2 → h₁.get? c = some o → (h₃.push { cls := .type "tuple", data := .seq #[x, y] }).get? c = some o := fun c o c2 c3 e => Heap.get?_push_of_some _ (hs₃.extBut _ _ c3 (hs₂.extBut _ _ c2 e))
    have h1₃ : h₃.IsTupleIter i1 l1 (k1 + 1) := h1₂.extBut hs₃.extBut D.i12
    refine wpAny_pure ⟨_, rfl, ?_⟩
    show Q (.ref h₃.objs.size) _
    have hp : IsPair (h₃.push { cls := .type "tuple", data := .seq #[x, y] }) h₃.objs.size x y := Heap.get?_push_size _ rfl
    have hz4 : (h₃.push { cls := .type "tuple", data := .seq #[x, y] }).objs.size = h₃.objs.size + 1 := Heap.size_push ..
    rw [hsz] at hp hz4 ⊢
    exact hQ _ (hz₁.keep fun o e => hk _ _ D.i1z.symm D.i2z.symm e) ⟨a, b, hk _ _ D.TOi1 D.TOi2 (hs₁.extBut _ _ D.TOz hTO)⟩ (h1₃.at fun o e => Heap.get?_push_of_some _ e) (h2₃.at fun o e => Heap.get?_push_of_some _ e) hp hz4
      fun c o c1 _ c3 c4 e => hk c o c3 c4 (hs₁.extBut _ _ c1 e)
theorem next_end {z TI TO i1 i2 l1 l2 : Addr} {k1 k2 : Nat} {xs ys : Array Value} {Q : Fin → Shared → Prop} (hh : A.handled = none) (D : ZipApart z TI TO i1 i2 l1 l2)
    (hz : ZG s.heap z TI TO) (hTI : IsPair s.heap TI (.ref i1) (.ref i2)) (hTO : ∃ a b, IsPair s.heap TO a b)
    (h1 : s.heap.IsTupleIter i1 l1 k1) (h2 : s.heap.IsTupleIter i2 l2 k2) (hl1 : s.heap.IsTuple l1 xs) (hl2 : s.heap.IsTuple l2 ys) (hend : xs[k1]? = none ∨ ys[k2]? = none)
    (hE : ∀ h' e, (∀ c o, c ≠ z → c ≠ TO → c ≠ i1 → c ≠ i2 → s.heap.get? c = some o → h'.get? c = some o) → (∃ o, h'.get? e = some o ∧ o.cls = .type "StopIteration") → E (.ref e) { s with heap := h' }) :
    wpAny (model prog w) A (Builtin.«zip.__next__» ⟨[.ref z], []⟩) Q E s := by
  obtain ⟨f0, f1, hf, hz0⟩ := id hz
  obtain ⟨a, b, hTO⟩ := hTO
  show wpAny _ _ (field (.ref z) 2 >>= _) _ _ _
  refine wpAny_bind (wpAny_field hz0 rfl (x := .bool false) rfl ?_)
  show wpAny _ _ (field (.ref z) 3 >>= _) _ _ _
  refine wpAny_bind (wpAny_field hz0 rfl (x := .ref TI) rfl ?_)
  refine wpAny_bind (wpAny_seqItems hTI rfl ?_)
  show wpAny _ _ (Builtin.SmallTypes.ownedTupleIsFree (.ref z) >>= _) _ _ _
  refine wpAny_bind (free hz ?_ fun h₁ hz₁ hs₁ => ?_)
  · simp only [if_true]
    refine wpAny_bind (wpAny_rule ?_)
    refine wpAny_bind (wpAny_field hz0 rfl (x := .ref TO) rfl ?_)
    refine wpAny_bind (wpAny_setField_rec hz0 (by simp) fun h₁ hz₁ hs₁ => ?_)
    replace hz₁ : h₁.get? z = some (ZO .ellipsis f1 TI TO) := hz₁
    refine wpAny_bind ?_
    simp only [List.zipIdx_cons, List.zipIdx_nil, List.forIn_cons, List.forIn_nil]
    refine wpAny_bind (wpAny_bind (wpAny_onRaise ?_))
    show wpAny _ _ (Builtin.SmallTypes.nextOf (.ref i1) >>= _) _ _ _
    cases hx : xs[k1]? with
    | none =>
      refine wpAny_bind (RZ.nextOf_tuple_end hh (h1.extBut hs₁.extBut D.i1z) (hl1.extBut hs₁.extBut D.l1z) hx fun h₂ e hs₂ he => ?_)
      obtain ⟨oe, hoe, hce⟩ := he
      have hz₂ : h₂.get? z = some (ZO .ellipsis f1 TI TO) := hs₂ _ _ D.i1z.symm hz₁
      have hez : e ≠ z := fun x => by subst x; rw [hz₂] at hoe; cases hoe; simp at hce
      refine wpAny_setField_rec hz₂ (by simp) fun h₃ _ hs₃ => hE h₃ e (fun c o c1 _ c3 _ x => hs₃.extBut _ _ c1 (hs₂ _ _ c3 (hs₁.extBut _ _ c1 x))) ⟨oe, hs₃.extBut _ _ hez hoe, hce⟩
    | some x =>
      have hy : ys[k2]? = none := by rcases hend with h | h; rw [hx] at h; cases h; exact h
      refine wpAny_bind (RZ.nextOf_tuple_item (h1.extBut hs₁.extBut D.i1z) (hl1.extBut hs₁.extBut D.l1z) hx fun h₂ h1₂ hs₂ => wpAny_pure ?_)
      have hTO₂ : IsPair h₂ TO a b := hs₂.extBut _ _ D.TOi1 (hs₁.extBut _ _ D.TOz hTO)
      refine wpAny_bind (wpAny_seqItems hTO₂ rfl ?_)
      refine wpAny_bind (wpAny_updateSeq_pair hTO₂ fun h₃ hTO₃ hs₃ => ?_)
      refine wpAny_bind (wpAny_letGo (wpAny_pure ?_))
      refine wpAny_bind (wpAny_bind (wpAny_onRaise ?_))
      show wpAny _ _ (Builtin.SmallTypes.nextOf (.ref i2) >>= _) _ _ _
      refine wpAny_bind (RZ.nextOf_tuple_end hh (((h2.extBut hs₁.extBut D.i2z).extBut hs₂.extBut D.i12.symm).extBut hs₃.extBut D.TOi2.symm)
        (((hl2.extBut hs₁.extBut D.l2z).extBut hs₂.extBut D.l2i1).extBut hs₃.extBut D.l2TO) hy fun h₄ e hs₄ he => ?_)
      obtain ⟨oe, hoe, hce⟩ := he
      have hz₄ : h₄.get? z = some (ZO .ellipsis f1 TI TO) := hs₄ _ _ D.i2z.symm (hs₃.extBut _ _ D.TOz.symm (hs₂.extBut _ _ D.i1z.symm hz₁))
      have hez : e ≠ z := fun x => by subst x; rw [hz₄] at hoe; cases hoe; simp at hce
      refine wpAny_setField_rec hz₄ (by simp) fun h₅ _ hs₅ => hE h₅ e (fun c o c1 c2 c3 c4 x => hs₅.extBut _ _ c1 (hs₄ _ _ c4 (hs₃.extBut _ _ c2 (hs₂.extBut _ _ c3 (hs₁.extBut _ _ c1 x))))) ⟨oe, hs₅.extBut _ _ hez hoe, hce⟩
  · simp only [Bool.false_eq_true, if_false]
    refine wpAny_bind ?_
    rw [← Array.forIn_toList]
    simp only [List.forIn_cons, List.forIn_nil]
    refine wpAny_bind (wpAny_bind (wpAny_holding ?_))
    show wpAny _ _ (Builtin.SmallTypes.nextOf (.ref i1) >>= _) _ _ _
    cases hx : xs[k1]? with
    | none =>
      refine wpAny_bind (RZ.nextOf_tuple_end (s := { s with heap := h₁ }) hh (h1.extBut hs₁.extBut D.i1z) (hl1.extBut hs₁.extBut D.l1z) hx fun h₂ e hs₂ he => ?_)
      exact hE h₂ e (fun c o c1 _ c3 _ x => hs₂ _ _ c3 (hs₁.extBut _ _ c1 x)) he
    | some x =>
      have hy : ys[k2]? = none := by rcases hend with h | h; rw [hx] at h; cases h; exact h
      refine wpAny_bind (RZ.nextOf_tuple_item (s := { s with heap := h₁ }) (h1.extBut hs₁.extBut D.i1z) (hl1.extBut hs₁.extBut D.l1z) hx fun h₂ h1₂ hs₂ => wpAny_pure ?_)
      refine wpAny_pure ?_
      refine wpAny_bind (wpAny_bind (wpAny_holding ?_))
      show wpAny _ _ (Builtin.SmallTypes.nextOf (.ref i2) >>= _) _ _ _
      refine wpAny_bind (RZ.nextOf_tuple_end (s := { s with heap := h₂ }) hh ((h2.extBut hs₁.extBut D.i2z).extBut hs₂.extBut D.i12.symm) ((hl2.extBut hs₁.extBut D.l2z).extBut hs₂.extBut D.l2i1) hy fun h₃ e hs₃ he => ?_)
      exact hE h₃ e (fun c o c1 _ c3 c4 x => hs₃ _ _ c4 (hs₂.extBut _ _ c3 (hs₁.extBut _ _ c1 x))) he
theorem nextOf_item {z TI TO i1 i2 l1 l2 : Addr} {k1 k2 : Nat} {xs ys : Array Value} {x y : Value} {Q : Value → Shared → Prop} (D : ZipApart z TI TO i1 i2 l1 l2)
    (hz : ZG s.heap z TI TO) (hTI : IsPair s.heap TI (.ref i1) (.ref i2)) (hTO : ∃ a b, IsPair s.heap TO a b)
    (h1 : s.heap.IsTupleIter i1 l1 k1) (h2 : s.heap.IsTupleIter i2 l2 k2) (hl1 : s.heap.IsTuple l1 xs) (hl2 : s.heap.IsTuple l2 ys) (hx : xs[k1]? = some x) (hy : ys[k2]? = some y)
    (hQ : ∀ h', ZG h' z TI TO → (∃ a b, IsPair h' TO a b) → h'.IsTupleIter i1 l1 (k1 + 1) → h'.IsTupleIter i2 l2 (k2 + 1) → IsPair h' s.heap.objs.size x y → h'.objs.size = s.heap.objs.size + 1 →
      (∀ c o, c ≠ z → c ≠ TO → c ≠ i1 → c ≠ i2 → s.heap.get? c = some o → h'.get? c = some o) → Q (.ref s.heap.objs.size) { s with heap := h' }) :
    wpAny (model prog w) A (Builtin.SmallTypes.nextOf (.ref z)) Q E s := by
  obtain ⟨f0, f1, hf, hz0⟩ := id hz
  have hT : s.TypeIs (.ref z) "zip" := ⟨_, hz0, rfl⟩
  unfold Builtin.SmallTypes.nextOf
  exact wpAny_bind (wpAny_callSpecial?_slot (name := Str.ofString "__next__") hT F.slot_zip_next (wpAny_call_entry F.slot_zip_next hT F.entry_zip_next
    (next_item D hz hTI hTO h1 h2 hl1 hl2 hx hy fun h' a1 a2 a3 a4 a5 a6 a7 => wpAny_pure (hQ h' a1 a2 a3 a4 a5 a6 a7)) (F.args_zip_next_1 _)))
theorem nextOf_end {z TI TO i1 i2 l1 l2 : Addr} {k1 k2 : Nat} {xs ys : Array Value} {Q : Value → Shared → Prop} (hh : A.handled = none) (D : ZipApart z TI TO i1 i2 l1 l2)
    (hz : ZG s.heap z TI TO) (hTI : IsPair s.heap TI (.ref i1) (.ref i2)) (hTO : ∃ a b, IsPair s.heap TO a b)
    (h1 : s.heap.IsTupleIter i1 l1 k1) (h2 : s.heap.IsTupleIter i2 l2 k2) (hl1 : s.heap.IsTuple l1 xs) (hl2 : s.heap.IsTuple l2 ys) (hend : xs[k1]? = none ∨ ys[k2]? = none)
    (hE : ∀ h' e, (∀ c o, c ≠ z → c ≠ TO → c ≠ i1 → c ≠ i2 → s.heap.get? c = some o → h'.get? c = some o) → (∃ o, h'.get? e = some o ∧ o.cls = .type "StopIteration") → E (.ref e) { s with heap := h' }) :
    wpAny (model prog w) A (Builtin.SmallTypes.nextOf (.ref z)) Q E s := by
  obtain ⟨f0, f1, hf, hz0⟩ := id hz
  have hT : s.TypeIs (.ref z) "zip" := ⟨_, hz0, rfl⟩
  unfold Builtin.SmallTypes.nextOf
  exact wpAny_bind (wpAny_callSpecial?_slot (name := Str.ofString "__next__") hT F.slot_zip_next (wpAny_call_entry F.slot_zip_next hT F.entry_zip_next
    (next_end hh D hz hTI hTO h1 h2 hl1 hl2 hend hE) (F.args_zip_next_1 _)))
theorem enum_item {e it : Addr} {i : Nat} {old : Value} {Q : Value → Shared → Prop} (he : IsEnum s.heap e it i old)
    (hn : wpAny (model prog w) A (Builtin.SmallTypes.nextOf (.ref it)) (fun x s1 => IsEnum s1.heap e it i old ∧ ∀ h', IsEnumOut h' e it ((i : Int) + 1) x s1.heap.objs.size → h'.get? s1.heap.objs.size = some { cls := .type "tuple", data := .seq #[.int i s1.toks, x] } →
      h'.objs.size = s1.heap.objs.size + 1 → (∀ b o, b ≠ e → s1.heap.get? b = some o → h'.get? b = some o) → Q (.ref s1.heap.objs.size) { s1 with heap := h', toks := s1.toks + 1 }) E s) :
    wpAny (model prog w) A (Builtin.«enumerate.__next__» ⟨[.ref e], []⟩) (fun fin s' => ∃ v, fin = .done (.ret v) ∧ Q v s') E s := by
  show wpAny _ _ (field (.ref e) 2 >>= _) _ _ _
  refine wpAny_bind (wpAny_field he rfl (x := .ref it) rfl ?_)
  refine wpAny_bind (thn hn fun x s1 q => ?_)
  clear hn he
  obtain ⟨hp, g, d, tk, os⟩ := s1
  obtain ⟨he₁, hQ⟩ := q
  replace he₁ : IsEnum hp e it i old := he₁
  show wpAny _ _ (field (.ref e) 3 >>= _) _ _ ⟨hp, g, d, tk, os⟩
  refine wpAny_bind (wpAny_field he₁ rfl (x := rawInt i) rfl ?_)
  show wpAny _ _ (field (.ref e) 4 >>= _) _ _ ⟨hp, g, d, tk, os⟩
  refine wpAny_bind (wpAny_field he₁ rfl (x := .none) rfl ?_)
  show wpAny _ _ (mkInt i >>= _) _ _ ⟨hp, g, d, tk, os⟩
  refine wpAny_bind (wpAny_mkInt ?_)
  show wpAny _ _ (setField (.ref e) 3 (rawInt ((i : Int) + 1)) >>= _) _ _ ⟨hp, g, d, tk + 1, os⟩
  refine wpAny_bind (wpAny_setField_rec he₁ (by simp) fun h₂ he₂ hs₂ => ?_)
  replace hs₂ : Heap.SameBut e hp h₂ := hs₂
  replace he₂ : IsEnum h₂ e it ((i : Int) + 1) old := he₂
  show wpAny _ _ (setField (.ref e) 4 .none >>= _) _ _ ⟨h₂, g, d, tk + 1, os⟩
  refine wpAny_bind (wpAny_setField_rec he₂ (by simp) fun h₃ he₃ hs₃ => ?_)
  replace hs₃ : Heap.SameBut e h₂ h₃ := hs₃
  replace he₃ : IsEnum h₃ e it ((i : Int) + 1) old := he₃
  show wpAny _ _ (newTuple [.int i tk, x] >>= _) _ _ ⟨h₃, g, d, tk + 1, os⟩
  refine wpAny_bind (wpAny_newTuple ?_)
  have hsz : h₃.objs.size = hp.objs.size := by rw [hs₃.1, hs₂.1]
  have hel : e < h₃.objs.size := Heap.lt_size he₃
  generalize hh₄ : h₃.push { cls := .type "tuple", data := .seq #[.int i tk, x] } = h₄
  have he₄ : IsEnum h₄ e it ((i : Int) + 1) old := by rw [← hh₄]; exact Heap.get?_push_of_some _ he₃
  have ht₄ : h₄.get? h₃.objs.size = some { cls := .type "tuple", data := .seq #[.int i tk, x] } := by rw [← hh₄]; exact Heap.get?_push_size _ rfl
  have hz₄ : h₄.objs.size = h₃.objs.size + 1 := by rw [← hh₄, Heap.size_push]
  have hk₄ : ∀ b o, b ≠ e → hp.get? b = some o → h₄.get? b = some o := fun b o hb y => by
    rw [← hh₄]
    exact Heap.get?_push_of_some _ (hs₃.extBut b o hb (hs₂.extBut b o hb y))
  show wpAny _ _ (Builtin.SmallTypes.ownedTupleIsFree (.ref e) >>= _) _ _ ⟨h₄, g, d, tk + 1, os⟩
  rw [hsz] at ht₄ hz₄ hel ⊢
  clear hh₄ hsz he₃ hs₃ h₃ he₂ hs₂ h₂
  refine wpAny_bind ?_
  unfold Builtin.SmallTypes.ownedTupleIsFree
  refine wpAny_bind (wpAny_field he₄ rfl (x := .none) rfl (wpAny_pure ?_))
  simp only [if_true]
  refine wpAny_bind (wpAny_rule ?_)
  refine wpAny_bind (wpAny_field he₄ rfl (x := old) rfl ?_)
  refine wpAny_bind (wpAny_setField_rec he₄ (by simp) fun h₅ he₅ hs₅ => ?_)
  replace hs₅ : Heap.SameBut e h₄ h₅ := hs₅
  replace he₅ : IsEnum h₅ e it ((i : Int) + 1) x := he₅
  show wpAny _ _ (Builtin.SmallTypes.ownedTupleHandOut (.ref e) (.ref hp.objs.size) >>= _) _ _ ⟨h₅, g, d, tk + 1, os⟩
  refine wpAny_bind ?_
  unfold Builtin.SmallTypes.ownedTupleHandOut
  refine wpAny_bind (wpAny_setField_rec he₅ (by simp) fun h₆ he₆ hs₆ => ?_)
  replace hs₆ : Heap.SameBut e h₅ h₆ := hs₆
  replace he₆ : IsEnumOut h₆ e it ((i : Int) + 1) x hp.objs.size := he₆
  refine wpAny_setField_rec he₆ (by simp) fun h₇ he₇ hs₇ => ?_
  replace hs₇ : Heap.SameBut e h₆ h₇ := hs₇
  replace he₇ : IsEnumOut h₇ e it ((i : Int) + 1) x hp.objs.size := he₇
  have up : ∀ b o, b ≠ e → h₄.get? b = some o → h₇.get? b = some o := fun b o hb y => hs₇.extBut b o hb (hs₆.extBut b o hb (hs₅.extBut b o hb y))
  exact wpAny_bind (wpAny_letGo (wpAny_pure ⟨_, rfl, hQ h₇ he₇ (up _ _ (Nat.ne_of_gt hel) ht₄) (by rw [hs₇.1, hs₆.1, hs₅.1, hz₄]) fun b o hb y => up b o hb (hk₄ b o hb y)⟩))
theorem pyNext_item {e it : Addr} {i : Nat} {old : Value} {Q : Option Value → Shared → Prop} (he : IsEnum s.heap e it i old)
    (hn : ∀ E, wpAny (model prog w) A.in1 (Builtin.SmallTypes.nextOf (.ref it)) (fun x s1 => IsEnum s1.heap e it i old ∧ ∀ h', IsEnumOut h' e it ((i : Int) + 1) x s1.heap.objs.size → h'.get? s1.heap.objs.size = some { cls := .type "tuple", data := .seq #[.int i s1.toks, x] } →
      h'.objs.size = s1.heap.objs.size + 1 → (∀ b o, b ≠ e → s1.heap.get? b = some o → h'.get? b = some o) → Q (some (.ref s1.heap.objs.size)) { s1 with heap := h', toks := s1.toks + 1 }) E s) :
    wpAny (model prog w) A (pyNext (.ref e)) Q E s := by
  have hT : s.TypeIs (.ref e) "enumerate" := ⟨_, he, rfl⟩
  unfold pyNext
  exact wpAny_bind (wpAny_attempt (wpAny_callSpecial?_slot (name := Str.ofString "__next__") hT F.slot_enumerate_next (wpAny_call_entry F.slot_enumerate_next hT F.entry_enumerate_next
    (enum_item he (thn (hn _) fun x s1 q => ⟨q.1, fun h' a b c d => wpAny_pure (q.2 h' a b c d)⟩)) (F.args_enumerate_next_1 _))))
theorem pyNext_end {e it : Addr} {i : Int} {old : Value} {Kr : Heap → Prop} {Q : Option Value → Shared → Prop} (he : IsEnum s.heap e it i old)
    (hd : ∀ (Q : Value → Shared → Prop) (E : Value → Shared → Prop), (∀ h' x, Kr h' → (∃ o, h'.get? x = some o ∧ o.cls = .type "StopIteration") → E (.ref x) { s with heap := h' }) → wpAny (model prog w) A.in1 (Builtin.SmallTypes.nextOf (.ref it)) Q E s)
    (hQ : ∀ h', Kr h' → Q none { s with heap := h' }) : wpAny (model prog w) A (pyNext (.ref e)) Q E s := by
  have hT : s.TypeIs (.ref e) "enumerate" := ⟨_, he, rfl⟩
  unfold pyNext
  refine wpAny_bind (wpAny_attempt (wpAny_callSpecial?_slot (name := Str.ofString "__next__") hT F.slot_enumerate_next
    (wpAny_call_entry F.slot_enumerate_next hT F.entry_enumerate_next ?_ (F.args_enumerate_next_1 _))))
  show wpAny _ _ (field (.ref e) 2 >>= _) _ _ _
  refine wpAny_bind (wpAny_field he rfl (x := .ref it) rfl ?_)
  refine wpAny_bind (hd _ _ fun h' x he' hx' => ?_)
  obtain ⟨o, ho, hc⟩ := hx'
  refine wpAny_bind (wpAny_isInstance (T := "StopIteration") (b := true) ⟨o, ho, hc⟩ isSubtype_stop ?_)
  exact wpAny_pure (hQ _ he')
end
end EZ
set_option maxHeartbeats 4000000
/-! enumerate(zip(a, b)): its turns, its making -/
namespace EZ
open PySem PySem.Spec PyProof.Rows L2
theorem new_enumZ {z TI TO : Addr} : Meets (Builtin.«enumerate.__new__» ⟨[.type "enumerate", .ref z], []⟩) (fun _ R s => IsZip s.heap z TI TO .none ∧
    R (.ok (.ret (.ref s.heap.objs.size))) { s with heap := s.heap.push { cls := .type "enumerate", data := .fields #[.none, .bool false, .ref z, rawInt 0, .none, .none] } }) := .of_wp fun prog w A R s hs => by
  obtain ⟨hp, g, d, tk, os⟩ := s
  obtain ⟨hG, hR⟩ := hs
  have sub0 := sub_enumerate
  have it1 : ∀ {A' : Around} {E Q : Value → Shared → Prop}, Q (.ref z) ⟨hp, g, d, tk, os⟩ → wpAny (model prog w) A' (pyIter (.ref z)) Q E ⟨hp, g, d, tk, os⟩ := fun q => wpAny_pyIter_zip hG q
  have fin : R (.ok (.ret (.ref hp.objs.size))) ⟨hp.push { cls := .type "enumerate", data := .fields #[.none, .bool false, .ref z, rawInt 0, .none, .none] }, g, d, tk, os⟩ := hR
  wp_walk using it1
  refine wpAny_stack_any fun st => wpAny_pure ?_
  split
  · rename_i c _ _ _ _ _
    cases (c == Value.type "enumerate") <;> (wp_walk using it1; exact ⟨_, rfl, fin⟩)
  · wp_walk using it1
    exact ⟨_, rfl, fin⟩
theorem call_enumZ {prog : Program} {w : World} {A : Around} {E : Value → Shared → Prop} {s : Shared} {z TI TO : Addr} {Q : Value → Shared → Prop} (hG : IsZip s.heap z TI TO .none)
    (h : ∀ h', IsEnum h' s.heap.objs.size z 0 .none → (∀ b ob, s.heap.get? b = some ob → h'.get? b = some ob) → Q (.ref s.heap.objs.size) { s with heap := h' }) :
    wpAny (model prog w) A (call (.type "enumerate") [.ref z]) Q E s := by
  refine callType_new F.called_enumerate (by decide) (F.typeCall_enumerate_1 _) (F.newCall_enumerate_1 _) (fun obj => F.args_object_init_2 obj _) F.entry_enumerate_new (new_enumZ (z := z) (TI := TI) (TO := TO)) ⟨hG, ?_⟩
  have he : IsEnum (s.heap.push { cls := .type "enumerate", data := .fields #[.none, .bool false, .ref z, rawInt 0, .none, .none] }) s.heap.objs.size z 0 .none := Heap.get?_push_size _ rfl
  exact ⟨⟨_, he, rfl⟩, h _ he fun b ob x => Heap.get?_push_of_some _ x⟩
/-- the tuples at a and b, each pair of items in a new pair behind its place -/
def IteZ (K : PySem.W.Frag) (a b : Addr) : It :=
  ⟨fun i H => ∃ (xs ys : List V) (x y : V), SqT K H a xs ∧ SqT K H b ys ∧ xs[i]? = some x ∧ ys[i]? = some y,
   fun i H v H' => ∃ T U x y, v = .ref U ∧ H T = none ∧ H U = none ∧ U ≠ T ∧ H' = upd (upd H T (.tup [x, y])) U (.tup [.int (i : Nat), .ref T]) ∧ (∀ xs, SqT K H a xs → xs[i]? = some x) ∧ ∀ ys, SqT K H b ys → ys[i]? = some y,
   fun i H => ∃ xs ys : List V, SqT K H a xs ∧ SqT K H b ys ∧ (xs.length ≤ i ∨ ys.length ≤ i)⟩
theorem turn_enumZ {P : Program} {w : World} {K : PySem.W.Frag} {elts : List Expr} {kk : Nat} {tpos : Pos} {a b e z TI TO i1 i2 : Addr} (D : ZipApart z TI TO i1 i2 a b) (ne : ∀ c ∈ [z, TI, TO, i1, i2], e ≠ c) :
    Turn P w K (.Tuple elts kk tpos) (IteZ K a b) [e, z, TI, TO, i1, i2] e (fun i h => (∃ old, IsEnum h e z ((i : Nat) : Int) old) ∧ ZG h z TI TO ∧ IsPair h TI (.ref i1) (.ref i2) ∧ (∃ x y, IsPair h TO x y) ∧ h.IsTupleIter i1 a i ∧ h.IsTupleIter i2 b i) where
  mem := by simp
  obj := fun i h st c hc => by
    obtain ⟨⟨old, he⟩, ⟨f0, f1, _, hz⟩, hTI, ⟨x, y, hTO⟩, ⟨o1, e1, _, d1⟩, ⟨o2, e2, _, d2⟩⟩ := st
    have e' : c = e ∨ c = z ∨ c = TI ∨ c = TO ∨ c = i1 ∨ c = i2 := by simpa using hc
    rcases e' with q | q | q | q | q | q
    · rw [q]; exact ⟨_, he, fun v q => nomatch q⟩
    · rw [q]; exact ⟨_, hz, fun v q => nomatch q⟩
    · rw [q]; exact ⟨_, hTI, fun v q => nomatch q⟩
    · rw [q]; exact ⟨_, hTO, fun v q => nomatch q⟩
    · rw [q]; exact ⟨o1, e1, fun v q => by rw [d1] at q; cases q⟩
    · rw [q]; exact ⟨o2, e2, fun v q => by rw [d2] at q; cases q⟩
  keep := fun i h h' st k => by
    obtain ⟨⟨old, he⟩, hz, hTI, ⟨x, y, hTO⟩, h1, h2⟩ := st
    exact ⟨⟨old, k e (by simp) _ he⟩, hz.keep fun o q => k z (by simp) o q, k TI (by simp) _ hTI, ⟨x, y, k TO (by simp) _ hTO⟩, h1.at fun o q => k i1 (by simp) o q, h2.at fun o q => k i2 (by simp) o q⟩
  item := by
    intro X hP hw hK hc i pins s σ H E I hf st hg
    subst hP hw hK
    obtain ⟨⟨old, he⟩, hz, hTI, hTO, h1, h2⟩ := st
    obtain ⟨xs, ys, x, y, hqx, hqy, hx, hy⟩ := hg
    obtain ⟨its, rv, p, _⟩ := I.tuple hqx
    obtain ⟨its2, rv2, p2, _⟩ := I.tuple hqy
    obtain ⟨u, hu, ru⟩ := rv.get hx
    obtain ⟨u2, hu2, ru2⟩ := rv2.get hy
    have hel : e < s.heap.objs.size := Heap.lt_size he
    have lt : ∀ c ∈ [e, z, TI, TO, i1, i2], c < s.heap.objs.size := fun c hcm => by
      have e' : c = e ∨ c = z ∨ c = TI ∨ c = TO ∨ c = i1 ∨ c = i2 := by simpa using hcm
      rcases e' with q | q | q | q | q | q
      · rw [q]; exact hel
      · rw [q]; obtain ⟨o, q2⟩ := hz.get; exact Heap.lt_size q2
      · rw [q]; exact Heap.lt_size hTI
      · rw [q]; obtain ⟨_, _, q2⟩ := hTO; exact Heap.lt_size q2
      · rw [q]; obtain ⟨_, e1, _⟩ := h1; exact Heap.lt_size e1
      · rw [q]; obtain ⟨_, e2, _⟩ := h2; exact Heap.lt_size e2
    refine pyNext_item he fun E' => nextOf_item D hz hTI hTO h1 h2 p p2 (x := u) (y := u2) (by simpa using hu) (by simpa using hu2) fun h' z' TO' h1' h2' hT hsz hk =>
      ⟨hk _ _ (ne z (by simp)) (ne TO (by simp)) (ne i1 (by simp)) (ne i2 (by simp)) he, fun h'' eo hU hsz2 hk2 => ⟨_, rfl, wpAny_letOwnedTupleGo_enum (s := { s with heap := h'', toks := s.toks + 1 }) eo fun h3 e3 sb => ?_⟩⟩
    replace hU : h''.get? h'.objs.size = some { cls := .type "tuple", data := .seq #[.int i s.toks, .ref s.heap.objs.size] } := hU
    replace hk2 : ∀ b o, b ≠ e → h'.get? b = some o → h''.get? b = some o := hk2
    have hUe : h'.objs.size ≠ e := by rw [hsz]; exact Nat.ne_of_gt (Nat.lt_succ_of_lt hel)
    have hU3 : h3.get? h'.objs.size = some { cls := .type "tuple", data := .seq #[.int i s.toks, .ref s.heap.objs.size] } := (sb.2 _ hUe).trans hU
    have new1 : ObjOk X.prog X.w (upd H s.heap.objs.size (.tup [x, y])) h' s.heap.objs.size (.tup [x, y]) :=
      ⟨by show 2 ≤ sizeLine; decide, [u, u2], .cons ru (.cons ru2 .nil), ⟨_, hT, rfl, _, rfl⟩⟩
    have I1 : Inv X pins σ (upd H s.heap.objs.size (.tup [x, y])) { s with heap := h' } :=
      I.turnedNew (t' := s.toks) (ch := [e, z, TI, TO, i1, i2]) (fun c o hb q => hk c o (fun q' => hb (by simp [q'])) (fun q' => hb (by simp [q'])) (fun q' => hb (by simp [q'])) (fun q' => hb (by simp [q'])) q) hf (Nat.le_refl _) new1
    have hf1 : ∀ c ∈ [e, z, TI, TO, i1, i2], FpOk X pins (upd H s.heap.objs.size (.tup [x, y])) c := fun c hcm => ⟨by rw [upd_ne (Nat.ne_of_lt (lt c hcm))]; exact (hf c hcm).1, (hf c hcm).2⟩
    have hfT : H s.heap.objs.size = none := I.hok.fresh (Nat.le_refl _)
    have hfU : (upd H s.heap.objs.size (.tup [x, y])) h'.objs.size = none := I1.hok.fresh (Nat.le_refl _)
    have hTU : h'.objs.size ≠ s.heap.objs.size := by rw [hsz]; exact Nat.succ_ne_self _
    have new2 : ObjOk X.prog X.w (upd (upd H s.heap.objs.size (.tup [x, y])) h'.objs.size (.tup [.int i, .ref s.heap.objs.size])) h3 h'.objs.size (.tup [.int i, .ref s.heap.objs.size]) :=
      ⟨by show 2 ≤ sizeLine; decide, [.int i s.toks, .ref s.heap.objs.size], .cons ⟨_, rfl⟩ (.cons rfl .nil), ⟨_, hU3, rfl, _, rfl⟩⟩
    have k3 : ∀ b o, b ≠ e → h'.get? b = some o → h3.get? b = some o := fun b o hb q => (sb.2 b hb).trans (hk2 b o hb q)
    have I2 : Inv X pins σ (upd (upd H s.heap.objs.size (.tup [x, y])) h'.objs.size (.tup [.int i, .ref s.heap.objs.size])) { s with heap := h3, toks := s.toks + 1 } :=
      I1.turnedNew (t' := s.toks + 1) (ch := [e]) (fun c o hb q => k3 c o (fun q' => hb (by simp [q'])) q) (fun c hcm => hf1 c (by rw [List.mem_singleton.mp hcm]; exact List.mem_cons_self)) (Nat.le_refl _) new2
    refine ⟨.ref h'.objs.size, _, I2, rfl, ⟨s.heap.objs.size, h'.objs.size, x, y, rfl, hfT, (by rw [upd_ne hTU] at hfU; exact hfU), hTU, rfl, fun l hl => by rw [I.tuple_inj hl hqx]; exact hx, fun l hl => by rw [I.tuple_inj hl hqy]; exact hy⟩, ⟨⟨.ref s.heap.objs.size, ?_⟩, ?_, ?_, ?_, ?_, ?_⟩, fun c hcm => ?_⟩
    · rw [show ((i + 1 : Nat) : Int) = (i : Int) + 1 from by omega]
      exact e3
    · exact z'.keep fun o q => k3 _ o (Ne.symm (ne z (by simp))) q
    · exact k3 _ _ (Ne.symm (ne TI (by simp))) (hk _ _ D.TIz D.TITO D.TIi1 D.TIi2 hTI)
    · obtain ⟨a', b', q⟩ := TO'
      exact ⟨a', b', k3 _ _ (Ne.symm (ne TO (by simp))) q⟩
    · exact h1'.at fun o q => k3 _ o (Ne.symm (ne i1 (by simp))) q
    · exact h2'.at fun o q => k3 _ o (Ne.symm (ne i2 (by simp))) q
    · have l1 := lt c hcm
      rw [upd_ne (by rw [hsz]; exact Nat.ne_of_lt (Nat.lt_succ_of_lt l1))]
      exact (hf1 c hcm).1
  done := by
    intro X hP hw hK hc i pins s σ H E I hf st hg
    subst hP hw hK
    obtain ⟨⟨old, he⟩, hz, hTI, hTO, h1, h2⟩ := st
    obtain ⟨xs, ys, hqx, hqy, hend⟩ := hg
    obtain ⟨its, rv, p, _⟩ := I.tuple hqx
    obtain ⟨its2, rv2, p2, _⟩ := I.tuple hqy
    have l1 := rv.length
    have l2 := rv2.length
    have hx : its.toArray[i]? = none ∨ its2.toArray[i]? = none := by
      rcases hend with q | q
      · exact .inl (by simp; omega)
      · exact .inr (by simp; omega)
    exact pyNext_end he (Kr := fun h' => ∀ c o, c ≠ z → c ≠ TO → c ≠ i1 → c ≠ i2 → s.heap.get? c = some o → h'.get? c = some o)
      (fun Q E hE => nextOf_end (show X.A.in1.handled = none from I.ok.hd hc) D hz hTI hTO h1 h2 p p2 hx hE) fun h' hk => ⟨rfl, I.turnedL (t' := s.toks) (ch := [e, z, TI, TO, i1, i2]) (fun c o hb q =>
      hk c o (fun q' => hb (by simp [q'])) (fun q' => hb (by simp [q'])) (fun q' => hb (by simp [q'])) (fun q' => hb (by simp [q'])) q) hf⟩
  self := by
    rintro A i s Q E ⟨⟨old, he⟩, _⟩ h
    exact wpAny_pyIter_enum he h
def iEnumZ (K : PySem.W.Frag) (ta : TA) : TI := fun σ H R => ta σ H fun vs H1 => ∃ a b xs ys, vs = [.ref a, .ref b] ∧ SqT K H1 a xs ∧ SqT K H1 b ys ∧ R (IteZ K a b) H1
theorem pi_enumZ {X : Cx} {e e2 : Expr} {ta : TA} {p p2 pos pos2 tpos : Pos} {elts : List Expr} {kk : Nat} (hg : Gl X "enumerate") (hm : X.mg "enumerate" = none) (hg2 : Gl X "zip") (hm2 : X.mg "zip" = none) (ha : PA X [e, e2] ta)
    (hs : starEach [e, e2] X.env = (false, eval e X.env) :: starEach [e2] X.env := by rfl) (hpl : (backTo pos2 (starEach [e2] X.env)).any (·.1) = false := by rfl)
    (hs1 : starEach [.Call (.Name "zip" p2) [e, e2] [] pos2] X.env = [(false, eval (.Call (.Name "zip" p2) [e, e2] [] pos2) X.env)] := by rfl) :
    PI X (.Tuple elts kk tpos) (.Call (.Name "enumerate" p) [.Call (.Name "zip" p2) [e, e2] [] pos2] [] pos) (iEnumZ X.K ta) := by
  refine ⟨fun pins s σ H R I h => ?_⟩
  refine Call_ (ld_blt I hg hm boot_enumerate (PyProof.Rows.callWith_type1 ?_ hs1 rfl))
  rw [hs1]
  show wpAny _ _ (spliced ((false, eval (.Call (.Name "zip" p2) [e, e2] [] pos2) X.env) :: backTo pos (starEach [] X.env))) _ _ s
  refine Calls.spliced_cons (Call_ (ld_blt I hg2 hm2 PyProof.Rows.boot_zip (PyProof.Rows.callWith_type1 (thn (ha.run pos2 pins s σ H _ I h) fun us s1 ⟨vs, H1, I1, r1, q1⟩ => ?_) hs hpl)))
  obtain ⟨a, b, xs, ys, ex, hqx, hqy, q⟩ := q1
  subst ex
  cases r1 with
  | cons r rr =>
    cases rr with
    | cons r' rr =>
      cases rr
      cases r
      cases r'
      obtain ⟨its, rv, p1, _⟩ := I1.tuple hqx
      obtain ⟨its2, rv2, p2, _⟩ := I1.tuple hqy
      obtain ⟨o1, ho1, _⟩ := id p1
      obtain ⟨o2, ho2, _⟩ := id p2
      refine RZ.call_zipT (show s1.heap.IsTuple a its.toArray from p1) (show s1.heap.IsTuple b its2.toArray from p2) fun h' hz hTI hTO h1 h2 hsz hk => Calls.spliced_nil ?_
      refine call_enumZ (s := { s1 with heap := h' }) hz fun h2' he hk2 => wpAny_pyIter_enum he ?_
      replace he : IsEnum h2' h'.objs.size (s1.heap.objs.size + 4) 0 .none := he
      replace hk2 : ∀ b ob, h'.get? b = some ob → h2'.get? b = some ob := hk2
      rw [hsz] at he
      have e5 : ({ s1 with heap := h' } : Shared).heap.objs.size = s1.heap.objs.size + 5 := hsz
      have I2 : Inv X pins σ H1 { s1 with heap := h2' } := I1.kept (t' := s1.toks) fun b ob q => hk2 b ob (hk b ob q)
      have fresh6 : ∀ c, c ∈ [s1.heap.objs.size + 5, s1.heap.objs.size + 4, s1.heap.objs.size + 2, s1.heap.objs.size + 3, s1.heap.objs.size, s1.heap.objs.size + 1] → FpOk X pins H1 c := fun c hcm => by
        have e' : c = s1.heap.objs.size + 5 ∨ c = s1.heap.objs.size + 4 ∨ c = s1.heap.objs.size + 2 ∨ c = s1.heap.objs.size + 3 ∨ c = s1.heap.objs.size ∨ c = s1.heap.objs.size + 1 := by simpa using hcm
        have hle : s1.heap.objs.size ≤ c := by
          rcases e' with z | z | z | z | z | z
          · rw [z]; exact Nat.le_add_right _ _
          · rw [z]; exact Nat.le_add_right _ _
          · rw [z]; exact Nat.le_add_right _ _
          · rw [z]; exact Nat.le_add_right _ _
          · rw [z]; exact Nat.le_refl _
          · rw [z]; exact Nat.le_add_right _ _
        exact I1.fpOk hle (I1.hok.fresh hle)
      have ne : ∀ c ∈ [s1.heap.objs.size + 4, s1.heap.objs.size + 2, s1.heap.objs.size + 3, s1.heap.objs.size, s1.heap.objs.size + 1], s1.heap.objs.size + 5 ≠ c := fun c hcm => by
        have e' : c = s1.heap.objs.size + 4 ∨ c = s1.heap.objs.size + 2 ∨ c = s1.heap.objs.size + 3 ∨ c = s1.heap.objs.size ∨ c = s1.heap.objs.size + 1 := by simpa using hcm
        omega
      rw [e5]
      exact ⟨s1.heap.objs.size + 5, [s1.heap.objs.size + 5, s1.heap.objs.size + 4, s1.heap.objs.size + 2, s1.heap.objs.size + 3, s1.heap.objs.size, s1.heap.objs.size + 1], _, _, H1, rfl, I2, turn_enumZ (PySem.W.ktu_apart s1.heap.objs.size a b (Heap.lt_size ho1) (Heap.lt_size ho2)) ne,
        ⟨⟨.none, he⟩, ⟨.none, false, .inl rfl, hk2 _ _ hz⟩, hk2 _ _ hTI, ⟨_, _, hk2 _ _ hTO⟩, h1.at fun o q => hk2 _ o q, h2.at fun o q => hk2 _ o q⟩, fresh6, q⟩
end EZ
set_option maxHeartbeats 4000000
/-! zip of a list or a tuple and a list or a tuple, in any mix; any of data -/
namespace ZM
open PySem PySem.Spec PyProof.Rows L2
def SqB (K : PySem.W.Frag) (t : Bool) (H : Hp) (a : Addr) (xs : List V) : Prop := match t with
  | true => SqT K H a xs
  | false => SqL K H a xs
def ItB (t : Bool) (h : Heap) (it a : Addr) (i : Nat) : Prop := match t with
  | true => h.IsTupleIter it a i
  | false => h.IsListIter it a i
def HsB (t : Bool) (h : Heap) (a : Addr) (its : Array Value) : Prop := match t with
  | true => h.IsTuple a its
  | false => h.IsList a its
theorem drawsB {prog : Program} {w : World} {A : Around} (t : Bool) (hh : A.handled = none) (it l : Addr) (hne : l ≠ it) (items : Array Value) : Draws prog w A it [it, l] items.size (fun i v => items[i]? = some v) (fun i h => ItB t h it l i ∧ HsB t h l items) := by
  cases t
  · exact Draws.list hh it l hne items
  · exact Draws.tuple hh it l hne items
theorem ItB.get {t : Bool} {h : Heap} {it a : Addr} {i : Nat} (q : ItB t h it a i) : ∃ o, h.get? it = some o ∧ ∀ v, o.data ≠ .cell v := by
  cases t <;> (obtain ⟨o, e, _, d⟩ := q; exact ⟨o, e, fun v z => by rw [d] at z; cases z⟩)
theorem ItB.keep {t : Bool} {h h' : Heap} {it a : Addr} {i : Nat} (q : ItB t h it a i) (k : ∀ o, h.get? it = some o → h'.get? it = some o) : ItB t h' it a i := by
  cases t
  · exact Heap.IsListIter.at q fun o e => k o e
  · exact Heap.IsTupleIter.at q fun o e => k o e
theorem neB {t : Bool} {h : Heap} {it a : Addr} {i : Nat} {its : Array Value} (q : ItB t h it a i) (p : HsB t h a its) : a ≠ it := fun z => by
  subst z
  cases t
  · obtain ⟨o1, e1, c1, d1⟩ := q
    obtain ⟨o2, e2, c2, _⟩ := p
    rw [e1] at e2
    cases e2
    rw [c1] at c2
    exact absurd (Value.type.inj c2) (by decide)
  · obtain ⟨o1, e1, c1, d1⟩ := q
    obtain ⟨o2, e2, c2, _⟩ := p
    rw [e1] at e2
    cases e2
    rw [c1] at c2
    exact absurd (Value.type.inj c2) (by decide)
section
variable {X : Cx} {pins : List (Addr × Obj)} {σ : L2.St} {H : Hp} {s : Shared}
theorem seqB {t : Bool} {a : Addr} {xs : List V} (I : Inv X pins σ H s) (h : SqB X.K t H a xs) : ∃ its, Vals xs its ∧ HsB t s.heap a its.toArray ∧ a < s.heap.objs.size := by
  cases t
  · obtain ⟨its, rv, p, _⟩ := I.list h
    exact ⟨its, rv, p.isList, p.lt⟩
  · obtain ⟨its, rv, p, _⟩ := I.tuple h
    obtain ⟨o, e, _⟩ := id p
    exact ⟨its, rv, p, Heap.lt_size e⟩
theorem injB {t : Bool} {a : Addr} {xs ys : List V} (I : Inv X pins σ H s) (h : SqB X.K t H a xs) (h2 : SqB X.K t H a ys) : xs = ys := by
  cases t
  · exact I.list_inj h h2
  · exact I.tuple_inj h h2
end
/-- what lies at a and b at each turn, the items in new pairs -/
def Itm (K : PySem.W.Frag) (t u : Bool) (a b : Addr) : It :=
  ⟨fun i H => ∃ (xs ys : List V) (x y : V), SqB K t H a xs ∧ SqB K u H b ys ∧ xs[i]? = some x ∧ ys[i]? = some y,
    fun i H v H' => ∃ T x y, v = .ref T ∧ H T = none ∧ H' = upd H T (.tup [x, y]) ∧ (∀ xs, SqB K t H a xs → xs[i]? = some x) ∧ ∀ ys, SqB K u H b ys → ys[i]? = some y,
    fun i H => ∃ xs ys : List V, SqB K t H a xs ∧ SqB K u H b ys ∧ i ≤ xs.length ∧ i ≤ ys.length ∧ (xs.length = i ∨ ys.length = i)⟩
theorem walk_m {K : PySem.W.Frag} {t u : Bool} {a b : Addr} {xs ys : List V} {n : Nat} (hn : n = min xs.length ys.length) : Walk (Itm K t u a b) n (fun H => SqB K t H a xs ∧ SqB K u H b ys) (YPair (fun i => xs[i]?) (fun i => ys[i]?)) := by
  subst hn
  constructor
  · intro i H hi q
    have h1 : i < xs.length := by omega
    have h2 : i < ys.length := by omega
    exact ⟨xs, ys, xs[i], ys[i], q.1, q.2, List.getElem?_eq_getElem h1, List.getElem?_eq_getElem h2⟩
  · intro H q
    exact ⟨xs, ys, q.1, q.2, by omega, by omega, by omega⟩
  · rintro i H v H' - q ⟨T, x, y, e1, e2, e3, e4, e5⟩
    exact ⟨T, x, y, e1, e2, e3, e4 xs q.1, e5 ys q.2⟩
theorem turn_m {P : Program} {w : World} {K : PySem.W.Frag} {elts : List Expr} {kk : Nat} {tpos : Pos} {t u : Bool} {a b z TI TO i1 i2 : Addr} (D : ZipSep2 z TI TO i1 i2 [i1, a] [i2, b]) :
    Turn P w K (.Tuple elts kk tpos) (Itm K t u a b) [z, TI, TO, i1, i2] z (fun i h => IsZip h z TI TO .none ∧ IsTupOf2 h TI (.ref i1) (.ref i2) ∧ (∃ x y, IsTupOf2 h TO x y) ∧ ItB t h i1 a i ∧ ItB u h i2 b i) where
  mem := List.mem_cons_self
  obj := fun i h ⟨hz, hTI, ⟨x, y, hTO⟩, h1, h2⟩ c hc => by
    simp only [List.mem_cons, List.not_mem_nil, or_false] at hc
    rcases hc with rfl | rfl | rfl | rfl | rfl
    · exact ⟨_, hz, nofun⟩
    · exact ⟨_, hTI, nofun⟩
    · exact ⟨_, hTO, nofun⟩
    · exact h1.get
    · exact h2.get
  keep := fun i h h' ⟨hz, hTI, ⟨x, y, hTO⟩, h1, h2⟩ k => ⟨k z (by simp) _ hz, k TI (by simp) _ hTI, ⟨x, y, k TO (by simp) _ hTO⟩, h1.keep fun o e => k i1 (by simp) o e, h2.keep fun o e => k i2 (by simp) o e⟩
  item := by
    rintro X rfl rfl rfl hc i pins s σ H E I hf ⟨hz, hTI, ⟨x0, y0, hTO⟩, h1, h2⟩ ⟨xs, ys, x, y, hqx, hqy, hx, hy⟩
    obtain ⟨its, rv, p, _⟩ := seqB I hqx
    obtain ⟨its2, rv2, p2, _⟩ := seqB I hqy
    obtain ⟨v1, hv1, r1⟩ := rv.get hx
    obtain ⟨v2, hv2, r2⟩ := rv2.get hy
    have n1 : i < its.toArray.size := by
      have := (List.getElem?_eq_some_iff.mp hv1).1
      rw [List.size_toArray]
      exact this
    have n2 : i < its2.toArray.size := by
      have := (List.getElem?_eq_some_iff.mp hv2).1
      rw [List.size_toArray]
      exact this
    have hh : X.A.in1.handled = none := I.ok.hd hc
    have ai : a ≠ i1 := neB h1 p
    have bi : b ≠ i2 := neB h2 p2
    have hzl : z < s.heap.objs.size := Heap.lt_size hz
    refine wpAny_pyNext_zipD2_item D (drawsB t hh i1 a ai its.toArray) (drawsB u hh i2 b bi its2.toArray) hz hTI hTO ⟨h1, p⟩ ⟨h2, p2⟩ n1 n2 fun w1 w2 h' tk e1 e2 z' TO' st1 st2 hT hsz hk => ?_
    have ev1 : w1 = v1 := by
      have q : its.toArray[i]? = some w1 := e1
      rw [List.getElem?_toArray, hv1] at q
      exact (Option.some.inj q).symm
    have ev2 : w2 = v2 := by
      have q : its2.toArray[i]? = some w2 := e2
      rw [List.getElem?_toArray, hv2] at q
      exact (Option.some.inj q).symm
    subst ev1 ev2
    refine ⟨_, rfl, wpAny_letOwnedTupleGo_zip (s := { s with heap := h', toks := tk }) z' fun h'' z'' sb => ?_⟩
    have hT2 : h''.get? s.heap.objs.size = some { cls := .type "tuple", data := .seq #[w1, w2] } := (sb.2 _ (Nat.ne_of_gt hzl)).trans hT
    have nw : ObjOk X.prog X.w (upd H s.heap.objs.size (.tup [x, y])) h'' s.heap.objs.size (.tup [x, y]) := ⟨by show 2 ≤ sizeLine; decide, [w1, w2], .cons r1 (.cons r2 .nil), ⟨_, hT2, rfl, _, rfl⟩⟩
    have I1 : Inv X pins σ (upd H s.heap.objs.size (.tup [x, y])) { s with heap := h'', toks := tk } :=
      I.turnedNew (ch := [z, TI, TO, i1, i2]) (fun c o hb q => (sb.2 c (fun e => hb (by simp [e]))).trans (hk c o (fun e => hb (by simp [e])) (fun e => hb (by simp [e])) (fun e => hb (by simp [e])) (fun e => hb (by simp [e])) q)) hf (Nat.le_refl _) nw
    refine ⟨.ref s.heap.objs.size, _, I1, rfl, ⟨_, x, y, rfl, I.hok.fresh (Nat.le_refl _), rfl, fun l hl => by rw [injB I hl hqx]; exact hx, fun l hl => by rw [injB I hl hqy]; exact hy⟩, ⟨z'', ?_, ⟨w1, w2, ?_⟩, ?_, ?_⟩, fun c hcm => ?_⟩
    · exact (sb.2 _ D.TIz).trans (hk _ _ D.TIz D.TITO D.TIi1 D.TIi2 hTI)
    · exact (sb.2 _ D.TOz).trans TO'
    · exact st1.1.keep fun o q => (sb.2 _ D.zi1.symm).trans q
    · exact st2.1.keep fun o q => (sb.2 _ D.zi2.symm).trans q
    · have hlt : c < s.heap.objs.size := by
        simp only [List.mem_cons, List.not_mem_nil, or_false] at hcm
        rcases hcm with rfl | rfl | rfl | rfl | rfl
        · exact hzl
        · exact Heap.lt_size hTI
        · exact Heap.lt_size hTO
        · obtain ⟨o, e, _⟩ := h1.get
          exact Heap.lt_size e
        · obtain ⟨o, e, _⟩ := h2.get
          exact Heap.lt_size e
      rw [upd_ne (Nat.ne_of_lt hlt)]
      exact (hf c hcm).1
  done := by
    rintro X rfl rfl rfl hc i pins s σ H E I hf ⟨hz, hTI, ⟨x0, y0, hTO⟩, h1, h2⟩ ⟨xs, ys, hqx, hqy, g1, g2, hend⟩
    obtain ⟨its, rv, p, _⟩ := seqB I hqx
    obtain ⟨its2, rv2, p2, _⟩ := seqB I hqy
    have l1 := rv.length
    have l2 := rv2.length
    have hh : X.A.in1.handled = none := I.ok.hd hc
    have ai : a ≠ i1 := neB h1 p
    have bi : b ≠ i2 := neB h2 p2
    exact wpAny_pyNext_zipD2_end D (drawsB t hh i1 a ai its.toArray) (drawsB u hh i2 b bi its2.toArray) hz hTI hTO ⟨h1, p⟩ ⟨h2, p2⟩ (by rw [List.size_toArray]; omega) (by rw [List.size_toArray]; omega) (by rw [List.size_toArray, List.size_toArray]; omega)
      fun h' tk hk => ⟨rfl, I.turnedL (ch := [z, TI, TO, i1, i2]) (fun c o hb q => hk c o (fun e => hb (by simp [e])) (fun e => hb (by simp [e])) (fun e => hb (by simp [e])) (fun e => hb (by simp [e])) q) hf⟩
  self := fun A i s Q E st h => wpAny_pyIter_zip st.1 h
def begO (t : Bool) (a : Addr) : Obj := match t with
  | true => { cls := .type "tuple_iterator", data := .fields #[.ref a, .int 0 0] }
  | false => { cls := .type "list_iterator", data := .fields #[.ref a, .int 0 0] }
theorem beginsB (t : Bool) (a : Addr) (its : Array Value) : Begins (.ref a) (begO t a) (fun h => HsB t h a its) := by
  cases t
  · exact begins_list a its
  · exact begins_tuple a its
theorem itB_of {t : Bool} {h : Heap} {it a : Addr} (e : h.get? it = some (begO t a)) : ItB t h it a 0 := by
  cases t <;> exact ⟨_, e, rfl, rfl⟩
def iZipM (K : PySem.W.Frag) (ta : TA) : TI := fun σ H R => ta σ H fun vs H1 => ∃ t u a b xs ys, vs = [.ref a, .ref b] ∧ SqB K t H1 a xs ∧ SqB K u H1 b ys ∧ R (Itm K t u a b) H1
theorem pi_zipM {X : Cx} {e e2 : Expr} {ta : TA} {p pos tpos : Pos} {elts : List Expr} {kk : Nat} (hg : Gl X "zip") (hm : X.mg "zip" = none) (ha : PA X [e, e2] ta)
    (hs : starEach [e, e2] X.env = (false, eval e X.env) :: starEach [e2] X.env := by rfl) (hpl : (backTo pos (starEach [e2] X.env)).any (·.1) = false := by rfl) :
    PI X (.Tuple elts kk tpos) (.Call (.Name "zip" p) [e, e2] [] pos) (iZipM X.K ta) := by
  refine ⟨fun pins s σ H R I h => ?_⟩
  refine Call_ (ld_blt I hg hm PyProof.Rows.boot_zip (PyProof.Rows.callWith_type1 (thn (ha.run pos pins s σ H _ I h) fun us s1 hh => ?_) hs hpl))
  obtain ⟨vs, H1, I1, r1, t, u, a, b, xs, ys, rfl, hqx, hqy, q⟩ := hh
  match us, r1 with
  | [_, _], .cons rfl (.cons rfl .nil) =>
    obtain ⟨its, rv, p1, la⟩ := seqB I1 hqx
    obtain ⟨its2, rv2, p2, lb⟩ := seqB I1 hqy
    refine zip_begins2 (beginsB t a its.toArray) (beginsB u b its2.toArray) p1 p2 fun h' hz hTI hTO h1 h2 hsz hk => wpAny_pyIter_zip hz ?_
    have I2 : Inv X pins σ H1 { s1 with heap := h' } := I1.kept (t' := s1.toks) hk
    refine ⟨s1.heap.objs.size + 4, [s1.heap.objs.size + 4, s1.heap.objs.size + 2, s1.heap.objs.size + 3, s1.heap.objs.size, s1.heap.objs.size + 1], _, _, H1, rfl, I2, turn_m (zip_sep2 (fp1 := [a]) (fp2 := [b]) (fun c hc => by rw [List.mem_singleton.mp hc]; exact la) (fun c hc => by rw [List.mem_singleton.mp hc]; exact lb)), ⟨hz, hTI, ⟨_, _, hTO⟩, itB_of h1, itB_of h2⟩, fun c hcm => ?_, q⟩
    have hle : s1.heap.objs.size ≤ c := by
      simp only [List.mem_cons, List.not_mem_nil, or_false] at hcm
      rcases hcm with e | e | e | e | e
      · rw [e]; exact Nat.le_add_right _ _
      · rw [e]; exact Nat.le_add_right _ _
      · rw [e]; exact Nat.le_add_right _ _
      · rw [e]; exact Nat.le_refl _
      · rw [e]; exact Nat.le_add_right _ _
    exact I1.fpOk hle (I1.hok.fresh hle)
/-- any(x) of data -/
def rAnyD (K : PySem.W.Frag) : List V → Hp → VK → Prop := fun xs H Q => ∃ (t : Bool) (a : Addr) (vs : List V) (ds : List PyData), xs = [.ref a] ∧ SqB K t H a vs ∧ DpAll K H vs ds ∧ PyData.plainAll ds = true ∧ (∀ x ∈ ds, x.fits63) ∧ Q (.bl (ds.any PyData.truthy)) H
theorem cr_anyD {X : Cx} (hc : X.calm = true) : CallR X (.builtin "any") (rAnyD X.K) := by
  intro pins s σ H xs us Q I r h
  obtain ⟨t, a, vs, ds, rfl, hs, hd, hp, hf, q⟩ := h
  obtain ⟨its, rv, p, _⟩ := seqB I hs
  rw [Vals.ref1 r]
  obtain ⟨as, ra⟩ := Dp.readsAll I ds vs its hd rv
  cases t
  · exact PySem.W.any_list_data (I.ok.hd hc) p ra hp hf fun h' tk hk => ⟨.bl _, H, I.kept (t' := tk) hk, rfl, q⟩
  · exact PySem.W.any_tuple_data (I.ok.hd hc) p ra hp hf fun h' tk hk => ⟨.bl _, H, I.kept (t' := tk) hk, rfl, q⟩
end ZM
set_option maxHeartbeats 2000000
/-! the layer of data: what a def does, told by data alone; what is said of heaps stays below -/
namespace DL
open PySem PySem.Spec PyProof.Rows L2 LW GX LD
abbrev AS := Addr → Prop
/-- a class of one's own that is no kind of number, text or row, and has no attribute of these names -/
structure ObC (K : PySem.W.Frag) (C : Addr) (fs : List Str) : Prop where
  kit : ∀ n ∈ ["int", "bool", "tuple", "str", "list", "dict"], PySem.W.kitOne K (.ref C) (.type n) = some false
  cls : Cls K C
  ha : PySem.W.findIn K (.ref C) "__class__" = some (some (.builtin "object.__class__"))
  hn : PySem.W.specialIn K (.builtin "object.__class__") "__get__" = some (some (.builtin "getset_descriptor.__get__"))
  htk : PySem.W.takesIn K (.builtin "object.__class__") = some true
  hm : PySem.W.mroIn K C (.type "object") = some true
  na : ∀ x ∈ fs, NoAttr K C x
  nd : fs.Nodup
def keyD : Key → PyData
  | .inl i => .int i
  | .inr x => .str x
mutual
/-- v stands for the data d; its lists lie at addresses that are not of M -/
inductive Da (K : PySem.W.Frag) (M : AS) (H : Hp) : V → PyData → Prop
  | non : Da K M H .non .none
  | bl (b : Bool) : Da K M H (.bl b) (.bool b)
  | int (i : Int) : Da K M H (.int i) (.int i)
  | str (x : Str) : Da K M H (.str x) (.str x)
  | tup {a : Addr} {xs : List V} {ds : List PyData} : SqT K H a xs → Das K M H xs ds → Da K M H (.ref a) (.tuple ds)
  | lst {a : Addr} {xs : List V} {ds : List PyData} : H a = some (.lst xs) → ¬ M a → Das K M H xs ds → Da K M H (.ref a) (.list ds)
  /-- an instance that is never changed: its fields -/
  | obj {a C dx : Addr} {fs : List (Str × V)} {kvs : List (PyData × PyData)} : H a = some (.ins C dx fs) → ¬ M a → ObC K C (fs.map (·.1)) → DaF K M H fs kvs → Da K M H (.ref a) (.dict ((.none, .none) :: kvs))
  /-- a dict that is never changed -/
  | dct {a : Addr} {ks : List (Key × V)} {kvs : List (PyData × PyData)} : H a = some (.dK ks) → ¬ M a → DaK K M H ks kvs → Da K M H (.ref a) (.dict kvs)
inductive DaF (K : PySem.W.Frag) (M : AS) (H : Hp) : List (Str × V) → List (PyData × PyData) → Prop
  | nil : DaF K M H [] []
  | cons {x : Str} {v : V} {fs : List (Str × V)} {d : PyData} {kvs : List (PyData × PyData)} : Da K M H v d → DaF K M H fs kvs → DaF K M H ((x, v) :: fs) ((.str x, d) :: kvs)
inductive DaK (K : PySem.W.Frag) (M : AS) (H : Hp) : List (Key × V) → List (PyData × PyData) → Prop
  | nil : DaK K M H [] []
  | cons {k : Key} {v : V} {ks : List (Key × V)} {d : PyData} {kvs : List (PyData × PyData)} : Da K M H v d → DaK K M H ks kvs → DaK K M H ((k, v) :: ks) ((keyD k, d) :: kvs)
inductive Das (K : PySem.W.Frag) (M : AS) (H : Hp) : List V → List PyData → Prop
  | nil : Das K M H [] []
  | cons {v : V} {vs : List V} {d : PyData} {ds : List PyData} : Da K M H v d → Das K M H vs ds → Das K M H (v :: vs) (d :: ds)
end
section
variable {K : PySem.W.Frag} {M M' : AS} {H H' : Hp}
mutual
theorem Da.mono (e1 : ∀ a xs, SqT K H a xs → SqT K H' a xs) (e2 : ∀ a o, H a = some o → (∀ ps, o ≠ .tbl ps) → ¬ M a → H' a = some o ∧ ¬ M' a) : ∀ {v : V} {d : PyData}, Da K M H v d → Da K M' H' v d
  | _, _, .non => .non
  | _, _, .bl b => .bl b
  | _, _, .int i => .int i
  | _, _, .str x => .str x
  | _, _, .tup h hs => .tup (e1 _ _ h) (Das.mono e1 e2 hs)
  | _, _, .lst h m hs => .lst (e2 _ _ h nofun m).1 (e2 _ _ h nofun m).2 (Das.mono e1 e2 hs)
  | _, _, .obj h m t hs => .obj (e2 _ _ h nofun m).1 (e2 _ _ h nofun m).2 t (DaF.mono e1 e2 hs)
  | _, _, .dct h m hs => .dct (e2 _ _ h nofun m).1 (e2 _ _ h nofun m).2 (DaK.mono e1 e2 hs)
theorem DaF.mono (e1 : ∀ a xs, SqT K H a xs → SqT K H' a xs) (e2 : ∀ a o, H a = some o → (∀ ps, o ≠ .tbl ps) → ¬ M a → H' a = some o ∧ ¬ M' a) : ∀ {vs : List (Str × V)} {ds : List (PyData × PyData)}, DaF K M H vs ds → DaF K M' H' vs ds
  | _, _, .nil => .nil
  | _, _, .cons h hs => .cons (Da.mono e1 e2 h) (DaF.mono e1 e2 hs)
theorem DaK.mono (e1 : ∀ a xs, SqT K H a xs → SqT K H' a xs) (e2 : ∀ a o, H a = some o → (∀ ps, o ≠ .tbl ps) → ¬ M a → H' a = some o ∧ ¬ M' a) : ∀ {vs : List (Key × V)} {ds : List (PyData × PyData)}, DaK K M H vs ds → DaK K M' H' vs ds
  | _, _, .nil => .nil
  | _, _, .cons h hs => .cons (Da.mono e1 e2 h) (DaK.mono e1 e2 hs)
theorem Das.mono (e1 : ∀ a xs, SqT K H a xs → SqT K H' a xs) (e2 : ∀ a o, H a = some o → (∀ ps, o ≠ .tbl ps) → ¬ M a → H' a = some o ∧ ¬ M' a) : ∀ {vs : List V} {ds : List PyData}, Das K M H vs ds → Das K M' H' vs ds
  | _, _, .nil => .nil
  | _, _, .cons h hs => .cons (Da.mono e1 e2 h) (Das.mono e1 e2 hs)
end
mutual
theorem Da.dp : ∀ {v : V} {d : PyData}, Da K M H v d → d.hasDict = false → Dp K H v d
  | _, _, .non, _ => .non
  | _, _, .bl b, _ => .bl b
  | _, _, .int i, _ => .int i
  | _, _, .str x, _ => .str x
  | _, _, .tup h hs, c => .tup h (Das.dp hs c)
  | _, _, .lst h _ hs, c => .lst (SqL.of h) (Das.dp hs c)
  | _, _, .obj _ _ _ _, c => nomatch c
  | _, _, .dct _ _ _, c => nomatch c
theorem Das.dp : ∀ {vs : List V} {ds : List PyData}, Das K M H vs ds → PyData.hasDictAll ds = false → DpAll K H vs ds
  | _, _, .nil, _ => .nil
  | _, d :: ds, .cons h hs, c => by
    have c : (PyData.hasDict d || PyData.hasDictAll ds) = false := c
    rw [Bool.or_eq_false_iff] at c
    exact .cons (Da.dp h c.1) (Das.dp hs c.2)
end
mutual
theorem lay_nd : ∀ {d : PyData}, d.canLay0 = true → d.hasDict = false
  | .none, _ => rfl
  | .bool _, _ => rfl
  | .int _, _ => rfl
  | .str _, _ => rfl
  | .list ds, h => lays_nd (ds := ds) h
  | .tuple ds, h => lays_nd (ds := ds) h
  | .dict _, h => nomatch h
theorem lays_nd : ∀ {ds : List PyData}, PyData.canLayAll0 ds = true → PyData.hasDictAll ds = false
  | [], _ => rfl
  | d :: ds, h => by
    have h : (PyData.canLay0 d && PyData.canLayAll0 ds) = true := h
    rw [Bool.and_eq_true] at h
    show (PyData.hasDict d || PyData.hasDictAll ds) = false
    rw [lay_nd h.1, lays_nd h.2]
    rfl
end
theorem shaped_nd {d : PyData} (h : SeqAt.shaped d = true) : d.hasDict = false := by
  unfold SeqAt.shaped at h
  rw [Bool.and_eq_true] at h
  exact lay_nd h.1
theorem Das.len : ∀ {vs : List V} {ds : List PyData}, Das K M H vs ds → vs.length = ds.length
  | _, _, .nil => rfl
  | _, _, .cons _ hs => congrArg Nat.succ (Das.len hs)
theorem Das.app : ∀ {vs ws : List V} {ds es : List PyData}, Das K M H vs ds → Das K M H ws es → Das K M H (vs ++ ws) (ds ++ es)
  | _, _, _, _, .nil, h => h
  | _, _, _, _, .cons h hs, g => .cons h (Das.app hs g)
theorem Das.take : ∀ {vs : List V} {ds : List PyData} (n : Nat), Das K M H vs ds → Das K M H (vs.take n) (ds.take n)
  | _, _, 0, _ => .nil
  | _, _, _ + 1, .nil => .nil
  | _, _, n + 1, .cons h hs => .cons h (Das.take n hs)
theorem Das.drop : ∀ {vs : List V} {ds : List PyData} (n : Nat), Das K M H vs ds → Das K M H (vs.drop n) (ds.drop n)
  | _, _, 0, h => h
  | _, _, _ + 1, .nil => .nil
  | _, _, n + 1, .cons _ hs => Das.drop n hs
theorem Das.get : ∀ {vs : List V} {ds : List PyData} {i : Nat} {d : PyData}, Das K M H vs ds → ds[i]? = some d → ∃ v, vs[i]? = some v ∧ Da K M H v d
  | _, _, i, v, .nil, h => by simp at h
  | _, _, 0, v, .cons h hs, e => ⟨_, rfl, by cases e; exact h⟩
  | _ :: _, _ :: _, i + 1, v, .cons h hs, e => Das.get (i := i) hs e
theorem Das.getV : ∀ {vs : List V} {ds : List PyData} {i : Nat} {v : V}, Das K M H vs ds → vs[i]? = some v → ∃ d, ds[i]? = some d ∧ Da K M H v d
  | _, _, i, v, .nil, h => by simp at h
  | _, _, 0, v, .cons h hs, e => ⟨_, rfl, by cases e; exact h⟩
  | _ :: _, _ :: _, i + 1, v, .cons h hs, e => Das.getV (i := i) hs e
theorem Das.set : ∀ {vs : List V} {ds : List PyData} {v : V} {d : PyData} (i : Nat), Das K M H vs ds → Da K M H v d → Das K M H (vs.set i v) (ds.set i d)
  | _, _, _, _, _, .nil, _ => .nil
  | _, _, _, _, 0, .cons _ hs, g => .cons g hs
  | _, _, _, _, i + 1, .cons h hs, g => .cons h (Das.set i hs g)
theorem Das.erase : ∀ {vs : List V} {ds : List PyData} (i : Nat), Das K M H vs ds → Das K M H (vs.eraseIdx i) (ds.eraseIdx i)
  | _, _, _, .nil => .nil
  | _, _, 0, .cons _ hs => hs
  | _, _, i + 1, .cons h hs => .cons h (Das.erase i hs)
theorem Das.one {v : V} {d : PyData} (h : Da K M H v d) : Das K M H [v] [d] := .cons h .nil
theorem Das.rep {vs : List V} {ds : List PyData} (h : Das K M H vs ds) : ∀ n : Nat, Das K M H (List.replicate n vs).flatten (List.replicate n ds).flatten
  | 0 => .nil
  | n + 1 => by
    rw [List.replicate_succ, List.replicate_succ, List.flatten_cons, List.flatten_cons]
    exact h.app (Das.rep h n)
theorem Das.ints (ns : List Int) : Das K M H (ns.map V.int) (ns.map PyData.int) := by
  induction ns with
  | nil => exact .nil
  | cons n ns ih => exact .cons (.int n) ih
theorem Das.intsV : ∀ {vs : List V} {ns : List Int}, Das K M H vs (ns.map PyData.int) → vs = ns.map V.int
  | _, [], .nil => rfl
  | _, _ :: _, .cons (.int _) hs => congrArg _ (Das.intsV hs)
end
/-! ### heaps: what is kept -/
/-- all but tables and what is of S is as it was; what was known is known -/
structure Kp (S : AS) (H H' : Hp) : Prop where
  keep : ∀ b o, H b = some o → (∀ ps, o ≠ .tbl ps) → ¬ S b → H' b = some o
  grow : ∀ b, H b ≠ none → H' b ≠ none
theorem Kp.refl (S : AS) (H : Hp) : Kp S H H := ⟨fun _ _ h _ _ => h, fun _ h => h⟩
theorem Kp.trans {S : AS} {H H1 H2 : Hp} (a : Kp S H H1) (b : Kp S H1 H2) : Kp S H H2 := ⟨fun c o h n s => b.keep c o (a.keep c o h n s) n s, fun c h => b.grow c (a.grow c h)⟩
theorem Kp.mono {S S' : AS} {H H' : Hp} (a : Kp S H H') (h : ∀ b, S b → S' b) : Kp S' H H' := ⟨fun c o e n s => a.keep c o e n fun z => s (h c z), a.grow⟩
theorem Kp.new {S : AS} {H : Hp} {p : Addr} {o : HO} (h : H p = none) : Kp S H (upd H p o) := ⟨fun b x e _ _ => by
  rw [upd_ne (ne_of_none e h)]
  exact e, fun b e => by
  by_cases z : b = p
  · rw [z, upd_same]
    nofun
  · rw [upd_ne z]
    exact e⟩
theorem Kp.wr {S : AS} {H : Hp} {p : Addr} {o : HO} (h : S p) : Kp S H (upd H p o) := ⟨fun b x e _ s => by
  rw [upd_ne (fun z => s (by rw [z]; exact h))]
  exact e, fun b e => by
  by_cases z : b = p
  · rw [z, upd_same]
    nofun
  · rw [upd_ne z]
    exact e⟩
theorem Kp.same {S : AS} {H H' : Hp} (h : Same H H') : Kp S H H' := ⟨fun b o e _ _ => h b o e, fun b e => by
  cases z : H b with
  | none => exact absurd z e
  | some o =>
    rw [h b o z]
    nofun⟩
theorem Kp.tab {S : AS} {P : Addr} {H H' : Hp} (t : GxR.Tabbed P H H') (h0 : GxR.TabG H P) : Kp S H H' := by
  obtain ⟨ps, hP, _⟩ := h0
  obtain ⟨ps', hP', _⟩ := t.1
  refine ⟨fun b o h n _ => ?_, fun b h => ?_⟩
  · by_cases e : b = P
    · rw [e, hP] at h
      cases h
      exact absurd rfl (n ps)
    · rw [t.2 b e]
      exact h
  · by_cases e : b = P
    · rw [e, hP']
      nofun
    · rw [t.2 b e]
      exact h
theorem Kp.seqT {S : AS} {K : PySem.W.Frag} {H H' : Hp} {a : Addr} {xs : List V} (e : Kp S H H') (hS : ∀ a, S a → ∃ xs, H a = some (.lst xs)) (h : SqT K H a xs) : SqT K H' a xs := by
  have key : ∀ o, H a = some o → (∀ ps, o ≠ .tbl ps) → (∀ xs, o ≠ .lst xs) → H' a = some o := fun o ho n m => e.keep _ _ ho n fun z => by
    obtain ⟨xs, hx⟩ := hS _ z
    rw [hx] at ho
    cases ho
    exact m _ rfl
  rcases h with (h | ⟨o, h⟩) | h
  · exact .inl (.inl (key _ h nofun nofun))
  · exact .inl (.inr ⟨o, key _ h nofun nofun⟩)
  · exact .inr h
theorem Da.kp {K : PySem.W.Frag} {M M' S : AS} {H H' : Hp} (e : Kp S H H') (hS : ∀ a, S a → ∃ xs, H a = some (.lst xs)) (hM : ∀ a, S a → M a) (hM' : ∀ a, M' a → M a ∨ H a = none) {v : V} {d : PyData} (h : Da K M H v d) : Da K M' H' v d :=
  h.mono (fun _ _ q => e.seqT hS q) fun a xs q n m => ⟨e.keep _ _ q n fun z => m (hM _ z), fun z => by
    rcases hM' _ z with z | z
    · exact m z
    · rw [z] at q
      cases q⟩
theorem Das.kp {K : PySem.W.Frag} {M M' S : AS} {H H' : Hp} (e : Kp S H H') (hS : ∀ a, S a → ∃ xs, H a = some (.lst xs)) (hM : ∀ a, S a → M a) (hM' : ∀ a, M' a → M a ∨ H a = none) {v : List V} {d : List PyData} (h : Das K M H v d) : Das K M' H' v d :=
  h.mono (fun _ _ q => e.seqT hS q) fun a xs q n m => ⟨e.keep _ _ q n fun z => m (hM _ z), fun z => by
    rcases hM' _ z with z | z
    · exact m z
    · rw [z] at q
      cases q⟩
theorem Da.sub {K : PySem.W.Frag} {M M' : AS} {H : Hp} (hM : ∀ a, M' a → M a) {v : V} {d : PyData} (h : Da K M H v d) : Da K M' H v d := h.mono (fun _ _ q => q) fun a _ q _ m => ⟨q, fun z => m (hM a z)⟩
theorem Das.sub {K : PySem.W.Frag} {M M' : AS} {H : Hp} (hM : ∀ a, M' a → M a) {v : List V} {d : List PyData} (h : Das K M H v d) : Das K M' H v d := h.mono (fun _ _ q => q) fun a _ q _ m => ⟨q, fun z => m (hM a z)⟩
/-! ### what stands in the slots -/
inductive SV where
  | dat (d : PyData)
  | own (ds : List PyData)
  | bor (ds : List PyData)
  | pool
/-- what an expression gives: data; a new list; what a slot holds that is no data -/
inductive R where
  | v (d : PyData)
  | new (ds : List PyData)
  | ali (i : Nat)
abbrev Env := List (Option SV)
def SV.mut : SV → Bool
  | .own _ => true
  | .pool => true
  | _ => false
/-- the world of a def's body: the heap at its entry, what its callers may change, the pools that were handed in, the tables -/
structure Wd where
  K : PySem.W.Frag
  H0 : Hp
  M0 : AS
  pl : List Addr
  Ts : List Addr
  Tl : List (Addr × Str)
  xn : Addr → PyData → Prop
  pl0 : (∀ p ∈ pl, H0 p ≠ none) ∧ ∀ a, M0 a → H0 a ≠ none
def MS (env : Env) (σ : L2.St) : AS := fun a => ∃ (i : Nat) (sv : SV), env[i]? = some (some sv) ∧ sv.mut = true ∧ σ[i]? = some (some (.ref a))
def PS (env : Env) (σ : L2.St) : AS := fun a => ∃ i : Nat, env[i]? = some (some SV.pool) ∧ σ[i]? = some (some (.ref a))
def Hold (Z : Wd) (M : AS) (H : Hp) (v : V) : SV → Prop
  | .dat d => Da Z.K M H v d
  | .own ds => ∃ a vs, v = .ref a ∧ H a = some (.lst vs) ∧ Das Z.K M H vs ds ∧ Z.H0 a = none
  | .bor ds => ∃ a vs, v = .ref a ∧ ((Rd Z.H0 a (.lst vs) ∧ a ∉ Z.pl) ∨ ∀ H, SqL Z.K H a vs) ∧ Das Z.K M H vs ds
  | .pool => ∃ a, v = .ref a ∧ Pl H a ∧ (a ∈ Z.pl ∨ Z.H0 a = none)
structure Sat (Z : Wd) (M : AS) (env : Env) (σ : L2.St) (H : Hp) : Prop where
  len : env.length = σ.length
  sl : ∀ (i : Nat) (sv : SV), env[i]? = some (some sv) → ∃ v, σ[i]? = some (some v) ∧ Hold Z M H v sv
  sub : ∀ a, MS env σ a → M a
  inj : ∀ (i j : Nat) (a : Addr) (si sj : SV), env[i]? = some (some si) → si.mut = true → σ[i]? = some (some (.ref a)) → env[j]? = some (some sj) → sj.mut = true → σ[j]? = some (some (.ref a)) → i = j
  dom : ∀ a, M a → H a ≠ none
  m0 : ∀ a, Z.M0 a → M a
  old : Kp (· ∈ Z.pl) Z.H0 H
  pls : ∀ p ∈ Z.pl, Pl H p
  tb : TB Z.Ts Z.Tl H
theorem PS.ms {env : Env} {σ : L2.St} {a : Addr} (h : PS env σ a) : MS env σ a := by
  obtain ⟨i, h1, h2⟩ := h
  exact ⟨i, _, h1, rfl, h2⟩
theorem pl_lst {H : Hp} {a : Addr} (h : Pl H a) : ∃ xs, H a = some (.lst xs) := by
  obtain ⟨x, y, _, _, _, e⟩ := h
  exact ⟨_, e⟩
section
variable {Z : Wd} {M M' : AS} {env : Env} {σ : L2.St} {H H' : Hp}
theorem Sat.mlst (S : Sat Z M env σ H) {a : Addr} (h : MS env σ a) : ∃ xs, H a = some (.lst xs) := by
  obtain ⟨i, sv, h1, h2, h3⟩ := h
  obtain ⟨v, e, hv⟩ := S.sl i sv h1
  rw [h3] at e
  cases e
  cases sv with
  | dat d => cases h2
  | bor ds => cases h2
  | own ds =>
    obtain ⟨a', vs, e, hl, _⟩ := hv
    cases e
    exact ⟨_, hl⟩
  | pool =>
    obtain ⟨a', e, hp, _⟩ := hv
    cases e
    exact pl_lst hp
/-- a step of an expression: but the pools all is as it was -/
structure Step (Z : Wd) (env : Env) (σ : L2.St) (H H' : Hp) : Prop where
  kp : Kp (PS env σ) H H'
  pl : ∀ a, PS env σ a → Pl H' a
  tb : TB Z.Ts Z.Tl H'
theorem Sat.pool (S : Sat Z M env σ H) {a : Addr} (h : PS env σ a) : Pl H a ∧ (a ∈ Z.pl ∨ Z.H0 a = none) := by
  obtain ⟨i, h1, h2⟩ := h
  obtain ⟨v, e, a', hv, hp, h0⟩ := S.sl i _ h1
  rw [h2] at e
  cases e
  cases hv
  exact ⟨hp, h0⟩
theorem Sat.stay (S : Sat Z M env σ H) : Step Z env σ H H := ⟨Kp.refl _ _, fun _ h => (S.pool h).1, S.tb⟩
theorem Step.trans {H1 H2 : Hp} (a : Step Z env σ H H1) (b : Step Z env σ H1 H2) : Step Z env σ H H2 := ⟨a.kp.trans b.kp, b.pl, b.tb⟩
/-- an entry's list that is not a pool handed in lies as it lay -/
theorem Sat.h0 (S : Sat Z M env σ H) {a : Addr} (h : H a = none) : Z.H0 a = none := by
  cases z : Z.H0 a with
  | none => rfl
  | some o => exact absurd h (S.old.grow a (by rw [z]; nofun))
theorem Sat.step (S : Sat Z M env σ H) (k : Step Z env σ H H') (hM' : ∀ a, M' a → M a ∨ H a = none) (hd : ∀ a, M' a → H' a ≠ none) (hs : ∀ a, MS env σ a → M' a) (h0 : ∀ a, Z.M0 a → M' a) : Sat Z M' env σ H' where
  len := S.len
  sl i sv h := by
    obtain ⟨v, e, hv⟩ := S.sl i sv h
    refine ⟨v, e, ?_⟩
    have hS : ∀ a, PS env σ a → ∃ xs, H a = some (.lst xs) := fun a z => S.mlst z.ms
    have hM : ∀ a, PS env σ a → M a := fun a z => S.sub a z.ms
    cases sv with
    | dat d => exact Da.kp k.kp hS hM hM' hv
    | own ds =>
      obtain ⟨a, vs, rfl, hl, hd, h0⟩ := hv
      refine ⟨a, vs, rfl, k.kp.keep _ _ hl nofun fun z => ?_, Das.kp k.kp hS hM hM' hd, h0⟩
      obtain ⟨j, j1, j2⟩ := z
      have := S.inj i j a _ _ h rfl e j1 rfl j2
      subst this
      rw [h] at j1
      cases j1
    | bor ds =>
      obtain ⟨a, vs, rfl, hl, hd⟩ := hv
      exact ⟨a, vs, rfl, hl, Das.kp k.kp hS hM hM' hd⟩
    | pool =>
      obtain ⟨a, rfl, hp, h0⟩ := hv
      exact ⟨a, rfl, k.pl a ⟨i, h, e⟩, h0⟩
  sub := hs
  inj := S.inj
  dom := hd
  m0 := h0
  old := by
    refine ⟨fun b o e n s => k.kp.keep b o (S.old.keep b o e n s) n fun z => ?_, fun b e => k.kp.grow b (S.old.grow b e)⟩
    rcases (S.pool z).2 with q | q
    · exact s q
    · rw [q] at e
      cases e
  pls p hp := by
    by_cases z : PS env σ p
    · exact k.pl p z
    · obtain ⟨x, y, a1, a2, a3, e⟩ := S.pls p hp
      exact ⟨x, y, a1, a2, a3, k.kp.keep _ _ e nofun z⟩
  tb := k.tb
end
end DL
set_option maxHeartbeats 2000000
/-! readings of expressions by data -/
namespace DL
open PySem PySem.Spec PyProof.Rows L2 LW GX LD
def Val (Z : Wd) (M : AS) (env : Env) (σ : L2.St) (H H' : Hp) (v : V) : R → Prop
  | .v d => Da Z.K M H' v d
  | .new ds => ∃ a vs, v = .ref a ∧ (H a = none ∧ ¬ M a) ∧ H' a = some (.lst vs) ∧ Das Z.K (fun b => M b ∨ b = a) H' vs ds
  | .ali i => σ[i]? = some (some v) ∧ ∃ sv, env[i]? = some (some sv)
abbrev DE := Env → (R → Prop) → Prop
abbrev DTe := Env → (Bool → Prop) → Prop
abbrev DAs := Env → (List R → Prop) → Prop
structure RE (Z : Wd) (te : TE) (d : DE) : Prop where
  mono : ∀ env K K', (∀ r, K r → K' r) → d env K → d env K'
  run : ∀ M env σ H Q, Sat Z M env σ H → d env (fun r => ∀ v H', Step Z env σ H H' → Val Z M env σ H H' v r → Q v H') → te σ H Q
structure RT (Z : Wd) (te : TT) (d : DTe) : Prop where
  mono : ∀ env K K', (∀ r, K r → K' r) → d env K → d env K'
  run : ∀ M env σ H Q, Sat Z M env σ H → d env (fun b => ∀ H', Step Z env σ H H' → Q b H') → te σ H Q
/-- M, and the list that v is if it is a new one -/
def Mx (M : AS) (v : V) (r : R) : AS := fun b => M b ∨ (∃ ds, r = .new ds ∧ v = .ref b)
inductive Vs (Z : Wd) (env : Env) (σ : L2.St) (H H' : Hp) : AS → List V → List R → Prop
  | nil {M : AS} : Vs Z env σ H H' M [] []
  | cons {M : AS} {v : V} {vs : List V} {r : R} {rs : List R} : Val Z M env σ H H' v r → Vs Z env σ H H' (Mx M v r) vs rs → Vs Z env σ H H' M (v :: vs) (r :: rs)
structure RA (Z : Wd) (te : TA) (d : DAs) : Prop where
  mono : ∀ env K K', (∀ r, K r → K' r) → d env K → d env K'
  run : ∀ M env σ H Q, Sat Z M env σ H → d env (fun rs => ∀ vs H', Step Z env σ H H' → Vs Z env σ H H' M vs rs → Q vs H') → te σ H Q
section
variable {Z : Wd} {M M' : AS} {env : Env} {σ : L2.St} {H H0 H1 H2 H' : Hp} {ta tb te : TE} {A B : DE}
theorem Sat.same (S : Sat Z M env σ H) (k : Step Z env σ H H') : Sat Z M env σ H' := S.step k (fun _ h => .inl h) (fun a h => k.kp.grow a (S.dom a h)) S.sub S.m0
/-- what is new is no longer data's -/
theorem Sat.more (S : Sat Z M env σ H) (k : Step Z env σ H H') : Sat Z (fun a => M a ∨ (H a = none ∧ H' a ≠ none)) env σ H' :=
  S.step k (fun _ h => h.imp id And.left) (fun a h => h.elim (fun h => k.kp.grow a (S.dom a h)) And.right) (fun a h => .inl (S.sub a h)) fun a h => .inl (S.m0 a h)
theorem Sat.psl (S : Sat Z M env σ H) : ∀ a, PS env σ a → ∃ xs, H a = some (.lst xs) := fun _ z => S.mlst z.ms
theorem Sat.psm (S : Sat Z M env σ H) : ∀ a, PS env σ a → M a := fun a z => S.sub a z.ms
theorem Da.st (S : Sat Z M env σ H) (k : Step Z env σ H H') {v : V} {d : PyData} (h : Da Z.K M H v d) : Da Z.K M H' v d := h.kp k.kp S.psl S.psm fun _ h => .inl h
theorem Das.st (S : Sat Z M env σ H) (k : Step Z env σ H H') {v : List V} {d : List PyData} (h : Das Z.K M H v d) : Das Z.K M H' v d := h.kp k.kp S.psl S.psm fun _ h => .inl h
theorem Val.later {v : V} {r : R} (S : Sat Z M env σ H1) (k : Step Z env σ H1 H2) (h : Val Z M env σ H H1 v r) (h0 : ∀ a, H a = none → ¬ PS env σ a) : Val Z M env σ H H2 v r := by
  cases r with
  | v d => exact Da.st S k h
  | new ds =>
    obtain ⟨a, vs, rfl, hn, hl, hd⟩ := h
    exact ⟨a, vs, rfl, hn, k.kp.keep _ _ hl nofun (h0 a hn.1), hd.kp k.kp S.psl (fun b z => .inl (S.psm b z)) fun _ h => .inl h⟩
  | ali i => exact h
theorem Val.back {v : V} {r : R} (h : Val Z M' env σ H1 H2 v r) (hg : ∀ b, H b ≠ none → H1 b ≠ none) (hM : ∀ a, M a → M' a) : Val Z M env σ H H2 v r := by
  cases r with
  | v d => exact Da.sub hM h
  | new ds =>
    obtain ⟨a, vs, rfl, hn, hl, hd⟩ := h
    refine ⟨a, vs, rfl, ⟨?_, fun z => hn.2 (hM a z)⟩, hl, Das.sub (fun b h => h.imp (hM b) id) hd⟩
    cases z : H a with
    | none => rfl
    | some o => exact absurd hn.1 (hg a (by rw [z]; nofun))
  | ali i => exact h
theorem Sat.nps (S : Sat Z M env σ H) : ∀ a, H a = none → ¬ PS env σ a := fun a h z => by
  obtain ⟨xs, e⟩ := S.psl a z
  rw [h] at e
  cases e
/-- two in a row -/
theorem bind2 (ha : RE Z ta A) (hb : RE Z tb B) {Q : V → V → Hp → Prop} (S : Sat Z M env σ H)
    (h : A env fun r1 => B env fun r2 => ∀ x y H2, Step Z env σ H H2 → Val Z M env σ H H2 x r1 → Val Z M env σ H H2 y r2 → Q x y H2) : ta σ H fun x H1 => tb σ H1 fun y H2 => Q x y H2 := by
  refine ha.run M env σ H _ S (ha.mono env _ _ (fun r1 h1 x H1 k1 v1 => ?_) h)
  refine hb.run _ env σ H1 _ (S.more k1) (hb.mono env _ _ (fun r2 h2 y H2 k2 v2 => ?_) h1)
  exact h2 x y H2 (k1.trans k2) (v1.later (S.same k1) k2 S.nps) (v2.back k1.kp.grow fun _ h => .inl h)
theorem Mx.sub {v : V} {r : R} (hM : ∀ a, M a → M' a) : ∀ a, Mx M v r a → Mx M' v r a := fun a h => h.imp (hM a) id
theorem Vs.back {vs : List V} {rs : List R} (h : Vs Z env σ H1 H2 M' vs rs) : ∀ {M : AS}, (∀ b, H b ≠ none → H1 b ≠ none) → (∀ a, M a → M' a) → Vs Z env σ H H2 M vs rs := by
  induction h with
  | nil => intro M _ _; exact .nil
  | cons h _ ih => intro M hg hM; exact .cons (h.back hg hM) (ih hg (Mx.sub hM))
/-! ### arguments -/
def aNil : DAs := fun _ k => k []
def aCons (A : DE) (B : DAs) : DAs := fun env k => A env fun r => B env fun rs => k (r :: rs)
theorem ra_nil : RA Z tNil aNil := ⟨fun _ _ _ h q => h _ q, fun _ _ _ _ _ S h => h _ _ S.stay .nil⟩
theorem ra_cons {tr : TA} {B : DAs} (ha : RE Z ta A) (hb : RA Z tr B) : RA Z (tCons ta tr) (aCons A B) := by
  refine ⟨fun env K K' h q => ha.mono env _ _ (fun r h1 => hb.mono env _ _ (fun rs h2 => h _ h2) h1) q, fun M env σ H Q S h => ?_⟩
  refine ha.run M env σ H _ S (ha.mono env _ _ (fun r1 h1 x H1 k1 v1 => ?_) h)
  refine hb.run _ env σ H1 _ (S.more k1) (hb.mono env _ _ (fun r2 h2 y H2 k2 v2 => ?_) h1)
  refine h2 (x :: y) H2 (k1.trans k2) (.cons (v1.later (S.same k1) k2 S.nps) (v2.back k1.kp.grow fun a h => ?_))
  rcases h with h | ⟨ds, rfl, rfl⟩
  · exact .inl h
  · obtain ⟨b, vs, e, hn, hl, _⟩ := v1
    cases e
    exact .inr ⟨hn.1, by rw [hl]; nofun⟩
/-! ### names and constants -/
def SV.r (i : Nat) : SV → R
  | .dat d => .v d
  | _ => .ali i
def dName (i : Nat) : DE := fun env k => ∃ sv, env[i]? = some (some sv) ∧ k (sv.r i)
theorem re_var {i : Nat} : RE Z (tVar i) (dName i) := by
  refine ⟨fun env K K' h ⟨sv, e, q⟩ => ⟨sv, e, h _ q⟩, fun M env σ H Q S ⟨sv, e, q⟩ => ?_⟩
  obtain ⟨v, ev, hv⟩ := S.sl i sv e
  refine ⟨v, ev, q v H S.stay ?_⟩
  cases sv with
  | dat d => exact hv
  | own ds => exact ⟨ev, _, e⟩
  | bor ds => exact ⟨ev, _, e⟩
  | pool => exact ⟨ev, _, e⟩
def dC (d : PyData) : DE := fun _ k => k (.v d)
theorem re_int {i : Int} : RE Z (tC (.int i)) (dC (.int i)) := ⟨fun _ _ _ h q => h _ q, fun _ _ _ _ _ S h => h _ _ S.stay (.int i)⟩
theorem re_bl {b : Bool} : RE Z (tC (.bl b)) (dC (.bool b)) := ⟨fun _ _ _ h q => h _ q, fun _ _ _ _ _ S h => h _ _ S.stay (.bl b)⟩
theorem re_str {s : Str} : RE Z (tC (.str s)) (dC (.str s)) := ⟨fun _ _ _ h q => h _ q, fun _ _ _ _ _ S h => h _ _ S.stay (.str s)⟩
theorem re_non : RE Z (tC .non) (dC .none) := ⟨fun _ _ _ h q => h _ q, fun _ _ _ _ _ S h => h _ _ S.stay .non⟩
/-! ### what a result is read as -/
def dataOf (env : Env) : R → Option PyData
  | .v d => some d
  | .new ds => some (.list ds)
  | .ali i => match env[i]? with
    | some (some (.own ds)) => some (.list ds)
    | some (some (.bor ds)) => some (.list ds)
    | _ => none
theorem Sat.bor (S : Sat Z M env σ H) {a : Addr} {vs : List V} (h : Rd Z.H0 a (.lst vs)) (hp : a ∉ Z.pl) : Rd H a (.lst vs) := by
  rcases h with h | ⟨o, h⟩
  · exact .inl (S.old.keep _ _ h nofun hp)
  · exact .inr ⟨o, S.old.keep _ _ h nofun hp⟩
theorem Sat.ali (S : Sat Z M env σ H) {i : Nat} {v : V} {ds : List PyData} (e : σ[i]? = some (some v)) (h : dataOf env (.ali i) = some (.list ds)) : ∃ a vs, v = .ref a ∧ SqL Z.K H a vs ∧ Das Z.K M H vs ds := by
  have h : (match env[i]? with | some (some (.own ds)) => some (PyData.list ds) | some (some (.bor ds)) => some (.list ds) | _ => none) = some (.list ds) := h
  cases z : env[i]? with
  | none => rw [z] at h; cases h
  | some o =>
    cases o with
    | none => rw [z] at h; cases h
    | some sv =>
      obtain ⟨v', e', hv⟩ := S.sl i sv z
      rw [e] at e'
      cases e'
      rw [z] at h
      cases sv with
      | dat d => cases h
      | pool => cases h
      | own es =>
        cases h
        obtain ⟨a, vs, rfl, h1, h2, _⟩ := hv
        exact ⟨a, vs, rfl, SqL.of h1, h2⟩
      | bor es =>
        cases h
        obtain ⟨a, vs, rfl, h1, h2⟩ := hv
        exact ⟨a, vs, rfl, h1.elim (fun h => .inl (S.bor h.1 h.2)) fun h => h _, h2⟩
theorem dataOf_ali {i : Nat} {d : PyData} (h : dataOf env (.ali i) = some d) : ∃ ds, d = .list ds := by
  have h : (match env[i]? with | some (some (.own ds)) => some (PyData.list ds) | some (some (.bor ds)) => some (.list ds) | _ => none) = some d := h
  split at h
  · exact ⟨_, (Option.some.inj h).symm⟩
  · exact ⟨_, (Option.some.inj h).symm⟩
  · cases h
theorem Val.seq {v : V} {r : R} {ds : List PyData} (S : Sat Z M env σ H') (h : Val Z M env σ H H' v r) (e : dataOf env r = some (.list ds)) : ∃ a vs, v = .ref a ∧ SqL Z.K H' a vs ∧ Das Z.K M H' vs ds := by
  cases r with
  | v d =>
    cases e
    cases h with
    | lst h1 _ h2 => exact ⟨_, _, rfl, SqL.of h1, h2⟩
  | new es =>
    cases e
    obtain ⟨a, vs, rfl, _, h1, h2⟩ := h
    exact ⟨a, vs, rfl, SqL.of h1, h2.sub fun _ h => .inl h⟩
  | ali i => exact S.ali h.1 e
theorem Val.tup {v : V} {r : R} {ds : List PyData} (h : Val Z M env σ H H' v r) (e : dataOf env r = some (.tuple ds)) : ∃ a vs, v = .ref a ∧ SqT Z.K H' a vs ∧ Das Z.K M H' vs ds := by
  cases r with
  | v d =>
    cases e
    cases h with
    | tup h1 h2 => exact ⟨_, _, rfl, h1, h2⟩
  | new es => cases e
  | ali i =>
    obtain ⟨_, z⟩ := dataOf_ali e
    cases z
theorem Val.dp {v : V} {r : R} {d : PyData} (S : Sat Z M env σ H') (h : Val Z M env σ H H' v r) (e : dataOf env r = some d) (c : d.hasDict = false) : Dp Z.K H' v d := by
  cases r with
  | v d' =>
    cases e
    exact Da.dp h c
  | new es =>
    cases e
    obtain ⟨a, vs, rfl, _, h1, h2⟩ := h
    exact .lst (SqL.of h1) (h2.dp c)
  | ali i =>
    obtain ⟨ds, rfl⟩ := dataOf_ali e
    obtain ⟨a, vs, rfl, h1, h2⟩ := S.ali h.1 e
    exact .lst h1 (h2.dp c)
theorem Val.int {v : V} {i : Int} (h : Val Z M env σ H H' v (.v (.int i))) : v = .int i := by
  cases h
  rfl
theorem Val.bl {v : V} {i : Bool} (h : Val Z M env σ H H' v (.v (.bool i))) : v = .bl i := by
  cases h
  rfl
theorem Val.str {v : V} {i : Str} (h : Val Z M env σ H H' v (.v (.str i))) : v = .str i := by
  cases h
  rfl
/-! ### operators -/
structure OpD (Z : Wd) (r : R2) (f : Env → R → R → (R → Prop) → Prop) : Prop where
  mono : ∀ env r1 r2 K K', (∀ r, K r → K' r) → f env r1 r2 K → f env r1 r2 K'
  run : ∀ M env σ H0 H x y r1 r2 Q, Sat Z M env σ H → Val Z M env σ H0 H x r1 → Val Z M env σ H0 H y r2 → f env r1 r2 (fun q => ∀ v H', Step Z env σ H H' → Val Z M env σ H H' v q → Q v H') → r x y H Q
def dOp (f : Env → R → R → (R → Prop) → Prop) (A B : DE) : DE := fun env k => A env fun r1 => B env fun r2 => f env r1 r2 k
theorem re_op {r : R2} {f : Env → R → R → (R → Prop) → Prop} (ho : OpD Z r f) (ha : RE Z ta A) (hb : RE Z tb B) : RE Z (tOp r ta tb) (dOp f A B) := by
  refine ⟨fun env K K' h q => ha.mono env _ _ (fun r h1 => hb.mono env _ _ (fun rs h2 => ho.mono _ _ _ _ _ h h2) h1) q, fun M env σ H Q S h => ?_⟩
  refine bind2 ha hb S (ha.mono env _ _ (fun r1 h1 => hb.mono env _ _ (fun r2 h2 x y H2 k v1 v2 => ?_) h1) h)
  exact ho.run M env σ H H2 x y r1 r2 Q (S.same k) v1 v2 (ho.mono _ _ _ _ _ (fun q hq v H' k2 hv => hq v H' (k.trans k2) (hv.back k.kp.grow fun _ h => h)) h2)
/-- of two numbers -/
def fI (C : Int → Int → Prop) (g : Int → Int → PyData) : Env → R → R → (R → Prop) → Prop := fun _ r1 r2 k => ∃ i, r1 = .v (.int i) ∧ ∃ j, r2 = .v (.int j) ∧ C i j ∧ k (.v (g i j))
def fI0 (g : Int → Int → PyData) : Env → R → R → (R → Prop) → Prop := fun _ r1 r2 k => ∃ i, r1 = .v (.int i) ∧ ∃ j, r2 = .v (.int j) ∧ k (.v (g i j))
theorem od_i {C : Int → Int → Prop} {gv : Int → Int → V} {g : Int → Int → PyData} (hg : ∀ M H i j, Da Z.K M H (gv i j) (g i j)) : OpD Z (rI C gv) (fI C g) :=
  ⟨fun _ _ _ _ _ h ⟨i, e1, j, e2, c, q⟩ => ⟨i, e1, j, e2, c, h _ q⟩, fun M env σ H0 H x y r1 r2 Q S v1 v2 ⟨i, e1, j, e2, c, q⟩ => by
    subst e1 e2
    exact ⟨i, j, v1.int, v2.int, c, q _ _ S.stay (hg M H i j)⟩⟩
theorem od_i0 {gv : Int → Int → V} {g : Int → Int → PyData} (hg : ∀ M H i j, Da Z.K M H (gv i j) (g i j)) : OpD Z (rI0 gv) (fI0 g) :=
  ⟨fun _ _ _ _ _ h ⟨i, e1, j, e2, q⟩ => ⟨i, e1, j, e2, h _ q⟩, fun M env σ H0 H x y r1 r2 Q S v1 v2 ⟨i, e1, j, e2, q⟩ => by
    subst e1 e2
    exact ⟨i, j, v1.int, v2.int, q _ _ S.stay (hg M H i j)⟩⟩
theorem od_add : OpD Z (rI0 fun i j => .int (i + j)) (fI0 fun i j => .int (i + j)) := od_i0 fun _ _ _ _ => .int _
theorem od_sub : OpD Z (rI0 fun i j => .int (i - j)) (fI0 fun i j => .int (i - j)) := od_i0 fun _ _ _ _ => .int _
theorem od_mul : OpD Z (rI CMul fun i j => .int (i * j)) (fI CMul fun i j => .int (i * j)) := od_i fun _ _ _ _ => .int _
theorem od_fdiv : OpD Z (rI CDiv fun i j => .int (i / j)) (fI CDiv fun i j => .int (i / j)) := od_i fun _ _ _ _ => .int _
theorem od_mod : OpD Z (rI (fun _ j => 0 < j) fun i j => .int (i % j)) (fI (fun _ j => 0 < j) fun i j => .int (i % j)) := od_i fun _ _ _ _ => .int _
theorem od_lt : OpD Z (rI0 fun i j => .bl (decide (i < j))) (fI0 fun i j => .bool (decide (i < j))) := od_i0 fun _ _ _ _ => .bl _
theorem od_le : OpD Z (rI0 fun i j => .bl (decide (i ≤ j))) (fI0 fun i j => .bool (decide (i ≤ j))) := od_i0 fun _ _ _ _ => .bl _
theorem od_gt : OpD Z (rI0 fun i j => .bl (decide (j < i))) (fI0 fun i j => .bool (decide (j < i))) := od_i0 fun _ _ _ _ => .bl _
theorem od_ge : OpD Z (rI0 fun i j => .bl (decide (j ≤ i))) (fI0 fun i j => .bool (decide (j ≤ i))) := od_i0 fun _ _ _ _ => .bl _
/-- == and != of data -/
def fEq (neg : Bool) : Env → R → R → (R → Prop) → Prop := fun env r1 r2 k => ∃ d, dataOf env r1 = some d ∧ ∃ e, dataOf env r2 = some e ∧ SeqAt.shaped d = true ∧ SeqAt.shaped e = true ∧ k (.v (.bool (if neg then !PyData.eqv d e else PyData.eqv d e)))
theorem od_eqD : OpD Z (rEqD Z.K) (fEq false) :=
  ⟨fun _ _ _ _ _ h ⟨i, e1, j, e2, c, c2, q⟩ => ⟨i, e1, j, e2, c, c2, h _ q⟩, fun M env σ H0 H x y r1 r2 Q S v1 v2 ⟨i, e1, j, e2, c, c2, q⟩ => ⟨i, j, v1.dp S e1 (shaped_nd c), v2.dp S e2 (shaped_nd c2), c, c2, q _ _ S.stay (Da.bl _)⟩⟩
theorem od_neD : OpD Z (rNeD Z.K) (fEq true) :=
  ⟨fun _ _ _ _ _ h ⟨i, e1, j, e2, c, c2, q⟩ => ⟨i, e1, j, e2, c, c2, h _ q⟩, fun M env σ H0 H x y r1 r2 Q S v1 v2 ⟨i, e1, j, e2, c, c2, q⟩ => ⟨i, j, v1.dp S e1 (shaped_nd c), v2.dp S e2 (shaped_nd c2), c, c2, q _ _ S.stay (Da.bl _)⟩⟩
/-- == of texts or numbers -/
def scalD : PyData → PyData → Bool
  | .int _, .int _ => true
  | .str _, .str _ => true
  | _, _ => false
def fEqS (neg : Bool) : Env → R → R → (R → Prop) → Prop := fun _ r1 r2 k => (∃ i, r1 = .v (.int i) ∧ ∃ j, r2 = .v (.int j) ∧ k (.v (.bool (if neg then !decide (i = j) else decide (i = j))))) ∨ ∃ i, r1 = .v (.str i) ∧ ∃ j, r2 = .v (.str j) ∧ k (.v (.bool (if neg then !decide (i = j) else decide (i = j))))
theorem od_eq : OpD Z rEq (fEqS false) :=
  ⟨fun _ _ _ _ _ h q => q.imp (fun ⟨i, e1, j, e2, q⟩ => ⟨i, e1, j, e2, h _ q⟩) (fun ⟨i, e1, j, e2, q⟩ => ⟨i, e1, j, e2, h _ q⟩), fun M env σ H0 H x y r1 r2 Q S v1 v2 q => by
    rcases q with ⟨i, rfl, j, rfl, q⟩ | ⟨i, rfl, j, rfl, q⟩
    · cases v1.int
      cases v2.int
      refine ⟨rfl, q _ _ S.stay ?_⟩
      have e : decide (V.int i = V.int j) = decide (i = j) := decide_eq_decide.mpr ⟨fun z => by cases z; rfl, fun z => by rw [z]⟩
      rw [e]
      exact Da.bl _
    · cases v1.str
      cases v2.str
      refine ⟨rfl, q _ _ S.stay ?_⟩
      have e : decide (V.str i = V.str j) = decide (i = j) := decide_eq_decide.mpr ⟨fun z => by cases z; rfl, fun z => by rw [z]⟩
      rw [e]
      exact Da.bl _⟩
theorem od_ne : OpD Z rNe (fEqS true) :=
  ⟨fun _ _ _ _ _ h q => q.imp (fun ⟨i, e1, j, e2, q⟩ => ⟨i, e1, j, e2, h _ q⟩) (fun ⟨i, e1, j, e2, q⟩ => ⟨i, e1, j, e2, h _ q⟩), fun M env σ H0 H x y r1 r2 Q S v1 v2 q => by
    rcases q with ⟨i, rfl, j, rfl, q⟩ | ⟨i, rfl, j, rfl, q⟩
    · cases v1.int
      cases v2.int
      refine ⟨rfl, q _ _ S.stay ?_⟩
      have e : decide (V.int i = V.int j) = decide (i = j) := decide_eq_decide.mpr ⟨fun z => by cases z; rfl, fun z => by rw [z]⟩
      rw [e]
      exact Da.bl _
    · cases v1.str
      cases v2.str
      refine ⟨rfl, q _ _ S.stay ?_⟩
      have e : decide (V.str i = V.str j) = decide (i = j) := decide_eq_decide.mpr ⟨fun z => by cases z; rfl, fun z => by rw [z]⟩
      rw [e]
      exact Da.bl _⟩
theorem Sat.new (S : Sat Z M env σ H) {p : Addr} {o : HO} (h : H p = none) : Step Z env σ H (upd H p o) := ⟨Kp.new h, fun a z => (S.pool z).1.same (same_upd h), S.tb.same (same_upd h)⟩
theorem Sat.sameH (S : Sat Z M env σ H) (e : Same H H') : Step Z env σ H H' := ⟨Kp.same e, fun a z => (S.pool z).1.same e, S.tb.same e⟩
theorem Step.npool (S : Sat Z M env σ H) {p : Addr} (h : H p = none) : ¬ M p := fun z => S.dom p z h
/-- a new tuple's data -/
theorem Sat.newT (S : Sat Z M env σ H) {p : Addr} {xs : List V} {ds : List PyData} (h : H p = none) (hd : Das Z.K M H xs ds) : Val Z M env σ H (upd H p (.tup xs)) (.ref p) (.v (.tuple ds)) :=
  Da.tup (.inl (.inl upd_same)) (Das.st S (S.new h) hd)
theorem Sat.newL (S : Sat Z M env σ H) {p : Addr} {xs : List V} {ds : List PyData} (h : H p = none) (hd : Das Z.K M H xs ds) : Val Z M env σ H (upd H p (.lst xs)) (.ref p) (.new ds) :=
  ⟨p, xs, rfl, ⟨h, fun z => S.dom p z h⟩, upd_same, hd.kp (S.new (σ := σ) (env := env) h).kp S.psl S.psm fun b z => z.imp id fun e => by rw [e]; exact h⟩
/-- t + u of tuples -/
def fCatT : Env → R → R → (R → Prop) → Prop := fun _ r1 r2 k => ∃ ds, r1 = .v (.tuple ds) ∧ ∃ es, r2 = .v (.tuple es) ∧ ds.length + es.length ≤ sizeLine ∧ k (.v (.tuple (ds ++ es)))
theorem od_catT : OpD Z (fun x y H Q => ∃ a b xs ys, x = .ref a ∧ y = .ref b ∧ SqT Z.K H a xs ∧ SqT Z.K H b ys ∧ xs.length + ys.length ≤ sizeLine ∧ ∀ r H', Same H H' → SqT Z.K H' r (xs ++ ys) → Q (.ref r) H') fCatT :=
  ⟨fun _ _ _ _ _ h ⟨i, e1, j, e2, c, q⟩ => ⟨i, e1, j, e2, c, h _ q⟩, fun M env σ H0 H x y r1 r2 Q S v1 v2 ⟨ds, e1, es, e2, c, q⟩ => by
    subst e1 e2
    obtain ⟨a, xs, rfl, hx, dx⟩ := v1.tup rfl
    obtain ⟨b, ys, rfl, hy, dy⟩ := v2.tup rfl
    refine ⟨a, b, xs, ys, rfl, rfl, hx, hy, by rw [dx.len, dy.len]; exact c, fun r H' e hr => q _ _ (S.sameH e) (Da.tup hr (Das.st S (S.sameH e) (dx.app dy)))⟩⟩
theorem Val.lstM {v : V} {r : R} {ds : List PyData} (S : Sat Z M env σ H') (h : Val Z M env σ H H' v r) (e : (∃ i, r = .ali i ∧ env[i]? = some (some (.own ds))) ∨ r = .new ds ∨ r = .v (.list ds)) : ∃ a vs, v = .ref a ∧ H' a = some (.lst vs) ∧ Das Z.K M H' vs ds := by
  rcases e with ⟨i, rfl, e⟩ | rfl | rfl
  · obtain ⟨v', e', a, vs, rfl, h1, h2, _⟩ := S.sl i _ e
    obtain ⟨e2, _⟩ := h
    rw [e2] at e'
    cases e'
    exact ⟨a, vs, rfl, h1, h2⟩
  · obtain ⟨a, vs, rfl, _, h1, h2⟩ := h
    exact ⟨a, vs, rfl, h1, h2.sub fun _ h => .inl h⟩
  · cases h with
    | lst h1 _ h2 => exact ⟨_, _, rfl, h1, h2⟩
/-- a list that is no borrowed one -/
def lstOf (env : Env) : R → Option (List PyData)
  | .new ds => some ds
  | .v (.list ds) => some ds
  | .ali i => match env[i]? with
    | some (some (.own ds)) => some ds
    | _ => none
  | _ => none
theorem lstOf_or {r : R} {ds : List PyData} (h : lstOf env r = some ds) : (∃ i, r = .ali i ∧ env[i]? = some (some (.own ds))) ∨ r = .new ds ∨ r = .v (.list ds) := by
  cases r with
  | new es =>
    cases h
    exact .inr (.inl rfl)
  | v d =>
    cases d with
    | list es =>
      cases h
      exact .inr (.inr rfl)
    | _ => cases h
  | ali i =>
    refine .inl ⟨i, rfl, ?_⟩
    have h : (match env[i]? with | some (some (.own ds)) => some ds | _ => none) = some ds := h
    split at h
    · cases h
      assumption
    · cases h
def fCat : Env → R → R → (R → Prop) → Prop := fun env r1 r2 k => ∃ ds, lstOf env r1 = some ds ∧ ∃ es, lstOf env r2 = some es ∧ ds.length + es.length ≤ sizeLine ∧ k (.new (ds ++ es))
theorem od_cat : OpD Z rCat fCat :=
  ⟨fun _ _ _ _ _ h ⟨i, e1, j, e2, c, q⟩ => ⟨i, e1, j, e2, c, h _ q⟩, fun M env σ H0 H x y r1 r2 Q S v1 v2 ⟨ds, e1, es, e2, c, q⟩ => by
    obtain ⟨a, xs, rfl, hx, dx⟩ := v1.lstM S (lstOf_or e1)
    obtain ⟨b, ys, rfl, hy, dy⟩ := v2.lstM S (lstOf_or e2)
    exact ⟨a, b, xs, ys, rfl, rfl, hx, hy, by rw [dx.len, dy.len]; exact c, fun p hp => q _ _ (S.new hp) (S.newL hp (dx.app dy))⟩⟩
def fRep : Env → R → R → (R → Prop) → Prop := fun env r1 r2 k => ∃ ds, lstOf env r1 = some ds ∧ ∃ j, r2 = .v (.int j) ∧ -(2 ^ 63) ≤ j ∧ j < 2 ^ 63 ∧ ds.length * j.toNat ≤ sizeLine ∧ k (.new (List.replicate j.toNat ds).flatten)
theorem od_rep : OpD Z rRep fRep :=
  ⟨fun _ _ _ _ _ h ⟨i, e1, j, e2, c1, c2, c3, q⟩ => ⟨i, e1, j, e2, c1, c2, c3, h _ q⟩, fun M env σ H0 H x y r1 r2 Q S v1 v2 ⟨ds, e1, j, e2, c1, c2, c3, q⟩ => by
    subst e2
    obtain ⟨a, xs, rfl, hx, dx⟩ := v1.lstM S (lstOf_or e1)
    exact ⟨a, j, xs, rfl, v2.int, hx, c1, c2, by rw [dx.len]; exact c3, fun p hp => q _ _ (S.new hp) (S.newL hp (dx.rep _))⟩⟩
/-! ### subscripts -/
theorem ixN_len {n m : Nat} (h : n = m) (i : Int) : ixN n i = ixN m i := by rw [h]
theorem atI_das {K : PySem.W.Frag} {xs : List V} {ds : List PyData} {i : Int} {d : PyData} (h : Das K M H xs ds) (e : atI ds i = some d) : ∃ v, atI xs i = some v ∧ Da K M H v d := by
  unfold atI at e ⊢
  rw [h.len]
  cases z : ixN ds.length i with
  | none =>
    rw [z] at e
    cases e
  | some j =>
    rw [z] at e
    exact h.get e
def fIx : Env → R → R → (R → Prop) → Prop := fun env r1 r2 k => ∃ ds, (dataOf env r1 = some (.list ds) ∨ dataOf env r1 = some (.tuple ds)) ∧ ∃ i, r2 = .v (.int i) ∧ ∃ d, atI ds i = some d ∧ k (.v d)
def fIxT : Env → R → R → (R → Prop) → Prop := fun _ r1 r2 k => ∃ ds, r1 = .v (.tuple ds) ∧ ∃ i, r2 = .v (.int i) ∧ ∃ d, atI ds i = some d ∧ k (.v d)
def fIxL : Env → R → R → (R → Prop) → Prop := fun env r1 r2 k => ∃ ds, dataOf env r1 = some (.list ds) ∧ ∃ i, r2 = .v (.int i) ∧ ∃ d, atI ds i = some d ∧ k (.v d)
theorem od_ixT : OpD Z (rIxT Z.K) fIxT :=
  ⟨fun _ _ _ _ _ h ⟨i, e1, j, e2, d, e, q⟩ => ⟨i, e1, j, e2, d, e, h _ q⟩, fun M env σ H0 H x y r1 r2 Q S v1 v2 ⟨ds, e1, i, e2, d, e, q⟩ => by
    subst e1 e2
    obtain ⟨a, xs, rfl, hx, dx⟩ := v1.tup rfl
    obtain ⟨v, ev, dv⟩ := atI_das dx e
    exact ⟨a, xs, i, v, rfl, v2.int, hx, ev, q _ _ S.stay dv⟩⟩
theorem od_ixL : OpD Z (rIxL Z.K) fIxL :=
  ⟨fun _ _ _ _ _ h ⟨i, e1, j, e2, d, e, q⟩ => ⟨i, e1, j, e2, d, e, h _ q⟩, fun M env σ H0 H x y r1 r2 Q S v1 v2 ⟨ds, e1, i, e2, d, e, q⟩ => by
    subst e2
    obtain ⟨a, xs, rfl, hx, dx⟩ := v1.seq S e1
    obtain ⟨v, ev, dv⟩ := atI_das dx e
    exact ⟨a, xs, i, v, rfl, v2.int, hx, ev, q _ _ S.stay dv⟩⟩
end
end DL
set_option maxHeartbeats 2000000
/-! more readings of expressions by data: truth, displays, slices, calls of built-ins -/
namespace DL
open PySem PySem.Spec PyProof.Rows L2 LW GX LD
section
variable {Z : Wd} {M M' : AS} {env : Env} {σ : L2.St} {H H0 H1 H2 H' : Hp} {ta tb te : TE} {A B : DE} {tA tB' : TT} {T U : DTe}
def asB : R → (Bool → Prop) → Prop := fun r k => ∃ c, r = .v (.bool c) ∧ k c
def dNot (A : DE) : DE := fun env k => A env fun r => ∃ c, r = .v (.bool c) ∧ k (.v (.bool (!c)))
theorem re_not (ha : RE Z ta A) : RE Z (tNotV ta) (dNot A) :=
  ⟨fun env K K' h q => ha.mono env _ _ (fun r ⟨c, e, q⟩ => ⟨c, e, h _ q⟩) q, fun M env σ H Q S h => ha.run M env σ H _ S (ha.mono env _ _ (fun r ⟨c, e, q⟩ v H' k hv => by
    subst e
    exact ⟨c, hv.bl, q _ _ k (Da.bl _)⟩) h)⟩
theorem Step.sat (S : Sat Z M env σ H) (k : Step Z env σ H H') : Sat Z M env σ H' := S.same k
/-- after a step, a reading from there on -/
theorem RE.next (hb : RE Z tb B) {Q : VK} (S : Sat Z M env σ H) (k : Step Z env σ H H1) (h : B env (fun r => ∀ v H', Step Z env σ H H' → Val Z M env σ H H' v r → Q v H')) : tb σ H1 Q :=
  hb.run M env σ H1 Q (S.same k) (hb.mono env _ _ (fun r h2 v H' k2 hv => h2 v H' (k.trans k2) (hv.back k.kp.grow fun _ h => h)) h)
def dAnd (A B : DE) : DE := fun env k => A env fun r => ∃ c, r = .v (.bool c) ∧ if c = true then B env k else k (.v (.bool false))
def dOr (A B : DE) : DE := fun env k => A env fun r => ∃ c, r = .v (.bool c) ∧ if c = true then k (.v (.bool true)) else B env k
theorem re_and (ha : RE Z ta A) (hb : RE Z tb B) : RE Z (tAndV ta tb) (dAnd A B) := by
  refine ⟨fun env K K' h q => ha.mono env _ _ (fun r ⟨c, e, q⟩ => ⟨c, e, ?_⟩) q, fun M env σ H Q S h => ha.run M env σ H _ S (ha.mono env _ _ (fun r ⟨c, e, q⟩ v H' k hv => ?_) h)⟩
  · split
    · rw [if_pos ‹_›] at q
      exact hb.mono env _ _ h q
    · rw [if_neg ‹_›] at q
      exact h _ q
  · subst e
    refine ⟨c, hv.bl, ?_⟩
    split
    · rw [if_pos ‹_›] at q
      exact hb.next S k q
    · rw [if_neg ‹_›] at q
      exact q _ _ k (Da.bl _)
theorem re_or (ha : RE Z ta A) (hb : RE Z tb B) : RE Z (tOrV ta tb) (dOr A B) := by
  refine ⟨fun env K K' h q => ha.mono env _ _ (fun r ⟨c, e, q⟩ => ⟨c, e, ?_⟩) q, fun M env σ H Q S h => ha.run M env σ H _ S (ha.mono env _ _ (fun r ⟨c, e, q⟩ v H' k hv => ?_) h)⟩
  · split
    · rw [if_pos ‹_›] at q
      exact h _ q
    · rw [if_neg ‹_›] at q
      exact hb.mono env _ _ h q
  · subst e
    refine ⟨c, hv.bl, ?_⟩
    split
    · rw [if_pos ‹_›] at q
      exact q _ _ k (Da.bl _)
    · rw [if_neg ‹_›] at q
      exact hb.next S k q
/-! tests -/
def dtB (A : DE) : DTe := fun env k => A env fun r => ∃ c, r = .v (.bool c) ∧ k c
theorem rt_b (ha : RE Z ta A) : RT Z (tB ta) (dtB A) :=
  ⟨fun env K K' h q => ha.mono env _ _ (fun r ⟨c, e, q⟩ => ⟨c, e, h _ q⟩) q, fun M env σ H Q S h => ha.run M env σ H _ S (ha.mono env _ _ (fun r ⟨c, e, q⟩ v H' k hv => by
    subst e
    exact ⟨c, hv.bl, q _ k⟩) h)⟩
theorem rt_test (ha : RE Z ta A) : RT Z (tTest ta) (dtB A) :=
  ⟨fun env K K' h q => ha.mono env _ _ (fun r ⟨c, e, q⟩ => ⟨c, e, h _ q⟩) q, fun M env σ H Q S h => ha.run M env σ H _ S (ha.mono env _ _ (fun r ⟨c, e, q⟩ v H' k hv => by
    subst e
    exact ⟨c, hv.bl, q _ k⟩) h)⟩
theorem RT.next (hb : RT Z tB' U) {Q : Bool → Hp → Prop} (S : Sat Z M env σ H) (k : Step Z env σ H H1) (h : U env (fun r => ∀ H', Step Z env σ H H' → Q r H')) : tB' σ H1 Q :=
  hb.run M env σ H1 Q (S.same k) (hb.mono env _ _ (fun r h2 H' k2 => h2 H' (k.trans k2)) h)
def dtNot (T : DTe) : DTe := fun env k => T env fun c => k (!c)
theorem rt_not (ha : RT Z tA T) : RT Z (tNot tA) (dtNot T) :=
  ⟨fun env K K' h q => ha.mono env _ _ (fun r q => h _ q) q, fun M env σ H Q S h => ha.run M env σ H _ S h⟩
def dtAnd (T U : DTe) : DTe := fun env k => T env fun c => if c = true then U env k else k false
def dtOr (T U : DTe) : DTe := fun env k => T env fun c => if c = true then k true else U env k
theorem rt_and (ha : RT Z tA T) (hb : RT Z tB' U) : RT Z (tAnd tA tB') (dtAnd T U) := by
  refine ⟨fun env K K' h q => ha.mono env _ _ (fun r q => ?_) q, fun M env σ H Q S h => ha.run M env σ H _ S (ha.mono env _ _ (fun c q H' k => ?_) h)⟩
  · cases r
    · exact h _ q
    · exact hb.mono env _ _ h q
  · cases c
    · exact q _ k
    · exact hb.next S k q
theorem rt_or (ha : RT Z tA T) (hb : RT Z tB' U) : RT Z (tOr tA tB') (dtOr T U) := by
  refine ⟨fun env K K' h q => ha.mono env _ _ (fun r q => ?_) q, fun M env σ H Q S h => ha.run M env σ H _ S (ha.mono env _ _ (fun c q H' k => ?_) h)⟩
  · cases r
    · exact hb.mono env _ _ h q
    · exact h _ q
  · cases c
    · exact hb.next S k q
    · exact q _ k
def dIfE (T : DTe) (A B : DE) : DE := fun env k => T env fun c => if c = true then A env k else B env k
theorem re_ifE (hc : RT Z tA T) (ha : RE Z ta A) (hb : RE Z tb B) : RE Z (tIf tA ta tb) (dIfE T A B) := by
  refine ⟨fun env K K' h q => hc.mono env _ _ (fun r q => ?_) q, fun M env σ H Q S h => hc.run M env σ H _ S (hc.mono env _ _ (fun c q H' k => ?_) h)⟩
  · cases r
    · exact hb.mono env _ _ h q
    · exact ha.mono env _ _ h q
  · cases c
    · exact hb.next S k q
    · exact ha.next S k q
def isNon : PyData → Bool
  | .none => true
  | _ => false
def fIsN (neg : Bool) (A : DE) : DE := fun env k => A env fun r => ∃ d, r = .v d ∧ k (.v (.bool (if neg then !isNon d else isNon d)))
theorem Da.isNon {K : PySem.W.Frag} {v : V} {d : PyData} (h : Da K M H v d) : decide (v = .non) = isNon d := by
  cases h <;> rfl
theorem re_isN (ha : RE Z ta A) : RE Z (tIsN ta) (fIsN false A) :=
  ⟨fun env K K' h q => ha.mono env _ _ (fun r ⟨c, e, q⟩ => ⟨c, e, h _ q⟩) q, fun M env σ H Q S h => ha.run M env σ H _ S (ha.mono env _ _ (fun r ⟨c, e, q⟩ v H' k hv => by
    subst e
    have e := Da.isNon (show Da Z.K M H' v c from hv)
    rw [e]
    exact q _ _ k (Da.bl _)) h)⟩
theorem re_notN (ha : RE Z ta A) : RE Z (tNotN ta) (fIsN true A) :=
  ⟨fun env K K' h q => ha.mono env _ _ (fun r ⟨c, e, q⟩ => ⟨c, e, h _ q⟩) q, fun M env σ H Q S h => ha.run M env σ H _ S (ha.mono env _ _ (fun r ⟨c, e, q⟩ v H' k hv => by
    subst e
    have e := Da.isNon (show Da Z.K M H' v c from hv)
    rw [e]
    exact q _ _ k (Da.bl _)) h)⟩
def dNeg (A : DE) : DE := fun env k => A env fun r => ∃ i, r = .v (.int i) ∧ k (.v (.int (-i)))
theorem re_neg (ha : RE Z ta A) : RE Z (tUn (rU fun i => .int (-i)) ta) (dNeg A) :=
  ⟨fun env K K' h q => ha.mono env _ _ (fun r ⟨c, e, q⟩ => ⟨c, e, h _ q⟩) q, fun M env σ H Q S h => ha.run M env σ H _ S (ha.mono env _ _ (fun r ⟨c, e, q⟩ v H' k hv => by
    subst e
    exact ⟨c, hv.int, q _ _ k (Da.int _)⟩) h)⟩
/-! chains a op b op c of numbers -/
def dChain (g g' : Int → Int → Bool) (A B C : DE) : DE := fun env k => A env fun r1 => B env fun r2 => ∃ i, r1 = .v (.int i) ∧ ∃ j, r2 = .v (.int j) ∧ if g i j = true then C env fun r3 => ∃ l, r3 = .v (.int l) ∧ k (.v (.bool (g' j l))) else k (.v (.bool false))
theorem re_chain {tc : TE} {C : DE} {g g' : Int → Int → Bool} (ha : RE Z ta A) (hb : RE Z tb B) (hc : RE Z tc C) : RE Z (tChain (rI0 fun i j => .bl (g i j)) (rI0 fun i j => .bl (g' i j)) ta tb tc) (dChain g g' A B C) where
  mono env K K' h q := ha.mono env _ _ (fun r1 q => hb.mono env _ _ (fun r2 ⟨i, e1, j, e2, q⟩ => ⟨i, e1, j, e2, by
    split
    · rw [if_pos ‹_›] at q
      exact hc.mono env _ _ (fun r3 ⟨l, e, q⟩ => ⟨l, e, h _ q⟩) q
    · rw [if_neg ‹_›] at q
      exact h _ q⟩) q) q
  run M env σ H Q S h := by
    refine bind2 ha hb S (ha.mono env _ _ (fun r1 q0 => hb.mono env _ _ (fun r2 w x y H2 k v1 v2 => ?_) q0) h)
    obtain ⟨i, e1, j, e2, q⟩ := w
    subst e1 e2
    refine ⟨i, j, v1.int, v2.int, g i j, rfl, ?_⟩
    split
    · rw [if_pos ‹_›] at q
      refine hc.next S k (hc.mono env _ _ (fun r3 ⟨l, e, q⟩ v H' k2 hv => ?_) q)
      subst e
      exact ⟨j, l, v2.int, hv.int, q _ _ k2 (Da.bl _)⟩
    · rw [if_neg ‹_›] at q
      exact q _ _ k (Da.bl _)
/-! displays -/
def datR : R → Option PyData
  | .v d => some d
  | .new ds => some (.list ds)
  | .ali _ => none
def datRs : List R → Option (List PyData)
  | [] => some []
  | r :: rs => match datR r, datRs rs with
    | some d, some ds => some (d :: ds)
    | _, _ => none
theorem Val.dat {v : V} {r : R} {d : PyData} (h : Val Z M env σ H H' v r) (e : datR r = some d) : Da Z.K M H' v d := by
  cases r with
  | v d' =>
    cases e
    exact h
  | new ds =>
    cases e
    obtain ⟨a, vs, rfl, hn, hl, hd⟩ := h
    exact .lst hl hn.2 (hd.sub fun _ h => .inl h)
  | ali i => cases e
theorem Vs.datK {M' : AS} {vs : List V} {rs : List R} (h : Vs Z env σ H H' M' vs rs) : ∀ {M : AS} {ds : List PyData}, (∀ a, M a → M' a) → datRs rs = some ds → Das Z.K M H' vs ds := by
  induction h with
  | nil =>
    intro M ds _ e
    cases e
    exact .nil
  | @cons M' v vs r rs hv _ ih =>
    intro M ds hM e
    have e : (match datR r, datRs rs with | some d, some ds => some (d :: ds) | _, _ => none) = some ds := e
    cases h1 : datR r with
    | none => rw [h1] at e; cases e
    | some d =>
      cases h2 : datRs rs with
      | none => rw [h1, h2] at e; cases e
      | some es =>
        rw [h1, h2] at e
        cases e
        exact .cons ((hv.dat h1).sub hM) (ih (fun a z => .inl (hM a z)) h2)
theorem Vs.dat {vs : List V} {rs : List R} {ds : List PyData} (h : Vs Z env σ H H' M vs rs) (e : datRs rs = some ds) : Das Z.K M H' vs ds := h.datK (fun _ h => h) e
def dTup (As : DAs) : DE := fun env k => As env fun rs => ∃ ds, datRs rs = some ds ∧ ds.length ≤ sizeLine ∧ k (.v (.tuple ds))
def dLst (As : DAs) : DE := fun env k => As env fun rs => ∃ ds, datRs rs = some ds ∧ ds.length ≤ sizeLine ∧ k (.new ds)
theorem re_tup {t : TA} {As : DAs} (ha : RA Z t As) : RE Z (tTup t) (dTup As) := by
  refine ⟨fun env K K' h q => ha.mono env _ _ (fun r ⟨c, e, z, q⟩ => ⟨c, e, z, h _ q⟩) q, fun M env σ H Q S h => ha.run M env σ H _ S (ha.mono env _ _ (fun rs ⟨ds, e, z, q⟩ vs H' k hv => ?_) h)⟩
  have hd := hv.dat e
  have S' := S.same k
  exact ⟨by rw [hd.len]; exact z, fun p hp => q _ _ (k.trans (S'.new hp)) ((S'.newT hp hd).back k.kp.grow fun _ h => h)⟩
theorem re_lst {t : TA} {As : DAs} (ha : RA Z t As) : RE Z (tLst t) (dLst As) := by
  refine ⟨fun env K K' h q => ha.mono env _ _ (fun r ⟨c, e, z, q⟩ => ⟨c, e, z, h _ q⟩) q, fun M env σ H Q S h => ha.run M env σ H _ S (ha.mono env _ _ (fun rs ⟨ds, e, z, q⟩ vs H' k hv => ?_) h)⟩
  have hd := hv.dat e
  have S' := S.same k
  exact ⟨by rw [hd.len]; exact z, fun p hp => q _ _ (k.trans (S'.new hp)) ((S'.newL hp hd).back k.kp.grow fun _ h => h)⟩
/-! slices -/
abbrev DO := Env → (Option Int → Prop) → Prop
structure RO (Z : Wd) (te : TO) (d : DO) : Prop where
  mono : ∀ env K K', (∀ r, K r → K' r) → d env K → d env K'
  run : ∀ M env σ H Q, Sat Z M env σ H → d env (fun b => ∀ H', Step Z env σ H H' → Q b H') → te σ H Q
def dNoPart : DO := fun _ k => k none
def dPart (A : DE) : DO := fun env k => A env fun r => ∃ i, r = .v (.int i) ∧ k (some i)
theorem ro_none : RO Z tNoPart dNoPart := ⟨fun _ _ _ h q => h _ q, fun _ _ _ _ _ S h => h _ S.stay⟩
theorem ro_some (ha : RE Z ta A) : RO Z (tPart ta) (dPart A) :=
  ⟨fun env K K' h q => ha.mono env _ _ (fun r ⟨c, e, q⟩ => ⟨c, e, h _ q⟩) q, fun M env σ H Q S h => ha.run M env σ H _ S (ha.mono env _ _ (fun r ⟨c, e, q⟩ v H' k hv => by
    subst e
    exact ⟨c, hv.int, q _ k⟩) h)⟩
theorem RO.next {tl : TO} {O : DO} (hb : RO Z tl O) {Q : Option Int → Hp → Prop} (S : Sat Z M env σ H) (k : Step Z env σ H H1) (h : O env (fun r => ∀ H', Step Z env σ H1 H' → Step Z env σ H H' → Q r H')) : tl σ H1 Q :=
  hb.run M env σ H1 Q (S.same k) (hb.mono env _ _ (fun r h2 H' k2 => h2 H' k2 (k.trans k2)) h)
def cutD (xs : List PyData) (lo hi : Option Int) : List PyData := (xs.drop (HT.sIx xs.length 0 lo)).take (HT.sIx xs.length xs.length hi - HT.sIx xs.length 0 lo)
theorem Das.cut {K : PySem.W.Frag} {xs : List V} {ds : List PyData} (h : Das K M H xs ds) (lo hi : Option Int) : Das K M H (cutV xs lo hi) (cutD ds lo hi) := by
  unfold cutV cutD
  rw [h.len]
  exact (h.drop _).take _
def dSlT (A : DE) (L U : DO) : DE := fun env k => A env fun r => L env fun lo => U env fun hi => ∃ ds, r = .v (.tuple ds) ∧ k (.v (.tuple (cutD ds lo hi)))
def dSlL (A : DE) (L U : DO) : DE := fun env k => A env fun r => L env fun lo => U env fun hi => ∃ ds, dataOf env r = some (.list ds) ∧ k (.new (cutD ds lo hi))
theorem re_slT {tl th : TO} {L U : DO} (ha : RE Z ta A) (hl : RO Z tl L) (hu : RO Z th U) :
    RE Z (tSl (fun x lo hi H Q => ∃ a xs, x = .ref a ∧ SqT Z.K H a xs ∧ ∀ r H', Same H H' → SqT Z.K H' r (cutV xs lo hi) → Q (.ref r) H') ta tl th) (dSlT A L U) := by
  refine ⟨fun env K K' h q => ha.mono env _ _ (fun r1 q => hl.mono env _ _ (fun lo q => hu.mono env _ _ (fun hi ⟨ds, e, q⟩ => ⟨ds, e, h _ q⟩) q) q) q, fun M env σ H Q S h => ?_⟩
  refine ha.run M env σ H _ S (ha.mono env _ _ (fun r q v H1 k hv => ?_) h)
  refine hl.next S k (hl.mono env _ _ (fun lo q H2 k12 k2 => ?_) q)
  refine hu.next S k2 (hu.mono env _ _ (fun hi w H3 k23 k3 => ?_) q)
  obtain ⟨ds, e, qq⟩ := w
  subst e
  have hv3 : Val Z M env σ H H3 v (.v (.tuple ds)) := hv.later (S.same k) (k12.trans k23) S.nps
  obtain ⟨a, xs, rfl, hx, dx⟩ := hv3.tup rfl
  have S3 := S.same k3
  exact ⟨a, xs, rfl, hx, fun r H' e hr => qq _ _ (k3.trans (S3.sameH e)) (Da.tup hr (Das.st S3 (S3.sameH e) (dx.cut lo hi)))⟩
theorem re_slL {tl th : TO} {L U : DO} (ha : RE Z ta A) (hl : RO Z tl L) (hu : RO Z th U) : RE Z (tSl (rSlL Z.K) ta tl th) (dSlL A L U) := by
  refine ⟨fun env K K' h q => ha.mono env _ _ (fun r1 q => hl.mono env _ _ (fun lo q => hu.mono env _ _ (fun hi ⟨ds, e, q⟩ => ⟨ds, e, h _ q⟩) q) q) q, fun M env σ H Q S h => ?_⟩
  refine ha.run M env σ H _ S (ha.mono env _ _ (fun r q v H1 k hv => ?_) h)
  refine hl.next S k (hl.mono env _ _ (fun lo q H2 k12 k2 => ?_) q)
  refine hu.next S k2 (hu.mono env _ _ (fun hi w H3 k23 k3 => ?_) q)
  obtain ⟨ds, e, qq⟩ := w
  have hv3 : Val Z M env σ H H3 v r := hv.later (S.same k) (k12.trans k23) S.nps
  have S3 := S.same k3
  obtain ⟨a, xs, rfl, hx, dx⟩ := hv3.seq S3 e
  exact ⟨a, xs, rfl, hx, fun p hp => qq _ _ (k3.trans (S3.new hp)) ((S3.newL hp (dx.cut lo hi)).back k3.kp.grow fun _ h => h)⟩
/-! calls of built-ins -/
structure CallD (Z : Wd) (r : List V → Hp → VK → Prop) (f : Env → List R → (R → Prop) → Prop) : Prop where
  mono : ∀ env rs K K', (∀ r, K r → K' r) → f env rs K → f env rs K'
  run : ∀ M env σ H0 H xs rs Q, Sat Z M env σ H → Vs Z env σ H0 H M xs rs → f env rs (fun q => ∀ v H', Step Z env σ H H' → Val Z M env σ H H' v q → Q v H') → r xs H Q
def dCB (f : Env → List R → (R → Prop) → Prop) (As : DAs) : DE := fun env k => As env fun rs => f env rs k
theorem re_cb {r : List V → Hp → VK → Prop} {f : Env → List R → (R → Prop) → Prop} {t : TA} {As : DAs} (hf : CallD Z r f) (ha : RA Z t As) : RE Z (tCB r t) (dCB f As) :=
  ⟨fun env K K' h q => ha.mono env _ _ (fun rs q => hf.mono _ _ _ _ h q) q, fun M env σ H Q S h => ha.run M env σ H _ S (ha.mono env _ _ (fun rs q vs H' k hv =>
    hf.run M env σ H H' vs rs Q (S.same k) hv (hf.mono _ _ _ _ (fun r q v H2 k2 hv2 => q v H2 (k.trans k2) (hv2.back k.kp.grow fun _ h => h)) q)) h)⟩
theorem Vs.one {xs : List V} {r : R} (h : Vs Z env σ H H' M xs [r]) : ∃ v, xs = [v] ∧ Val Z M env σ H H' v r := by
  cases h with
  | cons a b =>
    cases b
    exact ⟨_, rfl, a⟩
theorem Vs.two' {xs : List V} {r s : R} (h : Vs Z env σ H H' M xs [r, s]) : ∃ v u, xs = [v, u] ∧ Val Z M env σ H H' v r ∧ Val Z (Mx M v r) env σ H H' u s := by
  cases h with
  | cons a b =>
    obtain ⟨u, rfl, c⟩ := b.one
    exact ⟨_, _, rfl, a, c⟩
theorem Vs.two {xs : List V} {r s : R} (h : Vs Z env σ H H' M xs [r, s]) : ∃ v u, xs = [v, u] ∧ Val Z M env σ H H' v r ∧ Val Z M env σ H H' u s := by
  obtain ⟨v, u, e, h1, h2⟩ := h.two'
  exact ⟨v, u, e, h1, h2.back (fun _ h => h) fun _ h => .inl h⟩
def fIntI : Env → List R → (R → Prop) → Prop := fun _ rs k => ∃ i, rs = [.v (.int i)] ∧ k (.v (.int i))
theorem cd_intI : CallD Z (fun xs H Q => ∃ i, xs = [.int i] ∧ Q (.int i) H) fIntI :=
  ⟨fun _ _ _ _ h ⟨i, e, q⟩ => ⟨i, e, h _ q⟩, fun M env σ H0 H xs rs Q S hv ⟨i, e, q⟩ => by
    subst e
    obtain ⟨v, rfl, h⟩ := hv.one
    rw [h.int]
    exact ⟨i, rfl, q _ _ S.stay (Da.int _)⟩⟩
def fIntB : Env → List R → (R → Prop) → Prop := fun _ rs k => ∃ b, rs = [.v (.bool b)] ∧ k (.v (.int (if b then 1 else 0)))
theorem cd_intB : CallD Z (fun xs H Q => ∃ k, xs = [.bl k] ∧ Q (.int (if k then 1 else 0)) H) fIntB :=
  ⟨fun _ _ _ _ h ⟨i, e, q⟩ => ⟨i, e, h _ q⟩, fun M env σ H0 H xs rs Q S hv ⟨i, e, q⟩ => by
    subst e
    obtain ⟨v, rfl, h⟩ := hv.one
    rw [h.bl]
    exact ⟨i, rfl, q _ _ S.stay (Da.int _)⟩⟩
def fLenT : Env → List R → (R → Prop) → Prop := fun _ rs k => ∃ ds, rs = [.v (.tuple ds)] ∧ k (.v (.int ds.length))
theorem cd_lenT : CallD Z (fun xs H Q => ∃ p ys, xs = [.ref p] ∧ SqT Z.K H p ys ∧ Q (.int ys.length) H) fLenT :=
  ⟨fun _ _ _ _ h ⟨i, e, q⟩ => ⟨i, e, h _ q⟩, fun M env σ H0 H xs rs Q S hv ⟨ds, e, q⟩ => by
    subst e
    obtain ⟨v, rfl, h⟩ := hv.one
    obtain ⟨a, vs, rfl, hx, dx⟩ := h.tup rfl
    exact ⟨a, vs, rfl, hx, by rw [dx.len]; exact q _ _ S.stay (Da.int _)⟩⟩
def fLenL : Env → List R → (R → Prop) → Prop := fun env rs k => ∃ r, rs = [r] ∧ ∃ ds, dataOf env r = some (.list ds) ∧ k (.v (.int ds.length))
theorem cd_lenL : CallD Z (fun xs H Q => ∃ p ys, xs = [.ref p] ∧ SqL Z.K H p ys ∧ Q (.int ys.length) H) fLenL :=
  ⟨fun _ _ _ _ h ⟨r, e, ds, e2, q⟩ => ⟨r, e, ds, e2, h _ q⟩, fun M env σ H0 H xs rs Q S hv ⟨r, e, ds, e2, q⟩ => by
    subst e
    obtain ⟨v, rfl, h⟩ := hv.one
    obtain ⟨a, vs, rfl, hx, dx⟩ := h.seq S e2
    exact ⟨a, vs, rfl, hx, by rw [dx.len]; exact q _ _ S.stay (Da.int _)⟩⟩
def fMax2 : Env → List R → (R → Prop) → Prop := fun _ rs k => ∃ i j, rs = [.v (.int i), .v (.int j)] ∧ k (.v (.int (if j > i then j else i)))
theorem cd_max2 : CallD Z (fun xs H Q => ∃ i j, xs = [.int i, .int j] ∧ Q (.int (if j > i then j else i)) H) fMax2 :=
  ⟨fun _ _ _ _ h ⟨i, j, e, q⟩ => ⟨i, j, e, h _ q⟩, fun M env σ H0 H xs rs Q S hv ⟨i, j, e, q⟩ => by
    subst e
    obtain ⟨v, u, rfl, h, h2⟩ := hv.two
    rw [h.int, h2.int]
    exact ⟨i, j, rfl, q _ _ S.stay (Da.int _)⟩⟩
def fMin2 : Env → List R → (R → Prop) → Prop := fun _ rs k => ∃ i j, rs = [.v (.int i), .v (.int j)] ∧ k (.v (.int (if j < i then j else i)))
theorem cd_min2 : CallD Z (fun xs H Q => ∃ i j, xs = [.int i, .int j] ∧ Q (.int (if j < i then j else i)) H) fMin2 :=
  ⟨fun _ _ _ _ h ⟨i, j, e, q⟩ => ⟨i, j, e, h _ q⟩, fun M env σ H0 H xs rs Q S hv ⟨i, j, e, q⟩ => by
    subst e
    obtain ⟨v, u, rfl, h, h2⟩ := hv.two
    rw [h.int, h2.int]
    exact ⟨i, j, rfl, q _ _ S.stay (Da.int _)⟩⟩
def fTupOf : Env → List R → (R → Prop) → Prop := fun env rs k => ∃ r, rs = [r] ∧ ∃ ds, (dataOf env r = some (.list ds) ∨ r = .v (.tuple ds)) ∧ k (.v (.tuple ds))
theorem cd_tupOf : CallD Z (fun xs H Q => ∃ p ys, xs = [.ref p] ∧ ((SqL Z.K H p ys ∧ ∀ l, H l = none → Q (.ref l) (upd H l (.tup ys))) ∨ (SqT Z.K H p ys ∧ Q (.ref p) H))) fTupOf :=
  ⟨fun _ _ _ _ h ⟨r, e, ds, e2, q⟩ => ⟨r, e, ds, e2, h _ q⟩, fun M env σ H0 H xs rs Q S hv ⟨r, e, ds, e2, q⟩ => by
    subst e
    obtain ⟨v, rfl, h⟩ := hv.one
    rcases e2 with e2 | rfl
    · obtain ⟨a, vs, rfl, hx, dx⟩ := h.seq S e2
      exact ⟨a, vs, rfl, .inl ⟨hx, fun p hp => q _ _ (S.new hp) (S.newT hp dx)⟩⟩
    · obtain ⟨a, vs, rfl, hx, dx⟩ := h.tup rfl
      exact ⟨a, vs, rfl, .inr ⟨hx, q _ _ S.stay (Da.tup hx dx)⟩⟩⟩
def fLstOf : Env → List R → (R → Prop) → Prop := fun env rs k => ∃ r, rs = [r] ∧ ∃ ds, (dataOf env r = some (.list ds) ∨ r = .v (.tuple ds)) ∧ k (.new ds)
theorem cd_lstOf : CallD Z (fun xs H Q => ∃ p ys, xs = [.ref p] ∧ (SqL Z.K H p ys ∨ SqT Z.K H p ys) ∧ ∀ l, H l = none → Q (.ref l) (upd H l (.lst ys))) fLstOf :=
  ⟨fun _ _ _ _ h ⟨r, e, ds, e2, q⟩ => ⟨r, e, ds, e2, h _ q⟩, fun M env σ H0 H xs rs Q S hv ⟨r, e, ds, e2, q⟩ => by
    subst e
    obtain ⟨v, rfl, h⟩ := hv.one
    rcases e2 with e2 | rfl
    · obtain ⟨a, vs, rfl, hx, dx⟩ := h.seq S e2
      exact ⟨a, vs, rfl, .inl hx, fun p hp => q _ _ (S.new hp) (S.newL hp dx)⟩
    · obtain ⟨a, vs, rfl, hx, dx⟩ := h.tup rfl
      exact ⟨a, vs, rfl, .inr hx, fun p hp => q _ _ (S.new hp) (S.newL hp dx)⟩⟩
def fSum : Env → List R → (R → Prop) → Prop := fun env rs k => ∃ r, rs = [r] ∧ ∃ ns : List Int, dataOf env r = some (.list (ns.map PyData.int)) ∧ k (.v (.int ns.sum))
theorem cd_sum : CallD Z (rSum Z.K) fSum :=
  ⟨fun _ _ _ _ h ⟨r, e, ds, e2, q⟩ => ⟨r, e, ds, e2, h _ q⟩, fun M env σ H0 H xs rs Q S hv ⟨r, e, ns, e2, q⟩ => by
    subst e
    obtain ⟨v, rfl, h⟩ := hv.one
    obtain ⟨a, vs, rfl, hx, dx⟩ := h.seq S e2
    rw [dx.intsV] at hx
    exact ⟨a, ns, rfl, hx, q _ _ S.stay (Da.int _)⟩⟩
def fSorted : Env → List R → (R → Prop) → Prop := fun env rs k => ∃ r, rs = [r] ∧ ∃ ns : List Int, dataOf env r = some (.list (ns.map PyData.int)) ∧ ∀ ns' : List Int, ns'.Perm ns → ns'.Pairwise (· ≤ ·) → k (.new (ns'.map PyData.int))
theorem cd_sorted : CallD Z (rSortedI Z.K) fSorted :=
  ⟨fun _ _ _ _ h ⟨r, e, ds, e2, q⟩ => ⟨r, e, ds, e2, fun a b c => h _ (q a b c)⟩, fun M env σ H0 H xs rs Q S hv ⟨r, e, ns, e2, q⟩ => by
    subst e
    obtain ⟨v, rfl, h⟩ := hv.one
    obtain ⟨a, vs, rfl, hx, dx⟩ := h.seq S e2
    rw [dx.intsV] at hx
    exact ⟨a, ns, rfl, hx, fun ns' p h1 h2 hp => q ns' h1 h2 _ _ (S.new hp) (S.newL hp (Das.ints ns'))⟩⟩
end
end DL
set_option maxHeartbeats 2000000
/-! what is walked, targets, comprehensions, by data -/
namespace DL
open PySem PySem.Spec PyProof.Rows L2 LW GX LD
section
variable {Z : Wd} {M M' : AS} {env : Env} {σ : L2.St} {H H0 H1 H2 H' : Hp} {ta tb te : TE} {A B : DE} {tt : TT} {T : DTe}
/-- the iterator J walks the items ds, as long as what is of S alone changes -/
structure Iok (K : PySem.W.Frag) (M S : AS) (H1 : Hp) (J : It) (ds : List PyData) : Prop where
  ex : ∃ (G : Hp → Prop) (Y : Nat → Hp → V → Hp → Prop), Walk J ds.length G Y ∧ (∀ H, Kp S H1 H → G H) ∧
    ∀ i H x H' d, ds[i]? = some d → Kp S H1 H → Y i H x H' → Same H H' ∧ ∀ M', (∀ a, M' a → M a ∨ H1 a = none) → (∀ a, M' a → H a ≠ none) → Da K M' H' x d
structure RI (Z : Wd) (wi : TI) (d : Env → (List PyData → Prop) → Prop) : Prop where
  mono : ∀ env K K', (∀ r, K r → K' r) → d env K → d env K'
  run : ∀ M env σ H Q, Sat Z M env σ H → d env (fun ds => ∀ J H1, Step Z env σ H H1 → Iok Z.K M (PS env σ) H1 J ds → Q J H1) → wi σ H Q
/-- the same for a loop, whose body may change the def's own lists -/
structure RJ (Z : Wd) (wi : TI) (d : Env → (List PyData → Prop) → Prop) : Prop where
  mono : ∀ env K K', (∀ r, K r → K' r) → d env K → d env K'
  run : ∀ M env σ H Q, Sat Z M env σ H → d env (fun ds => ∀ J H1, Step Z env σ H H1 → Iok Z.K M (MS env σ) H1 J ds → Q J H1) → wi σ H Q
theorem iok_tup {K : PySem.W.Frag} {S : AS} {a : Addr} {vs : List V} {ds : List PyData} (hS : ∀ a, S a → ∃ xs, H1 a = some (.lst xs)) (hM : ∀ a, S a → M a) (h : SqT K H1 a vs) (hd : Das K M H1 vs ds) : Iok K M S H1 (Itt K a) ds := by
  refine ⟨fun H => SqT K H a vs, YAt vs, by rw [← hd.len]; exact walk_tup, fun H k => k.seqT hS h, fun i H x H' d e k y => ?_⟩
  obtain ⟨rfl, y⟩ := y
  refine ⟨fun _ _ z => z, fun M' h1 _ => ?_⟩
  obtain ⟨d', e', h'⟩ := Das.getV hd y
  rw [e] at e'
  cases e'
  exact h'.kp k hS hM h1
theorem iok_lst {K : PySem.W.Frag} {S : AS} {a : Addr} {vs : List V} {ds : List PyData} (hS : ∀ a, S a → ∃ xs, H1 a = some (.lst xs)) (hM : ∀ a, S a → M a) (h : ∀ H, Kp S H1 H → SqL K H a vs) (hd : Das K M H1 vs ds) : Iok K M S H1 (Itl K a) ds := by
  refine ⟨fun H => SqL K H a vs, YAt vs, by rw [← hd.len]; exact walk_list, fun H k => h H k, fun i H x H' d e k y => ?_⟩
  obtain ⟨rfl, y⟩ := y
  refine ⟨fun _ _ z => z, fun M' h1 _ => ?_⟩
  obtain ⟨d', e', h'⟩ := Das.getV hd y
  rw [e] at e'
  cases e'
  exact h'.kp k hS hM h1
theorem Kp.sql {S : AS} {K : PySem.W.Frag} {a : Addr} {vs : List V} (k : Kp S H H') (hS : ¬ S a) (h : SqL K H a vs) : SqL K H' a vs := by
  rcases h with (h | ⟨o, h⟩) | h
  · exact .inl (.inl (k.keep _ _ h nofun hS))
  · exact .inl (.inr ⟨o, k.keep _ _ h nofun hS⟩)
  · exact .inr h
def intsFrom (lo : Int) (n : Nat) : List PyData := (List.range n).map fun i => .int (lo + (i : Nat))
theorem iok_rng {K : PySem.W.Frag} {S : AS} {lo : Int} {n : Nat} : Iok K M S H1 (Itr lo n) (intsFrom lo n) := by
  have e : (intsFrom lo n).length = n := by simp [intsFrom]
  refine ⟨fun _ => True, YFn fun i => .int (lo + i), by rw [e]; exact walk_range, fun _ _ => trivial, fun i H x H' d e k y => ?_⟩
  obtain ⟨rfl, rfl⟩ := y
  refine ⟨fun _ _ z => z, fun M' _ _ => ?_⟩
  rw [intsFrom, List.getElem?_map] at e
  cases z : (List.range n)[i]? with
  | none => rw [z] at e; cases e
  | some j =>
    rw [z] at e
    cases e
    have : j = i := by
      rw [List.getElem?_eq_some_iff] at z
      obtain ⟨h, z⟩ := z
      rw [List.getElem_range] at z
      exact z.symm
    subst this
    exact .int _
def pairsOf : List PyData → List PyData → List PyData
  | d :: ds, e :: es => .tuple [d, e] :: pairsOf ds es
  | _, _ => []
theorem pairsOf_get : ∀ (ds es : List PyData) (i : Nat), (pairsOf ds es)[i]? = (ds[i]?.bind fun d => es[i]?.map fun e => PyData.tuple [d, e])
  | [], es, i => by simp [pairsOf]
  | d :: ds, [], i => by
    have : (([] : List PyData)[i]?.map fun e => PyData.tuple [d, e]) = none := by simp
    cases h : (d :: ds)[i]? <;> simp [pairsOf]
  | d :: ds, e :: es, 0 => rfl
  | d :: ds, e :: es, i + 1 => by
    have := pairsOf_get ds es i
    simpa [pairsOf] using this
theorem pairsOf_len : ∀ (ds es : List PyData), (pairsOf ds es).length = min ds.length es.length
  | [], es => by simp [pairsOf]
  | d :: ds, [] => by simp [pairsOf]
  | d :: ds, e :: es => by
    have := pairsOf_len ds es
    simp [pairsOf, this]
theorem iok_pair {K : PySem.W.Frag} {S : AS} {J : It} {G : Hp → Prop} {xs ys : Nat → Option V} {ds es : List PyData} (w : Walk J (min ds.length es.length) G (YPair xs ys)) (hG : ∀ H, Kp S H1 H → G H)
    (hx : ∀ i H x d, ds[i]? = some d → Kp S H1 H → xs i = some x → ∀ M', (∀ a, M' a → M a ∨ H1 a = none) → Da K M' H x d) (hy : ∀ i H x d, es[i]? = some d → Kp S H1 H → ys i = some x → ∀ M', (∀ a, M' a → M a ∨ H1 a = none) → Da K M' H x d) :
    Iok K M S H1 J (pairsOf ds es) := by
  refine ⟨G, YPair xs ys, by rw [pairsOf_len]; exact w, hG, fun i H x H' d e k y => ?_⟩
  obtain ⟨t, x1, y1, rfl, hn, rfl, ex, ey⟩ := y
  refine ⟨same_upd hn, fun M' h1 h2 => ?_⟩
  rw [pairsOf_get] at e
  cases z : ds[i]? with
  | none => rw [z] at e; cases e
  | some d1 =>
    cases z2 : es[i]? with
    | none => rw [z, z2] at e; cases e
    | some d2 =>
      rw [z, z2] at e
      cases e
      have up : ∀ {v d}, Da K M' H v d → Da K M' (upd H t (.tup [x1, y1])) v d := fun h => h.mono (fun _ _ q => LW.Same.seqT (same_upd hn) q) fun a xs q _ m => ⟨same_upd hn _ _ q, m⟩
      exact .tup (.inl (.inl upd_same)) (.cons (up (hx i H x1 d1 z k ex M' h1)) (.cons (up (hy i H y1 d2 z2 k ey M' h1)) .nil))
theorem iok_enumT {K : PySem.W.Frag} {S : AS} {a : Addr} {vs : List V} {ds : List PyData} (hS : ∀ a, S a → ∃ xs, H1 a = some (.lst xs)) (hM : ∀ a, S a → M a) (h : SqT K H1 a vs) (hd : Das K M H1 vs ds) : Iok K M S H1 (EN.IteT K a) (pairsOf (intsFrom 0 ds.length) ds) := by
  have e0 : min (intsFrom 0 ds.length).length ds.length = vs.length := by simp [intsFrom, hd.len]
  refine iok_pair (G := fun H => SqT K H a vs) (xs := fun i => some (.int (i : Nat))) (ys := fun i => vs[i]?) (by rw [e0]; exact EN.walk_enumT) (fun H k => k.seqT hS h) (fun i H x d e k y M' _ => ?_) (fun i H x d e k y M' h1 => ?_)
  · cases y
    rw [intsFrom, List.getElem?_map] at e
    cases z : (List.range ds.length)[i]? with
    | none => rw [z] at e; cases e
    | some j =>
      rw [z] at e
      cases e
      have : j = i := by
        rw [List.getElem?_eq_some_iff] at z
        obtain ⟨h, z⟩ := z
        rw [List.getElem_range] at z
        exact z.symm
      subst this
      show Da K M' H (V.int (j : Nat)) (.int (0 + ((j : Nat) : Int)))
      rw [Int.zero_add]
      exact .int _
  · obtain ⟨d', e', h'⟩ := Das.getV hd y
    rw [e] at e'
    cases e'
    exact h'.kp k hS hM h1
theorem iok_zipT {K : PySem.W.Frag} {S : AS} {a b : Addr} {vs us : List V} {ds es : List PyData} (hS : ∀ a, S a → ∃ xs, H1 a = some (.lst xs)) (hM : ∀ a, S a → M a) (h : SqT K H1 a vs) (hd : Das K M H1 vs ds) (h2 : SqT K H1 b us) (hd2 : Das K M H1 us es) :
    Iok K M S H1 (RZ.ItzT K a b) (pairsOf ds es) := by
  refine iok_pair (G := fun H => SqT K H a vs ∧ SqT K H b us) (xs := fun i => vs[i]?) (ys := fun i => us[i]?) (EN.walk_zipT (by rw [hd.len, hd2.len])) (fun H k => ⟨k.seqT hS h, k.seqT hS h2⟩) (fun i H x d e k y M' h1 => ?_) (fun i H x d e k y M' h1 => ?_)
  · obtain ⟨d', e', h'⟩ := Das.getV hd y
    rw [e] at e'
    cases e'
    exact h'.kp k hS hM h1
  · obtain ⟨d', e', h'⟩ := Das.getV hd2 y
    rw [e] at e'
    cases e'
    exact h'.kp k hS hM h1
/-! readings of what is walked -/
def dItT (A : DE) : Env → (List PyData → Prop) → Prop := fun env k => A env fun r => ∃ ds, r = .v (.tuple ds) ∧ k ds
def dItL (A : DE) : Env → (List PyData → Prop) → Prop := fun env k => A env fun r => ∃ ds, dataOf env r = some (.list ds) ∧ k ds
/-- in a loop: no list of the def's own -/
def borOf (env : Env) : R → Option (List PyData)
  | .v (.list ds) => some ds
  | .new ds => some ds
  | .ali i => match env[i]? with
    | some (some (.bor ds)) => some ds
    | _ => none
  | _ => none
def dItB (A : DE) : Env → (List PyData → Prop) → Prop := fun env k => A env fun r => ∃ ds, borOf env r = some ds ∧ k ds
def dItR1 (As : DAs) : Env → (List PyData → Prop) → Prop := fun env k => As env fun rs => ∃ j, rs = [.v (.int j)] ∧ -(2 ^ 62) ≤ j ∧ j < 2 ^ 62 ∧ k (intsFrom 0 j.toNat)
def dItR2 (As : DAs) : Env → (List PyData → Prop) → Prop := fun env k => As env fun rs => ∃ i j, rs = [.v (.int i), .v (.int j)] ∧ (-(2 ^ 62) ≤ i ∧ i < 2 ^ 62 ∧ -(2 ^ 62) ≤ j ∧ j < 2 ^ 62) ∧ k (intsFrom i (j - i).toNat)
def dItZ (As : DAs) : Env → (List PyData → Prop) → Prop := fun env k => As env fun rs => ∃ ds es, rs = [.v (.tuple ds), .v (.tuple es)] ∧ k (pairsOf ds es)
def dItE (As : DAs) : Env → (List PyData → Prop) → Prop := fun env k => As env fun rs => ∃ ds, rs = [.v (.tuple ds)] ∧ k (pairsOf (intsFrom 0 ds.length) ds)
theorem Sat.mss (S : Sat Z M env σ H) : ∀ a, MS env σ a → ∃ xs, H a = some (.lst xs) := fun _ z => S.mlst z
theorem ri_tup (ha : RE Z ta A) : RI Z (iTup Z.K ta) (dItT A) :=
  ⟨fun env K K' h q => ha.mono env _ _ (fun r ⟨c, e, q⟩ => ⟨c, e, h _ q⟩) q, fun M env σ H Q S h => ha.run M env σ H _ S (ha.mono env _ _ (fun r ⟨ds, e, q⟩ v H' k hv => by
    subst e
    obtain ⟨a, vs, rfl, hx, dx⟩ := hv.tup rfl
    exact ⟨a, rfl, ⟨_, hx⟩, q _ _ k (iok_tup (S.same k).psl S.psm hx dx)⟩) h)⟩
theorem rj_tup (ha : RE Z ta A) : RJ Z (iTup Z.K ta) (dItT A) :=
  ⟨fun env K K' h q => ha.mono env _ _ (fun r ⟨c, e, q⟩ => ⟨c, e, h _ q⟩) q, fun M env σ H Q S h => ha.run M env σ H _ S (ha.mono env _ _ (fun r ⟨ds, e, q⟩ v H' k hv => by
    subst e
    obtain ⟨a, vs, rfl, hx, dx⟩ := hv.tup rfl
    exact ⟨a, rfl, ⟨_, hx⟩, q _ _ k (iok_tup (S.same k).mss S.sub hx dx)⟩) h)⟩
theorem Val.seqK {v : V} {r : R} {ds : List PyData} (S0 : Sat Z M env σ H) (k : Step Z env σ H H') (h : Val Z M env σ H H' v r) (e : dataOf env r = some (.list ds)) : ∃ a vs, v = .ref a ∧ (∀ H2, Kp (PS env σ) H' H2 → SqL Z.K H2 a vs) ∧ Das Z.K M H' vs ds := by
  have S := S0.same k
  cases r with
  | v d =>
    cases e
    cases h with
    | lst h1 m h2 => exact ⟨_, _, rfl, fun H2 k2 => k2.sql (fun z => m (S.psm _ z)) (SqL.of h1), h2⟩
  | new es =>
    cases e
    obtain ⟨a, vs, rfl, hn, h1, h2⟩ := h
    exact ⟨a, vs, rfl, fun H2 k2 => k2.sql (S0.nps _ hn.1) (SqL.of h1), h2.sub fun _ h => .inl h⟩
  | ali i =>
    obtain ⟨e0, sv, z⟩ := h
    obtain ⟨v', e', hv⟩ := S.sl i sv z
    rw [e0] at e'
    cases e'
    have e : (match env[i]? with | some (some (.own ds)) => some (PyData.list ds) | some (some (.bor ds)) => some (.list ds) | _ => none) = some (.list ds) := e
    rw [z] at e
    cases sv with
    | dat d => cases e
    | pool => cases e
    | own es =>
      cases e
      obtain ⟨a, vs, rfl, h1, h2, h3⟩ := hv
      refine ⟨a, vs, rfl, fun H2 k2 => k2.sql (fun w => ?_) (SqL.of h1), h2⟩
      obtain ⟨j, j1, j2⟩ := w
      have := S.inj i j a _ _ z rfl e0 j1 rfl j2
      subst this
      rw [z] at j1
      cases j1
    | bor es =>
      cases e
      obtain ⟨a, vs, rfl, h1, h2⟩ := hv
      refine ⟨a, vs, rfl, fun H2 k2 => ?_, h2⟩
      rcases h1 with ⟨h1, hp⟩ | h1
      case inr => exact h1 _
      refine k2.sql (fun w => ?_) (.inl (S.bor h1 hp))
      rcases (S.pool w).2 with q | q
      · exact hp q
      · rcases h1 with h1 | ⟨o, h1⟩ <;> · rw [q] at h1; cases h1
theorem ri_list (ha : RE Z ta A) : RI Z (iList Z.K ta) (dItL A) :=
  ⟨fun env K K' h q => ha.mono env _ _ (fun r ⟨c, e, q⟩ => ⟨c, e, h _ q⟩) q, fun M env σ H Q S h => ha.run M env σ H _ S (ha.mono env _ _ (fun r ⟨ds, e, q⟩ v H' k hv => by
    obtain ⟨a, vs, rfl, hx, dx⟩ := hv.seqK S k e
    exact ⟨a, rfl, ⟨_, hx _ (Kp.refl _ _)⟩, q _ _ k (iok_lst (S.same k).psl S.psm hx dx)⟩) h)⟩
theorem Val.borK {v : V} {r : R} {ds : List PyData} (S0 : Sat Z M env σ H) (k : Step Z env σ H H') (h : Val Z M env σ H H' v r) (e : borOf env r = some ds) : ∃ a vs, v = .ref a ∧ (∀ H2, Kp (MS env σ) H' H2 → SqL Z.K H2 a vs) ∧ Das Z.K M H' vs ds := by
  have S := S0.same k
  cases r with
  | v d =>
    cases d with
    | list es =>
      cases e
      cases h with
      | lst h1 m h2 => exact ⟨_, _, rfl, fun H2 k2 => k2.sql (fun z => m (S.sub _ z)) (SqL.of h1), h2⟩
    | _ => cases e
  | new es =>
    cases e
    obtain ⟨a, vs, rfl, hn, h1, h2⟩ := h
    refine ⟨a, vs, rfl, fun H2 k2 => k2.sql (fun z => ?_) (SqL.of h1), h2.sub fun _ h => .inl h⟩
    obtain ⟨xs, w⟩ := S0.mlst z
    rw [hn.1] at w
    cases w
  | ali i =>
    obtain ⟨e0, sv, z⟩ := h
    obtain ⟨v', e', hv⟩ := S.sl i sv z
    rw [e0] at e'
    cases e'
    have e : (match env[i]? with | some (some (.bor ds)) => some ds | _ => none) = some ds := e
    rw [z] at e
    cases sv with
    | dat d => cases e
    | pool => cases e
    | own es => cases e
    | bor es =>
      cases e
      obtain ⟨a, vs, rfl, h1, h2⟩ := hv
      refine ⟨a, vs, rfl, fun H2 k2 => ?_, h2⟩
      rcases h1 with ⟨h1, hp⟩ | h1
      case inr => exact h1 _
      refine k2.sql (fun w => ?_) (.inl (S.bor h1 hp))
      obtain ⟨j, sv, j1, j2, j3⟩ := w
      obtain ⟨v2, e2, hv2⟩ := S.sl j sv j1
      rw [j3] at e2
      cases e2
      have ne : Z.H0 a ≠ none := by rcases h1 with h1 | ⟨o, h1⟩ <;> · rw [h1]; nofun
      cases sv with
      | dat d => cases j2
      | bor d => cases j2
      | own d =>
        obtain ⟨a', vs', e3, _, _, h0⟩ := hv2
        cases e3
        exact ne h0
      | pool =>
        obtain ⟨a', e3, _, h0⟩ := hv2
        cases e3
        rcases h0 with h0 | h0
        · exact hp h0
        · exact ne h0
theorem rj_list (ha : RE Z ta A) : RJ Z (iList Z.K ta) (dItB A) :=
  ⟨fun env K K' h q => ha.mono env _ _ (fun r ⟨c, e, q⟩ => ⟨c, e, h _ q⟩) q, fun M env σ H Q S h => ha.run M env σ H _ S (ha.mono env _ _ (fun r ⟨ds, e, q⟩ v H' k hv => by
    obtain ⟨a, vs, rfl, hx, dx⟩ := hv.borK S k e
    exact ⟨a, rfl, ⟨_, hx _ (Kp.refl _ _)⟩, q _ _ k (iok_lst (S.same k).mss S.sub hx dx)⟩) h)⟩
section
variable {t : TA} {As : DAs}
theorem ri_r1 (ha : RA Z t As) : RI Z (iRng1 t) (dItR1 As) :=
  ⟨fun env K K' h q => ha.mono env _ _ (fun r ⟨c, e, b1, b2, q⟩ => ⟨c, e, b1, b2, h _ q⟩) q, fun M env σ H Q S h => ha.run M env σ H _ S (ha.mono env _ _ (fun r ⟨j, e, b1, b2, q⟩ vs H' k hv => by
    subst e
    obtain ⟨v, rfl, h⟩ := hv.one
    rw [h.int]
    exact ⟨j, rfl, b1, b2, q _ _ k iok_rng⟩) h)⟩
theorem rj_r1 (ha : RA Z t As) : RJ Z (iRng1 t) (dItR1 As) :=
  ⟨fun env K K' h q => ha.mono env _ _ (fun r ⟨c, e, b1, b2, q⟩ => ⟨c, e, b1, b2, h _ q⟩) q, fun M env σ H Q S h => ha.run M env σ H _ S (ha.mono env _ _ (fun r ⟨j, e, b1, b2, q⟩ vs H' k hv => by
    subst e
    obtain ⟨v, rfl, h⟩ := hv.one
    rw [h.int]
    exact ⟨j, rfl, b1, b2, q _ _ k iok_rng⟩) h)⟩
theorem ri_r2 (ha : RA Z t As) : RI Z (iRng2 t) (dItR2 As) :=
  ⟨fun env K K' h q => ha.mono env _ _ (fun r ⟨c, d, e, b1, q⟩ => ⟨c, d, e, b1, h _ q⟩) q, fun M env σ H Q S h => ha.run M env σ H _ S (ha.mono env _ _ (fun r ⟨i, j, e, b1, q⟩ vs H' k hv => by
    subst e
    obtain ⟨v, u, rfl, h, h2⟩ := hv.two
    rw [h.int, h2.int]
    exact ⟨i, j, rfl, b1, q _ _ k iok_rng⟩) h)⟩
theorem rj_r2 (ha : RA Z t As) : RJ Z (iRng2 t) (dItR2 As) :=
  ⟨fun env K K' h q => ha.mono env _ _ (fun r ⟨c, d, e, b1, q⟩ => ⟨c, d, e, b1, h _ q⟩) q, fun M env σ H Q S h => ha.run M env σ H _ S (ha.mono env _ _ (fun r ⟨i, j, e, b1, q⟩ vs H' k hv => by
    subst e
    obtain ⟨v, u, rfl, h, h2⟩ := hv.two
    rw [h.int, h2.int]
    exact ⟨i, j, rfl, b1, q _ _ k iok_rng⟩) h)⟩
end
end
end DL
set_option maxHeartbeats 2000000
/-! targets, comprehensions and generator expressions by data -/
namespace DL
open PySem PySem.Spec PyProof.Rows L2 LW GX LD
theorem tb_lst {Ts : List Addr} {Tl : List (Addr × Str)} {H H' : Hp} {p : Addr} (t : TB Ts Tl H) (e : Rl p H H') (hp : ∃ xs, H p = some (.lst xs)) : TB Ts Tl H' := by
  obtain ⟨xs, hh⟩ := hp
  refine ⟨fun P hP => ?_, fun q hq => ?_, t.dis⟩
  · obtain ⟨ps, h1, h2⟩ := t.tabs P hP
    exact ⟨ps, e _ _ (fun z => by rw [z, hh] at h1; cases h1) h1, h2⟩
  · obtain ⟨ps, h1, h2, h3⟩ := t.lams q hq
    refine ⟨ps, e _ _ (fun z => by rw [z, hh] at h1; cases h1) h1, h2, fun pos cv hc => ?_⟩
    obtain ⟨c, e1, e2⟩ := h3 pos cv hc
    exact ⟨c, e1, e _ _ (fun z => by rw [z, hh] at e2; cases e2) e2⟩
theorem wipe_set {σ : L2.St} {i : Nat} {x : Option V} : ∀ {vs : List Nat}, i ∈ vs → wipe (σ.set i x) vs = wipe σ vs
  | v :: vs, h => by
    show (wipe (σ.set i x) vs).set v none = (wipe σ vs).set v none
    by_cases e : i ∈ vs
    · rw [wipe_set e]
    · have ev : i = v := by
        rcases List.mem_cons.mp h with h | h
        · exact h
        · exact absurd h e
      subst ev
      have key : ∀ us : List Nat, i ∉ us → wipe (σ.set i x) us = (wipe σ us).set i x := by
        intro us
        induction us with
        | nil => intro _; rfl
        | cons u us ih =>
          intro hu
          show (wipe (σ.set i x) us).set u none = ((wipe σ us).set u none).set i x
          rw [ih (fun z => hu (List.mem_cons_of_mem _ z)), List.set_comm]
          exact fun z => hu (by rw [z]; exact List.mem_cons_self)
      rw [key vs e, List.set_set]
def wipeE (env : Env) : List Nat → Env
  | [] => env
  | v :: vs => (wipeE env vs).set v none
section
variable {Z : Wd} {M M' : AS} {env : Env} {σ : L2.St} {H H0 H1 H2 H' : Hp} {ta tb te : TE} {A B E : DE} {tt : TT} {T : DTe}
theorem set_get {α : Type} {l : List (Option α)} {i j : Nat} {x : Option α} {y : α} (h : (l.set i x)[j]? = some (some y)) : (i = j ∧ x = some y) ∨ (i ≠ j ∧ l[j]? = some (some y)) := by
  by_cases e : i = j
  · subst e
    rw [List.getElem?_set] at h
    simp only [if_true] at h
    split at h
    · exact .inl ⟨rfl, Option.some.inj h⟩
    · cases h
  · rw [List.getElem?_set_ne e] at h
    exact .inr ⟨e, h⟩
theorem Sat.setS (S : Sat Z M env σ H) {i : Nat} {v : Option V} {s : Option SV} (hm : ∀ sv, s = some sv → sv.mut = false ∧ ∃ u, v = some u ∧ Hold Z M H u sv) : Sat Z M (env.set i s) (σ.set i v) H ∧ (∀ a, MS (env.set i s) (σ.set i v) a → MS env σ a) ∧ ∀ a, PS (env.set i s) (σ.set i v) a → PS env σ a := by
  have ms : ∀ (j : Nat) (sv : SV) (a : Addr), (env.set i s)[j]? = some (some sv) → sv.mut = true → (σ.set i v)[j]? = some (some (V.ref a)) → env[j]? = some (some sv) ∧ σ[j]? = some (some (.ref a)) := by
    intro j sv a h1 h2 h3
    rcases set_get h1 with ⟨rfl, e⟩ | ⟨n, e⟩
    · rw [(hm sv e).1] at h2
      cases h2
    · rw [List.getElem?_set_ne n] at h3
      exact ⟨e, h3⟩
  have MSs : ∀ a, MS (env.set i s) (σ.set i v) a → MS env σ a := fun a ⟨j, sv, h1, h2, h3⟩ => ⟨j, sv, (ms j sv a h1 h2 h3).1, h2, (ms j sv a h1 h2 h3).2⟩
  refine ⟨⟨by rw [List.length_set, List.length_set]; exact S.len, fun j sv h => ?_, fun a h => S.sub a (MSs a h), fun j l a sj sl h1 h2 h3 h4 h5 h6 => ?_, S.dom, S.m0, S.old, S.pls, S.tb⟩, MSs, fun a ⟨j, h1, h2⟩ => ⟨j, ms j _ a h1 rfl h2⟩⟩
  · rcases set_get h with ⟨rfl, e⟩ | ⟨n, e⟩
    · obtain ⟨_, u, rfl, hu⟩ := hm sv e
      refine ⟨u, ?_, hu⟩
      have : i < σ.length := by
        rw [← S.len]
        rcases Nat.lt_or_ge i env.length with z | z
        · exact z
        · rw [List.getElem?_eq_none (by rw [List.length_set]; exact z)] at h
          cases h
      rw [List.getElem?_set_self this]
    · rw [List.getElem?_set_ne n]
      exact S.sl j sv e
  · obtain ⟨a1, a2⟩ := ms j sj a h1 h2 h3
    obtain ⟨b1, b2⟩ := ms l sl a h4 h5 h6
    exact S.inj j l a sj sl a1 h2 a2 b1 h5 b2
theorem Sat.wipe (S : Sat Z M env σ H) : ∀ vs : List Nat, Sat Z M (wipeE env vs) (L2.wipe σ vs) H ∧ (∀ a, MS (wipeE env vs) (L2.wipe σ vs) a → MS env σ a) ∧ ∀ a, PS (wipeE env vs) (L2.wipe σ vs) a → PS env σ a
  | [] => ⟨S, fun _ h => h, fun _ h => h⟩
  | v :: vs => by
    obtain ⟨S1, m1, p1⟩ := Sat.wipe S vs
    obtain ⟨S2, m2, p2⟩ := S1.setS (i := v) (v := none) (s := none) (fun _ z => by cases z)
    exact ⟨S2, fun a h => m1 a (m2 a h), fun a h => p1 a (p2 a h)⟩
/-! targets -/
structure RG (Z : Wd) (g : TG) (gd : PyData → Env → Option Env) (sl : List Nat) : Prop where
  run : ∀ M env σ H v d env' Q, Sat Z M env σ H → Da Z.K M H v d → gd d env = some env' → (∀ σ', Sat Z M env' σ' H → (∀ a, MS env' σ' a → MS env σ a) → (∀ a, PS env' σ' a → PS env σ a) → (∀ vs, (∀ i ∈ sl, i ∈ vs) → wipe σ' vs = wipe σ vs) → Q σ' H) → g v σ H Q
structure RGs (Z : Wd) (g : TGs) (gd : List PyData → Env → Option Env) (sl : List Nat) : Prop where
  run : ∀ M env σ H v d env' Q, Sat Z M env σ H → Das Z.K M H v d → gd d env = some env' → (∀ σ', Sat Z M env' σ' H → (∀ a, MS env' σ' a → MS env σ a) → (∀ a, PS env' σ' a → PS env σ a) → (∀ vs, (∀ i ∈ sl, i ∈ vs) → wipe σ' vs = wipe σ vs) → Q σ' H) → g v σ H Q
def gdN (i : Nat) : PyData → Env → Option Env := fun d env => some (env.set i (some (.dat d)))
def gdNil : List PyData → Env → Option Env
  | [], env => some env
  | _ :: _, _ => none
def gdCons (g : PyData → Env → Option Env) (gs : List PyData → Env → Option Env) : List PyData → Env → Option Env
  | [], _ => none
  | d :: ds, env => match g d env with
    | some env' => gs ds env'
    | none => none
def gdT (n : Nat) (gs : List PyData → Env → Option Env) : PyData → Env → Option Env
  | .tuple ds, env => if ds.length = n then gs ds env else none
  | _, _ => none
theorem rg_name {i : Nat} : RG Z (gName i) (gdN i) [i] := ⟨fun M env σ H v d env' Q S hd e q => by
  cases e
  obtain ⟨S1, m1, p1⟩ := S.setS (i := i) (v := some v) (s := some (.dat d)) (fun _ z => by cases z; exact ⟨rfl, v, rfl, hd⟩)
  exact q _ S1 m1 p1 fun vs h => wipe_set (h i List.mem_cons_self)⟩
theorem rgs_nil : RGs Z gNil gdNil [] := ⟨fun M env σ H v d env' Q S hd e q => by
  cases hd with
  | nil =>
    cases e
    exact ⟨rfl, q _ S (fun _ h => h) (fun _ h => h) fun _ _ => rfl⟩
  | cons _ _ => cases e⟩
theorem rgs_cons {g : TG} {gs : TGs} {gd : PyData → Env → Option Env} {gds : List PyData → Env → Option Env} {sl sls : List Nat} (h1 : RG Z g gd sl) (h2 : RGs Z gs gds sls) : RGs Z (gCons g gs) (gdCons gd gds) (sl ++ sls) := ⟨fun M env σ H v d env' Q S hd e q => by
  cases hd with
  | nil => cases e
  | @cons v vs d ds hv hs =>
    have e : (match gd d env with | some env' => gds ds env' | none => none) = some env' := e
    cases z : gd d env with
    | none => rw [z] at e; cases e
    | some env1 =>
      rw [z] at e
      refine ⟨v, vs, rfl, h1.run M env σ H v d env1 _ S hv z fun σ1 S1 m1 p1 w1 => ?_⟩
      refine h2.run M env1 σ1 H vs ds env' _ S1 hs e fun σ2 S2 m2 p2 w2 => ?_
      exact q σ2 S2 (fun a h => m1 a (m2 a h)) (fun a h => p1 a (p2 a h)) fun us h => (w2 us fun i hi => h i (List.mem_append_right _ hi)).trans (w1 us fun i hi => h i (List.mem_append_left _ hi))⟩
theorem rg_tup {n : Nat} {gs : TGs} {gds : List PyData → Env → Option Env} {sls : List Nat} (h2 : RGs Z gs gds sls) : RG Z (gTup Z.K n gs) (gdT n gds) sls := ⟨fun M env σ H v d env' Q S hd e q => by
  cases hd with
  | @tup a xs ds h hs =>
    have e : (if ds.length = n then gds ds env else none) = some env' := e
    split at e
    · exact ⟨a, xs, rfl, h, by rw [hs.len]; assumption, h2.run M env σ H xs ds env' Q S hs e q⟩
    · cases e
  | _ => cases e⟩
/-! composition of steps -/
theorem Step.cmp {env' : Env} {σ' : L2.St} (k : Step Z env σ H1 H) (k2 : Step Z env' σ' H H2) (hp : ∀ a, PS env' σ' a → PS env σ a) : Step Z env σ H1 H2 := by
  refine ⟨k.kp.trans (k2.kp.mono hp), fun a h => ?_, k2.tb⟩
  by_cases z : PS env' σ' a
  · exact k2.pl a z
  · obtain ⟨x, y, a1, a2, a3, e⟩ := k.pl a h
    exact ⟨x, y, a1, a2, a3, k2.kp.keep _ _ e nofun z⟩
theorem Step.wr {D : Addr} {xs ys : List V} (S : Sat Z M env σ H1) (k : Step Z env σ H1 H) (hD : H1 D = none) (h : H D = some (.lst xs)) : Step Z env σ H1 (upd H D (.lst ys)) := by
  refine ⟨⟨fun b o e n s => ?_, fun b e => ?_⟩, fun a h2 => ?_, tb_lst k.tb (fun b o n e => by rw [upd_ne n]; exact e) ⟨xs, h⟩⟩
  · rw [upd_ne (ne_of_none e hD)]
    exact k.kp.keep b o e n s
  · by_cases z : b = D
    · rw [z, upd_same]
      nofun
    · rw [upd_ne z]
      exact k.kp.grow b e
  · obtain ⟨x, y, a1, a2, a3, e⟩ := k.pl a h2
    refine ⟨x, y, a1, a2, a3, ?_⟩
    rw [upd_ne (fun z => S.nps D hD (by rw [← z]; exact h2))]
    exact e
theorem Step.wr' {D : Addr} {xs ys : List V} {env' : Env} {σ' : L2.St} (k : Step Z env σ H1 H) (S : Sat Z M env σ H1) (k2 : Step Z env' σ' H H2) (hp : ∀ a, PS env' σ' a → PS env σ a) (hD : H1 D = none) (h : H2 D = some (.lst xs)) : Step Z env σ H1 (upd H2 D (.lst ys)) :=
  Step.wr S (k.cmp k2 hp) hD h
theorem das_upd {K : PySem.W.Frag} {D : Addr} {xs : List V} {o : HO} {vs : List V} {ds : List PyData} (h : H D = some (.lst xs)) (hM : M D) (hd : Das K M H vs ds) : Das K M (upd H D o) vs ds := by
  refine hd.mono (fun a ys q => ?_) fun a ys q _ m => ⟨?_, m⟩
  · rcases q with (q | ⟨o', q⟩) | q
    · exact .inl (.inl (by rw [upd_ne (fun z => by rw [z, h] at q; cases q)]; exact q))
    · exact .inl (.inr ⟨o', by rw [upd_ne (fun z => by rw [z, h] at q; cases q)]; exact q⟩)
    · exact .inr q
  · rw [upd_ne (fun z => m (by rw [z]; exact hM))]
    exact q
/-! comprehensions -/
def compD (gd : PyData → Env → Option Env) (T : DTe) (E : DE) (wenv : Env) : List PyData → List PyData → (List PyData → Prop) → Prop
  | [], acc, k => k acc
  | d :: ds, acc, k => ∃ env', gd d wenv = some env' ∧ T env' fun b => if b = true then E env' fun r => ∃ y, datR r = some y ∧ compD gd T E wenv ds (acc ++ [y]) k else compD gd T E wenv ds acc k
theorem compD_mono {gd : PyData → Env → Option Env} {wenv : Env} (ht : RT Z tt T) (he : RE Z te E) {k k' : List PyData → Prop} (h : ∀ l, k l → k' l) : ∀ (ds acc : List PyData), compD gd T E wenv ds acc k → compD gd T E wenv ds acc k'
  | [], acc, q => h acc q
  | d :: ds, acc, ⟨env', e, q⟩ => ⟨env', e, ht.mono _ _ _ (fun b q => by
    cases b
    · exact compD_mono ht he h ds acc q
    · exact he.mono _ _ _ (fun r ⟨y, e1, q⟩ => ⟨y, e1, compD_mono ht he h ds _ q⟩) q) q⟩
def dLc (I : Env → (List PyData → Prop) → Prop) (gd : PyData → Env → Option Env) (T : DTe) (E : DE) (vs : List Nat) : DE := fun env k => I env fun ds => ds.length ≤ sizeLine ∧ compD gd T E (wipeE env vs) ds [] fun acc => k (.new acc)
theorem rt_yes : RT Z tYes (fun _ k => k true) := ⟨fun _ _ _ h q => h _ q, fun _ _ _ _ _ S h => h _ S.stay⟩
theorem drop_get {ds : List PyData} {i : Nat} (h : i < ds.length) : ds.drop i = ds[i] :: ds.drop (i + 1) := List.drop_eq_getElem_cons h
theorem re_lc {wi : TI} {I : Env → (List PyData → Prop) → Prop} {g : TG} {gd : PyData → Env → Option Env} {sl vs : List Nat} (hi : RI Z wi I) (hg : RG Z g gd sl) (hs : ∀ i ∈ sl, i ∈ vs) (ht : RT Z tt T) (he : RE Z te E) : RE Z (tLc wi g tt te vs) (dLc I gd T E vs) := by
  refine ⟨fun env K K' h q => hi.mono env _ _ (fun ds q => ⟨q.1, compD_mono ht he (fun l => h _) ds [] q.2⟩) q, fun M env σ H Q S h => ?_⟩
  refine hi.run M env σ H _ S (hi.mono env _ _ (fun ds hq0 J H1 k1 iok => ?_) h)
  obtain ⟨hsz, hq⟩ := hq0
  intro D hD
  obtain ⟨G, Y, wk, hG, hY⟩ := iok.ex
  have S1 := S.same k1
  refine lc_it wk (fun i H' => ∃ accV acc, H' D = some (.lst accV) ∧ Das Z.K (fun a => M a ∨ a = D) H' accV acc ∧ Step Z env σ H1 H' ∧ acc.length ≤ i ∧ compD gd T E (wipeE env vs) (ds.drop i) acc fun acc => ∀ v H', Step Z env σ H H' → Val Z M env σ H H' v (.new acc) → Q v H')
    ⟨[], [], upd_same, .nil, S1.new hD, Nat.le_refl _, hq⟩ (fun i H' hi' ⟨_, _, _, _, k, _⟩ => hG H' k.kp) ?_ ?_
  · rintro i x H2 H3 hlt ⟨accV, acc, hDl, hacc, k2, hn, hc⟩ hy
    obtain ⟨sm, hda⟩ := hY i H2 x H3 ds[i] (List.getElem?_eq_getElem hlt) k2.kp hy
    rw [drop_get hlt] at hc
    obtain ⟨env', eg, hT⟩ := hc
    have k3 : Step Z env σ H1 H3 := k2.trans ((S1.same k2).sameH sm)
    have Sb : Sat Z (fun a => M a ∨ (H1 a = none ∧ H2 a ≠ none)) env σ H3 := S1.step k3 (fun a h => h.imp id And.left)
      (fun a h => (Kp.same (S := fun _ => False) sm).grow a (h.elim (fun h => k2.kp.grow a (S1.dom a h)) And.right)) (fun a h => .inl (S.sub a h)) (fun a h => .inl (S.m0 a h))
    obtain ⟨Sw, mw, pw⟩ := Sb.wipe vs
    have dx := hda (fun a => M a ∨ (H1 a = none ∧ H2 a ≠ none)) (fun a h => h.imp id And.left) (fun a h => h.elim (fun h => k2.kp.grow a (S1.dom a h)) And.right)
    refine hg.run _ _ _ _ x _ env' _ Sw dx eg fun σ2 S2 m2 p2 w2 => ⟨(w2 vs hs).trans (wipe_wipe σ vs), ?_⟩
    have pp : ∀ a, PS env' σ2 a → PS env σ a := fun a h => pw a (p2 a h)
    have nD : ¬ PS env' σ2 D := fun z => S1.nps D hD (pp D z)
    refine ht.run _ env' σ2 H3 _ S2 (ht.mono _ _ _ (fun b hb H4 k4 => ?_) hT)
    have mv : ∀ {H5 : Hp}, Step Z env' σ2 H3 H5 → H5 D = some (.lst accV) ∧ Das Z.K (fun a => M a ∨ a = D) H5 accV acc ∧ Step Z env σ H1 H5 := fun {H5} k5 =>
      ⟨k5.kp.keep _ _ (sm _ _ hDl) nofun nD, (hacc.mono (fun _ _ q => LW.Same.seqT sm q) (fun a xs q _ m => ⟨sm _ _ q, m⟩)).kp k5.kp S2.psl (fun a z => .inl (S.psm a (pp a z))) (fun _ h => .inl h), k3.cmp k5 pp⟩
    cases b with
    | false =>
      obtain ⟨e1, e2, e3⟩ := mv k4
      exact ⟨accV, acc, e1, e2, e3, Nat.le_succ_of_le hn, hb⟩
    | true =>
      refine he.next S2 k4 (he.mono _ _ _ (fun r hr v H5 k5 hv => ?_) hb)
      obtain ⟨y, ey, hc⟩ := hr
      obtain ⟨e1, e2, e3⟩ := mv k5
      have dy := hv.dat ey
      have hz' : accV.length < sizeLine := by rw [e2.len]; omega
      refine ⟨accV, e1, hz', accV ++ [v], acc ++ [y], upd_same, das_upd e1 (.inr rfl) (e2.app (.one (dy.sub fun a h => ?_))), k3.wr' S1 k5 pp hD e1, by rw [List.length_append, List.length_singleton]; omega, hc⟩
      rcases h with h | rfl
      · exact .inl h
      · exact .inr ⟨hD, by rw [hDl]; nofun⟩
  · rintro H2 ⟨accV, acc, hDl, hacc, k2, hn, hc⟩
    rw [List.drop_length] at hc
    exact hc _ _ (k1.trans k2) ⟨D, accV, rfl, ⟨by
      cases z : H D with
      | none => rfl
      | some o => exact absurd hD (k1.kp.grow D (by rw [z]; nofun)), fun z => S1.dom D z hD⟩, hDl, hacc⟩
end
end DL
set_option maxHeartbeats 2000000
/-! generator expressions, in, isinstance, repr, and what else gives values -/
namespace DL
open PySem PySem.Spec PyProof.Rows L2 LW GX LD
section
variable {Z : Wd} {M M' : AS} {env : Env} {σ : L2.St} {H H0 H1 H2 H' : Hp} {ta tb te : TE} {A B E : DE} {tt : TT} {T : DTe}
def dTupG (I : Env → (List PyData → Prop) → Prop) (gd : PyData → Env → Option Env) (T : DTe) (E : DE) (vs : List Nat) : DE := fun env k => I env fun ds => ds.length < sizeLine ∧ compD gd T E (wipeE env vs) ds [] fun acc => k (.v (.tuple acc))
theorem Sat.tabbed {P : Addr} (S : Sat Z M env σ H) (hP : P ∈ Z.Ts) (t : GxR.Tabbed P H H') : Step Z env σ H H' := by
  have h0 : GxR.TabG H P := S.tb.at hP
  refine ⟨Kp.tab t h0, fun a h => ?_, S.tb.tab hP t⟩
  obtain ⟨x, y, a1, a2, a3, e⟩ := (S.pool h).1
  exact ⟨x, y, a1, a2, a3, (Kp.tab (S := fun _ => False) t h0).keep _ _ e nofun id⟩
theorem re_tupG {P : Addr} {wi : TI} {I : Env → (List PyData → Prop) → Prop} {g : TG} {gd : PyData → Env → Option Env} {sl vs : List Nat} (hP : P ∈ Z.Ts) (hi : RI Z wi I) (hg : RG Z g gd sl) (hs : ∀ i ∈ sl, i ∈ vs) (ht : RT Z tt T) (he : RE Z te E) : RE Z (tTupG P wi g tt te vs) (dTupG I gd T E vs) := by
  refine ⟨fun env K K' h q => hi.mono env _ _ (fun ds q => ⟨q.1, compD_mono ht he (fun l => h _) ds [] q.2⟩) q, fun M env σ H Q S h => ?_⟩
  refine hi.run M env σ H _ S (hi.mono env _ _ (fun ds hq0 J H1 k1 iok => ?_) h)
  obtain ⟨hsz, hq⟩ := hq0
  have S1 := S.same k1
  refine ⟨S1.tb.at hP, fun HT tbd => ?_⟩
  have kT : Step Z env σ H1 HT := S1.tabbed hP tbd
  obtain ⟨G, Y, wk, hG, hY⟩ := iok.ex
  refine tup_it wk hsz (fun i accV H' => ∃ acc, Das Z.K M H' accV acc ∧ Step Z env σ H1 H' ∧ compD gd T E (wipeE env vs) (ds.drop i) acc fun acc => ∀ v H', Step Z env σ H H' → Val Z M env σ H H' v (.v (.tuple acc)) → Q v H')
    ⟨[], .nil, kT, hq⟩ (fun i ys H' hi' ⟨_, _, k, _⟩ => hG H' k.kp) ?_ ?_
  · rintro i x accV H2 H3 hlt ⟨acc, hacc, k2, hc⟩ hy
    obtain ⟨sm, hda⟩ := hY i H2 x H3 ds[i] (List.getElem?_eq_getElem hlt) k2.kp hy
    rw [drop_get hlt] at hc
    obtain ⟨env', eg, hT⟩ := hc
    have k3 : Step Z env σ H1 H3 := k2.trans ((S1.same k2).sameH sm)
    have Sb : Sat Z (fun a => M a ∨ (H1 a = none ∧ H2 a ≠ none)) env σ H3 := S1.step k3 (fun a h => h.imp id And.left)
      (fun a h => (Kp.same (S := fun _ => False) sm).grow a (h.elim (fun h => k2.kp.grow a (S1.dom a h)) And.right)) (fun a h => .inl (S.sub a h)) (fun a h => .inl (S.m0 a h))
    obtain ⟨Sw, mw, pw⟩ := Sb.wipe vs
    have dx := hda (fun a => M a ∨ (H1 a = none ∧ H2 a ≠ none)) (fun a h => h.imp id And.left) (fun a h => h.elim (fun h => k2.kp.grow a (S1.dom a h)) And.right)
    refine hg.run _ _ _ _ x _ env' _ Sw dx eg fun σ2 S2 m2 p2 w2 => ⟨(w2 vs hs).trans (wipe_wipe σ vs), ?_⟩
    have pp : ∀ a, PS env' σ2 a → PS env σ a := fun a h => pw a (p2 a h)
    refine ht.run _ env' σ2 H3 _ S2 (ht.mono _ _ _ (fun b hb H4 k4 => ?_) hT)
    have mv : ∀ {H5 : Hp}, Step Z env' σ2 H3 H5 → Das Z.K M H5 accV acc ∧ Step Z env σ H1 H5 := fun {H5} k5 =>
      ⟨(hacc.mono (fun _ _ q => LW.Same.seqT sm q) (fun a xs q _ m => ⟨sm _ _ q, m⟩)).kp k5.kp S2.psl (fun a z => S.psm a (pp a z)) (fun _ h => .inl h), k3.cmp k5 pp⟩
    cases b with
    | false =>
      obtain ⟨e2, e3⟩ := mv k4
      exact ⟨acc, e2, e3, hb⟩
    | true =>
      refine he.next S2 k4 (he.mono _ _ _ (fun r hr v H5 k5 hv => ?_) hb)
      obtain ⟨y, ey, hc⟩ := hr
      obtain ⟨e2, e3⟩ := mv k5
      exact ⟨trivial, fun _ => ⟨acc ++ [y], e2.app (.one ((hv.dat ey).sub fun a h => .inl h)), e3, hc⟩⟩
  · rintro accV H2 ⟨acc, hacc, k2, hc⟩ p hp
    rw [List.drop_length] at hc
    have S2 := S1.same k2
    exact hc _ _ (k1.trans (k2.trans (S2.new hp))) (S2.newT hp hacc)
def flagD (d : Bool) (gd : PyData → Env → Option Env) (T : DTe) (E : DE) (wenv : Env) : List PyData → (Bool → Prop) → Prop
  | [], k => k d
  | x :: ds, k => ∃ env', gd x wenv = some env' ∧ T env' fun b => if b = true then E env' fun r => ∃ c, r = .v (.bool c) ∧ (if c = d then flagD d gd T E wenv ds k else k (!d)) else flagD d gd T E wenv ds k
theorem flagD_mono {d : Bool} {gd : PyData → Env → Option Env} {wenv : Env} (ht : RT Z tt T) (he : RE Z te E) {k k' : Bool → Prop} (h : ∀ l, k l → k' l) : ∀ (ds : List PyData), flagD d gd T E wenv ds k → flagD d gd T E wenv ds k'
  | [], q => h d q
  | x :: ds, ⟨env', e, q⟩ => ⟨env', e, ht.mono _ _ _ (fun b q => by
    cases b
    · exact flagD_mono ht he h ds q
    · exact he.mono _ _ _ (fun r ⟨c, e1, q⟩ => ⟨c, e1, by
        split
        · rw [if_pos ‹_›] at q
          exact flagD_mono ht he h ds q
        · rw [if_neg ‹_›] at q
          exact h _ q⟩) q) q⟩
def dFlagG (d : Bool) (I : Env → (List PyData → Prop) → Prop) (gd : PyData → Env → Option Env) (T : DTe) (E : DE) (vs : List Nat) : DE := fun env k => I env fun ds => flagD d gd T E (wipeE env vs) ds fun b => k (.v (.bool b))
theorem re_flagG {d : Bool} {P : Addr} {wi : TI} {I : Env → (List PyData → Prop) → Prop} {g : TG} {gd : PyData → Env → Option Env} {sl vs : List Nat} (hP : P ∈ Z.Ts) (hi : RI Z wi I) (hg : RG Z g gd sl) (hs : ∀ i ∈ sl, i ∈ vs) (ht : RT Z tt T) (he : RE Z te E) : RE Z (tFlagG d P wi g tt te vs) (dFlagG d I gd T E vs) := by
  refine ⟨fun env K K' h q => hi.mono env _ _ (fun ds q => flagD_mono ht he (fun l => h _) ds q) q, fun M env σ H Q S h => ?_⟩
  refine hi.run M env σ H _ S (hi.mono env _ _ (fun ds hq J H1 k1 iok => ?_) h)
  have S1 := S.same k1
  refine ⟨S1.tb.at hP, fun HT tbd => ?_⟩
  have kT : Step Z env σ H1 HT := S1.tabbed hP tbd
  obtain ⟨G, Y, wk, hG, hY⟩ := iok.ex
  refine flag_it wk (fun i H' => Step Z env σ H1 H' ∧ flagD d gd T E (wipeE env vs) (ds.drop i) fun b => ∀ v H', Step Z env σ H H' → Val Z M env σ H H' v (.v (.bool b)) → Q v H')
    ⟨kT, hq⟩ (fun i H' hi' ⟨k, _⟩ => hG H' k.kp) ?_ ?_
  · rintro i x H2 H3 hlt ⟨k2, hc⟩ hy
    obtain ⟨sm, hda⟩ := hY i H2 x H3 ds[i] (List.getElem?_eq_getElem hlt) k2.kp hy
    rw [drop_get hlt] at hc
    obtain ⟨env', eg, hT⟩ := hc
    have k3 : Step Z env σ H1 H3 := k2.trans ((S1.same k2).sameH sm)
    have Sb : Sat Z (fun a => M a ∨ (H1 a = none ∧ H2 a ≠ none)) env σ H3 := S1.step k3 (fun a h => h.imp id And.left)
      (fun a h => (Kp.same (S := fun _ => False) sm).grow a (h.elim (fun h => k2.kp.grow a (S1.dom a h)) And.right)) (fun a h => .inl (S.sub a h)) (fun a h => .inl (S.m0 a h))
    obtain ⟨Sw, mw, pw⟩ := Sb.wipe vs
    have dx := hda (fun a => M a ∨ (H1 a = none ∧ H2 a ≠ none)) (fun a h => h.imp id And.left) (fun a h => h.elim (fun h => k2.kp.grow a (S1.dom a h)) And.right)
    refine hg.run _ _ _ _ x _ env' _ Sw dx eg fun σ2 S2 m2 p2 w2 => ⟨(w2 vs hs).trans (wipe_wipe σ vs), ?_⟩
    have pp : ∀ a, PS env' σ2 a → PS env σ a := fun a h => pw a (p2 a h)
    refine ht.run _ env' σ2 H3 _ S2 (ht.mono _ _ _ (fun b hb H4 k4 => ?_) hT)
    cases b with
    | false => exact ⟨k3.cmp k4 pp, hb⟩
    | true =>
      refine he.next S2 k4 (he.mono _ _ _ (fun r hr v H5 k5 hv => ?_) hb)
      obtain ⟨c, ec, hc⟩ := hr
      subst ec
      rw [hv.bl]
      have k6 := k3.cmp k5 pp
      refine ⟨⟨c, rfl, fun z => ?_⟩, fun z => ⟨k6, ?_⟩⟩
      · subst z
        rw [if_neg (by cases d <;> nofun)] at hc
        exact hc _ _ (k1.trans k6) (Da.bl _)
      · cases z
        rw [if_pos rfl] at hc
        exact hc
  · rintro H2 ⟨k2, hc⟩
    rw [List.drop_length] at hc
    exact hc _ _ (k1.trans k2) (Da.bl _)
/-! in, not in: flat things -/
def flatD : PyData → Bool
  | .none => true
  | .bool _ => true
  | .int _ => true
  | .str _ => true
  | _ => false
def eqFD : PyData → PyData → Bool
  | .none, .none => true
  | .bool a, .bool b => a == b
  | .bool a, .int b => (if a then 1 else 0) == b
  | .int a, .bool b => a == (if b then 1 else 0)
  | .int a, .int b => a == b
  | .str a, .str b => a == b
  | _, _ => false
def vOf : PyData → V
  | .none => .non
  | .bool b => .bl b
  | .int i => .int i
  | .str s => .str s
  | _ => .non
theorem Da.flat {K : PySem.W.Frag} {v : V} {d : PyData} (h : Da K M H v d) (f : flatD d = true) : v = vOf d ∧ flatV v = true := by
  cases h <;> first | exact ⟨rfl, rfl⟩ | cases f
theorem Das.flat {K : PySem.W.Frag} {vs : List V} {ds : List PyData} (h : Das K M H vs ds) (f : ds.all flatD = true) : vs = ds.map vOf ∧ vs.all flatV = true := by
  induction ds generalizing vs with
  | nil =>
    cases h
    exact ⟨rfl, rfl⟩
  | cons d ds ih =>
    cases h with
    | cons h1 h2 =>
      rw [List.all_cons, Bool.and_eq_true] at f
      obtain ⟨e1, f1⟩ := h1.flat f.1
      obtain ⟨e2, f2⟩ := ih h2 f.2
      rw [e1, e2]
      exact ⟨rfl, by rw [List.all_cons, ← e1, ← e2, f1, f2]; rfl⟩
theorem eqV_vOf {d e : PyData} (hd : flatD d = true) (he : flatD e = true) : eqV (vOf d) (vOf e) = eqFD d e := by
  cases d <;> cases e <;> first | rfl | (simp [flatD] at hd; done) | (simp [flatD] at he; done)
theorem inV_vOf {d : PyData} {ds : List PyData} (hd : flatD d = true) (hs : ds.all flatD = true) : inV (vOf d) (ds.map vOf) = ds.any fun e => eqFD e d := by
  unfold inV
  induction ds with
  | nil => rfl
  | cons e ds ih =>
    rw [List.all_cons, Bool.and_eq_true] at hs
    rw [List.map_cons, List.any_cons, List.any_cons, ih hs.2, eqV_vOf hs.1 hd]
def fIn (neg : Bool) : Env → R → R → (R → Prop) → Prop := fun env r1 r2 k => ∃ d, r1 = .v d ∧ ∃ ds, (dataOf env r2 = some (.list ds) ∨ r2 = .v (.tuple ds)) ∧ flatD d = true ∧ ds.all flatD = true ∧ k (.v (.bool (if neg then !(ds.any fun e => eqFD e d) else ds.any fun e => eqFD e d)))
theorem od_in {neg : Bool} : OpD Z (rIn Z.K neg) (fIn neg) :=
  ⟨fun _ _ _ _ _ h ⟨i, e1, j, e2, c, c2, q⟩ => ⟨i, e1, j, e2, c, c2, h _ q⟩, fun M env σ H0 H x y r1 r2 Q S v1 v2 ⟨d, e1, ds, e2, c, c2, q⟩ => by
    subst e1
    have key : ∀ a vs, v2 = v2 → (SqL Z.K H a vs ∨ SqT Z.K H a vs) → Das Z.K M H vs ds → y = .ref a → rIn Z.K neg x y H Q := by
      rintro a vs _ hs dv rfl
      obtain ⟨f1, f2⟩ := Da.flat v1 c
      obtain ⟨g1, g2⟩ := dv.flat c2
      refine ⟨a, vs, rfl, hs, f2, g2, ?_⟩
      rw [g1, f1, inV_vOf c c2]
      exact q _ _ S.stay (Da.bl _)
    rcases e2 with e2 | rfl
    · obtain ⟨a, vs, e, hx, dx⟩ := v2.seq S e2
      exact key a vs rfl (.inl hx) dx e
    · obtain ⟨a, vs, e, hx, dx⟩ := v2.tup rfl
      exact key a vs rfl (.inr hx) dx e⟩
theorem Da.ty {K : PySem.W.Frag} {v : V} {d : PyData} (h : Da K M H v d) : TyX K H v (.type (tyD d)) ∨ ∃ C kvs, d = .dict kvs ∧ (∀ n ∈ ["int", "bool", "tuple", "str", "list", "dict"], PySem.W.kitOne K (.ref C) (.type n) = some false) ∧ TyX K H v (.ref C) := by
  cases h with
  | non => exact .inl (.base .non)
  | bl b => exact .inl (.base (.bl b))
  | int i => exact .inl (.base (.int i))
  | str x => exact .inl (.base (.str x))
  | tup h _ => exact .inl (tup_ty h)
  | lst h _ _ => exact .inl (.base (.lst h))
  | obj h _ t _ => exact .inr ⟨_, _, rfl, t.kit, .base (.ins h t.cls t.ha t.hn t.htk t.hm)⟩
  | dct h _ _ => exact .inl (.base (.dK h))
/-- isinstance(x, int), isinstance(x, bool), isinstance(x, tuple) -/
def dIsi (f : PyData → Bool) (A : DE) : DE := fun env k => A env fun r => ∃ d, r = .v d ∧ k (.v (.bool (f d)))
theorem re_isi {n : String} {f : PyData → Bool} (hf : ∀ d, PySem.W.kitOne Z.K (.type (tyD d)) (.type n) = some (f d)) (hn : n ∈ ["int", "bool", "tuple", "str", "list", "dict"]) (h0 : ∀ kvs, f (.dict kvs) = false) (ha : RE Z ta A) : RE Z (tCB (rIsi Z.K) (tCons ta (tCons (tC (.ty n)) tNil))) (dIsi f A) :=
  ⟨fun env K K' h q => ha.mono env _ _ (fun r ⟨c, e, q⟩ => ⟨c, e, h _ q⟩) q, fun M env σ H Q S h => ha.run M env σ H _ S (ha.mono env _ _ (fun r ⟨d, e, q⟩ v H' k hv => by
    subst e
    rcases Da.ty hv with ty | ⟨C, kvs, rfl, to, ty⟩
    · exact ⟨v, .ty n, _, _, f d, rfl, .ty n, ty, hf d, q _ _ k (Da.bl _)⟩
    · exact ⟨v, .ty n, _, _, f (.dict kvs), rfl, .ty n, ty, by rw [h0]; exact to n hn, q _ _ k (Da.bl _)⟩) h)⟩
theorem re_isi_int (ha : RE Z ta A) : RE Z (tCB (rIsi Z.K) (tCons ta (tCons (tC (.ty "int")) tNil))) (dIsi isI A) := re_isi (fun d => kit_int d) (by decide) (fun _ => rfl) ha
theorem re_isi_bool (ha : RE Z ta A) : RE Z (tCB (rIsi Z.K) (tCons ta (tCons (tC (.ty "bool")) tNil))) (dIsi isB A) := re_isi (fun d => kit_bool d) (by decide) (fun _ => rfl) ha
theorem re_isi_tuple (ha : RE Z ta A) : RE Z (tCB (rIsi Z.K) (tCons ta (tCons (tC (.ty "tuple")) tNil))) (dIsi isTup A) := re_isi (fun d => kit_tup d) (by decide) (fun _ => rfl) ha
/-! repr -/
def rReprM (K : PySem.W.Frag) : List V → Hp → VK → Prop := fun xs H Q => ∃ a d, xs = [.ref a] ∧ Dp K H (.ref a) d ∧ d.showable = true ∧ d.hasDict = false ∧ d.shown.length ≤ sizeLine ∧ d.depth ≤ 60 ∧ Q (.str d.shown) H
theorem call_reprM {X : Cx} (hg : X.A.guards = some []) (hu : X.A.units + 64 < cLine) : CallR X (.builtin "repr") (rReprM X.K) := by
  intro pins s σ H xs us Q I r h
  obtain ⟨a, d, rfl, hd, hs, hn, hl, hz, q⟩ := h
  obtain ⟨u, rfl, e⟩ := vals1 r
  cases e
  obtain ⟨as, rd⟩ := Dp.reads I d (.ref a) (.ref a) hd rfl
  refine repr_of_reads' rd hs (fun z => by rw [hn] at z; cases z) hg (by omega) (fun _ _ e => e) (fun h' t tk k => ?_) hl
  exact ⟨.str d.shown, H, I.kept k, ⟨t, rfl⟩, q⟩
def isSeq : PyData → Bool
  | .list _ => true
  | .tuple _ => true
  | _ => false
def fRepr : Env → List R → (R → Prop) → Prop := fun env rs k => ∃ r, rs = [r] ∧ ∃ d, dataOf env r = some d ∧ isSeq d = true ∧ d.showable = true ∧ d.hasDict = false ∧ d.shown.length ≤ sizeLine ∧ d.depth ≤ 60 ∧ k (.v (.str d.shown))
theorem cd_repr : CallD Z (rReprM Z.K) fRepr :=
  ⟨fun _ _ _ _ h ⟨r, e, d, e1, e2, e3, e4, e5, e6, q⟩ => ⟨r, e, d, e1, e2, e3, e4, e5, e6, h _ q⟩, fun M env σ H0 H xs rs Q S hv ⟨r, e, d, e1, e2, e3, e4, e5, e6, q⟩ => by
    subst e
    obtain ⟨v, rfl, h⟩ := hv.one
    have hd := h.dp S e1 e4
    cases hd with
    | lst h1 h2 => exact ⟨_, _, rfl, .lst h1 h2, e3, e4, e5, e6, q _ _ S.stay (Da.str _)⟩
    | tup h1 h2 => exact ⟨_, _, rfl, .tup h1 h2, e3, e4, e5, e6, q _ _ S.stay (Da.str _)⟩
    | _ => cases e2⟩
def fReprB : Env → List R → (R → Prop) → Prop := fun _ rs k => ∃ b, rs = [.v (.bool b)] ∧ k (.v (.str (yesNo b)))
theorem cd_reprB : CallD Z (fun xs H Q => ∃ b, xs = [.bl b] ∧ Q (.str (yesNo b)) H) fReprB :=
  ⟨fun _ _ _ _ h ⟨i, e, q⟩ => ⟨i, e, h _ q⟩, fun M env σ H0 H xs rs Q S hv ⟨i, e, q⟩ => by
    subst e
    obtain ⟨v, rfl, h⟩ := hv.one
    rw [h.bl]
    exact ⟨i, rfl, q _ _ S.stay (Da.str _)⟩⟩
def fReprI : Env → List R → (R → Prop) → Prop := fun _ rs k => ∃ i : Int, rs = [.v (.int i)] ∧ i.natAbs.log2 < 1920 ∧ k (.v (.str (toString i)))
theorem cd_reprI : CallD Z (fun xs H Q => ∃ i, xs = [.int i] ∧ i.natAbs.log2 < 1920 ∧ Q (.str (toString i)) H) fReprI :=
  ⟨fun _ _ _ _ h ⟨i, e, c, q⟩ => ⟨i, e, c, h _ q⟩, fun M env σ H0 H xs rs Q S hv ⟨i, e, c, q⟩ => by
    subst e
    obtain ⟨v, rfl, h⟩ := hv.one
    rw [h.int]
    exact ⟨i, rfl, c, q _ _ S.stay (Da.str _)⟩⟩
/-! t * k of a tuple -/
def fRepT : Env → R → R → (R → Prop) → Prop := fun _ r1 r2 k => ∃ ds, r1 = .v (.tuple ds) ∧ ∃ j, r2 = .v (.int j) ∧ ds ≠ [] ∧ 1 ≤ j ∧ j ≤ 1000 ∧ ds.length ≤ 1000 ∧ k (.v (.tuple (List.replicate j.toNat ds).flatten))
theorem od_repT : OpD Z (RT.rRepA Z.K) fRepT :=
  ⟨fun _ _ _ _ _ h ⟨i, e1, j, e2, c1, c2, c3, c4, q⟩ => ⟨i, e1, j, e2, c1, c2, c3, c4, h _ q⟩, fun M env σ H0 H x y r1 r2 Q S v1 v2 ⟨ds, e1, j, e2, c1, c2, c3, c4, q⟩ => by
    subst e1 e2
    obtain ⟨a, xs, rfl, hx, dx⟩ := v1.tup rfl
    refine ⟨a, j, xs, rfl, v2.int, hx, fun z => c1 ?_, c2, c3, by rw [dx.len]; exact c4, fun r H' e hr => q _ _ (S.sameH e) (Da.tup hr (Das.st S (S.sameH e) (dx.rep _)))⟩
    rw [z] at dx
    cases dx
    rfl⟩
end
end DL
set_option maxHeartbeats 2000000
/-! statements by data, and a def's promise by data -/
namespace DL
open PySem PySem.Spec PyProof.Rows L2 LW GX LD
structure DEnds where
  nx : Env → Prop
  rt : R → Prop
  bk : Env → Prop := fun _ => False
  ct : Env → Prop := fun _ => False
abbrev DS := DEnds → Env → Prop
/-- at a statement: nothing but the entry's and the slots' own lists is not data's -/
def MZ (Z : Wd) (env : Env) (σ : L2.St) : AS := fun a => Z.M0 a ∨ MS env σ a
abbrev SatS (Z : Wd) (env : Env) (σ : L2.St) (H : Hp) : Prop := Sat Z (MZ Z env σ) env σ H
structure SStep (env : Env) (σ : L2.St) (H : Hp) (env' : Env) (σ' : L2.St) (H' : Hp) : Prop where
  kp : Kp (MS env σ) H H'
  ms : ∀ a, MS env' σ' a → MS env σ a ∨ H a = none
/-- what holds at a return -/
structure EndOk (Z : Wd) (H : Hp) : Prop where
  old : Kp (· ∈ Z.pl) Z.H0 H
  pls : ∀ p ∈ Z.pl, Pl H p
  tb : TB Z.Ts Z.Tl H
def RVal (Z : Wd) (H : Hp) (v : V) : R → Prop
  | .v d => Da Z.K Z.M0 H v d
  | .new ds => ∃ a vs, v = .ref a ∧ Z.H0 a = none ∧ H a = some (.lst vs) ∧ Das Z.K (fun b => Z.M0 b ∨ b = a) H vs ds
  | .ali _ => False
structure DEnds.le (D D' : DEnds) : Prop where
  nx : ∀ e, D.nx e → D'.nx e
  rt : ∀ r, D.rt r → D'.rt r
  bk : ∀ e, D.bk e → D'.bk e
  ct : ∀ e, D.ct e → D'.ct e
def upD (Z : Wd) (env : Env) (σ : L2.St) (H : Hp) (D : Ends) : DEnds where
  nx env' := ∀ σ' H', SatS Z env' σ' H' → SStep env σ H env' σ' H' → D.nx σ' H'
  rt r := ∀ v H', EndOk Z H' → RVal Z H' v r → D.rt v H'
  bk env' := ∀ σ' H', SatS Z env' σ' H' → SStep env σ H env' σ' H' → D.bk σ' H'
  ct env' := ∀ σ' H', SatS Z env' σ' H' → SStep env σ H env' σ' H' → D.ct σ' H'
structure RS (Z : Wd) (ts : TS) (d : DS) : Prop where
  mono : ∀ env K K', DEnds.le K K' → d K env → d K' env
  run : ∀ env σ H (D : Ends), SatS Z env σ H → d (upD Z env σ H D) env → ts D σ H
section
variable {Z : Wd} {M M' : AS} {env env' env1 env2 : Env} {σ σ' σ1 σ2 : L2.St} {H H0 H1 H2 H' : Hp} {ta tb te : TE} {A B E : DE} {tt tA : TT} {T : DTe} {t u : TS} {d e : DS}
theorem Sat.endOk (S : Sat Z M env σ H) : EndOk Z H := ⟨S.old, S.pls, S.tb⟩
theorem SStep.refl : SStep env σ H env σ H := ⟨Kp.refl _ _, fun _ h => .inl h⟩
theorem SStep.trans (a : SStep env σ H env1 σ1 H1) (b : SStep env1 σ1 H1 env2 σ2 H2) : SStep env σ H env2 σ2 H2 := by
  refine ⟨⟨fun c o h n s => b.kp.keep c o (a.kp.keep c o h n s) n fun z => ?_, fun c h => b.kp.grow c (a.kp.grow c h)⟩, fun c h => ?_⟩
  · rcases a.ms c z with q | q
    · exact s q
    · rw [q] at h
      cases h
  · rcases b.ms c h with q | q
    · exact a.ms c q
    · refine .inr ?_
      cases z : H c with
      | none => rfl
      | some o => exact absurd q (a.kp.grow c (by rw [z]; nofun))
theorem Step.ss (k : Step Z env σ H H') : SStep env σ H env σ H' := ⟨k.kp.mono fun _ h => h.ms, fun _ h => .inl h⟩
/-- ends from further on -/
theorem le_after {D : Ends} (k : SStep env σ H env1 σ1 H1) : DEnds.le (upD Z env σ H D) (upD Z env1 σ1 H1 D) :=
  ⟨fun _ h σ' H' s k2 => h σ' H' s (k.trans k2), fun _ h => h, fun _ h σ' H' s k2 => h σ' H' s (k.trans k2), fun _ h σ' H' s k2 => h σ' H' s (k.trans k2)⟩
theorem RS.from (hd : RS Z t d) {D : Ends} (S : SatS Z env1 σ1 H1) (k : SStep env σ H env1 σ1 H1) (h : d (upD Z env σ H D) env1) : t D σ1 H1 :=
  hd.run env1 σ1 H1 D S (hd.mono env1 _ _ (le_after k) h)
def sNext : DS := fun D env => D.nx env
theorem rs_next : RS Z tNext sNext := ⟨fun _ _ _ h q => h.nx _ q, fun env σ H D S h => h σ H S .refl⟩
def sSeq (d e : DS) : DS := fun D env => d { D with nx := fun env' => e D env' } env
theorem rs_seq (h1 : RS Z t d) (h2 : RS Z u e) : RS Z (tSeq t u) (sSeq d e) where
  mono env K K' h q := h1.mono env { K with nx := fun env' => e K env' } { K' with nx := fun env' => e K' env' } ⟨fun env' q => h2.mono env' _ _ h q, h.rt, h.bk, h.ct⟩ q
  run env σ H D S h := h1.run env σ H _ S (h1.mono env { upD Z env σ H D with nx := fun env' => e (upD Z env σ H D) env' } _ ⟨fun env' q σ' H' S' k => h2.from S' k q, fun _ h => h, fun _ h => h, fun _ h => h⟩ h)
def sBrk : DS := fun D env => D.bk env
def sCnt : DS := fun D env => D.ct env
theorem rs_brk : RS Z tBreak sBrk := ⟨fun _ _ _ h q => h.bk _ q, fun env σ H D S h => h σ H S .refl⟩
theorem rs_cnt : RS Z tCont sCnt := ⟨fun _ _ _ h q => h.ct _ q, fun env σ H D S h => h σ H S .refl⟩
/-- what may be handed back -/
def retR (env : Env) : R → Option R
  | .v d => some (.v d)
  | .new ds => some (.new ds)
  | .ali i => match env[i]? with
    | some (some (.own ds)) => some (.new ds)
    | _ => none
def sRet (A : DE) : DS := fun D env => A env fun r => ∃ q, retR env r = some q ∧ D.rt q
theorem Val.ret {v : V} {r q : R} (S : SatS Z env σ H) (k : Step Z env σ H H') (h : Val Z (MZ Z env σ) env σ H H' v r) (e : retR env r = some q) : RVal Z H' v q := by
  have S' := S.same k
  cases r with
  | v d =>
    cases e
    exact Da.sub (fun a h => .inl h) h
  | new ds =>
    cases e
    obtain ⟨a, vs, rfl, hn, hl, hd⟩ := h
    exact ⟨a, vs, rfl, S.h0 hn.1, hl, hd.sub fun a h => h.imp .inl id⟩
  | ali i =>
    obtain ⟨e0, sv, z⟩ := h
    have e : (match env[i]? with | some (some (.own ds)) => some (R.new ds) | _ => none) = some q := e
    rw [z] at e
    cases sv with
    | own ds =>
      cases e
      obtain ⟨v', e', a, vs, rfl, h1, h2, h3⟩ := S'.sl i _ z
      rw [e0] at e'
      cases e'
      exact ⟨a, vs, rfl, h3, h1, h2.sub fun b h => by
        rcases h with h | rfl
        · exact .inl h
        · exact .inr ⟨i, _, z, rfl, e0⟩⟩
    | _ => cases e
theorem rs_ret (ha : RE Z ta A) : RS Z (tRet ta) (sRet A) where
  mono env K K' h q := ha.mono env _ _ (fun r ⟨q, e, z⟩ => ⟨q, e, h.rt _ z⟩) q
  run env σ H D S h := ha.run _ env σ H _ S (ha.mono env _ _ (fun r ⟨q, e, z⟩ v H' k hv => z v H' (S.same k).endOk (hv.ret S k e)) h)
def sRetN : DS := fun D _ => D.rt (.v .none)
theorem rs_retN : RS Z tRetN sRetN := ⟨fun _ _ _ h q => h.rt _ q, fun env σ H D S h => h .non H S.endOk .non⟩
def sDrop (A : DE) : DS := fun D env => A env fun _ => D.nx env
theorem rs_drop (ha : RE Z ta A) : RS Z (tDrop ta) (sDrop A) where
  mono env K K' h q := ha.mono env _ _ (fun r q => h.nx _ q) q
  run env σ H D S h := ha.run _ env σ H _ S (ha.mono env _ _ (fun r q v H' k hv => q σ H' (S.same k) k.ss) h)
def sIf (T : DTe) (d e : DS) : DS := fun D env => T env fun c => if c = true then d D env else e D env
theorem rs_if (hc : RT Z tA T) (h1 : RS Z t d) (h2 : RS Z u e) : RS Z (tIfS tA t u) (sIf T d e) where
  mono env K K' h q := hc.mono env _ _ (fun c q => by
    cases c
    · exact h2.mono env _ _ h q
    · exact h1.mono env _ _ h q) q
  run env σ H D S h := hc.run _ env σ H _ S (hc.mono env _ _ (fun c q H' k => by
    cases c
    · exact h2.from (S.same k) k.ss q
    · exact h1.from (S.same k) k.ss q) h)
def sNever : DS := fun _ _ => False
theorem rs_never {t : TS} : RS Z t sNever := ⟨fun _ _ _ _ h => h.elim, fun _ _ _ _ _ h => h.elim⟩
/-! assignments -/
/-- what a slot holds of a result -/
def slotR (env : Env) : R → Option SV
  | .v d => some (.dat d)
  | .new ds => some (.own ds)
  | .ali i => match env[i]? with
    | some (some (.bor ds)) => some (.bor ds)
    | _ => none
/-- a list of the slot is let go -/
def sSet (i : Nat) (A : DE) : DS := fun D env => A env fun r => ∃ sv, slotR env r = some sv ∧ D.nx (env.set i (some sv))
theorem Sat.mz (S : Sat Z M env σ H) (h : ∀ a, MZ Z env σ a → M a) : SatS Z env σ H where
  len := S.len
  sl i sv e := by
    obtain ⟨v, e1, hv⟩ := S.sl i sv e
    refine ⟨v, e1, ?_⟩
    cases sv with
    | dat d => exact Da.sub h hv
    | own ds =>
      obtain ⟨a, vs, rfl, h1, h2, h3⟩ := hv
      exact ⟨a, vs, rfl, h1, h2.sub h, h3⟩
    | bor ds =>
      obtain ⟨a, vs, rfl, h1, h3⟩ := hv
      exact ⟨a, vs, rfl, h1, h3.sub h⟩
    | pool => exact hv
  sub a h := .inr h
  inj := S.inj
  dom a z := S.dom a (h a z)
  m0 a z := .inl z
  old := S.old
  pls := S.pls
  tb := S.tb
theorem Sat.shrink (S : SatS Z env σ H) (S' : Sat Z (MZ Z env σ) env' σ' H) (h : ∀ a, MS env' σ' a → MS env σ a) : SatS Z env' σ' H := S'.mz fun a z => z.imp id (h a)
/-- a slot gets what is data, or a borrowed list -/
theorem Sat.setD (S : SatS Z env σ H) {i : Nat} {v : V} {sv : SV} (hm : sv.mut = false) (hv : Hold Z (MZ Z env σ) H v sv) : SatS Z (env.set i (some sv)) (σ.set i (some v)) H ∧ ∀ a, MS (env.set i (some sv)) (σ.set i (some v)) a → MS env σ a := by
  obtain ⟨S1, m1, _⟩ := Sat.setS S (i := i) (v := some v) (s := some sv) (fun _ z => by cases z; exact ⟨hm, v, rfl, hv⟩)
  exact ⟨Sat.shrink S S1 m1, m1⟩
/-- a slot gets a new list -/
theorem Sat.setO (S : SatS Z env σ H) (k : Step Z env σ H H') {i : Nat} {a : Addr} {vs : List V} {ds : List PyData} (hn : H a = none) (hl : H' a = some (.lst vs)) (hd : Das Z.K (fun b => MZ Z env σ b ∨ b = a) H' vs ds) :
    SatS Z (env.set i (some (.own ds))) (σ.set i (some (.ref a))) H' ∧ ∀ b, MS (env.set i (some (.own ds))) (σ.set i (some (.ref a))) b → MS env σ b ∨ b = a := by
  have S1 : Sat Z (fun b => MZ Z env σ b ∨ b = a) env σ H' := S.step k (fun b h => h.imp id fun z => by rw [z]; exact hn) (fun b h => by
    rcases h with h | rfl
    · exact k.kp.grow b (S.dom b h)
    · rw [hl]
      nofun) (fun b h => .inl (.inr h)) (fun b h => .inl (.inl h))
  have na : ∀ j : Nat, ∀ sv : SV, env[j]? = some (some sv) → sv.mut = true → σ[j]? ≠ some (some (.ref a)) := fun j sv h1 h2 h3 => by
    obtain ⟨xs, e⟩ := S.mlst ⟨j, sv, h1, h2, h3⟩
    rw [hn] at e
    cases e
  have ms : ∀ (j : Nat) (sv : SV) (b : Addr), (env.set i (some (.own ds)))[j]? = some (some sv) → sv.mut = true → (σ.set i (some (V.ref a)))[j]? = some (some (.ref b)) → (j = i ∧ b = a ∧ sv = .own ds) ∨ (j ≠ i ∧ env[j]? = some (some sv) ∧ σ[j]? = some (some (.ref b))) := by
    intro j sv b h1 h2 h3
    rcases set_get h1 with ⟨rfl, e⟩ | ⟨n, e⟩
    · cases e
      rcases set_get h3 with ⟨_, e3⟩ | ⟨n3, _⟩
      · cases e3
        exact .inl ⟨rfl, rfl, rfl⟩
      · exact absurd rfl n3
    · rw [List.getElem?_set_ne n] at h3
      exact .inr ⟨fun z => n z.symm, e, h3⟩
  have MSs : ∀ b, MS (env.set i (some (.own ds))) (σ.set i (some (.ref a))) b → MS env σ b ∨ b = a := fun b ⟨j, sv, h1, h2, h3⟩ => by
    rcases ms j sv b h1 h2 h3 with ⟨_, e, _⟩ | ⟨_, e1, e2⟩
    · exact .inr e
    · exact .inl ⟨j, sv, e1, h2, e2⟩
  refine ⟨Sat.mz (M := fun b => MZ Z env σ b ∨ b = a) ⟨by rw [List.length_set, List.length_set]; exact S.len, fun j sv h => ?_, fun b h => (MSs b h).imp .inr id, fun j l b sj sl h1 h2 h3 h4 h5 h6 => ?_, S1.dom, S1.m0, S1.old, S1.pls, S1.tb⟩ fun b h => ?_, MSs⟩
  · rcases set_get h with ⟨rfl, e⟩ | ⟨n, e⟩
    · cases e
      refine ⟨.ref a, ?_, a, vs, rfl, hl, ?_, S.h0 hn⟩
      · have : i < σ.length := by
          rw [← S.len]
          rcases Nat.lt_or_ge i env.length with z | z
          · exact z
          · rw [List.getElem?_eq_none (by rw [List.length_set]; exact z)] at h
            cases h
        rw [List.getElem?_set_self this]
      · exact hd
    · rw [List.getElem?_set_ne n]
      exact S1.sl j sv e
  · rcases ms j sj b h1 h2 h3 with ⟨rfl, rfl, _⟩ | ⟨n, e1, e2⟩
    · rcases ms l sl b h4 h5 h6 with ⟨rfl, _, _⟩ | ⟨_, f1, f2⟩
      · rfl
      · exact absurd f2 (na l sl f1 h5)
    · rcases ms l sl b h4 h5 h6 with ⟨rfl, rfl, _⟩ | ⟨_, f1, f2⟩
      · exact absurd e2 (na j sj e1 h2)
      · exact S.inj j l b sj sl e1 h2 e2 f1 h5 f2
  · rcases h with h | h
    · exact .inl (.inl h)
    · exact (MSs b h).imp .inr id
end
end DL
set_option maxHeartbeats 2000000
/-! statements by data: stores, the def's own lists, loops -/
namespace DL
open PySem PySem.Spec PyProof.Rows L2 LW GX LD
section
variable {Z : Wd} {M M' : AS} {env env' env1 env2 : Env} {σ σ' σ1 σ2 : L2.St} {H H0 H1 H2 H' : Hp} {ta tb te : TE} {A B E : DE} {tt tA : TT} {T : DTe} {t u : TS} {d e : DS}
theorem Sat.put (S : Sat Z M env σ H) {i : Nat} {v : V} {sv : SV} (hv : Hold Z M H v sv) (hm : sv.mut = true → ∃ a, v = .ref a ∧ M a ∧ ¬ MS env σ a) :
    Sat Z M (env.set i (some sv)) (σ.set i (some v)) H ∧ ∀ b, MS (env.set i (some sv)) (σ.set i (some v)) b → MS env σ b ∨ (sv.mut = true ∧ v = .ref b) := by
  have ms : ∀ (j : Nat) (s : SV) (b : Addr), (env.set i (some sv))[j]? = some (some s) → s.mut = true → (σ.set i (some v))[j]? = some (some (.ref b)) → (j = i ∧ v = .ref b ∧ s = sv) ∨ (j ≠ i ∧ env[j]? = some (some s) ∧ σ[j]? = some (some (.ref b))) := by
    intro j s b h1 h2 h3
    rcases set_get h1 with ⟨rfl, e⟩ | ⟨n, e⟩
    · cases e
      rcases set_get h3 with ⟨_, e3⟩ | ⟨n3, _⟩
      · cases e3
        exact .inl ⟨rfl, rfl, rfl⟩
      · exact absurd rfl n3
    · rw [List.getElem?_set_ne n] at h3
      exact .inr ⟨fun z => n z.symm, e, h3⟩
  have MSs : ∀ b, MS (env.set i (some sv)) (σ.set i (some v)) b → MS env σ b ∨ (sv.mut = true ∧ v = .ref b) := fun b ⟨j, s, h1, h2, h3⟩ => by
    rcases ms j s b h1 h2 h3 with ⟨_, e, rfl⟩ | ⟨_, e1, e2⟩
    · exact .inr ⟨h2, e⟩
    · exact .inl ⟨j, s, e1, h2, e2⟩
  refine ⟨⟨by rw [List.length_set, List.length_set]; exact S.len, fun j s h => ?_, fun b h => ?_, fun j l b sj sl h1 h2 h3 h4 h5 h6 => ?_, S.dom, S.m0, S.old, S.pls, S.tb⟩, MSs⟩
  · rcases set_get h with ⟨rfl, e⟩ | ⟨n, e⟩
    · cases e
      refine ⟨v, ?_, hv⟩
      have : i < σ.length := by
        rw [← S.len]
        rcases Nat.lt_or_ge i env.length with z | z
        · exact z
        · rw [List.getElem?_eq_none (by rw [List.length_set]; exact z)] at h
          cases h
      rw [List.getElem?_set_self this]
    · rw [List.getElem?_set_ne n]
      exact S.sl j s e
  · rcases MSs b h with z | ⟨z, e⟩
    · exact S.sub b z
    · obtain ⟨a, e2, hM, _⟩ := hm z
      rw [e] at e2
      cases e2
      exact hM
  · rcases ms j sj b h1 h2 h3 with ⟨e0, e, es⟩ | ⟨n, e1, e2⟩
    · rcases ms l sl b h4 h5 h6 with ⟨f0, _, _⟩ | ⟨_, f1, f2⟩
      · rw [e0, f0]
      · obtain ⟨a, ea, _, hn⟩ := hm (by rw [← es]; exact h2)
        rw [e] at ea
        cases ea
        exact absurd ⟨l, sl, f1, h5, f2⟩ hn
    · rcases ms l sl b h4 h5 h6 with ⟨f0, f, es⟩ | ⟨_, f1, f2⟩
      · obtain ⟨a, ea, _, hn⟩ := hm (by rw [← es]; exact h5)
        rw [f] at ea
        cases ea
        exact absurd ⟨j, sj, e1, h2, e2⟩ hn
      · exact S.inj j l b sj sl e1 h2 e2 f1 h5 f2
theorem Sat.nms (S : Sat Z M env σ H) {a : Addr} (h : H a = none) : ¬ MS env σ a := fun z => by
  obtain ⟨xs, e⟩ := S.mlst z
  rw [h] at e
  cases e
theorem store (S : SatS Z env σ H) (k : Step Z env σ H H') {i : Nat} {v : V} {r : R} {sv : SV} (hv : Val Z (MZ Z env σ) env σ H H' v r) (e : slotR env r = some sv) :
    SatS Z (env.set i (some sv)) (σ.set i (some v)) H' ∧ SStep env σ H (env.set i (some sv)) (σ.set i (some v)) H' := by
  have S' := S.same k
  cases r with
  | v d =>
    cases e
    obtain ⟨S1, m1⟩ := Sat.put S' (i := i) (v := v) (sv := .dat d) hv nofun
    refine ⟨S1.mz fun a h => h.imp id fun h => (m1 a h).elim id fun z => (by cases z.1), k.ss.kp, fun a h => (m1 a h).elim .inl fun z => (by cases z.1)⟩
  | new ds =>
    cases e
    obtain ⟨a, vs, rfl, hn, hl, hd⟩ := hv
    have S1 : Sat Z (fun b => MZ Z env σ b ∨ b = a) env σ H' := S.step k (fun b h => h.imp id fun z => by rw [z]; exact hn.1) (fun b h => by
      rcases h with h | rfl
      · exact k.kp.grow b (S.dom b h)
      · rw [hl]
        nofun) (fun b h => .inl (.inr h)) (fun b h => .inl (.inl h))
    obtain ⟨S2, m2⟩ := Sat.put S1 (i := i) (v := .ref a) (sv := .own ds) ⟨a, vs, rfl, hl, hd, S.h0 hn.1⟩ fun _ => ⟨a, rfl, .inr rfl, S.nms hn.1⟩
    refine ⟨S2.mz fun b h => ?_, k.ss.kp, fun b h => ?_⟩
    · rcases h with h | h
      · exact .inl (.inl h)
      · rcases m2 b h with z | ⟨_, z⟩
        · exact .inl (.inr z)
        · cases z
          exact .inr rfl
    · rcases m2 b h with z | ⟨_, z⟩
      · exact .inl z
      · cases z
        exact .inr hn.1
  | ali j =>
    obtain ⟨e0, s0, z⟩ := hv
    have e : (match env[j]? with | some (some (.bor ds)) => some (SV.bor ds) | _ => none) = some sv := e
    rw [z] at e
    cases s0 with
    | bor ds =>
      cases e
      obtain ⟨v', e', hb⟩ := S'.sl j _ z
      rw [e0] at e'
      cases e'
      obtain ⟨S1, m1⟩ := Sat.put S' (i := i) (v := v) (sv := .bor ds) hb nofun
      exact ⟨S1.mz fun a h => h.imp id fun h => (m1 a h).elim id fun z => (by cases z.1), k.ss.kp, fun a h => (m1 a h).elim .inl fun z => (by cases z.1)⟩
    | _ => cases e
theorem rs_set {i : Nat} (ha : RE Z ta A) : RS Z (tAsg ta (gName i)) (sSet i A) where
  mono env K K' h q := ha.mono env _ _ (fun r ⟨sv, e, q⟩ => ⟨sv, e, h.nx _ q⟩) q
  run env σ H D S h := ha.run _ env σ H _ S (ha.mono env _ _ (fun r ⟨sv, e, q⟩ v H' k hv => by
    obtain ⟨S1, k1⟩ := store S k hv e (i := i)
    exact q _ H' S1 k1) h)
def sAsg (A : DE) (gd : PyData → Env → Option Env) : DS := fun D env => A env fun r => ∃ d, r = .v d ∧ ∃ env', gd d env = some env' ∧ D.nx env'
theorem rs_asg {g : TG} {gd : PyData → Env → Option Env} {sl : List Nat} (ha : RE Z ta A) (hg : RG Z g gd sl) : RS Z (tAsg ta g) (sAsg A gd) where
  mono env K K' h q := ha.mono env _ _ (fun r ⟨d, e, env', eg, q⟩ => ⟨d, e, env', eg, h.nx _ q⟩) q
  run env σ H D S h := ha.run _ env σ H _ S (ha.mono env _ _ (fun r ⟨d, e, env', eg, q⟩ v H' k hv => by
    subst e
    exact hg.run _ env σ H' v d env' _ (S.same k) hv eg fun σ' S1 m1 _ _ => q σ' H' (Sat.shrink (S.same k) S1 m1) ⟨k.ss.kp, fun a h => .inl (m1 a h)⟩) h)
/-! data without lists -/
mutual
def nl : PyData → Bool
  | .list _ => false
  | .dict _ => false
  | .tuple ds => nls ds
  | _ => true
def nls : List PyData → Bool
  | [] => true
  | d :: ds => nl d && nls ds
end
mutual
theorem Da.nl {K : PySem.W.Frag} : ∀ {v : V} {d : PyData}, nl d = true → Da K M H v d → Da K M' H v d
  | _, .none, _, .non => .non
  | _, .bool _, _, .bl b => .bl b
  | _, .int _, _, .int i => .int i
  | _, .str _, _, .str x => .str x
  | _, .tuple ds, e, .tup h hs => .tup h (Das.nl (ds := ds) e hs)
  | _, .list _, e, _ => nomatch e
theorem Das.nl {K : PySem.W.Frag} : ∀ {vs : List V} {ds : List PyData}, nls ds = true → Das K M H vs ds → Das K M' H vs ds
  | _, [], _, .nil => .nil
  | _, d :: ds, e, .cons h hs => .cons (Da.nl (d := d) (by have e : (DL.nl d && nls ds) = true := e; rw [Bool.and_eq_true] at e; exact e.1) h) (Das.nl (ds := ds) (by have e : (DL.nl d && nls ds) = true := e; rw [Bool.and_eq_true] at e; exact e.2) hs)
end
/-- a, b = x, y: neither bears a list within -/
def slotN : R → Option SV
  | .v d => if nl d = true then some (.dat d) else none
  | .new ds => if nls ds = true then some (.own ds) else none
  | .ali _ => none
def sPar (i j : Nat) (As : DAs) : DS := fun D env => As env fun rs => ∃ r1 r2 s1 s2, rs = [r1, r2] ∧ slotN r1 = some s1 ∧ slotN r2 = some s2 ∧ D.nx ((env.set i (some s1)).set j (some s2))
theorem Val.hold {v : V} {r : R} {sv : SV} (S : Sat Z M env σ H) (hv : Val Z M' env σ H H' v r) (e : slotN r = some sv) : (∀ N : AS, Hold Z N H' v sv) ∧ (sv.mut = true → ∃ a, v = .ref a ∧ H a = none ∧ ¬ M' a ∧ H' a ≠ none ∧ ∃ ds, r = .new ds) := by
  cases r with
  | v d =>
    have e : (if nl d = true then some (SV.dat d) else none) = some sv := e
    split at e
    · cases e
      exact ⟨fun N => Da.nl ‹_› hv, nofun⟩
    · cases e
  | new ds =>
    have e : (if nls ds = true then some (SV.own ds) else none) = some sv := e
    split at e
    · cases e
      obtain ⟨a, vs, rfl, hn, hl, hd⟩ := hv
      exact ⟨fun N => ⟨a, vs, rfl, hl, Das.nl ‹_› hd, S.h0 hn.1⟩, fun _ => ⟨a, rfl, hn.1, hn.2, by rw [hl]; nofun, ds, rfl⟩⟩
    · cases e
  | ali i => cases e
theorem rs_par {i j : Nat} {ta : TA} {As : DAs} (ha : RA Z ta As) : RS Z (tPar i j ta) (sPar i j As) where
  mono env K K' h q := ha.mono env _ _ (fun rs ⟨r1, r2, s1, s2, e, e1, e2, q⟩ => ⟨r1, r2, s1, s2, e, e1, e2, h.nx _ q⟩) q
  run env σ H D S h := ha.run _ env σ H _ S (ha.mono env _ _ (fun rs w vs H' k hv => by
    obtain ⟨r1, r2, s1, s2, e, e1, e2, q⟩ := w
    subst e
    obtain ⟨v, u, rfl, h1, h2⟩ := hv.two'
    refine ⟨v, u, rfl, ?_⟩
    obtain ⟨g1, n1⟩ := h1.hold S e1
    obtain ⟨g2, n2⟩ := h2.hold S e2
    have S1 : Sat Z (fun b => MZ Z env σ b ∨ (H b = none ∧ H' b ≠ none)) env σ H' := S.more k
    obtain ⟨S2, m2⟩ := Sat.put S1 (i := i) (g1 _) fun z => by
      obtain ⟨a, ea, hn, _, hk, _⟩ := n1 z
      exact ⟨a, ea, .inr ⟨hn, hk⟩, S.nms hn⟩
    obtain ⟨S3, m3⟩ := Sat.put S2 (i := j) (g2 _) fun z => by
      obtain ⟨a, ea, hn, hm, hk, _⟩ := n2 z
      refine ⟨a, ea, .inr ⟨hn, hk⟩, fun w => ?_⟩
      rcases m2 a w with w | ⟨w1, w2⟩
      · exact S.nms hn w
      · obtain ⟨_, _, _, _, _, ds, er⟩ := n1 w1
        exact hm (.inr ⟨ds, er, w2⟩)
    have m : ∀ b, MS ((env.set i (some s1)).set j (some s2)) ((σ.set i (some v)).set j (some u)) b → MS env σ b ∨ (H b = none ∧ H' b ≠ none) := fun b w => by
      rcases m3 b w with w | ⟨w1, w2⟩
      · rcases m2 b w with w | ⟨w1, w2⟩
        · exact .inl w
        · obtain ⟨a, ea, hn, _, hk, _⟩ := n1 w1
          rw [ea] at w2
          cases w2
          exact .inr ⟨hn, hk⟩
      · obtain ⟨a, ea, hn, _, hk, _⟩ := n2 w1
        rw [ea] at w2
        cases w2
        exact .inr ⟨hn, hk⟩
    refine q _ H' (S3.mz fun b w => ?_) ⟨k.ss.kp, fun b w => (m b w).imp id And.left⟩
    rcases w with w | w
    · exact .inl (.inl w)
    · exact (m b w).imp .inr id) h)
def sAug (f : Int → Int → Int) (i : Nat) (A : DE) : DS := fun D env => ∃ a, env[i]? = some (some (.dat (.int a))) ∧ A env fun r => ∃ b, r = .v (.int b) ∧ D.nx (env.set i (some (.dat (.int (f a b)))))
theorem rs_aug {f : Int → Int → Int} {i : Nat} (ha : RE Z ta A) : RS Z (tAug i ta (ipI f)) (sAug f i A) where
  mono env K K' h := fun ⟨a, e, q⟩ => ⟨a, e, ha.mono env _ _ (fun r ⟨b, e, q⟩ => ⟨b, e, h.nx _ q⟩) q⟩
  run env σ H D S := fun ⟨a, e, h⟩ => by
    obtain ⟨v, ev, hv⟩ := S.sl i _ e
    cases (show Da Z.K (MZ Z env σ) H v (.int a) from hv)
    refine ⟨_, ev, ha.run _ env σ H _ S (ha.mono env _ _ (fun r ⟨b, e, q⟩ v H' k hv => ?_) h)⟩
    subst e
    refine ⟨a, b, rfl, hv.int, ?_⟩
    obtain ⟨S1, k1⟩ := store S k (i := i) (v := .int (f a b)) (r := .v (.int (f a b))) (Da.int _) rfl
    exact q _ H' S1 k1
/-! the def's own lists -/
theorem Sat.chg (S : SatS Z env σ H) {i : Nat} {a : Addr} {vs ws : List V} {ds es : List PyData} (hi : env[i]? = some (some (.own ds))) (ha : σ[i]? = some (some (.ref a))) (hl : H a = some (.lst vs)) (hd : Das Z.K (MZ Z env σ) H ws es) :
    SatS Z (env.set i (some (.own es))) σ (upd H a (.lst ws)) ∧ SStep env σ H (env.set i (some (.own es))) σ (upd H a (.lst ws)) := by
  have aM : MS env σ a := ⟨i, _, hi, rfl, ha⟩
  have h0 : Z.H0 a = none := by
    obtain ⟨v, e, a', _, rfl, _, _, h0⟩ := S.sl i _ hi
    rw [ha] at e
    cases e
    exact h0
  have ms : ∀ (j : Nat) (s : SV), (env.set i (some (.own es)))[j]? = some (some s) → s.mut = true → ∃ s', env[j]? = some (some s') ∧ s'.mut = true := fun j s h1 h2 => by
    rcases set_get h1 with ⟨rfl, _⟩ | ⟨_, e⟩
    · exact ⟨_, hi, rfl⟩
    · exact ⟨s, e, h2⟩
  have MSs : ∀ b, MS (env.set i (some (.own es))) σ b → MS env σ b := fun b ⟨j, s, h1, h2, h3⟩ => by
    obtain ⟨s', e, m⟩ := ms j s h1 h2
    exact ⟨j, s', e, m, h3⟩
  have up : ∀ {v d}, Da Z.K (MZ Z env σ) H v d → Da Z.K (MZ Z env σ) (upd H a (.lst ws)) v d := fun h => by
    have := das_upd (o := .lst ws) hl (.inr aM) (Das.one h)
    cases this with
    | cons h _ => exact h
  have kp : Kp (MS env σ) H (upd H a (.lst ws)) := Kp.wr aM
  refine ⟨Sat.mz (M := MZ Z env σ) ⟨by rw [List.length_set]; exact S.len, fun j s h => ?_, fun b h => .inr (MSs b h), fun j l b sj sl h1 h2 h3 h4 h5 h6 => ?_, fun b h => kp.grow b (S.dom b h), S.m0, ⟨fun b o e n s => ?_, fun b e => kp.grow b (S.old.grow b e)⟩, fun p hp => ?_, tb_lst S.tb (fun b o n e => by rw [upd_ne n]; exact e) ⟨vs, hl⟩⟩ fun b h => h.imp id (MSs b), kp, fun b h => .inl (MSs b h)⟩
  · rcases set_get h with ⟨rfl, e⟩ | ⟨n, e⟩
    · cases e
      exact ⟨_, ha, a, ws, rfl, upd_same, das_upd hl (.inr aM) hd, h0⟩
    · obtain ⟨v, ev, hv⟩ := S.sl j s e
      refine ⟨v, ev, ?_⟩
      cases s with
      | dat d => exact up hv
      | own ds =>
        obtain ⟨b, us, rfl, h1, h2, h3⟩ := hv
        have : b ≠ a := fun z => by
          subst z
          exact n (S.inj i j b _ _ hi rfl ha e rfl ev)
        exact ⟨b, us, rfl, by rw [upd_ne this]; exact h1, das_upd hl (.inr aM) h2, h3⟩
      | bor ds =>
        obtain ⟨b, us, rfl, h1, h3⟩ := hv
        exact ⟨b, us, rfl, h1, das_upd hl (.inr aM) h3⟩
      | pool =>
        obtain ⟨b, rfl, ⟨x, y, a1, a2, a3, hp⟩, h2⟩ := hv
        have : b ≠ a := fun z => by
          subst z
          exact n (S.inj i j b _ _ hi rfl ha e rfl ev)
        exact ⟨b, rfl, ⟨x, y, a1, a2, a3, by rw [upd_ne this]; exact hp⟩, h2⟩
  · obtain ⟨s1, e1, m1⟩ := ms j sj h1 h2
    obtain ⟨s2, e2, m2⟩ := ms l sl h4 h5
    exact S.inj j l b s1 s2 e1 m1 h3 e2 m2 h6
  · have : b ≠ a := fun z => by rw [z, h0] at e; cases e
    rw [upd_ne this]
    exact S.old.keep b o e n s
  · obtain ⟨x, y, a1, a2, a3, hp2⟩ := S.pls p hp
    have : p ≠ a := fun z => by
      subst z
      exact Z.pl0.1 p hp h0
    exact ⟨x, y, a1, a2, a3, by rw [upd_ne this]; exact hp2⟩
theorem Sat.own (S : Sat Z M env σ H) {i : Nat} {ds : List PyData} (hi : env[i]? = some (some (.own ds))) : ∃ a vs, σ[i]? = some (some (.ref a)) ∧ H a = some (.lst vs) ∧ Das Z.K M H vs ds := by
  obtain ⟨v, e, a, vs, rfl, h1, h2, _⟩ := S.sl i _ hi
  exact ⟨a, vs, e, h1, h2⟩
theorem tyV_list {K : PySem.W.Frag} {a : Addr} {vs : List V} (h : H a = some (.lst vs)) : tyV K "list" (.ref a) H := Or.inl ⟨rfl, _, Or.inl (Or.inl h)⟩
/-- x.append(e) -/
def sApp (i : Nat) (A : DE) : DS := fun D env => ∃ ds, env[i]? = some (some (.own ds)) ∧ A env fun r => ∃ y, datR r = some y ∧ ds.length < sizeLine ∧ D.nx (env.set i (some (.own (ds ++ [y]))))
theorem rs_app {i : Nat} (ha : RE Z ta A) : RS Z (tDrop (tBM Z.K "list" rAppend (tVar i) (tCons ta tNil))) (sApp i A) where
  mono env K K' h := fun ⟨ds, e, q⟩ => ⟨ds, e, ha.mono env _ _ (fun r ⟨y, e1, e2, q⟩ => ⟨y, e1, e2, h.nx _ q⟩) q⟩
  run env σ H D S := fun ⟨ds, hi, h⟩ => by
    obtain ⟨a, vs, hs, hl, _⟩ := S.own hi
    refine ⟨_, hs, tyV_list hl, ha.run _ env σ H _ S (ha.mono env _ _ (fun r w v H' k hv => ?_) h)⟩
    obtain ⟨y, ey, hz, q⟩ := w
    have S' := S.same k
    obtain ⟨a', vs', hs', hl', hd'⟩ := S'.own hi
    rw [hs] at hs'
    cases hs'
    refine ⟨a, vs', v, rfl, rfl, hl', by rw [hd'.len]; exact hz, ?_⟩
    obtain ⟨S1, k1⟩ := Sat.chg S' hi hs hl' (hd'.app (.one (hv.dat ey)))
    exact q σ _ S1 (k.ss.trans k1)
/-- x.extend(e) -/
def sExt (i : Nat) (A : DE) : DS := fun D env => ∃ ds, env[i]? = some (some (.own ds)) ∧ A env fun r => ∃ es, r = .new es ∧ ds.length + es.length ≤ sizeLine ∧ D.nx (env.set i (some (.own (ds ++ es))))
theorem rs_ext {i : Nat} (ha : RE Z ta A) : RS Z (tDrop (tBM Z.K "list" rExtend (tVar i) (tCons ta tNil))) (sExt i A) where
  mono env K K' h := fun ⟨ds, e, q⟩ => ⟨ds, e, ha.mono env _ _ (fun r ⟨y, e1, e2, q⟩ => ⟨y, e1, e2, h.nx _ q⟩) q⟩
  run env σ H D S := fun ⟨ds, hi, h⟩ => by
    obtain ⟨a, vs, hs, hl, _⟩ := S.own hi
    refine ⟨_, hs, tyV_list hl, ha.run _ env σ H _ S (ha.mono env _ _ (fun r w v H' k hv => ?_) h)⟩
    obtain ⟨es, rfl, hz, q⟩ := w
    have S' := S.same k
    obtain ⟨a', vs', hs', hl', hd'⟩ := S'.own hi
    rw [hs] at hs'
    cases hs'
    obtain ⟨b, us, rfl, _, hb, hdb⟩ := hv
    refine ⟨a, b, vs', us, rfl, rfl, hl', hb, by rw [hd'.len, hdb.len]; exact hz, ?_⟩
    obtain ⟨S1, k1⟩ := Sat.chg S' hi hs hl' (hd'.app (hdb.sub fun _ h => .inl h))
    exact q σ _ S1 (k.ss.trans k1)
/-- x.append(y.pop(e)) -/
def sAppPop (i j : Nat) (A : DE) : DS := fun D env => i ≠ j ∧ ∃ ds, env[i]? = some (some (.own ds)) ∧ ∃ es, env[j]? = some (some (.own es)) ∧ A env fun r => ∃ k, r = .v (.int k) ∧ ∃ n : Nat, k = n ∧ n < 1000000 ∧ ∃ y, es[n]? = some y ∧ ds.length < sizeLine ∧ D.nx ((env.set j (some (.own (es.eraseIdx n)))).set i (some (.own (ds ++ [y]))))
theorem rs_appPop {i j : Nat} (ha : RE Z ta A) : RS Z (tDrop (tBM Z.K "list" rAppend (tVar i) (tCons (tBM Z.K "list" rPopAt (tVar j) (tCons ta tNil)) tNil))) (sAppPop i j A) where
  mono env K K' h := fun ⟨n, ds, e, es, e1, q⟩ => ⟨n, ds, e, es, e1, ha.mono env _ _ (fun r ⟨k, e1, n, e2, e3, y, e4, e5, q⟩ => ⟨k, e1, n, e2, e3, y, e4, e5, h.nx _ q⟩) q⟩
  run env σ H D S := fun ⟨nij, ds, hi, es, hj, h⟩ => by
    obtain ⟨a, vs, hs, hl, _⟩ := S.own hi
    obtain ⟨b, us, ht, hlb, _⟩ := S.own hj
    refine ⟨_, hs, tyV_list hl, _, ht, tyV_list hlb, ha.run _ env σ H _ S (ha.mono env _ _ (fun r w v H' k hv => ?_) h)⟩
    obtain ⟨k0, rfl, n, rfl, hn, y, hy, hz, q⟩ := w
    have S' := S.same k
    obtain ⟨b', us', ht', hlb', hdb'⟩ := S'.own hj
    rw [ht] at ht'
    cases ht'
    obtain ⟨u, hu, du⟩ := hdb'.get hy
    have hlt : n < us'.length := by
      rcases Nat.lt_or_ge n us'.length with z | z
      · exact z
      · rw [List.getElem?_eq_none z] at hu
        cases hu
    refine ⟨b, us', (n : Int), n, u, rfl, by rw [hv.int], hlb', by omega, by omega, ?_, hu, ?_⟩
    · rw [seqIndex_of (by omega) (by omega)]
      rfl
    · obtain ⟨S1, k1⟩ := Sat.chg S' hj ht hlb' (hdb'.erase n)
      have hi1 : (env.set j (some (.own (es.eraseIdx n))))[i]? = some (some (.own ds)) := by
        rw [List.getElem?_set_ne (fun z => nij z.symm)]
        exact hi
      obtain ⟨a', vs', hs', hl', hd'⟩ := S1.own hi1
      rw [hs] at hs'
      cases hs'
      refine ⟨a, vs', u, rfl, rfl, hl', by rw [hd'.len]; exact hz, ?_⟩
      have du1 : Da Z.K (MZ Z (env.set j (some (.own (es.eraseIdx n)))) σ) (upd H' b (.lst (us'.eraseIdx n))) u y := by
        have := das_upd (o := .lst (us'.eraseIdx n)) hlb' (.inr ⟨j, _, hj, rfl, ht⟩) (Das.one du)
        cases this with
        | cons h _ =>
          refine h.sub fun c z => z.imp id fun ⟨l, s, z1, z2, z3⟩ => ?_
          rcases set_get z1 with ⟨rfl, e⟩ | ⟨_, e⟩
          · exact ⟨_, _, hj, rfl, z3⟩
          · exact ⟨l, s, e, z2, z3⟩
      obtain ⟨S2, k2⟩ := Sat.chg S1 hi1 hs hl' (hd'.app (.one du1))
      exact q σ _ S2 (k.ss.trans (k1.trans k2))
/-- x[e] = f -/
def sPut (i : Nat) (A B : DE) : DS := fun D env => ∃ ds, env[i]? = some (some (.own ds)) ∧ A env fun r => ∃ y, datR r = some y ∧ B env fun r2 => ∃ k, r2 = .v (.int k) ∧ ∃ j, ixN ds.length k = some j ∧ D.nx (env.set i (some (.own (ds.set j y))))
theorem rs_put {i : Nat} (ha : RE Z ta A) (hb : RE Z tb B) : RS Z (tAsg ta (gSub (tVar i) tb rSetL)) (sPut i A B) where
  mono env K K' h := fun ⟨ds, e0, q⟩ => ⟨ds, e0, ha.mono env _ _ (fun r ⟨y, e, q⟩ => ⟨y, e, hb.mono env _ _ (fun r2 ⟨k, e1, j, e3, q⟩ => ⟨k, e1, j, e3, h.nx _ q⟩) q⟩) q⟩
  run env σ H D S := fun ⟨ds, hi, h⟩ => by
    obtain ⟨a, vs, hs, _, _⟩ := S.own hi
    refine ha.run _ env σ H _ S (ha.mono env _ _ (fun r w v H' k hv => ?_) h)
    obtain ⟨y, ey, q⟩ := w
    have S' := S.same k
    refine ⟨_, hs, hb.run _ env σ H' _ S' (hb.mono env _ _ (fun r2 w u H2 k2 hu => ?_) q)⟩
    obtain ⟨k0, rfl, j, hj, q⟩ := w
    have S2 := S'.same k2
    obtain ⟨a', vs', hs', hl', hd'⟩ := S2.own hi
    rw [hs] at hs'
    cases hs'
    obtain ⟨S3, k3⟩ := Sat.chg S2 hi hs hl' (hd'.set j (Da.st S' k2 (hv.dat ey)))
    exact ⟨a, vs', k0, j, rfl, hu.int, hl', by rw [hd'.len]; exact hj, q σ _ S3 (k.ss.trans (k2.ss.trans k3))⟩
/-! loops -/
def sFor (It : Env → (List PyData → Prop) → Prop) (gd : PyData → Env → Option Env) (d : DS) : DS := fun D env => It env fun ds => ∃ Iv : Nat → Env → Prop, Iv 0 env ∧
  (∀ (i : Nat) (x : PyData) (env : Env), ds[i]? = some x → Iv i env → ∃ env', gd x env = some env' ∧ d { D with nx := Iv (i + 1), ct := Iv (i + 1), bk := D.nx } env') ∧ ∀ env, Iv ds.length env → D.nx env
theorem rs_for {wi : TI} {g : TG} {I : Env → (List PyData → Prop) → Prop} {gd : PyData → Env → Option Env} {sl : List Nat} (hi : RJ Z wi I) (hg : RG Z g gd sl) (hb : RS Z t d) : RS Z (tFor wi g t) (sFor I gd d) where
  mono env K K' h q := hi.mono env _ _ (fun ds ⟨Iv, h0, hs, he⟩ => ⟨Iv, h0, fun i x env e q => by
    obtain ⟨env', e1, q⟩ := hs i x env e q
    exact ⟨env', e1, hb.mono env' { K with nx := Iv (i + 1), ct := Iv (i + 1), bk := K.nx } _ ⟨fun _ q => q, h.rt, h.nx, fun _ q => q⟩ q⟩, fun env q => h.nx env (he env q)⟩) q
  run env σ H D S h := by
    refine hi.run _ env σ H _ S (hi.mono env _ _ (fun ds w J H1 k1 iok => ?_) h)
    obtain ⟨Iv, h0, hs, he⟩ := w
    obtain ⟨G, Y, wk, hG, hY⟩ := iok.ex
    have S1 := S.same k1
    refine for_it wk (fun i σ' H' => ∃ env', SatS Z env' σ' H' ∧ SStep env σ H1 env' σ' H' ∧ Iv i env') ⟨env, S1, .refl, h0⟩ (fun i σ' H' _ ⟨_, _, k, _⟩ => hG H' k.kp) ?_ ?_
    · rintro i x σ2 H2 H3 hlt ⟨env2, S2, k2, hc⟩ hy
      obtain ⟨sm, hda⟩ := hY i H2 x H3 ds[i] (List.getElem?_eq_getElem hlt) k2.kp hy
      obtain ⟨env3, eg, hB⟩ := hs i ds[i] env2 (List.getElem?_eq_getElem hlt) hc
      have k3 := S2.sameH sm
      have S3 := S2.same k3
      have dx := hda (MZ Z env2 σ2) (fun a h => by
        rcases h with h | h
        · exact .inl (.inl h)
        · exact (k2.ms a h).imp .inr id) (fun a h => S2.dom a h)
      refine hg.run _ env2 σ2 H3 x _ env3 _ S3 dx eg fun σ4 S4 m4 _ _ => ?_
      have S5 : SatS Z env3 σ4 H3 := Sat.shrink S3 S4 m4
      have k5 : SStep env σ H1 env3 σ4 H3 := k2.trans ⟨k3.ss.kp, fun a h => .inl (m4 a h)⟩
      refine hb.from (D := { D with nx := fun σ' H' => ∃ env', SatS Z env' σ' H' ∧ SStep env σ H1 env' σ' H' ∧ Iv (i + 1) env', ct := fun σ' H' => ∃ env', SatS Z env' σ' H' ∧ SStep env σ H1 env' σ' H' ∧ Iv (i + 1) env', bk := D.nx }) S5 k5 (hb.mono env3 { upD Z env σ H D with nx := Iv (i + 1), ct := Iv (i + 1), bk := (upD Z env σ H D).nx } _ ?_ hB)
      exact ⟨fun e q σ' H' S' k' => ⟨e, S', k', q⟩, fun _ q => q, fun e q σ' H' S' k' => q σ' H' S' (k1.ss.trans k'), fun e q σ' H' S' k' => ⟨e, S', k', q⟩⟩
    · rintro σ2 H2 ⟨env2, S2, k2, hc⟩
      exact he env2 hc σ2 H2 S2 (k1.ss.trans k2)
end
end DL
set_option maxHeartbeats 2000000
/-! a def's promise by data; its call; its body -/
namespace DL
open PySem PySem.Spec PyProof.Rows L2 LW GX LD
inductive Ar where
  | dat (d : PyData)
  | lst (ds : List PyData)
  | pool
def Ar.sv : Ar → SV
  | .dat d => .dat d
  | .lst ds => .bor ds
  | .pool => .pool
def ArgOk (K : PySem.W.Frag) (M : AS) (H : Hp) (pl : List Addr) (v : V) : Ar → Prop
  | .dat d => Da K M H v d
  | .lst ds => ∃ a vs, v = .ref a ∧ ((Rd H a (.lst vs) ∧ a ∉ pl) ∨ ∀ H, SqL K H a vs) ∧ Das K M H vs ds
  | .pool => ∃ a, v = .ref a ∧ a ∈ pl
inductive Argz (K : PySem.W.Frag) (M : AS) (H : Hp) (pl : List Addr) : List V → List Ar → Prop
  | nil : Argz K M H pl [] []
  | cons {v : V} {vs : List V} {a : Ar} {as : List Ar} : ArgOk K M H pl v a → Argz K M H pl vs as → Argz K M H pl (v :: vs) (a :: as)
theorem Argz.len {K : PySem.W.Frag} {M : AS} {H : Hp} {pl : List Addr} {vs : List V} {as : List Ar} (h : Argz K M H pl vs as) : vs.length = as.length := by
  induction h with
  | nil => rfl
  | cons _ _ ih => exact congrArg Nat.succ ih
theorem Argz.get {K : PySem.W.Frag} {M : AS} {H : Hp} {pl : List Addr} {vs : List V} {as : List Ar} (h : Argz K M H pl vs as) : ∀ {i : Nat} {a : Ar}, as[i]? = some a → ∃ v, vs[i]? = some v ∧ ArgOk K M H pl v a := by
  induction h with
  | nil => intro i a e; simp at e
  | @cons v vs b as h _ ih =>
    intro i a e
    cases i with
    | zero =>
      cases e
      exact ⟨v, rfl, h⟩
    | succ i => exact ih (i := i) e
def isPA : Ar → Bool
  | .pool => true
  | _ => false
/-- one pool at most -/
def oneP : List Ar → Bool
  | [] => true
  | a :: as => if isPA a = true then !as.any isPA else oneP as
theorem oneP_of : ∀ {as : List Ar}, oneP as = true → ∀ {i j : Nat}, as[i]? = some .pool → as[j]? = some .pool → i = j
  | [], _, i, j, h, _ => by simp at h
  | a :: as, h, i, j, hi, hj => by
    have h : (if isPA a = true then !as.any isPA else oneP as) = true := h
    have no : ∀ {j : Nat}, as.any isPA = false → as[j]? ≠ some .pool := fun {j} z e => by
      have := List.any_eq_false.mp z .pool (List.mem_of_getElem? e)
      exact this rfl
    cases i with
    | zero =>
      cases j with
      | zero => rfl
      | succ j =>
        cases hi
        rw [if_pos (show isPA Ar.pool = true from rfl)] at h
        exact absurd (show as[j]? = some .pool from hj) (no (by simpa using h))
    | succ i =>
      cases j with
      | zero =>
        cases hj
        rw [if_pos (show isPA Ar.pool = true from rfl)] at h
        exact absurd (show as[i]? = some .pool from hi) (no (by simpa using h))
      | succ j =>
        split at h
        · exact absurd (show as[i]? = some .pool from hi) (no (by simpa using h))
        · rw [oneP_of h (show as[i]? = some .pool from hi) (show as[j]? = some .pool from hj)]
/-- what comes back -/
def RV (K : PySem.W.Frag) (M : AS) (H H' : Hp) (v : V) : R → Prop
  | .v d => Da K M H' v d
  | .new ds => ∃ a vs, v = .ref a ∧ H a = none ∧ H' a = some (.lst vs) ∧ Das K (fun b => M b ∨ b = a) H' vs ds
  | .ali _ => False
abbrev Pm := List Ar → (R → Prop) → (Addr → PyData → Prop) → Prop
def spD (K : PySem.W.Frag) (Ts : List Addr) (Tl : List (Addr × Str)) (m : Pm) : Sp := fun vs H Q E => ∃ (M : AS) (pl : List Addr) (as : List Ar) (k : R → Prop) (x : Addr → PyData → Prop), Argz K M H pl vs as ∧ (∀ p ∈ pl, Pl H p ∧ M p) ∧ (∀ a, M a → H a ≠ none) ∧ TB Ts Tl H ∧
  oneP as = true ∧ m as k x ∧
  (∀ r, k r → ∀ v H', Kp (· ∈ pl) H H' → (∀ p ∈ pl, Pl H' p) → TB Ts Tl H' → RV K M H H' v r → Q v H') ∧
  (∀ C d, x C d → ∀ v dd fs H', Kp (· ∈ pl) H H' → (∀ p ∈ pl, Pl H' p) → TB Ts Tl H' → H' dd = some (.xd fs) → fs.lookup ("what" : Str) = some v → Da K M H' v d → E (.ref C) (some dd) H')
def envOf (n : Nat) (as : List Ar) : Env := as.map (fun a => some a.sv) ++ List.replicate (n - as.length) none
section
variable {Z : Wd} {M M' : AS} {env : Env} {σ : L2.St} {H H0 H1 H2 H' : Hp} {ta tb te : TE} {A B E : DE} {t : TA} {As : DAs}
def argR (env : Env) : R → Option Ar
  | .v d => some (.dat d)
  | .new ds => some (.lst ds)
  | .ali i => match env[i]? with
    | some (some (.own ds)) => some (.lst ds)
    | some (some (.bor ds)) => some (.lst ds)
    | some (some .pool) => some .pool
    | _ => none
def argRs (env : Env) : List R → Option (List Ar)
  | [] => some []
  | r :: rs => match argR env r, argRs env rs with
    | some a, some as => some (a :: as)
    | _, _ => none
def dCall (m : Pm) (x : Addr → PyData → Prop) (As : DAs) : DE := fun env k => As env fun rs => ∃ as, argRs env rs = some as ∧ oneP as = true ∧ ∃ k0 : R → Prop, (∀ r, k0 r → k r) ∧ m as k0 x
/-- the pools among the values -/
def plOf : List V → List Ar → List Addr
  | .ref a :: vs, .pool :: as => a :: plOf vs as
  | _ :: vs, _ :: as => plOf vs as
  | _, _ => []
theorem argz_of {M1 : AS} {vs : List V} {rs : List R} (S : Sat Z M env σ H) (k : Step Z env σ H H') (hv : Vs Z env σ H H' M1 vs rs) : ∀ {as : List Ar}, (∀ a, M a → M1 a) → argRs env rs = some as →
    (∀ pl : List Addr, (∀ p ∈ pl, PS env σ p) → (∀ p ∈ plOf vs as, p ∈ pl) → Argz Z.K M H' pl vs as) ∧ ∀ p ∈ plOf vs as, PS env σ p := by
  have S' := S.same k
  induction hv with
  | nil =>
    intro as _ e
    cases e
    exact ⟨fun _ _ _ => .nil, fun p hp => by cases hp⟩
  | @cons M1 v vs r rs h _ ih =>
    intro as hM e
    have e : (match argR env r, argRs env rs with | some a, some as => some (a :: as) | _, _ => none) = some as := e
    cases h1 : argR env r with
    | none => rw [h1] at e; cases e
    | some a =>
      cases h2 : argRs env rs with
      | none => rw [h1, h2] at e; cases e
      | some bs =>
        rw [h1, h2] at e
        cases e
        obtain ⟨ih1, ih2⟩ := ih (fun a z => .inl (hM a z)) h2
        have hv : Val Z M env σ H H' v r := h.back (fun _ h => h) hM
        cases a with
        | dat d =>
          have hd : Da Z.K M H' v d := by
            cases r with
            | v d' =>
              cases h1
              exact hv
            | new es => cases h1
            | ali i =>
              have h1 : (match env[i]? with | some (some (.own ds)) => some (Ar.lst ds) | some (some (.bor ds)) => some (.lst ds) | some (some .pool) => some .pool | _ => none) = some (.dat d) := h1
              split at h1 <;> cases h1
          have e1 : plOf (v :: vs) (Ar.dat d :: bs) = plOf vs bs := by
            cases v <;> rfl
          rw [e1]
          exact ⟨fun pl q1 q2 => .cons hd (ih1 pl q1 q2), ih2⟩
        | lst ds =>
          have hd : ∃ a us, v = .ref a ∧ ((Rd H' a (.lst us) ∧ ¬ PS env σ a) ∨ ∀ H, SqL Z.K H a us) ∧ Das Z.K M H' us ds := by
            cases r with
            | v d' => cases h1
            | new es =>
              cases h1
              obtain ⟨a, us, rfl, hn, hl, hd⟩ := hv
              exact ⟨a, us, rfl, .inl ⟨.inl hl, S.nps a hn.1⟩, hd.sub fun _ h => .inl h⟩
            | ali i =>
              have h1 : (match env[i]? with | some (some (.own ds)) => some (Ar.lst ds) | some (some (.bor ds)) => some (.lst ds) | some (some .pool) => some .pool | _ => none) = some (.lst ds) := h1
              obtain ⟨e0, s0, z⟩ := hv
              rw [z] at h1
              obtain ⟨v', e', hh⟩ := S'.sl i _ z
              rw [e0] at e'
              cases e'
              cases s0 with
              | dat d => cases h1
              | pool => cases h1
              | own es =>
                cases h1
                obtain ⟨a, us, rfl, hl, hd, _⟩ := hh
                refine ⟨a, us, rfl, .inl ⟨.inl hl, fun w => ?_⟩, hd⟩
                obtain ⟨j, j1, j2⟩ := w
                have := S.inj i j a _ _ z rfl e0 j1 rfl j2
                subst this
                rw [z] at j1
                cases j1
              | bor es =>
                cases h1
                obtain ⟨a, us, rfl, hl, hd⟩ := hh
                rcases hl with ⟨hl, hp⟩ | hl
                case inr => exact ⟨a, us, rfl, .inr hl, hd⟩
                refine ⟨a, us, rfl, .inl ⟨S'.bor hl hp, fun w => ?_⟩, hd⟩
                rcases (S.pool w).2 with q | q
                · exact hp q
                · rcases hl with hl | ⟨o, hl⟩ <;> · rw [q] at hl; cases hl
          obtain ⟨a, us, rfl, hl, hd⟩ := hd
          exact ⟨fun pl q1 q2 => .cons ⟨a, us, rfl, hl.imp (fun h => ⟨h.1, fun z => h.2 (q1 a z)⟩) id, hd⟩ (ih1 pl q1 q2), ih2⟩
        | pool =>
          have hd : ∃ a, v = .ref a ∧ PS env σ a := by
            cases r with
            | v d' => cases h1
            | new es => cases h1
            | ali i =>
              have h1 : (match env[i]? with | some (some (.own ds)) => some (Ar.lst ds) | some (some (.bor ds)) => some (.lst ds) | some (some .pool) => some .pool | _ => none) = some .pool := h1
              obtain ⟨e0, s0, z⟩ := hv
              rw [z] at h1
              obtain ⟨v', e', hh⟩ := S'.sl i _ z
              rw [e0] at e'
              cases e'
              cases s0 with
              | dat d => cases h1
              | own es => cases h1
              | bor es => cases h1
              | pool =>
                obtain ⟨a, rfl, _, _⟩ := hh
                exact ⟨a, rfl, i, z, e0⟩
          obtain ⟨a, rfl, hp⟩ := hd
          refine ⟨fun pl q1 q2 => .cons ⟨a, rfl, q2 a List.mem_cons_self⟩ (ih1 pl q1 fun p z => q2 p (List.mem_cons_of_mem _ z)), fun p z => ?_⟩
          rcases List.mem_cons.mp z with rfl | z
          · exact hp
          · exact ih2 p z
theorem re_call {m : Pm} {K : PySem.W.Frag} {Ts : List Addr} {Tl : List (Addr × Str)} (hK : Z.K = K) (hT : Z.Ts = Ts) (hL : Z.Tl = Tl) {E : XK} (ha : RA Z t As) : RE Z (tCall (spD K Ts Tl m) [] E t) (dCall m (fun _ _ => False) As) := by
  subst hK hT hL
  refine ⟨fun env K K' h q => ha.mono env _ _ (fun rs ⟨as, e, o, k0, hk, hm⟩ => ⟨as, e, o, k0, fun r z => h r (hk r z), hm⟩) q, fun M env σ H Q S h => ?_⟩
  refine ha.run M env σ H _ S (ha.mono env _ _ (fun rs w vs H' k hv => ?_) h)
  obtain ⟨as, e, o, k0, hk, hm⟩ := w
  have S' := S.same k
  obtain ⟨az, pz⟩ := argz_of S k hv (fun _ h => h) e
  rw [List.append_nil]
  refine ⟨M, plOf vs as, as, k0, _, az _ pz (fun _ h => h), fun p hp => ⟨(S'.pool (pz p hp)).1, S.psm p (pz p hp)⟩, S'.dom, S'.tb, o, hm, fun r hr v H2 kp pl tb rv => ?_, fun _ _ z => z.elim⟩
  have k2 : Step Z env σ H' H2 := ⟨kp.mono pz, fun a z => ?_, tb⟩
  · refine hk r hr v H2 (k.trans k2) ?_
    cases r with
    | v d => exact rv
    | new ds =>
      obtain ⟨a, us, rfl, hn, hl, hd⟩ := rv
      refine ⟨a, us, rfl, ⟨?_, fun z => S'.dom a z hn⟩, hl, hd⟩
      cases z : H a with
      | none => rfl
      | some o => exact absurd hn (k.kp.grow a (by rw [z]; nofun))
    | ali i => exact rv.elim
  · by_cases w : a ∈ plOf vs as
    · exact pl a w
    · obtain ⟨x, y, a1, a2, a3, e⟩ := (S'.pool z).1
      exact ⟨x, y, a1, a2, a3, kp.keep _ _ e nofun w⟩
/-! the body -/
theorem envOf_get {n : Nat} {as : List Ar} {i : Nat} {sv : SV} (h : (envOf n as)[i]? = some (some sv)) : ∃ a, as[i]? = some a ∧ sv = a.sv := by
  unfold envOf at h
  by_cases hi : i < as.length
  · rw [List.getElem?_append_left (by rw [List.length_map]; exact hi), List.getElem?_map, List.getElem?_eq_getElem hi] at h
    cases h
    exact ⟨as[i], List.getElem?_eq_getElem hi, rfl⟩
  · rw [List.getElem?_append_right (by rw [List.length_map]; omega), List.getElem?_replicate] at h
    split at h <;> cases h
theorem start_get {N : List Str} {vs : List V} {i : Nat} {v : V} (h : vs[i]? = some v) : (L2.start N vs)[i]? = some (some v) := by
  unfold L2.start
  have hi : i < vs.length := by
    rcases Nat.lt_or_ge i vs.length with z | z
    · exact z
    · rw [List.getElem?_eq_none z] at h
      cases h
  rw [List.getElem?_append_left (by rw [List.length_map]; exact hi), List.getElem?_map, h]
  rfl
def XOk (K : PySem.W.Frag) (H0 : Hp) (M0 : AS) (pl : List Addr) (Ts : List Addr) (Tl : List (Addr × Str)) (x : Addr → PyData → Prop) (E : XK) : Prop :=
  ∀ C d, x C d → ∀ v dd fs H', Kp (· ∈ pl) H0 H' → (∀ p ∈ pl, Pl H' p) → TB Ts Tl H' → H' dd = some (.xd fs) → fs.lookup ("what" : Str) = some v → Da K M0 H' v d → E (.ref C) (some dd) H'
theorem enter {K : PySem.W.Frag} {Ts : List Addr} {Tl : List (Addr × Str)} {m : Pm} {N : List Str} {ts : TS} {d : (Addr → PyData → Prop) → DS} {vs : List V} {Q : VK} {E : XK} (h : spD K Ts Tl m vs H Q E)
    (hd : ∀ H0 M0 pl x pl0, XOk K H0 M0 pl Ts Tl x E → RS ⟨K, H0, M0, pl, Ts, Tl, x, pl0⟩ ts (d x))
    (hq : ∀ as k x, m as k x → d x { nx := fun _ => k (.v .none), rt := k } (envOf N.length as)) (hl : ∀ as k x, m as k x → as.length ≤ N.length) : ts { nx := fun _ H' => Q .non H', rt := Q } (L2.start N vs) H := by
  obtain ⟨M, pl, as, k, x, haz, hp, hM, tb, o, hm, hk, hx⟩ := h
  have pl0 : (∀ p ∈ pl, H p ≠ none) ∧ ∀ a, M a → H a ≠ none := ⟨fun p z => hM p (hp p z).2, hM⟩
  have R := hd H M pl x pl0 hx
  have hlen := haz.len
  have ms : ∀ (i : Nat) (sv : SV) (a : Addr), (envOf N.length as)[i]? = some (some sv) → sv.mut = true → (L2.start N vs)[i]? = some (some (.ref a)) → as[i]? = some .pool ∧ a ∈ pl := by
    intro i sv a h1 h2 h3
    obtain ⟨b, e1, rfl⟩ := envOf_get h1
    obtain ⟨v, e2, ok⟩ := haz.get e1
    rw [start_get e2] at h3
    cases h3
    cases b with
    | dat d => cases h2
    | lst ds => cases h2
    | pool =>
      obtain ⟨a', e, z⟩ := ok
      cases e
      exact ⟨e1, z⟩
  have S0 : Sat ⟨K, H, M, pl, Ts, Tl, x, pl0⟩ M (envOf N.length as) (L2.start N vs) H := by
    refine ⟨?_, fun i sv h1 => ?_, fun a ⟨i, sv, h1, h2, h3⟩ => (hp a (ms i sv a h1 h2 h3).2).2, fun i j a si sj h1 h2 h3 h4 h5 h6 => oneP_of o (ms i si a h1 h2 h3).1 (ms j sj a h4 h5 h6).1, hM, fun _ h => h, Kp.refl _ _, fun p z => (hp p z).1, tb⟩
    · unfold envOf L2.start
      simp only [List.length_append, List.length_map, List.length_replicate]
      omega
    · obtain ⟨b, e1, rfl⟩ := envOf_get h1
      obtain ⟨v, e2, ok⟩ := haz.get e1
      refine ⟨v, start_get e2, ?_⟩
      cases b with
      | dat d => exact ok
      | lst ds => exact ok
      | pool =>
        obtain ⟨a, rfl, z⟩ := ok
        exact ⟨a, rfl, (hp a z).1, .inl z⟩
  have S1 : SatS ⟨K, H, M, pl, Ts, Tl, x, pl0⟩ (envOf N.length as) (L2.start N vs) H := S0.mz fun a z => z.elim id fun z => S0.sub a z
  refine R.run _ _ H _ S1 (R.mono _ { nx := fun _ => k (.v .none), rt := k } _ ⟨fun e q => ?_, fun r q => ?_, fun _ q => q.elim, fun _ q => q.elim⟩ (hq as k x hm))
  · intro σ' H' S' _
    exact hk _ q .non H' S'.old S'.pls S'.tb .non
  · intro v H' ok rv
    refine hk r q v H' ok.old ok.pls ok.tb ?_
    cases r with
    | v d => exact rv
    | new ds => exact rv
    | ali i => exact rv
end
end DL
set_option maxHeartbeats 2000000
/-! the layer of data: zip, enumerate, pools, and what is wanted of data (repr, ==) -/
namespace DL
open PySem PySem.Spec PyProof.Rows L2 LW GX LD
section
variable {Z : Wd} {M M' : AS} {env : Env} {σ : L2.St} {H H0 H1 H2 H' : Hp} {ta tb te : TE} {A B E : DE} {t : TA} {As : DAs}
theorem ri_zip (ha : RA Z t As) : RI Z (RZ.iZipA Z.K t) (dItZ As) :=
  ⟨fun env K K' h q => ha.mono env _ _ (fun r ⟨c, d, e, q⟩ => ⟨c, d, e, h _ q⟩) q, fun M env σ H Q S h => ha.run M env σ H _ S (ha.mono env _ _ (fun r ⟨ds, es, e, q⟩ vs H' k hv => by
    subst e
    obtain ⟨v, u, rfl, h, h2⟩ := hv.two
    obtain ⟨a, xs, rfl, hx, dx⟩ := h.tup rfl
    obtain ⟨b, ys, rfl, hy, dy⟩ := h2.tup rfl
    exact ⟨a, b, xs, ys, rfl, .inr ⟨hx, hy, q _ _ k (iok_zipT (S.same k).psl S.psm hx dx hy dy)⟩⟩) h)⟩
theorem rj_zip (ha : RA Z t As) : RJ Z (RZ.iZipA Z.K t) (dItZ As) :=
  ⟨fun env K K' h q => ha.mono env _ _ (fun r ⟨c, d, e, q⟩ => ⟨c, d, e, h _ q⟩) q, fun M env σ H Q S h => ha.run M env σ H _ S (ha.mono env _ _ (fun r ⟨ds, es, e, q⟩ vs H' k hv => by
    subst e
    obtain ⟨v, u, rfl, h, h2⟩ := hv.two
    obtain ⟨a, xs, rfl, hx, dx⟩ := h.tup rfl
    obtain ⟨b, ys, rfl, hy, dy⟩ := h2.tup rfl
    exact ⟨a, b, xs, ys, rfl, .inr ⟨hx, hy, q _ _ k (iok_zipT (S.same k).mss S.sub hx dx hy dy)⟩⟩) h)⟩
theorem ri_enum (ha : RA Z t As) : RI Z (EN.iEnumT Z.K t) (dItE As) :=
  ⟨fun env K K' h q => ha.mono env _ _ (fun r ⟨c, e, q⟩ => ⟨c, e, h _ q⟩) q, fun M env σ H Q S h => ha.run M env σ H _ S (ha.mono env _ _ (fun r ⟨ds, e, q⟩ vs H' k hv => by
    subst e
    obtain ⟨v, rfl, h⟩ := hv.one
    obtain ⟨a, xs, rfl, hx, dx⟩ := h.tup rfl
    exact ⟨a, xs, rfl, hx, q _ _ k (iok_enumT (S.same k).psl S.psm hx dx)⟩) h)⟩
theorem rj_enum (ha : RA Z t As) : RJ Z (EN.iEnumT Z.K t) (dItE As) :=
  ⟨fun env K K' h q => ha.mono env _ _ (fun r ⟨c, e, q⟩ => ⟨c, e, h _ q⟩) q, fun M env σ H Q S h => ha.run M env σ H _ S (ha.mono env _ _ (fun r ⟨ds, e, q⟩ vs H' k hv => by
    subst e
    obtain ⟨v, rfl, h⟩ := hv.one
    obtain ⟨a, xs, rfl, hx, dx⟩ := h.tup rfl
    exact ⟨a, xs, rfl, hx, q _ _ k (iok_enumT (S.same k).mss S.sub hx dx)⟩) h)⟩
/-- a pool that was made here -/
def sSetP (i : Nat) (A : DE) : DS := fun D env => A env fun r => ∃ x y : Int, r = .new [.int x, .int y] ∧ 0 ≤ x ∧ 0 ≤ y ∧ y < 2147483647 ∧ D.nx (env.set i (some .pool))
theorem rs_setP {i : Nat} (ha : RE Z ta A) : RS Z (tAsg ta (gName i)) (sSetP i A) where
  mono env K K' h q := ha.mono env _ _ (fun r ⟨x, y, e, b1, b2, b3, q⟩ => ⟨x, y, e, b1, b2, b3, h.nx _ q⟩) q
  run env σ H D S h := ha.run _ env σ H _ S (ha.mono env _ _ (fun r ⟨x, y, e, b1, b2, b3, q⟩ v H' k hv => by
    subst e
    obtain ⟨a, vs, rfl, hn, hl, hd⟩ := hv
    have ev : vs = [.int x, .int y] := Das.intsV (ns := [x, y]) hd
    subst ev
    have S1 : Sat Z (fun b => MZ Z env σ b ∨ b = a) env σ H' := S.step k (fun b h => h.imp id fun z => by rw [z]; exact hn.1) (fun b h => by
      rcases h with h | rfl
      · exact k.kp.grow b (S.dom b h)
      · rw [hl]
        nofun) (fun b h => .inl (.inr h)) (fun b h => .inl (.inl h))
    obtain ⟨S2, m2⟩ := Sat.put S1 (i := i) (v := .ref a) (sv := .pool) ⟨a, rfl, ⟨x, y, b1, b2, b3, hl⟩, .inr (S.h0 hn.1)⟩ fun _ => ⟨a, rfl, .inr rfl, S.nms hn.1⟩
    refine q _ H' (S2.mz fun b h => ?_) ⟨k.ss.kp, fun b h => ?_⟩
    · rcases h with h | h
      · exact .inl (.inl h)
      · rcases m2 b h with z | ⟨_, z⟩
        · exact .inl (.inr z)
        · cases z
          exact .inr rfl
    · rcases m2 b h with z | ⟨_, z⟩
      · exact .inl z
      · cases z
        exact .inr hn.1) h)
end
theorem len_of {K : PySem.W.Frag} {Ts : List Addr} {Tl : List (Addr × Str)} {m : Pm} {vs : List V} {H : Hp} {Q : VK} {E : XK} {n : Nat} (h : spD K Ts Tl m vs H Q E) (hl : ∀ as k x, m as k x → as.length = n) : vs.length = n := by
  obtain ⟨_, _, as, k, x, haz, _, _, _, _, hm, _⟩ := h
  rw [haz.len]
  exact hl as k x hm
/-! ### data that == and repr take -/
/-- of nesting below n, each list or tuple of 64 things at most, numbers below 10^10, texts as told -/
def okS (s : Str) : Bool := (PyData.str s).canLay0 && decide ((reprText s).length ≤ 12)
def okd : Nat → PyData → Bool
  | _, .none => true
  | _, .bool _ => true
  | _, .int i => decide (0 ≤ i) && decide (i < 10 ^ 10)
  | _, .str s => okS s
  | n + 1, .tuple ds => decide (ds.length ≤ 64) && ds.all (okd n)
  | _, _ => false
theorem okd_succ : ∀ {n : Nat} {d : PyData}, okd n d = true → okd (n + 1) d = true
  | 0, .dict _, h => nomatch h
  | _ + 1, .dict _, h => nomatch h
  | 0, .list _, h => nomatch h
  | _ + 1, .list _, h => nomatch h
  | 0, .tuple _, h => nomatch h
  | 0, .none, _ => rfl
  | 0, .bool _, _ => rfl
  | 0, .int _, h => h
  | 0, .str _, h => h
  | n + 1, .none, _ => rfl
  | n + 1, .bool _, _ => rfl
  | n + 1, .int _, h => h
  | n + 1, .str _, h => h
  | n + 1, .tuple ds, h => by
    have h : (decide (ds.length ≤ 64) && ds.all (okd n)) = true := h
    rw [Bool.and_eq_true, List.all_eq_true] at h
    show (decide (ds.length ≤ 64) && ds.all (okd (n + 1))) = true
    rw [Bool.and_eq_true, List.all_eq_true]
    exact ⟨h.1, fun x hx => okd_succ (h.2 x hx)⟩
section
theorem all_all {b : PyData → Bool} {ba : List PyData → Bool} (h0 : ba [] = true) (h1 : ∀ x xs, ba (x :: xs) = (b x && ba xs)) : ∀ {ds : List PyData}, (∀ d ∈ ds, b d = true) → ba ds = true
  | [], _ => h0
  | d :: ds, h => by
    rw [h1, h d List.mem_cons_self, all_all h0 h1 fun x hx => h x (List.mem_cons_of_mem _ hx)]
    rfl
theorem depth_all : ∀ {ds : List PyData} {n : Nat}, (∀ d ∈ ds, d.depth ≤ n) → PyData.depthAll ds ≤ n
  | [], _, _ => Nat.zero_le _
  | d :: ds, n, h => by
    show max d.depth (PyData.depthAll ds) ≤ n
    exact Nat.max_le.mpr ⟨h d List.mem_cons_self, depth_all fun x hx => h x (List.mem_cons_of_mem _ hx)⟩
theorem okd_lay : ∀ {n : Nat} {d : PyData}, okd n d = true → d.canLay0 = true ∧ d.depth ≤ n
  | 0, .dict _, h => nomatch h
  | _ + 1, .dict _, h => nomatch h
  | 0, .list _, h => nomatch h
  | _ + 1, .list _, h => nomatch h
  | 0, .tuple _, h => nomatch h
  | n, .none, _ => ⟨rfl, Nat.zero_le _⟩
  | n, .bool _, _ => ⟨rfl, Nat.zero_le _⟩
  | n, .int _, _ => ⟨rfl, Nat.zero_le _⟩
  | 0, .str s, h => ⟨(Bool.and_eq_true_iff.mp (show okS s = true from h)).1, Nat.zero_le _⟩
  | n + 1, .str s, h => ⟨(Bool.and_eq_true_iff.mp (show okS s = true from h)).1, Nat.zero_le _⟩
  | n + 1, .tuple ds, h => by
    have h : (decide (ds.length ≤ 64) && ds.all (okd n)) = true := h
    rw [Bool.and_eq_true, List.all_eq_true] at h
    refine ⟨all_all (b := PyData.canLay0) (ba := PyData.canLayAll0) rfl (fun _ _ => rfl) fun x hx => (okd_lay (h.2 x hx)).1, ?_⟩
    show PyData.depthAll ds + 1 ≤ n + 1
    exact Nat.succ_le_succ (depth_all fun x hx => (okd_lay (h.2 x hx)).2)
theorem okd_shaped {n : Nat} {d : PyData} (h : okd n d = true) (hn : n ≤ 64) : SeqAt.shaped d = true := by
  obtain ⟨h1, h2⟩ := okd_lay h
  show (d.canLay0 && decide (d.depth ≤ 64)) = true
  rw [h1, decide_eq_true (Nat.le_trans h2 hn)]
  rfl
theorem log_small {i : Int} (h0 : 0 ≤ i) (h1 : i < 10 ^ 10) : i.natAbs.log2 < 1920 := by
  rcases Nat.eq_zero_or_pos i.natAbs with z | z
  · rw [z]
    decide
  · exact Nat.lt_of_lt_of_le ((Nat.log2_lt (Nat.ne_of_gt z)).mpr (show i.natAbs < 2 ^ 40 by omega)) (by decide)
theorem okd_show : ∀ {n : Nat} {d : PyData}, okd n d = true → d.showable = true ∧ d.hasDict = false
  | 0, .dict _, h => nomatch h
  | _ + 1, .dict _, h => nomatch h
  | 0, .list _, h => nomatch h
  | _ + 1, .list _, h => nomatch h
  | 0, .tuple _, h => nomatch h
  | n, .none, _ => ⟨rfl, rfl⟩
  | n, .bool _, _ => ⟨rfl, rfl⟩
  | 0, .int i, h => by
    have h : (decide (0 ≤ i) && decide (i < 10 ^ 10)) = true := h
    rw [Bool.and_eq_true, decide_eq_true_eq, decide_eq_true_eq] at h
    exact ⟨decide_eq_true (log_small h.1 h.2), rfl⟩
  | n + 1, .int i, h => by
    have h : (decide (0 ≤ i) && decide (i < 10 ^ 10)) = true := h
    rw [Bool.and_eq_true, decide_eq_true_eq, decide_eq_true_eq] at h
    exact ⟨decide_eq_true (log_small h.1 h.2), rfl⟩
  | n, .str s, h => ⟨rfl, rfl⟩
  | n + 1, .tuple ds, h => by
    have h : (decide (ds.length ≤ 64) && ds.all (okd n)) = true := h
    rw [Bool.and_eq_true, List.all_eq_true] at h
    refine ⟨all_all (b := PyData.showable) (ba := PyData.showableAll) rfl (fun _ _ => rfl) fun x hx => (okd_show (h.2 x hx)).1, ?_⟩
    show PyData.hasDictAll ds = false
    have : ∀ {es : List PyData}, (∀ x ∈ es, x.hasDict = false) → PyData.hasDictAll es = false := by
      intro es
      induction es with
      | nil => intro _; rfl
      | cons e es ih =>
        intro q
        show (e.hasDict || PyData.hasDictAll es) = false
        rw [q e List.mem_cons_self, ih fun x hx => q x (List.mem_cons_of_mem _ hx)]
        rfl
    exact this fun x hx => (okd_show (h.2 x hx)).2
theorem shownAll_map' : ∀ l : List PyData, PyData.shownAll l = l.map PyData.shown
  | [] => rfl
  | x :: l => by
    show x.shown :: PyData.shownAll l = _
    rw [shownAll_map' l]
    rfl
theorem sum_len' {m : Nat} : ∀ {ts : List Str}, (∀ t ∈ ts, t.length ≤ m) → (ts.map (·.length)).sum ≤ ts.length * m
  | [], _ => Nat.zero_le _
  | t :: ts, h => by
    have h1 := h t List.mem_cons_self
    have h2 := sum_len' fun x hx => h x (List.mem_cons_of_mem _ hx)
    simp only [List.map_cons, List.sum_cons, List.length_cons, Nat.add_mul, Nat.one_mul]
    omega
theorem join_le {m n : Nat} {ts : List Str} (h : ∀ t ∈ ts, t.length ≤ m) (hn : ts.length ≤ n) : (Str.join ", " ts).length ≤ n * (m + 2) := by
  have h1 := StrLaws.join_length_le ", " ts
  have h2 := sum_len' h
  have h3 : ((", " : Str)).length = 2 := by decide +kernel
  rw [h3] at h1
  have h4 : ts.length * m ≤ n * m := Nat.mul_le_mul_right _ hn
  rw [Nat.mul_add]
  omega
theorem tup_le {m n : Nat} {ts : List Str} (h : ∀ t ∈ ts, t.length ≤ m) (hn : ts.length ≤ n) : (tupleText ts).length ≤ 3 + n * (m + 2) := by
  have h1 := join_le h hn
  have e : (tupleText ts).length = (("(" : Str)).length + (Str.join ", " ts).length + ((if ts.length == 1 then ",)" else ")" : String) : Str).length := by
    unfold tupleText
    rw [Str.length_append, Str.length_append]
  have h4 : ((if ts.length == 1 then ",)" else ")" : String) : Str).length ≤ 2 := by
    split <;> decide +kernel
  have h5 : (("(" : Str)).length = 1 := by decide +kernel
  rw [e, h5]
  omega
def shL : Nat → Nat
  | 0 => 12
  | n + 1 => 3 + 64 * (shL n + 2)
theorem shL_12 : ∀ n, 12 ≤ shL n
  | 0 => Nat.le_refl _
  | n + 1 => by
    show 12 ≤ 3 + 64 * (shL n + 2)
    have := shL_12 n
    omega
theorem int_le {i : Int} (h0 : 0 ≤ i) (h1 : i < 10 ^ 10) : (PyData.shown (.int i)).length ≤ 12 := Nat.le_trans (PyProof.Rows.toString_length_le h0 (k := 10) (by decide) h1) (by decide)
theorem okd_len : ∀ {n : Nat} {d : PyData}, okd n d = true → d.shown.length ≤ shL n
  | 0, .dict _, h => nomatch h
  | _ + 1, .dict _, h => nomatch h
  | 0, .list _, h => nomatch h
  | _ + 1, .list _, h => nomatch h
  | 0, .tuple _, h => nomatch h
  | n, .none, _ => Nat.le_trans (show ("None" : Str).length ≤ 12 by decide +kernel) (shL_12 n)
  | n, .bool b, _ => by
    refine Nat.le_trans ?_ (shL_12 n)
    cases b
    · show ("False" : Str).length ≤ 12
      decide +kernel
    · show ("True" : Str).length ≤ 12
      decide +kernel
  | 0, .int i, h => by
    have h : (decide (0 ≤ i) && decide (i < 10 ^ 10)) = true := h
    rw [Bool.and_eq_true, decide_eq_true_eq, decide_eq_true_eq] at h
    exact int_le h.1 h.2
  | n + 1, .int i, h => by
    have h : (decide (0 ≤ i) && decide (i < 10 ^ 10)) = true := h
    rw [Bool.and_eq_true, decide_eq_true_eq, decide_eq_true_eq] at h
    exact Nat.le_trans (int_le h.1 h.2) (shL_12 _)
  | 0, .str s, h => of_decide_eq_true (Bool.and_eq_true_iff.mp (show okS s = true from h)).2
  | n + 1, .str s, h => Nat.le_trans (of_decide_eq_true (Bool.and_eq_true_iff.mp (show okS s = true from h)).2) (shL_12 _)
  | n + 1, .tuple ds, h => by
    have h : (decide (ds.length ≤ 64) && ds.all (okd n)) = true := h
    rw [Bool.and_eq_true, List.all_eq_true, decide_eq_true_eq] at h
    show (tupleText (PyData.shownAll ds)).length ≤ 3 + 64 * (shL n + 2)
    rw [shownAll_map']
    refine tup_le (fun t ht => ?_) (by rw [List.length_map]; exact h.1)
    obtain ⟨x, hx, rfl⟩ := List.mem_map.mp ht
    exact okd_len (h.2 x hx)
end
/-- repr of good data -/
theorem repr_ok {env : Env} {r : R} {d : PyData} {k : R → Prop} (e : dataOf env r = some d) (h : okd 3 d = true) (hs : isSeq d = true) (q : k (.v (.str d.shown))) : fRepr env [r] k :=
  ⟨r, rfl, d, e, hs, (okd_show h).1, (okd_show h).2, Nat.le_trans (okd_len h) (by rw [sizeLine_eq]; decide), Nat.le_trans (okd_lay h).2 (by decide), q⟩
/-! == of data without bools is equality -/
mutual
def nb : PyData → Bool
  | .bool _ => false
  | .dict _ => false
  | .tuple ds => nbs ds
  | .list ds => nbs ds
  | _ => true
def nbs : List PyData → Bool
  | [] => true
  | d :: ds => nb d && nbs ds
end
mutual
theorem eqv_iff : ∀ {d e : PyData}, nb d = true → nb e = true → (PyData.eqv d e = true ↔ d = e)
  | .none, e, _, he => by cases e <;> simp [PyData.eqv]
  | .int i, e, _, he => by
    cases e with
    | bool b => cases he
    | int j =>
      show (i == j) = true ↔ _
      rw [beq_iff_eq]
      exact ⟨fun h => by rw [h], fun h => PyData.int.inj h⟩
    | _ => simp [PyData.eqv]
  | .str s, e, _, he => by
    cases e with
    | str t =>
      show (s == t) = true ↔ _
      rw [beq_iff_eq]
      exact ⟨fun h => by rw [h], fun h => PyData.str.inj h⟩
    | _ => simp [PyData.eqv]
  | .tuple ds, e, hd, he => by
    cases e with
    | tuple es =>
      show PyData.eqvAll ds es = true ↔ _
      rw [eqvs_iff (show nbs ds = true from hd) (show nbs es = true from he)]
      exact ⟨fun h => by rw [h], fun h => PyData.tuple.inj h⟩
    | _ => simp [PyData.eqv]
  | .list ds, e, hd, he => by
    cases e with
    | list es =>
      show PyData.eqvAll ds es = true ↔ _
      rw [eqvs_iff (show nbs ds = true from hd) (show nbs es = true from he)]
      exact ⟨fun h => by rw [h], fun h => PyData.list.inj h⟩
    | _ => simp [PyData.eqv]
  | .bool _, _, hd, _ => nomatch hd
  | .dict _, _, hd, _ => nomatch hd
theorem eqvs_iff : ∀ {ds es : List PyData}, nbs ds = true → nbs es = true → (PyData.eqvAll ds es = true ↔ ds = es)
  | [], [], _, _ => by simp [PyData.eqvAll]
  | [], _ :: _, _, _ => by simp [PyData.eqvAll]
  | _ :: _, [], _, _ => by simp [PyData.eqvAll]
  | d :: ds, e :: es, hd, he => by
    have hd : (nb d && nbs ds) = true := hd
    have he : (nb e && nbs es) = true := he
    rw [Bool.and_eq_true] at hd he
    show (PyData.eqv d e && PyData.eqvAll ds es) = true ↔ _
    rw [Bool.and_eq_true, eqv_iff hd.1 he.1, eqvs_iff hd.2 he.2]
    exact ⟨fun h => by rw [h.1, h.2], fun h => ⟨(List.cons.inj h).1, (List.cons.inj h).2⟩⟩
end
theorem eqv_self {d : PyData} (h : nb d = true) : PyData.eqv d d = true := (eqv_iff h h).mpr rfl
theorem eqv_ne {d e : PyData} (hd : nb d = true) (he : nb e = true) (h : d ≠ e) : PyData.eqv d e = false := Bool.eq_false_iff.mpr fun z => h ((eqv_iff hd he).mp z)
end DL
set_option maxHeartbeats 2000000
/-! walks by data: what a comprehension, all, any come to -/
namespace DL
open PySem PySem.Spec PyProof.Rows L2 LW GX LD
abbrev yes : DTe := fun _ k => k true
section
variable {gd : PyData → Env → Option Env} {T : DTe} {E : DE} {we : Env}
theorem flag_all {f : PyData → Bool} : ∀ {ds : List PyData} {k : Bool → Prop}, (∀ x ∈ ds, ∃ env', gd x we = some env' ∧ ∀ K : R → Prop, K (.v (.bool (f x))) → E env' K) → k (ds.all f) → flagD true gd yes E we ds k
  | [], _, _, q => q
  | x :: ds, k, h, q => by
    obtain ⟨env', e, hE⟩ := h x List.mem_cons_self
    refine ⟨env', e, hE _ ⟨_, rfl, ?_⟩⟩
    rw [List.all_cons] at q
    cases z : f x with
    | true =>
      rw [z, Bool.true_and] at q
      rw [if_pos rfl]
      exact flag_all (fun y hy => h y (List.mem_cons_of_mem _ hy)) q
    | false =>
      rw [z, Bool.false_and] at q
      rw [if_neg Bool.false_ne_true]
      exact q
theorem flag_any {f : PyData → Bool} : ∀ {ds : List PyData} {k : Bool → Prop}, (∀ x ∈ ds, ∃ env', gd x we = some env' ∧ ∀ K : R → Prop, K (.v (.bool (f x))) → E env' K) → k (ds.any f) → flagD false gd yes E we ds k
  | [], _, _, q => q
  | x :: ds, k, h, q => by
    obtain ⟨env', e, hE⟩ := h x List.mem_cons_self
    refine ⟨env', e, hE _ ⟨_, rfl, ?_⟩⟩
    rw [List.any_cons] at q
    cases z : f x with
    | false =>
      rw [z, Bool.false_or] at q
      rw [if_pos rfl]
      exact flag_any (fun y hy => h y (List.mem_cons_of_mem _ hy)) q
    | true =>
      rw [z, Bool.true_or] at q
      rw [if_neg (by nofun)]
      exact q
/-- each thing's y, told by f -/
theorem comp_map {f : PyData → PyData} : ∀ {ds acc : List PyData} {k : List PyData → Prop}, (∀ x ∈ ds, ∃ env', gd x we = some env' ∧ ∀ K : R → Prop, (∀ r, datR r = some (f x) → K r) → E env' K) → k (acc ++ ds.map f) → compD gd yes E we ds acc k
  | [], acc, k, _, q => by
    rw [List.map_nil, List.append_nil] at q
    exact q
  | x :: ds, acc, k, h, q => by
    obtain ⟨env', e, hE⟩ := h x List.mem_cons_self
    refine ⟨env', e, hE _ fun r er => ⟨_, er, ?_⟩⟩
    exact comp_map (fun y hy => h y (List.mem_cons_of_mem _ hy)) (by rw [List.append_assoc]; exact q)
/-- those for which c tells True -/
theorem comp_if {f : PyData → PyData} {c : PyData → Bool} : ∀ {ds acc : List PyData} {k : List PyData → Prop}, (∀ x ∈ ds, ∃ env', gd x we = some env' ∧ (∀ K : Bool → Prop, K (c x) → T env' K) ∧ (c x = true → ∀ K : R → Prop, (∀ r, datR r = some (f x) → K r) → E env' K)) →
    k (acc ++ (ds.filter c).map f) → compD gd T E we ds acc k
  | [], acc, k, _, q => by
    rw [List.filter_nil, List.map_nil, List.append_nil] at q
    exact q
  | x :: ds, acc, k, h, q => by
    obtain ⟨env', e, hT, hE⟩ := h x List.mem_cons_self
    refine ⟨env', e, hT _ ?_⟩
    cases z : c x with
    | true =>
      rw [if_pos rfl]
      refine hE z _ fun r er => ⟨_, er, ?_⟩
      rw [List.filter_cons_of_pos z] at q
      exact comp_if (fun y hy => h y (List.mem_cons_of_mem _ hy)) (by rw [List.append_assoc]; exact q)
    | false =>
      rw [if_neg Bool.false_ne_true]
      rw [List.filter_cons_of_neg (by rw [z]; exact Bool.false_ne_true)] at q
      exact comp_if (fun y hy => h y (List.mem_cons_of_mem _ hy)) q
/-- each thing's y, drawn: P tells which may come -/
inductive Two (P : PyData → PyData → Prop) : List PyData → List PyData → Prop
  | nil : Two P [] []
  | cons {x y : PyData} {xs ys : List PyData} : P x y → Two P xs ys → Two P (x :: xs) (y :: ys)
theorem comp_any {P : PyData → PyData → Prop} : ∀ {ds acc : List PyData} {k : List PyData → Prop}, (∀ x ∈ ds, ∃ env', gd x we = some env' ∧ ∀ K : R → Prop, (∀ r y, datR r = some y → P x y → K r) → E env' K) → (∀ ys, Two P ds ys → k (acc ++ ys)) → compD gd yes E we ds acc k
  | [], acc, k, _, q => by
    have := q [] .nil
    rw [List.append_nil] at this
    exact this
  | x :: ds, acc, k, h, q => by
    obtain ⟨env', e, hE⟩ := h x List.mem_cons_self
    refine ⟨env', e, hE _ fun r y er hy => ⟨_, er, ?_⟩⟩
    exact comp_any (fun y hy => h y (List.mem_cons_of_mem _ hy)) fun ys hys => by
      rw [List.append_assoc]
      exact q (y :: ys) (.cons hy hys)
/-- some of the things, drawn -/
theorem comp_some {f : PyData → PyData} : ∀ {ds acc : List PyData} {k : List PyData → Prop}, (∀ x ∈ ds, ∃ env', gd x we = some env' ∧ (∀ K : Bool → Prop, (∀ b, K b) → T env' K) ∧ (∀ K : R → Prop, (∀ r, datR r = some (f x) → K r) → E env' K)) →
    (∀ ys, List.Sublist ys ds → k (acc ++ ys.map f)) → compD gd T E we ds acc k
  | [], acc, k, _, q => by
    have := q [] .slnil
    rw [List.map_nil, List.append_nil] at this
    exact this
  | x :: ds, acc, k, h, q => by
    obtain ⟨env', e, hT, hE⟩ := h x List.mem_cons_self
    refine ⟨env', e, hT _ fun b => ?_⟩
    cases b with
    | true =>
      rw [if_pos rfl]
      refine hE _ fun r er => ⟨_, er, ?_⟩
      exact comp_some (fun y hy => h y (List.mem_cons_of_mem _ hy)) fun ys hys => by
        rw [List.append_assoc]
        exact q (x :: ys) (hys.cons₂ x)
    | false =>
      rw [if_neg Bool.false_ne_true]
      exact comp_some (fun y hy => h y (List.mem_cons_of_mem _ hy)) fun ys hys => q ys (hys.cons x)
theorem Two.len {P : PyData → PyData → Prop} {xs ys : List PyData} (h : Two P xs ys) : xs.length = ys.length := by
  induction h with
  | nil => rfl
  | cons _ _ ih => exact congrArg Nat.succ ih
end
theorem ints_mem {lo : Int} {n : Nat} {x : PyData} (h : x ∈ intsFrom lo n) : ∃ i : Nat, i < n ∧ x = .int (lo + i) := by
  unfold intsFrom at h
  obtain ⟨i, hi, rfl⟩ := List.mem_map.mp h
  exact ⟨i, List.mem_range.mp hi, rfl⟩
theorem ints_len {lo : Int} {n : Nat} : (intsFrom lo n).length = n := by simp [intsFrom]
theorem atI_n {ds : List PyData} {i : Nat} {d : PyData} (h : ds[i]? = some d) : atI ds (i : Int) = some d := atI_nat h
theorem atI_z {ds : List PyData} {i : Nat} {d : PyData} (h : ds[i]? = some d) : atI ds ((0 : Int) + (i : Int)) = some d := by
  rw [Int.zero_add]
  exact atI_nat h
end DL
set_option maxHeartbeats 2000000
/-! while and raise by data -/
namespace LD
open PySem L2
theorem ix_tupK {X : Cx} {K : PySem.W.Frag} (h : X.K = K) : IxR X (rIxT K) := h ▸ ix_tup
theorem op_inK {X : Cx} {K : PySem.W.Frag} (h : X.K = K) : OpR X (compareOp .In) (rIn K false) := h ▸ op_in_seq
theorem op_notInK {X : Cx} {K : PySem.W.Frag} (h : X.K = K) : OpR X (compareOp .NotIn) (rIn K true) := h ▸ op_notIn_seq
theorem op_eqK {X : Cx} {K : PySem.W.Frag} (h : X.K = K) (hu : X.A.units + 64 < cLine) : OpR X (compareOp .Eq) (rEqD K) := h ▸ op_eqD hu
theorem op_neK {X : Cx} {K : PySem.W.Frag} (h : X.K = K) (hu : X.A.units + 64 < cLine) : OpR X (compareOp .NotEq) (rNeD K) := h ▸ op_neD hu
theorem ix_listK {X : Cx} {K : PySem.W.Frag} (h : X.K = K) : IxR X (rIxL K) := h ▸ ix_list
end LD
namespace DL
open PySem PySem.Spec PyProof.Rows L2 LW GX LD
section
variable {Z : Wd} {M M' : AS} {env : Env} {σ : L2.St} {H H0 H1 H2 H' : Hp} {ta tb te : TE} {A B : DE} {tA : TT} {T : DTe} {t : TS} {d : DS}
def sWhile (T : DTe) (d : DS) : DS := fun D env => ∃ Iv : Nat → Env → Prop, (∃ m, Iv m env) ∧ ∀ m env, Iv m env → T env fun c => if c = true then d { D with nx := fun e => ∃ m', m' < m ∧ Iv m' e, ct := fun e => ∃ m', m' < m ∧ Iv m' e, bk := D.nx } env else D.nx env
theorem rs_while (hc : RT Z tA T) (hb : RS Z t d) : RS Z (tWhile tA t) (sWhile T d) where
  mono env K K' h := fun ⟨Iv, h0, hs⟩ => ⟨Iv, h0, fun m env w => hc.mono env _ _ (fun c q => by
    cases c
    · exact h.nx env q
    · exact hb.mono env { K with nx := fun e => ∃ m', m' < m ∧ Iv m' e, ct := fun e => ∃ m', m' < m ∧ Iv m' e, bk := K.nx } _ ⟨fun _ q => q, h.rt, h.nx, fun _ q => q⟩ q) (hs m env w)⟩
  run env σ H D S := fun ⟨Iv, ⟨m0, h0⟩, hs⟩ => by
    refine ⟨fun m σ' H' => ∃ env', SatS Z env' σ' H' ∧ SStep env σ H env' σ' H' ∧ Iv m env', ⟨m0, env, S, .refl, h0⟩, ?_⟩
    rintro m σ1 H1 ⟨env1, S1, k1, w⟩
    refine hc.run _ env1 σ1 H1 _ S1 (hc.mono env1 _ _ (fun c q H2 k2 => ?_) (hs m env1 w))
    have S2 := S1.same k2
    have k3 := k1.trans k2.ss
    cases c with
    | false => exact q σ1 H2 S2 k3
    | true =>
      refine ⟨fun σ' H' => ∃ m', m' < m ∧ ∃ env', SatS Z env' σ' H' ∧ SStep env σ H env' σ' H' ∧ Iv m' env', fun σ' H' h => h, ?_⟩
      refine hb.from (D := { D with nx := fun σ' H' => ∃ m', m' < m ∧ ∃ env', SatS Z env' σ' H' ∧ SStep env σ H env' σ' H' ∧ Iv m' env', ct := fun σ' H' => ∃ m', m' < m ∧ ∃ env', SatS Z env' σ' H' ∧ SStep env σ H env' σ' H' ∧ Iv m' env', bk := D.nx }) S2 k3
        (hb.mono env1 { upD Z env σ H D with nx := fun e => ∃ m', m' < m ∧ Iv m' e, ct := fun e => ∃ m', m' < m ∧ Iv m' e, bk := (upD Z env σ H D).nx } _ ⟨?_, fun _ q => q, fun e q σ' H' S' k' => q σ' H' S' k', ?_⟩ q)
      · rintro e ⟨m', hm, q⟩ σ' H' S' k'
        exact ⟨m', hm, e, S', k', q⟩
      · rintro e ⟨m', hm, q⟩ σ' H' S' k'
        exact ⟨m', hm, e, S', k', q⟩
def sRaise (C : Addr) (x : Addr → PyData → Prop) (A : DE) : DS := fun _ env => A env fun r => ∃ d, r = .v d ∧ x C d
theorem rs_raise {P : Program} {w : World} {mg : Str → Option Value} {base : Heap} {K : PySem.W.Frag} {n : Nat} {nm : Str} {C : Addr} {E : XK} {x : Addr → PyData → Prop} {pl : List Addr} {M0 : AS} {Ts : List Addr} {Tl : List (Addr × Str)} {xn : Addr → PyData → Prop} {pl0 : (∀ p ∈ pl, H0 p ≠ none) ∧ ∀ a, M0 a → H0 a ≠ none}
    (kx : ExK P w K mg base n nm C) (hx : XOk K H0 M0 pl Ts Tl x E) (ha : RE ⟨K, H0, M0, pl, Ts, Tl, xn, pl0⟩ ta A) : RS ⟨K, H0, M0, pl, Ts, Tl, xn, pl0⟩ (fun _ σ H => tMkO C (spInit K) [] (tCons ta tNil) σ H fun cls d H' => E cls d H') (sRaise C x A) where
  mono env K K' h q := q
  run env σ H D S h := by
    refine ha.run _ env σ H _ S (ha.mono env _ _ (fun r w v H' k hv => ?_) h)
    obtain ⟨d, rfl, hc⟩ := w
    have S' := S.same k
    refine mk_in kx fun dd fs hd hw => ?_
    exact hx C d hc v dd fs _ (S'.old.trans (Kp.new hd)) (fun p hp => (S'.pls p hp).same (same_upd hd)) (S'.tb.same (same_upd hd)) upd_same hw (Da.sub (fun a h => .inl h) (Da.st S' (S'.new hd) hv))
/-- a call of a def that may raise, in a def that may raise -/
theorem re_callS {m : Pm} {K : PySem.W.Frag} {M0 : AS} {pl : List Addr} {Ts : List Addr} {Tl : List (Addr × Str)} {xn x : Addr → PyData → Prop} {pl0 : (∀ p ∈ pl, H0 p ≠ none) ∧ ∀ a, M0 a → H0 a ≠ none} {E : XK} {t : TA} {As : DAs} (hx : XOk K H0 M0 pl Ts Tl x E)
    (ha : RA ⟨K, H0, M0, pl, Ts, Tl, xn, pl0⟩ t As) : RE ⟨K, H0, M0, pl, Ts, Tl, xn, pl0⟩ (tCallS (spD K Ts Tl m) (WE fun cls d _ H => E cls d H) t) (dCall m x As) := by
  refine ⟨fun env K K' h q => ha.mono env _ _ (fun rs ⟨as, e, o, k0, hk, hm⟩ => ⟨as, e, o, k0, fun r z => h r (hk r z), hm⟩) q, fun M env σ H Q S h => ?_⟩
  refine ha.run M env σ H _ S (ha.mono env _ _ (fun rs w vs H' k hv => ?_) h)
  obtain ⟨as, e, o, k0, hk, hm⟩ := w
  have S' := S.same k
  obtain ⟨az, pz⟩ := argz_of S k hv (fun _ h => h) e
  have st : ∀ {H2 : Hp}, Kp (· ∈ plOf vs as) H' H2 → (∀ p ∈ plOf vs as, Pl H2 p) → TB Ts Tl H2 → Step ⟨K, H0, M0, pl, Ts, Tl, xn, pl0⟩ env σ H' H2 := fun {H2} kp hp tb => ⟨kp.mono pz, fun a z => by
    by_cases w : a ∈ plOf vs as
    · exact hp a w
    · obtain ⟨x, y, a1, a2, a3, e⟩ := (S'.pool z).1
      exact ⟨x, y, a1, a2, a3, kp.keep _ _ e nofun w⟩, tb⟩
  refine ⟨M, plOf vs as, as, k0, x, az _ pz (fun _ h => h), fun p hp => ⟨(S'.pool (pz p hp)).1, S.psm p (pz p hp)⟩, S'.dom, S'.tb, o, hm, fun r hr v H2 kp hp tb rv => ?_, fun C d hc v dd fs H2 kp hp tb hd hw hv => ?_⟩
  · refine hk r hr v H2 (k.trans (st kp hp tb)) ?_
    cases r with
    | v d => exact rv
    | new ds =>
      obtain ⟨a, us, rfl, hn, hl, hd⟩ := rv
      refine ⟨a, us, rfl, ⟨?_, fun z => S'.dom a z hn⟩, hl, hd⟩
      cases z : H a with
      | none => rfl
      | some o => exact absurd hn (k.kp.grow a (by rw [z]; nofun))
    | ali i => exact rv.elim
  · have S2 := S'.same (st kp hp tb)
    exact hx C d hc v dd fs H2 S2.old S2.pls S2.tb hd hw (Da.sub (fun a h => S2.m0 a h) hv)
end
end DL
set_option maxHeartbeats 2000000
/-! the layer of data: enumerate(zip(a, b)) -/
namespace DL
open PySem PySem.Spec PyProof.Rows L2 LW GX LD
section
variable {Z : Wd} {M M' : AS} {env : Env} {σ : L2.St} {H H0 H1 H2 H' : Hp} {ta tb te : TE} {A B E : DE} {t : TA} {As : DAs}
theorem iok_enumZ {K : PySem.W.Frag} {S : AS} {a b : Addr} {vs us : List V} {ds es : List PyData} (hS : ∀ a, S a → ∃ xs, H1 a = some (.lst xs)) (hM : ∀ a, S a → M a) (h : SqT K H1 a vs) (hd : Das K M H1 vs ds) (h2 : SqT K H1 b us) (hd2 : Das K M H1 us es) :
    Iok K M S H1 (EZ.IteZ K a b) (pairsOf (intsFrom 0 (pairsOf ds es).length) (pairsOf ds es)) := by
  have e0 : (pairsOf (intsFrom 0 (pairsOf ds es).length) (pairsOf ds es)).length = min vs.length us.length := by
    rw [pairsOf_len, pairsOf_len, hd.len, hd2.len]
    simp [intsFrom]
  refine ⟨fun H => SqT K H a vs ∧ SqT K H b us, fun i H v H' => ∃ T U x y, v = .ref U ∧ H T = none ∧ H U = none ∧ U ≠ T ∧ H' = upd (upd H T (.tup [x, y])) U (.tup [.int (i : Nat), .ref T]) ∧ vs[i]? = some x ∧ us[i]? = some y, ?_, fun H k => ⟨k.seqT hS h, k.seqT hS h2⟩, fun i H v H' d e k y => ?_⟩
  · rw [e0]
    refine ⟨fun i H hi q => ?_, fun H q => ⟨vs, us, q.1, q.2, by omega⟩, ?_⟩
    · have l1 : i < vs.length := by omega
      have l2 : i < us.length := by omega
      exact ⟨vs, us, vs[i], us[i], q.1, q.2, List.getElem?_eq_getElem l1, List.getElem?_eq_getElem l2⟩
    · rintro i H v H' - q ⟨T, U, x, y, e1, e2, e3, e4, e5, e6, e7⟩
      exact ⟨T, U, x, y, e1, e2, e3, e4, e5, e6 vs q.1, e7 us q.2⟩
  · obtain ⟨T, U, x, y, rfl, hT, hU, hn, rfl, ex, ey⟩ := y
    have hU2 : (upd H T (.tup [x, y])) U = none := by rw [upd_ne hn]; exact hU
    have sm : Same H (upd (upd H T (.tup [x, y])) U (.tup [.int (i : Nat), .ref T])) := (same_upd hT).trans (same_upd hU2)
    refine ⟨sm, fun M' h1 h2' => ?_⟩
    rw [pairsOf_get] at e
    cases z : (intsFrom 0 (pairsOf ds es).length)[i]? with
    | none => rw [z] at e; cases e
    | some dn =>
      cases z2 : (pairsOf ds es)[i]? with
      | none => rw [z, z2] at e; cases e
      | some dp =>
        rw [z, z2] at e
        cases e
        have edn : dn = .int (i : Nat) := by
          rw [intsFrom, List.getElem?_map] at z
          cases w : (List.range (pairsOf ds es).length)[i]? with
          | none => rw [w] at z; cases z
          | some j =>
            rw [w] at z
            cases z
            have : j = i := by
              rw [List.getElem?_eq_some_iff] at w
              obtain ⟨h, w⟩ := w
              rw [List.getElem_range] at w
              exact w.symm
            subst this
            show PyData.int (0 + ((j : Nat) : Int)) = _
            rw [Int.zero_add]
        subst edn
        rw [pairsOf_get] at z2
        cases w : ds[i]? with
        | none => rw [w] at z2; cases z2
        | some d1 =>
          cases w2 : es[i]? with
          | none => rw [w, w2] at z2; cases z2
          | some d2 =>
            rw [w, w2] at z2
            cases z2
            have up : ∀ {v d}, Da K M' H v d → Da K M' (upd (upd H T (.tup [x, y])) U (.tup [.int (i : Nat), .ref T])) v d := fun h => h.mono (fun _ _ q => LW.Same.seqT sm q) fun a xs q _ m => ⟨sm _ _ q, m⟩
            obtain ⟨d', e', hx⟩ := Das.getV hd ex
            rw [w] at e'
            cases e'
            obtain ⟨d', e', hy⟩ := Das.getV hd2 ey
            rw [w2] at e'
            cases e'
            refine .tup (.inl (.inl upd_same)) (.cons (.int _) (.cons (.tup (.inl (.inl ?_)) (.cons (up (hx.kp k hS hM h1)) (.cons (up (hy.kp k hS hM h1)) .nil))) .nil))
            rw [upd_ne (Ne.symm hn)]
            exact upd_same
def dItEZ (As : DAs) : Env → (List PyData → Prop) → Prop := fun env k => As env fun rs => ∃ ds es, rs = [.v (.tuple ds), .v (.tuple es)] ∧ k (pairsOf (intsFrom 0 (pairsOf ds es).length) (pairsOf ds es))
theorem ri_enumZip (ha : RA Z t As) : RI Z (EZ.iEnumZ Z.K t) (dItEZ As) :=
  ⟨fun env K K' h q => ha.mono env _ _ (fun r ⟨c, d, e, q⟩ => ⟨c, d, e, h _ q⟩) q, fun M env σ H Q S h => ha.run M env σ H _ S (ha.mono env _ _ (fun r ⟨ds, es, e, q⟩ vs H' k hv => by
    subst e
    obtain ⟨v, u, rfl, h, h2⟩ := hv.two
    obtain ⟨a, xs, rfl, hx, dx⟩ := h.tup rfl
    obtain ⟨b, ys, rfl, hy, dy⟩ := h2.tup rfl
    exact ⟨a, b, xs, ys, rfl, hx, hy, q _ _ k (iok_enumZ (S.same k).psl S.psm hx dx hy dy)⟩) h)⟩
theorem rj_enumZip (ha : RA Z t As) : RJ Z (EZ.iEnumZ Z.K t) (dItEZ As) :=
  ⟨fun env K K' h q => ha.mono env _ _ (fun r ⟨c, d, e, q⟩ => ⟨c, d, e, h _ q⟩) q, fun M env σ H Q S h => ha.run M env σ H _ S (ha.mono env _ _ (fun r ⟨ds, es, e, q⟩ vs H' k hv => by
    subst e
    obtain ⟨v, u, rfl, h, h2⟩ := hv.two
    obtain ⟨a, xs, rfl, hx, dx⟩ := h.tup rfl
    obtain ⟨b, ys, rfl, hy, dy⟩ := h2.tup rfl
    exact ⟨a, b, xs, ys, rfl, hx, hy, q _ _ k (iok_enumZ (S.same k).mss S.sub hx dx hy dy)⟩) h)⟩
end
end DL
set_option maxHeartbeats 2000000
/-! the layer of data: a, b, c = x, y, z -/
namespace DL
open PySem PySem.Spec PyProof.Rows L2 LW GX LD
section
variable {Z : Wd} {M M' : AS} {env : Env} {σ : L2.St} {H H0 H1 H2 H' : Hp} {t : TA} {As : DAs}
def sPar3 (i j l : Nat) (As : DAs) : DS := fun D env => As env fun rs => ∃ d1 d2 d3, rs = [.v d1, .v d2, .v d3] ∧ nl d1 = true ∧ nl d2 = true ∧ nl d3 = true ∧ D.nx (((env.set i (some (.dat d1))).set j (some (.dat d2))).set l (some (.dat d3)))
theorem rs_par3 {i j l : Nat} (ha : RA Z t As) : RS Z (tPar3 i j l t) (sPar3 i j l As) where
  mono env K K' h q := ha.mono env _ _ (fun rs ⟨a, b, c, e, n1, n2, n3, q⟩ => ⟨a, b, c, e, n1, n2, n3, h.nx _ q⟩) q
  run env σ H D S h := ha.run _ env σ H _ S (ha.mono env _ _ (fun rs ⟨a, b, c, e, n1, n2, n3, q⟩ vs H' k hv => by
    subst e
    obtain ⟨u, v, w, rfl, ⟨_, h1⟩, ⟨_, h2⟩, ⟨_, h3⟩⟩ : ∃ u v w, vs = [u, v, w] ∧ (∃ M, Da Z.K M H' u a) ∧ (∃ M, Da Z.K M H' v b) ∧ ∃ M, Da Z.K M H' w c := by
      cases hv with
      | cons h1 hv =>
        cases hv with
        | cons h2 hv =>
          cases hv with
          | cons h3 hv =>
            cases hv
            exact ⟨_, _, _, rfl, ⟨_, h1⟩, ⟨_, h2⟩, ⟨_, h3⟩⟩
    refine ⟨u, v, w, rfl, ?_⟩
    have S1 : Sat Z (fun b => MZ Z env σ b ∨ (H b = none ∧ H' b ≠ none)) env σ H' := S.more k
    obtain ⟨S2, m2⟩ := Sat.put S1 (i := i) (v := u) (sv := .dat a) (Da.nl n1 h1) fun z => nomatch z
    obtain ⟨S3, m3⟩ := Sat.put S2 (i := j) (v := v) (sv := .dat b) (Da.nl n2 h2) fun z => nomatch z
    obtain ⟨S4, m4⟩ := Sat.put S3 (i := l) (v := w) (sv := .dat c) (Da.nl n3 h3) fun z => nomatch z
    have m : ∀ d, MS (((env.set i (some (.dat a))).set j (some (.dat b))).set l (some (.dat c))) (((σ.set i (some u)).set j (some v)).set l (some w)) d → MS env σ d := fun d x => by
      rcases m4 d x with x | ⟨z, _⟩
      · rcases m3 d x with x | ⟨z, _⟩
        · rcases m2 d x with x | ⟨z, _⟩
          · exact x
          · cases z
        · cases z
      · cases z
    refine q _ H' (S4.mz fun b x => ?_) ⟨k.ss.kp, fun b x => .inl (m b x)⟩
    rcases x with x | x
    · exact .inl (.inl x)
    · exact .inl (.inr (m b x))) h)
end
abbrev rTupOf (K : PySem.W.Frag) : List V → Hp → VK → Prop := fun xs H Q => ∃ p ys, xs = [.ref p] ∧ ((SqL K H p ys ∧ ∀ l, H l = none → Q (.ref l) (upd H l (.tup ys))) ∨ (SqT K H p ys ∧ Q (.ref p) H))
end DL
set_option maxHeartbeats 2000000
/-! the layer of data: zip of lists and tuples in any mix, any of a list or a tuple -/
namespace DL
open PySem PySem.Spec PyProof.Rows L2 LW GX LD
mutual
theorem pl_nd : ∀ {d : PyData}, PyData.plain d = true → d.hasDict = false
  | .none, _ => rfl
  | .bool _, _ => rfl
  | .int _, _ => rfl
  | .str _, _ => rfl
  | .list ds, h => plain_nd (ds := ds) h
  | .tuple ds, h => plain_nd (ds := ds) h
  | .dict _, h => nomatch h
theorem plain_nd : ∀ {ds : List PyData}, PyData.plainAll ds = true → PyData.hasDictAll ds = false
  | [], _ => rfl
  | d :: ds, h => by
    have h : (PyData.plain d && PyData.plainAll ds) = true := h
    rw [Bool.and_eq_true] at h
    show (PyData.hasDict d || PyData.hasDictAll ds) = false
    rw [pl_nd h.1, plain_nd h.2]
    rfl
end
section
variable {Z : Wd} {M M' : AS} {env : Env} {σ : L2.St} {H H0 H1 H2 H' : Hp} {ta tb te : TE} {A B E : DE} {t : TA} {As : DAs}
def seqOf (env : Env) (r : R) : Option (List PyData) := match dataOf env r with
  | some (.tuple ds) => some ds
  | some (.list ds) => some ds
  | _ => none
/-- a sequence for a loop: no list of the def's own -/
def seqOfB (env : Env) (r : R) : Option (List PyData) := match r with
  | .v (.tuple ds) => some ds
  | r => borOf env r
theorem Val.sq {v : V} {r : R} {ds : List PyData} (S : Sat Z M env σ H) (k : Step Z env σ H H') (h : Val Z M env σ H H' v r) (e : seqOf env r = some ds) : ∃ t a vs, v = .ref a ∧ (∀ H2, Kp (PS env σ) H' H2 → ZM.SqB Z.K t H2 a vs) ∧ Das Z.K M H' vs ds := by
  have e : (match dataOf env r with | some (.tuple ds) => some ds | some (.list ds) => some ds | _ => none) = some ds := e
  cases z : dataOf env r with
  | none => rw [z] at e; cases e
  | some d =>
    rw [z] at e
    cases d with
    | tuple es =>
      cases e
      obtain ⟨a, vs, rfl, hx, dx⟩ := h.tup z
      exact ⟨true, a, vs, rfl, fun H2 k2 => k2.seqT (S.same k).psl hx, dx⟩
    | list es =>
      cases e
      obtain ⟨a, vs, rfl, hx, dx⟩ := h.seqK S k z
      exact ⟨false, a, vs, rfl, hx, dx⟩
    | _ => cases e
theorem Val.sqB {v : V} {r : R} {ds : List PyData} (S : Sat Z M env σ H) (k : Step Z env σ H H') (h : Val Z M env σ H H' v r) (e : seqOfB env r = some ds) : ∃ t a vs, v = .ref a ∧ (∀ H2, Kp (MS env σ) H' H2 → ZM.SqB Z.K t H2 a vs) ∧ Das Z.K M H' vs ds := by
  have lst : borOf env r = some ds → ∃ t a vs, v = .ref a ∧ (∀ H2, Kp (MS env σ) H' H2 → ZM.SqB Z.K t H2 a vs) ∧ Das Z.K M H' vs ds := fun e => by
    obtain ⟨a, vs, rfl, hx, dx⟩ := h.borK S k e
    exact ⟨false, a, vs, rfl, hx, dx⟩
  cases r with
  | v d =>
    cases d with
    | tuple es =>
      cases e
      obtain ⟨a, vs, rfl, hx, dx⟩ := h.tup rfl
      exact ⟨true, a, vs, rfl, fun H2 k2 => k2.seqT (S.same k).mss hx, dx⟩
    | _ => exact lst e
  | new es => exact lst e
  | ali i => exact lst e
theorem iok_m {K : PySem.W.Frag} {S : AS} {p q : Bool} {a b : Addr} {vs us : List V} {ds es : List PyData} (hS : ∀ a, S a → ∃ xs, H1 a = some (.lst xs)) (hM : ∀ a, S a → M a) (h : ∀ H2, Kp S H1 H2 → ZM.SqB K p H2 a vs) (hd : Das K M H1 vs ds) (h2 : ∀ H2, Kp S H1 H2 → ZM.SqB K q H2 b us) (hd2 : Das K M H1 us es) :
    Iok K M S H1 (ZM.Itm K p q a b) (pairsOf ds es) := by
  refine iok_pair (G := fun H => ZM.SqB K p H a vs ∧ ZM.SqB K q H b us) (xs := fun i => vs[i]?) (ys := fun i => us[i]?) (ZM.walk_m (by rw [hd.len, hd2.len])) (fun H k => ⟨h H k, h2 H k⟩) (fun i H x d e k y M' h1 => ?_) (fun i H x d e k y M' h1 => ?_)
  · obtain ⟨d', e', h'⟩ := Das.getV hd y
    rw [e] at e'
    cases e'
    exact h'.kp k hS hM h1
  · obtain ⟨d', e', h'⟩ := Das.getV hd2 y
    rw [e] at e'
    cases e'
    exact h'.kp k hS hM h1
theorem Vs.two2 {xs : List V} {r1 r2 : R} (h : Vs Z env σ H H' M xs [r1, r2]) : ∃ v u, xs = [v, u] ∧ Val Z M env σ H H' v r1 ∧ Val Z M env σ H H' u r2 := by
  cases h with
  | cons h1 h2 =>
    cases h2 with
    | cons h2 h3 =>
      cases h3
      exact ⟨_, _, rfl, h1, h2.back (fun _ h => h) fun _ h => .inl h⟩
def dItZM (As : DAs) : Env → (List PyData → Prop) → Prop := fun env k => As env fun rs => ∃ r1 r2 ds es, rs = [r1, r2] ∧ seqOf env r1 = some ds ∧ seqOf env r2 = some es ∧ k (pairsOf ds es)
def dItZMB (As : DAs) : Env → (List PyData → Prop) → Prop := fun env k => As env fun rs => ∃ r1 r2 ds es, rs = [r1, r2] ∧ seqOfB env r1 = some ds ∧ seqOfB env r2 = some es ∧ k (pairsOf ds es)
theorem ri_zipM (ha : RA Z t As) : RI Z (ZM.iZipM Z.K t) (dItZM As) :=
  ⟨fun env K K' h q => ha.mono env _ _ (fun r ⟨r1, r2, c, d, e, e1, e2, q⟩ => ⟨r1, r2, c, d, e, e1, e2, h _ q⟩) q, fun M env σ H Q S h => ha.run M env σ H _ S (ha.mono env _ _ (fun r ⟨r1, r2, ds, es, e, e1, e2, q⟩ vs H' k hv => by
    subst e
    obtain ⟨v, u, rfl, h1, h2⟩ := hv.two2
    obtain ⟨b1, a, xs, rfl, hx, dx⟩ := h1.sq S k e1
    obtain ⟨b2, b, ys, rfl, hy, dy⟩ := h2.sq S k e2
    exact ⟨b1, b2, a, b, xs, ys, rfl, hx _ (Kp.refl _ _), hy _ (Kp.refl _ _), q _ _ k (iok_m (S.same k).psl S.psm hx dx hy dy)⟩) h)⟩
theorem rj_zipM (ha : RA Z t As) : RJ Z (ZM.iZipM Z.K t) (dItZMB As) :=
  ⟨fun env K K' h q => ha.mono env _ _ (fun r ⟨r1, r2, c, d, e, e1, e2, q⟩ => ⟨r1, r2, c, d, e, e1, e2, h _ q⟩) q, fun M env σ H Q S h => ha.run M env σ H _ S (ha.mono env _ _ (fun r ⟨r1, r2, ds, es, e, e1, e2, q⟩ vs H' k hv => by
    subst e
    obtain ⟨v, u, rfl, h1, h2⟩ := hv.two2
    obtain ⟨b1, a, xs, rfl, hx, dx⟩ := h1.sqB S k e1
    obtain ⟨b2, b, ys, rfl, hy, dy⟩ := h2.sqB S k e2
    exact ⟨b1, b2, a, b, xs, ys, rfl, hx _ (Kp.refl _ _), hy _ (Kp.refl _ _), q _ _ k (iok_m (S.same k).mss S.sub hx dx hy dy)⟩) h)⟩
/-- any(x) -/
def fAny : Env → List R → (R → Prop) → Prop := fun env rs k => ∃ r ds, rs = [r] ∧ seqOf env r = some ds ∧ PyData.plainAll ds = true ∧ (∀ x ∈ ds, x.fits63) ∧ k (.v (.bool (ds.any PyData.truthy)))
theorem cd_any : CallD Z (ZM.rAnyD Z.K) fAny :=
  ⟨fun _ _ _ _ h ⟨r, ds, e, e1, e2, e3, q⟩ => ⟨r, ds, e, e1, e2, e3, h _ q⟩, fun M env σ H0 H xs rs Q S hv ⟨r, ds, e, e1, e2, e3, q⟩ => by
    subst e
    obtain ⟨v, rfl, h⟩ := hv.one
    have e1 : (match dataOf env r with | some (.tuple ds) => some ds | some (.list ds) => some ds | _ => none) = some ds := e1
    cases z : dataOf env r with
    | none => rw [z] at e1; cases e1
    | some d =>
      rw [z] at e1
      cases d with
      | tuple es =>
        cases e1
        obtain ⟨a, vs, rfl, hx, dx⟩ := h.tup z
        exact ⟨true, a, vs, _, rfl, hx, dx.dp (plain_nd e2), e2, e3, q _ _ S.stay (Da.bl _)⟩
      | list es =>
        cases e1
        obtain ⟨a, vs, rfl, hx, dx⟩ := h.seq S z
        exact ⟨false, a, vs, _, rfl, hx, dx.dp (plain_nd e2), e2, e3, q _ _ S.stay (Da.bl _)⟩
      | _ => cases e1⟩
end
end DL
set_option maxHeartbeats 2000000
/-! shapes, rows, data as data; what the program's small defs answer -/
namespace SH
open PySem DL
open K00 (isP isPr)
theorem iteT {c : Bool} {A B : Prop} (h : c = true) (a : A) : if c = true then A else B := by
  rw [if_pos h]
  exact a
theorem iteF {c : Bool} {A B : Prop} (h : c = false) (b : B) : if c = true then A else B := by
  rw [if_neg (by rw [h]; exact Bool.false_ne_true)]
  exact b
theorem iteB {c : Bool} {A B : Prop} (a : c = true → A) (b : c = false → B) : if c = true then A else B := by
  cases c with
  | true => exact iteT rfl (a rfl)
  | false => exact iteF rfl (b rfl)
theorem iteD {p : Prop} [Decidable p] {A B : Prop} (a : p → A) (b : ¬ p → B) : if decide p = true then A else B :=
  iteB (fun h => a (of_decide_eq_true h)) (fun h => b (of_decide_eq_false h))
def rowP (r : List Int) : PyData := .tuple (r.map PyData.int)
def datP (cs : List (List Int)) : PyData := .tuple (cs.map rowP)
def shP (g wd n : Int) (rows : List (List Int)) (e : Int) : PyData := .tuple [.int g, .int wd, .int n, datP rows, .int e]
def fromD (d : PyData) (lo hi : Int) : Bool := match d with
  | .int i => decide (lo ≤ i) && decide (i ≤ hi)
  | _ => false
def tupOf (d : PyData) (m : Int) : Bool := match d with
  | .tuple ds => decide ((ds.length : Int) = m)
  | _ => false
def rowD (d : PyData) (many lim : Int) : Bool := match d with
  | .tuple ds => decide ((ds.length : Int) = many) && ds.all fun x => fromD x 0 (lim - 1)
  | _ => false
def tabD (d : PyData) (n p : Int) : Bool := match d with
  | .tuple ds => decide (ds.length ≤ 5) && ds.all fun x => rowD x n p
  | _ => false
def primeD (d : PyData) : Bool := match d with
  | .int i => isPr i
  | _ => false
/-- strictly rising from least on, below lim -/
def risL (lim : Int) : Int → List PyData → Bool
  | _, [] => true
  | least, d :: ds => fromD d least (lim - 1) && match d with
    | .int i => risL lim (i + 1) ds
    | _ => false
def risD (d : PyData) (lim : Int) : Bool := match d with
  | .tuple ds => risL lim 0 ds
  | _ => false
def tabE (t n p : PyData) : Bool := match n, p with
  | .int n, .int p => tabD t n p
  | _, _ => false
def shapeBad (d : PyData) : Option Int := match d with
  | .tuple [p, wd, n, t, e] => if primeD p = false then some 0 else if fromD wd 1 32 = false then some 1 else if fromD n 1 6 = false then some 2 else if tabE t n p = false then some 3 else if fromD e 0 3 = false then some 4 else none
  | _ => some (-1)
theorem tup5 {d : PyData} (h : tupOf d 5 = true) : ∃ a b c e f, d = .tuple [a, b, c, e, f] := by
  cases d with
  | tuple ds =>
    have h : (ds.length : Int) = 5 := of_decide_eq_true h
    match ds, h with
    | [a, b, c, e, f], _ => exact ⟨a, b, c, e, f, rfl⟩
    | [], h => simp at h
    | [_], h => simp at h
    | [_, _], h => simp at h
    | [_, _, _], h => simp at h
    | [_, _, _, _], h => simp at h
    | _ :: _ :: _ :: _ :: _ :: _ :: ds, h => simp at h; omega
  | _ => nomatch h
theorem tup4 {d : PyData} (h : tupOf d 4 = true) : ∃ a b c e, d = .tuple [a, b, c, e] := by
  cases d with
  | tuple ds =>
    have h : (ds.length : Int) = 4 := of_decide_eq_true h
    match ds, h with
    | [a, b, c, e], _ => exact ⟨a, b, c, e, rfl⟩
    | [], h => simp at h
    | [_], h => simp at h
    | [_, _], h => simp at h
    | [_, _, _], h => simp at h
    | _ :: _ :: _ :: _ :: _ :: ds, h => simp at h; omega
  | _ => nomatch h
theorem bad_no {d : PyData} (h : tupOf d 5 = false) : shapeBad d = some (-1) := by
  unfold shapeBad
  split
  · cases h
  · rfl
theorem prime_int {d : PyData} (h : primeD d = true) : ∃ g, d = .int g ∧ isPr g = true := by
  cases d with
  | int g => exact ⟨g, rfl, h⟩
  | _ => nomatch h
structure Good (g wd n : Int) (rows : List (List Int)) (e : Int) : Prop where
  hg : isPr g = true
  g0 : 2 ≤ g
  g1 : g ≤ 65521
  w0 : 1 ≤ wd
  w1 : wd ≤ 32
  n0 : 1 ≤ n
  n1 : n ≤ 6
  rl : rows.length ≤ 5
  rw : ∀ r ∈ rows, (r.length : Int) = n ∧ ∀ x ∈ r, 0 ≤ x ∧ x < g
  e0 : 0 ≤ e
  e1 : e ≤ 3
theorem from_ok {i lo hi : Int} (h0 : lo ≤ i) (h1 : i ≤ hi) : fromD (.int i) lo hi = true := by
  show (decide (lo ≤ i) && decide (i ≤ hi)) = true
  rw [decide_eq_true h0, decide_eq_true h1]
  rfl
theorem from_iff {d : PyData} {lo hi : Int} : fromD d lo hi = true ↔ ∃ i, d = .int i ∧ lo ≤ i ∧ i ≤ hi := by
  cases d with
  | int i =>
    show (decide (lo ≤ i) && decide (i ≤ hi)) = true ↔ _
    rw [Bool.and_eq_true, decide_eq_true_eq, decide_eq_true_eq]
    exact ⟨fun h => ⟨i, rfl, h⟩, fun ⟨j, e, h⟩ => by cases e; exact h⟩
  | _ => exact ⟨fun h => (nomatch h), fun ⟨_, e, _⟩ => nomatch e⟩
theorem row_ok {g n : Int} {r : List Int} (h : (r.length : Int) = n ∧ ∀ x ∈ r, 0 ≤ x ∧ x < g) : rowD (rowP r) n g = true := by
  show (decide (((r.map PyData.int).length : Int) = n) && (r.map PyData.int).all fun x => fromD x 0 (g - 1)) = true
  rw [List.length_map, decide_eq_true h.1, Bool.true_and, List.all_eq_true]
  intro d hd
  obtain ⟨x, hx, rfl⟩ := List.mem_map.mp hd
  have := h.2 x hx
  exact from_ok this.1 (by omega)
theorem Good.bad {g wd n : Int} {rows : List (List Int)} {e : Int} (G : Good g wd n rows e) : shapeBad (shP g wd n rows e) = none := by
  have tb : tabD (datP rows) n g = true := by
    show (decide ((rows.map rowP).length ≤ 5) && (rows.map rowP).all fun x => rowD x n g) = true
    rw [List.length_map, decide_eq_true G.rl, Bool.true_and, List.all_eq_true]
    intro d hd
    obtain ⟨r, hr, rfl⟩ := List.mem_map.mp hd
    exact row_ok (G.rw r hr)
  show (if primeD (.int g) = false then some 0 else if fromD (.int wd) 1 32 = false then some 1 else if fromD (.int n) 1 6 = false then some 2 else if tabE (datP rows) (.int n) (.int g) = false then some 3 else if fromD (.int e) 0 3 = false then some 4 else none) = none
  rw [show primeD (.int g) = true from G.hg, from_ok G.w0 G.w1, from_ok G.n0 G.n1, show tabE (datP rows) (.int n) (.int g) = true from tb, from_ok G.e0 G.e1]
  rfl
theorem risL_no {d : PyData} {ds : List PyData} {least lim : Int} (h : fromD d least (lim - 1) = false) : risL lim least (d :: ds) = false := by
  unfold risL
  rw [h, Bool.false_and]
theorem risL_yes {j : Int} {ds : List PyData} {least lim : Int} (h : fromD (.int j) least (lim - 1) = true) : risL lim least (.int j :: ds) = risL lim (j + 1) ds := by
  show (fromD (.int j) least (lim - 1) && risL lim (j + 1) ds) = _
  rw [h, Bool.true_and]
theorem ris_ints {lim : Int} : ∀ {ks : List Int} {least : Int}, risL lim least (ks.map PyData.int) = true ↔ (∀ k ∈ ks, least ≤ k ∧ k < lim) ∧ ks.Pairwise (· < ·)
  | [], _ => by simp [risL]
  | k :: ks, least => by
    show (fromD (.int k) least (lim - 1) && risL lim (k + 1) (ks.map PyData.int)) = true ↔ _
    rw [Bool.and_eq_true, from_iff, ris_ints, List.pairwise_cons]
    constructor
    · rintro ⟨⟨i, e, h1, h2⟩, h3, h4⟩
      cases e
      refine ⟨fun x hx => ?_, fun x hx => ?_, h4⟩
      · rcases List.mem_cons.mp hx with rfl | hx
        · exact ⟨h1, by omega⟩
        · have := h3 x hx
          omega
      · have := h3 x hx
        omega
    · rintro ⟨h1, h2, h3⟩
      have hk := h1 k List.mem_cons_self
      refine ⟨⟨k, rfl, hk.1, by omega⟩, fun x hx => ?_, h3⟩
      have := h1 x (List.mem_cons_of_mem _ hx)
      have := h2 x hx
      omega
end SH
namespace SH
open PySem DL
open K00 (isP isPr)
/-! ### sums of products -/
def combF (p f : Int) (xs ys : List Int) : List Int := List.zipWith (fun x y => (x + f * y) % p) xs ys
def prodF (p : Int) : List Int → List Int → List (List Int) → List Int
  | t, r :: rs, c :: cs => prodF p (combF p r t c) rs cs
  | t, _, _ => t
def zeros (n : Int) : List Int := List.replicate n.toNat 0
def timesF (p many : Int) (m cs : List (List Int)) : List (List Int) := m.map fun r => prodF p (zeros many) r cs
theorem pairs_ints : ∀ (xs ys : List Int), pairsOf (xs.map PyData.int) (ys.map PyData.int) = List.zipWith (fun x y => PyData.tuple [.int x, .int y]) xs ys
  | [], _ => by simp [pairsOf]
  | _ :: _, [] => by simp [pairsOf]
  | x :: xs, y :: ys => by
    show PyData.tuple [.int x, .int y] :: pairsOf (xs.map PyData.int) (ys.map PyData.int) = _
    rw [pairs_ints xs ys]
    rfl
def combG (p f : Int) : PyData → PyData
  | .tuple [.int x, .int y] => .int ((x + f * y) % p)
  | _ => .none
theorem map_comb (p f : Int) : ∀ (xs ys : List Int), (List.zipWith (fun x y => PyData.tuple [.int x, .int y]) xs ys).map (combG p f) = (combF p f xs ys).map PyData.int
  | [], _ => by simp [combF]
  | _ :: _, [] => by simp [combF]
  | x :: xs, y :: ys => by
    have := map_comb p f xs ys
    show PyData.int ((x + f * y) % p) :: (List.zipWith (fun x y => PyData.tuple [.int x, .int y]) xs ys).map (combG p f) = _
    rw [this]
    rfl
theorem mem_pairs {xs ys : List Int} {d : PyData} (h : d ∈ pairsOf (xs.map PyData.int) (ys.map PyData.int)) : ∃ x y, d = .tuple [.int x, .int y] ∧ x ∈ xs ∧ y ∈ ys := by
  rw [pairs_ints] at h
  induction xs generalizing ys with
  | nil => simp at h
  | cons x xs ih =>
    cases ys with
    | nil => simp at h
    | cons y ys =>
      rw [List.zipWith_cons_cons] at h
      rcases List.mem_cons.mp h with rfl | h
      · exact ⟨x, y, rfl, List.mem_cons_self, List.mem_cons_self⟩
      · obtain ⟨a, b, e, h1, h2⟩ := ih h
        exact ⟨a, b, e, List.mem_cons_of_mem _ h1, List.mem_cons_of_mem _ h2⟩
theorem combF_len (p f : Int) (xs ys : List Int) : (combF p f xs ys).length = min xs.length ys.length := List.length_zipWith ..
theorem prodF_nil (p : Int) (t rs : List Int) : prodF p t rs [] = t := by
  cases rs <;> rfl
def intsOf : List PyData → List Int
  | [] => []
  | .int i :: ds => i :: intsOf ds
  | _ :: ds => intsOf ds
theorem intsOf_map : ∀ ns : List Int, intsOf (ns.map PyData.int) = ns
  | [] => rfl
  | n :: ns => congrArg (n :: ·) (intsOf_map ns)
theorem rep_one (n : Nat) : (List.replicate n [PyData.int 0]).flatten = (List.replicate n (0 : Int)).map PyData.int := by
  induction n with
  | zero => rfl
  | succ n ih => rw [List.replicate_succ, List.flatten_cons, ih, List.replicate_succ]; rfl
/-! ### slices -/
theorem cutD_to (xs : List PyData) (k : Nat) : cutD xs none (some (k : Int)) = xs.take k := by
  unfold cutD
  rw [HT.sIx_none, show HT.sIx xs.length xs.length (some (k : Int)) = min k xs.length from HT.sIx_nat xs.length _ k, List.drop_zero, Nat.sub_zero]
  by_cases h : k ≤ xs.length
  · rw [Nat.min_eq_left h]
  · rw [Nat.min_eq_right (by omega), List.take_length, List.take_of_length_le (by omega)]
theorem cutD_from (xs : List PyData) (k : Nat) : cutD xs (some (k : Int)) none = xs.drop k := by
  unfold cutD
  rw [HT.sIx_none, show HT.sIx xs.length 0 (some (k : Int)) = min k xs.length from HT.sIx_nat xs.length _ k]
  by_cases h : k ≤ xs.length
  · rw [Nat.min_eq_left h, List.take_of_length_le (by rw [List.length_drop]; omega)]
  · rw [Nat.min_eq_right (by omega), List.drop_of_length_le (Nat.le_refl _), List.drop_of_length_le (by omega), List.take_nil]
/-! ### tables, losses, stories -/
def colF (rows : List (List Int)) (x : Int) (ks : List Int) : List Int := ks.map fun j => (rows.getD j.toNat []).getD x.toNat 0
def keptF (c : Nat) (ls : List Int) : List Int := ((List.range c).map fun i : Nat => (i : Int)).filter fun j => !ls.contains j
def dataD (d : PyData) (n wd g : Int) : Bool := match d with
  | .tuple ds => decide ((ds.length : Int) = n) && ds.all fun c => rowD c wd g
  | _ => false
/-- the first that is no cell -/
def firstBad (wd g : Int) : Nat → List PyData → Option Int
  | _, [] => none
  | i, d :: ds => if rowD d wd g = true then firstBad wd g (i + 1) ds else some i
def dataBad (d : PyData) (n wd g : Int) : Option Int := match d with
  | .tuple ds => if (ds.length : Int) = n then firstBad wd g 0 ds else some (-1)
  | _ => some (-1)
structure GoodD (g wd n : Int) (cs : List (List Int)) : Prop where
  len : (cs.length : Int) = n
  cell : ∀ c ∈ cs, (c.length : Int) = wd ∧ ∀ x ∈ c, 0 ≤ x ∧ x < g
theorem first_none {wd g : Int} : ∀ {ds : List PyData} {i : Nat}, (∀ d ∈ ds, rowD d wd g = true) → firstBad wd g i ds = none
  | [], _, _ => rfl
  | d :: ds, i, h => by
    show (if rowD d wd g = true then firstBad wd g (i + 1) ds else some (i : Int)) = none
    rw [if_pos (h d List.mem_cons_self)]
    exact first_none fun x hx => h x (List.mem_cons_of_mem _ hx)
theorem GoodD.row {g wd n : Int} {cs : List (List Int)} (D : GoodD g wd n cs) : ∀ d ∈ cs.map rowP, rowD d wd g = true := fun d hd => by
  obtain ⟨c, hc, rfl⟩ := List.mem_map.mp hd
  exact row_ok (D.cell c hc)
theorem GoodD.bad {g wd n : Int} {cs : List (List Int)} (D : GoodD g wd n cs) : dataBad (datP cs) n wd g = none := by
  show (if ((cs.map rowP).length : Int) = n then firstBad wd g 0 (cs.map rowP) else some (-1)) = none
  rw [List.length_map, if_pos D.len]
  exact first_none D.row
theorem GoodD.ok {g wd n : Int} {cs : List (List Int)} (D : GoodD g wd n cs) : dataD (datP cs) n wd g = true := by
  show (decide (((cs.map rowP).length : Int) = n) && (cs.map rowP).all fun c => rowD c wd g) = true
  rw [List.length_map, decide_eq_true D.len, Bool.true_and, List.all_eq_true]
  exact D.row
def comeL (c x : Int) (ds : List PyData) : Bool := ds.all fun d => match d with
  | .int s => decide (s < c) || decide (s = c + x)
  | _ => false
def comeD (d : PyData) (c n x : Int) : Bool := match d with
  | .tuple ds => risL (c + n) 0 ds && comeL c x ds
  | _ => false
def storyBad (d : PyData) (g wd n c : Int) : Option Int := match d with
  | .tuple [data, x, cell, came] => if dataD data n wd g = false then some 0 else match x with
    | .int i => if fromD (.int i) 0 (n - 1) = false then some 1 else if rowD cell wd g = false then some 2 else if comeD came c n i = false then some 3 else none
    | _ => some 1
  | _ => some (-1)
def setC (ds : List PyData) (x : Nat) (c : PyData) : List PyData := ds.take x ++ [c] ++ ds.drop (x + 1)
end SH
namespace SH
open PySem DL
theorem ris_row' {lim : Int} : ∀ {ds : List PyData} {least : Int}, risL lim least ds = true → ∃ ks : List Int, ds = ks.map PyData.int
  | [], _, _ => ⟨[], rfl⟩
  | d :: ds, least, h => by
    cases hf : fromD d least (lim - 1) with
    | false =>
      rw [risL_no hf] at h
      cases h
    | true =>
      obtain ⟨j, rfl, _, _⟩ := from_iff.mp hf
      rw [risL_yes hf] at h
      obtain ⟨ks, rfl⟩ := ris_row' h
      exact ⟨j :: ks, rfl⟩
theorem ris_row {lim : Int} {d : PyData} (h : risD d lim = true) : ∃ ks : List Int, d = rowP ks := by
  cases d with
  | tuple ds =>
    obtain ⟨ks, rfl⟩ := ris_row' (show risL lim 0 ds = true from h)
    exact ⟨ks, rfl⟩
  | _ => cases h
theorem ris_len' : ∀ {ks : List Int} {a b : Int}, (∀ k ∈ ks, a ≤ k ∧ k < b) → ks.Pairwise (· < ·) → a ≤ b → (ks.length : Int) ≤ b - a
  | [], a, b, _, _, h => by simp; omega
  | k :: ks, a, b, h, hp, _ => by
    have hk := h k List.mem_cons_self
    rw [List.pairwise_cons] at hp
    have := ris_len' (ks := ks) (a := k + 1) (b := b) (fun x hx => ⟨by have := hp.1 x hx; omega, (h x (List.mem_cons_of_mem _ hx)).2⟩) hp.2 (by omega)
    simp only [List.length_cons]
    omega
theorem ris_len {ks : List Int} {b : Nat} (h : ∀ k ∈ ks, 0 ≤ k ∧ k < (b : Int)) (hp : ks.Pairwise (· < ·)) : ks.length ≤ b := by
  have := ris_len' h hp (by omega)
  omega
end SH
namespace SH
open PySem DL L2
theorem at_nat {ds : List PyData} {i : Int} {j : Nat} {d : PyData} (h : i = j) (e : ds[j]? = some d) : atI ds i = some d := by
  subst h
  exact atI_nat e
theorem getD_at {α : Type} {l : List α} {i : Nat} {d : α} (h : i < l.length) : l.getD i d = l[i] := by
  rw [List.getD_eq_getElem?_getD, List.getElem?_eq_getElem h]
  rfl
theorem at_row {r : List Int} {i : Int} (h0 : 0 ≤ i) (h1 : i < r.length) : atI (r.map PyData.int) i = some (.int (r.getD i.toNat 0)) := by
  have h : i.toNat < r.length := by omega
  refine at_nat (j := i.toNat) (by omega) ?_
  rw [List.getElem?_map, List.getElem?_eq_getElem h, getD_at h]
  rfl
theorem at_rows {rows : List (List Int)} {i : Int} (h0 : 0 ≤ i) (h1 : i < rows.length) : atI (rows.map rowP) i = some (rowP (rows.getD i.toNat [])) := by
  have h : i.toNat < rows.length := by omega
  refine at_nat (j := i.toNat) (by omega) ?_
  rw [List.getElem?_map, List.getElem?_eq_getElem h, getD_at h]
  rfl
theorem getD_mem {α : Type} {l : List α} {i : Nat} {d : α} (h : i < l.length) : l.getD i d ∈ l := by
  rw [getD_at h]
  exact List.getElem_mem h
end SH
namespace SH
open PySem DL L2
def notIn (ls : List Int) : PyData → Bool
  | .int j => !ls.contains j
  | _ => false
theorem flat_ints (ls : List Int) : (ls.map PyData.int).all flatD = true := by
  rw [List.all_eq_true]
  intro d hd
  obtain ⟨i, _, rfl⟩ := List.mem_map.mp hd
  rfl
theorem any_in : ∀ (ls : List Int) (j : Int), ((ls.map PyData.int).any fun e => eqFD e (.int j)) = ls.contains j
  | [], _ => rfl
  | l :: ls, j => by
    rw [List.map_cons, List.any_cons, any_in ls j, List.contains_cons]
    congr 1
    show (l == j) = (j == l)
    rw [Bool.eq_iff_iff, beq_iff_eq, beq_iff_eq]
    exact eq_comm
theorem kept_eq (c : Nat) (ls : List Int) : (DL.intsFrom 0 c).filter (notIn ls) = (keptF c ls).map PyData.int := by
  unfold DL.intsFrom keptF
  rw [List.filter_map, List.filter_map, List.map_map]
  have e1 : (fun i : Nat => PyData.int (0 + (i : Int))) = fun i : Nat => PyData.int (i : Int) := by
    funext i
    rw [Int.zero_add]
  rw [e1]
  rfl
theorem kept_mem {c : Nat} {ls : List Int} {j : Int} (h : j ∈ keptF c ls) : 0 ≤ j ∧ j < c := by
  unfold keptF at h
  obtain ⟨h1, _⟩ := List.mem_filter.mp h
  obtain ⟨i, hi, rfl⟩ := List.mem_map.mp h1
  have := List.mem_range.mp hi
  omega
theorem kept_not {c : Nat} {ls : List Int} {j : Int} (h : j ∈ keptF c ls) : j ∉ ls := fun z => by
  have := (List.mem_filter.mp h).2
  rw [List.contains_iff_mem.mpr z] at this
  cases this
theorem kept_len (c : Nat) (ls : List Int) : (keptF c ls).length ≤ c := by
  unfold keptF
  refine Nat.le_trans (List.length_filter_le ..) ?_
  rw [List.length_map, List.length_range]
  exact Nat.le_refl _
end SH
namespace SH
open PySem DL L2
theorem ints_get {n i : Nat} (h : i < n) : (DL.intsFrom 0 n)[i]? = some (.int (0 + (i : Int))) := by
  unfold DL.intsFrom
  rw [List.getElem?_map, List.getElem?_range h]
  rfl
end SH
set_option maxHeartbeats 4000000
/-! in, not in, of data at any depth, in a list or a tuple; is True, is False -/
namespace ZM
open PySem PySem.Spec PyProof.Rows L2
def rInB (K : PySem.W.Frag) (neg : Bool) : R2 := fun x y H Q => ∃ (t : Bool) (a : Addr) (vs : List V) (d : PyData) (ds : List PyData), y = .ref a ∧ Dp K H x d ∧ SqB K t H a vs ∧ DpAll K H vs ds ∧ SeqAt.shaped d = true ∧ SeqAt.shaped (.tuple ds) = true ∧
  Q (.bl (if neg then !ds.any fun z => PyData.eqv z d else ds.any fun z => PyData.eqv z d)) H
theorem un0 {k : Nat} {A : Around} (r : Room k A) : A.units + 200 < cLine := by
  have := r.un
  omega
theorem shaped_lt {ds : List PyData} (h : SeqAt.shaped (.tuple ds) = true) : PyData.canLayAll0 ds = true := SeqAt.canLay_of_shaped h
section
variable {X : Cx}
theorem op_inB (hu : X.A.units + 65 < cLine) : OpR X (compareOp .In) (rInB X.K false) := by
  intro pins s σ H x y v u Q I rx ry h
  obtain ⟨t, a, vs, d, ds, rfl, hd, hs, he, sd, se, q⟩ := h
  obtain ⟨as, r1⟩ := Dp.reads I d x v hd rx
  have hroom := room_in_shaped (xs := ds) sd hu
  cases t
  · obtain ⟨bs, r2⟩ := Dp.reads I (.list ds) (.ref a) u (.lst hs he) ry
    exact SeqAt.in_list_reads r2 r1 (shaped_lt se) (SeqAt.canLay_of_shaped sd) hroom ⟨.bl _, H, I, rfl, q⟩
  · obtain ⟨bs, r2⟩ := Dp.reads I (.tuple ds) (.ref a) u (.tup hs he) ry
    exact SeqAt.in_tuple_reads r2 r1 (shaped_lt se) (SeqAt.canLay_of_shaped sd) hroom ⟨.bl _, H, I, rfl, q⟩
theorem op_notInB (hu : X.A.units + 65 < cLine) : OpR X (compareOp .NotIn) (rInB X.K true) := by
  intro pins s σ H x y v u Q I rx ry h
  obtain ⟨t, a, vs, d, ds, rfl, hd, hs, he, sd, se, q⟩ := h
  obtain ⟨as, r1⟩ := Dp.reads I d x v hd rx
  have hroom := room_in_shaped (xs := ds) sd hu
  cases t
  · obtain ⟨bs, r2⟩ := Dp.reads I (.list ds) (.ref a) u (.lst hs he) ry
    exact SeqAt.notIn_list_reads r2 r1 (shaped_lt se) (SeqAt.canLay_of_shaped sd) hroom ⟨.bl _, H, I, rfl, q⟩
  · obtain ⟨bs, r2⟩ := Dp.reads I (.tuple ds) (.ref a) u (.tup hs he) ry
    exact SeqAt.notIn_tuple_reads r2 r1 (shaped_lt se) (SeqAt.canLay_of_shaped sd) hroom ⟨.bl _, H, I, rfl, q⟩
theorem op_inBK {K : PySem.W.Frag} (h : X.K = K) (hu : X.A.units + 200 < cLine) : OpR X (compareOp .In) (rInB K false) := h ▸ op_inB (by omega)
theorem op_notInBK {K : PySem.W.Frag} (h : X.K = K) (hu : X.A.units + 200 < cLine) : OpR X (compareOp .NotIn) (rInB K true) := h ▸ op_notInB (by omega)
/-- x is b, x a truth value -/
def tIsB (neg b : Bool) (ta : TE) : TE := fun σ H Q => ta σ H fun x H1 => ∃ c, x = .bl c ∧ Q (.bl (if neg then c != b else c == b)) H1
theorem is_bool {M : Model} {A : Around} {E : Value → Shared → Prop} {s : Shared} {Q : Value → Shared → Prop} {c b : Bool} (h : Q (.bool (c == b)) s) : wpAny M A (compareOp .Is (.bool c) (.bool b)) Q E s := by
  cases c <;> cases b <;> exact wpAny_pure h
theorem isnot_bool {M : Model} {A : Around} {E : Value → Shared → Prop} {s : Shared} {Q : Value → Shared → Prop} {c b : Bool} (h : Q (.bool (c != b)) s) : wpAny M A (compareOp .IsNot (.bool c) (.bool b)) Q E s := by
  cases c <;> cases b <;> exact wpAny_pure h
theorem pc_isB {a : Expr} {ta : TE} {b : Bool} {j pos'} (ha : PE X a ta) : PC X .Is a (.Constant (.bool b) j pos') (tIsB false b ta) := by
  refine ⟨fun pins s σ H Q I h => ?_⟩
  refine thn (ha.run pins s σ H _ I h) fun v s1 hh => ?_
  obtain ⟨x, H1, I1, r1, c, rfl, q⟩ := hh
  cases r1
  exact Constant_bool (is_bool ⟨.bl _, H1, I1, rfl, q⟩)
theorem pc_notB {a : Expr} {ta : TE} {b : Bool} {j pos'} (ha : PE X a ta) : PC X .IsNot a (.Constant (.bool b) j pos') (tIsB true b ta) := by
  refine ⟨fun pins s σ H Q I h => ?_⟩
  refine thn (ha.run pins s σ H _ I h) fun v s1 hh => ?_
  obtain ⟨x, H1, I1, r1, c, rfl, q⟩ := hh
  cases r1
  exact Constant_bool (isnot_bool ⟨.bl _, H1, I1, rfl, q⟩)
end
end ZM
set_option maxHeartbeats 2000000
/-! the layer of data: in of data at any depth; is True, is False -/
namespace DL
open PySem PySem.Spec PyProof.Rows L2 LW GX LD
section
variable {Z : Wd} {M M' : AS} {env : Env} {σ : L2.St} {H H0 H1 H2 H' : Hp} {ta tb te : TE} {A B E : DE} {t : TA} {As : DAs}
def fInD (neg : Bool) : Env → R → R → (R → Prop) → Prop := fun env r1 r2 k => ∃ d, dataOf env r1 = some d ∧ ∃ ds, seqOf env r2 = some ds ∧ SeqAt.shaped d = true ∧ SeqAt.shaped (.tuple ds) = true ∧ k (.v (.bool (if neg then !ds.any fun z => PyData.eqv z d else ds.any fun z => PyData.eqv z d)))
theorem od_inD {neg : Bool} : OpD Z (ZM.rInB Z.K neg) (fInD neg) :=
  ⟨fun _ _ _ _ _ h ⟨i, e1, j, e2, c, c2, q⟩ => ⟨i, e1, j, e2, c, c2, h _ q⟩, fun M env σ H0 H x y r1 r2 Q S v1 v2 ⟨d, e1, ds, e2, c, c2, q⟩ => by
    have e2 : (match dataOf env r2 with | some (.tuple ds) => some ds | some (.list ds) => some ds | _ => none) = some ds := e2
    cases z : dataOf env r2 with
    | none => rw [z] at e2; cases e2
    | some d2 =>
      rw [z] at e2
      cases d2 with
      | tuple es =>
        cases e2
        obtain ⟨a, vs, rfl, hx, dx⟩ := v2.tup z
        exact ⟨true, a, vs, d, _, rfl, v1.dp S e1 (shaped_nd c), hx, dx.dp (shaped_nd c2), c, c2, q _ _ S.stay (Da.bl _)⟩
      | list es =>
        cases e2
        obtain ⟨a, vs, rfl, hx, dx⟩ := v2.seq S z
        exact ⟨false, a, vs, d, _, rfl, v1.dp S e1 (shaped_nd c), hx, dx.dp (shaped_nd c2), c, c2, q _ _ S.stay (Da.bl _)⟩
      | _ => cases e2⟩
def dIsB (neg b : Bool) (A : DE) : DE := fun env k => A env fun r => ∃ c, r = .v (.bool c) ∧ k (.v (.bool (if neg then c != b else c == b)))
theorem re_isB {neg b : Bool} (ha : RE Z ta A) : RE Z (ZM.tIsB neg b ta) (dIsB neg b A) :=
  ⟨fun env K K' h q => ha.mono env _ _ (fun r ⟨c, e, q⟩ => ⟨c, e, h _ q⟩) q, fun M env σ H Q S h => ha.run M env σ H _ S (ha.mono env _ _ (fun r ⟨c, e, q⟩ v H' k hv => by
    subst e
    exact ⟨c, hv.bl, q _ _ k (Da.bl _)⟩) h)⟩
end
end DL
set_option maxHeartbeats 4000000
/-! a lambda handed to a def: nothing but its own table is written -/
namespace LM
open PySem PySem.Spec PyProof.Rows L2 LamX LD
/-- but the table at P all is as it was -/
def ButP (P : Addr) (H H' : Hp) : Prop := ∀ b o, b ≠ P → H b = some o → H' b = some o
section
variable {X : Cx} {pins : List (Addr × Obj)} {σ : L2.St} {H : Hp} {s : Shared}
theorem lam_make3 {T : List (Addr × Str)} {c P : Addr} {params : Arguments} {body : Expr} {scope : Scope} {pos : Pos} {E Q : Value → Shared → Prop} (I : Inv X pins σ H s) (B : LamX.TabB X.base X.mg c P) (ec : X.env.code = .ref c)
    (hm : (P, X.env.qual ++ "<lambda>") ∈ T) (hu : ∀ p ∈ T, p.1 = P → p.2 = X.env.qual ++ "<lambda>") (hT : Tabs T H) (hdef : defaultsOf params X.env = ([], [])) (hfree : ∀ y ∈ scope.names, y.2 = .free → ∃ c, X.env.cells.lookup y.1 = some c)
    (h : ∀ (f c' : Addr) (pm ctv : Value) (H1 : Hp) (s' : Shared), Inv X pins σ H1 s' → ButP P H H1 → Tabs T H1 →
      s'.heap.get? f = some (PySem.W.kla_obj "<lambda>" (X.env.qual ++ "<lambda>") params body scope (cloFrom X.env.cells scope.names []) pm c' ctv) → H1 f = none → f ∉ frs X.stack → H1 c' = some (CodeO c' (X.env.qual ++ "<lambda>")) → Q (.ref f) s') :
    wpAny (model X.prog X.w) X.A (eval (.Lambda params body scope pos) X.env) Q E s := by
  obtain ⟨ps, eP, ok, al⟩ := hT _ hm
  refine PySem.W.kla_eval hdef ?_
  have bP : s.heap.BuiltinsAt X.mg P := B.bm.keeps I.bk
  have gP : s.heap.get? P = some { cls := .none, data := .fields ps } := I.hok P _ eP
  have nfr : ∀ f, s.heap.objs.size ≤ f → f ∉ frs X.stack := fun f hf z => by
    rcases List.mem_cons.mp (I.stkSub _ z) with e | e
    · have w := I.lt
      rw [← e] at w
      exact absurd hf (Nat.not_le_of_lt w)
    · exact I.nofs hf e
  cases hc : codeAmong pos ps.toList with
  | none =>
    refine PySem.W.kla_makeFunction (mg := X.mg) (c := c) (P := P) (ps := ps) (closure_ok hfree) I.ok.glob (I.mod.glob.keeps I.bk) ec (B.code.keeps I.bk) gP ok hc B.gP bP fun c' ctv h' tk hx hge hlt hrec htb => ?_
    obtain ⟨c2, oc, vs, t, e2, hoc, hd, hv⟩ := hrec
    cases e2
    have hsz : s.heap.objs.size ≤ h'.objs.size := Nat.le_trans hge (Nat.le_of_lt hlt)
    have nC : H c' = none := I.hok.fresh hge
    have I1 := inv_table (t' := tk) (more := #[rawInt pos.line, rawInt pos.col, .ref c']) (h' := h'.push (PySem.W.kla_obj "<lambda>" (X.env.qual ++ "<lambda>") params body scope (cloFrom X.env.cells scope.names []) ((X.mg "__name__").getD .none) c' ctv)) I eP
      (fun b o hb e => Heap.get?_push_of_some _ (hx b o hb e)) (Heap.get?_push_of_some _ htb) hge ⟨oc, vs, t, Heap.get?_push_of_some _ hoc, hd, hv⟩
    have kb : ButP P H (upd (upd H P (.tbl (ps ++ #[rawInt pos.line, rawInt pos.col, .ref c']))) c' (CodeO c' (X.env.qual ++ "<lambda>"))) := fun b o n e => by
      rw [upd_ne (ne_of_none e nC), upd_ne n]
      exact e
    have eL : (ps ++ #[rawInt pos.line, rawInt pos.col, .ref c']).toList = ps.toList ++ [rawInt pos.line, rawInt pos.col, .ref c'] := by simp
    refine h h'.objs.size c' ((X.mg "__name__").getD .none) ctv _ _ I1 kb (fun p hp => ?_) (Heap.get?_push_size _ rfl) ?_ (nfr _ hsz) upd_same
    · by_cases hb : p.1 = P
      · rw [hu p hp hb, hb]
        refine ⟨_, by rw [upd_ne (ne_of_none eP nC), upd_same], by rw [eL]; exact PySem.TriplesOk_snoc _ _ _ _ ok, fun p' cv hcv => ?_⟩
        rw [eL] at hcv
        rcases among_app _ ok hcv with z | z
        · obtain ⟨c0, e1, e2⟩ := al p' cv z
          exact ⟨c0, e1, kb _ _ (fun w => by rw [w, eP] at e2; exact codeO_ne ps (Option.some.inj e2).symm) e2⟩
        · exact ⟨c', z, upd_same⟩
      · obtain ⟨ps', a1, a2, a3⟩ := hT p hp
        refine ⟨ps', by rw [upd_ne (ne_of_none a1 nC), upd_ne hb]; exact a1, a2, fun p' cv hcv => ?_⟩
        obtain ⟨c0, e1, e2⟩ := a3 p' cv hcv
        exact ⟨c0, e1, kb _ _ (fun w => by rw [w, eP] at e2; exact codeO_ne ps (Option.some.inj e2).symm) e2⟩
    · have n1 : h'.objs.size ≠ c' := Nat.ne_of_gt hlt
      have n2 : h'.objs.size ≠ P := Nat.ne_of_gt (Nat.lt_of_lt_of_le (Heap.lt_size gP) hsz)
      rw [upd_ne n1, upd_ne n2]
      exact I.hok.fresh hsz
  | some cv =>
    obtain ⟨c', e, hco⟩ := al pos cv hc
    subst e
    refine PySem.W.kla_makeFunctionHit (mg := X.mg) (c := c) (P := P) (ps := ps) (closure_ok hfree) I.ok.glob (I.mod.glob.keeps I.bk) ec (B.code.keeps I.bk) gP ok hc bP fun ctv h' tk hx hsz => ?_
    have I1 : Inv X pins σ H { s with heap := h'.push (PySem.W.kla_obj "<lambda>" (X.env.qual ++ "<lambda>") params body scope (cloFrom X.env.cells scope.names []) ((X.mg "__name__").getD .none) c' ctv), toks := tk } := I.kept fun b o e => Heap.get?_push_of_some _ (hx b o e)
    exact h h'.objs.size c' ((X.mg "__name__").getD .none) ctv H _ I1 (fun _ _ _ e => e) hT (Heap.get?_push_size _ rfl) (I.hok.fresh hsz) (nfr _ hsz) hco
end
def tLam3 (T : List (Addr × Str)) (P : Addr) (TT : (XK → Hp → VK → Prop) → Hp → VK → Prop) (t : XK → TE) : TE := fun σ H Q => Tabs T H ∧ ∀ H1, ButP P H H1 → Tabs T H1 → TT (fun E H' Q' => t E σ H' Q') H1 Q
section
variable {X : Cx}
/-- x(lambda: body) -/
theorem pe_lamcall3 {T : List (Addr × Str)} {TT : (XK → Hp → VK → Prop) → Hp → VK → Prop} {x a : Str} {g c P : Addr} {k : Nat} {pg : Arguments} {bg : List Stmt} {sg : Scope} {dV kV doc pm cdv ct oc : Value} {an od : Option Addr} {osl : Array (Option Value)} {Ng : List Str}
    {params : Arguments} {body : Expr} {scope : Scope} {t : XK → TE} {p lpos pos : Pos} (hg : Gl X x) (hm : X.mg x = some (.ref g)) (hk : PySem.W.keepIn X.K (.ref g) = true)
    (lk : X.K.lookup g = some ⟨oc, od, .func (PySem.W.fnOf x x pg bg sg dV kV doc pm an cdv ct), osl⟩) (hcg : PySem.W.codeIn X.K cdv x = true) (hb : L2.Binds X.K (PySem.W.fnOf x x pg bg sg dV kV doc pm an cdv ct) [a] []) (Sg : FnScope Ng [a] sg) (hNg : Ng[0]? = some a) (hva : Vis sg a)
    (hG : GivesTo X Ng x sg g cdv bg a (X.env.qual ++ "<lambda>") TT)
    (B : LamX.TabB X.base X.mg c P) (ec : X.env.code = .ref c) (hmT : (P, X.env.qual ++ "<lambda>") ∈ T) (hu : ∀ p ∈ T, p.1 = P → p.2 = X.env.qual ++ "<lambda>") (hr : Room (k + 2) X.A) (L : LamS X.env.scope scope) (hdef : defaultsOf params X.env = ([], []))
    (hbind : ∀ (q : Str) (cl : List (Str × Addr)) (pm cv ctv : Value), bindArgs (PySem.W.kla_fn "<lambda>" q params body scope cl pm cv ctv) ⟨[], []⟩ = pure [])
    (hbody : ∀ (A : Around) (outer : List Env) (s : Shared) (H : Hp) (E : XK) (f c' : Addr), Room k (A.deeper (lamEnv X scope s.heap.objs.size f c')) → PE (lamCx X A outer s H E scope f c') body (t E))
    (hdb : (x == ("__debug__" : Str)) = false := by decide) (hd : (a == ("__debug__" : Str)) = false := by decide) (hcd : (a == ("__classdict__" : Str)) = false := by decide) :
    PE X (.Call (.Name x p) [.Lambda params body scope lpos] [] pos) (tLam3 T P TT t) := by
  refine ⟨fun pins s σ H Q I h => ?_⟩
  obtain ⟨hT, h⟩ := h
  refine wpAny_Call_Name_kw (ld_glob I hg hm ?_ hdb)
  refine PySem.W.callWith_K (h₀ := X.base) I.ok.mod.kin hk ?_ (by rfl) (by rfl)
  show wpAny _ _ (spliced ((false, eval (.Lambda params body scope lpos) X.env) :: backTo pos (starEach [] X.env))) _ _ s
  refine Calls.spliced_cons (lam_make3 I B ec hmT hu hT hdef (L.has I.ok) fun f c' pm' ctv H1 s' I1 eN T1 hf hfn hfr hco => Calls.spliced_nil ⟨I1.kIn, ?_⟩)
  have rc : codeAny (model X.prog X.w) X.A (.call (.ref g) ⟨[.ref f], []⟩) (CR C8.CX0 X.stack X.prog X.w H1 s' Q C8.E0) s' :=
    run_ofS (N := Ng) (ps := [a]) (us := [.ref f]) (vs := [.ref f]) lk hcg Sg hr I1.env0 (hb s' [.ref f] I1.kIn rfl) (.cons rfl .nil) rfl fun hr' => by
      obtain ⟨t', ht', hq'⟩ := hG f c' s' H1 Q (fun E H' Q' => t E σ H' Q') (fun W pn xe E p1 p2 tk hW => pe_act (i := 0) I1 L hf hfn hfr (hbind _ _ _ _ _) tk hW hr' (fun A outer s H hr2 => hbody A outer s H E f c' hr2) hNg hva hd hcd) hco (h H1 eN T1)
      exact ⟨t', ht'.nox, hq'⟩
  refine wpAny_call (codeAny_mono rc fun r s2 hq => ?_)
  cases r with
  | error e => exact (show False from hq).elim
  | ok fl =>
    cases fl with
    | ret u => exact I1.after hq
    | next => exact False.elim hq
    | brk => exact False.elim hq
    | cont => exact False.elim hq
end
end LM
set_option maxHeartbeats 4000000
/-! except (A, B): without a name; the error that a suite holds: its class, its field, whatever class it has -/
namespace TT
open PySem PySem.Spec PyProof.Rows L2 GenW
theorem exm_two {M : Model} {K : PySem.W.Frag} {c1 c2 cls : Value} {tp e : Addr} {b : Bool} {h : Heap} (X : K.In h) (LT : PySem.W.Looks M h (typeOf (.ref e)) cls) (hp : h.get? tp = some { cls := .type "tuple", data := .seq [c1, c2].toArray }) (hx : PySem.W.exmAny K cls [c1, c2] = some b) :
    PySem.W.Looks M h (excMatches (.ref e) (.ref tp)) b := PySem.W.exm_tup2 X LT hp hx
theorem fly_keep {base h h' : Heap} {l : List Env} {e : Addr} {Z : Obj → Prop} (x : HandSPX.FlyingZ base l e Z h) (k : ∀ b o, h.get? b = some o → h'.get? b = some o) : HandSPX.FlyingZ base l e Z h' := by
  obtain ⟨f1, f2, f3, oe, vs, T, oT, ts, he, hz, hd, h1, hn, hT, gT, dT, h3⟩ := x
  exact ⟨fun b o q => k b o (f1 b o q), f2, f3.of_keeps (fun b o q _ => ⟨o, k b o q, rfl⟩), oe, vs, T, oT, ts, k _ _ he, hz, hd, h1, hn, hT, k _ _ gT, dT, h3⟩
/-- what the clause wishes: one of the two takes it -/
def wTwo (K : PySem.W.Frag) (c1 c2 : Value) (ts : Addr → Value → Option Addr → TS) (D : Ends) : WX := fun cls d σ H => PySem.W.exmAny K cls [c1, c2] = some true ∧ ∀ a, H a = none → ts a cls d D σ H
section
variable {X : Cx} {x1 x2 : Str} {c1 c2 : Value} {body suite : List Stmt} {b₀ : Stmt} {n1 n2 tpos pos' pos : Pos} {kk : Nat} {tb : WX → TS} {ts : Addr → Value → Option Addr → TS}
theorem ps_try_two (hs : X.stack = X.env :: X.outer) (hf : X.env.frame = some X.env.locals) (g1 : Gl X x1) (m1 : X.mg x1 = some c1) (g2 : Gl X x2) (m2 : X.mg x2 = some c2) (d1 : (x1 == ("__debug__" : Str)) = false) (d2 : (x2 == ("__debug__" : Str)) = false)
    (hb : ∀ (W : WX) (pn : List (Addr × Obj)) (xe : Value → Shared → Prop), Takes (X.tr pn xe) W → PassesOwn (model X.prog X.w) X.A X.env xe → PSs (X.tr pn xe) body (tb W))
    (hsu : ∀ (a : Addr) (oe : Obj) (cls : Value) (d : Option Addr) (pn : List (Addr × Obj)), Zc cls d oe → (∃ vs, oe.data = .fields vs) → PSs (X.suite a ((a, oe) :: pn)) (b₀ :: suite) (ts a cls d)) :
    PS X (.Try body [.ExceptHandler (some (.Tuple [.Name x1 n1, .Name x2 n2] kk tpos)) none (b₀ :: suite) pos'] [] [] pos) (fun D σ H => tb (wTwo X.K c1 c2 ts D) D σ H) := by
  refine ⟨fun pins s σ H D I h => wpAny_Try_except ?_⟩
  have hfr : X.A.frames = some (X.env :: X.outer) := I.ok.frames.trans (congrArg some hs)
  let catcher : Value → Shared → Prop := fun e s₁ => wpAny (model X.prog X.w) X.A (noteFrame e X.env) (fun _ s₂ => wpAny (model X.prog X.w) X.A (setFlight e none) (fun _ s₃ =>
    wpAny (model X.prog X.w) X.A (handleBy e X.env [.ExceptHandler (some (.Tuple [.Name x1 n1, .Name x2 n2] kk tpos)) none (b₀ :: suite) pos']) (SP X pins D) X.xe s₃) X.xe s₂) X.xe s₁
  have tk : Takes (X.tr (X.pn ++ pins) catcher) (wTwo X.K c1 c2 ts D) := by
    rintro u s' ⟨a, B, sI, pins', σ', H', cls, d, rfl, J', nb, up, sky, na, os, ag, hcls, go⟩
    have J := J'.ofTry I.ok
    have sky2 : Sky B (X.env :: X.outer) a (Zc cls d) X.env.locals s'.heap := by
      rw [← hs]
      exact sky
    show wpAny (model X.prog X.w) X.A (noteFrame (.ref a) X.env) _ _ _
    refine Sky.land Zc.steady hfr hf sky2 fun hA flA upA => ?_
    have out : ∀ (h : Heap), HandSPX.FlyingZ B (X.env :: X.outer) a (Zc cls d) h → s'.heap.UpToSlots h →
        ∃ (oe : Obj), h.get? a = some oe ∧ Zc cls d oe ∧ (∃ vs, oe.data = .fields vs) ∧ Inv X pins σ' H' { s' with heap := h } ∧ Inv (X.suite a ((a, oe) :: (X.pn ++ pins))) [] σ' H' { s' with heap := h } := by
      intro h fl hup
      have Jh : Inv X pins σ' H' { s' with heap := h } := J.landed nb fl.1 (up.trans hup) os ag
      obtain ⟨oe, vs, he, hz, hd⟩ := fl.there
      have nfr : a ∉ frs (X.env :: X.outer) := fun hm => by
        obtain ⟨_, o, ho, hno⟩ := fl.2.2.1.mem hm
        cases he.symm.trans ho
        exact hno vs hd
      have nF : a ∉ X.fs := fun hm => by
        obtain ⟨y, hy, q⟩ := List.mem_filterMap.mp hm
        exact nfr (List.mem_filterMap.mpr ⟨y, List.mem_cons_of_mem _ hy, q⟩)
      have nL : a ≠ X.env.locals := fun z => nfr (List.mem_filterMap.mpr ⟨X.env, List.mem_cons_self, by rw [hf, z]⟩)
      exact ⟨oe, he, hz, ⟨vs, hd⟩, Jh, Jh.suite he hd na nL nF⟩
    obtain ⟨oA, heA, hzA, _, JA, SA⟩ := out hA flA upA
    refine wpAny_handleBy_cons (codeAny_handlers_test ?_) (by intro q; cases q)
    have kP : ∀ b o, hA.get? b = some o → (hA.push { cls := .type "tuple", data := .seq [c1, c2].toArray }).get? b = some o := fun b o e => Heap.get?_push_of_some _ e
    have flP := fly_keep flA kP
    have upP : s'.heap.UpToSlots (hA.push { cls := .type "tuple", data := .seq [c1, c2].toArray }) := upA.trans (Heap.UpToSlots.of_keeps kP)
    have isIt := exm_two (M := model X.prog X.w) (e := a) (tp := hA.objs.size) (fun b o e => kP b o (JA.kIn b o e)) (fun _ _ _ _ k q => wpAny_typeOf_ref (k _ _ (kP _ _ heA)) (by rw [hzA.1]; exact q)) (Heap.get?_push_size _ rfl) hcls
    have named : ∀ {R E' : Value → Shared → Prop}, R (.ref hA.objs.size) { s' with heap := hA.push { cls := .type "tuple", data := .seq [c1, c2].toArray } } → wpAny (model X.prog X.w) (X.A.mark (some (.ref a))) (eval (.Tuple [.Name x1 n1, .Name x2 n2] kk tpos) X.env) R E' { s' with heap := hA } := by
      intro R E' q
      refine wpAny_Tuple_spliced ?_
      refine Calls.spliced_cons (ld_glob (X := X.suite a ((a, oA) :: (X.pn ++ pins))) SA g1 m1 ?_ d1)
      refine Calls.spliced_cons (ld_glob (X := X.suite a ((a, oA) :: (X.pn ++ pins))) SA g2 m2 ?_ d2)
      exact Calls.spliced_nil ⟨by show 2 ≤ sizeLine; decide, q⟩
    refine named (isIt.here (codeAny_handlers_suite ?_))
    refine HandSPX.lands_againZ flP fun hB flB upB => ?_
    obtain ⟨oB, heB, hzB, hfB, _, SB⟩ := out hB flB (upP.trans upB)
    refine wpAny_mono ((hsu a oB cls d (X.pn ++ pins) hzB hfB).run [] _ σ' H' D SB (go a na)) (fun f s6 hsp => ?_) (fun _ _ z => z.elim)
    cases f with
    | ret u =>
      obtain ⟨v6, σ6, H6, S6, r6, q6⟩ := hsp
      exact ⟨v6, _, _, S6.unsuite I.ok, r6, q6⟩
    | next =>
      obtain ⟨σ6, H6, S6, q6⟩ := hsp
      exact ⟨_, _, S6.unsuite I.ok, q6⟩
    | brk =>
      obtain ⟨σ6, H6, S6, q6⟩ := hsp
      exact ⟨_, _, S6.unsuite I.ok, q6⟩
    | cont =>
      obtain ⟨σ6, H6, S6, q6⟩ := hsp
      exact ⟨_, _, S6.unsuite I.ok, q6⟩
  refine wpAny_mono ((hb _ (X.pn ++ pins) catcher tk PassesOwn.looking).run [] s σ H D (I.toTry _) h) (fun f s1 hsp => ?_) (fun e s1 he => he)
  cases f with
  | ret u =>
    obtain ⟨v, σ', H', J', r, q⟩ := hsp
    exact ⟨v, σ', H', J'.ofTry I.ok, r, q⟩
  | next =>
    obtain ⟨σ', H', J', q⟩ := hsp
    exact wpAny_execs_nil ⟨σ', H', J'.ofTry I.ok, q⟩
  | brk =>
    obtain ⟨σ', H', J', q⟩ := hsp
    exact ⟨σ', H', J'.ofTry I.ok, q⟩
  | cont =>
    obtain ⟨σ', H', J', q⟩ := hsp
    exact ⟨σ', H', J'.ofTry I.ok, q⟩
end
/-- isinstance(error, c), error the one that the suite holds, of any class -/
def rIsA (K : PySem.W.Frag) (a : Addr) (cls : Value) (d : Option Addr) : List V → Hp → VK → Prop := fun xs H Q => ∃ (C : Addr) (c : V) (cv : Value) (b : Bool) (dd : Addr) (fs : List (Str × V)), ExcC K C ∧ xs = [.ref a, c] ∧ cls = .ref C ∧ d = some dd ∧ H dd = some (.xd fs) ∧
  (∀ u, RelV c u → u = cv) ∧ PySem.W.kitOne K (.ref C) cv = some b ∧ Q (.bl b) H
theorem call_isA {X : Cx} {a : Addr} {oe : Obj} {cls : Value} {d : Option Addr} {pn : List (Addr × Obj)} (hz : Zc cls d oe) (hf : ∃ vs, oe.data = .fields vs) : CallR (X.suite a ((a, oe) :: pn)) (.builtin "isinstance") (rIsA X.K a cls d) := by
  rintro pins s σ H xs us Q I r ⟨C, c, cv, b, dd, fs, T, q⟩
  exact GX.call_isX T hz hf pins s σ H xs us Q I r ⟨c, cv, b, dd, fs, q⟩
/-- error.n -/
def tXa (K : PySem.W.Frag) (a : Addr) (cls : Value) (d : Option Addr) (n : Str) (te : TE) : TE := fun σ H Q => te σ H fun x H1 => ∃ (C dd : Addr) (fs : List (Str × V)) (v : V), XfC K C ∧ PySem.W.findIn K (.ref C) n = some none ∧ x = .ref a ∧ cls = .ref C ∧ d = some dd ∧ H1 dd = some (.xd fs) ∧ fs.lookup n = some v ∧ Q v H1
theorem pe_xa {X : Cx} {a : Addr} {oe : Obj} {cls : Value} {d : Option Addr} {pn : List (Addr × Obj)} {e : Expr} {te : TE} {pos : Pos} {n : Str} (hz : Zc cls d oe) (hf : ∃ vs, oe.data = .fields vs) (he : PE (X.suite a ((a, oe) :: pn)) e te)
    (hb : attributeBase e n X.env (eval e X.env) = eval e X.env := by rfl) : PE (X.suite a ((a, oe) :: pn)) (.Attribute e n pos) (tXa X.K a cls d n te) := by
  refine ⟨fun pins s σ H Q I h => attr_of hb (thn (he.run pins s σ H _ I h) fun u s1 hh => ?_)⟩
  obtain ⟨x, H1, I1, rx, C, dd, fs, v, T, no, rfl, rfl, rfl, ea, l, q⟩ := hh
  obtain rfl : u = Value.ref a := rx
  obtain ⟨ha, _⟩ := I1.pin (a, oe) (List.mem_append_left _ List.mem_cons_self)
  obtain ⟨vs, hd⟩ := hf
  obtain ⟨mA, hns, hr⟩ := show ObjOk X.prog X.w H1 s1.heap dd (.xd fs) from I1.hok dd _ ea
  obtain ⟨od, ho, hl⟩ := lookIn_ns hns
  obtain ⟨u, hu, ru⟩ := RelO.some_of (v := v) (o := mA n) (l ▸ hr n)
  have J : PySem.W.InstAt s1.heap a oe C (some od) := ⟨ha, hz.1, by unfold PySem.W.notCls; rw [hd] <;> rfl, by rw [hz.2]; exact ho⟩
  exact HandSPX.exc_get I1.kIn J T.ga T.gg T.exC (PySem.W.findObj_own T.hdC no rfl (by rw [hl, hu])) (handed_of ru) ⟨v, H1, I1.tok _, ru, q⟩
end TT
set_option maxHeartbeats 2000000
/-! the layer of data: a call that may raise, what it raises told to whom it concerns; a lambda handed to a def -/
namespace DL
open PySem PySem.Spec PyProof.Rows L2 LW GX LD
section
variable {Z : Wd} {M M' : AS} {env : Env} {σ : L2.St} {H H0 H1 H2 H' : Hp} {t : TA} {As : DAs}
theorem call_goS {m : Pm} {K : PySem.W.Frag} {Ts : List Addr} {Tl : List (Addr × Str)} {E : XK} {Q : VK} (hK : Z.K = K) (hT : Z.Ts = Ts) (hL : Z.Tl = Tl) (ha : RA Z t As) (S : Sat Z M env σ H)
    (h : As env fun rs => ∃ as, argRs env rs = some as ∧ oneP as = true ∧ ∃ (k0 : R → Prop) (x0 : Addr → PyData → Prop), (∀ r, k0 r → ∀ v H', Step Z env σ H H' → Val Z M env σ H H' v r → Q v H') ∧
      (∀ C d, x0 C d → ∀ v dd fs H', Step Z env σ H H' → H' dd = some (.xd fs) → fs.lookup ("what" : Str) = some v → Da K M H' v d → E (.ref C) (some dd) H') ∧ m as k0 x0) : tCallS (spD K Ts Tl m) (WE fun cls d _ H => E cls d H) t σ H Q := by
  subst hK hT hL
  refine ha.run M env σ H _ S (ha.mono env _ _ (fun rs w vs H' k hv => ?_) h)
  obtain ⟨as, e, o, k0, x0, hk, hx, hm⟩ := w
  have S' := S.same k
  obtain ⟨az, pz⟩ := argz_of S k hv (fun _ h => h) e
  have st : ∀ {H2 : Hp}, Kp (· ∈ plOf vs as) H' H2 → (∀ p ∈ plOf vs as, Pl H2 p) → TB Z.Ts Z.Tl H2 → Step Z env σ H' H2 := fun {H2} kp hp tb => ⟨kp.mono pz, fun a z => by
    by_cases w : a ∈ plOf vs as
    · exact hp a w
    · obtain ⟨x, y, a1, a2, a3, e⟩ := (S'.pool z).1
      exact ⟨x, y, a1, a2, a3, kp.keep _ _ e nofun w⟩, tb⟩
  refine ⟨M, plOf vs as, as, k0, x0, az _ pz (fun _ h => h), fun p hp => ⟨(S'.pool (pz p hp)).1, S.psm p (pz p hp)⟩, S'.dom, S'.tb, o, hm, fun r hr v H2 kp hp tb rv => ?_, fun C d hc v dd fs H2 kp hp tb hd hw hv => ?_⟩
  · refine hk r hr v H2 (k.trans (st kp hp tb)) ?_
    cases r with
    | v d => exact rv
    | new ds =>
      obtain ⟨a, us, rfl, hn, hl, hd⟩ := rv
      refine ⟨a, us, rfl, ⟨?_, fun z => S'.dom a z hn⟩, hl, hd⟩
      cases z : H a with
      | none => rfl
      | some o => exact absurd hn (k.kp.grow a (by rw [z]; nofun))
    | ali i => exact rv.elim
  · exact hx C d hc v dd fs H2 (k.trans (st kp hp tb)) hd hw hv
theorem Sat.butP {P : Addr} {q : Str} (S : Sat Z M env σ H) (hP : (P, q) ∈ Z.Tl) (e : LM.ButP P H H1) (tt : LamX.Tabs Z.Tl H1) : Step Z env σ H H1 := by
  obtain ⟨ps, eP, _⟩ := S.tb.lams _ hP
  have eP : H P = some (.tbl ps) := eP
  obtain ⟨ps1, eP1, _⟩ := tt _ hP
  have eP1 : H1 P = some (.tbl ps1) := eP1
  have ne : ∀ {b o}, H b = some o → (∀ ps, o ≠ .tbl ps) → b ≠ P := fun {b o} h n z => by
    rw [z, eP] at h
    cases h
    exact n ps rfl
  refine ⟨⟨fun b o h n _ => e b o (ne h n) h, fun b h => ?_⟩, fun a z => ?_, fun P' hP' => ?_, tt, S.tb.dis⟩
  · by_cases z : b = P
    · rw [z, eP1]
      nofun
    · cases w : H b with
      | none => exact absurd w h
      | some o =>
        rw [e b o z w]
        nofun
  · obtain ⟨x, y, a1, a2, a3, h⟩ := (S.pool z).1
    exact ⟨x, y, a1, a2, a3, e _ _ (ne h nofun) h⟩
  · obtain ⟨ps', h1, h2⟩ := S.tb.tabs P' hP'
    exact ⟨ps', e _ _ (fun z => S.tb.dis P' hP' _ hP z.symm) h1, h2⟩
/-- what a def makes of the error that its lambda's call raises: F -/
def dLam (m : Pm) (F : Addr → PyData → (R → Prop) → Prop) (As : DAs) : DE := fun env k => As env fun rs => ∃ as, argRs env rs = some as ∧ oneP as = true ∧ ∃ (k0 : R → Prop) (x0 : Addr → PyData → Prop), (∀ r, k0 r → k r) ∧ (∀ C d, x0 C d → F C d k) ∧ m as k0 x0
structure LamOk (K : PySem.W.Frag) (TT : (XK → Hp → VK → Prop) → Hp → VK → Prop) (F : Addr → PyData → (R → Prop) → Prop) : Prop where
  mono : ∀ C d K K', (∀ r, K r → K' r) → F C d K → F C d K'
  run : ∀ (Z : Wd) (M : AS) (env : Env) (σ : L2.St) (H : Hp) (Q : VK) (tl : XK → Hp → VK → Prop), Z.K = K → (∀ E : XK, (∀ C d, F C d (fun r => ∀ v H', Step Z env σ H H' → Val Z M env σ H H' v r → Q v H') → ∀ v dd fs H', Sat Z M env σ H' → Step Z env σ H H' → H' dd = some (.xd fs) → fs.lookup ("what" : Str) = some v → Da K M H' v d → E (.ref C) (some dd) H') → tl E H Q) → TT tl H Q
theorem re_lam {m : Pm} {K : PySem.W.Frag} {Ts : List Addr} {Tl : List (Addr × Str)} {P : Addr} {q : Str} {TT : (XK → Hp → VK → Prop) → Hp → VK → Prop} {F : Addr → PyData → (R → Prop) → Prop} (hK : Z.K = K) (hT : Z.Ts = Ts) (hL : Z.Tl = Tl) (hP : (P, q) ∈ Tl) (L : LamOk K TT F) (ha : RA Z t As) :
    RE Z (LM.tLam3 Tl P TT fun E => tCallS (spD K Ts Tl m) (WE fun cls d _ H => E cls d H) t) (dLam m F As) := by
  refine ⟨fun env K K' h q => ha.mono env _ _ (fun rs ⟨as, e, o, k0, x0, hk, hx, hm⟩ => ⟨as, e, o, k0, x0, fun r z => h r (hk r z), fun C d z => L.mono C d _ _ h (hx C d z), hm⟩) q, fun M env σ H Q S h => ?_⟩
  subst hK hT hL
  refine ⟨S.tb.lams, fun H1 bp tt => ?_⟩
  have k1 := S.butP hP bp tt
  have S1 := S.same k1
  refine L.run Z M env σ H1 Q _ rfl fun E hE => ?_
  refine call_goS rfl rfl rfl ha S1 (ha.mono env _ _ (fun rs w => ?_) h)
  obtain ⟨as, e, o, k0, x0, hk, hx, hm⟩ := w
  refine ⟨as, e, o, k0, x0, fun r hr v H' k hv => hk r hr v H' (k1.trans k) (hv.back k1.kp.grow fun _ h => h), fun C d hc v dd fs H' k hd hw hv => ?_, hm⟩
  exact hE C d (L.mono C d _ _ (fun r hr v H' k hv => hr v H' (k1.trans k) (hv.back k1.kp.grow fun _ h => h)) (hx C d hc)) v dd fs H' (S1.same k) k hd hw hv
end
end DL
set_option maxHeartbeats 2000000
/-! the layer of data: try: f(..) / except (A, B): return a constant -/
namespace DL
open PySem PySem.Spec PyProof.Rows L2 LW GX LD
section
variable {Z : Wd} {M M' : AS} {env : Env} {σ : L2.St} {H H0 H1 H2 H' : Hp} {t : TA} {As : DAs} {m : Pm} {K : PySem.W.Frag} {Ts : List Addr} {Tl : List (Addr × Str)}
/-- f(..) is tried; what is raised is of classes that P tells, and b is handed back -/
def sTryC (m : Pm) (P : Addr → Prop) (b : PyData) (As : DAs) : DS := fun D env => As env fun rs => ∃ as, argRs env rs = some as ∧ oneP as = true ∧ ∃ (k0 : R → Prop) (x0 : Addr → PyData → Prop), (∀ r, k0 r → D.nx env) ∧ (∀ C d, x0 C d → P C ∧ D.rt (.v b)) ∧ m as k0 x0
theorem sTryC_mono {P : Addr → Prop} {b : PyData} (ha : RA Z t As) (env : Env) (K1 K2 : DEnds) (h : DEnds.le K1 K2) (q : sTryC m P b As K1 env) : sTryC m P b As K2 env :=
  ha.mono env _ _ (fun rs ⟨as, e, o, k0, x0, hk, hx, hm⟩ => ⟨as, e, o, k0, x0, fun r z => h.nx _ (hk r z), fun C d z => ⟨(hx C d z).1, h.rt _ (hx C d z).2⟩, hm⟩) q
theorem rs_try_two {c1 c2 : Value} {b : Bool} (hK : Z.K = K) (hT : Z.Ts = Ts) (hL : Z.Tl = Tl) (ha : RA Z t As) :
    RS Z (fun D σ H => tDrop (tCallS (spD K Ts Tl m) (WE (TT.wTwo K c1 c2 (fun _ _ _ => tRet (tC (.bl b))) D)) t) D σ H) (sTryC m (fun C => PySem.W.exmAny K (.ref C) [c1, c2] = some true) (.bool b) As) where
  mono := sTryC_mono ha
  run env σ H D S h := by
    subst hK hT hL
    refine call_goS (E := fun cls d H' => TT.wTwo Z.K c1 c2 (fun _ _ _ => tRet (tC (.bl b))) D cls d σ H') (Q := fun _ H' => D.nx σ H') rfl rfl rfl ha S (ha.mono env _ _ (fun rs w => ?_) h)
    obtain ⟨as, e, o, k0, x0, hk, hx, hm⟩ := w
    refine ⟨as, e, o, k0, x0, fun r hr v H' k _ => hk r hr σ H' (S.same k) k.ss, fun C d hc v dd fs H' k _ _ _ => ⟨(hx C d hc).1, fun a _ => ?_⟩, hm⟩
    exact (hx C d hc).2 (.bl b) H' (S.same k).endOk (Da.bl b)
theorem rs_try_one {c : Value} {b : Bool} (hK : Z.K = K) (hT : Z.Ts = Ts) (hL : Z.Tl = Tl) (ha : RA Z t As) :
    RS Z (fun D σ H => tDrop (tCallS (spD K Ts Tl m) (WE (wOnly K c (fun _ _ _ => tRet (tC (.bl b))) (fun _ _ _ _ => False) D)) t) D σ H) (sTryC m (fun C => PySem.W.exmOne K (.ref C) c = some true) (.bool b) As) where
  mono := sTryC_mono ha
  run env σ H D S h := by
    subst hK hT hL
    refine call_goS (E := fun cls d H' => wOnly Z.K c (fun _ _ _ => tRet (tC (.bl b))) (fun _ _ _ _ => False) D cls d σ H') (Q := fun _ H' => D.nx σ H') rfl rfl rfl ha S (ha.mono env _ _ (fun rs w => ?_) h)
    obtain ⟨as, e, o, k0, x0, hk, hx, hm⟩ := w
    refine ⟨as, e, o, k0, x0, fun r hr v H' k _ => hk r hr σ H' (S.same k) k.ss, fun C d hc v dd fs H' k _ _ _ => ⟨true, (hx C d hc).1, fun _ a _ => ?_, nofun⟩, hm⟩
    exact (hx C d hc).2 (.bl b) H' (S.same k).endOk (Da.bl b)
end
end DL
set_option maxHeartbeats 4000000
/-! several clauses 'except X as n', one after the other; what is let through by all of them never comes -/
namespace GX
open PySem PySem.Spec PyProof.Rows L2 GenW
def wCh (K : PySem.W.Frag) (i : Nat) (D : Ends) : List (Value × (Addr → Value → Option Addr → TS)) → WX
  | [] => fun _ _ _ _ => False
  | (c, ts) :: r => fun cls d σ H => ∃ b, PySem.W.exmOne K cls c = some b ∧
      (b = true → ∀ a, H a = none → ts a cls d { nx := fun σ' H' => D.nx (σ'.set i none) H', rt := D.rt, bk := fun σ' H' => D.bk (σ'.set i none) H', ct := fun σ' H' => D.ct (σ'.set i none) H' } (σ.set i (some (.ref a))) H) ∧ (b = false → wCh K i D r cls d σ H)
inductive HdsA (X : Cx) (n : Str) : List ExceptHandler → List (Value × (Addr → Value → Option Addr → TS)) → Prop
  | nil : HdsA X n [] []
  | cons {x : Str} {c : Value} {ts : Addr → Value → Option Addr → TS} {b₀ : Stmt} {suite : List Stmt} {np pos' : Pos} {hds : List ExceptHandler} {l : List (Value × (Addr → Value → Option Addr → TS))} (hc : Names X x c)
      (hsu : ∀ (a : Addr) (oe : Obj) (cls : Value) (d : Option Addr) (pn : List (Addr × Obj)), Zc cls d oe → (∃ vs, oe.data = .fields vs) → PSs (X.suite a ((a, oe) :: pn)) (b₀ :: suite) (ts a cls d)) (r : HdsA X n hds l) :
      HdsA X n (.ExceptHandler (some (.Name x np)) (some n) (b₀ :: suite) pos' :: hds) ((c, ts) :: l)
section
variable {X : Cx} {n : Str} {i : Nat} {body : List Stmt} {h₀ : ExceptHandler} {hds : List ExceptHandler} {l : List (Value × (Addr → Value → Option Addr → TS))} {pos : Pos} {tb : WX → TS}
theorem ps_try_ch (hs : X.stack = X.env :: X.outer) (hf : X.env.frame = some X.env.locals) (hN : X.N.Nodup) (hi : X.N[i]? = some n) (hln : X.env.kindOf n = some .local)
    (hb : ∀ (W : WX) (pn : List (Addr × Obj)) (xe : Value → Shared → Prop), Takes (X.tr pn xe) W → PassesOwn (model X.prog X.w) X.A X.env xe → PSs (X.tr pn xe) body (tb W))
    (hh : HdsA X n (h₀ :: hds) l) : PS X (.Try body (h₀ :: hds) [] [] pos) (fun D σ H => tb (wCh X.K i D l) D σ H) := by
  refine ⟨fun pins s σ H D I h => wpAny_Try_except ?_⟩
  have hfr : X.A.frames = some (X.env :: X.outer) := I.ok.frames.trans (congrArg some hs)
  let catcher : Value → Shared → Prop := fun e s₁ => wpAny (model X.prog X.w) X.A (noteFrame e X.env) (fun _ s₂ => wpAny (model X.prog X.w) X.A (setFlight e none) (fun _ s₃ =>
    wpAny (model X.prog X.w) X.A (handleBy e X.env (h₀ :: hds)) (SP X pins D) X.xe s₃) X.xe s₂) X.xe s₁
  have tk : Takes (X.tr (X.pn ++ pins) catcher) (wCh X.K i D l) := by
    rintro u s' ⟨a, B, sI, pins', σ', H', cls, d, rfl, J', nb, up, sky, na, os, ag, w⟩
    have J := J'.ofTry I.ok
    have sky2 : Sky B (X.env :: X.outer) a (Zc cls d) X.env.locals s'.heap := by
      rw [← hs]
      exact sky
    show wpAny (model X.prog X.w) X.A (noteFrame (.ref a) X.env) _ _ _
    refine Sky.land Zc.steady hfr hf sky2 fun hA flA upA => ?_
    have out : ∀ (h : Heap), HandSPX.FlyingZ B (X.env :: X.outer) a (Zc cls d) h → s'.heap.UpToSlots h →
        ∃ (oe : Obj), h.get? a = some oe ∧ Zc cls d oe ∧ (∃ vs, oe.data = .fields vs) ∧ Inv X pins σ' H' { s' with heap := h } ∧ Inv (X.suite a ((a, oe) :: (X.pn ++ pins))) [] σ' H' { s' with heap := h } := by
      intro h fl hup
      have Jh : Inv X pins σ' H' { s' with heap := h } := J.landed nb fl.1 (up.trans hup) os ag
      obtain ⟨oe, vs, he, hz, hd⟩ := fl.there
      have nfr : a ∉ frs (X.env :: X.outer) := fun hm => by
        obtain ⟨_, o, ho, hno⟩ := fl.2.2.1.mem hm
        cases he.symm.trans ho
        exact hno vs hd
      have nF : a ∉ X.fs := fun hm => by
        obtain ⟨y, hy, q⟩ := List.mem_filterMap.mp hm
        exact nfr (List.mem_filterMap.mpr ⟨y, List.mem_cons_of_mem _ hy, q⟩)
      have nL : a ≠ X.env.locals := fun z => nfr (List.mem_filterMap.mpr ⟨X.env, List.mem_cons_self, by rw [hf, z]⟩)
      exact ⟨oe, he, hz, ⟨vs, hd⟩, Jh, Jh.suite he hd na nL nF⟩
    obtain ⟨oA, heA, hzA, _, JA, SA⟩ := out hA flA upA
    have go : ∀ {hs' : List ExceptHandler} {l' : List (Value × (Addr → Value → Option Addr → TS))}, HdsA X n hs' l' → wCh X.K i D l' cls d σ' H' →
        wpAny (model X.prog X.w) X.A (handleBy (.ref a) X.env hs') (SP X pins D) X.xe { s' with heap := hA } := by
      intro hs' l' hk
      induction hk with
      | nil => exact fun w => w.elim
      | @cons x c ts b₀ suite np pos' hds2 l2 hc hsu r ih =>
        rintro ⟨b, hcls, yes, no⟩
        refine wpAny_handleBy_cons (codeAny_handlers_test ?_) (by intro q; cases q)
        have isIt := PySem.W.exm_one (M := model X.prog X.w) JA.kIn (fun _ _ _ _ k q => wpAny_typeOf_ref (k _ _ heA) (by rw [hzA.1]; exact q)) hcls
        have named : ∀ {R : Value → Shared → Prop} {E' : Value → Shared → Prop}, R c { s' with heap := hA } → wpAny (model X.prog X.w) (X.A.mark (some (.ref a))) (eval (.Name x np) X.env) R E' { s' with heap := hA } := by
          intro R E' q
          obtain ⟨hg, hdbg, hm | ⟨hm, hv, hnn⟩⟩ := hc
          · exact ld_glob (X := X.suite a ((a, oA) :: (X.pn ++ pins))) SA hg hm q hdbg
          · exact ld_blt (X := X.suite a ((a, oA) :: (X.pn ++ pins))) SA hg hm hv q hnn hdbg
        refine named (isIt.here ?_)
        cases b with
        | false =>
          show wpAny _ X.A (handleBy (.ref a) X.env hds2) _ _ _
          exact ih (no rfl)
        | true =>
          refine codeAny_handlers_suite_as ?_
          refine HandSPX.lands_againZ flA fun hB flB upB => ?_
          obtain ⟨oB, heB, hzB, hfB, _, SB⟩ := out hB flB (upA.trans upB)
          refine store_ok (X := X.suite a ((a, oB) :: (X.pn ++ pins))) (v := .ref a) SB hN hi (.inl hln) rfl (fun s5 S5 => ?_) (.inr hln)
          refine wpAny_mono ((hsu a oB cls d (X.pn ++ pins) hzB hfB).run [] s5 _ H' _ S5 (yes rfl a na)) (fun f s6 hsp => ?_) (fun _ _ z => z.elim)
          cases f with
          | ret u =>
            obtain ⟨v6, σ6, H6, S6, r6, q6⟩ := hsp
            exact gone_ok (S6.unsuite I.ok) hN hi hln fun s7 J7 => ⟨v6, _, _, J7, r6, q6⟩
          | next =>
            obtain ⟨σ6, H6, S6, q6⟩ := hsp
            exact gone_ok (S6.unsuite I.ok) hN hi hln fun s7 J7 => ⟨_, _, J7, q6⟩
          | brk =>
            obtain ⟨σ6, H6, S6, q6⟩ := hsp
            exact gone_ok (S6.unsuite I.ok) hN hi hln fun s7 J7 => ⟨_, _, J7, q6⟩
          | cont =>
            obtain ⟨σ6, H6, S6, q6⟩ := hsp
            exact gone_ok (S6.unsuite I.ok) hN hi hln fun s7 J7 => ⟨_, _, J7, q6⟩
    exact go hh w
  refine wpAny_mono ((hb _ (X.pn ++ pins) catcher tk PassesOwn.looking).run [] s σ H D (I.toTry _) h) (fun f s1 hsp => ?_) (fun e s1 he => he)
  cases f with
  | ret u =>
    obtain ⟨v, σ', H', J', r, q⟩ := hsp
    exact ⟨v, σ', H', J'.ofTry I.ok, r, q⟩
  | next =>
    obtain ⟨σ', H', J', q⟩ := hsp
    exact wpAny_execs_nil ⟨σ', H', J'.ofTry I.ok, q⟩
  | brk =>
    obtain ⟨σ', H', J', q⟩ := hsp
    exact ⟨σ', H', J'.ofTry I.ok, q⟩
  | cont =>
    obtain ⟨σ', H', J', q⟩ := hsp
    exact ⟨σ', H', J'.ofTry I.ok, q⟩
end
end GX
set_option maxHeartbeats 4000000
/-! the layer of data: a lambda handed to a def that never returns rightly: what the def makes of the error -/
namespace DL
open PySem PySem.Spec PyProof.Rows L2 LW GX LD
section
variable {Z : Wd} {M : AS} {As : DAs} {t : TA}
def dLamE (m : Pm) (F : Addr → PyData → (R → Prop) → Prop) (As : DAs) : DE := fun env k => As env fun rs => ∃ as, argRs env rs = some as ∧ oneP as = true ∧ ∃ (x0 : Addr → PyData → Prop), (∀ C d, x0 C d → F C d k) ∧ m as (fun _ => False) x0
structure LamE (K : PySem.W.Frag) (TT : (XK → Hp → VK → Prop) → Hp → VK → Prop) (F : Addr → PyData → (R → Prop) → Prop) : Prop where
  mono : ∀ C d K K', (∀ r, K r → K' r) → F C d K → F C d K'
  run : ∀ (Z : Wd) (M : AS) (env : Env) (σ : L2.St) (H : Hp) (Q : VK) (tl : XK → Hp → VK → Prop), Z.K = K → (∀ (E : XK) (Q' : VK), (∀ C d, F C d (fun r => ∀ v H', Step Z env σ H H' → Val Z M env σ H H' v r → Q v H') → ∀ v dd fs H', Sat Z M env σ H' → Step Z env σ H H' → H' dd = some (.xd fs) → fs.lookup ("what" : Str) = some v → Da K M H' v d → E (.ref C) (some dd) H') → tl E H Q') → TT tl H Q
theorem re_lamE {m : Pm} {K : PySem.W.Frag} {Ts : List Addr} {Tl : List (Addr × Str)} {P : Addr} {q : Str} {TT : (XK → Hp → VK → Prop) → Hp → VK → Prop} {F : Addr → PyData → (R → Prop) → Prop} (hK : Z.K = K) (hT : Z.Ts = Ts) (hL : Z.Tl = Tl) (hP : (P, q) ∈ Tl) (L : LamE K TT F) (ha : RA Z t As) :
    RE Z (LM.tLam3 Tl P TT fun E => tCallS (spD K Ts Tl m) (WE fun cls d _ H => E cls d H) t) (dLamE m F As) := by
  refine ⟨fun env K K' h q => ha.mono env _ _ (fun rs ⟨as, e, o, x0, hx, hm⟩ => ⟨as, e, o, x0, fun C d z => L.mono C d _ _ h (hx C d z), hm⟩) q, fun M env σ H Q S h => ?_⟩
  subst hK hT hL
  refine ⟨S.tb.lams, fun H1 bp tt => ?_⟩
  have k1 := S.butP hP bp tt
  have S1 := S.same k1
  refine L.run Z M env σ H1 Q _ rfl fun E Q' hE => ?_
  refine call_goS rfl rfl rfl ha S1 (ha.mono env _ _ (fun rs w => ?_) h)
  obtain ⟨as, e, o, x0, hx, hm⟩ := w
  refine ⟨as, e, o, fun _ => False, x0, fun r hr => hr.elim, fun C d hc v dd fs H' k hd hw hv => ?_, hm⟩
  exact hE C d (L.mono C d _ _ (fun r hr v H' k hv => hr v H' (k1.trans k) (hv.back k1.kp.grow fun _ h => h)) (hx C d hc)) v dd fs H' (S1.same k) k hd hw hv
end
end DL
set_option maxHeartbeats 4000000
namespace DL
open PySem PySem.Spec PyProof.Rows L2 LW GX LD
section
variable {Z : Wd} {M : AS} {As : DAs} {t : TA}
/-- a, b = x, y of names that are cells -/
theorem rs_asgPar {i j : Nat} {K : PySem.W.Frag} {ta : TA} {As : DAs} (hK : Z.K = K) (ha : RA Z ta As) : RS Z (tAsg (tTup ta) (gTup K 2 (gCons (gName i) (gCons (gName j) gNil)))) (sPar i j As) where
  mono env K K' h q := ha.mono env _ _ (fun rs ⟨r1, r2, s1, s2, e, e1, e2, q⟩ => ⟨r1, r2, s1, s2, e, e1, e2, h.nx _ q⟩) q
  run env σ H D S h := ha.run _ env σ H _ S (ha.mono env _ _ (fun rs w vs H' k hv => by
    obtain ⟨r1, r2, s1, s2, e, e1, e2, q⟩ := w
    subst e
    obtain ⟨v, u, rfl, h1, h2⟩ := hv.two'
    refine ⟨by show 2 ≤ sizeLine; decide, fun p hp => ⟨p, [v, u], rfl, SqT.of upd_same, rfl, v, [u], rfl, u, [], rfl, rfl, ?_⟩⟩
    have S' := S.same k
    obtain ⟨g1, n1⟩ := h1.hold S e1
    obtain ⟨g2, n2⟩ := h2.hold S e2
    have S1 : Sat Z (fun b => MZ Z env σ b ∨ (H b = none ∧ H' b ≠ none)) env σ H' := S.more k
    obtain ⟨S2, m2⟩ := Sat.put S1 (i := i) (g1 _) fun z => by
      obtain ⟨a, ea, hn, _, hk, _⟩ := n1 z
      exact ⟨a, ea, .inr ⟨hn, hk⟩, S.nms hn⟩
    obtain ⟨S3, m3⟩ := Sat.put S2 (i := j) (g2 _) fun z => by
      obtain ⟨a, ea, hn, hm, hk, _⟩ := n2 z
      refine ⟨a, ea, .inr ⟨hn, hk⟩, fun w => ?_⟩
      rcases m2 a w with w | ⟨w1, w2⟩
      · exact S.nms hn w
      · obtain ⟨_, _, _, _, _, ds, er⟩ := n1 w1
        exact hm (.inr ⟨ds, er, w2⟩)
    have m : ∀ b, MS ((env.set i (some s1)).set j (some s2)) ((σ.set i (some v)).set j (some u)) b → MS env σ b ∨ (H b = none ∧ H' b ≠ none) := fun b w => by
      rcases m3 b w with w | ⟨w1, w2⟩
      · rcases m2 b w with w | ⟨w1, w2⟩
        · exact .inl w
        · obtain ⟨a, ea, hn, _, hk, _⟩ := n1 w1
          rw [ea] at w2
          cases w2
          exact .inr ⟨hn, hk⟩
      · obtain ⟨a, ea, hn, _, hk, _⟩ := n2 w1
        rw [ea] at w2
        cases w2
        exact .inr ⟨hn, hk⟩
    refine q _ _ ((S3.same (S3.new hp)).mz fun b w => ?_) ⟨(k.trans (S'.new hp)).ss.kp, fun b w => (m b w).imp id And.left⟩
    rcases w with w | w
    · exact .inl (.inl w)
    · exact (m b w).imp .inr id) h)
end
end DL
set_option maxHeartbeats 4000000
/-! the layer of data: a call whose first argument is a pool made there -/
namespace DL
open PySem PySem.Spec PyProof.Rows L2 LW GX LD
section
variable {Z : Wd} {M : AS} {A : DE} {As : DAs} {t : TA} {ta : TE}
def isDA : Ar → Bool
  | .dat _ => true
  | _ => false
theorem Argz.noP {K : PySem.W.Frag} {M : AS} {H : Hp} {pl pl' : List Addr} {vs : List V} {as : List Ar} (h : Argz K M H pl vs as) : as.all isDA = true → Argz K M H pl' vs as := by
  induction h with
  | nil => exact fun _ => .nil
  | @cons v vs a as h _ ih =>
    intro e
    rw [List.all_cons, Bool.and_eq_true] at e
    cases a with
    | dat d => exact .cons h (ih e.2)
    | lst ds => cases e.1
    | pool => cases e.1
theorem plOf_no : ∀ {vs : List V} {as : List Ar}, as.all isDA = true → plOf vs as = []
  | [], [], _ => rfl
  | [], _ :: _, _ => rfl
  | v :: vs, [], _ => by cases v <;> rfl
  | v :: vs, .dat d :: as, e => by
    have h := plOf_no (vs := vs) (as := as) (by rw [List.all_cons, Bool.and_eq_true] at e; exact e.2)
    cases v <;> exact h
  | v :: vs, .lst _ :: as, e => by cases e
  | v :: vs, .pool :: as, e => by cases e
theorem any_no : ∀ {as : List Ar}, as.all isDA = true → as.any isPA = false
  | [], _ => rfl
  | .dat d :: as, e => by
    rw [List.any_cons, any_no (as := as) (by rw [List.all_cons, Bool.and_eq_true] at e; exact e.2)]
    rfl
  | .lst _ :: as, e => by cases e
  | .pool :: as, e => by cases e
def dCallP (m : Pm) (A : DE) (As : DAs) : DE := fun env k => A env fun r => ∃ x y : Int, r = .new [.int x, .int y] ∧ 0 ≤ x ∧ 0 ≤ y ∧ y < 2147483647 ∧ As env fun rs => ∃ as, argRs env rs = some as ∧ as.all isDA = true ∧ ∃ k0 : R → Prop, (∀ r, k0 r → k r) ∧ m (.pool :: as) k0 (fun _ _ => False)
theorem re_callP {m : Pm} {K : PySem.W.Frag} {Ts : List Addr} {Tl : List (Addr × Str)} (hK : Z.K = K) (hT : Z.Ts = Ts) (hL : Z.Tl = Tl) {E : XK} (h1 : RE Z ta A) (ha : RA Z t As) : RE Z (tCall (spD K Ts Tl m) [] E (tCons ta t)) (dCallP m A As) := by
  subst hK hT hL
  refine ⟨fun env K K' h q => h1.mono env _ _ (fun r ⟨x, y, e, b1, b2, b3, q⟩ => ⟨x, y, e, b1, b2, b3, ha.mono env _ _ (fun rs ⟨as, e, o, k0, hk, hm⟩ => ⟨as, e, o, k0, fun r z => h r (hk r z), hm⟩) q⟩) q, fun M env σ H Q S h => ?_⟩
  refine h1.run M env σ H _ S (h1.mono env _ _ (fun r w v H1 k1 hv1 => ?_) h)
  obtain ⟨x, y, rfl, b1, b2, b3, w⟩ := w
  obtain ⟨a, us, rfl, hn, hl, hd⟩ := hv1
  have ev : us = [.int x, .int y] := Das.intsV (ns := [x, y]) hd
  subst ev
  have S1 := S.more k1
  refine ha.run _ env σ H1 _ S1 (ha.mono env _ _ (fun rs w vs H2 k2 hv => ?_) w)
  obtain ⟨as, e, o, k0, hk, hm⟩ := w
  have S2 := S1.same k2
  have k12 := k1.trans k2
  have hl2 : H2 a = some (.lst [.int x, .int y]) := k2.kp.keep a _ hl nofun (S.nps a hn.1)
  obtain ⟨az, _⟩ := argz_of S1 k2 hv (fun _ h => h) e
  have az := (az [] nofun (by rw [plOf_no o]; nofun)).noP (pl' := [a]) o
  rw [List.append_nil]
  refine ⟨_, [a], .pool :: as, k0, _, .cons ⟨a, rfl, List.mem_cons_self⟩ az, fun p hp => ?_, S2.dom, S2.tb, ?_, hm, fun r hr v H3 kp pl tb rv => ?_, fun _ _ z => z.elim⟩
  · cases List.mem_singleton.mp hp
    exact ⟨⟨x, y, b1, b2, b3, hl2⟩, .inr ⟨hn.1, by rw [hl]; nofun⟩⟩
  · show (if isPA Ar.pool = true then !as.any isPA else oneP as) = true
    rw [if_pos (show isPA Ar.pool = true from rfl), Bool.not_eq_true']
    exact any_no o
  · have st : Step Z env σ H H3 := by
      refine ⟨⟨fun b o e n s => ?_, fun b e => kp.grow b (k12.kp.grow b e)⟩, fun p z => ?_, tb⟩
      · exact kp.keep b o (k12.kp.keep b o e n s) n fun z => by
          cases List.mem_singleton.mp z
          rw [hn.1] at e
          cases e
      · obtain ⟨x, y, a1, a2, a3, e⟩ := (S2.pool z).1
        refine ⟨x, y, a1, a2, a3, kp.keep _ _ e nofun fun w => ?_⟩
        cases List.mem_singleton.mp w
        exact S.nps _ hn.1 z
    refine hk r hr v H3 st ?_
    cases r with
    | v d => exact Da.sub (fun _ h => .inl h) rv
    | new ds =>
      obtain ⟨b, us, rfl, hb, hl, hd⟩ := rv
      have hb0 : H b = none := by
        cases z : H b with
        | none => rfl
        | some o => exact absurd hb (k12.kp.grow b (by rw [z]; nofun))
      exact ⟨b, us, rfl, ⟨hb0, fun z => S.dom b z hb0⟩, hl, hd.sub fun _ h => h.imp .inl id⟩
    | ali i => exact rv.elim
end
end DL
set_option maxHeartbeats 4000000
namespace GX
open PySem PySem.Spec PyProof.Rows L2 LW
theorem pe_dkG0 {X : Cx} {k : Nat} {x : Str} {ps : List Str} {sp : Sp} {p pos : Pos} (d : DkG X.prog X.w X.K X.mg X.base k x ps sp) (hr : Room k X.A) (hgd : X.A.guards = some []) (hg : Gl X x) (hdb : (x == ("__debug__" : Str)) = false := by decide) :
    PE X (.Call (.Name x p) [] [] pos) (tCall sp [] E0 tNil) := by
  refine ⟨fun pins s σ H Q I h => ?_⟩
  refine wpAny_Call_Name_kw (ld_glob I hg d.gm ?_ hdb)
  refine PySem.W.callWith_K0 I.kIn d.kp ?_
  have h : sp [] H Q E0 := h
  have hl : ([] : List Value).length = ps.length := d.G.len _ _ _ _ h
  refine wpAny_call (codeAny_mono (d.G.run X.A X.stack s H ⟨[], []⟩ [] [] Q E0 hr hgd I.env0 (d.b s [] I.kIn hl) .nil h) fun r s' hq => ?_)
  cases r with
  | error e => exact (pass0 pins σ H s e s' I hq)
  | ok fl =>
    cases fl with
    | ret u => exact I.after hq
    | next => exact False.elim hq
    | brk => exact False.elim hq
    | cont => exact False.elim hq
end GX
/-! the layer of data: two own lists returned as a pair; two items of an own list exchanged; a pair whose first is a list of lists; enumerate of a list -/
namespace LD
open PySem PySem.Spec PyProof.Rows L2 LW GX
theorem op_catDK {X : Cx} {K : PySem.W.Frag} (h : X.K = K) : OpR X (binaryOp .Add) (fun x y H Q => ∃ a b xs ys, x = .ref a ∧ y = .ref b ∧ SqT K H a xs ∧ SqT K H b ys ∧ xs.length + ys.length ≤ sizeLine ∧ ∀ r H', Same H H' → SqT K H' r (xs ++ ys) → Q (.ref r) H') := by
  subst h
  exact op_catD
theorem pi_tupK {X : Cx} {K : PySem.W.Frag} {tg l : Expr} {tl : TE} (h : X.K = K) (hl : PE X l tl) : PI X tg l (iTup K tl) := by
  subst h
  exact pi_tup hl
theorem pi_listK {X : Cx} {K : PySem.W.Frag} {tg l : Expr} {tl : TE} (h : X.K = K) (hl : PE X l tl) : PI X tg l (iList K tl) := by
  subst h
  exact pi_list hl
theorem sl_tupDK {X : Cx} {K : PySem.W.Frag} (h : X.K = K) : SlR X (fun x lo hi H Q => ∃ a xs, x = .ref a ∧ SqT K H a xs ∧ ∀ r H', Same H H' → SqT K H' r (cutV xs lo hi) → Q (.ref r) H') := by
  subst h
  exact sl_tupD
theorem call_list_ofK {X : Cx} {K : PySem.W.Frag} (h : X.K = K) : CallR X (.type "list") (fun xs H Q => ∃ p ys, xs = [.ref p] ∧ (SqL K H p ys ∨ SqT K H p ys) ∧ ∀ l, H l = none → Q (.ref l) (upd H l (.lst ys))) := by
  subst h
  exact call_list_of
theorem call_lenLK {X : Cx} {K : PySem.W.Frag} (h : X.K = K) : CallR X (.builtin "len") (fun xs H Q => ∃ p ys, xs = [.ref p] ∧ SqL K H p ys ∧ Q (.int ys.length) H) := by
  subst h
  exact call_lenL
end LD
namespace DL
open PySem PySem.Spec PyProof.Rows L2 LW GX LD
section
variable {Z : Wd} {M : AS} {A B : DE} {As : DAs} {t : TA} {ta tb tb2 : TE} {B1 B2 : DE}
/-- return x, y of two lists of the def's own -/
def sRet2 (i j : Nat) : DS := fun D env => ∃ ds es, env[i]? = some (some (.own ds)) ∧ env[j]? = some (some (.own es)) ∧ D.rt (.v (.tuple [.list ds, .list es]))
theorem rs_ret2 {i j : Nat} : RS Z (tRet (tTup (tCons (tVar i) (tCons (tVar j) tNil)))) (sRet2 i j) where
  mono env K K' h := fun ⟨ds, es, e1, e2, q⟩ => ⟨ds, es, e1, e2, h.rt _ q⟩
  run env σ H D S := fun ⟨ds, es, e1, e2, q⟩ => by
    obtain ⟨v1, s1, a, vs, rfl, hl1, hd1, h01⟩ := S.sl i _ e1
    obtain ⟨v2, s2, b, us, rfl, hl2, hd2, h02⟩ := S.sl j _ e2
    refine ⟨_, s1, _, s2, by show 2 ≤ sizeLine; decide, fun p hp => ?_⟩
    have k := S.new (o := .tup [.ref a, .ref b]) hp
    have S' := S.same k
    refine q _ _ S'.endOk ?_
    have m0 : ∀ c, Z.M0 c → MZ Z env σ c := fun c h => .inl h
    have na : ¬ Z.M0 a := fun h => Z.pl0.2 a h h01
    have nb : ¬ Z.M0 b := fun h => Z.pl0.2 b h h02
    have ua : upd H p (.tup [.ref a, .ref b]) a = some (.lst vs) := by
      rw [upd_ne (ne_of_none hl1 hp)]
      exact hl1
    have ub : upd H p (.tup [.ref a, .ref b]) b = some (.lst us) := by
      rw [upd_ne (ne_of_none hl2 hp)]
      exact hl2
    exact Da.tup (SqT.of upd_same) (.cons (.lst ua na ((Das.st S k hd1).sub m0)) (.cons (.lst ub nb ((Das.st S k hd2).sub m0)) .nil))
/-- x[e], x[f] = y, z -/
def sSwap (i : Nat) (As : DAs) (B1 B2 : DE) : DS := fun D env => ∃ ds, env[i]? = some (some (.own ds)) ∧ As env fun rs => ∃ d1 d2, rs = [.v d1, .v d2] ∧ B1 env fun r3 => ∃ k1, r3 = .v (.int k1) ∧ ∃ j1, ixN ds.length k1 = some j1 ∧
  B2 (env.set i (some (.own (ds.set j1 d1)))) fun r4 => ∃ k2, r4 = .v (.int k2) ∧ ∃ j2, ixN ds.length k2 = some j2 ∧ D.nx (env.set i (some (.own ((ds.set j1 d1).set j2 d2))))
theorem rs_swap {i : Nat} {K : PySem.W.Frag} (hK : Z.K = K) (ha : RA Z t As) (hb1 : RE Z tb B1) (hb2 : RE Z tb2 B2) : RS Z (tAsg (tTup t) (gTup K 2 (gCons (gSub (tVar i) tb rSetL) (gCons (gSub (tVar i) tb2 rSetL) gNil)))) (sSwap i As B1 B2) where
  mono env K K' h := fun ⟨ds, e0, q⟩ => ⟨ds, e0, ha.mono env _ _ (fun r ⟨d1, d2, e, q⟩ => ⟨d1, d2, e, hb1.mono env _ _ (fun r3 ⟨k1, e1, j1, e3, q⟩ => ⟨k1, e1, j1, e3, hb2.mono _ _ _ (fun r4 ⟨k2, e4, j2, e5, q⟩ => ⟨k2, e4, j2, e5, h.nx _ q⟩) q⟩) q⟩) q⟩
  run env σ H D S := fun ⟨ds, hi, h⟩ => by
    subst hK
    refine ha.run _ env σ H _ S (ha.mono env _ _ (fun rs w vs H1 k1 hv => ?_) h)
    obtain ⟨d1, d2, rfl, w⟩ := w
    obtain ⟨v1, v2, rfl, hv1, hv2⟩ := hv.two
    refine ⟨by show 2 ≤ sizeLine; decide, fun p hp => ⟨p, [v1, v2], rfl, SqT.of upd_same, rfl, v1, [v2], rfl, ?_⟩⟩
    have S1 := S.same k1
    have kp := S1.new (o := .tup [v1, v2]) hp
    have S1' := S1.same kp
    obtain ⟨a, us, hs, _, _⟩ := S1'.own hi
    refine ⟨_, hs, hb1.run _ env σ _ _ S1' (hb1.mono env _ _ (fun r3 w u H2 k2 hu => ?_) w)⟩
    obtain ⟨kk1, rfl, j1, hj1, w⟩ := w
    have S2 := S1'.same k2
    obtain ⟨a', vs', hs', hl', hd'⟩ := S2.own hi
    rw [hs] at hs'
    cases hs'
    have aM : MS env σ a := ⟨i, _, hi, rfl, hs⟩
    have u1 := Da.st S1' k2 (Da.st S1 kp (show Da Z.K (MZ Z env σ) H1 v1 d1 from hv1))
    have u2 := Da.st S1' k2 (Da.st S1 kp (show Da Z.K (MZ Z env σ) H1 v2 d2 from hv2))
    obtain ⟨S3, k3⟩ := Sat.chg S2 hi hs hl' (hd'.set j1 u1)
    refine ⟨a, vs', kk1, j1, rfl, hu.int, hl', by rw [hd'.len]; exact hj1, v2, [], rfl, ?_⟩
    have hi3 : (env.set i (some (SV.own (ds.set j1 d1))))[i]? = some (some (.own (ds.set j1 d1))) := by
      rw [List.getElem?_set_self (by
        rcases Nat.lt_or_ge i env.length with z | z
        · exact z
        · rw [List.getElem?_eq_none z] at hi
          cases hi)]
    have u3 : Da Z.K (MZ Z env σ) (upd H2 a (.lst (vs'.set j1 v1))) v2 d2 := by
      have := das_upd (o := .lst (vs'.set j1 v1)) hl' (.inr aM) (Das.one u2)
      cases this with
      | cons h _ => exact h
    have msb : ∀ b, MZ Z (env.set i (some (SV.own (ds.set j1 d1)))) σ b → MZ Z env σ b := fun b h => h.imp id fun ⟨l, s, z1, z2, z3⟩ => by
      rcases set_get z1 with ⟨rfl, e⟩ | ⟨_, e⟩
      · exact ⟨_, _, hi, rfl, z3⟩
      · exact ⟨l, s, e, z2, z3⟩
    have u4 := Da.sub msb u3
    refine ⟨_, hs, hb2.run _ _ σ _ _ S3 (hb2.mono _ _ _ (fun r4 w u' H4 k4 hu' => ?_) w)⟩
    obtain ⟨kk2, rfl, j2, hj2, q⟩ := w
    have S4 := S3.same k4
    obtain ⟨a'', vs'', hs'', hl'', hd''⟩ := S4.own hi3
    rw [hs] at hs''
    cases hs''
    obtain ⟨S5, k5⟩ := Sat.chg S4 hi3 hs hl'' (hd''.set j2 (Da.st S3 k4 u4))
    refine ⟨a, vs'', kk2, j2, rfl, hu'.int, hl'', by rw [hd''.len, List.length_set]; exact hj2, rfl, ?_⟩
    rw [List.set_set] at S5 k5
    exact q σ _ S5 (k1.ss.trans (kp.ss.trans (k2.ss.trans (k3.trans (k4.ss.trans k5)))))
/-- x, y = a list (of lists, too), what bears no list -/
def sParL (i j : Nat) (A B : DE) : DS := fun D env => A env fun r1 => ∃ ds, r1 = .new ds ∧ B env fun r2 => ∃ s2, slotN r2 = some s2 ∧ D.nx ((env.set i (some (.own ds))).set j (some s2))
theorem parL_core {env : Env} {σ : L2.St} {H : Hp} {i j : Nat} (S : SatS Z env σ H) (ha : RE Z ta A) (hb : RE Z tb B) {D : DEnds} (h : sParL i j A B D env) {Q : List V → Hp → Prop}
    (hq : ∀ v u env' H2, D.nx env' → SatS Z env' ((σ.set i (some v)).set j (some u)) H2 → SStep env σ H env' ((σ.set i (some v)).set j (some u)) H2 → Q [v, u] H2) : tCons ta (tCons tb tNil) σ H Q := by
  refine ha.run _ env σ H _ S (ha.mono env _ _ (fun r1 w v H1 k1 hv1 => ?_) h)
  obtain ⟨ds, rfl, w⟩ := w
  obtain ⟨a, vs, rfl, hn, hl, hd⟩ := hv1
  have S1 : Sat Z (fun b => MZ Z env σ b ∨ b = a) env σ H1 := S.step k1 (fun b h => h.imp id fun z => by rw [z]; exact hn.1) (fun b h => by
    rcases h with h | rfl
    · exact k1.kp.grow b (S.dom b h)
    · rw [hl]
      nofun) (fun b h => .inl (.inr h)) (fun b h => .inl (.inl h))
  refine hb.run _ env σ H1 _ S1 (hb.mono env _ _ (fun r2 w u H2 k2 hv2 => ?_) w)
  obtain ⟨s2, e2, q⟩ := w
  obtain ⟨g2, n2⟩ := hv2.hold S1 e2
  have hM2 : ∀ b, (MZ Z env σ b ∨ b = a ∨ (s2.mut = true ∧ u = .ref b)) → (MZ Z env σ b ∨ b = a) ∨ H1 b = none := fun b h => by
    rcases h with h | h | ⟨h1, h2⟩
    · exact .inl (.inl h)
    · exact .inl (.inr h)
    · obtain ⟨b', ub, hb', _⟩ := n2 h1
      rw [ub] at h2
      cases h2
      exact .inr hb'
  have S2 : Sat Z (fun b => MZ Z env σ b ∨ b = a ∨ (s2.mut = true ∧ u = .ref b)) env σ H2 := S1.step k2 hM2 (fun b h => by
    rcases h with h | rfl | ⟨h1, h2⟩
    · exact k2.kp.grow b (k1.kp.grow b (S.dom b h))
    · exact k2.kp.grow b (by rw [hl]; nofun)
    · obtain ⟨b', ub, _, _, hk, _⟩ := n2 h1
      rw [ub] at h2
      cases h2
      exact hk) (fun b h => .inl (.inr h)) (fun b h => .inl (.inl h))
  have hl2 : H2 a = some (.lst vs) := k2.kp.keep a _ hl nofun (S.nps a hn.1)
  obtain ⟨S3, m3⟩ := Sat.put S2 (i := i) (v := .ref a) (sv := .own ds) ⟨a, vs, rfl, hl2, hd.kp k2.kp S1.psl S1.psm hM2, S.h0 hn.1⟩ fun _ => ⟨a, rfl, .inr (.inl rfl), S.nms hn.1⟩
  have hH : ∀ b, H1 b = none → H b = none := fun b h => by
    cases z : H b with
    | none => rfl
    | some o => exact absurd h (k1.kp.grow b (by rw [z]; nofun))
  obtain ⟨S4, m4⟩ := Sat.put S3 (i := j) (g2 _) fun z => by
    obtain ⟨b, ub, hb', _, hk, _⟩ := n2 z
    refine ⟨b, ub, .inr (.inr ⟨z, ub⟩), fun w => ?_⟩
    rcases m3 b w with w | ⟨_, w2⟩
    · exact S.nms (hH b hb') w
    · cases w2
      rw [hl] at hb'
      cases hb'
  have m : ∀ b, MS ((env.set i (some (.own ds))).set j (some s2)) ((σ.set i (some (.ref a))).set j (some u)) b → MS env σ b ∨ b = a ∨ (s2.mut = true ∧ u = .ref b) := fun b w => by
    rcases m4 b w with w | w
    · rcases m3 b w with w | ⟨_, w2⟩
      · exact .inl w
      · cases w2
        exact .inr (.inl rfl)
    · exact .inr (.inr w)
  refine hq _ _ _ H2 q (S4.mz fun b w => ?_) ⟨(k1.trans k2).ss.kp, fun b w => ?_⟩
  · rcases w with w | w
    · exact .inl (.inl w)
    · exact (m b w).imp .inr id
  · rcases m b w with w | rfl | ⟨h1, h2⟩
    · exact .inl w
    · exact .inr hn.1
    · obtain ⟨b', ub, hb', _⟩ := n2 h1
      rw [ub] at h2
      cases h2
      exact .inr (hH _ hb')
theorem sParL_mono {i j : Nat} (ha : RE Z ta A) (hb : RE Z tb B) (env : Env) {K K' : DEnds} (h : DEnds.le K K') (q : sParL i j A B K env) : sParL i j A B K' env :=
  ha.mono env _ _ (fun _ ⟨ds, e, q⟩ => ⟨ds, e, hb.mono env _ _ (fun _ ⟨s2, e2, q⟩ => ⟨s2, e2, h.nx _ q⟩) q⟩) q
theorem rs_parL {i j : Nat} (ha : RE Z ta A) (hb : RE Z tb B) : RS Z (tPar i j (tCons ta (tCons tb tNil))) (sParL i j A B) where
  mono env K K' h q := sParL_mono ha hb env h q
  run env σ H D S h := parL_core S ha hb h fun v u env' H2 q S2 k2 => ⟨v, u, rfl, q _ H2 S2 k2⟩
theorem rs_asgParL {i j : Nat} {K : PySem.W.Frag} (hK : Z.K = K) (ha : RE Z ta A) (hb : RE Z tb B) : RS Z (tAsg (tTup (tCons ta (tCons tb tNil))) (gTup K 2 (gCons (gName i) (gCons (gName j) gNil)))) (sParL i j A B) where
  mono env K K' h q := sParL_mono ha hb env h q
  run env σ H D S h := by
    subst hK
    refine parL_core (Q := fun vs H1 => vs.length ≤ sizeLine ∧ ∀ p, H1 p = none → gTup Z.K 2 (gCons (gName i) (gCons (gName j) gNil)) (.ref p) σ (upd H1 p (.tup vs)) D.nx) S ha hb h fun v u env' H2 q S2 k2 => ?_
    refine ⟨by show 2 ≤ sizeLine; decide, fun p hp => ⟨p, [v, u], rfl, SqT.of upd_same, rfl, v, [u], rfl, u, [], rfl, rfl, ?_⟩⟩
    have kp := S2.new (o := .tup [v, u]) hp
    have S5 := S2.same kp
    exact q _ _ S5 (k2.trans kp.ss)
theorem iok_enumL {K : PySem.W.Frag} {S M : AS} {H1 : Hp} {a : Addr} {vs : List V} {ds : List PyData} (hS : ∀ a, S a → ∃ xs, H1 a = some (.lst xs)) (hM : ∀ a, S a → M a) (h : ∀ H2, Kp S H1 H2 → SqL K H2 a vs) (hd : Das K M H1 vs ds) : Iok K M S H1 (Ite K a) (pairsOf (intsFrom 0 ds.length) ds) := by
  have e0 : min (intsFrom 0 ds.length).length ds.length = vs.length := by simp [intsFrom, hd.len]
  refine iok_pair (G := fun H => SqL K H a vs) (xs := fun i => some (.int (i : Nat))) (ys := fun i => vs[i]?) (by rw [e0]; exact walk_enum) (fun H k => h H k) (fun i H x d e k y M' _ => ?_) (fun i H x d e k y M' h1 => ?_)
  · cases y
    rw [intsFrom, List.getElem?_map] at e
    cases z : (List.range ds.length)[i]? with
    | none => rw [z] at e; cases e
    | some j =>
      rw [z] at e
      cases e
      have : j = i := by
        rw [List.getElem?_eq_some_iff] at z
        obtain ⟨h, z⟩ := z
        rw [List.getElem_range] at z
        exact z.symm
      subst this
      show Da K M' H (V.int (j : Nat)) (.int (0 + ((j : Nat) : Int)))
      rw [Int.zero_add]
      exact .int _
  · obtain ⟨d', e', h'⟩ := Das.getV hd y
    rw [e] at e'
    cases e'
    exact h'.kp k hS hM h1
def dItEL (As : DAs) : Env → (List PyData → Prop) → Prop := fun env k => As env fun rs => ∃ r ds, rs = [r] ∧ dataOf env r = some (.list ds) ∧ k (pairsOf (intsFrom 0 ds.length) ds)
theorem ri_enumL (ha : RA Z t As) : RI Z (iEnum Z.K t) (dItEL As) :=
  ⟨fun env K K' h q => ha.mono env _ _ (fun r ⟨c, d, e, z, q⟩ => ⟨c, d, e, z, h _ q⟩) q, fun M env σ H Q S h => ha.run M env σ H _ S (ha.mono env _ _ (fun r ⟨r0, ds, e, z, q⟩ vs H' k hv => by
    subst e
    obtain ⟨v, rfl, h⟩ := hv.one
    obtain ⟨a, xs, rfl, hx, dx⟩ := h.seqK S k z
    exact ⟨a, xs, rfl, hx _ (Kp.refl _ _), q _ _ k (iok_enumL (S.same k).psl S.psm hx dx)⟩) h)⟩
end
end DL
/-! numbers below a prime: sums, spans, how many free rows -/
namespace LA
def sm : Nat → (Nat → Int) → Int
  | 0, _ => 0
  | k + 1, f => sm k f + f k
theorem sm_congr {k : Nat} {f g : Nat → Int} (h : ∀ i, i < k → f i = g i) : sm k f = sm k g := by
  induction k with
  | zero => rfl
  | succ k ih =>
    show sm k f + f k = sm k g + g k
    rw [ih fun i hi => h i (by omega), h k (by omega)]
theorem sm_add {k : Nat} {f g : Nat → Int} : sm k (fun i => f i + g i) = sm k f + sm k g := by
  induction k with
  | zero => rfl
  | succ k ih =>
    show sm k (fun i => f i + g i) + (f k + g k) = (sm k f + f k) + (sm k g + g k)
    rw [ih]
    omega
theorem sm_mul {k : Nat} {f : Nat → Int} (a : Int) : sm k (fun i => a * f i) = a * sm k f := by
  induction k with
  | zero => exact (Int.mul_zero a).symm
  | succ k ih =>
    show sm k (fun i => a * f i) + a * f k = a * (sm k f + f k)
    rw [ih, Int.mul_add]
theorem sm_zero {k : Nat} {f : Nat → Int} (h : ∀ i, i < k → f i = 0) : sm k f = 0 := by
  induction k with
  | zero => rfl
  | succ k ih =>
    show sm k f + f k = 0
    rw [ih fun i hi => h i (by omega), h k (by omega)]
    rfl
theorem sm_one {k t : Nat} {f : Nat → Int} (ht : t < k) (h : ∀ i, i < k → i ≠ t → f i = 0) : sm k f = f t := by
  induction k with
  | zero => omega
  | succ k ih =>
    show sm k f + f k = f t
    by_cases e : t = k
    · subst e
      rw [sm_zero fun i hi => h i (by omega) (by omega)]
      omega
    · rw [ih (by omega) fun i hi n => h i (by omega) n, h k (by omega) (by omega)]
      omega
theorem sm_dvd {p : Int} {k : Nat} {f : Nat → Int} (h : ∀ i, i < k → p ∣ f i) : p ∣ sm k f := by
  induction k with
  | zero => exact Int.dvd_zero p
  | succ k ih => exact Int.dvd_add (ih fun i hi => h i (by omega)) (h k (by omega))
theorem sm_dvd_sub {p : Int} {k : Nat} {f g : Nat → Int} (h : ∀ i, i < k → p ∣ f i - g i) : p ∣ sm k f - sm k g := by
  induction k with
  | zero => exact ⟨0, by show (0 : Int) - 0 = _; omega⟩
  | succ k ih =>
    have e : sm (k + 1) f - sm (k + 1) g = (sm k f - sm k g) + (f k - g k) := by
      show (sm k f + f k) - (sm k g + g k) = _
      omega
    rw [e]
    exact Int.dvd_add (ih fun i hi => h i (by omega)) (h k (by omega))
/-- the sum of sums, either way round -/
theorem sm_swap {k m : Nat} {f : Nat → Nat → Int} : sm k (fun i => sm m (fun l => f i l)) = sm m (fun l => sm k (fun i => f i l)) := by
  induction k with
  | zero => exact (sm_zero fun i _ => rfl).symm
  | succ k ih =>
    show sm k (fun i => sm m (fun l => f i l)) + sm m (fun l => f k l) = _
    rw [ih, ← sm_add]
    rfl
/-- what rows span, below a prime, over the first n places -/
inductive Sp (p : Int) (n s : Nat) (X : Nat → Nat → Int) : (Nat → Int) → Prop
  | mem {i : Nat} : i < s → Sp p n s X (X i)
  | zero : Sp p n s X (fun _ => 0)
  | lin {x y : Nat → Int} (a b : Int) : Sp p n s X x → Sp p n s X y → Sp p n s X (fun j => a * x j + b * y j)
  | cg {x y : Nat → Int} : Sp p n s X x → (∀ j, j < n → p ∣ x j - y j) → Sp p n s X y
theorem Sp.trans {p : Int} {n s t : Nat} {X Y : Nat → Nat → Int} {x : Nat → Int} (h : Sp p n s X x) (hX : ∀ i, i < s → Sp p n t Y (X i)) : Sp p n t Y x := by
  induction h with
  | mem hi => exact hX _ hi
  | zero => exact .zero
  | lin a b _ _ h1 h2 => exact .lin a b h1 h2
  | cg _ h ih => exact .cg ih h
theorem Sp.less {p : Int} {n m s : Nat} {X : Nat → Nat → Int} {x : Nat → Int} (h : Sp p n s X x) (hm : m ≤ n) : Sp p m s X x := by
  induction h with
  | mem hi => exact .mem hi
  | zero => exact .zero
  | lin a b _ _ h1 h2 => exact .lin a b h1 h2
  | cg _ h ih => exact .cg ih fun j hj => h j (by omega)
/-- what all rows have, and sums and multiples keep -/
theorem Sp.keep {p : Int} {n s : Nat} {X : Nat → Nat → Int} {x : Nat → Int} (h : Sp p n s X x) (P : (Nat → Int) → Prop) (h0 : ∀ i, i < s → P (X i)) (hz : P fun _ => 0) (hl : ∀ (x y : Nat → Int) (a b : Int), P x → P y → P fun j => a * x j + b * y j)
    (hc : ∀ x y : Nat → Int, P x → (∀ j, j < n → p ∣ x j - y j) → P y) : P x := by
  induction h with
  | mem hi => exact h0 _ hi
  | zero => exact hz
  | lin a b _ _ h1 h2 => exact hl _ _ a b h1 h2
  | cg _ h ih => exact hc _ _ ih h
theorem Sp.coef {p : Int} {n s : Nat} {X : Nat → Nat → Int} {x : Nat → Int} (h : Sp p n s X x) : ∃ c : Nat → Int, ∀ j, j < n → p ∣ x j - sm s (fun i => c i * X i j) := by
  induction h with
  | @mem i hi =>
    refine ⟨fun k => if k = i then 1 else 0, fun j _ => ?_⟩
    rw [sm_one hi fun k _ hk => by
      show (if k = i then (1 : Int) else 0) * X k j = 0
      rw [if_neg hk, Int.zero_mul]]
    show p ∣ X i j - (if i = i then (1 : Int) else 0) * X i j
    rw [if_pos rfl, Int.one_mul, Int.sub_self]
    exact Int.dvd_zero p
  | zero =>
    refine ⟨fun _ => 0, fun j _ => ?_⟩
    rw [sm_zero fun i _ => Int.zero_mul _, Int.sub_self]
    exact Int.dvd_zero p
  | @lin x y a b _ _ h1 h2 =>
    obtain ⟨c, hc⟩ := h1
    obtain ⟨d, hd⟩ := h2
    refine ⟨fun i => a * c i + b * d i, fun j hj => ?_⟩
    have e : sm s (fun i => (a * c i + b * d i) * X i j) = a * sm s (fun i => c i * X i j) + b * sm s (fun i => d i * X i j) := by
      rw [← sm_mul, ← sm_mul, ← sm_add]
      exact sm_congr fun i _ => by rw [Int.add_mul, Int.mul_assoc, Int.mul_assoc]
    rw [e]
    have e2 : (a * x j + b * y j) - (a * sm s (fun i => c i * X i j) + b * sm s (fun i => d i * X i j)) = a * (x j - sm s (fun i => c i * X i j)) + b * (y j - sm s (fun i => d i * X i j)) := by grind
    rw [e2]
    exact Int.dvd_add (Int.dvd_mul_of_dvd_right (hc j hj)) (Int.dvd_mul_of_dvd_right (hd j hj))
  | @cg x y _ h ih =>
    obtain ⟨c, hc⟩ := ih
    refine ⟨c, fun j hj => ?_⟩
    have e : y j - sm s (fun i => c i * X i j) = (x j - sm s (fun i => c i * X i j)) - (x j - y j) := by omega
    rw [e]
    exact Int.dvd_sub (hc j hj) (h j hj)
def Pr (p : Int) : Prop := 2 ≤ p ∧ ∀ a b : Int, p ∣ a * b → p ∣ a ∨ p ∣ b
/-- fewer equations than unknowns: an answer that is not all nought -/
theorem more_unknowns {p : Int} (hp : Pr p) : ∀ (m k : Nat) (a : Nat → Nat → Int), m < k → ∃ c : Nat → Int, (∀ l, l < m → p ∣ sm k (fun i => c i * a i l)) ∧ ∃ i, i < k ∧ ¬ p ∣ c i
  | 0, k, a, h => ⟨fun _ => 1, fun l hl => absurd hl (Nat.not_lt_zero l), 0, h, fun z => by
    have h2 := hp.1
    have := Int.le_of_dvd (by decide) (show p ∣ 1 from z)
    omega⟩
  | m + 1, k, a, h => by
    by_cases hz : ∀ i, i < k → p ∣ a i m
    · obtain ⟨c, h1, h2⟩ := more_unknowns hp m k a (by omega)
      refine ⟨c, fun l hl => ?_, h2⟩
      by_cases e : l = m
      · subst e
        exact sm_dvd fun i hi => Int.dvd_mul_of_dvd_right (hz i hi)
      · exact h1 l (by omega)
    · obtain ⟨t, ht, hat⟩ : ∃ t, t < k ∧ ¬ p ∣ a t m := by
        refine Classical.byContradiction fun z => hz fun i hi => Classical.byContradiction fun w => z ⟨i, hi, w⟩
      obtain ⟨k', rfl⟩ : ∃ k', k = k' + 1 := ⟨k - 1, by omega⟩
      -- the row t goes last
      let u : Nat → Nat := fun i => if i < t then i else i + 1
      have uk : ∀ i, i < k' → u i < k' + 1 ∧ u i ≠ t := fun i hi => by
        show (if i < t then i else i + 1) < k' + 1 ∧ (if i < t then i else i + 1) ≠ t
        split <;> omega
      obtain ⟨c, h1, i0, hi0, hc0⟩ := more_unknowns hp m k' (fun i l => a t m * a (u i) l - a (u i) m * a t l) (by omega)
      let v : Nat → Nat := fun i => if i < t then i else i - 1
      let d : Nat → Int := fun i => if i = t then - sm k' (fun i => c i * a (u i) m) else a t m * c (v i)
      have split : ∀ f : Nat → Int, sm (k' + 1) f = sm k' (fun i => f (u i)) + f t := fun f => by
        have gen : ∀ q, q ≤ k' → sm q (fun i => f (u i)) = sm (if q < t + 1 then q else q + 1) f - (if q < t + 1 then 0 else f t) := fun q => by
          induction q with
          | zero => intro _; simp [sm]
          | succ q ih =>
            intro hq
            show sm q (fun i => f (u i)) + f (u q) = _
            rw [ih (by omega)]
            by_cases e1 : q < t
            · rw [if_pos (by omega), if_pos (by omega), if_pos (by omega), if_pos (by omega), show u q = q from if_pos e1]
              show sm q f - 0 + f q = sm q f + f q - 0
              omega
            · by_cases e2 : q = t
              · subst e2
                rw [if_pos (by omega), if_pos (by omega), if_neg (by omega), if_neg (by omega), show u q = q + 1 from if_neg (by omega)]
                show sm q f - 0 + f (q + 1) = (sm q f + f q) + f (q + 1) - f q
                omega
              · rw [if_neg (by omega), if_neg (by omega), if_neg (by omega), if_neg (by omega), show u q = q + 1 from if_neg (by omega)]
                show sm (q + 1) f - f t + f (q + 1) = (sm (q + 1) f + f (q + 1)) - f t
                omega
        have := gen k' (Nat.le_refl _)
        by_cases e : k' < t + 1
        · have e2 : t = k' := by omega
          rw [if_pos e, if_pos e] at this
          rw [this, e2]
          show sm k' f + f k' = _
          omega
        · rw [if_neg e, if_neg e] at this
          rw [this]
          omega
      have du : ∀ i, i < k' → d (u i) = a t m * c i := fun i hi => by
        have h := (uk i hi).2
        show (if u i = t then _ else a t m * c (v (u i))) = _
        rw [if_neg h]
        have : v (u i) = i := by
          show (if (if i < t then i else i + 1) < t then (if i < t then i else i + 1) else (if i < t then i else i + 1) - 1) = i
          by_cases e : i < t
          · rw [if_pos e, if_pos e]
          · rw [if_neg e, if_neg (by omega)]
            omega
        rw [this]
      have dt : d t = - sm k' (fun i => c i * a (u i) m) := if_pos rfl
      refine ⟨d, fun l hl => ?_, u i0, (uk i0 hi0).1, ?_⟩
      · rw [split, dt, sm_congr (g := fun i => a t m * (c i * a (u i) l)) fun i hi => by rw [du i hi, Int.mul_assoc], sm_mul]
        by_cases e : l = m
        · subst e
          rw [show a t l * sm k' (fun i => c i * a (u i) l) + -sm k' (fun i => c i * a (u i) l) * a t l = 0 by grind]
          exact Int.dvd_zero p
        · have h3 := h1 l (by omega)
          have e3 : sm k' (fun i => c i * (a t m * a (u i) l - a (u i) m * a t l)) = a t m * sm k' (fun i => c i * a (u i) l) + -sm k' (fun i => c i * a (u i) m) * a t l := by
            rw [sm_congr (g := fun i => a t m * (c i * a (u i) l) + (- a t l) * (c i * a (u i) m)) fun i _ => by grind, sm_add, sm_mul, sm_mul]
            grind
          rw [← e3]
          exact h3
      · rw [du i0 hi0]
        intro z
        rcases hp.2 _ _ z with z | z
        · exact hat z
        · exact hc0 z
def Indep (p : Int) (k : Nat) (X : Nat → Nat → Int) (n : Nat) : Prop := ∀ c : Nat → Int, (∀ j, j < n → p ∣ sm k (fun i => c i * X i j)) → ∀ i, i < k → p ∣ c i
/-- free rows that others span are no more than these -/
theorem steinitz {p : Int} (hp : Pr p) {k m n : Nat} {X Y : Nat → Nat → Int} (hX : Indep p k X n) (h : ∀ i, i < k → Sp p n m Y (X i)) : k ≤ m := by
  refine Classical.byContradiction fun z => ?_
  have hc : ∀ i, ∃ c : Nat → Int, i < k → ∀ j, j < n → p ∣ X i j - sm m (fun l => c l * Y l j) := fun i => by
    by_cases hi : i < k
    · obtain ⟨c, hc⟩ := (h i hi).coef
      exact ⟨c, fun _ => hc⟩
    · exact ⟨fun _ => 0, fun h => absurd h hi⟩
  let a : Nat → Nat → Int := fun i => Classical.choose (hc i)
  have ha : ∀ i, i < k → ∀ j, j < n → p ∣ X i j - sm m (fun l => a i l * Y l j) := fun i => Classical.choose_spec (hc i)
  obtain ⟨c, h1, i0, hi0, hc0⟩ := more_unknowns hp m k a (by omega)
  refine hc0 (hX c (fun j hj => ?_) i0 hi0)
  have e1 : p ∣ sm k (fun i => c i * X i j) - sm k (fun i => c i * sm m (fun l => a i l * Y l j)) := sm_dvd_sub fun i hi => by
    rw [← Int.mul_sub]
    exact Int.dvd_mul_of_dvd_right (ha i hi j hj)
  have e2 : sm k (fun i => c i * sm m (fun l => a i l * Y l j)) = sm m (fun l => sm k (fun i => c i * a i l) * Y l j) := by
    rw [sm_congr (g := fun i => sm m (fun l => c i * (a i l * Y l j))) fun i _ => (sm_mul _).symm, sm_swap]
    refine sm_congr fun l _ => ?_
    rw [Int.mul_comm, ← sm_mul]
    exact sm_congr fun i _ => by grind
  have e3 : p ∣ sm m (fun l => sm k (fun i => c i * a i l) * Y l j) := sm_dvd fun l hl => Int.dvd_mul_of_dvd_left (h1 l hl)
  rw [e2] at e1
  have := Int.dvd_add e1 e3
  rw [Int.sub_add_cancel] at this
  exact this
/-- rows with leading places of their own are free -/
theorem indep_tri {p : Int} (hp : Pr p) {k n : Nat} {X : Nat → Nat → Int} (q : Nat → Nat) (hq : ∀ i, i < k → q i < n) (h1 : ∀ i, i < k → ¬ p ∣ X i (q i)) (h0 : ∀ i j, i < k → j < k → i < j → p ∣ X j (q i)) : Indep p k X n := by
  intro c hc
  have all : ∀ t, ∀ i, i < t → i < k → p ∣ c i := by
    intro t
    induction t with
    | zero => intro i h; exact absurd h (Nat.not_lt_zero i)
    | succ t ih =>
      intro i hi hk
      by_cases e : i = t
      · subst e
        have h2 : p ∣ sm k (fun l => if l = i then 0 else c l * X l (q i)) := sm_dvd fun l hl => by
          by_cases e : l = i
          · rw [if_pos e]
            exact Int.dvd_zero p
          · rw [if_neg e]
            rcases Nat.lt_or_ge l i with z | z
            · exact Int.dvd_mul_of_dvd_left (ih l z hl)
            · exact Int.dvd_mul_of_dvd_right (h0 i l hk hl (by omega))
        have e2 : sm k (fun l => c l * X l (q i)) = sm k (fun l => if l = i then 0 else c l * X l (q i)) + sm k (fun l => if l = i then c l * X l (q i) else 0) := by
          rw [← sm_add]
          exact sm_congr fun l _ => by
            split <;> omega
        have e3 : sm k (fun l => if l = i then c l * X l (q i) else 0) = c i * X i (q i) := by
          rw [sm_one hk fun l _ hl => if_neg hl, if_pos rfl]
        have h3 := hc (q i) (hq i hk)
        rw [e2, e3] at h3
        have h4 := Int.dvd_sub h3 h2
        rw [show ∀ a b : Int, a + b - a = b from fun a b => by omega] at h4
        rcases hp.2 _ _ h4 with z | z
        · exact z
        · exact absurd z (h1 i hk)
      · exact ih i (by omega) hk
  exact fun i hi => all k i hi hi
end LA
/-! inverses below a prime; a power of a number below a prime -/
namespace LA
open K00
theorem pr_of {p : Int} (h : isP p = true) (hp : p ≤ 65521) : Pr p := by
  have h2 := isP_ge h
  refine ⟨h2, fun a b hab => ?_⟩
  by_cases ha : p ∣ a
  · exact .inl ha
  · refine .inr ?_
    have h0 := Int.emod_nonneg a (show p ≠ 0 by omega)
    have h1 := Int.emod_lt_of_pos a (show 0 < p by omega)
    have h3 : a % p ≠ 0 := fun z => ha (Int.dvd_of_emod_eq_zero z)
    obtain ⟨u, v, e⟩ := cop_of h hp (show 1 ≤ a % p by omega) h1
    obtain ⟨k, hk⟩ := hab
    have e2 : a = p * (a / p) + a % p := (Int.mul_ediv_add_emod a p).symm
    refine ⟨u * b + v * (k - (a / p) * b), ?_⟩
    generalize a % p = r at *
    generalize a / p = q at *
    subst e2
    have : b = (u * p + v * r) * b := by rw [e, Int.one_mul]
    rw [show p * (u * b + v * (k - q * b)) = u * p * b + v * (p * k - p * q * b) by grind, ← hk]
    grind
theorem inv_ex {p a : Int} (h : isP p = true) (hp : p ≤ 65521) (ha : ¬ p ∣ a) : ∃ v, 0 ≤ v ∧ v < p ∧ p ∣ a * v - 1 := by
  have h2 := isP_ge h
  have h0 := Int.emod_nonneg a (show p ≠ 0 by omega)
  have h1 := Int.emod_lt_of_pos a (show 0 < p by omega)
  have h3 : a % p ≠ 0 := fun z => ha (Int.dvd_of_emod_eq_zero z)
  obtain ⟨u, v, e⟩ := cop_of h hp (show 1 ≤ a % p by omega) h1
  refine ⟨v % p, Int.emod_nonneg _ (by omega), Int.emod_lt_of_pos _ (by omega), ?_⟩
  have e2 : a = p * (a / p) + a % p := (Int.mul_ediv_add_emod a p).symm
  have e3 : v = p * (v / p) + v % p := (Int.mul_ediv_add_emod v p).symm
  refine ⟨(a / p) * (v % p) - (v / p) * (a % p) - u, ?_⟩
  generalize a % p = r at *
  generalize a / p = q at *
  generalize v % p = w at *
  generalize v / p = z at *
  subst e2 e3
  grind
open Classical in
noncomputable def invF (a p : Int) : Int := if h : ∃ v, 0 ≤ v ∧ v < p ∧ p ∣ a * v - 1 then choose h else 0
theorem invF_spec {p a : Int} (h : isP p = true) (hp : p ≤ 65521) (ha : ¬ p ∣ a) : 0 ≤ invF a p ∧ invF a p < p ∧ p ∣ a * invF a p - 1 := by
  have ex := inv_ex h hp ha
  unfold invF
  rw [dif_pos ex]
  exact Classical.choose_spec ex
theorem dvd_small {p x : Int} (h : p ∣ x) (h1 : -p < x) (h2 : x < p) : x = 0 := by
  obtain ⟨k, rfl⟩ := h
  have hp : 0 < p := by omega
  have : k = 0 := by
    rcases Int.lt_trichotomy k 0 with z | z | z
    · have : p * k ≤ p * (-1) := Int.mul_le_mul_of_nonneg_left (by omega) (by omega)
      omega
    · exact z
    · have : p * 1 ≤ p * k := Int.mul_le_mul_of_nonneg_left (by omega) (by omega)
      omega
  rw [this, Int.mul_zero]
theorem invF_uniq {p a v : Int} (h : isP p = true) (hp : p ≤ 65521) (h0 : 0 ≤ v) (h1 : v < p) (hv : p ∣ a * v - 1) : v = invF a p := by
  have P := pr_of h hp
  have h2 := P.1
  have ha : ¬ p ∣ a := fun z => by
    have := Int.dvd_sub (show p ∣ a * v from Int.dvd_mul_of_dvd_left z) hv
    rw [show a * v - (a * v - 1) = 1 by omega] at this
    have := Int.le_of_dvd (by decide) this
    omega
  obtain ⟨w0, w1, w2⟩ := invF_spec h hp ha
  have h3 := Int.dvd_sub hv w2
  rw [show a * v - 1 - (a * invF a p - 1) = a * (v - invF a p) by grind] at h3
  rcases P.2 _ _ h3 with z | z
  · exact absurd z ha
  · have := dvd_small z (by omega) (by omega)
    omega
/-! a ^ (p - 1) -/
def prod : List Int → Int
  | [] => 1
  | x :: xs => x * prod xs
theorem prod_perm {l m : List Int} (h : l.Perm m) : prod l = prod m := by
  induction h with
  | nil => rfl
  | cons x _ ih => exact congrArg (x * ·) ih
  | swap x y l =>
    show y * (x * prod l) = x * (y * prod l)
    grind
  | trans _ _ h1 h2 => exact h1.trans h2
theorem prod_mul (a : Int) : ∀ l : List Int, prod (l.map (a * ·)) = a ^ l.length * prod l
  | [] => by show (1 : Int) = a ^ 0 * 1; rw [Int.pow_zero]; rfl
  | x :: xs => by
    show a * x * prod (xs.map (a * ·)) = a ^ (xs.length + 1) * (x * prod xs)
    rw [prod_mul a xs, Int.pow_succ]
    grind
theorem prod_mod {p : Int} : ∀ l : List Int, p ∣ prod l - prod (l.map (· % p))
  | [] => ⟨0, by show (1 : Int) - 1 = _; omega⟩
  | x :: xs => by
    obtain ⟨k, hk⟩ := prod_mod (p := p) xs
    have e2 : x = p * (x / p) + x % p := (Int.mul_ediv_add_emod x p).symm
    refine ⟨(x / p) * prod xs + (x % p) * k, ?_⟩
    show x * prod xs - (x % p) * prod (xs.map (· % p)) = _
    generalize x % p = r at *
    generalize x / p = q at *
    subst e2
    grind
theorem prod_ndvd {p : Int} (P : Pr p) : ∀ {l : List Int}, (∀ x ∈ l, ¬ p ∣ x) → ¬ p ∣ prod l
  | [], _, h => by
    have := Int.le_of_dvd (by decide) (show p ∣ 1 from h)
    have := P.1
    omega
  | x :: xs, hx, h => by
    rcases P.2 _ _ h with z | z
    · exact hx x List.mem_cons_self z
    · exact prod_ndvd P (fun y hy => hx y (List.mem_cons_of_mem _ hy)) z
def ups (n : Nat) : List Int := (List.range n).map fun i => ((i + 1 : Nat) : Int)
theorem ups_mem {n : Nat} {x : Int} : x ∈ ups n ↔ 1 ≤ x ∧ x ≤ n := by
  unfold ups
  rw [List.mem_map]
  constructor
  · rintro ⟨i, hi, rfl⟩
    have := List.mem_range.mp hi
    omega
  · rintro ⟨h1, h2⟩
    exact ⟨x.toNat - 1, List.mem_range.mpr (by omega), by omega⟩
theorem nodup_map {α β : Type} {f : α → β} : ∀ {l : List α}, l.Nodup → (∀ x ∈ l, ∀ y ∈ l, f x = f y → x = y) → (l.map f).Nodup
  | [], _, _ => List.nodup_nil
  | x :: xs, h, hf => by
    rw [List.nodup_cons] at h
    rw [List.map_cons, List.nodup_cons]
    refine ⟨fun z => ?_, nodup_map h.2 fun a ha b hb => hf a (List.mem_cons_of_mem _ ha) b (List.mem_cons_of_mem _ hb)⟩
    obtain ⟨y, hy, e⟩ := List.mem_map.mp z
    exact h.1 ((hf y (List.mem_cons_of_mem _ hy) x List.mem_cons_self e) ▸ hy)
theorem ups_nodup (n : Nat) : (ups n).Nodup := nodup_map List.nodup_range fun x _ y _ h => by omega
theorem perm_of {l m : List Int} (hl : l.Nodup) (hm : m.Nodup) (h : ∀ x, x ∈ l ↔ x ∈ m) : l.Perm m := by
  rw [List.perm_iff_count]
  intro a
  have h1 := List.nodup_iff_count.mp hl a
  have h2 := List.nodup_iff_count.mp hm a
  by_cases z : a ∈ l
  · have e1 := List.count_pos_iff.mpr z
    have e2 := List.count_pos_iff.mpr ((h a).mp z)
    omega
  · rw [List.count_eq_zero.mpr z, List.count_eq_zero.mpr fun w => z ((h a).mpr w)]
theorem fermat {p a : Int} (h : isP p = true) (hp : p ≤ 65521) (ha : ¬ p ∣ a) : p ∣ a ^ (p.toNat - 1) - 1 := by
  have P := pr_of h hp
  have h2 := P.1
  have hn : (((p.toNat - 1 : Nat) : Int)) = p - 1 := by omega
  have nd : ∀ x ∈ ups (p.toNat - 1), ¬ p ∣ x := fun x hx z => by
    have := ups_mem.mp hx
    have := dvd_small z (by omega) (by omega)
    omega
  have pm : ((ups (p.toNat - 1)).map fun x => a * x % p).Perm (ups (p.toNat - 1)) := by
    refine perm_of (nodup_map (ups_nodup _) fun x hx y hy e => ?_) (ups_nodup _) fun x => ?_
    · have h3 := ups_mem.mp hx
      have h4 := ups_mem.mp hy
      have h5 : p ∣ a * (x - y) := by
        have := Int.emod_eq_emod_iff_emod_sub_eq_zero.mp e
        rw [Int.mul_sub]
        exact Int.dvd_of_emod_eq_zero this
      rcases P.2 _ _ h5 with z | z
      · exact absurd z ha
      · have := dvd_small z (by omega) (by omega)
        omega
    · rw [List.mem_map]
      constructor
      · rintro ⟨y, hy, rfl⟩
        have h0 := Int.emod_nonneg (a * y) (show p ≠ 0 by omega)
        have h1 := Int.emod_lt_of_pos (a * y) (show 0 < p by omega)
        have h3 : a * y % p ≠ 0 := fun z => by
          rcases P.2 _ _ (Int.dvd_of_emod_eq_zero z) with z | z
          · exact ha z
          · exact nd y hy z
        exact ups_mem.mpr ⟨by omega, by omega⟩
      · intro hx
        have h3 := ups_mem.mp hx
        obtain ⟨w0, w1, w2⟩ := invF_spec h hp ha
        have h0 := Int.emod_nonneg (invF a p * x) (show p ≠ 0 by omega)
        have h1 := Int.emod_lt_of_pos (invF a p * x) (show 0 < p by omega)
        have h4 : a * (invF a p * x % p) % p = x := by
          rw [Int.mul_emod, Int.emod_emod, ← Int.mul_emod, show a * (invF a p * x) = x + (a * invF a p - 1) * x by grind, Int.add_emod, Int.emod_eq_zero_of_dvd (Int.dvd_mul_of_dvd_left w2), Int.add_zero, Int.emod_emod]
          exact Int.emod_eq_of_lt (by omega) (by omega)
        refine ⟨invF a p * x % p, ups_mem.mpr ⟨?_, by omega⟩, h4⟩
        rcases Int.lt_or_le (invF a p * x % p) 1 with z | z
        · have : invF a p * x % p = 0 := by omega
          rw [this, Int.mul_zero, Int.zero_emod] at h4
          omega
        · exact z
  have e1 := prod_perm pm
  have e2 := prod_mod (p := p) ((ups (p.toNat - 1)).map (a * ·))
  rw [List.map_map, show ((· % p) ∘ (a * ·) : Int → Int) = fun x => a * x % p from rfl, e1, prod_mul, show (ups (p.toNat - 1)).length = p.toNat - 1 by rw [ups, List.length_map, List.length_range], show a ^ (p.toNat - 1) * prod (ups (p.toNat - 1)) - prod (ups (p.toNat - 1)) = (a ^ (p.toNat - 1) - 1) * prod (ups (p.toNat - 1)) by grind] at e2
  rcases P.2 _ _ e2 with z | z
  · exact z
  · exact absurd z (prod_ndvd P nd)
end LA
/-! rows reduced, as the program does it -/
namespace LA
open K00
def en (F : List (List Int)) (i j : Nat) : Int := (F.getD i []).getD j 0
def combV (p f : Int) (r o : List Int) : List Int := List.zipWith (fun x y => (x + f * y) % p) r o
noncomputable section
def ffF (F : List (List Int)) (top place : Nat) : Option Nat := (List.range F.length).find? fun i => decide (top ≤ i) && decide (en F i place ≠ 0)
def leadF (p : Int) (F : List (List Int)) (top place : Nat) : List Int := (F.getD top []).map fun x => invF (en F top place) p * x % p
def clF (p : Int) (F : List (List Int)) (top place : Nat) : List (List Int) := (List.range F.length).map fun i => if i = top then leadF p F top place else combV p (-(en F i place)) (F.getD i []) (leadF p F top place)
def swF (F : List (List Int)) (top a : Nat) : List (List Int) := (F.set top (F.getD a [])).set a (F.getD top [])
def stepF (p : Int) (st : List (List Int) × List Nat) (place : Nat) : List (List Int) × List Nat := match ffF st.1 st.2.length place with
  | none => st
  | some a => (clF p (swF st.1 st.2.length a) st.2.length place, st.2 ++ [place])
def modF (p : Int) (rows : List (List Int)) : List (List Int) := rows.map fun r => r.map (· % p)
def redF (p : Int) (rows : List (List Int)) (many : Nat) : List (List Int) × List Nat := (List.range many).foldl (stepF p) (modF p rows, [])
end
theorem gd_at {α : Type} {l : List α} {i : Nat} {d : α} (h : i < l.length) : l.getD i d = l[i] := by
  rw [List.getD_eq_getElem?_getD, List.getElem?_eq_getElem h]
  rfl
theorem gd_mem {α : Type} {l : List α} {i : Nat} {d : α} (h : i < l.length) : l.getD i d ∈ l := by
  rw [gd_at h]
  exact List.getElem_mem h
theorem gd_map {α β : Type} {l : List α} {i : Nat} {d : β} (d' : α) {f : α → β} (h : i < l.length) : (l.map f).getD i d = f (l.getD i d') := by
  rw [gd_at (by rw [List.length_map]; exact h), List.getElem_map, gd_at h]
theorem gd_range {β : Type} {s i : Nat} {d : β} {f : Nat → β} (h : i < s) : ((List.range s).map f).getD i d = f i := by
  rw [gd_map 0 (by rw [List.length_range]; exact h), gd_at (by rw [List.length_range]; exact h), List.getElem_range]
theorem gd_comb {p f : Int} {r o : List Int} {j : Nat} (h1 : j < r.length) (h2 : j < o.length) : (combV p f r o).getD j 0 = (r.getD j 0 + f * o.getD j 0) % p := by
  unfold combV
  rw [gd_at (by rw [List.length_zipWith]; omega), List.getElem_zipWith, gd_at h1, gd_at h2]
theorem gd_set {α : Type} {l : List α} {i j : Nat} {y d : α} (hj : j < l.length) : (l.set j y).getD i d = if i = j then y else l.getD i d := by
  rw [List.getD_eq_getElem?_getD, List.getD_eq_getElem?_getD, List.getElem?_set]
  by_cases h : j = i
  · subst h
    rw [if_pos rfl, if_pos rfl, if_pos hj]
    rfl
  · rw [if_neg h, if_neg (fun z => h z.symm)]
/-- s rows of n numbers below p -/
structure Rc (p : Int) (s n : Nat) (F : List (List Int)) : Prop where
  len : F.length = s
  row : ∀ r ∈ F, r.length = n ∧ ∀ x ∈ r, 0 ≤ x ∧ x < p
theorem Rc.rl {p : Int} {s n : Nat} {F : List (List Int)} (h : Rc p s n F) {i : Nat} (hi : i < s) : (F.getD i []).length = n := (h.row _ (gd_mem (by rw [h.len]; exact hi))).1
theorem Rc.en {p : Int} {s n : Nat} {F : List (List Int)} (h : Rc p s n F) {i j : Nat} (hi : i < s) (hj : j < n) : 0 ≤ en F i j ∧ en F i j < p :=
  (h.row _ (gd_mem (by rw [h.len]; exact hi))).2 _ (gd_mem (by rw [h.rl hi]; exact hj))
theorem sw_at {s : Nat} {F : List (List Int)} (hl : F.length = s) {top a : Nat} (ht : top < s) (ha : a < s) (i : Nat) : (swF F top a).getD i [] = if i = a then F.getD top [] else if i = top then F.getD a [] else F.getD i [] := by
  unfold swF
  rw [gd_set (by rw [List.length_set, hl]; exact ha), gd_set (by rw [hl]; exact ht)]
theorem sw_len (F : List (List Int)) (top a : Nat) : (swF F top a).length = F.length := by rw [swF, List.length_set, List.length_set]
theorem en_sw {s : Nat} {F : List (List Int)} (hl : F.length = s) {top a : Nat} (ht : top < s) (ha : a < s) (i : Nat) : en (swF F top a) i = if i = a then en F top else if i = top then en F a else en F i := by
  funext j
  unfold en
  rw [sw_at hl ht ha]
  split
  · rfl
  · split <;> rfl
theorem Rc.sw {p : Int} {s n : Nat} {F : List (List Int)} (h : Rc p s n F) {top a : Nat} (ht : top < s) (ha : a < s) : Rc p s n (swF F top a) := by
  refine ⟨by rw [sw_len]; exact h.len, fun r hr => ?_⟩
  obtain ⟨i, hi, rfl⟩ := List.getElem_of_mem hr
  rw [sw_len, h.len] at hi
  rw [← gd_at (d := []), sw_at h.len ht ha]
  split
  · exact h.row _ (gd_mem (by rw [h.len]; exact ht))
  · split
    · exact h.row _ (gd_mem (by rw [h.len]; exact ha))
    · exact h.row _ (gd_mem (by rw [h.len]; exact hi))
theorem md {p : Int} (hp : 2 ≤ p) (x : Int) : 0 ≤ x % p ∧ x % p < p := ⟨Int.emod_nonneg _ (by omega), Int.emod_lt_of_pos _ (by omega)⟩
theorem md_dvd {p x : Int} : p ∣ x - x % p := ⟨x / p, by have := Int.mul_ediv_add_emod x p; omega⟩
theorem Rc.cl {p : Int} (hp : 2 ≤ p) {s n : Nat} {F : List (List Int)} (h : Rc p s n F) {top : Nat} (ht : top < s) (t : Nat) : Rc p s n (clF p F top t) := by
  refine ⟨by rw [clF, List.length_map, List.length_range]; exact h.len, fun r hr => ?_⟩
  obtain ⟨i, hi, rfl⟩ := List.mem_map.mp hr
  have hi := List.mem_range.mp hi
  rw [h.len] at hi
  have hl : (leadF p F top t).length = n := by rw [leadF, List.length_map]; exact h.rl ht
  split
  · refine ⟨hl, fun x hx => ?_⟩
    obtain ⟨y, _, rfl⟩ := List.mem_map.mp hx
    exact md hp _
  · refine ⟨by rw [combV, List.length_zipWith, hl, h.rl hi, Nat.min_self], fun x hx => ?_⟩
    obtain ⟨j, hj, rfl⟩ := List.getElem_of_mem hx
    simp only [combV, List.getElem_zipWith]
    exact md hp _
theorem en_lead {p : Int} {s n : Nat} {F : List (List Int)} (h : Rc p s n F) {top t j : Nat} (ht : top < s) (hj : j < n) : (leadF p F top t).getD j 0 = invF (en F top t) p * en F top j % p := by
  unfold leadF
  rw [gd_map 0 (by rw [h.rl ht]; exact hj)]
  rfl
theorem en_cl_top {p : Int} {s n : Nat} {F : List (List Int)} (h : Rc p s n F) {top t j : Nat} (ht : top < s) (hj : j < n) : en (clF p F top t) top j = invF (en F top t) p * en F top j % p := by
  rw [← en_lead h ht hj]
  unfold en clF
  rw [gd_range (by rw [h.len]; exact ht), if_pos rfl]
theorem en_cl {p : Int} {s n : Nat} {F : List (List Int)} (h : Rc p s n F) {top t i j : Nat} (ht : top < s) (hi : i < s) (hn : i ≠ top) (hj : j < n) : en (clF p F top t) i j = (en F i j + -(en F i t) * (invF (en F top t) p * en F top j % p)) % p := by
  rw [← en_lead h ht hj]
  have hl : (leadF p F top t).length = n := by rw [leadF, List.length_map]; exact h.rl ht
  show ((clF p F top t).getD i []).getD j 0 = _
  unfold clF
  rw [gd_range (by rw [h.len]; exact hi), if_neg hn, gd_comb (by rw [h.rl hi]; exact hj) (by rw [hl]; exact hj)]
  rfl
/-- how far the reduction is: the places below t are done -/
structure Inv (p : Int) (s n t : Nat) (R : List (List Int)) (F : List (List Int)) (pl : List Nat) : Prop where
  rc : Rc p s n F
  sp1 : ∀ i, i < s → Sp p n s (en R) (en F i)
  sp2 : ∀ i, i < s → Sp p n s (en F) (en R i)
  top : pl.length ≤ s
  lt : ∀ i, i < pl.length → pl.getD i 0 < t
  inc : ∀ i j, i < j → j < pl.length → pl.getD i 0 < pl.getD j 0
  one : ∀ i, i < pl.length → en F i (pl.getD i 0) = 1
  oth : ∀ i k, i < pl.length → k < s → k ≠ i → en F k (pl.getD i 0) = 0
  bef : ∀ i j, i < pl.length → j < pl.getD i 0 → en F i j = 0
  low : ∀ i j, pl.length ≤ i → i < s → j < t → en F i j = 0
theorem ff_none {F : List (List Int)} {top t : Nat} (h : ffF F top t = none) {i : Nat} (h1 : top ≤ i) (h2 : i < F.length) : en F i t = 0 := by
  have := List.find?_eq_none.mp h i (List.mem_range.mpr h2)
  rw [decide_eq_true h1, Bool.true_and, decide_eq_true_eq] at this
  exact Classical.byContradiction fun z => this z
theorem ff_some {F : List (List Int)} {top t a : Nat} (h : ffF F top t = some a) : top ≤ a ∧ a < F.length ∧ en F a t ≠ 0 := by
  have h1 := List.find?_some h
  have h2 := List.mem_range.mp (List.mem_of_find?_eq_some h)
  rw [Bool.and_eq_true, decide_eq_true_eq, decide_eq_true_eq] at h1
  exact ⟨h1.1, h2, h1.2⟩
theorem small_ndvd {p x : Int} (h0 : 0 ≤ x) (h1 : x < p) (hx : x ≠ 0) : ¬ p ∣ x := fun z => hx (dvd_small z (by omega) h1)
theorem Inv.step {p : Int} (hP : isP p = true) (hp : p ≤ 65521) {s n t : Nat} {R F : List (List Int)} {pl : List Nat} (I : Inv p s n t R F pl) (ht : t < n) : Inv p s n (t + 1) R (stepF p (F, pl) t).1 (stepF p (F, pl) t).2 := by
  have p2 := isP_ge hP
  have hl := I.rc.len
  have e : stepF p (F, pl) t = match ffF F pl.length t with
    | none => (F, pl)
    | some a => (clF p (swF F pl.length a) pl.length t, pl ++ [t]) := rfl
  cases hf : ffF F pl.length t with
  | none =>
    rw [e, hf]
    exact ⟨I.rc, I.sp1, I.sp2, I.top, fun i hi => Nat.lt_succ_of_lt (I.lt i hi), I.inc, I.one, I.oth, I.bef, fun i j h1 h2 h3 => by
      by_cases z : j = t
      · rw [z]
        exact ff_none hf h1 (by rw [hl]; exact h2)
      · exact I.low i j h1 h2 (by omega)⟩
  | some a =>
    rw [e, hf]
    obtain ⟨ha1, ha2, ha3⟩ := ff_some hf
    rw [hl] at ha2
    generalize hT : pl.length = T at *
    have hTs : T < s := by omega
    have c1 := I.rc.sw hTs ha2
    have c2 := c1.cl p2 hTs t
    have es := fun i => en_sw hl hTs ha2 i
    have et : en (swF F T a) T = en F a := by
      rw [es]
      split
      · rename_i z
        rw [z]
      · rw [if_pos rfl]
    have nw := small_ndvd (I.rc.en ha2 ht).1 (I.rc.en ha2 ht).2 ha3
    obtain ⟨v0, v1, v2⟩ := invF_spec hP hp nw
    -- the leading row
    have l0 : ∀ j, j < t → en F a j = 0 := fun j hj => I.low a j (by omega) ha2 hj
    have topj : ∀ j, j < n → en (clF p (swF F T a) T t) T j = invF (en F a t) p * en F a j % p := fun j hj => by rw [en_cl_top c1 hTs hj, et]
    have othj : ∀ i j, i < s → i ≠ T → j < n → en (clF p (swF F T a) T t) i j = (en (swF F T a) i j + -(en (swF F T a) i t) * (invF (en F a t) p * en F a j % p)) % p := fun i j hi hn hj => by rw [en_cl c1 hTs hi hn hj, et]
    have lt1 : invF (en F a t) p * en F a t % p = 1 := by
      have := Int.emod_emod_of_dvd (invF (en F a t) p * en F a t) (Int.dvd_refl p)
      have h3 : (invF (en F a t) p * en F a t) % p = 1 % p := Int.emod_eq_emod_iff_emod_sub_eq_zero.mpr (Int.emod_eq_zero_of_dvd (by rw [Int.mul_comm]; exact v2))
      rw [h3, Int.emod_eq_of_lt (by omega) (by omega)]
    have same : ∀ i j, i < s → j < t → en (clF p (swF F T a) T t) i j = en (swF F T a) i j := fun i j hi hj => by
      by_cases z : i = T
      · subst z
        rw [topj j (by omega), l0 j hj, Int.mul_zero, Int.zero_emod, et, l0 j hj]
      · rw [othj i j hi z (by omega), l0 j hj, Int.mul_zero, Int.zero_emod, Int.mul_zero, Int.add_zero]
        have := c1.en hi (show j < n by omega)
        exact Int.emod_eq_of_lt this.1 this.2
    have col : ∀ i, i < s → i ≠ T → en (clF p (swF F T a) T t) i t = 0 := fun i hi hn => by
      rw [othj i t hi hn ht, lt1, Int.mul_one, Int.add_right_neg, Int.zero_emod]
    have pT : ∀ i, i < T → (pl ++ [t]).getD i 0 = pl.getD i 0 := fun i hi => by
      rw [List.getD_eq_getElem?_getD, List.getElem?_append_left (by omega), List.getD_eq_getElem?_getD]
    have pTT : (pl ++ [t]).getD T 0 = t := by
      rw [List.getD_eq_getElem?_getD, List.getElem?_append_right (by omega), hT, Nat.sub_self]
      rfl
    have lenp : (pl ++ [t]).length = T + 1 := by rw [List.length_append, hT]; rfl
    -- where a row of the exchanged ones stood
    have perm : ∀ i, i < s → ∃ i', i' < s ∧ en (swF F T a) i = en F i' ∧ (i < T → i' = i) ∧ (T ≤ i → T ≤ i') ∧ (∀ k, k < T → i ≠ k → i' ≠ k) := fun i hi => by
      rw [es]
      by_cases z1 : i = a
      · rw [if_pos z1]
        exact ⟨T, hTs, rfl, fun h => by omega, fun _ => Nat.le_refl _, fun k hk _ => by omega⟩
      · rw [if_neg z1]
        by_cases z2 : i = T
        · rw [if_pos z2]
          exact ⟨a, ha2, rfl, fun h => by omega, fun _ => ha1, fun k hk _ => by omega⟩
        · rw [if_neg z2]
          exact ⟨i, hi, rfl, fun _ => rfl, fun h => h, fun k _ h => h⟩
    -- spans
    have s1 : ∀ i, i < s → Sp p n s (en F) (en (swF F T a) i) := fun i hi => by
      obtain ⟨i', h1, h2, _⟩ := perm i hi
      rw [h2]
      exact .mem h1
    have s2 : ∀ i, i < s → Sp p n s (en (swF F T a)) (en F i) := fun i hi => by
      by_cases z1 : i = T
      · rw [z1, show en F T = en (swF F T a) a by rw [es, if_pos rfl]]
        exact .mem ha2
      · by_cases z2 : i = a
        · rw [z2, ← et]
          exact .mem hTs
        · rw [show en F i = en (swF F T a) i by rw [es, if_neg z2, if_neg z1]]
          exact .mem hi
    have s3 : ∀ i, i < s → Sp p n s (en (swF F T a)) (en (clF p (swF F T a) T t) i) := fun i hi => by
      by_cases z : i = T
      · subst z
        refine .cg (.lin (invF (en F a t) p) 0 (.mem hTs) .zero) fun j hj => ?_
        rw [topj j hj, et, Int.zero_mul, Int.add_zero]
        exact md_dvd
      · refine .cg (.lin 1 (-(en (swF F T a) i t) * invF (en F a t) p) (.mem hi) (.mem hTs)) fun j hj => ?_
        rw [othj i j hi z hj, et]
        have d1 := md_dvd (p := p) (x := invF (en F a t) p * en F a j)
        have d2 := md_dvd (p := p) (x := en (swF F T a) i j + -(en (swF F T a) i t) * (invF (en F a t) p * en F a j % p))
        have := Int.dvd_add d2 (Int.dvd_mul_of_dvd_right (a := p) (b := -(en (swF F T a) i t)) d1)
        refine (show ∀ x y : Int, x = y → p ∣ x → p ∣ y from fun x y e h => e ▸ h) _ _ ?_ this
        grind
    have s4 : ∀ i, i < s → Sp p n s (en (clF p (swF F T a) T t)) (en (swF F T a) i) := fun i hi => by
      by_cases z : i = T
      · subst z
        refine .cg (.lin (en F a t) 0 (.mem hTs) .zero) fun j hj => ?_
        rw [topj j hj, et, Int.zero_mul, Int.add_zero]
        have d1 := md_dvd (p := p) (x := invF (en F a t) p * en F a j)
        obtain ⟨k1, hk1⟩ := d1
        obtain ⟨k2, hk2⟩ := v2
        refine ⟨k2 * en F a j - en F a t * k1, ?_⟩
        grind
      · refine .cg (.lin 1 (en (swF F T a) i t) (.mem hi) (.mem hTs)) fun j hj => ?_
        rw [topj j hj, othj i j hi z hj]
        obtain ⟨k1, hk1⟩ := md_dvd (p := p) (x := en (swF F T a) i j + -(en (swF F T a) i t) * (invF (en F a t) p * en F a j % p))
        refine ⟨-k1, ?_⟩
        grind
    refine ⟨c2, fun i hi => ((s3 i hi).trans s1).trans I.sp1, fun i hi => ((I.sp2 i hi).trans s2).trans s4, by rw [lenp]; omega, fun i hi => ?_, fun i j h1 h2 => ?_, fun i hi => ?_, fun i k hi hk hn => ?_, fun i j hi hj => ?_, fun i j h1 h2 h3 => ?_⟩
    · rw [lenp] at hi
      by_cases z : i = T
      · rw [z, pTT]
        omega
      · rw [pT i (by omega)]
        have := I.lt i (by omega)
        omega
    · rw [lenp] at h2
      rw [pT i (by omega)]
      by_cases z : j = T
      · rw [z, pTT]
        exact I.lt i (by omega)
      · rw [pT j (by omega)]
        exact I.inc i j h1 (by omega)
    · rw [lenp] at hi
      by_cases z : i = T
      · rw [z, pTT, topj t ht, lt1]
      · rw [pT i (by omega)]
        have hq := I.lt i (by omega)
        obtain ⟨i', h1, h2, h3, _⟩ := perm i (by omega)
        rw [same i _ (by omega) hq, h2, h3 (by omega)]
        exact I.one i (by omega)
    · rw [lenp] at hi
      by_cases z : i = T
      · rw [z, pTT]
        exact col k hk (by omega)
      · rw [pT i (by omega)]
        have hq := I.lt i (by omega)
        obtain ⟨k', h1, h2, _, _, h5⟩ := perm k hk
        rw [same k _ hk hq, h2]
        exact I.oth i k' (by omega) h1 (h5 i (by omega) hn)
    · rw [lenp] at hi
      by_cases z : i = T
      · rw [z, pTT] at hj
        subst z
        rw [topj j (by omega), l0 j hj, Int.mul_zero, Int.zero_emod]
      · rw [pT i (by omega)] at hj
        have hq := I.lt i (by omega)
        obtain ⟨i', h1, h2, h3, _⟩ := perm i (by omega)
        rw [same i _ (by omega) (by omega), h2, h3 (by omega)]
        exact I.bef i j (by omega) hj
    · rw [lenp] at h1
      by_cases z : j = t
      · rw [z]
        exact col i h2 (by omega)
      · obtain ⟨i', h4, h5, _, h6, _⟩ := perm i h2
        rw [same i j h2 (by omega), h5]
        exact I.low i' j (by rw [hT]; exact h6 (by omega)) h4 (by omega)
theorem Inv.start {p : Int} (p2 : 2 ≤ p) {s n : Nat} {R : List (List Int)} (hl : R.length = s) (hr : ∀ r ∈ R, r.length = n) : Inv p s n 0 R (modF p R) [] := by
  have e : ∀ i j, i < s → j < n → en (modF p R) i j = en R i j % p := fun i j hi hj => by
    unfold en modF
    rw [gd_map [] (by rw [hl]; exact hi), gd_map 0 (by rw [hr _ (gd_mem (by rw [hl]; exact hi))]; exact hj)]
  refine ⟨⟨by rw [modF, List.length_map]; exact hl, fun r h => ?_⟩, fun i hi => .cg (.mem hi) fun j hj => ?_, fun i hi => .cg (.mem hi) fun j hj => ?_, Nat.zero_le _, nofun, fun _ _ _ h => absurd h (Nat.not_lt_zero _), nofun, fun _ _ h => absurd h (Nat.not_lt_zero _), fun _ _ h => absurd h (Nat.not_lt_zero _), fun _ _ _ _ h => absurd h (Nat.not_lt_zero _)⟩
  · obtain ⟨q, hq, rfl⟩ := List.mem_map.mp h
    refine ⟨by rw [List.length_map]; exact hr q hq, fun x hx => ?_⟩
    obtain ⟨y, _, rfl⟩ := List.mem_map.mp hx
    exact md p2 y
  · rw [e i j hi hj]
    exact md_dvd
  · rw [e i j hi hj]
    have := Int.dvd_neg.mpr (md_dvd (p := p) (x := en R i j))
    rw [Int.neg_sub] at this
    exact this
theorem red_inv {p : Int} (hP : isP p = true) (hp : p ≤ 65521) {s n : Nat} {R : List (List Int)} (hl : R.length = s) (hr : ∀ r ∈ R, r.length = n) : ∀ {t : Nat}, t ≤ n → Inv p s n t R (redF p R t).1 (redF p R t).2
  | 0, _ => Inv.start (isP_ge hP) hl hr
  | t + 1, h => by
    have I := red_inv hP hp hl hr (t := t) (by omega)
    have e : redF p R (t + 1) = stepF p (redF p R t) t := by
      unfold redF
      rw [List.range_succ, List.foldl_append]
      rfl
    rw [e]
    exact Inv.step hP hp (F := (redF p R t).1) (pl := (redF p R t).2) I (by omega)
end LA
/-! the rows that make a matrix nought; the rank as the law reckons it -/
namespace LA
open K00
theorem Sp.shift {p : Int} {m n s : Nat} {X : Nat → Nat → Int} {x : Nat → Int} (h : Sp p (m + n) s X x) : Sp p n s (fun i j => X i (m + j)) (fun j => x (m + j)) := by
  induction h with
  | mem hi => exact .mem (X := fun i j => X i (m + j)) hi
  | zero => exact .zero
  | lin a b _ _ h1 h2 => exact .lin a b h1 h2
  | cg _ h ih => exact .cg ih fun j hj => h (m + j) (by omega)
theorem Sp.of_zero {p : Int} {n s : Nat} {X : Nat → Nat → Int} {x : Nat → Int} (h : ∀ j, j < n → x j = 0) : Sp p n s X x := .cg .zero fun j hj => by
  rw [h j hj]
  exact ⟨0, by omega⟩
theorem Sp.of_eq {p : Int} {n s : Nat} {X : Nat → Nat → Int} {x y : Nat → Int} (h : Sp p n s X x) (e : ∀ j, j < n → x j = y j) : Sp p n s X y := .cg h fun j hj => by
  rw [e j hj, Int.sub_self]
  exact Int.dvd_zero p
def unitF (pl : Int) (n : Nat) : List Int := (List.range n).map fun (i : Nat) => if ((i : Nat) : Int) = pl then 1 else 0
def marksF (cs : List (List Int)) : List (List Int) := (List.range cs.length).map fun i => cs.getD i [] ++ unitF (i : Nat) cs.length
noncomputable def restF (p : Int) (cs : List (List Int)) (many : Nat) : List (List Int) := ((redF p (marksF cs) many).1.drop (redF p (marksF cs) many).2.length).map fun r => r.drop many
noncomputable def nullF (p : Int) (cs : List (List Int)) (many : Nat) : List (List Int) := (redF p (restF p cs many) cs.length).1
section
variable {p : Int} {s many : Nat} {cs : List (List Int)}
theorem marks_len : (marksF cs).length = cs.length := by rw [marksF, List.length_map, List.length_range]
theorem marks_row (h : ∀ r ∈ cs, r.length = many) : ∀ r ∈ marksF cs, r.length = many + cs.length := fun r hr => by
  obtain ⟨i, hi, rfl⟩ := List.mem_map.mp hr
  rw [List.length_append, h _ (gd_mem (List.mem_range.mp hi)), unitF, List.length_map, List.length_range]
theorem en_marks1 (h : ∀ r ∈ cs, r.length = many) {i j : Nat} (hi : i < cs.length) (hj : j < many) : en (marksF cs) i j = en cs i j := by
  unfold en marksF
  rw [gd_range hi, List.getD_eq_getElem?_getD, List.getElem?_append_left (by rw [h _ (gd_mem hi)]; exact hj), List.getD_eq_getElem?_getD (l := cs.getD i [])]
theorem en_marks2 (h : ∀ r ∈ cs, r.length = many) {i j : Nat} (hi : i < cs.length) (hj : j < cs.length) : en (marksF cs) i (many + j) = if j = i then 1 else 0 := by
  unfold en marksF
  rw [gd_range hi, List.getD_eq_getElem?_getD, List.getElem?_append_right (by rw [h _ (gd_mem hi)]; omega), h _ (gd_mem hi), Nat.add_sub_cancel_left, ← List.getD_eq_getElem?_getD, unitF, gd_range hj]
  by_cases z : j = i
  · rw [if_pos z, if_pos (by omega)]
  · rw [if_neg z, if_neg (by omega)]
structure NullOk (p : Int) (s many : Nat) (cs T : List (List Int)) (pl : List Nat) : Prop where
  rc : Rc p T.length s T
  len : pl.length = T.length
  lt : ∀ i, i < T.length → pl.getD i 0 < s
  inc : ∀ i j, i < j → j < T.length → pl.getD i 0 < pl.getD j 0
  one : ∀ i, i < T.length → en T i (pl.getD i 0) = 1
  oth : ∀ i k, i < T.length → k < T.length → k ≠ i → en T k (pl.getD i 0) = 0
  bef : ∀ i j, i < T.length → j < pl.getD i 0 → en T i j = 0
  null : ∀ i j, i < T.length → j < many → p ∣ sm s (fun l => en T i l * en cs l j)
theorem null_ok (hP : isP p = true) (hp : p ≤ 65521) (hs : cs.length = s) (h : ∀ r ∈ cs, r.length = many) :
    (redF p (marksF cs) many).2.length ≤ s ∧ (nullF p cs many).length = s - (redF p (marksF cs) many).2.length ∧ NullOk p s many cs (nullF p cs many) (redF p (restF p cs many) cs.length).2 := by
  have P := pr_of hP hp
  have ml : (marksF cs).length = s := by rw [marks_len, hs]
  have mr : ∀ r ∈ marksF cs, r.length = many + s := fun r hr => by rw [marks_row h r hr, hs]
  have I1 := red_inv hP hp ml mr (t := many) (by omega)
  have e1 : ∀ i j, i < s → j < many → en (marksF cs) i j = en cs i j := fun i j hi hj => en_marks1 h (by omega) hj
  have e2 : ∀ i j, i < s → j < s → en (marksF cs) i (many + j) = if j = i then 1 else 0 := fun i j hi hj => en_marks2 h (by omega) (by omega)
  have hr : (restF p cs many).length = s - (redF p (marksF cs) many).2.length := by rw [restF, List.length_map, List.length_drop, I1.rc.len]
  have hrr : ∀ r ∈ restF p cs many, r.length = s := fun r hr => by
    obtain ⟨q, hq, rfl⟩ := List.mem_map.mp hr
    rw [List.length_drop, (I1.rc.row q (List.mem_of_mem_drop hq)).1]
    omega
  have I2 := red_inv hP hp (s := s - (redF p (marksF cs) many).2.length) (n := s) hr hrr (t := s) (by omega)
  have e3 : ∀ i j, i < s - (redF p (marksF cs) many).2.length → j < s → en (restF p cs many) i j = en (redF p (marksF cs) many).1 ((redF p (marksF cs) many).2.length + i) (many + j) := fun i j hi hj => by
    unfold en restF
    rw [gd_map [] (by rw [List.length_drop, I1.rc.len]; exact hi)]
    simp only [List.getD_eq_getElem?_getD, List.getElem?_drop]
  have hT : nullF p cs many = (redF p (restF p cs many) s).1 := by rw [nullF, hs]
  rw [hT, hs]
  have htop := I1.top
  have htop2 := I2.top
  generalize hF : (redF p (marksF cs) many).1 = F at *
  generalize hpl : (redF p (marksF cs) many).2 = pl at *
  generalize hG : (redF p (restF p cs many) s).1 = G at *
  generalize hpl2 : (redF p (restF p cs many) s).2 = pl2 at *
  have glen := I2.rc.len
  have full : pl2.length = s - pl.length := by
    have st : s ≤ pl.length + pl2.length := by
      refine steinitz P (n := s) (X := fun i j => if j = i then 1 else 0) (Y := fun i j => if i < pl.length then en F i (many + j) else en G (i - pl.length) j) (indep_tri P id (fun i hi => hi) (fun i _ => ?_) fun i j _ _ hij => ?_) fun i hi => ?_
      · show ¬ p ∣ (if i = i then 1 else 0)
        rw [if_pos rfl]
        exact small_ndvd (by omega) (by have := P.1; omega) (by omega)
      · show p ∣ (if i = j then 1 else 0)
        rw [if_neg (by omega)]
        exact Int.dvd_zero p
      · refine (((I1.sp2 i hi).shift).of_eq fun j hj => e2 i j hi hj).trans fun k hk => ?_
        by_cases z : k < pl.length
        · refine (Sp.mem (i := k) (by omega)).of_eq fun j hj => ?_
          show (if k < pl.length then en F k (many + j) else _) = en F k (many + j)
          rw [if_pos z]
        · refine (((I2.sp2 (k - pl.length) (by omega)).of_eq (y := fun j => en F k (many + j)) fun j hj => ?_)).trans fun l hl => ?_
          · rw [e3 _ j (by omega) hj, show pl.length + (k - pl.length) = k by omega]
          · by_cases w : l < pl2.length
            · refine (Sp.mem (i := pl.length + l) (by omega)).of_eq fun j hj => ?_
              show (if pl.length + l < pl.length then en F (pl.length + l) (many + j) else en G (pl.length + l - pl.length) j) = en G l j
              rw [if_neg (by omega), Nat.add_sub_cancel_left]
            · exact Sp.of_zero fun j hj => I2.low l j (by omega) hl hj
    omega
  refine ⟨htop, glen, ⟨by rw [glen]; exact I2.rc, by rw [full, glen], fun i hi => I2.lt i (by omega), fun i j h1 h2 => I2.inc i j h1 (by omega), fun i hi => I2.one i (by omega), fun i k hi hk hn => I2.oth i k (by omega) (by omega) hn, fun i j hi hj => I2.bef i j (by omega) hj, fun i j hi hj => ?_⟩⟩
  have good : ∀ k, k < s → ∀ j, j < many → p ∣ en F k j - sm s (fun l => en F k (many + l) * en cs l j) := fun k hk => by
    refine (I1.sp1 k hk).keep (fun x => ∀ j, j < many → p ∣ x j - sm s (fun l => x (many + l) * en cs l j)) (fun i hi j hj => ?_) (fun j hj => ?_) (fun x y a b hx hy j hj => ?_) fun x y hx hxy j hj => ?_
    · rw [sm_one (t := i) hi fun l hl hn => by rw [e2 i l hi hl, if_neg hn, Int.zero_mul], e2 i i hi hi, if_pos rfl, Int.one_mul, e1 i j hi hj, Int.sub_self]
      exact Int.dvd_zero p
    · rw [sm_zero fun l _ => Int.zero_mul _]
      exact ⟨0, by show (0 : Int) - 0 = p * 0; omega⟩
    · have e : sm s (fun l => (a * x (many + l) + b * y (many + l)) * en cs l j) = a * sm s (fun l => x (many + l) * en cs l j) + b * sm s (fun l => y (many + l) * en cs l j) := by
        rw [← sm_mul, ← sm_mul, ← sm_add]
        exact sm_congr fun l _ => by grind
      show p ∣ a * x j + b * y j - sm s (fun l => (a * x (many + l) + b * y (many + l)) * en cs l j)
      rw [e]
      have := Int.dvd_add (Int.dvd_mul_of_dvd_right (b := a) (hx j hj)) (Int.dvd_mul_of_dvd_right (b := b) (hy j hj))
      refine (show ∀ x y : Int, x = y → p ∣ x → p ∣ y from fun x y e h => e ▸ h) _ _ ?_ this
      grind
    · have h1 := hx j hj
      have h2 : p ∣ sm s (fun l => x (many + l) * en cs l j) - sm s (fun l => y (many + l) * en cs l j) := sm_dvd_sub fun l hl => by
        rw [← Int.sub_mul]
        exact Int.dvd_mul_of_dvd_left (hxy (many + l) (by omega))
      have := Int.dvd_sub (Int.dvd_add h1 h2) (hxy j (by omega))
      refine (show ∀ x y : Int, x = y → p ∣ x → p ∣ y from fun x y e h => e ▸ h) _ _ ?_ this
      omega
  refine (I2.sp1 i (by omega)).keep (fun y => ∀ j, j < many → p ∣ sm s (fun l => y l * en cs l j)) (fun i hi j hj => ?_) (fun j hj => ?_) (fun x y a b hx hy j hj => ?_) (fun x y hx hxy j hj => ?_) j hj
  · have h1 := good (pl.length + i) (by omega) j hj
    rw [I1.low (pl.length + i) j (by omega) (by omega) hj, Int.zero_sub] at h1
    rw [sm_congr (g := fun l => en F (pl.length + i) (many + l) * en cs l j) fun l hl => by rw [e3 i l hi hl]]
    exact Int.dvd_neg.mp h1
  · rw [sm_zero fun l _ => Int.zero_mul _]
    exact Int.dvd_zero p
  · have e : sm s (fun l => (a * x l + b * y l) * en cs l j) = a * sm s (fun l => x l * en cs l j) + b * sm s (fun l => y l * en cs l j) := by
      rw [← sm_mul, ← sm_mul, ← sm_add]
      exact sm_congr fun l _ => by grind
    rw [e]
    exact Int.dvd_add (Int.dvd_mul_of_dvd_right (hx j hj)) (Int.dvd_mul_of_dvd_right (hy j hj))
  · have h2 : p ∣ sm s (fun l => x l * en cs l j) - sm s (fun l => y l * en cs l j) := sm_dvd_sub fun l hl => by
      rw [← Int.sub_mul]
      exact Int.dvd_mul_of_dvd_left (hxy l hl)
    have := Int.dvd_sub (hx j hj) h2
    rw [show ∀ a b : Int, a - (a - b) = b from fun a b => by omega] at this
    exact this
end
/-! the law's own elimination, from the right column to the left one -/
noncomputable def clL (p : Int) (F : List (List Int)) (top place : Nat) : List (List Int) := (List.range F.length).map fun i => if i < top then F.getD i [] else if i = top then leadF p F top place else combV p (-(en F i place)) (F.getD i []) (leadF p F top place)
noncomputable def stepL (p : Int) (st : List (List Int) × Nat) (place : Nat) : List (List Int) × Nat := match ffF st.1 st.2 place with
  | none => st
  | some a => (clL p (swF st.1 st.2 a) st.2 place, st.2 + 1)
noncomputable def rankF (p : Int) (cs : List (List Int)) (many t : Nat) : List (List Int) × Nat := (List.range t).foldl (fun st turn => stepL p st (many - 1 - turn)) (cs, 0)
structure InvL (p : Int) (s n t : Nat) (R F : List (List Int)) (T : Nat) : Prop where
  rc : Rc p s n F
  sp1 : ∀ i, i < s → Sp p n s (en R) (en F i)
  sp2 : ∀ i, i < s → Sp p n s (en F) (en R i)
  tops : T ≤ s
  tri : ∃ q : Nat → Nat, (∀ i, i < T → q i < n) ∧ (∀ i, i < T → en F i (q i) = 1) ∧ ∀ i k, i < T → i < k → k < s → en F k (q i) = 0
  low : ∀ i j, T ≤ i → i < s → n - t ≤ j → j < n → en F i j = 0
theorem Rc.clL {p : Int} (hp : 2 ≤ p) {s n : Nat} {F : List (List Int)} (h : Rc p s n F) {top : Nat} (ht : top < s) (t : Nat) : Rc p s n (clL p F top t) := by
  refine ⟨by rw [LA.clL, List.length_map, List.length_range]; exact h.len, fun r hr => ?_⟩
  obtain ⟨i, hi, rfl⟩ := List.mem_map.mp hr
  have hi := List.mem_range.mp hi
  rw [h.len] at hi
  have hl : (leadF p F top t).length = n := by rw [leadF, List.length_map]; exact h.rl ht
  split
  · exact h.row _ (gd_mem (by rw [h.len]; exact hi))
  · split
    · refine ⟨hl, fun x hx => ?_⟩
      obtain ⟨y, _, rfl⟩ := List.mem_map.mp hx
      exact md hp _
    · refine ⟨by rw [combV, List.length_zipWith, hl, h.rl hi, Nat.min_self], fun x hx => ?_⟩
      obtain ⟨j, hj, rfl⟩ := List.getElem_of_mem hx
      simp only [combV, List.getElem_zipWith]
      exact md hp _
theorem en_clL_lt {p : Int} {s n : Nat} {F : List (List Int)} (h : Rc p s n F) {top t i j : Nat} (hi : i < s) (hn : i < top) : en (clL p F top t) i j = en F i j := by
  unfold en LA.clL
  rw [gd_range (by rw [h.len]; exact hi), if_pos hn]
theorem en_clL {p : Int} {s n : Nat} {F : List (List Int)} (h : Rc p s n F) {top t i j : Nat} (hi : i < s) (hn : top ≤ i) : en (clL p F top t) i j = en (clF p F top t) i j := by
  unfold en LA.clL clF
  rw [gd_range (by rw [h.len]; exact hi), gd_range (by rw [h.len]; exact hi), if_neg (by omega)]
theorem InvL.step {p : Int} (hP : isP p = true) (hp : p ≤ 65521) {s n t : Nat} {R F : List (List Int)} {T : Nat} (I : InvL p s n t R F T) (ht : t < n) : InvL p s n (t + 1) R (stepL p (F, T) (n - 1 - t)).1 (stepL p (F, T) (n - 1 - t)).2 := by
  have p2 := isP_ge hP
  have hl := I.rc.len
  obtain ⟨c, hc⟩ : ∃ c, c = n - 1 - t := ⟨_, rfl⟩
  rw [← hc]
  have hcn : c < n := by omega
  have e : stepL p (F, T) c = match ffF F T c with
    | none => (F, T)
    | some a => (clL p (swF F T a) T c, T + 1) := rfl
  obtain ⟨q, q1, q2, q3⟩ := I.tri
  cases hf : ffF F T c with
  | none =>
    rw [e, hf]
    exact ⟨I.rc, I.sp1, I.sp2, I.tops, ⟨q, q1, q2, q3⟩, fun i j h1 h2 h3 h4 => by
      by_cases z : j = c
      · rw [z]
        exact ff_none hf h1 (by rw [hl]; exact h2)
      · exact I.low i j h1 h2 (by omega) h4⟩
  | some a =>
    rw [e, hf]
    show InvL p s n (t + 1) R (clL p (swF F T a) T c) (T + 1)
    obtain ⟨ha1, ha2, ha3⟩ := ff_some hf
    rw [hl] at ha2
    have hTs : T < s := by omega
    have c1 := I.rc.sw hTs ha2
    have c2 := c1.clL p2 hTs c
    have es := fun i => en_sw hl hTs ha2 i
    have et : en (swF F T a) T = en F a := by
      rw [es]
      split
      · rename_i z
        rw [z]
      · rw [if_pos rfl]
    have nw := small_ndvd (I.rc.en ha2 hcn).1 (I.rc.en ha2 hcn).2 ha3
    obtain ⟨v0, v1, v2⟩ := invF_spec hP hp nw
    have topj : ∀ j, j < n → en (clL p (swF F T a) T c) T j = invF (en F a c) p * en F a j % p := fun j hj => by rw [en_clL c1 hTs (Nat.le_refl _), en_cl_top c1 hTs hj, et]
    have othj : ∀ i j, i < s → T < i → j < n → en (clL p (swF F T a) T c) i j = (en (swF F T a) i j + -(en (swF F T a) i c) * (invF (en F a c) p * en F a j % p)) % p := fun i j hi hn hj => by rw [en_clL c1 hi (by omega), en_cl c1 hTs hi (by omega) hj, et]
    have lowj : ∀ i j, i < s → i < T → en (clL p (swF F T a) T c) i j = en F i j := fun i j hi hn => by rw [en_clL_lt c1 hi hn, es, if_neg (by omega), if_neg (by omega)]
    have lt1 : invF (en F a c) p * en F a c % p = 1 := by
      have h3 : (invF (en F a c) p * en F a c) % p = 1 % p := Int.emod_eq_emod_iff_emod_sub_eq_zero.mpr (Int.emod_eq_zero_of_dvd (by rw [Int.mul_comm]; exact v2))
      rw [h3, Int.emod_eq_of_lt (by omega) (by omega)]
    have perm : ∀ i, i < s → ∃ i', i' < s ∧ en (swF F T a) i = en F i' ∧ (i < T → i' = i) ∧ (T ≤ i → T ≤ i') := fun i hi => by
      rw [es]
      by_cases z1 : i = a
      · rw [if_pos z1]
        exact ⟨T, hTs, rfl, fun h => by omega, fun _ => Nat.le_refl _⟩
      · rw [if_neg z1]
        by_cases z2 : i = T
        · rw [if_pos z2]
          exact ⟨a, ha2, rfl, fun h => by omega, fun _ => ha1⟩
        · rw [if_neg z2]
          exact ⟨i, hi, rfl, fun _ => rfl, fun h => h⟩
    -- where the leading row is nought, all stays
    have same : ∀ i j, i < s → T ≤ i → j < n → en F a j = 0 → en (swF F T a) i j = 0 → en (clL p (swF F T a) T c) i j = 0 := fun i j hi hT hj h0 h1 => by
      by_cases z : i = T
      · rw [z, topj j hj, h0, Int.mul_zero, Int.zero_emod]
      · rw [othj i j hi (by omega) hj, h0, h1, Int.mul_zero, Int.zero_emod, Int.mul_zero, Int.add_zero, Int.zero_emod]
    have col : ∀ i, i < s → T < i → en (clL p (swF F T a) T c) i c = 0 := fun i hi hn => by
      rw [othj i c hi hn hcn, lt1, Int.mul_one, Int.add_right_neg, Int.zero_emod]
    have s1 : ∀ i, i < s → Sp p n s (en F) (en (swF F T a) i) := fun i hi => by
      obtain ⟨i', h1, h2, _⟩ := perm i hi
      rw [h2]
      exact .mem h1
    have s2 : ∀ i, i < s → Sp p n s (en (swF F T a)) (en F i) := fun i hi => by
      by_cases z1 : i = T
      · rw [z1, show en F T = en (swF F T a) a by rw [es, if_pos rfl]]
        exact .mem ha2
      · by_cases z2 : i = a
        · rw [z2, ← et]
          exact .mem hTs
        · rw [show en F i = en (swF F T a) i by rw [es, if_neg z2, if_neg z1]]
          exact .mem hi
    have s3 : ∀ i, i < s → Sp p n s (en (swF F T a)) (en (clL p (swF F T a) T c) i) := fun i hi => by
      rcases Nat.lt_trichotomy i T with z | z | z
      · exact (Sp.mem hi).of_eq fun j hj => (en_clL_lt c1 hi z).symm
      · subst z
        refine .cg (.lin (invF (en F a c) p) 0 (.mem hTs) .zero) fun j hj => ?_
        rw [topj j hj, et, Int.zero_mul, Int.add_zero]
        exact md_dvd
      · refine .cg (.lin 1 (-(en (swF F T a) i c) * invF (en F a c) p) (.mem hi) (.mem hTs)) fun j hj => ?_
        rw [othj i j hi z hj, et]
        have d1 := md_dvd (p := p) (x := invF (en F a c) p * en F a j)
        have d2 := md_dvd (p := p) (x := en (swF F T a) i j + -(en (swF F T a) i c) * (invF (en F a c) p * en F a j % p))
        have := Int.dvd_add d2 (Int.dvd_mul_of_dvd_right (a := p) (b := -(en (swF F T a) i c)) d1)
        refine (show ∀ x y : Int, x = y → p ∣ x → p ∣ y from fun x y e h => e ▸ h) _ _ ?_ this
        grind
    have s4 : ∀ i, i < s → Sp p n s (en (clL p (swF F T a) T c)) (en (swF F T a) i) := fun i hi => by
      rcases Nat.lt_trichotomy i T with z | z | z
      · exact (Sp.mem hi).of_eq fun j hj => en_clL_lt c1 hi z
      · subst z
        refine .cg (.lin (en F a c) 0 (.mem hTs) .zero) fun j hj => ?_
        rw [topj j hj, et, Int.zero_mul, Int.add_zero]
        obtain ⟨k1, hk1⟩ := md_dvd (p := p) (x := invF (en F a c) p * en F a j)
        obtain ⟨k2, hk2⟩ := v2
        refine ⟨k2 * en F a j - en F a c * k1, ?_⟩
        grind
      · refine .cg (.lin 1 (en (swF F T a) i c) (.mem hi) (.mem hTs)) fun j hj => ?_
        rw [topj j hj, othj i j hi z hj]
        obtain ⟨k1, hk1⟩ := md_dvd (p := p) (x := en (swF F T a) i j + -(en (swF F T a) i c) * (invF (en F a c) p * en F a j % p))
        refine ⟨-k1, ?_⟩
        grind
    refine ⟨c2, fun i hi => ((s3 i hi).trans s1).trans I.sp1, fun i hi => ((I.sp2 i hi).trans s2).trans s4, by omega, ⟨fun i => if i = T then c else q i, fun i hi => ?_, fun i hi => ?_, fun i k hi hik hk => ?_⟩, fun i j h1 h2 h3 h4 => ?_⟩
    · show (if i = T then c else q i) < n
      split
      · exact hcn
      · exact q1 i (by omega)
    · show en _ i (if i = T then c else q i) = 1
      by_cases z : i = T
      · rw [if_pos z, z, topj c hcn, lt1]
      · rw [if_neg z, lowj i _ (by omega) (by omega)]
        exact q2 i (by omega)
    · show en _ k (if i = T then c else q i) = 0
      by_cases z : i = T
      · rw [if_pos z]
        exact col k hk (by omega)
      · rw [if_neg z]
        by_cases w : k < T
        · rw [lowj k _ hk w]
          exact q3 i k (by omega) hik hk
        · obtain ⟨k', k1, k2, _, k4⟩ := perm k hk
          refine same k _ hk (by omega) (q1 i (by omega)) (q3 i a (by omega) (by omega) ha2) ?_
          rw [k2]
          have := k4 (by omega)
          exact q3 i k' (by omega) (by omega) k1
    · by_cases z : j = c
      · rw [z]
        exact col i h2 (by omega)
      · obtain ⟨i', k1, k2, _, k4⟩ := perm i h2
        refine same i j h2 (by omega) h4 (I.low a j ha1 ha2 (by omega) h4) ?_
        rw [k2]
        exact I.low i' j (k4 (by omega)) k1 (by omega) h4
theorem rank_inv {p : Int} (hP : isP p = true) (hp : p ≤ 65521) {s n : Nat} {R : List (List Int)} (c : Rc p s n R) : ∀ {t : Nat}, t ≤ n → InvL p s n t R (rankF p R n t).1 (rankF p R n t).2
  | 0, _ => ⟨c, fun _ hi => .mem hi, fun _ hi => .mem hi, Nat.zero_le _, ⟨id, fun _ h => absurd h (Nat.not_lt_zero _), fun _ h => absurd h (Nat.not_lt_zero _), fun _ _ h => absurd h (Nat.not_lt_zero _)⟩, fun _ j _ _ h1 h2 => absurd h1 (by omega)⟩
  | t + 1, h => by
    have I := rank_inv hP hp c (t := t) (by omega)
    have e : rankF p R n (t + 1) = stepL p (rankF p R n t) (n - 1 - t) := by
      unfold rankF
      rw [List.range_succ, List.foldl_append]
      rfl
    rw [e]
    exact InvL.step hP hp (F := (rankF p R n t).1) (T := (rankF p R n t).2) I (by omega)
/-- both eliminations leave as many rows -/
theorem rank_eq {p : Int} (hP : isP p = true) (hp : p ≤ 65521) {s many : Nat} {cs : List (List Int)} (c : Rc p s many cs) : (redF p (marksF cs) many).2.length = (rankF p cs many many).2 := by
  have P := pr_of hP hp
  have hs := c.len
  have h : ∀ r ∈ cs, r.length = many := fun r hr => (c.row r hr).1
  have ml : (marksF cs).length = s := by rw [marks_len, hs]
  have mr : ∀ r ∈ marksF cs, r.length = many + s := fun r hr => by rw [marks_row h r hr, hs]
  have I1 := red_inv hP hp ml mr (t := many) (by omega)
  have I2 := rank_inv hP hp c (t := many) (by omega)
  have e1 : ∀ i j, i < s → j < many → en (marksF cs) i j = en cs i j := fun i j hi hj => en_marks1 h (by omega) hj
  obtain ⟨q, q1, q2, q3⟩ := I2.tri
  have n1 : ¬ p ∣ 1 := small_ndvd (by omega) (by have := P.1; omega) (by omega)
  have t1 := I1.top
  have t2 := I2.tops
  refine Nat.le_antisymm ?_ ?_
  · refine steinitz P (n := many) (X := en (redF p (marksF cs) many).1) (Y := en (rankF p cs many many).1) (indep_tri P (fun i => (redF p (marksF cs) many).2.getD i 0) (fun i hi => I1.lt i hi) (fun i hi => by rw [I1.one i hi]; exact n1) fun i j hi hj hij => by rw [I1.oth i j hi (by omega) (by omega)]; exact Int.dvd_zero p) fun i hi => ?_
    refine (((I1.sp1 i (by omega)).less (by omega)).trans fun k hk => (Sp.mem (p := p) (n := many) (X := en cs) hk).of_eq fun j hj => (e1 k j hk hj).symm).trans fun k hk => (I2.sp2 k hk).trans fun l hl => ?_
    by_cases z : l < (rankF p cs many many).2
    · exact .mem z
    · exact Sp.of_zero fun j hj => I2.low l j (by omega) hl (by omega) hj
  · refine steinitz P (n := many) (X := en (rankF p cs many many).1) (Y := en (redF p (marksF cs) many).1) (indep_tri P q q1 (fun i hi => by rw [q2 i hi]; exact n1) fun i j hi hj hij => by rw [q3 i j hi hij (by omega)]; exact Int.dvd_zero p) fun i hi => ?_
    refine (I2.sp1 i (by omega)).trans fun k hk => (((I1.sp2 k hk).less (by omega)).of_eq fun j hj => e1 k j hk hj).trans fun l hl => ?_
    by_cases z : l < (redF p (marksF cs) many).2.length
    · exact .mem z
    · exact Sp.of_zero fun j hj => I1.low l j (by omega) hl hj
end LA
/-! equations below a prime, solved by a reduction -/
namespace LA
open K00
def joinF (M : List (List Int)) (right : List Int) : List (List Int) := (List.range M.length).map fun j => M.getD j [] ++ [right.getD j 0]
/-- the answer of the reduced rows: what stands at the leading places -/
def ansF (F : List (List Int)) (pl : List Nat) (many : Nat) : List Int := (List.range pl.length).foldl (fun g i => g.set (pl.getD i 0) (en F i many)) (List.replicate many 0)
def badRow (F : List (List Int)) (top many : Nat) : Bool := (List.range F.length).any fun i => decide (top ≤ i) && decide (en F i many ≠ 0)
noncomputable def solF (p : Int) (M : List (List Int)) (right : List Int) (many : Nat) : Option (List Int) :=
  if badRow (redF p (joinF M right) many).1 (redF p (joinF M right) many).2.length many = true then none else some (ansF (redF p (joinF M right) many).1 (redF p (joinF M right) many).2 many)
theorem ans_len {F : List (List Int)} {many : Nat} : ∀ (l : List Nat) (pl : List Nat) (g : List Int), (l.foldl (fun g i => g.set (pl.getD i 0) (en F i many)) g).length = g.length
  | [], _, _ => rfl
  | i :: l, pl, g => by
    rw [List.foldl_cons, ans_len l pl, List.length_set]
theorem ans_at {F : List (List Int)} {pl : List Nat} {many : Nat} (inc : ∀ i j, i < j → j < pl.length → pl.getD i 0 < pl.getD j 0) (lt : ∀ i, i < pl.length → pl.getD i 0 < many) :
    ∀ (t : Nat), t ≤ pl.length → (∀ i, i < t → ((List.range t).foldl (fun g i => g.set (pl.getD i 0) (en F i many)) (List.replicate many 0)).getD (pl.getD i 0) 0 = en F i many) ∧
      ∀ k, (∀ i, i < t → pl.getD i 0 ≠ k) → ((List.range t).foldl (fun g i => g.set (pl.getD i 0) (en F i many)) (List.replicate many 0)).getD k 0 = 0 := by
  intro t
  induction t with
  | zero =>
    intro _
    refine ⟨fun i h => absurd h (Nat.not_lt_zero i), fun k _ => ?_⟩
    show (List.replicate many (0 : Int)).getD k 0 = 0
    rw [List.getD_eq_getElem?_getD, List.getElem?_replicate]
    split <;> rfl
  | succ t ih =>
    intro h
    obtain ⟨h1, h2⟩ := ih (by omega)
    have hl : ((List.range t).foldl (fun g i => g.set (pl.getD i 0) (en F i many)) (List.replicate many 0)).length = many := by rw [ans_len, List.length_replicate]
    rw [List.range_succ, List.foldl_append]
    show (∀ i, i < t + 1 → (List.set _ (pl.getD t 0) (en F t many)).getD (pl.getD i 0) 0 = en F i many) ∧ ∀ k, (∀ i, i < t + 1 → pl.getD i 0 ≠ k) → (List.set _ (pl.getD t 0) (en F t many)).getD k 0 = 0
    have hlt := lt t (by omega)
    refine ⟨fun i hi => ?_, fun k hk => ?_⟩
    · rw [gd_set (by rw [hl]; exact hlt)]
      by_cases z : i = t
      · rw [z, if_pos rfl]
      · have := inc i t (by omega) (by omega)
        rw [if_neg (by omega)]
        exact h1 i (by omega)
    · rw [gd_set (by rw [hl]; exact hlt), if_neg (fun z => hk t (by omega) z.symm)]
      exact h2 k fun i hi => hk i (by omega)
section
variable {p : Int} {s many : Nat} {M : List (List Int)} {right : List Int}
theorem join_len : (joinF M right).length = M.length := by rw [joinF, List.length_map, List.length_range]
theorem join_row (h : ∀ r ∈ M, r.length = many) : ∀ r ∈ joinF M right, r.length = many + 1 := fun r hr => by
  obtain ⟨i, hi, rfl⟩ := List.mem_map.mp hr
  rw [List.length_append, h _ (gd_mem (List.mem_range.mp hi))]
  rfl
theorem en_join1 (h : ∀ r ∈ M, r.length = many) {i j : Nat} (hi : i < M.length) (hj : j < many) : en (joinF M right) i j = en M i j := by
  unfold en joinF
  rw [gd_range hi, List.getD_eq_getElem?_getD, List.getElem?_append_left (by rw [h _ (gd_mem hi)]; exact hj), List.getD_eq_getElem?_getD (l := M.getD i [])]
theorem en_join2 (h : ∀ r ∈ M, r.length = many) {i : Nat} (hi : i < M.length) : en (joinF M right) i many = right.getD i 0 := by
  unfold en joinF
  rw [gd_range hi, List.getD_eq_getElem?_getD, List.getElem?_append_right (by rw [h _ (gd_mem hi)]; exact Nat.le_refl _), h _ (gd_mem hi), Nat.sub_self]
  rfl
/-- what an equation says of a row -/
def Eqn (p : Int) (many : Nat) (g : Nat → Int) (x : Nat → Int) : Prop := p ∣ sm many (fun k => x k * g k) - x many
theorem Eqn.span {g : Nat → Int} {X : Nat → Nat → Int} {x : Nat → Int} (hx : Sp p (many + 1) s X x) (h : ∀ i, i < s → Eqn p many g (X i)) : Eqn p many g x := by
  refine hx.keep (Eqn p many g) h ?_ (fun x y a b hx hy => ?_) fun x y hx hxy => ?_
  · show p ∣ sm many (fun k => 0 * g k) - 0
    rw [sm_zero fun l _ => Int.zero_mul _, Int.sub_self]
    exact Int.dvd_zero p
  · show p ∣ sm many (fun k => (a * x k + b * y k) * g k) - (a * x many + b * y many)
    have e : sm many (fun k => (a * x k + b * y k) * g k) = a * sm many (fun k => x k * g k) + b * sm many (fun k => y k * g k) := by
      rw [← sm_mul, ← sm_mul, ← sm_add]
      exact sm_congr fun l _ => by grind
    have hx : p ∣ sm many (fun k => x k * g k) - x many := hx
    have hy : p ∣ sm many (fun k => y k * g k) - y many := hy
    rw [e]
    have := Int.dvd_add (Int.dvd_mul_of_dvd_right (b := a) hx) (Int.dvd_mul_of_dvd_right (b := b) hy)
    refine (show ∀ x y : Int, x = y → p ∣ x → p ∣ y from fun x y e h => e ▸ h) _ _ ?_ this
    grind
  · have hx : p ∣ sm many (fun k => x k * g k) - x many := hx
    show p ∣ sm many (fun k => y k * g k) - y many
    have h2 : p ∣ sm many (fun k => x k * g k) - sm many (fun k => y k * g k) := sm_dvd_sub fun l hl => by
      rw [← Int.sub_mul]
      exact Int.dvd_mul_of_dvd_left (hxy l (by omega))
    have := Int.dvd_sub hx (Int.dvd_sub h2 (hxy many (by omega)))
    refine (show ∀ x y : Int, x = y → p ∣ x → p ∣ y from fun x y e h => e ▸ h) _ _ ?_ this
    omega
theorem sol_len {g : List Int} (h : solF p M right many = some g) : g.length = many := by
  unfold solF at h
  split at h
  · cases h
  · cases h
    rw [ansF, ans_len, List.length_replicate]
theorem sol_bound (hP : isP p = true) (hp : p ≤ 65521) (hr : ∀ r ∈ M, r.length = many) {g : List Int} (h : solF p M right many = some g) : ∀ x ∈ g, 0 ≤ x ∧ x < p := by
  have p2 := isP_ge hP
  have I := red_inv hP hp (join_len (M := M) (right := right)) (join_row hr) (t := many) (by omega)
  unfold solF at h
  split at h
  · cases h
  · cases h
    have key : ∀ (l : List Nat) (g0 : List Int), (∀ i ∈ l, i < M.length) → (∀ x ∈ g0, 0 ≤ x ∧ x < p) → ∀ x ∈ l.foldl (fun g i => g.set ((redF p (joinF M right) many).2.getD i 0) (en (redF p (joinF M right) many).1 i many)) g0, 0 ≤ x ∧ x < p := by
      intro l
      induction l with
      | nil => exact fun g0 _ h => h
      | cons i l ih =>
        intro g0 hl hg
        refine ih _ (fun j hj => hl j (List.mem_cons_of_mem _ hj)) fun x hx => ?_
        rcases List.mem_or_eq_of_mem_set hx with hx | rfl
        · exact hg x hx
        · exact I.rc.en (hl i List.mem_cons_self) (by omega)
    have htop := I.top
    exact key _ _ (fun i hi => by have := List.mem_range.mp hi; omega) fun x hx => by
      rw [(List.mem_replicate.mp hx).2]
      omega
/-- an answer that is told answers -/
theorem sol_right (hP : isP p = true) (hp : p ≤ 65521) (hr : ∀ r ∈ M, r.length = many) {g : List Int} (h : solF p M right many = some g) : ∀ j, j < M.length → p ∣ sm many (fun k => en M j k * g.getD k 0) - right.getD j 0 := by
  have p2 := isP_ge hP
  have I := red_inv hP hp (join_len (M := M) (right := right)) (join_row hr) (t := many) (by omega)
  unfold solF at h
  split at h
  · cases h
  rename_i hb
  cases h
  generalize hF : (redF p (joinF M right) many).1 = F at *
  generalize hpl : (redF p (joinF M right) many).2 = pl at *
  have htop := I.top
  obtain ⟨a1, a2⟩ := ans_at (F := F) (many := many) I.inc I.lt pl.length (Nat.le_refl _)
  have rows : ∀ i, i < M.length → Eqn p many (fun k => (ansF F pl many).getD k 0) (en F i) := fun i hi => by
    show p ∣ sm many (fun k => en F i k * (ansF F pl many).getD k 0) - en F i many
    by_cases z : i < pl.length
    · have hq := I.lt i z
      rw [sm_one (t := pl.getD i 0) hq fun k hk hn => ?_, I.one i z, Int.one_mul, show (ansF F pl many).getD (pl.getD i 0) 0 = en F i many from a1 i z, Int.sub_self]
      · exact Int.dvd_zero p
      · by_cases w : ∃ l, l < pl.length ∧ pl.getD l 0 = k
        · obtain ⟨l, hl, rfl⟩ := w
          rw [I.oth l i hl hi (fun z => hn (by rw [z])), Int.zero_mul]
        · rw [show (ansF F pl many).getD k 0 = 0 from a2 k fun l hl e => w ⟨l, hl, e⟩, Int.mul_zero]
    · have hz : en F i many = 0 := by
        refine Classical.byContradiction fun w => hb ?_
        refine List.any_eq_true.mpr ⟨i, List.mem_range.mpr (by rw [I.rc.len]; exact hi), ?_⟩
        rw [decide_eq_true (show pl.length ≤ i by omega), decide_eq_true w]
        rfl
      rw [sm_zero fun k hk => by rw [I.low i k (by omega) hi hk, Int.zero_mul], hz, Int.sub_self]
      exact Int.dvd_zero p
  intro j hj
  have := Eqn.span (I.sp2 j hj) rows
  have this : p ∣ sm many (fun k => en (joinF M right) j k * (ansF F pl many).getD k 0) - en (joinF M right) j many := this
  rw [en_join2 hr hj, sm_congr (g := fun k => en M j k * (ansF F pl many).getD k 0) fun k hk => by rw [en_join1 hr hj hk]] at this
  exact this
/-- where none is told there is none -/
theorem sol_none (hP : isP p = true) (hp : p ≤ 65521) (hr : ∀ r ∈ M, r.length = many) (h : solF p M right many = none) (g : Nat → Int) (hg : ∀ j, j < M.length → p ∣ sm many (fun k => en M j k * g k) - right.getD j 0) : False := by
  have p2 := isP_ge hP
  have I := red_inv hP hp (join_len (M := M) (right := right)) (join_row hr) (t := many) (by omega)
  unfold solF at h
  split at h
  case isFalse => cases h
  rename_i hb
  obtain ⟨i, hi, hb⟩ := List.any_eq_true.mp hb
  have hi := List.mem_range.mp hi
  rw [I.rc.len] at hi
  rw [Bool.and_eq_true, decide_eq_true_eq, decide_eq_true_eq] at hb
  have rows : ∀ j, j < M.length → Eqn p many g (en (joinF M right) j) := fun j hj => by
    show p ∣ sm many (fun k => en (joinF M right) j k * g k) - en (joinF M right) j many
    rw [en_join2 hr hj, sm_congr (g := fun k => en M j k * g k) fun k hk => by rw [en_join1 hr hj hk]]
    exact hg j hj
  have := Eqn.span (I.sp1 i hi) rows
  have this : p ∣ sm many (fun k => en (redF p (joinF M right) many).1 i k * g k) - en (redF p (joinF M right) many).1 i many := this
  rw [sm_zero fun k hk => by rw [I.low i k hb.1 hi hk, Int.zero_mul], Int.zero_sub] at this
  have hen := I.rc.en hi (show many < many + 1 by omega)
  exact small_ndvd hen.1 hen.2 hb.2 (Int.dvd_neg.mp this)
end
end LA
set_option maxHeartbeats 4000000
/-! the layer of data: a new list that is never changed is kept as data -/
namespace LD
open PySem PySem.Spec PyProof.Rows L2 LW GX
theorem sl_listK {X : Cx} {K : PySem.W.Frag} (h : X.K = K) : SlR X (rSlL K) := by
  subst h
  exact sl_list
end LD
namespace DL
open PySem PySem.Spec PyProof.Rows L2 LW GX LD
section
variable {Z : Wd} {A : DE} {ta : TE}
def sSetD (i : Nat) (A : DE) : DS := fun D env => A env fun r => ∃ d, datR r = some d ∧ D.nx (env.set i (some (.dat d)))
theorem rs_setD {i : Nat} (ha : RE Z ta A) : RS Z (tAsg ta (gName i)) (sSetD i A) where
  mono env K K' h q := ha.mono env _ _ (fun r ⟨d, e, q⟩ => ⟨d, e, h.nx _ q⟩) q
  run env σ H D S h := ha.run _ env σ H _ S (ha.mono env _ _ (fun r ⟨d, e, q⟩ v H' k hv => by
    exact (rg_name (Z := Z) (i := i)).run _ env σ H' v d _ _ (S.same k) (hv.dat e) rfl fun σ' S1 m1 _ _ => q σ' H' (Sat.shrink (S.same k) S1 m1) ⟨k.ss.kp, fun a h => .inl (m1 a h)⟩) h)
/-- a list of the def's own that is no longer changed -/
def sFrz (i : Nat) (d : DS) : DS := fun D env => ∃ ds, env[i]? = some (some (.own ds)) ∧ d D (env.set i (some (.dat (.list ds))))
theorem frz {env : Env} {σ : L2.St} {H : Hp} {i : Nat} {ds : List PyData} (S : SatS Z env σ H) (hi : env[i]? = some (some (.own ds))) : SatS Z (env.set i (some (.dat (.list ds)))) σ H ∧ ∀ b, MS (env.set i (some (.dat (.list ds)))) σ b → MS env σ b := by
  have ms : ∀ b, MS (env.set i (some (SV.dat (.list ds)))) σ b → MS env σ b := fun b ⟨l, s, z1, z2, z3⟩ => by
    rcases set_get z1 with ⟨_, e⟩ | ⟨_, e⟩
    · cases e
      cases z2
    · exact ⟨l, s, e, z2, z3⟩
  obtain ⟨v, e, a, vs, rfl, hl, hd, h0⟩ := S.sl i _ hi
  have na : ¬ MZ Z (env.set i (some (SV.dat (.list ds)))) σ a := fun h => by
    rcases h with h | ⟨l, s, z1, z2, z3⟩
    · exact Z.pl0.2 a h h0
    · rcases set_get z1 with ⟨_, e2⟩ | ⟨n, e2⟩
      · cases e2
        cases z2
      · exact n (S.inj i l a _ _ hi rfl e e2 z2 z3)
  have mz : ∀ b, MZ Z (env.set i (some (SV.dat (.list ds)))) σ b → MZ Z env σ b := fun b h => h.imp id (ms b)
  refine ⟨⟨by rw [List.length_set]; exact S.len, fun j s h => ?_, fun b h => .inr h, fun j l b sj sl h1 h2 h3 h4 h5 h6 => ?_, fun b h => S.dom b (mz b h), fun b h => .inl h, S.old, S.pls, S.tb⟩, ms⟩
  · rcases set_get h with ⟨rfl, e2⟩ | ⟨n, e2⟩
    · cases e2
      exact ⟨_, e, .lst hl na (hd.sub mz)⟩
    · obtain ⟨v, e3, hv⟩ := S.sl j s e2
      refine ⟨v, e3, ?_⟩
      cases s with
      | dat d => exact Da.sub mz hv
      | own es =>
        obtain ⟨b, us, h1, h2, h3, h4⟩ := hv
        exact ⟨b, us, h1, h2, h3.sub mz, h4⟩
      | bor es =>
        obtain ⟨b, us, h1, h2, h3⟩ := hv
        exact ⟨b, us, h1, h2, h3.sub mz⟩
      | pool => exact hv
  · have un : ∀ {m : Nat} {x : SV}, (env.set i (some (SV.dat (.list ds))))[m]? = some (some x) → x.mut = true → env[m]? = some (some x) := fun {m x} h hm => by
      rcases set_get h with ⟨_, e2⟩ | ⟨_, e2⟩
      · cases e2
        cases hm
      · exact e2
    exact S.inj j l b sj sl (un h1 h2) h2 h3 (un h4 h5) h5 h6
theorem rs_frz {i : Nat} {t : TS} {d : DS} (hd : RS Z t d) : RS Z t (sFrz i d) where
  mono env K K' h := fun ⟨ds, e, q⟩ => ⟨ds, e, hd.mono _ _ _ h q⟩
  run env σ H D S := fun ⟨ds, e, q⟩ => by
    obtain ⟨S1, m1⟩ := frz S e
    exact hd.from S1 ⟨Kp.refl _ _, fun a h => .inl (m1 a h)⟩ q
end
end DL
/-! columns: how many free ones there may be, and what can be made of them -/
namespace LA
open K00
theorem Sp.units {p : Int} {s : Nat} (x : Nat → Int) : Sp p s s (fun i j => if j = i then 1 else 0) x := by
  have part : ∀ m, m ≤ s → Sp p s s (fun i j => if j = i then (1 : Int) else 0) (fun j => if j < m then x j else 0) := by
    intro m
    induction m with
    | zero => exact fun _ => Sp.of_zero fun j _ => if_neg (Nat.not_lt_zero j)
    | succ m ih =>
      intro h
      refine (Sp.lin 1 (x m) (ih (by omega)) (.mem (X := fun i j => if j = i then (1 : Int) else 0) (i := m) (by omega))).of_eq fun j _ => ?_
      show 1 * (if j < m then x j else 0) + x m * (if j = m then 1 else 0) = if j < m + 1 then x j else 0
      by_cases e : j = m
      · rw [if_neg (by omega), if_pos e, if_pos (by omega), e]
        omega
      · rw [if_neg e]
        by_cases w : j < m
        · rw [if_pos w, if_pos (by omega)]
          omega
        · rw [if_neg w, if_neg (by omega)]
          omega
  exact (part s (Nat.le_refl _)).of_eq fun j hj => if_pos hj
theorem indep_le {p : Int} (hp : Pr p) {k s : Nat} {X : Nat → Nat → Int} (h : Indep p k X s) : k ≤ s := steinitz hp h fun _ _ => Sp.units _
/-- what columns make -/
def Makes (p : Int) (t s : Nat) (X : Nat → Nat → Int) (b : Nat → Int) : Prop := ∃ g : Nat → Int, ∀ j, j < s → p ∣ sm t (fun k => X k j * g k) - b j
theorem indep_more {p : Int} (hP : isP p = true) (hp : p ≤ 65521) {t s : Nat} {X : Nat → Nat → Int} {b : Nat → Int} (h : Indep p t X s) (hb : ¬ Makes p t s X b) : Indep p (t + 1) (fun i => if i = t then b else X i) s := by
  intro c hc
  have eq : ∀ j, j < s → p ∣ sm t (fun i => c i * X i j) + c t * b j := fun j hj => by
    have h1 := hc j hj
    have h1 : p ∣ sm t (fun i => c i * (if i = t then b else X i) j) + c t * (if t = t then b else X t) j := h1
    rw [if_pos rfl, sm_congr (g := fun i => c i * X i j) fun i hi => by rw [if_neg (by omega)]] at h1
    exact h1
  have hct : p ∣ c t := by
    refine Classical.byContradiction fun w => hb ?_
    obtain ⟨v0, v1, v2⟩ := invF_spec hP hp w
    refine ⟨fun k => -(c k) * invF (c t) p, fun j hj => ?_⟩
    rw [sm_congr (g := fun k => (-(invF (c t) p)) * (c k * X k j)) fun k _ => by grind, sm_mul]
    obtain ⟨k1, e1⟩ := eq j hj
    obtain ⟨k2, e2⟩ := v2
    generalize sm t (fun i => c i * X i j) = S at *
    exact ⟨-(invF (c t) p * k1) + k2 * b j, by grind⟩
  intro i hi
  by_cases e : i = t
  · rw [e]
    exact hct
  · refine h c (fun j hj => ?_) i (by omega)
    have := Int.dvd_sub (eq j hj) (Int.dvd_mul_of_dvd_left (c := b j) hct)
    rw [Int.add_sub_cancel] at this
    exact this
theorem makes_all {p : Int} (hP : isP p = true) (hp : p ≤ 65521) {t s : Nat} {X : Nat → Nat → Int} (h : Indep p t X s) (hs : s ≤ t) (b : Nat → Int) : Makes p t s X b := by
  refine Classical.byContradiction fun w => ?_
  have := indep_le (pr_of hP hp) (indep_more hP hp h w)
  omega
/-- of one row more than columns: what the factors make nought is made -/
theorem makes_null {p : Int} (hP : isP p = true) (hp : p ≤ 65521) {t s : Nat} {X : Nat → Nat → Int} (h : Indep p t X s) (hs : s ≤ t + 1) {f : Nat → Int} {k0 : Nat} (hk : k0 < s) (h1 : f k0 = 1) (hf : ∀ i, i < t → p ∣ sm s (fun j => f j * X i j)) {b : Nat → Int} (hb : p ∣ sm s (fun j => f j * b j)) : Makes p t s X b := by
  refine Classical.byContradiction fun w => ?_
  have P := pr_of hP hp
  obtain ⟨g, hg⟩ := makes_all hP hp (indep_more hP hp h w) hs (fun j => if j = k0 then 1 else 0)
  have hf2 : ∀ i, i < t + 1 → p ∣ sm s (fun j => f j * (if i = t then b else X i) j) := fun i hi => by
    by_cases e : i = t
    · rw [if_pos e]
      exact hb
    · rw [if_neg e]
      exact hf i (by omega)
  have e1 : p ∣ sm s (fun j => f j * (sm (t + 1) (fun k => (if k = t then b else X k) j * g k))) - sm s (fun j => f j * (if j = k0 then 1 else 0)) := sm_dvd_sub fun j hj => by
    rw [← Int.mul_sub]
    exact Int.dvd_mul_of_dvd_right (hg j hj)
  have e2 : sm s (fun j => f j * (if j = k0 then (1 : Int) else 0)) = 1 := by
    rw [sm_one hk fun j _ hn => by rw [if_neg hn, Int.mul_zero], if_pos rfl, h1]
    rfl
  have e3 : p ∣ sm s (fun j => f j * (sm (t + 1) (fun k => (if k = t then b else X k) j * g k))) := by
    rw [sm_congr (g := fun j => sm (t + 1) (fun k => f j * ((if k = t then b else X k) j * g k))) fun j _ => (sm_mul _).symm, sm_swap]
    refine sm_dvd fun k hk => ?_
    rw [sm_congr (g := fun j => g k * (f j * (if k = t then b else X k) j)) fun j _ => by grind, sm_mul]
    exact Int.dvd_mul_of_dvd_right (hf2 k hk)
  rw [e2] at e1
  have := Int.dvd_sub e3 e1
  rw [show ∀ a : Int, a - (a - 1) = 1 from fun a => by omega] at this
  have h2 := P.1
  have := Int.le_of_dvd (by decide) this
  omega
end LA
set_option maxHeartbeats 2000000
/-! the layer of data: list(range(..)) -/
namespace DL
open PySem PySem.Spec PyProof.Rows L2 LW GX LD
section
variable {Z : Wd} {M : AS} {A B : DE} {ta tb : TE}
theorem rgV_das {K : PySem.W.Frag} {M : AS} {H : Hp} (a b : Int) : Das K M H (rgV a b) (intsFrom a (b - a).toNat) := by
  have h := Das.ints (K := K) (M := M) (H := H) ((List.range (b - a).toNat).map fun i => a + ((i : Nat) : Int))
  rw [List.map_map, List.map_map] at h
  exact h
def dLR1 (A : DE) : DE := fun env k => A env fun r => ∃ n, r = .v (.int n) ∧ RgOk 0 n ∧ k (.new (intsFrom 0 n.toNat))
def dLR2 (A B : DE) : DE := fun env k => A env fun r => B env fun r2 => ∃ i j, r = .v (.int i) ∧ r2 = .v (.int j) ∧ RgOk i j ∧ k (.new (intsFrom i (j - i).toNat))
theorem re_lr1 (ha : RE Z ta A) : RE Z (tLstRg (tRg1 ta)) (dLR1 A) := by
  refine ⟨fun env K K' h q => ha.mono env _ _ (fun r ⟨n, e, o, q⟩ => ⟨n, e, o, h _ q⟩) q, fun M env σ H Q S h => ?_⟩
  refine ha.run M env σ H _ S (ha.mono env _ _ (fun r w v H1 k1 hv1 => ?_) h)
  obtain ⟨n, rfl, ok, q⟩ := w
  refine ⟨n, hv1.int, ok, fun p hp => ?_⟩
  have S1 := S.same k1
  refine q _ _ (k1.trans (S1.new hp)) ?_
  have := S1.newL hp (rgV_das (K := Z.K) (M := M) (H := H1) 0 n)
  rw [Int.sub_zero] at this
  exact this.back k1.kp.grow fun _ h => h
theorem re_lr2 (ha : RE Z ta A) (hb : RE Z tb B) : RE Z (tLstRg (tRg2 ta tb)) (dLR2 A B) := by
  refine ⟨fun env K K' h q => ha.mono env _ _ (fun r q => hb.mono env _ _ (fun r2 ⟨i, j, e, e2, o, q⟩ => ⟨i, j, e, e2, o, h _ q⟩) q) q, fun M env σ H Q S h => ?_⟩
  refine bind2 ha hb S (ha.mono env _ _ (fun r1 h1 => hb.mono env _ _ (fun r2 h2 x y H2 k v1 v2 => ?_) h1) h)
  obtain ⟨i, j, rfl, rfl, ok, q⟩ := h2
  refine ⟨i, j, v1.int, v2.int, ok, fun p hp => ?_⟩
  have S1 := S.same k
  refine q _ _ (k.trans (S1.new hp)) ?_
  exact (S1.newL hp (rgV_das (K := Z.K) (M := M) (H := H2) i j)).back k.kp.grow fun _ h => h
end
end DL
namespace LW
open PySem L2
/-! ### keywords in the parameters' order, behind m values -/
def gP (m : Nat) {α : Type} (us ws : List α) : List α := if us.length = m then us ++ ws else []
theorem Vals.appV {vs zs : List V} {us ws : List Value} (h : Vals vs us) (q : Vals zs ws) : Vals (vs ++ zs) (us ++ ws) := by
  induction h with
  | nil => exact q
  | cons a _ ih => exact .cons a ih
theorem kbP_mk {m : Nat} {K : PySem.W.Frag} {fd : FuncData} {ps ks : List Str} (h : ∀ (s : Shared) (us ws : List Value), us.length = m → ws.length = ks.length → BindsTo s fd ⟨us, ks.zip ws⟩ (ps.zip (us ++ ws))) (h0 : 0 < ps.length) (hl : ps.length = m + ks.length) : KBinds K fd ps ks (gP m) (gP m) where
  to := fun s us ws _ hlen => by
    unfold gP at hlen ⊢
    by_cases e : us.length = m
    · rw [if_pos e] at hlen ⊢
      rw [List.length_append] at hlen
      exact h s us ws e (by omega)
    · rw [if_neg e] at hlen
      exact absurd hlen (by show 0 ≠ ps.length; omega)
  rel := fun {vs us zs ws} r q => by
    unfold gP
    rw [r.length]
    split
    · exact Vals.appV r q
    · exact .nil
section
variable {X : Cx} {k : Nat} {x : Str} {ps ks : List Str} {sp : Sp} {p pos : Pos} {e : Expr} {es : List Expr} {t tk : TA} {g : List Value → List Value → List Value} {gV : List V → List V → List V} {kws : List Keyword}
theorem pe_dkK (d : Dk X.prog X.w X.K X.mg X.base k x ps sp) (hr : Room k X.A) (hg : Gl X x) (hb : KBinds X.K d.fd ps ks g gV)
    (ha : PA X (e :: es) t) (hkw : PK X kws tk) (hall : (backToKw pos (keywordEach kws X.env)).all (·.1.isSome) = true := by rfl) (hks : (backToKw pos (keywordEach kws X.env)).filterMap (·.1) = ks := by rfl)
    (hdb : (x == ("__debug__" : Str)) = false := by decide) (he : starEach (e :: es) X.env = (false, eval e X.env) :: starEach es X.env := by rfl)
    (hpl : ((backTo pos (starEach (e :: es) X.env)).any (·.1) || (backToKw pos (keywordEach kws X.env)).any (·.1.isNone)) = false := by rfl) :
    PE X (.Call (.Name x p) (e :: es) kws pos) (tCallK sp gV E0 t tk) :=
  pe_callK d.G hr hg d.gm d.kp hb pass0 ha hkw hall hks hdb he hpl
end
end LW
namespace DL
open PySem PySem.Spec PyProof.Rows L2 LW GX LD
section
variable {Z : Wd} {M : AS} {A B C : DE} {As : DAs} {t : TA} {ta tb tc : TE} {m : Pm} {K : PySem.W.Frag} {Ts : List Addr} {Tl : List (Addr × Str)} {E : XK}
theorem callK_eq {sp : Sp} {l : Nat} {u tk : TA} {r : TA} (h : ∀ σ H Q, r σ H Q = u σ H fun vs H1 => tk σ H1 fun zs H2 => Q (gP l vs zs) H2) : tCallK sp (gP l) E u tk = tCall sp [] E r := by
  funext σ H Q
  show (u σ H fun vs H1 => tk σ H1 fun zs H2 => sp (gP l vs zs) H2 Q E) = r σ H fun vs H1 => sp (vs ++ []) H1 Q E
  rw [h]
  simp only [List.append_nil]
theorem re_callK0 (hK : Z.K = K) (hT : Z.Ts = Ts) (hL : Z.Tl = Tl) (ha : RA Z t As) : RE Z (tCallK (spD K Ts Tl m) (gP 0) E tNil t) (dCall m (fun _ _ => False) As) := by
  rw [callK_eq (E := E) (sp := spD K Ts Tl m) (l := 0) (u := tNil) (tk := t) (r := t) fun σ H Q => rfl]
  exact re_call hK hT hL ha
theorem re_callK1 (hK : Z.K = K) (hT : Z.Ts = Ts) (hL : Z.Tl = Tl) (h1 : RE Z ta A) (ha : RA Z t As) : RE Z (tCallK (spD K Ts Tl m) (gP 1) E (tCons ta tNil) t) (dCall m (fun _ _ => False) (aCons A As)) := by
  rw [callK_eq (E := E) (sp := spD K Ts Tl m) (l := 1) (u := tCons ta tNil) (tk := t) (r := tCons ta t) fun σ H Q => rfl]
  exact re_call hK hT hL (ra_cons h1 ha)
theorem re_callK2 (hK : Z.K = K) (hT : Z.Ts = Ts) (hL : Z.Tl = Tl) (h1 : RE Z ta A) (h2 : RE Z tb B) (ha : RA Z t As) : RE Z (tCallK (spD K Ts Tl m) (gP 2) E (tCons ta (tCons tb tNil)) t) (dCall m (fun _ _ => False) (aCons A (aCons B As))) := by
  rw [callK_eq (E := E) (sp := spD K Ts Tl m) (l := 2) (u := tCons ta (tCons tb tNil)) (tk := t) (r := tCons ta (tCons tb t)) fun σ H Q => rfl]
  exact re_call hK hT hL (ra_cons h1 (ra_cons h2 ha))
end
end DL
set_option maxHeartbeats 4000000
/-! dict(zip(a, b)) of a list or a tuple and a list or a tuple -/
namespace DZ
open PySem PySem.Spec PyProof.Rows L2 ZM EZ
theorem _root_.ZM.HsB.keep {t : Bool} {h h' : Heap} {a : Addr} {its : Array Value} (q : HsB t h a its) (k : ∀ o, h.get? a = some o → h'.get? a = some o) : HsB t h' a its := by
  cases t
  · exact Heap.IsList.at q fun o e => k o e
  · obtain ⟨o, e, r⟩ := q
    exact ⟨o, k o e, r⟩
theorem _root_.ZM.HsB.get {t : Bool} {h : Heap} {a : Addr} {its : Array Value} (q : HsB t h a its) : ∃ o, h.get? a = some o := by
  cases t <;> (obtain ⟨o, e, _⟩ := q; exact ⟨o, e⟩)
section
variable {prog : Program} {w : World} {A : Around} {E : Value → Shared → Prop} {s : Shared}
theorem nextB_item {t : Bool} {it l : Addr} {i : Nat} {items : Array Value} {x : Value} {Q : Value → Shared → Prop} (hit : ItB t s.heap it l i) (hl : HsB t s.heap l items) (hx : items[i]? = some x)
    (hQ : ∀ h', ItB t h' it l (i + 1) → Heap.SameBut it s.heap h' → Q x { s with heap := h' }) : wpAny (model prog w) A (Builtin.SmallTypes.nextOf (.ref it)) Q E s := by
  cases t
  · exact wpAny_nextOf_list_item hit hl hx hQ
  · exact RZ.nextOf_tuple_item hit hl hx hQ
theorem nextB_end {t : Bool} {it l : Addr} {i : Nat} {items : Array Value} {Q : Value → Shared → Prop} (hh : A.handled = none) (hit : ItB t s.heap it l i) (hl : HsB t s.heap l items) (hx : items[i]? = none)
    (hE : ∀ h' e, Heap.ExtBut it s.heap h' → (∃ o, h'.get? e = some o ∧ o.cls = .type "StopIteration") → E (.ref e) { s with heap := h' }) : wpAny (model prog w) A (Builtin.SmallTypes.nextOf (.ref it)) Q E s := by
  cases t
  · exact wpAny_nextOf_list_end hh hit hl hx hE
  · exact RZ.nextOf_tuple_end hh hit hl hx hE
theorem _root_.ZM.ItB.extBut {t : Bool} {h h' : Heap} {it a c : Addr} {i : Nat} (q : ItB t h it a i) (k : ∀ b o, b ≠ c → h.get? b = some o → h'.get? b = some o) (n : it ≠ c) : ItB t h' it a i := q.keep fun o e => k it o n e
theorem _root_.ZM.HsB.extBut {t : Bool} {h h' : Heap} {a c : Addr} {its : Array Value} (q : HsB t h a its) (k : ∀ b o, b ≠ c → h.get? b = some o → h'.get? b = some o) (n : a ≠ c) : HsB t h' a its := q.keep fun o e => k a o n e
theorem next_item {z TI TO i1 i2 l1 l2 : Addr} {k1 k2 : Nat} {xs ys : Array Value} {tb ub : Bool} {x y : Value} {Q : Value → Shared → Prop} (D : ZipApart z TI TO i1 i2 l1 l2)
    (hz : ZG s.heap z TI TO) (hTI : IsPair s.heap TI (.ref i1) (.ref i2)) (hTO : ∃ a b, IsPair s.heap TO a b)
    (h1 : ItB tb s.heap i1 l1 k1) (h2 : ItB ub s.heap i2 l2 k2) (hl1 : HsB tb s.heap l1 xs) (hl2 : HsB ub s.heap l2 ys) (hx : xs[k1]? = some x) (hy : ys[k2]? = some y)
    (hQ : ∀ h', ZG h' z TI TO → (∃ a b, IsPair h' TO a b) → ItB tb h' i1 l1 (k1 + 1) → ItB ub h' i2 l2 (k2 + 1) → IsPair h' s.heap.objs.size x y → h'.objs.size = s.heap.objs.size + 1 →
      (∀ c o, c ≠ z → c ≠ TO → c ≠ i1 → c ≠ i2 → s.heap.get? c = some o → h'.get? c = some o) → Q (.ref s.heap.objs.size) { s with heap := h' }) :
    wpAny (model prog w) A (Builtin.«zip.__next__» ⟨[.ref z], []⟩) (fun fin s' => ∃ v, fin = .done (.ret v) ∧ Q v s') E s := by
  obtain ⟨f0, f1, hf, hz0⟩ := id hz
  obtain ⟨a, b, hTO⟩ := hTO
  show wpAny _ _ (field (.ref z) 2 >>= _) _ _ _
  refine wpAny_bind (wpAny_field hz0 rfl (x := .bool false) rfl ?_)
  show wpAny _ _ (field (.ref z) 3 >>= _) _ _ _
  refine wpAny_bind (wpAny_field hz0 rfl (x := .ref TI) rfl ?_)
  refine wpAny_bind (wpAny_seqItems hTI rfl ?_)
  show wpAny _ _ (Builtin.SmallTypes.ownedTupleIsFree (.ref z) >>= _) _ _ _
  refine wpAny_bind (free hz ?_ fun h₁ hz₁ hs₁ => ?_)
  · simp only [if_true]
    refine wpAny_bind (wpAny_rule ?_)
    refine wpAny_bind (wpAny_field hz0 rfl (x := .ref TO) rfl ?_)
    refine wpAny_bind (wpAny_setField_rec hz0 (by simp) fun h₁ hz₁ hs₁ => ?_)
    replace hz₁ : h₁.get? z = some (ZO .ellipsis f1 TI TO) := hz₁
    refine wpAny_bind ?_
    simp only [List.zipIdx_cons, List.zipIdx_nil, List.forIn_cons, List.forIn_nil]
    refine wpAny_bind (wpAny_bind (wpAny_onRaise ?_))
    show wpAny _ _ (Builtin.SmallTypes.nextOf (.ref i1) >>= _) _ _ _
    refine wpAny_bind (nextB_item (ItB.extBut h1 hs₁.extBut D.i1z) (HsB.extBut hl1 hs₁.extBut D.l1z) hx fun h₂ h1₂ hs₂ => wpAny_pure ?_)
    have hTO₂ : IsPair h₂ TO a b := hs₂.extBut _ _ D.TOi1 (hs₁.extBut _ _ D.TOz hTO)
    refine wpAny_bind (wpAny_seqItems hTO₂ rfl ?_)
    refine wpAny_bind (wpAny_updateSeq_pair hTO₂ fun h₃ hTO₃ hs₃ => ?_)
    replace hTO₃ : IsPair h₃ TO x b := hTO₃
    refine wpAny_bind (wpAny_letGo (wpAny_pure ?_))
    refine wpAny_bind (wpAny_bind (wpAny_onRaise ?_))
    show wpAny _ _ (Builtin.SmallTypes.nextOf (.ref i2) >>= _) _ _ _
    refine wpAny_bind (nextB_item (((ItB.extBut h2 hs₁.extBut D.i2z).extBut hs₂.extBut D.i12.symm).extBut hs₃.extBut D.TOi2.symm)
      (((HsB.extBut hl2 hs₁.extBut D.l2z).extBut hs₂.extBut D.l2i1).extBut hs₃.extBut D.l2TO) hy fun h₄ h2₄ hs₄ => wpAny_pure ?_)
    have hTO₄ : IsPair h₄ TO x b := hs₄.extBut _ _ D.TOi2 hTO₃
    refine wpAny_bind (wpAny_seqItems hTO₄ rfl ?_)
    refine wpAny_bind (wpAny_updateSeq_pair hTO₄ fun h₅ hTO₅ hs₅ => ?_)
    replace hTO₅ : IsPair h₅ TO x y := hTO₅
    refine wpAny_bind (wpAny_letGo (wpAny_pure (wpAny_pure ?_)))
    refine wpAny_bind (wpAny_seqItems hTO₅ rfl ?_)
    refine wpAny_bind (wpAny_newTuple ?_)
    have hsz : h₅.objs.size = s.heap.objs.size := by rw [hs₅.1, hs₄.1, hs₃.1, hs₂.1, hs₁.1]
    have hk₅ : ∀ c o, c ≠ TO → c ≠ i1 → c ≠ i2 → h₁.get? c = some o → h₅.get? c = some o := fun c o c2 c3 c4 e =>
      hs₅.extBut _ _ c2 (hs₄.extBut _ _ c4 (hs₃.extBut _ _ c2 (hs₂.extBut _ _ c3 e)))
    have hz₅ := hk₅ _ _ D.TOz.symm D.i1z.symm D.i2z.symm hz₁
    have h1₅ : ItB tb h₅ i1 l1 (k1 + 1) := ((h1₂.extBut hs₃.extBut D.TOi1.symm).extBut hs₄.extBut D.i12).extBut hs₅.extBut D.TOi1.symm
    have h2₅ : ItB ub h₅ i2 l2 (k2 + 1) := h2₄.extBut hs₅.extBut D.TOi2.symm
    have hzlt : z < h₅.objs.size := Heap.lt_size hz₅
    show wpAny _ _ (Builtin.SmallTypes.ownedTupleHandOut (.ref z) (.ref h₅.objs.size) >>= _) _ _ _
    refine wpAny_bind ?_
    unfold Builtin.SmallTypes.ownedTupleHandOut
    refine wpAny_bind (wpAny_setField_rec (s := { s with heap := h₅.push { cls := .type "tuple", data := .seq #[x, y] } }) (Heap.get?_push_of_some _ hz₅) (by simp) fun h₇ hz₇ hs₇ => ?_)
    replace hz₇ : h₇.get? z = some (ZO (rawInt h₅.objs.size) f1 TI TO) := hz₇
    refine wpAny_setField_rec hz₇ (by simp) fun h₈ hz₈ hs₈ => ?_
    replace hz₈ : h₈.get? z = some (ZO (rawInt h₅.objs.size) false TI TO) := hz₈
    have up : ∀ c o, c ≠ z → h₅.get? c = some o → h₈.get? c = some o := fun c o c1 e => hs₈.extBut _ _ c1 (hs₇.extBut _ _ c1 (Heap.get?_push_of_some _ e))
    have hT₈ : IsPair h₈ h₅.objs.size x y := hs₈.extBut _ _ (Nat.ne_of_gt hzlt) (hs₇.extBut _ _ (Nat.ne_of_gt hzlt) (Heap.get?_push_size _ rfl))
    have hz8 : h₈.objs.size = h₅.objs.size + 1 := by rw [hs₈.1, hs₇.1, Heap.size_push]
    rw [hsz] at hT₈ hz8
    refine wpAny_pure ⟨_, rfl, ?_⟩
    show Q (.ref h₅.objs.size) _
    rw [hsz]
    exact hQ h₈ ⟨_, _, .inr ⟨_, rfl⟩, hz₈⟩ ⟨_, _, up _ _ D.TOz hTO₅⟩ (h1₅.keep fun o e => up _ o D.i1z e) (h2₅.keep fun o e => up _ o D.i2z e) hT₈ hz8 fun c o c1 c2 c3 c4 e => up c o c1 (hk₅ c o c2 c3 c4 (hs₁.extBut _ _ c1 e))
  · simp only [Bool.false_eq_true, if_false]
    refine wpAny_bind ?_
    rw [← Array.forIn_toList]
    simp only [List.forIn_cons, List.forIn_nil]
    refine wpAny_bind (wpAny_bind (wpAny_holding ?_))
    show wpAny _ _ (Builtin.SmallTypes.nextOf (.ref i1) >>= _) _ _ _
    refine wpAny_bind (nextB_item (s := { s with heap := h₁ }) (ItB.extBut h1 hs₁.extBut D.i1z) (HsB.extBut hl1 hs₁.extBut D.l1z) hx fun h₂ h1₂ hs₂ => wpAny_pure ?_)
    refine wpAny_pure ?_
    refine wpAny_bind (wpAny_bind (wpAny_holding ?_))
    show wpAny _ _ (Builtin.SmallTypes.nextOf (.ref i2) >>= _) _ _ _
    refine wpAny_bind (nextB_item (s := { s with heap := h₂ }) ((ItB.extBut h2 hs₁.extBut D.i2z).extBut hs₂.extBut D.i12.symm) ((HsB.extBut hl2 hs₁.extBut D.l2z).extBut hs₂.extBut D.l2i1) hy fun h₃ h2₃ hs₃ => wpAny_pure ?_)
    refine wpAny_pure (wpAny_pure ?_)
    show wpAny _ _ (newTuple [x, y] >>= _) _ _ _
    refine wpAny_bind (wpAny_newTuple ?_)
    have hsz : h₃.objs.size = s.heap.objs.size := by rw [hs₃.1, hs₂.1, hs₁.1]
    have hk : ∀ c o, c ≠ i1 → c ≠ i2 → h₁.get? c = some o → (h₃.push { cls := .type "tuple", data := .seq #[x, y] }).get? c = some o := fun c o c2 c3 e => Heap.get?_push_of_some _ (hs₃.extBut _ _ c3 (hs₂.extBut _ _ c2 e))
    have h1₃ : ItB tb h₃ i1 l1 (k1 + 1) := h1₂.extBut hs₃.extBut D.i12
    refine wpAny_pure ⟨_, rfl, ?_⟩
    show Q (.ref h₃.objs.size) _
    have hp : IsPair (h₃.push { cls := .type "tuple", data := .seq #[x, y] }) h₃.objs.size x y := Heap.get?_push_size _ rfl
    have hz4 : (h₃.push { cls := .type "tuple", data := .seq #[x, y] }).objs.size = h₃.objs.size + 1 := Heap.size_push ..
    rw [hsz] at hp hz4 ⊢
    exact hQ _ (hz₁.keep fun o e => hk _ _ D.i1z.symm D.i2z.symm e) ⟨a, b, hk _ _ D.TOi1 D.TOi2 (hs₁.extBut _ _ D.TOz hTO)⟩ (h1₃.keep fun o e => Heap.get?_push_of_some _ e) (h2₃.keep fun o e => Heap.get?_push_of_some _ e) hp hz4
      fun c o c1 _ c3 c4 e => hk c o c3 c4 (hs₁.extBut _ _ c1 e)
theorem next_end {z TI TO i1 i2 l1 l2 : Addr} {k1 k2 : Nat} {xs ys : Array Value} {tb ub : Bool} {Q : Fin → Shared → Prop} (hh : A.handled = none) (D : ZipApart z TI TO i1 i2 l1 l2)
    (hz : ZG s.heap z TI TO) (hTI : IsPair s.heap TI (.ref i1) (.ref i2)) (hTO : ∃ a b, IsPair s.heap TO a b)
    (h1 : ItB tb s.heap i1 l1 k1) (h2 : ItB ub s.heap i2 l2 k2) (hl1 : HsB tb s.heap l1 xs) (hl2 : HsB ub s.heap l2 ys) (hend : xs[k1]? = none ∨ ys[k2]? = none)
    (hE : ∀ h' e, (∀ c o, c ≠ z → c ≠ TO → c ≠ i1 → c ≠ i2 → s.heap.get? c = some o → h'.get? c = some o) → (∃ o, h'.get? e = some o ∧ o.cls = .type "StopIteration") → E (.ref e) { s with heap := h' }) :
    wpAny (model prog w) A (Builtin.«zip.__next__» ⟨[.ref z], []⟩) Q E s := by
  obtain ⟨f0, f1, hf, hz0⟩ := id hz
  obtain ⟨a, b, hTO⟩ := hTO
  show wpAny _ _ (field (.ref z) 2 >>= _) _ _ _
  refine wpAny_bind (wpAny_field hz0 rfl (x := .bool false) rfl ?_)
  show wpAny _ _ (field (.ref z) 3 >>= _) _ _ _
  refine wpAny_bind (wpAny_field hz0 rfl (x := .ref TI) rfl ?_)
  refine wpAny_bind (wpAny_seqItems hTI rfl ?_)
  show wpAny _ _ (Builtin.SmallTypes.ownedTupleIsFree (.ref z) >>= _) _ _ _
  refine wpAny_bind (free hz ?_ fun h₁ hz₁ hs₁ => ?_)
  · simp only [if_true]
    refine wpAny_bind (wpAny_rule ?_)
    refine wpAny_bind (wpAny_field hz0 rfl (x := .ref TO) rfl ?_)
    refine wpAny_bind (wpAny_setField_rec hz0 (by simp) fun h₁ hz₁ hs₁ => ?_)
    replace hz₁ : h₁.get? z = some (ZO .ellipsis f1 TI TO) := hz₁
    refine wpAny_bind ?_
    simp only [List.zipIdx_cons, List.zipIdx_nil, List.forIn_cons, List.forIn_nil]
    refine wpAny_bind (wpAny_bind (wpAny_onRaise ?_))
    show wpAny _ _ (Builtin.SmallTypes.nextOf (.ref i1) >>= _) _ _ _
    cases hx : xs[k1]? with
    | none =>
      refine wpAny_bind (nextB_end hh (ItB.extBut h1 hs₁.extBut D.i1z) (HsB.extBut hl1 hs₁.extBut D.l1z) hx fun h₂ e hs₂ he => ?_)
      obtain ⟨oe, hoe, hce⟩ := he
      have hz₂ : h₂.get? z = some (ZO .ellipsis f1 TI TO) := hs₂ _ _ D.i1z.symm hz₁
      have hez : e ≠ z := fun x => by subst x; rw [hz₂] at hoe; cases hoe; simp at hce
      refine wpAny_setField_rec hz₂ (by simp) fun h₃ _ hs₃ => hE h₃ e (fun c o c1 _ c3 _ x => hs₃.extBut _ _ c1 (hs₂ _ _ c3 (hs₁.extBut _ _ c1 x))) ⟨oe, hs₃.extBut _ _ hez hoe, hce⟩
    | some x =>
      have hy : ys[k2]? = none := by rcases hend with h | h; rw [hx] at h; cases h; exact h
      refine wpAny_bind (nextB_item (ItB.extBut h1 hs₁.extBut D.i1z) (HsB.extBut hl1 hs₁.extBut D.l1z) hx fun h₂ h1₂ hs₂ => wpAny_pure ?_)
      have hTO₂ : IsPair h₂ TO a b := hs₂.extBut _ _ D.TOi1 (hs₁.extBut _ _ D.TOz hTO)
      refine wpAny_bind (wpAny_seqItems hTO₂ rfl ?_)
      refine wpAny_bind (wpAny_updateSeq_pair hTO₂ fun h₃ hTO₃ hs₃ => ?_)
      refine wpAny_bind (wpAny_letGo (wpAny_pure ?_))
      refine wpAny_bind (wpAny_bind (wpAny_onRaise ?_))
      show wpAny _ _ (Builtin.SmallTypes.nextOf (.ref i2) >>= _) _ _ _
      refine wpAny_bind (nextB_end hh (((ItB.extBut h2 hs₁.extBut D.i2z).extBut hs₂.extBut D.i12.symm).extBut hs₃.extBut D.TOi2.symm)
        (((HsB.extBut hl2 hs₁.extBut D.l2z).extBut hs₂.extBut D.l2i1).extBut hs₃.extBut D.l2TO) hy fun h₄ e hs₄ he => ?_)
      obtain ⟨oe, hoe, hce⟩ := he
      have hz₄ : h₄.get? z = some (ZO .ellipsis f1 TI TO) := hs₄ _ _ D.i2z.symm (hs₃.extBut _ _ D.TOz.symm (hs₂.extBut _ _ D.i1z.symm hz₁))
      have hez : e ≠ z := fun x => by subst x; rw [hz₄] at hoe; cases hoe; simp at hce
      refine wpAny_setField_rec hz₄ (by simp) fun h₅ _ hs₅ => hE h₅ e (fun c o c1 c2 c3 c4 x => hs₅.extBut _ _ c1 (hs₄ _ _ c4 (hs₃.extBut _ _ c2 (hs₂.extBut _ _ c3 (hs₁.extBut _ _ c1 x))))) ⟨oe, hs₅.extBut _ _ hez hoe, hce⟩
  · simp only [Bool.false_eq_true, if_false]
    refine wpAny_bind ?_
    rw [← Array.forIn_toList]
    simp only [List.forIn_cons, List.forIn_nil]
    refine wpAny_bind (wpAny_bind (wpAny_holding ?_))
    show wpAny _ _ (Builtin.SmallTypes.nextOf (.ref i1) >>= _) _ _ _
    cases hx : xs[k1]? with
    | none =>
      refine wpAny_bind (nextB_end (s := { s with heap := h₁ }) hh (ItB.extBut h1 hs₁.extBut D.i1z) (HsB.extBut hl1 hs₁.extBut D.l1z) hx fun h₂ e hs₂ he => ?_)
      exact hE h₂ e (fun c o c1 _ c3 _ x => hs₂ _ _ c3 (hs₁.extBut _ _ c1 x)) he
    | some x =>
      have hy : ys[k2]? = none := by rcases hend with h | h; rw [hx] at h; cases h; exact h
      refine wpAny_bind (nextB_item (s := { s with heap := h₁ }) (ItB.extBut h1 hs₁.extBut D.i1z) (HsB.extBut hl1 hs₁.extBut D.l1z) hx fun h₂ h1₂ hs₂ => wpAny_pure ?_)
      refine wpAny_pure ?_
      refine wpAny_bind (wpAny_bind (wpAny_holding ?_))
      show wpAny _ _ (Builtin.SmallTypes.nextOf (.ref i2) >>= _) _ _ _
      refine wpAny_bind (nextB_end (s := { s with heap := h₂ }) hh ((ItB.extBut h2 hs₁.extBut D.i2z).extBut hs₂.extBut D.i12.symm) ((HsB.extBut hl2 hs₁.extBut D.l2z).extBut hs₂.extBut D.l2i1) hy fun h₃ e hs₃ he => ?_)
      exact hE h₃ e (fun c o c1 _ c3 c4 x => hs₃ _ _ c4 (hs₂.extBut _ _ c3 (hs₁.extBut _ _ c1 x))) he
end
end DZ
set_option maxHeartbeats 4000000
namespace DZ
open PySem PySem.Spec PyProof.Rows L2 ZM EZ
section
variable {prog : Program} {w : World} {A : Around} {E : Value → Shared → Prop} {s : Shared}
theorem pyNextM_item {z TI TO i1 i2 l1 l2 : Addr} {k1 k2 : Nat} {xs ys : Array Value} {tb ub : Bool} {x y : Value} {Q : Option Value → Shared → Prop} (D : ZipApart z TI TO i1 i2 l1 l2)
    (hz : ZG s.heap z TI TO) (hTI : IsPair s.heap TI (.ref i1) (.ref i2)) (hTO : ∃ a b, IsPair s.heap TO a b)
    (h1 : ItB tb s.heap i1 l1 k1) (h2 : ItB ub s.heap i2 l2 k2) (hl1 : HsB tb s.heap l1 xs) (hl2 : HsB ub s.heap l2 ys) (hx : xs[k1]? = some x) (hy : ys[k2]? = some y)
    (hQ : ∀ h', ZG h' z TI TO → (∃ a b, IsPair h' TO a b) → ItB tb h' i1 l1 (k1 + 1) → ItB ub h' i2 l2 (k2 + 1) → IsPair h' s.heap.objs.size x y → h'.objs.size = s.heap.objs.size + 1 →
      (∀ c o, c ≠ z → c ≠ TO → c ≠ i1 → c ≠ i2 → s.heap.get? c = some o → h'.get? c = some o) → Q (some (.ref s.heap.objs.size)) { s with heap := h' }) :
    wpAny (model prog w) A (pyNext (.ref z)) Q E s := by
  obtain ⟨f0, f1, hf, hz0⟩ := id hz
  have ty : s.TypeIs (.ref z) "zip" := ⟨_, hz0, rfl⟩
  unfold pyNext
  refine wpAny_bind (wpAny_attempt (wpAny_callSpecial?_slot (name := Str.ofString "__next__") ty F.slot_zip_next ?_))
  refine wpAny_call_entry F.slot_zip_next ty F.entry_zip_next ?_ (F.args_zip_next_1 _)
  exact next_item D hz hTI hTO h1 h2 hl1 hl2 hx hy fun h' a1 a2 a3 a4 a5 a6 a7 => wpAny_pure (hQ h' a1 a2 a3 a4 a5 a6 a7)
theorem pyNextM_end {z TI TO i1 i2 l1 l2 : Addr} {k1 k2 : Nat} {xs ys : Array Value} {tb ub : Bool} {Q : Option Value → Shared → Prop} (hh : A.handled = none) (D : ZipApart z TI TO i1 i2 l1 l2)
    (hz : ZG s.heap z TI TO) (hTI : IsPair s.heap TI (.ref i1) (.ref i2)) (hTO : ∃ a b, IsPair s.heap TO a b)
    (h1 : ItB tb s.heap i1 l1 k1) (h2 : ItB ub s.heap i2 l2 k2) (hl1 : HsB tb s.heap l1 xs) (hl2 : HsB ub s.heap l2 ys) (hend : xs[k1]? = none ∨ ys[k2]? = none)
    (hQ : ∀ h', (∀ c o, c ≠ z → c ≠ TO → c ≠ i1 → c ≠ i2 → s.heap.get? c = some o → h'.get? c = some o) → Q none { s with heap := h' }) : wpAny (model prog w) A (pyNext (.ref z)) Q E s := by
  obtain ⟨f0, f1, hf, hz0⟩ := id hz
  have ty : s.TypeIs (.ref z) "zip" := ⟨_, hz0, rfl⟩
  unfold pyNext
  refine wpAny_bind (wpAny_attempt (wpAny_callSpecial?_slot (name := Str.ofString "__next__") ty F.slot_zip_next ?_))
  refine wpAny_call_entry F.slot_zip_next ty F.entry_zip_next ?_ (F.args_zip_next_1 _)
  refine next_end hh D hz hTI hTO h1 h2 hl1 hl2 hend fun h' e hk he => ?_
  obtain ⟨o, ho, hc⟩ := he
  exact wpAny_bind (wpAny_isInstance (T := "StopIteration") (b := true) ⟨o, ho, hc⟩ isSubtype_stop (wpAny_pure (hQ _ hk)))
end
section
variable {prog : Program} {w : World}
/-- how zip stands while a dict takes its pairs -/
def StZ (t u : Bool) (z TI TO i1 i2 l1 l2 : Addr) (xs ys : Array Value) (i : Nat) (h : Heap) : Prop :=
  ZG h z TI TO ∧ IsPair h TI (.ref i1) (.ref i2) ∧ (∃ a b, IsPair h TO a b) ∧ ItB t h i1 l1 i ∧ ItB u h i2 l2 i ∧ HsB t h l1 xs ∧ HsB u h l2 ys
theorem StZ.keep {t u : Bool} {z TI TO i1 i2 l1 l2 : Addr} {xs ys : Array Value} {i : Nat} {h h' : Heap} (q : StZ t u z TI TO i1 i2 l1 l2 xs ys i h) (k : ∀ c ∈ [z, TI, TO, i1, i2, l1, l2], ∀ o, h.get? c = some o → h'.get? c = some o) : StZ t u z TI TO i1 i2 l1 l2 xs ys i h' := by
  obtain ⟨a1, a2, ⟨x, y, a3⟩, a4, a5, a6, a7⟩ := q
  exact ⟨a1.keep (k z (by simp)), k TI (by simp) _ a2, ⟨x, y, k TO (by simp) _ a3⟩, a4.keep (k i1 (by simp)), a5.keep (k i2 (by simp)), a6.keep (k l1 (by simp)), a7.keep (k l2 (by simp))⟩
theorem srcZ {A : Around} (hA : A.handled = none) {t u : Bool} {z TI TO i1 i2 l1 l2 d : Addr} (D : ZipApart z TI TO i1 i2 l1 l2) (xs ys : Array Value) (hd : d ∉ [z, TI, TO, i1, i2, l1, l2]) :
    PySem.PairSrc prog w A z d [z, TO, i1, i2] (min xs.size ys.size) (fun i k v => xs[i]? = some k ∧ ys[i]? = some v) (StZ t u z TI TO i1 i2 l1 l2 xs ys) where
  off := fun h => hd (by
    simp only [List.mem_cons, List.not_mem_nil, or_false] at h
    rcases h with h | h | h | h <;> simp [h])
  frame := fun i h h' q k => q.keep fun c hc o e => k c o (fun n => hd (n ▸ hc)) e
  item := fun i s Q E hi ⟨a1, a2, a3, a4, a5, a6, a7⟩ hds hQ => by
    have hx : i < xs.size := by omega
    have hy : i < ys.size := by omega
    have ex := Array.getElem?_eq_getElem hx
    have ey := Array.getElem?_eq_getElem hy
    refine pyNextM_item D a1 a2 a3 a4 a5 a6 a7 ex ey fun h' b1 b2 b3 b4 b5 b6 hk => ?_
    refine hQ s.heap.objs.size _ _ h' s.toks ⟨ex, ey⟩ (.inl ⟨_, b5, rfl, _, rfl⟩) ⟨b1, ?_, b2, b3, b4, ?_, ?_⟩ fun c o hc e => hk c o (fun x => hc (by simp [x])) (fun x => hc (by simp [x])) (fun x => hc (by simp [x])) (fun x => hc (by simp [x])) e
    · exact hk _ _ D.TIz D.TITO D.TIi1 D.TIi2 a2
    · exact a6.keep fun o e => hk _ o D.l1z D.l1TO D.l1i1 D.l1i2 e
    · exact a7.keep fun o e => hk _ o D.l2z D.l2TO D.l2i1 D.l2i2 e
  done := fun s Q E ⟨a1, a2, a3, a4, a5, a6, a7⟩ hQ => by
    have hend : xs[min xs.size ys.size]? = none ∨ ys[min xs.size ys.size]? = none := by
      by_cases h : xs.size ≤ ys.size
      · exact .inl (Array.getElem?_eq_none (by omega))
      · exact .inr (Array.getElem?_eq_none (by omega))
    exact pyNextM_end hA D a1 a2 a3 a4 a5 a6 a7 hend fun h' hk => hQ h' s.toks fun c o hc e => hk c o (fun x => hc (by simp [x])) (fun x => hc (by simp [x])) (fun x => hc (by simp [x])) (fun x => hc (by simp [x])) e
theorem argZ {t u : Bool} {z TI TO i1 i2 l1 l2 : Addr} (D : ZipApart z TI TO i1 i2 l1 l2) (xs ys : Array Value) :
    PairArg prog w "zip" z [z, TI, TO, i1, i2, l1, l2] [z, TO, i1, i2] (min xs.size ys.size) (fun i k v => xs[i]? = some k ∧ ys[i]? = some v) (fun h => IsZip h z TI TO .none ∧ StZ t u z TI TO i1 i2 l1 l2 xs ys 0 h) where
  type := fun _ q => ⟨_, q.1, rfl⟩
  notDict := by decide
  keep := fun h h' q k => ⟨k _ _ q.1, q.2.keep fun c _ o e => k c o e⟩
  there := fun h q b hb => by
    obtain ⟨a1, a2, ⟨x, y, a3⟩, a4, a5, a6, a7⟩ := q.2
    simp only [List.mem_cons, List.not_mem_nil, or_false] at hb
    rcases hb with rfl | rfl | rfl | rfl | rfl | rfl | rfl
    · exact a1.get
    · exact ⟨_, a2⟩
    · exact ⟨_, a3⟩
    · obtain ⟨o, e, _⟩ := a4.get; exact ⟨o, e⟩
    · obtain ⟨o, e, _⟩ := a5.get; exact ⟨o, e⟩
    · exact a6.get
    · exact a7.get
  sub := fun b hb => by
    simp only [List.mem_cons, List.not_mem_nil, or_false] at hb
    rcases hb with h | h | h | h <;> simp [h]
  noKeys := fun A s Q E hA q h => getAttrOr_miss_zip q.1 rfl rfl rfl zip_no_keys (by decide +kernel) hA h
  iter := fun A s d Q E hA q hd hdf h => wpAny_pyIter_zip q.1 (h z [z, TO, i1, i2] (StZ t u z TI TO i1 i2 l1 l2 xs ys) s.heap s.toks (srcZ hA D xs ys hdf) q.2 (fun _ _ e => e) fun b hb => .inl hb)
end
theorem apartN {N l1 l2 : Addr} (h1 : l1 < N) (h2 : l2 < N) : ZipApart (N + 4) (N + 2) (N + 3) N (N + 1) l1 l2 := by
  constructor <;> (intro e; simp only [Addr] at *; omega)
def mergeV (ks : List Key) (ys : List V) : List (Key × V) := (ks.zip ys).foldl (fun acc kv => putK acc kv.1 kv.2) []
def tDictZip (K : PySem.W.Frag) (ta : TA) : TE := fun σ H Q => ta σ H fun vs H1 => ∃ (t u : Bool) (a b : Addr) (ks : List Key) (ys : List V), vs = [.ref a, .ref b] ∧ SqB K t H1 a (ks.map kV) ∧ SqB K u H1 b ys ∧ ks.length ≤ 1000 ∧ ∀ q, H1 q = none → Q (.ref q) (upd H1 q (.dK (mergeV ks ys)))
theorem merge_len : ∀ (l : List (Key × V)) (acc : List (Key × V)), (l.foldl (fun acc kv => putK acc kv.1 kv.2) acc).length ≤ acc.length + l.length
  | [], acc => Nat.le_refl _
  | kv :: l, acc => by
    have h1 := merge_len l (putK acc kv.1 kv.2)
    have h2 := length_putK acc kv.1 kv.2
    simp only [List.foldl_cons, List.length_cons]
    omega
theorem kv_merge : ∀ {l : List (Key × V)} {m : List (Key × Value)}, KV l m → ∀ {acc : List (Key × V)} {acc' : List (Key × Value)}, KV acc acc' → KV (l.foldl (fun acc kv => putK acc kv.1 kv.2) acc) (merged acc' m)
  | [], m, h, acc, acc', ha => by
    cases h
    exact ha
  | kv :: l, m, h, acc, acc', ha => by
    match m, h with
    | kw :: m, .cons h1 h2 =>
      obtain ⟨e, r⟩ := h1
      have key := kv_merge h2 (acc := putK acc kv.1 kv.2) (acc' := stored acc' kv.1 kw.2) (KV.put ha kv.1 r)
      rw [e] at key
      show KV (l.foldl (fun acc kv => putK acc kv.1 kv.2) (putK acc kv.1 kv.2)) (merged (stored acc' kw.1 kw.2) m)
      rw [e]
      exact key
theorem key_is : ∀ {k : Key} {v : Value}, RelV (kV k) v → keyIs k v = true
  | .inl i, v, ⟨t, e⟩ => by rw [e]; exact keyIs_int i t
  | .inr x, v, ⟨t, e⟩ => by rw [e]; exact keyIs_str x t
theorem kv_zip : ∀ (ks : List Key) {ys : List V} {vs : List Value}, Vals ys vs → KV (ks.zip ys) (ks.zip vs)
  | [], _, _, _ => .nil
  | _ :: _, _, _, .nil => .nil
  | k :: ks, _, _, .cons h hs => .cons ⟨rfl, h⟩ (kv_zip ks hs)
/-- dict(zip(a, b)) -/
theorem pe_dictZip {X : Cx} {e e2 : Expr} {ta : TA} {p pos p2 pos2 : Pos} (hc : X.calm = true) (hgd : Gl X "dict") (hmd : X.mg "dict" = none) (hg : Gl X "zip") (hm : X.mg "zip" = none) (ha : PA X [e, e2] ta)
    (hs : starEach [e, e2] X.env = (false, eval e X.env) :: starEach [e2] X.env := by rfl) (hpl : (backTo pos2 (starEach [e2] X.env)).any (·.1) = false := by rfl)
    (na : starEach [Expr.Call (.Name "zip" p2) [e, e2] [] pos2] X.env = (false, eval (Expr.Call (.Name "zip" p2) [e, e2] [] pos2) X.env) :: starEach [] X.env := by rfl) :
    PE X (.Call (.Name "dict" p) [.Call (.Name "zip" p2) [e, e2] [] pos2] [] pos) (tDictZip X.K ta) := by
  refine ⟨fun pins s σ H Q I h => ?_⟩
  refine Call_ (ld_blt I hgd hmd boot_dict (PyProof.Rows.callWith_type1 (args_cons (Call_ (ld_blt I hg hm PyProof.Rows.boot_zip (PyProof.Rows.callWith_type1 (thn (ha.run pos2 pins s σ H _ I h) fun us s1 hh => ?_) hs hpl))) na) na))
  obtain ⟨vs, H1, I1, r1, t, u, a, b, ks, ys, rfl, hqx, hqy, hl, q⟩ := hh
  match us, r1 with
  | [_, _], .cons rfl (.cons rfl .nil) =>
    obtain ⟨its, rv, p1, la⟩ := seqB I1 hqx
    obtain ⟨its2, rv2, p2', lb⟩ := seqB I1 hqy
    refine zip_begins2 (beginsB t a its.toArray) (beginsB u b its2.toArray) p1 p2' fun h' hz hTI hTO h1 h2 hsz hk => args_nil ?_
    have I2 : Inv X pins σ H1 { s1 with heap := h' } := I1.kept (t' := s1.toks) hk
    have l1 := rv.length
    have l2 := rv2.length
    rw [List.length_map] at l1
    have ap := apartN (N := s1.heap.objs.size) la lb
    have hkl : (ks.zip its2).length = min its.toArray.size its2.toArray.size := by rw [List.length_zip, List.size_toArray, List.size_toArray, l1]
    refine call_dict_pairs (knd := mixKind X.prog X.w) (kvs := ks.zip its2) (argZ (t := t) (u := u) ap its.toArray its2.toArray) (I2.ok.hd hc) ⟨hz, ⟨.none, false, .inl rfl, hz⟩, hTI, ⟨_, _, hTO⟩, itB_of h1, itB_of h2, p1.keep fun o e => hk _ o e, p2'.keep fun o e => hk _ o e⟩ ⟨hkl, fun i key v ⟨e1, e2⟩ => ?_⟩ (by rw [← hkl, List.length_zip, sizeLine_eq]; omega) fun h'' tk hd hk2 => ?_
    · rw [List.getElem?_toArray] at e1 e2
      have hi : i < its.length := (List.getElem?_eq_some_iff.mp e1).1
      have hik : i < ks.length := by omega
      obtain ⟨u', hu, ru⟩ := rv.get (i := i) (x := kV ks[i]) (by rw [List.getElem?_map, List.getElem?_eq_getElem hik]; rfl)
      rw [e1] at hu
      cases hu
      refine ⟨ks[i], ?_, key_is ru⟩
      rw [List.getElem?_zip_eq_some]
      exact ⟨List.getElem?_eq_getElem hik, e2⟩
    · have hold : ∀ c o, s1.heap.get? c = some o → h''.get? c = some o := fun c o e => hk2 c o (fun hm => by
        have := Heap.lt_size e
        simp only [List.mem_cons, List.not_mem_nil, or_false] at hm
        rcases hm with rfl | rfl | rfl | rfl <;> simp only [Addr] at * <;> omega) (hk c o e)
      have hle : s1.heap.objs.size ≤ h'.objs.size := by rw [hsz]; exact Nat.le_add_right _ _
      refine ⟨.ref h'.objs.size, upd H1 h'.objs.size (.dK (mergeV ks ys)), I1.laid (t' := tk) hold hle (show ObjOk X.prog X.w _ _ _ (.dK (mergeV ks ys)) from ⟨?_, ?_, merged [] (ks.zip its2), kv_merge (kv_zip ks rv2) .nil, hd⟩), rfl, q _ (I1.hok.fresh hle)⟩
      · have := merge_len (ks.zip ys) []
        rw [List.length_zip, List.length_nil] at this
        show (mergeV ks ys).length ≤ sizeLine
        unfold mergeV
        rw [sizeLine_eq]
        omega
      · have hb := I1.big
        rw [beq_eq_false_iff_ne]
        intro e
        rw [e] at hle
        exact absurd hb (Nat.not_lt.mpr hle)
end DZ
set_option maxHeartbeats 2000000
/-! the layer of data: fields of instances, dict(zip(a, b)), d.get(k, x) -/
namespace DL
open PySem PySem.Spec PyProof.Rows L2 LW GX LD
section
variable {Z : Wd} {M M' : AS} {env : Env} {σ : L2.St} {H H0 H1 H2 H' : Hp} {ta tb tc te : TE} {A B C E : DE} {t : TA} {As : DAs} {K : PySem.W.Frag}
theorem DaF.at : ∀ {fs : List (Str × V)} {kvs : List (PyData × PyData)} {i : Nat} {f : Str} {d : PyData}, DaF K M H fs kvs → kvs[i]? = some (.str f, d) → ∃ v, fs[i]? = some (f, v) ∧ Da K M H v d
  | _, _, i, _, _, .nil, h => by simp at h
  | _, _, 0, _, _, .cons h _, e => by
    cases e
    exact ⟨_, rfl, h⟩
  | _, _, i + 1, _, _, .cons _ hs, e => DaF.at (i := i) hs e
theorem lookup_at : ∀ {fs : List (Str × V)} {i : Nat} {f : Str} {v : V}, (fs.map (·.1)).Nodup → fs[i]? = some (f, v) → fs.lookup f = some v
  | [], i, _, _, _, h => by simp at h
  | (g, u) :: fs, 0, f, v, _, h => by
    cases h
    exact List.lookup_cons_self
  | (g, u) :: fs, i + 1, f, v, nd, h => by
    rw [List.map_cons, List.nodup_cons] at nd
    have h : fs[i]? = some (f, v) := h
    have hm : f ∈ fs.map (·.1) := List.mem_map.mpr ⟨(f, v), List.mem_of_getElem? h, rfl⟩
    have ne : (f == g) = false := by
      rw [beq_eq_false_iff_ne]
      intro e
      rw [e] at hm
      exact nd.1 hm
    rw [List.lookup_cons, ne]
    exact lookup_at nd.2 h
/-! ### dicts that are never changed -/
def eqKD (d : PyData) (i : Int) : Bool := match d with
  | .int j => decide (j = i)
  | _ => false
def putD (kvs : List (PyData × PyData)) (k : Int) (d : PyData) : List (PyData × PyData) :=
  if (kvs.any fun p => eqKD p.1 k) = true then kvs.map (fun p => if eqKD p.1 k = true then (p.1, d) else p) else kvs ++ [(.int k, d)]
def mergeD (ns : List Int) (es : List PyData) : List (PyData × PyData) := (ns.zip es).foldl (fun acc p => putD acc p.1 p.2) []
def getKD (kvs : List (PyData × PyData)) (i : Int) (d : PyData) : PyData := ((kvs.find? fun p => eqKD p.1 i).map (·.2)).getD d
def plainK : List (PyData × PyData) → Bool
  | (.none, _) :: _ => false
  | _ => true
theorem DaK.plain {ks : List (Key × V)} {kvs : List (PyData × PyData)} (h : DaK K M H ks kvs) : plainK kvs = true := by
  cases h with
  | nil => rfl
  | @cons k v ks d kvs h hs => cases k <;> rfl
def dFld (f : Str) (i : Nat) (A : DE) : DE := fun env k => A env fun r => ∃ kvs, r = .v (.dict ((.none, .none) :: kvs)) ∧ ∃ d, kvs[i]? = some (.str f, d) ∧ k (.v d)
theorem re_fld {f : Str} {i : Nat} (ha : RE Z ta A) : RE Z (tFld Z.K ta f) (dFld f i A) :=
  ⟨fun env K K' h q => ha.mono env _ _ (fun r ⟨c, e, d, e2, q⟩ => ⟨c, e, d, e2, h _ q⟩) q, fun M env σ H Q S h => ha.run M env σ H _ S (ha.mono env _ _ (fun r ⟨kvs, e, d, e2, q⟩ v H' k hv => by
    subst e
    have hv : Da Z.K M H' v (.dict ((.none, .none) :: kvs)) := hv
    cases hv with
    | @obj a C dx fs _ h1 h2 o hs =>
      obtain ⟨u, hu, hd⟩ := hs.at e2
      exact ⟨a, C, dx, fs, u, rfl, h1, o.cls, o.na f (List.mem_map.mpr ⟨(f, u), List.mem_of_getElem? hu, rfl⟩), lookup_at o.nd hu, q _ _ k hd⟩
    | dct h1 h2 hs => exact absurd hs.plain Bool.false_ne_true) h)⟩
theorem eqKD_key (k : Key) (i : Int) : eqKD (keyD k) i = decide (k = (.inl i : Key)) := by
  cases k with
  | inl j =>
    show decide (j = i) = _
    exact decide_eq_decide.mpr ⟨fun e => by rw [e], fun e => Sum.inl.inj e⟩
  | inr x =>
    show false = _
    rw [decide_eq_false]
    nofun
theorem DaK.any {i : Int} : ∀ {ks : List (Key × V)} {kvs : List (PyData × PyData)}, DaK K M H ks kvs → (ks.any fun p => decide (p.1 = (.inl i : Key))) = kvs.any fun p => eqKD p.1 i
  | _, _, .nil => rfl
  | _, _, @DaK.cons _ _ _ k _ _ _ _ _ hs => by
    rw [List.any_cons, List.any_cons, DaK.any hs]
    congr 1
    exact (eqKD_key k i).symm
theorem DaK.map {i : Int} {v : V} {d : PyData} (hv : Da K M H v d) : ∀ {ks : List (Key × V)} {kvs : List (PyData × PyData)}, DaK K M H ks kvs → DaK K M H (ks.map fun p => if p.1 = (.inl i : Key) then (p.1, v) else p) (kvs.map fun p => if eqKD p.1 i = true then (p.1, d) else p)
  | _, _, .nil => .nil
  | _, _, @DaK.cons _ _ _ k _ _ _ _ h hs => by
    rw [List.map_cons, List.map_cons]
    dsimp only
    rw [eqKD_key]
    by_cases e : k = (.inl i : Key)
    · rw [if_pos e, if_pos (decide_eq_true e)]
      exact .cons hv (DaK.map hv hs)
    · rw [if_neg e, if_neg (by rw [decide_eq_false e]; nofun)]
      exact .cons h (DaK.map hv hs)
theorem DaK.app : ∀ {ks ls : List (Key × V)} {kvs lvs : List (PyData × PyData)}, DaK K M H ks kvs → DaK K M H ls lvs → DaK K M H (ks ++ ls) (kvs ++ lvs)
  | _, _, _, _, .nil, h => h
  | _, _, _, _, .cons h hs, g => .cons h (DaK.app hs g)
theorem DaK.put {i : Int} {v : V} {d : PyData} {ks : List (Key × V)} {kvs : List (PyData × PyData)} (h : DaK K M H ks kvs) (hv : Da K M H v d) : DaK K M H (putK ks (.inl i) v) (putD kvs i d) := by
  unfold putK putD
  rw [h.any]
  by_cases e : (kvs.any fun p => eqKD p.1 i) = true
  · rw [if_pos e, if_pos e]
    exact h.map hv
  · rw [if_neg e, if_neg e]
    exact h.app (.cons (k := .inl i) hv .nil)
theorem DaK.merge : ∀ {ns : List Int} {ys : List V} {es : List PyData} {ks : List (Key × V)} {kvs : List (PyData × PyData)}, Das K M H ys es → DaK K M H ks kvs → DaK K M H (((ns.map (Sum.inl : Int → Key)).zip ys).foldl (fun acc kv => putK acc kv.1 kv.2) ks) ((ns.zip es).foldl (fun acc p => putD acc p.1 p.2) kvs)
  | [], _, _, _, _, _, h => h
  | _ :: _, _, _, _, _, .nil, h => h
  | n :: ns, _, _, _, _, .cons hv hs, h => DaK.merge (ns := ns) hs (h.put hv)
theorem DaK.find {i : Int} : ∀ {ks : List (Key × V)} {kvs : List (PyData × PyData)}, DaK K M H ks kvs → (valV ks (.inl i : Key) = none ∧ (kvs.find? fun p => eqKD p.1 i) = none) ∨ ∃ v p, valV ks (.inl i : Key) = some v ∧ (kvs.find? fun p => eqKD p.1 i) = some p ∧ Da K M H v p.2
  | _, _, .nil => .inl ⟨rfl, rfl⟩
  | _, _, @DaK.cons _ _ _ k v ks d kvs h hs => by
    by_cases e : k = (.inl i : Key)
    · refine .inr ⟨v, (keyD k, d), valV_pos e, ?_, h⟩
      rw [List.find?_cons, eqKD_key, decide_eq_true e]
    · have e2 : eqKD (keyD k) i = false := by rw [eqKD_key, decide_eq_false e]
      rw [valV_neg (p := (k, v)) e, List.find?_cons]
      dsimp only
      rw [e2]
      exact DaK.find hs
def dDictZip (As : DAs) : DE := fun env k => As env fun rs => ∃ r1 r2, rs = [r1, r2] ∧ ∃ ns : List Int, seqOf env r1 = some (ns.map .int) ∧ ∃ es, seqOf env r2 = some es ∧ ns.length ≤ 1000 ∧ k (.v (.dict (mergeD ns es)))
theorem re_dictZip (ha : RA Z t As) : RE Z (DZ.tDictZip Z.K t) (dDictZip As) := by
  refine ⟨fun env K K' h q => ha.mono env _ _ (fun rs ⟨r1, r2, e, ns, e1, es, e2, hl, q⟩ => ⟨r1, r2, e, ns, e1, es, e2, hl, h _ q⟩) q, fun M env σ H Q S h => ?_⟩
  refine ha.run M env σ H _ S (ha.mono env _ _ (fun rs ⟨r1, r2, e, ns, e1, es, e2, hl, q⟩ vs H' k hv => ?_) h)
  subst e
  obtain ⟨v, u, rfl, h1, h2⟩ := hv.two
  have S1 := S.same k
  obtain ⟨t1, a, xs, rfl, q1, d1⟩ := h1.sq S k e1
  obtain ⟨t2, b, ys, rfl, q2, d2⟩ := h2.sq S k e2
  have ex : xs = (ns.map (Sum.inl : Int → Key)).map kV := by
    rw [Das.intsV d1, List.map_map]
    rfl
  have s1 := q1 H' (Kp.refl _ _)
  rw [ex] at s1
  refine ⟨t1, t2, a, b, ns.map Sum.inl, ys, rfl, s1, q2 H' (Kp.refl _ _), by rw [List.length_map]; exact hl, fun p hp => q _ _ (k.trans (S1.new hp)) ?_⟩
  exact .dct upd_same (fun z => S1.dom p z hp) (DaK.merge (d2.kp (S1.new (σ := σ) (env := env) hp).kp S1.psl S1.psm fun b z => .inl z) .nil)
def dGet2 (A B C : DE) : DE := fun env k => A env fun r => ∃ kvs, r = .v (.dict kvs) ∧ plainK kvs = true ∧ B env fun r2 => C env fun r3 => ∃ i, r2 = .v (.int i) ∧ ∃ d, r3 = .v d ∧ k (.v (getKD kvs i d))
theorem re_get2 (ha : RE Z ta A) (hb : RE Z tb B) (hc : RE Z tc C) : RE Z (tDGet2 ta tb tc) (dGet2 A B C) := by
  refine ⟨fun env K K' h q => ha.mono env _ _ (fun r ⟨kvs, e, e2, q⟩ => ⟨kvs, e, e2, hb.mono env _ _ (fun r2 q => hc.mono env _ _ (fun r3 ⟨i, e, d, e2, q⟩ => ⟨i, e, d, e2, h _ q⟩) q) q⟩) q, fun M env σ H Q S h => ?_⟩
  refine ha.run M env σ H _ S (ha.mono env _ _ (fun r ⟨kvs, e, e2, q⟩ v H1 k1 hv1 => ?_) h)
  subst e
  have hv1 : Da Z.K M H1 v (.dict kvs) := hv1
  cases hv1 with
  | obj h1 h2 o hs => cases e2
  | @dct a ks _ h1 h2 hs =>
    refine ⟨a, rfl, .inl ⟨ks, .inl h1⟩, ?_⟩
    have S1 := S.same k1
    refine bind2 hb hc S1 (hb.mono env _ _ (fun r2 w => hc.mono env _ _ (fun r3 w x y H2 k2 v2 v3 => ?_) w) q)
    obtain ⟨i, rfl, d, rfl, w⟩ := w
    rw [v2.int]
    have h3 : H2 a = some (.dK ks) := k2.kp.keep _ _ h1 nofun (fun (z : PS env σ a) => h2 (S1.sub a z.ms))
    have hs2 : DaK Z.K M H2 ks kvs := by
      have hd : Da Z.K M H2 (.ref a) (.dict kvs) := Da.kp k2.kp S1.psl S1.psm (fun b z => .inl z) (.dct h1 h2 hs)
      cases hd with
      | obj h1 h2 o hs => cases e2
      | dct g1 g2 gs =>
        rw [h3] at g1
        cases g1
        exact gs
    refine ⟨valV ks (.inl i), .inl ⟨ks, .inl i, .inl h3, rfl, rfl⟩, ?_⟩
    refine w _ _ (k1.trans k2) ?_
    unfold getKD
    rcases hs2.find (i := i) with ⟨f1, f2⟩ | ⟨u, p, f1, f2, f3⟩
    · rw [f1, f2]
      have v3 : Da Z.K M H2 y d := v3
      exact v3
    · rw [f1, f2]
      exact f3
end
end DL
set_option maxHeartbeats 2000000
/-! enumerate and len of what is a list or a tuple -/
namespace EB
open PySem PySem.Spec PyProof.Rows L2 ZM EN
def iEnumB (K : PySem.W.Frag) (ta : TA) : TI := fun σ H R => ta σ H fun vs H1 => ∃ a xs, vs = [.ref a] ∧ ((SqL K H1 a xs ∧ R (Ite K a) H1) ∨ (SqT K H1 a xs ∧ R (IteT K a) H1))
theorem pi_enumB {X : Cx} {e : Expr} {ta : TA} {p pos tpos : Pos} {elts : List Expr} {kk : Nat} (hg : Gl X "enumerate") (hm : X.mg "enumerate" = none) (ha : PA X [e] ta) (hs : starEach [e] X.env = [(false, eval e X.env)] := by rfl) :
    PI X (.Tuple elts kk tpos) (.Call (.Name "enumerate" p) [e] [] pos) (iEnumB X.K ta) := by
  refine ⟨fun pins s σ H R I h => Call_ (ld_blt I hg hm boot_enumerate (PyProof.Rows.callWith_type1 (thn (ha.run pos pins s σ H _ I h) fun us s1 hh => ?_) hs rfl))⟩
  obtain ⟨vs, H1, I1, r1, a, xs, rfl, hq⟩ := hh
  match us, r1 with
  | [_], .cons rfl .nil =>
    rcases hq with ⟨hq, q⟩ | ⟨hq, q⟩
    · obtain ⟨its, rv, p1, _⟩ := I1.list hq
      refine call_enumerate_list p1.isList fun h' he hit hsz hk => wpAny_pyIter_enum he ?_
      refine ⟨s1.heap.objs.size + 1, [s1.heap.objs.size + 1, s1.heap.objs.size], _, _, H1, rfl, I1.kept (t' := s1.toks) hk, turn_enum a (s1.heap.objs.size + 1) s1.heap.objs.size, ⟨⟨.none, he⟩, hit, Nat.succ_ne_self _⟩, fun b hb => ?_, q⟩
      have hle : s1.heap.objs.size ≤ b := by
        rcases List.mem_cons.mp hb with rfl | hb
        · exact Nat.le_succ _
        · exact Nat.le_of_eq (List.mem_singleton.mp hb).symm
      exact I1.fpOk hle (I1.hok.fresh hle)
    · obtain ⟨its, rv, p1, _⟩ := I1.tuple hq
      have hlt : a < s1.heap.objs.size := by
        obtain ⟨o, ho, _⟩ := id p1
        exact Heap.lt_size ho
      refine call_enum1 (begins_tuple a its.toArray) p1 fun h' he hit hk => wpAny_pyIter_enum he ?_
      refine ⟨s1.heap.objs.size + 1, [s1.heap.objs.size + 1, s1.heap.objs.size], _, _, H1, rfl, I1.kept (t' := s1.toks) hk, turn_enumT a (s1.heap.objs.size + 1) s1.heap.objs.size (Nat.succ_ne_self _) (Nat.ne_of_gt (Nat.lt_succ_of_lt hlt)) (Nat.ne_of_lt hlt), ⟨⟨.none, he⟩, _, hit, rfl, rfl⟩, fun b hb => ?_, q⟩
      have hle : s1.heap.objs.size ≤ b := by
        rcases List.mem_cons.mp hb with rfl | hb
        · exact Nat.le_succ _
        · exact Nat.le_of_eq (List.mem_singleton.mp hb).symm
      exact I1.fpOk hle (I1.hok.fresh hle)
theorem call_lenB {X : Cx} : CallR X (.builtin "len") (fun xs H Q => ∃ p ys, xs = [.ref p] ∧ (SqL X.K H p ys ∨ SqT X.K H p ys) ∧ Q (.int ys.length) H) := fun pins s σ H xs us Q I r ⟨p, ys, e, h, q⟩ =>
  call_len_seq pins s σ H xs us Q I r ⟨p, ys, e, h, q⟩
end EB
namespace DL
open PySem PySem.Spec PyProof.Rows L2 LW GX LD
section
variable {Z : Wd} {M M' : AS} {env : Env} {σ : L2.St} {H H0 H1 H2 H' : Hp} {t : TA} {As : DAs}
def dItEB (As : DAs) : Env → (List PyData → Prop) → Prop := fun env k => As env fun rs => ∃ r, rs = [r] ∧ ∃ ds, seqOf env r = some ds ∧ k (pairsOf (intsFrom 0 ds.length) ds)
theorem ri_enumB (ha : RA Z t As) : RI Z (EB.iEnumB Z.K t) (dItEB As) :=
  ⟨fun env K K' h q => ha.mono env _ _ (fun r ⟨c, d, e, z, q⟩ => ⟨c, d, e, z, h _ q⟩) q, fun M env σ H Q S h => ha.run M env σ H _ S (ha.mono env _ _ (fun r ⟨r0, e, ds, z, q⟩ vs H' k hv => by
    subst e
    obtain ⟨v, rfl, h⟩ := hv.one
    obtain ⟨t, a, xs, rfl, hx, dx⟩ := h.sq S k z
    cases t with
    | false => exact ⟨a, xs, rfl, .inl ⟨hx _ (Kp.refl _ _), q _ _ k (iok_enumL (S.same k).psl S.psm hx dx)⟩⟩
    | true => exact ⟨a, xs, rfl, .inr ⟨hx _ (Kp.refl _ _), q _ _ k (iok_enumT (S.same k).psl S.psm (hx _ (Kp.refl _ _)) dx)⟩⟩) h)⟩
def fLenB : Env → List R → (R → Prop) → Prop := fun env rs k => ∃ r, rs = [r] ∧ ∃ ds, seqOf env r = some ds ∧ k (.v (.int ds.length))
theorem cd_lenB : CallD Z (fun xs H Q => ∃ p ys, xs = [.ref p] ∧ (SqL Z.K H p ys ∨ SqT Z.K H p ys) ∧ Q (.int ys.length) H) fLenB :=
  ⟨fun _ _ _ _ h ⟨r, e, ds, e1, q⟩ => ⟨r, e, ds, e1, h _ q⟩, fun M env σ H0 H xs rs Q S hv ⟨r, e, ds, e1, q⟩ => by
    subst e
    obtain ⟨v, rfl, h⟩ := hv.one
    have e1 : (match dataOf env r with | some (.tuple ds) => some ds | some (.list ds) => some ds | _ => none) = some ds := e1
    cases z : dataOf env r with
    | none => rw [z] at e1; cases e1
    | some d =>
      rw [z] at e1
      cases d with
      | tuple es =>
        cases e1
        obtain ⟨a, vs, rfl, hx, dx⟩ := h.tup z
        rw [← dx.len] at q
        exact ⟨a, vs, rfl, .inr hx, q _ _ S.stay (Da.int _)⟩
      | list es =>
        cases e1
        obtain ⟨a, vs, rfl, hx, dx⟩ := h.seq S z
        rw [← dx.len] at q
        exact ⟨a, vs, rfl, .inl hx, q _ _ S.stay (Da.int _)⟩
      | _ => cases e1⟩
end
end DL
/-! leading places are the columns that no columns ahead make up; left inverses; equations with one solution -/
set_option maxHeartbeats 1000000
namespace LA
open K00
/-- column k is made up by those ahead -/
def Dep (p : Int) (s : Nat) (R : Nat → Nat → Int) (k : Nat) : Prop := ∃ c : Nat → Int, ∀ i, i < s → p ∣ sm k (fun j => c j * R i j) - R i k
theorem rel_span {p : Int} {n s m : Nat} {X : Nat → Nat → Int} {x : Nat → Int} (c : Nat → Int) (q : Nat → Nat) (hq : ∀ j, j < m → q j < n) (h : Sp p n s X x) (h0 : ∀ i, i < s → p ∣ sm m (fun j => c j * X i (q j))) : p ∣ sm m (fun j => c j * x (q j)) := by
  refine h.keep (fun x => p ∣ sm m (fun j => c j * x (q j))) h0 ?_ (fun x y a b hx hy => ?_) fun x y hx hxy => ?_
  · rw [sm_zero fun l _ => Int.mul_zero _]
    exact Int.dvd_zero p
  · have e : sm m (fun k => c k * (a * x (q k) + b * y (q k))) = a * sm m (fun k => c k * x (q k)) + b * sm m (fun k => c k * y (q k)) := by
      rw [← sm_mul, ← sm_mul, ← sm_add]
      exact sm_congr fun l _ => by grind
    rw [e]
    exact Int.dvd_add (Int.dvd_mul_of_dvd_right (b := a) hx) (Int.dvd_mul_of_dvd_right (b := b) hy)
  · have h2 : p ∣ sm m (fun k => c k * x (q k)) - sm m (fun k => c k * y (q k)) := sm_dvd_sub fun l hl => by
      rw [← Int.mul_sub]
      exact Int.dvd_mul_of_dvd_right (hxy _ (hq l hl))
    have := Int.dvd_sub hx h2
    rw [show ∀ a b : Int, a - (a - b) = b from fun a b => by omega] at this
    exact this
theorem dep_rel {p : Int} {s k : Nat} {R : Nat → Nat → Int} {c : Nat → Int} : (∀ i, i < s → p ∣ sm k (fun j => c j * R i j) - R i k) ↔ ∀ i, i < s → p ∣ sm (k + 1) (fun j => (if j = k then -1 else c j) * R i j) := by
  have e : ∀ i, sm (k + 1) (fun j => (if j = k then -1 else c j) * R i j) = sm k (fun j => c j * R i j) - R i k := fun i => by
    show sm k (fun j => (if j = k then -1 else c j) * R i j) + (if k = k then -1 else c k) * R i k = _
    rw [if_pos rfl, sm_congr (g := fun j => c j * R i j) fun j hj => by rw [if_neg (by omega)]]
    omega
  simp only [e]
theorem Dep.span {p : Int} {n s s' k : Nat} {R F : Nat → Nat → Int} (hk : k < n) (h : Dep p s R k) (hs : ∀ i, i < s' → Sp p n s R (F i)) : Dep p s' F k := by
  obtain ⟨c, hc⟩ := h
  refine ⟨c, dep_rel.mpr fun i hi => ?_⟩
  exact rel_span (m := k + 1) (fun j => if j = k then -1 else c j) (fun j => j) (fun j hj => by omega) (hs i hi) (dep_rel.mp hc)
theorem Inv.lead {p : Int} (p2 : 2 ≤ p) {s n t : Nat} {R F : List (List Int)} {pl : List Nat} (I : Inv p s n t R F pl) {k : Nat} (hk : k < t) (ht : t ≤ n) : (∃ i, i < pl.length ∧ pl.getD i 0 = k) ↔ ¬ Dep p s (en R) k := by
  constructor
  · rintro ⟨i, hi, rfl⟩ hd
    have htop := I.top
    obtain ⟨c, hc⟩ := hd.span (F := en F) (s' := s) (show pl.getD i 0 < n by omega) I.sp1
    have := hc i (by omega)
    rw [sm_zero fun j hj => by rw [I.bef i j hi hj, Int.mul_zero], I.one i hi] at this
    obtain ⟨v, hv⟩ := this
    have : p ∣ 1 := ⟨-v, by grind⟩
    have := Int.le_of_dvd (by decide) this
    omega
  · intro hn
    refine Classical.byContradiction fun w => hn ?_
    have key : ∃ c : Nat → Int, (∀ l, l < pl.length → c (pl.getD l 0) = en F l k) ∧ ∀ j, (∀ l, l < pl.length → pl.getD l 0 ≠ j) → c j = 0 := by
      refine ⟨fun j => match (List.range pl.length).find? fun l => decide (pl.getD l 0 = j) with | some l => en F l k | none => 0, fun l hl => ?_, fun j hj => ?_⟩
      · dsimp only
        cases e : (List.range pl.length).find? fun l' => decide (pl.getD l' 0 = pl.getD l 0) with
        | none =>
          have := List.find?_eq_none.mp e l (List.mem_range.mpr hl)
          simp at this
        | some l' =>
          have h1 := List.find?_some e
          have h2 := List.mem_range.mp (List.mem_of_find?_eq_some e)
          rw [decide_eq_true_eq] at h1
          rcases Nat.lt_trichotomy l l' with z | z | z
          · have := I.inc l l' z h2
            omega
          · rw [z]
          · have := I.inc l' l z hl
            omega
      · dsimp only
        cases e : (List.range pl.length).find? fun l' => decide (pl.getD l' 0 = j) with
        | none => rfl
        | some l' =>
          have h1 := List.find?_some e
          have h2 := List.mem_range.mp (List.mem_of_find?_eq_some e)
          rw [decide_eq_true_eq] at h1
          exact absurd h1 (hj l' h2)
    obtain ⟨c, c1, c2⟩ := key
    have hF : Dep p s (en F) k := by
      refine ⟨c, fun i hi => ?_⟩
      by_cases z : i < pl.length
      · by_cases q : pl.getD i 0 < k
        · rw [sm_one q fun j hj hne => ?_, c1 i z, I.one i z, Int.mul_one, Int.sub_self]
          · exact Int.dvd_zero p
          · by_cases y : ∃ l, l < pl.length ∧ pl.getD l 0 = j
            · obtain ⟨l, hl, rfl⟩ := y
              rw [I.oth l i hl hi (fun e => hne (by rw [e])), Int.mul_zero]
            · rw [c2 j fun l hl e => y ⟨l, hl, e⟩, Int.zero_mul]
        · have hne : pl.getD i 0 ≠ k := fun e => w ⟨i, z, e⟩
          rw [I.bef i k z (by omega), sm_zero fun j hj => by rw [I.bef i j z (by omega), Int.mul_zero], Int.sub_self]
          exact Int.dvd_zero p
      · rw [I.low i k (by omega) hi hk, sm_zero fun j hj => by rw [I.low i j (by omega) hi (by omega), Int.mul_zero], Int.sub_self]
        exact Int.dvd_zero p
    exact hF.span (by omega) I.sp2
theorem Inv.len_le {p : Int} {s n t : Nat} {R F : List (List Int)} {pl : List Nat} (I : Inv p s n t R F pl) : pl.length ≤ t := by
  have h : ∀ i, i < pl.length → i ≤ pl.getD i 0 := by
    intro i
    induction i with
    | zero => intro _; exact Nat.zero_le _
    | succ i ih =>
      intro hi
      have := ih (by omega)
      have := I.inc i (i + 1) (by omega) hi
      omega
  rcases Nat.eq_zero_or_pos pl.length with z | z
  · omega
  · have h1 := h (pl.length - 1) (by omega)
    have h2 := I.lt (pl.length - 1) (by omega)
    omega
theorem Inv.full {p : Int} {s n t : Nat} {R F : List (List Int)} {pl : List Nat} (I : Inv p s n t R F pl) (h : t ≤ pl.length) : pl.length = t ∧ ∀ i, i < t → pl.getD i 0 = i := by
  have hl := I.len_le
  have up : ∀ d i, i + d < pl.length → pl.getD i 0 + d ≤ pl.getD (i + d) 0 := by
    intro d
    induction d with
    | zero => intro i _; exact Nat.le_refl _
    | succ d ih =>
      intro i hi
      have h1 := ih i (by omega)
      have h2 := I.inc (i + d) (i + (d + 1)) (by omega) hi
      omega
  refine ⟨by omega, fun i hi => ?_⟩
  have h1 : i ≤ pl.getD i 0 := by
    have := up i 0 (by omega)
    rw [Nat.zero_add] at this
    omega
  have h2 := up (pl.length - 1 - i) i (by omega)
  have h3 := I.lt (pl.length - 1) (by omega)
  rw [show i + (pl.length - 1 - i) = pl.length - 1 by omega] at h2
  omega
/-- no column hangs on others: all lead -/
theorem Inv.all {p : Int} (p2 : 2 ≤ p) {s n t : Nat} {R F : List (List Int)} {pl : List Nat} (I : Inv p s n t R F pl) (ht : t ≤ n) (h : ∀ k, k < t → ¬ Dep p s (en R) k) : t ≤ pl.length := by
  have hall : ∀ k, k < t → ∃ i, i < pl.length ∧ pl.getD i 0 = k := fun k hk => (I.lead p2 hk ht).mpr (h k hk)
  have sub : ∀ k ∈ List.range t, k ∈ pl := fun k hk => by
    obtain ⟨i, hi, e⟩ := hall k (List.mem_range.mp hk)
    rw [← e]
    exact gd_mem hi
  have := List.nodup_range.length_le_of_subset (l₂ := pl) (fun k hk => sub k hk)
  rw [List.length_range] at this
  exact this
theorem indep_dep {p : Int} (p2 : 2 ≤ p) {s t : Nat} {R : Nat → Nat → Int} (h : ∀ c : Nat → Int, (∀ i, i < s → p ∣ sm t (fun j => c j * R i j)) → ∀ j, j < t → p ∣ c j) {k : Nat} (hk : k < t) : ¬ Dep p s R k := by
  rintro ⟨c, hc⟩
  have := h (fun j => if j < k then c j else if j = k then -1 else 0) (fun i hi => ?_) k hk
  · rw [if_neg (Nat.lt_irrefl k), if_pos rfl] at this
    obtain ⟨v, hv⟩ := this
    have : p ∣ 1 := ⟨-v, by grind⟩
    have := Int.le_of_dvd (by decide) this
    omega
  · have e : ∀ t, k < t → sm t (fun j => (if j < k then c j else if j = k then -1 else 0) * R i j) = sm k (fun j => c j * R i j) - R i k := by
      intro t
      induction t with
      | zero => intro h; omega
      | succ t ih =>
        intro h
        show sm t (fun j => (if j < k then c j else if j = k then -1 else 0) * R i j) + (if t < k then c t else if t = k then -1 else 0) * R i t = _
        by_cases z : k < t
        · rw [ih z, if_neg (by omega), if_neg (by omega), Int.zero_mul, Int.add_zero]
        · obtain rfl : k = t := by omega
          rw [if_neg (Nat.lt_irrefl k), if_pos rfl, sm_congr (g := fun j => c j * R i j) fun j hj => by rw [if_pos hj]]
          omega
    rw [e t hk]
    exact hc i hi
/-! ### left inverses -/
def turnF (cs : List (List Int)) (many : Nat) : List (List Int) := (List.range many).map fun at_ => cs.map fun r => r.getD at_ 0
theorem turn_len (cs : List (List Int)) (many : Nat) : (turnF cs many).length = many := by rw [turnF, List.length_map, List.length_range]
theorem turn_row {cs : List (List Int)} {many s : Nat} (hs : cs.length = s) : ∀ r ∈ turnF cs many, r.length = s := fun r hr => by
  obtain ⟨i, _, rfl⟩ := List.mem_map.mp hr
  rw [List.length_map, hs]
theorem en_turn {cs : List (List Int)} {many i j : Nat} (hi : i < many) (hj : j < cs.length) : en (turnF cs many) i j = en cs j i := by
  unfold en turnF
  rw [gd_range hi, gd_map [] hj]
noncomputable def freeP (p : Int) (cs : List (List Int)) (many : Nat) : List Nat := (redF p (turnF cs many) cs.length).2
def sqF (cs : List (List Int)) (pl : List Nat) : List (List Int) := pl.map fun l => cs.getD l []
def spreadF (xs : List Int) (pl : List Nat) (s : Nat) : List Int := (List.range s).map fun at_ => match (List.range pl.length).find? fun l => decide (pl.getD l 0 = at_) with | some l => xs.getD l 0 | none => 0
noncomputable def invL (p : Int) (cs : List (List Int)) (many : Nat) : List (List Int) := (redF p (marksF (sqF cs (freeP p cs many))) many).1.map fun r => spreadF (r.drop many) (freeP p cs many) cs.length
noncomputable def leftInv (p : Int) (cs : List (List Int)) (many : Nat) : Option (List (List Int)) := if (freeP p cs many).length < many then none else some (invL p cs many)
/-- row k of the matrix is made up by those ahead -/
def DepR (p : Int) (many : Nat) (cs : List (List Int)) (k : Nat) : Prop := Dep p many (fun i j => en cs j i) k
theorem dep_congr {p : Int} {s k : Nat} {R R' : Nat → Nat → Int} (h : ∀ i j, i < s → j ≤ k → R i j = R' i j) (d : Dep p s R k) : Dep p s R' k := by
  obtain ⟨c, hc⟩ := d
  refine ⟨c, fun i hi => ?_⟩
  have := hc i hi
  rw [sm_congr (g := fun j => c j * R' i j) fun j hj => by rw [h i j hi (by omega)], h i k hi (Nat.le_refl _)] at this
  exact this
structure FreeOk (p : Int) (s many : Nat) (cs : List (List Int)) (pl : List Nat) : Prop where
  lt : ∀ l ∈ pl, l < s
  ord : pl.Pairwise (· < ·)
  mem : ∀ k, k < s → (k ∈ pl ↔ ¬ DepR p many cs k)
  len : pl.length ≤ many
  ind : ∀ c : Nat → Int, (∀ k, k < many → p ∣ sm pl.length (fun l => c l * en (sqF cs pl) l k)) → ∀ l, l < pl.length → p ∣ c l
theorem free_ok {p : Int} (hP : isP p = true) (hp : p ≤ 65521) {s many : Nat} {cs : List (List Int)} (hs : cs.length = s) (hr : ∀ r ∈ cs, r.length = many) : FreeOk p s many cs (freeP p cs many) := by
  have p2 := isP_ge hP
  have I := red_inv hP hp (turn_len cs many) (turn_row (many := many) hs) (t := s) (Nat.le_refl _)
  have e0 : freeP p cs many = (redF p (turnF cs many) s).2 := by rw [freeP, hs]
  rw [e0]
  generalize hF : (redF p (turnF cs many) s).1 = F at *
  generalize hpl : (redF p (turnF cs many) s).2 = pl at *
  have htop := I.top
  refine ⟨fun l hl => ?_, ?_, fun k hk => ?_, I.top, fun c hc l hl => ?_⟩
  · obtain ⟨i, hi, rfl⟩ := List.getElem_of_mem hl
    rw [← gd_at (d := 0) hi]
    exact I.lt i hi
  · rw [List.pairwise_iff_getElem]
    intro i j hi hj hij
    rw [← gd_at (d := 0) hi, ← gd_at (d := 0) hj]
    exact I.inc i j hij hj
  · have h1 := I.lead p2 hk (Nat.le_refl _)
    have h2 : k ∈ pl ↔ ∃ i, i < pl.length ∧ pl.getD i 0 = k := by
      constructor
      · intro h
        obtain ⟨i, hi, rfl⟩ := List.getElem_of_mem h
        exact ⟨i, hi, gd_at hi⟩
      · rintro ⟨i, hi, rfl⟩
        exact gd_mem hi
    rw [h2, h1]
    refine not_congr ⟨fun d => dep_congr (fun i j hi hj => en_turn hi (by omega)) d, fun d => dep_congr (fun i j hi hj => (en_turn hi (by omega)).symm) d⟩
  · have := rel_span (m := pl.length) c (fun l => pl.getD l 0) (fun l hl => I.lt l hl) (I.sp1 l (by omega)) fun k hk => by
      have := hc k hk
      rw [sm_congr (g := fun l => c l * en (turnF cs many) k (pl.getD l 0)) fun l hl => by
        rw [en_turn hk (by rw [hs]; exact I.lt l hl)]
        unfold en sqF
        rw [gd_map 0 hl]] at this
      exact this
    rw [sm_one hl fun i hi hne => by rw [I.oth i l hi (by omega) (fun e => hne e.symm), Int.mul_zero], I.one l hl, Int.mul_one] at this
    exact this
theorem sq_len (cs : List (List Int)) (pl : List Nat) : (sqF cs pl).length = pl.length := List.length_map ..
theorem sq_row {cs : List (List Int)} {pl : List Nat} {many : Nat} (hr : ∀ r ∈ cs, r.length = many) (hl : ∀ l ∈ pl, l < cs.length) : ∀ r ∈ sqF cs pl, r.length = many := fun r h => by
  obtain ⟨l, hl', rfl⟩ := List.mem_map.mp h
  exact hr _ (gd_mem (hl l hl'))
/-- a square matrix of free rows beside the unit -/
theorem square_inv {p : Int} (hP : isP p = true) (hp : p ≤ 65521) {m : Nat} {Q : List (List Int)} (hq : Q.length = m) (hr : ∀ r ∈ Q, r.length = m) (hi : ∀ c : Nat → Int, (∀ k, k < m → p ∣ sm m (fun l => c l * en Q l k)) → ∀ l, l < m → p ∣ c l) :
    Rc p m (m + m) (redF p (marksF Q) m).1 ∧ ∀ i k, i < m → k < m → p ∣ sm m (fun l => en (redF p (marksF Q) m).1 i (m + l) * en Q l k) - (if i = k then 1 else 0) := by
  have P := pr_of hP hp
  have p2 := isP_ge hP
  have ml : (marksF Q).length = m := by rw [marks_len, hq]
  have mr : ∀ r ∈ marksF Q, r.length = m + m := fun r h => by rw [marks_row hr r h, hq]
  have I := red_inv hP hp ml mr (t := m) (by omega)
  generalize hF : (redF p (marksF Q) m).1 = F at *
  generalize hpl : (redF p (marksF Q) m).2 = pl at *
  have e1 : ∀ i j, i < m → j < m → en (marksF Q) i j = en Q i j := fun i j h1 h2 => en_marks1 hr (by omega) h2
  have e2 : ∀ i j, i < m → j < m → en (marksF Q) i (m + j) = if j = i then 1 else 0 := fun i j h1 h2 => en_marks2 hr (by omega) (by omega)
  have co : ∀ i, i < m → ∀ k, k < m → p ∣ en F i k - sm m (fun l => en F i (m + l) * en Q l k) := fun i hi' k hk => by
    obtain ⟨c, hc⟩ := (I.sp1 i hi').coef
    have h1 := hc k (by omega)
    have h2 : ∀ l, l < m → p ∣ en F i (m + l) - c l := fun l hl => by
      have := hc (m + l) (by omega)
      rw [sm_one hl fun j hj hne => by rw [e2 j l hj hl, if_neg (fun e => hne e.symm), Int.mul_zero], e2 l l hl hl, if_pos rfl, Int.mul_one] at this
      exact this
    rw [sm_congr (g := fun l => c l * en Q l k) fun l hl => by rw [e1 l k hl hk]] at h1
    have h3 : p ∣ sm m (fun l => en F i (m + l) * en Q l k) - sm m (fun l => c l * en Q l k) := sm_dvd_sub fun l hl => by
      rw [← Int.sub_mul]
      exact Int.dvd_mul_of_dvd_left (h2 l hl)
    have := Int.dvd_sub h1 h3
    refine (show ∀ x y : Int, x = y → p ∣ x → p ∣ y from fun x y e h => e ▸ h) _ _ ?_ this
    omega
  have zero : ∀ i, pl.length ≤ i → i < m → ∀ j, j < m + m → p ∣ en F i j := fun i h1 h2 => by
    have z : ∀ k, k < m → p ∣ sm m (fun l => en F i (m + l) * en Q l k) := fun k hk => by
      have := co i h2 k hk
      rw [I.low i k h1 h2 hk, Int.zero_sub] at this
      exact Int.dvd_neg.mp this
    intro j hj
    by_cases y : j < m
    · rw [I.low i j h1 h2 y]
      exact Int.dvd_zero p
    · have := hi (fun l => en F i (m + l)) z (j - m) (by omega)
      rw [show m + (j - m) = j by omega] at this
      exact this
  have full : m ≤ pl.length := by
    refine Classical.byContradiction fun w => ?_
    have ind : Indep p m (en (marksF Q)) (m + m) := fun c hc l hl => by
      have := hc (m + l) (by omega)
      rw [sm_one hl fun j hj hne => by rw [e2 j l hj hl, if_neg (fun e => hne e.symm), Int.mul_zero], e2 l l hl hl, if_pos rfl, Int.mul_one] at this
      exact this
    have := steinitz (m := pl.length) (Y := en F) P ind fun i hi' => (I.sp2 i hi').trans fun k hk => by
      by_cases y : k < pl.length
      · exact .mem y
      · exact .cg .zero fun j hj => by
          have := zero k (by omega) hk j hj
          rw [Int.zero_sub]
          exact Int.dvd_neg.mpr this
    omega
  obtain ⟨fl, fi⟩ := I.full full
  refine ⟨I.rc, fun i k hi' hk => ?_⟩
  have h1 := co i hi' k hk
  have h2 : en F i k = if i = k then 1 else 0 := by
    by_cases e : i = k
    · rw [if_pos e, ← e]
      have := I.one i (by omega)
      rw [fi i hi'] at this
      exact this
    · rw [if_neg e]
      have := I.oth k i (by omega) (by omega) e
      rw [fi k hk] at this
      exact this
  rw [h2] at h1
  have := Int.dvd_neg.mpr h1
  rw [Int.neg_sub] at this
  exact this
end LA
/-! the left inverse; the law's own free rows; equations with one solution -/
set_option maxHeartbeats 1000000
namespace LA
open K00
theorem sm_pick : ∀ (l : Nat) {N : Nat} {F : Nat → Int} {pos : Nat → Nat}, (∀ a, a < l → pos a < N) → (∀ a b, a < l → b < l → pos a = pos b → a = b) → (∀ z, z < N → (∀ a, a < l → pos a ≠ z) → F z = 0) → sm N F = sm l fun a => F (pos a)
  | 0, N, F, pos, _, _, h => sm_zero fun z hz => h z hz fun a ha => absurd ha (Nat.not_lt_zero a)
  | l + 1, N, F, pos, hN, hI, h => by
    have e1 : sm N F = sm N (fun z => if z = pos l then 0 else F z) + F (pos l) := by
      have : sm N (fun z => if z = pos l then F z else 0) = F (pos l) := by
        rw [sm_one (hN l (by omega)) fun i _ hi => if_neg hi, if_pos rfl]
      rw [← this, ← sm_add]
      refine sm_congr fun z _ => ?_
      by_cases e : z = pos l
      · rw [if_pos e, if_pos e]; omega
      · rw [if_neg e, if_neg e]; omega
    have e2 := sm_pick l (N := N) (F := fun z => if z = pos l then 0 else F z) (pos := pos) (fun a ha => hN a (by omega)) (fun a b ha hb => hI a b (by omega) (by omega)) fun z hz hno => by
      by_cases e : z = pos l
      · exact if_pos e
      · show (if z = pos l then 0 else F z) = 0
        rw [if_neg e]
        refine h z hz fun a ha => ?_
        by_cases e2 : a = l
        · rw [e2]
          exact fun w => e w.symm
        · exact hno a (by omega)
    rw [e1, e2]
    show _ = sm l (fun a => F (pos a)) + F (pos l)
    congr 1
    refine sm_congr fun a ha => ?_
    show (if pos a = pos l then 0 else F (pos a)) = F (pos a)
    rw [if_neg fun w => by have := hI a l (by omega) (by omega) w; omega]
theorem ord_inj {pl : List Nat} (h : pl.Pairwise (· < ·)) {a b : Nat} (ha : a < pl.length) (hb : b < pl.length) (e : pl.getD a 0 = pl.getD b 0) : a = b := by
  rw [gd_at ha, gd_at hb] at e
  have h := List.pairwise_iff_getElem.mp h
  rcases Nat.lt_trichotomy a b with w | w | w
  · have := h a b ha hb w
    omega
  · exact w
  · have := h b a hb ha w
    omega
theorem spread_at {xs : List Int} {pl : List Nat} {s : Nat} (h : pl.Pairwise (· < ·)) {l : Nat} (hl : l < pl.length) (hs : pl.getD l 0 < s) : (spreadF xs pl s).getD (pl.getD l 0) 0 = xs.getD l 0 := by
  unfold spreadF
  rw [gd_range hs]
  cases e : (List.range pl.length).find? fun l' => decide (pl.getD l' 0 = pl.getD l 0) with
  | none =>
    have := List.find?_eq_none.mp e l (List.mem_range.mpr hl)
    simp at this
  | some l' =>
    have h1 := List.find?_some e
    have h2 := List.mem_range.mp (List.mem_of_find?_eq_some e)
    rw [decide_eq_true_eq] at h1
    rw [ord_inj h h2 hl h1]
theorem spread_no {xs : List Int} {pl : List Nat} {s at_ : Nat} (hs : at_ < s) (hn : at_ ∉ pl) : (spreadF xs pl s).getD at_ 0 = 0 := by
  unfold spreadF
  rw [gd_range hs]
  cases e : (List.range pl.length).find? fun l' => decide (pl.getD l' 0 = at_) with
  | none => rfl
  | some l' =>
    have h1 := List.find?_some e
    have h2 := List.mem_range.mp (List.mem_of_find?_eq_some e)
    rw [decide_eq_true_eq] at h1
    exact absurd (h1 ▸ gd_mem h2) hn
theorem spread_bd {p : Int} (p2 : 2 ≤ p) {xs : List Int} {pl : List Nat} {s : Nat} (hx : ∀ l, l < pl.length → 0 ≤ xs.getD l 0 ∧ xs.getD l 0 < p) : ∀ x ∈ spreadF xs pl s, 0 ≤ x ∧ x < p := fun x h => by
  obtain ⟨i, _, rfl⟩ := List.mem_map.mp h
  split
  · rename_i l' e
    exact hx _ (List.mem_range.mp (List.mem_of_find?_eq_some e))
  · omega
structure InvOk (p : Int) (s many : Nat) (cs W : List (List Int)) (pl : List Nat) : Prop where
  rc : Rc p many s W
  one : ∀ i k, i < many → k < many → p ∣ sm s (fun at_ => en W i at_ * en cs at_ k) - (if i = k then 1 else 0)
  no : ∀ i at_, i < many → at_ < s → at_ ∉ pl → en W i at_ = 0
theorem inv_ok {p : Int} (hP : isP p = true) (hp : p ≤ 65521) {s many : Nat} {cs : List (List Int)} (hs : cs.length = s) (hr : ∀ r ∈ cs, r.length = many) (hf : (freeP p cs many).length = many) : InvOk p s many cs (invL p cs many) (freeP p cs many) := by
  have p2 := isP_ge hP
  have Fr := free_ok hP hp hs hr
  unfold invL
  generalize hpl : freeP p cs many = pl at *
  obtain ⟨R, one⟩ := square_inv hP hp (m := many) (Q := sqF cs pl) (by rw [sq_len, hf]) (sq_row hr fun l hl => by rw [hs]; exact Fr.lt l hl) (by rw [← hf]; exact hf ▸ Fr.ind)
  generalize hF : (redF p (marksF (sqF cs pl)) many).1 = F at *
  have hlt : ∀ l, l < pl.length → pl.getD l 0 < s := fun l hl => Fr.lt _ (gd_mem hl)
  have ent : ∀ i, i < many → ∀ l, ((F.getD i []).drop many).getD l 0 = en F i (many + l) := fun i hi l => by
    unfold en
    rw [List.getD_eq_getElem?_getD, List.getElem?_drop, ← List.getD_eq_getElem?_getD]
  have row : ∀ i, i < many → (F.map fun r => spreadF (r.drop many) pl cs.length).getD i [] = spreadF ((F.getD i []).drop many) pl s := fun i hi => by
    rw [gd_map [] (by rw [R.len]; exact hi), hs]
  refine ⟨⟨by rw [List.length_map, R.len], fun r h => ?_⟩, fun i k hi hk => ?_, fun i at_ hi ha hn => ?_⟩
  · obtain ⟨i, hi, rfl⟩ := List.getElem_of_mem h
    rw [List.length_map, R.len] at hi
    rw [← gd_at (d := []) (by rw [List.length_map, R.len]; exact hi), row i hi]
    refine ⟨by rw [spreadF, List.length_map, List.length_range], spread_bd p2 fun l hl => ?_⟩
    rw [ent i hi]
    exact R.en hi (by omega)
  · have := one i k hi hk
    rw [sm_pick many (N := s) (F := fun at_ => en (F.map fun r => spreadF (r.drop many) pl cs.length) i at_ * en cs at_ k) (pos := fun l => pl.getD l 0) (fun l hl => hlt l (by omega)) (fun a b ha hb => ord_inj Fr.ord (by omega) (by omega)) fun z hz hno => ?_]
    · rw [sm_congr (g := fun l => en (F.map fun r => spreadF (r.drop many) pl cs.length) i (pl.getD l 0) * en cs (pl.getD l 0) k) fun l hl => ?_] at this
      · exact this
      · rw [show en (F.map fun r => spreadF (r.drop many) pl cs.length) i (pl.getD l 0) = en F i (many + l) by
          unfold en
          rw [row i hi, spread_at Fr.ord (by omega) (hlt l (by omega)), ent i hi]
          rfl]
        congr 1
        unfold en sqF
        rw [gd_map 0 (by omega)]
    · rw [show en (F.map fun r => spreadF (r.drop many) pl cs.length) i z = 0 by
        unfold en
        rw [row i hi]
        refine spread_no hz fun h => ?_
        obtain ⟨l, hl, e⟩ := List.getElem_of_mem h
        exact hno l (by omega) (by rw [gd_at hl, e]), Int.zero_mul]
  · unfold en
    rw [row i hi]
    exact spread_no ha hn
/-- with a left inverse the columns are free -/
theorem cols_free {p : Int} {s many : Nat} {cs W : List (List Int)} {pl : List Nat} (I : InvOk p s many cs W pl) {g : Nat → Int} (h : ∀ j, j < s → p ∣ sm many (fun k => g k * en cs j k)) : ∀ i, i < many → p ∣ g i := fun i hi => by
  have h1 : p ∣ sm s (fun at_ => en W i at_ * sm many (fun k => g k * en cs at_ k)) := sm_dvd fun at_ ha => Int.dvd_mul_of_dvd_right (h at_ ha)
  have e : sm s (fun at_ => en W i at_ * sm many (fun k => g k * en cs at_ k)) = sm many (fun k => g k * sm s (fun at_ => en W i at_ * en cs at_ k)) := by
    rw [sm_congr (g := fun at_ => sm many fun k => en W i at_ * (g k * en cs at_ k)) fun at_ _ => (sm_mul _).symm, sm_swap]
    refine sm_congr fun k _ => ?_
    rw [← sm_mul]
    exact sm_congr fun at_ _ => by grind
  rw [e] at h1
  have h2 : p ∣ sm many (fun k => g k * sm s (fun at_ => en W i at_ * en cs at_ k)) - sm many (fun k => g k * (if i = k then 1 else 0)) := sm_dvd_sub fun k hk => by
    rw [← Int.mul_sub]
    exact Int.dvd_mul_of_dvd_right (I.one i k hi hk)
  rw [sm_one (f := fun k => g k * (if i = k then 1 else 0)) hi fun k _ hne => by rw [if_neg (fun e => hne e.symm), Int.mul_zero], if_pos rfl, Int.mul_one] at h2
  have := Int.dvd_sub h1 h2
  rw [show ∀ a b : Int, a - (a - b) = b from fun a b => by omega] at this
  exact this
/-! ### equations -/
noncomputable def solvF (p : Int) (M : List (List Int)) (many : Nat) (right : List Int) : Option (List Int) :=
  if (redF p (joinF M right) many).2.length < many then none else if (((redF p (joinF M right) many).1.drop many).any fun r => decide (r.getD many 0 ≠ 0)) = true then none else some (((redF p (joinF M right) many).1.take many).map fun r => r.getD many 0)
theorem solv_eq {p : Int} (hP : isP p = true) (hp : p ≤ 65521) {s many : Nat} {M : List (List Int)} {right g : List Int} (hs : M.length = s) (hr : ∀ r ∈ M, r.length = many) (h : solvF p M many right = some g) : ∀ j, j < s → p ∣ sm many (fun k => en M j k * g.getD k 0) - right.getD j 0 := by
  have I := red_inv hP hp (by rw [join_len, hs]) (join_row (right := right) hr) (s := s) (t := many) (by omega)
  unfold solvF at h
  generalize hF : (redF p (joinF M right) many).1 = F at *
  generalize hpl : (redF p (joinF M right) many).2 = pl at *
  split at h
  · cases h
  rename_i hn
  split at h
  · cases h
  rename_i hb
  cases h
  obtain ⟨fl, fi⟩ := I.full (by omega)
  have htop := I.top
  have ge : ∀ k, k < many → ((F.take many).map fun r => r.getD many 0).getD k 0 = en F k many := fun k hk => by
    have hk2 : k < (F.take many).length := by rw [List.length_take, I.rc.len]; omega
    rw [gd_map [] hk2]
    unfold en
    rw [List.getD_eq_getElem?_getD, List.getD_eq_getElem?_getD, List.getElem?_take_of_lt hk, ← List.getD_eq_getElem?_getD, ← List.getD_eq_getElem?_getD]
  have rows : ∀ i, i < s → Eqn p many (fun k => ((F.take many).map fun r => r.getD many 0).getD k 0) (en F i) := fun i hi => by
    show p ∣ sm many (fun k => en F i k * ((F.take many).map fun r => r.getD many 0).getD k 0) - en F i many
    by_cases z : i < many
    · have hone := I.one i (by omega)
      rw [fi i z] at hone
      rw [sm_one z fun k hk hne => ?_, hone, Int.one_mul, ge i z, Int.sub_self]
      · exact Int.dvd_zero p
      · have := I.oth k i (by omega) (by omega) (fun e => hne e.symm)
        rw [fi k hk] at this
        rw [this, Int.zero_mul]
    · have hz : en F i many = 0 := by
        refine Classical.byContradiction fun w => hb ?_
        refine List.any_eq_true.mpr ⟨F.getD i [], ?_, decide_eq_true w⟩
        have hi2 : i < F.length := by rw [I.rc.len]; exact hi
        rw [gd_at hi2]
        refine List.mem_of_getElem? (i := i - many) ?_
        rw [List.getElem?_drop, show many + (i - many) = i by omega, List.getElem?_eq_getElem hi2]
      rw [sm_zero fun k hk => by rw [I.low i k (by omega) hi hk, Int.zero_mul], hz, Int.sub_self]
      exact Int.dvd_zero p
  intro j hj
  have := Eqn.span (I.sp2 j hj) rows
  have this : p ∣ sm many (fun k => en (joinF M right) j k * ((F.take many).map fun r => r.getD many 0).getD k 0) - en (joinF M right) j many := this
  rw [en_join2 hr (by omega), sm_congr (g := fun k => en M j k * ((F.take many).map fun r => r.getD many 0).getD k 0) fun k hk => by rw [en_join1 hr (by omega) hk]] at this
  exact this
theorem solv_yes {p : Int} (hP : isP p = true) (hp : p ≤ 65521) {s many : Nat} {M : List (List Int)} {right g : List Int} (hs : M.length = s) (hr : ∀ r ∈ M, r.length = many) (hfree : ∀ c : Nat → Int, (∀ j, j < s → p ∣ sm many (fun k => c k * en M j k)) → ∀ i, i < many → p ∣ c i)
    (hg : g.length = many) (hb : ∀ x ∈ g, 0 ≤ x ∧ x < p) (he : ∀ j, j < s → p ∣ sm many (fun k => en M j k * g.getD k 0) - right.getD j 0) : solvF p M many right = some g := by
  have p2 := isP_ge hP
  have I := red_inv hP hp (by rw [join_len, hs]) (join_row (right := right) hr) (s := s) (t := many) (by omega)
  unfold solvF
  generalize hF : (redF p (joinF M right) many).1 = F at *
  generalize hpl : (redF p (joinF M right) many).2 = pl at *
  have nd : ∀ k, k < many → ¬ Dep p s (en (joinF M right)) k := fun k hk d => by
    have d2 : Dep p s (en M) k := dep_congr (fun i j hi hj => en_join1 hr (by omega) (by omega)) d
    exact indep_dep p2 hfree hk d2
  have full := I.all p2 (by omega) nd
  obtain ⟨fl, fi⟩ := I.full full
  have htop := I.top
  have rows : ∀ i, i < s → Eqn p many (fun k => g.getD k 0) (en F i) := fun i hi => Eqn.span (I.sp1 i hi) fun j hj => by
    show p ∣ sm many (fun k => en (joinF M right) j k * g.getD k 0) - en (joinF M right) j many
    rw [en_join2 hr (by omega), sm_congr (g := fun k => en M j k * g.getD k 0) fun k hk => by rw [en_join1 hr (by omega) hk]]
    exact he j hj
  have low : ∀ i, many ≤ i → i < s → en F i many = 0 := fun i h1 h2 => by
    have : p ∣ sm many (fun k => en F i k * g.getD k 0) - en F i many := rows i h2
    rw [sm_zero fun k hk => by rw [I.low i k (by omega) h2 hk, Int.zero_mul], Int.zero_sub] at this
    have := Int.dvd_neg.mp this
    have b := I.rc.en h2 (show many < many + 1 by omega)
    exact dvd_small this (by omega) b.2
  have hi_ : ∀ i, i < many → en F i many = g.getD i 0 := fun i hi => by
    have : p ∣ sm many (fun k => en F i k * g.getD k 0) - en F i many := rows i (by omega)
    have hone := I.one i (by omega)
    rw [fi i hi] at hone
    rw [sm_one hi fun k hk hne => ?_, hone, Int.one_mul] at this
    · have b := I.rc.en (show i < s by omega) (show many < many + 1 by omega)
      have b2 := hb _ (gd_mem (d := 0) (show i < g.length by omega))
      have := dvd_small this (by omega) (by omega)
      omega
    · have := I.oth k i (by omega) (by omega) (fun e => hne e.symm)
      rw [fi k hk] at this
      rw [this, Int.zero_mul]
  rw [if_neg (by omega), if_neg]
  · congr 1
    refine List.ext_getElem (by rw [List.length_map, List.length_take, I.rc.len, hg]; omega) fun i h1 h2 => ?_
    rw [List.getElem_map, List.getElem_take]
    have := hi_ i (by omega)
    unfold en at this
    rw [show F.getD i [] = F[i]'(by rw [I.rc.len]; omega) from gd_at _, gd_at h2] at this
    exact this
  · intro h
    obtain ⟨r, hr2, hne⟩ := List.any_eq_true.mp h
    obtain ⟨i, hi, rfl⟩ := List.getElem_of_mem hr2
    rw [List.length_drop, I.rc.len] at hi
    rw [List.getElem_drop, decide_eq_true_eq] at hne
    have := low (many + i) (by omega) (by omega)
    unfold en at this
    rw [show F.getD (many + i) [] = F[many + i]'(by rw [I.rc.len]; omega) from gd_at _] at this
    exact hne this
/-- a row that hangs on those ahead is made up by them on the right too -/
theorem dep_right {p : Int} {s many at_ : Nat} {M : List (List Int)} (ha : at_ < s) (d : DepR p many M at_) {g : Nat → Int} {x : Nat → Int} (h : ∀ j, j < s → p ∣ sm many (fun k => en M j k * g k) - x j) {c : Nat → Int} (hc : ∀ k, k < many → p ∣ sm at_ (fun j => c j * en M j k) - en M at_ k) : p ∣ sm at_ (fun j => c j * x j) - x at_ := by
  have h1 : p ∣ sm at_ (fun j => c j * sm many (fun k => en M j k * g k)) - sm at_ (fun j => c j * x j) := sm_dvd_sub fun j hj => by
    rw [← Int.mul_sub]
    exact Int.dvd_mul_of_dvd_right (h j (by omega))
  have e : sm at_ (fun j => c j * sm many (fun k => en M j k * g k)) = sm many (fun k => g k * sm at_ (fun j => c j * en M j k)) := by
    rw [sm_congr (g := fun j => sm many fun k => c j * (en M j k * g k)) fun j _ => (sm_mul _).symm, sm_swap]
    refine sm_congr fun k _ => ?_
    rw [← sm_mul]
    exact sm_congr fun j _ => by grind
  have h2 : p ∣ sm many (fun k => g k * sm at_ (fun j => c j * en M j k)) - sm many (fun k => en M at_ k * g k) := sm_dvd_sub fun k hk => by
    have := Int.dvd_mul_of_dvd_right (b := g k) (hc k hk)
    rw [Int.mul_sub, Int.mul_comm (g k) (en M at_ k)] at this
    exact this
  have h3 := h at_ ha
  rw [e] at h1
  have := Int.dvd_sub (Int.dvd_add h2 h3) h1
  refine (show ∀ x y : Int, x = y → p ∣ x → p ∣ y from fun x y e h => e ▸ h) _ _ ?_ this
  omega
theorem solv_no {p : Int} (hP : isP p = true) (hp : p ≤ 65521) {s many at_ : Nat} {M : List (List Int)} {right wrong g : List Int} (hs : M.length = s) (hr : ∀ r ∈ M, r.length = many) (ha : at_ < s) (d : DepR p many M at_)
    (he : ∀ j, j < s → p ∣ sm many (fun k => en M j k * g.getD k 0) - right.getD j 0) (hw : ∀ j, j < at_ → wrong.getD j 0 = right.getD j 0) (hne : ¬ p ∣ wrong.getD at_ 0 - right.getD at_ 0) : solvF p M many wrong = none := by
  cases e : solvF p M many wrong with
  | none => rfl
  | some g' =>
    refine absurd ?_ hne
    have h' := solv_eq hP hp hs hr e
    obtain ⟨c, hc⟩ := id d
    have h1 := dep_right ha d (g := fun k => g.getD k 0) (x := fun j => right.getD j 0) he hc
    have h2 := dep_right ha d (g := fun k => g'.getD k 0) (x := fun j => wrong.getD j 0) h' hc
    rw [sm_congr (g := fun j => c j * right.getD j 0) fun j hj => by rw [hw j hj]] at h2
    have := Int.dvd_sub h1 h2
    refine (show ∀ x y : Int, x = y → p ∣ x → p ∣ y from fun x y e h => e ▸ h) _ _ ?_ this
    omega
end LA
/-! the law's own free rows: rows lessened by one another without a division -/
set_option maxHeartbeats 1000000
namespace LA
open K00
def lessF (p : Int) (row : List Int) (ld : List Int × Nat) : List Int := (List.range row.length).map fun k => (row.getD k 0 * ld.1.getD ld.2 0 - ld.1.getD k 0 * row.getD ld.2 0) % p
def lessAll (p : Int) (row : List Int) (taken : List (List Int × Nat)) : List Int := taken.foldl (lessF p) row
def filled (r : List Int) : Option Nat := (List.range r.length).find? fun k => decide (r.getD k 0 ≠ 0)
def frStep (p : Int) (R : List (List Int)) (st : List (List Int × Nat) × List Nat) (at_ : Nat) : List (List Int × Nat) × List Nat := match filled (lessAll p (R.getD at_ []) st.1) with
  | some f => (st.1 ++ [(lessAll p (R.getD at_ []) st.1, f)], st.2 ++ [at_])
  | none => st
def frAll (p : Int) (R : List (List Int)) (t : Nat) : List (List Int × Nat) × List Nat := (List.range t).foldl (frStep p R) ([], [])
def ldR (taken : List (List Int × Nat)) (i j : Nat) : Int := (taken.getD i ([], 0)).1.getD j 0
def ldP (taken : List (List Int × Nat)) (i : Nat) : Nat := (taken.getD i ([], 0)).2
/-- rows that were taken, each with a place at which it is not nought, and those behind it are -/
structure Tk (p : Int) (many : Nat) (taken : List (List Int × Nat)) : Prop where
  row : ∀ x ∈ taken, x.1.length = many ∧ (∀ y ∈ x.1, 0 ≤ y ∧ y < p) ∧ x.2 < many ∧ x.1.getD x.2 0 ≠ 0
  tri : ∀ i j, i < j → j < taken.length → ldR taken j (ldP taken i) = 0
structure LessOk (p : Int) (many m : Nat) (taken : List (List Int × Nat)) (row r : List Int) : Prop where
  len : r.length = many
  bd : ∀ y ∈ r, 0 ≤ y ∧ y < p
  no : ∀ l, l < m → r.getD (ldP taken l) 0 = 0
  eq : ∃ (u : Int) (c : Nat → Int), ¬ p ∣ u ∧ ∀ k, k < many → p ∣ r.getD k 0 - (u * row.getD k 0 - sm m (fun l => c l * ldR taken l k))
theorem Tk.at {p : Int} {many : Nat} {taken : List (List Int × Nat)} (T : Tk p many taken) {i : Nat} (hi : i < taken.length) : (taken.getD i ([], 0)).1.length = many ∧ (∀ y ∈ (taken.getD i ([], 0)).1, 0 ≤ y ∧ y < p) ∧ ldP taken i < many ∧ ldR taken i (ldP taken i) ≠ 0 := T.row _ (gd_mem hi)
theorem less_ok {p : Int} (hP : isP p = true) (hp : p ≤ 65521) {many : Nat} {taken : List (List Int × Nat)} (T : Tk p many taken) {row : List Int} (hl : row.length = many) (hb : ∀ y ∈ row, 0 ≤ y ∧ y < p) : ∀ m, m ≤ taken.length → LessOk p many m taken row ((taken.take m).foldl (lessF p) row)
  | 0, _ => ⟨hl, hb, fun l h => absurd h (Nat.not_lt_zero l), 1, fun _ => 0, fun h => by
      have := Int.le_of_dvd (by decide) h
      have := isP_ge hP
      omega, fun k _ => ⟨0, by show row.getD k 0 - (1 * row.getD k 0 - 0) = _; omega⟩⟩
  | m + 1, h => by
    have ih := less_ok hP hp T hl hb m (by omega)
    have p2 := isP_ge hP
    have P := pr_of hP hp
    have e : (taken.take (m + 1)).foldl (lessF p) row = lessF p ((taken.take m).foldl (lessF p) row) (taken.getD m ([], 0)) := by
      rw [List.take_succ_eq_append_getElem (by omega), List.foldl_append, gd_at (show m < taken.length by omega)]
      rfl
    rw [e]
    generalize (taken.take m).foldl (lessF p) row = r at *
    obtain ⟨t1, t2, t3, t4⟩ := T.at (show m < taken.length by omega)
    have at_ : ∀ k, k < many → (lessF p r (taken.getD m ([], 0))).getD k 0 = (r.getD k 0 * ldR taken m (ldP taken m) - ldR taken m k * r.getD (ldP taken m) 0) % p := fun k hk => by
      unfold lessF
      rw [gd_range (by rw [ih.len]; exact hk)]
      rfl
    refine ⟨by rw [lessF, List.length_map, List.length_range, ih.len], fun y hy => ?_, fun l hlm => ?_, ?_⟩
    · obtain ⟨k, _, rfl⟩ := List.mem_map.mp hy
      exact md p2 _
    · have hlt := (T.at (show l < taken.length by omega)).2.2.1
      rw [at_ _ hlt]
      by_cases z : l < m
      · rw [ih.no l z, T.tri l m z (by omega), Int.zero_mul, Int.zero_mul, Int.sub_self, Int.zero_emod]
      · obtain rfl : l = m := by omega
        rw [Int.mul_comm, Int.sub_self, Int.zero_emod]
    · obtain ⟨u, c, hu, hc⟩ := ih.eq
      obtain ⟨o, ho⟩ : ∃ o, ldR taken m (ldP taken m) = o := ⟨_, rfl⟩
      obtain ⟨w, hw⟩ : ∃ w, r.getD (ldP taken m) 0 = w := ⟨_, rfl⟩
      rw [ho, hw] at at_
      rw [ho] at t4
      have hob : 0 ≤ o ∧ o < p := by
        rw [← ho]
        exact t2 _ (gd_mem (by rw [t1]; exact t3))
      refine ⟨u * o, fun l => if l = m then w else c l * o, fun h => ?_, fun k hk => ?_⟩
      · rcases P.2 _ _ h with h | h
        · exact hu h
        · exact small_ndvd hob.1 hob.2 t4 h
      · rw [at_ k hk]
        show p ∣ _ - (u * o * row.getD k 0 - (sm m (fun l => (if l = m then w else c l * o) * ldR taken l k) + (if m = m then w else c m * o) * ldR taken m k))
        rw [if_pos rfl, sm_congr (g := fun l => o * (c l * ldR taken l k)) fun l hlm => by rw [if_neg (by omega)]; grind, sm_mul]
        obtain ⟨k1, h1⟩ := hc k hk
        obtain ⟨k2, h2⟩ := md_dvd (p := p) (x := r.getD k 0 * o - ldR taken m k * w)
        generalize sm m (fun l => c l * ldR taken l k) = S at *
        generalize (r.getD k 0 * o - ldR taken m k * w) % p = V at *
        exact ⟨o * k1 - k2, by grind⟩
/-- how far the law is: rows below t -/
structure FInv (p : Int) (many : Nat) (R : List (List Int)) (t : Nat) (st : List (List Int × Nat) × List Nat) : Prop where
  tk : Tk p many st.1
  sp1 : ∀ i, i < st.1.length → Sp p many t (en R) (ldR st.1 i)
  sp2 : ∀ j, j < t → Sp p many st.1.length (ldR st.1) (en R j)
  ord : st.2.Pairwise (· < ·)
  mem : ∀ k, k ∈ st.2 ↔ k < t ∧ ¬ DepR p many R k
theorem depR_iff {p : Int} {many : Nat} {R : List (List Int)} {k : Nat} : DepR p many R k ↔ Sp p many k (en R) (en R k) := by
  constructor
  · rintro ⟨c, hc⟩
    have part : ∀ m, m ≤ k → Sp p many k (en R) fun j => sm m fun i => c i * en R i j := by
      intro m
      induction m with
      | zero => intro _; exact .zero
      | succ m ih =>
        intro h
        have := Sp.lin 1 (c m) (ih (by omega)) (Sp.mem (p := p) (n := many) (X := en R) (show m < k by omega))
        refine this.of_eq fun j _ => ?_
        show 1 * _ + _ = sm m _ + _
        rw [Int.one_mul]
    exact .cg (part k (Nat.le_refl _)) fun j hj => hc j hj
  · intro h
    obtain ⟨c, hc⟩ := h.coef
    refine ⟨c, fun i hi => ?_⟩
    have := Int.dvd_neg.mpr (hc i hi)
    rw [Int.neg_sub] at this
    exact this
theorem sp_mono {p : Int} {n s t : Nat} {X : Nat → Nat → Int} {x : Nat → Int} (h : Sp p n s X x) (hst : s ≤ t) : Sp p n t X x := h.trans fun i hi => .mem (by omega)
theorem sp_app {p : Int} {many : Nat} {taken : List (List Int × Nat)} {y : List Int × Nat} {x : Nat → Int} (h : Sp p many taken.length (ldR taken) x) : Sp p many (taken ++ [y]).length (ldR (taken ++ [y])) x := h.trans fun i hi => by
  have : Sp p many (taken ++ [y]).length (ldR (taken ++ [y])) (ldR (taken ++ [y]) i) := .mem (by rw [List.length_append]; exact Nat.lt_succ_of_lt hi)
  refine this.of_eq fun j _ => ?_
  have e : (taken ++ [y]).getD i ([], 0) = taken.getD i ([], 0) := by rw [List.getD_eq_getElem?_getD, List.getElem?_append_left hi, ← List.getD_eq_getElem?_getD]
  unfold ldR
  rw [e]
theorem filled_none {r : List Int} (h : filled r = none) : ∀ k, k < r.length → r.getD k 0 = 0 := fun k hk => by
  have := List.find?_eq_none.mp h k (List.mem_range.mpr hk)
  rw [decide_eq_true_eq] at this
  exact Classical.byContradiction fun z => this z
theorem filled_some {r : List Int} {f : Nat} (h : filled r = some f) : f < r.length ∧ r.getD f 0 ≠ 0 := by
  have h1 := List.find?_some h
  have h2 := List.mem_range.mp (List.mem_of_find?_eq_some h)
  rw [decide_eq_true_eq] at h1
  exact ⟨h2, h1⟩
theorem FInv.step {p : Int} (hP : isP p = true) (hp : p ≤ 65521) {many t : Nat} {R : List (List Int)} {st : List (List Int × Nat) × List Nat} (I : FInv p many R t st) (hl : (R.getD t []).length = many) (hb : ∀ y ∈ R.getD t [], 0 ≤ y ∧ y < p) : FInv p many R (t + 1) (frStep p R st t) := by
  have p2 := isP_ge hP
  have P := pr_of hP hp
  obtain ⟨taken, found⟩ := st
  have L := less_ok hP hp I.tk hl hb taken.length (Nat.le_refl _)
  rw [List.take_length] at L
  unfold frStep
  have hr : lessAll p (R.getD t []) taken = taken.foldl (lessF p) (R.getD t []) := rfl
  dsimp only
  rw [hr]
  generalize taken.foldl (lessF p) (R.getD t []) = r at *
  obtain ⟨u, c, hu, hc⟩ := L.eq
  obtain ⟨v, v0, v1, v2⟩ := inv_ex hP hp hu
  have comb : ∀ {x : Nat → Nat → Int} {s : Nat}, (∀ l, l < taken.length → Sp p many s x (ldR taken l)) → Sp p many s x fun k => sm taken.length fun l => c l * ldR taken l k := fun {x s} h => by
    have part : ∀ m, m ≤ taken.length → Sp p many s x fun k => sm m fun l => c l * ldR taken l k := by
      intro m
      induction m with
      | zero => intro _; exact .zero
      | succ m ih =>
        intro hm
        refine (Sp.lin 1 (c m) (ih (by omega)) (h m (by omega))).of_eq fun j _ => ?_
        show 1 * _ + _ = sm m _ + _
        rw [Int.one_mul]
    exact part _ (Nat.le_refl _)
  -- the row that is left, of the row and those taken
  have rsp : Sp p many (t + 1) (en R) fun k => r.getD k 0 := by
    have := Sp.lin u (-1) (Sp.mem (p := p) (n := many) (X := en R) (show t < t + 1 by omega)) (comb fun l hl => sp_mono (I.sp1 l hl) (Nat.le_succ t))
    refine .cg this fun k hk => ?_
    obtain ⟨k1, h1⟩ := hc k hk
    have h1 : r.getD k 0 - (u * en R t k - sm taken.length fun l => c l * ldR taken l k) = p * k1 := h1
    exact ⟨-k1, by grind⟩
  -- the row, of the row that is left and those taken
  have back : ∀ {x : Nat → Nat → Int} {s : Nat}, (∀ l, l < taken.length → Sp p many s x (ldR taken l)) → Sp p many s x (fun k => r.getD k 0) → Sp p many s x (en R t) := fun {x s} h h2 => by
    have := Sp.lin v v h2 (comb h)
    refine .cg this fun k hk => ?_
    obtain ⟨k1, h1⟩ := hc k hk
    have h1 : r.getD k 0 - (u * en R t k - sm taken.length fun l => c l * ldR taken l k) = p * k1 := h1
    obtain ⟨k2, h2⟩ := v2
    generalize sm taken.length (fun l => c l * ldR taken l k) = S at *
    exact ⟨v * k1 + k2 * en R t k, by grind⟩
  cases hf : filled r with
  | none =>
    have hz := filled_none hf
    have dz : Sp p many taken.length (ldR taken) (en R t) := back (fun l hl => .mem hl) (Sp.of_zero fun k hk => hz k (by rw [L.len]; exact hk))
    refine ⟨I.tk, fun i hi => sp_mono (I.sp1 i hi) (Nat.le_succ t), fun j hj => ?_, I.ord, fun k => ?_⟩
    · by_cases e : j = t
      · rw [e]
        exact dz
      · exact I.sp2 j (by omega)
    · rw [I.mem k]
      constructor
      · exact fun ⟨h1, h2⟩ => ⟨by omega, h2⟩
      · rintro ⟨h1, h2⟩
        by_cases e : k = t
        · rw [e] at h2
          exact absurd (depR_iff.mpr (dz.trans fun i hi => I.sp1 i hi)) h2
        · exact ⟨by omega, h2⟩
  | some f =>
    obtain ⟨f1, f2⟩ := filled_some hf
    have nd : ¬ DepR p many R t := fun d => by
      -- then the row that is left is made of those taken, and is nought
      have h1 : Sp p many taken.length (ldR taken) fun k => r.getD k 0 := rsp.trans fun i hi => by
        by_cases e : i = t
        · rw [e]
          exact (depR_iff.mp d).trans fun j hj => I.sp2 j hj
        · exact I.sp2 i (by omega)
      obtain ⟨d, hd⟩ := h1.coef
      have dz : ∀ l, l < taken.length → p ∣ d l := by
        intro l
        induction l using Nat.strongRecOn with
        | ind l ih =>
          intro hl
          obtain ⟨t1, t2, t3, t4⟩ := I.tk.at hl
          have h := hd (ldP taken l) t3
          rw [L.no l hl, Int.zero_sub] at h
          have h := Int.dvd_neg.mp h
          have e : p ∣ sm taken.length (fun i => d i * ldR taken i (ldP taken l)) - d l * ldR taken l (ldP taken l) := by
            have : sm taken.length (fun i => if i = l then d l * ldR taken l (ldP taken l) else 0) = d l * ldR taken l (ldP taken l) := by
              rw [sm_one hl fun i _ hne => if_neg hne, if_pos rfl]
            rw [← this]
            refine sm_dvd_sub fun i hi => ?_
            by_cases z : i = l
            · rw [if_pos z, z, Int.sub_self]
              exact Int.dvd_zero p
            · rw [if_neg z, Int.sub_zero]
              by_cases y : i < l
              · exact Int.dvd_mul_of_dvd_left (ih i y hi)
              · rw [I.tk.tri l i (by omega) hi, Int.mul_zero]
                exact Int.dvd_zero p
          have := Int.dvd_sub h e
          rw [show ∀ a b : Int, a - (a - b) = b from fun a b => by omega] at this
          rcases P.2 _ _ this with h | h
          · exact h
          · have hb := t2 _ (gd_mem (d := 0) (show ldP taken l < (taken.getD l ([], 0)).1.length by rw [t1]; exact t3))
            exact absurd h (small_ndvd hb.1 hb.2 t4)
      have hfd := hd f (by rw [← L.len]; exact f1)
      have hs : p ∣ sm taken.length (fun i => d i * ldR taken i f) := sm_dvd fun i hi => Int.dvd_mul_of_dvd_left (dz i hi)
      have := Int.dvd_add hfd hs
      rw [Int.sub_add_cancel] at this
      have hb := L.bd _ (gd_mem (d := 0) f1)
      exact small_ndvd hb.1 hb.2 f2 this
    have gl : ∀ i, i < taken.length → (taken ++ [(r, f)]).getD i ([], 0) = taken.getD i ([], 0) := fun i hi => by
      rw [List.getD_eq_getElem?_getD, List.getElem?_append_left hi, ← List.getD_eq_getElem?_getD]
    have gr : (taken ++ [(r, f)]).getD taken.length ([], 0) = (r, f) := by
      rw [List.getD_eq_getElem?_getD, List.getElem?_append_right (Nat.le_refl _), Nat.sub_self]
      rfl
    have hlen : (taken ++ [(r, f)]).length = taken.length + 1 := by rw [List.length_append]; rfl
    refine ⟨⟨fun x hx => ?_, fun i j hij hj => ?_⟩, fun i hi => ?_, fun j hj => ?_, ?_, fun k => ?_⟩
    · rcases List.mem_append.mp hx with h | h
      · exact I.tk.row x h
      · rw [List.mem_singleton.mp h]
        exact ⟨L.len, L.bd, by rw [← L.len]; exact f1, f2⟩
    · have hj : j < taken.length + 1 := by rw [← hlen]; exact hj
      unfold ldR ldP
      rw [gl i (by omega)]
      by_cases z : j < taken.length
      · rw [gl j z]
        exact I.tk.tri i j hij z
      · obtain rfl : j = taken.length := by omega
        rw [gr]
        exact L.no i hij
    · have hi : i < taken.length + 1 := by rw [← hlen]; exact hi
      by_cases z : i < taken.length
      · refine (sp_mono (I.sp1 i z) (Nat.le_succ t)).of_eq fun k _ => ?_
        unfold ldR
        dsimp only
        rw [gl i z]
      · obtain rfl : i = taken.length := by omega
        refine rsp.of_eq fun k _ => ?_
        unfold ldR
        dsimp only
        rw [gr]
    · by_cases e : j = t
      · rw [e]
        refine back (fun l hl => sp_app (.mem hl)) ?_
        have : Sp p many (taken ++ [(r, f)]).length (ldR (taken ++ [(r, f)])) (ldR (taken ++ [(r, f)]) taken.length) := .mem (by rw [hlen]; exact Nat.lt_succ_self _)
        refine this.of_eq fun k _ => ?_
        unfold ldR
        rw [gr]
      · exact sp_app (I.sp2 j (by omega))
    · rw [List.pairwise_append]
      refine ⟨I.ord, List.pairwise_singleton _ _, fun a ha b hb => ?_⟩
      rw [List.mem_singleton.mp hb]
      exact ((I.mem a).mp ha).1
    · rw [List.mem_append, I.mem k, List.mem_singleton]
      constructor
      · rintro (⟨h1, h2⟩ | rfl)
        · exact ⟨by omega, h2⟩
        · exact ⟨by omega, nd⟩
      · rintro ⟨h1, h2⟩
        by_cases e : k = t
        · exact .inr e
        · exact .inl ⟨by omega, h2⟩
theorem fr_inv {p : Int} (hP : isP p = true) (hp : p ≤ 65521) {s many : Nat} {R : List (List Int)} (c : Rc p s many R) : ∀ {t : Nat}, t ≤ s → FInv p many R t (frAll p R t)
  | 0, _ => ⟨⟨nofun, fun _ _ _ h => absurd h (Nat.not_lt_zero _)⟩, fun _ h => absurd h (Nat.not_lt_zero _), fun _ h => absurd h (Nat.not_lt_zero _), List.Pairwise.nil, fun k => ⟨nofun, fun h => absurd h.1 (Nat.not_lt_zero _)⟩⟩
  | t + 1, h => by
    have ih := fr_inv hP hp c (t := t) (by omega)
    have e : frAll p R (t + 1) = frStep p R (frAll p R t) t := by
      unfold frAll
      rw [List.range_succ, List.foldl_append]
      rfl
    rw [e]
    have hr := c.row _ (gd_mem (d := []) (show t < R.length by rw [c.len]; omega))
    exact ih.step hP hp hr.1 hr.2
theorem ord_eq : ∀ {a b : List Nat}, a.Pairwise (· < ·) → b.Pairwise (· < ·) → (∀ k, k ∈ a ↔ k ∈ b) → a = b := fun {a b} ha hb h => by
  have hp : a.Perm b := (List.perm_ext_iff_of_nodup (ha.imp fun h => by omega) (hb.imp fun h => by omega)).mpr h
  exact hp.eq_of_pairwise (fun x y _ _ h1 h2 => absurd h1 (by omega)) ha hb
theorem fr_eq {p : Int} (hP : isP p = true) (hp : p ≤ 65521) {s many : Nat} {R : List (List Int)} (c : Rc p s many R) : (frAll p R s).2 = freeP p R many := by
  have I := fr_inv hP hp c (t := s) (Nat.le_refl _)
  have F := free_ok hP hp c.len (fun r hr => (c.row r hr).1) (many := many)
  refine ord_eq I.ord F.ord fun k => ?_
  rw [I.mem k]
  constructor
  · exact fun ⟨h1, h2⟩ => (F.mem k h1).mpr h2
  · exact fun h => ⟨F.lt k h, (F.mem k (F.lt k h)).mp h⟩
end LA
set_option maxHeartbeats 2000000
namespace LD
open PySem PySem.Spec PyProof.Rows L2 LW GX
theorem call_lenTK {X : Cx} {K : PySem.W.Frag} (h : X.K = K) : CallR X (.builtin "len") (fun xs H Q => ∃ p ys, xs = [.ref p] ∧ SqT K H p ys ∧ Q (.int ys.length) H) := by
  subst h
  exact call_lenT
theorem call_isiK {X : Cx} {K : PySem.W.Frag} (h : X.K = K) : CallR X (.builtin "isinstance") (rIsi K) := by
  subst h
  exact call_isi
end LD
/-! a new list handed on as data -/
namespace DL
open PySem PySem.Spec PyProof.Rows L2 LW GX LD
section
variable {Z : Wd} {A : DE} {ta : TE}
def dFrz (A : DE) : DE := fun env k => A env fun r => ∃ d, datR r = some d ∧ k (.v d)
theorem re_frz (ha : RE Z ta A) : RE Z ta (dFrz A) :=
  ⟨fun env K K' h q => ha.mono env _ _ (fun r ⟨d, e, q⟩ => ⟨d, e, h _ q⟩) q, fun M env σ H Q S h => ha.run M env σ H _ S (ha.mono env _ _ (fun r ⟨d, e, q⟩ v H' k hv => q v H' k (hv.dat e)) h)⟩
end
end DL
/-! what many laws' walks want -/
set_option maxHeartbeats 2000000
namespace KK
open PySem L2 LW GX LD DL SH K00 LA
def toI : PyData → Int
  | .int i => i
  | _ => 0
theorem toI_map (ns : List Int) : (ns.map PyData.int).map toI = ns := by
  rw [List.map_map]
  exact List.map_id _
theorem perm_ints {ys : List PyData} {ns : List Int} (h : ys.Perm (ns.map PyData.int)) : ∃ ms : List Int, ys = ms.map PyData.int ∧ ms.Perm ns := by
  have e : ys = (ys.map toI).map PyData.int := by
    rw [List.map_map]
    have : ∀ y ∈ ys, (PyData.int ∘ toI) y = y := fun y hy => by
      obtain ⟨i, _, rfl⟩ := List.mem_map.mp (h.mem_iff.mp hy)
      rfl
    exact ((List.map_congr_left this).trans (List.map_id' _)).symm
  refine ⟨ys.map toI, e, ?_⟩
  have := h.map toI
  rw [toI_map] at this
  exact this
theorem okd_row {n : Nat} {r : List Int} (hl : r.length ≤ 64) (h : ∀ x ∈ r, 0 ≤ x ∧ x < 10 ^ 10) : okd (n + 1) (rowP r) = true := by
  show (decide ((r.map PyData.int).length ≤ 64) && (r.map PyData.int).all (okd n)) = true
  rw [List.length_map, decide_eq_true hl, Bool.true_and, List.all_eq_true]
  intro d hd
  obtain ⟨x, hx, rfl⟩ := List.mem_map.mp hd
  have e : okd n (.int x) = (decide (0 ≤ x) && decide (x < 10 ^ 10)) := by cases n <;> rfl
  rw [e, decide_eq_true (h x hx).1, decide_eq_true (h x hx).2]
  rfl
theorem nee {α : Type} [DecidableEq α] {a b : α} (h : a = b) : (if true = true then !decide (a = b) else decide (a = b)) = false := by
  rw [if_pos rfl, decide_eq_true h]
  rfl
theorem row_inj {a b : List Int} (h : rowP a = rowP b) : a = b := by
  have := congrArg (fun d => match d with | PyData.tuple ds => ds.map toI | _ => []) h
  dsimp only [rowP] at this
  rw [toI_map, toI_map] at this
  exact this
theorem okd_dat {m : Nat} {cs : List (List Int)} (hl : cs.length ≤ 64) (h : ∀ c ∈ cs, c.length ≤ 64 ∧ ∀ x ∈ c, 0 ≤ x ∧ x < 10 ^ 10) : okd (m + 2) (datP cs) = true := by
  show (decide ((cs.map rowP).length ≤ 64) && (cs.map rowP).all (okd (m + 1))) = true
  rw [List.length_map, decide_eq_true hl, Bool.true_and, List.all_eq_true]
  intro d hd
  obtain ⟨c, hc, rfl⟩ := List.mem_map.mp hd
  exact okd_row (h c hc).1 (h c hc).2
theorem nb_row (r : List Int) : nb (rowP r) = true := by
  show nbs (r.map PyData.int) = true
  induction r with
  | nil => rfl
  | cons x r ih =>
    show (nb (.int x) && nbs (r.map PyData.int)) = true
    rw [ih]
    rfl
theorem nb_dat (cs : List (List Int)) : nb (datP cs) = true := by
  show nbs (cs.map rowP) = true
  induction cs with
  | nil => rfl
  | cons x r ih =>
    show (nb (rowP x) && nbs (r.map rowP)) = true
    rw [ih, nb_row]
    rfl
theorem map_inj {α β : Type} {f : α → β} (hf : ∀ a b, f a = f b → a = b) : ∀ {xs ys : List α}, xs.map f = ys.map f → xs = ys
  | [], [], _ => rfl
  | [], _ :: _, h => nomatch h
  | _ :: _, [], h => nomatch h
  | x :: xs, y :: ys, h => by
    rw [List.map_cons, List.map_cons, List.cons.injEq] at h
    rw [hf _ _ h.1, map_inj hf h.2]
theorem dat_inj {a b : List (List Int)} (h : datP a = datP b) : a = b := map_inj (fun _ _ => row_inj) (PyData.tuple.inj h)
theorem eqv_dat (a b : List (List Int)) : PyData.eqv (datP a) (datP b) = decide (a = b) := by
  rw [Bool.eq_iff_iff, eqv_iff (nb_dat a) (nb_dat b), decide_eq_true_eq]
  exact ⟨dat_inj, fun h => by rw [h]⟩
theorem eqv_row (a b : List Int) : PyData.eqv (rowP a) (rowP b) = decide (a = b) := by
  rw [Bool.eq_iff_iff, eqv_iff (nb_row a) (nb_row b), decide_eq_true_eq]
  exact ⟨row_inj, fun h => by rw [h]⟩
theorem eqv_sym {d e : PyData} (hd : nb d = true) (he : nb e = true) : PyData.eqv d e = PyData.eqv e d := by
  rw [Bool.eq_iff_iff, eqv_iff hd he, eqv_iff he hd]
  exact ⟨fun h => h.symm, fun h => h.symm⟩
theorem nbs_all : ∀ {ds : List PyData}, (∀ d ∈ ds, nb d = true) → nbs ds = true
  | [], _ => rfl
  | d :: ds, h => by
    show (nb d && nbs ds) = true
    rw [h d List.mem_cons_self, nbs_all fun x hx => h x (List.mem_cons_of_mem _ hx)]
    rfl
theorem enum_mem {ds : List PyData} {d : PyData} (h : d ∈ pairsOf (DL.intsFrom 0 ds.length) ds) : ∃ i : Nat, i < ds.length ∧ d = .tuple [.int (i : Nat), ds.getD i .none] := by
  obtain ⟨i, hi, e⟩ := List.getElem_of_mem h
  rw [pairsOf_len, ints_len, Nat.min_self] at hi
  have := pairsOf_get (DL.intsFrom 0 ds.length) ds i
  rw [ints_get hi, List.getElem?_eq_getElem hi, List.getElem?_eq_getElem (by rw [pairsOf_len, ints_len, Nat.min_self]; exact hi), e] at this
  refine ⟨i, hi, ?_⟩
  have := Option.some.inj this
  rw [this, gd_at hi, Int.zero_add]
theorem enum_all (ds : List PyData) : pairsOf (DL.intsFrom 0 ds.length) ds = (List.range ds.length).map fun (i : Nat) => .tuple [.int (i : Nat), ds.getD i .none] := by
  refine List.ext_getElem? fun i => ?_
  rw [pairsOf_get, List.getElem?_map]
  by_cases h : i < ds.length
  · rw [ints_get h, List.getElem?_eq_getElem h, List.getElem?_range h, Int.zero_add]
    show some (PyData.tuple [.int (i : Nat), ds[i]]) = some (.tuple [.int (i : Nat), ds.getD i .none])
    rw [gd_at h]
  · rw [List.getElem?_eq_none (l := ds) (by omega), List.getElem?_eq_none (l := List.range _) (by rw [List.length_range]; omega)]
    cases (DL.intsFrom 0 ds.length)[i]? <;> rfl
theorem ixN_n {n j : Nat} (h : j < n) : ixN n (j : Int) = some j := by
  unfold ixN
  rw [if_pos (by omega), if_pos (by omega), Int.toNat_natCast]
def optN : Option Nat → PyData
  | some i => .int (i : Nat)
  | none => .none
def natsP (l : List Nat) : List PyData := l.map fun i => PyData.int (i : Nat)
theorem at_nats {l : List Nat} {i : Nat} (h : i < l.length) : atI (natsP l) (i : Nat) = some (.int (l.getD i 0 : Nat)) := by
  refine atI_n ?_
  rw [natsP, List.getElem?_map, List.getElem?_eq_getElem h, gd_at h]
  rfl
theorem nats_len {l : List Nat} : (natsP l).length = l.length := List.length_map ..
theorem ints_nat (n : Nat) : DL.intsFrom 0 ((n : Int)).toNat = (List.range n).map fun i => PyData.int (i : Nat) := by
  rw [DL.intsFrom, Int.toNat_natCast]
  exact List.map_congr_left fun i _ => by rw [Int.zero_add]
theorem put_new {kvs : List (PyData × PyData)} {k : Int} {d : PyData} (h : ∀ q ∈ kvs, eqKD q.1 k = false) : putD kvs k d = kvs ++ [(.int k, d)] := by
  unfold putD
  rw [if_neg]
  rw [List.any_eq_true]
  rintro ⟨q, hq, e⟩
  rw [h q hq] at e
  cases e
theorem merge_new : ∀ (ns : List Int) (es : List PyData) (acc : List (PyData × PyData)), ns.Pairwise (· ≠ ·) → (∀ q ∈ acc, ∀ n ∈ ns, eqKD q.1 n = false) → (ns.zip es).foldl (fun acc p => putD acc p.1 p.2) acc = acc ++ (ns.zip es).map fun p => (PyData.int p.1, p.2)
  | [], es, acc, _, _ => by
    rw [List.zip_nil_left]
    exact (List.append_nil _).symm
  | n :: ns, [], acc, _, _ => by
    rw [List.zip_nil_right]
    exact (List.append_nil _).symm
  | n :: ns, e :: es, acc, hp, ha => by
    rw [List.zip_cons_cons, List.foldl_cons, List.map_cons]
    dsimp only
    rw [put_new fun q hq => ha q hq n (List.mem_cons_self ..), merge_new ns es _ (List.pairwise_cons.mp hp).2 fun q hq m hm => ?_, List.append_assoc]
    · rfl
    · rcases List.mem_append.mp hq with h | h
      · exact ha q h m (List.mem_cons_of_mem _ hm)
      · rw [List.mem_singleton.mp h]
        exact decide_eq_false ((List.pairwise_cons.mp hp).1 m hm)
theorem find_zip {f : Int → Bool} : ∀ (ns : List Int) (es : List PyData), ns.length = es.length → (((ns.zip es).map fun p => (PyData.int p.1, p.2)).find? fun q => eqKD q.1 k0) = ((List.range ns.length).find? fun l => decide (ns.getD l 0 = k0)).map fun l => (PyData.int (ns.getD l 0), es.getD l .none)
  | [], es, _ => by
    rw [List.zip_nil_left]
    rfl
  | n :: ns, [], h => by cases h
  | n :: ns, e :: es, h => by
    rw [List.zip_cons_cons, List.map_cons, List.find?_cons, List.length_cons, List.range_succ_eq_map, List.find?_cons]
    show (match decide (n = k0) with | true => _ | false => _) = Option.map _ (match decide (n = k0) with | true => _ | false => _)
    cases decide (n = k0) with
    | true => rfl
    | false =>
      dsimp only
      rw [find_zip (f := f) ns es (by simpa using h), List.find?_map, show ((fun l => decide ((n :: ns).getD l 0 = k0)) ∘ Nat.succ) = fun l => decide (ns.getD l 0 = k0) from rfl]
      cases (List.range ns.length).find? fun l => decide (ns.getD l 0 = k0) <;> rfl
theorem merge_plain {ns : List Nat} {es : List PyData} : plainK (mergeD (ns.map fun l => ((l : Nat) : Int)) es) = true := by
  have key : ∀ (ns : List Int) (es : List PyData) (acc : List (PyData × PyData)), (∀ q ∈ acc, ∃ i, q.1 = .int i) → ∀ q ∈ (ns.zip es).foldl (fun acc p => putD acc p.1 p.2) acc, ∃ i, q.1 = .int i := by
    intro ns
    induction ns with
    | nil => intro es acc h; rw [List.zip_nil_left]; exact h
    | cons n ns ih =>
      intro es acc h
      cases es with
      | nil => exact h
      | cons e es =>
        rw [List.zip_cons_cons, List.foldl_cons]
        refine ih es _ fun q hq => ?_
        unfold putD at hq
        split at hq
        · obtain ⟨z, hz, rfl⟩ := List.mem_map.mp hq
          split
          · exact h z hz
          · exact h z hz
        · rcases List.mem_append.mp hq with hq | hq
          · exact h q hq
          · rw [List.mem_singleton.mp hq]
            exact ⟨n, rfl⟩
  have h := key (ns.map fun l => ((l : Nat) : Int)) es [] (fun q h => by cases h)
  unfold mergeD
  generalize (List.foldl _ _ _) = l at h
  cases l with
  | nil => rfl
  | cons q l =>
    obtain ⟨i, hi⟩ := h q (List.mem_cons_self ..)
    obtain ⟨q1, q2⟩ := q
    dsimp only at hi
    rw [hi]
    rfl
theorem pairs_all (ds es : List PyData) : pairsOf ds es = (List.range (min ds.length es.length)).map fun i => .tuple [ds.getD i .none, es.getD i .none] := by
  refine List.ext_getElem? fun i => ?_
  rw [pairsOf_get, List.getElem?_map]
  by_cases h : i < min ds.length es.length
  · rw [List.getElem?_range h, List.getElem?_eq_getElem (show i < ds.length by omega), List.getElem?_eq_getElem (show i < es.length by omega)]
    show some (PyData.tuple [ds[i], es[i]]) = some (.tuple [ds.getD i .none, es.getD i .none])
    rw [gd_at, gd_at]
  · rw [List.getElem?_eq_none (l := List.range _) (by rw [List.length_range]; omega)]
    rcases Nat.lt_or_ge i ds.length with z | z
    · rw [List.getElem?_eq_none (l := es) (by omega)]
      cases ds[i]? <;> rfl
    · rw [List.getElem?_eq_none (l := ds) z]
      rfl
theorem any_congr {α : Type} {f g : α → Bool} : ∀ {l : List α}, (∀ x ∈ l, f x = g x) → l.any f = l.any g
  | [], _ => rfl
  | x :: l, h => by rw [List.any_cons, List.any_cons, h x (List.mem_cons_self ..), any_congr fun y hy => h y (List.mem_cons_of_mem _ hy)]
def lisP (r : List Int) : PyData := .list (r.map PyData.int)
theorem eqv_nil (l : List PyData) : PyData.eqv (.list l) (.list []) = l.isEmpty := by
  cases l <;> rfl
theorem if_join {c : Bool} {P1 : Prop} {K : DEnds} {e0 : DL.Env} {S : DL.Env → Prop} (h1 : (∀ env', S env' → K.nx env') → c = true → P1) (h2 : c = false → S e0) (hD : ∀ env', S env' → K.nx env') : if c = true then P1 else sNext K e0 := by
  cases c
  · exact hD _ (h2 rfl)
  · exact h1 hD rfl
theorem if_joinD {c : Bool} {P1 : Prop} {d2 : DS} {K : DEnds} {e0 : DL.Env} {S : DL.Env → Prop} (h1 : (∀ env', S env' → K.nx env') → c = true → P1) (h2 : (∀ env', S env' → K.nx env') → c = false → d2 K e0) (hD : ∀ env', S env' → K.nx env') : if c = true then P1 else d2 K e0 := by
  cases c
  · exact h2 hD rfl
  · exact h1 hD rfl
theorem ints_sh {l : List PyData} (h : ∀ d ∈ l, ∃ i, d = PyData.int i) : SeqAt.shaped (.list l) = true := by
  have h1 : PyData.canLay0 (.list l) = true := all_all (b := PyData.canLay0) (ba := PyData.canLayAll0) rfl (fun _ _ => rfl) fun x hx => by
    obtain ⟨i, rfl⟩ := h x hx
    rfl
  have h2 : PyData.depthAll l ≤ 0 := depth_all fun x hx => by
    obtain ⟨i, rfl⟩ := h x hx
    exact Nat.le_refl _
  show (PyData.canLay0 (.list l) && decide (PyData.depthAll l + 1 ≤ 64)) = true
  rw [h1, decide_eq_true (by omega)]
  rfl
theorem lol_sh {l : List PyData} (h : ∀ d ∈ l, ∃ r, d = lisP r) : SeqAt.shaped (.list l) = true := by
  have h1 : PyData.canLay0 (.list l) = true := all_all (b := PyData.canLay0) (ba := PyData.canLayAll0) rfl (fun _ _ => rfl) fun x hx => by
    obtain ⟨r, rfl⟩ := h x hx
    exact all_all (b := PyData.canLay0) (ba := PyData.canLayAll0) rfl (fun _ _ => rfl) fun y hy => by
      obtain ⟨i, _, rfl⟩ := List.mem_map.mp hy
      rfl
  have h2 : PyData.depthAll l ≤ 1 := depth_all fun x hx => by
    obtain ⟨r, rfl⟩ := h x hx
    show PyData.depthAll (r.map PyData.int) + 1 ≤ 1
    have : PyData.depthAll (r.map PyData.int) ≤ 0 := depth_all fun y hy => by
      obtain ⟨i, _, rfl⟩ := List.mem_map.mp hy
      exact Nat.le_refl _
    omega
  show (PyData.canLay0 (.list l) && decide (PyData.depthAll l + 1 ≤ 64)) = true
  rw [h1, decide_eq_true (by omega)]
  rfl
theorem list_sh {l : List PyData} (h : ∀ x ∈ l, okd 2 x = true) : SeqAt.shaped (.list l) = true := by
  have h1 : PyData.canLay0 (.list l) = true := all_all (b := PyData.canLay0) (ba := PyData.canLayAll0) rfl (fun _ _ => rfl) fun x hx => (okd_lay (h x hx)).1
  have h2 : PyData.depthAll l ≤ 2 := depth_all fun x hx => (okd_lay (h x hx)).2
  show (PyData.canLay0 (.list l) && decide (PyData.depthAll l + 1 ≤ 64)) = true
  rw [h1, decide_eq_true (by omega)]
  rfl
theorem at_lis {F : List (List Int)} {i : Nat} (h : i < F.length) : atI (F.map lisP) (i : Nat) = some (lisP (F.getD i [])) := by
  refine atI_n ?_
  rw [List.getElem?_map, List.getElem?_eq_getElem h, gd_at h]
  rfl
theorem env_cut {α : Type} {F : α → Prop} {a b : α} (h : a = b) (q : F b) : F a := by rw [h]; exact q
theorem ext_gd {A B : List (List Int)} (h : A.length = B.length) (e : ∀ i, i < A.length → A.getD i [] = B.getD i []) : A = B := by
  refine List.ext_getElem h fun i h1 h2 => ?_
  have := e i h1
  rw [gd_at h1, gd_at h2] at this
  exact this
theorem perm_map {α : Type} {f : α → PyData} {ys : List PyData} {xs : List α} (h : ys.Perm (xs.map f)) : ∃ zs : List α, ys = zs.map f ∧ zs.Perm xs := by
  generalize hl : xs.map f = l at h
  induction h generalizing xs with
  | nil => exact ⟨[], rfl, by rw [List.map_eq_nil_iff.mp hl]⟩
  | @cons a l1 l2 _ ih =>
    cases xs with
    | nil => cases hl
    | cons x xs =>
      cases hl
      obtain ⟨zs, rfl, hz⟩ := ih rfl
      exact ⟨x :: zs, rfl, hz.cons x⟩
  | @swap a b l =>
    match xs, hl with
    | x :: y :: xs, hl =>
      cases hl
      exact ⟨y :: x :: xs, rfl, .swap ..⟩
  | trans _ _ ih1 ih2 =>
    obtain ⟨z2, rfl, h2⟩ := ih2 hl
    obtain ⟨z1, rfl, h1⟩ := ih1 rfl
    exact ⟨z1, rfl, h1.trans h2⟩
theorem nats_in (pl : List Nat) (j : Nat) : ((natsP pl).any fun e => eqFD e (.int (j : Nat))) = decide (j ∈ pl) := by
  rw [Bool.eq_iff_iff, List.any_eq_true, decide_eq_true_eq]
  constructor
  · rintro ⟨d, hd, e⟩
    obtain ⟨i, hi, rfl⟩ := List.mem_map.mp hd
    have e : ((i : Int) == (j : Int)) = true := e
    rw [beq_iff_eq] at e
    rw [show j = i by omega]
    exact hi
  · intro h
    refine ⟨_, List.mem_map_of_mem h, ?_⟩
    show ((j : Int) == (j : Int)) = true
    rw [beq_iff_eq]
theorem nats_flat (pl : List Nat) : (natsP pl).all flatD = true := by
  rw [List.all_eq_true]
  intro d hd
  obtain ⟨i, _, rfl⟩ := List.mem_map.mp hd
  rfl
theorem and_cutK {c : Bool} {U : Prop} {K : Bool → Prop} (c2 : Bool) (hU : K c2 → U) (h : K (c && c2)) : if c = true then U else K false := by
  cases c
  · exact h
  · exact hU h
theorem sum_smL (f : Nat → Int) : ∀ s : Nat, ((List.range s).map f).sum = sm s f
  | 0 => rfl
  | s + 1 => by
    rw [List.range_succ, List.map_append, List.sum_append, sum_smL f s]
    show sm s f + (f s + 0) = sm s f + f s
    omega
theorem and_cut {c : Bool} {U A B : Prop} (c2 : Bool) (hU : (if c2 = true then A else B) → U) (h : if (c && c2) = true then A else B) : if c = true then U else if false = true then A else B := by
  cases c
  · exact h
  · exact hU h
theorem or_cut {c : Bool} {U A B : Prop} (c2 : Bool) (hU : (if c2 = true then A else B) → U) (h : if (c || c2) = true then A else B) : if c = true then if true = true then A else B else U := by
  cases c
  · exact hU h
  · exact h
end KK
namespace KK
open PySem L2 LW GX LD DL SH K00
def topS (i : Nat) : Stmt := PySem.Challenge.pw_sumstand_k02_left_inverses.main.body.getD i (.Pass ⟨0, 0, 0, 0⟩)
abbrev s_inverse : Stmt := topS 1
abbrev n_inverse : List Str := ["a", "p", "rest", "next_rest", "factor", "next_factor", "often"]
theorem sc_inverse : FnScope n_inverse ["a", "p"] (defScope s_inverse) := ⟨rfl, rfl, rfl, by decide +kernel, rfl, by decide +kernel, by decide +kernel⟩
abbrev s_combined : Stmt := topS 2
abbrev n_combined : List Str := ["row", "factor", "other", "p", "number", "added"]
theorem sc_combined : FnScope n_combined ["row", "factor", "other", "p"] (defScope s_combined) := ⟨rfl, rfl, rfl, by decide +kernel, rfl, by decide +kernel, by decide +kernel⟩
abbrev s_left_inverse : Stmt := topS 3
abbrev n_left_inverse : List Str := ["matrix", "many", "p", "taken", "square", "place", "rows", "_", "row"]
theorem sc_left_inverse : FnScope n_left_inverse ["matrix", "many", "p"] (defScope s_left_inverse) := ⟨rfl, rfl, rfl, by decide +kernel, rfl, by decide +kernel, by decide +kernel⟩
abbrev s_solved : Stmt := topS 4
abbrev n_solved : List Str := ["matrix", "many", "right", "p", "joined", "row", "number", "rows", "places"]
theorem sc_solved : FnScope n_solved ["matrix", "many", "right", "p"] (defScope s_solved) := ⟨rfl, rfl, rfl, by decide +kernel, rfl, by decide +kernel, by decide +kernel⟩
abbrev s_with_marks : Stmt := topS 5
abbrev n_with_marks : List Str := ["matrix", "size", "place", "row"]
theorem sc_with_marks : FnScope n_with_marks ["matrix"] (defScope s_with_marks) := ⟨rfl, rfl, rfl, by decide +kernel, rfl, by decide +kernel, by decide +kernel⟩
abbrev s_unit : Stmt := topS 6
abbrev n_unit : List Str := ["place", "size", "at"]
theorem sc_unit : FnScope n_unit ["place", "size"] (defScope s_unit) := ⟨rfl, rfl, rfl, by decide +kernel, rfl, by decide +kernel, by decide +kernel⟩
abbrev s_first_free : Stmt := topS 7
abbrev n_first_free : List Str := ["matrix", "many", "p", "turned", "at", "row", "_", "places"]
theorem sc_first_free : FnScope n_first_free ["matrix", "many", "p"] (defScope s_first_free) := ⟨rfl, rfl, rfl, by decide +kernel, rfl, by decide +kernel, by decide +kernel⟩
abbrev s_spread : Stmt := topS 8
abbrev n_spread : List Str := ["numbers", "places", "size", "found", "at"]
theorem sc_spread : FnScope n_spread ["numbers", "places", "size"] (defScope s_spread) := ⟨rfl, rfl, rfl, by decide +kernel, rfl, by decide +kernel, by decide +kernel⟩
abbrev s_reduced : Stmt := topS 9
abbrev n_reduced : List Str := ["rows", "many", "p", "found", "row", "number", "places", "place", "top", "at"]
theorem sc_reduced : FnScope n_reduced ["rows", "many", "p"] (defScope s_reduced) := ⟨rfl, rfl, rfl, by decide +kernel, rfl, by decide +kernel, by decide +kernel⟩
abbrev s_first_filled : Stmt := topS 10
abbrev n_first_filled : List Str := ["rows", "start", "place", "index"]
theorem sc_first_filled : FnScope n_first_filled ["rows", "start", "place"] (defScope s_first_filled) := ⟨rfl, rfl, rfl, by decide +kernel, rfl, by decide +kernel, by decide +kernel⟩
abbrev s_cleared : Stmt := topS 11
abbrev n_cleared : List Str := ["rows", "top", "place", "p", "factor", "lead", "number", "index", "row"]
theorem sc_cleared : FnScope n_cleared ["rows", "top", "place", "p"] (defScope s_cleared) := ⟨rfl, rfl, rfl, by decide +kernel, rfl, by decide +kernel, by decide +kernel⟩
abbrev s_law_pool : Stmt := topS 13
abbrev n_law_pool : List Str := ["script", "k", "cell", "big", "mixed"]
theorem sc_law_pool : FnScope n_law_pool ["script", "k"] (defScope s_law_pool) := ⟨rfl, rfl, rfl, by decide +kernel, rfl, by decide +kernel, by decide +kernel⟩
abbrev s_law_take : Stmt := topS 14
abbrev n_law_take : List Str := ["source", "top", "drawn"]
theorem sc_law_take : FnScope n_law_take ["source", "top"] (defScope s_law_take) := ⟨rfl, rfl, rfl, by decide +kernel, rfl, by decide +kernel, by decide +kernel⟩
abbrev s_law_one : Stmt := topS 15
abbrev n_law_one : List Str := ["source", "things"]
theorem sc_law_one : FnScope n_law_one ["source", "things"] (defScope s_law_one) := ⟨rfl, rfl, rfl, by decide +kernel, rfl, by decide +kernel, by decide +kernel⟩
abbrev s_law_mixed : Stmt := topS 16
abbrev n_law_mixed : List Str := ["source", "things", "left", "found", "turn"]
theorem sc_law_mixed : FnScope n_law_mixed ["source", "things"] (defScope s_law_mixed) := ⟨rfl, rfl, rfl, by decide +kernel, rfl, by decide +kernel, by decide +kernel⟩
abbrev s_law_is_number : Stmt := topS 17
abbrev n_law_is_number : List Str := ["thing", "p"]
theorem sc_law_is_number : FnScope n_law_is_number ["thing", "p"] (defScope s_law_is_number) := ⟨rfl, rfl, rfl, by decide +kernel, rfl, by decide +kernel, by decide +kernel⟩
abbrev s_law_lessened : Stmt := topS 18
abbrev n_law_lessened : List Str := ["row", "taken", "p", "lead", "at", "own", "other", "k"]
theorem sc_law_lessened : FnScope n_law_lessened ["row", "taken", "p"] (defScope s_law_lessened) := ⟨rfl, rfl, rfl, by decide +kernel, rfl, by decide +kernel, by decide +kernel⟩
abbrev s_law_free_rows : Stmt := topS 19
abbrev n_law_free_rows : List Str := ["matrix", "p", "taken", "found", "at", "row", "places", "k"]
theorem sc_law_free_rows : FnScope n_law_free_rows ["matrix", "p"] (defScope s_law_free_rows) := ⟨rfl, rfl, rfl, by decide +kernel, rfl, by decide +kernel, by decide +kernel⟩
abbrev s_law_matrix : Stmt := topS 20
abbrev n_law_matrix : List Str := ["source", "p", "many", "rows", "turn", "way", "row", "k", "other", "factor", "number", "one"]
theorem sc_law_matrix : FnScope n_law_matrix ["source", "p", "many"] (defScope s_law_matrix) := ⟨rfl, rfl, rfl, by decide +kernel, rfl, by decide +kernel, by decide +kernel⟩
abbrev s_law_right : Stmt := topS 21
abbrev n_law_right : List Str := ["matrix", "many", "p", "free", "told", "i", "row", "number", "at", "k"]
theorem sc_law_right : FnScope n_law_right ["matrix", "many", "p"] (defScope s_law_right) := ⟨rfl, rfl, rfl, by decide +kernel, rfl, by decide +kernel, by decide +kernel⟩
abbrev s_law_solved_right : Stmt := topS 22
abbrev n_law_solved_right : List Str := ["source", "matrix", "many", "p", "free", "numbers", "k", "right", "row", "told", "number", "others", "at", "wrong"]
theorem sc_law_solved_right : FnScope n_law_solved_right ["source", "matrix", "many", "p"] (defScope s_law_solved_right) := ⟨rfl, rfl, rfl, by decide +kernel, rfl, by decide +kernel, by decide +kernel⟩
abbrev s_law : Stmt := topS 23
abbrev n_law : List Str := ["script", "k", "source", "p", "many", "matrix"]
theorem sc_law : FnScope n_law ["script"] (defScope s_law) := ⟨rfl, rfl, rfl, by decide +kernel, rfl, by decide +kernel, by decide +kernel⟩

structure Tx (mg : Str → Option Value) where
  m_int : mg "int" = none
  m_bool : mg "bool" = none
  m_len : mg "len" = none
  m_max : mg "max" = none
  m_min : mg "min" = none
  m_range : mg "range" = none
  m_isinstance : mg "isinstance" = none
  m_tuple : mg "tuple" = none
  m_any : mg "any" = none
  m_zip : mg "zip" = none
  m_enumerate : mg "enumerate" = none
  m_list : mg "list" = none
  m_sum : mg "sum" = none
  m_dict : mg "dict" = none
theorem lenle {as : List Ar} {bs : List Ar} {N : List Str} (e : as = bs) (h : Nat.ble bs.length N.length = true) : as.length ≤ N.length := by
  rw [e]
  exact Nat.le_of_ble_eq_true h
theorem leneq {as : List Ar} {bs : List Ar} {n : Nat} (e : as = bs) (h : bs.length = n) : as.length = n := by rw [e, h]
section
variable {P : Program} {w : World} {K : PySem.W.Frag} {mg : Str → Option Value} {base : Heap} {Ts : List Addr} {Tl : List (Addr × Str)}
end
end KK
namespace KK
open PySem L2 LW GX LD DL SH K00
section
variable {P : Program} {w : World} {K : PySem.W.Frag} {mg : Str → Option Value} {base : Heap} {Ts : List Addr} {Tl : List (Addr × Str)}
/-! ### the law's pool -/
def spPool (K : PySem.W.Frag) : Sp := fun vs H Q _ => ∃ (a : Addr) (ns : List Int) (k : Int), vs = [.ref a, .int k] ∧ SqL K H a (ns.map V.int) ∧ ns.length ≤ 63 ∧ 0 ≤ k ∧ k ≤ 1000 ∧ ∀ H' p, Same H H' → H p = none → Pl H' p → Q (.ref p) H'
theorem ok_pool {f : Addr} {fd : FuncData} {n : Nat} (F : Fun K "_law_pool" "_law_pool" s_law_pool f fd) (T : Tx mg) : FnOk P w K mg base CX0 (n + 1) f fd ["script", "k"] (spPool K) := by
  refine F.ok sc_law_pool (fun vs H Q E h => ?_) (fun cdv A outer s H vs Q E hr h => ?_)
  · obtain ⟨a, ns, k, rfl, _⟩ := h
    rfl
  · obtain ⟨a, ns, k, rfl, hS, hl, hk0, hk1, q⟩ := h
    refine ⟨_, /- slots 0:script 1:k 2:cell 3:big 4:mixed -/
      (pss_cons (ps_set (i := 2) sc_law_pool.nd rfl (by first | exact Or.inl rfl | exact Or.inr rfl) pe_int) -- cell = 0
      (C8.pss_cut (ps_if (pt_cmpR op_lt (pv 1) (pe_callB call_lenL (by rfl) T.m_len (by decide +kernel) (pa_cons (pv 0) pa_nil)) (nomark _))
        (pss_one (ps_set (i := 2) sc_law_pool.nd rfl (by first | exact Or.inl rfl | exact Or.inr rfl) (pe_ix ix_list (pv 0) (pv 1) (fun _ _ => rfl))))
        (pss_one (ps_if (pt_cmpR (op_neD hr.units) (pv 0) (pe_lst pa_nil) (nomark _))
          (pss_one (ps_set (i := 2) sc_law_pool.nd rfl (by first | exact Or.inl rfl | exact Or.inr rfl) (pe_ix ix_list (pv 0) pe_int (fun _ _ => rfl))))
          pss_nil))) -- if k < len(script):
      (pss_cons (ps_set (i := 3) sc_law_pool.nd rfl (by first | exact Or.inl rfl | exact Or.inr rfl) (pe_callB (call_max2 rfl) (by rfl) T.m_max (by decide +kernel) (pa_cons (pe_callTy call_intI (by rfl) T.m_int (by decide +kernel) (pa_cons (pv 2) pa_nil)) (pa_cons (pe_callTy call_intI (by rfl) T.m_int (by decide +kernel) (pa_cons (pe_op op_sub (pe_un un_neg pe_int) (pv 2)) pa_nil)) pa_nil)))) -- big = max(int(cell), int(-1 - cell))
      (pss_cons (ps_set (i := 4) sc_law_pool.nd rfl (by first | exact Or.inl rfl | exact Or.inr rfl) (pe_op op_mod (pe_callTy call_intI (by rfl) T.m_int (by decide +kernel) (pa_cons (pe_op op_mul (pe_op op_add (pe_op op_add (pe_op op_add (pe_op op_mod (pe_callTy call_intI (by rfl) T.m_int (by decide +kernel) (pa_cons (pv 3) pa_nil)) pe_int) (pe_op op_mul (pe_op op_mul pe_int (pv 1)) (pv 1))) (pe_op op_mul pe_int (pv 1))) pe_int) pe_int) pa_nil)) pe_int)) -- mixed = int((int(big) % 2147483629 + 7919 * k * k + 31 * k + 17) * 48271) % 2147483647
      (pss_one (ps_ret (pe_lst (pa_cons (pe_op op_mul (pv 3) (pe_callTy call_intB (by rfl) T.m_int (by decide +kernel) (pa_cons (pe_and (pe_cmpR op_ge (pv 3) (pe_op op_pow pe_int pe_int) (nomark _)) (pe_one (pe_cmpR op_lt (pv 1) (pe_callB call_lenL (by rfl) T.m_len (by decide +kernel) (pa_cons (pv 0) pa_nil)) (nomark _)))) pa_nil))) (pa_cons (pv 4) pa_nil))))))))), ?_⟩
    have at_ns : ∀ {i : Nat}, i < ns.length → ∃ c, (ns.map V.int)[i]? = some (.int c) := fun {i} hi => ⟨ns[i], by rw [List.getElem?_map, List.getElem?_eq_getElem hi]; rfl⟩
    have len_ns : (ns.map V.int).length = ns.length := List.length_map ..
    refine ⟨fun σ' H' => ∃ c : Int, σ' = [some (.ref a), some (.int k), some (.int c), none, none] ∧ Same H H', ?_, ?_⟩
    · refine ⟨_, rfl, _, rfl, a, _, rfl, hS, _, _, rfl, rfl, _, rfl, ?_⟩
      refine ite2 (fun h1 => ?_) (fun h1 => ?_)
      · have h2 : k < ((ns.map V.int).length : Int) := of_decide_eq_true h1
        rw [len_ns] at h2
        obtain ⟨c, hc⟩ := at_ns (i := k.toNat) (by omega)
        exact ⟨_, rfl, _, rfl, a, _, _, _, rfl, rfl, hS, at_of (j := k.toNat) (by omega) hc, c, rfl, Same.refl H⟩
      · refine ⟨_, rfl, Nat.zero_le _, fun z hz => ?_⟩
        have sz : Same H (upd H z (.lst [])) := same_upd hz
        refine ⟨.list (ns.map PyData.int), .list [], .lst (sz.seq hS) (dpAll_ints ns), .lst (SqL.of upd_same) .nil, shaped_ints ns, by decide, _, rfl, ?_⟩
        rw [eqv_nil]
        refine ite2 (fun h3 => ?_) (fun h3 => ?_)
        · have h4 : 0 < ns.length := by
            cases ns with
            | nil => exact absurd h3 (by decide)
            | cons x r => exact Nat.succ_pos _
          obtain ⟨c, hc⟩ := at_ns (i := 0) h4
          exact ⟨_, rfl, a, _, _, _, rfl, rfl, sz.seq hS, atI_nat (j := 0) hc, c, rfl, sz⟩
        · exact ⟨0, rfl, sz⟩
    · rintro σ' H' ⟨c, rfl, sm⟩
      -- big = max(int(cell), int(-1 - cell))
      refine ⟨_, rfl, _, rfl, _, rfl, _, rfl, _, _, rfl, rfl, _, rfl, _, _, rfl, ?_⟩
      obtain ⟨b, hb, hb0⟩ : ∃ b : Int, (if -1 - c > c then -1 - c else c) = b ∧ 0 ≤ b := ⟨_, rfl, by split <;> omega⟩
      dsimp only
      rw [hb]
      -- mixed
      refine ⟨_, rfl, _, rfl, _, _, rfl, rfl, (by show (0 : Int) < 2147483629; decide), _, rfl, _, _, rfl, rfl, .inl ⟨by omega, by omega⟩, _, rfl, _, _, rfl, rfl, .inr ⟨by omega, by omega⟩, _, _, rfl, rfl, _, rfl, _, _, rfl, rfl, .inl ⟨by omega, by omega⟩, _, _, rfl, rfl, _, _, rfl, rfl, _, _, rfl, rfl, .inr ⟨by omega, by omega⟩, _, rfl, _, _, rfl, rfl, (by show (0 : Int) < 2147483647; decide), ?_⟩
      obtain ⟨y, hy, hy0, hy1⟩ : ∃ y : Int, (b % 2147483629 + 7919 * k * k + 31 * k + 17) * 48271 % 2147483647 = y ∧ 0 ≤ y ∧ y < 2147483647 := ⟨_, rfl, Int.emod_nonneg _ (by decide), Int.emod_lt_of_pos _ (by decide)⟩
      dsimp only
      rw [hy]
      -- [big * int(big >= 10 ** 18 and k < len(script)), mixed]
      refine ⟨_, rfl, _, rfl, _, _, rfl, rfl, ⟨by decide, by decide, by decide⟩, _, _, rfl, rfl, _, rfl, ?_⟩
      refine ite2 (fun h1 => ?_) (fun h1 => ?_)
      · refine ⟨_, rfl, _, rfl, a, _, rfl, sm.seq hS, _, _, rfl, rfl, _, rfl, _, _, rfl, rfl, .inr ?_, ?_⟩
        · split <;> exact ⟨by decide, by decide⟩
        · refine ⟨_, rfl, (by show 2 ≤ sizeLine; decide), fun p hp => q _ p (sm.trans (same_upd hp)) (sm.free hp) ⟨_, y, ?_, hy0, hy1, upd_same⟩⟩
          split <;> omega
      · refine ⟨_, rfl, _, _, rfl, rfl, .inr ⟨by decide, by decide⟩, _, rfl, (by show 2 ≤ sizeLine; decide), fun p hp => q _ p (sm.trans (same_upd hp)) (sm.free hp) ⟨_, y, ?_, hy0, hy1, upd_same⟩⟩
        show 0 ≤ b * 0
        omega
def spTake : Sp := fun vs H Q _ => ∃ (p : Addr) (top : Int), vs = [.ref p, .int top] ∧ Pl H p ∧ 0 < top ∧ top < 1073741824 ∧ ∀ d H', 0 ≤ d → d < top → Rl p H H' → Pl H' p → Q (.int d) H'
theorem ok_take {f : Addr} {fd : FuncData} {n : Nat} (F : Fun K "_law_take" "_law_take" s_law_take f fd) (T : Tx mg) : FnOk P w K mg base CX0 (n + 1) f fd ["source", "top"] spTake := by
  refine F.ok sc_law_take (fun vs H Q E h => ?_) (fun cdv A outer s H vs Q E hr h => ?_)
  · obtain ⟨p, t, rfl, _⟩ := h
    rfl
  · obtain ⟨p, top, rfl, ⟨x, y, hx, hy, hy1, hp⟩, ht0, ht1, q⟩ := h
    refine ⟨_, /- slots 0:source 1:top 2:drawn -/
      (pss_cons (ps_if (pt_cmpR op_gt (pe_ix ix_list (pv 0) pe_int (fun _ _ => rfl)) pe_int (nomark _))
        (pss_cons (ps_set (i := 2) sc_law_take.nd rfl (by first | exact Or.inl rfl | exact Or.inr rfl) (pe_op op_mod (pe_callTy call_intI (by rfl) T.m_int (by decide +kernel) (pa_cons (pe_ix ix_list (pv 0) pe_int (fun _ _ => rfl)) pa_nil)) (pv 1))) -- drawn = int(source[0]) % top
        (pss_cons (ps_asg (pe_op op_fdiv (pe_ix ix_list (pv 0) pe_int (fun _ _ => rfl)) (pv 1)) (pg_sub (pv 0) pe_int set_list)) -- source[0] = source[0] // top
        (pss_one (ps_ret (pv 2)))))
        pss_nil) -- if source[0] > 0:
      (pss_cons (ps_asg (pe_op op_mod (pe_callTy call_intI (by rfl) T.m_int (by decide +kernel) (pa_cons (pe_op op_add (pe_op op_mul (pe_ix ix_list (pv 0) pe_int (fun _ _ => rfl)) pe_int) pe_int) pa_nil)) pe_int) (pg_sub (pv 0) pe_int set_list)) -- source[1] = int(source[1] * 39373 + 7) % 2147483647
      (pss_one (ps_ret (pe_op op_mod (pe_callTy call_intI (by rfl) T.m_int (by decide +kernel) (pa_cons (pe_op op_fdiv (pe_op op_mod (pe_callTy call_intI (by rfl) T.m_int (by decide +kernel) (pa_cons (pe_op op_mul (pe_ix ix_list (pv 0) pe_int (fun _ _ => rfl)) (pe_ix ix_list (pv 0) pe_int (fun _ _ => rfl))) pa_nil)) pe_int) pe_int) pa_nil)) (pv 1)))))), ?_⟩
    refine ⟨_, rfl, p, _, _, _, rfl, rfl, SqL.of hp, int0, _, _, rfl, rfl, _, rfl, ?_⟩
    refine ite2 (fun h1 => ?_) (fun h1 => ?_)
    · refine ⟨_, rfl, p, _, _, _, rfl, rfl, SqL.of hp, int0, _, rfl, _, rfl, _, _, rfl, rfl, ht0, ?_⟩
      refine ⟨_, rfl, p, _, _, _, rfl, rfl, SqL.of hp, int0, _, rfl, _, _, rfl, rfl, ⟨ht0, ht1⟩, ?_⟩
      refine ⟨_, rfl, p, _, _, _, rfl, rfl, hp, rfl, ?_⟩
      refine ⟨_, rfl, ?_⟩
      exact q _ _ (Int.emod_nonneg _ (by omega)) (Int.emod_lt_of_pos _ ht0) Rl.upd ⟨_, y, Int.ediv_nonneg hx (by omega), hy, hy1, upd_same⟩
    · refine ⟨_, rfl, p, _, _, _, rfl, rfl, SqL.of hp, int1, _, _, rfl, rfl, .inl ⟨by omega, by omega⟩, _, _, rfl, rfl, _, rfl, _, _, rfl, rfl, (by show (0 : Int) < 2147483647; decide), ?_⟩
      obtain ⟨z, hz, hz0, hz1⟩ : ∃ z : Int, (y * 39373 + 7) % 2147483647 = z ∧ 0 ≤ z ∧ z < 2147483647 := ⟨_, rfl, Int.emod_nonneg _ (by decide), Int.emod_lt_of_pos _ (by decide)⟩
      refine ⟨_, rfl, p, _, _, _, rfl, rfl, hp, rfl, ?_⟩
      dsimp only
      rw [hz]
      have h1 : (upd H p (.lst [.int x, .int z])) p = some (.lst [.int x, .int z]) := upd_same
      refine ⟨_, rfl, p, _, _, _, rfl, rfl, SqL.of h1, int1, _, rfl, p, _, _, _, rfl, rfl, SqL.of h1, int1, _, _, rfl, rfl, .inl ⟨by omega, by omega⟩, _, rfl, _, _, rfl, rfl, (by show (0 : Int) < 2147483629; decide), _, _, rfl, rfl, ⟨by decide, by decide⟩, _, rfl, _, rfl, _, _, rfl, rfl, ht0, ?_⟩
      exact q _ _ (Int.emod_nonneg _ (by omega)) (Int.emod_lt_of_pos _ ht0) Rl.upd ⟨x, z, hx, hz0, hz1, h1⟩

def mPool : Pm := fun as k _ => ∃ (ns : List Int) (k0 : Int), as = [.lst (ns.map .int), .dat (.int k0)] ∧ ns.length ≤ 63 ∧ 0 ≤ k0 ∧ k0 ≤ 1000 ∧ ∀ x y : Int, 0 ≤ x → 0 ≤ y → y < 2147483647 → k (.new [.int x, .int y])
theorem pool_imp {vs : List V} {H : Hp} {Q : VK} {E : XK} (h : spD K Ts Tl mPool vs H Q E) : spPool K vs H Q E := by
  obtain ⟨M, pl, as, k, x, haz, hp, hM, tb, o, ⟨ns, k0, rfl, hl, h0, h1, q⟩, hk, hx⟩ := h
  cases haz with
  | cons a1 haz =>
    cases haz with
    | cons a2 haz =>
      cases haz
      obtain ⟨a, us, rfl, hL, hd⟩ := a1
      have eu : us = ns.map V.int := Das.intsV hd
      subst eu
      have a2 : Da K M H _ (.int k0) := a2
      cases a2
      have hS : SqL K H a (ns.map V.int) := hL.elim (fun z => .inl z.1) fun z => z H
      refine ⟨a, ns, k0, rfl, hS, hl, h0, h1, fun H' p sm hn hP => ?_⟩
      obtain ⟨xx, yy, b1, b2, b3, e⟩ := hP
      exact hk _ (q xx yy b1 b2 b3) _ _ ⟨fun b o e _ _ => sm b o e, fun b h => by
        cases z : H b with
        | none => exact absurd z h
        | some o =>
          rw [sm b o z]
          nofun⟩ (fun p' z => (hp p' z).1.same sm) (tb.same sm) ⟨p, _, rfl, hn, e, .cons (.int _) (.cons (.int _) .nil)⟩
def mTake : Pm := fun as k _ => ∃ top : Int, as = [.pool, .dat (.int top)] ∧ 0 < top ∧ top < 1073741824 ∧ ∀ d : Int, 0 ≤ d → d < top → k (.v (.int d))
theorem take_imp {vs : List V} {H : Hp} {Q : VK} {E : XK} (h : spD K Ts Tl mTake vs H Q E) : spTake vs H Q E := by
  obtain ⟨M, pl, as, k, x, haz, hp, hM, tb, o, ⟨top, rfl, h0, h1, q⟩, hk, hx⟩ := h
  cases haz with
  | cons a1 haz =>
    cases haz with
    | cons a2 haz =>
      cases haz
      obtain ⟨a, rfl, z⟩ := a1
      have a2 : Da K M H _ (.int top) := a2
      cases a2
      refine ⟨a, top, rfl, (hp a z).1, h0, h1, fun d H' d0 d1 rl hP => ?_⟩
      refine hk _ (q d d0 d1) _ _ ⟨fun b o e _ n => rl b o (fun w => n (w ▸ z)) e, fun b h => ?_⟩ (fun p' z' => ?_) (tb.rl rl (hp a z).1) (.int _)
      · by_cases w : b = a
        · obtain ⟨xx, yy, _, _, _, e⟩ := hP
          rw [w, e]
          nofun
        · cases y : H b with
          | none => exact absurd y h
          | some o =>
            rw [rl b o w y]
            nofun
      · by_cases w : p' = a
        · rw [w]
          exact hP
        · obtain ⟨xx, yy, b1, b2, b3, e⟩ := (hp p' z').1
          exact ⟨xx, yy, b1, b2, b3, rl _ _ w e⟩
theorem ok_poolD {f : Addr} {fd : FuncData} {n : Nat} (F : Fun K "_law_pool" "_law_pool" s_law_pool f fd) (T : Tx mg) : FnOk P w K mg base CX0 (n + 1) f fd ["script", "k"] (spD K Ts Tl mPool) := (ok_pool F T).imp fun _ _ _ _ h => pool_imp h
theorem ok_takeD {f : Addr} {fd : FuncData} {n : Nat} (F : Fun K "_law_take" "_law_take" s_law_take f fd) (T : Tx mg) : FnOk P w K mg base CX0 (n + 1) f fd ["source", "top"] (spD K Ts Tl mTake) := (ok_take F T).imp fun _ _ _ _ h => take_imp h
theorem ok_law_pool {f : Addr} {fd : FuncData} (F : Fun K "_law_pool" "_law_pool" s_law_pool f fd) (T : Tx mg) : FnOk P w K mg base CX0 1 f fd ["script", "k"] (spD K Ts Tl mPool) := ok_poolD F T
theorem ok_law_take {f : Addr} {fd : FuncData} (F : Fun K "_law_take" "_law_take" s_law_take f fd) (T : Tx mg) : FnOk P w K mg base CX0 1 f fd ["source", "top"] (spD K Ts Tl mTake) := ok_takeD F T
end
end KK
namespace KK
open PySem L2 LW GX LD DL SH K00
section
variable {P : Program} {w : World} {K : PySem.W.Frag} {mg : Str → Option Value} {base : Heap} {Ts : List Addr} {Tl : List (Addr × Str)}
theorem two_map {α : Type} {f : α → PyData} {p : α → Prop} {ds ys : List PyData} (h : Two (fun _ y => ∃ a, y = f a ∧ p a) ds ys) : ∃ as : List α, ys = as.map f ∧ as.length = ds.length ∧ ∀ a ∈ as, p a := by
  induction h with
  | nil => exact ⟨[], rfl, rfl, nofun⟩
  | cons h _ ih =>
    obtain ⟨a, rfl, ha⟩ := h
    obtain ⟨as, rfl, hl, hp⟩ := ih
    exact ⟨a :: as, rfl, congrArg Nat.succ hl, fun b hb => (List.mem_cons.mp hb).elim (fun e => e ▸ ha) (hp b)⟩
def mOne : Pm := fun as k _ => ∃ ds, as = [.pool, .lst ds] ∧ 0 < ds.length ∧ ds.length < 1000000 ∧ ∀ d ∈ ds, k (.v d)
theorem ok_law_one {f : Addr} {fd : FuncData} (F : Fun K "_law_one" "_law_one" s_law_one f fd) (T : Tx mg)
    (d_law_take : Dk P w K mg base 1 "_law_take" ["source", "top"] (spD K Ts Tl mTake)) :
    FnOk P w K mg base CX0 2 f fd ["source", "things"] (spD K Ts Tl mOne) := by
  refine F.ok sc_law_one (fun vs H Q E h => len_of h fun as k x ⟨_, e, _⟩ => leneq e rfl) (fun cdv A outer s H vs Q E hr h => ?_)
  refine ⟨_, /- slots 0:source 1:things -/
      (pss_one (ps_ret (pe_ix ix_list (pv 1) (pe_dk d_law_take (hr.mono (by decide)) (by rfl) (pa_cons (pv 0) (pa_cons (pe_callB call_lenL (by rfl) T.m_len (by decide +kernel) (pa_cons (pv 1) pa_nil)) pa_nil))) (fun _ _ => rfl)))), ?_⟩
  refine enter h (fun H0 M0 pl x pl0 hx => 
      (rs_ret (re_op od_ixL re_var (re_call rfl rfl rfl (ra_cons re_var (ra_cons (re_cb cd_lenL (ra_cons re_var ra_nil)) ra_nil)))))) ?_ (fun as k x ⟨_, e, _⟩ => lenle e rfl)
  rintro _ k x ⟨ds, rfl, h0, h1, q⟩
  repeat refine ⟨_, rfl, ?_⟩
  refine ⟨rfl, _, fun _ h => h, _, rfl, by omega, by omega, fun d d0 d1 => ?_⟩
  obtain ⟨j, rfl⟩ : ∃ j : Nat, d = j := ⟨d.toNat, by omega⟩
  repeat refine ⟨_, rfl, ?_⟩
  have hj : j < ds.length := by omega
  exact ⟨ds[j], atI_n (List.getElem?_eq_getElem hj), _, rfl, q _ (List.getElem_mem hj)⟩
def mMixed : Pm := fun as k _ => ∃ ds, as = [.pool, .lst ds] ∧ ds.length ≤ 1000 ∧ ∀ ys : List PyData, ys.Perm ds → k (.new ys)
theorem perm_erase {fs es ds : List PyData} {n : Nat} {y : PyData} (h : (fs ++ es).Perm ds) (e : es[n]? = some y) : ((fs ++ [y]) ++ es.eraseIdx n).Perm ds := by
  refine List.Perm.trans ?_ h
  rw [List.append_assoc]
  refine List.Perm.append_left fs ?_
  obtain ⟨hn, rfl⟩ := List.getElem?_eq_some_iff.mp e
  rw [List.eraseIdx_eq_take_drop_succ]
  have : (es[n] :: (es.take n ++ es.drop (n + 1))).Perm (es.take n ++ es[n] :: es.drop (n + 1)) := List.perm_middle.symm
  rw [← List.drop_eq_getElem_cons hn, List.take_append_drop] at this
  exact this
theorem ok_law_mixed {f : Addr} {fd : FuncData} (F : Fun K "_law_mixed" "_law_mixed" s_law_mixed f fd) (T : Tx mg)
    (d_law_take : Dk P w K mg base 1 "_law_take" ["source", "top"] (spD K Ts Tl mTake)) :
    FnOk P w K mg base CX0 2 f fd ["source", "things"] (spD K Ts Tl mMixed) := by
  refine F.ok sc_law_mixed (fun vs H Q E h => len_of h fun as k x ⟨_, e, _⟩ => leneq e rfl) (fun cdv A outer s H vs Q E hr h => ?_)
  refine ⟨_, /- slots 0:source 1:things 2:left 3:found 4:turn -/
      (pss_cons (ps_par (i := 2) (j := 3) (by rfl) sc_law_mixed.nd rfl rfl (by decide) (by rfl) (by rfl) (pa_cons (pe_callTy call_list_of (by rfl) T.m_list (by decide +kernel) (pa_cons (pv 1) pa_nil)) (pa_cons (pe_lst pa_nil) pa_nil)) (by rfl)) -- left, found = (list(things), [])
      (pss_cons (ps_for PassesOwn.never rfl (pi_range1 (by rfl) T.m_range (pa_cons (pe_callB call_lenL (by rfl) T.m_len (by decide +kernel) (pa_cons (pv 1) pa_nil)) pa_nil)) (pg_name (i := 4) sc_law_mixed.nd rfl (by first | exact Or.inl rfl | exact Or.inr rfl))
        (pss_one (ps_expr (pe_bm PySem.F.plainAttrs_list PySem.F.slot_list_append PySem.F.type_list_append mt_append (pv 3) (pa_cons (pe_bm PySem.F.plainAttrs_list PySem.F.slot_list_pop PySem.F.type_list_pop mt_popAt (pv 2) (pa_cons (pe_dk d_law_take (hr.mono (by decide)) (by rfl) (pa_cons (pv 0) (pa_cons (pe_callB call_lenL (by rfl) T.m_len (by decide +kernel) (pa_cons (pv 2) pa_nil)) pa_nil))) pa_nil)) pa_nil))))) -- for turn in range(len(things)):
      (pss_one (ps_ret (pv 3))))), ?_⟩
  refine enter h (fun H0 M0 pl x pl0 hx => 
      (rs_seq (rs_parL (re_cb cd_lstOf (ra_cons re_var ra_nil)) (re_lst ra_nil))
      (rs_seq (rs_for (rj_r1 (ra_cons (re_cb cd_lenL (ra_cons re_var ra_nil)) ra_nil)) rg_name
        (rs_appPop (re_call rfl rfl rfl (ra_cons re_var (ra_cons (re_cb cd_lenL (ra_cons re_var ra_nil)) ra_nil)))))
      (rs_ret re_var)))) ?_ (fun as k x ⟨_, e, _⟩ => lenle e rfl)
  rintro _ k x ⟨ds, rfl, hl, q⟩
  repeat refine ⟨_, rfl, ?_⟩
  refine ⟨ds, .inl rfl, _, rfl, _, rfl, by decide, .own [], rfl, ?_⟩
  repeat refine ⟨_, rfl, ?_⟩
  refine ⟨by omega, by omega, fun i env => ∃ es fs o, env = [some .pool, some (.bor ds), some (.own es), some (.own fs), o] ∧ (fs ++ es).Perm ds ∧ i + es.length = ds.length, ⟨ds, [], none, rfl, .refl _, Nat.zero_add _⟩, ?_, ?_⟩
  · rintro i y _ hy ⟨es, fs, o, rfl, hp, he⟩
    have hi : i < ds.length := by
      have := (List.getElem?_eq_some_iff.mp hy).1
      rw [ints_len] at this
      omega
    have hfl := hp.length_eq
    rw [List.length_append] at hfl
    refine ⟨_, rfl, by decide, _, rfl, _, rfl, ?_⟩
    repeat refine ⟨_, rfl, ?_⟩
    refine ⟨rfl, _, fun _ h => h, _, rfl, by omega, by omega, fun d d0 d1 => ?_⟩
    obtain ⟨j, rfl⟩ : ∃ j : Nat, d = j := ⟨d.toNat, by omega⟩
    have hj : j < es.length := by omega
    refine ⟨_, rfl, j, rfl, by omega, es[j], List.getElem?_eq_getElem hj, by rw [sizeLine_eq]; omega, ?_⟩
    exact ⟨_, _, _, rfl, perm_erase hp (List.getElem?_eq_getElem hj), by rw [List.length_eraseIdx_of_lt hj]; omega⟩
  · rintro _ ⟨es, fs, o, rfl, hp, he⟩
    rw [ints_len] at he
    have he : es = [] := List.eq_nil_of_length_eq_zero (by omega)
    rw [he, List.append_nil] at hp
    repeat refine ⟨_, rfl, ?_⟩
    exact q _ hp
def mSome : Pm := fun as k _ => ∃ ds, as = [.pool, .lst ds] ∧ ds.length ≤ 1000 ∧ ∀ ys : List PyData, ys.Sublist ds → k (.new ys)
def mCellD : Pm := fun as k _ => ∃ g wd n rows e, as = [.pool, .dat (shP g wd n rows e)] ∧ Good g wd n rows e ∧ ∀ r : List Int, (r.length : Int) = wd → (∀ y ∈ r, 0 ≤ y ∧ y < g) → k (.v (rowP r))
def mDataD : Pm := fun as k _ => ∃ g wd n rows e, as = [.pool, .dat (shP g wd n rows e)] ∧ Good g wd n rows e ∧ ∀ cs, GoodD g wd n cs → k (.v (datP cs))
end
end KK
set_option maxHeartbeats 4000000
namespace KK
open PySem L2 LW GX LD DL SH K00 LA
section
variable {P : Program} {w : World} {K : PySem.W.Frag} {mg : Str → Option Value} {base : Heap} {Ts : List Addr} {Tl : List (Addr × Str)}
def m_inverse : Pm := fun as k _ => ∃ a p, as = [.dat (.int a), .dat (.int p)] ∧ isP p = true ∧ p ≤ 65521 ∧ ¬ p ∣ a ∧ k (.v (.int (invF a p)))
theorem ok_inverse {f : Addr} {fd : FuncData} (F : Fun K "inverse" "inverse" s_inverse f fd) (T : Tx mg) :
    FnOk P w K mg base CX0 1 f fd ["a", "p"] (spD K Ts Tl m_inverse) := by
  refine F.ok sc_inverse (fun vs H Q E h => len_of h fun as k x ⟨_, _, e, _⟩ => leneq e rfl) (fun cdv A outer s H vs Q E hr h => ?_)
  refine ⟨_, /- slots 0:a 1:p 2:rest 3:next_rest 4:factor 5:next_factor 6:often -/
      (pss_cons (ps_par (i := 2) (j := 3) (by rfl) sc_inverse.nd rfl rfl (by decide) (by rfl) (by rfl) (pa_cons (pv 1) (pa_cons (pe_op op_mod (pv 0) (pv 1)) pa_nil)) (by rfl)) -- rest, next_rest = (p, a % p)
      (pss_cons (ps_asg (pe_tup (pa_cons pe_int (pa_cons pe_int pa_nil))) (pg_tup (by rfl) (pgs_cons (pg_name (i := 4) sc_inverse.nd rfl (by first | exact Or.inl rfl | exact Or.inr rfl)) (pgs_cons (pg_name (i := 5) sc_inverse.nd rfl (by first | exact Or.inl rfl | exact Or.inr rfl)) pgs_nil)))) -- factor, next_factor = (0, 1)
      (pss_cons (ps_while PassesOwn.never (pt_cmpR op_ne (pv 3) pe_int (nomark _))
        (pss_cons (ps_set (i := 6) sc_inverse.nd rfl (by first | exact Or.inl rfl | exact Or.inr rfl) (pe_op op_fdiv (pv 2) (pv 3))) -- often = rest // next_rest
        (pss_cons (ps_par (i := 2) (j := 3) (by rfl) sc_inverse.nd rfl rfl (by decide) (by rfl) (by rfl) (pa_cons (pv 3) (pa_cons (pe_op op_sub (pv 2) (pe_op op_mul (pv 6) (pv 3))) pa_nil)) (by rfl)) -- rest, next_rest = (next_rest, rest - often * next_rest)
        (pss_one (ps_par (i := 4) (j := 5) (by rfl) sc_inverse.nd rfl rfl (by decide) (by rfl) (by rfl) (pa_cons (pv 5) (pa_cons (pe_op op_sub (pv 4) (pe_op op_mul (pv 6) (pv 5))) pa_nil)) (by rfl)))))) -- while next_rest != 0:
      (pss_one (ps_ret (pe_op op_mod (pv 4) (pv 1))))))), ?_⟩
  refine enter h (fun H0 M0 pl x pl0 hx => 
      (rs_seq (rs_par (ra_cons re_var (ra_cons (re_op od_mod re_var re_var) ra_nil)))
      (rs_seq (rs_asg (re_tup (ra_cons re_int (ra_cons re_int ra_nil))) (rg_tup (rgs_cons rg_name (rgs_cons rg_name rgs_nil))))
      (rs_seq (rs_while (rt_test (re_op od_ne re_var re_int))
        (rs_seq (rs_set (re_op od_fdiv re_var re_var))
        (rs_seq (rs_par (ra_cons re_var (ra_cons (re_op od_sub re_var (re_op od_mul re_var re_var)) ra_nil)))
        (rs_par (ra_cons re_var (ra_cons (re_op od_sub re_var (re_op od_mul re_var re_var)) ra_nil))))))
      (rs_ret (re_op od_mod re_var re_var)))))) ?_ (fun as k x ⟨_, _, e, _⟩ => lenle e rfl)
  rintro _ k x ⟨a, p, rfl, hP, hp, ha, q⟩
  have p2 := isP_ge hP
  have h0 := Int.emod_nonneg a (show p ≠ 0 by omega)
  have h1 := Int.emod_lt_of_pos a (show 0 < p by omega)
  have h3 : a % p ≠ 0 := fun z => ha (Int.dvd_of_emod_eq_zero z)
  repeat refine ⟨_, rfl, ?_⟩
  refine ⟨by show 0 < p; omega, ?_⟩
  repeat refine ⟨_, rfl, ?_⟩
  refine ⟨_, _, _, _, rfl, rfl, rfl, ?_⟩
  repeat refine ⟨_, rfl, ?_⟩
  refine ⟨by show 2 ≤ sizeLine; decide, ?_⟩
  repeat refine ⟨_, rfl, ?_⟩
  refine ⟨fun m env => ∃ rest next factor nf : Int, ∃ o_often, env = [some (.dat (.int a)), some (.dat (.int p)), some (.dat (.int rest)), some (.dat (.int next)), some (.dat (.int factor)), some (.dat (.int nf)), o_often] ∧ 0 ≤ next ∧ next < rest ∧ rest ≤ p ∧ next.toNat = m ∧ p ∣ rest - factor * a ∧ p ∣ next - nf * a ∧ ∃ u v, u * rest + v * next = 1, ⟨_, p, a % p, 0, 1, _, rfl, h0, h1, Int.le_refl _, rfl, ⟨1, by omega⟩, by have := Int.dvd_neg.mpr (md_dvd (p := p) (x := a)); rw [Int.neg_sub] at this; rw [Int.one_mul]; exact this, cop_of hP hp (by omega) h1⟩, ?_⟩
  rintro m _ ⟨rest, next, factor, nf, o_often, rfl, n0, n1, rp, rfl, d1, d2, u, v, huv⟩
  repeat refine ⟨_, rfl, ?_⟩
  refine .inl ⟨_, rfl, _, rfl, _, rfl, ?_⟩
  refine iteB (fun hz => ?_) (fun hz => ?_)
  · have hz : (!decide (next = 0)) = true := hz
    rw [Bool.not_eq_true', decide_eq_false_iff_not] at hz
    repeat refine ⟨_, rfl, ?_⟩
    have nx0 := Int.emod_nonneg rest hz
    have nx1 := Int.emod_lt_of_pos rest (show 0 < next by omega)
    have nxe : rest - rest / next * next = rest % next := by
      have := Int.mul_ediv_add_emod rest next
      have e : next * (rest / next) = rest / next * next := Int.mul_comm _ _
      omega
    have ob : 0 ≤ rest / next ∧ rest / next ≤ rest := ⟨Int.ediv_nonneg (by omega) n0, Int.ediv_le_self _ (by omega)⟩
    refine ⟨⟨by omega, by omega⟩, ?_⟩
    repeat refine ⟨_, rfl, ?_⟩
    refine ⟨.inl ⟨by omega, by omega⟩, ?_⟩
    repeat refine ⟨_, rfl, ?_⟩
    refine ⟨_, _, _, _, rfl, rfl, rfl, ?_⟩
    repeat refine ⟨_, rfl, ?_⟩
    refine ⟨.inl ⟨by omega, by omega⟩, ?_⟩
    repeat refine ⟨_, rfl, ?_⟩
    refine ⟨_, _, _, _, rfl, rfl, rfl, ?_⟩
    refine ⟨(rest % next).toNat, by omega, next, rest % next, nf, factor - rest / next * nf, _, by rw [← nxe]; rfl, nx0, nx1, by omega, rfl, d2, ?_, v + u * (rest / next), u, ?_⟩
    · rw [← nxe]
      obtain ⟨k1, h1⟩ := d1
      obtain ⟨k2, h2⟩ := d2
      exact ⟨k1 - rest / next * k2, by grind⟩
    · rw [← nxe]
      grind
  · have hz : (!decide (next = 0)) = false := hz
    rw [Bool.not_eq_false', decide_eq_true_eq] at hz
    repeat refine ⟨_, rfl, ?_⟩
    have r1 : rest = 1 := by
      rw [hz, Int.mul_zero, Int.add_zero] at huv
      have := Int.le_of_dvd (by decide) (show rest ∣ 1 from ⟨u, by rw [Int.mul_comm]; exact huv.symm⟩)
      omega
    have e : factor % p = invF a p := invF_uniq hP hp (md p2 _).1 (md p2 _).2 (by
      rw [r1] at d1
      obtain ⟨k1, h1⟩ := d1
      obtain ⟨k2, h2⟩ := md_dvd (p := p) (x := factor)
      exact ⟨- k1 - a * k2, by grind⟩)
    have q' : k (.v (.int (factor % p))) := by
      rw [e]
      exact q
    exact ⟨by show 0 < p; omega, _, rfl, q'⟩
def m_combined : Pm := fun as k _ => ∃ (xs ys : List Int) (f p : Int), as = [.dat (rowP xs), .dat (.int f), .dat (rowP ys), .dat (.int p)] ∧ 0 < p ∧ (-(2 ^ 64) < f ∧ f < 2 ^ 64) ∧ xs.length < 1000 ∧ k (.v (rowP (combV p f xs ys)))
theorem ok_combined {f : Addr} {fd : FuncData} (F : Fun K "combined" "combined" s_combined f fd) (T : Tx mg) :
    FnOk P w K mg base CX0 1 f fd ["row", "factor", "other", "p"] (spD K Ts Tl m_combined) := by
  refine F.ok sc_combined (fun vs H Q E h => len_of h fun as k x ⟨_, _, _, _, e, _⟩ => leneq e rfl) (fun cdv A outer s H vs Q E hr h => ?_)
  refine ⟨_, /- slots 0:row 1:factor 2:other 3:p 4:number 5:added -/
      (pss_one (ps_ret (pe_callTy call_tuple_of (by rfl) T.m_tuple (by decide +kernel) (pa_cons (pe_lc (own := [("number", 4), ("added", 5)]) (g := (gTup K 2 (gCons (gName 4) (gCons (gName 5) gNil)))) (tt := tYes) (by rfl) sc_combined.nd (RZ.pi_zipA (by rfl) T.m_zip (pa_cons (pv 0) (pa_cons (pv 2) pa_nil))) (blkOk_by (own := [("number", 4), ("added", 5)]) (N := n_combined) (sc := defScope s_combined) (by decide +kernel)) (fun _ _ _ _ _ => (pg_tup (by rfl) (pgs_cons (pg_name (i := 4) sc_combined.nd rfl (by first | exact Or.inl rfl | exact Or.inr rfl)) (pgs_cons (pg_name (i := 5) sc_combined.nd rfl (by first | exact Or.inl rfl | exact Or.inr rfl)) pgs_nil)))) (fun _ _ _ _ _ => pts_nil) (fun _ _ _ _ _ => (pe_op op_mod (pe_op op_add (pv 4) (pe_op op_mul (pv 1) (pv 5))) (pv 3)))) pa_nil)))), ?_⟩
  refine enter h (fun H0 M0 pl x pl0 hx => 
      (rs_ret (re_cb cd_tupOf (ra_cons (re_lc (ri_zip (ra_cons re_var (ra_cons re_var ra_nil))) (rg_tup (rgs_cons rg_name (rgs_cons rg_name rgs_nil))) (by decide) rt_yes (re_op od_mod (re_op od_add re_var (re_op od_mul re_var re_var)) re_var)) ra_nil)))) ?_ (fun as k x ⟨_, _, _, _, e, _⟩ => lenle e rfl)
  rintro _ k x ⟨xs, ys, f, p, rfl, hp, hf, hz, q⟩
  refine ⟨_, rfl, _, rfl, _, _, rfl, ?_, comp_map (f := combG p f) (fun d hd => ?_) ⟨_, rfl, ?_⟩⟩
  · rw [pairsOf_len, List.length_map, sizeLine_eq]
    omega
  · obtain ⟨x, y, rfl, _, _⟩ := mem_pairs hd
    exact ⟨_, rfl, fun K hK => ⟨_, rfl, _, rfl, _, rfl, _, rfl, _, rfl, .inl hf, _, rfl, _, rfl, _, rfl, _, rfl, _, rfl, hp, hK _ rfl⟩⟩
  · rw [pairs_ints, map_comb]
    exact ⟨_, .inl rfl, _, rfl, q⟩
def m_unit : Pm := fun as k _ => ∃ (pl : Int) (n : Nat), as = [.dat (.int pl), .dat (.int (n : Nat))] ∧ n ≤ 100 ∧ k (.v (rowP (unitF pl n)))
theorem ok_unit {f c P1 : Addr} {fd : FuncData} (F : FunC K "unit" "unit" s_unit f fd (.ref c)) (T : Tx mg) (TB_unit : GxR.TabB base mg c P1) (hP_unit : P1 ∈ Ts) :
    FnOk P w K mg base CX0 4 f fd ["place", "size"] (spD K Ts Tl m_unit) := by
  refine F.okC sc_unit (fun vs H Q E h => len_of h fun as k x ⟨_, _, e, _⟩ => leneq e rfl) (fun A outer s H vs Q E hr h => ?_)
  refine ⟨_, /- slots 0:place 1:size 2:at -/
      (pss_one (ps_ret (pe_tupG (k := 1) (own := [("at", 2)]) (g := gName 2) (tt := tYes) (hr.mono (by decide)) rfl sc_unit.nd (by rfl) T.m_tuple (by decide +kernel) TB_unit rfl (pi_range1 (by rfl) T.m_range (pa_cons (pv 1) pa_nil)) (blkOk_by (own := [("at", 2)]) (N := n_unit) (sc := defScope s_unit) (by decide +kernel)) ⟨rfl, by decide +kernel, rfl⟩ (fun _ hr _ _ _ _ _ _ _ _ => (pg_name (i := 2) sc_unit.nd rfl (by first | exact Or.inl rfl | exact Or.inr rfl))) (fun _ hr _ _ _ _ _ _ _ _ => pts_nil) (fun _ hr _ _ _ _ _ _ _ _ => (pe_ifExp (pt_cmpR op_eq (pv 2) (pv 0) (nomark _)) pe_int pe_int))))), ?_⟩
  refine enter h (fun H0 M0 pl x pl0 hx => 
      (rs_ret (re_tupG hP_unit (ri_r1 (ra_cons re_var ra_nil)) rg_name (by decide) rt_yes (re_ifE (rt_test (re_op od_eq re_var re_var)) re_int re_int)))) ?_ (fun as k x ⟨_, _, e, _⟩ => lenle e rfl)
  rintro _ k x ⟨pl, n, rfl, hn, q⟩
  repeat refine ⟨_, rfl, ?_⟩
  refine ⟨by omega, by omega, by rw [ints_len, sizeLine_eq]; omega, comp_map (f := fun d => match d with | .int j => .int (if j = pl then 1 else 0) | _ => .none) (fun d hd => ⟨_, rfl, fun K hK => ?_⟩) ?_⟩
  · obtain ⟨i, hi, rfl⟩ := ints_mem hd
    repeat refine ⟨_, rfl, ?_⟩
    refine .inl ⟨_, rfl, _, rfl, _, rfl, ?_⟩
    dsimp only at hK
    refine iteD (fun z => ?_) (fun z => ?_)
    · rw [if_pos z] at hK
      exact hK _ rfl
    · rw [if_neg z] at hK
      exact hK _ rfl
  · have e : [] ++ (DL.intsFrom 0 ((n : Int)).toNat).map (fun d => match d with | .int j => PyData.int (if j = pl then 1 else 0) | _ => .none) = (unitF pl n).map PyData.int := by
      rw [List.nil_append, DL.intsFrom, List.map_map, unitF, List.map_map, Int.toNat_natCast]
      refine List.map_congr_left fun i _ => ?_
      show PyData.int (if (0 : Int) + (i : Nat) = pl then 1 else 0) = PyData.int (if ((i : Nat) : Int) = pl then 1 else 0)
      rw [Int.zero_add]
    rw [e]
    exact ⟨_, rfl, q⟩
def m_with_marks : Pm := fun as k _ => ∃ cs a, as = [a] ∧ (a = .lst (cs.map rowP) ∨ a = .dat (datP cs)) ∧ cs.length ≤ 100 ∧ (∀ c ∈ cs, c.length ≤ 100) ∧ k (.new ((marksF cs).map rowP))
theorem marks_step {cs : List (List Int)} {d : PyData} (hd : d ∈ pairsOf (DL.intsFrom 0 (cs.map rowP).length) (cs.map rowP)) : ∃ i : Nat, i < cs.length ∧ d = .tuple [.int (i : Nat), rowP (cs.getD i [])] := by
  obtain ⟨i, hi, rfl⟩ := enum_mem hd
  have hi : i < cs.length := by rw [List.length_map] at hi; exact hi
  rw [gd_map [] hi]
  exact ⟨i, hi, rfl⟩
theorem marks_all (cs : List (List Int)) : [] ++ (pairsOf (DL.intsFrom 0 (cs.map rowP).length) (cs.map rowP)).map (fun d => match d with | .tuple [.int i, .tuple ds] => PyData.tuple (ds ++ (unitF i cs.length).map .int) | _ => .none) = (marksF cs).map rowP := by
  rw [List.nil_append, enum_all, List.map_map, marksF, List.map_map, List.length_map]
  refine List.map_congr_left fun i hi => ?_
  have hi := List.mem_range.mp hi
  show (match PyData.tuple [PyData.int (i : Nat), (cs.map rowP).getD i .none] with | .tuple [.int i, .tuple ds] => PyData.tuple (ds ++ (unitF i cs.length).map .int) | _ => .none) = rowP (cs.getD i [] ++ unitF (i : Nat) cs.length)
  rw [gd_map [] hi]
  show PyData.tuple ((cs.getD i []).map PyData.int ++ (unitF (i : Nat) cs.length).map .int) = _
  rw [← List.map_append]
  rfl
theorem ok_with_marks {f : Addr} {fd : FuncData} (F : Fun K "with_marks" "with_marks" s_with_marks f fd) (T : Tx mg)
    (d_unit : Dk P w K mg base 4 "unit" ["place", "size"] (spD K Ts Tl m_unit)) :
    FnOk P w K mg base CX0 5 f fd ["matrix"] (spD K Ts Tl m_with_marks) := by
  refine F.ok sc_with_marks (fun vs H Q E h => len_of h fun as k x ⟨_, _, e, _⟩ => leneq e rfl) (fun cdv A outer s H vs Q E hr h => ?_)
  refine ⟨_, /- slots 0:matrix 1:size 2:place 3:row -/
      (pss_cons (ps_set (i := 1) sc_with_marks.nd rfl (by first | exact Or.inl rfl | exact Or.inr rfl) (pe_callB EB.call_lenB (by rfl) T.m_len (by decide +kernel) (pa_cons (pv 0) pa_nil))) -- size = len(matrix)
      (pss_one (ps_ret (pe_lc (own := [("place", 2), ("row", 3)]) (g := (gTup K 2 (gCons (gName 2) (gCons (gName 3) gNil)))) (tt := tYes) (by rfl) sc_with_marks.nd (EB.pi_enumB (by rfl) T.m_enumerate (pa_cons (pv 0) pa_nil)) (blkOk_by (own := [("place", 2), ("row", 3)]) (N := n_with_marks) (sc := defScope s_with_marks) (by decide +kernel)) (fun _ _ _ _ _ => (pg_tup (by rfl) (pgs_cons (pg_name (i := 2) sc_with_marks.nd rfl (by first | exact Or.inl rfl | exact Or.inr rfl)) (pgs_cons (pg_name (i := 3) sc_with_marks.nd rfl (by first | exact Or.inl rfl | exact Or.inr rfl)) pgs_nil)))) (fun _ _ _ _ _ => pts_nil) (fun _ _ _ _ _ => (pe_op (LD.op_catDK (K := K) rfl) (pv 3) (pe_dk d_unit (hr.mono (by decide)) (by rfl) (pa_cons (pv 2) (pa_cons (pv 1) pa_nil))))))))), ?_⟩
  refine enter h (fun H0 M0 pl x pl0 hx => 
      (rs_seq (rs_set (re_cb cd_lenB (ra_cons re_var ra_nil)))
      (rs_ret (re_lc (ri_enumB (ra_cons re_var ra_nil)) (rg_tup (rgs_cons rg_name (rgs_cons rg_name rgs_nil))) (by decide) rt_yes (re_op od_catT re_var (re_call rfl rfl rfl (ra_cons re_var (ra_cons re_var ra_nil)))))))) ?_ (fun as k x ⟨_, _, e, _⟩ => lenle e rfl)
  rintro _ k x ⟨cs, a, rfl, ha, hl, hc, q⟩
  rcases ha with rfl | rfl
  all_goals
    repeat (first | refine ⟨_, rfl, ?_⟩ | refine ⟨by rw [sizeLine_eq]; exact Nat.le_of_ble_eq_true rfl, ?_⟩ | refine ⟨_, .inl rfl, ?_⟩ | refine ⟨_, _, _, _, rfl, rfl, rfl, ?_⟩)
    refine ⟨by rw [pairsOf_len, ints_len, Nat.min_self, List.length_map, sizeLine_eq]; omega, comp_map (f := fun d => match d with | .tuple [.int i, .tuple ds] => .tuple (ds ++ (unitF i cs.length).map .int) | _ => .none) (fun d hd => ?_) ?_⟩
    · obtain ⟨i, hi, rfl⟩ := marks_step hd
      refine ⟨_, rfl, fun K hK => ?_⟩
      repeat refine ⟨_, rfl, ?_⟩
      refine ⟨rfl, _, fun _ h => h, (i : Nat), cs.length, by rw [List.length_map], by omega, ?_⟩
      repeat refine ⟨_, rfl, ?_⟩
      refine ⟨by rw [List.length_map, List.length_map, unitF, List.length_map, List.length_range, sizeLine_eq]; have := hc _ (gd_mem (d := []) hi); omega, hK _ rfl⟩
    · rw [marks_all]
      exact ⟨_, rfl, q⟩
def m_first_filled : Pm := fun as k _ => ∃ (p : Int) (s n : Nat) (rs : List (List Int)) (start place : Nat), as = [.lst (rs.map rowP), .dat (.int (start : Nat)), .dat (.int (place : Nat))] ∧ Rc p s n rs ∧ s ≤ 100 ∧ start ≤ s ∧ place < n ∧ k (.v (optN (ffF rs start place)))
theorem ok_first_filled {f : Addr} {fd : FuncData} (F : Fun K "first_filled" "first_filled" s_first_filled f fd) (T : Tx mg) :
    FnOk P w K mg base CX0 1 f fd ["rows", "start", "place"] (spD K Ts Tl m_first_filled) := by
  refine F.ok sc_first_filled (fun vs H Q E h => len_of h fun as k x ⟨_, _, _, _, _, _, e, _⟩ => leneq e rfl) (fun cdv A outer s H vs Q E hr h => ?_)
  refine ⟨_, /- slots 0:rows 1:start 2:place 3:index -/
      (pss_cons (ps_for PassesOwn.never rfl (pi_range2 (by rfl) T.m_range (pa_cons (pv 1) (pa_cons (pe_callB call_lenL (by rfl) T.m_len (by decide +kernel) (pa_cons (pv 0) pa_nil)) pa_nil))) (pg_name (i := 3) sc_first_filled.nd rfl (by first | exact Or.inl rfl | exact Or.inr rfl))
        (pss_one (ps_if (pt_cmpR op_ne (pe_ix ix_tup (pe_ix ix_list (pv 0) (pv 3) (fun _ _ => rfl)) (pv 2) (fun _ _ => rfl)) pe_int (nomark _))
          (pss_one (ps_ret (pv 3)))
          pss_nil))) -- for index in range(start, len(rows)):
      (pss_one (ps_ret pe_non))), ?_⟩
  refine enter h (fun H0 M0 pl x pl0 hx => 
      (rs_seq (rs_for (rj_r2 (ra_cons re_var (ra_cons (re_cb cd_lenL (ra_cons re_var ra_nil)) ra_nil))) rg_name
        (rs_if (rt_test (re_op od_ne (re_op od_ixT (re_op od_ixL re_var re_var) re_var) re_int))
          (rs_ret re_var)
          rs_next))
      (rs_ret re_non))) ?_ (fun as k x ⟨_, _, _, _, _, _, e, _⟩ => lenle e rfl)
  rintro _ k x ⟨p, s, n, rs, start, place, rfl, R, hs, h0, h1, q⟩
  have hl := R.len
  repeat refine ⟨_, rfl, ?_⟩
  refine ⟨_, _, rfl, ⟨by omega, by omega, by rw [List.length_map]; omega, by rw [List.length_map]; omega⟩, fun i env => ∃ o_index, env = [some (.bor (rs.map rowP)), some (.dat (.int (start : Nat))), some (.dat (.int (place : Nat))), o_index] ∧ ∀ j, start ≤ j → j < start + i → en rs j place = 0, ⟨_, rfl, fun j h1 h2 => by omega⟩, ?_, ?_⟩
  · rintro i z env hi ⟨o_index, rfl, hno⟩
    have hi2 : i < s - start := by
      have := (List.getElem?_eq_some_iff.mp hi).1
      unfold DL.intsFrom at this
      rw [List.length_map, List.length_range, List.length_map] at this
      omega
    obtain rfl : z = .int ((start + i : Nat) : Int) := by
      unfold DL.intsFrom at hi
      rw [List.getElem?_map, List.getElem?_range (by rw [List.length_map]; omega)] at hi
      cases hi
      rfl
    repeat refine ⟨_, rfl, ?_⟩
    refine ⟨_, at_rows (by omega) (by omega), ?_⟩
    rw [Int.toNat_natCast]
    repeat refine ⟨_, rfl, ?_⟩
    refine ⟨_, at_row (by omega) (by rw [R.rl (by omega)]; omega), ?_⟩
    rw [Int.toNat_natCast]
    refine .inl ⟨_, rfl, _, rfl, _, rfl, ?_⟩
    refine iteB (fun hz => ?_) (fun hz => ?_)
    · have hz : (!decide (en rs (start + i) place = 0)) = true := hz
      rw [Bool.not_eq_true', decide_eq_false_iff_not] at hz
      have : ffF rs start place = some (start + i) := by
        unfold ffF
        rw [List.find?_eq_some_iff_getElem]
        refine ⟨by rw [decide_eq_true (show start ≤ start + i by omega), decide_eq_true hz]; rfl, start + i, by rw [List.length_range, hl]; omega, by rw [List.getElem_range], fun j hj => ?_⟩
        rw [List.getElem_range]
        by_cases e : start ≤ j
        · rw [hno j e hj, decide_eq_false (show ¬ ((0 : Int) ≠ 0) by omega), Bool.and_false]
          rfl
        · rw [decide_eq_false e, Bool.false_and]
          rfl
      rw [this] at q
      repeat refine ⟨_, rfl, ?_⟩
      exact q
    · have hz : (!decide (en rs (start + i) place = 0)) = false := hz
      rw [Bool.not_eq_false', decide_eq_true_eq] at hz
      refine ⟨_, rfl, fun j h1 h2 => ?_⟩
      by_cases e : j = start + i
      · rw [e]
        exact hz
      · exact hno j h1 (by omega)
  · rintro env ⟨o_index, rfl, hno⟩
    have : ffF rs start place = none := by
      unfold ffF
      rw [List.find?_eq_none]
      intro j hj
      have hj := List.mem_range.mp hj
      have el : (DL.intsFrom (start : Int) (((rs.map rowP).length : Int) - (start : Int)).toNat).length = s - start := by
        unfold DL.intsFrom
        rw [List.length_map, List.length_range, List.length_map]
        omega
      rw [el] at hno
      by_cases e : start ≤ j
      · rw [hno j e (by omega), decide_eq_false (show ¬ ((0 : Int) ≠ 0) by omega), Bool.and_false]
        nofun
      · rw [decide_eq_false e, Bool.false_and]
        nofun
    rw [this] at q
    exact ⟨_, rfl, q⟩
def m_cleared : Pm := fun as k _ => ∃ (p : Int) (s n : Nat) (rs : List (List Int)) (top place : Nat), as = [.lst (rs.map rowP), .dat (.int (top : Nat)), .dat (.int (place : Nat)), .dat (.int p)] ∧ isP p = true ∧ p ≤ 65521 ∧ Rc p s n rs ∧ s ≤ 100 ∧ n ≤ 100 ∧ top < s ∧ place < n ∧ en rs top place ≠ 0 ∧ k (.new ((clF p rs top place).map rowP))
theorem ok_cleared {f c P1 : Addr} {fd : FuncData} (F : FunC K "cleared" "cleared" s_cleared f fd (.ref c)) (T : Tx mg) (TB_cleared : GxR.TabB base mg c P1) (hP_cleared : P1 ∈ Ts)
    (d_inverse : Dk P w K mg base 1 "inverse" ["a", "p"] (spD K Ts Tl m_inverse))
    (d_combined : Dk P w K mg base 1 "combined" ["row", "factor", "other", "p"] (spD K Ts Tl m_combined)) :
    FnOk P w K mg base CX0 4 f fd ["rows", "top", "place", "p"] (spD K Ts Tl m_cleared) := by
  refine F.okC sc_cleared (fun vs H Q E h => len_of h fun as k x ⟨_, _, _, _, _, _, e, _⟩ => leneq e rfl) (fun A outer s H vs Q E hr h => ?_)
  refine ⟨_, /- slots 0:rows 1:top 2:place 3:p 4:factor 5:lead 6:number 7:index 8:row -/
      (pss_cons (ps_set (i := 4) sc_cleared.nd rfl (by first | exact Or.inl rfl | exact Or.inr rfl) (pe_dk d_inverse (hr.mono (by decide)) (by rfl) (pa_cons (pe_ix ix_tup (pe_ix ix_list (pv 0) (pv 1) (fun _ _ => rfl)) (pv 2) (fun _ _ => rfl)) (pa_cons (pv 3) pa_nil)))) -- factor = inverse(rows[top][place], p)
      (pss_cons (ps_set (i := 5) sc_cleared.nd rfl (by first | exact Or.inl rfl | exact Or.inr rfl) (pe_tupG (k := 1) (own := [("number", 6)]) (g := gName 6) (tt := tYes) (hr.mono (by decide)) rfl sc_cleared.nd (by rfl) T.m_tuple (by decide +kernel) TB_cleared rfl (pi_tup (pe_ix ix_list (pv 0) (pv 1) (fun _ _ => rfl))) (blkOk_by (own := [("number", 6)]) (N := n_cleared) (sc := defScope s_cleared) (by decide +kernel)) ⟨rfl, by decide +kernel, rfl⟩ (fun _ hr _ _ _ _ _ _ _ _ => (pg_name (i := 6) sc_cleared.nd rfl (by first | exact Or.inl rfl | exact Or.inr rfl))) (fun _ hr _ _ _ _ _ _ _ _ => pts_nil) (fun _ hr _ _ _ _ _ _ _ _ => (pe_op op_mod (pe_op op_mul (pv 4) (pv 6)) (pv 3))))) -- lead = tuple((factor * number % p for number in rows[top]))
      (pss_one (ps_ret (pe_lc (own := [("index", 7), ("row", 8)]) (g := (gTup K 2 (gCons (gName 7) (gCons (gName 8) gNil)))) (tt := tYes) (by rfl) sc_cleared.nd (pi_enum (by rfl) T.m_enumerate (pa_cons (pv 0) pa_nil)) (blkOk_by (own := [("index", 7), ("row", 8)]) (N := n_cleared) (sc := defScope s_cleared) (by decide +kernel)) (fun _ _ _ _ _ => (pg_tup (by rfl) (pgs_cons (pg_name (i := 7) sc_cleared.nd rfl (by first | exact Or.inl rfl | exact Or.inr rfl)) (pgs_cons (pg_name (i := 8) sc_cleared.nd rfl (by first | exact Or.inl rfl | exact Or.inr rfl)) pgs_nil)))) (fun _ _ _ _ _ => pts_nil) (fun _ _ _ _ _ => (pe_ifExp (pt_cmpR op_eq (pv 7) (pv 1) (nomark _)) (pv 5) (pe_dk d_combined (hr.mono (by decide)) (by rfl) (pa_cons (pv 8) (pa_cons (pe_un un_neg (pe_ix (LD.ix_tupK (K := K) rfl) (pv 8) (pv 2) (fun _ _ => rfl))) (pa_cons (pv 5) (pa_cons (pv 3) pa_nil)))))))))))), ?_⟩
  refine enter h (fun H0 M0 pl x pl0 hx => 
      (rs_seq (rs_set (re_call rfl rfl rfl (ra_cons (re_op od_ixT (re_op od_ixL re_var re_var) re_var) (ra_cons re_var ra_nil))))
      (rs_seq (rs_set (re_tupG hP_cleared (ri_tup (re_op od_ixL re_var re_var)) rg_name (by decide) rt_yes (re_op od_mod (re_op od_mul re_var re_var) re_var)))
      (rs_ret (re_lc (ri_enumL (ra_cons re_var ra_nil)) (rg_tup (rgs_cons rg_name (rgs_cons rg_name rgs_nil))) (by decide) rt_yes (re_ifE (rt_test (re_op od_eq re_var re_var)) re_var (re_call rfl rfl rfl (ra_cons re_var (ra_cons (re_neg (re_op od_ixT re_var re_var)) (ra_cons re_var (ra_cons re_var ra_nil))))))))))) ?_ (fun as k x ⟨_, _, _, _, _, _, e, _⟩ => lenle e rfl)
  rintro _ k x ⟨p, s, n, rs, top, place, rfl, hP, hp, R, hs, hn, ht, hpl, hne, q⟩
  have p2 := isP_ge hP
  have hl := R.len
  have nw := small_ndvd (R.en ht hpl).1 (R.en ht hpl).2 hne
  repeat refine ⟨_, rfl, ?_⟩
  refine ⟨_, at_rows (by omega) (by omega), ?_⟩
  rw [Int.toNat_natCast]
  repeat refine ⟨_, rfl, ?_⟩
  refine ⟨_, at_row (by omega) (by rw [R.rl ht]; omega), ?_⟩
  rw [Int.toNat_natCast]
  repeat refine ⟨_, rfl, ?_⟩
  refine ⟨rfl, _, fun _ h => h, en rs top place, p, rfl, hP, hp, nw, ?_⟩
  repeat refine ⟨_, rfl, ?_⟩
  refine ⟨_, at_rows (by omega) (by omega), ?_⟩
  rw [Int.toNat_natCast]
  repeat refine ⟨_, rfl, ?_⟩
  have hll : (leadF p rs top place).length = n := by rw [leadF, List.length_map]; exact R.rl ht
  obtain ⟨v0, v1, v2⟩ := invF_spec hP hp nw
  refine ⟨by rw [List.length_map, R.rl ht, sizeLine_eq]; omega, comp_map (f := fun d => match d with | .int j => .int (invF (en rs top place) p * j % p) | _ => .none) (fun d hd => ⟨_, rfl, fun K hK => ?_⟩) ?_⟩
  · obtain ⟨y, hy, rfl⟩ := List.mem_map.mp hd
    repeat refine ⟨_, rfl, ?_⟩
    refine ⟨.inl ⟨by omega, by omega⟩, ?_⟩
    repeat refine ⟨_, rfl, ?_⟩
    exact ⟨by show 0 < p; omega, hK _ rfl⟩
  have e1 : [] ++ ((rs.getD top []).map PyData.int).map (fun d => match d with | .int j => PyData.int (invF (en rs top place) p * j % p) | _ => .none) = (leadF p rs top place).map PyData.int := by
    rw [List.nil_append, List.map_map, leadF, List.map_map]
    rfl
  rw [e1]
  repeat refine ⟨_, rfl, ?_⟩
  refine ⟨_, _, rfl, rfl, by rw [pairsOf_len, ints_len, Nat.min_self, List.length_map, sizeLine_eq]; omega, comp_map (f := fun d => match d with | .tuple [.int i, .tuple _] => rowP (if i.toNat = top then leadF p rs top place else combV p (-(en rs i.toNat place)) (rs.getD i.toNat []) (leadF p rs top place)) | _ => .none) (fun d hd => ?_) ?_⟩
  · obtain ⟨i, hi, rfl⟩ := enum_mem hd
    have hi : i < s := by rw [List.length_map] at hi; omega
    rw [gd_map [] (by omega)]
    have hen := R.en hi hpl
    refine ⟨_, rfl, fun K hK => ?_⟩
    have hK : ∀ r, datR r = some (rowP (if i = top then leadF p rs top place else combV p (-(en rs i place)) (rs.getD i []) (leadF p rs top place))) → K r := hK
    repeat refine ⟨_, rfl, ?_⟩
    refine .inl ⟨_, rfl, _, rfl, _, rfl, ?_⟩
    refine iteD (fun z => ?_) (fun z => ?_)
    · rw [if_pos (by omega)] at hK
      exact ⟨_, rfl, hK _ rfl⟩
    · rw [if_neg (by omega)] at hK
      repeat refine ⟨_, rfl, ?_⟩
      refine ⟨_, at_row (by omega) (by rw [R.rl hi]; omega), ?_⟩
      rw [Int.toNat_natCast]
      repeat refine ⟨_, rfl, ?_⟩
      exact ⟨rfl, _, fun _ h => h, rs.getD i [], leadF p rs top place, -(en rs i place), p, rfl, by omega, ⟨by omega, by omega⟩, by rw [R.rl hi]; omega, hK _ rfl⟩
  · have e2 : [] ++ (pairsOf (DL.intsFrom 0 (rs.map rowP).length) (rs.map rowP)).map (fun d => match d with | .tuple [.int i, .tuple _] => rowP (if i.toNat = top then leadF p rs top place else combV p (-(en rs i.toNat place)) (rs.getD i.toNat []) (leadF p rs top place)) | _ => .none) = (clF p rs top place).map rowP := by
      rw [List.nil_append, enum_all, List.map_map, clF, List.map_map, List.length_map]
      refine List.map_congr_left fun i hi => ?_
      have hi := List.mem_range.mp hi
      show (match PyData.tuple [PyData.int (i : Nat), (rs.map rowP).getD i .none] with | .tuple [.int i, .tuple _] => rowP (if i.toNat = top then leadF p rs top place else combV p (-(en rs i.toNat place)) (rs.getD i.toNat []) (leadF p rs top place)) | _ => .none) = rowP (if i = top then leadF p rs top place else combV p (-(en rs i place)) (rs.getD i []) (leadF p rs top place))
      rw [gd_map [] hi]
      rfl
    rw [e2]
    exact ⟨_, rfl, q⟩
def m_reduced : Pm := fun as k _ => ∃ (p : Int) (s n : Nat) (rs : List (List Int)) (many : Nat), as = [.lst (rs.map rowP), .dat (.int (many : Nat)), .dat (.int p)] ∧ isP p = true ∧ p ≤ 65521 ∧ rs.length = s ∧ (∀ r ∈ rs, r.length = n) ∧ s ≤ 100 ∧ n ≤ 100 ∧ many ≤ n ∧ k (.v (.tuple [.list ((redF p rs many).1.map rowP), .list (natsP (redF p rs many).2)]))
theorem ok_reduced {f c P1 : Addr} {fd : FuncData} (F : FunC K "reduced" "reduced" s_reduced f fd (.ref c)) (T : Tx mg) (TB_reduced : GxR.TabB base mg c P1) (hP_reduced : P1 ∈ Ts)
    (d_first_filled : Dk P w K mg base 1 "first_filled" ["rows", "start", "place"] (spD K Ts Tl m_first_filled))
    (d_cleared : Dk P w K mg base 4 "cleared" ["rows", "top", "place", "p"] (spD K Ts Tl m_cleared)) :
    FnOk P w K mg base CX0 5 f fd ["rows", "many", "p"] (spD K Ts Tl m_reduced) := by
  refine F.okC sc_reduced (fun vs H Q E h => len_of h fun as k x ⟨_, _, _, _, _, e, _⟩ => leneq e rfl) (fun A outer s H vs Q E hr h => ?_)
  refine ⟨_, /- slots 0:rows 1:many 2:p 3:found 4:row 5:number 6:places 7:place 8:top 9:at -/
      (pss_cons (ps_setLc (i := 3) (own := [("row", 4)]) (g := (gName 4)) (tt := tYes) (by rfl) sc_reduced.nd rfl rfl (sw_true rfl rfl rfl (by decide +kernel)) (pi_list (pv 0)) (blkOk_by (own := [("row", 4)]) (N := n_reduced) (sc := defScope s_reduced) (by decide +kernel)) (fun _ _ _ _ _ => (pg_name (i := 4) sc_reduced.nd rfl (by first | exact Or.inl rfl | exact Or.inr rfl))) (fun _ _ _ _ _ => pts_nil) (fun _ _ _ _ _ => (pe_tupG (k := 1) (own := [("number", 5)]) (g := gName 5) (tt := tYes) (hr.mono (by decide)) rfl sc_reduced.nd (by rfl) T.m_tuple (by decide +kernel) TB_reduced rfl (LD.pi_tupK (K := K) rfl (pv 4)) (blkOk_by (own := [("number", 5)]) (by kernel_rfl)) ⟨rfl, by decide +kernel, rfl⟩ (fun _ hr _ _ _ _ _ _ _ _ => (pg_name (i := 5) sc_reduced.nd rfl (by first | exact Or.inl rfl | exact Or.inr rfl))) (fun _ hr _ _ _ _ _ _ _ _ => pts_nil) (fun _ hr _ _ _ _ _ _ _ _ => (pe_op op_mod (pv 5) (pv 2)))))) -- found = [tuple((number % p for number in row)) for row in rows]
      (pss_cons (ps_set (i := 6) sc_reduced.nd rfl (by first | exact Or.inl rfl | exact Or.inr rfl) (pe_lst pa_nil)) -- places = []
      (pss_cons (ps_for PassesOwn.never rfl (pi_range1 (by rfl) T.m_range (pa_cons (pv 1) pa_nil)) (pg_name (i := 7) sc_reduced.nd rfl (by first | exact Or.inl rfl | exact Or.inr rfl))
        (pss_cons (ps_set (i := 8) sc_reduced.nd rfl (by first | exact Or.inl rfl | exact Or.inr rfl) (pe_callB call_lenL (by rfl) T.m_len (by decide +kernel) (pa_cons (pv 6) pa_nil))) -- top = len(places)
        (pss_cons (ps_set (i := 9) sc_reduced.nd rfl (by first | exact Or.inl rfl | exact Or.inr rfl) (pe_dk d_first_filled (hr.mono (by decide)) (by rfl) (pa_cons (pv 3) (pa_cons (pv 8) (pa_cons (pv 7) pa_nil))))) -- at = first_filled(found, top, place)
        (pss_one (ps_if (pt_cmp (pc_notN (pv 9)))
          (pss_cons (ps_asg (pe_tup (pa_cons (pe_ix ix_list (pv 3) (pv 9) (fun _ _ => rfl)) (pa_cons (pe_ix ix_list (pv 3) (pv 8) (fun _ _ => rfl)) pa_nil))) (pg_tup (by rfl) (pgs_cons (pg_sub (pv 3) (pv 8) set_list) (pgs_cons (pg_sub (pv 3) (pv 9) set_list) pgs_nil)))) -- found[top], found[at] = (found[at], found[top])
          (pss_cons (ps_set (i := 3) sc_reduced.nd rfl (by first | exact Or.inl rfl | exact Or.inr rfl) (pe_dk d_cleared (hr.mono (by decide)) (by rfl) (pa_cons (pv 3) (pa_cons (pv 8) (pa_cons (pv 7) (pa_cons (pv 2) pa_nil)))))) -- found = cleared(found, top, place, p)
          (pss_one (ps_expr (pe_bm PySem.F.plainAttrs_list PySem.F.slot_list_append PySem.F.type_list_append mt_append (pv 6) (pa_cons (pv 7) pa_nil))))))
          pss_nil))))) -- for place in range(many):
      (pss_one (ps_ret (pe_tup (pa_cons (pv 3) (pa_cons (pv 6) pa_nil)))))))), ?_⟩
  refine enter h (fun H0 M0 pl x pl0 hx => 
      (rs_seq (rs_set (re_lc (ri_list re_var) rg_name (by decide) rt_yes (re_tupG hP_reduced (ri_tup re_var) rg_name (by decide) rt_yes (re_op od_mod re_var re_var))))
      (rs_seq (rs_set (re_lst ra_nil))
      (rs_seq (rs_for (rj_r1 (ra_cons re_var ra_nil)) rg_name
        (rs_seq (rs_set (re_cb cd_lenL (ra_cons re_var ra_nil)))
        (rs_seq (rs_set (re_call rfl rfl rfl (ra_cons re_var (ra_cons re_var (ra_cons re_var ra_nil)))))
        (rs_if (rt_b (re_notN re_var))
          (rs_seq (rs_swap rfl (ra_cons (re_op od_ixL re_var re_var) (ra_cons (re_op od_ixL re_var re_var) ra_nil)) re_var re_var)
          (rs_seq (rs_set (re_call rfl rfl rfl (ra_cons re_var (ra_cons re_var (ra_cons re_var (ra_cons re_var ra_nil))))))
          (rs_app re_var)))
          rs_next))))
      rs_ret2)))) ?_ (fun as k x ⟨_, _, _, _, _, e, _⟩ => lenle e rfl)
  rintro _ k x ⟨p, s, n, rs, many, rfl, hP, hp, hl, hr, hs, hn, hm, q⟩
  have p2 := isP_ge hP
  repeat refine ⟨_, rfl, ?_⟩
  refine ⟨by rw [List.length_map, sizeLine_eq]; omega, comp_map (f := fun d => match d with | .tuple ds => .tuple (ds.map fun d => match d with | .int j => .int (j % p) | _ => .none) | _ => .none) (fun d hd => ⟨_, rfl, fun K hK => ?_⟩) ?_⟩
  · obtain ⟨r, hr2, rfl⟩ := List.mem_map.mp hd
    refine ⟨_, rfl, _, rfl, by rw [List.length_map, hr r hr2, sizeLine_eq]; omega, comp_map (f := fun d => match d with | .int j => .int (j % p) | _ => .none) (fun d hd => ⟨_, rfl, fun K hK => ?_⟩) (hK _ rfl)⟩
    obtain ⟨y, _, rfl⟩ := List.mem_map.mp hd
    repeat refine ⟨_, rfl, ?_⟩
    exact ⟨by show 0 < p; omega, hK _ rfl⟩
  have e1 : [] ++ (rs.map rowP).map (fun d => match d with | .tuple ds => PyData.tuple (ds.map fun d => match d with | .int j => .int (j % p) | _ => .none) | _ => .none) = (redF p rs 0).1.map rowP := by
    show [] ++ (rs.map rowP).map _ = (modF p rs).map rowP
    rw [List.nil_append, List.map_map, modF, List.map_map]
    refine List.map_congr_left fun r _ => ?_
    show PyData.tuple ((r.map PyData.int).map _) = PyData.tuple ((r.map (· % p)).map PyData.int)
    rw [List.map_map, List.map_map]
    rfl
  rw [e1]
  repeat refine ⟨_, rfl, ?_⟩
  refine ⟨by show 0 ≤ sizeLine; decide, ?_⟩
  repeat refine ⟨_, rfl, ?_⟩
  refine ⟨by omega, by omega, fun i env => ∃ o_row o_number o_place o_top o_at, env = [some (.bor (rs.map rowP)), some (.dat (.int (many : Nat))), some (.dat (.int p)), some (.own ((redF p rs i).1.map rowP)), o_row, o_number, some (.own (natsP (redF p rs i).2)), o_place, o_top, o_at], ⟨_, _, _, _, _, rfl⟩, ?_, ?_⟩
  · rintro i z env hi ⟨o_row, o_number, o_place, o_top, o_at, rfl⟩
    have hi2 : i < many := by
      have := (List.getElem?_eq_some_iff.mp hi).1
      rw [ints_len] at this
      omega
    obtain rfl : z = .int (i : Nat) := by
      rw [ints_get (by omega)] at hi
      cases hi
      rw [Int.zero_add]
    have I := red_inv hP hp hl hr (t := i) (by omega)
    have es : redF p rs (i + 1) = stepF p (redF p rs i) i := by
      unfold redF
      rw [List.range_succ, List.foldl_append]
      rfl
    have hnl : (natsP (redF p rs i).2).length = (redF p rs i).2.length := List.length_map ..
    generalize hF : (redF p rs i).1 = F at *
    generalize hpl : (redF p rs i).2 = pl at *
    have es : redF p rs (i + 1) = match ffF F pl.length i with
      | none => (F, pl)
      | some a => (clF p (swF F pl.length a) pl.length i, pl ++ [i]) := by
      rw [es, ← hF, ← hpl]
      rfl
    have hFl := I.rc.len
    have htop := I.top
    repeat refine ⟨_, rfl, ?_⟩
    rw [hnl]
    refine ⟨rfl, _, fun _ h => h, p, s, n, F, pl.length, i, rfl, I.rc, hs, htop, by omega, ?_⟩
    cases hff : ffF F pl.length i with
    | none =>
      rw [hff] at es
      have es : redF p rs (i + 1) = (F, pl) := es
      repeat refine ⟨_, rfl, ?_⟩
      refine iteF rfl ?_
      exact ⟨_, _, _, _, _, by rw [es]; rfl⟩
    | some a =>
      rw [hff] at es
      have es : redF p rs (i + 1) = (clF p (swF F pl.length a) pl.length i, pl ++ [i]) := es
      obtain ⟨a1, a2, a3⟩ := ff_some hff
      have hT : pl.length < s := by omega
      repeat refine ⟨_, rfl, ?_⟩
      have hsw : ((F.map rowP).set pl.length (rowP (F.getD a []))).set a (rowP (F.getD pl.length [])) = (swF F pl.length a).map rowP := by
        rw [swF, List.map_set, List.map_set]
      have c1 := I.rc.sw hT (show a < s by omega)
      have hne : en (swF F pl.length a) pl.length i ≠ 0 := by
        rw [en_sw hFl hT (by omega)]
        by_cases z : pl.length = a
        · rw [if_pos z, z]
          exact a3
        · rw [if_neg z, if_pos rfl]
          exact a3
      refine ⟨_, at_rows (by omega) (by omega), ?_⟩
      repeat refine ⟨_, rfl, ?_⟩
      refine ⟨_, at_rows (by omega) (by omega), ?_⟩
      rw [Int.toNat_natCast, Int.toNat_natCast]
      refine ⟨_, _, rfl, ?_⟩
      repeat refine ⟨_, rfl, ?_⟩
      refine ⟨_, ixN_n (by rw [List.length_map]; omega), ?_⟩
      repeat refine ⟨_, rfl, ?_⟩
      refine ⟨_, ixN_n (by rw [List.length_map]; omega), ?_⟩
      rw [hsw]
      repeat refine ⟨_, rfl, ?_⟩
      refine ⟨rfl, _, fun _ h => h, p, s, n, swF F pl.length a, pl.length, i, rfl, hP, hp, c1, hs, hn, hT, by omega, hne, ?_⟩
      repeat refine ⟨_, rfl, ?_⟩
      refine ⟨by rw [hnl, sizeLine_eq]; omega, ?_⟩
      have hna : natsP pl ++ [PyData.int (i : Nat)] = natsP (pl ++ [i]) := by
        rw [natsP, natsP, List.map_append]
        rfl
      rw [hna]
      exact ⟨_, _, _, _, _, by rw [es]; rfl⟩
  · rintro env ⟨o_row, o_number, o_place, o_top, o_at, rfl⟩
    rw [ints_len, Int.toNat_natCast]
    exact ⟨_, _, rfl, rfl, q⟩
def m_left_null : Pm := fun as k _ => ∃ (p : Int) (cs : List (List Int)) (many : Nat), as = [.dat (datP cs), .dat (.int (many : Nat)), .dat (.int p)] ∧ isP p = true ∧ p ≤ 65521 ∧ cs.length ≤ 40 ∧ many ≤ 40 ∧ (∀ r ∈ cs, r.length = many) ∧ k (.v (datP (nullF p cs many)))
end
end KK
set_option maxHeartbeats 4000000
namespace KK
open PySem L2 LW GX LD DL SH K00 LA
section
variable {P : Program} {w : World} {K : PySem.W.Frag} {mg : Str → Option Value} {base : Heap} {Ts : List Addr} {Tl : List (Addr × Str)}
def m_first_free : Pm := fun as k _ => ∃ (p : Int) (cs : List (List Int)) (many : Nat), as = [.dat (datP cs), .dat (.int (many : Nat)), .dat (.int p)] ∧ isP p = true ∧ p ≤ 65521 ∧ cs.length ≤ 40 ∧ many ≤ 40 ∧ (∀ r ∈ cs, r.length = many) ∧ k (.v (.list (natsP (freeP p cs many))))
theorem ok_first_free {f c P1 : Addr} {fd : FuncData} (F : FunC K "first_free" "first_free" s_first_free f fd (.ref c)) (T : Tx mg) (TB_first_free : GxR.TabB base mg c P1) (hP_first_free : P1 ∈ Ts)
    (d_reduced : Dk P w K mg base 5 "reduced" ["rows", "many", "p"] (spD K Ts Tl m_reduced)) :
    FnOk P w K mg base CX0 6 f fd ["matrix", "many", "p"] (spD K Ts Tl m_first_free) := by
  refine F.okC sc_first_free (fun vs H Q E h => len_of h fun as k x ⟨_, _, _, e, _⟩ => leneq e rfl) (fun A outer s H vs Q E hr h => ?_)
  refine ⟨_, /- slots 0:matrix 1:many 2:p 3:turned 4:at 5:row 6:_ 7:places -/
      (pss_cons (ps_setLc (i := 3) (own := [("at", 4)]) (g := (gName 4)) (tt := tYes) (by rfl) sc_first_free.nd rfl rfl (sw_true rfl rfl rfl (by decide +kernel)) (pi_range1 (by rfl) T.m_range (pa_cons (pv 1) pa_nil)) (blkOk_by (own := [("at", 4)]) (N := n_first_free) (sc := defScope s_first_free) (by decide +kernel)) (fun _ _ _ _ _ => (pg_name (i := 4) sc_first_free.nd rfl (by first | exact Or.inl rfl | exact Or.inr rfl))) (fun _ _ _ _ _ => pts_nil) (fun _ _ _ _ _ => (pe_tupG (k := 1) (own := [("row", 5)]) (g := gName 5) (tt := tYes) (hr.mono (by decide)) rfl sc_first_free.nd (by rfl) T.m_tuple (by decide +kernel) TB_first_free rfl (LD.pi_tupK (K := K) rfl (pv 0)) (blkOk_by (own := [("row", 5)]) (by kernel_rfl)) ⟨rfl, by decide +kernel, rfl⟩ (fun _ hr _ _ _ _ _ _ _ _ => (pg_name (i := 5) sc_first_free.nd rfl (by first | exact Or.inl rfl | exact Or.inr rfl))) (fun _ hr _ _ _ _ _ _ _ _ => pts_nil) (fun _ hr _ _ _ _ _ _ _ _ => (pe_ix (LD.ix_tupK (K := K) rfl) (pv 5) (pv 4) (fun _ _ => rfl)))))) -- turned = [tuple((row[at] for row in matrix)) for at in range(many)]
      (pss_cons (ps_asg (pe_dk d_reduced (hr.mono (by decide)) (by rfl) (pa_cons (pv 3) (pa_cons (pe_callB call_lenT (by rfl) T.m_len (by decide +kernel) (pa_cons (pv 0) pa_nil)) (pa_cons (pv 2) pa_nil)))) (pg_tup (by rfl) (pgs_cons (pg_name (i := 6) sc_first_free.nd rfl (by first | exact Or.inl rfl | exact Or.inr rfl)) (pgs_cons (pg_name (i := 7) sc_first_free.nd rfl (by first | exact Or.inl rfl | exact Or.inr rfl)) pgs_nil)))) -- _, places = reduced(turned, len(matrix), p)
      (pss_one (ps_ret (pv 7))))), ?_⟩
  refine enter h (fun H0 M0 pl x pl0 hx => 
      (rs_seq (rs_set (re_lc (ri_r1 (ra_cons re_var ra_nil)) rg_name (by decide) rt_yes (re_tupG hP_first_free (ri_tup re_var) rg_name (by decide) rt_yes (re_op od_ixT re_var re_var))))
      (rs_seq (rs_asg (re_call rfl rfl rfl (ra_cons re_var (ra_cons (re_cb cd_lenT (ra_cons re_var ra_nil)) (ra_cons re_var ra_nil)))) (rg_tup (rgs_cons rg_name (rgs_cons rg_name rgs_nil))))
      (rs_ret re_var)))) ?_ (fun as k x ⟨_, _, _, e, _⟩ => lenle e rfl)
  rintro _ k x ⟨p, cs, many, rfl, hP, hp, hl, hm, hr, q⟩
  repeat refine ⟨_, rfl, ?_⟩
  refine ⟨by omega, by omega, by rw [ints_len, sizeLine_eq]; omega, comp_map (f := fun d => match d with | .int j => rowP (cs.map fun r => r.getD j.toNat 0) | _ => .none) (fun d hd => ?_) ?_⟩
  · obtain ⟨i, hi, rfl⟩ := ints_mem hd
    have hi : i < many := by omega
    refine ⟨_, rfl, fun K hK => ?_⟩
    repeat refine ⟨_, rfl, ?_⟩
    refine ⟨by rw [List.length_map, sizeLine_eq]; omega, comp_map (f := fun d => match d with | .tuple ds => ds.getD i .none | _ => .none) (fun d hd => ?_) ?_⟩
    · obtain ⟨r, hr2, rfl⟩ := List.mem_map.mp hd
      refine ⟨_, rfl, fun K hK => ?_⟩
      repeat refine ⟨_, rfl, ?_⟩
      refine ⟨_, at_row (by omega) (by rw [hr r hr2]; omega), hK _ ?_⟩
      show some (PyData.int (r.getD ((0 : Int) + (i : Nat)).toNat 0)) = some ((r.map PyData.int).getD i .none)
      rw [gd_map 0 (by rw [hr r hr2]; exact hi), Int.zero_add, Int.toNat_natCast]
    · refine hK _ ?_
      rw [List.nil_append]
      show some (PyData.tuple ((cs.map rowP).map fun d => match d with | .tuple ds => ds.getD i .none | _ => .none)) = some (rowP (cs.map fun r => r.getD ((0 : Int) + (i : Nat)).toNat 0))
      rw [List.map_map, rowP, List.map_map, Int.zero_add, Int.toNat_natCast]
      congr 2
      refine List.map_congr_left fun r hr2 => ?_
      show (r.map PyData.int).getD i .none = _
      rw [gd_map 0 (by rw [hr r hr2]; exact hi)]
      rfl
  have e1 : [] ++ (DL.intsFrom 0 ((many : Int)).toNat).map (fun d => match d with | .int j => rowP (cs.map fun r => r.getD j.toNat 0) | _ => .none) = (turnF cs many).map rowP := by
    rw [List.nil_append, ints_nat, List.map_map, turnF, List.map_map]
    rfl
  rw [e1]
  repeat refine ⟨_, rfl, ?_⟩
  refine ⟨rfl, _, fun _ h => h, p, many, cs.length, turnF cs many, cs.length, by rw [List.length_map], hP, hp, turn_len cs many, turn_row rfl, by omega, by omega, by omega, ?_⟩
  repeat refine ⟨_, rfl, ?_⟩
  exact q
def m_spread : Pm := fun as k _ => ∃ (xs : List Int) (pl : List Nat) (s : Nat), as = [.dat (rowP xs), .dat (.list (natsP pl)), .dat (.int (s : Nat))] ∧ xs.length = pl.length ∧ pl.length ≤ 40 ∧ s ≤ 40 ∧ pl.Pairwise (· < ·) ∧ k (.v (rowP (spreadF xs pl s)))
theorem get_spread {xs : List Int} {pl : List Nat} {s : Nat} (hx : xs.length = pl.length) (ho : pl.Pairwise (· < ·)) {i : Nat} (hi : i < s) : getKD (mergeD (pl.map fun l => ((l : Nat) : Int)) (xs.map PyData.int)) (i : Nat) (.int 0) = .int ((spreadF xs pl s).getD i 0) := by
  have hp : (pl.map fun l => ((l : Nat) : Int)).Pairwise (· ≠ ·) := by
    rw [List.pairwise_map]
    exact ho.imp fun h => by omega
  unfold getKD mergeD
  rw [merge_new _ _ _ hp (fun q h => by cases h), List.nil_append, find_zip (f := fun _ => true) (k0 := (i : Int)) _ _ (by rw [List.length_map, List.length_map, hx]), List.length_map]
  unfold spreadF
  rw [gd_range hi]
  have e : ((List.range pl.length).find? fun l => decide ((pl.map fun l => ((l : Nat) : Int)).getD l 0 = (i : Nat))) = (List.range pl.length).find? fun l => decide (pl.getD l 0 = i) := by
    rw [← List.head?_filter, ← List.head?_filter]
    congr 1
    refine List.filter_congr fun l hl => ?_
    rw [gd_map 0 (List.mem_range.mp hl)]
    exact decide_eq_decide.mpr (by omega)
  rw [e]
  cases z : (List.range pl.length).find? fun l => decide (pl.getD l 0 = i) with
  | none => rfl
  | some l =>
    have hl := List.mem_range.mp (List.mem_of_find?_eq_some z)
    show (xs.map PyData.int).getD l .none = PyData.int (xs.getD l 0)
    rw [gd_map 0 (by omega)]
theorem ok_spread {f c P1 : Addr} {fd : FuncData} (F : FunC K "spread" "spread" s_spread f fd (.ref c)) (T : Tx mg) (TB_spread : GxR.TabB base mg c P1) (hP_spread : P1 ∈ Ts) :
    FnOk P w K mg base CX0 4 f fd ["numbers", "places", "size"] (spD K Ts Tl m_spread) := by
  refine F.okC sc_spread (fun vs H Q E h => len_of h fun as k x ⟨_, _, _, e, _⟩ => leneq e rfl) (fun A outer s H vs Q E hr h => ?_)
  refine ⟨_, /- slots 0:numbers 1:places 2:size 3:found 4:at -/
      (pss_cons (ps_set (i := 3) sc_spread.nd rfl (by first | exact Or.inl rfl | exact Or.inr rfl) (DZ.pe_dictZip (by rfl) (by rfl) T.m_dict (by rfl) T.m_zip (pa_cons (pv 1) (pa_cons (pv 0) pa_nil)))) -- found = dict(zip(places, numbers))
      (pss_one (ps_ret (pe_tupG (k := 1) (own := [("at", 4)]) (g := gName 4) (tt := tYes) (hr.mono (by decide)) rfl sc_spread.nd (by rfl) T.m_tuple (by decide +kernel) TB_spread rfl (pi_range1 (by rfl) T.m_range (pa_cons (pv 2) pa_nil)) (blkOk_by (own := [("at", 4)]) (N := n_spread) (sc := defScope s_spread) (by decide +kernel)) ⟨rfl, by decide +kernel, rfl⟩ (fun _ hr _ _ _ _ _ _ _ _ => (pg_name (i := 4) sc_spread.nd rfl (by first | exact Or.inl rfl | exact Or.inr rfl))) (fun _ hr _ _ _ _ _ _ _ _ => pts_nil) (fun _ hr _ _ _ _ _ _ _ _ => (pe_dget2 (by have h := hr.units; try dsimp only [GX.gblk] at h ⊢; omega) (pv 3) (pv 4) pe_int ⟨by rfl, by rfl, by rfl, by rfl⟩)))))), ?_⟩
  refine enter h (fun H0 M0 pl x pl0 hx => 
      (rs_seq (rs_set (re_dictZip (ra_cons re_var (ra_cons re_var ra_nil))))
      (rs_ret (re_tupG hP_spread (ri_r1 (ra_cons re_var ra_nil)) rg_name (by decide) rt_yes (re_get2 re_var re_var re_int))))) ?_ (fun as k x ⟨_, _, _, e, _⟩ => lenle e rfl)
  rintro _ k x ⟨xs, pl, s, rfl, hx, hl, hs, ho, q⟩
  repeat refine ⟨_, rfl, ?_⟩
  refine ⟨_, _, rfl, pl.map fun l => ((l : Nat) : Int), by show some (natsP pl) = _; rw [natsP, List.map_map]; rfl, xs.map .int, rfl, by rw [List.length_map]; omega, ?_⟩
  repeat refine ⟨_, rfl, ?_⟩
  refine ⟨by omega, by omega, by rw [ints_len, sizeLine_eq]; omega, comp_map (f := fun d => match d with | .int j => .int ((spreadF xs pl s).getD j.toNat 0) | _ => .none) (fun d hd => ?_) ?_⟩
  · obtain ⟨i, hi, rfl⟩ := ints_mem hd
    have hi : i < s := by omega
    refine ⟨_, rfl, fun K hK => ?_⟩
    rw [Int.zero_add] at *
    repeat refine ⟨_, rfl, ?_⟩
    refine ⟨merge_plain, _, rfl, _, rfl, ?_⟩
    refine ⟨_, rfl, ?_⟩
    rw [get_spread hx ho hi]
    exact hK _ rfl
  · repeat refine ⟨_, rfl, ?_⟩
    rw [List.nil_append, ints_nat, List.map_map]
    have e : (List.range s).map ((fun d => match d with | PyData.int j => PyData.int ((spreadF xs pl s).getD j.toNat 0) | _ => PyData.none) ∘ fun (i : Nat) => PyData.int (i : Nat)) = (spreadF xs pl s).map PyData.int := by
      refine List.ext_getElem? fun i => ?_
      have el : (spreadF xs pl s).length = s := by rw [spreadF, List.length_map, List.length_range]
      rw [List.getElem?_map, List.getElem?_map]
      by_cases z : i < s
      · rw [List.getElem?_range z, List.getElem?_eq_getElem (show i < (spreadF xs pl s).length by omega)]
        show some (PyData.int ((spreadF xs pl s).getD i 0)) = some (.int _)
        rw [gd_at (by omega)]
      · rw [List.getElem?_eq_none (by rw [List.length_range]; omega), List.getElem?_eq_none (by omega)]
        rfl
    rw [e]
    exact q
def m_left_inverse : Pm := fun as k _ => ∃ (p : Int) (cs : List (List Int)) (many : Nat), as = [.dat (datP cs), .dat (.int (many : Nat)), .dat (.int p)] ∧ isP p = true ∧ p ≤ 65521 ∧ cs.length ≤ 40 ∧ many ≤ 40 ∧ (∀ r ∈ cs, r.length = many) ∧ k (.v (match leftInv p cs many with | some W => datP W | none => .none))
theorem ok_left_inverse {f c P1 : Addr} {fd : FuncData} (F : FunC K "left_inverse" "left_inverse" s_left_inverse f fd (.ref c)) (T : Tx mg) (TB_left_inverse : GxR.TabB base mg c P1) (hP_left_inverse : P1 ∈ Ts)
    (d_first_free : Dk P w K mg base 6 "first_free" ["matrix", "many", "p"] (spD K Ts Tl m_first_free))
    (d_reduced : Dk P w K mg base 5 "reduced" ["rows", "many", "p"] (spD K Ts Tl m_reduced))
    (d_with_marks : Dk P w K mg base 5 "with_marks" ["matrix"] (spD K Ts Tl m_with_marks))
    (d_spread : Dk P w K mg base 4 "spread" ["numbers", "places", "size"] (spD K Ts Tl m_spread)) :
    FnOk P w K mg base CX0 7 f fd ["matrix", "many", "p"] (spD K Ts Tl m_left_inverse) := by
  refine F.okC sc_left_inverse (fun vs H Q E h => len_of h fun as k x ⟨_, _, _, e, _⟩ => leneq e rfl) (fun A outer s H vs Q E hr h => ?_)
  refine ⟨_, /- slots 0:matrix 1:many 2:p 3:taken 4:square 5:place 6:rows 7:_ 8:row -/
      (pss_cons (ps_set (i := 3) sc_left_inverse.nd rfl (by first | exact Or.inl rfl | exact Or.inr rfl) (pe_dk d_first_free (hr.mono (by decide)) (by rfl) (pa_cons (pv 0) (pa_cons (pv 1) (pa_cons (pv 2) pa_nil))))) -- taken = first_free(matrix, many, p)
      (pss_cons (ps_if (pt_cmpR op_lt (pe_callB call_lenL (by rfl) T.m_len (by decide +kernel) (pa_cons (pv 3) pa_nil)) (pv 1) (nomark _))
        (pss_one (ps_ret pe_non))
        pss_nil) -- if len(taken) < many:
      (pss_cons (ps_setLc (i := 4) (own := [("place", 5)]) (g := (gName 5)) (tt := tYes) (by rfl) sc_left_inverse.nd rfl rfl (sw_true rfl rfl rfl (by decide +kernel)) (pi_list (pv 3)) (blkOk_by (own := [("place", 5)]) (N := n_left_inverse) (sc := defScope s_left_inverse) (by decide +kernel)) (fun _ _ _ _ _ => (pg_name (i := 5) sc_left_inverse.nd rfl (by first | exact Or.inl rfl | exact Or.inr rfl))) (fun _ _ _ _ _ => pts_nil) (fun _ _ _ _ _ => (pe_ix (LD.ix_tupK (K := K) rfl) (pv 0) (pv 5) (fun _ _ => rfl)))) -- square = [matrix[place] for place in taken]
      (pss_cons (ps_asg (pe_dk d_reduced (hr.mono (by decide)) (by rfl) (pa_cons (pe_dk d_with_marks (hr.mono (by decide)) (by rfl) (pa_cons (pv 4) pa_nil)) (pa_cons (pv 1) (pa_cons (pv 2) pa_nil)))) (pg_tup (by rfl) (pgs_cons (pg_name (i := 6) sc_left_inverse.nd rfl (by first | exact Or.inl rfl | exact Or.inr rfl)) (pgs_cons (pg_name (i := 7) sc_left_inverse.nd rfl (by first | exact Or.inl rfl | exact Or.inr rfl)) pgs_nil)))) -- rows, _ = reduced(with_marks(square), many, p)
      (pss_one (ps_ret (pe_tupG (k := 4) (own := [("row", 8)]) (g := gName 8) (tt := tYes) (hr.mono (by decide)) rfl sc_left_inverse.nd (by rfl) T.m_tuple (by decide +kernel) TB_left_inverse rfl (pi_list (pv 6)) (blkOk_by (own := [("row", 8)]) (N := n_left_inverse) (sc := defScope s_left_inverse) (by decide +kernel)) ⟨rfl, by decide +kernel, rfl⟩ (fun _ hr _ _ _ _ _ _ _ _ => (pg_name (i := 8) sc_left_inverse.nd rfl (by first | exact Or.inl rfl | exact Or.inr rfl))) (fun _ hr _ _ _ _ _ _ _ _ => pts_nil) (fun _ hr _ _ _ _ _ _ _ _ => (pe_dk d_spread (hr.mono (by decide)) (by rfl) (pa_cons (pe_slice (LD.sl_tupDK (K := K) rfl) (pv 8) (po_some (pv 1)) po_none) (pa_cons (pv 3) (pa_cons (pe_callB (LD.call_lenTK (K := K) rfl) (by rfl) T.m_len (by decide +kernel) (pa_cons (pv 0) pa_nil)) pa_nil)))))))))))), ?_⟩
  refine enter h (fun H0 M0 pl x pl0 hx => 
      (rs_seq (rs_set (re_call rfl rfl rfl (ra_cons re_var (ra_cons re_var (ra_cons re_var ra_nil)))))
      (rs_seq (rs_if (rt_test (re_op od_lt (re_cb cd_lenL (ra_cons re_var ra_nil)) re_var))
        (rs_ret re_non)
        rs_next)
      (rs_seq (rs_set (re_lc (ri_list re_var) rg_name (by decide) rt_yes (re_op od_ixT re_var re_var)))
      (rs_seq (rs_asg (re_call rfl rfl rfl (ra_cons (re_call rfl rfl rfl (ra_cons re_var ra_nil)) (ra_cons re_var (ra_cons re_var ra_nil)))) (rg_tup (rgs_cons rg_name (rgs_cons rg_name rgs_nil))))
      (rs_ret (re_tupG hP_left_inverse (ri_list re_var) rg_name (by decide) rt_yes (re_call rfl rfl rfl (ra_cons (re_slT re_var (ro_some re_var) ro_none) (ra_cons re_var (ra_cons (re_cb cd_lenT (ra_cons re_var ra_nil)) ra_nil))))))))))) ?_ (fun as k x ⟨_, _, _, e, _⟩ => lenle e rfl)
  rintro _ k x ⟨p, cs, many, rfl, hP, hp, hl, hm, hr, q⟩
  have Fr := free_ok hP hp rfl hr
  have hfl := Fr.len
  repeat refine ⟨_, rfl, ?_⟩
  refine ⟨rfl, _, fun _ h => h, p, cs, many, rfl, hP, hp, hl, hm, hr, ?_⟩
  unfold leftInv at q
  have nl' := nats_len (l := freeP p cs many)
  generalize hpl : freeP p cs many = pl at *
  repeat refine ⟨_, rfl, ?_⟩
  rw [nl']
  refine iteD (fun z => ?_) (fun z => ?_)
  · rw [if_pos (by omega)] at q
    exact ⟨_, rfl, q⟩
  rw [if_neg (by omega)] at q
  repeat refine ⟨_, rfl, ?_⟩
  refine ⟨by rw [nl', sizeLine_eq]; omega, comp_map (f := fun d => match d with | .int j => rowP (cs.getD j.toNat []) | _ => .none) (fun d hd => ?_) ?_⟩
  · obtain ⟨l, hl2, rfl⟩ := List.mem_map.mp hd
    have hlt := Fr.lt l hl2
    refine ⟨_, rfl, fun K hK => ?_⟩
    repeat refine ⟨_, rfl, ?_⟩
    exact ⟨_, at_rows (by omega) (by omega), hK _ rfl⟩
  have e1 : [] ++ (natsP pl).map (fun d => match d with | .int j => rowP (cs.getD j.toNat []) | _ => .none) = (sqF cs pl).map rowP := by
    rw [List.nil_append, natsP, List.map_map, sqF, List.map_map]
    rfl
  rw [e1]
  repeat refine ⟨_, rfl, ?_⟩
  have sr := sq_row hr Fr.lt
  have sl := sq_len cs pl
  refine ⟨rfl, _, fun _ h => h, sqF cs pl, _, rfl, .inl rfl, by omega, fun c hc => by rw [sr c hc]; omega, ?_⟩
  repeat refine ⟨_, rfl, ?_⟩
  refine ⟨rfl, _, fun _ h => h, p, pl.length, many + pl.length, marksF (sqF cs pl), many, rfl, hP, hp, by rw [marks_len, sl], fun r h => by rw [marks_row sr r h, sl], by omega, by omega, by omega, ?_⟩
  have I := red_inv (t := many) hP hp (by rw [marks_len, sl]) (fun r h => by rw [marks_row sr r h, sl]) (show many ≤ many + pl.length by omega)
  unfold invL at q
  rw [hpl] at q
  generalize hF : (redF p (marksF (sqF cs pl)) many).1 = F at *
  have hFl := I.rc.len
  repeat refine ⟨_, rfl, ?_⟩
  refine ⟨by rw [List.length_map, sizeLine_eq]; omega, comp_map (f := fun d => match d with | .tuple ds => rowP (spreadF ((ds.map fun d => match d with | .int j => j | _ => 0).drop many) pl cs.length) | _ => .none) (fun d hd => ?_) ?_⟩
  · obtain ⟨r, hr2, rfl⟩ := List.mem_map.mp hd
    refine ⟨_, rfl, fun K hK => ?_⟩
    have hrl := (I.rc.row r hr2).1
    have dl : (r.drop many).length = pl.length := by rw [List.length_drop]; omega
    repeat refine ⟨_, rfl, ?_⟩
    refine ⟨rfl, _, fun _ h => h, r.drop many, pl, cs.length, by rw [cutD_from, List.length_map, rowP, List.map_drop], dl, by omega, hl, Fr.ord, hK _ ?_⟩
    show _ = some (rowP (spreadF (((r.map PyData.int).map fun d => match d with | .int j => j | _ => 0).drop many) pl cs.length))
    rw [List.map_map, show ((fun d => match d with | .int j => j | _ => 0) ∘ PyData.int) = id from rfl, List.map_id]
    rfl
  · rw [List.nil_append, List.map_map]
    have e : F.map ((fun d => match d with | .tuple ds => rowP (spreadF ((ds.map fun d => match d with | .int j => j | _ => 0).drop many) pl cs.length) | _ => .none) ∘ rowP) = (F.map fun r => spreadF (r.drop many) pl cs.length).map rowP := by
      rw [List.map_map]
      refine List.map_congr_left fun r _ => ?_
      show rowP (spreadF (((r.map PyData.int).map fun d => match d with | .int j => j | _ => 0).drop many) pl cs.length) = _
      rw [List.map_map, show ((fun d => match d with | .int j => j | _ => 0) ∘ PyData.int) = id from rfl, List.map_id]
      rfl
    rw [e]
    exact ⟨_, rfl, q⟩
def m_solved : Pm := fun as k _ => ∃ (p : Int) (cs : List (List Int)) (many : Nat) (right : List Int), as = [.dat (datP cs), .dat (.int (many : Nat)), .dat (rowP right), .dat (.int p)] ∧ isP p = true ∧ p ≤ 65521 ∧ cs.length ≤ 40 ∧ many ≤ 40 ∧ (∀ r ∈ cs, r.length = many) ∧ right.length = cs.length ∧ k (.v (match solvF p cs many right with | some g => rowP g | none => .none))
theorem ok_solved {f c P1 : Addr} {fd : FuncData} (F : FunC K "solved" "solved" s_solved f fd (.ref c)) (T : Tx mg) (TB_solved : GxR.TabB base mg c P1) (hP_solved : P1 ∈ Ts)
    (d_reduced : Dk P w K mg base 5 "reduced" ["rows", "many", "p"] (spD K Ts Tl m_reduced)) :
    FnOk P w K mg base CX0 6 f fd ["matrix", "many", "right", "p"] (spD K Ts Tl m_solved) := by
  refine F.okC sc_solved (fun vs H Q E h => len_of h fun as k x ⟨_, _, _, _, e, _⟩ => leneq e rfl) (fun A outer s H vs Q E hr h => ?_)
  refine ⟨_, /- slots 0:matrix 1:many 2:right 3:p 4:joined 5:row 6:number 7:rows 8:places -/
      (pss_cons (ps_setLc (i := 4) (own := [("row", 5), ("number", 6)]) (g := (gTup K 2 (gCons (gName 5) (gCons (gName 6) gNil)))) (tt := tYes) (by rfl) sc_solved.nd rfl rfl (sw_true rfl rfl rfl (by decide +kernel)) (RZ.pi_zipA (by rfl) T.m_zip (pa_cons (pv 0) (pa_cons (pv 2) pa_nil))) (blkOk_by (own := [("row", 5), ("number", 6)]) (N := n_solved) (sc := defScope s_solved) (by decide +kernel)) (fun _ _ _ _ _ => (pg_tup (by rfl) (pgs_cons (pg_name (i := 5) sc_solved.nd rfl (by first | exact Or.inl rfl | exact Or.inr rfl)) (pgs_cons (pg_name (i := 6) sc_solved.nd rfl (by first | exact Or.inl rfl | exact Or.inr rfl)) pgs_nil)))) (fun _ _ _ _ _ => pts_nil) (fun _ _ _ _ _ => (pe_op (LD.op_catDK (K := K) rfl) (pv 5) (pe_tup (pa_cons (pv 6) pa_nil))))) -- joined = [row + (number,) for row, number in zip(matrix, right)]
      (pss_cons (ps_asg (pe_dk d_reduced (hr.mono (by decide)) (by rfl) (pa_cons (pv 4) (pa_cons (pv 1) (pa_cons (pv 3) pa_nil)))) (pg_tup (by rfl) (pgs_cons (pg_name (i := 7) sc_solved.nd rfl (by first | exact Or.inl rfl | exact Or.inr rfl)) (pgs_cons (pg_name (i := 8) sc_solved.nd rfl (by first | exact Or.inl rfl | exact Or.inr rfl)) pgs_nil)))) -- rows, places = reduced(joined, many, p)
      (pss_cons (ps_if (pt_cmpR op_lt (pe_callB call_lenL (by rfl) T.m_len (by decide +kernel) (pa_cons (pv 8) pa_nil)) (pv 1) (nomark _))
        (pss_one (ps_ret pe_non))
        pss_nil) -- if len(places) < many:
      (pss_cons (ps_if (pt_val (pe_anyG (k := 1) (own := [("row", 5)]) (g := gName 5) (tt := tYes) (hr.mono (by decide)) rfl sc_solved.nd (by rfl) T.m_any (by decide +kernel) TB_solved rfl (pi_list (pe_slice sl_list (pv 7) (po_some (pv 1)) po_none)) (blkOk_by (own := [("row", 5)]) (N := n_solved) (sc := defScope s_solved) (by decide +kernel)) ⟨rfl, by decide +kernel, rfl⟩ (fun _ hr _ _ _ _ _ _ _ _ => (pg_name (i := 5) sc_solved.nd rfl (by first | exact Or.inl rfl | exact Or.inr rfl))) (fun _ hr _ _ _ _ _ _ _ _ => pts_nil) (fun _ hr _ _ _ _ _ _ _ _ => (pe_cmpR op_ne (pe_ix (LD.ix_tupK (K := K) rfl) (pv 5) (pv 1) (fun _ _ => rfl)) pe_int (nomark _)))))
        (pss_one (ps_ret pe_non))
        pss_nil) -- if any((row[many] != 0 for row in rows[many:])):
      (pss_one (ps_ret (pe_tupG (k := 1) (own := [("row", 5)]) (g := gName 5) (tt := tYes) (hr.mono (by decide)) rfl sc_solved.nd (by rfl) T.m_tuple (by decide +kernel) TB_solved rfl (pi_list (pe_slice sl_list (pv 7) po_none (po_some (pv 1)))) (blkOk_by (own := [("row", 5)]) (N := n_solved) (sc := defScope s_solved) (by decide +kernel)) ⟨rfl, by decide +kernel, rfl⟩ (fun _ hr _ _ _ _ _ _ _ _ => (pg_name (i := 5) sc_solved.nd rfl (by first | exact Or.inl rfl | exact Or.inr rfl))) (fun _ hr _ _ _ _ _ _ _ _ => pts_nil) (fun _ hr _ _ _ _ _ _ _ _ => (pe_ix (LD.ix_tupK (K := K) rfl) (pv 5) (pv 1) (fun _ _ => rfl)))))))))), ?_⟩
  refine enter h (fun H0 M0 pl x pl0 hx => 
      (rs_seq (rs_set (re_lc (ri_zip (ra_cons re_var (ra_cons re_var ra_nil))) (rg_tup (rgs_cons rg_name (rgs_cons rg_name rgs_nil))) (by decide) rt_yes (re_op od_catT re_var (re_tup (ra_cons re_var ra_nil)))))
      (rs_seq (rs_asg (re_call rfl rfl rfl (ra_cons re_var (ra_cons re_var (ra_cons re_var ra_nil)))) (rg_tup (rgs_cons rg_name (rgs_cons rg_name rgs_nil))))
      (rs_seq (rs_if (rt_test (re_op od_lt (re_cb cd_lenL (ra_cons re_var ra_nil)) re_var))
        (rs_ret re_non)
        rs_next)
      (rs_seq (rs_if (rt_b (re_flagG (d := false) hP_solved (ri_list (re_slL re_var (ro_some re_var) ro_none)) rg_name (by decide) rt_yes (re_op od_ne (re_op od_ixT re_var re_var) re_int)))
        (rs_ret re_non)
        rs_next)
      (rs_ret (re_tupG hP_solved (ri_list (re_slL re_var ro_none (ro_some re_var))) rg_name (by decide) rt_yes (re_op od_ixT re_var re_var)))))))) ?_ (fun as k x ⟨_, _, _, _, e, _⟩ => lenle e rfl)
  rintro _ k x ⟨p, cs, many, right, rfl, hP, hp, hl, hm, hr, hrl, q⟩
  repeat refine ⟨_, rfl, ?_⟩
  refine ⟨_, _, rfl, ?_⟩
  rw [pairs_all, List.length_map, List.length_map, hrl, Nat.min_self]
  refine ⟨by rw [List.length_map, List.length_range, sizeLine_eq]; omega, comp_map (f := fun d => match d with | .tuple [.tuple ds, y] => .tuple (ds ++ [y]) | _ => .none) (fun d hd => ?_) ?_⟩
  · obtain ⟨i, hi, rfl⟩ := List.mem_map.mp hd
    have hi := List.mem_range.mp hi
    rw [gd_map [] hi, gd_map 0 (by omega)]
    refine ⟨_, rfl, fun K hK => ?_⟩
    have := hr _ (gd_mem (d := []) hi)
    repeat (first | refine ⟨_, rfl, ?_⟩ | refine ⟨by rw [sizeLine_eq]; exact Nat.le_of_ble_eq_true rfl, ?_⟩ | refine ⟨_, .inl rfl, ?_⟩ | refine ⟨_, _, _, _, rfl, rfl, rfl, ?_⟩)
    exact ⟨by rw [List.length_map, sizeLine_eq]; show _ + 1 ≤ _; omega, hK _ rfl⟩
  have e1 : [] ++ ((List.range cs.length).map fun i => PyData.tuple [(cs.map rowP).getD i .none, (right.map PyData.int).getD i .none]).map (fun d => match d with | .tuple [.tuple ds, y] => .tuple (ds ++ [y]) | _ => .none) = (joinF cs right).map rowP := by
    rw [List.nil_append, List.map_map, joinF, List.map_map]
    refine List.map_congr_left fun i hi => ?_
    have hi := List.mem_range.mp hi
    show (match PyData.tuple [(cs.map rowP).getD i .none, (right.map PyData.int).getD i .none] with | .tuple [.tuple ds, y] => .tuple (ds ++ [y]) | _ => .none) = rowP (cs.getD i [] ++ [right.getD i 0])
    rw [gd_map [] hi, gd_map 0 (by omega)]
    show PyData.tuple ((cs.getD i []).map PyData.int ++ [.int (right.getD i 0)]) = _
    rw [rowP, List.map_append]
    rfl
  rw [e1]
  repeat refine ⟨_, rfl, ?_⟩
  refine ⟨rfl, _, fun _ h => h, p, cs.length, many + 1, joinF cs right, many, rfl, hP, hp, join_len, join_row hr, by omega, by omega, by omega, ?_⟩
  have I := red_inv (t := many) hP hp (join_len (M := cs) (right := right)) (join_row hr) (by omega)
  unfold solvF at q
  generalize hF : (redF p (joinF cs right) many).1 = F at *
  generalize hpl : (redF p (joinF cs right) many).2 = pl at *
  have hFl := I.rc.len
  have nl' := nats_len (l := pl)
  repeat refine ⟨_, rfl, ?_⟩
  rw [nl']
  refine iteD (fun z => ?_) (fun z => ?_)
  · rw [if_pos (by omega)] at q
    exact ⟨_, rfl, q⟩
  rw [if_neg (by omega)] at q
  repeat refine ⟨_, rfl, ?_⟩
  refine flag_any (f := fun d => match d with | .tuple ds => (match ds.getD many .none with | .int x => !decide (x = 0) | _ => false) | _ => false) (fun d hd => ?_) ?_
  · rw [cutD_from] at hd
    obtain ⟨r, hr2, rfl⟩ := List.mem_map.mp (List.mem_of_mem_drop hd)
    have hrl := (I.rc.row r hr2).1
    refine ⟨_, rfl, fun K hK => ?_⟩
    repeat refine ⟨_, rfl, ?_⟩
    refine ⟨_, at_row (by omega) (by omega), ?_⟩
    rw [Int.toNat_natCast]
    refine .inl ⟨_, rfl, _, rfl, ?_⟩
    have hK : K (.v (.bool (match (r.map PyData.int).getD many .none with | .int x => !decide (x = 0) | _ => false))) := hK
    rw [gd_map 0 (by omega)] at hK
    exact hK
  have e2 : (cutD (F.map rowP) (some (many : Int)) none).any (fun d => match d with | .tuple ds => (match ds.getD many .none with | .int x => !decide (x = 0) | _ => false) | _ => false) = (F.drop many).any fun r => decide (r.getD many 0 ≠ 0) := by
    rw [cutD_from, ← List.map_drop, List.any_map]
    refine any_congr fun r hr2 => ?_
    have hrl := (I.rc.row r (List.mem_of_mem_drop hr2)).1
    show (match (r.map PyData.int).getD many .none with | .int x => !decide (x = 0) | _ => false) = _
    rw [gd_map 0 (by omega)]
    exact (decide_not).symm
  rw [e2]
  refine ⟨_, rfl, ?_⟩
  dsimp only
  split
  · rename_i z
    rw [if_pos z] at q
    exact ⟨_, rfl, q⟩
  rename_i z
  rw [if_neg z] at q
  repeat refine ⟨_, rfl, ?_⟩
  rw [cutD_to, ← List.map_take]
  refine ⟨by rw [List.length_map, List.length_take, sizeLine_eq]; omega, comp_map (f := fun d => match d with | .tuple ds => ds.getD many .none | _ => .none) (fun d hd => ?_) ?_⟩
  · obtain ⟨r, hr2, rfl⟩ := List.mem_map.mp hd
    have hrl := (I.rc.row r (List.mem_of_mem_take hr2)).1
    refine ⟨_, rfl, fun K hK => ?_⟩
    repeat refine ⟨_, rfl, ?_⟩
    refine ⟨_, at_row (by omega) (by omega), ?_⟩
    rw [Int.toNat_natCast]
    refine hK _ ?_
    show _ = some ((r.map PyData.int).getD many .none)
    rw [gd_map 0 (by omega)]
    rfl
  have e3 : [] ++ ((F.take many).map rowP).map (fun d => match d with | .tuple ds => ds.getD many .none | _ => .none) = ((F.take many).map fun r => r.getD many 0).map PyData.int := by
    rw [List.nil_append, List.map_map, List.map_map]
    refine List.map_congr_left fun r hr2 => ?_
    have hrl := (I.rc.row r (List.mem_of_mem_take hr2)).1
    show (r.map PyData.int).getD many .none = _
    rw [gd_map 0 (by omega)]
    rfl
  rw [e3]
  exact ⟨_, rfl, q⟩
end
end KK
set_option maxHeartbeats 4000000
namespace KK
open PySem L2 LW GX LD DL SH K00 LA
section
variable {P : Program} {w : World} {K : PySem.W.Frag} {mg : Str → Option Value} {base : Heap} {Ts : List Addr} {Tl : List (Addr × Str)}
def ldD (y : List Int × Nat) : PyData := .tuple [lisP y.1, .int (y.2 : Nat)]
def m_law_is_number : Pm := fun as k _ => ∃ (x p : Int), as = [.dat (.int x), .dat (.int p)] ∧ k (.v (.bool (decide (0 ≤ x ∧ x < p))))
theorem ok_law_is_number {f : Addr} {fd : FuncData} (F : Fun K "_law_is_number" "_law_is_number" s_law_is_number f fd) (T : Tx mg) :
    FnOk P w K mg base CX0 1 f fd ["thing", "p"] (spD K Ts Tl m_law_is_number) := by
  refine F.ok sc_law_is_number (fun vs H Q E h => len_of h fun as k x ⟨_, _, e, _⟩ => leneq e rfl) (fun cdv A outer s H vs Q E hr h => ?_)
  refine ⟨_, /- slots 0:thing 1:p -/
      (pss_one (ps_ret (pe_and (pe_callB call_isi (by rfl) T.m_isinstance (by decide +kernel) (pa_cons (pv 0) (pa_cons (pe_bltn (v := .ty "int") (by rfl) T.m_int (by decide +kernel) rfl) pa_nil))) (pe_and (pe_not (pe_callB call_isi (by rfl) T.m_isinstance (by decide +kernel) (pa_cons (pv 0) (pa_cons (pe_bltn (v := .ty "bool") (by rfl) T.m_bool (by decide +kernel) rfl) pa_nil)))) (pe_one (pe_chain op_le op_lt pe_int (pv 0) (pv 1))))))), ?_⟩
  refine enter h (fun H0 M0 pl x pl0 hx => 
      (rs_ret (re_and (re_isi_int re_var) (re_and (re_not (re_isi_bool re_var)) (re_chain re_int re_var re_var))))) ?_ (fun as k x ⟨_, _, e, _⟩ => lenle e rfl)
  rintro _ k xx ⟨x, p, rfl, q⟩
  repeat refine ⟨_, rfl, ?_⟩
  refine iteD (fun z => ?_) (fun z => ?_)
  · repeat refine ⟨_, rfl, ?_⟩
    have e : decide (x < p) = decide (0 ≤ x ∧ x < p) := decide_eq_decide.mpr ⟨fun h => ⟨z, h⟩, fun h => h.2⟩
    show k (.v (.bool (decide (x < p))))
    rw [e]
    exact q
  · rw [decide_eq_false (fun h => z h.1)] at q
    exact ⟨_, rfl, q⟩
def m_law_lessened : Pm := fun as k _ => ∃ (p : Int) (many : Nat) (row : List Int) (taken : List (List Int × Nat)), as = [.dat (lisP row), .lst (taken.map ldD), .dat (.int p)] ∧ isP p = true ∧ p ≤ 65521 ∧ Tk p many taken ∧ many ≤ 40 ∧ row.length = many ∧ (∀ y ∈ row, 0 ≤ y ∧ y < p) ∧ k (.v (lisP (lessAll p row taken)))
theorem ok_law_lessened {f : Addr} {fd : FuncData} (F : Fun K "_law_lessened" "_law_lessened" s_law_lessened f fd) (T : Tx mg) :
    FnOk P w K mg base CX0 1 f fd ["row", "taken", "p"] (spD K Ts Tl m_law_lessened) := by
  refine F.ok sc_law_lessened (fun vs H Q E h => len_of h fun as k x ⟨_, _, _, _, e, _⟩ => leneq e rfl) (fun cdv A outer s H vs Q E hr h => ?_)
  refine ⟨_, /- slots 0:row 1:taken 2:p 3:lead 4:at 5:own 6:other 7:k -/
      (pss_cons (ps_for PassesOwn.never rfl (pi_list (pv 1)) (pg_tup (by rfl) (pgs_cons (pg_name (i := 3) sc_law_lessened.nd rfl (by first | exact Or.inl rfl | exact Or.inr rfl)) (pgs_cons (pg_name (i := 4) sc_law_lessened.nd rfl (by first | exact Or.inl rfl | exact Or.inr rfl)) pgs_nil)))
        (pss_cons (ps_asg (pe_tup (pa_cons (pe_ix ix_list (pv 0) (pv 4) (fun _ _ => rfl)) (pa_cons (pe_ix ix_list (pv 3) (pv 4) (fun _ _ => rfl)) pa_nil))) (pg_tup (by rfl) (pgs_cons (pg_name (i := 5) sc_law_lessened.nd rfl (by first | exact Or.inl rfl | exact Or.inr rfl)) (pgs_cons (pg_name (i := 6) sc_law_lessened.nd rfl (by first | exact Or.inl rfl | exact Or.inr rfl)) pgs_nil)))) -- own, other = (row[at], lead[at])
        (pss_one (ps_set (i := 0) sc_law_lessened.nd rfl (by first | exact Or.inl rfl | exact Or.inr rfl) (pe_lc (own := [("k", 7)]) (g := (gName 7)) (tt := tYes) (by rfl) sc_law_lessened.nd (pi_range1 (by rfl) T.m_range (pa_cons (pe_callB call_lenL (by rfl) T.m_len (by decide +kernel) (pa_cons (pv 0) pa_nil)) pa_nil)) (blkOk_by (own := [("k", 7)]) (N := n_law_lessened) (sc := defScope s_law_lessened) (by decide +kernel)) (fun _ _ _ _ _ => (pg_name (i := 7) sc_law_lessened.nd rfl (by first | exact Or.inl rfl | exact Or.inr rfl))) (fun _ _ _ _ _ => pts_nil) (fun _ _ _ _ _ => (pe_op op_mod (pe_callTy call_intI (by rfl) T.m_int (by decide +kernel) (pa_cons (pe_op op_sub (pe_op op_mul (pe_ix (LD.ix_listK (K := K) rfl) (pv 0) (pv 7) (fun _ _ => rfl)) (pv 6)) (pe_op op_mul (pe_ix (LD.ix_listK (K := K) rfl) (pv 3) (pv 7) (fun _ _ => rfl)) (pv 5))) pa_nil)) (pv 2)))))))) -- for lead, at in taken:
      (pss_one (ps_ret (pv 0)))), ?_⟩
  refine enter h (fun H0 M0 pl x pl0 hx => 
      (rs_seq (rs_for (rj_list re_var) (rg_tup (rgs_cons rg_name (rgs_cons rg_name rgs_nil)))
        (rs_seq (rs_asg (re_tup (ra_cons (re_op od_ixL re_var re_var) (ra_cons (re_op od_ixL re_var re_var) ra_nil))) (rg_tup (rgs_cons rg_name (rgs_cons rg_name rgs_nil))))
        (rs_setD (re_lc (ri_r1 (ra_cons (re_cb cd_lenL (ra_cons re_var ra_nil)) ra_nil)) rg_name (by decide) rt_yes (re_op od_mod (re_cb cd_intI (ra_cons (re_op od_sub (re_op od_mul (re_op od_ixL re_var re_var) re_var) (re_op od_mul (re_op od_ixL re_var re_var) re_var)) ra_nil)) re_var)))))
      (rs_ret re_var))) ?_ (fun as k x ⟨_, _, _, _, e, _⟩ => lenle e rfl)
  rintro _ k x ⟨p, many, row, taken, rfl, hP, hp, T0, hm, hl, hb, q⟩
  have p2 := isP_ge hP
  repeat refine ⟨_, rfl, ?_⟩
  refine ⟨fun i env => ∃ o_lead o_at o_own o_other o_k : Option SV, env = [some (.dat (lisP ((taken.take i).foldl (lessF p) row))), some (.bor (taken.map ldD)), some (.dat (.int p)), o_lead, o_at, o_own, o_other, o_k], ⟨_, _, _, _, _, rfl⟩, ?_, ?_⟩
  · rintro i y env hy ⟨o_lead, o_at, o_own, o_other, o_k, rfl⟩
    have hi : i < taken.length := by
      have := (List.getElem?_eq_some_iff.mp hy).1
      rwa [List.length_map] at this
    obtain rfl : y = ldD (taken.getD i ([], 0)) := by
      rw [List.getElem?_map, List.getElem?_eq_getElem hi] at hy
      cases hy
      rw [gd_at hi]
    have L := less_ok hP hp T0 hl hb i (by omega)
    obtain ⟨t1, t2, t3, t4⟩ := T0.at hi
    have es : (taken.take (i + 1)).foldl (lessF p) row = lessF p ((taken.take i).foldl (lessF p) row) (taken.getD i ([], 0)) := by
      rw [List.take_succ_eq_append_getElem hi, List.foldl_append, gd_at hi]
      rfl
    have t3 : (taken.getD i ([], 0)).2 < many := t3
    generalize taken.getD i ([], 0) = y at *
    generalize (taken.take i).foldl (lessF p) row = r at *
    have l1 := L.len
    have bd : ∀ j, j < many → 0 ≤ r.getD j 0 ∧ r.getD j 0 < p := fun j hj => L.bd _ (gd_mem (by omega))
    have bl : ∀ j, j < many → 0 ≤ y.1.getD j 0 ∧ y.1.getD j 0 < p := fun j hj => t2 _ (gd_mem (by omega))
    repeat refine ⟨_, rfl, ?_⟩
    refine ⟨_, at_row (by omega) (by omega), ?_⟩
    rw [Int.toNat_natCast]
    repeat refine ⟨_, rfl, ?_⟩
    refine ⟨_, at_row (by omega) (by omega), ?_⟩
    rw [Int.toNat_natCast]
    repeat (first | refine ⟨_, rfl, ?_⟩ | refine ⟨by rw [sizeLine_eq]; exact Nat.le_of_ble_eq_true rfl, ?_⟩ | refine ⟨_, .inl rfl, ?_⟩ | refine ⟨_, _, _, _, rfl, rfl, rfl, ?_⟩)
    refine ⟨by omega, by rw [List.length_map]; omega, by rw [ints_len, List.length_map, sizeLine_eq]; omega, comp_map (f := fun d => match d with | .int k => .int ((r.getD k.toNat 0 * y.1.getD y.2 0 - y.1.getD k.toNat 0 * r.getD y.2 0) % p) | _ => .none) (fun d hd => ?_) ?_⟩
    · rw [List.length_map] at hd
      obtain ⟨j, hj, rfl⟩ := ints_mem hd
      have hj : j < many := by omega
      rw [Int.zero_add]
      have b1 := bd j hj
      have b2 := bl j hj
      have b3 := bd y.2 t3
      have b4 := bl y.2 t3
      refine ⟨_, rfl, fun K hK => ?_⟩
      repeat refine ⟨_, rfl, ?_⟩
      refine ⟨_, at_row (by omega) (by omega), ?_⟩
      rw [Int.toNat_natCast]
      repeat refine ⟨_, rfl, ?_⟩
      refine ⟨.inl ⟨by omega, by omega⟩, ?_⟩
      repeat refine ⟨_, rfl, ?_⟩
      refine ⟨_, at_row (by omega) (by omega), ?_⟩
      rw [Int.toNat_natCast]
      repeat refine ⟨_, rfl, ?_⟩
      refine ⟨.inl ⟨by omega, by omega⟩, ?_⟩
      repeat refine ⟨_, rfl, ?_⟩
      exact ⟨by show 0 < p; omega, hK _ rfl⟩
    have e : [] ++ (DL.intsFrom 0 (((r.map PyData.int).length : Int)).toNat).map (fun d => match d with | .int k => .int ((r.getD k.toNat 0 * y.1.getD y.2 0 - y.1.getD k.toNat 0 * r.getD y.2 0) % p) | _ => .none) = (lessF p r y).map PyData.int := by
      rw [List.nil_append, List.length_map, ints_nat, List.map_map, lessF, List.map_map]
      rfl
    rw [e]
    repeat refine ⟨_, rfl, ?_⟩
    exact ⟨_, _, _, _, _, by rw [es]; rfl⟩
  · rintro env ⟨o_lead, o_at, o_own, o_other, o_k, rfl⟩
    rw [List.length_map, List.take_length]
    exact ⟨_, rfl, _, rfl, q⟩
def m_law_free_rows : Pm := fun as k _ => ∃ (p : Int) (s many : Nat) (cs : List (List Int)), as = [.dat (datP cs), .dat (.int p)] ∧ isP p = true ∧ p ≤ 65521 ∧ s ≤ 40 ∧ many ≤ 40 ∧ Rc p s many cs ∧ k (.new (natsP (freeP p cs many)))
theorem filled_head {r : List Int} : ((List.range r.length).filter fun k => decide (r.getD k 0 ≠ 0)).head? = filled r := List.head?_filter ..
theorem ok_law_free_rows {f : Addr} {fd : FuncData} (F : Fun K "_law_free_rows" "_law_free_rows" s_law_free_rows f fd) (T : Tx mg)
    (d_law_lessened : Dk P w K mg base 1 "_law_lessened" ["row", "taken", "p"] (spD K Ts Tl m_law_lessened)) :
    FnOk P w K mg base CX0 2 f fd ["matrix", "p"] (spD K Ts Tl m_law_free_rows) := by
  refine F.ok sc_law_free_rows (fun vs H Q E h => len_of h fun as k x ⟨_, _, _, _, e, _⟩ => leneq e rfl) (fun cdv A outer s H vs Q E hr h => ?_)
  refine ⟨_, /- slots 0:matrix 1:p 2:taken 3:found 4:at 5:row 6:places 7:k -/
      (pss_cons (ps_par (i := 2) (j := 3) (by rfl) sc_law_free_rows.nd rfl rfl (by decide) (by rfl) (by rfl) (pa_cons (pe_lst pa_nil) (pa_cons (pe_lst pa_nil) pa_nil)) (by rfl)) -- taken, found = ([], [])
      (pss_cons (ps_for PassesOwn.never rfl (pi_range1 (by rfl) T.m_range (pa_cons (pe_callB call_lenT (by rfl) T.m_len (by decide +kernel) (pa_cons (pv 0) pa_nil)) pa_nil)) (pg_name (i := 4) sc_law_free_rows.nd rfl (by first | exact Or.inl rfl | exact Or.inr rfl))
        (pss_cons (ps_set (i := 5) sc_law_free_rows.nd rfl (by first | exact Or.inl rfl | exact Or.inr rfl) (pe_dk d_law_lessened (hr.mono (by decide)) (by rfl) (pa_cons (pe_callTy call_list_of (by rfl) T.m_list (by decide +kernel) (pa_cons (pe_ix ix_tup (pv 0) (pv 4) (fun _ _ => rfl)) pa_nil)) (pa_cons (pv 2) (pa_cons (pv 1) pa_nil))))) -- row = _law_lessened(list(matrix[at]), taken, p)
        (pss_cons (ps_setLc (i := 6) (own := [("k", 7)]) (g := (gName 7)) (by rfl) sc_law_free_rows.nd rfl rfl (sw_true rfl rfl rfl (by decide +kernel)) (pi_range1 (by rfl) T.m_range (pa_cons (pe_callB call_lenL (by rfl) T.m_len (by decide +kernel) (pa_cons (pv 5) pa_nil)) pa_nil)) (blkOk_by (own := [("k", 7)]) (N := n_law_free_rows) (sc := defScope s_law_free_rows) (by decide +kernel)) (fun _ _ _ _ _ => (pg_name (i := 7) sc_law_free_rows.nd rfl (by first | exact Or.inl rfl | exact Or.inr rfl))) (fun _ _ _ _ _ => (pts_one (pt_cmpR op_ne (pe_ix (LD.ix_listK (K := K) rfl) (pv 5) (pv 7) (fun _ _ => rfl)) pe_int (nomark _)))) (fun _ _ _ _ _ => (pv 7))) -- places = [k for k in range(len(row)) if row[k] != 0]
        (pss_one (ps_if (pt_cmpR (LD.op_neK (K := K) rfl hr.units) (pv 6) (pe_lst pa_nil) (nomark _))
          (pss_cons (ps_expr (pe_bm PySem.F.plainAttrs_list PySem.F.slot_list_append PySem.F.type_list_append mt_append (pv 2) (pa_cons (pe_tup (pa_cons (pv 5) (pa_cons (pe_ix ix_list (pv 6) pe_int (fun _ _ => rfl)) pa_nil))) pa_nil))) -- taken.append((row, places[0]))
          (pss_one (ps_expr (pe_bm PySem.F.plainAttrs_list PySem.F.slot_list_append PySem.F.type_list_append mt_append (pv 3) (pa_cons (pv 4) pa_nil)))))
          pss_nil))))) -- for at in range(len(matrix)):
      (pss_one (ps_ret (pv 3))))), ?_⟩
  refine enter h (fun H0 M0 pl x pl0 hx => 
      (rs_seq (rs_par (ra_cons (re_lst ra_nil) (ra_cons (re_lst ra_nil) ra_nil)))
      (rs_seq (rs_for (rj_r1 (ra_cons (re_cb cd_lenT (ra_cons re_var ra_nil)) ra_nil)) rg_name
        (rs_seq (rs_set (re_call rfl rfl rfl (ra_cons (re_frz (re_cb cd_lstOf (ra_cons (re_op od_ixT re_var re_var) ra_nil))) (ra_cons re_var (ra_cons re_var ra_nil)))))
        (rs_seq (rs_set (re_lc (ri_r1 (ra_cons (re_cb cd_lenL (ra_cons re_var ra_nil)) ra_nil)) rg_name (by decide) (rt_test (re_op od_ne (re_op od_ixL re_var re_var) re_int)) re_var))
        (rs_if (rt_test (re_op od_neD re_var (re_lst ra_nil)))
          (rs_seq (rs_app (re_tup (ra_cons re_var (ra_cons (re_op od_ixL re_var re_int) ra_nil))))
          (rs_app re_var))
          rs_next))))
      (rs_ret re_var)))) ?_ (fun as k x ⟨_, _, _, _, e, _⟩ => lenle e rfl)
  rintro _ k x ⟨p, s, many, cs, rfl, hP, hp, hs, hm, R0, q⟩
  have p2 := isP_ge hP
  have hl := R0.len
  repeat refine ⟨_, rfl, ?_⟩
  refine ⟨by show 0 ≤ sizeLine; decide, ?_⟩
  repeat refine ⟨_, rfl, ?_⟩
  refine ⟨by show 0 ≤ sizeLine; decide, ?_⟩
  repeat (first | refine ⟨_, rfl, ?_⟩ | refine ⟨by rw [sizeLine_eq]; exact Nat.le_of_ble_eq_true rfl, ?_⟩ | refine ⟨_, .inl rfl, ?_⟩ | refine ⟨_, _, _, _, rfl, rfl, rfl, ?_⟩)
  refine ⟨by omega, by rw [List.length_map]; omega, fun i env => ∃ o_at o_row o_places o_k : Option SV, env = [some (.dat (datP cs)), some (.dat (.int p)), some (.own ((frAll p cs i).1.map ldD)), some (.own (natsP (frAll p cs i).2)), o_at, o_row, o_places, o_k], ⟨_, _, _, _, rfl⟩, ?_, ?_⟩
  · rintro i y env hy ⟨o_at, o_row, o_places, o_k, rfl⟩
    have hi : i < s := by
      have := (List.getElem?_eq_some_iff.mp hy).1
      rw [ints_len, List.length_map] at this
      omega
    obtain rfl : y = .int (i : Nat) := by
      rw [List.length_map, ints_get (by omega)] at hy
      cases hy
      rw [Int.zero_add]
    have I := fr_inv hP hp R0 (t := i) (by omega)
    have es : frAll p cs (i + 1) = frStep p cs (frAll p cs i) i := by
      unfold frAll
      rw [List.range_succ, List.foldl_append]
      rfl
    have hil : (frAll p cs i).1.length ≤ i ∧ (frAll p cs i).2.length ≤ i := by
      have key : ∀ t, (frAll p cs t).1.length ≤ t ∧ (frAll p cs t).2.length ≤ t := by
        intro t
        induction t with
        | zero => exact ⟨Nat.le_refl _, Nat.le_refl _⟩
        | succ t ih =>
          have es : frAll p cs (t + 1) = frStep p cs (frAll p cs t) t := by
            unfold frAll
            rw [List.range_succ, List.foldl_append]
            rfl
          rw [es]
          unfold frStep
          split
          · rw [List.length_append, List.length_append]
            exact ⟨Nat.succ_le_succ ih.1, Nat.succ_le_succ ih.2⟩
          · omega
      exact key i
    unfold frStep at es
    have L := less_ok hP hp I.tk (R0.rl hi) (fun y hy => (R0.row _ (gd_mem (by omega))).2 y hy) (frAll p cs i).1.length (Nat.le_refl _)
    rw [List.take_length] at L
    have el : lessAll p (cs.getD i []) (frAll p cs i).1 = (frAll p cs i).1.foldl (lessF p) (cs.getD i []) := rfl
    rw [el] at es
    have T0 := I.tk
    generalize hst : frAll p cs i = st at *
    generalize hr : st.1.foldl (lessF p) (cs.getD i []) = r at *
    have l1 := L.len
    repeat refine ⟨_, rfl, ?_⟩
    refine ⟨_, at_rows (by omega) (by omega), ?_⟩
    rw [Int.toNat_natCast]
    repeat refine ⟨_, rfl, ?_⟩
    refine ⟨_, .inr rfl, ?_⟩
    repeat (first | refine ⟨_, rfl, ?_⟩ | refine ⟨by rw [sizeLine_eq]; exact Nat.le_of_ble_eq_true rfl, ?_⟩ | refine ⟨_, .inl rfl, ?_⟩ | refine ⟨_, _, _, _, rfl, rfl, rfl, ?_⟩)
    refine ⟨rfl, _, fun _ h => h, p, many, cs.getD i [], st.1, rfl, hP, hp, T0, hm, R0.rl hi, fun y hy => (R0.row _ (gd_mem (by omega))).2 y hy, ?_⟩
    rw [show lessAll p (cs.getD i []) st.1 = r from hr]
    repeat (first | refine ⟨_, rfl, ?_⟩ | refine ⟨by rw [sizeLine_eq]; exact Nat.le_of_ble_eq_true rfl, ?_⟩ | refine ⟨_, .inl rfl, ?_⟩ | refine ⟨_, _, _, _, rfl, rfl, rfl, ?_⟩)
    refine ⟨by omega, by rw [List.length_map]; omega, by rw [ints_len, List.length_map, sizeLine_eq]; omega, comp_if (c := fun d => match d with | .int k => decide (r.getD k.toNat 0 ≠ 0) | _ => false) (f := id) (fun d hd => ?_) ?_⟩
    · rw [List.length_map] at hd
      obtain ⟨j, hj, rfl⟩ := ints_mem hd
      have hj : j < many := by omega
      rw [Int.zero_add]
      refine ⟨_, rfl, fun K hK => ?_, fun _ K hK => ⟨_, rfl, hK _ rfl⟩⟩
      repeat refine ⟨_, rfl, ?_⟩
      refine ⟨_, at_row (by omega) (by omega), ?_⟩
      rw [Int.toNat_natCast]
      refine .inl ⟨_, rfl, _, rfl, _, rfl, ?_⟩
      have hK : K (decide (r.getD j 0 ≠ 0)) := hK
      rw [decide_not] at hK
      exact hK
    have e1 : [] ++ ((DL.intsFrom 0 (((r.map PyData.int).length : Int)).toNat).filter fun d => match d with | .int k => decide (r.getD k.toNat 0 ≠ 0) | _ => false).map id = natsP ((List.range r.length).filter fun k => decide (r.getD k 0 ≠ 0)) := by
      rw [List.nil_append, List.map_id, List.length_map, ints_nat, natsP, List.filter_map]
      rfl
    rw [e1]
    cases hf : filled r with
    | none =>
      have e2 : ((List.range r.length).filter fun k => decide (r.getD k 0 ≠ 0)) = [] := by
        have := filled_head (r := r)
        rw [hf] at this
        exact List.head?_eq_none_iff.mp this
      rw [e2]
      rw [hf] at es
      repeat refine ⟨_, rfl, ?_⟩
      refine ⟨by show 0 ≤ sizeLine; decide, ?_⟩
      refine ⟨_, rfl, _, rfl, by decide, by decide, _, rfl, iteF (by rw [eqv_nil]; rfl) ?_⟩
      exact ⟨_, _, _, _, by rw [es]; rfl⟩
    | some f =>
      obtain ⟨rest, e2⟩ : ∃ rest, ((List.range r.length).filter fun k => decide (r.getD k 0 ≠ 0)) = f :: rest := by
        have := filled_head (r := r)
        rw [hf] at this
        exact ⟨_, (List.head?_eq_some_iff.mp this).choose_spec⟩
      rw [e2]
      rw [hf] at es
      have sh : SeqAt.shaped (.list (natsP (f :: rest))) = true := by
        have := shaped_ints ((f :: rest).map fun (i : Nat) => (i : Int))
        rw [List.map_map] at this
        exact this
      repeat refine ⟨_, rfl, ?_⟩
      refine ⟨by show 0 ≤ sizeLine; decide, ?_⟩
      refine ⟨_, rfl, _, rfl, sh, by decide, _, rfl, iteT (by rw [eqv_nil]; rfl) ?_⟩
      repeat refine ⟨_, rfl, ?_⟩
      refine ⟨_, at_nats (l := f :: rest) (i := 0) (Nat.zero_lt_succ _), ?_⟩
      repeat (first | refine ⟨_, rfl, ?_⟩ | refine ⟨by rw [sizeLine_eq]; exact Nat.le_of_ble_eq_true rfl, ?_⟩ | refine ⟨_, .inl rfl, ?_⟩ | refine ⟨_, _, _, _, rfl, rfl, rfl, ?_⟩)
      refine ⟨by rw [List.length_map, sizeLine_eq]; omega, ?_⟩
      repeat (first | refine ⟨_, rfl, ?_⟩ | refine ⟨by rw [sizeLine_eq]; exact Nat.le_of_ble_eq_true rfl, ?_⟩ | refine ⟨_, .inl rfl, ?_⟩ | refine ⟨_, _, _, _, rfl, rfl, rfl, ?_⟩)
      refine ⟨by rw [nats_len, sizeLine_eq]; omega, ?_⟩
      have eM : natsP (st.2 ++ [i]) = natsP st.2 ++ [.int (i : Nat)] := by
        rw [natsP, List.map_append]
        rfl
      exact ⟨_, _, _, _, by rw [es]; dsimp only; rw [List.map_append, eM]; rfl⟩
  · rintro env ⟨o_at, o_row, o_places, o_k, rfl⟩
    rw [ints_len, List.length_map, Int.toNat_natCast, hl, fr_eq hP hp R0]
    exact ⟨_, rfl, _, rfl, q⟩
end
end KK
set_option maxHeartbeats 8000000
namespace KK
open PySem L2 LW GX LD DL SH K00 LA
section
variable {P : Program} {w : World} {K : PySem.W.Frag} {mg : Str → Option Value} {base : Heap} {Ts : List Addr} {Tl : List (Addr × Str)}
def m_law_matrix : Pm := fun as k _ => ∃ (p : Int) (many : Nat), as = [.pool, .dat (.int p), .dat (.int (many : Nat))] ∧ 2 ≤ p ∧ p ≤ 65521 ∧ many ≤ 40 ∧ ∀ (s : Nat) (cs : List (List Int)), s ≤ 8 → Rc p s many cs → k (.v (datP cs))
theorem two_rows {p : Int} {ds ys : List PyData} (h : Two (fun _ y => ∃ i : Int, y = .int i ∧ 0 ≤ i ∧ i < p) ds ys) : ∃ r : List Int, ys = r.map .int ∧ r.length = ds.length ∧ ∀ x ∈ r, 0 ≤ x ∧ x < p := two_map h
theorem ok_law_matrix {f : Addr} {fd : FuncData} (F : Fun K "_law_matrix" "_law_matrix" s_law_matrix f fd) (T : Tx mg)
    (d_law_take : Dk P w K mg base 1 "_law_take" ["source", "top"] (spD K Ts Tl mTake))
    (d_law_one : Dk P w K mg base 2 "_law_one" ["source", "things"] (spD K Ts Tl mOne))
    (d_law_mixed : Dk P w K mg base 2 "_law_mixed" ["source", "things"] (spD K Ts Tl mMixed)) :
    FnOk P w K mg base CX0 3 f fd ["source", "p", "many"] (spD K Ts Tl m_law_matrix) := by
  refine F.ok sc_law_matrix (fun vs H Q E h => len_of h fun as k x ⟨_, _, e, _⟩ => leneq e rfl) (fun cdv A outer s H vs Q E hr h => ?_)
  refine ⟨_, /- slots 0:source 1:p 2:many 3:rows 4:turn 5:way 6:row 7:k 8:other 9:factor 10:number 11:one -/
      (pss_cons (ps_set (i := 3) sc_law_matrix.nd rfl (by first | exact Or.inl rfl | exact Or.inr rfl) (pe_lst pa_nil)) -- rows = []
      (pss_cons (ps_for PassesOwn.never rfl (pi_range1 (by rfl) T.m_range (pa_cons (pe_dk d_law_take (hr.mono (by decide)) (by rfl) (pa_cons (pv 0) (pa_cons pe_int pa_nil))) pa_nil)) (pg_name (i := 4) sc_law_matrix.nd rfl (by first | exact Or.inl rfl | exact Or.inr rfl))
        (pss_cons (ps_set (i := 5) sc_law_matrix.nd rfl (by first | exact Or.inl rfl | exact Or.inr rfl) (pe_dk d_law_take (hr.mono (by decide)) (by rfl) (pa_cons (pv 0) (pa_cons pe_int pa_nil)))) -- way = _law_take(source, 4)
        (pss_cons (ps_setLc (i := 6) (own := [("k", 7)]) (g := (gName 7)) (tt := tYes) (by rfl) sc_law_matrix.nd rfl rfl (sw_true rfl rfl rfl (by decide +kernel)) (pi_range1 (by rfl) T.m_range (pa_cons (pv 2) pa_nil)) (blkOk_by (own := [("k", 7)]) (N := n_law_matrix) (sc := defScope s_law_matrix) (by decide +kernel)) (fun _ _ _ _ _ => (pg_name (i := 7) sc_law_matrix.nd rfl (by first | exact Or.inl rfl | exact Or.inr rfl))) (fun _ _ _ _ _ => pts_nil) (fun _ _ _ _ _ => (pe_op op_mul (pe_dk d_law_take (hr.mono (by decide)) (by rfl) (pa_cons (pv 0) (pa_cons (pv 1) pa_nil))) (pe_callTy call_intB (by rfl) T.m_int (by decide +kernel) (pa_cons (pe_cmpR op_gt (pe_dk d_law_take (hr.mono (by decide)) (by rfl) (pa_cons (pv 0) (pa_cons pe_int pa_nil))) pe_int (nomark _)) pa_nil))))) -- row = [_law_take(source, p) * int(_law_take(source, 3) > 0) for k in range(many)]
        (pss_cons (ps_if (PW.pt (pw_and (pt_cmpR (LD.op_neK (K := K) rfl hr.units) (pv 3) (pe_lst pa_nil) (nomark _)) (pw_and1 (pt_cmpR op_eq (pv 5) pe_int (nomark _)))))
          (pss_cons (ps_asg (pe_tup (pa_cons (pe_dk d_law_one (hr.mono (by decide)) (by rfl) (pa_cons (pv 0) (pa_cons (pv 3) pa_nil))) (pa_cons (pe_dk d_law_take (hr.mono (by decide)) (by rfl) (pa_cons (pv 0) (pa_cons (pv 1) pa_nil))) pa_nil))) (pg_tup (by rfl) (pgs_cons (pg_name (i := 8) sc_law_matrix.nd rfl (by first | exact Or.inl rfl | exact Or.inr rfl)) (pgs_cons (pg_name (i := 9) sc_law_matrix.nd rfl (by first | exact Or.inl rfl | exact Or.inr rfl)) pgs_nil)))) -- other, factor = (_law_one(source, rows), _law_take(source, p))
          (pss_one (ps_setLc (i := 6) (own := [("number", 10)]) (g := (gName 10)) (tt := tYes) (by rfl) sc_law_matrix.nd rfl rfl (sw_true rfl rfl rfl (by decide +kernel)) (pi_list (pv 8)) (blkOk_by (own := [("number", 10)]) (N := n_law_matrix) (sc := defScope s_law_matrix) (by decide +kernel)) (fun _ _ _ _ _ => (pg_name (i := 10) sc_law_matrix.nd rfl (by first | exact Or.inl rfl | exact Or.inr rfl))) (fun _ _ _ _ _ => pts_nil) (fun _ _ _ _ _ => (pe_op op_mod (pe_callTy call_intI (by rfl) T.m_int (by decide +kernel) (pa_cons (pe_op op_mul (pv 10) (pv 9)) pa_nil)) (pv 1))))))
          (pss_one (ps_if (PW.pt (pw_and (pt_cmpR (LD.op_neK (K := K) rfl hr.units) (pv 3) (pe_lst pa_nil) (nomark _)) (pw_and1 (pt_cmpR op_eq (pv 5) pe_int (nomark _)))))
            (pss_cons (ps_asg (pe_tup (pa_cons (pe_dk d_law_one (hr.mono (by decide)) (by rfl) (pa_cons (pv 0) (pa_cons (pv 3) pa_nil))) (pa_cons (pe_dk d_law_one (hr.mono (by decide)) (by rfl) (pa_cons (pv 0) (pa_cons (pv 3) pa_nil))) pa_nil))) (pg_tup (by rfl) (pgs_cons (pg_name (i := 11) sc_law_matrix.nd rfl (by first | exact Or.inl rfl | exact Or.inr rfl)) (pgs_cons (pg_name (i := 8) sc_law_matrix.nd rfl (by first | exact Or.inl rfl | exact Or.inr rfl)) pgs_nil)))) -- one, other = (_law_one(source, rows), _law_one(source, rows))
            (pss_one (ps_setLc (i := 6) (own := [("k", 7)]) (g := (gName 7)) (tt := tYes) (by rfl) sc_law_matrix.nd rfl rfl (sw_true rfl rfl rfl (by decide +kernel)) (pi_range1 (by rfl) T.m_range (pa_cons (pv 2) pa_nil)) (blkOk_by (own := [("k", 7)]) (N := n_law_matrix) (sc := defScope s_law_matrix) (by decide +kernel)) (fun _ _ _ _ _ => (pg_name (i := 7) sc_law_matrix.nd rfl (by first | exact Or.inl rfl | exact Or.inr rfl))) (fun _ _ _ _ _ => pts_nil) (fun _ _ _ _ _ => (pe_op op_mod (pe_callTy call_intI (by rfl) T.m_int (by decide +kernel) (pa_cons (pe_op op_add (pe_ix (LD.ix_listK (K := K) rfl) (pv 11) (pv 7) (fun _ _ => rfl)) (pe_ix (LD.ix_listK (K := K) rfl) (pv 8) (pv 7) (fun _ _ => rfl))) pa_nil)) (pv 1))))))
            pss_nil))) -- if rows != [] and way == 0:
        (pss_one (ps_expr (pe_bm PySem.F.plainAttrs_list PySem.F.slot_list_append PySem.F.type_list_append mt_append (pv 3) (pa_cons (pv 6) pa_nil)))))))) -- for turn in range(_law_take(source, 8)):
      (pss_one (ps_ret (pe_callTy call_tuple_of (by rfl) T.m_tuple (by decide +kernel) (pa_cons (pe_lc (own := [("row", 6)]) (g := (gName 6)) (tt := tYes) (by rfl) sc_law_matrix.nd (pi_list (pe_dk d_law_mixed (hr.mono (by decide)) (by rfl) (pa_cons (pv 0) (pa_cons (pv 3) pa_nil)))) (blkOk_by (own := [("row", 6)]) (N := n_law_matrix) (sc := defScope s_law_matrix) (by decide +kernel)) (fun _ _ _ _ _ => (pg_name (i := 6) sc_law_matrix.nd rfl (by first | exact Or.inl rfl | exact Or.inr rfl))) (fun _ _ _ _ _ => pts_nil) (fun _ _ _ _ _ => (pe_callTy (T := "tuple") (r := rTupOf K) call_tuple_of (by rfl) T.m_tuple (by decide +kernel) (pa_cons (pv 6) pa_nil)))) pa_nil)))))), ?_⟩
  refine enter h (fun H0 M0 pl x pl0 hx => 
      (rs_seq (rs_set (re_lst ra_nil))
      (rs_seq (rs_for (rj_r1 (ra_cons (re_call rfl rfl rfl (ra_cons re_var (ra_cons re_int ra_nil))) ra_nil)) rg_name
        (rs_seq (rs_set (re_call rfl rfl rfl (ra_cons re_var (ra_cons re_int ra_nil))))
        (rs_seq (rs_setD (re_lc (ri_r1 (ra_cons re_var ra_nil)) rg_name (by decide) rt_yes (re_op od_mul (re_call rfl rfl rfl (ra_cons re_var (ra_cons re_var ra_nil))) (re_cb cd_intB (ra_cons (re_op od_gt (re_call rfl rfl rfl (ra_cons re_var (ra_cons re_int ra_nil))) re_int) ra_nil)))))
        (rs_seq (rs_if (rt_and (rt_test (re_op od_neD re_var (re_lst ra_nil))) (rt_test (re_op od_eq re_var re_int)))
          (rs_seq (rs_asg (re_tup (ra_cons (re_call rfl rfl rfl (ra_cons re_var (ra_cons re_var ra_nil))) (ra_cons (re_call rfl rfl rfl (ra_cons re_var (ra_cons re_var ra_nil))) ra_nil))) (rg_tup (rgs_cons rg_name (rgs_cons rg_name rgs_nil))))
          (rs_setD (re_lc (ri_list re_var) rg_name (by decide) rt_yes (re_op od_mod (re_cb cd_intI (ra_cons (re_op od_mul re_var re_var) ra_nil)) re_var))))
          (rs_if (rt_and (rt_test (re_op od_neD re_var (re_lst ra_nil))) (rt_test (re_op od_eq re_var re_int)))
            (rs_seq (rs_asg (re_tup (ra_cons (re_call rfl rfl rfl (ra_cons re_var (ra_cons re_var ra_nil))) (ra_cons (re_call rfl rfl rfl (ra_cons re_var (ra_cons re_var ra_nil))) ra_nil))) (rg_tup (rgs_cons rg_name (rgs_cons rg_name rgs_nil))))
            (rs_setD (re_lc (ri_r1 (ra_cons re_var ra_nil)) rg_name (by decide) rt_yes (re_op od_mod (re_cb cd_intI (ra_cons (re_op od_add (re_op od_ixL re_var re_var) (re_op od_ixL re_var re_var)) ra_nil)) re_var))))
            rs_next))
        (rs_app re_var)))))
      (rs_ret (re_cb cd_tupOf (ra_cons (re_lc (ri_list (re_call rfl rfl rfl (ra_cons re_var (ra_cons re_var ra_nil)))) rg_name (by decide) rt_yes (re_cb cd_tupOf (ra_cons re_var ra_nil))) ra_nil)))))) ?_ (fun as k x ⟨_, _, e, _⟩ => lenle e rfl)
  rintro _ k x ⟨p, many, rfl, p2, hp, hm, q⟩
  repeat refine ⟨_, rfl, ?_⟩
  refine ⟨by show 0 ≤ sizeLine; decide, ?_⟩
  repeat refine ⟨_, rfl, ?_⟩
  refine ⟨rfl, _, fun _ h => h, _, rfl, by decide, by decide, fun d d0 d1 => ?_⟩
  repeat refine ⟨_, rfl, ?_⟩
  refine ⟨by omega, by omega, fun i env => ∃ rows : List (List Int), ∃ o_turn o_way o_row o_k o_other o_factor o_number o_one : Option SV, env = [some (.pool), some (.dat (.int p)), some (.dat (.int (many : Nat))), some (.own (rows.map lisP)), o_turn, o_way, o_row, o_k, o_other, o_factor, o_number, o_one] ∧ Rc p i many rows, ⟨[], _, _, _, _, _, _, _, _, rfl, rfl, nofun⟩, ?_, ?_⟩
  · rintro i y env hy ⟨rows, o_turn, o_way, o_row, o_k, o_other, o_factor, o_number, o_one, rfl, R0⟩
    have hi : i < 8 := by
      have := (List.getElem?_eq_some_iff.mp hy).1
      rw [ints_len] at this
      omega
    have hl := R0.len
    repeat refine ⟨_, rfl, ?_⟩
    refine ⟨rfl, _, fun _ h => h, _, rfl, by decide, by decide, fun wy w0 w1 => ?_⟩
    repeat refine ⟨_, rfl, ?_⟩
    refine ⟨by omega, by omega, by rw [ints_len, sizeLine_eq]; omega, comp_any (P := fun _ y => ∃ i : Int, y = .int i ∧ 0 ≤ i ∧ i < p) (fun d hd => ⟨_, rfl, fun K hK => ?_⟩) fun ys hy => ?_⟩
    · repeat refine ⟨_, rfl, ?_⟩
      refine ⟨rfl, _, fun _ h => h, _, rfl, by omega, by omega, fun d d0 d1 => ?_⟩
      repeat refine ⟨_, rfl, ?_⟩
      refine ⟨rfl, _, fun _ h => h, _, rfl, by decide, by decide, fun e e0 e1 => ?_⟩
      repeat refine ⟨_, rfl, ?_⟩
      refine ⟨.inl ⟨by omega, by omega⟩, ?_⟩
      refine hK _ _ rfl ⟨_, rfl, ?_⟩
      cases decide (0 < e)
      · show 0 ≤ d * 0 ∧ d * 0 < p
        omega
      · show 0 ≤ d * 1 ∧ d * 1 < p
        omega
    obtain ⟨row, rfl, rl, rb⟩ := two_rows hy
    rw [ints_len] at rl
    repeat refine ⟨_, rfl, ?_⟩
    refine ⟨by show 0 ≤ sizeLine; decide, _, rfl, _, rfl, lol_sh (fun d hd => by obtain ⟨r, _, rfl⟩ := List.mem_map.mp hd; exact ⟨r, rfl⟩), by decide, _, rfl, ?_⟩
    rw [eqv_nil]
    refine and_cut (decide (wy = 0)) (fun h => ⟨_, rfl, .inl ⟨_, rfl, _, rfl, _, rfl, h⟩⟩) ?_
    have ne : ∀ b : Bool, (!((rows.map lisP).isEmpty) && b) = true → 0 < rows.length := fun b h => by
      cases rows with
      | nil => cases h
      | cons r rs => exact Nat.succ_pos _
    have rowsAt : ∀ d ∈ rows.map lisP, ∃ r : List Int, d = lisP r ∧ r.length = many ∧ ∀ x ∈ r, 0 ≤ x ∧ x < p := fun d hd => by
      obtain ⟨r, hr, rfl⟩ := List.mem_map.mp hd
      exact ⟨r, rfl, R0.row r hr⟩
    refine if_joinD (S := fun env' => ∃ r : List Int, ∃ o_k o_other o_factor o_number o_one : Option SV, env' = [some (.pool), some (.dat (.int p)), some (.dat (.int (many : Nat))), some (.own (rows.map lisP)), some (.dat y), some (.dat (.int wy)), some (.dat (lisP r)), o_k, o_other, o_factor, o_number, o_one] ∧ r.length = many ∧ ∀ x ∈ r, 0 ≤ x ∧ x < p) (fun kk hc => ?_) (fun kk hc => ?_) ?_
    · repeat refine ⟨_, rfl, ?_⟩
      refine ⟨rfl, _, fun _ h => h, _, rfl, by rw [List.length_map]; exact ne _ hc, by rw [List.length_map]; omega, fun dd hdd => ?_⟩
      obtain ⟨r1, rfl, l1, b1⟩ := rowsAt dd hdd
      repeat refine ⟨_, rfl, ?_⟩
      refine ⟨rfl, _, fun _ h => h, _, rfl, by omega, by omega, fun fc f0 f1 => ?_⟩
      repeat (first | refine ⟨_, rfl, ?_⟩ | refine ⟨by rw [sizeLine_eq]; exact Nat.le_of_ble_eq_true rfl, ?_⟩ | refine ⟨_, .inl rfl, ?_⟩ | refine ⟨_, _, _, _, rfl, rfl, rfl, ?_⟩)
      refine ⟨by rw [List.length_map, sizeLine_eq]; omega, comp_map (f := fun d => match d with | .int z => .int (z * fc % p) | _ => .none) (fun d hd => ?_) ?_⟩
      · obtain ⟨z, hz, rfl⟩ := List.mem_map.mp hd
        have := b1 z hz
        refine ⟨_, rfl, fun K hK => ?_⟩
        repeat refine ⟨_, rfl, ?_⟩
        refine ⟨.inl ⟨by omega, by omega⟩, ?_⟩
        repeat refine ⟨_, rfl, ?_⟩
        exact ⟨by show 0 < p; omega, hK _ rfl⟩
      have e : [] ++ (r1.map PyData.int).map (fun d => match d with | .int z => .int (z * fc % p) | _ => .none) = (r1.map fun z => z * fc % p).map PyData.int := by
        rw [List.nil_append, List.map_map, List.map_map]
        rfl
      rw [e]
      refine ⟨_, rfl, kk _ ⟨r1.map fun z => z * fc % p, _, _, _, _, _, rfl, by rw [List.length_map]; exact l1, fun x hx => ?_⟩⟩
      obtain ⟨z, _, rfl⟩ := List.mem_map.mp hx
      exact md p2 _
    · repeat refine ⟨_, rfl, ?_⟩
      refine ⟨by show 0 ≤ sizeLine; decide, _, rfl, _, rfl, lol_sh (fun d hd => by obtain ⟨r, _, rfl⟩ := List.mem_map.mp hd; exact ⟨r, rfl⟩), by decide, _, rfl, ?_⟩
      rw [eqv_nil]
      refine and_cut (decide (wy = 1)) (fun h => ⟨_, rfl, .inl ⟨_, rfl, _, rfl, _, rfl, h⟩⟩) ?_
      refine iteB (fun hc => ?_) (fun hc => ?_)
      · repeat refine ⟨_, rfl, ?_⟩
        refine ⟨rfl, _, fun _ h => h, _, rfl, by rw [List.length_map]; exact ne _ hc, by rw [List.length_map]; omega, fun dd hdd => ?_⟩
        obtain ⟨r1, rfl, l1, b1⟩ := rowsAt dd hdd
        repeat refine ⟨_, rfl, ?_⟩
        refine ⟨rfl, _, fun _ h => h, _, rfl, by rw [List.length_map]; exact ne _ hc, by rw [List.length_map]; omega, fun dd2 hdd2 => ?_⟩
        obtain ⟨r2, rfl, l2, b2⟩ := rowsAt dd2 hdd2
        repeat (first | refine ⟨_, rfl, ?_⟩ | refine ⟨by rw [sizeLine_eq]; exact Nat.le_of_ble_eq_true rfl, ?_⟩ | refine ⟨_, .inl rfl, ?_⟩ | refine ⟨_, _, _, _, rfl, rfl, rfl, ?_⟩)
        refine ⟨by omega, by omega, by rw [ints_len, sizeLine_eq]; omega, comp_map (f := fun d => match d with | .int k => .int ((r1.getD k.toNat 0 + r2.getD k.toNat 0) % p) | _ => .none) (fun d hd => ?_) ?_⟩
        · obtain ⟨j, hj, rfl⟩ := ints_mem hd
          rw [Int.zero_add]
          refine ⟨_, rfl, fun K hK => ?_⟩
          repeat refine ⟨_, rfl, ?_⟩
          refine ⟨_, at_row (by omega) (by omega), ?_⟩
          repeat refine ⟨_, rfl, ?_⟩
          refine ⟨_, at_row (by omega) (by omega), ?_⟩
          rw [Int.toNat_natCast]
          repeat refine ⟨_, rfl, ?_⟩
          exact ⟨by show 0 < p; omega, hK _ rfl⟩
        have e : [] ++ (DL.intsFrom 0 ((many : Int)).toNat).map (fun d => match d with | .int k => .int ((r1.getD k.toNat 0 + r2.getD k.toNat 0) % p) | _ => .none) = ((List.range many).map fun k => (r1.getD k 0 + r2.getD k 0) % p).map PyData.int := by
          rw [List.nil_append, ints_nat, List.map_map, List.map_map]
          rfl
        rw [e]
        refine ⟨_, rfl, kk _ ⟨(List.range many).map fun k => (r1.getD k 0 + r2.getD k 0) % p, _, _, _, _, _, rfl, by rw [List.length_map, List.length_range], fun x hx => ?_⟩⟩
        obtain ⟨z, _, rfl⟩ := List.mem_map.mp hx
        exact md p2 _
      · exact kk _ ⟨row, _, _, _, _, _, rfl, by omega, rb⟩
    · rintro _ ⟨r, o_k, o_other, o_factor, o_number, o_one, rfl, r1, r2⟩
      repeat refine ⟨_, rfl, ?_⟩
      refine ⟨by rw [List.length_map, sizeLine_eq]; omega, ?_⟩
      exact ⟨rows ++ [r], _, _, _, _, _, _, _, _, by rw [List.map_append]; rfl, by rw [List.length_append]; show _ + 1 = _; omega, fun z hz => by
        rcases List.mem_append.mp hz with h | h
        · exact R0.row z h
        · rw [List.mem_singleton.mp h]; exact ⟨r1, r2⟩⟩
  · rintro env ⟨rows, o_turn, o_way, o_row, o_k, o_other, o_factor, o_number, o_one, rfl, R0⟩
    rw [ints_len] at R0
    have hl := R0.len
    repeat refine ⟨_, rfl, ?_⟩
    refine ⟨rfl, _, fun _ h => h, _, rfl, by rw [List.length_map]; omega, fun ys hy => ?_⟩
    obtain ⟨R1, rfl, hp1⟩ : ∃ R1 : List (List Int), ys = R1.map lisP ∧ R1.Perm rows := perm_map hy
    repeat refine ⟨_, rfl, ?_⟩
    have R2 : Rc p d.toNat many R1 := ⟨by rw [hp1.length_eq]; exact hl, fun r hr => R0.row r (hp1.mem_iff.mp hr)⟩
    have hl2 := R2.len
    refine ⟨by rw [List.length_map, sizeLine_eq]; omega, comp_map (f := fun d => match d with | .list ds => .tuple ds | _ => .none) (fun d hd => ?_) ?_⟩
    · obtain ⟨r, hr, rfl⟩ := List.mem_map.mp hd
      refine ⟨_, rfl, fun K hK => ?_⟩
      repeat refine ⟨_, rfl, ?_⟩
      exact ⟨_, .inl rfl, hK _ rfl⟩
    have e : [] ++ (R1.map lisP).map (fun d => match d with | .list ds => .tuple ds | _ => .none) = R1.map rowP := by
      rw [List.nil_append, List.map_map]
      rfl
    rw [e]
    repeat refine ⟨_, rfl, ?_⟩
    exact ⟨_, .inl rfl, _, rfl, q _ _ (by omega) R2⟩
end
end KK
set_option maxHeartbeats 8000000
namespace KK
open PySem L2 LW GX LD DL SH K00 LA
section
variable {P : Program} {w : World} {K : PySem.W.Frag} {mg : Str → Option Value} {base : Heap} {Ts : List Addr} {Tl : List (Addr × Str)}
def m_law_right : Pm := fun as k _ => ∃ (p : Int) (s many : Nat) (cs : List (List Int)), as = [.dat (datP cs), .dat (.int (many : Nat)), .dat (.int p)] ∧ isP p = true ∧ p ≤ 65521 ∧ s ≤ 40 ∧ many ≤ 40 ∧ Rc p s many cs ∧ k (.v (.bool true))
theorem comp_no {gd : PyData → DL.Env → Option DL.Env} {T : DTe} {E : DE} {we : DL.Env} {ds : List PyData} {k : List PyData → Prop} (h : ∀ x ∈ ds, ∃ env', gd x we = some env' ∧ ∀ K : Bool → Prop, K false → T env' K) (q : k []) : compD gd T E we ds [] k := by
  refine comp_if (c := fun _ => false) (f := id) (fun x hx => ?_) ?_
  · obtain ⟨e, e1, e2⟩ := h x hx
    exact ⟨e, e1, e2, nofun⟩
  · rw [List.filter_eq_nil_iff.mpr fun _ _ => Bool.false_ne_true]
    exact q
theorem ok_law_right {f : Addr} {fd : FuncData} (F : Fun K "_law_right" "_law_right" s_law_right f fd) (T : Tx mg)
    (d_law_free_rows : Dk P w K mg base 2 "_law_free_rows" ["matrix", "p"] (spD K Ts Tl m_law_free_rows))
    (d_left_inverse : Dk P w K mg base 7 "left_inverse" ["matrix", "many", "p"] (spD K Ts Tl m_left_inverse))
    (d_law_is_number : Dk P w K mg base 1 "_law_is_number" ["thing", "p"] (spD K Ts Tl m_law_is_number)) :
    FnOk P w K mg base CX0 8 f fd ["matrix", "many", "p"] (spD K Ts Tl m_law_right) := by
  refine F.ok sc_law_right (fun vs H Q E h => len_of h fun as k x ⟨_, _, _, _, e, _⟩ => leneq e rfl) (fun cdv A outer s H vs Q E hr h => ?_)
  refine ⟨_, /- slots 0:matrix 1:many 2:p 3:free 4:told 5:i 6:row 7:number 8:at 9:k -/
      (pss_cons (ps_asg (pe_tup (pa_cons (pe_dk d_law_free_rows (hr.mono (by decide)) (by rfl) (pa_cons (pv 0) (pa_cons (pv 2) pa_nil))) (pa_cons (pe_dk d_left_inverse (hr.mono (by decide)) (by rfl) (pa_cons (pv 0) (pa_cons (pv 1) (pa_cons (pv 2) pa_nil)))) pa_nil))) (pg_tup (by rfl) (pgs_cons (pg_name (i := 3) sc_law_right.nd rfl (by first | exact Or.inl rfl | exact Or.inr rfl)) (pgs_cons (pg_name (i := 4) sc_law_right.nd rfl (by first | exact Or.inl rfl | exact Or.inr rfl)) pgs_nil)))) -- free, told = (_law_free_rows(matrix, p), left_inverse(matrix, many, p))
      (pss_cons (ps_if (pt_cmpR op_lt (pe_callB call_lenL (by rfl) T.m_len (by decide +kernel) (pa_cons (pv 3) pa_nil)) (pv 1) (nomark _))
        (pss_one (ps_ret (pe_and (pe_cmp (pc_isN (pv 4))) (pe_one (pe_cmp (pc_isN (pe_dk d_left_inverse (hr.mono (by decide)) (by rfl) (pa_cons (pv 0) (pa_cons (pv 1) (pa_cons (pv 2) pa_nil))))))))))
        pss_nil) -- if len(free) < many:
      (pss_cons (ps_if (PW.pt (pw_or (pt_not (pt_val (pe_callB call_isi (by rfl) T.m_isinstance (by decide +kernel) (pa_cons (pv 4) (pa_cons (pe_bltn (v := .ty "tuple") (by rfl) T.m_tuple (by decide +kernel) rfl) pa_nil))))) (pw_or1 (pt_cmpR op_ne (pe_callB call_lenT (by rfl) T.m_len (by decide +kernel) (pa_cons (pv 4) pa_nil)) (pv 1) (nomark _)))))
        (pss_one (ps_ret pe_bl))
        pss_nil) -- if not isinstance(told, tuple) or len(told) != many:
      (pss_cons (ps_for PassesOwn.never rfl (pi_range1 (by rfl) T.m_range (pa_cons (pv 1) pa_nil)) (pg_name (i := 5) sc_law_right.nd rfl (by first | exact Or.inl rfl | exact Or.inr rfl))
        (pss_cons (ps_set (i := 6) sc_law_right.nd rfl (by first | exact Or.inl rfl | exact Or.inr rfl) (pe_ix ix_tup (pv 4) (pv 5) (fun _ _ => rfl))) -- row = told[i]
        (pss_cons (ps_if (PW.pt (pw_or (pt_not (pt_val (pe_callB call_isi (by rfl) T.m_isinstance (by decide +kernel) (pa_cons (pv 6) (pa_cons (pe_bltn (v := .ty "tuple") (by rfl) T.m_tuple (by decide +kernel) rfl) pa_nil))))) (pw_or1 (pt_cmpR op_ne (pe_callB call_lenT (by rfl) T.m_len (by decide +kernel) (pa_cons (pv 6) pa_nil)) (pe_callB call_lenT (by rfl) T.m_len (by decide +kernel) (pa_cons (pv 0) pa_nil)) (nomark _)))))
          (pss_one (ps_ret pe_bl))
          pss_nil) -- if not isinstance(row, tuple) or len(row) != len(matrix):
        (pss_cons (ps_if (pt_cmpR (LD.op_neK (K := K) rfl hr.units) (pe_lc (own := [("number", 7)]) (g := (gName 7)) (by rfl) sc_law_right.nd (pi_tup (pv 6)) (blkOk_by (own := [("number", 7)]) (N := n_law_right) (sc := defScope s_law_right) (by decide +kernel)) (fun _ _ _ _ _ => (pg_name (i := 7) sc_law_right.nd rfl (by first | exact Or.inl rfl | exact Or.inr rfl))) (fun _ _ _ _ _ => (pts_one (pt_not (pt_val (pe_dk d_law_is_number (hr.mono (by decide)) (by rfl) (pa_cons (pv 7) (pa_cons (pv 2) pa_nil))))))) (fun _ _ _ _ _ => (pv 7))) (pe_lst pa_nil) (nomark _))
          (pss_one (ps_ret pe_bl))
          pss_nil) -- if [number for number in row if not _law_is_number(number, p)] != []:
        (pss_cons (ps_if (pt_cmpR (LD.op_neK (K := K) rfl hr.units) (pe_lc (own := [("at", 8)]) (g := (gName 8)) (by rfl) sc_law_right.nd (pi_range1 (by rfl) T.m_range (pa_cons (pe_callB call_lenT (by rfl) T.m_len (by decide +kernel) (pa_cons (pv 6) pa_nil)) pa_nil)) (blkOk_by (own := [("at", 8)]) (N := n_law_right) (sc := defScope s_law_right) (by decide +kernel)) (fun _ _ _ _ _ => (pg_name (i := 8) sc_law_right.nd rfl (by first | exact Or.inl rfl | exact Or.inr rfl))) (fun _ _ _ _ _ => (pts_one (PW.pt (pw_and (pt_cmpR op_ne (pe_ix (LD.ix_tupK (K := K) rfl) (pv 6) (pv 8) (fun _ _ => rfl)) pe_int (nomark _)) (pw_and1 (pt_cmpR (LD.op_notInK (K := K) rfl) (pv 8) (pv 3) (by with_unfolding_all rfl))))))) (fun _ _ _ _ _ => (pv 8))) (pe_lst pa_nil) (nomark _))
          (pss_one (ps_ret pe_bl))
          pss_nil) -- if [at for at in range(len(row)) if row[at] != 0 and at not in free] != []:
        (pss_one (ps_for PassesOwn.never rfl (pi_range1 (by rfl) T.m_range (pa_cons (pv 1) pa_nil)) (pg_name (i := 9) sc_law_right.nd rfl (by first | exact Or.inl rfl | exact Or.inr rfl))
          (pss_one (ps_if (pt_cmpR op_ne (pe_op op_mod (pe_callTy call_intI (by rfl) T.m_int (by decide +kernel) (pa_cons (pe_callB (id := "sum") (r := rSum K) (cr_sum (by rfl)) (by rfl) T.m_sum (by decide +kernel) (pa_cons (pe_lc (own := [("at", 8)]) (g := (gName 8)) (tt := tYes) (by rfl) sc_law_right.nd (pi_range1 (by rfl) T.m_range (pa_cons (pe_callB call_lenT (by rfl) T.m_len (by decide +kernel) (pa_cons (pv 6) pa_nil)) pa_nil)) (blkOk_by (own := [("at", 8)]) (N := n_law_right) (sc := defScope s_law_right) (by decide +kernel)) (fun _ _ _ _ _ => (pg_name (i := 8) sc_law_right.nd rfl (by first | exact Or.inl rfl | exact Or.inr rfl))) (fun _ _ _ _ _ => pts_nil) (fun _ _ _ _ _ => (pe_op op_mul (pe_ix (LD.ix_tupK (K := K) rfl) (pv 6) (pv 8) (fun _ _ => rfl)) (pe_ix (LD.ix_tupK (K := K) rfl) (pe_ix (LD.ix_tupK (K := K) rfl) (pv 0) (pv 8) (fun _ _ => rfl)) (pv 9) (fun _ _ => rfl))))) pa_nil)) pa_nil)) (pv 2)) (pe_callTy call_intB (by rfl) T.m_int (by decide +kernel) (pa_cons (pe_cmpR op_eq (pv 5) (pv 9) (nomark _)) pa_nil)) (nomark _))
            (pss_one (ps_ret pe_bl))
            pss_nil))))))))) -- for i in range(many):
      (pss_one (ps_ret (pe_cmpR (LD.op_eqK (K := K) rfl hr.units) (pe_dk d_left_inverse (hr.mono (by decide)) (by rfl) (pa_cons (pv 0) (pa_cons (pv 1) (pa_cons (pv 2) pa_nil)))) (pv 4) (nomark _)))))))), ?_⟩
  refine enter h (fun H0 M0 pl x pl0 hx => 
      (rs_seq (rs_asg (re_tup (ra_cons (re_call rfl rfl rfl (ra_cons re_var (ra_cons re_var ra_nil))) (ra_cons (re_call rfl rfl rfl (ra_cons re_var (ra_cons re_var (ra_cons re_var ra_nil)))) ra_nil))) (rg_tup (rgs_cons rg_name (rgs_cons rg_name rgs_nil))))
      (rs_seq (rs_if (rt_test (re_op od_lt (re_cb cd_lenL (ra_cons re_var ra_nil)) re_var))
        (rs_ret (re_and (re_isN re_var) (re_isN (re_call rfl rfl rfl (ra_cons re_var (ra_cons re_var (ra_cons re_var ra_nil)))))))
        rs_next)
      (rs_seq (rs_if (rt_or (rt_not (rt_b (re_isi_tuple re_var))) (rt_test (re_op od_ne (re_cb cd_lenT (ra_cons re_var ra_nil)) re_var)))
        (rs_ret re_bl)
        rs_next)
      (rs_seq (rs_for (rj_r1 (ra_cons re_var ra_nil)) rg_name
        (rs_seq (rs_set (re_op od_ixT re_var re_var))
        (rs_seq (rs_if (rt_or (rt_not (rt_b (re_isi_tuple re_var))) (rt_test (re_op od_ne (re_cb cd_lenT (ra_cons re_var ra_nil)) (re_cb cd_lenT (ra_cons re_var ra_nil)))))
          (rs_ret re_bl)
          rs_next)
        (rs_seq (rs_if (rt_test (re_op od_neD (re_lc (ri_tup re_var) rg_name (by decide) (rt_not (rt_b (re_call rfl rfl rfl (ra_cons re_var (ra_cons re_var ra_nil))))) re_var) (re_lst ra_nil)))
          (rs_ret re_bl)
          rs_next)
        (rs_seq (rs_if (rt_test (re_op od_neD (re_lc (ri_r1 (ra_cons (re_cb cd_lenT (ra_cons re_var ra_nil)) ra_nil)) rg_name (by decide) (rt_and (rt_test (re_op od_ne (re_op od_ixT re_var re_var) re_int)) (rt_test (re_op od_in re_var re_var))) re_var) (re_lst ra_nil)))
          (rs_ret re_bl)
          rs_next)
        (rs_for (rj_r1 (ra_cons re_var ra_nil)) rg_name
          (rs_if (rt_test (re_op od_ne (re_op od_mod (re_cb cd_intI (ra_cons (re_cb cd_sum (ra_cons (re_lc (ri_r1 (ra_cons (re_cb cd_lenT (ra_cons re_var ra_nil)) ra_nil)) rg_name (by decide) rt_yes (re_op od_mul (re_op od_ixT re_var re_var) (re_op od_ixT (re_op od_ixT re_var re_var) re_var))) ra_nil)) ra_nil)) re_var) (re_cb cd_intB (ra_cons (re_op od_eq re_var re_var) ra_nil))))
            (rs_ret re_bl)
            rs_next)))))))
      (rs_ret (re_op od_eqD (re_call rfl rfl rfl (ra_cons re_var (ra_cons re_var (ra_cons re_var ra_nil)))) re_var))))))) ?_ (fun as k x ⟨_, _, _, _, e, _⟩ => lenle e rfl)
  rintro _ k x ⟨p, s, many, cs, rfl, hP, hp, hs, hm, R0, q⟩
  have p2 := isP_ge hP
  have hl := R0.len
  have hr : ∀ r ∈ cs, r.length = many := fun r h => (R0.row r h).1
  repeat refine ⟨_, rfl, ?_⟩
  refine ⟨rfl, _, fun _ h => h, p, s, many, cs, rfl, hP, hp, hs, hm, R0, ?_⟩
  repeat refine ⟨_, rfl, ?_⟩
  refine ⟨rfl, _, fun _ h => h, p, cs, many, rfl, hP, hp, by omega, hm, hr, ?_⟩
  have Fr := free_ok hP hp hl hr
  have IO := fun h => inv_ok hP hp hl hr h
  unfold leftInv
  have nl' := nats_len (l := freeP p cs many)
  have hfl := Fr.len
  generalize hpl : freeP p cs many = pl at *
  repeat (first | refine ⟨_, rfl, ?_⟩ | refine ⟨by rw [sizeLine_eq]; exact Nat.le_of_ble_eq_true rfl, ?_⟩ | refine ⟨_, .inl rfl, ?_⟩ | refine ⟨_, _, _, _, rfl, rfl, rfl, ?_⟩)
  rw [nl']
  refine iteD (fun z => ?_) (fun z => ?_)
  · rw [if_pos (by omega)]
    repeat refine ⟨_, rfl, ?_⟩
    refine ⟨rfl, _, fun _ h => h, p, cs, many, rfl, hP, hp, by omega, hm, hr, ?_⟩
    unfold leftInv
    rw [hpl, if_pos (by omega)]
    repeat refine ⟨_, rfl, ?_⟩
    exact q
  have hpe : pl.length = many := by omega
  have IO := IO hpe
  rw [if_neg (by omega)]
  dsimp only
  generalize hW : invL p cs many = W at *
  have W0 := IO.rc
  have hWl := W0.len
  repeat refine ⟨_, rfl, ?_⟩
  refine .inl ⟨_, rfl, _, rfl, _, rfl, iteF (by rw [List.length_map, hWl]; exact nee rfl) ?_⟩
  repeat refine ⟨_, rfl, ?_⟩
  refine ⟨by omega, by omega, fun i env => ∃ o_i o_row o_number o_at o_k : Option SV, env = [some (.dat (datP cs)), some (.dat (.int (many : Nat))), some (.dat (.int p)), some (.dat (.list (natsP pl))), some (.dat (datP W)), o_i, o_row, o_number, o_at, o_k], ⟨_, _, _, _, _, rfl⟩, ?_, ?_⟩
  · rintro i y env hy ⟨o_i, o_row, o_number, o_at, o_k, rfl⟩
    have hi : i < many := by
      have := (List.getElem?_eq_some_iff.mp hy).1
      rw [ints_len] at this
      omega
    obtain rfl : y = .int (i : Nat) := by
      rw [ints_get (by omega)] at hy
      cases hy
      rw [Int.zero_add]
    have hrl := W0.rl hi
    have hrb : ∀ j, j < s → 0 ≤ (W.getD i []).getD j 0 ∧ (W.getD i []).getD j 0 < p := fun j hj => W0.en hi hj
    repeat refine ⟨_, rfl, ?_⟩
    refine ⟨_, at_rows (by omega) (by omega), ?_⟩
    rw [Int.toNat_natCast]
    generalize hrow : W.getD i [] = row at *
    repeat refine ⟨_, rfl, ?_⟩
    refine .inl ⟨_, rfl, _, rfl, _, rfl, iteF (by rw [List.length_map, List.length_map, hrl, hl]; exact nee rfl) ?_⟩
    repeat refine ⟨_, rfl, ?_⟩
    refine ⟨by rw [List.length_map, sizeLine_eq]; omega, comp_no (fun d hd => ?_) ?_⟩
    · obtain ⟨j, hj, e⟩ := List.getElem_of_mem hd
      rw [List.length_map] at hj
      rw [List.getElem_map] at e
      subst e
      have hb := hrb j (by omega)
      rw [gd_at (by omega)] at hb
      refine ⟨_, rfl, fun K hK => ?_⟩
      repeat refine ⟨_, rfl, ?_⟩
      refine ⟨rfl, _, fun _ h => h, _, _, rfl, ?_⟩
      rw [decide_eq_true hb]
      repeat refine ⟨_, rfl, ?_⟩
      exact hK
    repeat refine ⟨_, rfl, ?_⟩
    refine ⟨by show 0 ≤ sizeLine; decide, _, rfl, _, rfl, by decide, by decide, _, rfl, iteF (by rw [eqv_nil]; rfl) ?_⟩
    repeat refine ⟨_, rfl, ?_⟩
    refine ⟨by omega, by rw [List.length_map]; omega, by rw [ints_len, List.length_map, sizeLine_eq]; omega, comp_no (fun d hd => ?_) ?_⟩
    · rw [List.length_map] at hd
      obtain ⟨j, hj, rfl⟩ := ints_mem hd
      rw [Int.zero_add]
      have hj : j < s := by omega
      refine ⟨_, rfl, fun K hK => ?_⟩
      repeat refine ⟨_, rfl, ?_⟩
      refine ⟨_, at_row (by omega) (by omega), ?_⟩
      rw [Int.toNat_natCast]
      repeat refine ⟨_, rfl, ?_⟩
      refine .inl ⟨_, rfl, _, rfl, _, rfl, ?_⟩
      refine and_cutK (!decide (j ∈ pl)) (fun h => ?_) ?_
      · repeat refine ⟨_, rfl, ?_⟩
        refine ⟨_, .inl rfl, rfl, nats_flat pl, _, rfl, ?_⟩
        rw [nats_in]
        exact h
      · have := fun h => IO.no i j hi hj h
        unfold en at this
        rw [hrow] at this
        by_cases w : j ∈ pl
        · rw [decide_eq_true w, Bool.not_true, Bool.and_false]
          exact hK
        · rw [this w]
          exact hK
    repeat refine ⟨_, rfl, ?_⟩
    refine ⟨by show 0 ≤ sizeLine; decide, _, rfl, _, rfl, by decide, by decide, _, rfl, iteF (by rw [eqv_nil]; rfl) ?_⟩
    repeat refine ⟨_, rfl, ?_⟩
    refine ⟨by omega, by omega, fun t env => ∃ o_number o_at o_k : Option SV, env = [some (.dat (datP cs)), some (.dat (.int (many : Nat))), some (.dat (.int p)), some (.dat (.list (natsP pl))), some (.dat (datP W)), some (.dat (.int (i : Nat))), some (.dat (rowP row)), o_number, o_at, o_k], ⟨_, _, _, rfl⟩, ?_, ?_⟩
    · rintro t y env hy ⟨o_number, o_at, o_k, rfl⟩
      have ht : t < many := by
        have := (List.getElem?_eq_some_iff.mp hy).1
        rw [ints_len] at this
        omega
      obtain rfl : y = .int (t : Nat) := by
        rw [ints_get (by omega)] at hy
        cases hy
        rw [Int.zero_add]
      repeat refine ⟨_, rfl, ?_⟩
      refine ⟨by omega, by rw [List.length_map]; omega, by rw [ints_len, List.length_map, sizeLine_eq]; omega, comp_map (f := fun d => match d with | .int a => .int (row.getD a.toNat 0 * (cs.getD a.toNat []).getD t 0) | _ => .none) (fun d hd => ?_) ?_⟩
      · rw [List.length_map] at hd
        obtain ⟨j, hj, rfl⟩ := ints_mem hd
        rw [Int.zero_add]
        have hj : j < s := by omega
        refine ⟨_, rfl, fun K hK => ?_⟩
        repeat refine ⟨_, rfl, ?_⟩
        refine ⟨_, at_row (by omega) (by omega), ?_⟩
        repeat refine ⟨_, rfl, ?_⟩
        refine ⟨_, at_rows (by omega) (by omega), ?_⟩
        repeat refine ⟨_, rfl, ?_⟩
        refine ⟨_, at_row (by omega) (by rw [Int.toNat_natCast, R0.rl hj]; omega), ?_⟩
        rw [Int.toNat_natCast, Int.toNat_natCast]
        have := hrb j hj
        repeat refine ⟨_, rfl, ?_⟩
        exact ⟨.inl ⟨by omega, by omega⟩, hK _ rfl⟩
      have e : [] ++ (DL.intsFrom 0 (((row.map PyData.int).length : Int)).toNat).map (fun d => match d with | .int a => .int (row.getD a.toNat 0 * (cs.getD a.toNat []).getD t 0) | _ => .none) = ((List.range s).map fun a => row.getD a 0 * en cs a t).map PyData.int := by
        rw [List.nil_append, List.length_map, hrl, ints_nat, List.map_map, List.map_map]
        rfl
      rw [e]
      repeat refine ⟨_, rfl, ?_⟩
      refine ⟨by show 0 < p; omega, ?_⟩
      rw [sum_smL]
      have hI := IO.one i t hi ht
      have eW : ∀ a, en W i a = row.getD a 0 := fun a => by unfold en; rw [hrow]
      simp only [eW] at hI
      have em : sm s (fun a => row.getD a 0 * en cs a t) % p = if i = t then 1 else 0 := by
        have h1 := md (p := p) p2 (sm s (fun a => row.getD a 0 * en cs a t))
        have h4 : (sm s (fun a => row.getD a 0 * en cs a t)) % p = (if i = t then (1 : Int) else 0) % p := Int.emod_eq_emod_iff_emod_sub_eq_zero.mpr (Int.emod_eq_zero_of_dvd hI)
        rw [h4, Int.emod_eq_of_lt] <;> split <;> omega
      repeat refine ⟨_, rfl, ?_⟩
      refine .inl ⟨_, rfl, _, rfl, ?_⟩
      repeat refine ⟨_, rfl, ?_⟩
      refine .inl ⟨_, rfl, _, rfl, _, rfl, iteF ?_ ?_⟩
      · show (!decide (sm s (fun a => row.getD a 0 * en cs a t) % p = if decide ((i : Int) = (t : Int)) = true then 1 else 0)) = false
        rw [em]
        by_cases w : i = t
        · rw [if_pos w, decide_eq_true (show (i : Int) = t by omega)]
          rfl
        · rw [if_neg w, decide_eq_false (show ¬ (i : Int) = t by omega)]
          rfl
      exact ⟨_, _, _, rfl⟩
    · rintro env ⟨o_number, o_at, o_k, rfl⟩
      exact ⟨_, _, _, _, _, rfl⟩
  · rintro env ⟨o_i, o_row, o_number, o_at, o_k, rfl⟩
    repeat refine ⟨_, rfl, ?_⟩
    refine ⟨rfl, _, fun _ h => h, p, cs, many, rfl, hP, hp, by omega, hm, hr, ?_⟩
    unfold leftInv
    rw [hpl, if_neg (by omega), hW]
    have shW : SeqAt.shaped (datP W) = true := okd_shaped (okd_dat (m := 0) (by omega) fun c hc => ⟨by rw [(W0.row c hc).1]; omega, fun x hx => by have := (W0.row c hc).2 x hx; omega⟩) (by decide)
    repeat refine ⟨_, rfl, ?_⟩
    refine ⟨shW, shW, _, rfl, ?_⟩
    show k (.v (.bool (PyData.eqv (datP W) (datP W))))
    rw [eqv_dat, decide_eq_true rfl]
    exact q
end
end KK
set_option maxHeartbeats 8000000
namespace KK
open PySem L2 LW GX LD DL SH K00 LA
section
variable {P : Program} {w : World} {K : PySem.W.Frag} {mg : Str → Option Value} {base : Heap} {Ts : List Addr} {Tl : List (Addr × Str)}
def m_law_solved_right : Pm := fun as k _ => ∃ (p : Int) (s many : Nat) (cs : List (List Int)), as = [.pool, .dat (datP cs), .dat (.int (many : Nat)), .dat (.int p)] ∧ isP p = true ∧ p ≤ 65521 ∧ s ≤ 40 ∧ many ≤ 40 ∧ Rc p s many cs ∧ k (.v (.bool true))
theorem ok_law_solved_right {f : Addr} {fd : FuncData} (F : Fun K "_law_solved_right" "_law_solved_right" s_law_solved_right f fd) (T : Tx mg)
    (d_solved : Dk P w K mg base 6 "solved" ["matrix", "many", "right", "p"] (spD K Ts Tl m_solved))
    (d_law_one : Dk P w K mg base 2 "_law_one" ["source", "things"] (spD K Ts Tl mOne))
    (d_law_free_rows : Dk P w K mg base 2 "_law_free_rows" ["matrix", "p"] (spD K Ts Tl m_law_free_rows))
    (d_law_take : Dk P w K mg base 1 "_law_take" ["source", "top"] (spD K Ts Tl mTake)) :
    FnOk P w K mg base CX0 7 f fd ["source", "matrix", "many", "p"] (spD K Ts Tl m_law_solved_right) := by
  refine F.ok sc_law_solved_right (fun vs H Q E h => len_of h fun as k x ⟨_, _, _, _, e, _⟩ => leneq e rfl) (fun cdv A outer s H vs Q E hr h => ?_)
  refine ⟨_, /- slots 0:source 1:matrix 2:many 3:p 4:free 5:numbers 6:k 7:right 8:row 9:told 10:number 11:others 12:at 13:wrong -/
      (pss_cons (ps_asg (pe_tup (pa_cons (pe_dk d_law_free_rows (hr.mono (by decide)) (by rfl) (pa_cons (pv 1) (pa_cons (pv 3) pa_nil))) (pa_cons (pe_callTy call_tuple_of (by rfl) T.m_tuple (by decide +kernel) (pa_cons (pe_lc (own := [("k", 6)]) (g := (gName 6)) (tt := tYes) (by rfl) sc_law_solved_right.nd (pi_range1 (by rfl) T.m_range (pa_cons (pv 2) pa_nil)) (blkOk_by (own := [("k", 6)]) (N := n_law_solved_right) (sc := defScope s_law_solved_right) (by decide +kernel)) (fun _ _ _ _ _ => (pg_name (i := 6) sc_law_solved_right.nd rfl (by first | exact Or.inl rfl | exact Or.inr rfl))) (fun _ _ _ _ _ => pts_nil) (fun _ _ _ _ _ => (pe_dk d_law_take (hr.mono (by decide)) (by rfl) (pa_cons (pv 0) (pa_cons (pv 3) pa_nil))))) pa_nil)) pa_nil))) (pg_tup (by rfl) (pgs_cons (pg_name (i := 4) sc_law_solved_right.nd rfl (by first | exact Or.inl rfl | exact Or.inr rfl)) (pgs_cons (pg_name (i := 5) sc_law_solved_right.nd rfl (by first | exact Or.inl rfl | exact Or.inr rfl)) pgs_nil)))) -- free, numbers = (_law_free_rows(matrix, p), tuple([_law_take(source, p) for k in range(many)]))
      (pss_cons (ps_if (pt_cmpR op_lt (pe_callB call_lenL (by rfl) T.m_len (by decide +kernel) (pa_cons (pv 4) pa_nil)) (pv 2) (nomark _))
        (pss_one (ps_ret pe_bl))
        pss_nil) -- if len(free) < many:
      (pss_cons (ps_set (i := 7) sc_law_solved_right.nd rfl (by first | exact Or.inl rfl | exact Or.inr rfl) (pe_callTy call_tuple_of (by rfl) T.m_tuple (by decide +kernel) (pa_cons (pe_lc (own := [("row", 8)]) (g := (gName 8)) (tt := tYes) (by rfl) sc_law_solved_right.nd (pi_tup (pv 1)) (blkOk_by (own := [("row", 8)]) (N := n_law_solved_right) (sc := defScope s_law_solved_right) (by decide +kernel)) (fun _ _ _ _ _ => (pg_name (i := 8) sc_law_solved_right.nd rfl (by first | exact Or.inl rfl | exact Or.inr rfl))) (fun _ _ _ _ _ => pts_nil) (fun _ _ _ _ _ => (pe_op op_mod (pe_callTy call_intI (by rfl) T.m_int (by decide +kernel) (pa_cons (pe_callB (id := "sum") (r := rSum K) (cr_sum (by rfl)) (by rfl) T.m_sum (by decide +kernel) (pa_cons (pe_lc (own := [("k", 6)]) (g := (gName 6)) (tt := tYes) (by rfl) sc_law_solved_right.nd (pi_range1 (by rfl) T.m_range (pa_cons (pv 2) pa_nil)) (blkOk_by (own := [("k", 6)]) (by kernel_rfl)) (fun _ _ _ _ _ => (pg_name (i := 6) sc_law_solved_right.nd rfl (by first | exact Or.inl rfl | exact Or.inr rfl))) (fun _ _ _ _ _ => pts_nil) (fun _ _ _ _ _ => (pe_op op_mul (pe_ix (LD.ix_tupK (K := K) rfl) (pv 8) (pv 6) (fun _ _ => rfl)) (pe_ix (LD.ix_tupK (K := K) rfl) (pv 5) (pv 6) (fun _ _ => rfl))))) pa_nil)) pa_nil)) (pv 3)))) pa_nil))) -- right = tuple([int(sum([row[k] * numbers[k] for k in range(many)])) % p for row in matrix])
      (pss_cons (ps_set (i := 9) sc_law_solved_right.nd rfl (by first | exact Or.inl rfl | exact Or.inr rfl) (pe_dk d_solved (hr.mono (by decide)) (by rfl) (pa_cons (pv 1) (pa_cons (pv 2) (pa_cons (pv 7) (pa_cons (pv 3) pa_nil)))))) -- told = solved(matrix, many, right, p)
      (pss_cons (ps_if (PW.pt (pw_or (pt_not (pt_val (pe_callB call_isi (by rfl) T.m_isinstance (by decide +kernel) (pa_cons (pv 9) (pa_cons (pe_bltn (v := .ty "tuple") (by rfl) T.m_tuple (by decide +kernel) rfl) pa_nil))))) (pw_or (pt_cmpR (LD.op_neK (K := K) rfl hr.units) (pv 9) (pv 5) (nomark _)) (pw_or1 (pt_cmpR (LD.op_neK (K := K) rfl hr.units) (pe_lc (own := [("number", 10)]) (g := (gName 10)) (by rfl) sc_law_solved_right.nd (pi_tup (pv 9)) (blkOk_by (own := [("number", 10)]) (N := n_law_solved_right) (sc := defScope s_law_solved_right) (by decide +kernel)) (fun _ _ _ _ _ => (pg_name (i := 10) sc_law_solved_right.nd rfl (by first | exact Or.inl rfl | exact Or.inr rfl))) (fun _ _ _ _ _ => (pts_one (pt_val (pe_callB (LD.call_isiK (K := K) rfl) (by rfl) T.m_isinstance (by decide +kernel) (pa_cons (pv 10) (pa_cons (pe_bltn (v := .ty "bool") (by rfl) T.m_bool (by decide +kernel) rfl) pa_nil)))))) (fun _ _ _ _ _ => (pv 10))) (pe_lst pa_nil) (nomark _))))))
        (pss_one (ps_ret pe_bl))
        pss_nil) -- if not isinstance(told, tuple) or told != numbers or [number for number in told if isinstance(number
      (pss_cons (ps_setLc (i := 11) (own := [("at", 12)]) (g := (gName 12)) (by rfl) sc_law_solved_right.nd rfl rfl (sw_true rfl rfl rfl (by decide +kernel)) (pi_range1 (by rfl) T.m_range (pa_cons (pe_callB call_lenT (by rfl) T.m_len (by decide +kernel) (pa_cons (pv 1) pa_nil)) pa_nil)) (blkOk_by (own := [("at", 12)]) (N := n_law_solved_right) (sc := defScope s_law_solved_right) (by decide +kernel)) (fun _ _ _ _ _ => (pg_name (i := 12) sc_law_solved_right.nd rfl (by first | exact Or.inl rfl | exact Or.inr rfl))) (fun _ _ _ _ _ => (pts_one (pt_cmpR (LD.op_notInK (K := K) rfl) (pv 12) (pv 4) (by with_unfolding_all rfl)))) (fun _ _ _ _ _ => (pv 12))) -- others = [at for at in range(len(matrix)) if at not in free]
      (pss_cons (ps_if (pt_cmpR (LD.op_eqK (K := K) rfl hr.units) (pv 11) (pe_lst pa_nil) (nomark _))
        (pss_one (ps_ret pe_bl))
        pss_nil) -- if others == []:
      (pss_cons (ps_set (i := 12) sc_law_solved_right.nd rfl (by first | exact Or.inl rfl | exact Or.inr rfl) (pe_dk d_law_one (hr.mono (by decide)) (by rfl) (pa_cons (pv 0) (pa_cons (pv 11) pa_nil)))) -- at = _law_one(source, others)
      (pss_cons (ps_set (i := 13) sc_law_solved_right.nd rfl (by first | exact Or.inl rfl | exact Or.inr rfl) (pe_op op_catD (pe_op op_catD (pe_slice sl_tupD (pv 7) po_none (po_some (pv 12))) (pe_tup (pa_cons (pe_op op_mod (pe_callTy call_intI (by rfl) T.m_int (by decide +kernel) (pa_cons (pe_op op_add (pe_op op_add (pe_ix ix_tup (pv 7) (pv 12) (fun _ _ => rfl)) pe_int) (pe_dk d_law_take (hr.mono (by decide)) (by rfl) (pa_cons (pv 0) (pa_cons (pe_op op_sub (pv 3) pe_int) pa_nil)))) pa_nil)) (pv 3)) pa_nil))) (pe_slice sl_tupD (pv 7) (po_some (pe_op op_add (pv 12) pe_int)) po_none))) -- wrong = right[:at] + (int(right[at] + 1 + _law_take(source, p - 1)) % p,) + right[at + 1:]
      (pss_one (ps_ret (pe_cmp (pc_isN (pe_dk d_solved (hr.mono (by decide)) (by rfl) (pa_cons (pv 1) (pa_cons (pv 2) (pa_cons (pv 13) (pa_cons (pv 3) pa_nil)))))))))))))))))), ?_⟩
  refine enter h (fun H0 M0 pl x pl0 hx => 
      (rs_seq (rs_asg (re_tup (ra_cons (re_call rfl rfl rfl (ra_cons re_var (ra_cons re_var ra_nil))) (ra_cons (re_cb cd_tupOf (ra_cons (re_lc (ri_r1 (ra_cons re_var ra_nil)) rg_name (by decide) rt_yes (re_call rfl rfl rfl (ra_cons re_var (ra_cons re_var ra_nil)))) ra_nil)) ra_nil))) (rg_tup (rgs_cons rg_name (rgs_cons rg_name rgs_nil))))
      (rs_seq (rs_if (rt_test (re_op od_lt (re_cb cd_lenL (ra_cons re_var ra_nil)) re_var))
        (rs_ret re_bl)
        rs_next)
      (rs_seq (rs_set (re_cb cd_tupOf (ra_cons (re_lc (ri_tup re_var) rg_name (by decide) rt_yes (re_op od_mod (re_cb cd_intI (ra_cons (re_cb cd_sum (ra_cons (re_lc (ri_r1 (ra_cons re_var ra_nil)) rg_name (by decide) rt_yes (re_op od_mul (re_op od_ixT re_var re_var) (re_op od_ixT re_var re_var))) ra_nil)) ra_nil)) re_var)) ra_nil)))
      (rs_seq (rs_set (re_call rfl rfl rfl (ra_cons re_var (ra_cons re_var (ra_cons re_var (ra_cons re_var ra_nil))))))
      (rs_seq (rs_if (rt_or (rt_not (rt_b (re_isi_tuple re_var))) (rt_or (rt_test (re_op od_neD re_var re_var)) (rt_test (re_op od_neD (re_lc (ri_tup re_var) rg_name (by decide) (rt_b (re_isi_bool re_var)) re_var) (re_lst ra_nil)))))
        (rs_ret re_bl)
        rs_next)
      (rs_seq (rs_set (re_lc (ri_r1 (ra_cons (re_cb cd_lenT (ra_cons re_var ra_nil)) ra_nil)) rg_name (by decide) (rt_test (re_op od_in re_var re_var)) re_var))
      (rs_seq (rs_if (rt_test (re_op od_eqD re_var (re_lst ra_nil)))
        (rs_ret re_bl)
        rs_next)
      (rs_seq (rs_set (re_call rfl rfl rfl (ra_cons re_var (ra_cons re_var ra_nil))))
      (rs_seq (rs_set (re_op od_catT (re_op od_catT (re_slT re_var ro_none (ro_some re_var)) (re_tup (ra_cons (re_op od_mod (re_cb cd_intI (ra_cons (re_op od_add (re_op od_add (re_op od_ixT re_var re_var) re_int) (re_call rfl rfl rfl (ra_cons re_var (ra_cons (re_op od_sub re_var re_int) ra_nil)))) ra_nil)) re_var) ra_nil))) (re_slT re_var (ro_some (re_op od_add re_var re_int)) ro_none)))
      (rs_ret (re_isN (re_call rfl rfl rfl (ra_cons re_var (ra_cons re_var (ra_cons re_var (ra_cons re_var ra_nil))))))))))))))))) ?_ (fun as k x ⟨_, _, _, _, e, _⟩ => lenle e rfl)
  rintro _ k x ⟨p, s, many, cs, rfl, hP, hp, hs, hm, R0, q⟩
  have p2 := isP_ge hP
  have hl := R0.len
  have hr : ∀ r ∈ cs, r.length = many := fun r h => (R0.row r h).1
  repeat refine ⟨_, rfl, ?_⟩
  refine ⟨rfl, _, fun _ h => h, p, s, many, cs, rfl, hP, hp, hs, hm, R0, ?_⟩
  have Fr := free_ok hP hp hl hr
  have IO := fun h => inv_ok hP hp hl hr h
  have nl' := nats_len (l := freeP p cs many)
  have hfl := Fr.len
  generalize hpl : freeP p cs many = pl at *
  repeat refine ⟨_, rfl, ?_⟩
  refine ⟨by omega, by omega, by rw [ints_len, sizeLine_eq]; omega, comp_any (P := fun _ y => ∃ i : Int, y = .int i ∧ 0 ≤ i ∧ i < p) (fun d hd => ⟨_, rfl, fun K hK => ?_⟩) fun ys hy => ?_⟩
  · repeat refine ⟨_, rfl, ?_⟩
    refine ⟨rfl, _, fun _ h => h, _, rfl, by omega, by omega, fun d d0 d1 => ?_⟩
    exact hK _ _ rfl ⟨_, rfl, d0, d1⟩
  obtain ⟨g, rfl, gl, gb⟩ := two_rows hy
  rw [ints_len] at gl
  have gl : g.length = many := by omega
  rw [List.nil_append]
  repeat refine ⟨_, rfl, ?_⟩
  refine ⟨_, .inl rfl, ?_⟩
  repeat (first | refine ⟨_, rfl, ?_⟩ | refine ⟨by rw [sizeLine_eq]; exact Nat.le_of_ble_eq_true rfl, ?_⟩ | refine ⟨_, .inl rfl, ?_⟩ | refine ⟨_, _, _, _, rfl, rfl, rfl, ?_⟩)
  rw [nl']
  refine iteD (fun z => ?_) (fun z => ?_)
  · repeat refine ⟨_, rfl, ?_⟩
    exact q
  have hpe : pl.length = many := by omega
  have IO := IO hpe
  repeat refine ⟨_, rfl, ?_⟩
  have pr : ∀ r ∈ cs, ∀ k, k < many → 0 ≤ r.getD k 0 ∧ r.getD k 0 < p := fun r h k hk => (R0.row r h).2 _ (gd_mem (by rw [hr r h]; exact hk))
  refine ⟨by rw [List.length_map, sizeLine_eq]; omega, comp_map (f := fun d => match d with | .tuple ds => .int (sm many (fun k => toI (ds.getD k .none) * g.getD k 0) % p) | _ => .none) (fun d hd => ?_) ?_⟩
  · obtain ⟨r, hr2, rfl⟩ := List.mem_map.mp hd
    refine ⟨_, rfl, fun K hK => ?_⟩
    have hK : ∀ x : R, datR x = some (.int (sm many (fun k => toI ((r.map PyData.int).getD k .none) * g.getD k 0) % p)) → K x := hK
    rw [sm_congr (g := fun k => r.getD k 0 * g.getD k 0) fun k hk => by rw [gd_map 0 (by rw [hr r hr2]; exact hk)]; rfl] at hK
    repeat refine ⟨_, rfl, ?_⟩
    refine ⟨by omega, by omega, by rw [ints_len, sizeLine_eq]; omega, comp_map (f := fun d => match d with | .int a => .int (r.getD a.toNat 0 * g.getD a.toNat 0) | _ => .none) (fun d hd => ?_) ?_⟩
    · obtain ⟨j, hj, rfl⟩ := ints_mem hd
      rw [Int.zero_add]
      have hj : j < many := by omega
      have := pr r hr2 j hj
      refine ⟨_, rfl, fun K hK => ?_⟩
      repeat refine ⟨_, rfl, ?_⟩
      refine ⟨_, at_row (by omega) (by rw [hr r hr2]; omega), ?_⟩
      repeat refine ⟨_, rfl, ?_⟩
      refine ⟨_, at_row (by omega) (by omega), ?_⟩
      rw [Int.toNat_natCast]
      repeat refine ⟨_, rfl, ?_⟩
      exact ⟨.inl ⟨by omega, by omega⟩, hK _ rfl⟩
    have e : [] ++ (DL.intsFrom 0 ((many : Int)).toNat).map (fun d => match d with | .int a => .int (r.getD a.toNat 0 * g.getD a.toNat 0) | _ => .none) = ((List.range many).map fun a => r.getD a 0 * g.getD a 0).map PyData.int := by
      rw [List.nil_append, ints_nat, List.map_map, List.map_map]
      rfl
    rw [e]
    repeat refine ⟨_, rfl, ?_⟩
    refine ⟨by show 0 < p; omega, ?_⟩
    rw [sum_smL]
    exact hK _ rfl
  have e1 : [] ++ (cs.map rowP).map (fun d => match d with | .tuple ds => .int (sm many (fun k => toI (ds.getD k .none) * g.getD k 0) % p) | _ => .none) = (cs.map fun r => sm many (fun k => r.getD k 0 * g.getD k 0) % p).map PyData.int := by
    rw [List.nil_append, List.map_map, List.map_map]
    refine List.map_congr_left fun r hr2 => ?_
    show PyData.int (sm many (fun k => toI ((r.map PyData.int).getD k .none) * g.getD k 0) % p) = PyData.int _
    rw [sm_congr (g := fun k => r.getD k 0 * g.getD k 0) fun k hk => by rw [gd_map 0 (by rw [hr r hr2]; exact hk)]; rfl]
  rw [e1]
  generalize hR : (cs.map fun r => sm many (fun k => r.getD k 0 * g.getD k 0) % p) = right
  have hRl : right.length = s := by rw [← hR, List.length_map, hl]
  have hRa : ∀ j, j < s → right.getD j 0 = sm many (fun k => en cs j k * g.getD k 0) % p := fun j hj => by
    rw [← hR, gd_map [] (by omega)]
    rfl
  have he : ∀ j, j < s → p ∣ sm many (fun k => en cs j k * g.getD k 0) - right.getD j 0 := fun j hj => by
    rw [hRa j hj]
    have := md_dvd (p := p) (x := sm many (fun k => en cs j k * g.getD k 0))
    exact this
  have sy := solv_yes hP hp hl hr (fun c h => cols_free IO h) gl gb he
  repeat refine ⟨_, rfl, ?_⟩
  refine ⟨_, .inl rfl, ?_⟩
  repeat refine ⟨_, rfl, ?_⟩
  refine ⟨rfl, _, fun _ h => h, p, cs, many, right, rfl, hP, hp, by omega, hm, hr, by omega, ?_⟩
  rw [sy]
  have shg : SeqAt.shaped (rowP g) = true := okd_shaped (okd_row (n := 0) (by omega) fun x hx => by have := gb x hx; omega) (by decide)
  repeat refine ⟨_, rfl, ?_⟩
  refine ⟨shg, shg, _, rfl, iteF ?_ ?_⟩
  · show (!PyData.eqv (rowP g) (rowP g)) = false
    rw [eqv_row, decide_eq_true rfl]
    rfl
  repeat refine ⟨_, rfl, ?_⟩
  refine ⟨by rw [List.length_map, sizeLine_eq]; omega, comp_no (fun d hd => ?_) ?_⟩
  · obtain ⟨x, _, rfl⟩ := List.mem_map.mp hd
    refine ⟨_, rfl, fun K hK => ?_⟩
    repeat refine ⟨_, rfl, ?_⟩
    exact hK
  repeat refine ⟨_, rfl, ?_⟩
  refine ⟨by show 0 ≤ sizeLine; decide, _, rfl, _, rfl, by decide, by decide, _, rfl, iteF (by rw [eqv_nil]; rfl) ?_⟩
  repeat refine ⟨_, rfl, ?_⟩
  refine ⟨by omega, by rw [List.length_map]; omega, by rw [ints_len, List.length_map, sizeLine_eq]; omega, comp_if (c := fun d => match d with | .int a => !decide (a.toNat ∈ pl) | _ => false) (f := id) (fun d hd => ?_) ?_⟩
  · rw [List.length_map] at hd
    obtain ⟨j, hj, rfl⟩ := ints_mem hd
    rw [Int.zero_add]
    refine ⟨_, rfl, fun K hK => ?_, fun _ K hK => ⟨_, rfl, hK _ rfl⟩⟩
    repeat refine ⟨_, rfl, ?_⟩
    refine ⟨_, .inl rfl, rfl, nats_flat pl, _, rfl, ?_⟩
    rw [nats_in]
    exact hK
  have e2 : [] ++ ((DL.intsFrom 0 (((cs.map rowP).length : Int)).toNat).filter fun d => match d with | .int a => !decide (a.toNat ∈ pl) | _ => false).map id = natsP ((List.range s).filter fun a => !decide (a ∈ pl)) := by
    rw [List.nil_append, List.map_id, List.length_map, hl, ints_nat, natsP, List.filter_map]
    rfl
  rw [e2]
  have oth : ∀ a ∈ (List.range s).filter (fun a => !decide (a ∈ pl)), a < s ∧ a ∉ pl := fun a ha => by
    obtain ⟨h1, h2⟩ := List.mem_filter.mp ha
    exact ⟨List.mem_range.mp h1, fun w => by rw [decide_eq_true w] at h2; cases h2⟩
  have othl : ((List.range s).filter fun a => !decide (a ∈ pl)).length ≤ 40 := by
    have := List.length_filter_le (fun a => !decide (a ∈ pl)) (List.range s)
    rw [List.length_range] at this
    omega
  generalize ((List.range s).filter fun a => !decide (a ∈ pl)) = others at *
  have sho : SeqAt.shaped (.list (natsP others)) = true := ints_sh fun d hd => by
    obtain ⟨i, _, rfl⟩ := List.mem_map.mp hd
    exact ⟨_, rfl⟩
  repeat refine ⟨_, rfl, ?_⟩
  refine ⟨by show 0 ≤ sizeLine; decide, _, rfl, _, rfl, sho, by decide, _, rfl, ?_⟩
  rw [eqv_nil]
  refine iteB (fun z => ?_) (fun z => ?_)
  · repeat refine ⟨_, rfl, ?_⟩
    exact q
  have z : (natsP others).isEmpty = false := z
  have hne : 0 < others.length := by
    cases others with
    | nil => cases z
    | cons a b => exact Nat.succ_pos _
  repeat refine ⟨_, rfl, ?_⟩
  refine ⟨rfl, _, fun _ h => h, _, rfl, by rw [nats_len]; exact hne, by rw [nats_len]; omega, fun dd hdd => ?_⟩
  obtain ⟨a, ha, rfl⟩ := List.mem_map.mp hdd
  obtain ⟨as', an⟩ := oth a ha
  repeat refine ⟨_, rfl, ?_⟩
  refine ⟨_, at_row (by omega) (by omega), ?_⟩
  rw [Int.toNat_natCast]
  repeat refine ⟨_, rfl, ?_⟩
  refine ⟨rfl, _, fun _ h => h, p - 1, rfl, by omega, by omega, fun t t0 t1 => ?_⟩
  repeat refine ⟨_, rfl, ?_⟩
  refine ⟨by show 0 < p; omega, ?_⟩
  have hwb := md (p := p) p2 (right.getD a 0 + 1 + t)
  repeat (first | refine ⟨_, rfl, ?_⟩ | refine ⟨by rw [sizeLine_eq]; exact Nat.le_of_ble_eq_true rfl, ?_⟩ | refine ⟨_, .inl rfl, ?_⟩ | refine ⟨_, _, _, _, rfl, rfl, rfl, ?_⟩)
  have ct : cutD (right.map PyData.int) none (some (a : Int)) = (right.take a).map PyData.int := by rw [cutD_to, List.map_take]
  have cf : cutD (right.map PyData.int) (some ((a : Int) + 1)) none = (right.drop (a + 1)).map PyData.int := by
    rw [show (a : Int) + 1 = ((a + 1 : Nat) : Int) by omega, cutD_from, List.map_drop]
  rw [ct]
  refine ⟨by rw [List.length_map, List.length_take, sizeLine_eq]; show _ + 1 ≤ _; omega, ?_⟩
  repeat refine ⟨_, rfl, ?_⟩
  rw [cf]
  refine ⟨by rw [List.length_append, List.length_map, List.length_map, List.length_take, List.length_drop, sizeLine_eq]; show _ + 1 + _ ≤ _; omega, ?_⟩
  refine ⟨_, rfl, ?_⟩
  repeat refine ⟨_, rfl, ?_⟩
  have wl : (right.take a ++ [(right.getD a 0 + 1 + t) % p] ++ right.drop (a + 1)).length = cs.length := by
    rw [List.length_append, List.length_append, List.length_take, List.length_drop]
    show _ + 1 + _ = _
    omega
  refine ⟨rfl, _, fun _ h => h, p, cs, many, right.take a ++ [(right.getD a 0 + 1 + t) % p] ++ right.drop (a + 1), by rw [rowP, List.map_append, List.map_append]; rfl, hP, hp, by omega, hm, hr, wl, ?_⟩
  have hw1 : ∀ j, j < a → (right.take a ++ [(right.getD a 0 + 1 + t) % p] ++ right.drop (a + 1)).getD j 0 = right.getD j 0 := fun j hj => by
    rw [List.getD_eq_getElem?_getD, List.append_assoc, List.getElem?_append_left (by rw [List.length_take]; omega), List.getElem?_take_of_lt hj, ← List.getD_eq_getElem?_getD]
  have hw2 : (right.take a ++ [(right.getD a 0 + 1 + t) % p] ++ right.drop (a + 1)).getD a 0 = (right.getD a 0 + 1 + t) % p := by
    rw [List.getD_eq_getElem?_getD, List.append_assoc, List.getElem?_append_right (by rw [List.length_take]; omega), List.length_take, show a - min a right.length = 0 by omega]
    rfl
  have hdep : DepR p many cs a := Classical.byContradiction fun w => an ((Fr.mem a as').mpr w)
  have sn := solv_no (wrong := right.take a ++ [(right.getD a 0 + 1 + t) % p] ++ right.drop (a + 1)) (g := g) hP hp hl hr as' hdep he hw1 (by
    rw [hw2]
    intro hd
    have h1 := md_dvd (p := p) (x := right.getD a 0 + 1 + t)
    have h2 := Int.dvd_add hd h1
    rw [show (right.getD a 0 + 1 + t) % p - right.getD a 0 + (right.getD a 0 + 1 + t - (right.getD a 0 + 1 + t) % p) = 1 + t by omega] at h2
    have := Int.le_of_dvd (by omega) h2
    omega)
  rw [sn]
  repeat refine ⟨_, rfl, ?_⟩
  exact q
end
end KK
set_option maxHeartbeats 8000000
namespace KK
open PySem L2 LW GX LD DL SH K00 LA
section
variable {P : Program} {w : World} {K : PySem.W.Frag} {mg : Str → Option Value} {base : Heap} {Ts : List Addr} {Tl : List (Addr × Str)}
theorem five_isP : isP 5 = true := by decide +kernel
theorem told1 : solvF 5 [[2], [1]] 1 [1, 3] = some [3] := by
  refine solv_yes (s := 2) five_isP (by decide) rfl (by decide) (fun c h i hi => ?_) rfl (by decide) (fun j hj => ?_)
  · obtain rfl : i = 0 := by omega
    have := h 1 (by decide)
    have e : sm 1 (fun k => c k * en [[2], [1]] 1 k) = c 0 := by
      show 0 + c 0 * 1 = _
      omega
    rw [e] at this
    exact this
  · match j, hj with
    | 0, _ => exact ⟨1, rfl⟩
    | 1, _ => exact ⟨0, rfl⟩
theorem told2 : solvF 5 [[2], [1]] 1 [1, 1] = none := by
  refine solv_no (s := 2) (at_ := 1) (right := [1, 3]) (g := [3]) five_isP (by decide) rfl (by decide) (by decide) ⟨fun _ => 3, fun i hi => ?_⟩ (fun j hj => ?_) (fun j hj => ?_) (by decide)
  · obtain rfl : i = 0 := by omega
    exact ⟨1, rfl⟩
  · match j, hj with
    | 0, _ => exact ⟨1, rfl⟩
    | 1, _ => exact ⟨0, rfl⟩
  · obtain rfl : j = 0 := by omega
    rfl
theorem told3 : leftInv 5 [] 2 = none := by
  have F := free_ok (p := 5) (s := 0) (many := 2) (cs := []) five_isP (by decide) rfl (by decide)
  unfold leftInv
  rw [if_pos]
  cases e : freeP 5 [] 2 with
  | nil => decide
  | cons a l => exact absurd (F.lt a (by rw [e]; exact List.mem_cons_self ..)) (Nat.not_lt_zero _)
theorem told4 : leftInv 5 [[0], [3], [1]] 1 = some [[0, 2, 0]] := by
  have F := free_ok (p := 5) (s := 3) (many := 1) (cs := [[0], [3], [1]]) five_isP (by decide) rfl (by decide)
  have d0 : DepR 5 1 [[0], [3], [1]] 0 := ⟨fun _ => 0, fun i hi => by
    obtain rfl : i = 0 := by omega
    exact ⟨0, rfl⟩⟩
  have d1 : ¬ DepR 5 1 [[0], [3], [1]] 1 := fun ⟨c, h⟩ => by
    obtain ⟨v, hv⟩ := h 0 (by decide)
    have hv : 0 + c 0 * 0 - 3 = 5 * v := hv
    omega
  have d2 : DepR 5 1 [[0], [3], [1]] 2 := ⟨fun _ => 2, fun i hi => by
    obtain rfl : i = 0 := by omega
    exact ⟨1, rfl⟩⟩
  have e : freeP 5 [[0], [3], [1]] 1 = [1] := ord_eq F.ord (List.pairwise_singleton ..) fun k => by
    constructor
    · intro h
      have hk := F.lt k h
      match k, hk with
      | 0, _ => exact absurd d0 ((F.mem 0 (by decide)).mp h)
      | 1, _ => exact List.mem_cons_self ..
      | 2, _ => exact absurd d2 ((F.mem 2 (by decide)).mp h)
    · intro h
      rw [List.mem_singleton.mp h]
      exact (F.mem 1 (by decide)).mpr d1
  have I := inv_ok (p := 5) (s := 3) (many := 1) (cs := [[0], [3], [1]]) five_isP (by decide) rfl (by decide) (by rw [e]; rfl)
  unfold leftInv
  rw [if_neg (by rw [e]; decide)]
  rw [e] at I
  generalize invL 5 [[0], [3], [1]] 1 = W at I
  have h0 := I.no 0 0 (by decide) (by decide) (by decide)
  have h2 := I.no 0 2 (by decide) (by decide) (by decide)
  have h1 := I.rc.en (i := 0) (j := 1) (by decide) (by decide)
  obtain ⟨v, hv⟩ := I.one 0 0 (by decide) (by decide)
  have hv : 0 + en W 0 0 * 0 + en W 0 1 * 3 + en W 0 2 * 1 - 1 = 5 * v := hv
  have hl := I.rc.len
  have hr := I.rc.rl (i := 0) (by decide)
  match W, hl with
  | [r], _ =>
    have hr : r.length = 3 := hr
    match r, hr with
    | [a, b, c], _ =>
      have h0 : a = 0 := h0
      have h2 : c = 0 := h2
      have h1 : 0 ≤ b ∧ b < 5 := h1
      have hv : 0 + a * 0 + b * 3 + c * 1 - 1 = 5 * v := hv
      rw [h0, h2, show b = 2 by omega]
theorem six_pr : ∀ p ∈ [(2 : Int), 3, 5, 7, 257, 65521], isP p = true ∧ p ≤ 65521 := by decide +kernel
def mLaw : Pm := fun as k _ => ∃ ns : List Int, as = [.lst (ns.map .int)] ∧ ns.length ≤ 63 ∧ k (.v (.bool true))
theorem ok_law {f : Addr} {fd : FuncData} {cdv : Value} (F : FunC K "law" "law" s_law f fd cdv) (T : Tx mg)
    (d_law_pool : Dk P w K mg base 1 "_law_pool" ["script", "k"] (spD K Ts Tl mPool))
    (d_law_matrix : Dk P w K mg base 3 "_law_matrix" ["source", "p", "many"] (spD K Ts Tl m_law_matrix))
    (d_solved : Dk P w K mg base 6 "solved" ["matrix", "many", "right", "p"] (spD K Ts Tl m_solved))
    (d_left_inverse : Dk P w K mg base 7 "left_inverse" ["matrix", "many", "p"] (spD K Ts Tl m_left_inverse))
    (d_law_right : Dk P w K mg base 8 "_law_right" ["matrix", "many", "p"] (spD K Ts Tl m_law_right))
    (d_law_one : Dk P w K mg base 2 "_law_one" ["source", "things"] (spD K Ts Tl mOne))
    (d_law_take : Dk P w K mg base 1 "_law_take" ["source", "top"] (spD K Ts Tl mTake))
    (d_law_solved_right : Dk P w K mg base 7 "_law_solved_right" ["source", "matrix", "many", "p"] (spD K Ts Tl m_law_solved_right)) :
    FnG P w K mg base CX0 9 f fd ["script"] (spD K Ts Tl mLaw) := by
  refine F.okG sc_law (fun vs H Q E h => len_of h fun as k x ⟨_, e, _⟩ => leneq e rfl) (fun A outer s H vs Q E hr hgd h => ?_)
  refine ⟨_, /- slots 0:script 1:k 2:source 3:p 4:many 5:matrix -/
      (pss_cons (ps_if (PW.pt (pw_or (pt_cmpR (LD.op_neK (K := K) rfl hr.units) (pe_dk d_solved (hr.mono (by decide)) (by rfl) (pa_cons (pe_tup (pa_cons (pe_tup (pa_cons pe_int pa_nil)) (pa_cons (pe_tup (pa_cons pe_int pa_nil)) pa_nil))) (pa_cons pe_int (pa_cons (pe_tup (pa_cons pe_int (pa_cons pe_int pa_nil))) (pa_cons pe_int pa_nil))))) (pe_tup (pa_cons pe_int pa_nil)) (nomark _)) (pw_or1 (pt_cmp (pc_notN (pe_dk d_solved (hr.mono (by decide)) (by rfl) (pa_cons (pe_tup (pa_cons (pe_tup (pa_cons pe_int pa_nil)) (pa_cons (pe_tup (pa_cons pe_int pa_nil)) pa_nil))) (pa_cons pe_int (pa_cons (pe_tup (pa_cons pe_int (pa_cons pe_int pa_nil))) (pa_cons pe_int pa_nil))))))))))
        (pss_one (ps_ret pe_bl))
        pss_nil) -- if solved(((2,), (1,)), 1, (1, 3), 5) != (3,) or solved(((2,), (1,)), 1, (1, 1), 5) is not None:
      (pss_cons (ps_if (PW.pt (pw_or (pt_cmp (pc_notN (pe_dk d_left_inverse (hr.mono (by decide)) (by rfl) (pa_cons (pe_tup pa_nil) (pa_cons pe_int (pa_cons pe_int pa_nil)))))) (pw_or1 (pt_cmpR (LD.op_neK (K := K) rfl hr.units) (pe_dk d_left_inverse (hr.mono (by decide)) (by rfl) (pa_cons (pe_tup (pa_cons (pe_tup (pa_cons pe_int pa_nil)) (pa_cons (pe_tup (pa_cons pe_int pa_nil)) (pa_cons (pe_tup (pa_cons pe_int pa_nil)) pa_nil)))) (pa_cons pe_int (pa_cons pe_int pa_nil)))) (pe_tup (pa_cons (pe_tup (pa_cons pe_int (pa_cons pe_int (pa_cons pe_int pa_nil)))) pa_nil)) (nomark _)))))
        (pss_one (ps_ret pe_bl))
        pss_nil) -- if left_inverse((), 2, 5) is not None or left_inverse(((0,), (3,), (1,)), 1, 5) != ((0, 2, 0),):
      (pss_cons (ps_if (PW.pt (pw_or (pt_not (pt_val (pe_dk d_law_right (hr.mono (by decide)) (by rfl) (pa_cons (pe_tup (pa_cons (pe_tup (pa_cons pe_int (pa_cons pe_int pa_nil))) (pa_cons (pe_tup (pa_cons pe_int (pa_cons pe_int pa_nil))) (pa_cons (pe_tup (pa_cons pe_int (pa_cons pe_int pa_nil))) (pa_cons (pe_tup (pa_cons pe_int (pa_cons pe_int pa_nil))) pa_nil))))) (pa_cons pe_int (pa_cons pe_int pa_nil)))))) (pw_or1 (pt_not (pt_val (pe_dk d_law_right (hr.mono (by decide)) (by rfl) (pa_cons (pe_tup (pa_cons (pe_tup (pa_cons pe_int (pa_cons pe_int pa_nil))) (pa_cons (pe_tup (pa_cons pe_int (pa_cons pe_int pa_nil))) pa_nil))) (pa_cons pe_int (pa_cons pe_int pa_nil)))))))))
        (pss_one (ps_ret pe_bl))
        pss_nil) -- if not _law_right(((1, 2), (2, 4), (0, 3), (1, 1)), 2, 7) or not _law_right(((1, 2), (2, 4)), 2, 7):
      (pss_cons (ps_for PassesOwn.never rfl (pi_range1 (by rfl) T.m_range (pa_cons (pe_callB (call_max2 rfl) (by rfl) T.m_max (by decide +kernel) (pa_cons pe_int (pa_cons (pe_callB (call_min2 rfl) (by rfl) T.m_min (by decide +kernel) (pa_cons (pe_callB call_lenL (by rfl) T.m_len (by decide +kernel) (pa_cons (pv 0) pa_nil)) (pa_cons pe_int pa_nil))) pa_nil))) pa_nil)) (pg_name (i := 1) sc_law.nd rfl (by first | exact Or.inl rfl | exact Or.inr rfl))
        (pss_cons (ps_set (i := 2) sc_law.nd rfl (by first | exact Or.inl rfl | exact Or.inr rfl) (pe_dk d_law_pool (hr.mono (by decide)) (by rfl) (pa_cons (pv 0) (pa_cons (pv 1) pa_nil)))) -- source = _law_pool(script, k)
        (pss_cons (ps_par (i := 3) (j := 4) (by rfl) sc_law.nd rfl rfl (by decide) (by rfl) (by rfl) (pa_cons (pe_dk d_law_one (hr.mono (by decide)) (by rfl) (pa_cons (pv 2) (pa_cons (pe_lst (pa_cons pe_int (pa_cons pe_int (pa_cons pe_int (pa_cons pe_int (pa_cons pe_int (pa_cons pe_int pa_nil))))))) pa_nil))) (pa_cons (pe_op op_add pe_int (pe_dk d_law_take (hr.mono (by decide)) (by rfl) (pa_cons (pv 2) (pa_cons pe_int pa_nil)))) pa_nil)) (by rfl)) -- p, many = (_law_one(source, [2, 3, 5, 7, 257, 65521]), 1 + _law_take(source, 5))
        (pss_cons (ps_set (i := 5) sc_law.nd rfl (by first | exact Or.inl rfl | exact Or.inr rfl) (pe_dk d_law_matrix (hr.mono (by decide)) (by rfl) (pa_cons (pv 2) (pa_cons (pv 3) (pa_cons (pv 4) pa_nil))))) -- matrix = _law_matrix(source, p, many)
        (pss_one (ps_if (PW.pt (pw_or (pt_not (pt_val (pe_dk d_law_right (hr.mono (by decide)) (by rfl) (pa_cons (pv 5) (pa_cons (pv 4) (pa_cons (pv 3) pa_nil)))))) (pw_or1 (pt_not (pt_val (pe_dk d_law_solved_right (hr.mono (by decide)) (by rfl) (pa_cons (pv 2) (pa_cons (pv 5) (pa_cons (pv 4) (pa_cons (pv 3) pa_nil))))))))))
          (pss_one (ps_ret pe_bl))
          pss_nil)))))) -- for k in range(max(1, min(len(script), 6))):
      (pss_one (ps_ret pe_bl)))))), ?_⟩
  refine enter h (fun H0 M0 pl x pl0 hx => 
      (rs_seq (rs_if (rt_or (rt_test (re_op od_neD (re_call rfl rfl rfl (ra_cons (re_tup (ra_cons (re_tup (ra_cons re_int ra_nil)) (ra_cons (re_tup (ra_cons re_int ra_nil)) ra_nil))) (ra_cons re_int (ra_cons (re_tup (ra_cons re_int (ra_cons re_int ra_nil))) (ra_cons re_int ra_nil))))) (re_tup (ra_cons re_int ra_nil)))) (rt_b (re_notN (re_call rfl rfl rfl (ra_cons (re_tup (ra_cons (re_tup (ra_cons re_int ra_nil)) (ra_cons (re_tup (ra_cons re_int ra_nil)) ra_nil))) (ra_cons re_int (ra_cons (re_tup (ra_cons re_int (ra_cons re_int ra_nil))) (ra_cons re_int ra_nil))))))))
        (rs_ret re_bl)
        rs_next)
      (rs_seq (rs_if (rt_or (rt_b (re_notN (re_call rfl rfl rfl (ra_cons (re_tup ra_nil) (ra_cons re_int (ra_cons re_int ra_nil)))))) (rt_test (re_op od_neD (re_call rfl rfl rfl (ra_cons (re_tup (ra_cons (re_tup (ra_cons re_int ra_nil)) (ra_cons (re_tup (ra_cons re_int ra_nil)) (ra_cons (re_tup (ra_cons re_int ra_nil)) ra_nil)))) (ra_cons re_int (ra_cons re_int ra_nil)))) (re_tup (ra_cons (re_tup (ra_cons re_int (ra_cons re_int (ra_cons re_int ra_nil)))) ra_nil)))))
        (rs_ret re_bl)
        rs_next)
      (rs_seq (rs_if (rt_or (rt_not (rt_b (re_call rfl rfl rfl (ra_cons (re_tup (ra_cons (re_tup (ra_cons re_int (ra_cons re_int ra_nil))) (ra_cons (re_tup (ra_cons re_int (ra_cons re_int ra_nil))) (ra_cons (re_tup (ra_cons re_int (ra_cons re_int ra_nil))) (ra_cons (re_tup (ra_cons re_int (ra_cons re_int ra_nil))) ra_nil))))) (ra_cons re_int (ra_cons re_int ra_nil)))))) (rt_not (rt_b (re_call rfl rfl rfl (ra_cons (re_tup (ra_cons (re_tup (ra_cons re_int (ra_cons re_int ra_nil))) (ra_cons (re_tup (ra_cons re_int (ra_cons re_int ra_nil))) ra_nil))) (ra_cons re_int (ra_cons re_int ra_nil)))))))
        (rs_ret re_bl)
        rs_next)
      (rs_seq (rs_for (rj_r1 (ra_cons (re_cb cd_max2 (ra_cons re_int (ra_cons (re_cb cd_min2 (ra_cons (re_cb cd_lenL (ra_cons re_var ra_nil)) (ra_cons re_int ra_nil))) ra_nil))) ra_nil)) rg_name
        (rs_seq (rs_setP (re_call rfl rfl rfl (ra_cons re_var (ra_cons re_var ra_nil))))
        (rs_seq (rs_par (ra_cons (re_call rfl rfl rfl (ra_cons re_var (ra_cons (re_lst (ra_cons re_int (ra_cons re_int (ra_cons re_int (ra_cons re_int (ra_cons re_int (ra_cons re_int ra_nil))))))) ra_nil))) (ra_cons (re_op od_add re_int (re_call rfl rfl rfl (ra_cons re_var (ra_cons re_int ra_nil)))) ra_nil)))
        (rs_seq (rs_set (re_call rfl rfl rfl (ra_cons re_var (ra_cons re_var (ra_cons re_var ra_nil)))))
        (rs_if (rt_or (rt_not (rt_b (re_call rfl rfl rfl (ra_cons re_var (ra_cons re_var (ra_cons re_var ra_nil)))))) (rt_not (rt_b (re_call rfl rfl rfl (ra_cons re_var (ra_cons re_var (ra_cons re_var (ra_cons re_var ra_nil))))))))
          (rs_ret re_bl)
          rs_next)))))
      (rs_ret re_bl)))))) ?_ (fun as k x ⟨_, e, _⟩ => lenle e rfl)
  rintro _ k x ⟨ns, rfl, hns, q⟩
  repeat (first | refine ⟨_, rfl, ?_⟩ | refine ⟨by rw [sizeLine_eq]; exact Nat.le_of_ble_eq_true rfl, ?_⟩ | refine ⟨_, .inl rfl, ?_⟩ | refine ⟨_, _, _, _, rfl, rfl, rfl, ?_⟩)
  refine ⟨rfl, _, fun _ h => h, 5, [[2], [1]], 1, [1, 3], rfl, five_isP, by decide, by decide, by decide, by decide, rfl, ?_⟩
  rw [told1]
  repeat (first | refine ⟨_, rfl, ?_⟩ | refine ⟨by rw [sizeLine_eq]; exact Nat.le_of_ble_eq_true rfl, ?_⟩ | refine ⟨_, .inl rfl, ?_⟩ | refine ⟨_, _, _, _, rfl, rfl, rfl, ?_⟩)
  refine ⟨by decide, by decide, _, rfl, iteF (by decide +kernel) ?_⟩
  repeat (first | refine ⟨_, rfl, ?_⟩ | refine ⟨by rw [sizeLine_eq]; exact Nat.le_of_ble_eq_true rfl, ?_⟩ | refine ⟨_, .inl rfl, ?_⟩ | refine ⟨_, _, _, _, rfl, rfl, rfl, ?_⟩)
  refine ⟨rfl, _, fun _ h => h, 5, [[2], [1]], 1, [1, 1], rfl, five_isP, by decide, by decide, by decide, by decide, rfl, ?_⟩
  rw [told2]
  repeat (first | refine ⟨_, rfl, ?_⟩ | refine ⟨by rw [sizeLine_eq]; exact Nat.le_of_ble_eq_true rfl, ?_⟩ | refine ⟨_, .inl rfl, ?_⟩ | refine ⟨_, _, _, _, rfl, rfl, rfl, ?_⟩)
  refine ⟨rfl, _, fun _ h => h, 5, [], 2, rfl, five_isP, by decide, by decide, by decide, by decide, ?_⟩
  rw [told3]
  repeat (first | refine ⟨_, rfl, ?_⟩ | refine ⟨by rw [sizeLine_eq]; exact Nat.le_of_ble_eq_true rfl, ?_⟩ | refine ⟨_, .inl rfl, ?_⟩ | refine ⟨_, _, _, _, rfl, rfl, rfl, ?_⟩)
  refine ⟨rfl, _, fun _ h => h, 5, [[0], [3], [1]], 1, rfl, five_isP, by decide, by decide, by decide, by decide, ?_⟩
  rw [told4]
  repeat (first | refine ⟨_, rfl, ?_⟩ | refine ⟨by rw [sizeLine_eq]; exact Nat.le_of_ble_eq_true rfl, ?_⟩ | refine ⟨_, .inl rfl, ?_⟩ | refine ⟨_, _, _, _, rfl, rfl, rfl, ?_⟩)
  refine ⟨by decide, by decide, _, rfl, iteF (by decide +kernel) ?_⟩
  repeat (first | refine ⟨_, rfl, ?_⟩ | refine ⟨by rw [sizeLine_eq]; exact Nat.le_of_ble_eq_true rfl, ?_⟩ | refine ⟨_, .inl rfl, ?_⟩ | refine ⟨_, _, _, _, rfl, rfl, rfl, ?_⟩)
  refine ⟨rfl, _, fun _ h => h, 7, 4, 2, [[1, 2], [2, 4], [0, 3], [1, 1]], rfl, by decide +kernel, by decide, by decide, by decide, ⟨rfl, by decide⟩, ?_⟩
  repeat (first | refine ⟨_, rfl, ?_⟩ | refine ⟨by rw [sizeLine_eq]; exact Nat.le_of_ble_eq_true rfl, ?_⟩ | refine ⟨_, .inl rfl, ?_⟩ | refine ⟨_, _, _, _, rfl, rfl, rfl, ?_⟩)
  refine ⟨rfl, _, fun _ h => h, 7, 2, 2, [[1, 2], [2, 4]], rfl, by decide +kernel, by decide, by decide, by decide, ⟨rfl, by decide⟩, ?_⟩
  repeat (first | refine ⟨_, rfl, ?_⟩ | refine ⟨by rw [sizeLine_eq]; exact Nat.le_of_ble_eq_true rfl, ?_⟩ | refine ⟨_, .inl rfl, ?_⟩ | refine ⟨_, _, _, _, rfl, rfl, rfl, ?_⟩)
  refine ⟨_, _, rfl, ?_⟩
  repeat (first | refine ⟨_, rfl, ?_⟩ | refine ⟨by rw [sizeLine_eq]; exact Nat.le_of_ble_eq_true rfl, ?_⟩ | refine ⟨_, .inl rfl, ?_⟩ | refine ⟨_, _, _, _, rfl, rfl, rfl, ?_⟩)
  refine ⟨_, _, rfl, ?_⟩
  obtain ⟨N, hN, n0, n6⟩ : ∃ N : Int, (if (if (6 : Int) < ((ns.map PyData.int).length : Int) then (6 : Int) else ((ns.map PyData.int).length : Int)) > 1 then (if (6 : Int) < ((ns.map PyData.int).length : Int) then (6 : Int) else ((ns.map PyData.int).length : Int)) else 1) = N ∧ 1 ≤ N ∧ N ≤ 6 := ⟨_, rfl, by split <;> split <;> omega, by split <;> split <;> omega⟩
  repeat (first | refine ⟨_, rfl, ?_⟩ | refine ⟨by rw [sizeLine_eq]; exact Nat.le_of_ble_eq_true rfl, ?_⟩ | refine ⟨_, .inl rfl, ?_⟩ | refine ⟨_, _, _, _, rfl, rfl, rfl, ?_⟩)
  rw [hN]
  refine ⟨by omega, by omega, fun i env => ∃ o_k o_source o_p o_many o_matrix : Option SV, env = [some (.bor (ns.map .int)), o_k, o_source, o_p, o_many, o_matrix], ⟨_, _, _, _, _, rfl⟩, ?_, ?_⟩
  · rintro i y env hy ⟨o_k, o_source, o_p, o_many, o_matrix, rfl⟩
    have hi : i < 6 := by
      have := (List.getElem?_eq_some_iff.mp hy).1
      rw [ints_len] at this
      omega
    obtain rfl : y = .int (i : Nat) := by
      rw [ints_get (by have := (List.getElem?_eq_some_iff.mp hy).1; rwa [ints_len] at this)] at hy
      cases hy
      rw [Int.zero_add]
    repeat refine ⟨_, rfl, ?_⟩
    refine ⟨rfl, _, fun _ h => h, ns, _, rfl, hns, by omega, by omega, fun px py b1 b2 b3 => ?_⟩
    refine ⟨px, py, rfl, b1, b2, b3, ?_⟩
    repeat (first | refine ⟨_, rfl, ?_⟩ | refine ⟨by rw [sizeLine_eq]; exact Nat.le_of_ble_eq_true rfl, ?_⟩ | refine ⟨_, .inl rfl, ?_⟩ | refine ⟨_, _, _, _, rfl, rfl, rfl, ?_⟩)
    refine ⟨rfl, _, fun _ h => h, _, rfl, by show 0 < 6; decide, by show 6 < 1000000; decide, fun pd hpd => ?_⟩
    obtain ⟨p, hp, rfl⟩ : ∃ p ∈ [(2 : Int), 3, 5, 7, 257, 65521], PyData.int p = pd := List.mem_map.mp (show pd ∈ [(2 : Int), 3, 5, 7, 257, 65521].map PyData.int from hpd)
    obtain ⟨hP, hp2⟩ := six_pr p hp
    have p2 := isP_ge hP
    repeat (first | refine ⟨_, rfl, ?_⟩ | refine ⟨by rw [sizeLine_eq]; exact Nat.le_of_ble_eq_true rfl, ?_⟩ | refine ⟨_, .inl rfl, ?_⟩ | refine ⟨_, _, _, _, rfl, rfl, rfl, ?_⟩)
    refine ⟨rfl, _, fun _ h => h, _, rfl, by decide, by decide, fun t t0 t1 => ?_⟩
    obtain ⟨many, em⟩ : ∃ many : Nat, 1 + t = many := ⟨(1 + t).toNat, by omega⟩
    repeat (first | refine ⟨_, rfl, ?_⟩ | refine ⟨by rw [sizeLine_eq]; exact Nat.le_of_ble_eq_true rfl, ?_⟩ | refine ⟨_, .inl rfl, ?_⟩ | refine ⟨_, _, _, _, rfl, rfl, rfl, ?_⟩)
    refine ⟨rfl, _, fun _ h => h, p, many, by rw [← em], p2, hp2, by omega, fun s cs hs R => ?_⟩
    repeat (first | refine ⟨_, rfl, ?_⟩ | refine ⟨by rw [sizeLine_eq]; exact Nat.le_of_ble_eq_true rfl, ?_⟩ | refine ⟨_, .inl rfl, ?_⟩ | refine ⟨_, _, _, _, rfl, rfl, rfl, ?_⟩)
    refine ⟨rfl, _, fun _ h => h, p, s, many, cs, by rw [← em], hP, hp2, by omega, by omega, R, ?_⟩
    repeat (first | refine ⟨_, rfl, ?_⟩ | refine ⟨by rw [sizeLine_eq]; exact Nat.le_of_ble_eq_true rfl, ?_⟩ | refine ⟨_, .inl rfl, ?_⟩ | refine ⟨_, _, _, _, rfl, rfl, rfl, ?_⟩)
    refine ⟨rfl, _, fun _ h => h, p, s, many, cs, by rw [← em], hP, hp2, by omega, by omega, R, ?_⟩
    refine ⟨_, rfl, iteF rfl ?_⟩
    exact ⟨_, _, _, _, _, rfl⟩
  · rintro env ⟨o_k, o_source, o_p, o_many, o_matrix, rfl⟩
    exact ⟨_, rfl, q⟩
end
end KK
set_option maxHeartbeats 4000000
namespace KK
open PySem L2 LW GX LD DL SH K00
theorem all_mk {l : PySem.W.OpenLaw} {w : World} {K : PySem.W.Frag} {h : Heap} {mg mb : Str → Option Value} {q : Program} {lo : List Str} {mean : ExcName → Option Value} {fa f1 f2 f3 f4 f5 f6 f7 f8 f9 f10 f11 f12 f13 f14 f15 f16 f17 f18 f19 f20 f21 f22  c1_ c2_ c3_ c4_ c5_ c6_ c7_ P1 P2 P3 P4 P5 P6 P7 : Addr} (TP : PyProof.Rows.Top q lo mean mg mb h) (X : K.In h) (G : h.Ns mainGlobals mg) (hfa : mg "law" = some (.ref fa))
    {od1 an1 od2 an2 od3 an3 od4 an4 od5 an5 od6 an6 od7 an7 od8 an8 od9 an9 od10 an10 od11 an11 od12 an12 od13 an13 od14 an14 od15 an15 od16 an16 od17 an17 od18 an18 od19 an19 od20 an20 od21 an21 od22 an22 : Option Addr} {sl1 sl2 sl3 sl4 sl5 sl6 sl7 sl8 sl9 sl10 sl11 sl12 sl13 sl14 sl15 sl16 sl17 sl18 sl19 sl20 sl21 sl22 : Array (Option Value)} {oc1 kV1 dc1 pm1 ct1 cd1 oc2 kV2 dc2 pm2 ct2 cd2 oc3 kV3 dc3 pm3 ct3 cd3 oc4 kV4 dc4 pm4 ct4 cd4 oc5 kV5 dc5 pm5 ct5 cd5 oc6 kV6 dc6 pm6 ct6 cd6 oc7 kV7 dc7 pm7 ct7 cd7 oc8 kV8 dc8 pm8 ct8 cd8 oc9 kV9 dc9 pm9 ct9 oc10 kV10 dc10 pm10 ct10 oc11 kV11 dc11 pm11 ct11 oc12 kV12 dc12 pm12 ct12 oc13 kV13 dc13 pm13 ct13 oc14 kV14 dc14 pm14 ct14 cd14 oc15 kV15 dc15 pm15 ct15 oc16 kV16 dc16 pm16 ct16 oc17 kV17 dc17 pm17 ct17 cd17 oc18 kV18 dc18 pm18 ct18 cd18 oc19 kV19 dc19 pm19 ct19 cd19 oc20 kV20 dc20 pm20 ct20 cd20 oc21 kV21 dc21 pm21 ct21 cd21 oc22 kV22 dc22 pm22 ct22 cd22 : Value} {dR1 dR2 dR3 dR4 dR5 dR6 dR7 : PySem.DefRec}
    (a1 : PySem.W.nsIn K mainGlobals "_law_pool" = some (some (.ref f1)))
    (l1 : K.lookup f1 = some ⟨oc1, od1, .func (PySem.W.fnOf "_law_pool" "_law_pool" (defArgs s_law_pool) (defBody s_law_pool) (defScope s_law_pool) .none kV1 dc1 pm1 an1 cd1 ct1), sl1⟩) (c1 : PySem.W.codeIn K cd1 "_law_pool" = true) (k1 : PySem.W.keepIn K (.ref f1) = true)
    (a2 : PySem.W.nsIn K mainGlobals "_law_take" = some (some (.ref f2)))
    (l2 : K.lookup f2 = some ⟨oc2, od2, .func (PySem.W.fnOf "_law_take" "_law_take" (defArgs s_law_take) (defBody s_law_take) (defScope s_law_take) .none kV2 dc2 pm2 an2 cd2 ct2), sl2⟩) (c2 : PySem.W.codeIn K cd2 "_law_take" = true) (k2 : PySem.W.keepIn K (.ref f2) = true)
    (a3 : PySem.W.nsIn K mainGlobals "_law_one" = some (some (.ref f3)))
    (l3 : K.lookup f3 = some ⟨oc3, od3, .func (PySem.W.fnOf "_law_one" "_law_one" (defArgs s_law_one) (defBody s_law_one) (defScope s_law_one) .none kV3 dc3 pm3 an3 cd3 ct3), sl3⟩) (c3 : PySem.W.codeIn K cd3 "_law_one" = true) (k3 : PySem.W.keepIn K (.ref f3) = true)
    (a4 : PySem.W.nsIn K mainGlobals "_law_mixed" = some (some (.ref f4)))
    (l4 : K.lookup f4 = some ⟨oc4, od4, .func (PySem.W.fnOf "_law_mixed" "_law_mixed" (defArgs s_law_mixed) (defBody s_law_mixed) (defScope s_law_mixed) .none kV4 dc4 pm4 an4 cd4 ct4), sl4⟩) (c4 : PySem.W.codeIn K cd4 "_law_mixed" = true) (k4 : PySem.W.keepIn K (.ref f4) = true)
    (a5 : PySem.W.nsIn K mainGlobals "_law_matrix" = some (some (.ref f5)))
    (l5 : K.lookup f5 = some ⟨oc5, od5, .func (PySem.W.fnOf "_law_matrix" "_law_matrix" (defArgs s_law_matrix) (defBody s_law_matrix) (defScope s_law_matrix) .none kV5 dc5 pm5 an5 cd5 ct5), sl5⟩) (c5 : PySem.W.codeIn K cd5 "_law_matrix" = true) (k5 : PySem.W.keepIn K (.ref f5) = true)
    (a6 : PySem.W.nsIn K mainGlobals "first_filled" = some (some (.ref f6)))
    (l6 : K.lookup f6 = some ⟨oc6, od6, .func (PySem.W.fnOf "first_filled" "first_filled" (defArgs s_first_filled) (defBody s_first_filled) (defScope s_first_filled) .none kV6 dc6 pm6 an6 cd6 ct6), sl6⟩) (c6 : PySem.W.codeIn K cd6 "first_filled" = true) (k6 : PySem.W.keepIn K (.ref f6) = true)
    (a7 : PySem.W.nsIn K mainGlobals "inverse" = some (some (.ref f7)))
    (l7 : K.lookup f7 = some ⟨oc7, od7, .func (PySem.W.fnOf "inverse" "inverse" (defArgs s_inverse) (defBody s_inverse) (defScope s_inverse) .none kV7 dc7 pm7 an7 cd7 ct7), sl7⟩) (c7 : PySem.W.codeIn K cd7 "inverse" = true) (k7 : PySem.W.keepIn K (.ref f7) = true)
    (a8 : PySem.W.nsIn K mainGlobals "combined" = some (some (.ref f8)))
    (l8 : K.lookup f8 = some ⟨oc8, od8, .func (PySem.W.fnOf "combined" "combined" (defArgs s_combined) (defBody s_combined) (defScope s_combined) .none kV8 dc8 pm8 an8 cd8 ct8), sl8⟩) (c8 : PySem.W.codeIn K cd8 "combined" = true) (k8 : PySem.W.keepIn K (.ref f8) = true)
    (a9 : PySem.W.nsIn K mainGlobals "cleared" = some (some (.ref f9)))
    (tb1 : PySem.W.tabIn K "cleared" = some (c1_, P1))
    (l9 : K.lookup f9 = some ⟨oc9, od9, .func (PySem.W.fnOf "cleared" "cleared" (defArgs s_cleared) (defBody s_cleared) (defScope s_cleared) .none kV9 dc9 pm9 an9 (.ref c1_) ct9), sl9⟩) (c9 : PySem.W.codeIn K (.ref c1_) "cleared" = true) (k9 : PySem.W.keepIn K (.ref f9) = true)
    (a10 : PySem.W.nsIn K mainGlobals "reduced" = some (some (.ref f10)))
    (tb2 : PySem.W.tabIn K "reduced" = some (c2_, P2))
    (l10 : K.lookup f10 = some ⟨oc10, od10, .func (PySem.W.fnOf "reduced" "reduced" (defArgs s_reduced) (defBody s_reduced) (defScope s_reduced) .none kV10 dc10 pm10 an10 (.ref c2_) ct10), sl10⟩) (c10 : PySem.W.codeIn K (.ref c2_) "reduced" = true) (k10 : PySem.W.keepIn K (.ref f10) = true)
    (a11 : PySem.W.nsIn K mainGlobals "solved" = some (some (.ref f11)))
    (tb3 : PySem.W.tabIn K "solved" = some (c3_, P3))
    (l11 : K.lookup f11 = some ⟨oc11, od11, .func (PySem.W.fnOf "solved" "solved" (defArgs s_solved) (defBody s_solved) (defScope s_solved) .none kV11 dc11 pm11 an11 (.ref c3_) ct11), sl11⟩) (c11 : PySem.W.codeIn K (.ref c3_) "solved" = true) (k11 : PySem.W.keepIn K (.ref f11) = true)
    (a12 : PySem.W.nsIn K mainGlobals "first_free" = some (some (.ref f12)))
    (tb4 : PySem.W.tabIn K "first_free" = some (c4_, P4))
    (l12 : K.lookup f12 = some ⟨oc12, od12, .func (PySem.W.fnOf "first_free" "first_free" (defArgs s_first_free) (defBody s_first_free) (defScope s_first_free) .none kV12 dc12 pm12 an12 (.ref c4_) ct12), sl12⟩) (c12 : PySem.W.codeIn K (.ref c4_) "first_free" = true) (k12 : PySem.W.keepIn K (.ref f12) = true)
    (a13 : PySem.W.nsIn K mainGlobals "unit" = some (some (.ref f13)))
    (tb5 : PySem.W.tabIn K "unit" = some (c5_, P5))
    (l13 : K.lookup f13 = some ⟨oc13, od13, .func (PySem.W.fnOf "unit" "unit" (defArgs s_unit) (defBody s_unit) (defScope s_unit) .none kV13 dc13 pm13 an13 (.ref c5_) ct13), sl13⟩) (c13 : PySem.W.codeIn K (.ref c5_) "unit" = true) (k13 : PySem.W.keepIn K (.ref f13) = true)
    (a14 : PySem.W.nsIn K mainGlobals "with_marks" = some (some (.ref f14)))
    (l14 : K.lookup f14 = some ⟨oc14, od14, .func (PySem.W.fnOf "with_marks" "with_marks" (defArgs s_with_marks) (defBody s_with_marks) (defScope s_with_marks) .none kV14 dc14 pm14 an14 cd14 ct14), sl14⟩) (c14 : PySem.W.codeIn K cd14 "with_marks" = true) (k14 : PySem.W.keepIn K (.ref f14) = true)
    (a15 : PySem.W.nsIn K mainGlobals "spread" = some (some (.ref f15)))
    (tb6 : PySem.W.tabIn K "spread" = some (c6_, P6))
    (l15 : K.lookup f15 = some ⟨oc15, od15, .func (PySem.W.fnOf "spread" "spread" (defArgs s_spread) (defBody s_spread) (defScope s_spread) .none kV15 dc15 pm15 an15 (.ref c6_) ct15), sl15⟩) (c15 : PySem.W.codeIn K (.ref c6_) "spread" = true) (k15 : PySem.W.keepIn K (.ref f15) = true)
    (a16 : PySem.W.nsIn K mainGlobals "left_inverse" = some (some (.ref f16)))
    (tb7 : PySem.W.tabIn K "left_inverse" = some (c7_, P7))
    (l16 : K.lookup f16 = some ⟨oc16, od16, .func (PySem.W.fnOf "left_inverse" "left_inverse" (defArgs s_left_inverse) (defBody s_left_inverse) (defScope s_left_inverse) .none kV16 dc16 pm16 an16 (.ref c7_) ct16), sl16⟩) (c16 : PySem.W.codeIn K (.ref c7_) "left_inverse" = true) (k16 : PySem.W.keepIn K (.ref f16) = true)
    (a17 : PySem.W.nsIn K mainGlobals "_law_lessened" = some (some (.ref f17)))
    (l17 : K.lookup f17 = some ⟨oc17, od17, .func (PySem.W.fnOf "_law_lessened" "_law_lessened" (defArgs s_law_lessened) (defBody s_law_lessened) (defScope s_law_lessened) .none kV17 dc17 pm17 an17 cd17 ct17), sl17⟩) (c17 : PySem.W.codeIn K cd17 "_law_lessened" = true) (k17 : PySem.W.keepIn K (.ref f17) = true)
    (a18 : PySem.W.nsIn K mainGlobals "_law_free_rows" = some (some (.ref f18)))
    (l18 : K.lookup f18 = some ⟨oc18, od18, .func (PySem.W.fnOf "_law_free_rows" "_law_free_rows" (defArgs s_law_free_rows) (defBody s_law_free_rows) (defScope s_law_free_rows) .none kV18 dc18 pm18 an18 cd18 ct18), sl18⟩) (c18 : PySem.W.codeIn K cd18 "_law_free_rows" = true) (k18 : PySem.W.keepIn K (.ref f18) = true)
    (a19 : PySem.W.nsIn K mainGlobals "_law_is_number" = some (some (.ref f19)))
    (l19 : K.lookup f19 = some ⟨oc19, od19, .func (PySem.W.fnOf "_law_is_number" "_law_is_number" (defArgs s_law_is_number) (defBody s_law_is_number) (defScope s_law_is_number) .none kV19 dc19 pm19 an19 cd19 ct19), sl19⟩) (c19 : PySem.W.codeIn K cd19 "_law_is_number" = true) (k19 : PySem.W.keepIn K (.ref f19) = true)
    (a20 : PySem.W.nsIn K mainGlobals "_law_right" = some (some (.ref f20)))
    (l20 : K.lookup f20 = some ⟨oc20, od20, .func (PySem.W.fnOf "_law_right" "_law_right" (defArgs s_law_right) (defBody s_law_right) (defScope s_law_right) .none kV20 dc20 pm20 an20 cd20 ct20), sl20⟩) (c20 : PySem.W.codeIn K cd20 "_law_right" = true) (k20 : PySem.W.keepIn K (.ref f20) = true)
    (a21 : PySem.W.nsIn K mainGlobals "_law_solved_right" = some (some (.ref f21)))
    (l21 : K.lookup f21 = some ⟨oc21, od21, .func (PySem.W.fnOf "_law_solved_right" "_law_solved_right" (defArgs s_law_solved_right) (defBody s_law_solved_right) (defScope s_law_solved_right) .none kV21 dc21 pm21 an21 cd21 ct21), sl21⟩) (c21 : PySem.W.codeIn K cd21 "_law_solved_right" = true) (k21 : PySem.W.keepIn K (.ref f21) = true)
    (a22 : PySem.W.nsIn K mainGlobals "law" = some (some (.ref f22)))
    (l22 : K.lookup f22 = some ⟨oc22, od22, .func (PySem.W.fnOf "law" "law" (defArgs s_law) (defBody s_law) (defScope s_law) .none kV22 dc22 pm22 an22 cd22 ct22), sl22⟩) (c22 : PySem.W.codeIn K cd22 "law" = true) (k22 : PySem.W.keepIn K (.ref f22) = true)
    (nt1 : K.lookup P1 = none) (rc1 : (PyProof.Rows.recsOf q).find? (fun e => e.name == ("cleared" : Str)) = some dR1)
    (nt2 : K.lookup P2 = none) (rc2 : (PyProof.Rows.recsOf q).find? (fun e => e.name == ("reduced" : Str)) = some dR2)
    (nt3 : K.lookup P3 = none) (rc3 : (PyProof.Rows.recsOf q).find? (fun e => e.name == ("solved" : Str)) = some dR3)
    (nt4 : K.lookup P4 = none) (rc4 : (PyProof.Rows.recsOf q).find? (fun e => e.name == ("first_free" : Str)) = some dR4)
    (nt5 : K.lookup P5 = none) (rc5 : (PyProof.Rows.recsOf q).find? (fun e => e.name == ("unit" : Str)) = some dR5)
    (nt6 : K.lookup P6 = none) (rc6 : (PyProof.Rows.recsOf q).find? (fun e => e.name == ("spread" : Str)) = some dR6)
    (nt7 : K.lookup P7 = none) (rc7 : (PyProof.Rows.recsOf q).find? (fun e => e.name == ("left_inverse" : Str)) = some dR7)
    (z_int : PySem.W.nsIn K mainGlobals "int" = some none)
    (z_bool : PySem.W.nsIn K mainGlobals "bool" = some none)
    (z_len : PySem.W.nsIn K mainGlobals "len" = some none)
    (z_max : PySem.W.nsIn K mainGlobals "max" = some none)
    (z_min : PySem.W.nsIn K mainGlobals "min" = some none)
    (z_range : PySem.W.nsIn K mainGlobals "range" = some none)
    (z_isinstance : PySem.W.nsIn K mainGlobals "isinstance" = some none)
    (z_tuple : PySem.W.nsIn K mainGlobals "tuple" = some none)
    (z_any : PySem.W.nsIn K mainGlobals "any" = some none)
    (z_zip : PySem.W.nsIn K mainGlobals "zip" = some none)
    (z_enumerate : PySem.W.nsIn K mainGlobals "enumerate" = some none)
    (z_list : PySem.W.nsIn K mainGlobals "list" = some none)
    (z_sum : PySem.W.nsIn K mainGlobals "sum" = some none)
    (z_dict : PySem.W.nsIn K mainGlobals "dict" = some none)
    : LawAtG l w K CX0 9 63 "script" mg fa h := by
  have e := hfa.symm.trans (PySem.W.mg_of X G a22)
  cases e
  have F1 := fun_mk (st := s_law_pool) l1 c1 k1
  have F2 := fun_mk (st := s_law_take) l2 c2 k2
  have F3 := fun_mk (st := s_law_one) l3 c3 k3
  have F4 := fun_mk (st := s_law_mixed) l4 c4 k4
  have F5 := fun_mk (st := s_law_matrix) l5 c5 k5
  have F6 := fun_mk (st := s_first_filled) l6 c6 k6
  have F7 := fun_mk (st := s_inverse) l7 c7 k7
  have F8 := fun_mk (st := s_combined) l8 c8 k8
  have F9 := funC_mk (st := s_cleared) l9 c9 k9
  have F10 := funC_mk (st := s_reduced) l10 c10 k10
  have F11 := funC_mk (st := s_solved) l11 c11 k11
  have F12 := funC_mk (st := s_first_free) l12 c12 k12
  have F13 := funC_mk (st := s_unit) l13 c13 k13
  have F14 := fun_mk (st := s_with_marks) l14 c14 k14
  have F15 := funC_mk (st := s_spread) l15 c15 k15
  have F16 := funC_mk (st := s_left_inverse) l16 c16 k16
  have F17 := fun_mk (st := s_law_lessened) l17 c17 k17
  have F18 := fun_mk (st := s_law_free_rows) l18 c18 k18
  have F19 := fun_mk (st := s_law_is_number) l19 c19 k19
  have F20 := fun_mk (st := s_law_right) l20 c20 k20
  have F21 := fun_mk (st := s_law_solved_right) l21 c21 k21
  have F22 := funC_mk (st := s_law) l22 c22 k22
  have T : Tx mg := ⟨PySem.W.mg_none_of X G z_int, PySem.W.mg_none_of X G z_bool, PySem.W.mg_none_of X G z_len, PySem.W.mg_none_of X G z_max, PySem.W.mg_none_of X G z_min, PySem.W.mg_none_of X G z_range, PySem.W.mg_none_of X G z_isinstance, PySem.W.mg_none_of X G z_tuple, PySem.W.mg_none_of X G z_any, PySem.W.mg_none_of X G z_zip, PySem.W.mg_none_of X G z_enumerate, PySem.W.mg_none_of X G z_list, PySem.W.mg_none_of X G z_sum, PySem.W.mg_none_of X G z_dict⟩
  have b1 := F1.binds (ps := ["script", "k"]) fun _ _ _ _ _ _ us hl => match us, hl with | [_, _], _ => rfl
  have b2 := F2.binds (ps := ["source", "top"]) fun _ _ _ _ _ _ us hl => match us, hl with | [_, _], _ => rfl
  have b3 := F3.binds (ps := ["source", "things"]) fun _ _ _ _ _ _ us hl => match us, hl with | [_, _], _ => rfl
  have b4 := F4.binds (ps := ["source", "things"]) fun _ _ _ _ _ _ us hl => match us, hl with | [_, _], _ => rfl
  have b5 := F5.binds (ps := ["source", "p", "many"]) fun _ _ _ _ _ _ us hl => match us, hl with | [_, _, _], _ => rfl
  have b6 := F6.binds (ps := ["rows", "start", "place"]) fun _ _ _ _ _ _ us hl => match us, hl with | [_, _, _], _ => rfl
  have b7 := F7.binds (ps := ["a", "p"]) fun _ _ _ _ _ _ us hl => match us, hl with | [_, _], _ => rfl
  have b8 := F8.binds (ps := ["row", "factor", "other", "p"]) fun _ _ _ _ _ _ us hl => match us, hl with | [_, _, _, _], _ => rfl
  have b9 := F9.fn.binds (ps := ["rows", "top", "place", "p"]) fun _ _ _ _ _ _ us hl => match us, hl with | [_, _, _, _], _ => rfl
  have b10 := F10.fn.binds (ps := ["rows", "many", "p"]) fun _ _ _ _ _ _ us hl => match us, hl with | [_, _, _], _ => rfl
  have b11 := F11.fn.binds (ps := ["matrix", "many", "right", "p"]) fun _ _ _ _ _ _ us hl => match us, hl with | [_, _, _, _], _ => rfl
  have b12 := F12.fn.binds (ps := ["matrix", "many", "p"]) fun _ _ _ _ _ _ us hl => match us, hl with | [_, _, _], _ => rfl
  have b13 := F13.fn.binds (ps := ["place", "size"]) fun _ _ _ _ _ _ us hl => match us, hl with | [_, _], _ => rfl
  have b14 := F14.binds (ps := ["matrix"]) fun _ _ _ _ _ _ us hl => match us, hl with | [_], _ => rfl
  have b15 := F15.fn.binds (ps := ["numbers", "places", "size"]) fun _ _ _ _ _ _ us hl => match us, hl with | [_, _, _], _ => rfl
  have b16 := F16.fn.binds (ps := ["matrix", "many", "p"]) fun _ _ _ _ _ _ us hl => match us, hl with | [_, _, _], _ => rfl
  have b17 := F17.binds (ps := ["row", "taken", "p"]) fun _ _ _ _ _ _ us hl => match us, hl with | [_, _, _], _ => rfl
  have b18 := F18.binds (ps := ["matrix", "p"]) fun _ _ _ _ _ _ us hl => match us, hl with | [_, _], _ => rfl
  have b19 := F19.binds (ps := ["thing", "p"]) fun _ _ _ _ _ _ us hl => match us, hl with | [_, _], _ => rfl
  have b20 := F20.binds (ps := ["matrix", "many", "p"]) fun _ _ _ _ _ _ us hl => match us, hl with | [_, _, _], _ => rfl
  have b21 := F21.binds (ps := ["source", "matrix", "many", "p"]) fun _ _ _ _ _ _ us hl => match us, hl with | [_, _, _, _], _ => rfl
  have b22 := F22.fn.binds (ps := ["script"]) fun _ _ _ _ _ _ us hl => match us, hl with | [_], _ => rfl
  have X1 := PySem.W.tab_of TP X rc1 tb1
  have X2 := PySem.W.tab_of TP X rc2 tb2
  have X3 := PySem.W.tab_of TP X rc3 tb3
  have X4 := PySem.W.tab_of TP X rc4 tb4
  have X5 := PySem.W.tab_of TP X rc5 tb5
  have X6 := PySem.W.tab_of TP X rc6 tb6
  have X7 := PySem.W.tab_of TP X rc7 tb7
  refine ⟨PySem.W.fnOf "law" "law" (defArgs s_law) (defBody s_law) (defScope s_law) .none kV22 dc22 pm22 an22 cd22 ct22, [(c1_, P1), (c2_, P2), (c3_, P3), (c4_, P4), (c5_, P5), (c6_, P6), (c7_, P7)], spD K [P1, P2, P3, P4, P5, P6, P7] [] mLaw, ?_, ?_, ?_, fun s v => .of_eq rfl, fun H a ns hl hT hS => ⟨fun _ => False, [], [.lst (ns.map .int)], fun r => r = .v (.bool true), fun _ _ => False, .cons ⟨a, ns.map V.int, rfl, hS.elim (fun z => .inl ⟨z, nofun⟩) (fun z => .inr fun _ => .inr z), Das.ints ns⟩ .nil, nofun, nofun, ⟨fun P hP => ?_, (fun _ h => nomatch h), (fun _ _ _ h => nomatch h)⟩, rfl, ⟨ns, rfl, hl, rfl⟩, fun r hr v H' _ _ _ rv => ?_, fun _ _ z => z.elim⟩, fun base _ _ hB => ?_⟩
  · intro p hp
    simp only [List.mem_cons, List.not_mem_nil, or_false] at hp
    rcases hp with rfl | rfl | rfl | rfl | rfl | rfl | rfl
    · exact X1.2
    · exact X2.2
    · exact X3.2
    · exact X4.2
    · exact X5.2
    · exact X6.2
    · exact X7.2
  · intro p hp
    simp only [List.mem_cons, List.not_mem_nil, or_false] at hp
    rcases hp with rfl | rfl | rfl | rfl | rfl | rfl | rfl
    · exact nt1
    · exact nt2
    · exact nt3
    · exact nt4
    · exact nt5
    · exact nt6
    · exact nt7
  · intro p hp
    simp only [List.mem_cons, List.not_mem_nil, or_false] at hp
    rcases hp with rfl | rfl | rfl | rfl | rfl | rfl | rfl
    · exact X1.1
    · exact X2.1
    · exact X3.1
    · exact X4.1
    · exact X5.1
    · exact X6.1
    · exact X7.1
  · simp only [List.mem_cons, List.not_mem_nil, or_false] at hP
    rcases hP with rfl | rfl | rfl | rfl | rfl | rfl | rfl
    · exact ⟨_, hT (c1_, _) (by simp), trivial⟩
    · exact ⟨_, hT (c2_, _) (by simp), trivial⟩
    · exact ⟨_, hT (c3_, _) (by simp), trivial⟩
    · exact ⟨_, hT (c4_, _) (by simp), trivial⟩
    · exact ⟨_, hT (c5_, _) (by simp), trivial⟩
    · exact ⟨_, hT (c6_, _) (by simp), trivial⟩
    · exact ⟨_, hT (c7_, _) (by simp), trivial⟩
  · subst hr
    have rv : Da K _ H' v (.bool true) := rv
    cases rv
    rfl
  have B1 := hB (c1_, P1) (by simp)
  have B2 := hB (c2_, P2) (by simp)
  have B3 := hB (c3_, P3) (by simp)
  have B4 := hB (c4_, P4) (by simp)
  have B5 := hB (c5_, P5) (by simp)
  have B6 := hB (c6_, P6) (by simp)
  have B7 := hB (c7_, P7) (by simp)
  have d_law_pool : Dk l.prog w K mg base 1 "_law_pool" ["script", "k"] (spD K [P1, P2, P3, P4, P5, P6, P7] [] mPool) := ⟨f1, _, ok_law_pool F1 T, PySem.W.mg_of X G a1, k1, b1⟩
  have d_law_take : Dk l.prog w K mg base 1 "_law_take" ["source", "top"] (spD K [P1, P2, P3, P4, P5, P6, P7] [] mTake) := ⟨f2, _, ok_law_take F2 T, PySem.W.mg_of X G a2, k2, b2⟩
  have d_law_one : Dk l.prog w K mg base 2 "_law_one" ["source", "things"] (spD K [P1, P2, P3, P4, P5, P6, P7] [] mOne) := ⟨f3, _, ok_law_one F3 T d_law_take, PySem.W.mg_of X G a3, k3, b3⟩
  have d_law_mixed : Dk l.prog w K mg base 2 "_law_mixed" ["source", "things"] (spD K [P1, P2, P3, P4, P5, P6, P7] [] mMixed) := ⟨f4, _, ok_law_mixed F4 T d_law_take, PySem.W.mg_of X G a4, k4, b4⟩
  have d_law_matrix : Dk l.prog w K mg base 3 "_law_matrix" ["source", "p", "many"] (spD K [P1, P2, P3, P4, P5, P6, P7] [] m_law_matrix) := ⟨f5, _, ok_law_matrix F5 T d_law_take d_law_one d_law_mixed, PySem.W.mg_of X G a5, k5, b5⟩
  have d_first_filled : Dk l.prog w K mg base 1 "first_filled" ["rows", "start", "place"] (spD K [P1, P2, P3, P4, P5, P6, P7] [] m_first_filled) := ⟨f6, _, ok_first_filled F6 T, PySem.W.mg_of X G a6, k6, b6⟩
  have d_inverse : Dk l.prog w K mg base 1 "inverse" ["a", "p"] (spD K [P1, P2, P3, P4, P5, P6, P7] [] m_inverse) := ⟨f7, _, ok_inverse F7 T, PySem.W.mg_of X G a7, k7, b7⟩
  have d_combined : Dk l.prog w K mg base 1 "combined" ["row", "factor", "other", "p"] (spD K [P1, P2, P3, P4, P5, P6, P7] [] m_combined) := ⟨f8, _, ok_combined F8 T, PySem.W.mg_of X G a8, k8, b8⟩
  have d_cleared : Dk l.prog w K mg base 4 "cleared" ["rows", "top", "place", "p"] (spD K [P1, P2, P3, P4, P5, P6, P7] [] m_cleared) := ⟨f9, _, ok_cleared F9 T B1 (by simp) d_inverse d_combined, PySem.W.mg_of X G a9, k9, b9⟩
  have d_reduced : Dk l.prog w K mg base 5 "reduced" ["rows", "many", "p"] (spD K [P1, P2, P3, P4, P5, P6, P7] [] m_reduced) := ⟨f10, _, ok_reduced F10 T B2 (by simp) d_first_filled d_cleared, PySem.W.mg_of X G a10, k10, b10⟩
  have d_solved : Dk l.prog w K mg base 6 "solved" ["matrix", "many", "right", "p"] (spD K [P1, P2, P3, P4, P5, P6, P7] [] m_solved) := ⟨f11, _, ok_solved F11 T B3 (by simp) d_reduced, PySem.W.mg_of X G a11, k11, b11⟩
  have d_first_free : Dk l.prog w K mg base 6 "first_free" ["matrix", "many", "p"] (spD K [P1, P2, P3, P4, P5, P6, P7] [] m_first_free) := ⟨f12, _, ok_first_free F12 T B4 (by simp) d_reduced, PySem.W.mg_of X G a12, k12, b12⟩
  have d_unit : Dk l.prog w K mg base 4 "unit" ["place", "size"] (spD K [P1, P2, P3, P4, P5, P6, P7] [] m_unit) := ⟨f13, _, ok_unit F13 T B5 (by simp), PySem.W.mg_of X G a13, k13, b13⟩
  have d_with_marks : Dk l.prog w K mg base 5 "with_marks" ["matrix"] (spD K [P1, P2, P3, P4, P5, P6, P7] [] m_with_marks) := ⟨f14, _, ok_with_marks F14 T d_unit, PySem.W.mg_of X G a14, k14, b14⟩
  have d_spread : Dk l.prog w K mg base 4 "spread" ["numbers", "places", "size"] (spD K [P1, P2, P3, P4, P5, P6, P7] [] m_spread) := ⟨f15, _, ok_spread F15 T B6 (by simp), PySem.W.mg_of X G a15, k15, b15⟩
  have d_left_inverse : Dk l.prog w K mg base 7 "left_inverse" ["matrix", "many", "p"] (spD K [P1, P2, P3, P4, P5, P6, P7] [] m_left_inverse) := ⟨f16, _, ok_left_inverse F16 T B7 (by simp) d_first_free d_reduced d_with_marks d_spread, PySem.W.mg_of X G a16, k16, b16⟩
  have d_law_lessened : Dk l.prog w K mg base 1 "_law_lessened" ["row", "taken", "p"] (spD K [P1, P2, P3, P4, P5, P6, P7] [] m_law_lessened) := ⟨f17, _, ok_law_lessened F17 T, PySem.W.mg_of X G a17, k17, b17⟩
  have d_law_free_rows : Dk l.prog w K mg base 2 "_law_free_rows" ["matrix", "p"] (spD K [P1, P2, P3, P4, P5, P6, P7] [] m_law_free_rows) := ⟨f18, _, ok_law_free_rows F18 T d_law_lessened, PySem.W.mg_of X G a18, k18, b18⟩
  have d_law_is_number : Dk l.prog w K mg base 1 "_law_is_number" ["thing", "p"] (spD K [P1, P2, P3, P4, P5, P6, P7] [] m_law_is_number) := ⟨f19, _, ok_law_is_number F19 T, PySem.W.mg_of X G a19, k19, b19⟩
  have d_law_right : Dk l.prog w K mg base 8 "_law_right" ["matrix", "many", "p"] (spD K [P1, P2, P3, P4, P5, P6, P7] [] m_law_right) := ⟨f20, _, ok_law_right F20 T d_law_free_rows d_left_inverse d_law_is_number, PySem.W.mg_of X G a20, k20, b20⟩
  have d_law_solved_right : Dk l.prog w K mg base 7 "_law_solved_right" ["source", "matrix", "many", "p"] (spD K [P1, P2, P3, P4, P5, P6, P7] [] m_law_solved_right) := ⟨f21, _, ok_law_solved_right F21 T d_solved d_law_one d_law_free_rows d_law_take, PySem.W.mg_of X G a21, k21, b21⟩
  exact ok_law F22 T d_law_pool d_law_matrix d_solved d_left_inverse d_law_right d_law_one d_law_take d_law_solved_right
end KK
open PySem PySem.W PyProof.Rows in
set_option maxRecDepth 100000 in
set_option maxHeartbeats 0 in
theorem PySem.Challenge.cw_sumstand_k02_left_inverses_holds : PySem.Challenge.rw_sumstand_k02_left_inverses.Holds := by
  w_on; o_law; k_head; (case hw => w_witness2)
  k_fill
  refine GX.walk_ofG (l := PySem.Challenge.rw_sumstand_k02_left_inverses) (n := 63) (k := 9) (x := "script") (CX := fun _ => L2.CX0) rfl (by decide) rfl ⟨rfl, by decide, by decide⟩ (fun w h Y => PySem.W.kIn_of Y) ?F (fun _ _ _ _ _ h => h)
  case F =>
    intro w mg mb fa h lo mean TP KX G hmg
    refine' KK.all_mk TP KX G hmg ?a1 ?l1 ?c1 ?k1 ?a2 ?l2 ?c2 ?k2 ?a3 ?l3 ?c3 ?k3 ?a4 ?l4 ?c4 ?k4 ?a5 ?l5 ?c5 ?k5 ?a6 ?l6 ?c6 ?k6 ?a7 ?l7 ?c7 ?k7 ?a8 ?l8 ?c8 ?k8 ?a9 ?tb1 ?l9 ?c9 ?k9 ?a10 ?tb2 ?l10 ?c10 ?k10 ?a11 ?tb3 ?l11 ?c11 ?k11 ?a12 ?tb4 ?l12 ?c12 ?k12 ?a13 ?tb5 ?l13 ?c13 ?k13 ?a14 ?l14 ?c14 ?k14 ?a15 ?tb6 ?l15 ?c15 ?k15 ?a16 ?tb7 ?l16 ?c16 ?k16 ?a17 ?l17 ?c17 ?k17 ?a18 ?l18 ?c18 ?k18 ?a19 ?l19 ?c19 ?k19 ?a20 ?l20 ?c20 ?k20 ?a21 ?l21 ?c21 ?k21 ?a22 ?l22 ?c22 ?k22 ?nt1 ?rc1 ?nt2 ?rc2 ?nt3 ?rc3 ?nt4 ?rc4 ?nt5 ?rc5 ?nt6 ?rc6 ?nt7 ?rc7 ?z_int ?z_bool ?z_len ?z_max ?z_min ?z_range ?z_isinstance ?z_tuple ?z_any ?z_zip ?z_enumerate ?z_list ?z_sum ?z_dict
    (case a1 => k_is)
    (case l1 => k_is)
    (case c1 => k_is)
    (case k1 => k_is)
    (case a2 => k_is)
    (case l2 => k_is)
    (case c2 => k_is)
    (case k2 => k_is)
    (case a3 => k_is)
    (case l3 => k_is)
    (case c3 => k_is)
    (case k3 => k_is)
    (case a4 => k_is)
    (case l4 => k_is)
    (case c4 => k_is)
    (case k4 => k_is)
    (case a5 => k_is)
    (case l5 => k_is)
    (case c5 => k_is)
    (case k5 => k_is)
    (case a6 => k_is)
    (case l6 => k_is)
    (case c6 => k_is)
    (case k6 => k_is)
    (case a7 => k_is)
    (case l7 => k_is)
    (case c7 => k_is)
    (case k7 => k_is)
    (case a8 => k_is)
    (case l8 => k_is)
    (case c8 => k_is)
    (case k8 => k_is)
    (case a9 => k_is)
    (case tb1 => first | k_is | exact rfl | decide +kernel)
    (case l9 => k_is)
    (case c9 => k_is)
    (case k9 => k_is)
    (case a10 => k_is)
    (case tb2 => first | k_is | exact rfl | decide +kernel)
    (case l10 => k_is)
    (case c10 => k_is)
    (case k10 => k_is)
    (case a11 => k_is)
    (case tb3 => first | k_is | exact rfl | decide +kernel)
    (case l11 => k_is)
    (case c11 => k_is)
    (case k11 => k_is)
    (case a12 => k_is)
    (case tb4 => first | k_is | exact rfl | decide +kernel)
    (case l12 => k_is)
    (case c12 => k_is)
    (case k12 => k_is)
    (case a13 => k_is)
    (case tb5 => first | k_is | exact rfl | decide +kernel)
    (case l13 => k_is)
    (case c13 => k_is)
    (case k13 => k_is)
    (case a14 => k_is)
    (case l14 => k_is)
    (case c14 => k_is)
    (case k14 => k_is)
    (case a15 => k_is)
    (case tb6 => first | k_is | exact rfl | decide +kernel)
    (case l15 => k_is)
    (case c15 => k_is)
    (case k15 => k_is)
    (case a16 => k_is)
    (case tb7 => first | k_is | exact rfl | decide +kernel)
    (case l16 => k_is)
    (case c16 => k_is)
    (case k16 => k_is)
    (case a17 => k_is)
    (case l17 => k_is)
    (case c17 => k_is)
    (case k17 => k_is)
    (case a18 => k_is)
    (case l18 => k_is)
    (case c18 => k_is)
    (case k18 => k_is)
    (case a19 => k_is)
    (case l19 => k_is)
    (case c19 => k_is)
    (case k19 => k_is)
    (case a20 => k_is)
    (case l20 => k_is)
    (case c20 => k_is)
    (case k20 => k_is)
    (case a21 => k_is)
    (case l21 => k_is)
    (case c21 => k_is)
    (case k21 => k_is)
    (case a22 => k_is)
    (case l22 => k_is)
    (case c22 => k_is)
    (case k22 => k_is)
    (case nt1 => first | exact rfl | k_is)
    (case rc1 => first | exact rfl | k_is)
    (case nt2 => first | exact rfl | k_is)
    (case rc2 => first | exact rfl | k_is)
    (case nt3 => first | exact rfl | k_is)
    (case rc3 => first | exact rfl | k_is)
    (case nt4 => first | exact rfl | k_is)
    (case rc4 => first | exact rfl | k_is)
    (case nt5 => first | exact rfl | k_is)
    (case rc5 => first | exact rfl | k_is)
    (case nt6 => first | exact rfl | k_is)
    (case rc6 => first | exact rfl | k_is)
    (case nt7 => first | exact rfl | k_is)
    (case rc7 => first | exact rfl | k_is)
    (case z_int => k_is)
    (case z_bool => k_is)
    (case z_len => k_is)
    (case z_max => k_is)
    (case z_min => k_is)
    (case z_range => k_is)
    (case z_isinstance => k_is)
    (case z_tuple => k_is)
    (case z_any => k_is)
    (case z_zip => k_is)
    (case z_enumerate => k_is)
    (case z_list => k_is)
    (case z_sum => k_is)
    (case z_dict => k_is)

