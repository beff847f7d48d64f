import PyProof.Rows.All
import Wide.All
import OpenK.AllK
import Wide.FinOn
import PyProof.TupleOfGen
import HandS.ForMost
import HandS.IsInst
import HandS.RaiseMore
import HandS.Codes
import HandS.AnyAll
import HandS.GenList
import HandS.Walk
import HandS.WordsExc
import HandS.ExcInit
import HandS.ExcField
import HandS.ExcIs
import HandS.TupAny
import HandS.TupMul
import HandS.Style
import HandS.SortInts
import HandS.Zip
import KE.GoesMore
import HandS.ExcOwn
import KE.KExcIs
import KE.DataEq
import KE.KTypeName
import KE.GoesEnum
import KE.DataAny
import HandS.Deep
import HandS.EndTab
import PySem.Challenge.RW_sumstand_k03_shapes_made_and_refused
import HandS.Lambda
set_option Elab.async false
set_option linter.all false
set_option maxRecDepth 100000
namespace LW
open PySem L2
/-! ### rules in short -/
section
variable {X : Cx}
theorem call_intI : CallR X (.type "int") (fun xs H Q => ∃ i, xs = [.int i] ∧ Q (.int i) H) := fun pins s σ H xs us Q I r h =>
  call_int1 pins s σ H xs us Q I r (.inl h)
theorem call_intB : CallR X (.type "int") (fun xs H Q => ∃ k, xs = [.bl k] ∧ Q (.int (if k then 1 else 0)) H) := fun pins s σ H xs us Q I r h =>
  call_int1 pins s σ H xs us Q I r (.inr h)
theorem call_lenL : CallR X (.builtin "len") (fun xs H Q => ∃ p ys, xs = [.ref p] ∧ SqL X.K H p ys ∧ Q (.int ys.length) H) := fun pins s σ H xs us Q I r ⟨p, ys, e, h, q⟩ =>
  call_len_seq pins s σ H xs us Q I r ⟨p, ys, e, .inl h, q⟩
theorem call_lenT : CallR X (.builtin "len") (fun xs H Q => ∃ p ys, xs = [.ref p] ∧ SqT X.K H p ys ∧ Q (.int ys.length) H) := fun pins s σ H xs us Q I r ⟨p, ys, e, h, q⟩ =>
  call_len_seq pins s σ H xs us Q I r ⟨p, ys, e, .inr h, q⟩
theorem call_reprI : CallR X (.builtin "repr") (fun xs H Q => ∃ i, xs = [.int i] ∧ i.natAbs.log2 < 1920 ∧ Q (.str (toString i)) H) := SkE.call_repr_int
def yesNo (b : Bool) : Str := if b then "True" else "False"
theorem call_reprB : CallR X (.builtin "repr") (fun xs H Q => ∃ b, xs = [.bl b] ∧ Q (.str (yesNo b)) H) := by
  intro pins s σ H xs us Q I r h
  obtain ⟨b, rfl, q⟩ := h
  obtain ⟨u, rfl, e⟩ := vals1 r
  cases e
  exact PySem.P.repr_of_bool ⟨.str (yesNo b), H, I.tok _, ⟨_, rfl⟩, q⟩
end
/-! ### a def by its name, its promise beside it -/
structure Dk (P : Program) (w : World) (K : PySem.W.Frag) (mg : Str → Option Value) (base : Heap) (k : Nat) (x : Str) (ps : List Str) (sp : Sp) where
  f : Addr
  fd : FuncData
  G : FnOk P w K mg base CX0 k f fd ps sp
  gm : mg x = some (.ref f)
  kp : PySem.W.keepIn K (.ref f) = true
  b : Binds K fd ps []
section
variable {X : Cx} {k : Nat} {x : Str} {ps : List Str} {sp : Sp} {p pos : Pos} {e : Expr} {es : List Expr} {t : TA}
theorem pe_dk (d : Dk X.prog X.w X.K X.mg X.base k x ps sp) (hr : Room k X.A) (hg : Gl X x) (ha : PA X (e :: es) t) (hdb : (x == ("__debug__" : Str)) = false := by decide)
    (he : starEach (e :: es) X.env = (false, eval e X.env) :: starEach es X.env := by rfl) (hpl : (backTo pos (starEach es X.env)).any (·.1) = false := by rfl) :
    PE X (.Call (.Name x p) (e :: es) [] pos) (tCall sp [] E0 t) := pe_call d.G hr hg d.gm d.kp d.b .nil pass0 ha hdb he hpl
/-- only keywords, in the parameters' order -/
def gK {α : Type} : List α → List α → List α
  | [], ws => ws
  | _ :: _, _ => []
theorem kb_mk {K : PySem.W.Frag} {fd : FuncData} {ps : List Str} (h : ∀ (s : Shared) (ws : List Value), ws.length = ps.length → BindsTo s fd ⟨[], ps.zip ws⟩ (ps.zip ws)) (h0 : 0 < ps.length) : KBinds K fd ps ps gK gK where
  to := fun s us ws _ hl => by
    cases us with
    | nil => exact h s ws hl
    | cons u us =>
      have e : 0 = ps.length := hl
      omega
  rel := fun {vs us zs ws} r q => by
    cases r with
    | nil => exact q
    | cons a b => exact .nil
theorem pe_dkK0 {ks : List Str} {g : List Value → List Value → List Value} {gV : List V → List V → List V} {kws : List Keyword} {tk : TA} (d : Dk X.prog X.w X.K X.mg X.base k x ps sp) (hr : Room k X.A) (hg : Gl X x) (hb : KBinds X.K d.fd ps ks g gV)
    (hkw : PK X kws tk) (hall : (backToKw pos (keywordEach kws X.env)).all (·.1.isSome) = true := by rfl) (hks : (backToKw pos (keywordEach kws X.env)).filterMap (·.1) = ks := by rfl)
    (hdb : (x == ("__debug__" : Str)) = false := by decide)
    (hpl : ((backTo pos (starEach [] X.env)).any (·.1) || (backToKw pos (keywordEach kws X.env)).any (·.1.isNone)) = false := by rfl) :
    PE X (.Call (.Name x p) [] kws pos) (tCallK sp gV E0 tNil tk) := by
  refine ⟨fun pins s σ H Q I h => ?_⟩
  refine wpAny_Call_Name_kw (ld_glob I hg d.gm ?_ hdb)
  refine PySem.W.callWith_KW0 (h₀ := X.base) I.ok.mod.kin d.kp hall (thn (hkw.run pos pins s σ H _ I h) fun ws s2 ⟨zs, H2, I2, rz, q2⟩ => ⟨I2.kIn, ?_⟩) hpl
  rw [hks]
  exact run_fnk (us := []) d.G hr hb pass0 I2 .nil rz q2
end
/-! ### heaps -/
theorem Same.newU {H H' : Hp} {p : Addr} {o : HO} (s : Same H H') (h : H p = none) : Same H (upd H' p o) := fun b x e => by
  rw [upd_ne (ne_of_none e h)]
  exact s _ _ e
theorem same_upd {H : Hp} {p : Addr} {o : HO} (h : H p = none) : Same H (upd H p o) := fun b x e => by
  rw [upd_ne (ne_of_none e h)]
  exact e
theorem Same.seqT {K : PySem.W.Frag} {H H' : Hp} {a : Addr} {xs : List V} (e : Same H H') (h : SqT K H a xs) : SqT K H' a xs := by
  rcases h with (h | ⟨o, h⟩) | h
  · exact .inl (.inl (e _ _ h))
  · exact .inl (.inr ⟨o, e _ _ h⟩)
  · exact .inr h
/-- all but the pool at p is as it was -/
def Rl (p : Addr) (H H' : Hp) : Prop := ∀ b o, b ≠ p → H b = some o → H' b = some o
theorem Rl.refl (p : Addr) (H : Hp) : Rl p H H := fun _ _ _ h => h
theorem Rl.trans {p : Addr} {H H1 H2 : Hp} (a : Rl p H H1) (b : Rl p H1 H2) : Rl p H H2 := fun c o n h => b c o n (a c o n h)
theorem Rl.same {p : Addr} {H H1 : Hp} (a : Same H H1) : Rl p H H1 := fun c o _ h => a c o h
theorem Rl.upd {p : Addr} {H : Hp} {o : HO} : Rl p H (upd H p o) := fun b x n e => by
  rw [upd_ne n]
  exact e
theorem Rl.seq {K : PySem.W.Frag} {p : Addr} {H H' : Hp} {a : Addr} {xs : List V} (e : Rl p H H') (n : a ≠ p) (h : SqL K H a xs) : SqL K H' a xs := by
  rcases h with (h | ⟨o, h⟩) | h
  · exact .inl (.inl (e _ _ n h))
  · exact .inl (.inr ⟨o, e _ _ n h⟩)
  · exact .inr h
theorem Rl.seqT {K : PySem.W.Frag} {p : Addr} {H H' : Hp} {a : Addr} {xs : List V} (e : Rl p H H') (n : a ≠ p) (h : SqT K H a xs) : SqT K H' a xs := by
  rcases h with (h | ⟨o, h⟩) | h
  · exact .inl (.inl (e _ _ n h))
  · exact .inl (.inr ⟨o, e _ _ n h⟩)
  · exact .inr h
/-- a pool at p: two numbers, the second below the greatest -/
def Pl (H : Hp) (p : Addr) : Prop := ∃ x y : Int, 0 ≤ x ∧ 0 ≤ y ∧ y < 2147483647 ∧ H p = some (.lst [.int x, .int y])
theorem Pl.same {H H' : Hp} {p : Addr} (h : Pl H p) (s : Same H H') : Pl H' p := by
  obtain ⟨x, y, a, b, c, e⟩ := h
  exact ⟨x, y, a, b, c, s _ _ e⟩
theorem Pl.ne {H : Hp} {p q : Addr} (h : Pl H p) (n : H q = none) : p ≠ q := by
  obtain ⟨x, y, a, b, c, e⟩ := h
  exact ne_of_none e n
theorem int0 {x : Int} {ys : List V} : atI (V.int x :: ys) 0 = some (V.int x) := atI_nat (j := 0) rfl
theorem int1 {x : Int} {z : V} {ys : List V} : atI (z :: V.int x :: ys) 1 = some (V.int x) := atI_nat (j := 1) rfl
/-! ### data -/
theorem dpAll_ints {K : PySem.W.Frag} {H : Hp} : ∀ ns : List Int, DpAll K H (ns.map V.int) (ns.map PyData.int)
  | [] => .nil
  | n :: ns => .cons (.int n) (dpAll_ints ns)
theorem eqv_nil (ds : List PyData) : PyData.eqv (.list ds) (.list []) = ds.isEmpty := by
  cases ds <;> rfl
theorem shaped_ints (ns : List Int) : SeqAt.shaped (.list (ns.map PyData.int)) = true := PySem.W.ke_shaped_ints ns
end LW
namespace K00
/-! ### numbers -/
def tst (n : Int) (i : Nat) : Bool := decide ((2 + (i : Int)) * (2 + (i : Int)) ≤ n) && decide (n % (2 + (i : Int)) = 0)
def isP (n : Int) : Bool := decide (2 ≤ n) && (List.range 255).all fun i => !tst n i
def isPr (n : Int) : Bool := decide (n ≤ 65521) && isP n
theorem isP_iff {n : Int} : isP n = true ↔ 2 ≤ n ∧ ∀ i : Nat, i < 255 → tst n i = false := by
  unfold isP
  simp only [Bool.and_eq_true, decide_eq_true_eq, List.all_eq_true, List.mem_range, Bool.not_eq_true']
theorem tst_iff {n : Int} {i : Nat} : tst n i = true ↔ (2 + (i : Int)) * (2 + (i : Int)) ≤ n ∧ n % (2 + (i : Int)) = 0 := by
  unfold tst
  simp only [Bool.and_eq_true, decide_eq_true_eq]
theorem isP_ge {n : Int} (h : isP n = true) : 2 ≤ n := (isP_iff.mp h).1
/-- no number d with d * d ≤ n divides -/
theorem isP_no {n d : Int} (h : isP n = true) (h2 : 2 ≤ d) (hd : d < 257) (hs : d * d ≤ n) (hm : n % d = 0) : False := by
  obtain ⟨_, q⟩ := isP_iff.mp h
  have e : (2 : Int) + ((d - 2).toNat : Int) = d := by omega
  have t : tst n (d - 2).toNat = true := by
    rw [tst_iff, e]
    exact ⟨hs, hm⟩
  rw [q (d - 2).toNat (by omega)] at t
  cases t
theorem isP_of {n : Int} (h2 : 2 ≤ n) (h : ∀ d : Int, 2 ≤ d → d < 257 → d * d ≤ n → n % d ≠ 0) : isP n = true := by
  rw [isP_iff]
  refine ⟨h2, fun i hi => ?_⟩
  cases e : tst n i with
  | false => rfl
  | true =>
    rw [tst_iff] at e
    exact absurd e.2 (h _ (by omega) (by omega) e.1)
theorem isP_false {n d : Int} (h2 : 2 ≤ d) (hd : d < 257) (hs : d * d ≤ n) (hm : n % d = 0) : isP n = false := by
  cases e : isP n with
  | false => rfl
  | true => exact (isP_no e h2 hd hs hm).elim
theorem bez : ∀ (m : Nat) (a n : Int), 0 ≤ a → 0 ≤ n → a.toNat ≤ m → ∃ g u v : Int, 0 ≤ g ∧ (∃ x, n = g * x) ∧ (∃ y, a = g * y) ∧ u * n + v * a = g
  | 0, a, n, h, hn, hm => by
    have : a = 0 := by omega
    subst this
    exact ⟨n, 1, 0, hn, ⟨1, by omega⟩, ⟨0, by omega⟩, by omega⟩
  | m + 1, a, n, h, hn, hm => by
    by_cases ha : a = 0
    · subst ha
      exact ⟨n, 1, 0, hn, ⟨1, by omega⟩, ⟨0, by omega⟩, by omega⟩
    · have hlt : n % a < a := Int.emod_lt_of_pos n (by omega)
      have hge : 0 ≤ n % a := Int.emod_nonneg n ha
      obtain ⟨g, u, v, hg, ⟨x, hx⟩, ⟨y, hy⟩, e⟩ := bez m (n % a) a hge h (by omega)
      have hd : n = a * (n / a) + n % a := (Int.mul_ediv_add_emod n a).symm
      refine ⟨g, v, u - v * (n / a), hg, ⟨x * (n / a) + y, ?_⟩, ⟨x, hx⟩, ?_⟩
      · generalize n / a = q at *
        generalize n % a = r at *
        grind
      · generalize n / a = q at *
        generalize n % a = r at *
        grind
/-- numbers below a prime have an inverse -/
def Cop (a p : Int) : Prop := ∃ u v : Int, u * p + v * a = 1
theorem cop_of {a p : Int} (hp : isP p = true) (hp2 : p ≤ 65521) (h1 : 1 ≤ a) (h2 : a < p) : Cop a p := by
  obtain ⟨g, u, v, hg, ⟨x, hx⟩, ⟨y, hy⟩, e⟩ := bez a.toNat a p (by omega) (by omega) (Nat.le_refl _)
  have gpos : 0 < g := by
    by_cases h0 : g = 0
    · subst h0
      omega
    · omega
  have g1 : g = 1 := by
    by_cases h : g = 1
    · exact h
    · exfalso
      have ypos : 0 < y := by
        by_cases hy0 : 0 < y
        · exact hy0
        · have : g * y ≤ 0 := Int.mul_nonpos_of_nonneg_of_nonpos hg (by omega)
          omega
      have xpos : y < x := by
        by_cases hx0 : y < x
        · exact hx0
        · have : g * x ≤ g * y := Int.mul_le_mul_of_nonneg_left (by omega) hg
          omega
      by_cases hgx : g ≤ x
      · have hsq : g * g ≤ p := by
          rw [hx]
          exact Int.mul_le_mul_of_nonneg_left hgx hg
        have hlt : g < 257 := by
          by_cases h257 : g < 257
          · exact h257
          · have : 257 * 257 ≤ g * g := Int.mul_le_mul (by omega) (by omega) (by omega) hg
            omega
        exact isP_no hp (by omega) hlt hsq (by rw [hx]; exact Int.mul_emod_right g x)
      · have hsq : x * x ≤ p := by
          rw [hx]
          exact Int.mul_le_mul_of_nonneg_right (by omega) (by omega)
        have hlt : x < 257 := by
          by_cases h257 : x < 257
          · exact h257
          · have : 257 * 257 ≤ x * x := Int.mul_le_mul (by omega) (by omega) (by omega) (by omega)
            omega
        exact isP_no hp (by omega) hlt hsq (by rw [hx]; exact Int.mul_emod_left g x)
  subst g1
  exact ⟨u, v, e⟩
theorem cop_mul {a b p : Int} (ha : Cop a p) (hb : Cop b p) : Cop (a * b % p) p := by
  obtain ⟨u, v, e⟩ := ha
  obtain ⟨r, s, f⟩ := hb
  have hd : a * b = p * (a * b / p) + a * b % p := (Int.mul_ediv_add_emod (a * b) p).symm
  refine ⟨u * r * p + u * s * b + v * a * r + v * s * (a * b / p), v * s, ?_⟩
  generalize a * b / p = q at *
  generalize a * b % p = w at *
  have h1 : (u * p + v * a) * (r * p + s * b) = 1 := by rw [e, f]; rfl
  grind
theorem one_mod {p x : Int} (hp : 2 ≤ p) (h : ∃ k, x = 1 + k * p) : x % p = 1 := by
  obtain ⟨k, rfl⟩ := h
  rw [Int.add_mul_emod_self_right]
  exact Int.emod_eq_of_lt (by omega) (by omega)
/-- what makes a product one is one number -/
theorem inv_unique {a b c p : Int} (hb : 0 < b) (hb2 : b < p) (hc : 0 < c) (hc2 : c < p) (h1 : a * b % p = 1) (h2 : a * c % p = 1) : b = c := by
  have e1 : a * b = p * (a * b / p) + 1 := by
    have := (Int.mul_ediv_add_emod (a * b) p).symm
    rw [h1] at this
    exact this
  have e2 : a * c = p * (a * c / p) + 1 := by
    have := (Int.mul_ediv_add_emod (a * c) p).symm
    rw [h2] at this
    exact this
  generalize a * b / p = q1 at *
  generalize a * c / p = q2 at *
  have e3 : b - c = p * (q2 * b - q1 * c) * (-1) := by
    have : b * (a * c) = c * (a * b) := by grind
    rw [e1, e2] at this
    grind
  generalize q2 * b - q1 * c = z at *
  have hz : z = 0 := by
    by_cases hz : z = 0
    · exact hz
    · exfalso
      by_cases hp : 0 < z
      · have : p * 1 ≤ p * z := Int.mul_le_mul_of_nonneg_left (by omega) (by omega)
        omega
      · have : p * z ≤ p * (-1) := Int.mul_le_mul_of_nonneg_left (by omega) (by omega)
        omega
  subst hz
  omega
theorem mod_pos {x p : Int} (hp : 2 ≤ p) (h : ∃ y k, x * y = 1 + k * p) : 0 < x % p ∧ x % p < p := by
  have h1 : x % p < p := Int.emod_lt_of_pos x (by omega)
  have h0 : 0 ≤ x % p := Int.emod_nonneg x (by omega)
  refine ⟨?_, h1⟩
  by_cases hz : x % p = 0
  · exfalso
    obtain ⟨y, k, e⟩ := h
    have hd : x = p * (x / p) + x % p := (Int.mul_ediv_add_emod x p).symm
    rw [hz] at hd
    generalize x / p = q at *
    have e2 : (q * y - k) * p = 1 := by grind
    generalize q * y - k = z at *
    by_cases hz1 : 0 < z
    · have : 1 * p ≤ z * p := Int.mul_le_mul_of_nonneg_right (by omega) (by omega)
      omega
    · have : z * p ≤ 0 * p := Int.mul_le_mul_of_nonneg_right (by omega) (by omega)
      omega
  · omega
/-! ### a prime stands below within 120 -/
def gaps : List Int → Bool
  | a :: b :: r => isP a && decide (b - a ≤ 119) && decide (a < b) && gaps (b :: r)
  | [a] => isP a && decide (a = 65521)
  | [] => false
theorem gaps_find : ∀ (l : List Int) (a n : Int), gaps (a :: l) = true → a ≤ n → n ≤ 65521 → ∃ q, isP q = true ∧ q ≤ n ∧ n - q ≤ 118
  | [], a, n, h, h1, h2 => by
    simp only [gaps, Bool.and_eq_true, decide_eq_true_eq] at h
    exact ⟨a, h.1, h1, by omega⟩
  | b :: r, a, n, h, h1, h2 => by
    simp only [gaps, Bool.and_eq_true, decide_eq_true_eq] at h
    by_cases hb : b ≤ n
    · exact gaps_find r b n h.2 hb h2
    · exact ⟨a, h.1.1.1, h1, by omega⟩
def marks : List Int := [2, 113, 229, 347, 463, 577, 691, 809, 919, 1033, 1151, 1259, 1373, 1489, 1607, 1723, 1831, 1949, 2063, 2179, 2297, 2411, 2521, 2633, 2749, 2861, 2971, 3089, 3203, 3319, 3433, 3547, 3659, 3769, 3881, 3989, 4099, 4217, 4327, 4441, 4549, 4663, 4759, 4877, 4993, 5107, 5209, 5323, 5441, 5557, 5669, 5783, 5897, 6011, 6121, 6229, 6343, 6451, 6569, 6679, 6793, 6911, 7027, 7129, 7247, 7351, 7459, 7577, 7691, 7793, 7907, 8017, 8123, 8237, 8353, 8467, 8581, 8699, 8807, 8923, 9041, 9157, 9257, 9371, 9479, 9587, 9697, 9811, 9929, 10039, 10151, 10267, 10369, 10487, 10601, 10711, 10799, 10909, 11027, 11131, 11243, 11353, 11471, 11587, 11701, 11813, 11927, 12043, 12161, 12277, 12391, 12503, 12619, 12721, 12829, 12941, 13049, 13163, 13267, 13381, 13499, 13613, 13729, 13841, 13933, 14051, 14159, 14251, 14369, 14479, 14593, 14699, 14813, 14929, 15031, 15149, 15263, 15377, 15493, 15607, 15683, 15797, 15913, 16007, 16111, 16229, 16339, 16453, 16567, 16673, 16787, 16903, 17021, 17137, 17239, 17351, 17467, 17581, 17683, 17791, 17909, 18013, 18131, 18233, 18341, 18457, 18553, 18671, 18787, 18899, 19013, 19121, 19237, 19333, 19447, 19559, 19661, 19777, 19891, 19997, 20113, 20231, 20347, 20443, 20551, 20663, 20773, 20887, 21001, 21107, 21221, 21323, 21433, 21529, 21647, 21757, 21871, 21977, 22093, 22193, 22307, 22409, 22511, 22621, 22739, 22853, 22963, 23081, 23197, 23311, 23417, 23531, 23633, 23747, 23857, 23971, 24083, 24197, 24281, 24391, 24509, 24623, 24733, 24851, 24967, 25073, 25189, 25307, 25423, 25541, 25657, 25771, 25889, 26003, 26119, 26237, 26347, 26459, 26573, 26687, 26801, 26903, 27017, 27127, 27241, 27337, 27449, 27551, 27653, 27767, 27883, 28001, 28111, 28229, 28319, 28433, 28549, 28663, 28771, 28879, 28979, 29077, 29191, 29303, 29411, 29527, 29641, 29759, 29873, 29989, 30103, 30211, 30323, 30431, 30539, 30649, 30763, 30881, 30983, 31091, 31193, 31307, 31397, 31513, 31627, 31741, 31859, 31973, 32089, 32203, 32321, 32429, 32537, 32653, 32771, 32887, 32999, 33113, 33223, 33331, 33427, 33533, 33647, 33757, 33871, 33967, 34061, 34171, 34283, 34381, 34499, 34613, 34729, 34847, 34963, 35081, 35171, 35281, 35393, 35509, 35617, 35731, 35839, 35951, 36067, 36161, 36277, 36389, 36497, 36607, 36721, 36833, 36947, 37061, 37171, 37277, 37379, 37493, 37607, 37717, 37831, 37907, 38011, 38119, 38237, 38351, 38461, 38569, 38677, 38791, 38903, 39019, 39133, 39251, 39367, 39461, 39569, 39679, 39791, 39901, 40013, 40129, 40241, 40357, 40471, 40583, 40699, 40813, 40927, 41039, 41149, 41263, 41381, 41491, 41609, 41719, 41813, 41927, 42043, 42157, 42257, 42373, 42491, 42589, 42703, 42821, 42937, 43051, 43159, 43271, 43331, 43441, 43543, 43661, 43777, 43891, 43997, 44111, 44221, 44293, 44389, 44507, 44623, 44741, 44851, 44963, 45077, 45191, 45307, 45413, 45523, 45641, 45757, 45869, 45979, 46093, 46199, 46309, 46411, 46523, 46639, 46757, 46867, 46957, 47059, 47161, 47279, 47389, 47507, 47623, 47741, 47857, 47969, 48079, 48197, 48313, 48413, 48527, 48623, 48733, 48847, 48953, 49069, 49177, 49279, 49393, 49499, 49613, 49727, 49843, 49957, 50069, 50177, 50291, 50387, 50503, 50599, 50707, 50821, 50929, 51047, 51157, 51263, 51361, 51479, 51593, 51691, 51803, 51913, 52027, 52127, 52237, 52321, 52433, 52543, 52639, 52757, 52861, 52973, 53089, 53201, 53309, 53419, 53527, 53639, 53731, 53849, 53959, 54059, 54167, 54277, 54377, 54493, 54601, 54713, 54829, 54941, 55057, 55171, 55259, 55373, 55487, 55603, 55721, 55837, 55949, 56053, 56171, 56269, 56383, 56501, 56611, 56713, 56827, 56941, 57059, 57173, 57287, 57397, 57503, 57601, 57719, 57829, 57947, 58061, 58171, 58271, 58379, 58481, 58579, 58693, 58789, 58907, 59023, 59141, 59243, 59359, 59473, 59581, 59699, 59809, 59921, 60037, 60149, 60259, 60373, 60457, 60539, 60649, 60763, 60869, 60961, 61057, 61169, 61283, 61381, 61493, 61609, 61723, 61837, 61949, 62057, 62171, 62273, 62383, 62501, 62617, 62731, 62827, 62939, 63031, 63149, 63247, 63361, 63473, 63589, 63703, 63809, 63913, 64019, 64123, 64237, 64333, 64451, 64567, 64679, 64793, 64901, 65011, 65129, 65239, 65357, 65449, 65521]
theorem marks_ok : gaps marks = true := by decide +kernel
theorem prime_near {n : Int} (h1 : 2 ≤ n) (h2 : n ≤ 65521) : ∃ q, isP q = true ∧ q ≤ n ∧ n - q ≤ 118 :=
  gaps_find marks.tail 2 n marks_ok h1 h2
theorem isP_rim {n : Int} (h0 : n ≤ 65531) (h : 65521 < n) : isP n = false := by
  have h' : n = 65522 ∨ n = 65523 ∨ n = 65524 ∨ n = 65525 ∨ n = 65526 ∨ n = 65527 ∨ n = 65528 ∨ n = 65529 ∨ n = 65530 ∨ n = 65531 := by omega
  rcases h' with e | e | e | e | e | e | e | e | e | e <;> (subst e; decide +kernel)
theorem isPr_eq {n : Int} (h : n ≤ 65531) : isPr n = isP n := by
  unfold isPr
  by_cases h2 : n ≤ 65521
  · rw [decide_eq_true h2, Bool.true_and]
  · rw [isP_rim h (by omega), Bool.and_false]
theorem small_log {m : Int} (h : m.natAbs < 2 ^ 60) : m.natAbs.log2 < 1920 := by
  by_cases h0 : m.natAbs = 0
  · rw [h0]
    decide
  · have : m.natAbs.log2 < 60 := (Nat.log2_lt h0).mpr h
    omega
/-- the product of the inverses is the product's -/
theorem inv_mul {a b l r e p : Int} (hp : 2 ≤ p) (e0 : 0 < e) (e1 : e < p) (h1 : a * b % p = 1) (h2 : l * r % p = 1) (h3 : (a * l % p) * e % p = 1) : e = b * r % p := by
  have d1 : a * b = p * (a * b / p) + 1 := by
    have := (Int.mul_ediv_add_emod (a * b) p).symm
    rw [h1] at this
    exact this
  have d2 : l * r = p * (l * r / p) + 1 := by
    have := (Int.mul_ediv_add_emod (l * r) p).symm
    rw [h2] at this
    exact this
  have d3 : a * l = p * (a * l / p) + a * l % p := (Int.mul_ediv_add_emod (a * l) p).symm
  have d4 : b * r = p * (b * r / p) + b * r % p := (Int.mul_ediv_add_emod (b * r) p).symm
  have hz : (a * l % p) * (b * r % p) % p = 1 := by
    refine one_mod hp ?_
    generalize a * b / p = q1 at *
    generalize l * r / p = q2 at *
    generalize a * l / p = q3 at *
    generalize b * r / p = q4 at *
    generalize a * l % p = x at *
    generalize b * r % p = y at *
    refine ⟨q1 * q2 * p + q1 + q2 - q3 * y - a * l * q4, ?_⟩
    have e5 : (a * b) * (l * r) = (p * q1 + 1) * (p * q2 + 1) := by rw [d1, d2]
    have ex : x = a * l - p * q3 := by omega
    have ey : y = b * r - p * q4 := by omega
    grind
  obtain ⟨y0, y1⟩ := mod_pos (x := b * r) hp ⟨a * l, (a * b / p) * (l * r / p) * p + a * b / p + l * r / p, by
    generalize a * b / p = q1 at *
    generalize l * r / p = q2 at *
    have e5 : (a * b) * (l * r) = (p * q1 + 1) * (p * q2 + 1) := by rw [d1, d2]
    grind⟩
  exact inv_unique e0 e1 y0 y1 h3 hz
end K00
set_option maxHeartbeats 2000000
/-! generator expressions over the layer: elements of any kind -/
namespace GX
open PySem PySem.Spec PyProof.Rows L2 GenW
/-- the context of a generator expression's frame, made at s -/
abbrev gblk (X : Cx) (A : Around) (s : Shared) (H : Hp) (scope : Scope) (cenv : Env) (fp : List Addr) (pn : List (Addr × Obj)) : Cx :=
  { X with A := A, s_0 := s, H_0 := H, env := cenv, outer := X.stack, stack := cenv :: X.stack, ex := fp, fn := fun x => scope.names.lookup x == some .cell, pn := pn, xe := fun _ _ => False }

/-- an item is out: y, behind ys -/
def YP (XB : Cx) (N : Nat) (Pn : List V → List (Addr × Obj) → Prop) (Sl : Value → Shared → Shared → Prop) (Py : V → List V → Hp → Prop) (Cont : V → Prop) : Protocol := fun n s₀ v s kap =>
  ∃ ys y pn ip σ H, n + 1 + ys.length = N ∧ RelV y v ∧ Pn ys pn ∧ Inv XB (pn ++ ip) σ H s ∧ Py y ys H ∧ (Cont y → ∀ s', Sl v s s' → kap (.send .none) s')
/-- all is out -/
def RP (XB : Cx) (N : Nat) (σ0 : L2.St) (Pn : List V → List (Addr × Obj) → Prop) (Qs : List V → Hp → Prop) : GenEnd := fun n s₀ r s =>
  r = .ok .next ∧ ∃ ys pn H, n + ys.length = N ∧ Pn ys pn ∧ Inv XB pn σ0 H s ∧ Qs ys H

theorem seg_loop {XB : Cx} {elt tg iter : Expr} {ifs : List Expr} {scope : Scope} {pos : Pos} {it : Addr} {fp : List Addr} {tn : Nat → Heap → Prop} {J : It} {A : Around} {g : TG} {tt : TT} {te : TE} {vs : List Nat} {σ0 : L2.St} {N : Nat}
    (T : Turn XB.prog XB.w XB.K tg J fp it tn) (hc : XB.calm = true) (hco : XB.env.scope.isCoroutine = false) (hw0 : wipe σ0 vs = σ0)
    (hA : A.over (.compLoop (.GeneratorExp elt [⟨tg, iter, ifs, 0⟩] scope pos) 0 (.ref it) .none XB.env) [] = XB.A) (hxe : XB.xe = fun _ _ => False)
    (pg : PG XB tg g) (pt : PTs XB ifs tt) (pe : PE XB elt te) (hex : ∀ b ∈ fp, b ∈ XB.ex) (hpnf : ∀ p ∈ XB.pn, p.1 ∉ fp)
    {Pn : List V → List (Addr × Obj) → Prop} {Sl : Value → Shared → Shared → Prop} (apart : ∀ ys pn, Pn ys pn → ∀ p ∈ pn, p.1 ∉ fp)
    (wake : ∀ ys x v pn ip σ H s s', Pn ys pn → (∀ p ∈ ip, p.1 ∈ fp) → Inv XB (pn ++ ip) σ H s → RelV x v → Sl v s s' → ∃ pn', Pn (ys ++ [x]) pn' ∧ Inv XB (pn' ++ ip) σ H s')
    {W : Nat → Nat → List V → Hp → Prop} {Py : V → List V → Hp → Prop} {Cont : V → Prop} {Qs : List V → Hp → Prop}
    (turn : ∀ i m ys H, W i m ys H → (J.stop i H ∧ Qs ys H) ∨ (J.go i H ∧ ∃ Nx : List V → Hp → Prop, (∀ ys' H', Nx ys' H' → ∃ m', m' < m ∧ W (i + 1) m' ys' H') ∧ ∀ x H', J.yld i H x H' → g x σ0 H' fun σ2 H2 => wipe σ2 vs = σ0 ∧ tt σ2 H2 fun b H3 =>
      if b = true then te σ2 H3 fun y H4 => Py y ys H4 ∧ (Cont y → Nx (ys ++ [y]) H4) else Nx ys H3)) :
    ∀ (m n i : Nat) (ys : List V) (s₀ s : Shared) (H : Hp) (pn : List (Addr × Obj)), m < n → n + ys.length = N → W i m ys H → Pn ys pn → Inv XB pn σ0 H s → tn i s.heap → (∀ b ∈ fp, H b = none) →
      Seg (model XB.prog XB.w) A (RP XB N σ0 Pn Qs) (YP XB N Pn Sl Py Cont) n s₀ (.compLoop (.GeneratorExp elt [⟨tg, iter, ifs, 0⟩] scope pos) 0 (.ref it) .none XB.env)
        ((model XB.prog XB.w).den (.compLoop (.GeneratorExp elt [⟨tg, iter, ifs, 0⟩] scope pos) 0 (.ref it) .none XB.env)) [] s := by
  intro m
  induction m using Nat.strongRecOn with
  | ind m ih =>
    intro n i ys s₀ s H pn hmn hN w hpn I st nfp
    have stat : ∀ {pins : List (Addr × Obj)} {σ' : L2.St} {H' : Hp} {s' : Shared}, Inv XB pins σ' H' s' → (∀ p ∈ pins, p.1 ∉ fp) → (∀ b ∈ fp, H' b = none) → ∀ b ∈ fp, FpOk XB pins H' b := fun {pins σ' H' s'} I' hp hn b hb =>
      ⟨hn b hb, (I'.ok.exf b (hex b hb)).1, I'.ok.exfs b (hex b hb), .inl (hex b hb), fun x c e => (I'.ok.exf b (hex b hb)).2 x c e, fun p hq z => by
        rcases List.mem_append.mp hq with q | q
        · exact hpnf p q (by rw [z]; exact hb)
        · exact hp p q (by rw [z]; exact hb)⟩
    show Seg _ A _ _ _ s₀ _ ((compTurn (.GeneratorExp elt [⟨tg, iter, ifs, 0⟩] scope pos) 0 (.ref it) .none XB.env).onRaise (leaving XB.env)) [] s
    rw [compTurn_gen, Sem.onRaise_eq_wrap]
    refine seg_bind_wrap (wpAny_standAt ?_)
    rcases turn i m ys H w with ⟨stop, qq⟩ | ⟨go, Nx, hNx, step⟩
    · have td := T.done XB rfl rfl rfl hc i pn s σ0 H (fun _ _ => False) I (stat I (apart ys pn hpn) nfp) st stop
      refine seg_bind_wrap ?_
      rw [hA]
      refine thnF td fun r s6 ⟨hr, I6⟩ => ?_
      subst hr
      exact seg_end (.ok .next) ⟨rfl, ys, pn, H, hN, hpn, I6, qq⟩
    · have ti := T.item XB rfl rfl rfl hc i pn s σ0 H (fun _ _ => False) I (stat I (apart ys pn hpn) nfp) st go
      refine seg_bind_wrap ?_
      rw [hA]
      refine thnF ti fun r s6 ⟨u, hr, h6⟩ => ?_
      subst hr
      refine seg_bind_wrap ?_
      rw [hA]
      refine thnF h6 fun _ s7 ⟨x, H7, I7, r7, y7, st7, n7⟩ => ?_
      have I7' := I7.pinned (stat I7 (apart ys pn hpn) n7) (T.obj _ _ st7)
      have hip : ∀ p ∈ pinsAt fp s7.heap, p.1 ∈ fp := fun p hp => (of_pinsAt hp).1
      have noE : ∀ (e : Value) (s' : Shared), XB.xe e s' → False := fun e s' h => by rw [hxe] at h; exact h
      refine seg_bind_wrap ?_
      rw [hA]
      refine wpAny_mono (pg.run _ s7 _ H7 x u _ I7' r7 (step x H7 y7)) (fun _ s8 ⟨σ8, H8, I8, hw8, q8⟩ => ?_) fun e s' h => (noE e s' h).elim
      refine seg_bind_wrap ?_
      rw [hA]
      refine wpAny_mono (pt.run _ s8 σ8 H8 _ I8 q8) (fun b s9 ⟨H9, I9, q9⟩ => ?_) fun e s' h => (noE e s' h).elim
      -- the turn's end
      have fin : ∀ {s' : Shared} {H' : Hp} {ys' : List V} {pn' : List (Addr × Obj)}, Inv XB (pn' ++ pinsAt fp s7.heap) σ8 H' s' → Inv XB pn' σ0 H' s' ∧ tn (i + 1) s'.heap ∧ ∀ b ∈ fp, H' b = none := fun {s' H' ys' pn'} I' => by
        have pin' : ∀ b ∈ fp, ∀ o, s7.heap.get? b = some o → s'.heap.get? b = some o ∧ H' b = none := fun b hb o e =>
          let z := I'.pin (b, o) (List.mem_append_right _ (List.mem_append_right _ (mem_pinsAt hb e)))
          ⟨z.1, z.2.1⟩
        have hl : σ0.length = σ8.length := by rw [← hw8, wipe_length]
        refine ⟨(I'.unpinned (pins := pn')).weak hl (fun j v e => ?_), T.keep _ _ _ st7 fun b hb o e => (pin' b hb o e).1, fun b hb => ?_⟩
        · rw [← hw8] at e
          exact (wipe_some e).1
        · obtain ⟨o, e, _⟩ := T.obj _ _ st7 b hb
          exact (pin' b hb o e).2
      cases b with
      | false =>
        rw [if_neg Bool.false_ne_true] at q9
        obtain ⟨m', hm, w'⟩ := hNx ys H9 q9
        obtain ⟨a1, a2, a3⟩ := fin (ys' := ys) I9
        simp only [Bool.false_eq_true, if_false]
        exact seg_again rfl (ih m' hm n (i + 1) ys s₀ s9 H9 pn (by omega) hN w' hpn a1 a2 a3)
      | true =>
        rw [if_pos rfl] at q9
        obtain ⟨n, rfl⟩ : ∃ k, n = k + 1 := ⟨n - 1, by omega⟩
        have hy : ∀ v, yieldOut XB.env v = yieldValue v := fun v => by simp only [yieldOut, hco, Bool.false_eq_true, if_false]
        simp only [if_true]
        simp only [hy]
        rw [Sem.bind_eq_wrap', Sem.bind_eq_wrap', Sem.wrap_wrap, Sem.wrap_wrap]
        refine seg_wrap ?_
        rw [hA]
        refine wpAny_mono (pe.run _ s9 σ8 H9 _ I9 q9) (fun z s10 ⟨yv, H10, I10, r10, py, nx⟩ => ?_) fun e s' h => (noE e s' h).elim
        refine seg_at (seg_yield rfl rfl rfl ⟨ys, yv, pn, pinsAt fp s7.heap, σ8, H10, by omega, r10, hpn, I10, py, fun hcont s'' hsl => ?_⟩)
        obtain ⟨m', hm, w'⟩ := hNx _ _ (nx hcont)
        obtain ⟨pn', hp', J'⟩ := wake ys yv z pn _ σ8 H10 s10 s'' hpn hip I10 r10 hsl
        obtain ⟨a1, a2, a3⟩ := fin (ys' := ys) J'
        exact seg_again rfl (ih m' hm n (i + 1) (ys ++ [yv]) s'' s'' H10 pn' (by omega) (by rw [List.length_append, List.length_singleton]; omega) w' hp' a1 a2 a3)
end GX
set_option maxHeartbeats 4000000
namespace GX
open PySem PySem.Spec PyProof.Rows L2 GenW
/-- a generator expression has been made at a, and has not begun -/
structure GRdy (X : Cx) (pins : List (Addr × Obj)) (σ : L2.St) (vs : List Nat) (ge tg : Expr) (scope : Scope) (J : It) (H2 : Hp) (sc s5 : Shared) (a : Addr) (gn : Nat) (it : Addr) (fp : List Addr) (tn : Nat → Heap → Prop) (cenv : Env) (go : Obj) : Prop where
  inv : Inv X pins σ H2 sc
  turn : Turn X.prog X.w X.K tg J fp it tn
  st : tn 0 sc.heap
  fok : ∀ b ∈ fp, FpOk X pins H2 b ∧ b < sc.heap.objs.size
  os : s5.os = sc.os
  bare : AllBare s5.gens
  kp : ∀ b o, sc.heap.get? b = some o → s5.heap.get? b = some o
  ga : sc.heap.objs.size ≤ a
  la : a < s5.heap.objs.size
  gen : ∀ h : Heap, h.get? a = some go → h.IsGen a gn
  at_ : s5.heap.get? a = some go
  gs : s5.gens[gn]? = some (.fresh (.compStart ge 0 (.ref it) .none cenv))
  nolim : s5.heap.NoLimit
  loc : cenv.locals = sc.heap.objs.size
  lc : sc.heap.objs.size < a
  env : ∃ cl C code bi, cenv = genEnv scope cl C code bi X.env
  blk : ∀ (A' : Around) (s2 : Shared), A'.handled = none → A'.frames = some (cenv :: X.stack) → (∀ b o, s5.heap.get? b = some o → s2.heap.get? b = some o) → s2.os = sc.os → AllBare s2.gens →
    Inv (gblk X A' sc H2 scope cenv fp [(a, go)]) [] (wipe σ vs) H2 s2
section
variable {X : Cx} {pins : List (Addr × Obj)} {σ : L2.St} {H : Hp} {s : Shared}
/-- the frame's first state -/
theorem gblk_start {scope : Scope} {own : List (Str × Nat)} {fp : List Addr} {a : Addr} {go : Obj} {code : Value} {A' : Around} {s2 : Shared} {m0 : Str → Option Value} (I : Inv X pins σ H s) (ok : BlkOk X.N X.env.scope scope own) (hN : X.N.Nodup) (hfp : ∀ b ∈ fp, FpOk X pins H b ∧ b < s.heap.objs.size)
    (hcell : ∀ y ∈ scope.names, y.2 ≠ .cell) (hh : A'.handled = none) (hfr : A'.frames = some (genEnv scope (cloFrom X.env.cells scope.names []) s.heap.objs.size code builtinsNs X.env :: X.stack)) (kp : ∀ b o, s.heap.get? b = some o → s2.heap.get? b = some o)
    (hos : s2.os = s.os) (hba : AllBare s2.gens) (hns : s2.heap.Ns s.heap.objs.size m0) (ha : s.heap.objs.size < a) (hat : s2.heap.get? a = some go) (hgd : ∀ v, go.data ≠ .cell v) :
    Inv (gblk X A' s H scope (genEnv scope (cloFrom X.env.cells scope.names []) s.heap.objs.size code builtinsNs X.env) fp [(a, go)]) [] (wipe σ (own.map (·.2))) H s2 := by
  have hfree : ∀ y ∈ scope.names, y.2 = .free → ∃ c, X.env.cells.lookup y.1 = some c := fun y hy e => by
    rcases ok.free y hy e with k | k
    · exact I.ok.has _ (.inl k)
    · exact I.ok.has _ (.inr k)
  generalize hcenv : genEnv scope (cloFrom X.env.cells scope.names []) s.heap.objs.size code builtinsNs X.env = cenv at hfr ⊢
  have hL : cenv.locals = s.heap.objs.size := by rw [← hcenv]; rfl
  have hcl : cenv.cells = cloFrom X.env.cells scope.names [] := by rw [← hcenv]; rfl
  have hsc : cenv.scope = scope := by rw [← hcenv]; rfl
  have hfm : cenv.frame = some cenv.locals := by rw [← hcenv]; rfl
  have cm : ∀ {y c}, (y, c) ∈ cloFrom X.env.cells scope.names [] → X.env.cells.lookup y = some c ∧ c < s.heap.objs.size := fun {y c} hm => by
    rcases cloFrom_mem hm with hm | ⟨h1, rfl⟩
    · cases hm
    · obtain ⟨c, hc⟩ := hfree _ h1 rfl
      rw [hc]
      obtain ⟨w, z⟩ := I.cell _ _ hc
      exact ⟨rfl, z.lt⟩
  have mem : ∀ {y c}, cenv.cells.lookup y = some c → X.env.cells.lookup y = some c ∧ c < s.heap.objs.size := fun {y c} e => by
    rw [hcl] at e
    exact cm (PySem.mem_of_lookup e)
  have look : ∀ {y}, scope.names.lookup y = some .free → ∃ c, cenv.cells.lookup y = some c ∧ X.env.cells.lookup y = some c := fun {y} hl => by
    have hy : (y, NameKind.free) ∈ scope.names := PySem.mem_of_lookup hl
    obtain ⟨c', e'⟩ := mem_lookup (cloFrom_has (cells := X.env.cells) (acc := []) hy)
    rw [← hcl] at e'
    exact ⟨c', e', (mem e').1⟩
  have noc : ∀ {y}, scope.names.lookup y = some .cell → False := fun {y} hl => hcell _ (PySem.mem_of_lookup hl) rfl
  have okB : (gblk X A' s H scope cenv fp [(a, go)]).Ok := by
    refine ⟨I.ok.mod, by show cenv.scope.kind = _; rw [hsc]; exact ok.kind, by show cenv.globals = _; rw [← hcenv]; exact I.ok.glob, by show cenv.builtins = _; rw [← hcenv]; rfl, by show s.heap.objs.size ≤ cenv.locals; rw [hL]; exact Nat.le_refl _,
      fun y z c e1 e2 => I.ok.inj y z c (mem e1).1 (mem e2).1, fun y hy => ?_, fun y c z e => ?_, fun _ => hh, hfr, .inr ⟨rfl, hfm⟩, fun b hb => ⟨?_, fun y c e z => ?_⟩, I.bs, Nat.le_trans I.ok.bsz I.sz, fun b o e hb => ?_, fun b hb z => ?_, I.stack, I.stkFree⟩
    · show ∃ c, cenv.cells.lookup y = some c
      have hy : scope.names.lookup y = some .cell ∨ scope.names.lookup y = some .free := by
        rcases hy with hy | hy
        · exact .inl (by rw [← hsc]; exact hy)
        · exact .inr (by rw [← hsc]; exact hy)
      rcases hy with hy | hy
      · exact (noc hy).elim
      · obtain ⟨c, h1, _⟩ := look hy
        exact ⟨c, h1⟩
    · have z : (scope.names.lookup y == some NameKind.cell) = true := z
      exact (noc (by simpa using z)).elim
    · show b ≠ cenv.locals
      rw [hL]; exact Nat.ne_of_lt (hfp b hb).2
    · exact (hfp b hb).1.2.2.2.2.1 y c (mem e).1 z
    · rcases (hfp b hb).1.2.2.2.1 with z | z
      · exact I.ok.noex b o e z
      · exact absurd (Nat.lt_of_lt_of_le (Heap.lt_size e) (Nat.le_trans I.ok.bsz z)) (Nat.lt_irrefl _)
    · rcases List.mem_cons.mp (I.stkSub b z) with z | z
      · exact (hfp b hb).1.2.1 z
      · exact (hfp b hb).1.2.2.1 z
  refine ⟨okB, hos, hba, Un.kept kp, ⟨m0, by show s2.heap.Ns cenv.locals _; rw [hL]; exact hns, fun i y av e1 e2 e3 => ?_⟩, fun y c e => ?_, ?_, fun y c e => ?_, fun p hp => ?_, I.hok.kept kp, by rw [wipe_length]; exact I.len⟩
  · obtain ⟨e2, hne⟩ := wipe_some e2
    have hfr2 : scope.names.lookup y = some .free := by
      have no : ∀ k, scope.names.lookup y = some k → k = .local ∨ k = .cell → False := fun k e hh => by
        rcases ok.own _ (PySem.mem_of_lookup e) hh with e' | e'
        · obtain ⟨p, hp, hpy⟩ := List.mem_map.mp e'
          have e3 := ok.ix p hp
          have : p.1 = y := hpy
          rw [this] at e3
          exact hne (List.mem_map.mpr ⟨p, hp, L2.nodup_ix hN e3 e1⟩)
        · exact e' (List.mem_of_getElem? e1)
      have e3 : Vis cenv.scope y := e3
      rw [hsc] at e3
      rcases e3 with e3 | e3 | e3
      · exact (no _ e3 (.inl rfl)).elim
      · exact (no _ e3 (.inr rfl)).elim
      · exact e3
    obtain ⟨m, hn, hl⟩ := I.loc
    have hvis : Vis X.env.scope y := (ok.free _ (PySem.mem_of_lookup hfr2) rfl).elim (fun k => .inr (.inl k)) (fun k => .inr (.inr k))
    obtain ⟨w, r, q⟩ := hl i y av e1 e2 hvis
    refine ⟨w, r, .inr ⟨.inr (by show cenv.scope.names.lookup y = _; rw [hsc]; exact hfr2), ?_⟩⟩
    obtain ⟨c, h1, h2⟩ := look hfr2
    rcases q with ⟨k, _⟩ | ⟨_, c', e', z⟩
    · have k : X.env.scope.names.lookup y = some .local := k
      rcases ok.free _ (PySem.mem_of_lookup hfr2) rfl with k' | k' <;> rw [show X.env.scope.names.lookup y = _ from k'] at k <;> cases k
    · rw [h2] at e'; cases e'
      exact ⟨c, h1, z.keeps kp⟩
  · have e : cenv.cells.lookup y = some c := e
    obtain ⟨w, z⟩ := I.cell y c (mem e).1
    exact ⟨w, z.keeps kp⟩
  · show H cenv.locals = none
    rw [hL]; exact I.hok.fresh (Nat.le_refl _)
  · have e : cenv.cells.lookup y = some c := e
    exact I.freeC y c (mem e).1
  · have e : p = (a, go) := by
      have hp : p ∈ [(a, go)] ++ ([] : List (Addr × Obj)) := hp
      simpa using hp
    subst e
    refine ⟨hat, I.hok.fresh (Nat.le_of_lt ha), ?_, fun z => ?_, hgd⟩
    · show a ≠ cenv.locals
      rw [hL]; exact Nat.ne_of_gt ha
    · rcases List.mem_cons.mp (I.stkSub _ z) with e | e
      · have h1 := I.lt
        rw [← e] at h1
        exact Nat.lt_irrefl _ (Nat.lt_trans h1 ha)
      · exact I.nofs (Nat.le_of_lt ha) e
end
end GX
set_option maxHeartbeats 4000000
namespace GX
open PySem PySem.Spec PyProof.Rows L2 GenW
section
variable {X : Cx} {pins : List (Addr × Obj)} {σ : L2.St} {H : Hp} {s : Shared}
theorem gen_make {c P : Addr} {elt tg iter : Expr} {ifs : List Expr} {scope : Scope} {own : List (Str × Nat)} {gpos : Pos} {wi : TI} {k : Nat} {Q' : Value → Shared → Prop} {Rk : It → Hp → Prop}
    (hr : Room k X.A) (hN : X.N.Nodup) (TB : GxR.TabB X.base X.mg c P) (hcode : X.env.code = .ref c) (ok : BlkOk X.N X.env.scope scope own) (hco : scope.isCoroutine = false) (hcell : ∀ y ∈ scope.names, y.2 ≠ .cell)
    (h0 : scope.names.lookup (".0" : Str) = some NameKind.local) (hi : PI X tg iter wi) (hs : ∀ v, genFold iter X.env v = pure v) (I : Inv X pins σ H s)
    (h : wi σ H fun J H1 => GxR.TabG H1 P ∧ ∀ H2, GxR.Tabbed P H1 H2 → Rk J H2)
    (hQ : ∀ J H2 sc s5 a gn it fp tn cenv go, Rk J H2 → GRdy X pins σ (own.map (·.2)) (.GeneratorExp elt [⟨tg, iter, ifs, 0⟩] scope gpos) tg scope J H2 sc s5 a gn it fp tn cenv go → Q' (.ref a) s5) :
    wpAny (model X.prog X.w) X.A (eval (.GeneratorExp elt [⟨tg, iter, ifs, 0⟩] scope gpos) X.env) Q' X.xe s := by
  have hfree : ∀ y ∈ scope.names, y.2 = .free → ∃ c, X.env.cells.lookup y.1 = some c := fun y hy e => by
    rcases ok.free y hy e with k | k
    · exact I.ok.has _ (.inl k)
    · exact I.ok.has _ (.inr k)
  refine wpAny_GeneratorExp_make hco (closure_ok hfree) hcell h0 ok.kind hr.depth ?_ hs
  refine thn (hi.run pins s σ H _ I h) fun xv s0 hx => thn hx fun itv s1 h1 => ?_
  obtain ⟨it, fp, tn, J, H1, e, I1, T, st1, f1, ⟨ps, hP, ht⟩, q⟩ := h1
  subst e
  have lim1 : s1.heap.NoLimit := I1.nolimit
  have hPs : s1.heap.get? P = some { cls := .none, data := .fields ps } := I1.hok P _ hP
  have hPlt : P < s1.heap.objs.size := Heap.lt_size hPs
  have cd : PySem.W.CodeHd s1.heap c P := TB.code.keeps fun b u e => I1.bk b u e
  have cont : ∀ (code : Value) (h3 : Heap) (tk : Nat) (more : Array Value), Heap.ExtBut P s1.heap h3 → s1.heap.objs.size ≤ h3.objs.size → h3.get? P = some { cls := .none, data := .fields (ps ++ more) } → TriplesOk (ps ++ more).toList →
      wpAny (model X.prog X.w) X.A (builtinsFor X.env.globals X.env.builtins) (fun bi s₄ =>
        ∀ h', h'.Ns s₄.heap.objs.size (fun y => if y = ".0" then some (.ref it) else none) → Heap.SameBut s₄.heap.objs.size (s₄.heap.push { cls := .type "frame", data := .dict #[] }) h' →
          Q' (.ref h'.objs.size) { s₄ with
            gens := s₄.gens.push (.fresh (.compStart (.GeneratorExp elt [⟨tg, iter, ifs, 0⟩] scope gpos) 0 (.ref it) .none (genEnv scope (cloFrom X.env.cells scope.names []) s₄.heap.objs.size code bi X.env))),
            toks := s₄.toks + 1 + 1 + 1,
            heap := h'.push { cls := .type "generator", data := .fields #[.int s₄.gens.size 0, .str "<genexpr>" (s₄.toks + 1), .str (X.env.qual ++ "<genexpr>") (s₄.toks + 1 + 1)] } }) X.xe { s1 with heap := h3, toks := tk } := by
    intro code h3 tk more hx hsz hP3 ht3
    obtain ⟨bm, ob, e1, e2, e3, e4, e5, e6, e7, e8⟩ := TB.bm
    have keep3 : ∀ b u, b ≠ P → s1.heap.get? b = some u → h3.get? b = some u := fun b u hb e => hx b u hb e
    have I3 : Inv X pins σ (upd H1 P (.tbl (ps ++ more))) { s1 with heap := h3, toks := tk } :=
      GxR.inv_tab (more := more) (h' := h3) (g' := s1.gens) (d' := s1.drawn) (t' := tk) I1 hP keep3 hP3 I1.bare
    have hcP : cStatics ≠ P := fun e => by
      obtain ⟨_, hns, _⟩ := id lim1
      obtain ⟨o', es, ep, ho, hd, _⟩ := hns
      rw [e, hPs] at ho
      cases ho
      cases hd
    have lim3 : h3.NoLimit := lim1.extBut hx hcP
    refine wpAny_builtinsFor (m := X.mg) (by rw [I1.ok.glob]; exact (I1.mod.glob.keeps I1.bk).extBut hx TB.gP) e1 e2 (keep3 _ _ e4 (I1.bk _ _ e5)) e6 e7 e8 ?_
    intro h' hn' hs'
    have hn' : h'.Ns h3.objs.size (fun y => if y = ".0" then some (.ref it) else none) := hn'
    have hs' : Heap.SameBut h3.objs.size (h3.push { cls := .type "frame", data := .dict #[] }) h' := hs'
    have hsz' : h'.objs.size = h3.objs.size + 1 := by rw [hs'.1, Heap.size_push]
    have keep' : ∀ b o, h3.get? b = some o → h'.get? b = some o := fun b o e => hs'.extBut b o (Nat.ne_of_lt (Heap.lt_size e)) (Heap.get?_push_of_some _ e)
    have fin : ∀ (go : Obj) (nm qn : Value) (tk2 : Nat), go.cls = .type "generator" → go.data = .fields #[.int s1.gens.size 0, nm, qn] → go.slots = #[] → (h'.push go).get? h'.objs.size = some go →
        Q' (.ref h'.objs.size) { s1 with gens := s1.gens.push (.fresh (.compStart (.GeneratorExp elt [⟨tg, iter, ifs, 0⟩] scope gpos) 0 (.ref it) .none (genEnv scope (cloFrom X.env.cells scope.names []) h3.objs.size code builtinsNs X.env))), toks := tk2, heap := h'.push go } := by
      intro go nm qn tk2 hgc hgd hgs hgat
      have tabd : GxR.Tabbed P H1 (upd H1 P (.tbl (ps ++ more))) := ⟨⟨_, upd_same, ht3⟩, fun b hb => upd_ne hb⟩
      have kp5 : ∀ b o, h3.get? b = some o → (h'.push go).get? b = some o := fun b o e => Heap.get?_push_of_some _ (keep' b o e)
      have nfp : ∀ b ∈ fp, b ≠ P := fun b hb z => by
        have := (f1 b hb).1
        rw [z, hP] at this
        cases this
      have f3 : ∀ b ∈ fp, FpOk X pins (upd H1 P (.tbl (ps ++ more))) b ∧ b < h3.objs.size := fun b hb => by
        obtain ⟨o, e, _⟩ := T.obj _ _ st1 b hb
        exact ⟨⟨by rw [upd_ne (nfp b hb)]; exact (f1 b hb).1, (f1 b hb).2⟩, Nat.lt_of_lt_of_le (Heap.lt_size e) hsz⟩
      have dcell : ∀ v, go.data ≠ .cell v := fun v z => by rw [hgd] at z; cases z
      refine hQ J _ { s1 with heap := h3, toks := tk } _ h'.objs.size s1.gens.size it fp tn _ go (q _ tabd) ⟨I3, T, T.keep _ _ _ st1 fun b hb o e => keep3 b o (nfp b hb) e, f3, rfl, ?_, kp5, ?_, ?_, fun h e => ⟨go, nm, qn, e, hgc, hgd, hgs⟩, hgat, Array.getElem?_push_size .., (lim3.keeps kp5), rfl, ?_, ⟨_, _, _, _, rfl⟩, ?_⟩
      · exact AllBare.push I1.bare rfl
      · show h3.objs.size ≤ h'.objs.size
        rw [hsz']; exact Nat.le_succ _
      · show h'.objs.size < (h'.push go).objs.size
        rw [Heap.size_push]; exact Nat.lt_succ_self _
      · show h3.objs.size < h'.objs.size
        rw [hsz']; exact Nat.lt_succ_self _
      · intro A' s2 hh hfr k2 hos hba
        exact gblk_start (s := { s1 with heap := h3, toks := tk }) I3 ok hN f3 hcell hh hfr (fun b o e => k2 b o (kp5 b o e)) hos hba ((hn'.push _).keeps k2) (by show h3.objs.size < h'.objs.size; rw [hsz']; exact Nat.lt_succ_self _) (k2 _ _ hgat) dcell
    exact fin _ _ _ _ rfl rfl rfl (Heap.get?_push_size _ rfl)
  refine ⟨lim1, ?_⟩
  cases hf : codeAmong gpos ps.toList with
  | none =>
    refine wpAny_genexprCodeX hcode (cd.code hPs ht) (cd.tab hPs) hf fun c' h' tk hx hge hlt hco' _ htab' _ => ?_
    obtain ⟨o1, vs, f1, tf, fl, tg, inF, tx, tt, op, _, _, _, _, _, _, _, _, _, htr, _⟩ := hco'
    exact cont _ h' tk _ hx (Nat.le_trans hge (Nat.le_of_lt hlt)) htab'.2 htr
  | some cv =>
    refine wpAny_genexprCode_hit hcode (cd.code hPs ht) hf ?_
    exact cont cv s1.heap s1.toks #[] (Heap.ExtBut.refl _ _) (Nat.le_refl _) (by rw [Array.append_empty]; exact hPs) (by rw [Array.append_empty]; exact ht)
end
end GX
set_option maxHeartbeats 4000000
namespace GX
open PySem PySem.Spec PyProof.Rows L2 GenW
/-- the generator's around -/
abbrev Ag (A : Around) (ge : Expr) (it : Addr) (cenv : Env) : Around := A.over (.compLoop ge 0 (.ref it) .none cenv) []
section
variable {A : Around} {elt : Expr} {gs : List Comprehension} {scope : Scope} {pos : Pos} {it : Addr} {cenv : Env} {l : List Env} {k : Nat}
theorem Ag_frames (h : A.frames = some l) : (Ag A (.GeneratorExp elt gs scope pos) it cenv).frames = some (cenv :: l) := by
  unfold Ag Around.over
  dsimp only
  rw [h]
  first
    | rfl
    | (simp [Code.envs, Code.isFrame, Code.env?, envsOf, pushEnvs]; done)
    | (unfold Code.envs; simp [envsOf, pushEnvs]; done)
theorem Ag_room (h : Room (k + 1) A) : Room k (Ag A (.GeneratorExp elt gs scope pos) it cenv) := by
  refine ⟨h.hd, ?_, ?_⟩
  · have := h.dp
    have e : (Ag A (.GeneratorExp elt gs scope pos) it cenv).depth = A.depth + 1 := rfl
    omega
  · have := h.un
    have e : (Ag A (.GeneratorExp elt gs scope pos) it cenv).units = A.units + 3 := rfl
    omega
theorem room_in2 (h : Room (k + 1) A) : Room (k + 1) A.in1.in1 ∨ True := .inr trivial
end
/-- room for k behind three more units -/
theorem room_in {k : Nat} {A : Around} (h : Room (k + 2) A) : Room (k + 1) A.in1.in1 ∧ Room (k + 1) A.in1.in1.in1.in1.in1 := by
  refine ⟨⟨h.hd, ?_, ?_⟩, ⟨h.hd, ?_, ?_⟩⟩
  · have := h.dp
    show A.depth + 3 * (k + 1) + 5 < _
    omega
  · have := h.un
    show A.units + 1 + 1 + 16 * (k + 1) + 200 < _
    omega
  · have := h.dp
    show A.depth + 3 * (k + 1) + 5 < _
    omega
  · have := h.un
    show A.units + 1 + 1 + 1 + 1 + 1 + 16 * (k + 1) + 200 < _
    omega
section
variable {X : Cx} {pins : List (Addr × Obj)} {σ : L2.St}
/-- back in the maker's context -/
theorem GRdy.leave {vs : List Nat} {ge tg : Expr} {scope : Scope} {J : It} {H2 H : Hp} {sc s5 s1 s' : Shared} {a : Addr} {gn : Nat} {it : Addr} {fp : List Addr} {tn : Nat → Heap → Prop} {cenv : Env} {go : Obj} {A' : Around} {pn : List (Addr × Obj)} {σ' : L2.St}
    (G : GRdy X pins σ vs ge tg scope J H2 sc s5 a gn it fp tn cenv go) (I : Inv (gblk X A' sc H2 scope cenv fp [(a, go)]) pn σ' H s1) (hos : s'.os = s1.os) (hb : AllBare s'.gens) (k : ∀ b o, s1.heap.get? b = some o → s'.heap.get? b = some o) : Inv X pins σ H s' := by
  have ub : Un (frs X.stack) fp H2 H sc.heap s1.heap := I.base
  have eos : s1.os = sc.os := I.os
  refine G.inv.call' (ch := fp) (hos.trans eos) (ub.trans (Un.kept k)) (I.hok.kept k) hb fun b hb => ?_
  obtain ⟨⟨_, h2, h3, h4, h5, h6⟩, _⟩ := G.fok b hb
  exact ⟨h4, h2, h5, h6⟩
/-- the generator as it is made: it goes -/
theorem GRdy.goes {elt tg iter : Expr} {ifs : List Expr} {pos : Pos} {vs : List Nat} {scope : Scope} {J : It} {H2 : Hp} {sc s5 s2 : Shared} {a : Addr} {gn : Nat} {it : Addr} {fp : List Addr} {tn : Nat → Heap → Prop} {cenv : Env} {go : Obj} {A : Around} {k : Nat} {g : TG} {tt : TT} {te : TE} {N : Nat} {pn : List (Addr × Obj)}
    (G : GRdy X pins σ vs (.GeneratorExp elt [⟨tg, iter, ifs, 0⟩] scope pos) tg scope J H2 sc s5 a gn it fp tn cenv go) (hc : X.calm = true) (hr : Room (k + 1) A) (hf : A.frames = some X.stack) (hco : scope.isCoroutine = false) (hw : wipe (wipe σ vs) vs = wipe σ vs)
    (hg : ∀ (A' : Around), Room k A' → ∀ (s : Shared) (H : Hp) (cl : List (Str × Addr)) (C : Addr) (code : Value) (bi : Addr) (fp : List Addr) (pn : List (Addr × Obj)), PG (gblk X A' s H scope (genEnv scope cl C code bi X.env) fp pn) tg g)
    (ht : ∀ (A' : Around), Room k A' → ∀ (s : Shared) (H : Hp) (cl : List (Str × Addr)) (C : Addr) (code : Value) (bi : Addr) (fp : List Addr) (pn : List (Addr × Obj)), PTs (gblk X A' s H scope (genEnv scope cl C code bi X.env) fp pn) ifs tt)
    (he : ∀ (A' : Around), Room k A' → ∀ (s : Shared) (H : Hp) (cl : List (Str × Addr)) (C : Addr) (code : Value) (bi : Addr) (fp : List Addr) (pn : List (Addr × Obj)), PE (gblk X A' s H scope (genEnv scope cl C code bi X.env) fp pn) elt te)
    {Pn : List V → List (Addr × Obj) → Prop} {Sl : Value → Shared → Shared → Prop} (apart : ∀ ys pn, Pn ys pn → ∀ p ∈ pn, p.1 ∉ fp)
    (wake : ∀ ys x v pn ip σ' H s s', Pn ys pn → (∀ p ∈ ip, p.1 ∈ fp) → Inv (gblk X (Ag A (.GeneratorExp elt [⟨tg, iter, ifs, 0⟩] scope pos) it cenv) sc H2 scope cenv fp [(a, go)]) (pn ++ ip) σ' H s → RelV x v → Sl v s s' →
      ∃ pn', Pn (ys ++ [x]) pn' ∧ Inv (gblk X (Ag A (.GeneratorExp elt [⟨tg, iter, ifs, 0⟩] scope pos) it cenv) sc H2 scope cenv fp [(a, go)]) (pn' ++ ip) σ' H s')
    {W : Nat → Nat → List V → Hp → Prop} {Py : V → List V → Hp → Prop} {Cont : V → Prop} {Qs : List V → Hp → Prop}
    (turn : ∀ i m ys H, W i m ys H → (J.stop i H ∧ Qs ys H) ∨ (J.go i H ∧ ∃ Nx : List V → Hp → Prop, (∀ ys' H', Nx ys' H' → ∃ m', m' < m ∧ W (i + 1) m' ys' H') ∧ ∀ x H', J.yld i H x H' → g x (wipe σ vs) H' fun σ2 H2 => wipe σ2 vs = wipe σ vs ∧ tt σ2 H2 fun b H3 =>
      if b = true then te σ2 H3 fun y H4 => Py y ys H4 ∧ (Cont y → Nx (ys ++ [y]) H4) else Nx ys H3))
    {m : Nat} (w0 : W 0 m [] H2) (hm : m < N) (hpn : Pn [] pn) (k5 : ∀ b o, s5.heap.get? b = some o → s2.heap.get? b = some o) (hos : s2.os = sc.os) (hba : AllBare s2.gens)
    (hpin : ∀ p ∈ pn, s2.heap.get? p.1 = some p.2 ∧ s5.heap.objs.size ≤ p.1 ∧ ∀ v, p.2.data ≠ .cell v) :
    Seg (model X.prog X.w) A (RP (gblk X (Ag A (.GeneratorExp elt [⟨tg, iter, ifs, 0⟩] scope pos) it cenv) sc H2 scope cenv fp [(a, go)]) N (wipe σ vs) Pn Qs)
      (YP (gblk X (Ag A (.GeneratorExp elt [⟨tg, iter, ifs, 0⟩] scope pos) it cenv) sc H2 scope cenv fp [(a, go)]) N Pn Sl Py Cont) N s2 (.compStart (.GeneratorExp elt [⟨tg, iter, ifs, 0⟩] scope pos) 0 (.ref it) .none cenv)
      ((model X.prog X.w).den (.compStart (.GeneratorExp elt [⟨tg, iter, ifs, 0⟩] scope pos) 0 (.ref it) .none cenv)) [] s2 := by
  obtain ⟨cl, C, code, bi, ec⟩ := G.env
  subst ec
  have hrg : Room k (Ag A (.GeneratorExp elt [⟨tg, iter, ifs, 0⟩] scope pos) it (genEnv scope cl C code bi X.env)) := Ag_room hr
  have I0 := G.blk (Ag A (.GeneratorExp elt [⟨tg, iter, ifs, 0⟩] scope pos) it (genEnv scope cl C code bi X.env)) s2 hrg.hd (Ag_frames hf) k5 hos hba
  have young : ∀ b, s5.heap.objs.size ≤ b → H2 b = none ∧ b ≠ C ∧ b ∉ frs X.stack ∧ b ∉ fp := fun b hb => by
    have h1 : sc.heap.objs.size < b := Nat.lt_of_lt_of_le (Nat.lt_trans G.lc G.la) hb
    have hC : C = sc.heap.objs.size := G.loc
    refine ⟨G.inv.hok.fresh (Nat.le_of_lt h1), fun z => ?_, fun z => ?_, fun z => ?_⟩
    · rw [z, hC] at h1
      exact Nat.lt_irrefl _ h1
    · rcases List.mem_cons.mp (G.inv.stkSub _ z) with e | e
      · have h2 := G.inv.lt
        rw [← e] at h2
        exact Nat.lt_irrefl _ (Nat.lt_trans h2 h1)
      · exact G.inv.nofs (Nat.le_of_lt h1) e
    · exact Nat.lt_irrefl _ (Nat.lt_trans (G.fok b z).2 h1)
  have I1 : Inv (gblk X (Ag A (.GeneratorExp elt [⟨tg, iter, ifs, 0⟩] scope pos) it (genEnv scope cl C code bi X.env)) sc H2 scope (genEnv scope cl C code bi X.env) fp [(a, go)]) pn (wipe σ vs) H2 s2 := by
    refine I0.pins_of fun p hp => ?_
    obtain ⟨h1, h2, h3⟩ := hpin p hp
    obtain ⟨y1, y2, y3, _⟩ := young p.1 h2
    exact ⟨h1, y1, y2, y3, h3⟩
  have st2 : tn 0 s2.heap := G.turn.keep _ _ _ G.st fun b _ o e => k5 b o (G.kp b o e)
  have hpa : ∀ p ∈ [(a, go)], p.1 ∉ fp := fun p hp z => by
    have e : p = (a, go) := by simpa using hp
    subst e
    exact Nat.lt_irrefl _ (Nat.lt_of_lt_of_le (G.fok a z).2 G.ga)
  have loop := seg_loop (XB := gblk X (Ag A (.GeneratorExp elt [⟨tg, iter, ifs, 0⟩] scope pos) it (genEnv scope cl C code bi X.env)) sc H2 scope (genEnv scope cl C code bi X.env) fp [(a, go)]) (iter := iter) (scope := scope) (pos := pos) (it := it) (A := A) (N := N)
    G.turn hc hco hw rfl rfl (hg _ hrg _ _ _ _ _ _ _ _) (ht _ hrg _ _ _ _ _ _ _ _) (he _ hrg _ _ _ _ _ _ _ _) (fun b hb => hb) hpa apart wake turn m N 0 [] s2 s2 H2 pn hm (Nat.add_zero _) w0 hpn I1 st2 (fun b hb => (G.fok b hb).1.1)
  show Seg _ A _ _ _ s2 _ ((compStart (.GeneratorExp elt [⟨tg, iter, ifs, 0⟩] scope pos) 0 (.ref it) .none (genEnv scope cl C code bi X.env)).onRaise (leaving (genEnv scope cl C code bi X.env))) [] s2
  unfold compStart
  rw [Sem.onRaise_eq_wrap]
  show Seg _ A _ _ _ s2 _ ((ask >>= _).wrap _ _ _ _) [] s2
  refine seg_bind_wrap (wpAny_askSetting ?_)
  split
  · exact seg_again rfl loop
  · first
      | exact seg_bind_wrap (wpAny_rule (seg_bind_wrap (wpAny_standAt (seg_bind_wrap (G.turn.self _ 0 s2 _ _ st2 (seg_again rfl loop))))))
      | (refine seg_bind_wrap (wpAny_rule ?_); show Seg _ A _ _ _ s2 _ ((standAt iter.pos >>= _).wrap _ _ _ _) [] s2; exact seg_bind_wrap (wpAny_standAt (seg_bind_wrap (G.turn.self _ 0 s2 _ _ st2 (seg_again rfl loop)))))
end
end GX
set_option maxHeartbeats 4000000
namespace GX
open PySem PySem.Spec PyProof.Rows L2 GenW
/-- the consumer changes nothing while the generator sleeps -/
def Sl0 (_ : Value) (s s' : Shared) : Prop := s'.os = s.os ∧ AllBare s'.gens ∧ ∀ b o, s.heap.get? b = some o → s'.heap.get? b = some o
def Pn0 (_ : List V) (pn : List (Addr × Obj)) : Prop := pn = []
theorem wake0 {XB : Cx} {fp : List Addr} : ∀ ys x v pn ip σ H s s', Pn0 ys pn → (∀ p ∈ ip, p.1 ∈ fp) → Inv XB (pn ++ ip) σ H s → RelV x v → Sl0 v s s' → ∃ pn', Pn0 (ys ++ [x]) pn' ∧ Inv XB (pn' ++ ip) σ H s' := by
  intro ys x v pn ip σ H s s' hp _ I _ ⟨h1, h2, h3⟩
  have e : pn = [] := hp
  subst e
  exact ⟨[], rfl, I.call' (ch := []) h1 (Un.kept h3) (I.hok.kept h3) h2 fun b z => by simp at z⟩
section
variable {XB : Cx} {N : Nat} {σ0 : L2.St} {Py : V → List V → Hp → Prop} {Cont : V → Prop} {Qs : List V → Hp → Prop} {a : Addr} {g : Nat} {go : Obj} {A : Around} {R : Result → Shared → Prop}
theorem all_loop (hh : A.handled = none) (hd : A.depth < recursionLimit) (hpn : XB.pn = [(a, go)]) (hgen : ∀ h : Heap, h.get? a = some go → h.IsGen a g)
    (hPy : ∀ y ys H, Py y ys H → ∃ k, y = .bl k ∧ (k = true → Cont y))
    (hT : ∀ ys H s1 s', Inv XB [] σ0 H s1 → Qs ys H → s'.os = s1.os → AllBare s'.gens → (∀ b o, s1.heap.get? b = some o → s'.heap.get? b = some o) → R (.ok (.ret (.bool true))) s')
    (hF : ∀ ys ip σ H s1 s', Inv XB ip σ H s1 → Py (.bl false) ys H → s'.os = s1.os → AllBare s'.gens → (∀ b o, s1.heap.get? b = some o → s'.heap.get? b = some o) → R (.ok (.ret (.bool false))) s') :
    ∀ (n : Nat) (s : Shared), s.heap.IsGen a g → s.heap.NoLimit →
      (∃ gs, s.gens[g]? = some gs ∧ gs.Goes (model XB.prog XB.w) A.in1.in1 (RP XB N σ0 Pn0 Qs) (YP XB N Pn0 Sl0 Py Cont) n (.send .none) (s.setGen g .running)) →
      codeAny (model XB.prog XB.w) A (.builtin "all.loop" ⟨[.ref a], []⟩) R s := by
  have pinned : ∀ {pins : List (Addr × Obj)} {σ : L2.St} {H : Hp} {s : Shared}, Inv XB pins σ H s → s.heap.IsGen a g := fun {pins σ H s} I =>
    hgen _ (I.pin (a, go) (List.mem_append_left _ (by rw [hpn]; exact List.mem_singleton.mpr rfl))).1
  intro n
  induction n with
  | zero =>
    intro s hg hl ⟨gs, hgs, hgo⟩
    refine codeAny_builtin F.entry_all_loop ?_
    rw [Around.under_plainId F.plain_all_loop _]
    show wpAny _ A.in1 (pyNext (.ref a) >>= _) _ _ s
    refine wpAny_bind (wpAny_pyNext_genexpQ (A := A.in1) (P := fun n s₀ s₁ => ∃ (ys : List V) (pn : List (Addr × Obj)) (H : Hp), n + ys.length = N ∧ Pn0 ys pn ∧ Inv XB pn σ0 H s₁ ∧ Qs ys H) (n := 0) hh hl hd hg hgs hgo (fun v s₁ gs' hb hv => ?_) (fun s₁ hp h' hk => ?_))
    · obtain ⟨ys, y, pn, ip, σ, H, _, rv, _, I, py, kap⟩ := hv
      obtain ⟨k, rfl, hk⟩ := hPy _ _ _ py
      cases (show v = Value.bool k from rv)
      refine wpAny_bind (wpAny_holding (wpAny_truthy_bool ?_))
      refine wpAny_bind (wpAny_letGo ?_)
      cases k with
      | true => exact (kap (hk rfl) s₁ ⟨rfl, I.bare, fun _ _ e => e⟩).elim
      | false =>
        simp only [Bool.false_eq_true, if_false]
        exact wpAny_bind (wpAny_rule (wpAny_pure (hF ys _ σ H s₁ _ I py rfl (allBare_setGen I.bare hb) fun _ _ e => e)))
    · obtain ⟨ys, pn, H, _, e, I, qs⟩ := hp
      have e : pn = [] := e
      subst e
      exact wpAny_bind (wpAny_rule (wpAny_pure (hT ys H s₁ _ I qs rfl (allBare_setGen I.bare rfl) hk)))
  | succ n ih =>
    intro s hg hl ⟨gs, hgs, hgo⟩
    have hgl : g < s.gens.size := (Array.getElem?_eq_some_iff.mp hgs).1
    refine codeAny_builtin F.entry_all_loop ?_
    rw [Around.under_plainId F.plain_all_loop _]
    show wpAny _ A.in1 (pyNext (.ref a) >>= _) _ _ s
    refine wpAny_bind (wpAny_gsz (n := g + 1) hgl (wpAny_pyNext_genexpQ (A := A.in1) (P := fun n s₀ s₁ => ∃ (ys : List V) (pn : List (Addr × Obj)) (H : Hp), n + ys.length = N ∧ Pn0 ys pn ∧ Inv XB pn σ0 H s₁ ∧ Qs ys H) (n := n + 1) hh hl hd hg hgs hgo (fun v s₁ gs' hb hv => ?_) (fun s₁ hp h' hk => ?_)))
    · intro hsz
      obtain ⟨ys, y, pn, ip, σ, H, _, rv, _, I, py, kap⟩ := hv
      obtain ⟨k, rfl, hk⟩ := hPy _ _ _ py
      cases (show v = Value.bool k from rv)
      refine wpAny_bind (wpAny_holding (wpAny_truthy_bool ?_))
      refine wpAny_bind (wpAny_letGo ?_)
      cases k with
      | true =>
        simp only [if_true]
        have hsz1 : g < s₁.gens.size := by
          have q : (s₁.setGen g gs').gens.size = s₁.gens.size := setGen_size _ _ _
          have hsz' : g + 1 ≤ (s₁.setGen g gs').gens.size := hsz
          omega
        exact wpAny_pure ⟨plainId_quiet F.plain_all_loop _, ih (s₁.setGen g gs') (show s₁.heap.IsGen a g from pinned I) (show s₁.heap.NoLimit from I.nolimit) ⟨gs', setGen_at hsz1, kap (hk rfl) _ ⟨rfl, allBare_setGen (s := s₁.setGen g gs') (allBare_setGen I.bare hb) rfl, fun _ _ e => e⟩⟩⟩
      | false =>
        simp only [Bool.false_eq_true, if_false]
        exact wpAny_bind (wpAny_rule (wpAny_pure (hF ys _ σ H s₁ _ I py rfl (allBare_setGen I.bare hb) fun _ _ e => e)))
    · intro hsz
      obtain ⟨ys, pn, H, _, e, I, qs⟩ := hp
      have e : pn = [] := e
      subst e
      exact wpAny_bind (wpAny_rule (wpAny_pure (hT ys H s₁ _ I qs rfl (allBare_setGen I.bare rfl) hk)))
theorem any_loop (hh : A.handled = none) (hd : A.depth < recursionLimit) (hpn : XB.pn = [(a, go)]) (hgen : ∀ h : Heap, h.get? a = some go → h.IsGen a g)
    (hPy : ∀ y ys H, Py y ys H → ∃ k, y = .bl k ∧ (k = false → Cont y))
    (hT : ∀ ys H s1 s', Inv XB [] σ0 H s1 → Qs ys H → s'.os = s1.os → AllBare s'.gens → (∀ b o, s1.heap.get? b = some o → s'.heap.get? b = some o) → R (.ok (.ret (.bool false))) s')
    (hF : ∀ ys ip σ H s1 s', Inv XB ip σ H s1 → Py (.bl true) ys H → s'.os = s1.os → AllBare s'.gens → (∀ b o, s1.heap.get? b = some o → s'.heap.get? b = some o) → R (.ok (.ret (.bool true))) s') :
    ∀ (n : Nat) (s : Shared), s.heap.IsGen a g → s.heap.NoLimit →
      (∃ gs, s.gens[g]? = some gs ∧ gs.Goes (model XB.prog XB.w) A.in1.in1 (RP XB N σ0 Pn0 Qs) (YP XB N Pn0 Sl0 Py Cont) n (.send .none) (s.setGen g .running)) →
      codeAny (model XB.prog XB.w) A (.builtin "any.loop" ⟨[.ref a], []⟩) R s := by
  have pinned : ∀ {pins : List (Addr × Obj)} {σ : L2.St} {H : Hp} {s : Shared}, Inv XB pins σ H s → s.heap.IsGen a g := fun {pins σ H s} I =>
    hgen _ (I.pin (a, go) (List.mem_append_left _ (by rw [hpn]; exact List.mem_singleton.mpr rfl))).1
  intro n
  induction n with
  | zero =>
    intro s hg hl ⟨gs, hgs, hgo⟩
    refine codeAny_builtin F.entry_any_loop ?_
    rw [Around.under_plainId F.plain_any_loop _]
    show wpAny _ A.in1 (pyNext (.ref a) >>= _) _ _ s
    refine wpAny_bind (wpAny_pyNext_genexpQ (A := A.in1) (P := fun n s₀ s₁ => ∃ (ys : List V) (pn : List (Addr × Obj)) (H : Hp), n + ys.length = N ∧ Pn0 ys pn ∧ Inv XB pn σ0 H s₁ ∧ Qs ys H) (n := 0) hh hl hd hg hgs hgo (fun v s₁ gs' hb hv => ?_) (fun s₁ hp h' hk => ?_))
    · obtain ⟨ys, y, pn, ip, σ, H, _, rv, _, I, py, kap⟩ := hv
      obtain ⟨k, rfl, hk⟩ := hPy _ _ _ py
      cases (show v = Value.bool k from rv)
      refine wpAny_bind (wpAny_holding (wpAny_truthy_bool ?_))
      refine wpAny_bind (wpAny_letGo ?_)
      cases k with
      | false => exact (kap (hk rfl) s₁ ⟨rfl, I.bare, fun _ _ e => e⟩).elim
      | true =>
        simp only [if_true]
        exact wpAny_bind (wpAny_rule (wpAny_pure (hF ys _ σ H s₁ _ I py rfl (allBare_setGen I.bare hb) fun _ _ e => e)))
    · obtain ⟨ys, pn, H, _, e, I, qs⟩ := hp
      have e : pn = [] := e
      subst e
      exact wpAny_bind (wpAny_rule (wpAny_pure (hT ys H s₁ _ I qs rfl (allBare_setGen I.bare rfl) hk)))
  | succ n ih =>
    intro s hg hl ⟨gs, hgs, hgo⟩
    have hgl : g < s.gens.size := (Array.getElem?_eq_some_iff.mp hgs).1
    refine codeAny_builtin F.entry_any_loop ?_
    rw [Around.under_plainId F.plain_any_loop _]
    show wpAny _ A.in1 (pyNext (.ref a) >>= _) _ _ s
    refine wpAny_bind (wpAny_gsz (n := g + 1) hgl (wpAny_pyNext_genexpQ (A := A.in1) (P := fun n s₀ s₁ => ∃ (ys : List V) (pn : List (Addr × Obj)) (H : Hp), n + ys.length = N ∧ Pn0 ys pn ∧ Inv XB pn σ0 H s₁ ∧ Qs ys H) (n := n + 1) hh hl hd hg hgs hgo (fun v s₁ gs' hb hv => ?_) (fun s₁ hp h' hk => ?_)))
    · intro hsz
      obtain ⟨ys, y, pn, ip, σ, H, _, rv, _, I, py, kap⟩ := hv
      obtain ⟨k, rfl, hk⟩ := hPy _ _ _ py
      cases (show v = Value.bool k from rv)
      refine wpAny_bind (wpAny_holding (wpAny_truthy_bool ?_))
      refine wpAny_bind (wpAny_letGo ?_)
      cases k with
      | false =>
        simp only [Bool.false_eq_true, if_false]
        have hsz1 : g < s₁.gens.size := by
          have q : (s₁.setGen g gs').gens.size = s₁.gens.size := setGen_size _ _ _
          have hsz' : g + 1 ≤ (s₁.setGen g gs').gens.size := hsz
          omega
        exact wpAny_pure ⟨plainId_quiet F.plain_any_loop _, ih (s₁.setGen g gs') (show s₁.heap.IsGen a g from pinned I) (show s₁.heap.NoLimit from I.nolimit) ⟨gs', setGen_at hsz1, kap (hk rfl) _ ⟨rfl, allBare_setGen (s := s₁.setGen g gs') (allBare_setGen I.bare hb) rfl, fun _ _ e => e⟩⟩⟩
      | true =>
        simp only [if_true]
        exact wpAny_bind (wpAny_rule (wpAny_pure (hF ys _ σ H s₁ _ I py rfl (allBare_setGen I.bare hb) fun _ _ e => e)))
    · intro hsz
      obtain ⟨ys, pn, H, _, e, I, qs⟩ := hp
      have e : pn = [] := e
      subst e
      exact wpAny_bind (wpAny_rule (wpAny_pure (hT ys H s₁ _ I qs rfl (allBare_setGen I.bare rfl) hk)))
end
end GX
set_option maxHeartbeats 4000000
namespace GX
open PySem PySem.Spec PyProof.Rows L2 GenW
theorem wipe_wipe (σ : L2.St) : ∀ vs : List Nat, wipe (wipe σ vs) vs = wipe σ vs := by
  intro vs
  refine List.ext_getElem? fun i => ?_
  have key : ∀ (vs : List Nat) (σ : L2.St) (i : Nat), i ∈ vs → (wipe σ vs)[i]? = if i < σ.length then some none else none := by
    intro vs
    induction vs with
    | nil => intro σ i h; cases h
    | cons v vs ih =>
      intro σ i h
      unfold wipe
      by_cases e : v = i
      · subst e
        by_cases hv : v < (wipe σ vs).length
        · rw [List.getElem?_set_self hv]
          rw [wipe_length] at hv
          rw [if_pos hv]
        · rw [List.getElem?_eq_none (by rw [List.length_set]; omega)]
          rw [wipe_length] at hv
          rw [if_neg hv]
      · rw [List.getElem?_set_ne e]
        rcases List.mem_cons.mp h with h | h
        · exact absurd h.symm e
        · exact ih σ i h
  by_cases h : i ∈ vs
  · rw [key vs _ i h, key vs _ i h, wipe_length]
  · exact wipe_out h
/-- all(e for tg in iter if ..) (d true), any(..) (d false): W by the turn and a measure -/
def tFlagG (d : Bool) (P : Addr) (wi : TI) (g : TG) (tt : TT) (te : TE) (vs : List Nat) : TE := fun σ H Q => wi σ H fun J H1 => GxR.TabG H1 P ∧ ∀ H2, GxR.Tabbed P H1 H2 →
  ∃ W : Nat → Nat → Hp → Prop, (∃ m, W 0 m H2) ∧ ∀ i m H, W i m H → (J.stop i H ∧ Q (.bl d) H) ∨ (J.go i H ∧ ∃ Nx : Hp → Prop, (∀ H', Nx H' → ∃ m', m' < m ∧ W (i + 1) m' H') ∧ ∀ x H', J.yld i H x H' → g x (wipe σ vs) H' fun σ2 H2 =>
    wipe σ2 vs = wipe σ vs ∧ tt σ2 H2 fun b H3 => if b = true then te σ2 H3 fun y H4 => (∃ k, y = .bl k ∧ (k = (!d) → Q (.bl (!d)) H4)) ∧ (y = .bl d → Nx H4) else Nx H3)
section
variable {X : Cx} {c P : Addr} {elt tg iter : Expr} {ifs : List Expr} {scope : Scope} {own : List (Str × Nat)} {p pos gpos : Pos} {wi : TI} {g : TG} {tt : TT} {te : TE} {k : Nat}
theorem pe_allG (hr : Room (k + 2) X.A) (hc : X.calm = true) (hN : X.N.Nodup) (hgl : Gl X "all") (hm : X.mg "all" = none) (hbt : bootBuiltins "all" = some (.builtin "all")) (TB : GxR.TabB X.base X.mg c P) (hcode : X.env.code = .ref c)
    (hi : PI X tg iter wi) (ok : BlkOk X.N X.env.scope scope own) (hsc : scope.isCoroutine = false ∧ (∀ y ∈ scope.names, y.2 ≠ .cell) ∧ scope.names.lookup (".0" : Str) = some NameKind.local)
    (hg : ∀ (A' : Around), Room k A' → ∀ (s : Shared) (H : Hp) (cl : List (Str × Addr)) (C : Addr) (code : Value) (bi : Addr) (fp : List Addr) (pn : List (Addr × Obj)), PG (gblk X A' s H scope (genEnv scope cl C code bi X.env) fp pn) tg g)
    (ht : ∀ (A' : Around), Room k A' → ∀ (s : Shared) (H : Hp) (cl : List (Str × Addr)) (C : Addr) (code : Value) (bi : Addr) (fp : List Addr) (pn : List (Addr × Obj)), PTs (gblk X A' s H scope (genEnv scope cl C code bi X.env) fp pn) ifs tt)
    (he : ∀ (A' : Around), Room k A' → ∀ (s : Shared) (H : Hp) (cl : List (Str × Addr)) (C : Addr) (code : Value) (bi : Addr) (fp : List Addr) (pn : List (Addr × Obj)), PE (gblk X A' s H scope (genEnv scope cl C code bi X.env) fp pn) elt te)
    (hs : ∀ v, genFold iter X.env v = pure v := by intro _; rfl)
    (hst : starEach [.GeneratorExp elt [⟨tg, iter, ifs, 0⟩] scope gpos] X.env = (false, eval (.GeneratorExp elt [⟨tg, iter, ifs, 0⟩] scope gpos) X.env) :: starEach [] X.env := by rfl) :
    PE X (.Call (.Name "all" p) [.GeneratorExp elt [⟨tg, iter, ifs, 0⟩] scope gpos] [] pos) (tFlagG true P wi g tt te (own.map (·.2))) := by
  obtain ⟨hco, hcell, h0⟩ := hsc
  obtain ⟨hr1, _⟩ := room_in hr
  refine ⟨fun pins s σ H Q I h => ?_⟩
  refine wpAny_Call_Name_kw (ld_blt I hgl hm hbt ?_)
  refine PyProof.Rows.callWith_builtin1 ?_ hst (by rfl)
  rw [hst]
  show wpAny _ _ (spliced ((false, eval (.GeneratorExp elt [⟨tg, iter, ifs, 0⟩] scope gpos) X.env) :: backTo pos (starEach [] X.env))) _ _ s
  refine Calls.spliced_cons (gen_make hr hN TB hcode ok hco hcell h0 hi hs I h fun J H2 sc s5 a gn it fp tn cenv go hR G => ?_)
  obtain ⟨W, ⟨m, w0⟩, turn⟩ := hR
  refine Calls.spliced_nil ?_
  refine call_function_tree F.kind_all F.plain_all F.entry_all (F.args_all1 _) ?_
  unfold Builtin.«all»
  refine wpAny_bind (m := oneArg "all" _) (wpAny_pure ?_)
  refine wpAny_bind (wpAny_pyIter_gen (G.gen _ G.at_) ?_)
  refine wpAny_pure ⟨plainId_quiet F.plain_all_loop _, ?_⟩
  refine all_loop (XB := gblk X (Ag X.A.in1.in1 (.GeneratorExp elt [⟨tg, iter, ifs, 0⟩] scope gpos) it cenv) sc H2 scope cenv fp [(a, go)]) (N := m + 1) (σ0 := wipe σ (own.map (·.2))) (Py := fun y _ H => ∃ k, y = .bl k ∧ (k = false → Q (.bl false) H)) (Cont := fun y => y = .bl true) (Qs := fun _ H => Q (.bl true) H)
    (A := X.A) hr.hd hr.depth rfl G.gen (fun y _ H ⟨k, e, _⟩ => ⟨k, e, fun z => by rw [e, z]⟩) (fun _ H s1 s' J1 q os hb kp => ⟨.bl true, H, G.leave J1 os hb kp, rfl, q⟩)
    (fun _ ip σ' H s1 s' J1 ⟨k, e, q⟩ os hb kp => ⟨.bl false, H, G.leave J1 os hb kp, rfl, q (by cases e; rfl)⟩) (m + 1) s5 (G.gen _ G.at_) G.nolim ⟨_, G.gs, rfl, ?_⟩
  refine G.goes (pn := []) (W := fun i m _ H => W i m H) hc hr1 I.ok.frames hco (wipe_wipe σ _) hg ht he (fun _ _ e p hp => by rw [show _ = _ from e] at hp; cases hp) wake0 (fun i m _ H w => ?_) w0 (Nat.lt_succ_self m) rfl (fun b o e => e) G.os (allBare_setGen G.bare rfl) (fun p hp => by cases hp)
  rcases turn i m H w with ⟨stop, qq⟩ | ⟨go', Nx, hNx, step⟩
  · exact .inl ⟨stop, qq⟩
  · refine .inr ⟨go', fun _ H => Nx H, fun _ H' n => hNx H' n, fun x H' y => ?_⟩
    exact step x H' y
theorem pe_anyG (hr : Room (k + 2) X.A) (hc : X.calm = true) (hN : X.N.Nodup) (hgl : Gl X "any") (hm : X.mg "any" = none) (hbt : bootBuiltins "any" = some (.builtin "any")) (TB : GxR.TabB X.base X.mg c P) (hcode : X.env.code = .ref c)
    (hi : PI X tg iter wi) (ok : BlkOk X.N X.env.scope scope own) (hsc : scope.isCoroutine = false ∧ (∀ y ∈ scope.names, y.2 ≠ .cell) ∧ scope.names.lookup (".0" : Str) = some NameKind.local)
    (hg : ∀ (A' : Around), Room k A' → ∀ (s : Shared) (H : Hp) (cl : List (Str × Addr)) (C : Addr) (code : Value) (bi : Addr) (fp : List Addr) (pn : List (Addr × Obj)), PG (gblk X A' s H scope (genEnv scope cl C code bi X.env) fp pn) tg g)
    (ht : ∀ (A' : Around), Room k A' → ∀ (s : Shared) (H : Hp) (cl : List (Str × Addr)) (C : Addr) (code : Value) (bi : Addr) (fp : List Addr) (pn : List (Addr × Obj)), PTs (gblk X A' s H scope (genEnv scope cl C code bi X.env) fp pn) ifs tt)
    (he : ∀ (A' : Around), Room k A' → ∀ (s : Shared) (H : Hp) (cl : List (Str × Addr)) (C : Addr) (code : Value) (bi : Addr) (fp : List Addr) (pn : List (Addr × Obj)), PE (gblk X A' s H scope (genEnv scope cl C code bi X.env) fp pn) elt te)
    (hs : ∀ v, genFold iter X.env v = pure v := by intro _; rfl)
    (hst : starEach [.GeneratorExp elt [⟨tg, iter, ifs, 0⟩] scope gpos] X.env = (false, eval (.GeneratorExp elt [⟨tg, iter, ifs, 0⟩] scope gpos) X.env) :: starEach [] X.env := by rfl) :
    PE X (.Call (.Name "any" p) [.GeneratorExp elt [⟨tg, iter, ifs, 0⟩] scope gpos] [] pos) (tFlagG false P wi g tt te (own.map (·.2))) := by
  obtain ⟨hco, hcell, h0⟩ := hsc
  obtain ⟨hr1, _⟩ := room_in hr
  refine ⟨fun pins s σ H Q I h => ?_⟩
  refine wpAny_Call_Name_kw (ld_blt I hgl hm hbt ?_)
  refine PyProof.Rows.callWith_builtin1 ?_ hst (by rfl)
  rw [hst]
  show wpAny _ _ (spliced ((false, eval (.GeneratorExp elt [⟨tg, iter, ifs, 0⟩] scope gpos) X.env) :: backTo pos (starEach [] X.env))) _ _ s
  refine Calls.spliced_cons (gen_make hr hN TB hcode ok hco hcell h0 hi hs I h fun J H2 sc s5 a gn it fp tn cenv go hR G => ?_)
  obtain ⟨W, ⟨m, w0⟩, turn⟩ := hR
  refine Calls.spliced_nil ?_
  refine call_function_tree F.kind_any F.plain_any F.entry_any (F.args_any1 _) ?_
  unfold Builtin.«any»
  refine wpAny_bind (m := oneArg "any" _) (wpAny_pure ?_)
  refine wpAny_bind (wpAny_pyIter_gen (G.gen _ G.at_) ?_)
  refine wpAny_pure ⟨plainId_quiet F.plain_any_loop _, ?_⟩
  refine any_loop (XB := gblk X (Ag X.A.in1.in1 (.GeneratorExp elt [⟨tg, iter, ifs, 0⟩] scope gpos) it cenv) sc H2 scope cenv fp [(a, go)]) (N := m + 1) (σ0 := wipe σ (own.map (·.2))) (Py := fun y _ H => ∃ k, y = .bl k ∧ (k = true → Q (.bl true) H)) (Cont := fun y => y = .bl false) (Qs := fun _ H => Q (.bl false) H)
    (A := X.A) hr.hd hr.depth rfl G.gen (fun y _ H ⟨k, e, _⟩ => ⟨k, e, fun z => by rw [e, z]⟩) (fun _ H s1 s' J1 q os hb kp => ⟨.bl false, H, G.leave J1 os hb kp, rfl, q⟩)
    (fun _ ip σ' H s1 s' J1 ⟨k, e, q⟩ os hb kp => ⟨.bl true, H, G.leave J1 os hb kp, rfl, q (by cases e; rfl)⟩) (m + 1) s5 (G.gen _ G.at_) G.nolim ⟨_, G.gs, rfl, ?_⟩
  refine G.goes (pn := []) (W := fun i m _ H => W i m H) hc hr1 I.ok.frames hco (wipe_wipe σ _) hg ht he (fun _ _ e p hp => by rw [show _ = _ from e] at hp; cases hp) wake0 (fun i m _ H w => ?_) w0 (Nat.lt_succ_self m) rfl (fun b o e => e) G.os (allBare_setGen G.bare rfl) (fun p hp => by cases hp)
  rcases turn i m H w with ⟨stop, qq⟩ | ⟨go', Nx, hNx, step⟩
  · exact .inl ⟨stop, qq⟩
  · refine .inr ⟨go', fun _ H => Nx H, fun _ H' n => hNx H' n, fun x H' y => ?_⟩
    exact step x H' y
end
end GX
set_option maxHeartbeats 4000000
namespace GX
open PySem PySem.Spec PyProof.Rows L2 GenW
/-- the consumer's list S holds what is out -/
def PnS (S : Addr) (ys : List V) (pn : List (Addr × Obj)) : Prop := ∃ (acc : Array Value) (c : Nat), Vals ys acc.toList ∧ pn = [(S, lstObj acc c)]
theorem wakeS {XB : Cx} {fp : List Addr} {S : Addr} (hpn : ∀ p ∈ XB.pn, p.1 ≠ S) (hSf : S ∉ fp) (hA : Apart XB S) : ∀ ys x v pn ip σ H s s', PnS S ys pn → (∀ p ∈ ip, p.1 ∈ fp) → Inv XB (pn ++ ip) σ H s → RelV x v → Slept S v s s' → ∃ pn', PnS S (ys ++ [x]) pn' ∧ Inv XB (pn' ++ ip) σ H s' := by
  intro ys x v pn ip σ H s s' hp hip I rv z
  obtain ⟨acc, c, r, e⟩ := hp
  subst e
  obtain ⟨acc', c', r', I'⟩ := GI.woken (S := S) (ip := ip) (ys := ys) hpn (fun p hp e => hSf (by rw [← e]; exact hip p hp)) hA ⟨acc, c, r, I⟩ rv z
  exact ⟨_, ⟨acc', c', r', rfl⟩, I'⟩
section
variable {XB : Cx} {N : Nat} {σ0 : L2.St} {Qs : List V → Hp → Prop} {a S : Addr} {g : Nat} {go : Obj} {A : Around} {R : Result → Shared → Prop} {res : Value}
theorem ext_loop (hh : A.handled = none) (hd : A.depth < recursionLimit) (hpn : XB.pn = [(a, go)]) (hgen : ∀ h : Heap, h.get? a = some go → h.IsGen a g) (hSa : S ≠ a) (hSc : S ≠ cStatics) (hN : N ≤ sizeLine)
    (hend : ∀ ys acc c H s1 s', Vals ys acc.toList → ys.length ≤ N → Inv XB [(S, lstObj acc c)] σ0 H s1 → Qs ys H → s'.os = s1.os → AllBare s'.gens → (∀ b o, s1.heap.get? b = some o → s'.heap.get? b = some o) → R (.ok (.ret res)) s') :
    ∀ (n : Nat) (s : Shared), s.heap.IsGen a g → s.heap.NoLimit →
      (∃ gs, s.gens[g]? = some gs ∧ gs.Goes (model XB.prog XB.w) A.in1.in1 (RP XB N σ0 (PnS S) Qs) (YP XB N (PnS S) (Slept S) (fun _ _ _ => True) (fun _ => True)) n (.send .none) (s.setGen g .running)) →
      codeAny (model XB.prog XB.w) A (.builtin "list.extend.loop" ⟨[.ref S, .ref a, res], []⟩) R s := by
  have pinned : ∀ {pins : List (Addr × Obj)} {σ : L2.St} {H : Hp} {s : Shared}, Inv XB pins σ H s → s.heap.IsGen a g := fun {pins σ H s} I =>
    hgen _ (I.pin (a, go) (List.mem_append_left _ (by rw [hpn]; exact List.mem_singleton.mpr rfl))).1
  intro n
  induction n with
  | zero =>
    intro s hg hl ⟨gs, hgs, hgo⟩
    refine codeAny_builtin F.entry_extend_loop ?_
    rw [Around.under_plainId F.plain_extend_loop _]
    show wpAny _ A.in1 (pyNext (.ref a) >>= _) _ _ s
    refine wpAny_bind (wpAny_pyNext_genexpQ (A := A.in1) (P := fun n s₀ s₁ => ∃ (ys : List V) (pn : List (Addr × Obj)) (H : Hp), n + ys.length = N ∧ PnS S ys pn ∧ Inv XB pn σ0 H s₁ ∧ Qs ys H) (n := 0) hh hl hd hg hgs hgo (fun v s₁ gs' hb hv => ?_) (fun s₁ hp h' hk => ?_))
    · obtain ⟨ys, y, pn, ip, σ, H, _, rv, ⟨acc, c, r, e⟩, I, _, kap⟩ := hv
      subst e
      have hS1 : s₁.heap.get? S = some (lstObj acc c) := (I.pin (S, lstObj acc c) (List.mem_append_right _ (by simp))).1
      exact (kap trivial _ (Slept.push hS1 I.bare)).elim
    · obtain ⟨ys, pn, H, hn, ⟨acc, c, r, e⟩, I, qs⟩ := hp
      subst e
      exact wpAny_pure (hend ys acc c H s₁ _ r (by omega) I qs rfl (allBare_setGen I.bare rfl) hk)
  | succ n ih =>
    intro s hg hl ⟨gs, hgs, hgo⟩
    have hgl : g < s.gens.size := (Array.getElem?_eq_some_iff.mp hgs).1
    refine codeAny_builtin F.entry_extend_loop ?_
    rw [Around.under_plainId F.plain_extend_loop _]
    show wpAny _ A.in1 (pyNext (.ref a) >>= _) _ _ s
    refine wpAny_bind (wpAny_gsz (n := g + 1) hgl (wpAny_pyNext_genexpQ (A := A.in1) (P := fun n s₀ s₁ => ∃ (ys : List V) (pn : List (Addr × Obj)) (H : Hp), n + ys.length = N ∧ PnS S ys pn ∧ Inv XB pn σ0 H s₁ ∧ Qs ys H) (n := n + 1) hh hl hd hg hgs hgo (fun v s₁ gs' hb hv => ?_) (fun s₁ hp h' hk => ?_)))
    · intro hsz
      obtain ⟨ys, y, pn, ip, σ, H, hn, rv, ⟨acc, c, r, e⟩, I, _, kap⟩ := hv
      subst e
      have hS1 : s₁.heap.get? S = some (lstObj acc c) := (I.pin (S, lstObj acc c) (List.mem_append_right _ (by simp))).1
      have hasz : acc.size = ys.length := by
        have e1 := r.length
        have e2 : acc.toList.length = acc.size := by simp
        omega
      have hasz' : acc.size < sizeLine := by omega
      show wpAny _ A.in1 (updateSeq S (·.push v) >>= _) _ _ _
      refine wpAny_bind ?_
      refine wpAny_updateSeq hS1 rfl (wpAny_pure ⟨plainId_quiet F.plain_extend_loop _, ?_⟩) (Nat.le_of_lt hasz') (by show (acc.push v).size ≤ sizeLine + 1; rw [Array.size_push]; omega)
      have keep3 : ∀ b o, b ≠ S → s₁.heap.get? b = some o → (s₁.heap.update S (Obj.mapSeq (·.push v))).get? b = some o := fun b o hbS e => (Heap.get?_update_other _ _ (Ne.symm hbS)).trans e
      have hsz1 : g < s₁.gens.size := by
        have q : (s₁.setGen g gs').gens.size = s₁.gens.size := setGen_size _ _ _
        have hsz' : g + 1 ≤ (s₁.setGen g gs').gens.size := hsz
        omega
      refine ih { s₁.setGen g gs' with heap := s₁.heap.update S (Obj.mapSeq (·.push v)) } ?_ ?_ ⟨gs', setGen_at hsz1, ?_⟩
      · obtain ⟨o, nm, qn, ho, r⟩ := pinned I
        exact ⟨o, nm, qn, keep3 a o (Ne.symm hSa) ho, r⟩
      · obtain ⟨mc, hns, hnn⟩ := I.nolimit
        exact ⟨mc, hns.at' fun o e => keep3 _ o (Ne.symm hSc) e, hnn⟩
      · exact kap trivial _ (Slept.push hS1 (allBare_setGen (s := s₁.setGen g gs') (allBare_setGen I.bare hb) rfl))
    · intro hsz
      obtain ⟨ys, pn, H, hn, ⟨acc, c, r, e⟩, I, qs⟩ := hp
      subst e
      exact wpAny_pure (hend ys acc c H s₁ _ r (by omega) I qs rfl (allBare_setGen I.bare rfl) hk)
end
section
variable {prog : Program} {w : World} {A : Around} {E : Value → Shared → Prop} {s : Shared} {a : Addr} {g : Nat}
/-- collect(g), the loop told -/
theorem collect_G {Q : List Value → Shared → Prop} {Qe : Array Value → Shared → Prop} (hg : s.heap.IsGen a g)
    (loop : ∀ (S : Addr) (s2 : Shared) (c : Nat) (R : Result → Shared → Prop), S = s.heap.objs.size → s2.os = s.os → s2.gens = s.gens → (∀ b o, s.heap.get? b = some o → s2.heap.get? b = some o) → s2.heap.get? S = some (lstObj #[] c) →
      (∀ acc c' s', s'.heap.get? S = some (lstObj acc c') → Qe acc s' → R (.ok (.ret (.ref S))) s') → codeAny (model prog w) A (.builtin "list.extend.loop" ⟨[.ref S, .ref a, .ref S], []⟩) R s2)
    (hQ : ∀ s' acc, Qe acc s' → Q acc.toList s') : wpAny (model prog w) A (collect (.ref a)) Q E s := by
  have ha : a < s.heap.objs.size := by
    obtain ⟨o, nm, qn, ho, _⟩ := id hg
    exact Heap.lt_size ho
  have hSI : s.heap.objs.size ≠ a := Nat.ne_of_gt ha
  unfold collect
  refine wpAny_bind (wpAny_runValue (codeAny_builtin F.entry_proto_collect ?_))
  rw [Around.under_plainId F.plain_proto_collect _]
  show wpAny _ A.in1 (newList [] >>= fun l => again (.builtin "list.__iadd__" ⟨[l, .ref a], []⟩)) _ _ s
  refine wpAny_bind (wpAny_newObj_type ?_)
  refine wpAny_pure ⟨plainId_quiet F.plain_list_iadd _, codeAny_builtin F.entry_list_iadd ?_⟩
  rw [Around.under_plainId F.plain_list_iadd _]
  have k1 : ∀ b o, s.heap.get? b = some o → (s.heap.push { cls := .type "list", data := .seq ([] : List Value).toArray }).get? b = some o := fun b o e => Heap.get?_push_of_some _ e
  have gty : ∀ {h : Heap}, (∀ b o, s.heap.get? b = some o → h.get? b = some o) → h.IsGen a g := fun {h} q => hg.keeps q
  show wpAny _ A.in1 (Builtin.List.listExtendWith (.ref s.heap.objs.size) (.ref a) (.ref s.heap.objs.size)) _ _ _
  unfold Builtin.List.listExtendWith
  refine wpAny_bind (wpAny_typeOf (Heap.IsGen.typeIs (s := { s with heap := _ }) (gty k1)) ?_)
  have h1 : Builtin.List.listSameRef (.ref s.heap.objs.size) (.ref a) = false := by simp [Builtin.List.listSameRef, hSI]
  have h2 : (Value.type "generator" == Value.type "list") = false := by decide
  have h3 : (Value.type "generator" == Value.type "tuple") = false := by decide
  simp only [h1, h2, h3, Bool.or_false, Bool.false_eq_true, if_false]
  refine wpAny_bind (wpAny_pyIter_gen (s := { s with heap := _ }) (gty k1) ?_)
  refine wpAny_bind (wpAny_holding ?_)
  unfold Builtin.List.listLengthHint
  refine wpAny_bind (wpAny_specialOf (Heap.IsGen.typeIs (s := { s with heap := _ }) (gty k1)) F.gen_no_len ?_)
  show wpAny _ A.in1 (specialOf (Value.ref a) (Str.ofString "__length_hint__") >>= _) _ _ _
  refine wpAny_bind (wpAny_specialOf (Heap.IsGen.typeIs (s := { s with heap := _ }) (gty k1)) F.gen_no_hint ?_)
  refine wpAny_pure ?_
  show wpAny _ A.in1 (rule "list.extend.makes-room" >>= fun _ => Builtin.List.listTouch (.ref s.heap.objs.size) >>= fun _ =>
    again (.builtin "list.extend.loop" ⟨[.ref s.heap.objs.size, .ref a, .ref s.heap.objs.size], []⟩)) _ _ _
  refine wpAny_bind (wpAny_rule ?_)
  have hS₁ : (s.heap.push { cls := .type "list", data := .seq ([] : List Value).toArray }).get? s.heap.objs.size = some { cls := .type "list", data := .seq ([] : List Value).toArray } := Heap.get?_push_size _ rfl
  refine wpAny_bind ?_
  show wpAny _ A.in1 (updateSeq s.heap.objs.size (·.push .none) >>= fun _ => updateSeq s.heap.objs.size (·.pop)) _ _ _
  refine wpAny_bind (wpAny_updateSeq hS₁ rfl ?_)
  have hS₂ := Heap.get?_update_self (Obj.mapSeq (·.push Value.none)) hS₁ rfl
  refine wpAny_updateSeq hS₂ rfl ?_
  have hS₃ := Heap.get?_update_self (Obj.mapSeq (·.pop)) hS₂ rfl
  have oth : ∀ b o, s.heap.get? b = some o →
      (((s.heap.push { cls := .type "list", data := .seq ([] : List Value).toArray }).update s.heap.objs.size (Obj.mapSeq (·.push Value.none))).update s.heap.objs.size (Obj.mapSeq (·.pop))).get? b = some o :=
    fun b o e => (Heap.get?_update_other _ _ (Ne.symm (Nat.ne_of_lt (Heap.lt_size e)))).trans ((Heap.get?_update_other _ _ (Ne.symm (Nat.ne_of_lt (Heap.lt_size e)))).trans (k1 b o e))
  refine wpAny_pure ⟨plainId_quiet F.plain_extend_loop _, loop _ _ _ _ rfl rfl rfl oth hS₃ fun acc c' s' hS' hq => ?_⟩
  show wpAny _ A (load s.heap.objs.size >>= _) _ _ s'
  refine wpAny_bind (wpAny_load hS' ?_)
  exact wpAny_pure (hQ s' acc hq)
open AutoSeq1 (wpAny_loadPart') in
theorem tuple_new_G {Q₁ : Value → Shared → Prop} {Qe : Array Value → Shared → Prop} (hg : s.heap.IsGen a g) (hsz : ∀ s' acc, Qe acc s' → acc.size ≤ sizeLine)
    (loop : ∀ (S : Addr) (s2 : Shared) (c : Nat) (R : Result → Shared → Prop), S = s.heap.objs.size → s2.os = s.os → s2.gens = s.gens → (∀ b o, s.heap.get? b = some o → s2.heap.get? b = some o) → s2.heap.get? S = some (lstObj #[] c) →
      (∀ acc c' s', s'.heap.get? S = some (lstObj acc c') → Qe acc s' → R (.ok (.ret (.ref S))) s') → codeAny (model prog w) A.in1 (.builtin "list.extend.loop" ⟨[.ref S, .ref a, .ref S], []⟩) R s2)
    (h : ∀ s' acc, Qe acc s' → Q₁ (.ref s'.heap.objs.size) { s' with heap := s'.heap.push { cls := .type "tuple", data := .seq acc } }) :
    codeAny (model prog w) A (.call (.builtin "tuple.__new__") ⟨[.type "tuple", .ref a], []⟩) (wants Q₁ E) s := by
  refine codeAny_of_tree ?_
  show wpAny _ A.in1 (do checkBuiltinCall "tuple.__new__" ⟨[.type "tuple", .ref a], []⟩; again (.builtin "tuple.__new__" ⟨[.type "tuple", .ref a], []⟩)) _ _ s
  refine wpAny_bind (wpAny_of_eq (F.newCall_tuple_1 _) (wpAny_pure ⟨plainId_quiet F.plain_tuple_new _, codeAny_builtin F.entry_tuple_new ?_⟩))
  rw [Around.under_plainId F.plain_tuple_new _]
  have hsub := sub_tuple_self
  have hinit := init_tuple_lookup
  have hmh := madeHere_tuple
  have hTI := Heap.IsGen.typeIs (s := s) hg
  wp_walk using wpAny_typeOf hTI, wpAny_pyIter_gen hg, collect_G hg loop
  intro s' acc hacc
  show wpAny _ _ (Builtin.Tuple.tupleExact acc.toList.toArray >>= fun v => ret v) _ _ _
  unfold Builtin.Tuple.tupleExact
  refine wpAny_bind (wpAny_newObj_type ?_ (by show acc.toList.toArray.size ≤ sizeLine; simp only [Array.toArray_toList]; exact hsz _ _ hacc))
  refine wpAny_pure ?_
  have e : acc.toList.toArray = acc := by simp
  rw [e]
  exact h s' acc hacc
theorem call_tuple_G {Q : Value → Shared → Prop} {Qe : Array Value → Shared → Prop} (hg : s.heap.IsGen a g) (hsz : ∀ s' acc, Qe acc s' → acc.size ≤ sizeLine)
    (loop : ∀ (S : Addr) (s2 : Shared) (c : Nat) (R : Result → Shared → Prop), S = s.heap.objs.size → s2.os = s.os → s2.gens = s.gens → (∀ b o, s.heap.get? b = some o → s2.heap.get? b = some o) → s2.heap.get? S = some (lstObj #[] c) →
      (∀ acc c' s', s'.heap.get? S = some (lstObj acc c') → Qe acc s' → R (.ok (.ret (.ref S))) s') → codeAny (model prog w) A.in1.in1 (.builtin "list.extend.loop" ⟨[.ref S, .ref a, .ref S], []⟩) R s2)
    (hQ : ∀ s' acc, Qe acc s' → Q (.ref s'.heap.objs.size) { s' with heap := s'.heap.push { cls := .type "tuple", data := .seq acc } }) :
    wpAny (model prog w) A (call (.type "tuple") [.ref a]) Q E s := by
  refine callType_codes (Q₁ := fun obj s₁ => s₁.TypeIs obj "tuple" ∧ Q obj s₁) F.called_tuple (F.typeCall_tuple_1 _) F.entry_object_init
    (tuple_new_G hg hsz loop fun s' acc hacc => ⟨⟨_, Heap.get?_push_size _ rfl, rfl⟩, hQ s' acc hacc⟩) fun obj s₁ h₁ => ?_
  exact ⟨h₁.1, F.args_object_init_2 obj _, object_init_meets F.called_tuple.init.lookup F.called_tuple.made (by decide) prog w A.in1 _ s₁ ⟨h₁.1, rfl, h₁.2⟩⟩
end
end GX
set_option maxHeartbeats 4000000
namespace GX
open PySem PySem.Spec PyProof.Rows L2 GenW
/-- tuple(e for tg in iter if ..): W by the turn, a measure, what is out so far -/
def tTupG (P : Addr) (wi : TI) (g : TG) (tt : TT) (te : TE) (vs : List Nat) : TE := fun σ H Q => wi σ H fun J H1 => GxR.TabG H1 P ∧ ∀ H2, GxR.Tabbed P H1 H2 →
  ∃ W : Nat → Nat → List V → Hp → Prop, (∃ m, m < sizeLine ∧ W 0 m [] H2) ∧ ∀ i m ys H, W i m ys H → (J.stop i H ∧ ∀ p, H p = none → Q (.ref p) (upd H p (.tup ys))) ∨ (J.go i H ∧ ∃ Nx : List V → Hp → Prop, (∀ ys' H', Nx ys' H' → ∃ m', m' < m ∧ W (i + 1) m' ys' H') ∧
    ∀ x H', J.yld i H x H' → g x (wipe σ vs) H' fun σ2 H2 => wipe σ2 vs = wipe σ vs ∧ tt σ2 H2 fun b H3 => if b = true then te σ2 H3 fun y H4 => True ∧ (True → Nx (ys ++ [y]) H4) else Nx ys H3)
section
variable {X : Cx} {c P : Addr} {elt tg iter : Expr} {ifs : List Expr} {scope : Scope} {own : List (Str × Nat)} {p pos gpos : Pos} {wi : TI} {g : TG} {tt : TT} {te : TE} {k : Nat}
theorem room_in3 {A : Around} (h : Room (k + 2) A) : Room (k + 1) A.in1.in1.in1.in1 := by
  refine ⟨h.hd, ?_, ?_⟩
  · have := h.dp
    show A.depth + 3 * (k + 1) + 5 < _
    omega
  · have := h.un
    show A.units + 1 + 1 + 1 + 1 + 16 * (k + 1) + 200 < _
    omega
theorem pe_tupG (hr : Room (k + 2) X.A) (hc : X.calm = true) (hN : X.N.Nodup) (hgl : Gl X "tuple") (hm : X.mg "tuple" = none) (hbt : bootBuiltins "tuple" = some (.type "tuple")) (TB : GxR.TabB X.base X.mg c P) (hcode : X.env.code = .ref c)
    (hi : PI X tg iter wi) (ok : BlkOk X.N X.env.scope scope own) (hsc : scope.isCoroutine = false ∧ (∀ y ∈ scope.names, y.2 ≠ .cell) ∧ scope.names.lookup (".0" : Str) = some NameKind.local)
    (hg : ∀ (A' : Around), Room k A' → ∀ (s : Shared) (H : Hp) (cl : List (Str × Addr)) (C : Addr) (code : Value) (bi : Addr) (fp : List Addr) (pn : List (Addr × Obj)), PG (gblk X A' s H scope (genEnv scope cl C code bi X.env) fp pn) tg g)
    (ht : ∀ (A' : Around), Room k A' → ∀ (s : Shared) (H : Hp) (cl : List (Str × Addr)) (C : Addr) (code : Value) (bi : Addr) (fp : List Addr) (pn : List (Addr × Obj)), PTs (gblk X A' s H scope (genEnv scope cl C code bi X.env) fp pn) ifs tt)
    (he : ∀ (A' : Around), Room k A' → ∀ (s : Shared) (H : Hp) (cl : List (Str × Addr)) (C : Addr) (code : Value) (bi : Addr) (fp : List Addr) (pn : List (Addr × Obj)), PE (gblk X A' s H scope (genEnv scope cl C code bi X.env) fp pn) elt te)
    (hs : ∀ v, genFold iter X.env v = pure v := by intro _; rfl)
    (hst : starEach [.GeneratorExp elt [⟨tg, iter, ifs, 0⟩] scope gpos] X.env = (false, eval (.GeneratorExp elt [⟨tg, iter, ifs, 0⟩] scope gpos) X.env) :: starEach [] X.env := by rfl) :
    PE X (.Call (.Name "tuple" p) [.GeneratorExp elt [⟨tg, iter, ifs, 0⟩] scope gpos] [] pos) (tTupG P wi g tt te (own.map (·.2))) := by
  obtain ⟨hco, hcell, h0⟩ := hsc
  have hr1 := room_in3 hr
  refine ⟨fun pins s σ H Q I h => ?_⟩
  refine wpAny_Call_Name_kw (ld_blt I hgl hm hbt ?_)
  refine PyProof.Rows.callWith_type1 ?_ hst rfl
  rw [hst]
  show wpAny _ _ (spliced ((false, eval (.GeneratorExp elt [⟨tg, iter, ifs, 0⟩] scope gpos) X.env) :: backTo pos (starEach [] X.env))) _ _ s
  refine Calls.spliced_cons (gen_make hr hN TB hcode ok hco hcell h0 hi hs I h fun J H2 sc s5 a gn it fp tn cenv go hR G => ?_)
  obtain ⟨W, ⟨m, hml, w0⟩, turn⟩ := hR
  refine Calls.spliced_nil ?_
  refine call_tuple_G (Qe := fun acc s' => ∃ ys H, Vals ys acc.toList ∧ ys.length ≤ sizeLine ∧ Inv X pins σ H s' ∧ ∀ p, H p = none → Q (.ref p) (upd H p (.tup ys))) (G.gen _ G.at_) (fun s' acc ⟨ys, H, r, hl, _⟩ => ?_) (fun S s2 c R hS os2 gs2 k2 hS2 hR => ?_) fun s' acc ⟨ys, H, r, hl, J1, q⟩ => ?_
  · have e1 := r.length
    have e2 : acc.toList.length = acc.size := by simp
    omega
  · subst hS
    have hSa : s5.heap.objs.size ≠ a := Nat.ne_of_gt G.la
    have hcl : cStatics < s5.heap.objs.size := let ⟨_, hn, _⟩ := G.nolim; hn.lt
    have hSf : s5.heap.objs.size ∉ fp := fun z => by
      have h1 := (G.fok _ z).2
      have h2 : sc.heap.objs.size < s5.heap.objs.size := Nat.lt_trans G.lc G.la
      exact Nat.lt_irrefl _ (Nat.lt_trans h1 h2)
    have hap : Apart (gblk X (Ag X.A.in1.in1.in1.in1 (.GeneratorExp elt [⟨tg, iter, ifs, 0⟩] scope gpos) it cenv) sc H2 scope cenv fp [(a, go)]) s5.heap.objs.size := by
      have hlt : sc.heap.objs.size < s5.heap.objs.size := Nat.lt_trans G.lc G.la
      refine ⟨Nat.le_of_lt hlt, ?_, fun x cc e z => ?_⟩
      · show _ ≠ cenv.locals
        rw [G.loc]
        exact Nat.ne_of_gt hlt
      · have J2 := G.blk (Ag X.A.in1.in1.in1.in1 (.GeneratorExp elt [⟨tg, iter, ifs, 0⟩] scope gpos) it cenv) s5 hr.hd (by
          obtain ⟨cl, C, code, bi, ec⟩ := G.env
          exact Ag_frames I.ok.frames) (fun b o e => e) G.os G.bare
        obtain ⟨v, q⟩ := J2.cell x cc e
        have := q.lt
        rw [z] at this
        exact Nat.lt_irrefl _ this
    refine ext_loop (XB := gblk X (Ag X.A.in1.in1.in1.in1 (.GeneratorExp elt [⟨tg, iter, ifs, 0⟩] scope gpos) it cenv) sc H2 scope cenv fp [(a, go)]) (N := m + 1) (σ0 := wipe σ (own.map (·.2))) (Qs := fun ys H => ∀ p, H p = none → Q (.ref p) (upd H p (.tup ys)))
      (A := X.A.in1.in1) (S := s5.heap.objs.size) hr.hd hr.depth rfl G.gen hSa (Nat.ne_of_gt hcl) hml (fun ys acc c H s1 s' r hl J1 q os hb kp => ?_) (m + 1) s2 (G.gen _ (k2 _ _ G.at_)) (G.nolim.keeps k2) ⟨_, (show s2.gens[gn]? = s5.gens[gn]? by rw [gs2]).trans G.gs, rfl, ?_⟩
    · have hS1 : s1.heap.get? s5.heap.objs.size = some (lstObj acc c) := (J1.pin (s5.heap.objs.size, lstObj acc c) (List.mem_append_right _ (by simp))).1
      exact hR acc c s' (kp _ _ hS1) ⟨ys, H, r, by omega, G.leave J1 os hb kp, q⟩
    · have ap1 : ∀ (ys : List V) (pn : List (Addr × Obj)), PnS s5.heap.objs.size ys pn → ∀ p ∈ pn, p.1 ∉ fp := fun ys pn ⟨acc, c', _, e⟩ p hp => by
        subst e
        have e : p = (s5.heap.objs.size, lstObj acc c') := by simpa using hp
        subst e
        exact hSf
      have ap2 : ∀ p ∈ (gblk X (Ag X.A.in1.in1.in1.in1 (.GeneratorExp elt [⟨tg, iter, ifs, 0⟩] scope gpos) it cenv) sc H2 scope cenv fp [(a, go)]).pn, p.1 ≠ s5.heap.objs.size := fun p hp z => by
        have hp : p ∈ [(a, go)] := hp
        have e : p = (a, go) := by simpa using hp
        subst e
        exact hSa z.symm
      have ap3 : ∀ p ∈ [(s5.heap.objs.size, lstObj #[] c)], (s2.setGen gn .running).heap.get? p.1 = some p.2 ∧ s5.heap.objs.size ≤ p.1 ∧ ∀ v, p.2.data ≠ .cell v := fun p hp => by
        have e : p = (s5.heap.objs.size, lstObj #[] c) := by simpa using hp
        subst e
        exact ⟨hS2, Nat.le_refl _, fun v z => by cases z⟩
      exact G.goes (pn := [(s5.heap.objs.size, lstObj #[] c)]) (W := W) hc hr1 I.ok.frames hco (wipe_wipe σ _) hg ht he ap1 (wakeS ap2 hSf hap) turn w0 (Nat.lt_succ_self m) ⟨#[], c, .nil, rfl⟩ k2 (os2.trans G.os) (allBare_setGen (s := s2) (by rw [gs2]; exact G.bare) rfl) ap3
  · have hf : H s'.heap.objs.size = none := J1.hok.fresh (Nat.le_refl _)
    refine ⟨.ref s'.heap.objs.size, upd H s'.heap.objs.size (.tup ys), J1.laid (t' := s'.toks) (fun b u e => Heap.get?_push_of_some _ e) (Nat.le_refl _) ?_, rfl, q _ hf⟩
    exact ⟨hl, acc.toList, r, ⟨_, Heap.get?_push_size _ rfl, rfl, 0, by simp⟩⟩
end
/-! ### over a walk -/
section
variable {J : It} {n : Nat} {G : Hp → Prop} {Y : Nat → Hp → V → Hp → Prop}
theorem flag_it (w : Walk J n G Y) {d : Bool} {g : TG} {tt : TT} {te : TE} {vs : List Nat} {σ : L2.St} {H2 : Hp} {Q : VK} (Pv : Nat → Hp → Prop) (h0 : Pv 0 H2) (hG : ∀ i H, i ≤ n → Pv i H → G H)
    (hs : ∀ i x H H', i < n → Pv i H → Y i H x H' → g x (wipe σ vs) H' fun σ2 H2 => wipe σ2 vs = wipe σ vs ∧ tt σ2 H2 fun b H3 => if b = true then te σ2 H3 fun y H4 => (∃ k, y = .bl k ∧ (k = (!d) → Q (.bl (!d)) H4)) ∧ (y = .bl d → Pv (i + 1) H4) else Pv (i + 1) H3)
    (hd : ∀ H, Pv n H → Q (.bl d) H) :
    ∃ W : Nat → Nat → Hp → Prop, (∃ m, W 0 m H2) ∧ ∀ i m H, W i m H → (J.stop i H ∧ Q (.bl d) H) ∨ (J.go i H ∧ ∃ Nx : Hp → Prop, (∀ H', Nx H' → ∃ m', m' < m ∧ W (i + 1) m' H') ∧ ∀ x H', J.yld i H x H' → g x (wipe σ vs) H' fun σ2 H2 =>
      wipe σ2 vs = wipe σ vs ∧ tt σ2 H2 fun b H3 => if b = true then te σ2 H3 fun y H4 => (∃ k, y = .bl k ∧ (k = (!d) → Q (.bl (!d)) H4)) ∧ (y = .bl d → Nx H4) else Nx H3) := by
  refine ⟨fun i m H => m = n - i ∧ i ≤ n ∧ Pv i H, ⟨n, by simp, Nat.zero_le _, h0⟩, ?_⟩
  rintro i m H ⟨rfl, hi, p⟩
  have q := hG i H hi p
  by_cases hlt : i < n
  · exact .inr ⟨w.goes i H hlt q, Pv (i + 1), fun H' p' => ⟨n - (i + 1), by omega, rfl, hlt, p'⟩, fun x H' y => hs i x H H' hlt p (w.yields i H x H' hlt q y)⟩
  · have e : i = n := by omega
    subst e
    exact .inl ⟨w.stops H q, hd H p⟩
theorem tup_it (w : Walk J n G Y) (hn : n < sizeLine) {g : TG} {tt : TT} {te : TE} {vs : List Nat} {σ : L2.St} {H2 : Hp} {Q : VK} (Pv : Nat → List V → Hp → Prop) (h0 : Pv 0 [] H2) (hG : ∀ i ys H, i ≤ n → Pv i ys H → G H)
    (hs : ∀ i x ys H H', i < n → Pv i ys H → Y i H x H' → g x (wipe σ vs) H' fun σ2 H2 => wipe σ2 vs = wipe σ vs ∧ tt σ2 H2 fun b H3 => if b = true then te σ2 H3 fun y H4 => True ∧ (True → Pv (i + 1) (ys ++ [y]) H4) else Pv (i + 1) ys H3)
    (hd : ∀ ys H, Pv n ys H → ∀ p, H p = none → Q (.ref p) (upd H p (.tup ys))) :
    ∃ W : Nat → Nat → List V → Hp → Prop, (∃ m, m < sizeLine ∧ W 0 m [] H2) ∧ ∀ i m ys H, W i m ys H → (J.stop i H ∧ ∀ p, H p = none → Q (.ref p) (upd H p (.tup ys))) ∨ (J.go i H ∧ ∃ Nx : List V → Hp → Prop, (∀ ys' H', Nx ys' H' → ∃ m', m' < m ∧ W (i + 1) m' ys' H') ∧
      ∀ x H', J.yld i H x H' → g x (wipe σ vs) H' fun σ2 H2 => wipe σ2 vs = wipe σ vs ∧ tt σ2 H2 fun b H3 => if b = true then te σ2 H3 fun y H4 => True ∧ (True → Nx (ys ++ [y]) H4) else Nx ys H3) := by
  refine ⟨fun i m ys H => m = n - i ∧ i ≤ n ∧ Pv i ys H, ⟨n, hn, by simp, Nat.zero_le _, h0⟩, ?_⟩
  rintro i m ys H ⟨rfl, hi, p⟩
  have q := hG i ys H hi p
  by_cases hlt : i < n
  · exact .inr ⟨w.goes i H hlt q, Pv (i + 1), fun ys' H' p' => ⟨n - (i + 1), by omega, rfl, hlt, p'⟩, fun x H' y => hs i x ys H H' hlt p (w.yields i H x H' hlt q y)⟩
  · have e : i = n := by omega
    subst e
    exact .inl ⟨w.stops H q, hd ys H p⟩
end
end GX
set_option maxHeartbeats 4000000
/-! defs whose around's guards are known (repr of a tuple asks them), and the end of a law over such -/
namespace GX
open PySem PySem.Spec PyProof.Rows L2 GenW
/-- a promise kept where nothing is being shown -/
structure FnG (P : Program) (w : World) (K : PySem.W.Frag) (mg : Str → Option Value) (base : Heap) (CX : CXT) (k : Nat) (f : Addr) (fd : FuncData) (ps : List Str) (sp : Sp) : Prop where
  len : ∀ vs H Q E, sp vs H Q E → vs.length = ps.length
  run : ∀ (A : Around) (outer : List Env) (s : Shared) (H : Hp) (args : Args) (us : List Value) (vs : List V) (Q : VK) (E : XK), Room k A → A.guards = some [] → Env0 P w K mg base A outer s H → BindsTo s fd args (ps.zip us) → Vals vs us → sp vs H Q E →
    codeAny (model P w) A (.call (.ref f) args) (CR CX outer P w H s Q E) s
theorem fnG_of {CX : CXT} {P : Program} {w : World} {K : PySem.W.Frag} {mg : Str → Option Value} {base : Heap} {k : Nat} {f : Addr} {name qual : Str} {params : Arguments} {body : List Stmt} {scope : Scope} {dV kV doc pm cdv ct oc : Value} {an od : Option Addr}
    {osl : Array (Option Value)} {N ps : List Str} {sp : Sp} (lk : K.lookup f = some ⟨oc, od, .func (PySem.W.fnOf name qual params body scope dV kV doc pm an cdv ct), osl⟩) (hcd : PySem.W.codeIn K cdv qual = true) (S : FnScope N ps scope)
    (len : ∀ vs H Q E, sp vs H Q E → vs.length = ps.length)
    (hbody : ∀ (A : Around) (outer : List Env) (s : Shared) (H : Hp) (vs : List V) (Q : VK) (E : XK), Room k (A.deeper (envOfC qual scope s.heap.objs.size f cdv)) → (A.deeper (envOfC qual scope s.heap.objs.size f cdv)).guards = some [] → sp vs H Q E →
      ∃ t, PSs (cxOf CX P w K mg base N qual scope f cdv A outer s H E) body t ∧ t { nx := fun _ H' => Q .non H', rt := Q } (start N vs) H) :
    FnG P w K mg base CX (k + 1) f (PySem.W.fnOf name qual params body scope dV kV doc pm an cdv ct) ps sp := by
  refine ⟨len, fun A outer s H args us vs Q E hr hgd e0 hb r hsp => ?_⟩
  have hl := len _ _ _ _ hsp
  have KX : K.In s.heap := e0.mod.kin.keeps fun b o e => (e0.bs b o e).1
  have lim : s.heap.NoLimit := e0.mod.nolimit.keeps fun b o e => (e0.bs b o e).1
  have hkind : ∀ y ∈ ps.zip us, scope.names.lookup y.1 = some .local ∨ (scope.names.lookup y.1 = some .cell ∧ ((cellsFrom (s.heap.objs.size + 1) scope.names []).lookup y.1).isSome = true) := fun ⟨n, v⟩ hy => by
    rcases S.par n (List.of_mem_zip hy).1 with q | q
    · exact .inl q
    · exact .inr ⟨q, PySem.W.cellsFrom_some _ _ _ (.inl q)⟩
  refine codeAny_call_function hr.depth (KX _ _ lk) rfl S.co S.gen rfl (PySem.W.codeRec_of KX hcd) (hb _ _ _ _ ?_)
  refine wpAny_newFunctionEnv_cells S.kind hkind fun env he s1 x => ?_
  subst he
  refine ⟨lim.keeps x.toInCall.keep, codeAny_func ?_⟩
  have hgd2 : (A.deeper (envOfC qual scope s.heap.objs.size f cdv)).guards = some [] := by
    first
      | exact hgd
      | (unfold Around.deeper; exact hgd)
      | (simp only [Around.deeper, hgd]; rfl)
  obtain ⟨t, ht, hq⟩ := hbody A outer s H vs Q E (hr.deeper _) hgd2 hsp
  have I : Inv (cxOf CX P w K mg base N qual scope f cdv A outer s H E) [] (start N vs) H s1 := inv_start S hr.hd e0 hl r x
  refine wpAny_mono (ht.run [] s1 (start N vs) H _ I hq) (fun fl s' hs => ?_) fun e s' hs => hs
  have fin : ∀ {σ' : L2.St} {H' : Hp} {v : V} {u : Value}, Inv (cxOf CX P w K mg base N qual scope f cdv A outer s H E) [] σ' H' s' → RelV v u → Q v H' → CE outer P w H s Q u s' :=
    fun {σ' H' v u} J rv q => ⟨v, H', J.os, J.bare, J.base, J.hok, rv, q⟩
  cases fl with
  | ret u =>
    obtain ⟨v, σ', H', J, rv, q⟩ := hs
    exact fin J rv q
  | next =>
    obtain ⟨σ', H', J, q⟩ := hs
    exact fin (v := V.non) (u := Value.none) J rfl q
  | brk =>
    obtain ⟨_, _, _, q⟩ := hs
    exact False.elim q
  | cont =>
    obtain ⟨_, _, _, q⟩ := hs
    exact False.elim q
/-- a def of the text, its code object told -/
structure FunC (K : PySem.W.Frag) (x qual : Str) (st : Stmt) (f : Addr) (fd : FuncData) (cdv : Value) : Prop where
  ex : ∃ (oc : Value) (od : Option Addr) (kV doc pm : Value) (an : Option Addr) (ct : Value) (osl : Array (Option Value)),
    fd = PySem.W.fnOf x qual (defArgs st) (defBody st) (defScope st) .none kV doc pm an cdv ct ∧ K.lookup f = some ⟨oc, od, .func fd, osl⟩ ∧ PySem.W.codeIn K cdv qual = true
  kp : PySem.W.keepIn K (.ref f) = true
theorem funC_mk {K : PySem.W.Frag} {x qual : Str} {st : Stmt} {f : Addr} {oc : Value} {od an : Option Addr} {osl : Array (Option Value)} {kV doc pm cdv ct : Value} (l : K.lookup f = some ⟨oc, od, .func (PySem.W.fnOf x qual (defArgs st) (defBody st) (defScope st) .none kV doc pm an cdv ct), osl⟩)
    (c : PySem.W.codeIn K cdv qual = true) (k : PySem.W.keepIn K (.ref f) = true) : FunC K x qual st f (PySem.W.fnOf x qual (defArgs st) (defBody st) (defScope st) .none kV doc pm an cdv ct) cdv := ⟨⟨oc, od, kV, doc, pm, an, ct, osl, rfl, l, c⟩, k⟩
section
variable {P : Program} {w : World} {K : PySem.W.Frag} {mg : Str → Option Value} {base : Heap} {x qual : Str} {st : Stmt} {f : Addr} {fd : FuncData} {N ps : List Str} {k : Nat} {sp : Sp} {cdv : Value} {CX : CXT}
theorem FunC.fn (F : FunC K x qual st f fd cdv) : Fun K x qual st f fd := by
  obtain ⟨oc, od, kV, doc, pm, an, ct, osl, e, lk, hcd⟩ := F.ex
  exact ⟨⟨oc, od, kV, doc, pm, an, cdv, ct, osl, e, lk, hcd⟩, F.kp⟩
theorem FunC.okC (F : FunC K x qual st f fd cdv) (S : FnScope N ps (defScope st)) (len : ∀ vs H Q E, sp vs H Q E → vs.length = ps.length)
    (hbody : ∀ (A : Around) (outer : List Env) (s : Shared) (H : Hp) (vs : List V) (Q : VK) (E : XK), Room k (A.deeper (envOfC qual (defScope st) s.heap.objs.size f cdv)) → sp vs H Q E →
      ∃ t, PSs (cxOf CX P w K mg base N qual (defScope st) f cdv A outer s H E).nox (defBody st) t ∧ t { nx := fun _ H' => Q .non H', rt := Q } (start N vs) H) : FnOk P w K mg base CX (k + 1) f fd ps sp := by
  obtain ⟨oc, od, kV, doc, pm, an, ct, osl, rfl, lk, hcd⟩ := F.ex
  refine fn_of lk hcd S len fun A outer s H vs Q E hr hsp => ?_
  obtain ⟨t, h, q⟩ := hbody A outer s H vs Q E hr hsp
  exact ⟨t, h.nox, q⟩
theorem FunC.okG (F : FunC K x qual st f fd cdv) (S : FnScope N ps (defScope st)) (len : ∀ vs H Q E, sp vs H Q E → vs.length = ps.length)
    (hbody : ∀ (A : Around) (outer : List Env) (s : Shared) (H : Hp) (vs : List V) (Q : VK) (E : XK), Room k (A.deeper (envOfC qual (defScope st) s.heap.objs.size f cdv)) → (A.deeper (envOfC qual (defScope st) s.heap.objs.size f cdv)).guards = some [] → sp vs H Q E →
      ∃ t, PSs (cxOf CX P w K mg base N qual (defScope st) f cdv A outer s H E).nox (defBody st) t ∧ t { nx := fun _ H' => Q .non H', rt := Q } (start N vs) H) : FnG P w K mg base CX (k + 1) f fd ps sp := by
  obtain ⟨oc, od, kV, doc, pm, an, ct, osl, rfl, lk, hcd⟩ := F.ex
  refine fnG_of lk hcd S len fun A outer s H vs Q E hr hg hsp => ?_
  obtain ⟨t, h, q⟩ := hbody A outer s H vs Q E hr hg hsp
  exact ⟨t, h.nox, q⟩
end
/-- a def by its name, kept where nothing is being shown -/
structure DkG (P : Program) (w : World) (K : PySem.W.Frag) (mg : Str → Option Value) (base : Heap) (k : Nat) (x : Str) (ps : List Str) (sp : Sp) where
  f : Addr
  fd : FuncData
  G : FnG P w K mg base CX0 k f fd ps sp
  gm : mg x = some (.ref f)
  kp : PySem.W.keepIn K (.ref f) = true
  b : Binds K fd ps []
section
variable {X : Cx} {k : Nat} {x : Str} {ps : List Str} {sp : Sp} {p pos : Pos} {e : Expr} {es : List Expr} {t : TA}
theorem pe_dkG (d : DkG X.prog X.w X.K X.mg X.base k x ps sp) (hr : Room k X.A) (hgd : X.A.guards = some []) (hg : Gl X x) (ha : PA X (e :: es) t) (hdb : (x == ("__debug__" : Str)) = false := by decide)
    (he : starEach (e :: es) X.env = (false, eval e X.env) :: starEach es X.env := by rfl) (hpl : (backTo pos (starEach es X.env)).any (·.1) = false := by rfl) :
    PE X (.Call (.Name x p) (e :: es) [] pos) (tCall sp [] E0 t) := by
  refine ⟨fun pins s σ H Q I h => ?_⟩
  refine wpAny_Call_Name_kw (ld_glob I hg d.gm ?_ hdb)
  refine PySem.W.callWith_K (h₀ := X.base) I.ok.mod.kin d.kp (thn (ha.run pos pins s σ H _ I h) fun us s1 ⟨vs, H1, I1, r, q⟩ => ⟨I1.kIn, ?_⟩) he hpl
  have r2 : Vals (vs ++ []) (us ++ []) := r.append .nil
  have hl : (us ++ []).length = ps.length := by rw [← r2.length]; exact d.G.len _ _ _ _ q
  refine wpAny_call (codeAny_mono (d.G.run X.A X.stack s1 H1 ⟨us, []⟩ (us ++ []) (vs ++ []) Q E0 hr hgd I1.env0 (d.b s1 us I1.kIn hl) r2 q) fun r s' hq => ?_)
  cases r with
  | error e => exact (pass0 pins σ H1 s1 e s' I1 hq)
  | ok fl =>
    cases fl with
    | ret u => exact I1.after hq
    | next => exact False.elim hq
    | brk => exact False.elim hq
    | cont => exact False.elim hq
/-- a def that may raise, called where it doesn't -/
structure DkX (P : Program) (w : World) (K : PySem.W.Frag) (mg : Str → Option Value) (base : Heap) (k : Nat) (x : Str) (ps : List Str) (sp : Sp) where
  f : Addr
  fd : FuncData
  G : FnOk P w K mg base (L2.CX P w) k f fd ps sp
  gm : mg x = some (.ref f)
  kp : PySem.W.keepIn K (.ref f) = true
  b : Binds K fd ps []
theorem pe_dkX (d : DkX X.prog X.w X.K X.mg X.base k x ps sp) (hr : Room k X.A) (hg : Gl X x) (ha : PA X (e :: es) t) (hdb : (x == ("__debug__" : Str)) = false := by decide)
    (he : starEach (e :: es) X.env = (false, eval e X.env) :: starEach es X.env := by rfl) (hpl : (backTo pos (starEach es X.env)).any (·.1) = false := by rfl) :
    PE X (.Call (.Name x p) (e :: es) [] pos) (tCall sp [] E0 t) := pe_call d.G hr hg d.gm d.kp d.b .nil passL ha hdb he hpl
end
end GX
set_option maxHeartbeats 4000000
namespace GX
open PySem PySem.Spec PyProof.Rows L2 GenW
theorem law_callG {P : Program} {w : World} {K : PySem.W.Frag} {mg mb : Str → Option Value} {CX : CXT} {k : Nat} {fa a : Addr} {cs : List (Addr × Addr)} {fd : FuncData} {x : Str} {sp : Sp} {s₁ : Shared} {vs : List Value} {ns : List Int}
    (KX : K.In s₁.heap) (hns : s₁.heap.Ns mainGlobals mg) (hb : s₁.heap.Ns builtinsNs mb) (hbb : ∀ x : Str, x ≠ "__name__" → mb x = bootBuiltins x) (hlim : s₁.heap.NoLimit) (hg : s₁.gens = #[])
    (hT : ∀ p ∈ cs, s₁.heap.get? p.2 = some { cls := .none, data := .fields #[] }) (nT : ∀ p ∈ cs, K.lookup p.2 = none) (C : ∀ p ∈ cs, PySem.W.CodeHd s₁.heap p.1 p.2)
    (hbm : ∃ (bm : Addr) (ob : Obj), mg "__builtins__" = some (.ref bm) ∧ bm ≠ builtinsNs ∧ s₁.heap.get? bm = some ob ∧ ob.cls = .type "module" ∧ ob.dict = some builtinsNs ∧ ob.data = .plain)
    (ha : s₁.heap.get? a = some { cls := .type "list", data := .seq vs.toArray }) (hi : IntsAre vs ns) (hl : ns.length ≤ sizeLine) (hr : Room k callerA)
    (F : ∀ base : Heap, K.In base → base.Ns mainGlobals mg → (∀ p ∈ cs, GxR.TabB base mg p.1 p.2) → FnG P w K mg base CX k fa fd [x] sp) (hbind : ∀ (s : Shared) (u : Value), BindsTo s fd ⟨[u], []⟩ [(x, u)])
    (hsp : ∀ H : Hp, (∀ p ∈ cs, H p.2 = some (.tbl #[])) → SqL K H a (ns.map V.int) → sp [.ref a] H (fun v _ => v = .bl true) fun _ _ _ => False)
    (hCX : ∀ H e s', CX [] H s₁ (fun _ _ _ => False) e s' → False) :
    codeAny (model P w) callerA (.call (.ref fa) ⟨[.ref a], []⟩) (fun r s' => r = .ok (.ret (.bool true)) ∧ OldK s₁.heap s'.heap ∧ s'.os = s₁.os ∧ AllBare s'.gens) s₁ := by
  have rv := vals_ints hi
  have lenV := hi.length
  have isT : ∀ b : Addr, b ∈ cs.map (·.2) → s₁.heap.get? b = some { cls := .none, data := .fields #[] } := fun b hb => by
    obtain ⟨p, hp, e⟩ := List.mem_map.mp hb
    rw [← e]
    exact hT p hp
  have aT : a ∉ cs.map (·.2) := fun z => by
    have q := isT a z
    rw [ha] at q
    have z' : Data.seq vs.toArray _ = Data.fields #[] := congrArg Obj.data (Option.some.inj q)
    cases z'
  have memT : ∀ p ∈ cs, p.2 ∈ cs.map (·.2) := fun p hp => List.mem_map.mpr ⟨p, hp, rfl⟩
  -- from an abstract heap in which nothing but the script and the tables may be tracked
  have core : ∀ H : Hp, (∀ p ∈ cs, H p.2 = some (.tbl #[])) → (∀ b, H b = none ∨ b ∈ cs.map (·.2) ∨ ∃ o xs, H b = some (.frz o (.lst xs))) → SqL K H a (ns.map V.int) → HOk P w H s₁.heap → (∀ b, H b ≠ none → b = a ∨ b ∈ cs.map (·.2)) → (H a ≠ none → K.lookup a = none) →
      codeAny (model P w) callerA (.call (.ref fa) ⟨[.ref a], []⟩) (fun r s' => r = .ok (.ret (.bool true)) ∧ OldK s₁.heap s'.heap ∧ s'.os = s₁.os ∧ AllBare s'.gens) s₁ := by
    intro H hH hO hS hok hA hK
    have base_of : ∀ {b : Addr} {o : Obj}, s₁.heap.get? b = some o → H b = none → (hidT s₁.heap H).get? b = some o := fun e n => hidT_get e n
    have noD : ∀ {b : Addr} {o : Obj}, s₁.heap.get? b = some o → (∀ vs n, o.data ≠ .seq vs n) → o.data ≠ .fields #[] → H b = none := fun {b o} e h1 h2 => by
      cases q : H b with
      | none => rfl
      | some u =>
        rcases hA b (by rw [q]; simp) with e' | e'
        · rw [e', ha] at e
          cases e
          exact (h1 _ _ rfl).elim
        · rw [isT b e'] at e
          cases e
          exact (h2 rfl).elim
    have noA : ∀ {b : Addr} {o : Obj} {es : Array DictEntry} {ep : Nat}, s₁.heap.get? b = some o → o.data = .dict es ep → H b = none := fun {b o es ep} e d => by
      refine noD e (fun vs n z => ?_) fun z => ?_
      · rw [d] at z
        cases z
      · rw [d] at z
        cases z
    have nsK : ∀ {b : Addr} {m : Str → Option Value}, s₁.heap.Ns b m → (hidT s₁.heap H).Ns b m := fun {b m} ⟨o, es, ep, e, d, r⟩ => ⟨o, es, ep, base_of e (noA e d), d, r⟩
    have hKb : K.In (hidT s₁.heap H) := fun b o e => base_of (KX b o e) (by
      cases q : H b with
      | none => rfl
      | some u =>
        rcases hA b (by rw [q]; simp) with e' | e'
        · rw [e'] at e q
          rw [hK (by rw [q]; simp)] at e
          cases e
        · obtain ⟨p, hp, ep⟩ := List.mem_map.mp e'
          rw [← ep, nT p hp] at e
          cases e)
    have hM : L2.Mod K mg (hidT s₁.heap H) := ⟨hKb, nsK hns, ⟨mb, nsK hb, hbb⟩, let ⟨mc, h1, h2⟩ := hlim; ⟨mc, nsK h1, h2⟩⟩
    have TB : ∀ p ∈ cs, GxR.TabB (hidT s₁.heap H) mg p.1 p.2 := fun p hp => by
      have hTp := hT p hp
      refine ⟨?_, ?_, fun z => ?_⟩
      · obtain ⟨o, us, file, tf, flags, tg, inF, text, tt, e1, r1, r2, r3, r4, r5, r6, r7, r8, hne⟩ := C p hp
        refine ⟨o, us, file, tf, flags, tg, inF, text, tt, base_of e1 (noD e1 (fun vs n z => ?_) fun z => ?_), r1, r2, r3, r4, r5, r6, r7, r8, hne⟩
        · rw [r2] at z
          cases z
        · rw [r2] at z
          cases z
          simp at r3
      · obtain ⟨bm, ob, b1, b2, b3, b4, b5, b6⟩ := hbm
        have nG : bm ≠ mainGlobals := fun q => by
          obtain ⟨o, es, ep, e, hd, _⟩ := hns
          rw [q, e] at b3
          cases b3
          rw [hd] at b6
          cases b6
        have nP : bm ≠ p.2 := fun q => by
          rw [q, hTp] at b3
          cases b3
          cases b6
        refine ⟨bm, ob, b1, b2, nG, nP, base_of b3 (noD b3 (fun vs n z => ?_) fun z => ?_), b4, b5, b6⟩
        · rw [b6] at z
          cases z
        · rw [b6] at z
          cases z
      · obtain ⟨o, es, ep, e, hd, _⟩ := hns
        rw [z, hTp] at e
        cases e
        cases hd
    have e0 : Env0 P w K mg (hidT s₁.heap H) callerA [] s₁ H := ⟨rfl, hM, fun b o e => of_hidT e, Nat.le_of_eq (hidT_size _ _), trivial, fun b hb => absurd (show b ∈ ([] : List Addr) from hb) (by simp), hok, .of_eq hg⟩
    refine codeAny_mono ((F _ hKb (nsK hns) TB).run callerA [] s₁ H ⟨[.ref a], []⟩ [.ref a] [.ref a] _ _ hr rfl e0 (hbind s₁ (.ref a)) (.cons rfl .nil) (hsp H hH hS)) fun r s' h => ?_
    cases r with
    | error e => exact (hCX H e s' h).elim
    | ok fl =>
      cases fl with
      | next => exact False.elim h
      | brk => exact False.elim h
      | cont => exact False.elim h
      | ret u =>
        obtain ⟨v, H', os, bare, un, hok', r', q⟩ := h
        have q' : v = .bl true := q
        subst q'
        obtain rfl : u = Value.bool true := r'
        have key : ∀ b o, b ∉ cs.map (·.2) → s₁.heap.get? b = some o → s'.heap.get? b = some o := fun b o nb e => by
          cases q : H b with
          | none => exact un.keep b o e q (by intro z; exact absurd (show b ∈ ([] : List Addr) from z) (by simp)) (by simp)
          | some u =>
            rcases hO b with z | z | ⟨ob, xs, z⟩
            · rw [q] at z; cases z
            · exact absurd z nb
            · have z2 := un.frzs b ob _ z
              obtain ⟨e1, _⟩ := hok b _ z
              obtain ⟨e2, _⟩ := hok' b _ z2
              rw [e] at e1; cases e1
              exact e2
        have grown : ∀ p ∈ cs, ∃ more : Array Value, s'.heap.get? p.2 = some { cls := .none, data := .fields more } := fun p hp => by
          obtain ⟨more, z⟩ := un.tbls p.2 #[] (hH p hp)
          exact ⟨_, hok' p.2 _ z⟩
        refine ⟨rfl, ⟨fun b o e => ?_, fun b o e => ?_⟩, os, bare⟩
        · by_cases hb : b ∈ cs.map (·.2)
          · obtain ⟨p, hp, ep⟩ := List.mem_map.mp hb
            obtain ⟨more, hm⟩ := grown p hp
            rw [← ep] at e ⊢
            rw [hT p hp] at e
            cases e
            exact .inr (.inl ⟨((C p hp).tab (hT p hp)).isCodeTable, rfl, #[], more, rfl, by rw [Array.empty_append]; exact hm⟩)
          · exact .inl (key b o hb e)
        · by_cases hb : b ∈ cs.map (·.2)
          · obtain ⟨p, hp, ep⟩ := List.mem_map.mp hb
            obtain ⟨more, hm⟩ := grown p hp
            rw [← ep]
            exact ⟨_, hm⟩
          · exact ⟨o, key b o hb e⟩
  cases hk : K.lookup a with
  | some o =>
    have e := KX a o hk
    rw [ha] at e
    cases e
    refine core (fun b => if b ∈ cs.map (·.2) then some (.tbl #[]) else none) (fun p hp => if_pos (memT p hp)) (fun b => ?_) (.inr ⟨_, vs.toArray, _, hk, rfl, rfl, rfl, by rw [List.size_toArray, lenV]; exact hl, by simpa using rv⟩) (fun b u z => ?_) (fun b z => ?_) fun z => absurd (show (if a ∈ cs.map (·.2) then some (HO.tbl #[]) else none) = none from if_neg aT) z
    · by_cases hb : b ∈ cs.map (·.2)
      · exact .inr (.inl hb)
      · exact .inl (if_neg hb)
    · by_cases hb : b ∈ cs.map (·.2)
      · have z' := (if_pos hb).symm.trans z
        cases z'
        exact isT b hb
      · have z' := (if_neg hb).symm.trans z
        cases z'
    · by_cases hb : b ∈ cs.map (·.2)
      · exact .inr hb
      · exact absurd (if_neg hb) z
  | none =>
    refine core (fun b => if b = a then some (.frz { cls := .type "list", data := .seq vs.toArray } (.lst (ns.map V.int))) else if b ∈ cs.map (·.2) then some (.tbl #[]) else none) (fun p hp => (if_neg (show ¬ p.2 = a from fun z => aT (by rw [← z]; exact memT p hp))).trans (if_pos (memT p hp))) (fun b => ?_)
      (.inl (.inr ⟨{ cls := .type "list", data := .seq vs.toArray }, if_pos rfl⟩)) (fun b u z => ?_) (fun b z => ?_) fun _ => hk
    · by_cases hb : b = a
      · exact .inr (.inr ⟨_, _, if_pos hb⟩)
      · by_cases hb2 : b ∈ cs.map (·.2)
        · exact .inr (.inl hb2)
        · exact .inl ((if_neg hb).trans (if_neg hb2))
    · by_cases hb : b = a
      · have z' := (if_pos hb).symm.trans z
        cases z'
        rw [hb]
        exact ⟨ha, by rw [List.length_map]; exact hl, vs, _, rv, ha⟩
      · have z1 := (if_neg hb).symm.trans z
        by_cases hb2 : b ∈ cs.map (·.2)
        · have z' := (if_pos hb2).symm.trans z1
          cases z'
          exact isT b hb2
        · have z' := (if_neg hb2).symm.trans z1
          cases z'
    · by_cases hb : b = a
      · exact .inl hb
      · by_cases hb2 : b ∈ cs.map (·.2)
        · exact .inr hb2
        · exact absurd ((if_neg hb).trans (if_neg hb2)) z
/-- what is known of the law's promise at the head's heap -/
def LawAtG (l : PySem.W.OpenLaw) (w : World) (K : PySem.W.Frag) (CX : CXT) (k n : Nat) (x : Str) (mg : Str → Option Value) (fa : Addr) (h : Heap) : Prop :=
  ∃ (fd : FuncData) (cs : List (Addr × Addr)) (sp : Sp), (∀ p ∈ cs, h.get? p.2 = some { cls := .none, data := .fields #[] }) ∧ (∀ p ∈ cs, K.lookup p.2 = none) ∧ (∀ p ∈ cs, PySem.W.CodeHd h p.1 p.2) ∧ (∀ (s : Shared) (u : Value), BindsTo s fd ⟨[u], []⟩ [(x, u)]) ∧
    (∀ (H : Hp) (a : Addr) (ns : List Int), ns.length ≤ n → (∀ p ∈ cs, H p.2 = some (.tbl #[])) → SqL K H a (ns.map V.int) → sp [.ref a] H (fun v _ => v = .bl true) fun _ _ _ => False) ∧
    ∀ base : Heap, K.In base → base.Ns mainGlobals mg → (∀ p ∈ cs, GxR.TabB base mg p.1 p.2) → FnG l.prog w K mg base CX k fa fd [x] sp
theorem walk_ofG {l : PySem.W.OpenLaw} {n k : Nat} {q : Program} {loose : List Str} {XP : (Str → Option Value) → Heap → Prop} {YP : World → Heap → Prop} {d : DefRec} {K : Params → PySem.W.Frag} {CX : World → CXT} {x : Str}
    (hn : l.most = some n) (hn2 : n ≤ sizeLine) (hdf : d.params.defaults = []) (hr : Room k callerA) (hY : ∀ (w : World) (h : Heap), YP w h → (K w.params).In h)
    (F : ∀ (w : World) (mg mb : Str → Option Value) (fa : Addr) (h : Heap) (lo : List Str) (mean : ExcName → Option Value), Top q lo mean mg mb h → (K w.params).In h → h.Ns mainGlobals mg → mg d.name = some (.ref fa) → LawAtG l w (K w.params) (CX w) k n x mg fa h)
    (hCX : ∀ (w : World) (H : Hp) (s : Shared) (e : Value) (s' : Shared), CX w [] H s (fun _ _ _ => False) e s' → False) :
    PySem.W.WalkO q loose XP YP l.row.toRowW d [] (fun f vs => PySem.call f vs) := by
  refine Att.attach_callB hn hdf fun w s₀ s₁ mg mb fa o pm cd doc a vs ns G Y ho hd hcd hmg hobj hints hlen hbits hg => ?_
  have KX := hY w _ Y
  obtain ⟨fd, cs, sp, hT, nT, C, hb, hsp, hF⟩ := F w mg mb fa _ _ _ G.T KX G.T.g hmg
  exact law_callG KX G.T.g G.T.b G.T.builtins G.T.nolimit hg hT nT C G.T.bmain hobj hints (Nat.le_trans hlen hn2) hr hF hb (fun H hH hS => hsp H a ns hlen hH hS) fun H e s' => hCX w H s₁ e s'
end GX
set_option maxHeartbeats 2000000
/-! data of none, ints, texts and tuples, and what is kept of it -/
namespace LD
open PySem PySem.Spec PyProof.Rows L2 GenW GX
/-- all but the tables of code objects is as it was -/
def Sm (H H' : Hp) : Prop := ∀ b o, H b = some o → (∀ ps, o ≠ .tbl ps) → H' b = some o
theorem Sm.refl (H : Hp) : Sm H H := fun _ _ h _ => h
theorem Sm.trans {H H1 H2 : Hp} (a : Sm H H1) (b : Sm H1 H2) : Sm H H2 := fun c o h n => b c o (a c o h n) n
theorem Sm.of {H H' : Hp} (e : Same H H') : Sm H H' := fun b o h _ => e b o h
theorem Sm.tab {P : Addr} {H H' : Hp} (t : GxR.Tabbed P H H') {ps : Array Value} (hP : H P = some (.tbl ps)) : Sm H H' := fun b o h n => by
  by_cases e : b = P
  · rw [e, hP] at h
    cases h
    exact absurd rfl (n ps)
  · rw [t.2 b e]
    exact h
theorem Sm.seq {K : PySem.W.Frag} {H H' : Hp} {a : Addr} {xs : List V} (e : Sm H H') (h : SqL K H a xs) : SqL K H' a xs := by
  rcases h with (h | ⟨o, h⟩) | h
  · exact .inl (.inl (e _ _ h (fun _ z => by cases z)))
  · exact .inl (.inr ⟨o, e _ _ h (fun _ z => by cases z)⟩)
  · exact .inr h
theorem Sm.seqT {K : PySem.W.Frag} {H H' : Hp} {a : Addr} {xs : List V} (e : Sm H H') (h : SqT K H a xs) : SqT K H' a xs := by
  rcases h with (h | ⟨o, h⟩) | h
  · exact .inl (.inl (e _ _ h (fun _ z => by cases z)))
  · exact .inl (.inr ⟨o, e _ _ h (fun _ z => by cases z)⟩)
  · exact .inr h
/-- the tables of Ts stand -/
def Tb (Ts : List Addr) (H : Hp) : Prop := ∀ P ∈ Ts, GxR.TabG H P
theorem Tb.same {Ts : List Addr} {H H' : Hp} (t : Tb Ts H) (e : Same H H') : Tb Ts H' := fun P hP => by
  obtain ⟨ps, h1, h2⟩ := t P hP
  exact ⟨ps, e _ _ h1, h2⟩
theorem Tb.tab {Ts : List Addr} {P : Addr} {H H' : Hp} (t : Tb Ts H) (e : GxR.Tabbed P H H') : Tb Ts H' := fun R hR => by
  by_cases z : R = P
  · rw [z]
    exact e.1
  · obtain ⟨ps, h1, h2⟩ := t R hR
    exact ⟨ps, by rw [e.2 R z]; exact h1, h2⟩
/-! ### data -/
mutual
inductive DT (K : PySem.W.Frag) (H : Hp) : V → PyData → Prop
  | non : DT K H .non .none
  | int (i : Int) : DT K H (.int i) (.int i)
  | str (x : Str) : DT K H (.str x) (.str x)
  | tup {a : Addr} {xs : List V} {ds : List PyData} : SqT K H a xs → DTs K H xs ds → DT K H (.ref a) (.tuple ds)
inductive DTs (K : PySem.W.Frag) (H : Hp) : List V → List PyData → Prop
  | nil : DTs K H [] []
  | cons {v : V} {vs : List V} {d : PyData} {ds : List PyData} : DT K H v d → DTs K H vs ds → DTs K H (v :: vs) (d :: ds)
end
section
variable {K : PySem.W.Frag} {H H' : Hp}
mutual
theorem DT.mono (e : ∀ a xs, SqT K H a xs → SqT K H' a xs) : ∀ {v : V} {d : PyData}, DT K H v d → DT K H' v d
  | _, _, .non => .non
  | _, _, .int i => .int i
  | _, _, .str x => .str x
  | _, _, .tup h hs => .tup (e _ _ h) (DTs.mono e hs)
theorem DTs.mono (e : ∀ a xs, SqT K H a xs → SqT K H' a xs) : ∀ {vs : List V} {ds : List PyData}, DTs K H vs ds → DTs K H' vs ds
  | _, _, .nil => .nil
  | _, _, .cons h hs => .cons (DT.mono e h) (DTs.mono e hs)
end
mutual
theorem DT.dp : ∀ {v : V} {d : PyData}, DT K H v d → Dp K H v d
  | _, _, .non => .non
  | _, _, .int i => .int i
  | _, _, .str x => .str x
  | _, _, .tup h hs => .tup h (DTs.dp hs)
theorem DTs.dp : ∀ {vs : List V} {ds : List PyData}, DTs K H vs ds → DpAll K H vs ds
  | _, _, .nil => .nil
  | _, _, .cons h hs => .cons (DT.dp h) (DTs.dp hs)
end
theorem DT.sm {v : V} {d : PyData} (h : DT K H v d) (e : Sm H H') : DT K H' v d := h.mono fun _ _ q => e.seqT q
theorem DTs.sm {v : List V} {d : List PyData} (h : DTs K H v d) (e : Sm H H') : DTs K H' v d := h.mono fun _ _ q => e.seqT q
theorem DTs.len : ∀ {vs : List V} {ds : List PyData}, DTs K H vs ds → vs.length = ds.length
  | _, _, .nil => rfl
  | _, _, .cons _ hs => congrArg Nat.succ (DTs.len hs)
theorem DTs.app : ∀ {vs ws : List V} {ds es : List PyData}, DTs K H vs ds → DTs K H ws es → DTs K H (vs ++ ws) (ds ++ es)
  | _, _, _, _, .nil, h => h
  | _, _, _, _, .cons h hs, g => .cons h (DTs.app hs g)
theorem DTs.take : ∀ {vs : List V} {ds : List PyData} (n : Nat), DTs K H vs ds → DTs K H (vs.take n) (ds.take n)
  | _, _, 0, _ => .nil
  | _, _, _ + 1, .nil => .nil
  | _, _, n + 1, .cons h hs => .cons h (DTs.take n hs)
theorem DTs.drop : ∀ {vs : List V} {ds : List PyData} (n : Nat), DTs K H vs ds → DTs K H (vs.drop n) (ds.drop n)
  | _, _, 0, h => h
  | _, _, _ + 1, .nil => .nil
  | _, _, n + 1, .cons _ hs => DTs.drop n hs
theorem DTs.get : ∀ {vs : List V} {ds : List PyData} {i : Nat} {v : V}, DTs K H vs ds → vs[i]? = some v → ∃ d, ds[i]? = some d ∧ DT K H v d
  | _, _, i, v, .nil, h => by simp at h
  | _, _, 0, v, .cons h hs, e => ⟨_, rfl, by cases e; exact h⟩
  | _ :: _, _ :: _, i + 1, v, .cons h hs, e => DTs.get (i := i) hs e
theorem DTs.ints (ns : List Int) : DTs K H (ns.map V.int) (ns.map PyData.int) := by
  induction ns with
  | nil => exact .nil
  | cons n ns ih => exact .cons (.int n) ih
/-- the type of data -/
def tyD : PyData → String
  | .none => "NoneType"
  | .bool _ => "bool"
  | .int _ => "int"
  | .str _ => "str"
  | .list _ => "list"
  | .tuple _ => "tuple"
  | .dict _ => "dict"
theorem tup_ty {a : Addr} {xs : List V} (h : SqT K H a xs) : TyX K H (.ref a) (.type "tuple") := by
  rcases h with (h | ⟨o, h⟩) | ⟨_, _, _, hk, hc, _⟩
  · exact .base (.tup h)
  · exact .fTuple h
  · exact .kTuple hk hc
theorem DT.ty {v : V} {d : PyData} (h : DT K H v d) : TyX K H v (.type (tyD d)) := by
  cases h with
  | non => exact .base .non
  | int i => exact .base (.int i)
  | str x => exact .base (.str x)
  | tup h _ => exact tup_ty h
def isTup : PyData → Bool
  | .tuple _ => true
  | _ => false
theorem kit_tup (d : PyData) : PySem.W.kitOne K (.type (tyD d)) (.type "tuple") = some (isTup d) := by
  cases d
  · exact kit_ty (a := "NoneType") (b := "tuple") (r := false) (by decide +kernel)
  · exact kit_ty (a := "bool") (b := "tuple") (r := false) (by decide +kernel)
  · exact kit_ty (a := "int") (b := "tuple") (r := false) (by decide +kernel)
  · exact kit_ty (a := "str") (b := "tuple") (r := false) (by decide +kernel)
  · exact kit_ty (a := "list") (b := "tuple") (r := false) (by decide +kernel)
  · exact kit_ty (a := "tuple") (b := "tuple") (r := true) (by decide +kernel)
  · exact kit_ty (a := "dict") (b := "tuple") (r := false) (by decide +kernel)
def isI : PyData → Bool
  | .int _ => true
  | .bool _ => true
  | _ => false
def isB : PyData → Bool
  | .bool _ => true
  | _ => false
theorem kit_int (d : PyData) : PySem.W.kitOne K (.type (tyD d)) (.type "int") = some (isI d) := by
  cases d
  · exact kit_ty (a := "NoneType") (b := "int") (r := false) (by decide +kernel)
  · exact kit_ty (a := "bool") (b := "int") (r := true) (by decide +kernel)
  · exact kit_ty (a := "int") (b := "int") (r := true) (by decide +kernel)
  · exact kit_ty (a := "str") (b := "int") (r := false) (by decide +kernel)
  · exact kit_ty (a := "list") (b := "int") (r := false) (by decide +kernel)
  · exact kit_ty (a := "tuple") (b := "int") (r := false) (by decide +kernel)
  · exact kit_ty (a := "dict") (b := "int") (r := false) (by decide +kernel)
theorem kit_bool (d : PyData) : PySem.W.kitOne K (.type (tyD d)) (.type "bool") = some (isB d) := by
  cases d
  · exact kit_ty (a := "NoneType") (b := "bool") (r := false) (by decide +kernel)
  · exact kit_ty (a := "bool") (b := "bool") (r := true) (by decide +kernel)
  · exact kit_ty (a := "int") (b := "bool") (r := false) (by decide +kernel)
  · exact kit_ty (a := "str") (b := "bool") (r := false) (by decide +kernel)
  · exact kit_ty (a := "list") (b := "bool") (r := false) (by decide +kernel)
  · exact kit_ty (a := "tuple") (b := "bool") (r := false) (by decide +kernel)
  · exact kit_ty (a := "dict") (b := "bool") (r := false) (by decide +kernel)
end
/-! ### rules in short -/
section
variable {X : Cx}
/-- t + u, whatever the two are -/
theorem op_catD : OpR X (binaryOp .Add) (fun x y H Q => ∃ a b xs ys, x = .ref a ∧ y = .ref b ∧ SqT X.K H a xs ∧ SqT X.K H b ys ∧ xs.length + ys.length ≤ sizeLine ∧ ∀ r H', Same H H' → SqT X.K H' r (xs ++ ys) → Q (.ref r) H') := by
  intro pins s σ H x y v u Q I rx ry h
  obtain ⟨a, b, xs, ys, e1, e2, ha, hb, hz, q⟩ := h
  refine op_catA pins s σ H x y v u Q I rx ry ⟨a, b, xs, ys, e1, e2, ha, hb, hz, fun z => q b H (Same.refl H) (by rw [z]; exact hb), fun _ z => q a H (Same.refl H) (by rw [z, List.append_nil]; exact ha), fun _ _ p hp => q p _ (fun c o e => ?_) (SqT.of upd_same)⟩
  rw [upd_ne (ne_of_none e hp)]
  exact e
/-- t[lo:hi] -/
theorem sl_tupD : SlR X (fun x lo hi H Q => ∃ a xs, x = .ref a ∧ SqT X.K H a xs ∧ ∀ r H', Same H H' → SqT X.K H' r (cutV xs lo hi) → Q (.ref r) H') := by
  intro pins s σ H x v vl vu lo hi sl Q I rx hs pl pu h
  obtain ⟨a, xs, e, hx, q⟩ := h
  refine sl_tupA pins s σ H x v vl vu lo hi sl Q I rx hs pl pu ⟨a, xs, e, hx, fun z => q a H (Same.refl H) ?_, fun _ p hp => q p _ (fun c o e => ?_) (SqT.of upd_same)⟩
  · unfold cutV
    rw [z.1, z.2, List.drop_zero, Nat.sub_zero, List.take_length]
    exact hx
  · rw [upd_ne (ne_of_none e hp)]
    exact e
theorem cut_to (xs : List V) (k : Nat) : cutV xs none (some (k : Int)) = xs.take k := by
  unfold cutV
  rw [HT.sIx_none, show HT.sIx xs.length xs.length (some (k : Int)) = min k xs.length from HT.sIx_nat xs.length _ k, List.drop_zero, Nat.sub_zero]
  by_cases h : k ≤ xs.length
  · rw [Nat.min_eq_left h]
  · rw [Nat.min_eq_right (by omega), List.take_length, List.take_of_length_le (by omega)]
theorem cut_from (xs : List V) (k : Nat) : cutV xs (some (k : Int)) none = xs.drop k := by
  unfold cutV
  rw [HT.sIx_none, show HT.sIx xs.length 0 (some (k : Int)) = min k xs.length from HT.sIx_nat xs.length _ k]
  by_cases h : k ≤ xs.length
  · rw [Nat.min_eq_left h, List.take_of_length_le (by rw [List.length_drop]; omega)]
  · rw [Nat.min_eq_right (by omega), List.drop_of_length_le (Nat.le_refl _), List.drop_of_length_le (by omega), List.take_nil]
/-- repr of a tuple -/
theorem call_reprD (hg : X.A.guards = some []) : CallR X (.builtin "repr") (fun xs H Q => ∃ a d, xs = [.ref a] ∧ DT X.K H (.ref a) d ∧ d.showable = true ∧ d.hasDict = false ∧ d.shown.length ≤ sizeLine ∧ X.A.units + (d.depth + 1) < cLine ∧ Q (.str d.shown) H) := by
  intro pins s σ H xs us Q I r h
  obtain ⟨a, d, rfl, hd, hs, hn, hl, hu, q⟩ := h
  obtain ⟨u, rfl, e⟩ := vals1 r
  cases e
  obtain ⟨as, rd⟩ := Dp.reads I d (.ref a) (.ref a) hd.dp rfl
  refine repr_of_reads' rd hs (fun z => by rw [hn] at z; cases z) hg hu (fun _ _ e => e) (fun h' t tk k => ?_) hl
  exact ⟨.str d.shown, H, I.kept k, ⟨t, rfl⟩, q⟩
end
end LD
set_option maxHeartbeats 4000000
/-! self.__class__.__name__ of an exception that is being made -/
namespace GX
open PySem PySem.Spec PyProof.Rows L2 GenW PySem.W PySem.Calls Builtin Builtin.ObjectAttr Builtin.Getset_descriptor
/-- what the written part tells of the class at C and of its name -/
structure ClsN (K : Frag) (C : Addr) (nm : Str) : Prop where
  ob : ∃ (o : Obj) (tk : Tok), K.lookup C = some o ∧ (o.slots[2]?).join = some (.str nm tk)
  hc : (clsIn K C).isSome = true
  ga : findIn K (.ref C) "__getattribute__" = some (some (.builtin "BaseException.__getattribute__"))
  gt : findIn K (.ref C) "__getattr__" = some none
  ca : findIn K (.ref C) "__class__" = some (some (.builtin "object.__class__"))
  cg : specialIn K (.builtin "object.__class__") "__get__" = some (some (.builtin "getset_descriptor.__get__"))
  ct : takesIn K (.builtin "object.__class__") = some true
  mo : mroIn K C (.type "object") = some true
  op : nsIn K cStatics "thirdparty.any" = some none
  ty : typeIn K (.ref C) = some (.type "type")
  st : subIn K (.ref C) (.type "BaseException") = some true
  fn : findCls K (.ref C) (.type "type") "__name__" = some (.get (.builtin "getset_descriptor.__get__") (.builtin "type.__name__") (.ref C) (.type "type"))
section
variable {prog : Program} {w : World} {A : Around} {E : Value → Shared → Prop} {R : Result → Shared → Prop} {s : Shared} {K : Frag} {x C : Addr} {ox : Obj} {od : Option Obj} {nm : Str}
theorem exc_cls {xp : Bool} {Q : Value → Shared → Prop} (Y : K.In s.heap) (J : InstAt s.heap x ox C od) (F : ClsN K C nm) (h : Q (.ref C) { s with toks := s.toks + 1 }) : wpAny (model prog w) A (getAttr (.ref x) "__class__" xp) Q E s := by
  obtain ⟨hh, gg, dd, tt, oo⟩ := s
  have T0 := J.type (M := model prog w)
  have T1 := looks_findIn (M := model prog w) Y F.ga
  have T2 := looks_findIn (M := model prog w) Y F.gt
  have T3 := looks_find (M := model prog w) Y J (findObj_dataE (od := od) F.hc F.ca F.cg F.ct)
  have sb : Looks (model prog w) hh (isInstance (.ref x) (.type "BaseException")) true := T0.andThen (looks_subIn Y F.st)
  have n0 : (xp && onTheHeap (Value.builtin "BaseException.__getattribute__")) = false := by cases xp <;> rfl
  have n1 : (onTheHeap (Value.ref C) && Value.builtin "BaseException.__getattribute__" == Value.builtin "object.__getattribute__") = false := by
    rw [show (Value.builtin "BaseException.__getattribute__" == Value.builtin "object.__getattribute__") = false by decide +kernel]
    rfl
  unfold getAttr getAttrBy
  refine wpAny_bind (wpAny_mkText (wpAny_holding (wpAny_bind (T0.at (wpAny_bind (T1.at ?_))))))
  dsimp only
  rw [n1, if_neg Bool.false_ne_true]
  unfold getAttrByItsOwn hookBefore
  refine wpAny_bind ?_
  rw [if_pos (show onTheHeap (Value.ref C) = true by rfl)]
  refine T2.at (wpAny_bind (wpAny_attempt (wpAny_holding ?_)))
  unfold callGetattribute
  rw [n0, if_neg Bool.false_ne_true]
  unfold boundAndCalled
  rw [PySem.F.excAttr_ValueError.ga.bind (.ref x)]
  refine wpAny_bind (wpAny_pure ?_)
  have key : codeAny (model prog w) A (.call (.builtin "BaseException.__getattribute__") ⟨[.ref x, .str "__class__" tt], []⟩) (fun r s' => r = .ok (.ret (.ref C)) ∧ s' = ⟨hh, gg, dd, tt + 1, oo⟩) ⟨hh, gg, dd, tt + 1, oo⟩ := by
    refine codeAny_call_builtin PySem.F.excAttr_ValueError.ga.plain PySem.F.entry_bexc_ga ?_
    refine @check_slot (model prog w) _ _ ⟨hh, gg, dd, tt + 1, oo⟩ "BaseException.__getattribute__" "BaseException" "__getattribute__" (.ref x) [.str "__class__" tt] [] _ (by decide +kernel) (by decide +kernel) sb (PySem.F.args_bexc_ga (.ref x) (.str "__class__" tt)) ?_
    unfold Builtin.«object.__getattribute__»
    refine wpAny_bind (wpAny_of_eq (a := ((Value.ref x : Value), [Value.str "__class__" tt])) (by first | rfl | (simp only [slotArgs]; rfl)) ?_)
    refine wpAny_bind (wpAny_pure (wpAny_bind (T0.at (wpAny_bind (T3.at (wpAny_bind (wpAny_holding (wpAny_call (class_get (s := ⟨hh, gg, dd, tt + 1, oo⟩) Y J F.mo ?_)))))))))
    exact wpAny_pure ⟨rfl, rfl⟩
  refine wpAny_call (codeAny_mono key fun r s' z => ?_)
  obtain ⟨rfl, rfl⟩ := z
  show wpAny _ _ (handedOut (.ref C)) _ _ _
  rw [handedOut_of (show handedIn (.ref C) = true by rfl)]
  exact wpAny_pure h
theorem nm_get {tp : Value} {o : Obj} {tk : Tok} (Y : K.In s.heap) (F : ClsN K C nm) (ho : K.lookup C = some o) (hk : (o.slots[2]?).join = some (.str nm tk)) (h : R (.ok (.ret (.str nm tk))) s) :
    codeAny (model prog w) A (.call (.builtin "getset_descriptor.__get__") ⟨[.builtin "type.__name__", .ref C, tp], []⟩) R s := by
  obtain ⟨hh, gg, dd, tt, oo⟩ := s
  have L0 : Looks (model prog w) hh (typeOf (.ref C)) (.type "type") := looks_typeIn Y F.ty
  have L1 : Looks (model prog w) hh (isSubtype (.type "type") (.type "type")) true := Looks.of_pure (by rw [isSubtype_type]; kernel_rfl)
  refine codeAny_call_builtin KF.slot_gs.plain KF.entry_gs (KF.slot_gs.check _ _ _ _ _ _ _ _ ktyn_type (KF.args_gs _ _ _) ?_)
  unfold Builtin.«getset_descriptor.__get__» descrGet
  rw [show descrGetArgs ⟨[Value.builtin "type.__name__", .ref C, tp], []⟩ = pure (.builtin "type.__name__", some (.ref C), given tp) by kernel_rfl]
  refine wpAny_bind (wpAny_pure ?_)
  unfold descrGetter descrCheckInstance descrNameAndClass isInstance
  simp only [ktyn_owner]
  repeat lk
  refine ⟨Code.quiet_builtin _ (by decide +kernel), codeAny_builtin ktyn_entry ?_⟩
  unfold Builtin.«type.__name__» keptObject slotAt
  dsimp only
  refine wpAny_bind (wpAny_bind (wpAny_loadPart (Y _ _ ho) (wpAny_pure ?_)))
  rw [hk]
  exact wpAny_pure h
theorem nm_attr {xp : Bool} {Q : Value → Shared → Prop} (Y : K.In s.heap) (F : ClsN K C nm) (h : ∀ tk u, Q (.str nm tk) { s with toks := u }) : wpAny (model prog w) A (getAttr (.ref C) "__name__" xp) Q E s := by
  obtain ⟨o, tk, ho, hk⟩ := F.ob
  refine cls_open Y (looks_opaque Y F.op) (looks_typeIn Y F.ty) type_tga (looks_hook Y (r := none) (by rfl)) (by show subIn K _ _ = _; rfl) F.fn ?_
  refine wpAny_bind (wpAny_holding (wpAny_call (nm_get (s := { s with toks := s.toks + 1 }) Y F ho hk ?_)))
  exact wpAny_pure (handed_on rfl (h _ _))
end
section
variable {X : Cx} {e : Expr} {te : TE} {p1 p2 : Pos} {C : Addr} {nm : Str}
/-- e.__class__.__name__, e an exception that is being made -/
def tNm (K : Frag) (te : TE) : TE := fun σ H Q => te σ H fun x H1 => ∃ (a C dx : Addr) (nm : Str), x = .ref a ∧ H1 a = some (exo a C (some dx)) ∧ (∃ fs, H1 dx = some (exd dx fs)) ∧ ClsN K C nm ∧ Q (.str nm) H1
theorem pe_nm (he : PE X e te) (hb : attributeBase e "__class__" X.env (eval e X.env) = eval e X.env := by rfl)
    (hb2 : attributeBase (.Attribute e "__class__" p1) "__name__" X.env (eval (.Attribute e "__class__" p1) X.env) = eval (.Attribute e "__class__" p1) X.env := by rfl) :
    PE X (.Attribute (.Attribute e "__class__" p1) "__name__" p2) (tNm X.K te) := by
  refine ⟨fun pins s σ H Q I h => ?_⟩
  refine attr_of hb2 (attr_of hb (thn (he.run pins s σ H _ I h) fun u s1 hh => ?_))
  obtain ⟨x, H1, I1, rx, a, C, dx, nm, rfl, ea, ⟨fs, ed⟩, F, q⟩ := hh
  obtain rfl : u = Value.ref a := rx
  obtain ⟨t1, ho⟩ := exo_at I1.hok ea
  obtain ⟨mA, hns, rel⟩ := exd_at I1.hok ed
  obtain ⟨oD, _, _, hoD, _, _⟩ := hns.count (within_of rel)
  refine exc_cls I1.kIn (ox := { cls := .ref C, dict := some dx, data := .fields #[.ref t1, .none, .none, .none, .bool false, .none] }) (od := some oD) ⟨ho, rfl, rfl, hoD⟩ F ?_
  exact nm_attr (s := { s1 with toks := s1.toks + 1 }) I1.kIn F fun tk u => ⟨.str nm, H1, I1.tok _, ⟨tk, rfl⟩, q⟩
end
end GX
set_option maxHeartbeats 4000000
/-! exceptions of an own class whose __init__ keeps one value: made, raised, caught by the first of several clauses -/
namespace GX
open PySem PySem.Spec PyProof.Rows L2 GenW
def spInit (K : PySem.W.Frag) : Sp := fun vs H Q _ => ∃ (a C : Addr) (y : V) (nm : Str), vs = [.ref a, y] ∧ OexC K C ∧ ClsN K C nm ∧ PySem.W.findIn K (.ref C) "what" = some none ∧ PySem.W.findIn K (.ref C) "word" = some none ∧ H a = some (exo a C none) ∧
  ∀ dx, H dx = none → dx ≠ a → Q .non (upd (upd (upd H dx (exd dx [("what", y)])) a (exo a C (some dx))) dx (exd dx [("word", .str nm), ("what", y)]))
structure ExK (P : Program) (w : World) (K : PySem.W.Frag) (mg : Str → Option Value) (base : Heap) (n : Nat) (x : Str) (C : Addr) where
  fI : Addr
  fd : FuncData
  nm : Str
  T : OexC K C
  N : ClsN K C nm
  iC : PySem.W.findIn K (.ref C) "__init__" = some (some (.ref fI))
  tI : PySem.W.typeIn K (.ref fI) = some (.type "function")
  G : FnOk P w K mg base CX0 n fI fd ["self", "what"] (spInit K)
  b : Binds K fd ["self", "what"] []
  gm : mg x = some (.ref C)
  nw : PySem.W.findIn K (.ref C) "what" = some none
  nd : PySem.W.findIn K (.ref C) "word" = some none
theorem pmk_ex {X : Cx} {n : Nat} {x : Str} {C : Addr} {e : Expr} {es : List Expr} {ta : TA} {p pos : Pos} (k : ExK X.prog X.w X.K X.mg X.base n x C) (hr : Room (n + 1) X.A) (hg : Gl X x) (ha : PA X (e :: es) ta)
    (hdb : (x == ("__debug__" : Str)) = false := by decide) (he : starEach (e :: es) X.env = (false, eval e X.env) :: starEach es X.env := by rfl) (hpl : (backTo pos (starEach es X.env)).any (·.1) = false := by rfl) :
    PMk X (.Call (.Name x p) (e :: es) [] pos) (tMkO C (spInit X.K) [] ta) := pmk_oex k.T k.iC k.tI k.G hr k.b .nil pass0 hg k.gm ha hdb he hpl
/-- what is left to show where C(y) is made -/
theorem mk_in {P : Program} {w : World} {K : PySem.W.Frag} {mg : Str → Option Value} {base : Heap} {n : Nat} {x : Str} {C : Addr} {H : Hp} {y : V} {Q : XK} (k : ExK P w K mg base n x C)
    (q : ∀ d fs, H d = none → fs.lookup ("what" : Str) = some y → Q (.ref C) (some d) (upd H d (.xd fs))) :
    [y].length ≤ 1000 ∧ ∀ a, H a = none → spInit K (.ref a :: ([y] ++ [])) (upd H a (exo a C none))
      (fun v H2 => v = .non ∧ ∃ (d : Addr) (fs : List (Str × V)), H2 a = some (exo a C (some d)) ∧ H2 d = some (exd d fs) ∧ H d = none ∧ Q (.ref C) (some d) (upd (del H2 a) d (.xd fs))) (fun _ _ _ => False) := by
  refine ⟨by show 1 ≤ 1000; decide, fun a na => ⟨a, C, y, k.nm, rfl, k.T, k.N, k.nw, k.nd, upd_same, fun dx nd ne => ⟨rfl, dx, [("word", .str k.nm), ("what", y)], ?_, upd_same, ?_, ?_⟩⟩⟩
  · rw [upd_ne (fun z => ne z.symm), upd_same]
  · rw [upd_ne ne] at nd
    exact nd
  · rw [upd_ne ne] at nd
    have e : upd (del (upd (upd (upd (upd H a (exo a C none)) dx (exd dx [("what", y)])) a (exo a C (some dx))) dx (exd dx [("word", .str k.nm), ("what", y)])) a) dx (.xd [("word", .str k.nm), ("what", y)]) = upd H dx (.xd [("word", .str k.nm), ("what", y)]) := by
      funext b
      by_cases hb : b = dx
      · rw [hb, upd_same, upd_same]
      · rw [upd_ne hb, upd_ne hb]
        by_cases ha : b = a
        · rw [ha, del_same, na]
        · rw [del_ne ha, upd_ne hb, upd_ne ha, upd_ne hb, upd_ne ha]
    rw [e]
    exact q dx _ nd rfl
/-- a def that may raise, called in a suite that is tried -/
theorem pe_dkT {X : Cx} {W : WX} {k : Nat} {x : Str} {ps : List Str} {sp : Sp} {p pos : Pos} {e : Expr} {es : List Expr} {t : TA} (tk : Takes X W) (d : DkX X.prog X.w X.K X.mg X.base k x ps sp) (hr : Room k X.A) (hg : Gl X x) (ha : PA X (e :: es) t)
    (hdb : (x == ("__debug__" : Str)) = false := by decide) (he : starEach (e :: es) X.env = (false, eval e X.env) :: starEach es X.env := by rfl) (hpl : (backTo pos (starEach es X.env)).any (·.1) = false := by rfl) :
    PE X (.Call (.Name x p) (e :: es) [] pos) (tCallS sp (WE W) t) := pe_callS d.G hr hg d.gm d.kp d.b (fun σ => passAt tk σ) ha hdb he hpl
/-- isinstance(fault, D), fault the error that the suite holds, with a dict -/
def rIsX (K : PySem.W.Frag) (a : Addr) (cls : Value) (d : Option Addr) (C : Addr) : List V → Hp → VK → Prop := fun xs H Q => ∃ (c : V) (cv : Value) (b : Bool) (dd : Addr) (fs : List (Str × V)), xs = [.ref a, c] ∧ cls = .ref C ∧ d = some dd ∧ H dd = some (.xd fs) ∧
  (∀ u, RelV c u → u = cv) ∧ PySem.W.kitOne K (.ref C) cv = some b ∧ Q (.bl b) H
theorem call_isX {X : Cx} {a C : Addr} {oe : Obj} {cls : Value} {d : Option Addr} {pn : List (Addr × Obj)} (T : ExcC X.K C) (hz : Zc cls d oe) (hf : ∃ vs, oe.data = .fields vs) : CallR (X.suite a ((a, oe) :: pn)) (.builtin "isinstance") (rIsX X.K a cls d C) := by
  rintro pins s σ H xs us Q I r ⟨c, cv, b, dd, fs, rfl, rfl, rfl, hdd, hcv, e, q⟩
  match us, r with
  | [_, u], .cons rfl (.cons rt .nil) =>
    obtain rfl := hcv _ rt
    obtain ⟨ha, _⟩ := I.pin (a, oe) (List.mem_append_left _ List.mem_cons_self)
    obtain ⟨vs, hv⟩ := hf
    have hx : ObjOk X.prog X.w H s.heap dd (.xd fs) := I.hok dd _ hdd
    obtain ⟨mA, hns, _⟩ := hx
    obtain ⟨od, ho, _⟩ := lookIn_ns hns
    have J : PySem.W.InstAt s.heap a oe C (some od) := ⟨ha, hz.1, by unfold PySem.W.notCls; rw [hv] <;> rfl, by rw [hz.2]; exact ho⟩
    have hcl : (PySem.W.clsIn X.K C).isSome = true := by
      obtain ⟨cd, hc, _⟩ := PySem.W.any_some T.hd
      rw [hc]
      rfl
    exact PySem.W.kia_one (PySem.W.kitx_exc (K := X.K) hcl T.hg T.hk T.hs T.ha T.hn T.ht T.hm) I.kIn J e (fun z => nomatch z) fun tk => ⟨.bl b, H, I.kept (t' := tk) fun _ _ z => z, rfl, q⟩
/-- what the first clause wishes of an exception that is its own -/
def wFst (K : PySem.W.Frag) (c : Value) (i : Nat) (ts : Addr → Value → Option Addr → TS) (D : Ends) : WX := fun cls d σ H =>
  PySem.W.exmOne K cls c = some true ∧ ∀ a, H a = none → ts a cls d { nx := fun σ' H' => D.nx (σ'.set i none) H', rt := D.rt, bk := fun σ' H' => D.bk (σ'.set i none) H', ct := fun σ' H' => D.ct (σ'.set i none) H' } (σ.set i (some (.ref a))) H
section
variable {X : Cx} {x n : Str} {c : Value} {i : Nat} {body suite : List Stmt} {b₀ : Stmt} {hds : List ExceptHandler} {np pos pos' : Pos} {tb : WX → TS} {ts : Addr → Value → Option Addr → TS}
theorem ps_try_fst (hs : X.stack = X.env :: X.outer) (hf : X.env.frame = some X.env.locals) (hN : X.N.Nodup) (hi : X.N[i]? = some n) (hln : X.env.kindOf n = some .local) (hc : Names X x c)
    (hb : ∀ (W : WX) (pn : List (Addr × Obj)) (xe : Value → Shared → Prop), Takes (X.tr pn xe) W → PassesOwn (model X.prog X.w) X.A X.env xe → PSs (X.tr pn xe) body (tb W))
    (hsu : ∀ (a : Addr) (oe : Obj) (cls : Value) (d : Option Addr) (pn : List (Addr × Obj)), Zc cls d oe → (∃ vs, oe.data = .fields vs) → PSs (X.suite a ((a, oe) :: pn)) (b₀ :: suite) (ts a cls d)) :
    PS X (.Try body (.ExceptHandler (some (.Name x np)) (some n) (b₀ :: suite) pos' :: hds) [] [] pos) (fun D σ H => tb (wFst X.K c i ts D) D σ H) := by
  refine ⟨fun pins s σ H D I h => wpAny_Try_except ?_⟩
  have hfr : X.A.frames = some (X.env :: X.outer) := I.ok.frames.trans (congrArg some hs)
  let catcher : Value → Shared → Prop := fun e s₁ => wpAny (model X.prog X.w) X.A (noteFrame e X.env) (fun _ s₂ => wpAny (model X.prog X.w) X.A (setFlight e none) (fun _ s₃ =>
    wpAny (model X.prog X.w) X.A (handleBy e X.env (.ExceptHandler (some (.Name x np)) (some n) (b₀ :: suite) pos' :: hds)) (SP X pins D) X.xe s₃) X.xe s₂) X.xe s₁
  have tk : Takes (X.tr (X.pn ++ pins) catcher) (wFst X.K c i ts D) := by
    rintro u s' ⟨a, B, sI, pins', σ', H', cls, d, rfl, J', nb, up, sky, na, os, ag, hcls, go⟩
    have J := J'.ofTry I.ok
    have sky2 : Sky B (X.env :: X.outer) a (Zc cls d) X.env.locals s'.heap := by
      rw [← hs]
      exact sky
    show wpAny (model X.prog X.w) X.A (noteFrame (.ref a) X.env) _ _ _
    refine Sky.land Zc.steady hfr hf sky2 fun hA flA upA => ?_
    -- the error lies on the ground, nobody's frame
    have out : ∀ (h : Heap), HandSPX.FlyingZ B (X.env :: X.outer) a (Zc cls d) h → s'.heap.UpToSlots h →
        ∃ (oe : Obj), h.get? a = some oe ∧ Zc cls d oe ∧ (∃ vs, oe.data = .fields vs) ∧ Inv X pins σ' H' { s' with heap := h } ∧ Inv (X.suite a ((a, oe) :: (X.pn ++ pins))) [] σ' H' { s' with heap := h } := by
      intro h fl hup
      have Jh : Inv X pins σ' H' { s' with heap := h } := J.landed nb fl.1 (up.trans hup) os ag
      obtain ⟨oe, vs, he, hz, hd⟩ := fl.there
      have nfr : a ∉ frs (X.env :: X.outer) := fun hm => by
        obtain ⟨_, o, ho, hno⟩ := fl.2.2.1.mem hm
        cases he.symm.trans ho
        exact hno vs hd
      have nF : a ∉ X.fs := fun hm => by
        obtain ⟨y, hy, q⟩ := List.mem_filterMap.mp hm
        exact nfr (List.mem_filterMap.mpr ⟨y, List.mem_cons_of_mem _ hy, q⟩)
      have nL : a ≠ X.env.locals := fun z => nfr (List.mem_filterMap.mpr ⟨X.env, List.mem_cons_self, by rw [hf, z]⟩)
      exact ⟨oe, he, hz, ⟨vs, hd⟩, Jh, Jh.suite he hd na nL nF⟩
    obtain ⟨oA, heA, hzA, _, JA, SA⟩ := out hA flA upA
    refine wpAny_handleBy_cons (codeAny_handlers_test ?_) (by intro q; cases q)
    have isIt := PySem.W.exm_one (M := model X.prog X.w) JA.kIn (fun _ _ _ _ k q => wpAny_typeOf_ref (k _ _ heA) (by rw [hzA.1]; exact q)) hcls
    have named : ∀ {R : Value → Shared → Prop} {E' : Value → Shared → Prop}, R c { s' with heap := hA } → wpAny (model X.prog X.w) (X.A.mark (some (.ref a))) (eval (.Name x np) X.env) R E' { s' with heap := hA } := by
      intro R E' q
      obtain ⟨hg, hdbg, hm | ⟨hm, hv, hnn⟩⟩ := hc
      · exact ld_glob (X := X.suite a ((a, oA) :: (X.pn ++ pins))) SA hg hm q hdbg
      · exact ld_blt (X := X.suite a ((a, oA) :: (X.pn ++ pins))) SA hg hm hv q hnn hdbg
    refine named ?_
    refine isIt.here (codeAny_handlers_suite_as ?_)
    refine HandSPX.lands_againZ flA fun hB flB upB => ?_
    obtain ⟨oB, heB, hzB, hfB, _, SB⟩ := out hB flB (upA.trans upB)
    refine store_ok (X := X.suite a ((a, oB) :: (X.pn ++ pins))) (v := .ref a) SB hN hi (.inl hln) rfl (fun s5 S5 => ?_) (.inr hln)
    refine wpAny_mono ((hsu a oB cls d (X.pn ++ pins) hzB hfB).run [] s5 _ H' _ S5 (go a na)) (fun f s6 hsp => ?_) (fun _ _ z => z.elim)
    cases f with
    | ret u =>
      obtain ⟨v6, σ6, H6, S6, r6, q6⟩ := hsp
      exact gone_ok (S6.unsuite I.ok) hN hi hln fun s7 J7 => ⟨v6, _, _, J7, r6, q6⟩
    | next =>
      obtain ⟨σ6, H6, S6, q6⟩ := hsp
      exact gone_ok (S6.unsuite I.ok) hN hi hln fun s7 J7 => ⟨_, _, J7, q6⟩
    | brk =>
      obtain ⟨σ6, H6, S6, q6⟩ := hsp
      exact gone_ok (S6.unsuite I.ok) hN hi hln fun s7 J7 => ⟨_, _, J7, q6⟩
    | cont =>
      obtain ⟨σ6, H6, S6, q6⟩ := hsp
      exact gone_ok (S6.unsuite I.ok) hN hi hln fun s7 J7 => ⟨_, _, J7, q6⟩
  refine wpAny_mono ((hb _ (X.pn ++ pins) catcher tk PassesOwn.looking).run [] s σ H D (I.toTry _) h) (fun f s1 hsp => ?_) (fun e s1 he => he)
  cases f with
  | ret u =>
    obtain ⟨v, σ', H', J', r, q⟩ := hsp
    exact ⟨v, σ', H', J'.ofTry I.ok, r, q⟩
  | next =>
    obtain ⟨σ', H', J', q⟩ := hsp
    exact wpAny_execs_nil ⟨σ', H', J'.ofTry I.ok, q⟩
  | brk =>
    obtain ⟨σ', H', J', q⟩ := hsp
    exact ⟨σ', H', J'.ofTry I.ok, q⟩
  | cont =>
    obtain ⟨σ', H', J', q⟩ := hsp
    exact ⟨σ', H', J'.ofTry I.ok, q⟩
end
end GX
namespace K03
open PySem L2 LW GX LD K00
def topS (i : Nat) : Stmt := PySem.Challenge.pw_sumstand_k03_shapes_made_and_refused.main.body.getD i (.Pass ⟨0, 0, 0, 0⟩)
abbrev s_is_number : Stmt := topS 5
abbrev n_is_number : List Str := ["thing"]
theorem sc_is_number : FnScope n_is_number ["thing"] (defScope s_is_number) := ⟨rfl, rfl, rfl, by decide +kernel, rfl, by decide +kernel, by decide +kernel⟩
abbrev s_is_from : Stmt := topS 6
abbrev n_is_from : List Str := ["thing", "low", "high"]
theorem sc_is_from : FnScope n_is_from ["thing", "low", "high"] (defScope s_is_from) := ⟨rfl, rfl, rfl, by decide +kernel, rfl, by decide +kernel, by decide +kernel⟩
abbrev s_is_tuple_of : Stmt := topS 7
abbrev n_is_tuple_of : List Str := ["thing", "many"]
theorem sc_is_tuple_of : FnScope n_is_tuple_of ["thing", "many"] (defScope s_is_tuple_of) := ⟨rfl, rfl, rfl, by decide +kernel, rfl, by decide +kernel, by decide +kernel⟩
abbrev s_is_row : Stmt := topS 8
abbrev n_is_row : List Str := ["thing", "many", "limit", "part"]
theorem sc_is_row : FnScope n_is_row ["thing", "many", "limit"] (defScope s_is_row) := ⟨rfl, rfl, rfl, by decide +kernel, rfl, by decide +kernel, by decide +kernel⟩
abbrev s_is_prime : Stmt := topS 11
abbrev n_is_prime : List Str := ["p", "divisor"]
theorem sc_is_prime : FnScope n_is_prime ["p"] (defScope s_is_prime) := ⟨rfl, rfl, rfl, by decide +kernel, rfl, by decide +kernel, by decide +kernel⟩
abbrev s_made_shape : Stmt := topS 17
abbrev n_made_shape : List Str := ["thing", "p", "wide", "n", "table", "e"]
theorem sc_made_shape : FnScope n_made_shape ["thing"] (defScope s_made_shape) := ⟨rfl, rfl, rfl, by decide +kernel, rfl, by decide +kernel, by decide +kernel⟩
abbrev s_is_table : Stmt := topS 18
abbrev n_is_table : List Str := ["thing", "n", "p", "row"]
theorem sc_is_table : FnScope n_is_table ["thing", "n", "p"] (defScope s_is_table) := ⟨rfl, rfl, rfl, by decide +kernel, rfl, by decide +kernel, by decide +kernel⟩
abbrev s_law_pool : Stmt := topS 20
abbrev n_law_pool : List Str := ["script", "k", "cell", "big", "mixed"]
theorem sc_law_pool : FnScope n_law_pool ["script", "k"] (defScope s_law_pool) := ⟨rfl, rfl, rfl, by decide +kernel, rfl, by decide +kernel, by decide +kernel⟩
abbrev s_law_take : Stmt := topS 21
abbrev n_law_take : List Str := ["source", "top", "drawn"]
theorem sc_law_take : FnScope n_law_take ["source", "top"] (defScope s_law_take) := ⟨rfl, rfl, rfl, by decide +kernel, rfl, by decide +kernel, by decide +kernel⟩
abbrev s_law_one : Stmt := topS 22
abbrev n_law_one : List Str := ["source", "things"]
theorem sc_law_one : FnScope n_law_one ["source", "things"] (defScope s_law_one) := ⟨rfl, rfl, rfl, by decide +kernel, rfl, by decide +kernel, by decide +kernel⟩
abbrev s_law_is_prime : Stmt := topS 23
abbrev n_law_is_prime : List Str := ["number", "by"]
theorem sc_law_is_prime : FnScope n_law_is_prime ["number"] (defScope s_law_is_prime) := ⟨rfl, rfl, rfl, by decide +kernel, rfl, by decide +kernel, by decide +kernel⟩
abbrev s_law_prime : Stmt := topS 24
abbrev n_law_prime : List Str := ["source", "begin", "step"]
theorem sc_law_prime : FnScope n_law_prime ["source"] (defScope s_law_prime) := ⟨rfl, rfl, rfl, by decide +kernel, rfl, by decide +kernel, by decide +kernel⟩
abbrev s_law_row : Stmt := topS 25
abbrev n_law_row : List Str := ["source", "p", "n", "x"]
theorem sc_law_row : FnScope n_law_row ["source", "p", "n"] (defScope s_law_row) := ⟨rfl, rfl, rfl, by decide +kernel, rfl, by decide +kernel, by decide +kernel⟩
abbrev s_law_shape : Stmt := topS 26
abbrev n_law_shape : List Str := ["source", "p", "n", "table", "j"]
theorem sc_law_shape : FnScope n_law_shape ["source"] (defScope s_law_shape) := ⟨rfl, rfl, rfl, by decide +kernel, rfl, by decide +kernel, by decide +kernel⟩
abbrev s_law_wrong : Stmt := topS 27
abbrev n_law_wrong : List Str := ["source", "shape", "part", "p", "wide", "n", "table", "e", "one", "two", "some", "row", "x", "at", "number", "bad", "bent"]
theorem sc_law_wrong : FnScope n_law_wrong ["source", "shape", "part"] (defScope s_law_wrong) := ⟨rfl, rfl, rfl, by decide +kernel, rfl, by decide +kernel, by decide +kernel⟩
abbrev s_law_refusal : Stmt := topS 28
abbrev n_law_refusal : List Str := ["thing", "fault"]
theorem sc_law_refusal : FnScope n_law_refusal ["thing"] (defScope s_law_refusal) := ⟨rfl, rfl, rfl, by decide +kernel, rfl, by decide +kernel, by decide +kernel⟩
abbrev s_law_is_right : Stmt := topS 29
abbrev n_law_is_right : List Str := ["shape"]
theorem sc_law_is_right : FnScope n_law_is_right ["shape"] (defScope s_law_is_right) := ⟨rfl, rfl, rfl, by decide +kernel, rfl, by decide +kernel, by decide +kernel⟩
abbrev s_law : Stmt := topS 30
abbrev n_law : List Str := ["script", "source", "shape", "other", "p", "wide", "n", "table", "e", "many", "thing", "turn", "one", "two", "bent"]
theorem sc_law : FnScope n_law ["script"] (defScope s_law) := ⟨rfl, rfl, rfl, by decide +kernel, rfl, by decide +kernel, by decide +kernel⟩

structure Tx (mg : Str → Option Value) where
  m_int : mg "int" = none
  m_bool : mg "bool" = none
  m_len : mg "len" = none
  m_max : mg "max" = none
  m_min : mg "min" = none
  m_range : mg "range" = none
  m_repr : mg "repr" = none
  m_isinstance : mg "isinstance" = none
  m_tuple : mg "tuple" = none
  m_all : mg "all" = none
  tGP : Tok
  g_GREATEST_PRIME : mg "GREATEST_PRIME" = some (.int 65521 tGP)
  tGW : Tok
  g_GREATEST_WIDE : mg "GREATEST_WIDE" = some (.int 32 tGW)
  tGD : Tok
  g_GREATEST_DATA : mg "GREATEST_DATA" = some (.int 6 tGD)
  tGS : Tok
  g_GREATEST_SUMS : mg "GREATEST_SUMS" = some (.int 5 tGS)
  tGL : Tok
  g_GREATEST_LOST : mg "GREATEST_LOST" = some (.int 3 tGL)
/-! ### what the program answers -/
def fromD (d : PyData) (lo hi : Int) : Bool := match d with
  | .int i => decide (lo ≤ i) && decide (i ≤ hi)
  | _ => false
def tupOf (d : PyData) (m : Int) : Bool := match d with
  | .tuple ds => decide ((ds.length : Int) = m)
  | _ => false
def rowD (d : PyData) (many lim : Int) : Bool := match d with
  | .tuple ds => decide ((ds.length : Int) = many) && ds.all fun x => fromD x 0 (lim - 1)
  | _ => false
def tabD (d : PyData) (n p : Int) : Bool := match d with
  | .tuple ds => decide (ds.length ≤ 5) && ds.all fun x => rowD x n p
  | _ => false
def primeD (d : PyData) : Bool := match d with
  | .int i => isPr i
  | _ => false
section
variable {P : Program} {w : World} {K : PySem.W.Frag} {mg : Str → Option Value} {base : Heap} {Ts : List Addr}
def spFrom (K : PySem.W.Frag) : Sp := fun vs H Q _ => ∃ (v : V) (d : PyData) (lo hi : Int), vs = [v, .int lo, .int hi] ∧ DT K H v d ∧ Q (.bl (fromD d lo hi)) H
def spNum (K : PySem.W.Frag) : Sp := fun vs H Q _ => ∃ (v : V) (d : PyData), vs = [v] ∧ DT K H v d ∧ Q (.bl (isI d && !isB d)) H
theorem ok_number {f : Addr} {fd : FuncData} {n : Nat} (F : Fun K "is_number" "is_number" s_is_number f fd) (T : Tx mg) : FnOk P w K mg base CX0 (n + 1) f fd ["thing"] (spNum K) := by
  refine F.ok sc_is_number (fun vs H Q E h => ?_) (fun cdv A outer s H vs Q E hr h => ?_)
  · obtain ⟨v, d, rfl, _⟩ := h
    rfl
  · obtain ⟨v, d, rfl, hd, k⟩ := h
    refine ⟨_, /- slots 0:thing -/
      (pss_one (ps_ret (pe_and (pe_callB call_isi (by rfl) T.m_isinstance (by decide +kernel) (pa_cons (pv 0) (pa_cons (pe_bltn (v := .ty "int") (by rfl) T.m_int (by decide +kernel) rfl) pa_nil))) (pe_one (pe_not (pe_callB call_isi (by rfl) T.m_isinstance (by decide +kernel) (pa_cons (pv 0) (pa_cons (pe_bltn (v := .ty "bool") (by rfl) T.m_bool (by decide +kernel) rfl) pa_nil)))))))), ?_⟩
    refine ⟨_, rfl, _, _, _, _, isI d, rfl, .ty "int", hd.ty, kit_int d, _, rfl, ?_⟩
    refine ite2 (fun h1 => ?_) (fun h1 => ?_)
    · refine ⟨_, rfl, _, _, _, _, isB d, rfl, .ty "bool", hd.ty, kit_bool d, _, rfl, ?_⟩
      rw [h1, Bool.true_and] at k
      exact k
    · rw [Bool.eq_false_iff.mpr h1, Bool.false_and] at k
      exact k
theorem ok_from {f : Addr} {fd : FuncData} (F : Fun K "is_from" "is_from" s_is_from f fd) (T : Tx mg) (d_is_number : Dk P w K mg base 1 "is_number" ["thing"] (spNum K)) : FnOk P w K mg base CX0 2 f fd ["thing", "low", "high"] (spFrom K) := by
  refine F.ok sc_is_from (fun vs H Q E h => ?_) (fun cdv A outer s H vs Q E hr h => ?_)
  · obtain ⟨v, d, lo, hi, rfl, _⟩ := h
    rfl
  · obtain ⟨v, d, lo, hi, rfl, hd, k⟩ := h
    refine ⟨_, /- slots 0:thing 1:low 2:high -/
      (pss_one (ps_ret (pe_and (pe_dk d_is_number (hr.mono (by decide)) (by rfl) (pa_cons (pv 0) pa_nil)) (pe_one (pe_chain op_le op_le (pv 1) (pv 0) (pv 2)))))), ?_⟩
    refine ⟨_, rfl, v, d, rfl, hd, _, rfl, ?_⟩
    have no : (isI d && !isB d) = false → fromD d lo hi = false := fun h => by
      cases d <;> first | rfl | cases h
    refine ite2 (fun h1 => ?_) (fun h1 => ?_)
    · · obtain ⟨i, rfl⟩ : ∃ i, d = .int i := by
          cases d with
          | int i => exact ⟨i, rfl⟩
          | _ => cases h1
        cases hd
        refine ⟨_, rfl, _, rfl, _, _, rfl, rfl, _, rfl, ?_⟩
        have k : Q (.bl (decide (lo ≤ i) && decide (i ≤ hi))) H := k
        refine ite2 (fun h1 => ?_) (fun h1 => ?_)
        · refine ⟨_, rfl, _, _, rfl, rfl, ?_⟩
          rw [h1, Bool.true_and] at k
          exact k
        · rw [Bool.eq_false_iff.mpr h1, Bool.false_and] at k
          exact k
    · rw [no (Bool.eq_false_iff.mpr h1)] at k
      exact k
def spTupOf (K : PySem.W.Frag) : Sp := fun vs H Q _ => ∃ (v : V) (d : PyData) (m : Int), vs = [v, .int m] ∧ DT K H v d ∧ Q (.bl (tupOf d m)) H
theorem ok_tupOf {f : Addr} {fd : FuncData} {n : Nat} (F : Fun K "is_tuple_of" "is_tuple_of" s_is_tuple_of f fd) (T : Tx mg) : FnOk P w K mg base CX0 (n + 1) f fd ["thing", "many"] (spTupOf K) := by
  refine F.ok sc_is_tuple_of (fun vs H Q E h => ?_) (fun cdv A outer s H vs Q E hr h => ?_)
  · obtain ⟨v, d, m, rfl, _⟩ := h
    rfl
  · obtain ⟨v, d, m, rfl, hd, k⟩ := h
    refine ⟨_, /- slots 0:thing 1:many -/
      (pss_one (ps_ret (pe_and (pe_callB call_isi (by rfl) T.m_isinstance (by decide +kernel) (pa_cons (pv 0) (pa_cons (pe_bltn (v := .ty "tuple") (by rfl) T.m_tuple (by decide +kernel) rfl) pa_nil))) (pe_one (pe_cmpR op_eq (pe_callB call_lenT (by rfl) T.m_len (by decide +kernel) (pa_cons (pv 0) pa_nil)) (pv 1) (nomark _)))))), ?_⟩
    refine ⟨_, rfl, _, _, _, _, isTup d, rfl, .ty "tuple", hd.ty, kit_tup d, _, rfl, ?_⟩
    refine ite2 (fun h1 => ?_) (fun h1 => ?_)
    · cases hd with
      | non => cases h1
      | int i => cases h1
      | str x => cases h1
      | @tup a xs ds hs hds =>
        refine ⟨_, rfl, _, _, rfl, hs, _, rfl, rfl, ?_⟩
        have e : tupOf (.tuple ds) m = decide (V.int (xs.length : Int) = V.int m) := by
          show decide ((ds.length : Int) = m) = _
          rw [hds.len]
          by_cases h : (ds.length : Int) = m
          · rw [decide_eq_true h, h, decide_eq_true rfl]
          · rw [decide_eq_false h, decide_eq_false (fun z => h (V.int.inj z))]
        rw [e] at k
        exact k
    · have e : tupOf d m = false := by
        cases d <;> first | rfl | exact absurd rfl h1
      rw [e] at k
      exact k
def spRow (K : PySem.W.Frag) (Ts : List Addr) : Sp := fun vs H Q _ => ∃ (v : V) (d : PyData) (m l : Int), vs = [v, .int m, .int l] ∧ DT K H v d ∧ Tb Ts H ∧ ∀ H', Sm H H' → Tb Ts H' → Q (.bl (rowD d m l)) H'
theorem ok_row {f : Addr} {fd : FuncData} {c P1 : Addr} (F : FunC K "is_row" "is_row" s_is_row f fd (.ref c)) (T : Tx mg) (TB_is_row : GxR.TabB base mg c P1) (hP : P1 ∈ Ts) (d_is_from : Dk P w K mg base 2 "is_from" ["thing", "low", "high"] (spFrom K)) (d_is_tuple_of : Dk P w K mg base 1 "is_tuple_of" ["thing", "many"] (spTupOf K)) :
    FnOk P w K mg base CX0 5 f fd ["thing", "many", "limit"] (spRow K Ts) := by
  refine F.okC sc_is_row (fun vs H Q E h => ?_) (fun A outer s H vs Q E hr h => ?_)
  · obtain ⟨v, d, m, l, rfl, _⟩ := h
    rfl
  · obtain ⟨v, d, m, l, rfl, hd, tb, k⟩ := h
    refine ⟨_, /- slots 0:thing 1:many 2:limit 3:part -/
      (pss_one (ps_ret (pe_and (pe_dk d_is_tuple_of (hr.mono (by decide)) (by rfl) (pa_cons (pv 0) (pa_cons (pv 1) pa_nil))) (pe_one (pe_allG (k := 2) (own := [("part", 3)]) (g := gName 3) (tt := tYes) (hr.mono (by decide)) rfl sc_is_row.nd (by rfl) T.m_all (by decide +kernel) TB_is_row rfl (pi_tup (pv 0)) (blkOk_by (own := [("part", 3)]) (N := n_is_row) (sc := defScope s_is_row) (by decide +kernel)) ⟨rfl, by decide +kernel, rfl⟩ (fun _ hr _ _ _ _ _ _ _ _ => (pg_name (i := 3) sc_is_row.nd rfl (by first | exact Or.inl rfl | exact Or.inr rfl))) (fun _ hr _ _ _ _ _ _ _ _ => pts_nil) (fun _ hr _ _ _ _ _ _ _ _ => (pe_dk d_is_from (hr.mono (by decide)) (by rfl) (pa_cons (pv 3) (pa_cons pe_int (pa_cons (pe_op op_sub (pv 2) pe_int) pa_nil)))))))))), ?_⟩
    refine ⟨_, rfl, _, rfl, v, d, m, rfl, hd, _, rfl, ?_⟩
    refine ite2 (fun h1 => ?_) (fun h1 => ?_)
    · cases hd with
      | non => cases h1
      | int i => cases h1
      | str x => cases h1
      | @tup a xs ds hs hds =>
        have h2 : (ds.length : Int) = m := of_decide_eq_true h1
        have tb1 := tb P1 hP
        refine ⟨_, rfl, a, rfl, ⟨_, hs⟩, tb1, fun H2 td => ?_⟩
        obtain ⟨ps, hps, _⟩ := tb1
        have sm2 := Sm.tab td hps
        refine flag_it (d := true) (walk_tup (xs := xs)) (fun i H' => Sm H H' ∧ Tb Ts H' ∧ ∀ j x, j < i → ds[j]? = some x → fromD x 0 (l - 1) = true) ⟨sm2, tb.tab td, fun j x hj => absurd hj (Nat.not_lt_zero j)⟩ (fun i H' _ h => h.1.seqT hs) ?_ ?_
        · rintro i x H3 H3' hi ⟨sm, tb3, hall⟩ ⟨rfl, hx⟩
          obtain ⟨dx, hdx, hD⟩ := hds.get hx
          refine ⟨rfl, _, rfl, _, rfl, _, _, rfl, rfl, x, dx, 0, l - 1, rfl, hD.sm sm, ⟨_, rfl, fun e => ?_⟩, fun e => ⟨sm, tb3, fun j y hj hy => ?_⟩⟩
          · have e : fromD dx 0 (l - 1) = false := e
            have e2 : rowD (.tuple ds) m l = false := by
              show (decide ((ds.length : Int) = m) && ds.all fun x => fromD x 0 (l - 1)) = false
              rw [Bool.and_eq_false_iff]
              refine .inr (List.all_eq_false.mpr ⟨dx, List.mem_of_getElem? hdx, ?_⟩)
              rw [e]
              exact Bool.false_ne_true
            have q := k H3' sm tb3
            rw [e2] at q
            exact q
          · by_cases hji : j < i
            · exact hall j y hji hy
            · have : j = i := by omega
              subst this
              rw [hdx] at hy
              cases hy
              exact V.bl.inj e
        · rintro H3 ⟨sm, tb3, hall⟩
          have e2 : rowD (.tuple ds) m l = true := by
            show (decide ((ds.length : Int) = m) && ds.all fun x => fromD x 0 (l - 1)) = true
            rw [decide_eq_true h2, Bool.true_and, List.all_eq_true]
            intro y hy
            obtain ⟨j, hj, e⟩ := List.getElem_of_mem hy
            exact hall j y (by rw [hds.len]; exact hj) (by rw [List.getElem?_eq_getElem hj, e])
          have q := k H3 sm tb3
          rw [e2] at q
          exact q
    · have e : rowD d m l = false := by
        cases d with
        | tuple ds =>
          have h1 : ¬ decide ((ds.length : Int) = m) = true := h1
          show (decide ((ds.length : Int) = m) && ds.all fun x => fromD x 0 (l - 1)) = false
          rw [Bool.eq_false_iff.mpr h1, Bool.false_and]
        | _ => rfl
      rw [e] at k
      exact k H (Sm.refl H) tb
end
end K03
namespace K03
open PySem L2 LW GX LD K00
section
variable {P : Program} {w : World} {K : PySem.W.Frag} {mg : Str → Option Value} {base : Heap} {Ts : List Addr}
def spIsPrime (K : PySem.W.Frag) : Sp := fun vs H Q _ => ∃ (v : V) (d : PyData), vs = [v] ∧ DT K H v d ∧ Q (.bl (primeD d)) H
theorem ok_is_prime {f : Addr} {fd : FuncData} (F : Fun K "is_prime" "is_prime" s_is_prime f fd) (T : Tx mg) (d_is_from : Dk P w K mg base 2 "is_from" ["thing", "low", "high"] (spFrom K)) : FnOk P w K mg base CX0 3 f fd ["p"] (spIsPrime K) := by
  refine F.ok sc_is_prime (fun vs H Q E h => ?_) (fun cdv A outer s H vs Q E hr h => ?_)
  · obtain ⟨v, d, rfl, _⟩ := h
    rfl
  · obtain ⟨v, d, rfl, hd, k⟩ := h
    refine ⟨_, /- slots 0:p 1:divisor -/
      (pss_cons (ps_if (pt_not (pt_val (pe_dk d_is_from (hr.mono (by decide)) (by rfl) (pa_cons (pv 0) (pa_cons pe_int (pa_cons (pe_glob (v := .int 65521) rfl T.g_GREATEST_PRIME ⟨_, rfl⟩) pa_nil))))))
        (pss_one (ps_ret pe_bl))
        pss_nil) -- if not is_from(p, 2, GREATEST_PRIME):
      (pss_cons (ps_if (pt_cmpR op_eq (pe_op op_mod (pv 0) pe_int) pe_int (nomark _))
        (pss_one (ps_ret (pe_cmpR op_eq (pv 0) pe_int (nomark _))))
        pss_nil) -- if p % 2 == 0:
      (pss_cons (ps_set (i := 1) sc_is_prime.nd rfl (by first | exact Or.inl rfl | exact Or.inr rfl) pe_int) -- divisor = 3
      (pss_cons (ps_while PassesOwn.never (pt_cmpR op_le (pe_op op_mul (pv 1) (pv 1)) (pv 0) (nomark _))
        (pss_cons (ps_if (pt_cmpR op_eq (pe_op op_mod (pv 0) (pv 1)) pe_int (nomark _))
          (pss_one (ps_ret pe_bl))
          pss_nil) -- if p % divisor == 0:
        (pss_one (ps_aug (i := 1) sc_is_prime.nd rfl (by first | exact Or.inl rfl | exact Or.inr rfl) pe_int ip_add)))) -- while divisor * divisor <= p:
      (pss_one (ps_ret pe_bl)))))), ?_⟩
    refine ⟨_, rfl, v, d, 2, 65521, rfl, hd, _, rfl, ?_⟩
    refine ite2 (fun h1 => ?_) (fun h1 => ?_)
    · -- not from 2 to 65521
      have h1 : fromD d 2 65521 = false := by
        rw [Bool.not_eq_true'] at h1
        exact h1
      have e : primeD d = false := by
        cases d with
        | int n =>
          have h1 : (decide (2 ≤ n) && decide (n ≤ 65521)) = false := h1
          show isPr n = false
          unfold isPr isP
          simp only [Bool.and_eq_false_iff, decide_eq_false_iff_not] at h1
          rcases h1 with h1 | h1
          · rw [decide_eq_false h1, Bool.false_and, Bool.and_false]
          · rw [decide_eq_false h1, Bool.false_and]
        | _ => rfl
      rw [e] at k
      exact k
    · obtain ⟨n, rfl⟩ : ∃ n, d = .int n := by
        cases d with
        | int i => exact ⟨i, rfl⟩
        | _ => exact absurd rfl h1
      cases hd
      have h2 : 2 ≤ n ∧ n ≤ 65521 := by
        have h1 : ¬ (!(decide (2 ≤ n) && decide (n ≤ 65521))) = true := h1
        simp only [Bool.not_eq_true', Bool.and_eq_false_iff, decide_eq_false_iff_not] at h1
        omega
      obtain ⟨h2, h3⟩ := h2
      have k : Q (.bl (isPr n)) H := k
      have ep : isPr n = isP n := by
        unfold isPr
        rw [decide_eq_true h3, Bool.true_and]
      rw [ep] at k
      refine ⟨_, rfl, _, _, rfl, rfl, (by show (0 : Int) < 2; decide), rfl, _, rfl, ?_⟩
      refine ite2 (fun h4 => ?_) (fun h4 => ?_)
      · have h5 : n % 2 = 0 := V.int.inj (of_decide_eq_true h4)
        refine ⟨_, rfl, rfl, ?_⟩
        have e : isP n = decide (V.int n = V.int 2) := by
          by_cases h6 : n = 2
          · subst h6
            rw [decide_eq_true rfl]
            decide +kernel
          · rw [decide_eq_false (fun q => h6 (V.int.inj q))]
            exact isP_false (d := 2) (by omega) (by omega) (by omega) h5
        rw [e] at k
        exact k
      · have h5 : n % 2 ≠ 0 := fun q => h4 (decide_eq_true (congrArg V.int q))
        refine ⟨fun m σ H' => ∃ d : Int, σ = [some (.int n), some (.int d)] ∧ H = H' ∧ m = (600 - d).toNat ∧ 3 ≤ d ∧ d ≤ 257 ∧ d % 2 = 1 ∧ ∀ c : Int, 3 ≤ c → c < d → c % 2 = 1 → n % c ≠ 0, ⟨_, 3, rfl, rfl, rfl, by omega, by omega, by omega, fun c h6 h7 => by omega⟩, fun m σ H' hW => ?_⟩
        obtain ⟨d, rfl, rfl, rfl, hd3, hd, hdo, hno⟩ := hW
        refine ⟨_, rfl, _, rfl, _, _, rfl, rfl, .inl ⟨by omega, by omega⟩, _, rfl, _, _, rfl, rfl, _, rfl, ?_⟩
        refine ite2 (fun h6 => ?_) (fun h6 => ?_)
        · have h7 : d * d ≤ n := of_decide_eq_true h6
          have h8 : d < 257 := by
            by_cases hh : d < 257
            · exact hh
            · have : d = 257 := by omega
              subst this
              omega
          refine ⟨fun σ' H' => ∃ m' : Nat, m' < (600 - d).toNat ∧ ∃ d : Int, σ' = [some (.int n), some (.int d)] ∧ H = H' ∧ m' = (600 - d).toNat ∧ 3 ≤ d ∧ d ≤ 257 ∧ d % 2 = 1 ∧ ∀ c : Int, 3 ≤ c → c < d → c % 2 = 1 → n % c ≠ 0, fun σ' H' h => h, ?_⟩
          refine ⟨_, rfl, _, rfl, _, _, rfl, rfl, (by show (0 : Int) < d; omega), rfl, _, rfl, ?_⟩
          refine ite2 (fun h9 => ?_) (fun h9 => ?_)
          · have h10 : n % d = 0 := V.int.inj (of_decide_eq_true h9)
            rw [isP_false (d := d) (by omega) h8 h7 h10] at k
            exact k
          · have h10 : n % d ≠ 0 := fun q => h9 (decide_eq_true (congrArg V.int q))
            refine ⟨_, rfl, _, _, rfl, rfl, ?_⟩
            refine ⟨_, ?_, d + 2, rfl, rfl, rfl, by omega, by omega, by omega, fun c c3 c4 c5 => ?_⟩
            · omega
            · by_cases hc : c < d
              · exact hno c c3 hc c5
              · have : c = d := by omega
                subst this
                exact h10
        · have h7 : ¬ d * d ≤ n := fun q => h6 (decide_eq_true q)
          have e : isP n = true := by
            refine isP_of h2 fun c c2 c257 cs cm => ?_
            by_cases hc : c < d
            · by_cases h3c : 3 ≤ c
              · by_cases ho : c % 2 = 1
                · exact hno c h3c hc ho cm
                · obtain ⟨q, hq⟩ : ∃ q, c = 2 * q := ⟨c / 2, by omega⟩
                  have e1 : n = c * (n / c) + n % c := (Int.mul_ediv_add_emod n c).symm
                  rw [cm, hq, Int.mul_assoc] at e1
                  omega
              · have : c = 2 := by omega
                subst this
                exact h5 cm
            · have : d * d ≤ c * c := Int.mul_le_mul (by omega) (by omega) (by omega) (by omega)
              omega
          rw [e] at k
          exact k

def spTable (K : PySem.W.Frag) (Ts : List Addr) : Sp := fun vs H Q _ => ∃ (v : V) (d : PyData) (n p : Int), vs = [v, .int n, .int p] ∧ DT K H v d ∧ Tb Ts H ∧ ∀ H', Sm H H' → Tb Ts H' → Q (.bl (tabD d n p)) H'
theorem ok_table {f : Addr} {fd : FuncData} {c P2 : Addr} (F : FunC K "is_table" "is_table" s_is_table f fd (.ref c)) (T : Tx mg) (TB_is_table : GxR.TabB base mg c P2) (hP : P2 ∈ Ts) (d_is_row : Dk P w K mg base 5 "is_row" ["thing", "many", "limit"] (spRow K Ts)) :
    FnOk P w K mg base CX0 8 f fd ["thing", "n", "p"] (spTable K Ts) := by
  refine F.okC sc_is_table (fun vs H Q E h => ?_) (fun A outer s H vs Q E hr h => ?_)
  · obtain ⟨v, d, n, p, rfl, _⟩ := h
    rfl
  · obtain ⟨v, d, n, p, rfl, hd, tb, k⟩ := h
    refine ⟨_, /- slots 0:thing 1:n 2:p 3:row -/
      (pss_cons (ps_if (PW.pt (pw_or (pt_not (pt_val (pe_callB call_isi (by rfl) T.m_isinstance (by decide +kernel) (pa_cons (pv 0) (pa_cons (pe_bltn (v := .ty "tuple") (by rfl) T.m_tuple (by decide +kernel) rfl) pa_nil))))) (pw_or1 (pt_cmpR op_gt (pe_callB call_lenT (by rfl) T.m_len (by decide +kernel) (pa_cons (pv 0) pa_nil)) (pe_glob (v := .int 5) rfl T.g_GREATEST_SUMS ⟨_, rfl⟩) (nomark _)))))
        (pss_one (ps_ret pe_bl))
        pss_nil) -- if not isinstance(thing, tuple) or len(thing) > GREATEST_SUMS:
      (pss_one (ps_ret (pe_allG (k := 5) (own := [("row", 3)]) (g := gName 3) (tt := tYes) (hr.mono (by decide)) rfl sc_is_table.nd (by rfl) T.m_all (by decide +kernel) TB_is_table rfl (pi_tup (pv 0)) (blkOk_by (own := [("row", 3)]) (N := n_is_table) (sc := defScope s_is_table) (by decide +kernel)) ⟨rfl, by decide +kernel, rfl⟩ (fun _ hr _ _ _ _ _ _ _ _ => (pg_name (i := 3) sc_is_table.nd rfl (by first | exact Or.inl rfl | exact Or.inr rfl))) (fun _ hr _ _ _ _ _ _ _ _ => pts_nil) (fun _ hr _ _ _ _ _ _ _ _ => (pe_dk d_is_row (hr.mono (by decide)) (by rfl) (pa_cons (pv 3) (pa_cons (pv 1) (pa_cons (pv 2) pa_nil))))))))), ?_⟩
    refine ⟨_, rfl, _, _, _, _, isTup d, rfl, .ty "tuple", hd.ty, kit_tup d, _, rfl, ?_⟩
    refine ite2 (fun h1 => ?_) (fun h1 => ?_)
    · have e : tabD d n p = false := by
        cases d with
        | tuple ds => cases h1
        | _ => rfl
      rw [e] at k
      exact k H (Sm.refl H) tb
    · cases hd with
      | non => exact absurd rfl h1
      | int i => exact absurd rfl h1
      | str x => exact absurd rfl h1
      | @tup a xs ds hs hds =>
        refine ⟨_, rfl, _, _, rfl, hs, _, _, rfl, rfl, _, rfl, ?_⟩
        rw [hds.len]
        refine ite2 (fun h2 => ?_) (fun h2 => ?_)
        · have h3 : (5 : Int) < (ds.length : Int) := of_decide_eq_true h2
          have e : tabD (.tuple ds) n p = false := by
            show (decide (ds.length ≤ 5) && ds.all fun x => rowD x n p) = false
            rw [decide_eq_false (by omega), Bool.false_and]
          rw [e] at k
          exact k H (Sm.refl H) tb
        · have h3 : ds.length ≤ 5 := by
            have : ¬ (5 : Int) < (ds.length : Int) := fun z => h2 (decide_eq_true z)
            omega
          have tb1 := tb P2 hP
          refine ⟨_, rfl, a, rfl, ⟨_, hs⟩, tb1, fun H2 td => ?_⟩
          obtain ⟨ps, hps, _⟩ := tb1
          have sm2 := Sm.tab td hps
          refine flag_it (d := true) (walk_tup (xs := xs)) (fun i H' => Sm H H' ∧ Tb Ts H' ∧ ∀ j x, j < i → ds[j]? = some x → rowD x n p = true) ⟨sm2, tb.tab td, fun j x hj => absurd hj (Nat.not_lt_zero j)⟩ (fun i H' _ h => h.1.seqT hs) ?_ ?_
          · rintro i x H3 H3' hi ⟨sm, tb3, hall⟩ ⟨rfl, hx⟩
            obtain ⟨dx, hdx, hD⟩ := hds.get hx
            refine ⟨rfl, _, rfl, _, rfl, _, rfl, x, dx, n, p, rfl, hD.sm sm, tb3, fun H4 sm4 tb4 => ⟨⟨_, rfl, fun e => ?_⟩, fun e => ⟨sm.trans sm4, tb4, fun j y hj hy => ?_⟩⟩⟩
            · have e : rowD dx n p = false := e
              have e2 : tabD (.tuple ds) n p = false := by
                show (decide (ds.length ≤ 5) && ds.all fun x => rowD x n p) = false
                rw [Bool.and_eq_false_iff]
                refine .inr (List.all_eq_false.mpr ⟨dx, List.mem_of_getElem? hdx, ?_⟩)
                rw [e]
                exact Bool.false_ne_true
              have q := k H4 (sm.trans sm4) tb4
              rw [e2] at q
              exact q
            · by_cases hji : j < i
              · exact hall j y hji hy
              · have : j = i := by omega
                subst this
                rw [hdx] at hy
                cases hy
                exact V.bl.inj e
          · rintro H3 ⟨sm, tb3, hall⟩
            have e2 : tabD (.tuple ds) n p = true := by
              show (decide (ds.length ≤ 5) && ds.all fun x => rowD x n p) = true
              rw [decide_eq_true h3, Bool.true_and, List.all_eq_true]
              intro y hy
              obtain ⟨j, hj, e⟩ := List.getElem_of_mem hy
              exact hall j y (by rw [hds.len]; exact hj) (by rw [List.getElem?_eq_getElem hj, e])
            have q := k H3 sm tb3
            rw [e2] at q
            exact q
end
end K03
namespace K03
open PySem L2 LW GX LD K00
def ival : PyData → Int
  | .int i => i
  | _ => 0
def faultD (d : PyData) : Option Int := match d with
  | .tuple [p, w, n, t, e] => if primeD p = false then some 0 else if fromD w 1 32 = false then some 1 else if fromD n 1 6 = false then some 2 else if tabD t (ival n) (ival p) = false then some 3 else if fromD e 0 3 = false then some 4 else none
  | _ => some (-1)
section
variable {P : Program} {w : World} {K : PySem.W.Frag} {mg : Str → Option Value} {base : Heap} {Ts : List Addr}
abbrev s_init : Stmt := inClass (topS 1) 0
theorem sc_init : FnScope ["self", "what"] ["self", "what"] (defScope s_init) := ⟨rfl, rfl, rfl, by decide +kernel, rfl, by decide +kernel, by decide +kernel⟩
theorem ok_init {f : Addr} {fd : FuncData} {n : Nat} (F : Fun K "__init__" "Refused.__init__" s_init f fd) : FnOk P w K mg base CX0 (n + 1) f fd ["self", "what"] (spInit K) := by
  refine F.ok sc_init (fun vs H Q E h => ?_) (fun cdv A outer s H vs Q E hr h => ?_)
  · obtain ⟨a, C, y, nm, rfl, _⟩ := h
    rfl
  · obtain ⟨a, C, y, nm, rfl, T, N, nw, nd, ha, k⟩ := h
    refine ⟨_, (pss_cons (ps_ost (pv 0) (pv 1)) (pss_one (ps_ost (pv 0) (pe_nm (pv 0))))), ?_⟩
    refine ⟨y, rfl, .ref a, rfl, a, C, rfl, T, nw, .inl ⟨ha, fun dx hd ne => ?_⟩⟩
    have e1 : upd (upd H dx (exd dx [("what", y)])) a (exo a C (some dx)) a = some (exo a C (some dx)) := upd_same
    have e2 : upd (upd H dx (exd dx [("what", y)])) a (exo a C (some dx)) dx = some (exd dx [("what", y)]) := by rw [upd_ne ne, upd_same]
    exact ⟨.ref a, rfl, a, C, dx, nm, rfl, e1, ⟨_, e2⟩, N, .ref a, rfl, a, C, rfl, T, nd, .inr ⟨dx, [("what", y)], e1, e2, (by show 1 ≤ 900; decide), k dx hd ne⟩⟩
def spMade (K : PySem.W.Frag) (Ts : List Addr) (C : Addr) : Sp := fun vs H Q E => ∃ (v : V) (d : PyData), vs = [v] ∧ DT K H v d ∧ Tb Ts H ∧
  (faultD d = none → ∀ H', Sm H H' → Tb Ts H' → Q v H') ∧ ∀ i, faultD d = some i → ∀ H' dd fs, Sm H H' → Tb Ts H' → H' dd = some (.xd fs) → fs.lookup ("what" : Str) = some (.int i) → E (.ref C) (some dd) H'
theorem dts_one {H : Hp} {xs : List V} {ds : List PyData} {n : Nat} (h : DTs K H xs ds) (hl : ds.length = n + 1) : ∃ v vs d es, xs = v :: vs ∧ ds = d :: es ∧ DT K H v d ∧ DTs K H vs es ∧ es.length = n := by
  cases h with
  | nil => cases hl
  | cons h1 h2 => exact ⟨_, _, _, _, rfl, rfl, h1, h2, Nat.succ.inj hl⟩
theorem dts_nil {H : Hp} {xs : List V} {ds : List PyData} (h : DTs K H xs ds) (hl : ds.length = 0) : xs = [] ∧ ds = [] := by
  cases h with
  | nil => exact ⟨rfl, rfl⟩
  | cons h1 h2 => cases hl
theorem fault_in {H H1 : Hp} {C : Addr} {i : Int} {E : XK} (sm : Sm H H1) (tb : Tb Ts H1) (k : ∀ H' dd fs, Sm H H' → Tb Ts H' → H' dd = some (.xd fs) → fs.lookup ("what" : Str) = some (.int i) → E (.ref C) (some dd) H') :
    ∀ d fs, H1 d = none → fs.lookup ("what" : Str) = some (.int i) → E (.ref C) (some d) (upd H1 d (.xd fs)) := fun d fs hd hw =>
  k _ d fs (sm.trans fun b o h _ => by rw [upd_ne (fun z => by rw [z, hd] at h; cases h)]; exact h) (fun P hP => by
    obtain ⟨ps, hps, r⟩ := tb P hP
    exact ⟨ps, by rw [upd_ne (fun z => by rw [z, hd] at hps; cases hps)]; exact hps, r⟩) upd_same hw
theorem ok_made {f C : Addr} {fd : FuncData} (F : Fun K "made_shape" "made_shape" s_made_shape f fd) (T : Tx mg) (x_BadShape : ExK P w K mg base 1 "BadShape" C) (d_is_from : Dk P w K mg base 2 "is_from" ["thing", "low", "high"] (spFrom K))
    (d_is_tuple_of : Dk P w K mg base 1 "is_tuple_of" ["thing", "many"] (spTupOf K)) (d_is_prime : Dk P w K mg base 3 "is_prime" ["p"] (spIsPrime K)) (d_is_table : Dk P w K mg base 8 "is_table" ["thing", "n", "p"] (spTable K Ts)) :
    FnOk P w K mg base (L2.CX P w) 9 f fd ["thing"] (spMade K Ts C) := by
  refine F.okX sc_made_shape (fun vs H Q E h => ?_) (fun cdv A outer s H vs Q E hr h => ?_)
  · obtain ⟨v, d, rfl, _⟩ := h
    rfl
  · obtain ⟨v, d, rfl, hd, tb, k, kx⟩ := h
    refine ⟨_, /- slots 0:thing 1:p 2:wide 3:n 4:table 5:e -/
      (pss_cons (ps_if (pt_not (pt_val (pe_dk d_is_tuple_of (hr.mono (by decide)) (by rfl) (pa_cons (pv 0) (pa_cons pe_int pa_nil)))))
        (pss_one (ps_raise rfl (takes_of rfl rfl rfl rfl) (pmk_ex x_BadShape (hr.mono (by decide)) (by rfl) (pa_cons (pe_un un_neg pe_int) pa_nil))))
        pss_nil) -- if not is_tuple_of(thing, 5):
      (pss_cons (ps_asg (pv 0) (pg_tup (by rfl) (pgs_cons (pg_name (i := 1) sc_made_shape.nd rfl (by first | exact Or.inl rfl | exact Or.inr rfl)) (pgs_cons (pg_name (i := 2) sc_made_shape.nd rfl (by first | exact Or.inl rfl | exact Or.inr rfl)) (pgs_cons (pg_name (i := 3) sc_made_shape.nd rfl (by first | exact Or.inl rfl | exact Or.inr rfl)) (pgs_cons (pg_name (i := 4) sc_made_shape.nd rfl (by first | exact Or.inl rfl | exact Or.inr rfl)) (pgs_cons (pg_name (i := 5) sc_made_shape.nd rfl (by first | exact Or.inl rfl | exact Or.inr rfl)) pgs_nil))))))) -- p, wide, n, table, e = thing
      (pss_cons (ps_if (pt_not (pt_val (pe_dk d_is_prime (hr.mono (by decide)) (by rfl) (pa_cons (pv 1) pa_nil))))
        (pss_one (ps_raise rfl (takes_of rfl rfl rfl rfl) (pmk_ex x_BadShape (hr.mono (by decide)) (by rfl) (pa_cons pe_int pa_nil))))
        pss_nil) -- if not is_prime(p):
      (pss_cons (ps_if (pt_not (pt_val (pe_dk d_is_from (hr.mono (by decide)) (by rfl) (pa_cons (pv 2) (pa_cons pe_int (pa_cons (pe_glob (v := .int 32) rfl T.g_GREATEST_WIDE ⟨_, rfl⟩) pa_nil))))))
        (pss_one (ps_raise rfl (takes_of rfl rfl rfl rfl) (pmk_ex x_BadShape (hr.mono (by decide)) (by rfl) (pa_cons pe_int pa_nil))))
        pss_nil) -- if not is_from(wide, 1, GREATEST_WIDE):
      (pss_cons (ps_if (pt_not (pt_val (pe_dk d_is_from (hr.mono (by decide)) (by rfl) (pa_cons (pv 3) (pa_cons pe_int (pa_cons (pe_glob (v := .int 6) rfl T.g_GREATEST_DATA ⟨_, rfl⟩) pa_nil))))))
        (pss_one (ps_raise rfl (takes_of rfl rfl rfl rfl) (pmk_ex x_BadShape (hr.mono (by decide)) (by rfl) (pa_cons pe_int pa_nil))))
        pss_nil) -- if not is_from(n, 1, GREATEST_DATA):
      (pss_cons (ps_if (pt_not (pt_val (pe_dk d_is_table (hr.mono (by decide)) (by rfl) (pa_cons (pv 4) (pa_cons (pv 3) (pa_cons (pv 1) pa_nil))))))
        (pss_one (ps_raise rfl (takes_of rfl rfl rfl rfl) (pmk_ex x_BadShape (hr.mono (by decide)) (by rfl) (pa_cons pe_int pa_nil))))
        pss_nil) -- if not is_table(table, n, p):
      (pss_cons (ps_if (pt_not (pt_val (pe_dk d_is_from (hr.mono (by decide)) (by rfl) (pa_cons (pv 5) (pa_cons pe_int (pa_cons (pe_glob (v := .int 3) rfl T.g_GREATEST_LOST ⟨_, rfl⟩) pa_nil))))))
        (pss_one (ps_raise rfl (takes_of rfl rfl rfl rfl) (pmk_ex x_BadShape (hr.mono (by decide)) (by rfl) (pa_cons pe_int pa_nil))))
        pss_nil) -- if not is_from(e, 0, GREATEST_LOST):
      (pss_one (ps_ret (pv 0)))))))))), ?_⟩
    refine ⟨_, rfl, v, d, 5, rfl, hd, _, rfl, ?_⟩
    refine ite2 (fun h1 => ?_) (fun h1 => ?_)
    · have h1 : tupOf d 5 = false := by
        rw [Bool.not_eq_true'] at h1
        exact h1
      refine ⟨_, rfl, mk_in x_BadShape (fault_in (Sm.refl H) tb (kx (-1) ?_))⟩
      cases d with
      | tuple ds =>
        have h1 : decide ((ds.length : Int) = 5) = false := h1
        match ds, h1 with
        | [], _ => rfl
        | [_], _ => rfl
        | [_, _], _ => rfl
        | [_, _, _], _ => rfl
        | [_, _, _, _], _ => rfl
        | [_, _, _, _, _], h1 => exact absurd h1 (by show decide ((5 : Int) = 5) ≠ false; decide)
        | _ :: _ :: _ :: _ :: _ :: _ :: _, _ => rfl
      | _ => rfl
    · have h1 : tupOf d 5 = true := by
        cases h2 : tupOf d 5 with
        | true => rfl
        | false => exact absurd (by rw [h2]; rfl) h1
      cases hd with
      | non => cases h1
      | int i => cases h1
      | str x => cases h1
      | @tup a xs ds hs hds =>
        have h2 : (ds.length : Int) = 5 := of_decide_eq_true h1
        obtain ⟨v1, xs, p, ds, rfl, rfl, dp, hds, h3⟩ := dts_one (n := 4) hds (by omega)
        obtain ⟨v2, xs, wd, ds, rfl, rfl, dw, hds, h3⟩ := dts_one hds h3
        obtain ⟨v3, xs, n, ds, rfl, rfl, dn, hds, h3⟩ := dts_one hds h3
        obtain ⟨v4, xs, t, ds, rfl, rfl, dt, hds, h3⟩ := dts_one hds h3
        obtain ⟨v5, xs, e, ds, rfl, rfl, de, hds, h3⟩ := dts_one hds h3
        obtain ⟨rfl, rfl⟩ := dts_nil hds h3
        refine ⟨_, rfl, a, _, rfl, hs, rfl, _, _, rfl, _, _, rfl, _, _, rfl, _, _, rfl, _, _, rfl, rfl, _, rfl, v1, p, rfl, dp, _, rfl, ?_⟩
        have ef : faultD (.tuple [p, wd, n, t, e]) = if primeD p = false then some 0 else if fromD wd 1 32 = false then some 1 else if fromD n 1 6 = false then some 2 else if tabD t (ival n) (ival p) = false then some 3 else if fromD e 0 3 = false then some 4 else none := rfl
        have bt : ∀ {b : Bool}, ¬ (!b) = true → ¬ b = false := fun {b} h => by
          cases b
          · exact absurd rfl h
          · exact Bool.noConfusion
        have bf : ∀ {b : Bool}, (!b) = true → b = false := fun {b} h => by
          cases b
          · rfl
          · exact absurd h Bool.false_ne_true
        refine ite2 (fun p1 => ?_) (fun p1 => ?_)
        · exact mk_in x_BadShape (fault_in (Sm.refl H) tb (kx 0 (by rw [ef, if_pos (bf p1)])))
        rw [if_neg (bt p1)] at ef
        refine ⟨_, rfl, v2, wd, 1, 32, rfl, dw, _, rfl, ?_⟩
        refine ite2 (fun p2 => ?_) (fun p2 => ?_)
        · exact mk_in x_BadShape (fault_in (Sm.refl H) tb (kx 1 (by rw [ef, if_pos (bf p2)])))
        rw [if_neg (bt p2)] at ef
        refine ⟨_, rfl, v3, n, 1, 6, rfl, dn, _, rfl, ?_⟩
        refine ite2 (fun p3 => ?_) (fun p3 => ?_)
        · exact mk_in x_BadShape (fault_in (Sm.refl H) tb (kx 2 (by rw [ef, if_pos (bf p3)])))
        rw [if_neg (bt p3)] at ef
        obtain ⟨i1, rfl⟩ : ∃ i, p = .int i := by
          cases p with
          | int i => exact ⟨i, rfl⟩
          | _ => exact absurd rfl p1
        obtain ⟨i3, rfl⟩ : ∃ i, n = .int i := by
          cases n with
          | int i => exact ⟨i, rfl⟩
          | _ => exact absurd rfl p3
        cases dp
        cases dn
        refine ⟨_, rfl, _, rfl, _, rfl, v4, t, i3, i1, rfl, dt, tb, fun H2 sm tb2 => ⟨_, rfl, ?_⟩⟩
        have ef : faultD (.tuple [.int i1, wd, .int i3, t, e]) = if tabD t i3 i1 = false then some 3 else if fromD e 0 3 = false then some 4 else none := ef
        refine ite2 (fun p4 => ?_) (fun p4 => ?_)
        · exact mk_in x_BadShape (fault_in sm tb2 (kx 3 (by rw [ef, if_pos (bf p4)])))
        rw [if_neg (bt p4)] at ef
        refine ⟨_, rfl, v5, e, 0, 3, rfl, de.sm sm, _, rfl, ?_⟩
        refine ite2 (fun p5 => ?_) (fun p5 => ?_)
        · exact mk_in x_BadShape (fault_in sm tb2 (kx 4 (by rw [ef, if_pos (bf p5)])))
        rw [if_neg (bt p5)] at ef
        exact ⟨_, rfl, k ef H2 sm tb2⟩
end
end K03
namespace K03
open PySem L2 LW GX LD K00
section
variable {P : Program} {w : World} {K : PySem.W.Frag} {mg : Str → Option Value} {base : Heap} {Ts : List Addr}
/-- what the two classes say -/
structure ClsX (K : PySem.W.Frag) (mg : Str → Option Value) (C B : Addr) : Prop where
  gS : mg "BadShape" = some (.ref C)
  gB : mg "BadCell" = some (.ref B)
  ex : PySem.W.exmOne K (.ref C) (.ref C) = some true
  kt : PySem.W.kitOne K (.ref C) (.ref B) = some false
  E : ExcC K C
  X : XfC K C
  nw : PySem.W.findIn K (.ref C) "what" = some none
def vOpt : Option Int → V
  | none => .non
  | some i => .int i
def spRefusal (K : PySem.W.Frag) (Ts : List Addr) : Sp := fun vs H Q _ => ∃ (v : V) (d : PyData), vs = [v] ∧ DT K H v d ∧ Tb Ts H ∧ ∀ H', Sm H H' → Tb Ts H' → Q (vOpt (faultD d)) H'
theorem ok_refusal {f C B : Addr} {fd : FuncData} (F : Fun K "_law_refusal" "_law_refusal" s_law_refusal f fd) (T : Tx mg) (CL : ClsX K mg C B) (d_made_shape : DkX P w K mg base 9 "made_shape" ["thing"] (spMade K Ts C)) :
    FnOk P w K mg base CX0 10 f fd ["thing"] (spRefusal K Ts) := by
  refine F.ok sc_law_refusal (fun vs H Q E h => ?_) (fun cdv A outer s H vs Q E hr h => ?_)
  · obtain ⟨v, d, rfl, _⟩ := h
    rfl
  · obtain ⟨v, d, rfl, hd, tb, k⟩ := h
    refine ⟨_, (pss_cons (ps_try_fst (i := 1) rfl rfl sc_law_refusal.nd rfl rfl ⟨by rfl, by decide, .inl CL.gS⟩
      (fun W pn xe tk _ => pss_one (ps_expr (pe_dkT tk d_made_shape (hr.mono (by decide)) (by rfl) (pa_cons (pv 0) pa_nil))))
      (fun a oe cls d pn hz hf => pss_one (ps_ret (pe_ifExp (pt_val (pe_callB (call_isX CL.E hz hf) (by rfl) T.m_isinstance (by decide +kernel) (pa_cons (pv 1) (pa_cons (pe_glob (v := .ref B) rfl CL.gB rfl) pa_nil)))) pe_str (pe_xf CL.X CL.nw hz hf (pv 1))))))
      (pss_one (ps_ret pe_non))), ?_⟩
    refine ⟨_, rfl, v, d, rfl, hd, tb, fun e H' sm tb' => ?_, fun i e H' dd fs sm tb' hdd hw => ⟨CL.ex, fun a na => ?_⟩⟩
    · have k := k H' sm tb'
      rw [e] at k
      exact k
    · have k := k H' sm tb'
      rw [e] at k
      refine ⟨_, rfl, .ref B, .ref B, false, dd, _, rfl, rfl, rfl, hdd, fun u h => h, CL.kt, ?_⟩
      refine ⟨_, rfl, ?_⟩
      refine ite2 (fun h => absurd h Bool.false_ne_true) (fun _ => ?_)
      exact ⟨_, rfl, rfl, rfl, dd, _, _, rfl, hdd, hw, k⟩
end
end K03
namespace K03
open PySem L2 LW GX LD K00
section
variable {P : Program} {w : World} {K : PySem.W.Frag} {mg : Str → Option Value} {base : Heap}
/-! ### the law's pool -/
def spPool (K : PySem.W.Frag) : Sp := fun vs H Q _ => ∃ (a : Addr) (ns : List Int) (k : Int), vs = [.ref a, .int k] ∧ SqL K H a (ns.map V.int) ∧ ns.length ≤ 63 ∧ 0 ≤ k ∧ k ≤ 1000 ∧ ∀ H' p, Same H H' → H p = none → Pl H' p → Q (.ref p) H'
theorem ok_pool {f : Addr} {fd : FuncData} {n : Nat} (F : Fun K "_law_pool" "_law_pool" s_law_pool f fd) (T : Tx mg) : FnOk P w K mg base CX0 (n + 1) f fd ["script", "k"] (spPool K) := by
  refine F.ok sc_law_pool (fun vs H Q E h => ?_) (fun cdv A outer s H vs Q E hr h => ?_)
  · obtain ⟨a, ns, k, rfl, _⟩ := h
    rfl
  · obtain ⟨a, ns, k, rfl, hS, hl, hk0, hk1, q⟩ := h
    refine ⟨_, /- slots 0:script 1:k 2:cell 3:big 4:mixed -/
      (pss_cons (ps_set (i := 2) sc_law_pool.nd rfl (by first | exact Or.inl rfl | exact Or.inr rfl) pe_int) -- cell = 0
      (C8.pss_cut (ps_if (pt_cmpR op_lt (pv 1) (pe_callB call_lenL (by rfl) T.m_len (by decide +kernel) (pa_cons (pv 0) pa_nil)) (nomark _))
        (pss_one (ps_set (i := 2) sc_law_pool.nd rfl (by first | exact Or.inl rfl | exact Or.inr rfl) (pe_ix ix_list (pv 0) (pv 1) (fun _ _ => rfl))))
        (pss_one (ps_if (pt_cmpR (op_neD hr.units) (pv 0) (pe_lst pa_nil) (nomark _))
          (pss_one (ps_set (i := 2) sc_law_pool.nd rfl (by first | exact Or.inl rfl | exact Or.inr rfl) (pe_ix ix_list (pv 0) pe_int (fun _ _ => rfl))))
          pss_nil))) -- if k < len(script):
      (pss_cons (ps_set (i := 3) sc_law_pool.nd rfl (by first | exact Or.inl rfl | exact Or.inr rfl) (pe_callB (call_max2 rfl) (by rfl) T.m_max (by decide +kernel) (pa_cons (pe_callTy call_intI (by rfl) T.m_int (by decide +kernel) (pa_cons (pv 2) pa_nil)) (pa_cons (pe_callTy call_intI (by rfl) T.m_int (by decide +kernel) (pa_cons (pe_op op_sub (pe_un un_neg pe_int) (pv 2)) pa_nil)) pa_nil)))) -- big = max(int(cell), int(-1 - cell))
      (pss_cons (ps_set (i := 4) sc_law_pool.nd rfl (by first | exact Or.inl rfl | exact Or.inr rfl) (pe_op op_mod (pe_callTy call_intI (by rfl) T.m_int (by decide +kernel) (pa_cons (pe_op op_mul (pe_op op_add (pe_op op_add (pe_op op_add (pe_op op_mod (pe_callTy call_intI (by rfl) T.m_int (by decide +kernel) (pa_cons (pv 3) pa_nil)) pe_int) (pe_op op_mul (pe_op op_mul pe_int (pv 1)) (pv 1))) (pe_op op_mul pe_int (pv 1))) pe_int) pe_int) pa_nil)) pe_int)) -- mixed = int((int(big) % 2147483629 + 7919 * k * k + 31 * k + 17) * 48271) % 2147483647
      (pss_one (ps_ret (pe_lst (pa_cons (pe_op op_mul (pv 3) (pe_callTy call_intB (by rfl) T.m_int (by decide +kernel) (pa_cons (pe_and (pe_cmpR op_ge (pv 3) (pe_op op_pow pe_int pe_int) (nomark _)) (pe_one (pe_cmpR op_lt (pv 1) (pe_callB call_lenL (by rfl) T.m_len (by decide +kernel) (pa_cons (pv 0) pa_nil)) (nomark _)))) pa_nil))) (pa_cons (pv 4) pa_nil))))))))), ?_⟩
    have at_ns : ∀ {i : Nat}, i < ns.length → ∃ c, (ns.map V.int)[i]? = some (.int c) := fun {i} hi => ⟨ns[i], by rw [List.getElem?_map, List.getElem?_eq_getElem hi]; rfl⟩
    have len_ns : (ns.map V.int).length = ns.length := List.length_map ..
    refine ⟨fun σ' H' => ∃ c : Int, σ' = [some (.ref a), some (.int k), some (.int c), none, none] ∧ Same H H', ?_, ?_⟩
    · refine ⟨_, rfl, _, rfl, a, _, rfl, hS, _, _, rfl, rfl, _, rfl, ?_⟩
      refine ite2 (fun h1 => ?_) (fun h1 => ?_)
      · have h2 : k < ((ns.map V.int).length : Int) := of_decide_eq_true h1
        rw [len_ns] at h2
        obtain ⟨c, hc⟩ := at_ns (i := k.toNat) (by omega)
        exact ⟨_, rfl, _, rfl, a, _, _, _, rfl, rfl, hS, at_of (j := k.toNat) (by omega) hc, c, rfl, Same.refl H⟩
      · refine ⟨_, rfl, Nat.zero_le _, fun z hz => ?_⟩
        have sz : Same H (upd H z (.lst [])) := same_upd hz
        refine ⟨.list (ns.map PyData.int), .list [], .lst (sz.seq hS) (dpAll_ints ns), .lst (SqL.of upd_same) .nil, shaped_ints ns, by decide, _, rfl, ?_⟩
        rw [eqv_nil]
        refine ite2 (fun h3 => ?_) (fun h3 => ?_)
        · have h4 : 0 < ns.length := by
            cases ns with
            | nil => exact absurd h3 (by decide)
            | cons x r => exact Nat.succ_pos _
          obtain ⟨c, hc⟩ := at_ns (i := 0) h4
          exact ⟨_, rfl, a, _, _, _, rfl, rfl, sz.seq hS, atI_nat (j := 0) hc, c, rfl, sz⟩
        · exact ⟨0, rfl, sz⟩
    · rintro σ' H' ⟨c, rfl, sm⟩
      -- big = max(int(cell), int(-1 - cell))
      refine ⟨_, rfl, _, rfl, _, rfl, _, rfl, _, _, rfl, rfl, _, rfl, _, _, rfl, ?_⟩
      obtain ⟨b, hb, hb0⟩ : ∃ b : Int, (if -1 - c > c then -1 - c else c) = b ∧ 0 ≤ b := ⟨_, rfl, by split <;> omega⟩
      dsimp only
      rw [hb]
      -- mixed
      refine ⟨_, rfl, _, rfl, _, _, rfl, rfl, (by show (0 : Int) < 2147483629; decide), _, rfl, _, _, rfl, rfl, .inl ⟨by omega, by omega⟩, _, rfl, _, _, rfl, rfl, .inr ⟨by omega, by omega⟩, _, _, rfl, rfl, _, rfl, _, _, rfl, rfl, .inl ⟨by omega, by omega⟩, _, _, rfl, rfl, _, _, rfl, rfl, _, _, rfl, rfl, .inr ⟨by omega, by omega⟩, _, rfl, _, _, rfl, rfl, (by show (0 : Int) < 2147483647; decide), ?_⟩
      obtain ⟨y, hy, hy0, hy1⟩ : ∃ y : Int, (b % 2147483629 + 7919 * k * k + 31 * k + 17) * 48271 % 2147483647 = y ∧ 0 ≤ y ∧ y < 2147483647 := ⟨_, rfl, Int.emod_nonneg _ (by decide), Int.emod_lt_of_pos _ (by decide)⟩
      dsimp only
      rw [hy]
      -- [big * int(big >= 10 ** 18 and k < len(script)), mixed]
      refine ⟨_, rfl, _, rfl, _, _, rfl, rfl, ⟨by decide, by decide, by decide⟩, _, _, rfl, rfl, _, rfl, ?_⟩
      refine ite2 (fun h1 => ?_) (fun h1 => ?_)
      · refine ⟨_, rfl, _, rfl, a, _, rfl, sm.seq hS, _, _, rfl, rfl, _, rfl, _, _, rfl, rfl, .inr ?_, ?_⟩
        · split <;> exact ⟨by decide, by decide⟩
        · refine ⟨_, rfl, (by show 2 ≤ sizeLine; decide), fun p hp => q _ p (sm.trans (same_upd hp)) (sm.free hp) ⟨_, y, ?_, hy0, hy1, upd_same⟩⟩
          split <;> omega
      · refine ⟨_, rfl, _, _, rfl, rfl, .inr ⟨by decide, by decide⟩, _, rfl, (by show 2 ≤ sizeLine; decide), fun p hp => q _ p (sm.trans (same_upd hp)) (sm.free hp) ⟨_, y, ?_, hy0, hy1, upd_same⟩⟩
        show 0 ≤ b * 0
        omega
def spTake : Sp := fun vs H Q _ => ∃ (p : Addr) (top : Int), vs = [.ref p, .int top] ∧ Pl H p ∧ 0 < top ∧ top < 1073741824 ∧ ∀ d H', 0 ≤ d → d < top → Rl p H H' → Pl H' p → Q (.int d) H'
theorem ok_take {f : Addr} {fd : FuncData} {n : Nat} (F : Fun K "_law_take" "_law_take" s_law_take f fd) (T : Tx mg) : FnOk P w K mg base CX0 (n + 1) f fd ["source", "top"] spTake := by
  refine F.ok sc_law_take (fun vs H Q E h => ?_) (fun cdv A outer s H vs Q E hr h => ?_)
  · obtain ⟨p, t, rfl, _⟩ := h
    rfl
  · obtain ⟨p, top, rfl, ⟨x, y, hx, hy, hy1, hp⟩, ht0, ht1, q⟩ := h
    refine ⟨_, /- slots 0:source 1:top 2:drawn -/
      (pss_cons (ps_if (pt_cmpR op_gt (pe_ix ix_list (pv 0) pe_int (fun _ _ => rfl)) pe_int (nomark _))
        (pss_cons (ps_set (i := 2) sc_law_take.nd rfl (by first | exact Or.inl rfl | exact Or.inr rfl) (pe_op op_mod (pe_callTy call_intI (by rfl) T.m_int (by decide +kernel) (pa_cons (pe_ix ix_list (pv 0) pe_int (fun _ _ => rfl)) pa_nil)) (pv 1))) -- drawn = int(source[0]) % top
        (pss_cons (ps_asg (pe_op op_fdiv (pe_ix ix_list (pv 0) pe_int (fun _ _ => rfl)) (pv 1)) (pg_sub (pv 0) pe_int set_list)) -- source[0] = source[0] // top
        (pss_one (ps_ret (pv 2)))))
        pss_nil) -- if source[0] > 0:
      (pss_cons (ps_asg (pe_op op_mod (pe_callTy call_intI (by rfl) T.m_int (by decide +kernel) (pa_cons (pe_op op_add (pe_op op_mul (pe_ix ix_list (pv 0) pe_int (fun _ _ => rfl)) pe_int) pe_int) pa_nil)) pe_int) (pg_sub (pv 0) pe_int set_list)) -- source[1] = int(source[1] * 39373 + 7) % 2147483647
      (pss_one (ps_ret (pe_op op_mod (pe_callTy call_intI (by rfl) T.m_int (by decide +kernel) (pa_cons (pe_op op_fdiv (pe_op op_mod (pe_callTy call_intI (by rfl) T.m_int (by decide +kernel) (pa_cons (pe_op op_mul (pe_ix ix_list (pv 0) pe_int (fun _ _ => rfl)) (pe_ix ix_list (pv 0) pe_int (fun _ _ => rfl))) pa_nil)) pe_int) pe_int) pa_nil)) (pv 1)))))), ?_⟩
    refine ⟨_, rfl, p, _, _, _, rfl, rfl, SqL.of hp, int0, _, _, rfl, rfl, _, rfl, ?_⟩
    refine ite2 (fun h1 => ?_) (fun h1 => ?_)
    · refine ⟨_, rfl, p, _, _, _, rfl, rfl, SqL.of hp, int0, _, rfl, _, rfl, _, _, rfl, rfl, ht0, ?_⟩
      refine ⟨_, rfl, p, _, _, _, rfl, rfl, SqL.of hp, int0, _, rfl, _, _, rfl, rfl, ⟨ht0, ht1⟩, ?_⟩
      refine ⟨_, rfl, p, _, _, _, rfl, rfl, hp, rfl, ?_⟩
      refine ⟨_, rfl, ?_⟩
      exact q _ _ (Int.emod_nonneg _ (by omega)) (Int.emod_lt_of_pos _ ht0) Rl.upd ⟨_, y, Int.ediv_nonneg hx (by omega), hy, hy1, upd_same⟩
    · refine ⟨_, rfl, p, _, _, _, rfl, rfl, SqL.of hp, int1, _, _, rfl, rfl, .inl ⟨by omega, by omega⟩, _, _, rfl, rfl, _, rfl, _, _, rfl, rfl, (by show (0 : Int) < 2147483647; decide), ?_⟩
      obtain ⟨z, hz, hz0, hz1⟩ : ∃ z : Int, (y * 39373 + 7) % 2147483647 = z ∧ 0 ≤ z ∧ z < 2147483647 := ⟨_, rfl, Int.emod_nonneg _ (by decide), Int.emod_lt_of_pos _ (by decide)⟩
      refine ⟨_, rfl, p, _, _, _, rfl, rfl, hp, rfl, ?_⟩
      dsimp only
      rw [hz]
      have h1 : (upd H p (.lst [.int x, .int z])) p = some (.lst [.int x, .int z]) := upd_same
      refine ⟨_, rfl, p, _, _, _, rfl, rfl, SqL.of h1, int1, _, rfl, p, _, _, _, rfl, rfl, SqL.of h1, int1, _, _, rfl, rfl, .inl ⟨by omega, by omega⟩, _, rfl, _, _, rfl, rfl, (by show (0 : Int) < 2147483629; decide), _, _, rfl, rfl, ⟨by decide, by decide⟩, _, rfl, _, rfl, _, _, rfl, rfl, ht0, ?_⟩
      exact q _ _ (Int.emod_nonneg _ (by omega)) (Int.emod_lt_of_pos _ ht0) Rl.upd ⟨x, z, hx, hz0, hz1, h1⟩
def spOne (K : PySem.W.Frag) : Sp := fun vs H Q _ => ∃ (p t : Addr) (xs : List V), vs = [.ref p, .ref t] ∧ Pl H p ∧ t ≠ p ∧ SqL K H t xs ∧ 0 < xs.length ∧ xs.length < 1073741824 ∧ ∀ (j : Nat) v H', xs[j]? = some v → Rl p H H' → Pl H' p → Q v H'
theorem ok_one {f : Addr} {fd : FuncData} (F : Fun K "_law_one" "_law_one" s_law_one f fd) (T : Tx mg) (d_law_take : Dk P w K mg base 1 "_law_take" ["source", "top"] spTake) : FnOk P w K mg base CX0 2 f fd ["source", "things"] (spOne K) := by
  refine F.ok sc_law_one (fun vs H Q E h => ?_) (fun cdv A outer s H vs Q E hr h => ?_)
  · obtain ⟨p, t, xs, rfl, _⟩ := h
    rfl
  · obtain ⟨p, t, xs, rfl, hp, nt, hS, hl0, hl1, q⟩ := h
    refine ⟨_, /- slots 0:source 1:things -/
      (pss_one (ps_ret (pe_ix ix_list (pv 1) (pe_dk d_law_take (hr.mono (by decide)) (by rfl) (pa_cons (pv 0) (pa_cons (pe_callB call_lenL (by rfl) T.m_len (by decide +kernel) (pa_cons (pv 1) pa_nil)) pa_nil))) (fun _ _ => rfl)))), ?_⟩
    refine ⟨_, rfl, _, rfl, _, rfl, t, xs, rfl, hS, p, _, rfl, hp, by omega, by omega, fun d H' d0 d1 rl hp' => ?_⟩
    have hd : d.toNat < xs.length := by omega
    exact ⟨t, xs, d, xs[d.toNat], rfl, rfl, rl.seq nt hS, at_of (j := d.toNat) (by omega) (List.getElem?_eq_getElem hd), q d.toNat _ _ (List.getElem?_eq_getElem hd) rl hp'⟩
end
end K03
namespace K03
open PySem L2 LW GX LD K00
theorem _root_.LD.DT.rl {K : PySem.W.Frag} {H H' : Hp} {p : Addr} {v : V} {d : PyData} (h : DT K H v d) (e : Rl p H H') (hp : Pl H p) : DT K H' v d := h.mono fun a xs q => by
  refine q.imp (fun q => ?_) id
  obtain ⟨x, y, _, _, _, hh⟩ := hp
  rcases q with q | ⟨o, q⟩
  · exact .inl (e _ _ (fun z => by rw [z, hh] at q; cases q) q)
  · exact .inr ⟨o, e _ _ (fun z => by rw [z, hh] at q; cases q) q⟩
theorem _root_.LD.DTs.rl {K : PySem.W.Frag} {H H' : Hp} {p : Addr} {v : List V} {d : List PyData} (h : DTs K H v d) (e : Rl p H H') (hp : Pl H p) : DTs K H' v d := h.mono fun a xs q => by
  refine q.imp (fun q => ?_) id
  obtain ⟨x, y, _, _, _, hh⟩ := hp
  rcases q with q | ⟨o, q⟩
  · exact .inl (e _ _ (fun z => by rw [z, hh] at q; cases q) q)
  · exact .inr ⟨o, e _ _ (fun z => by rw [z, hh] at q; cases q) q⟩
theorem _root_.LD.Tb.rl {Ts : List Addr} {H H' : Hp} {p : Addr} (t : Tb Ts H) (e : Rl p H H') (hp : Pl H p) : Tb Ts H' := fun P hP => by
  obtain ⟨x, y, _, _, _, hh⟩ := hp
  obtain ⟨ps, h1, h2⟩ := t P hP
  exact ⟨ps, e _ _ (fun z => by rw [z, hh] at h1; cases h1) h1, h2⟩
theorem _root_.LD.Sm.pl {H H' : Hp} {p : Addr} (e : Sm H H') (h : Pl H p) : Pl H' p := by
  obtain ⟨x, y, a, b, c, hh⟩ := h
  exact ⟨x, y, a, b, c, e _ _ hh fun ps => nofun⟩
section
variable {P : Program} {w : World} {K : PySem.W.Frag} {mg : Str → Option Value} {base : Heap} {Ts : List Addr}
def spLIsP : Sp := fun vs H Q _ => ∃ n : Int, vs = [.int n] ∧ 1 ≤ n ∧ n ≤ 65535 ∧ Q (.bl (isP n)) H
theorem ok_lisp {f : Addr} {fd : FuncData} {n : Nat} (F : Fun K "_law_is_prime" "_law_is_prime" s_law_is_prime f fd) (T : Tx mg) : FnOk P w K mg base CX0 (n + 1) f fd ["number"] spLIsP := by
  refine F.ok sc_law_is_prime (fun vs H Q E h => ?_) (fun cdv A outer s H vs Q E hr h => ?_)
  · obtain ⟨n, rfl, _⟩ := h
    rfl
  · obtain ⟨n, rfl, h1, h2, k⟩ := h
    refine ⟨_, /- slots 0:number 1:by -/
      (pss_cons (ps_for PassesOwn.never rfl (pi_range2 (by rfl) T.m_range (pa_cons pe_int (pa_cons pe_int pa_nil))) (pg_name (i := 1) sc_law_is_prime.nd rfl (by first | exact Or.inl rfl | exact Or.inr rfl))
        (pss_cons (ps_if (pt_cmpR op_gt (pe_op op_mul (pv 1) (pv 1)) (pv 0) (nomark _))
          (pss_one ps_break)
          pss_nil) -- if by * by > number:
        (pss_one (ps_if (pt_cmpR op_eq (pe_op op_mod (pe_callTy call_intI (by rfl) T.m_int (by decide +kernel) (pa_cons (pv 0) pa_nil)) (pv 1)) pe_int (nomark _))
          (pss_one (ps_ret pe_bl))
          pss_nil)))) -- for by in range(2, 256):
      (pss_one (ps_ret (pe_cmpR op_gt (pv 0) pe_int (nomark _))))), ?_⟩
    have fin : (∀ c : Int, 2 ≤ c → c < 257 → c * c ≤ n → n % c ≠ 0) → Q (.bl (decide (n > 1))) H := fun h => by
      by_cases h3 : 2 ≤ n
      · rw [isP_of h3 fun c c2 c3 cs cm => h c c2 c3 cs cm] at k
        rw [decide_eq_true (by omega)]
        exact k
      · have e : isP n = false := by
          unfold isP
          rw [decide_eq_false h3, Bool.false_and]
        rw [e] at k
        rw [decide_eq_false (by omega)]
        exact k
    refine ⟨2, 256, rfl, ⟨by decide, by decide, by decide, by decide⟩, ?_⟩
    refine for_range (lo := 2) (n := 254) (fun i σ H' => ∃ bv : Option V, σ = [some (.int n), bv] ∧ H = H' ∧ ∀ c : Int, 2 ≤ c → c < 2 + i → n % c ≠ 0) ⟨none, rfl, rfl, fun c h1 h2 => by omega⟩ ?_ ?_
    · rintro i σ H' hi ⟨bv, rfl, rfl, hn⟩
      refine ⟨_, rfl, _, rfl, _, _, rfl, rfl, .inl ⟨by omega, by omega⟩, _, rfl, _, _, rfl, rfl, _, rfl, ?_⟩
      refine ite2 (fun h3 => ?_) (fun h3 => ?_)
      · have h4 : (2 + (i : Int)) * (2 + (i : Int)) > n := of_decide_eq_true h3
        refine ⟨_, rfl, _, _, rfl, rfl, fin fun c c2 c3 cs cm => ?_⟩
        by_cases hc : c < 2 + (i : Int)
        · exact hn c c2 hc cm
        · have : (2 + (i : Int)) * (2 + (i : Int)) ≤ c * c := Int.mul_le_mul (by omega) (by omega) (by omega) (by omega)
          omega
      · refine ⟨_, rfl, _, rfl, _, rfl, _, _, rfl, rfl, (by show (0 : Int) < 2 + (i : Int); omega), rfl, _, rfl, ?_⟩
        have h4 : ¬ (2 + (i : Int)) * (2 + (i : Int)) > n := fun q => h3 (decide_eq_true q)
        refine ite2 (fun h5 => ?_) (fun h5 => ?_)
        · have h6 : n % (2 + (i : Int)) = 0 := V.int.inj (of_decide_eq_true h5)
          have q := isP_false (d := 2 + (i : Int)) (by omega) (by omega) (by omega) h6
          rw [q] at k
          exact k
        · refine ⟨_, rfl, rfl, fun c c2 c3 => ?_⟩
          by_cases hc : c < 2 + (i : Int)
          · exact hn c c2 hc
          · have : c = 2 + (i : Int) := by omega
            subst this
            exact fun q => h5 (decide_eq_true (congrArg V.int q))
    · rintro σ H' ⟨bv, rfl, rfl, hn⟩
      refine ⟨_, rfl, _, _, rfl, rfl, fin fun c c2 c3 cs cm => ?_⟩
      by_cases hc : c < 256
      · exact hn c c2 (by omega) cm
      · have : c = 256 := by omega
        subst this
        omega
def spPrime : Sp := fun vs H Q _ => ∃ p : Addr, vs = [.ref p] ∧ Pl H p ∧ ∀ (g : Int) H', isP g = true → 2 ≤ g → g ≤ 65521 → Rl p H H' → Pl H' p → Q (.int g) H'
theorem ok_prime {f : Addr} {fd : FuncData} (F : Fun K "_law_prime" "_law_prime" s_law_prime f fd) (T : Tx mg) (d_law_take : Dk P w K mg base 1 "_law_take" ["source", "top"] spTake)
    (d_law_one : Dk P w K mg base 2 "_law_one" ["source", "things"] (spOne K)) (d_law_is_prime : Dk P w K mg base 1 "_law_is_prime" ["number"] spLIsP) : FnOk P w K mg base CX0 3 f fd ["source"] spPrime := by
  refine F.ok sc_law_prime (fun vs H Q E h => ?_) (fun cdv A outer s H vs Q E hr h => ?_)
  · obtain ⟨p, rfl, _⟩ := h
    rfl
  · obtain ⟨p, rfl, hp, k⟩ := h
    refine ⟨_, /- slots 0:source 1:begin 2:step -/
      (pss_cons (ps_set (i := 1) sc_law_prime.nd rfl (by first | exact Or.inl rfl | exact Or.inr rfl) (pe_dk d_law_one (hr.mono (by decide)) (by rfl) (pa_cons (pv 0) (pa_cons (pe_lst (pa_cons pe_int (pa_cons pe_int (pa_cons pe_int (pa_cons pe_int (pa_cons pe_int (pa_cons pe_int (pa_cons (pe_op op_add pe_int (pe_dk d_law_take (hr.mono (by decide)) (by rfl) (pa_cons (pv 0) (pa_cons pe_int pa_nil)))) (pa_cons (pe_op op_add pe_int (pe_dk d_law_take (hr.mono (by decide)) (by rfl) (pa_cons (pv 0) (pa_cons pe_int pa_nil)))) pa_nil))))))))) pa_nil)))) -- begin = _law_one(source, [2, 3, 5, 7, 257, 65521, 2 + _law_take(source, 65520), 2 + _law_take(source
      (pss_cons (ps_for PassesOwn.never rfl (pi_range1 (by rfl) T.m_range (pa_cons (pe_op op_sub (pv 1) pe_int) pa_nil)) (pg_name (i := 2) sc_law_prime.nd rfl (by first | exact Or.inl rfl | exact Or.inr rfl))
        (pss_one (ps_if (pt_val (pe_dk d_law_is_prime (hr.mono (by decide)) (by rfl) (pa_cons (pe_op op_sub (pv 1) (pv 2)) pa_nil)))
          (pss_one (ps_ret (pe_op op_sub (pv 1) (pv 2))))
          pss_nil))) -- for step in range(begin - 1):
      (pss_one (ps_ret pe_int)))), ?_⟩
    refine ⟨_, rfl, _, rfl, p, 65520, rfl, hp, by decide, by decide, fun d1 H1 d10 d11 rl1 hp1 => ?_⟩
    refine ⟨_, _, rfl, rfl, _, rfl, p, 65520, rfl, hp1, by decide, by decide, fun d2 H2 d20 d21 rl2 hp2 => ?_⟩
    refine ⟨_, _, rfl, rfl, (by show 8 ≤ sizeLine; decide), fun t nt => ?_⟩
    refine ⟨p, t, _, rfl, hp2.same (same_upd nt), (hp2.ne nt).symm, SqL.of upd_same, by show 0 < 8; decide, by show 8 < 1073741824; decide, fun j v H3 hj rl3 hp3 => ?_⟩
    have rl : Rl p H H3 := rl1.trans (rl2.trans ((Rl.same (same_upd nt)).trans rl3))
    obtain ⟨m, rfl, hm0, hm1⟩ : ∃ m : Int, v = .int m ∧ 2 ≤ m ∧ m ≤ 65521 := by
      match j, hj with
      | 0, hj => exact ⟨2, (Option.some.inj hj).symm, by decide, by decide⟩
      | 1, hj => exact ⟨3, (Option.some.inj hj).symm, by decide, by decide⟩
      | 2, hj => exact ⟨5, (Option.some.inj hj).symm, by decide, by decide⟩
      | 3, hj => exact ⟨7, (Option.some.inj hj).symm, by decide, by decide⟩
      | 4, hj => exact ⟨257, (Option.some.inj hj).symm, by decide, by decide⟩
      | 5, hj => exact ⟨65521, (Option.some.inj hj).symm, by decide, by decide⟩
      | 6, hj => exact ⟨2 + d1, (Option.some.inj hj).symm, by omega, by omega⟩
      | 7, hj => exact ⟨2 + d2, (Option.some.inj hj).symm, by omega, by omega⟩
      | n + 8, hj => cases hj
    refine ⟨_, rfl, _, _, rfl, rfl, m - 1, rfl, by omega, by omega, ?_⟩
    refine for_range (lo := 0) (n := (m - 1).toNat) (fun i σ H' => ∃ (tv : Option V), σ = [some (.ref p), some (.int m), tv] ∧ H3 = H') ⟨none, rfl, rfl⟩ ?_ ?_
    · rintro i σ H' hi ⟨tv, rfl, rfl⟩
      refine ⟨_, rfl, _, rfl, _, _, rfl, rfl, _, rfl, by omega, by omega, ?_⟩
      refine ⟨_, rfl, ?_⟩
      refine ite2 (fun h1 => ?_) (fun h1 => ?_)
      · exact ⟨_, rfl, _, rfl, _, _, rfl, rfl, k _ _ h1 (by omega) (by omega) rl hp3⟩
      · exact ⟨_, rfl, rfl⟩
    · rintro σ H' ⟨tv, rfl, rfl⟩
      exact k 2 _ (by decide +kernel) (by decide) (by decide) rl hp3
end
end K03
namespace K03
open PySem L2 LW GX LD K00
section
variable {P : Program} {w : World} {K : PySem.W.Frag} {mg : Str → Option Value} {base : Heap} {Ts : List Addr}
theorem _root_.LD.DTs.rlL {H H' : Hp} {p : Addr} {v : List V} {d : List PyData} (h : DTs K H v d) (e : Rl p H H') (hp : ∃ xs, H p = some (.lst xs)) : DTs K H' v d := h.mono fun a xs q => by
  refine q.imp (fun q => ?_) id
  obtain ⟨zs, hh⟩ := hp
  rcases q with q | ⟨o, q⟩
  · exact .inl (e _ _ (fun z => by rw [z, hh] at q; cases q) q)
  · exact .inr ⟨o, e _ _ (fun z => by rw [z, hh] at q; cases q) q⟩
theorem rl_lst {H H' : Hp} {p D : Addr} {xs : List V} (e : Rl p H H') (n : D ≠ p) (h : H D = some (.lst xs)) : H' D = some (.lst xs) := e _ _ n h
theorem pl_upd {H : Hp} {p D : Addr} {o : HO} (h : Pl H p) (n : D ≠ p) : Pl (upd H D o) p := by
  obtain ⟨x, y, a, b, c, e⟩ := h
  exact ⟨x, y, a, b, c, by rw [upd_ne (Ne.symm n)]; exact e⟩
theorem rl_upd {H0 H : Hp} {p D : Addr} {o : HO} (r : Rl p H0 H) (nD : H0 D = none) : Rl p H0 (upd H D o) := fun b x n e => by
  rw [upd_ne (fun z => by rw [z, nD] at e; cases e)]
  exact r b x n e
def spRowL (K : PySem.W.Frag) : Sp := fun vs H Q _ => ∃ (p : Addr) (g n : Int), vs = [.ref p, .int g, .int n] ∧ Pl H p ∧ 2 ≤ g ∧ g ≤ 65521 ∧ 1 ≤ n ∧ n ≤ 6 ∧
  ∀ (a : Addr) (ns : List Int) H', SqT K H' a (ns.map V.int) → (ns.length : Int) = n → (∀ x ∈ ns, 0 ≤ x ∧ x < g) → Rl p H H' → Pl H' p → Q (.ref a) H'
theorem ok_rowL {f : Addr} {fd : FuncData} (F : Fun K "_law_row" "_law_row" s_law_row f fd) (T : Tx mg) (d_law_take : Dk P w K mg base 1 "_law_take" ["source", "top"] spTake)
    (d_law_one : Dk P w K mg base 2 "_law_one" ["source", "things"] (spOne K)) : FnOk P w K mg base CX0 4 f fd ["source", "p", "n"] (spRowL K) := by
  refine F.ok sc_law_row (fun vs H Q E h => ?_) (fun cdv A outer s H vs Q E hr h => ?_)
  · obtain ⟨p, g, n, rfl, _⟩ := h
    rfl
  · obtain ⟨p, g, n, rfl, hp, g0, g1, n0, n1, k⟩ := h
    refine ⟨_, /- slots 0:source 1:p 2:n 3:x -/
      (pss_one (ps_ret (pe_callTy call_tuple_of (by rfl) T.m_tuple (by decide +kernel) (pa_cons (pe_lc (own := [("x", 3)]) (g := (gName 3)) (tt := tYes) (by rfl) sc_law_row.nd (pi_range1 (by rfl) T.m_range (pa_cons (pv 2) pa_nil)) (blkOk_by (own := [("x", 3)]) (N := n_law_row) (sc := defScope s_law_row) (by decide +kernel)) (fun _ _ _ _ _ => (pg_name (i := 3) sc_law_row.nd rfl (by first | exact Or.inl rfl | exact Or.inr rfl))) (fun _ _ _ _ _ => pts_nil) (fun _ _ _ _ _ => (pe_dk d_law_one (hr.mono (by decide)) (by rfl) (pa_cons (pv 0) (pa_cons (pe_lst (pa_cons pe_int (pa_cons pe_int (pa_cons (pe_op op_sub (pv 1) pe_int) (pa_cons (pe_dk d_law_take (hr.mono (by decide)) (by rfl) (pa_cons (pv 0) (pa_cons (pv 1) pa_nil))) (pa_cons (pe_dk d_law_take (hr.mono (by decide)) (by rfl) (pa_cons (pv 0) (pa_cons (pv 1) pa_nil))) pa_nil)))))) pa_nil))))) pa_nil)))), ?_⟩
    refine ⟨_, rfl, n, rfl, by omega, by omega, fun D nD => ?_⟩
    have nDp : D ≠ p := (hp.ne nD).symm
    refine lc_range (lo := 0) (n := n.toNat) (fun i H' => ∃ ns : List Int, H' D = some (.lst (ns.map V.int)) ∧ ns.length = i ∧ (∀ x ∈ ns, 0 ≤ x ∧ x < g) ∧ Rl p H H' ∧ Pl H' p)
      ⟨[], upd_same, rfl, (fun x hx => absurd hx List.not_mem_nil), Rl.same (same_upd nD), hp.same (same_upd nD)⟩ ?_ ?_
    · rintro i H' hi ⟨ns, hD, hl, hns, rl, hp'⟩
      refine ⟨rfl, ?_⟩
      refine ⟨_, rfl, _, rfl, _, _, rfl, rfl, _, rfl, _, rfl, p, g, rfl, hp', by omega, by omega, fun d1 H1 d10 d11 rl1 hp1 => ?_⟩
      refine ⟨_, rfl, _, rfl, p, g, rfl, hp1, by omega, by omega, fun d2 H2 d20 d21 rl2 hp2 => ?_⟩
      refine ⟨(by show 5 ≤ sizeLine; decide), fun t nt => ?_⟩
      refine ⟨p, t, _, rfl, hp2.same (same_upd nt), (hp2.ne nt).symm, SqL.of upd_same, by show 0 < 5; decide, by show 5 < 1073741824; decide, fun j v H3 hj rl3 hp3 => ?_⟩
      have rlx : Rl p H' H3 := rl1.trans (rl2.trans ((Rl.same (same_upd nt)).trans rl3))
      obtain ⟨m, rfl, hm0, hm1⟩ : ∃ m : Int, v = .int m ∧ 0 ≤ m ∧ m < g := by
        match j, hj with
        | 0, hj => exact ⟨0, (Option.some.inj hj).symm, by omega, by omega⟩
        | 1, hj => exact ⟨1, (Option.some.inj hj).symm, by omega, by omega⟩
        | 2, hj => exact ⟨g - 1, (Option.some.inj hj).symm, by omega, by omega⟩
        | 3, hj => exact ⟨d1, (Option.some.inj hj).symm, by omega, by omega⟩
        | 4, hj => exact ⟨d2, (Option.some.inj hj).symm, by omega, by omega⟩
        | n + 5, hj => cases hj
      refine ⟨_, rlx _ _ nDp hD, (by rw [List.length_map, hl, sizeLine_eq]; omega), ns ++ [m], ?_, by rw [List.length_append, hl]; rfl, fun x hx => ?_, rl_upd (rl.trans rlx) nD, pl_upd hp3 nDp⟩
      · rw [upd_same, List.map_append]
        rfl
      · rcases List.mem_append.mp hx with hx | hx
        · exact hns x hx
        · rw [List.mem_singleton.mp hx]
          exact ⟨hm0, hm1⟩
    · rintro H' ⟨ns, hD, hl, hns, rl, hp'⟩
      refine ⟨D, _, rfl, .inl ⟨SqL.of hD, fun l nl => ?_⟩⟩
      exact k l ns _ (.inl (.inl upd_same)) (by omega) hns (rl.trans (Rl.same (same_upd nl))) (hp'.same (same_upd nl))
def rowP (r : List Int) : PyData := .tuple (r.map .int)
def shP (g wd n : Int) (rows : List (List Int)) (e : Int) : PyData := .tuple [.int g, .int wd, .int n, .tuple (rows.map rowP), .int e]
structure Good (g wd n : Int) (rows : List (List Int)) (e : Int) : Prop where
  hg : isP g = true
  g0 : 2 ≤ g
  g1 : g ≤ 65521
  w0 : 1 ≤ wd
  w1 : wd ≤ 32
  n0 : 1 ≤ n
  n1 : n ≤ 6
  rl : rows.length ≤ 5
  rw : ∀ r ∈ rows, (r.length : Int) = n ∧ ∀ x ∈ r, 0 ≤ x ∧ x < g
  e0 : 0 ≤ e
  e1 : e ≤ 3
def spShape (K : PySem.W.Frag) : Sp := fun vs H Q _ => ∃ p : Addr, vs = [.ref p] ∧ Pl H p ∧ ∀ (a : Addr) (g wd n : Int) (rows : List (List Int)) (e : Int) H', Good g wd n rows e → DT K H' (.ref a) (shP g wd n rows e) → Rl p H H' → Pl H' p → Q (.ref a) H'
theorem dts_ints {H : Hp} (ns : List Int) : DTs K H (ns.map V.int) (ns.map PyData.int) := DTs.ints ns
theorem ok_shape {f : Addr} {fd : FuncData} (F : Fun K "_law_shape" "_law_shape" s_law_shape f fd) (T : Tx mg) (d_law_take : Dk P w K mg base 1 "_law_take" ["source", "top"] spTake)
    (d_law_one : Dk P w K mg base 2 "_law_one" ["source", "things"] (spOne K)) (d_law_prime : Dk P w K mg base 3 "_law_prime" ["source"] spPrime) (d_law_row : Dk P w K mg base 4 "_law_row" ["source", "p", "n"] (spRowL K)) : FnOk P w K mg base CX0 5 f fd ["source"] (spShape K) := by
  refine F.ok sc_law_shape (fun vs H Q E h => ?_) (fun cdv A outer s H vs Q E hr h => ?_)
  · obtain ⟨p, rfl, _⟩ := h
    rfl
  · obtain ⟨p, rfl, hp, k⟩ := h
    refine ⟨_, /- slots 0:source 1:p 2:n 3:table 4:j -/
      (pss_cons (ps_asg (pe_tup (pa_cons (pe_dk d_law_prime (hr.mono (by decide)) (by rfl) (pa_cons (pv 0) pa_nil)) (pa_cons (pe_dk d_law_one (hr.mono (by decide)) (by rfl) (pa_cons (pv 0) (pa_cons (pe_lst (pa_cons pe_int (pa_cons pe_int (pa_cons pe_int (pa_cons pe_int (pa_cons (pe_op op_add pe_int (pe_dk d_law_take (hr.mono (by decide)) (by rfl) (pa_cons (pv 0) (pa_cons pe_int pa_nil)))) pa_nil)))))) pa_nil))) pa_nil))) (pg_tup (by rfl) (pgs_cons (pg_name (i := 1) sc_law_shape.nd rfl (by first | exact Or.inl rfl | exact Or.inr rfl)) (pgs_cons (pg_name (i := 2) sc_law_shape.nd rfl (by first | exact Or.inl rfl | exact Or.inr rfl)) pgs_nil)))) -- p, n = (_law_prime(source), _law_one(source, [1, 2, 3, 6, 1 + _law_take(source, 6)]))
      (pss_cons (ps_set (i := 3) sc_law_shape.nd rfl (by first | exact Or.inl rfl | exact Or.inr rfl) (pe_callTy call_tuple_of (by rfl) T.m_tuple (by decide +kernel) (pa_cons (pe_lc (own := [("j", 4)]) (g := (gName 4)) (tt := tYes) (by rfl) sc_law_shape.nd (pi_range1 (by rfl) T.m_range (pa_cons (pe_dk d_law_one (hr.mono (by decide)) (by rfl) (pa_cons (pv 0) (pa_cons (pe_lst (pa_cons pe_int (pa_cons pe_int (pa_cons (pe_dk d_law_take (hr.mono (by decide)) (by rfl) (pa_cons (pv 0) (pa_cons pe_int pa_nil))) (pa_cons pe_int pa_nil))))) pa_nil))) pa_nil)) (blkOk_by (own := [("j", 4)]) (N := n_law_shape) (sc := defScope s_law_shape) (by decide +kernel)) (fun _ _ _ _ _ => (pg_name (i := 4) sc_law_shape.nd rfl (by first | exact Or.inl rfl | exact Or.inr rfl))) (fun _ _ _ _ _ => pts_nil) (fun _ _ _ _ _ => (pe_dk d_law_row (hr.mono (by decide)) (by rfl) (pa_cons (pv 0) (pa_cons (pv 1) (pa_cons (pv 2) pa_nil)))))) pa_nil))) -- table = tuple([_law_row(source, p, n) for j in range(_law_one(source, [0, 5, _law_take(source, 6), 3
      (pss_one (ps_ret (pe_tup (pa_cons (pv 1) (pa_cons (pe_dk d_law_one (hr.mono (by decide)) (by rfl) (pa_cons (pv 0) (pa_cons (pe_lst (pa_cons pe_int (pa_cons pe_int (pa_cons (pe_op op_add pe_int (pe_dk d_law_take (hr.mono (by decide)) (by rfl) (pa_cons (pv 0) (pa_cons pe_int pa_nil)))) pa_nil)))) pa_nil))) (pa_cons (pv 2) (pa_cons (pv 3) (pa_cons (pe_dk d_law_take (hr.mono (by decide)) (by rfl) (pa_cons (pv 0) (pa_cons pe_int pa_nil))) pa_nil)))))))))), ?_⟩
    refine ⟨_, rfl, p, rfl, hp, fun g H1 hg g0 g1 rl1 hp1 => ?_⟩
    refine ⟨_, rfl, _, rfl, p, 6, rfl, hp1, by decide, by decide, fun d1 H2 d10 d11 rl2 hp2 => ?_⟩
    refine ⟨_, _, rfl, rfl, (by show 5 ≤ sizeLine; decide), fun t nt => ?_⟩
    refine ⟨p, t, _, rfl, hp2.same (same_upd nt), (hp2.ne nt).symm, SqL.of upd_same, by show 0 < 5; decide, by show 5 < 1073741824; decide, fun j v H3 hj rl3 hp3 => ?_⟩
    have rlA : Rl p H H3 := rl1.trans (rl2.trans ((Rl.same (same_upd nt)).trans rl3))
    obtain ⟨n, rfl, n0, n1⟩ : ∃ m : Int, v = .int m ∧ 1 ≤ m ∧ m ≤ 6 := by
      match j, hj with
      | 0, hj => exact ⟨1, (Option.some.inj hj).symm, by decide, by decide⟩
      | 1, hj => exact ⟨2, (Option.some.inj hj).symm, by decide, by decide⟩
      | 2, hj => exact ⟨3, (Option.some.inj hj).symm, by decide, by decide⟩
      | 3, hj => exact ⟨6, (Option.some.inj hj).symm, by decide, by decide⟩
      | 4, hj => exact ⟨1 + d1, (Option.some.inj hj).symm, by omega, by omega⟩
      | n + 5, hj => cases hj
    refine ⟨by show 2 ≤ sizeLine; decide, fun u nu => ?_⟩
    refine ⟨u, _, rfl, .inl (.inl upd_same), rfl, _, _, rfl, _, _, rfl, rfl, ?_⟩
    have rlB : Rl p H (upd H3 u (.tup [.int g, .int n])) := rlA.trans (Rl.same (same_upd nu))
    have hpB : Pl (upd H3 u (.tup [.int g, .int n])) p := hp3.same (same_upd nu)
    -- the number of rows
    refine ⟨_, rfl, _, rfl, p, 6, rfl, hpB, by decide, by decide, fun d2 H4 d20 d21 rl4 hp4 => ?_⟩
    refine ⟨by show 4 ≤ sizeLine; decide, fun t2 nt2 => ?_⟩
    refine ⟨p, t2, _, rfl, hp4.same (same_upd nt2), (hp4.ne nt2).symm, SqL.of upd_same, by show 0 < 4; decide, by show 4 < 1073741824; decide, fun j2 v2 H5 hj2 rl5 hp5 => ?_⟩
    obtain ⟨m, rfl, m0, m1⟩ : ∃ m : Int, v2 = .int m ∧ 0 ≤ m ∧ m ≤ 5 := by
      match j2, hj2 with
      | 0, hj => exact ⟨0, (Option.some.inj hj).symm, by decide, by decide⟩
      | 1, hj => exact ⟨5, (Option.some.inj hj).symm, by decide, by decide⟩
      | 2, hj => exact ⟨d2, (Option.some.inj hj).symm, by omega, by omega⟩
      | 3, hj => exact ⟨3, (Option.some.inj hj).symm, by decide, by decide⟩
      | n + 4, hj => cases hj
    have rlC := rlB.trans (rl4.trans ((Rl.same (same_upd nt2)).trans rl5))
    refine ⟨m, rfl, by omega, by omega, fun D nD => ?_⟩
    have nDp : D ≠ p := (hp5.ne nD).symm
    have nDH : H D = none := by
      cases h : H D with
      | none => rfl
      | some o => exact absurd (rlC _ _ nDp h) (by rw [nD]; exact nofun)
    refine lc_range (lo := 0) (n := m.toNat) (fun i H' => ∃ (xs : List V) (rows : List (List Int)), H' D = some (.lst xs) ∧ DTs K H' xs (rows.map rowP) ∧ rows.length = i ∧ (∀ r ∈ rows, (r.length : Int) = n ∧ ∀ x ∈ r, 0 ≤ x ∧ x < g) ∧ Rl p H H' ∧ Pl H' p)
      ⟨[], [], upd_same, .nil, rfl, (fun x hx => absurd hx List.not_mem_nil), rlC.trans (Rl.same (same_upd nD)), hp5.same (same_upd nD)⟩ ?_ ?_
    · rintro i H' hi ⟨xs, rows, hD, hds, hl, hr, rl, hp'⟩
      refine ⟨rfl, ?_⟩
      refine ⟨_, rfl, _, rfl, _, rfl, p, g, n, rfl, hp', g0, g1, n0, n1, fun a ns H6 ha hln hns rl6 hp6 => ?_⟩
      have hxl : xs.length = i := by rw [hds.len, List.length_map, hl]
      have ra : DT K H6 (.ref a) (rowP ns) := .tup ha (DTs.ints ns)
      have hD6 : H6 D = some (.lst xs) := rl6 _ _ nDp hD
      refine ⟨_, hD6, (by rw [hxl, sizeLine_eq]; omega), xs ++ [.ref a], rows ++ [ns], upd_same, ?_, by rw [List.length_append, hl]; rfl, fun r hr' => ?_, rl_upd (rl.trans rl6) nDH, pl_upd hp6 nDp⟩
      · rw [List.map_append]
        exact ((hds.rl rl6 hp').app (.cons ra .nil)).rlL Rl.upd ⟨_, hD6⟩
      · rcases List.mem_append.mp hr' with hr' | hr'
        · exact hr r hr'
        · rw [List.mem_singleton.mp hr']
          exact ⟨hln, hns⟩
    · rintro H' ⟨xs, rows, hD, hds, hl, hr, rl, hp'⟩
      refine ⟨D, _, rfl, .inl ⟨SqL.of hD, fun l nl => ?_⟩⟩
      have hpl := hp'.same (same_upd (o := .tup xs) nl)
      have rll := rl.trans (Rl.same (same_upd (o := .tup xs) nl))
      have tl : DT K (upd H' l (.tup xs)) (.ref l) (.tuple (rows.map rowP)) := .tup (.inl (.inl upd_same)) (hds.sm (Sm.of (same_upd nl)))
      -- the shape
      refine ⟨_, rfl, _, rfl, _, rfl, p, 32, rfl, hpl, by decide, by decide, fun d3 H7 d30 d31 rl7 hp7 => ?_⟩
      refine ⟨_, _, rfl, rfl, (by show 3 ≤ sizeLine; decide), fun t3 nt3 => ?_⟩
      refine ⟨p, t3, _, rfl, hp7.same (same_upd nt3), (hp7.ne nt3).symm, SqL.of upd_same, by show 0 < 3; decide, by show 3 < 1073741824; decide, fun j3 v3 H8 hj3 rl8 hp8 => ?_⟩
      obtain ⟨wd, rfl, w0, w1⟩ : ∃ m : Int, v3 = .int m ∧ 1 ≤ m ∧ m ≤ 32 := by
        match j3, hj3 with
        | 0, hj => exact ⟨1, (Option.some.inj hj).symm, by decide, by decide⟩
        | 1, hj => exact ⟨32, (Option.some.inj hj).symm, by decide, by decide⟩
        | 2, hj => exact ⟨1 + d3, (Option.some.inj hj).symm, by omega, by omega⟩
        | n + 3, hj => cases hj
      refine ⟨_, rfl, _, rfl, _, rfl, p, 4, rfl, hp8, by decide, by decide, fun e H9 e0 e1 rl9 hp9 => ?_⟩
      refine ⟨(by show 5 ≤ sizeLine; decide), fun z nz => ?_⟩
      have rlx := rl7.trans ((Rl.same (same_upd nt3)).trans (rl8.trans rl9))
      have tl9 : DT K H9 (.ref l) (.tuple (rows.map rowP)) := tl.rl rlx hpl
      refine k z g wd n rows e _ ⟨hg, g0, g1, w0, w1, n0, n1, by omega, hr, e0, by omega⟩ (.tup (.inl (.inl upd_same)) ?_) ((rll.trans rlx).trans (Rl.same (same_upd nz))) (hp9.same (same_upd nz))
      exact .cons (.int _) (.cons (.int _) (.cons (.int _) (.cons (tl9.sm (Sm.of (same_upd nz))) (.cons (.int _) .nil))))
end
end K03
namespace K03
open PySem L2 LW GX LD K00
/-! ### what is bad at a place -/
def okAt (g n : Int) (i : Nat) (d : PyData) : Bool := match i with
  | 0 => primeD d
  | 1 => fromD d 1 32
  | 2 => fromD d 1 6
  | 3 => tabD d n g
  | _ => fromD d 0 3
theorem bad_low {i : Int} (h : i ≤ 1) : primeD (.int i) = false := by
  show isPr i = false
  unfold isPr isP
  rw [decide_eq_false (p := 2 ≤ i) (by omega), Bool.false_and, Bool.and_false]
theorem bad_high {i : Int} (h : 65521 < i) : primeD (.int i) = false := by
  show isPr i = false
  unfold isPr
  rw [decide_eq_false (by omega), Bool.false_and]
theorem bad_div {i d : Int} (h2 : 2 ≤ d) (h3 : d < 257) (h4 : d * d ≤ i) (h5 : i % d = 0) : primeD (.int i) = false := by
  show isPr i = false
  unfold isPr
  have : 2 * 2 ≤ d * d := Int.mul_le_mul h2 h2 (by decide) (by omega)
  rw [isP_false (d := d) h2 h3 h4 h5, Bool.and_false]
theorem bad_mul {a b : Int} (a2 : 2 ≤ a) (a3 : a < 257) (b2 : 2 ≤ b) (b3 : b < 257) : primeD (.int (a * b)) = false := by
  by_cases h : a ≤ b
  · exact bad_div a2 a3 (Int.mul_le_mul (Int.le_refl _) h (by omega) (by omega)) (Int.mul_emod_right a b)
  · exact bad_div b2 b3 (Int.mul_le_mul (by omega) (Int.le_refl _) (by omega) (by omega)) (Int.mul_emod_left a b)
theorem op_mulS {X : Cx} : OpR X (binaryOp .Mult) (fun x y H Q => ∃ i k, x = .str i ∧ y = .int k ∧ MulOk i k ∧ Q (.str (Txt.mul i k)) H) := by
  rintro pins s σ H x y v u Q I rx ry ⟨i, k, rfl, rfl, hz, q⟩
  obtain ⟨t, rfl⟩ := rx
  obtain ⟨t', rfl⟩ := ry
  exact PySem.SB.mul hz fun t2 tk => ⟨.str _, H, I.tok _, ⟨_, rfl⟩, q⟩
theorem mul_ok {n : Int} (h1 : 1 ≤ n) (h2 : n ≤ 6) : MulOk "0" n := by
  have : n = 1 ∨ n = 2 ∨ n = 3 ∨ n = 4 ∨ n = 5 ∨ n = 6 := by omega
  rcases this with rfl | rfl | rfl | rfl | rfl | rfl <;> (unfold MulOk; decide +kernel)
section
variable {P : Program} {w : World} {K : PySem.W.Frag} {mg : Str → Option Value} {base : Heap} {Ts : List Addr}
def spWrong (K : PySem.W.Frag) : Sp := fun vs H Q _ => ∃ (p a : Addr) (j : Nat) (g wd n : Int) (rows : List (List Int)) (e : Int), vs = [.ref p, .ref a, .int j] ∧ Pl H p ∧ DT K H (.ref a) (shP g wd n rows e) ∧ Good g wd n rows e ∧ j < 5 ∧
  ∀ (v : V) (d : PyData) H', DT K H' v d → okAt g n j d = false → Rl p H H' → Pl H' p → Q v H'
theorem same_at {H H' : Hp} {D : Addr} {o : HO} (s : Same H H') (n : H D = none) : Same H (upd H' D o) := fun b x e => by
  rw [upd_ne (fun z => by rw [z, n] at e; cases e)]
  exact s b x e
theorem sqt_rl {K : PySem.W.Frag} {H H' : Hp} {p a : Addr} {xs : List V} (q : SqT K H a xs) (e : Rl p H H') (hp : Pl H p) : SqT K H' a xs := by
  refine q.imp (fun q => ?_) id
  obtain ⟨x, y, _, _, _, hh⟩ := hp
  rcases q with q | ⟨o, q⟩
  · exact .inl (e _ _ (fun z => by rw [z, hh] at q; cases q) q)
  · exact .inr ⟨o, e _ _ (fun z => by rw [z, hh] at q; cases q) q⟩
theorem row_bad {g n : Int} {ds : List PyData} {d : PyData} (h : d ∈ ds) (hd : fromD d 0 (g - 1) = false) : rowD (.tuple ds) n g = false := by
  show (decide ((ds.length : Int) = n) && ds.all fun x => fromD x 0 (g - 1)) = false
  rw [List.all_eq_false.mpr ⟨d, h, by rw [hd]; exact Bool.false_ne_true⟩, Bool.and_false]
theorem row_len {g n : Int} {ds : List PyData} (h : (ds.length : Int) ≠ n) : rowD (.tuple ds) n g = false := by
  show (decide ((ds.length : Int) = n) && ds.all fun x => fromD x 0 (g - 1)) = false
  rw [decide_eq_false h, Bool.false_and]
theorem tab_bad {g n : Int} {ds : List PyData} {d : PyData} (h : d ∈ ds) (hd : rowD d n g = false) : tabD (.tuple ds) n g = false := by
  show (decide (ds.length ≤ 5) && ds.all fun x => rowD x n g) = false
  rw [List.all_eq_false.mpr ⟨d, h, by rw [hd]; exact Bool.false_ne_true⟩, Bool.and_false]
theorem tab_len {g n : Int} {ds : List PyData} (h : 5 < ds.length) : tabD (.tuple ds) n g = false := by
  show (decide (ds.length ≤ 5) && ds.all fun x => rowD x n g) = false
  rw [decide_eq_false (by omega), Bool.false_and]
theorem dts_rep {K : PySem.W.Frag} {H : Hp} (m : Nat) : DTs K H (List.replicate m (V.int 0)) (List.replicate m (.int 0)) := by
  induction m with
  | zero => exact .nil
  | succ m ih => exact .cons (.int 0) ih
/-- drawn out of a list laid here -/
theorem one_in {H : Hp} {p t : Addr} {xs : List V} {Q : V → Hp → Prop} (hp : Pl H p) (nt : H t = none) (h0 : 0 < xs.length) (h1 : xs.length < 1000)
    (q : ∀ (j : Nat) (v : V) (H' : Hp), xs[j]? = some v → Rl p H H' → Pl H' p → Q v H') : spOne K [.ref p, .ref t] (upd H t (.lst xs)) (fun v H' => Q v H') E0 :=
  ⟨p, t, xs, rfl, hp.same (same_upd nt), (hp.ne nt).symm, SqL.of upd_same, h0, Nat.lt_trans h1 (by decide), fun j v H' hj rl hp' => q j v H' hj ((Rl.same (same_upd nt)).trans rl) hp'⟩
theorem ok_wrong {f : Addr} {fd : FuncData} (F : Fun K "_law_wrong" "_law_wrong" s_law_wrong f fd) (T : Tx mg) (d_law_take : Dk P w K mg base 1 "_law_take" ["source", "top"] spTake)
    (d_law_one : Dk P w K mg base 2 "_law_one" ["source", "things"] (spOne K)) : FnOk P w K mg base CX0 4 f fd ["source", "shape", "part"] (spWrong K) := by
  refine F.ok sc_law_wrong (fun vs H Q E h => ?_) (fun cdv A outer s H vs Q E hr h => ?_)
  · obtain ⟨p, a, j, g, wd, n, rows, e, rfl, _⟩ := h
    rfl
  · obtain ⟨p, a, j, g, wd, n, rows, e, rfl, hp, hd, gd, hj, k⟩ := h
    refine ⟨_, /- slots 0:source 1:shape 2:part 3:p 4:wide 5:n 6:table 7:e 8:one 9:two 10:some 11:row 12:x 13:at 14:number 15:bad 16:bent -/
      (pss_cons (ps_asg (pv 1) (pg_tup (by rfl) (pgs_cons (pg_name (i := 3) sc_law_wrong.nd rfl (by first | exact Or.inl rfl | exact Or.inr rfl)) (pgs_cons (pg_name (i := 4) sc_law_wrong.nd rfl (by first | exact Or.inl rfl | exact Or.inr rfl)) (pgs_cons (pg_name (i := 5) sc_law_wrong.nd rfl (by first | exact Or.inl rfl | exact Or.inr rfl)) (pgs_cons (pg_name (i := 6) sc_law_wrong.nd rfl (by first | exact Or.inl rfl | exact Or.inr rfl)) (pgs_cons (pg_name (i := 7) sc_law_wrong.nd rfl (by first | exact Or.inl rfl | exact Or.inr rfl)) pgs_nil))))))) -- p, wide, n, table, e = shape
      (pss_cons (ps_if (pt_cmpR op_eq (pv 2) pe_int (nomark _))
        (pss_cons (ps_par (i := 8) (j := 9) (by rfl) sc_law_wrong.nd rfl rfl (by decide) (by rfl) (by rfl) (pa_cons (pe_op op_add pe_int (pe_dk d_law_take (hr.mono (by decide)) (by rfl) (pa_cons (pv 0) (pa_cons pe_int pa_nil)))) (pa_cons (pe_op op_add pe_int (pe_dk d_law_take (hr.mono (by decide)) (by rfl) (pa_cons (pv 0) (pa_cons pe_int pa_nil)))) pa_nil)) (by rfl)) -- one, two = (2 + _law_take(source, 254), 2 + _law_take(source, 254))
        (pss_cons (ps_set (i := 10) sc_law_wrong.nd rfl (by first | exact Or.inl rfl | exact Or.inr rfl) (pe_lst (pa_cons pe_int (pa_cons pe_int (pa_cons (pe_un un_neg (pv 3)) (pa_cons pe_int (pa_cons pe_int (pa_cons pe_int (pa_cons pe_int (pa_cons pe_int (pa_cons pe_int (pa_cons (pe_op op_mul (pv 8) (pv 9)) (pa_cons (pe_op op_mul (pv 8) (pv 8)) (pa_cons pe_str (pa_cons pe_non (pa_cons (pe_op op_add (pe_op op_mul (pe_op op_mul (pe_op op_mul (pv 3) (pv 3)) (pv 3)) (pv 3)) pe_int) pa_nil)))))))))))))))) -- some = [0, 1, -p, 4, 9, 63001, 65536, 65537, 65539, one * two, one * one, '7', None, p * p * p * p +
        (pss_one (ps_ret (pe_dk d_law_one (hr.mono (by decide)) (by rfl) (pa_cons (pv 0) (pa_cons (pv 10) pa_nil)))))))
        pss_nil) -- if part == 0:
      (pss_cons (ps_if (pt_cmpR op_eq (pv 2) pe_int (nomark _))
        (pss_one (ps_ret (pe_dk d_law_one (hr.mono (by decide)) (by rfl) (pa_cons (pv 0) (pa_cons (pe_lst (pa_cons pe_int (pa_cons pe_int (pa_cons (pe_un un_neg pe_int) (pa_cons (pe_op op_pow pe_int pe_int) (pa_cons pe_str (pa_cons pe_non pa_nil))))))) pa_nil)))))
        pss_nil) -- if part == 1:
      (pss_cons (ps_if (pt_cmpR op_eq (pv 2) pe_int (nomark _))
        (pss_one (ps_ret (pe_dk d_law_one (hr.mono (by decide)) (by rfl) (pa_cons (pv 0) (pa_cons (pe_lst (pa_cons pe_int (pa_cons pe_int (pa_cons (pe_un un_neg pe_int) (pa_cons (pe_un un_neg (pv 5)) (pa_cons pe_str (pa_cons pe_non pa_nil))))))) pa_nil)))))
        pss_nil) -- if part == 2:
      (pss_cons (ps_if (pt_cmpR op_eq (pv 2) pe_int (nomark _))
        (pss_one (ps_ret (pe_dk d_law_one (hr.mono (by decide)) (by rfl) (pa_cons (pv 0) (pa_cons (pe_lst (pa_cons pe_int (pa_cons (pe_un un_neg pe_int) (pa_cons (pe_op op_pow pe_int pe_int) (pa_cons pe_str (pa_cons pe_non pa_nil)))))) pa_nil)))))
        pss_nil) -- if part == 4:
      (pss_cons (ps_set (i := 11) sc_law_wrong.nd rfl (by first | exact Or.inl rfl | exact Or.inr rfl) (pe_callTy call_tuple_of (by rfl) T.m_tuple (by decide +kernel) (pa_cons (pe_lc (own := [("x", 12)]) (g := (gName 12)) (tt := tYes) (by rfl) sc_law_wrong.nd (pi_range1 (by rfl) T.m_range (pa_cons (pv 5) pa_nil)) (blkOk_by (own := [("x", 12)]) (N := n_law_wrong) (sc := defScope s_law_wrong) (by decide +kernel)) (fun _ _ _ _ _ => (pg_name (i := 12) sc_law_wrong.nd rfl (by first | exact Or.inl rfl | exact Or.inr rfl))) (fun _ _ _ _ _ => pts_nil) (fun _ _ _ _ _ => pe_int)) pa_nil))) -- row = tuple([0 for x in range(n)])
      (pss_cons (ps_par (i := 13) (j := 12) (by rfl) sc_law_wrong.nd rfl rfl (by decide) (by rfl) (by rfl) (pa_cons (pe_dk d_law_take (hr.mono (by decide)) (by rfl) (pa_cons (pv 0) (pa_cons (pe_op op_add (pe_callB call_lenT (by rfl) T.m_len (by decide +kernel) (pa_cons (pv 6) pa_nil)) pe_int) pa_nil))) (pa_cons (pe_dk d_law_take (hr.mono (by decide)) (by rfl) (pa_cons (pv 0) (pa_cons (pv 5) pa_nil))) pa_nil)) (by rfl)) -- at, x = (_law_take(source, len(table) + 1), _law_take(source, n))
      (pss_cons (ps_set (i := 10) sc_law_wrong.nd rfl (by first | exact Or.inl rfl | exact Or.inr rfl) (pe_lst (pa_cons (pe_op op_catD (pv 11) (pe_tup (pa_cons pe_int pa_nil))) (pa_cons (pe_slice sl_tupD (pv 11) (po_some pe_int) po_none) (pa_cons pe_non (pa_cons (pe_op op_mulS pe_str (pv 5)) (pa_cons pe_int pa_nil))))))) -- some = [row + (0,), row[1:], None, '0' * n, 0]
      (pss_cons (ps_for PassesOwn.never rfl (pi_list (pe_lst (pa_cons (pv 3) (pa_cons (pe_un un_neg pe_int) (pa_cons pe_str pa_nil))))) (pg_name (i := 14) sc_law_wrong.nd rfl (by first | exact Or.inl rfl | exact Or.inr rfl))
        (pss_one (ps_expr (pe_bm PySem.F.plainAttrs_list PySem.F.slot_list_append PySem.F.type_list_append mt_append (pv 10) (pa_cons (pe_op op_catD (pe_op op_catD (pe_slice sl_tupD (pv 11) po_none (po_some (pv 12))) (pe_tup (pa_cons (pv 14) pa_nil))) (pe_slice sl_tupD (pv 11) (po_some (pe_op op_add (pv 12) pe_int)) po_none)) pa_nil))))) -- for number in [p, -1, '0']:
      (pss_cons (ps_set (i := 15) sc_law_wrong.nd rfl (by first | exact Or.inl rfl | exact Or.inr rfl) (pe_dk d_law_one (hr.mono (by decide)) (by rfl) (pa_cons (pv 0) (pa_cons (pv 10) pa_nil)))) -- bad = _law_one(source, some)
      (pss_cons (ps_set (i := 16) sc_law_wrong.nd rfl (by first | exact Or.inl rfl | exact Or.inr rfl) (pe_op op_catD (pe_op op_catD (pe_slice sl_tupD (pv 6) po_none (po_some (pv 13))) (pe_tup (pa_cons (pv 15) pa_nil))) (pe_slice sl_tupD (pv 6) (po_some (pv 13)) po_none))) -- bent = table[:at] + (bad,) + table[at:]
      (pss_one (ps_ret (pe_dk d_law_one (hr.mono (by decide)) (by rfl) (pa_cons (pv 0) (pa_cons (pe_lst (pa_cons (pe_slice sl_tupD (pe_op op_catD (pv 6) (pe_op op_repT (pe_tup (pa_cons (pv 11) pa_nil)) pe_int)) po_none (po_some pe_int)) (pa_cons pe_non (pa_cons pe_str (pa_cons pe_int (pa_cons (pv 16) (pa_cons (pv 16) (pa_cons (pv 16) pa_nil)))))))) pa_nil)))))))))))))))), ?_⟩
    obtain ⟨hg, g0, g1, w0, w1, n0, n1, rl, rw, e0, e1⟩ := gd
    cases hd with
    | @tup _ xs _ hs hds =>
    obtain ⟨v1, xs, _, _, rfl, z, dp, hds, _⟩ := dts_one (n := 4) hds rfl
    cases z
    obtain ⟨v2, xs, _, _, rfl, z, dw, hds, _⟩ := dts_one (n := 3) hds rfl
    cases z
    obtain ⟨v3, xs, _, _, rfl, z, dn, hds, _⟩ := dts_one (n := 2) hds rfl
    cases z
    obtain ⟨v4, xs, _, _, rfl, z, dt, hds, _⟩ := dts_one (n := 1) hds rfl
    cases z
    obtain ⟨v5, xs, _, _, rfl, z, de, hds, _⟩ := dts_one (n := 0) hds rfl
    cases z
    obtain ⟨rfl, _⟩ := dts_nil hds rfl
    cases dp
    cases dn
    refine ⟨_, rfl, a, _, rfl, hs, rfl, _, _, rfl, _, _, rfl, _, _, rfl, _, _, rfl, _, _, rfl, rfl, ?_⟩
    refine ⟨_, rfl, rfl, _, rfl, ?_⟩
    refine ite2 (fun h1 => ?_) (fun h1 => ?_)
    · have hj0 : j = 0 := by
        have := V.int.inj (of_decide_eq_true h1)
        omega
      subst hj0
      refine ⟨_, rfl, p, 254, rfl, hp, by decide, by decide, fun d1 H1 d10 d11 rl1 hp1 => ?_⟩
      refine ⟨_, _, rfl, rfl, _, rfl, p, 254, rfl, hp1, by decide, by decide, fun d2 H2 d20 d21 rl2 hp2 => ?_⟩
      refine ⟨_, _, rfl, rfl, _, _, rfl, ?_⟩
      refine ⟨_, rfl, _, rfl, ?_⟩
      refine ⟨_, rfl, _, rfl, _, _, rfl, rfl, .inl ⟨by omega, by omega⟩, ?_⟩
      refine ⟨_, rfl, _, rfl, _, _, rfl, rfl, .inl ⟨by omega, by omega⟩, ?_⟩
      have g2 : g * g ≤ 65521 * 65521 := Int.mul_le_mul g1 g1 (by omega) (by decide)
      have g20 : 2 * 2 ≤ g * g := Int.mul_le_mul g0 g0 (by decide) (by omega)
      have g3 : g * g * g ≤ 65521 * 65521 * 65521 := Int.mul_le_mul g2 g1 (by omega) (by decide)
      have g30 : 2 * 2 * 2 ≤ g * g * g := Int.mul_le_mul g20 g0 (by decide) (by omega)
      have g40 : 2 * 2 * 2 * 2 ≤ g * g * g * g := Int.mul_le_mul g30 g0 (by decide) (by omega)
      refine ⟨_, rfl, _, rfl, _, _, rfl, rfl, .inl ⟨by omega, by omega⟩, _, rfl, _, _, rfl, rfl, .inl ⟨by omega, by omega⟩, _, rfl, _, _, rfl, rfl, .inl ⟨by omega, by omega⟩, ?_⟩
      refine ⟨_, _, rfl, rfl, (by show 14 ≤ sizeLine; decide), fun t nt => ?_⟩
      refine ⟨_, rfl, _, rfl, one_in hp2 nt (by show 0 < 14; decide) (by show 14 < 1000; decide) fun j v H3 hj rl3 hp3 => ?_⟩
      have fin : ∀ d, DT K H3 v d → primeD d = false → Q v H3 := fun d h1 h2 => k v d H3 h1 h2 (rl1.trans (rl2.trans rl3)) hp3
      match j, hj with
      | 0, hj => cases hj; exact fin _ (.int _) (bad_low (by decide))
      | 1, hj => cases hj; exact fin _ (.int _) (bad_low (by decide))
      | 2, hj => cases hj; exact fin _ (.int _) (bad_low (by show -g ≤ 1; omega))
      | 3, hj => cases hj; exact fin _ (.int _) (bad_div (d := 2) (by decide) (by decide) (by decide) (by decide))
      | 4, hj => cases hj; exact fin _ (.int _) (bad_div (d := 3) (by decide) (by decide) (by decide) (by decide))
      | 5, hj => cases hj; exact fin _ (.int _) (bad_div (d := 251) (by decide) (by decide) (by decide) (by decide))
      | 6, hj => cases hj; exact fin _ (.int _) (bad_high (by decide))
      | 7, hj => cases hj; exact fin _ (.int _) (bad_high (by decide))
      | 8, hj => cases hj; exact fin _ (.int _) (bad_high (by decide))
      | 9, hj => cases hj; exact fin _ (.int _) (bad_mul (by omega) (by omega) (by omega) (by omega))
      | 10, hj => cases hj; exact fin _ (.int _) (bad_mul (by omega) (by omega) (by omega) (by omega))
      | 11, hj => cases hj; exact fin _ (.str _) rfl
      | 12, hj => cases hj; exact fin _ .non rfl
      | 13, hj => cases hj; exact fin _ (.int _) (bad_high (by show 65521 < g * g * g * g + 65521; omega))
      | m + 14, hj => cases hj
    refine ⟨_, rfl, rfl, _, rfl, ?_⟩
    refine ite2 (fun h1 => ?_) (fun h2 => ?_)
    · have hj0 : j = 1 := by
        have := V.int.inj (of_decide_eq_true h1)
        omega
      subst hj0
      refine ⟨_, rfl, _, rfl, _, _, rfl, rfl, ⟨by decide, by decide, by decide⟩, (by show 6 ≤ sizeLine; decide), fun t nt => ?_⟩
      refine one_in hp nt (by decide) (by decide) fun j v H3 hj rl3 hp3 => ?_
      have fin : ∀ d, DT K H3 v d → fromD d 1 32 = false → Q v H3 := fun d h1 h2 => k v d H3 h1 h2 rl3 hp3
      match j, hj with
      | 0, hj => cases hj; exact fin _ (.int _) (by decide)
      | 1, hj => cases hj; exact fin _ (.int _) (by decide)
      | 2, hj => cases hj; exact fin _ (.int _) (by decide)
      | 3, hj => cases hj; exact fin _ (.int _) (by decide)
      | 4, hj => cases hj; exact fin _ (.str _) rfl
      | 5, hj => cases hj; exact fin _ .non rfl
      | m + 6, hj => cases hj
    refine ⟨_, rfl, rfl, _, rfl, ?_⟩
    refine ite2 (fun h1 => ?_) (fun h3 => ?_)
    · have hj0 : j = 2 := by
        have := V.int.inj (of_decide_eq_true h1)
        omega
      subst hj0
      refine ⟨_, rfl, _, rfl, _, rfl, _, rfl, (by show 6 ≤ sizeLine; decide), fun t nt => ?_⟩
      refine one_in hp nt (by show 0 < 6; decide) (by show 6 < 1000; decide) fun j v H3 hj rl3 hp3 => ?_
      have fin : ∀ d, DT K H3 v d → fromD d 1 6 = false → Q v H3 := fun d h1 h2 => k v d H3 h1 h2 rl3 hp3
      match j, hj with
      | 0, hj => cases hj; exact fin _ (.int _) (by decide)
      | 1, hj => cases hj; exact fin _ (.int _) (by decide)
      | 2, hj => cases hj; exact fin _ (.int _) (by decide)
      | 3, hj => cases hj; exact fin _ (.int _) (by show (decide ((1 : Int) ≤ -n) && _) = false; rw [decide_eq_false (by omega), Bool.false_and])
      | 4, hj => cases hj; exact fin _ (.str _) rfl
      | 5, hj => cases hj; exact fin _ .non rfl
      | m + 6, hj => cases hj
    refine ⟨_, rfl, rfl, _, rfl, ?_⟩
    refine ite2 (fun h1 => ?_) (fun h4 => ?_)
    · have hj0 : j = 4 := by
        have := V.int.inj (of_decide_eq_true h1)
        omega
      subst hj0
      refine ⟨_, rfl, _, rfl, _, _, rfl, rfl, ⟨by decide, by decide, by decide⟩, (by show 5 ≤ sizeLine; decide), fun t nt => ?_⟩
      refine one_in hp nt (by decide) (by decide) fun j v H3 hj rl3 hp3 => ?_
      have fin : ∀ d, DT K H3 v d → fromD d 0 3 = false → Q v H3 := fun d h1 h2 => k v d H3 h1 h2 rl3 hp3
      match j, hj with
      | 0, hj => cases hj; exact fin _ (.int _) (by decide)
      | 1, hj => cases hj; exact fin _ (.int _) (by decide)
      | 2, hj => cases hj; exact fin _ (.int _) (by decide)
      | 3, hj => cases hj; exact fin _ (.str _) rfl
      | 4, hj => cases hj; exact fin _ .non rfl
      | m + 5, hj => cases hj
    have hj0 : j = 3 := by
      have f : ∀ c : Int, ¬ decide (V.int (j : Int) = V.int c) = true → (j : Int) ≠ c := fun c h q => h (decide_eq_true (congrArg V.int q))
      have e1 := f 0 (by assumption)
      have e2 := f 1 h2
      have e3 := f 2 h3
      have e4 := f 4 h4
      omega
    subst hj0
    cases dt with
    | @tup tb ts _ hts hds =>
    have tln : ts.length = rows.length := by rw [hds.len, List.length_map]
    -- the noughts
    refine ⟨_, rfl, n, rfl, by omega, by omega, fun D nD => ?_⟩
    refine lc_range (lo := 0) (n := n.toNat) (fun i H' => H' D = some (.lst (List.replicate i (V.int 0))) ∧ Same H H') ⟨upd_same, same_upd nD⟩ ?_ ?_
    · rintro i H' hi ⟨hD, sm⟩
      refine ⟨rfl, _, hD, (by rw [List.length_replicate, sizeLine_eq]; omega), ?_, same_at sm nD⟩
      rw [upd_same, List.replicate_succ']
    rintro H0 ⟨hD, sm0⟩
    refine ⟨D, _, rfl, .inl ⟨SqL.of hD, fun r nr => ?_⟩⟩
    obtain ⟨N, hN, N1, N6⟩ : ∃ N : Nat, (N : Int) = n ∧ 1 ≤ N ∧ N ≤ 6 := ⟨n.toNat, by omega, by omega, by omega⟩
    have eN : n.toNat = N := by omega
    rw [eN]
    have smr : Same H (upd H0 r (.tup (List.replicate N (V.int 0)))) := same_at sm0 (Same.free sm0 nr)
    have hr1 : SqT K (upd H0 r (.tup (List.replicate N (V.int 0)))) r (List.replicate N (V.int 0)) := .inl (.inl upd_same)
    have hp1 : Pl (upd H0 r (.tup (List.replicate N (V.int 0)))) p := hp.same smr
    have ts1 : SqT K (upd H0 r (.tup (List.replicate N (V.int 0)))) tb ts := LW.Same.seqT smr hts
    have ds1 : DTs K (upd H0 r (.tup (List.replicate N (V.int 0)))) ts (rows.map rowP) := hds.sm (Sm.of smr)
    generalize upd H0 r (.tup (List.replicate N (V.int 0))) = H1 at smr hr1 hp1 ts1 ds1 ⊢
    have dr1 : DT K H1 (.ref r) (.tuple (List.replicate N (.int 0))) := .tup hr1 (dts_rep N)
    -- at, x
    refine ⟨_, rfl, _, rfl, tb, ts, rfl, ts1, _, _, rfl, rfl, p, _, rfl, hp1, by omega, by omega, fun at_ H2 at0 at1 rl2 hp2 => ?_⟩
    refine ⟨_, rfl, _, rfl, p, n, rfl, hp2, by omega, by omega, fun x H3 x0 x1 rl3 hp3 => ?_⟩
    refine ⟨_, _, rfl, ?_⟩
    have rl13 := rl2.trans rl3
    have rlH3 : Rl p H H3 := (Rl.same smr).trans rl13
    have hr3 := sqt_rl hr1 rl13 hp1
    have ts3 := sqt_rl ts1 rl13 hp1
    have ds3 := ds1.rl rl13 hp1
    clear rl13 rl2 rl3 ts1 ds1 hr1 dr1 smr hp1 hp2
    have lenN : (List.replicate N (V.int 0)).length = N := List.length_replicate ..
    -- some
    refine ⟨_, rfl, by show 1 ≤ sizeLine; decide, fun z nz => ?_⟩
    refine ⟨r, z, _, _, rfl, rfl, LW.Same.seqT (same_upd nz) hr3, .inl (.inl upd_same), (by rw [lenN, sizeLine_eq]; show N + 1 ≤ _; omega), fun c H4 sm4 hc => ?_⟩
    have sm34 : Same H3 H4 := (same_upd nz).trans sm4
    refine ⟨_, rfl, 1, rfl, r, _, rfl, LW.Same.seqT sm34 hr3, fun c2 H5 sm5 hc2 => ?_⟩
    rw [show (1 : Int) = ((1 : Nat) : Int) from rfl, cut_from] at hc2
    have sm35 := sm34.trans sm5
    refine ⟨_, rfl, "0", n, rfl, rfl, mul_ok n0 n1, (by show 5 ≤ sizeLine; decide), fun L nL => ?_⟩
    have sm3L : Same H3 (upd H5 L (.lst [.ref c, .ref c2, .non, .str (Txt.mul "0" n), .int 0])) := sm35.trans (same_upd nL)
    have nLp : L ≠ p := ((hp3.same sm35).ne nL).symm
    have nL3 : H3 L = none := Same.free sm35 nL
    have hc5 : SqT K (upd H5 L (.lst [.ref c, .ref c2, .non, .str (Txt.mul "0" n), .int 0])) c (List.replicate N (V.int 0) ++ [V.int 0]) := LW.Same.seqT (sm5.trans (same_upd nL)) hc
    have hc25 : SqT K (upd H5 L (.lst [.ref c, .ref c2, .non, .str (Txt.mul "0" n), .int 0])) c2 (List.drop 1 (List.replicate N (V.int 0))) := LW.Same.seqT (same_upd (o := .lst [.ref c, .ref c2, .non, .str (Txt.mul "0" n), .int 0]) nL) hc2
    have hL0 : (upd H5 L (.lst [.ref c, .ref c2, .non, .str (Txt.mul "0" n), .int 0])) L = some (.lst [.ref c, .ref c2, .non, .str (Txt.mul "0" n), .int 0]) := upd_same
    generalize upd H5 L (.lst [.ref c, .ref c2, .non, .str (Txt.mul "0" n), .int 0]) = H6 at sm3L hc5 hc25 hL0 ⊢
    have hN0 : (List.replicate N (PyData.int 0)).length = N := List.length_replicate ..
    have od0 : DTs K H6 [.ref c, .ref c2, .non, .str (Txt.mul "0" n), .int 0] [.tuple (List.replicate N (.int 0) ++ [.int 0]), .tuple (List.drop 1 (List.replicate N (.int 0))), .none, .str (Txt.mul "0" n), .int 0] :=
      .cons (.tup hc5 ((dts_rep N).app (.cons (.int 0) .nil))) (.cons (.tup hc25 ((dts_rep N).drop 1)) (.cons .non (.cons (.str _) (.cons (.int 0) .nil))))
    obtain ⟨X, rfl⟩ : ∃ X : Nat, x = (X : Int) := ⟨x.toNat, by omega⟩
    refine ⟨_, rfl, _, rfl, (by show 3 ≤ sizeLine; decide), fun M nM => ⟨M, rfl, ⟨_, SqL.of upd_same⟩, ?_⟩⟩
    have nML : L ≠ M := fun z => by rw [z, nM] at hL0; cases hL0
    refine for_list (K := K) (a := M) (xs := [.int g, .int (-1), .str "0"]) (fun i σ H' => ∃ (nv : Option V) (os : List V) (od : List PyData), σ = [some (.ref p), some (.ref a), some (.int ((3 : Nat) : Int)), some (.int g), some v2, some (.int n), some (.ref tb), some v5, none, none, some (.ref L), some (.ref r), some (.int (X : Int)), some (.int at_), nv, none, none] ∧
      H' L = some (.lst os) ∧ DTs K H' os od ∧ (∀ d ∈ od, rowD d n g = false) ∧ 5 ≤ os.length ∧ os.length ≤ 5 + i ∧ H' M = some (.lst [.int g, .int (-1), .str "0"]) ∧ Same H3 H')
      ⟨none, _, _, rfl, by rw [upd_ne nML]; exact hL0, od0.sm (Sm.of (same_upd nM)), ?_, Nat.le_refl _, Nat.le_refl _, upd_same, sm3L.trans (same_upd nM)⟩ ?_ ?_ ?_
    · intro d hd
      simp only [List.mem_cons, List.not_mem_nil, or_false] at hd
      rcases hd with rfl | rfl | rfl | rfl | rfl
      · exact row_len (by rw [List.length_append, hN0]; show ((N + 1 : Nat) : Int) ≠ n; omega)
      · exact row_len (by rw [List.length_drop, hN0]; omega)
      · rfl
      · rfl
      · rfl
    · rintro i σ H' hi ⟨nv, os, od, rfl, hL, hod, hbad, hl5, hli, hM, sm⟩
      exact SqL.of hM
    · rintro i y σ H' hy ⟨nv, os, od, rfl, hL, hod, hbad, hl5, hli, hM, sm⟩
      obtain ⟨dy, hdy, hfy, hi3⟩ : ∃ dy, (∀ H, DT K H y dy) ∧ fromD dy 0 (g - 1) = false ∧ i < 3 := by
        match i, hy with
        | 0, hy =>
          cases hy
          refine ⟨.int g, fun _ => .int _, ?_, by decide⟩
          show (decide ((0 : Int) ≤ g) && decide (g ≤ g - 1)) = false
          rw [decide_eq_false (p := g ≤ g - 1) (by omega), Bool.and_false]
        | 1, hy => cases hy; exact ⟨.int (-1), fun _ => .int _, rfl, by decide⟩
        | 2, hy => cases hy; exact ⟨.str "0", fun _ => .str _, rfl, by decide⟩
        | m + 3, hy => cases hy
      have nLr : ∀ {b : Addr} {o : HO}, H3 b = some o → b ≠ L := fun {b o} h z => by rw [z, nL3] at h; cases h
      refine ⟨_, rfl, .inl ⟨rfl, _, SqL.of hL⟩, ?_⟩
      refine ⟨_, rfl, _, rfl, X, rfl, r, _, rfl, LW.Same.seqT sm hr3, fun s1 HA smA hs1 => ?_⟩
      rw [cut_to] at hs1
      refine ⟨_, rfl, by show 1 ≤ sizeLine; decide, fun z nz => ?_⟩
      refine ⟨s1, z, _, _, rfl, rfl, LW.Same.seqT (same_upd nz) hs1, .inl (.inl upd_same), (by rw [List.length_take, lenN, sizeLine_eq]; show min X N + 1 ≤ _; omega), fun s2 HB smB hs2 => ?_⟩
      have sAB : Same H' HB := smA.trans ((same_upd nz).trans smB)
      refine ⟨_, rfl, _, rfl, _, _, rfl, rfl, _, rfl, r, _, rfl, LW.Same.seqT (sm.trans sAB) hr3, fun s3 HC smC hs3 => ?_⟩
      rw [show ((X : Int) + 1) = ((X + 1 : Nat) : Int) from rfl, cut_from] at hs3
      have sAC := sAB.trans smC
      refine ⟨s2, s3, _, _, rfl, rfl, LW.Same.seqT smC hs2, hs3, (by rw [List.length_append, List.length_take, List.length_drop, lenN, sizeLine_eq]; show min X N + 1 + (N - (X + 1)) ≤ _; omega), fun s4 HD smD hs4 => ?_⟩
      have sAD := sAC.trans smD
      refine ⟨L, os, _, rfl, rfl, sAD _ _ hL, (by rw [sizeLine_eq]; omega), ?_⟩
      have hLD := sAD _ _ hL
      have ds4 : DT K HD (.ref s4) (.tuple ((List.replicate N (.int 0)).take X ++ [dy] ++ (List.replicate N (.int 0)).drop (X + 1))) :=
        .tup hs4 ((((dts_rep N).take X).app (.cons (hdy HD) .nil)).app ((dts_rep N).drop (X + 1)))
      refine ⟨_, os ++ [.ref s4], od ++ [_], rfl, upd_same, ((hod.sm (Sm.of sAD)).app (.cons ds4 .nil)).rlL Rl.upd ⟨_, hLD⟩, fun d hd => ?_, by rw [List.length_append]; omega, by rw [List.length_append]; show os.length + 1 ≤ _; omega, ?_, ?_⟩
      · rcases List.mem_append.mp hd with hd | hd
        · exact hbad d hd
        · rw [List.mem_singleton.mp hd]
          exact row_bad (d := dy) (by simp) hfy
      · rw [upd_ne (Ne.symm nML)]
        exact sAD _ _ hM
      · exact same_at (sm.trans sAD) nL3
    · rintro σ H' ⟨nv, os, od, rfl, hL, hod, hbad, hl5, hli, hM, sm⟩
      have hp' := hp3.same sm
      refine ⟨_, rfl, _, rfl, p, L, os, rfl, hp', nLp, SqL.of hL, by omega, (by show os.length < 1073741824; have : os.length ≤ 5 + 3 := hli; omega), fun j v H8 hj rl8 hp8 => ?_⟩
      obtain ⟨db, hdb, hDb⟩ := hod.get hj
      have hfb := hbad db (List.mem_of_getElem? hdb)
      have hv8 := hDb.rl rl8 hp'
      have hr8 := sqt_rl (LW.Same.seqT sm hr3) rl8 hp'
      have ht8 := sqt_rl (LW.Same.seqT sm ts3) rl8 hp'
      have hds8 := (ds3.sm (Sm.of sm)).rl rl8 hp'
      have rlH8 : Rl p H H8 := rlH3.trans ((Rl.same sm).trans rl8)
      clear hj hdb hDb hbad hod hL hM sm rl8 hp' hr3 ts3 ds3 hc5 hc25 od0 hL0 sm3L
      obtain ⟨AT, rfl⟩ : ∃ X : Nat, at_ = (X : Int) := ⟨at_.toNat, by omega⟩
      -- bent
      refine ⟨_, rfl, _, rfl, AT, rfl, tb, ts, rfl, ht8, fun s1 HA smA hs1 => ?_⟩
      rw [cut_to] at hs1
      refine ⟨_, rfl, by show 1 ≤ sizeLine; decide, fun z nz => ?_⟩
      refine ⟨s1, z, _, _, rfl, rfl, LW.Same.seqT (same_upd nz) hs1, .inl (.inl upd_same), (by rw [List.length_take, sizeLine_eq]; show min AT ts.length + 1 ≤ _; omega), fun s2 HB smB hs2 => ?_⟩
      have sAB : Same H8 HB := smA.trans ((same_upd nz).trans smB)
      refine ⟨_, rfl, _, rfl, AT, rfl, tb, ts, rfl, LW.Same.seqT sAB ht8, fun s3 HC smC hs3 => ?_⟩
      rw [cut_from] at hs3
      have sAC := sAB.trans smC
      refine ⟨s2, s3, _, _, rfl, rfl, LW.Same.seqT smC hs2, hs3, (by rw [List.length_append, List.length_take, List.length_drop, sizeLine_eq]; show min AT ts.length + 1 + (ts.length - AT) ≤ _; omega), fun bt HD smD hbt => ?_⟩
      have sAD := sAC.trans smD
      have dbt : DT K HD (.ref bt) (.tuple ((rows.map rowP).take AT ++ [db] ++ (rows.map rowP).drop AT)) :=
        .tup hbt ((((hds8.sm (Sm.of sAD)).take AT).app (.cons (hv8.sm (Sm.of sAD)) .nil)).app ((hds8.sm (Sm.of sAD)).drop AT))
      have fbt : tabD (.tuple ((rows.map rowP).take AT ++ [db] ++ (rows.map rowP).drop AT)) n g = false := tab_bad (d := db) (by simp) hfb
      -- the last choice
      refine ⟨_, rfl, _, rfl, _, rfl, by show 1 ≤ sizeLine; decide, fun z2 nz2 => ?_⟩
      refine ⟨z2, 6, _, rfl, rfl, .inl (.inl upd_same), List.cons_ne_nil _ _, by decide, by decide, by show 1 ≤ 1000; decide, fun q nq => ?_⟩
      have sDq : Same HD (upd (upd HD z2 (.tup [.ref r])) q (.tup (List.replicate (6 : Int).toNat [V.ref r]).flatten)) := (same_upd nz2).trans (same_upd nq)
      refine ⟨tb, q, ts, _, rfl, rfl, LW.Same.seqT (sAD.trans sDq) ht8, .inl (.inl upd_same), (by rw [sizeLine_eq]; show ts.length + 6 ≤ _; omega), fun u HE smE hu => ?_⟩
      have sDE := sDq.trans smE
      refine ⟨6, rfl, u, _, rfl, hu, fun c6 HF smF hc6 => ?_⟩
      rw [show (6 : Int) = ((6 : Nat) : Int) from rfl, cut_to] at hc6
      have sDF := sDE.trans smF
      refine ⟨_, rfl, _, rfl, _, rfl, (by show 7 ≤ sizeLine; decide), fun t7 nt7 => ?_⟩
      have sAF := sAD.trans sDF
      refine one_in (hp8.same sAF) nt7 (by show 0 < 7; decide) (by show 7 < 1000; decide) fun j v H9 hj rl9 hp9 => ?_
      have fin : ∀ d, DT K HF v d → tabD d n g = false → Q v H9 := fun d h1 h2 => k v d H9 (h1.rl rl9 (hp8.same sAF)) h2 (rlH8.trans ((Rl.same sAF).trans rl9)) hp9
      have dbt9 := dbt.sm (Sm.of sDF)
      match j, hj with
      | 0, hj =>
        cases hj
        have dr6 : DTs K HF [V.ref r] [.tuple (List.replicate N (.int 0))] := .cons (.tup (LW.Same.seqT sAF hr8) (dts_rep N)) .nil
        have d66 : DTs K HF ((List.replicate (6 : Int).toNat [V.ref r]).flatten) ((List.replicate 6 [PyData.tuple (List.replicate N (.int 0))]).flatten) := dr6.app (dr6.app (dr6.app (dr6.app (dr6.app (dr6.app .nil)))))
        refine fin _ (.tup hc6 (((hds8.sm (Sm.of sAF)).app d66).take 6)) (tab_len ?_)
        rw [List.length_take, List.length_append, List.length_map]
        show 5 < min 6 (rows.length + 6)
        omega
      | 1, hj => cases hj; exact fin _ .non rfl
      | 2, hj => cases hj; exact fin _ (.str _) rfl
      | 3, hj => cases hj; exact fin _ (.int _) rfl
      | 4, hj => cases hj; exact fin _ dbt9 fbt
      | 5, hj => cases hj; exact fin _ dbt9 fbt
      | 6, hj => cases hj; exact fin _ dbt9 fbt
      | m + 7, hj => cases hj
end
end K03
namespace K03
open PySem L2 LW GX LD K00
/-! ### a shape as data -/
theorem shownAll_map {α : Type} (f : α → PyData) : ∀ l : List α, PyData.shownAll (l.map f) = l.map fun x => (f x).shown
  | [] => rfl
  | x :: l => by
    show (f x).shown :: PyData.shownAll (l.map f) = _
    rw [shownAll_map f l]
    rfl
theorem sum_len {m : Nat} : ∀ {ts : List Str}, (∀ t ∈ ts, t.length ≤ m) → (ts.map (·.length)).sum ≤ ts.length * m
  | [], _ => Nat.zero_le _
  | t :: ts, h => by
    have h1 := h t List.mem_cons_self
    have h2 := sum_len fun x hx => h x (List.mem_cons_of_mem _ hx)
    simp only [List.map_cons, List.sum_cons, List.length_cons, Nat.add_mul, Nat.one_mul]
    omega
theorem tup_len {m : Nat} {ts : List Str} (h : ∀ t ∈ ts, t.length ≤ m) : (tupleText ts).length ≤ 3 + ts.length * (m + 2) := by
  have h1 := StrLaws.join_length_le ", " ts
  have h2 := sum_len h
  have h3 : ((", " : Str)).length = 2 := by decide +kernel
  rw [h3] at h1
  have e : (tupleText ts).length = (("(" : Str)).length + (Str.join ", " ts).length + ((if ts.length == 1 then ",)" else ")" : String) : Str).length := by
    unfold tupleText
    rw [Str.length_append, Str.length_append]
  have h4 : ((if ts.length == 1 then ",)" else ")" : String) : Str).length ≤ 2 := by
    split <;> decide +kernel
  have h5 : (("(" : Str)).length = 1 := by decide +kernel
  rw [e, h5, Nat.mul_add]
  omega
theorem int_len {i : Int} (h0 : 0 ≤ i) (h1 : i < 10 ^ 10) : (PyData.shown (.int i)).length ≤ 10 := PyProof.Rows.toString_length_le h0 (by decide) h1
theorem row_len_le {r : List Int} (h : ∀ x ∈ r, 0 ≤ x ∧ x < 65521) (hl : r.length ≤ 6) : (rowP r).shown.length ≤ 75 := by
  show (tupleText (PyData.shownAll (r.map .int))).length ≤ 75
  rw [shownAll_map]
  have := tup_len (m := 10) (ts := r.map fun x => (PyData.int x).shown) fun t ht => by
    obtain ⟨x, hx, rfl⟩ := List.mem_map.mp ht
    have := h x hx
    exact int_len this.1 (by omega)
  rw [List.length_map] at this
  have : r.length * 12 ≤ 6 * 12 := Nat.mul_le_mul_right _ hl
  omega
theorem Good.rows_len {g wd n : Int} {rows : List (List Int)} {e : Int} (G : Good g wd n rows e) : ∀ r ∈ rows, (rowP r).shown.length ≤ 75 := fun r hr => by
  obtain ⟨h1, h2⟩ := G.rw r hr
  have := G.g1
  have := G.n1
  exact row_len_le (fun x hx => ⟨(h2 x hx).1, by have := (h2 x hx).2; omega⟩) (by omega)
theorem Good.len {g wd n : Int} {rows : List (List Int)} {e : Int} (G : Good g wd n rows e) : (shP g wd n rows e).shown.length ≤ sizeLine := by
  have a := G.rows_len
  obtain ⟨_, g0, g1, w0, w1, n0, n1, rl, _, e0, e1⟩ := G
  show (tupleText [PyData.shown (.int g), PyData.shown (.int wd), PyData.shown (.int n), tupleText (PyData.shownAll (rows.map rowP)), PyData.shown (.int e)]).length ≤ sizeLine
  rw [shownAll_map]
  have b := tup_len (m := 75) (ts := rows.map fun r => (rowP r).shown) fun t ht => by
    obtain ⟨r, hr, rfl⟩ := List.mem_map.mp ht
    exact a r hr
  rw [List.length_map] at b
  have c : rows.length * 77 ≤ 5 * 77 := Nat.mul_le_mul_right _ rl
  have d := tup_len (m := 500) (ts := [PyData.shown (.int g), PyData.shown (.int wd), PyData.shown (.int n), tupleText (rows.map fun r => (rowP r).shown), PyData.shown (.int e)]) fun t ht => by
    simp only [List.mem_cons, List.not_mem_nil, or_false] at ht
    rcases ht with rfl | rfl | rfl | rfl | rfl
    · exact Nat.le_trans (int_len (by omega) (by omega)) (by decide)
    · exact Nat.le_trans (int_len (by omega) (by omega)) (by decide)
    · exact Nat.le_trans (int_len (by omega) (by omega)) (by decide)
    · omega
    · exact Nat.le_trans (int_len (by omega) (by omega)) (by decide)
  have : ([PyData.shown (.int g), PyData.shown (.int wd), PyData.shown (.int n), tupleText (rows.map fun r => (rowP r).shown), PyData.shown (.int e)]).length = 5 := rfl
  rw [this] at d
  rw [sizeLine_eq]
  omega
theorem all_of {α : Type} {f : α → PyData} {b : PyData → Bool} {ba : List PyData → Bool} (h0 : ba [] = true) (h1 : ∀ x l, ba (x :: l) = (b x && ba l)) : ∀ {l : List α}, (∀ x ∈ l, b (f x) = true) → ba (l.map f) = true
  | [], _ => h0
  | x :: l, h => by
    rw [List.map_cons, h1, h x List.mem_cons_self, all_of h0 h1 fun y hy => h y (List.mem_cons_of_mem _ hy)]
    rfl
theorem none_of {α : Type} {f : α → PyData} {b : PyData → Bool} {ba : List PyData → Bool} (h0 : ba [] = false) (h1 : ∀ x l, ba (x :: l) = (b x || ba l)) : ∀ {l : List α}, (∀ x ∈ l, b (f x) = false) → ba (l.map f) = false
  | [], _ => h0
  | x :: l, h => by
    rw [List.map_cons, h1, h x List.mem_cons_self, none_of h0 h1 fun y hy => h y (List.mem_cons_of_mem _ hy)]
    rfl
theorem dep_of {α : Type} {f : α → PyData} {m : Nat} : ∀ {l : List α}, (∀ x ∈ l, (f x).depth ≤ m) → PyData.depthAll (l.map f) ≤ m
  | [], _ => Nat.zero_le _
  | x :: l, h => by
    show max (f x).depth (PyData.depthAll (l.map f)) ≤ m
    exact Nat.max_le.mpr ⟨h x List.mem_cons_self, dep_of fun y hy => h y (List.mem_cons_of_mem _ hy)⟩
theorem row_depth (r : List Int) : (rowP r).depth ≤ 1 := by
  show PyData.depthAll (r.map .int) + 1 ≤ 1
  have := dep_of (f := PyData.int) (m := 0) (l := r) fun x _ => Nat.le_refl 0
  omega
theorem tab_depth (rows : List (List Int)) : PyData.depth (.tuple (rows.map rowP)) ≤ 2 := by
  show PyData.depthAll (rows.map rowP) + 1 ≤ 2
  have := dep_of (f := rowP) (m := 1) (l := rows) fun x _ => row_depth x
  omega
theorem sh_depth {g wd n : Int} {rows : List (List Int)} {e : Int} : (shP g wd n rows e).depth ≤ 3 := by
  have := tab_depth rows
  show max 0 (max 0 (max 0 (max (PyData.depth (.tuple (rows.map rowP))) (max 0 0)))) + 1 ≤ 3
  omega
theorem row_lay (r : List Int) : (rowP r).canLay0 = true := all_of (f := PyData.int) (b := PyData.canLay0) (ba := PyData.canLayAll0) rfl (fun _ _ => rfl) fun _ _ => rfl
theorem tab_lay (rows : List (List Int)) : PyData.canLay0 (.tuple (rows.map rowP)) = true := all_of (f := rowP) (b := PyData.canLay0) (ba := PyData.canLayAll0) rfl (fun _ _ => rfl) fun x _ => row_lay x
theorem sh_lay {g wd n : Int} {rows : List (List Int)} {e : Int} : (shP g wd n rows e).canLay0 = true := by
  show (true && (true && (true && (PyData.canLay0 (.tuple (rows.map rowP)) && (true && true))))) = true
  rw [tab_lay]
  rfl
theorem tab_shaped (rows : List (List Int)) : SeqAt.shaped (.tuple (rows.map rowP)) = true := by
  unfold SeqAt.shaped
  have := tab_depth rows
  rw [tab_lay, decide_eq_true (by omega)]
  rfl
theorem sh_shaped {g wd n : Int} {rows : List (List Int)} {e : Int} : SeqAt.shaped (shP g wd n rows e) = true := by
  unfold SeqAt.shaped
  have := @sh_depth g wd n rows e
  rw [sh_lay, decide_eq_true (by omega)]
  rfl
theorem row_show {r : List Int} (h : ∀ x ∈ r, 0 ≤ x ∧ x < 65521) : (rowP r).showable = true := all_of (f := PyData.int) (b := PyData.showable) (ba := PyData.showableAll) rfl (fun _ _ => rfl) fun x hx => by
  have := h x hx
  exact decide_eq_true (small_log (by omega))
theorem Good.show_ {g wd n : Int} {rows : List (List Int)} {e : Int} (G : Good g wd n rows e) : (shP g wd n rows e).showable = true := by
  obtain ⟨_, g0, g1, w0, w1, n0, n1, rl, rw_, e0, e1⟩ := G
  have a : PyData.showable (.tuple (rows.map rowP)) = true := all_of (f := rowP) (b := PyData.showable) (ba := PyData.showableAll) rfl (fun _ _ => rfl) fun r hr => row_show fun x hx => ⟨((rw_ r hr).2 x hx).1, by have := ((rw_ r hr).2 x hx).2; omega⟩
  show (decide (g.natAbs.log2 < 1920) && (decide (wd.natAbs.log2 < 1920) && (decide (n.natAbs.log2 < 1920) && (PyData.showable (.tuple (rows.map rowP)) && (decide (e.natAbs.log2 < 1920) && true))))) = true
  rw [a, decide_eq_true (small_log (by omega)), decide_eq_true (small_log (by omega)), decide_eq_true (small_log (by omega)), decide_eq_true (small_log (by omega))]
  rfl
theorem from_ok {i lo hi : Int} (h0 : lo ≤ i) (h1 : i ≤ hi) : fromD (.int i) lo hi = true := by
  show (decide (lo ≤ i) && decide (i ≤ hi)) = true
  rw [decide_eq_true h0, decide_eq_true h1]
  rfl
theorem Good.okP {g wd n : Int} {rows : List (List Int)} {e : Int} (G : Good g wd n rows e) : primeD (.int g) = true := by
  show isPr g = true
  unfold isPr
  rw [decide_eq_true G.g1, G.hg]
  rfl
theorem row_ok {g n : Int} {r : List Int} (h : (r.length : Int) = n ∧ ∀ x ∈ r, 0 ≤ x ∧ x < g) : rowD (rowP r) n g = true := by
  show (decide (((r.map PyData.int).length : Int) = n) && (r.map PyData.int).all fun x => fromD x 0 (g - 1)) = true
  rw [List.length_map, decide_eq_true h.1, Bool.true_and, List.all_eq_true]
  intro d hd
  obtain ⟨x, hx, rfl⟩ := List.mem_map.mp hd
  have := h.2 x hx
  exact from_ok this.1 (by omega)
theorem Good.okT {g wd n : Int} {rows : List (List Int)} {e : Int} (G : Good g wd n rows e) : tabD (.tuple (rows.map rowP)) n g = true := by
  show (decide ((rows.map rowP).length ≤ 5) && (rows.map rowP).all fun x => rowD x n g) = true
  rw [List.length_map, decide_eq_true G.rl, Bool.true_and, List.all_eq_true]
  intro d hd
  obtain ⟨r, hr, rfl⟩ := List.mem_map.mp hd
  exact row_ok (G.rw r hr)
theorem Good.fault {g wd n : Int} {rows : List (List Int)} {e : Int} (G : Good g wd n rows e) : faultD (shP g wd n rows e) = none := by
  have pr := G.okP
  have tb := G.okT
  obtain ⟨hg, g0, g1, w0, w1, n0, n1, rl, rw_, e0, e1⟩ := G
  show (if primeD (.int g) = false then some 0 else if fromD (.int wd) 1 32 = false then some 1 else if fromD (.int n) 1 6 = false then some 2 else if tabD (.tuple (rows.map rowP)) n g = false then some 3 else if fromD (.int e) 0 3 = false then some 4 else none) = none
  rw [pr, from_ok w0 w1, from_ok n0 n1, tb, from_ok e0 e1]
  rfl
section
variable {P : Program} {w : World} {K : PySem.W.Frag} {mg : Str → Option Value} {base : Heap} {Ts : List Addr}
def spIsRight (K : PySem.W.Frag) (Ts : List Addr) : Sp := fun vs H Q _ => ∃ (a : Addr) (g wd n : Int) (rows : List (List Int)) (e : Int), vs = [.ref a] ∧ DT K H (.ref a) (shP g wd n rows e) ∧ Good g wd n rows e ∧ Tb Ts H ∧ ∀ H', Sm H H' → Tb Ts H' → Q (.bl true) H'
theorem ok_isRight {f C : Addr} {fd : FuncData} {cdv : Value} (F : FunC K "_law_is_right" "_law_is_right" s_law_is_right f fd cdv) (T : Tx mg) (d_made_shape : DkX P w K mg base 9 "made_shape" ["thing"] (spMade K Ts C)) :
    FnG P w K mg base CX0 10 f fd ["shape"] (spIsRight K Ts) := by
  refine F.okG sc_law_is_right (fun vs H Q E h => ?_) (fun A outer s H vs Q E hr hgd h => ?_)
  · obtain ⟨a, g, wd, n, rows, e, rfl, _⟩ := h
    rfl
  · obtain ⟨a, g, wd, n, rows, e, rfl, hd, G, tb, k⟩ := h
    refine ⟨_, /- slots 0:shape -/
      (pss_one (ps_ret (pe_and (pe_cmpR (op_eqD hr.units) (pe_dkX d_made_shape (hr.mono (by decide)) (by rfl) (pa_cons (pv 0) pa_nil)) (pv 0) (nomark _)) (pe_one (pe_cmpR op_eq (pe_callB (call_reprD hgd) (by rfl) T.m_repr (by decide +kernel) (pa_cons (pe_dkX d_made_shape (hr.mono (by decide)) (by rfl) (pa_cons (pv 0) pa_nil)) pa_nil)) (pe_callB (call_reprD hgd) (by rfl) T.m_repr (by decide +kernel) (pa_cons (pv 0) pa_nil)) (nomark _)))))), ?_⟩
    refine ⟨_, rfl, .ref a, shP g wd n rows e, rfl, hd, tb, fun _ H1 sm1 tb1 => ?_, fun i hi => ?_⟩
    · refine ⟨_, rfl, shP g wd n rows e, shP g wd n rows e, (hd.sm sm1).dp, (hd.sm sm1).dp, sh_shaped, sh_shaped, ?_⟩
      rw [SeqAt.eqv_refl_plain _ (PyData.plain_of_canLay0 _ sh_lay)]
      refine ⟨_, rfl, iteT ?_⟩
      refine ⟨_, rfl, .ref a, shP g wd n rows e, rfl, hd.sm sm1, tb1, fun _ H2 sm2 tb2 => ?_, fun i hi => ?_⟩
      · have u := hr.units
        have dp := @sh_depth g wd n rows e
        have hd2 := hd.sm (sm1.trans sm2)
        have hu : (A.deeper (PyProof.Rows.envOfC "_law_is_right" (defScope s_law_is_right) s.heap.objs.size f cdv)).units + ((shP g wd n rows e).depth + 1) < cLine := by omega
        refine ⟨a, shP g wd n rows e, rfl, hd2, G.show_, PyData.hasDict_of_canLay _ sh_lay, G.len, hu, ?_⟩
        refine ⟨_, rfl, a, shP g wd n rows e, rfl, hd2, G.show_, PyData.hasDict_of_canLay _ sh_lay, G.len, hu, ?_⟩
        refine ⟨rfl, ?_⟩
        have k := k H2 (sm1.trans sm2) tb2
        rw [← decide_eq_true (rfl : V.str (shP g wd n rows e).shown = V.str (shP g wd n rows e).shown)] at k
        exact k
      · rw [G.fault] at hi
        cases hi
    · rw [G.fault] at hi
      cases hi
end
end K03
namespace K03
open PySem L2 LW GX LD K00
theorem none_bad (g n : Int) (k : Nat) : okAt g n k .none = false := by
  unfold okAt
  split <;> rfl
theorem fault_put {g wd n : Int} {rows : List (List Int)} {e : Int} (G : Good g wd n rows e) {j k : Nat} (hj : j < 5) (hk : k < 5) {d1 d2 : PyData} (b1 : okAt g n j d1 = false) (b2 : okAt g n k d2 = false) :
    let L : List PyData := [.int g, .int wd, .int n, .tuple (rows.map rowP), .int e]
    let L1 := L.take j ++ [d1] ++ L.drop (j + 1)
    faultD (.tuple L1) = some (j : Int) ∧ faultD (.tuple (L1.take k ++ [d2] ++ L1.drop (k + 1))) = some ((min j k : Nat) : Int) ∧ L1.length = 5 := by
  have pr := G.okP
  have tb := G.okT
  have w := from_ok G.w0 G.w1
  have nn := from_ok G.n0 G.n1
  have ee := from_ok G.e0 G.e1
  intro L L1
  have cj : j = 0 ∨ j = 1 ∨ j = 2 ∨ j = 3 ∨ j = 4 := by omega
  have ck : k = 0 ∨ k = 1 ∨ k = 2 ∨ k = 3 ∨ k = 4 := by omega
  rcases cj with rfl | rfl | rfl | rfl | rfl <;> rcases ck with rfl | rfl | rfl | rfl | rfl <;> simp only [okAt] at b1 b2 <;> refine ⟨?_, ?_, rfl⟩ <;> simp [L1, L, faultD, ival, b1, b2, pr, tb, w, nn, ee]
section
variable {P : Program} {w : World} {K : PySem.W.Frag} {mg : Str → Option Value} {base : Heap} {Ts : List Addr}
structure Bd (K : PySem.W.Frag) (Ts : List Addr) (p sh ot : Addr) (dS dO : PyData) (H : Hp) : Prop where
  hp : Pl H p
  tb : Tb Ts H
  ds : DT K H (.ref sh) dS
  dO : DT K H (.ref ot) dO
section
variable {p sh ot : Addr} {dS dO : PyData} {H H' : Hp}
theorem Bd.same (b : Bd K Ts p sh ot dS dO H) (s : Same H H') : Bd K Ts p sh ot dS dO H' := ⟨b.hp.same s, b.tb.same s, b.ds.sm (Sm.of s), b.dO.sm (Sm.of s)⟩
theorem Bd.rl (b : Bd K Ts p sh ot dS dO H) (s : Rl p H H') (hp : Pl H' p) : Bd K Ts p sh ot dS dO H' := ⟨hp, b.tb.rl s b.hp, b.ds.rl s b.hp, b.dO.rl s b.hp⟩
theorem Bd.sm (b : Bd K Ts p sh ot dS dO H) (s : Sm H H') (tb : Tb Ts H') : Bd K Ts p sh ot dS dO H' := ⟨s.pl b.hp, tb, b.ds.sm s, b.dO.sm s⟩
end
theorem dt_tup {H : Hp} {a : Addr} {ds : List PyData} (h : DT K H (.ref a) (.tuple ds)) : ∃ xs, SqT K H a xs ∧ DTs K H xs ds := by
  cases h with
  | tup h1 h2 => exact ⟨_, h1, h2⟩
theorem eqv_tup_nil (rows : List (List Int)) : PyData.eqv (.tuple (rows.map rowP)) (.tuple []) = rows.isEmpty := by
  cases rows <;> rfl
theorem many_fault {g wd n e M : Int} {rows : List (List Int)} (G : Good g wd n rows e) (h0 : 1 ≤ M) (h1 : M ≤ 6) (hM : M ≠ n) : faultD (.tuple [.int g, .int wd, .int M, .tuple (rows.map rowP), .int e]) = if rows.isEmpty = true then none else some 3 := by
  have pr := G.okP
  show (if primeD (.int g) = false then some 0 else if fromD (.int wd) 1 32 = false then some 1 else if fromD (.int M) 1 6 = false then some 2 else if tabD (.tuple (rows.map rowP)) M g = false then some 3 else if fromD (.int e) 0 3 = false then some 4 else none) = _
  rw [pr, from_ok G.w0 G.w1, from_ok h0 h1, from_ok G.e0 G.e1]
  have rw_ := G.rw
  cases rows with
  | nil => rfl
  | cons r rows =>
    have : tabD (.tuple ((r :: rows).map rowP)) M g = false := tab_bad (d := rowP r) (by simp) (row_len (by rw [List.length_map, (rw_ r List.mem_cons_self).1]; exact Ne.symm hM))
    rw [this]
    rfl
theorem cut_one {G : Prop} (R : Hp → Prop) (ok : Hp → Prop) (main : (∀ Hx, ok Hx → R Hx) → G) (rest : ∀ Hx, ok Hx → R Hx) : G := main rest
theorem cut_two {G : Prop} (R : Int → Hp → Prop) (ok : Int → Hp → Prop) (main : (∀ M Hx, ok M Hx → R M Hx) → G) (rest : ∀ M Hx, ok M Hx → R M Hx) : G := main rest
/-- == of ints and None -/
theorem things_bad {g wd n e : Int} {rows : List (List Int)} : ∀ d ∈ [PyData.tuple (List.take 4 [.int g, .int wd, .int n, .tuple (rows.map rowP), .int e]), .tuple ([.int g, .int wd, .int n, .tuple (rows.map rowP), .int e] ++ [.int 0]), .tuple [], .none, .int 7, .str "shape", .tuple [shP g wd n rows e]], faultD d = some (-1) := by
  intro d hd
  simp only [List.mem_cons, List.not_mem_nil, or_false] at hd
  rcases hd with rfl | rfl | rfl | rfl | rfl | rfl | rfl <;> rfl
def spLaw (K : PySem.W.Frag) (Ts : List Addr) : Sp := fun vs H Q _ => ∃ (a : Addr) (ns : List Int), vs = [.ref a] ∧ SqL K H a (ns.map V.int) ∧ ns.length ≤ 63 ∧ Tb Ts H ∧ ∀ H', Q (.bl true) H'
theorem ok_law {f : Addr} {fd : FuncData} {cdv : Value} (F : FunC K "law" "law" s_law f fd cdv) (T : Tx mg) (d_law_pool : Dk P w K mg base 1 "_law_pool" ["script", "k"] (spPool K)) (d_law_take : Dk P w K mg base 1 "_law_take" ["source", "top"] spTake)
    (d_law_shape : Dk P w K mg base 5 "_law_shape" ["source"] (spShape K)) (d_law_wrong : Dk P w K mg base 4 "_law_wrong" ["source", "shape", "part"] (spWrong K)) (d_law_refusal : Dk P w K mg base 10 "_law_refusal" ["thing"] (spRefusal K Ts))
    (d_law_is_right : DkG P w K mg base 10 "_law_is_right" ["shape"] (spIsRight K Ts)) : FnG P w K mg base CX0 11 f fd ["script"] (spLaw K Ts) := by
  refine F.okG sc_law (fun vs H Q E h => ?_) (fun A outer s H vs Q E hr hgd h => ?_)
  · obtain ⟨a, ns, rfl, _⟩ := h
    rfl
  · obtain ⟨a, ns, rfl, hS, hl, tb, k⟩ := h
    refine ⟨_, /- slots 0:script 1:source 2:shape 3:other 4:p 5:wide 6:n 7:table 8:e 9:many 10:thing 11:turn 12:one 13:two 14:bent -/
      (pss_cons (ps_set (i := 1) sc_law.nd rfl (by first | exact Or.inl rfl | exact Or.inr rfl) (pe_dk d_law_pool (hr.mono (by decide)) (by rfl) (pa_cons (pv 0) (pa_cons pe_int pa_nil)))) -- source = _law_pool(script, 0)
      (pss_cons (ps_par (i := 2) (j := 3) (by rfl) sc_law.nd rfl rfl (by decide) (by rfl) (by rfl) (pa_cons (pe_dk d_law_shape (hr.mono (by decide)) (by rfl) (pa_cons (pv 1) pa_nil)) (pa_cons (pe_dk d_law_shape (hr.mono (by decide)) (by rfl) (pa_cons (pv 1) pa_nil)) pa_nil)) (by rfl)) -- shape, other = (_law_shape(source), _law_shape(source))
      (pss_cons (ps_if (PW.pt (pw_or (pt_not (pt_val (pe_dkG d_law_is_right (hr.mono (by decide)) hgd (by rfl) (pa_cons (pv 2) pa_nil)))) (pw_or1 (pt_not (pt_val (pe_dkG d_law_is_right (hr.mono (by decide)) hgd (by rfl) (pa_cons (pv 3) pa_nil)))))))
        (pss_one (ps_ret pe_bl))
        pss_nil) -- if not _law_is_right(shape) or not _law_is_right(other):
      (pss_cons (ps_asg (pv 2) (pg_tup (by rfl) (pgs_cons (pg_name (i := 4) sc_law.nd rfl (by first | exact Or.inl rfl | exact Or.inr rfl)) (pgs_cons (pg_name (i := 5) sc_law.nd rfl (by first | exact Or.inl rfl | exact Or.inr rfl)) (pgs_cons (pg_name (i := 6) sc_law.nd rfl (by first | exact Or.inl rfl | exact Or.inr rfl)) (pgs_cons (pg_name (i := 7) sc_law.nd rfl (by first | exact Or.inl rfl | exact Or.inr rfl)) (pgs_cons (pg_name (i := 8) sc_law.nd rfl (by first | exact Or.inl rfl | exact Or.inr rfl)) pgs_nil))))))) -- p, wide, n, table, e = shape
      (pss_cons (ps_set (i := 9) sc_law.nd rfl (by first | exact Or.inl rfl | exact Or.inr rfl) (pe_ifExp (PW.pt (pw_or (pt_cmpR op_eq (pv 6) pe_int (nomark _)) (pw_or1 (PW.pt (pw_and (pt_cmpR op_lt (pv 6) pe_int (nomark _)) (pw_and1 (pt_cmpR op_eq (pe_dk d_law_take (hr.mono (by decide)) (by rfl) (pa_cons (pv 1) (pa_cons pe_int pa_nil))) pe_int (nomark _)))))))) (pe_op op_add (pv 6) pe_int) (pe_op op_sub (pv 6) pe_int))) -- many = n + 1 if n == 1 or (n < 6 and _law_take(source, 2) == 0) else n - 1
      (pss_cons (ps_if (pt_cmpR (op_neD hr.units) (pe_dk d_law_refusal (hr.mono (by decide)) (by rfl) (pa_cons (pe_tup (pa_cons (pv 4) (pa_cons (pv 5) (pa_cons (pv 9) (pa_cons (pv 7) (pa_cons (pv 8) pa_nil)))))) pa_nil)) (pe_ifExp (pt_cmpR (op_eqD hr.units) (pv 7) (pe_tup pa_nil) (nomark _)) pe_non pe_int) (nomark _))
        (pss_one (ps_ret pe_bl))
        pss_nil) -- if _law_refusal((p, wide, many, table, e)) != (None if table == () else 3):
      (pss_cons (ps_for PassesOwn.never rfl (pi_list (pe_lst (pa_cons (pe_slice sl_tupD (pv 2) po_none (po_some pe_int)) (pa_cons (pe_op op_catD (pv 2) (pe_tup (pa_cons pe_int pa_nil))) (pa_cons (pe_tup pa_nil) (pa_cons pe_non (pa_cons pe_int (pa_cons pe_str (pa_cons (pe_tup (pa_cons (pv 2) pa_nil)) pa_nil))))))))) (pg_name (i := 10) sc_law.nd rfl (by first | exact Or.inl rfl | exact Or.inr rfl))
        (pss_one (ps_if (pt_cmpR (op_neD hr.units) (pe_dk d_law_refusal (hr.mono (by decide)) (by rfl) (pa_cons (pv 10) pa_nil)) (pe_un un_neg pe_int) (nomark _))
          (pss_one (ps_ret pe_bl))
          pss_nil))) -- for thing in [shape[:4], shape + (0,), (), None, 7, 'shape', (shape,)]:
      (pss_cons (ps_for PassesOwn.never rfl (pi_range1 (by rfl) T.m_range (pa_cons pe_int pa_nil)) (pg_name (i := 11) sc_law.nd rfl (by first | exact Or.inl rfl | exact Or.inr rfl))
        (pss_cons (ps_par (i := 12) (j := 13) (by rfl) sc_law.nd rfl rfl (by decide) (by rfl) (by rfl) (pa_cons (pe_dk d_law_take (hr.mono (by decide)) (by rfl) (pa_cons (pv 1) (pa_cons pe_int pa_nil))) (pa_cons (pe_dk d_law_take (hr.mono (by decide)) (by rfl) (pa_cons (pv 1) (pa_cons pe_int pa_nil))) pa_nil)) (by rfl)) -- one, two = (_law_take(source, 5), _law_take(source, 5))
        (pss_cons (ps_set (i := 14) sc_law.nd rfl (by first | exact Or.inl rfl | exact Or.inr rfl) (pe_op op_catD (pe_op op_catD (pe_slice sl_tupD (pv 2) po_none (po_some (pv 12))) (pe_tup (pa_cons (pe_dk d_law_wrong (hr.mono (by decide)) (by rfl) (pa_cons (pv 1) (pa_cons (pv 2) (pa_cons (pv 12) pa_nil)))) pa_nil))) (pe_slice sl_tupD (pv 2) (po_some (pe_op op_add (pv 12) pe_int)) po_none))) -- bent = shape[:one] + (_law_wrong(source, shape, one),) + shape[one + 1:]
        (C8.pss_cut (ps_if (pt_cmpR op_eq (pe_dk d_law_take (hr.mono (by decide)) (by rfl) (pa_cons (pv 1) (pa_cons pe_int pa_nil))) pe_int (nomark _))
          (pss_cons (ps_set (i := 14) sc_law.nd rfl (by first | exact Or.inl rfl | exact Or.inr rfl) (pe_op op_catD (pe_op op_catD (pe_slice sl_tupD (pv 14) po_none (po_some (pv 13))) (pe_tup (pa_cons (pe_dk d_law_wrong (hr.mono (by decide)) (by rfl) (pa_cons (pv 1) (pa_cons (pv 2) (pa_cons (pv 13) pa_nil)))) pa_nil))) (pe_slice sl_tupD (pv 14) (po_some (pe_op op_add (pv 13) pe_int)) po_none))) -- bent = bent[:two] + (_law_wrong(source, shape, two),) + bent[two + 1:]
          (pss_one (ps_set (i := 12) sc_law.nd rfl (by first | exact Or.inl rfl | exact Or.inr rfl) (pe_callB (call_min2 rfl) (by rfl) T.m_min (by decide +kernel) (pa_cons (pv 12) (pa_cons (pv 13) pa_nil))))))
          pss_nil) -- if _law_take(source, 2) == 0:
        (pss_cons (ps_if (pt_cmpR (op_neD hr.units) (pe_dk d_law_refusal (hr.mono (by decide)) (by rfl) (pa_cons (pv 14) pa_nil)) (pv 12) (nomark _))
          (pss_one (ps_ret pe_bl))
          pss_nil) -- if _law_refusal(bent) != one:
        (pss_one (ps_if (pt_not (pt_val (pe_dkG d_law_is_right (hr.mono (by decide)) hgd (by rfl) (pa_cons (pv 3) pa_nil))))
          (pss_one (ps_ret pe_bl))
          pss_nil))))))) -- for turn in range(4):
      (pss_one (ps_ret (pe_dkG d_law_is_right (hr.mono (by decide)) hgd (by rfl) (pa_cons (pv 2) pa_nil)))))))))))), ?_⟩
    refine ⟨_, rfl, a, ns, 0, rfl, hS, hl, by decide, by decide, fun H1 p sm1 nP hp1 => ?_⟩
    refine ⟨_, rfl, p, rfl, hp1, fun sh g wd n rows e H2 G hd2 rl2 hp2 => ?_⟩
    refine ⟨_, rfl, p, rfl, hp2, fun ot g' wd' n' rows' e' H3 G' hd3 rl3 hp3 => ?_⟩
    refine ⟨_, _, rfl, ?_⟩
    have B3 : Bd K Ts p sh ot (shP g wd n rows e) (shP g' wd' n' rows' e') H3 := ⟨hp3, ((tb.same sm1).rl rl2 hp1).rl rl3 hp2, hd2.rl rl3 hp2, hd3⟩
    refine ⟨_, rfl, sh, g, wd, n, rows, e, rfl, B3.ds, G, B3.tb, fun H4 sm4 tb4 => ?_⟩
    have B4 := B3.sm sm4 tb4
    refine ⟨_, rfl, iteF ?_⟩
    refine ⟨_, rfl, ot, g', wd', n', rows', e', rfl, B4.dO, G', B4.tb, fun H5 sm5 tb5 => ?_⟩
    have B5 := B4.sm sm5 tb5
    refine ⟨_, rfl, iteF ?_⟩
    clear sm5 sm4 tb4 B4 B3 hp3 rl3 hd3 hp2 rl2 hd2 hp1 sm1 tb5 tb nP
    have dsx := B5.ds
    cases dsx with
    | @tup _ xs _ hs hds =>
    obtain ⟨v1, xs, _, _, rfl, z, dp, hds, _⟩ := dts_one (n := 4) hds rfl
    cases z
    obtain ⟨v2, xs, _, _, rfl, z, dw, hds, _⟩ := dts_one (n := 3) hds rfl
    cases z
    obtain ⟨v3, xs, _, _, rfl, z, dn, hds, _⟩ := dts_one (n := 2) hds rfl
    cases z
    obtain ⟨v4, xs, _, _, rfl, z, dt, hds, _⟩ := dts_one (n := 1) hds rfl
    cases z
    obtain ⟨v5, xs, _, _, rfl, z, de, hds, _⟩ := dts_one (n := 0) hds rfl
    cases z
    obtain ⟨rfl, _⟩ := dts_nil hds rfl
    cases dp
    cases dn
    cases dw
    cases de
    refine ⟨_, rfl, sh, _, rfl, hs, rfl, _, _, rfl, _, _, rfl, _, _, rfl, _, _, rfl, _, _, rfl, rfl, ?_⟩
    have n0 := G.n0
    have n1 := G.n1
    apply cut_two (ok := fun M Hx => 1 ≤ M ∧ M ≤ 6 ∧ M ≠ n ∧ Bd K Ts p sh ot (shP g wd n rows e) (shP g' wd' n' rows' e') Hx ∧ DT K Hx v4 (.tuple (rows.map rowP)))
    case main =>
      intro go
      refine ⟨_, rfl, rfl, _, rfl, ?_⟩
      refine ite2 (fun h1 => ?_) (fun h1 => ?_)
      · have hn : n = 1 := V.int.inj (of_decide_eq_true h1)
        refine ⟨_, rfl, _, _, rfl, rfl, ?_⟩
        dsimp only
        generalize hM : n + 1 = M
        exact go M H5 ⟨by omega, by omega, by omega, B5, dt⟩
      · have hn : n ≠ 1 := fun q => h1 (decide_eq_true (congrArg V.int q))
        refine ⟨_, rfl, _, _, rfl, rfl, _, rfl, ?_⟩
        refine ite2 (fun h2 => ?_) (fun h2 => ?_)
        · have h2 : n < 6 := of_decide_eq_true h2
          refine ⟨_, rfl, p, 2, rfl, B5.hp, by decide, by decide, fun d6 H6 d60 d61 rl6 hp6 => ?_⟩
          have dt6 := dt.rl rl6 B5.hp
          have B6 := B5.rl rl6 hp6
          refine ⟨rfl, _, rfl, ?_⟩
          refine ite2 (fun h3 => ?_) (fun h3 => ?_)
          · refine ⟨_, rfl, _, _, rfl, rfl, ?_⟩
            dsimp only
            generalize hM : n + 1 = M
            exact go M H6 ⟨by omega, by omega, by omega, B6, dt6⟩
          · refine ⟨_, rfl, _, _, rfl, rfl, ?_⟩
            dsimp only
            generalize hM : n - 1 = M
            exact go M H6 ⟨by omega, by omega, by omega, B6, dt6⟩
        · refine ⟨_, rfl, _, _, rfl, rfl, ?_⟩
          dsimp only
          generalize hM : n - 1 = M
          exact go M H5 ⟨by omega, by omega, by omega, B5, dt⟩
    case rest =>
      rintro M H6 ⟨M0, M1, Mn, B6, dt6⟩
      refine ⟨_, rfl, _, rfl, _, rfl, _, rfl, _, rfl, (by show 5 ≤ sizeLine; decide), fun zt nzt => ?_⟩
      refine ⟨.ref zt, .tuple [.int g, .int wd, .int M, .tuple (rows.map rowP), .int e], rfl, .tup (.inl (.inl upd_same)) (.cons (.int _) (.cons (.int _) (.cons (.int _) (.cons (dt6.sm (Sm.of (same_upd nzt))) (.cons (.int _) .nil))))), B6.tb.same (same_upd nzt), fun H7 sm7 tb7 => ?_⟩
      rw [many_fault G M0 M1 Mn]
      have sm67 := (Sm.of (same_upd nzt)).trans sm7
      have B7 := B6.sm sm67 tb7
      have dt7 := dt6.sm sm67
      refine ⟨_, rfl, (by show 0 ≤ sizeLine; decide), fun z0 nz0 => ?_⟩
      refine ⟨.tuple (rows.map rowP), .tuple [], (dt7.sm (Sm.of (same_upd nz0))).dp, (DT.tup (.inl (.inl upd_same)) .nil).dp, tab_shaped rows, rfl, _, rfl, ?_⟩
      have B8 : Bd K Ts p sh ot (shP g wd n rows e) (shP g' wd' n' rows' e') (upd H7 z0 (.tup [])) := B7.same (same_upd nz0)
      rw [eqv_tup_nil]
      generalize upd H7 z0 (.tup []) = H8 at B8 ⊢
      -- the two are alike: on to the list of things
      apply cut_one (ok := fun Hx => Bd K Ts p sh ot (shP g wd n rows e) (shP g' wd' n' rows' e') Hx)
      case main =>
        intro go
        cases rows.isEmpty with
        | true =>
          refine iteT ?_
          refine ⟨.none, .none, DT.non.dp, DT.non.dp, rfl, rfl, _, rfl, iteF ?_⟩
          dsimp only
          exact go H8 B8
        | false =>
          refine iteF ?_
          refine ⟨.int 3, .int 3, (DT.int 3).dp, (DT.int 3).dp, rfl, rfl, _, rfl, iteF ?_⟩
          dsimp only
          exact go H8 B8
      case rest =>
        intro H9 B9
        obtain ⟨xs, hxs, hxd⟩ := dt_tup B9.ds
        have hx5 : xs.length = 5 := hxd.len
        refine ⟨_, rfl, 4, rfl, sh, xs, rfl, hxs, fun c1 HA smA hc1 => ?_⟩
        rw [show (4 : Int) = ((4 : Nat) : Int) from rfl, cut_to] at hc1
        refine ⟨_, rfl, (by show 1 ≤ sizeLine; decide), fun z nz => ?_⟩
        have sAz : Same H9 (upd HA z (.tup [.int 0])) := smA.trans (same_upd nz)
        refine ⟨sh, z, _, _, rfl, rfl, LW.Same.seqT sAz hxs, .inl (.inl upd_same), (by rw [hx5, sizeLine_eq]; show 5 + 1 ≤ _; omega), fun c2 HB smB hc2 => ?_⟩
        have s9B := sAz.trans smB
        refine ⟨(by show 0 ≤ sizeLine; decide), fun c3 nc3 => ?_⟩
        have s9C : Same H9 (upd HB c3 (.tup [])) := s9B.trans (same_upd nc3)
        have q3 : (upd HB c3 (.tup [])) c3 = some (.tup []) := upd_same
        have q1 := LW.Same.seqT ((same_upd nz).trans (smB.trans (same_upd (o := .tup []) nc3))) hc1
        have q2 := LW.Same.seqT (same_upd (o := .tup []) nc3) hc2
        generalize upd HB c3 (.tup []) = HC at s9C q3 q1 q2 ⊢
        refine ⟨_, rfl, (by show 1 ≤ sizeLine; decide), fun c4 nc4 => ?_⟩
        have s9D : Same H9 (upd HC c4 (.tup [.ref sh])) := s9C.trans (same_upd nc4)
        have sCD : Same HC (upd HC c4 (.tup [.ref sh])) := same_upd nc4
        have q4 : (upd HC c4 (.tup [.ref sh])) c4 = some (.tup [.ref sh]) := upd_same
        generalize upd HC c4 (.tup [.ref sh]) = HD at s9D sCD q4 ⊢
        have B10 := B9.same s9D
        have hxdD := hxd.sm (Sm.of s9D)
        have dl : DTs K HD [.ref c1, .ref c2, .ref c3, .non, .int 7, .str "shape", .ref c4] [.tuple (List.take 4 [.int g, .int wd, .int n, .tuple (rows.map rowP), .int e]), .tuple ([.int g, .int wd, .int n, .tuple (rows.map rowP), .int e] ++ [.int 0]), .tuple [], .none, .int 7, .str "shape", .tuple [shP g wd n rows e]] :=
          .cons (.tup (LW.Same.seqT sCD q1) (hxdD.take 4)) (.cons (.tup (LW.Same.seqT sCD q2) (hxdD.app (.cons (.int 0) .nil))) (.cons (.tup (LW.Same.seqT sCD (.inl (.inl q3))) .nil) (.cons .non (.cons (.int 7) (.cons (.str _) (.cons (.tup (.inl (.inl q4)) (.cons B10.ds .nil)) .nil))))))
        refine ⟨(by show 7 ≤ sizeLine; decide), fun L nL => ⟨L, rfl, ⟨_, SqL.of upd_same⟩, ?_⟩⟩
        have B11 : Bd K Ts p sh ot (shP g wd n rows e) (shP g' wd' n' rows' e') (upd HD L (.lst [.ref c1, .ref c2, .ref c3, .non, .int 7, .str "shape", .ref c4])) := B10.same (same_upd nL)
        have dl11 := dl.sm (Sm.of (same_upd (o := .lst [.ref c1, .ref c2, .ref c3, .non, .int 7, .str "shape", .ref c4]) nL))
        refine for_list (K := K) (a := L) (xs := [.ref c1, .ref c2, .ref c3, .non, .int 7, .str "shape", .ref c4]) (fun i σ H' => ∃ nv : Option V, σ = [some (.ref a), some (.ref p), some (.ref sh), some (.ref ot), some (.int g), some (.int wd), some (.int n), some v4, some (.int e), some (.int M), nv, none, none, none, none] ∧ Bd K Ts p sh ot (shP g wd n rows e) (shP g' wd' n' rows' e') H' ∧ H' L = some (.lst [.ref c1, .ref c2, .ref c3, .non, .int 7, .str "shape", .ref c4]) ∧
          DTs K H' [.ref c1, .ref c2, .ref c3, .non, .int 7, .str "shape", .ref c4] [.tuple (List.take 4 [.int g, .int wd, .int n, .tuple (rows.map rowP), .int e]), .tuple ([.int g, .int wd, .int n, .tuple (rows.map rowP), .int e] ++ [.int 0]), .tuple [], .none, .int 7, .str "shape", .tuple [shP g wd n rows e]])
          ⟨none, rfl, B11, upd_same, dl11⟩ ?_ ?_ ?_
        · rintro i σ H' hi ⟨nv, rfl, B, hL, hd⟩
          exact SqL.of hL
        · rintro i x σ H' hx ⟨nv, rfl, B, hL, hd⟩
          obtain ⟨dx, hdx, hDx⟩ := hd.get hx
          refine ⟨_, rfl, x, dx, rfl, hDx, B.tb, fun H2 sm2 tb2 => ?_⟩
          rw [things_bad dx (List.mem_of_getElem? hdx)]
          refine ⟨_, rfl, .int (-1), .int (-1), (DT.int (-1)).dp, (DT.int (-1)).dp, rfl, rfl, _, rfl, iteF ?_⟩
          exact ⟨_, rfl, B.sm sm2 tb2, sm2 _ _ hL (fun ps => nofun), hd.sm sm2⟩
        rintro σ HE ⟨nv, rfl, BE, _, _⟩
        clear dl dl11 B11 B10 B9 q1 q2 q3 q4 s9D sCD s9C s9B sAz hxd hxdD
        -- the turns
        refine ⟨4, rfl, by decide, by decide, ?_⟩
        refine for_range (lo := 0) (n := 4) (fun i σ H' => ∃ nt no nw nb : Option V, σ = [some (.ref a), some (.ref p), some (.ref sh), some (.ref ot), some (.int g), some (.int wd), some (.int n), some v4, some (.int e), some (.int M), nv, nt, no, nw, nb] ∧ Bd K Ts p sh ot (shP g wd n rows e) (shP g' wd' n' rows' e') H') ⟨none, none, none, none, rfl, BE⟩ ?_ ?_
        · rintro i σ H' hi ⟨nt, no, nw, nb, rfl, B⟩
          refine ⟨_, rfl, p, 5, rfl, B.hp, by decide, by decide, fun o H1 o0 o1 rl1 hp1 => ?_⟩
          refine ⟨_, rfl, p, 5, rfl, hp1, by decide, by decide, fun u H2 u0 u1 rl2 hp2 => ?_⟩
          refine ⟨_, _, rfl, ?_⟩
          obtain ⟨O, rfl⟩ : ∃ O : Nat, o = (O : Int) := ⟨o.toNat, by omega⟩
          obtain ⟨U, rfl⟩ : ∃ U : Nat, u = (U : Int) := ⟨u.toNat, by omega⟩
          have B2 := (B.rl rl1 hp1).rl rl2 hp2
          obtain ⟨xs, hxs, hxd⟩ := dt_tup B2.ds
          have hx5 : xs.length = 5 := hxd.len
          refine ⟨_, rfl, _, rfl, O, rfl, sh, xs, rfl, hxs, fun s1 HA smA hs1 => ?_⟩
          rw [cut_to] at hs1
          have BA := B2.same smA
          refine ⟨_, rfl, _, rfl, _, rfl, p, sh, O, g, wd, n, rows, e, rfl, BA.hp, BA.ds, G, by omega, fun v d HB hv hbad rlB hpB => ?_⟩
          have BB := BA.rl rlB hpB
          refine ⟨(by show 1 ≤ sizeLine; decide), fun z nz => ?_⟩
          refine ⟨s1, z, _, _, rfl, rfl, LW.Same.seqT (same_upd nz) (sqt_rl hs1 rlB BA.hp), .inl (.inl upd_same), (by rw [List.length_take, hx5, sizeLine_eq]; show min O 5 + 1 ≤ _; omega), fun s2 HC smC hs2 => ?_⟩
          have sBC := (same_upd nz).trans smC
          have hxsC := LW.Same.seqT sBC (sqt_rl (LW.Same.seqT smA hxs) rlB BA.hp)
          have hxdC := ((hxd.sm (Sm.of smA)).rl rlB BA.hp).sm (Sm.of sBC)
          refine ⟨_, rfl, _, rfl, _, _, rfl, rfl, _, rfl, sh, xs, rfl, hxsC, fun s3 HD smD hs3 => ?_⟩
          rw [show ((O : Int) + 1) = ((O + 1 : Nat) : Int) from rfl, cut_from] at hs3
          refine ⟨s2, s3, _, _, rfl, rfl, LW.Same.seqT smD hs2, hs3, (by rw [List.length_append, List.length_take, List.length_drop, hx5, sizeLine_eq]; show min O 5 + 1 + (5 - (O + 1)) ≤ _; omega), fun bt HE smE hbt => ?_⟩
          have sBE := sBC.trans (smD.trans smE)
          have BE := BB.same sBE
          have hxdE := hxdC.sm (Sm.of (smD.trans smE))
          have dbt : DT K HE (.ref bt) (.tuple ([PyData.int g, .int wd, .int n, .tuple (rows.map rowP), .int e].take O ++ [d] ++ [PyData.int g, .int wd, .int n, .tuple (rows.map rowP), .int e].drop (O + 1))) :=
            .tup hbt (((hxdE.take O).app (.cons (hv.sm (Sm.of sBE)) .nil)).app (hxdE.drop (O + 1)))
          clear hxdE hxdC hxsC hs3 hs2 hs1 hbt hv sBE sBC
          refine ⟨fun σ' H' => ∃ (bt2 : Addr) (db : PyData) (m : Nat) (n2 n3 : Option V), σ' = [some (.ref a), some (.ref p), some (.ref sh), some (.ref ot), some (.int g), some (.int wd), some (.int n), some v4, some (.int e), some (.int M), nv, n2, some (.int (m : Int)), n3, some (.ref bt2)] ∧ Bd K Ts p sh ot (shP g wd n rows e) (shP g' wd' n' rows' e') H' ∧ DT K H' (.ref bt2) db ∧ faultD db = some (m : Int), ?_, ?_⟩
          · refine ⟨_, rfl, p, 2, rfl, BE.hp, by decide, by decide, fun d6 H6 d60 d61 rl6 hp6 => ?_⟩
            have B6 := BE.rl rl6 hp6
            have dbt6 := dbt.rl rl6 BE.hp
            refine ⟨rfl, _, rfl, ?_⟩
            refine ite2 (fun h1 => ?_) (fun h1 => ?_)
            · obtain ⟨ys, hys, hyd⟩ := dt_tup dbt6
              have fp := fun d2 : PyData => fault_put G (j := O) (by omega) (k := U) (by omega) (d2 := d2) hbad
              have hy5 : ys.length = 5 := hyd.len.trans (fp .none (none_bad g n U)).2.2
              refine ⟨_, rfl, _, rfl, U, rfl, bt, ys, rfl, hys, fun s1 HA smA hs1 => ?_⟩
              rw [cut_to] at hs1
              have BA := B6.same smA
              refine ⟨_, rfl, _, rfl, _, rfl, p, sh, U, g, wd, n, rows, e, rfl, BA.hp, BA.ds, G, by omega, fun v d2 HB hv hbad2 rlB hpB => ?_⟩
              have BB := BA.rl rlB hpB
              refine ⟨(by show 1 ≤ sizeLine; decide), fun z nz => ?_⟩
              refine ⟨s1, z, _, _, rfl, rfl, LW.Same.seqT (same_upd nz) (sqt_rl hs1 rlB BA.hp), .inl (.inl upd_same), (by rw [List.length_take, hy5, sizeLine_eq]; show min U 5 + 1 ≤ _; omega), fun s2 HC smC hs2 => ?_⟩
              have sBC := (same_upd nz).trans smC
              have hysC := LW.Same.seqT sBC (sqt_rl (LW.Same.seqT smA hys) rlB BA.hp)
              have hydC := ((hyd.sm (Sm.of smA)).rl rlB BA.hp).sm (Sm.of sBC)
              refine ⟨_, rfl, _, rfl, _, _, rfl, rfl, _, rfl, bt, ys, rfl, hysC, fun s3 HD smD hs3 => ?_⟩
              rw [show ((U : Int) + 1) = ((U + 1 : Nat) : Int) from rfl, cut_from] at hs3
              refine ⟨s2, s3, _, _, rfl, rfl, LW.Same.seqT smD hs2, hs3, (by rw [List.length_append, List.length_take, List.length_drop, hy5, sizeLine_eq]; show min U 5 + 1 + (5 - (U + 1)) ≤ _; omega), fun bt2 HF smF hbt2 => ?_⟩
              have sBF := sBC.trans (smD.trans smF)
              have BF := BB.same sBF
              have hydF := hydC.sm (Sm.of (smD.trans smF))
              have dbt2 : DT K HF (.ref bt2) (.tuple (([PyData.int g, .int wd, .int n, .tuple (rows.map rowP), .int e].take O ++ [d] ++ [PyData.int g, .int wd, .int n, .tuple (rows.map rowP), .int e].drop (O + 1)).take U ++ [d2] ++ ([PyData.int g, .int wd, .int n, .tuple (rows.map rowP), .int e].take O ++ [d] ++ [PyData.int g, .int wd, .int n, .tuple (rows.map rowP), .int e].drop (O + 1)).drop (U + 1))) :=
                .tup hbt2 (((hydF.take U).app (.cons (hv.sm (Sm.of sBF)) .nil)).app (hydF.drop (U + 1)))
              have f2 := (fp d2 hbad2).2.1
              refine ⟨_, rfl, _, rfl, _, _, rfl, ?_⟩
              refine ⟨bt2, _, min O U, some (.int (0 + (i : Int))), some (.int (U : Int)), ?_, BF, dbt2, f2⟩
              have em : (((min O U : Nat)) : Int) = if (U : Int) < (O : Int) then (U : Int) else (O : Int) := by
                split <;> omega
              rw [em]
              rfl
            · exact ⟨bt, _, O, _, _, rfl, B6, dbt6, (fault_put G (by omega) (k := 0) (by decide) hbad (d2 := .none) rfl).1⟩
          · rintro σ' H' ⟨bt2, db, m, n2, n3, rfl, B7, hb7, hf⟩
            refine ⟨_, rfl, .ref bt2, db, rfl, hb7, B7.tb, fun H8 sm8 tb8 => ?_⟩
            rw [hf]
            refine ⟨_, rfl, .int m, .int m, (DT.int _).dp, (DT.int _).dp, rfl, rfl, _, rfl, ?_⟩
            rw [SeqAt.eqv_refl_plain (.int (m : Int)) rfl]
            refine iteF ?_
            have B8 := B7.sm sm8 tb8
            refine ⟨_, rfl, ot, g', wd', n', rows', e', rfl, B8.dO, G', B8.tb, fun H9 sm9 tb9 => ⟨_, rfl, iteF ?_⟩⟩
            exact ⟨_, _, _, _, rfl, B8.sm sm9 tb9⟩
        · rintro σ H' ⟨nt, no, nw, nb, rfl, B⟩
          exact ⟨_, rfl, sh, g, wd, n, rows, e, rfl, B.ds, G, B.tb, fun H2 sm2 tb2 => k H2⟩
end
end K03
set_option maxHeartbeats 4000000
namespace K03
open PySem L2 LW GX LD K00
theorem all_mk {l : PySem.W.OpenLaw} {w : World} {K : PySem.W.Frag} {h : Heap} {mg mb : Str → Option Value} {q : Program} {lo : List Str} {mean : ExcName → Option Value} {fa f1 f2 f3 f4 f5 f6 f7 f8 f9 f10 f11 f12 f13 f14 f15 f16 f17 f18 fI C B c1_ c2_ P1 P2 : Addr} (TP : PyProof.Rows.Top q lo mean mg mb h) (X : K.In h) (G : h.Ns mainGlobals mg) (hfa : mg "law" = some (.ref fa))
    {od1 an1 od2 an2 od3 an3 od4 an4 od5 an5 od6 an6 od7 an7 od8 an8 od9 an9 od10 an10 od11 an11 od12 an12 od13 an13 od14 an14 od15 an15 od16 an16 od17 an17 od18 an18 odI anI : Option Addr} {sl1 sl2 sl3 sl4 sl5 sl6 sl7 sl8 sl9 sl10 sl11 sl12 sl13 sl14 sl15 sl16 sl17 sl18 slI : Array (Option Value)} {oc1 kV1 dc1 pm1 ct1 cd1 oc2 kV2 dc2 pm2 ct2 cd2 oc3 kV3 dc3 pm3 ct3 cd3 oc4 kV4 dc4 pm4 ct4 oc5 kV5 dc5 pm5 ct5 cd5 oc6 kV6 dc6 pm6 ct6 oc7 kV7 dc7 pm7 ct7 cd7 oc8 kV8 dc8 pm8 ct8 cd8 oc9 kV9 dc9 pm9 ct9 cd9 oc10 kV10 dc10 pm10 ct10 cd10 oc11 kV11 dc11 pm11 ct11 cd11 oc12 kV12 dc12 pm12 ct12 cd12 oc13 kV13 dc13 pm13 ct13 cd13 oc14 kV14 dc14 pm14 ct14 cd14 oc15 kV15 dc15 pm15 ct15 cd15 oc16 kV16 dc16 pm16 ct16 cd16 oc17 kV17 dc17 pm17 ct17 cd17 oc18 kV18 dc18 pm18 ct18 cd18 ocI kVI dcI pmI ctI cdI : Value} {dR dT : PySem.DefRec}
    {t_GREATEST_PRIME t_GREATEST_WIDE t_GREATEST_DATA t_GREATEST_SUMS t_GREATEST_LOST : Tok}
    {nm_ q_ : Str} {N_ : Addr} {bs_ bm_ : List Value} {sn_ : List Str} {sub_ : List Value} {ab_ : Bool} {col_ : Option Bool} {dd_ : Option Addr} {k0_ k1_ k3_ k5_ : Option Value} {wd_ : Str} {tk_ : Tok}
    (a1 : PySem.W.nsIn K mainGlobals "is_number" = some (some (.ref f1)))
    (l1 : K.lookup f1 = some ⟨oc1, od1, .func (PySem.W.fnOf "is_number" "is_number" (defArgs s_is_number) (defBody s_is_number) (defScope s_is_number) .none kV1 dc1 pm1 an1 cd1 ct1), sl1⟩) (c1 : PySem.W.codeIn K cd1 "is_number" = true) (k1 : PySem.W.keepIn K (.ref f1) = true)
    (a2 : PySem.W.nsIn K mainGlobals "is_from" = some (some (.ref f2)))
    (l2 : K.lookup f2 = some ⟨oc2, od2, .func (PySem.W.fnOf "is_from" "is_from" (defArgs s_is_from) (defBody s_is_from) (defScope s_is_from) .none kV2 dc2 pm2 an2 cd2 ct2), sl2⟩) (c2 : PySem.W.codeIn K cd2 "is_from" = true) (k2 : PySem.W.keepIn K (.ref f2) = true)
    (a3 : PySem.W.nsIn K mainGlobals "is_tuple_of" = some (some (.ref f3)))
    (l3 : K.lookup f3 = some ⟨oc3, od3, .func (PySem.W.fnOf "is_tuple_of" "is_tuple_of" (defArgs s_is_tuple_of) (defBody s_is_tuple_of) (defScope s_is_tuple_of) .none kV3 dc3 pm3 an3 cd3 ct3), sl3⟩) (c3 : PySem.W.codeIn K cd3 "is_tuple_of" = true) (k3 : PySem.W.keepIn K (.ref f3) = true)
    (a4 : PySem.W.nsIn K mainGlobals "is_row" = some (some (.ref f4)))
    (tb1 : PySem.W.tabIn K "is_row" = some (c1_, P1))
    (l4 : K.lookup f4 = some ⟨oc4, od4, .func (PySem.W.fnOf "is_row" "is_row" (defArgs s_is_row) (defBody s_is_row) (defScope s_is_row) .none kV4 dc4 pm4 an4 (.ref c1_) ct4), sl4⟩) (c4 : PySem.W.codeIn K (.ref c1_) "is_row" = true) (k4 : PySem.W.keepIn K (.ref f4) = true)
    (a5 : PySem.W.nsIn K mainGlobals "is_prime" = some (some (.ref f5)))
    (l5 : K.lookup f5 = some ⟨oc5, od5, .func (PySem.W.fnOf "is_prime" "is_prime" (defArgs s_is_prime) (defBody s_is_prime) (defScope s_is_prime) .none kV5 dc5 pm5 an5 cd5 ct5), sl5⟩) (c5 : PySem.W.codeIn K cd5 "is_prime" = true) (k5 : PySem.W.keepIn K (.ref f5) = true)
    (a6 : PySem.W.nsIn K mainGlobals "is_table" = some (some (.ref f6)))
    (tb2 : PySem.W.tabIn K "is_table" = some (c2_, P2))
    (l6 : K.lookup f6 = some ⟨oc6, od6, .func (PySem.W.fnOf "is_table" "is_table" (defArgs s_is_table) (defBody s_is_table) (defScope s_is_table) .none kV6 dc6 pm6 an6 (.ref c2_) ct6), sl6⟩) (c6 : PySem.W.codeIn K (.ref c2_) "is_table" = true) (k6 : PySem.W.keepIn K (.ref f6) = true)
    (a7 : PySem.W.nsIn K mainGlobals "made_shape" = some (some (.ref f7)))
    (l7 : K.lookup f7 = some ⟨oc7, od7, .func (PySem.W.fnOf "made_shape" "made_shape" (defArgs s_made_shape) (defBody s_made_shape) (defScope s_made_shape) .none kV7 dc7 pm7 an7 cd7 ct7), sl7⟩) (c7 : PySem.W.codeIn K cd7 "made_shape" = true) (k7 : PySem.W.keepIn K (.ref f7) = true)
    (a8 : PySem.W.nsIn K mainGlobals "_law_pool" = some (some (.ref f8)))
    (l8 : K.lookup f8 = some ⟨oc8, od8, .func (PySem.W.fnOf "_law_pool" "_law_pool" (defArgs s_law_pool) (defBody s_law_pool) (defScope s_law_pool) .none kV8 dc8 pm8 an8 cd8 ct8), sl8⟩) (c8 : PySem.W.codeIn K cd8 "_law_pool" = true) (k8 : PySem.W.keepIn K (.ref f8) = true)
    (a9 : PySem.W.nsIn K mainGlobals "_law_take" = some (some (.ref f9)))
    (l9 : K.lookup f9 = some ⟨oc9, od9, .func (PySem.W.fnOf "_law_take" "_law_take" (defArgs s_law_take) (defBody s_law_take) (defScope s_law_take) .none kV9 dc9 pm9 an9 cd9 ct9), sl9⟩) (c9 : PySem.W.codeIn K cd9 "_law_take" = true) (k9 : PySem.W.keepIn K (.ref f9) = true)
    (a10 : PySem.W.nsIn K mainGlobals "_law_one" = some (some (.ref f10)))
    (l10 : K.lookup f10 = some ⟨oc10, od10, .func (PySem.W.fnOf "_law_one" "_law_one" (defArgs s_law_one) (defBody s_law_one) (defScope s_law_one) .none kV10 dc10 pm10 an10 cd10 ct10), sl10⟩) (c10 : PySem.W.codeIn K cd10 "_law_one" = true) (k10 : PySem.W.keepIn K (.ref f10) = true)
    (a11 : PySem.W.nsIn K mainGlobals "_law_is_prime" = some (some (.ref f11)))
    (l11 : K.lookup f11 = some ⟨oc11, od11, .func (PySem.W.fnOf "_law_is_prime" "_law_is_prime" (defArgs s_law_is_prime) (defBody s_law_is_prime) (defScope s_law_is_prime) .none kV11 dc11 pm11 an11 cd11 ct11), sl11⟩) (c11 : PySem.W.codeIn K cd11 "_law_is_prime" = true) (k11 : PySem.W.keepIn K (.ref f11) = true)
    (a12 : PySem.W.nsIn K mainGlobals "_law_prime" = some (some (.ref f12)))
    (l12 : K.lookup f12 = some ⟨oc12, od12, .func (PySem.W.fnOf "_law_prime" "_law_prime" (defArgs s_law_prime) (defBody s_law_prime) (defScope s_law_prime) .none kV12 dc12 pm12 an12 cd12 ct12), sl12⟩) (c12 : PySem.W.codeIn K cd12 "_law_prime" = true) (k12 : PySem.W.keepIn K (.ref f12) = true)
    (a13 : PySem.W.nsIn K mainGlobals "_law_row" = some (some (.ref f13)))
    (l13 : K.lookup f13 = some ⟨oc13, od13, .func (PySem.W.fnOf "_law_row" "_law_row" (defArgs s_law_row) (defBody s_law_row) (defScope s_law_row) .none kV13 dc13 pm13 an13 cd13 ct13), sl13⟩) (c13 : PySem.W.codeIn K cd13 "_law_row" = true) (k13 : PySem.W.keepIn K (.ref f13) = true)
    (a14 : PySem.W.nsIn K mainGlobals "_law_shape" = some (some (.ref f14)))
    (l14 : K.lookup f14 = some ⟨oc14, od14, .func (PySem.W.fnOf "_law_shape" "_law_shape" (defArgs s_law_shape) (defBody s_law_shape) (defScope s_law_shape) .none kV14 dc14 pm14 an14 cd14 ct14), sl14⟩) (c14 : PySem.W.codeIn K cd14 "_law_shape" = true) (k14 : PySem.W.keepIn K (.ref f14) = true)
    (a15 : PySem.W.nsIn K mainGlobals "_law_wrong" = some (some (.ref f15)))
    (l15 : K.lookup f15 = some ⟨oc15, od15, .func (PySem.W.fnOf "_law_wrong" "_law_wrong" (defArgs s_law_wrong) (defBody s_law_wrong) (defScope s_law_wrong) .none kV15 dc15 pm15 an15 cd15 ct15), sl15⟩) (c15 : PySem.W.codeIn K cd15 "_law_wrong" = true) (k15 : PySem.W.keepIn K (.ref f15) = true)
    (a16 : PySem.W.nsIn K mainGlobals "_law_refusal" = some (some (.ref f16)))
    (l16 : K.lookup f16 = some ⟨oc16, od16, .func (PySem.W.fnOf "_law_refusal" "_law_refusal" (defArgs s_law_refusal) (defBody s_law_refusal) (defScope s_law_refusal) .none kV16 dc16 pm16 an16 cd16 ct16), sl16⟩) (c16 : PySem.W.codeIn K cd16 "_law_refusal" = true) (k16 : PySem.W.keepIn K (.ref f16) = true)
    (a17 : PySem.W.nsIn K mainGlobals "_law_is_right" = some (some (.ref f17)))
    (l17 : K.lookup f17 = some ⟨oc17, od17, .func (PySem.W.fnOf "_law_is_right" "_law_is_right" (defArgs s_law_is_right) (defBody s_law_is_right) (defScope s_law_is_right) .none kV17 dc17 pm17 an17 cd17 ct17), sl17⟩) (c17 : PySem.W.codeIn K cd17 "_law_is_right" = true) (k17 : PySem.W.keepIn K (.ref f17) = true)
    (a18 : PySem.W.nsIn K mainGlobals "law" = some (some (.ref f18)))
    (l18 : K.lookup f18 = some ⟨oc18, od18, .func (PySem.W.fnOf "law" "law" (defArgs s_law) (defBody s_law) (defScope s_law) .none kV18 dc18 pm18 an18 cd18 ct18), sl18⟩) (c18 : PySem.W.codeIn K cd18 "law" = true) (k18 : PySem.W.keepIn K (.ref f18) = true)
    (nt1 : K.lookup P1 = none) (rc1 : (PyProof.Rows.recsOf q).find? (fun e => e.name == ("is_row" : Str)) = some dR)
    (nt2 : K.lookup P2 = none) (rc2 : (PyProof.Rows.recsOf q).find? (fun e => e.name == ("is_table" : Str)) = some dT)
    (z_int : PySem.W.nsIn K mainGlobals "int" = some none)
    (z_bool : PySem.W.nsIn K mainGlobals "bool" = some none)
    (z_len : PySem.W.nsIn K mainGlobals "len" = some none)
    (z_max : PySem.W.nsIn K mainGlobals "max" = some none)
    (z_min : PySem.W.nsIn K mainGlobals "min" = some none)
    (z_range : PySem.W.nsIn K mainGlobals "range" = some none)
    (z_repr : PySem.W.nsIn K mainGlobals "repr" = some none)
    (z_isinstance : PySem.W.nsIn K mainGlobals "isinstance" = some none)
    (z_tuple : PySem.W.nsIn K mainGlobals "tuple" = some none)
    (z_all : PySem.W.nsIn K mainGlobals "all" = some none)
    (g_GREATEST_PRIME : PySem.W.nsIn K mainGlobals "GREATEST_PRIME" = some (some (.int 65521 t_GREATEST_PRIME)))
    (g_GREATEST_WIDE : PySem.W.nsIn K mainGlobals "GREATEST_WIDE" = some (some (.int 32 t_GREATEST_WIDE)))
    (g_GREATEST_DATA : PySem.W.nsIn K mainGlobals "GREATEST_DATA" = some (some (.int 6 t_GREATEST_DATA)))
    (g_GREATEST_SUMS : PySem.W.nsIn K mainGlobals "GREATEST_SUMS" = some (some (.int 5 t_GREATEST_SUMS)))
    (g_GREATEST_LOST : PySem.W.nsIn K mainGlobals "GREATEST_LOST" = some (some (.int 3 t_GREATEST_LOST)))
    (aC : PySem.W.nsIn K mainGlobals "BadShape" = some (some (.ref C))) (aB : PySem.W.nsIn K mainGlobals "BadCell" = some (some (.ref B)))
    (iC : PySem.W.findIn K (.ref C) "__init__" = some (some (.ref fI)))
    (lI : K.lookup fI = some ⟨ocI, odI, .func (PySem.W.fnOf "__init__" "Refused.__init__" (defArgs s_init) (defBody s_init) (defScope s_init) .none kVI dcI pmI anI cdI ctI), slI⟩) (cI : PySem.W.codeIn K cdI "Refused.__init__" = true) (kI : PySem.W.keepIn K (.ref fI) = true)
    (lC : K.lookup C = some (excClassObj nm_ q_ C N_ bs_ bm_ true sn_ sub_ ab_ col_ dd_ k0_ k1_ (some (.str wd_ tk_)) k3_ k5_ "ValueError.__new__"))
    (rC : PySem.HandSPX.refsVE bm_ = true)
    (e1 : PySem.W.findIn K (.ref C) "__setattr__" = some (some (.builtin "object.__setattr__")))
    (e2 : PySem.W.subIn K (.ref C) (.type "BaseException") = some true)
    (e3 : PySem.W.typeIn K (.ref C) = some (.type "type"))
    (e4 : PySem.W.keepIn K (.ref C) = true)
    (e5 : PySem.W.typeIn K (.ref fI) = some (.type "function"))
    (e6 : PySem.W.findIn K (.ref C) "what" = some none)
    (e7 : PySem.W.findIn K (.ref C) "__getattribute__" = some (some (.builtin "BaseException.__getattribute__")))
    (e8 : PySem.W.findIn K (.ref C) "__getattr__" = some none)
    (e9 : PySem.W.hasDictIn K C = true)
    (e10 : PySem.W.findIn K (.ref C) "__class__" = some (some (.builtin "object.__class__")))
    (e11 : PySem.W.specialIn K (.builtin "object.__class__") "__get__" = some (some (.builtin "getset_descriptor.__get__")))
    (e12 : PySem.W.takesIn K (.builtin "object.__class__") = some true)
    (e13 : PySem.W.mroIn K C (.type "object") = some true)
    (e16 : PySem.W.findIn K (.ref C) "word" = some none)
    (e17 : (PySem.W.clsIn K C).isSome = true)
    (e18 : PySem.W.nsIn K cStatics "thirdparty.any" = some none)
    (e19 : PySem.W.findCls K (.ref C) (.type "type") "__name__" = some (.get (.builtin "getset_descriptor.__get__") (.builtin "type.__name__") (.ref C) (.type "type")))
    (e14 : PySem.W.subIn K (.ref C) (.ref C) = some true)
    (e15 : PySem.W.kitOne K (.ref C) (.ref B) = some false)
    : LawAtG l w K CX0 11 63 "script" mg fa h := by
  have e := hfa.symm.trans (PySem.W.mg_of X G a18)
  cases e
  have F1 := fun_mk (st := s_is_number) l1 c1 k1
  have F2 := fun_mk (st := s_is_from) l2 c2 k2
  have F3 := fun_mk (st := s_is_tuple_of) l3 c3 k3
  have F4 := funC_mk (st := s_is_row) l4 c4 k4
  have F5 := fun_mk (st := s_is_prime) l5 c5 k5
  have F6 := funC_mk (st := s_is_table) l6 c6 k6
  have F7 := fun_mk (st := s_made_shape) l7 c7 k7
  have F8 := fun_mk (st := s_law_pool) l8 c8 k8
  have F9 := fun_mk (st := s_law_take) l9 c9 k9
  have F10 := fun_mk (st := s_law_one) l10 c10 k10
  have F11 := fun_mk (st := s_law_is_prime) l11 c11 k11
  have F12 := fun_mk (st := s_law_prime) l12 c12 k12
  have F13 := fun_mk (st := s_law_row) l13 c13 k13
  have F14 := fun_mk (st := s_law_shape) l14 c14 k14
  have F15 := fun_mk (st := s_law_wrong) l15 c15 k15
  have F16 := fun_mk (st := s_law_refusal) l16 c16 k16
  have F17 := funC_mk (st := s_law_is_right) l17 c17 k17
  have F18 := funC_mk (st := s_law) l18 c18 k18
  have FI := fun_mk (st := s_init) lI cI kI
  have T : Tx mg := ⟨PySem.W.mg_none_of X G z_int, PySem.W.mg_none_of X G z_bool, PySem.W.mg_none_of X G z_len, PySem.W.mg_none_of X G z_max, PySem.W.mg_none_of X G z_min, PySem.W.mg_none_of X G z_range, PySem.W.mg_none_of X G z_repr, PySem.W.mg_none_of X G z_isinstance, PySem.W.mg_none_of X G z_tuple, PySem.W.mg_none_of X G z_all, t_GREATEST_PRIME, PySem.W.mg_of X G g_GREATEST_PRIME, t_GREATEST_WIDE, PySem.W.mg_of X G g_GREATEST_WIDE, t_GREATEST_DATA, PySem.W.mg_of X G g_GREATEST_DATA, t_GREATEST_SUMS, PySem.W.mg_of X G g_GREATEST_SUMS, t_GREATEST_LOST, PySem.W.mg_of X G g_GREATEST_LOST⟩
  have b1 := F1.binds (ps := ["thing"]) fun _ _ _ _ _ _ us hl => match us, hl with | [_], _ => rfl
  have b2 := F2.binds (ps := ["thing", "low", "high"]) fun _ _ _ _ _ _ us hl => match us, hl with | [_, _, _], _ => rfl
  have b3 := F3.binds (ps := ["thing", "many"]) fun _ _ _ _ _ _ us hl => match us, hl with | [_, _], _ => rfl
  have b4 := F4.fn.binds (ps := ["thing", "many", "limit"]) fun _ _ _ _ _ _ us hl => match us, hl with | [_, _, _], _ => rfl
  have b5 := F5.binds (ps := ["p"]) fun _ _ _ _ _ _ us hl => match us, hl with | [_], _ => rfl
  have b6 := F6.fn.binds (ps := ["thing", "n", "p"]) fun _ _ _ _ _ _ us hl => match us, hl with | [_, _, _], _ => rfl
  have b7 := F7.binds (ps := ["thing"]) fun _ _ _ _ _ _ us hl => match us, hl with | [_], _ => rfl
  have b8 := F8.binds (ps := ["script", "k"]) fun _ _ _ _ _ _ us hl => match us, hl with | [_, _], _ => rfl
  have b9 := F9.binds (ps := ["source", "top"]) fun _ _ _ _ _ _ us hl => match us, hl with | [_, _], _ => rfl
  have b10 := F10.binds (ps := ["source", "things"]) fun _ _ _ _ _ _ us hl => match us, hl with | [_, _], _ => rfl
  have b11 := F11.binds (ps := ["number"]) fun _ _ _ _ _ _ us hl => match us, hl with | [_], _ => rfl
  have b12 := F12.binds (ps := ["source"]) fun _ _ _ _ _ _ us hl => match us, hl with | [_], _ => rfl
  have b13 := F13.binds (ps := ["source", "p", "n"]) fun _ _ _ _ _ _ us hl => match us, hl with | [_, _, _], _ => rfl
  have b14 := F14.binds (ps := ["source"]) fun _ _ _ _ _ _ us hl => match us, hl with | [_], _ => rfl
  have b15 := F15.binds (ps := ["source", "shape", "part"]) fun _ _ _ _ _ _ us hl => match us, hl with | [_, _, _], _ => rfl
  have b16 := F16.binds (ps := ["thing"]) fun _ _ _ _ _ _ us hl => match us, hl with | [_], _ => rfl
  have b17 := F17.fn.binds (ps := ["shape"]) fun _ _ _ _ _ _ us hl => match us, hl with | [_], _ => rfl
  have b18 := F18.fn.binds (ps := ["script"]) fun _ _ _ _ _ _ us hl => match us, hl with | [_], _ => rfl
  have bI := FI.binds (ps := ["self", "what"]) fun _ _ _ _ _ _ us hl => match us, hl with | [_, _], _ => rfl
  have X1 := PySem.W.tab_of TP X rc1 tb1
  have X2 := PySem.W.tab_of TP X rc2 tb2
  have OC : OexC K C := ⟨⟨_, _, _, _, _, _, _, _, _, _, _, _, _, _, _, lC, rC⟩, e1, e2, e3, e4⟩
  have NC : ClsN K C wd_ := ⟨⟨_, _, lC, rfl⟩, e17, e7, e8, e10, e11, e12, e13, e18, e3, e2, e19⟩
  have CL : ClsX K mg C B := ⟨PySem.W.mg_of X G aC, PySem.W.mg_of X G aB, PySem.W.exm_ref e2 e9 e3 e14, e15, ⟨e7, e8, e2, e9, e10, e11, e12, e13⟩, ⟨e7, e8, e2, e9⟩, e6⟩
  refine ⟨PySem.W.fnOf "law" "law" (defArgs s_law) (defBody s_law) (defScope s_law) .none kV18 dc18 pm18 an18 cd18 ct18, [(c1_, P1), (c2_, P2)], spLaw K [P1, P2], ?_, ?_, ?_, fun s v => .of_eq rfl, fun H a ns hl hT hS => ⟨a, ns, rfl, hS, hl, fun P hP => ?_, fun _ => rfl⟩, fun base _ _ hB => ?_⟩
  · intro p hp
    simp only [List.mem_cons, List.not_mem_nil, or_false] at hp
    rcases hp with rfl | rfl
    · exact X1.2
    · exact X2.2
  · intro p hp
    simp only [List.mem_cons, List.not_mem_nil, or_false] at hp
    rcases hp with rfl | rfl
    · exact nt1
    · exact nt2
  · intro p hp
    simp only [List.mem_cons, List.not_mem_nil, or_false] at hp
    rcases hp with rfl | rfl
    · exact X1.1
    · exact X2.1
  · simp only [List.mem_cons, List.not_mem_nil, or_false] at hP
    rcases hP with rfl | rfl
    · exact ⟨_, hT (c1_, _) (by simp), trivial⟩
    · exact ⟨_, hT (c2_, _) (by simp), trivial⟩
  have B1 := hB (c1_, P1) (by simp)
  have B2 := hB (c2_, P2) (by simp)
  have x_BadShape : ExK l.prog w K mg base 1 "BadShape" C := ⟨fI, _, wd_, OC, NC, iC, e5, ok_init FI, bI, PySem.W.mg_of X G aC, e6, e16⟩
  have d_is_number : Dk l.prog w K mg base 1 "is_number" ["thing"] (spNum K) := ⟨f1, _, ok_number F1 T, PySem.W.mg_of X G a1, k1, b1⟩
  have d_is_from : Dk l.prog w K mg base 2 "is_from" ["thing", "low", "high"] (spFrom K) := ⟨f2, _, ok_from F2 T d_is_number, PySem.W.mg_of X G a2, k2, b2⟩
  have d_is_tuple_of : Dk l.prog w K mg base 1 "is_tuple_of" ["thing", "many"] (spTupOf K) := ⟨f3, _, ok_tupOf F3 T, PySem.W.mg_of X G a3, k3, b3⟩
  have d_is_row : Dk l.prog w K mg base 5 "is_row" ["thing", "many", "limit"] (spRow K [P1, P2]) := ⟨f4, _, ok_row F4 T B1 (by simp) d_is_from d_is_tuple_of, PySem.W.mg_of X G a4, k4, b4⟩
  have d_is_prime : Dk l.prog w K mg base 3 "is_prime" ["p"] (spIsPrime K) := ⟨f5, _, ok_is_prime F5 T d_is_from, PySem.W.mg_of X G a5, k5, b5⟩
  have d_is_table : Dk l.prog w K mg base 8 "is_table" ["thing", "n", "p"] (spTable K [P1, P2]) := ⟨f6, _, ok_table F6 T B2 (by simp) d_is_row, PySem.W.mg_of X G a6, k6, b6⟩
  have d_made_shape : DkX l.prog w K mg base 9 "made_shape" ["thing"] (spMade K [P1, P2] C) := ⟨f7, _, ok_made F7 T x_BadShape d_is_from d_is_tuple_of d_is_prime d_is_table, PySem.W.mg_of X G a7, k7, b7⟩
  have d_law_pool : Dk l.prog w K mg base 1 "_law_pool" ["script", "k"] (spPool K) := ⟨f8, _, ok_pool F8 T, PySem.W.mg_of X G a8, k8, b8⟩
  have d_law_take : Dk l.prog w K mg base 1 "_law_take" ["source", "top"] (spTake) := ⟨f9, _, ok_take F9 T, PySem.W.mg_of X G a9, k9, b9⟩
  have d_law_one : Dk l.prog w K mg base 2 "_law_one" ["source", "things"] (spOne K) := ⟨f10, _, ok_one F10 T d_law_take, PySem.W.mg_of X G a10, k10, b10⟩
  have d_law_is_prime : Dk l.prog w K mg base 1 "_law_is_prime" ["number"] (spLIsP) := ⟨f11, _, ok_lisp F11 T, PySem.W.mg_of X G a11, k11, b11⟩
  have d_law_prime : Dk l.prog w K mg base 3 "_law_prime" ["source"] (spPrime) := ⟨f12, _, ok_prime F12 T d_law_take d_law_one d_law_is_prime, PySem.W.mg_of X G a12, k12, b12⟩
  have d_law_row : Dk l.prog w K mg base 4 "_law_row" ["source", "p", "n"] (spRowL K) := ⟨f13, _, ok_rowL F13 T d_law_take d_law_one, PySem.W.mg_of X G a13, k13, b13⟩
  have d_law_shape : Dk l.prog w K mg base 5 "_law_shape" ["source"] (spShape K) := ⟨f14, _, ok_shape F14 T d_law_take d_law_one d_law_prime d_law_row, PySem.W.mg_of X G a14, k14, b14⟩
  have d_law_wrong : Dk l.prog w K mg base 4 "_law_wrong" ["source", "shape", "part"] (spWrong K) := ⟨f15, _, ok_wrong F15 T d_law_take d_law_one, PySem.W.mg_of X G a15, k15, b15⟩
  have d_law_refusal : Dk l.prog w K mg base 10 "_law_refusal" ["thing"] (spRefusal K [P1, P2]) := ⟨f16, _, ok_refusal F16 T CL d_made_shape, PySem.W.mg_of X G a16, k16, b16⟩
  have d_law_is_right : DkG l.prog w K mg base 10 "_law_is_right" ["shape"] (spIsRight K [P1, P2]) := ⟨f17, _, ok_isRight F17 T d_made_shape, PySem.W.mg_of X G a17, k17, b17⟩
  exact ok_law F18 T d_law_pool d_law_take d_law_shape d_law_wrong d_law_refusal d_law_is_right
end K03
set_option maxHeartbeats 4000000
open PySem PySem.W PyProof.Rows in
set_option maxRecDepth 100000 in
set_option maxHeartbeats 0 in
theorem PySem.Challenge.cw_sumstand_k03_shapes_made_and_refused_holds : PySem.Challenge.rw_sumstand_k03_shapes_made_and_refused.Holds := by
  w_on; o_law; k_head; (case hw => w_witness2)
  k_fill
  refine GX.walk_ofG (l := PySem.Challenge.rw_sumstand_k03_shapes_made_and_refused) (n := 63) (k := 11) (x := "script") (CX := fun _ => L2.CX0) rfl (by decide) rfl ⟨rfl, by decide, by decide⟩ (fun w h Y => PySem.W.kIn_of Y) ?F (fun _ _ _ _ _ h => h)
  case F =>
    intro w mg mb fa h lo mean TP KX G hmg
    refine' K03.all_mk TP KX G hmg ?a1 ?l1 ?c1 ?k1 ?a2 ?l2 ?c2 ?k2 ?a3 ?l3 ?c3 ?k3 ?a4 ?tb1 ?l4 ?c4 ?k4 ?a5 ?l5 ?c5 ?k5 ?a6 ?tb2 ?l6 ?c6 ?k6 ?a7 ?l7 ?c7 ?k7 ?a8 ?l8 ?c8 ?k8 ?a9 ?l9 ?c9 ?k9 ?a10 ?l10 ?c10 ?k10 ?a11 ?l11 ?c11 ?k11 ?a12 ?l12 ?c12 ?k12 ?a13 ?l13 ?c13 ?k13 ?a14 ?l14 ?c14 ?k14 ?a15 ?l15 ?c15 ?k15 ?a16 ?l16 ?c16 ?k16 ?a17 ?l17 ?c17 ?k17 ?a18 ?l18 ?c18 ?k18 ?nt1 ?rc1 ?nt2 ?rc2 ?z_int ?z_bool ?z_len ?z_max ?z_min ?z_range ?z_repr ?z_isinstance ?z_tuple ?z_all ?g_GREATEST_PRIME ?g_GREATEST_WIDE ?g_GREATEST_DATA ?g_GREATEST_SUMS ?g_GREATEST_LOST ?aC ?aB ?iC ?lI ?cI ?kI ?lC ?rC ?e1 ?e2 ?e3 ?e4 ?e5 ?e6 ?e7 ?e8 ?e9 ?e10 ?e11 ?e12 ?e13 ?e16 ?e17 ?e18 ?e19 ?e14 ?e15
    (case a1 => k_is)
    (case l1 => k_is)
    (case c1 => k_is)
    (case k1 => k_is)
    (case a2 => k_is)
    (case l2 => k_is)
    (case c2 => k_is)
    (case k2 => k_is)
    (case a3 => k_is)
    (case l3 => k_is)
    (case c3 => k_is)
    (case k3 => k_is)
    (case a4 => k_is)
    (case tb1 => first | k_is | exact rfl | decide +kernel)
    (case l4 => k_is)
    (case c4 => k_is)
    (case k4 => k_is)
    (case a5 => k_is)
    (case l5 => k_is)
    (case c5 => k_is)
    (case k5 => k_is)
    (case a6 => k_is)
    (case tb2 => first | k_is | exact rfl | decide +kernel)
    (case l6 => k_is)
    (case c6 => k_is)
    (case k6 => k_is)
    (case a7 => k_is)
    (case l7 => k_is)
    (case c7 => k_is)
    (case k7 => k_is)
    (case a8 => k_is)
    (case l8 => k_is)
    (case c8 => k_is)
    (case k8 => k_is)
    (case a9 => k_is)
    (case l9 => k_is)
    (case c9 => k_is)
    (case k9 => k_is)
    (case a10 => k_is)
    (case l10 => k_is)
    (case c10 => k_is)
    (case k10 => k_is)
    (case a11 => k_is)
    (case l11 => k_is)
    (case c11 => k_is)
    (case k11 => k_is)
    (case a12 => k_is)
    (case l12 => k_is)
    (case c12 => k_is)
    (case k12 => k_is)
    (case a13 => k_is)
    (case l13 => k_is)
    (case c13 => k_is)
    (case k13 => k_is)
    (case a14 => k_is)
    (case l14 => k_is)
    (case c14 => k_is)
    (case k14 => k_is)
    (case a15 => k_is)
    (case l15 => k_is)
    (case c15 => k_is)
    (case k15 => k_is)
    (case a16 => k_is)
    (case l16 => k_is)
    (case c16 => k_is)
    (case k16 => k_is)
    (case a17 => k_is)
    (case l17 => k_is)
    (case c17 => k_is)
    (case k17 => k_is)
    (case a18 => k_is)
    (case l18 => k_is)
    (case c18 => k_is)
    (case k18 => k_is)
    (case nt1 => first | exact rfl | k_is)
    (case rc1 => first | exact rfl | k_is)
    (case nt2 => first | exact rfl | k_is)
    (case rc2 => first | exact rfl | k_is)
    (case z_int => k_is)
    (case z_bool => k_is)
    (case z_len => k_is)
    (case z_max => k_is)
    (case z_min => k_is)
    (case z_range => k_is)
    (case z_repr => k_is)
    (case z_isinstance => k_is)
    (case z_tuple => k_is)
    (case z_all => k_is)
    (case g_GREATEST_PRIME => k_is)
    (case g_GREATEST_WIDE => k_is)
    (case g_GREATEST_DATA => k_is)
    (case g_GREATEST_SUMS => k_is)
    (case g_GREATEST_LOST => k_is)
    (case aC => k_is)
    (case aB => k_is)
    (case iC => first | k_is | exact rfl | decide +kernel)
    (case lI => k_is)
    (case cI => k_is)
    (case kI => k_is)
    (case lC => first | k_is | exact rfl | decide +kernel)
    (case rC => first | k_is | exact rfl | decide +kernel)
    (case e1 => first | k_is | exact rfl | decide +kernel)
    (case e2 => first | k_is | exact rfl | decide +kernel)
    (case e3 => first | k_is | exact rfl | decide +kernel)
    (case e4 => first | k_is | exact rfl | decide +kernel)
    (case e5 => first | k_is | exact rfl | decide +kernel)
    (case e6 => first | k_is | exact rfl | decide +kernel)
    (case e7 => first | k_is | exact rfl | decide +kernel)
    (case e8 => first | k_is | exact rfl | decide +kernel)
    (case e9 => first | k_is | exact rfl | decide +kernel)
    (case e10 => first | k_is | exact rfl | decide +kernel)
    (case e11 => first | k_is | exact rfl | decide +kernel)
    (case e12 => first | k_is | exact rfl | decide +kernel)
    (case e13 => first | k_is | exact rfl | decide +kernel)
    (case e16 => first | k_is | exact rfl | decide +kernel)
    (case e17 => first | k_is | exact rfl | decide +kernel)
    (case e18 => first | k_is | exact rfl | decide +kernel)
    (case e19 => first | k_is | exact rfl | decide +kernel)
    (case e14 => first | k_is | exact rfl | decide +kernel)
    (case e15 => first | k_is | exact rfl | decide +kernel)

