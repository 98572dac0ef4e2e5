import PyProof.Rows.All
import Wide.All
import OpenK.AllK
import Wide.FinOn
import HandS.ForMost
import HandS.Exc
import HandS.Codes
import HandS.Wide
import HandS.WideBits
import HandS.Gcd
import HandS.IsInst
import HandS.Defaults
import HandS.Comp
import HandS.List
import HandS.Iter
import KE.KMathG
import HandS.Zip
import HandS.Style
import HandS.ForExc
import HandS.ExcInit
import HandS.ExcField
import HandS.ExcIs
import KE.KExcIs
import HandS.Lambda
import HandS.CallLocal
import HandS.EndTab
import PySem.Challenge.RW_wheelsky_k03_common_measures
set_option Elab.async false
set_option linter.all false
set_option maxRecDepth 100000
set_option maxHeartbeats 4000000
namespace My
open PySem PySem.Spec PyProof.Rows L2
def topS (i : Nat) : Stmt := PySem.Challenge.pw_wheelsky_k03_common_measures.main.body.getD i (.Pass ⟨0, 0, 0, 0⟩)
/-! ### a def of the top, and what it is known to keep -/
structure Dfn (K : PySem.W.Frag) (mg : Str → Option Value) (x : Str) (st : Stmt) (ps : List Str) : Prop where
  ex : ∃ f fd, Fun K x x st f fd ∧ mg x = some (.ref f) ∧ Binds K fd ps []
structure Kn (P : Program) (w : World) (K : PySem.W.Frag) (mg : Str → Option Value) (base : Heap) (k : Nat) (x : Str) (ps : List Str) (sp : Sp) : Prop where
  ex : ∃ f fd, mg x = some (.ref f) ∧ PySem.W.keepIn K (.ref f) = true ∧ Binds K fd ps [] ∧ FnOk P w K mg base CX0 k f fd ps sp
theorem Kn.mk' {P : Program} {w : World} {K : PySem.W.Frag} {mg : Str → Option Value} {base : Heap} {x : Str} {st : Stmt} {N ps : List Str} {k : Nat} {sp : Sp} (D : Dfn K mg x st ps) (S : FnScope N ps (defScope st)) (len : ∀ vs H Q E, sp vs H Q E → vs.length = ps.length)
    (hbody : ∀ (f : Addr) (cdv : Value) (A : Around) (outer : List Env) (s : Shared) (H : Hp) (vs : List V) (Q : VK) (E : XK), Room k (A.deeper (envOfC x (defScope st) s.heap.objs.size f cdv)) → sp vs H Q E →
      ∃ t, PSs (cxOf CX0 P w K mg base N x (defScope st) f cdv A outer s H E).nox (defBody st) t ∧ t { nx := fun _ H' => Q .non H', rt := Q } (start N vs) H) : Kn P w K mg base (k + 1) x ps sp := by
  obtain ⟨f, fd, F, m, b⟩ := D.ex
  exact ⟨f, fd, m, F.kp, b, F.ok S len (hbody f)⟩
section
variable {X : Cx}
theorem pe_kn {j k : Nat} {x : Str} {ps : List Str} {sp : Sp} {p pos : Pos} {e : Expr} {es : List Expr} {t : TA} (F : Kn X.prog X.w X.K X.mg X.base k x ps sp) (hr : Room j X.A) (hg : Gl X x) (ha : PA X (e :: es) t) (hj : k ≤ j := by omega)
    (hdb : (x == ("__debug__" : Str)) = false := by decide) (he : starEach (e :: es) X.env = (false, eval e X.env) :: starEach es X.env := by rfl) (hpl : (backTo pos (starEach es X.env)).any (·.1) = false := by rfl) :
    PE X (.Call (.Name x p) (e :: es) [] pos) (tCall sp [] E0 t) := by
  obtain ⟨f, fd, m, kp, b, G⟩ := F.ex
  exact pe_call G (hr.mono hj) hg m kp b .nil pass0 ha hdb he hpl
end
/-! ### heaps -/
/-- all but s stands -/
def Kp (s : Addr) (H H' : Hp) : Prop := (∀ b o, b ≠ s → H b = some o → H' b = some o) ∧ ∀ x r, H s = some (.lst (x :: r)) → ∃ r', H' s = some (.lst (x :: r'))
instance {s : Addr} {H H' : Hp} : CoeFun (Kp s H H') (fun _ => ∀ b o, b ≠ s → H b = some o → H' b = some o) := ⟨fun h => h.1⟩
theorem Kp.refl (s : Addr) (H : Hp) : Kp s H H := ⟨fun _ _ _ e => e, fun _ r e => ⟨r, e⟩⟩
theorem Kp.trans {s : Addr} {H H1 H2 : Hp} (a : Kp s H H1) (b : Kp s H1 H2) : Kp s H H2 := ⟨fun c o n e => b.1 c o n (a.1 c o n e), fun x r e => by
  obtain ⟨r', e'⟩ := a.2 x r e
  exact b.2 x r' e'⟩
theorem Kp.same {s : Addr} {H H1 : Hp} (a : Same H H1) : Kp s H H1 := ⟨fun b o _ e => a b o e, fun x r e => ⟨r, a _ _ e⟩⟩
theorem Same.new {H : Hp} {p : Addr} (h : H p = none) (o : HO) : Same H (upd H p o) := fun b u q => by rw [upd_ne (ne_of_none q h)]; exact q
theorem Kp.put {s : Addr} {H : Hp} {x : V} {r r' : List V} (h : H s = some (.lst (x :: r))) : Kp s H (upd H s (.lst (x :: r'))) := ⟨fun b u n e => by rw [upd_ne n]; exact e, fun y q e => by
  rw [h] at e
  cases e
  exact ⟨r', upd_same⟩⟩
/-- the store of the draws at s -/
def Sr (K : PySem.W.Frag) (H : Hp) (s : Addr) (sc : Addr) (ns : List Int) (i b c d e f : Int) : Prop :=
  H s = some (.lst [.ref sc, .int i, .int b, .int c, .int d, .int e, .int f]) ∧ H sc = some (.lst (ns.map V.int)) ∧ s ≠ sc ∧ 0 ≤ i ∧ K.lookup s = none ∧ K.lookup sc = none
def Sto (K : PySem.W.Frag) (H : Hp) (s : Addr) : Prop := ∃ sc ns i b c d e f, Sr K H s sc ns i b c d e f
theorem Sr.same {K : PySem.W.Frag} {H H1 : Hp} {s sc : Addr} {ns : List Int} {i b c d e f : Int} (h : Sr K H s sc ns i b c d e f) (a : Same H H1) : Sr K H1 s sc ns i b c d e f := ⟨a _ _ h.1, a _ _ h.2.1, h.2.2⟩
theorem Sto.same {K : PySem.W.Frag} {H H1 : Hp} {s : Addr} (h : Sto K H s) (a : Same H H1) : Sto K H1 s := by
  obtain ⟨sc, ns, i, b, c, d, e, f, h⟩ := h
  exact ⟨sc, ns, i, b, c, d, e, f, h.same a⟩
theorem Sr.put {K : PySem.W.Frag} {H : Hp} {s sc : Addr} {ns : List Int} {i b c d e f i' b' c' d' e' f' : Int} (h : Sr K H s sc ns i b c d e f) (hi : 0 ≤ i') :
    Sr K (upd H s (.lst [.ref sc, .int i', .int b', .int c', .int d', .int e', .int f'])) s sc ns i' b' c' d' e' f' :=
  ⟨upd_same, by rw [upd_ne (Ne.symm h.2.2.1)]; exact h.2.1, h.2.2.1, hi, h.2.2.2.2⟩
theorem Kp.seqT {s : Addr} {K : PySem.W.Frag} {H H' : Hp} {a : Addr} {xs ys : List V} (e : Kp s H H') (hs : H s = some (.lst ys)) (h : SqT K H a xs) : SqT K H' a xs := by
  rcases h with (h | ⟨o, h⟩) | h
  · exact .inl (.inl (e _ _ (by rintro rfl; rw [hs] at h; cases h) h))
  · exact .inl (.inr ⟨o, e _ _ (by rintro rfl; rw [hs] at h; cases h) h⟩)
  · exact .inr h
theorem Same.seqT {K : PySem.W.Frag} {H H' : Hp} {a : Addr} {xs : List V} (e : Same H H') (h : SqT K H a xs) : SqT K H' a xs := by
  rcases h with (h | ⟨o, h⟩) | h
  · exact .inl (.inl (e _ _ h))
  · exact .inl (.inr ⟨o, e _ _ h⟩)
  · exact .inr h
/-- the built-ins' names, unbound -/
structure Bt (K : PySem.W.Frag) (mg : Str → Option Value) : Prop where
  b_int : mg "int" = none
  b_len : mg "len" = none
  b_list : mg "list" = none
  b_abs : mg "abs" = none
  b_range : mg "range" = none
  b_min : mg "min" = none
  b_max : mg "max" = none
  b_isinstance : mg "isinstance" = none
  b_bool : mg "bool" = none
  b_str : mg "str" = none
  b_dict : mg "dict" = none
  b_tuple : mg "tuple" = none
  g_gcd : mg "gcd" = some (.builtin "math.gcd")
end My

namespace My
open PySem PySem.Spec PyProof.Rows L2
theorem cx_K {CX : CXT} {P : Program} {w : World} {K : PySem.W.Frag} {mg : Str → Option Value} {base : Heap} {N : List Str} {qual : Str} {scope : Scope} {f : Addr} {cd : Value} {A : Around} {outer : List Env} {s : Shared} {H : Hp} {E : XK} : (cxOf CX P w K mg base N qual scope f cd A outer s H E).K = K := rfl
/-! ### what stands at an address, the written part first -/
def obK (o : Obj) : Option HO := match o.cls, o.data with
  | .type "tuple", .seq its _ => if its.size ≤ sizeLine then (its.toList.mapM absV).map HO.tup else none
  | _, _ => none
def ob (K : PySem.W.Frag) (H : Hp) (a : Addr) : Option HO := match K.lookup a with
  | some o => obK o
  | none => H a
theorem absV_rel {u : Value} {x : V} (h : absV u = some x) : RelV x u := by
  cases u <;> simp only [absV, Option.some.injEq, reduceCtorEq] at h <;> subst h
  all_goals first | exact rfl | exact ⟨_, rfl⟩
theorem absV_all : ∀ {us : List Value} {xs : List V}, us.mapM absV = some xs → Vals xs us
  | [], xs, h => by
    simp at h
    subst h
    exact .nil
  | u :: us, xs, h => by
    rw [List.mapM_cons] at h
    cases e1 : absV u with
    | none => simp [e1] at h
    | some x =>
      cases e2 : us.mapM absV with
      | none => simp [e1, e2] at h
      | some r =>
        simp [e1, e2] at h
        subst h
        exact .cons (absV_rel e1) (absV_all e2)
theorem obK_tup {o : Obj} {z : HO} (h : obK o = some z) : ∃ xs its n, z = .tup xs ∧ o.cls = .type "tuple" ∧ o.data = .seq its n ∧ its.size ≤ sizeLine ∧ Vals xs its.toList := by
  unfold obK at h
  split at h
  · rename_i its n e1 e2
    split at h
    · rename_i hz
      cases e : its.toList.mapM absV with
      | none => rw [e] at h; cases h
      | some xs =>
        rw [e] at h
        exact ⟨xs, its, n, (Option.some.inj h).symm, e1, e2, hz, absV_all e⟩
    · cases h
  · cases h
theorem ob_none {K : PySem.W.Frag} {H : Hp} {a : Addr} (h : K.lookup a = none) : ob K H a = H a := by unfold ob; rw [h]
theorem ob_tup {K : PySem.W.Frag} {H : Hp} {a : Addr} {xs : List V} (h : ob K H a = some (.tup xs)) : SqT K H a xs := by
  unfold ob at h
  split at h
  · rename_i o e
    obtain ⟨ys, its, n, z, h1, h2, h3, h4⟩ := obK_tup h
    cases z
    exact .inr ⟨o, its, n, e, h1, h2, h3, h4⟩
  · exact .inl (.inl h)
theorem ob_H {K : PySem.W.Frag} {H : Hp} {a : Addr} {z : HO} (h : ob K H a = some z) (n : ∀ xs, z ≠ .tup xs) : H a = some z ∧ K.lookup a = none := by
  unfold ob at h
  split at h
  · obtain ⟨ys, its, n', z', _⟩ := obK_tup h
    exact absurd z' (n ys)
  · rename_i e
    exact ⟨h, e⟩
theorem ob_lst {K : PySem.W.Frag} {H : Hp} {a : Addr} {xs : List V} (h : ob K H a = some (.lst xs)) : SqL K H a xs := .of (ob_H h (fun _ z => by cases z)).1
theorem ob_same {K : PySem.W.Frag} {H H' : Hp} {a : Addr} {z : HO} (e : Same H H') (h : ob K H a = some z) : ob K H' a = some z := by
  unfold ob at h ⊢
  split
  · rename_i o q
    rw [q] at h
    exact h
  · rename_i q
    rw [q] at h
    exact e _ _ h
theorem ob_kp {K : PySem.W.Frag} {H H' : Hp} {s a : Addr} {ys : List V} {z : HO} (e : Kp s H H') (hs : H s = some (.lst ys)) (n : ∀ ys, z ≠ .lst ys) (h : ob K H a = some z) : ob K H' a = some z := by
  unfold ob at h ⊢
  split
  · rename_i o q
    rw [q] at h
    exact h
  · rename_i q
    rw [q] at h
    exact e _ _ (by rintro rfl; rw [hs] at h; exact n _ (Option.some.inj h).symm) h
theorem ob_new {K : PySem.W.Frag} {H : Hp} {p : Addr} {o : HO} (k : K.lookup p = none) : ob K (upd H p o) p = some o := by rw [ob_none k, upd_same]
/-- a built-in type's name, of what stands somewhere -/
def tyO : Option HO → Option String
  | some (.tup _) => some "tuple"
  | some (.lst _) => some "list"
  | some (.dK _) => some "dict"
  | _ => none
def tyN (K : PySem.W.Frag) (H : Hp) : V → Option String
  | .non => some "NoneType"
  | .bl _ => some "bool"
  | .int _ => some "int"
  | .str _ => some "str"
  | .ref a => tyO (ob K H a)
  | _ => none
theorem tyO_tup (xs : List V) : tyO (some (.tup xs)) = some "tuple" := rfl
theorem tyO_lst (xs : List V) : tyO (some (.lst xs)) = some "list" := rfl
theorem tyO_dK (xs : List (Key × V)) : tyO (some (.dK xs)) = some "dict" := rfl
theorem tyN_non {K : PySem.W.Frag} {H : Hp} : tyN K H .non = some "NoneType" := rfl
theorem tyN_bl {K : PySem.W.Frag} {H : Hp} (b : Bool) : tyN K H (.bl b) = some "bool" := rfl
theorem tyN_int {K : PySem.W.Frag} {H : Hp} (b : Int) : tyN K H (.int b) = some "int" := rfl
theorem tyN_str {K : PySem.W.Frag} {H : Hp} (b : Str) : tyN K H (.str b) = some "str" := rfl
theorem tyN_ref {K : PySem.W.Frag} {H : Hp} (a : Addr) : tyN K H (.ref a) = tyO (ob K H a) := rfl
theorem tyN_X {K : PySem.W.Frag} {H : Hp} {x : V} {t : String} (h : tyN K H x = some t) : TyX K H x (.type t) := by
  cases x with
  | non => cases h; exact .base .non
  | bl b => cases h; exact .base (.bl b)
  | int i => cases h; exact .base (.int i)
  | str z => cases h; exact .base (.str z)
  | byt _ => cases h
  | flt _ => cases h
  | ty _ => cases h
  | ref a =>
    have h1 : tyO (ob K H a) = some t := h
    cases e : ob K H a with
    | none => rw [e] at h1; cases h1
    | some z =>
      rw [e] at h1
      cases z with
      | tup xs =>
        cases h1
        unfold ob at e
        split at e
        · rename_i o q
          obtain ⟨_, _, _, _, c, _⟩ := obK_tup e
          exact .kTuple q c
        · exact .base (.tup e)
      | lst xs => cases h1; exact .base (.lst (ob_H e (fun _ z => by cases z)).1)
      | dK kvs => cases h1; exact .base (.dK (ob_H e (fun _ z => by cases z)).1)
      | _ => cases h1
/-- isinstance(x, T) by names -/
def isB (a b : String) : Bool := a == b || (a == "bool" && b == "int")
def rIsN (K : PySem.W.Frag) : List V → Hp → VK → Prop := fun xs H Q => ∃ x n, xs = [x, .ty n] ∧ n ∈ ["int", "bool", "str", "list", "tuple", "dict"] ∧ ∃ t, tyN K H x = some t ∧ Q (.bl (isB t n)) H
theorem tyN_mem {K : PySem.W.Frag} {H : Hp} {x : V} {t : String} (h : tyN K H x = some t) : t ∈ ["NoneType", "bool", "int", "str", "tuple", "list", "dict"] := by
  cases x with
  | non => cases h; decide
  | bl b => cases h; decide
  | int i => cases h; decide
  | str z => cases h; decide
  | byt _ => cases h
  | flt _ => cases h
  | ty _ => cases h
  | ref a =>
    have h1 : tyO (ob K H a) = some t := h
    unfold tyO at h1
    split at h1 <;> first | (cases h1; decide) | cases h1
theorem kit_all : ∀ t ∈ ["NoneType", "bool", "int", "str", "tuple", "list", "dict"], ∀ n ∈ ["int", "bool", "str", "list", "tuple", "dict"], kitB t n = some (isB t n) := by decide +kernel
/-- isinstance(x, (T, ..)) -/
def tyNs : List V → Option (List String)
  | [] => some []
  | .ty n :: r => if n ∈ ["int", "bool", "str", "list", "tuple", "dict"] then (tyNs r).map (n :: ·) else none
  | _ :: _ => none
theorem tyNs_of : ∀ {cs : List V} {ns : List String}, tyNs cs = some ns → cs = ns.map V.ty ∧ ∀ n ∈ ns, n ∈ ["int", "bool", "str", "list", "tuple", "dict"]
  | [], ns, h => by cases h; exact ⟨rfl, fun _ z => absurd z (by simp)⟩
  | c :: r, ns, h => by
    cases c with
    | ty n =>
      unfold tyNs at h
      split at h
      · rename_i hn
        cases e : tyNs r with
        | none => rw [e] at h; cases h
        | some ms =>
          rw [e] at h
          cases h
          obtain ⟨h1, h2⟩ := tyNs_of e
          refine ⟨by rw [h1]; rfl, fun m hm => ?_⟩
          rcases List.mem_cons.mp hm with z | z
          · rw [z]; exact hn
          · exact h2 m z
      · cases h
    | _ => cases h
theorem tyNs_lt : tyNs [.ty "list", .ty "tuple"] = some ["list", "tuple"] := by decide
def rIsT (K : PySem.W.Frag) : List V → Hp → VK → Prop := fun xs H Q => ∃ x tp, xs = [x, .ref tp] ∧ ∃ cs, H tp = some (.tup cs) ∧ ∃ ns, tyNs cs = some ns ∧ ∃ t, tyN K H x = some t ∧ Q (.bl (ns.any (isB t))) H
section
variable {X : Cx}
theorem call_isN : CallR X (.builtin "isinstance") (rIsN X.K) := fun pins s σ H xs us Q I r h => by
  obtain ⟨x, n, rfl, hn, t, ht, q⟩ := h
  exact call_isi pins s σ H _ us Q I r ⟨x, .ty n, .type t, .type n, isB t n, rfl, .ty n, tyN_X ht, kit_ty (kit_all t (tyN_mem ht) n hn), q⟩
theorem kitAny_of {K : PySem.W.Frag} {t : String} (ht : t ∈ ["NoneType", "bool", "int", "str", "tuple", "list", "dict"]) : ∀ {ns : List String}, (∀ n ∈ ns, n ∈ ["int", "bool", "str", "list", "tuple", "dict"]) → PySem.W.kitAny K (.type t) (ns.map Value.type) = some (ns.any (isB t))
  | [], _ => rfl
  | n :: ns, h => by
    have e1 : PySem.W.kitOne K (.type t) (.type n) = some (isB t n) := kit_ty (kit_all t ht n (h n List.mem_cons_self))
    have e2 := kitAny_of (K := K) ht (ns := ns) fun m hm => h m (List.mem_cons_of_mem _ hm)
    rw [List.map_cons, List.any_cons]
    unfold PySem.W.kitAny
    rw [e1]
    cases isB t n
    · simpa using e2
    · rfl
theorem clsV_all : ∀ ns : List String, Paired ClsV (ns.map V.ty) (ns.map Value.type)
  | [] => .nil
  | n :: ns => .cons (.ty n) (clsV_all ns)
theorem call_isT : CallR X (.builtin "isinstance") (rIsT X.K) := fun pins s σ H xs us Q I r h => by
  obtain ⟨x, tp, rfl, cs, hT, ns, hns, t, ht, q⟩ := h
  obtain ⟨rfl, hn⟩ := tyNs_of hns
  exact call_isiT pins s σ H _ us Q I r ⟨x, tp, _, .type t, _, _, rfl, hT, clsV_all ns, tyN_X ht, kitAny_of (tyN_mem ht) hn, q⟩
/-- xs[i], t[i] -/
def itsO : Option HO → Option (List V)
  | some (.tup xs) => some xs
  | some (.lst xs) => some xs
  | _ => none
theorem itsO_tup (xs : List V) : itsO (some (.tup xs)) = some xs := rfl
theorem itsO_lst (xs : List V) : itsO (some (.lst xs)) = some xs := rfl
theorem itsO_or {K : PySem.W.Frag} {H : Hp} {a : Addr} {xs : List V} (h : itsO (ob K H a) = some xs) : SqL K H a xs ∨ SqT K H a xs := by
  cases e : ob K H a with
  | none => rw [e] at h; cases h
  | some z =>
    rw [e] at h
    cases z with
    | tup ys => cases h; exact .inr (ob_tup e)
    | lst ys => cases h; exact .inl (ob_lst e)
    | _ => cases h
def rIxA (K : PySem.W.Frag) : R2 := fun x y H Q => ∃ p i, x = .ref p ∧ y = .int i ∧ ∃ xs, itsO (ob K H p) = some xs ∧ ∃ v, atI xs i = some v ∧ Q v H
theorem ix_any : IxR X (rIxA X.K) := fun value slice pins s σ H x y v u Q I rx ry h hs => by
  obtain ⟨p, i, rfl, rfl, xs, hx, w, hw, q⟩ := h
  rcases itsO_or hx with z | z
  · exact ix_list value slice pins s σ H _ _ v u Q I rx ry ⟨p, xs, i, w, rfl, rfl, z, hw, q⟩ hs
  · exact ix_tup value slice pins s σ H _ _ v u Q I rx ry ⟨p, xs, i, w, rfl, rfl, z, hw, q⟩ hs
theorem call_lenA : CallR X (.builtin "len") (fun xs H Q => ∃ p, xs = [.ref p] ∧ ∃ ys, itsO (ob X.K H p) = some ys ∧ Q (.int ys.length) H) := fun pins s σ H xs us Q I r h => by
  obtain ⟨p, rfl, ys, hy, q⟩ := h
  exact call_len_seq pins s σ H _ us Q I r ⟨p, ys, rfl, itsO_or hy, q⟩
/-! new tuples and lists, away from the written part -/
variable {es : List Expr} {t : TA} {pos : Pos}
def tTp (K : PySem.W.Frag) (t : TA) : TE := fun σ H Q => t σ H fun xs H1 => xs.length ≤ sizeLine ∧ ∀ p, H1 p = none → K.lookup p = none → Q (.ref p) (upd H1 p (.tup xs))
def tLs (K : PySem.W.Frag) (t : TA) : TE := fun σ H Q => t σ H fun xs H1 => xs.length ≤ sizeLine ∧ ∀ p, H1 p = none → K.lookup p = none → Q (.ref p) (upd H1 p (.lst xs))
theorem new_K {pins : List (Addr × Obj)} {σ : L2.St} {H : Hp} {s : Shared} (I : Inv X pins σ H s) : X.K.lookup s.heap.objs.size = none := by
  cases e : X.K.lookup s.heap.objs.size with
  | none => rfl
  | some o => exact absurd (Heap.lt_size (I.kIn _ _ e)) (Nat.lt_irrefl _)
theorem pe_tp {x1} (h : PA X es t) : PE X (.Tuple es x1 pos) (tTp X.K t) := by
  refine ⟨fun pins s σ H Q I hq => ?_⟩
  refine wpAny_Tuple_spliced (thn (h.run pos pins s σ H _ I hq) fun us s1 ⟨xs, H1, I1, r, z, q⟩ => ⟨by rw [← r.length]; exact z, ?_⟩)
  have hf : H1 s1.heap.objs.size = none := I1.hok.fresh (Nat.le_refl _)
  refine ⟨.ref s1.heap.objs.size, upd H1 s1.heap.objs.size (.tup xs), I1.laid (t' := s1.toks) (fun b u e => Heap.get?_push_of_some _ e) (Nat.le_refl _) ?_, rfl, q _ hf (new_K I1)⟩
  exact ⟨z, us, r, ⟨_, Heap.get?_push_size _ rfl, rfl, _, rfl⟩⟩
theorem pe_ls (h : PA X es t) : PE X (.List es pos) (tLs X.K t) := by
  refine ⟨fun pins s σ H Q I hq => ?_⟩
  refine wpAny_List_spliced (thn (h.run pos pins s σ H _ I hq) fun us s1 ⟨xs, H1, I1, r, z, q⟩ => ⟨by rw [← r.length]; exact z, ?_⟩)
  have hf : H1 s1.heap.objs.size = none := I1.hok.fresh (Nat.le_refl _)
  refine ⟨.ref s1.heap.objs.size, upd H1 s1.heap.objs.size (.lst xs), I1.laid (t' := s1.toks) (fun b u e => Heap.get?_push_of_some _ e) (Nat.le_refl _) ?_, rfl, q _ hf (new_K I1)⟩
  exact ⟨z, us, 0, r, Heap.get?_push_size _ rfl⟩
end
/-- a, b = t -/
def gTp (K : PySem.W.Frag) (n : Nat) (t : TGs) : TG := fun v σ H Q => ∃ a, v = .ref a ∧ ∃ xs, ob K H a = some (.tup xs) ∧ xs.length = n ∧ t xs σ H Q
theorem pg_tp {X : Cx} {pos : Pos} {es : List Expr} {k : Nat} {t : TGs} (n : Nat) (hc : X.calm = true) (h : PGs X es t) (hn : (assignEach es X.env).length = n := by rfl) (hst : (assignEach es X.env).findIdx? (·.1) = none := by rfl) : PG X (.Tuple es k pos) (gTp X.K n t) :=
  ⟨fun pins s σ H v u Q I r hw => by
    obtain ⟨a, e, xs, hx, hl, q⟩ := hw
    exact (pg_tup (n := n) hc h hn hst).run pins s σ H v u Q I r ⟨a, xs, e, ob_tup hx, hl, q⟩⟩
/-- {} -/
def tDn (K : PySem.W.Frag) : TE := fun _ H Q => ∀ p, H p = none → K.lookup p = none → Q (.ref p) (upd H p (.dK []))
theorem pe_dn {X : Cx} {pos : Pos} : PE X (.Dict [] [] pos) (tDn X.K) := ⟨fun pins s σ H Q I h => by
  refine wpAny_Dict_empty ⟨.ref s.heap.objs.size, upd H s.heap.objs.size (.dK []), ?_, rfl, h _ (I.hok.fresh (Nat.le_refl _)) (new_K I)⟩
  exact I.laid (t' := s.toks) (fun _ _ e => Heap.get?_push_of_some _ e) (Nat.le_refl _) (dk_empty s.heap I.big)⟩
/-! ### loops -/
def ForI (J : It) (g : TG) (tb : TS) (D : Ends) (σ : L2.St) (H : Hp) : Prop := ∃ W : Nat → Nat → L2.St → Hp → Prop, (∃ m, W 0 m σ H) ∧ ∀ i m σ H, W i m σ H →
  (J.stop i H ∧ D.nx σ H) ∨ (J.go i H ∧ ∃ N : L2.St → Hp → Prop, (∀ σ' H', N σ' H' → ∃ m', m' < m ∧ W (i + 1) m' σ' H') ∧ ∀ x H', J.yld i H x H' → g x σ H' fun σ2 H2 => tb { D with nx := N, ct := N, bk := D.nx } σ2 H2)
theorem tFor_eq (wi : TI) (g : TG) (tb : TS) (D : Ends) (σ : L2.St) (H : Hp) : tFor wi g tb D σ H = wi σ H fun J H1 => ForI J g tb D σ H1 := rfl
section
variable {g : TG} {tb : TS} {D : Ends} {σ : L2.St} {H : Hp}
theorem forI_range {lo : Int} {n : Nat} (Pv : Nat → L2.St → Hp → Prop) (h0 : Pv 0 σ H)
    (hs : ∀ i σ H, i < n → Pv i σ H → g (.int (lo + i)) σ H fun σ2 H2 => tb { D with nx := Pv (i + 1), ct := Pv (i + 1), bk := D.nx } σ2 H2) (hd : ∀ σ H, Pv n σ H → D.nx σ H) : ForI (Itr lo n) g tb D σ H := for_range Pv h0 hs hd
theorem forI_list {K : PySem.W.Frag} {a : Addr} {xs : List V} (Pv : Nat → L2.St → Hp → Prop) (h0 : Pv 0 σ H) (hl : ∀ i σ H, i ≤ xs.length → Pv i σ H → SqL K H a xs)
    (hs : ∀ i x σ H, xs[i]? = some x → Pv i σ H → g x σ H fun σ2 H2 => tb { D with nx := Pv (i + 1), ct := Pv (i + 1), bk := D.nx } σ2 H2) (hd : ∀ σ H, Pv xs.length σ H → D.nx σ H) : ForI (Itl K a) g tb D σ H := for_list Pv h0 hl hs hd
theorem forI_tup {K : PySem.W.Frag} {a : Addr} {xs : List V} (Pv : Nat → L2.St → Hp → Prop) (h0 : Pv 0 σ H) (hl : ∀ i σ H, i ≤ xs.length → Pv i σ H → SqT K H a xs)
    (hs : ∀ i x σ H, xs[i]? = some x → Pv i σ H → g x σ H fun σ2 H2 => tb { D with nx := Pv (i + 1), ct := Pv (i + 1), bk := D.nx } σ2 H2) (hd : ∀ σ H, Pv xs.length σ H → D.nx σ H) : ForI (Itt K a) g tb D σ H := for_tup Pv h0 hl hs hd
end
theorem ca_0 : ((0 : Nat) : Int) = 0 := rfl
theorem ca_1 : ((1 : Nat) : Int) = 1 := rfl
theorem ca_2 : ((2 : Nat) : Int) = 2 := rfl
theorem ca_3 : ((3 : Nat) : Int) = 3 := rfl
theorem ca_4 : ((4 : Nat) : Int) = 4 := rfl
theorem ca_5 : ((5 : Nat) : Int) = 5 := rfl
theorem ca_6 : ((6 : Nat) : Int) = 6 := rfl
theorem ca_7 : ((7 : Nat) : Int) = 7 := rfl
theorem ca_8 : ((8 : Nat) : Int) = 8 := rfl
theorem ca_9 : ((9 : Nat) : Int) = 9 := rfl
theorem ca_10 : ((10 : Nat) : Int) = 10 := rfl
theorem ca_11 : ((11 : Nat) : Int) = 11 := rfl
theorem ca_12 : ((12 : Nat) : Int) = 12 := rfl
theorem ca_13 : ((13 : Nat) : Int) = 13 := rfl
theorem ca_14 : ((14 : Nat) : Int) = 14 := rfl
theorem ca_15 : ((15 : Nat) : Int) = 15 := rfl
theorem ca_16 : ((16 : Nat) : Int) = 16 := rfl
theorem ca_17 : ((17 : Nat) : Int) = 17 := rfl
theorem ca_18 : ((18 : Nat) : Int) = 18 := rfl
theorem ca_19 : ((19 : Nat) : Int) = 19 := rfl
theorem ca_20 : ((20 : Nat) : Int) = 20 := rfl
theorem ca_21 : ((21 : Nat) : Int) = 21 := rfl
theorem ca_22 : ((22 : Nat) : Int) = 22 := rfl
theorem ca_23 : ((23 : Nat) : Int) = 23 := rfl
theorem ca_24 : ((24 : Nat) : Int) = 24 := rfl
theorem ca_25 : ((25 : Nat) : Int) = 25 := rfl
theorem ca_26 : ((26 : Nat) : Int) = 26 := rfl
theorem ca_27 : ((27 : Nat) : Int) = 27 := rfl
theorem ca_28 : ((28 : Nat) : Int) = 28 := rfl
theorem ca_29 : ((29 : Nat) : Int) = 29 := rfl
theorem ca_30 : ((30 : Nat) : Int) = 30 := rfl
theorem nat10 : (10 : Int).natAbs = 10 := rfl
/-- list(xs), away from the written part -/
theorem call_listK {X : Cx} : CallR X (.type "list") (fun xs H Q => ∃ p, xs = [.ref p] ∧ ∃ ys, (SqL X.K H p ys ∨ SqT X.K H p ys) ∧ ∀ l, H l = none → X.K.lookup l = none → Q (.ref l) (upd H l (.lst ys))) := fun pins s σ H xs us Q I r h => by
  obtain ⟨p, e0, ys, hy, k⟩ := h
  subst e0
  obtain ⟨u, e1, ru⟩ := vals1 r
  subst e1
  cases ru
  have laid (its : List Value) (rv : Vals ys its) (hz : ys.length ≤ sizeLine) (hh : Heap) (cap : Nat) (kp : ∀ b o, s.heap.get? b = some o → hh.get? b = some o)
      (e : hh.get? s.heap.objs.size = some { cls := .type "list", dict := none, data := .seq its.toArray cap, slots := #[] }) : EP X pins σ Q (.ref s.heap.objs.size) { s with heap := hh } := by
    have ok : ObjOk X.prog X.w (upd H s.heap.objs.size (.lst ys)) hh s.heap.objs.size (.lst ys) := ⟨hz, its, cap, rv, e⟩
    exact ⟨.ref s.heap.objs.size, _, I.laid (t' := s.toks) kp (Nat.le_refl _) ok, rfl, k _ (I.hok.fresh (Nat.le_refl _)) (new_K I)⟩
  cases hy with
  | inl hy =>
    obtain ⟨its, rv, pl, hz⟩ := I.list hy
    obtain ⟨o, ho, hc, n, hd⟩ := pl.isList
    have hl := rv.length
    exact call_list_seq p (.inl rfl) ho hc hd (laid its rv hz) (by simp only [List.size_toArray]; omega)
  | inr hy =>
    obtain ⟨its, rv, pl, hz⟩ := I.tuple hy
    obtain ⟨o, ho, hc, n, hd⟩ := pl
    have hl := rv.length
    exact call_list_seq p (.inr rfl) ho hc hd (laid its rv hz) (by simp only [List.size_toArray]; omega)
/-- xs[i] = v -/
def setI (xs : List V) (i : Int) (v : V) : Option (List V) := (ixN xs.length i).map fun j => xs.set j v
theorem setI_nat {xs ys : List V} {j : Nat} {v : V} (h : j < xs.length) (e : xs.set j v = ys) : setI xs (j : Int) v = some ys := by
  have e1 : ixN xs.length (j : Int) = some j := by
    unfold ixN
    rw [if_pos (by omega), if_pos (by omega)]
    simp
  unfold setI
  rw [e1, ← e]
  rfl
def rSetA : V → V → V → Hp → (Hp → Prop) → Prop := fun o i v H Q => ∃ p k, o = .ref p ∧ i = .int k ∧ ∃ xs, H p = some (.lst xs) ∧ ∃ ys, setI xs k v = some ys ∧ Q (upd H p (.lst ys))
section
variable {X : Cx}
theorem set_any : PSet X rSetA := by
  intro pins s σ H o i v uo ui uv Q I ro ri rv h
  obtain ⟨p, k, rfl, rfl, xs, hx, ys, hy, q⟩ := h
  unfold setI at hy
  cases e : ixN xs.length k with
  | none => rw [e] at hy; cases hy
  | some j =>
    rw [e] at hy
    cases hy
    exact set_list pins s σ H _ _ _ uo ui uv Q I ro ri rv ⟨p, xs, k, j, rfl, rfl, hx, e, q⟩
end
theorem atI_0 {α : Type} (x0 : α) (l : List α) : atI (x0 :: l) 0 = some x0 := atI_nat (j := 0) rfl
theorem setI_0 (x0 v : V) (l : List V) : setI (x0 :: l) 0 v = some (v :: l) := setI_nat (j := 0) (by simp) (by rfl)
theorem atI_1 {α : Type} (x0 x1 : α) (l : List α) : atI (x0 :: x1 :: l) 1 = some x1 := atI_nat (j := 1) rfl
theorem setI_1 (x0 x1 v : V) (l : List V) : setI (x0 :: x1 :: l) 1 v = some (x0 :: v :: l) := setI_nat (j := 1) (by simp) (by rfl)
theorem atI_2 {α : Type} (x0 x1 x2 : α) (l : List α) : atI (x0 :: x1 :: x2 :: l) 2 = some x2 := atI_nat (j := 2) rfl
theorem setI_2 (x0 x1 x2 v : V) (l : List V) : setI (x0 :: x1 :: x2 :: l) 2 v = some (x0 :: x1 :: v :: l) := setI_nat (j := 2) (by simp) (by rfl)
theorem atI_3 {α : Type} (x0 x1 x2 x3 : α) (l : List α) : atI (x0 :: x1 :: x2 :: x3 :: l) 3 = some x3 := atI_nat (j := 3) rfl
theorem setI_3 (x0 x1 x2 x3 v : V) (l : List V) : setI (x0 :: x1 :: x2 :: x3 :: l) 3 v = some (x0 :: x1 :: x2 :: v :: l) := setI_nat (j := 3) (by simp) (by rfl)
theorem atI_4 {α : Type} (x0 x1 x2 x3 x4 : α) (l : List α) : atI (x0 :: x1 :: x2 :: x3 :: x4 :: l) 4 = some x4 := atI_nat (j := 4) rfl
theorem setI_4 (x0 x1 x2 x3 x4 v : V) (l : List V) : setI (x0 :: x1 :: x2 :: x3 :: x4 :: l) 4 v = some (x0 :: x1 :: x2 :: x3 :: v :: l) := setI_nat (j := 4) (by simp) (by rfl)
theorem atI_5 {α : Type} (x0 x1 x2 x3 x4 x5 : α) (l : List α) : atI (x0 :: x1 :: x2 :: x3 :: x4 :: x5 :: l) 5 = some x5 := atI_nat (j := 5) rfl
theorem setI_5 (x0 x1 x2 x3 x4 x5 v : V) (l : List V) : setI (x0 :: x1 :: x2 :: x3 :: x4 :: x5 :: l) 5 v = some (x0 :: x1 :: x2 :: x3 :: x4 :: v :: l) := setI_nat (j := 5) (by simp) (by rfl)
theorem atI_6 {α : Type} (x0 x1 x2 x3 x4 x5 x6 : α) (l : List α) : atI (x0 :: x1 :: x2 :: x3 :: x4 :: x5 :: x6 :: l) 6 = some x6 := atI_nat (j := 6) rfl
theorem setI_6 (x0 x1 x2 x3 x4 x5 x6 v : V) (l : List V) : setI (x0 :: x1 :: x2 :: x3 :: x4 :: x5 :: x6 :: l) 6 v = some (x0 :: x1 :: x2 :: x3 :: x4 :: x5 :: v :: l) := setI_nat (j := 6) (by simp) (by rfl)
end My

namespace My
open PySem PySem.Spec PyProof.Rows L2
/-! ### numbers: fractions in lowest terms -/
abbrev Qt := Int × Int
def Nf (q : Qt) : Prop := 1 ≤ q.2 ∧ Int.gcd q.1 q.2 = 1
/-- q is t / b in lowest terms -/
def Is (q : Qt) (t b : Int) : Prop := Nf q ∧ q.1 * b = t * q.2
def Sz (k : Nat) (q : Qt) : Prop := q.1.natAbs < 2 ^ k ∧ q.2.natAbs < 2 ^ k
theorem nf_cop {q : Qt} (h : Nf q) : Nat.Coprime q.1.natAbs q.2.natAbs := h.2
theorem nf_unique {p q : Qt} (hp : Nf p) (hq : Nf q) (h : p.1 * q.2 = q.1 * p.2) : p = q := by
  have h1 : p.1.natAbs * q.2.natAbs = q.1.natAbs * p.2.natAbs := by rw [← Int.natAbs_mul, ← Int.natAbs_mul, h]
  have d1 : p.2.natAbs ∣ q.2.natAbs := (nf_cop hp).symm.dvd_of_dvd_mul_left (n := q.2.natAbs) (m := p.1.natAbs) (by rw [h1]; exact Nat.dvd_mul_left _ _)
  have d2 : q.2.natAbs ∣ p.2.natAbs := (nf_cop hq).symm.dvd_of_dvd_mul_left (n := p.2.natAbs) (m := q.1.natAbs) (by rw [← h1]; exact Nat.dvd_mul_left _ _)
  have e := Nat.dvd_antisymm d1 d2
  have a1 := hp.1
  have a2 := hq.1
  have e2 : p.2 = q.2 := by omega
  rw [e2] at h
  have e1 : p.1 = q.1 := Int.eq_of_mul_eq_mul_right (show q.2 ≠ 0 by omega) h
  exact Prod.ext e1 e2
theorem is_unique {p q : Qt} {t b : Int} (hb : b ≠ 0) (hp : Is p t b) (hq : Is q t b) : p = q := by
  refine nf_unique hp.1 hq.1 ?_
  have h1 := hp.2
  have h2 := hq.2
  have h3 : b * (p.1 * q.2) = b * (q.1 * p.2) := by
    have e1 : b * (p.1 * q.2) = (p.1 * b) * q.2 := by rw [Int.mul_comm p.1 b, Int.mul_assoc]
    have e2 : b * (q.1 * p.2) = (q.1 * b) * p.2 := by rw [Int.mul_comm q.1 b, Int.mul_assoc]
    rw [e1, e2, h1, h2, Int.mul_assoc, Int.mul_assoc, Int.mul_comm p.2 q.2]
  exact Int.eq_of_mul_eq_mul_left hb h3
theorem is_le {q : Qt} {t b : Int} (hb : b ≠ 0) (h : Is q t b) : q.1.natAbs ≤ t.natAbs ∧ q.2.natAbs ≤ b.natAbs := by
  have h1 : q.1.natAbs * b.natAbs = t.natAbs * q.2.natAbs := by rw [← Int.natAbs_mul, ← Int.natAbs_mul, h.2]
  have d : q.2.natAbs ∣ b.natAbs := (nf_cop h.1).symm.dvd_of_dvd_mul_left (n := b.natAbs) (m := q.1.natAbs) (by rw [h1]; exact Nat.dvd_mul_left _ _)
  have hb' : 0 < b.natAbs := by omega
  have le2 := Nat.le_of_dvd hb' d
  refine ⟨?_, le2⟩
  have q2 : 0 < q.2.natAbs := by have := h.1.1; omega
  have h2 : q.1.natAbs * q.2.natAbs ≤ t.natAbs * q.2.natAbs := by rw [← h1]; exact Nat.mul_le_mul_left _ le2
  exact Nat.le_of_mul_le_mul_right h2 q2
theorem is_sz {q : Qt} {t b : Int} {k : Nat} (hb : b ≠ 0) (h : Is q t b) (ht : t.natAbs < 2 ^ k) (hk : b.natAbs < 2 ^ k) : Sz k q :=
  ⟨Nat.lt_of_le_of_lt (is_le hb h).1 ht, Nat.lt_of_le_of_lt (is_le hb h).2 hk⟩
/-- exact division by the greatest common divisor -/
theorem gcd_pos {t b : Int} (hb : b ≠ 0) : 0 < Int.gcd t b := Nat.gcd_pos_of_pos_right _ (by omega)
theorem gcd_le {t b : Int} (hb : b ≠ 0) : Int.gcd t b ≤ b.natAbs := Nat.le_of_dvd (by omega) (Nat.gcd_dvd_right _ _)
theorem is_div {t b : Int} (hb : 0 < b) : Is (t / (Int.gcd t b : Nat), b / (Int.gcd t b : Nat)) t b := by
  have hg := gcd_pos (t := t) (b := b) (by omega)
  obtain ⟨x, hx⟩ := Int.gcd_dvd_left (a := t) (b := b)
  obtain ⟨y, hy⟩ := Int.gcd_dvd_right (a := t) (b := b)
  have hg' : ((Int.gcd t b : Nat) : Int) ≠ 0 := by omega
  have e1 : t / (Int.gcd t b : Nat) = x := by conv => lhs; lhs; rw [hx]
                                              exact Int.mul_ediv_cancel_left _ hg'
  have e2 : b / (Int.gcd t b : Nat) = y := by conv => lhs; lhs; rw [hy]
                                              exact Int.mul_ediv_cancel_left _ hg'
  rw [e1, e2]
  have hy0 : 0 < y := by
    rcases Int.lt_trichotomy y 0 with z | z | z
    · have := Int.mul_neg_of_pos_of_neg (show (0 : Int) < (Int.gcd t b : Nat) by omega) z
      omega
    · rw [z, Int.mul_zero] at hy
      omega
    · exact z
  refine ⟨⟨by show 1 ≤ y; omega, ?_⟩, ?_⟩
  · show Int.gcd x y = 1
    have h : Int.gcd t b = Int.gcd t b * Int.gcd x y := by
      have k : Int.gcd (((Int.gcd t b : Nat) : Int) * x) (((Int.gcd t b : Nat) : Int) * y) = Int.gcd t b * Int.gcd x y := by rw [Int.gcd_mul_left, Int.natAbs_natCast]
      rwa [← hx, ← hy] at k
    exact Nat.eq_of_mul_eq_mul_left hg (by rw [← h, Nat.mul_one])
  · show x * b = t * y
    conv => lhs; rw [hy]
    conv => rhs; rw [hx]
    rw [← Int.mul_assoc, Int.mul_comm x]
theorem is_neg {q : Qt} {t b : Int} (h : Is q (-t) (-b)) : Is q t b := ⟨h.1, by have := h.2; rw [Int.mul_neg, Int.neg_mul] at this; omega⟩
theorem gcd_neg2 (t b : Int) : Int.gcd (-t) (-b) = Int.gcd t b := by rw [Int.gcd_neg, Int.neg_gcd]
/-- what fraction hands back -/
theorem is_fdiv {t b : Int} (hb : b ≠ 0) : Is (t.fdiv (if b < 0 then -((Int.gcd t b : Nat) : Int) else (Int.gcd t b : Nat)), b.fdiv (if b < 0 then -((Int.gcd t b : Nat) : Int) else (Int.gcd t b : Nat))) t b := by
  by_cases h : b < 0
  · rw [if_pos h]
    have e := is_div (t := -t) (b := -b) (by omega)
    rw [gcd_neg2] at e
    have k : ∀ x : Int, x.fdiv (-((Int.gcd t b : Nat) : Int)) = (-x) / ((Int.gcd t b : Nat) : Int) := fun x => by
      rw [← Int.fdiv_eq_ediv_of_nonneg _ (by omega), ← Int.neg_fdiv_neg (-x), Int.neg_neg]
    rw [k, k]
    exact is_neg e
  · rw [if_neg h, Int.fdiv_eq_ediv_of_nonneg _ (by omega), Int.fdiv_eq_ediv_of_nonneg _ (by omega)]
    exact is_div (by omega)
theorem mulW {i j : Int} {a b : Nat} (ha : i.natAbs < 2 ^ a) (hb : j.natAbs < 2 ^ b) (h : a + b ≤ 900000) : CMulW i j := by
  refine wide_mul (a := a + 1) (b := b + 1) (Nat.lt_of_lt_of_le ha (Nat.pow_le_pow_right (by omega) (by omega))) (Nat.lt_of_lt_of_le hb (Nat.pow_le_pow_right (by omega) (by omega))) (by omega) (by omega) (by omega)
theorem szMul {i j : Int} {a b : Nat} (ha : i.natAbs < 2 ^ a) (hb : j.natAbs < 2 ^ b) : (i * j).natAbs < 2 ^ (a + b) := wide_lt ha hb
theorem szAdd {i j : Int} {a b c : Nat} (ha : i.natAbs < 2 ^ a) (hb : j.natAbs < 2 ^ b) (h1 : a + 1 ≤ c) (h2 : b + 1 ≤ c) : (i + j).natAbs < 2 ^ c := by
  have e1 : 2 ^ (a + 1) ≤ 2 ^ c := Nat.pow_le_pow_right (by omega) h1
  have e2 : 2 ^ (b + 1) ≤ 2 ^ c := Nat.pow_le_pow_right (by omega) h2
  rw [Nat.pow_succ] at e1 e2
  have := Int.natAbs_add_le i j
  omega
theorem szSub {i j : Int} {a b c : Nat} (ha : i.natAbs < 2 ^ a) (hb : j.natAbs < 2 ^ b) (h1 : a + 1 ≤ c) (h2 : b + 1 ≤ c) : (i - j).natAbs < 2 ^ c := by
  rw [Int.sub_eq_add_neg]
  exact szAdd ha (by rw [Int.natAbs_neg]; exact hb) h1 h2
theorem szMono {i : Int} {a b : Nat} (ha : i.natAbs < 2 ^ a) (h : a ≤ b) : i.natAbs < 2 ^ b := Nat.lt_of_lt_of_le ha (Nat.pow_le_pow_right (by omega) h)
theorem Sz.mono {q : Qt} {a b : Nat} (ha : Sz a q) (h : a ≤ b) : Sz b q := ⟨szMono ha.1 h, szMono ha.2 h⟩
/-- // by any number of a bounded size -/
def CDivX (_ j : Int) : Prop := j ≠ 0 ∧ j.natAbs < 2 ^ 8999
theorem op_fdivX {X : Cx} : OpR X (binaryOp .FloorDiv) (rI CDivX fun i j => .int (i.fdiv j)) := by
  intro pins s σ H x y v u Q I rx ry h
  obtain ⟨i, j, rfl, rfl, hc, q⟩ := h
  obtain ⟨t, rfl⟩ := rx
  obtain ⟨t', rfl⟩ := ry
  exact floordiv_int hc.1 ⟨.int _, H, I.tok _, ⟨_, rfl⟩, q⟩ (.inl (PyProof.noPylong_of_log2 (Nat.lt_of_lt_of_le (PySem.Flt.log2_lt_of (by omega) hc.2) (by omega))))
/-! ### fractions as values -/
def frt (q : Qt) : HO := .tup [.int q.1, .int q.2]
end My

namespace My
open PySem PySem.Spec PyProof.Rows L2
section
variable {P : Program} {w : World} {K : PySem.W.Frag} {mg : Str → Option Value} {base : Heap}
def spMixed : Sp := fun vs H Q _ => ∃ a b : Int, vs = [.int a, .int b] ∧ ∀ r : Int, Q (.int r) H
theorem mulW_mod {i : Int} {n : Int} (h0 : 0 < n) (h : n < 2 ^ 64) : CMulW (i % n) (i % n) := by
  have h1 := Int.emod_nonneg i (show n ≠ 0 by omega)
  have h2 := Int.emod_lt_of_pos i h0
  exact wide_mul (a := 64) (b := 64) (by omega) (by omega) (by omega) (by omega) (by omega)
abbrev sMixed : Stmt := topS 34
theorem scMixed : FnScope ["_law_number", "_law_turn", "_law_value"] ["_law_number", "_law_turn"] (defScope sMixed) := ⟨rfl, rfl, rfl, by decide +kernel, rfl, by decide +kernel, by decide +kernel⟩
theorem k_Mixed (T : Bt K mg) (D : Dfn K mg "_law_mixed" sMixed ["_law_number", "_law_turn"]) : Kn P w K mg base 1 "_law_mixed" ["_law_number", "_law_turn"] spMixed := by
  refine Kn.mk' D scMixed (fun vs H Q E h => ?_) (fun f cdv A outer s H vs Q E hr h => ?_)
  · obtain ⟨a, b, rfl, _⟩ := h
    rfl
  obtain ⟨a, b, rfl, q⟩ := h
  refine ⟨_, (pss_cons (ps_set (i := 2) scMixed.nd rfl (.inl rfl) (pe_op op_mod (pe_op op_add (pe_op op_add (pe_op op_mul (pe_op op_mod (pe_callTy call_int1 (by rfl) T.b_int (by decide +kernel) (pa_cons (pv 0) pa_nil)) pe_int) pe_int) (pe_op op_mul (pv 1) pe_int)) pe_int) pe_int))
      (pss_cons (ps_set (i := 2) scMixed.nd rfl (.inl rfl) (pe_op op_mod (pe_op op_add (pe_op op_add (pe_op op_add (pe_op op_mulW (pv 2) (pv 2)) (pe_op op_mul (pv 2) pe_int)) (pe_op op_mul (pv 1) pe_int)) pe_int) pe_int))
      (pss_cons (ps_set (i := 2) scMixed.nd rfl (.inl rfl) (pe_op op_mod (pe_op op_add (pe_op op_add (pe_op op_mul (pv 2) pe_int) (pe_op op_fdiv (pv 2) pe_int)) pe_int) pe_int))
      (pss_cons (ps_set (i := 2) scMixed.nd rfl (.inl rfl) (pe_op op_mod (pe_op op_add (pe_op op_mulW (pv 2) (pv 2)) (pv 1)) pe_int))
      (pss_one (ps_ret (pe_op op_fdiv (pv 2) pe_int))))))), ?_⟩
  simp only [cx_K, decide_true, decide_false, reduceCtorEq, gTp, gCons, gNil, ca_0, ca_1, ca_2, ca_3, ca_4, ca_5, ca_6, ca_7, ca_8, ca_9, ca_10, ca_11, ca_12, ca_13, ca_14, ca_15, ca_16, ca_17, ca_18, ca_19, ca_20, ca_21, ca_22, ca_23, ca_24, ca_25, ca_26, ca_27, ca_28, ca_29, ca_30, not_true_eq_false, not_false_eq_true, Int.reduceEq, Nat.reduceEqDiff, Nat.reduceLeDiff, rGcd, V.ty.injEq, eq_self, List.not_mem_nil, beq_self_eq_true, HO.lst.injEq, HO.tup.injEq, tFor_eq, iRng1, iList, iTup, nat10, tSeq, rIxA, rSetA, rIsN, rIsT, tTp, tLs, itsO_tup, itsO_lst, tyO_tup, tyO_lst, tyO_dK, tyN_non, tyN_bl, tyN_int, tyN_str, tyN_ref, tyNs_lt, isB, upd_same, upd_upd, sizeLine_eq, List.mem_cons, String.reduceBEq, String.reduceEq, Bool.or_false, Bool.or_true, Bool.and_false, Bool.false_or, Bool.and_self, Bool.false_and, Bool.not_false, Bool.not_true, List.any_cons, List.any_nil, atI_0, setI_0, atI_1, setI_1, atI_2, setI_2, atI_3, setI_3, atI_4, setI_4, atI_5, setI_5, atI_6, setI_6, tAsg, gName, tOp, tUn, tVar, tC, tCons, L2.tNil, tRet, tIfS, tTest, tCB, tCall, rI, rI0, rU, tNext, tB, tAnd, tOr, tNot, tAndV, tOrV, tNotV, tDrop, tIf, tPar, gSub, rIxL, rIxT, rEq, rNe, rSetL, tBits,
    L2.start, List.map_cons, List.map_nil, List.cons_append, List.nil_append, List.append_nil, List.length_cons, List.length_nil, List.replicate, Nat.reduceAdd, Nat.reduceSub, Nat.zero_add, List.getElem?_cons_zero, List.getElem?_cons_succ, List.set_cons_zero, List.set_cons_succ,
    Option.some.injEq, exists_eq_left', exists_eq_left, V.int.injEq, V.bl.injEq, V.ref.injEq, V.str.injEq, List.cons.injEq, reduceCtorEq, and_true, true_and, false_and, and_false, exists_false, or_false, false_or, or_true, true_or, exists_const, CMul, CDiv, CPow, and_assoc, exists_and_left, exists_and_right, Int.reducePow, Int.reduceNeg, Int.reduceLT, Int.reduceLE, Nat.reducePow, Nat.reduceLT, Int.reduceToNat, gt_iff_lt, ge_iff_le, decide_eq_true_eq, Bool.not_eq_true', decide_eq_false_iff_not, scal, ↓reduceIte, Bool.false_eq_true]
  exact ⟨mulW_mod (by omega) (by omega), mulW_mod (by omega) (by omega), q _⟩
theorem at_ints {ns : List Int} {i : Int} (h0 : 0 ≤ i) (h : i < (ns.length : Int)) : ∃ z, atI (ns.map V.int) i = some (.int z) := by
  have hk : i.toNat < ns.length := by omega
  have q : atI (ns.map V.int) ((i.toNat : Nat) : Int) = some (.int ns[i.toNat]) := atI_nat (by rw [List.getElem?_map, List.getElem?_eq_getElem hk] <;> rfl)
  rw [show ((i.toNat : Nat) : Int) = i by omega] at q
  exact ⟨_, q⟩
theorem bits_le {m : Int} (h : m.natAbs < 2 ^ 200) : Builtin.Int.intBits m ≤ 200 := by
  unfold Builtin.Int.intBits
  split
  · omega
  · have := PySem.Flt.log2_lt_of (show 0 < 200 by omega) h
    omega
def TakeA (K : PySem.W.Frag) (s : Addr) (m : Int) (H : Hp) (σ' : L2.St) (H' : Hp) : Prop := ∃ x, σ' = [some (.ref s), some (.int m), x, none, none, none, none] ∧ Kp s H H' ∧ Sto K H' s
def TakeB (K : PySem.W.Frag) (s : Addr) (m : Int) (H : Hp) (σ' : L2.St) (H' : Hp) : Prop := ∃ x n, σ' = [some (.ref s), some (.int m), x, none, some (.int n), none, none] ∧ Kp s H H' ∧ Sto K H' s
def TakeC (s : Addr) (m : Int) (x : Option V) (n : Int) (H3 : Hp) (k : Nat) (σ : L2.St) (H' : Hp) : Prop := ∃ v y, σ = [some (.ref s), some (.int m), x, none, some (.int n), some (.int v), y] ∧ H' = H3
def spTake (K : PySem.W.Frag) : Sp := fun vs H Q _ => ∃ (s : Addr) (m : Int), vs = [.ref s, .int m] ∧ Sto K H s ∧ m < 2 ^ 200 ∧ ∀ r H', 0 ≤ r → (r < m ∨ r = 0) → Kp s H H' → Sto K H' s → Q (.int r) H'
abbrev sTake : Stmt := topS 36
theorem scTake : FnScope ["_law_store_here", "_law_many", "_law_cell", "_law_digit", "_law_number", "_law_value", "_law_k"] ["_law_store_here", "_law_many"] (defScope sTake) := ⟨rfl, rfl, rfl, by decide +kernel, rfl, by decide +kernel, by decide +kernel⟩
theorem k_Take (T : Bt K mg) (D : Dfn K mg "_law_take" sTake ["_law_store_here", "_law_many"]) (d__law_mixed : Kn P w K mg base 1 "_law_mixed" ["_law_number", "_law_turn"] spMixed) : Kn P w K mg base 2 "_law_take" ["_law_store_here", "_law_many"] (spTake K) := by
  refine Kn.mk' D scTake (fun vs H Q E h => ?_) (fun f cdv A outer s H vs Q E hr h => ?_)
  · obtain ⟨a, m, rfl, _⟩ := h
    rfl
  obtain ⟨s, m, rfl, hS, hm, q⟩ := h
  refine ⟨_, (pss_cons (ps_if (pt_cmpR op_lt (pv 1) pe_int (nomark _)) (pss_one (ps_ret pe_int)) pss_nil)
      (pss_cons (ps_asg (pe_op op_add (pe_ix ix_any (pv 0) pe_int (fun _ _ => rfl)) pe_int) (pg_sub (pv 0) pe_int set_any))
      (C8.pss_cut (ps_if (PW.pt (pw_and (pt_cmpR op_lt (pe_ix ix_any (pv 0) pe_int (fun _ _ => rfl)) pe_int (nomark _)) (pw_and (pt_cmpR op_lt (pe_ix ix_any (pv 0) pe_int (fun _ _ => rfl)) pe_int (nomark _)) (pw_and1 (pt_cmpR op_lt (pe_ix ix_any (pv 0) pe_int (fun _ _ => rfl)) (pe_callB call_lenA (by rfl) T.b_len PySem.boot_len (pa_cons (pe_ix ix_any (pv 0) pe_int (fun _ _ => rfl)) pa_nil)) (nomark _)))))) (pss_cons (ps_set (i := 2) scTake.nd rfl (.inl rfl) (pe_callTy call_int1 (by rfl) T.b_int (by decide +kernel) (pa_cons (pe_ix ix_any (pe_ix ix_any (pv 0) pe_int (fun _ _ => rfl)) (pe_ix ix_any (pv 0) pe_int (fun _ _ => rfl)) (fun _ _ => rfl)) pa_nil)))
      (pss_cons (ps_asg (pe_op op_add (pe_ix ix_any (pv 0) pe_int (fun _ _ => rfl)) pe_int) (pg_sub (pv 0) pe_int set_any))
      (pss_one (ps_if (pt_cmpR op_lt (pe_callB call_abs (by rfl) T.b_abs (by decide +kernel) (pa_cons (pv 2) pa_nil)) (pe_op op_pow pe_int pe_int) (nomark _)) (pss_cons (ps_asg pe_int (pg_sub (pv 0) pe_int set_any))
      (pss_one (ps_asg (pv 2) (pg_sub (pv 0) pe_int set_any)))) (pss_one (ps_asg (pe_callB call_abs (by rfl) T.b_abs (by decide +kernel) (pa_cons (pv 2) pa_nil)) (pg_sub (pv 0) pe_int set_any))))))) pss_nil)
      (pss_cons (ps_if (pt_cmpR op_gt (pe_ix ix_any (pv 0) pe_int (fun _ _ => rfl)) pe_int (nomark _)) (pss_cons (ps_set (i := 3) scTake.nd rfl (.inl rfl) (pe_op op_modN (pe_callTy call_int1 (by rfl) T.b_int (by decide +kernel) (pa_cons (pe_ix ix_any (pv 0) pe_int (fun _ _ => rfl)) pa_nil)) (pv 1)))
      (pss_cons (ps_asg (pe_op op_fdivW (pe_ix ix_any (pv 0) pe_int (fun _ _ => rfl)) (pv 1)) (pg_sub (pv 0) pe_int set_any))
      (pss_one (ps_ret (pv 3))))) pss_nil)
      (pss_cons (ps_set (i := 4) scTake.nd rfl (.inl rfl) (pe_ix ix_any (pv 0) pe_int (fun _ _ => rfl)))
      (C8.pss_cut (ps_if (pt_cmpR op_gt (pe_ix ix_any (pv 0) pe_int (fun _ _ => rfl)) pe_int (nomark _)) (pss_cons (ps_asg (pe_op op_sub (pe_ix ix_any (pv 0) pe_int (fun _ _ => rfl)) pe_int) (pg_sub (pv 0) pe_int set_any))
      (pss_one (ps_set (i := 4) scTake.nd rfl (.inl rfl) (pe_ix ix_any (pv 0) pe_int (fun _ _ => rfl))))) pss_nil)
      (pss_cons (ps_set (i := 5) scTake.nd rfl (.inl rfl) pe_int)
      (pss_cons (ps_for PassesOwn.never rfl (pi_range1 (by rfl) T.b_range (pa_cons (pe_op op_add pe_int (pe_op op_fdiv (pe_bits (pv 1)) pe_int)) pa_nil)) (pg_name (i := 6) scTake.nd rfl (.inl rfl)) (pss_one (ps_set (i := 5) scTake.nd rfl (.inl rfl) (pe_op op_add (pe_op op_mul (pv 5) pe_int) (pe_kn d__law_mixed hr (by rfl) (pa_cons (pv 4) (pa_cons (pe_op op_add (pe_op op_mul (pe_ix ix_any (pv 0) pe_int (fun _ _ => rfl)) pe_int) (pv 6)) pa_nil)))))))
      (pss_one (ps_ret (pe_op op_modN (pv 5) (pv 1)))))))))))), ?_⟩
  obtain ⟨sc, ns, i, b, c, d, e, f, hs, hsc, hne, hi, ks, ksc⟩ := hS
  have o1 := (ob_none ks).trans hs
  simp only [o1, hs, cx_K, decide_true, decide_false, reduceCtorEq, gTp, gCons, gNil, ca_0, ca_1, ca_2, ca_3, ca_4, ca_5, ca_6, ca_7, ca_8, ca_9, ca_10, ca_11, ca_12, ca_13, ca_14, ca_15, ca_16, ca_17, ca_18, ca_19, ca_20, ca_21, ca_22, ca_23, ca_24, ca_25, ca_26, ca_27, ca_28, ca_29, ca_30, not_true_eq_false, not_false_eq_true, Int.reduceEq, Nat.reduceEqDiff, Nat.reduceLeDiff, rGcd, V.ty.injEq, eq_self, List.not_mem_nil, beq_self_eq_true, HO.lst.injEq, HO.tup.injEq, tFor_eq, iRng1, iList, iTup, nat10, tSeq, rIxA, rSetA, rIsN, rIsT, tTp, tLs, itsO_tup, itsO_lst, tyO_tup, tyO_lst, tyO_dK, tyN_non, tyN_bl, tyN_int, tyN_str, tyN_ref, tyNs_lt, isB, upd_same, upd_upd, sizeLine_eq, List.mem_cons, String.reduceBEq, String.reduceEq, Bool.or_false, Bool.or_true, Bool.and_false, Bool.false_or, Bool.and_self, Bool.false_and, Bool.not_false, Bool.not_true, List.any_cons, List.any_nil, atI_0, setI_0, atI_1, setI_1, atI_2, setI_2, atI_3, setI_3, atI_4, setI_4, atI_5, setI_5, atI_6, setI_6, tAsg, gName, tOp, tUn, tVar, tC, tCons, L2.tNil, tRet, tIfS, tTest, tCB, tCall, rI, rI0, rU, tNext, tB, tAnd, tOr, tNot, tAndV, tOrV, tNotV, tDrop, tIf, tPar, gSub, rIxL, rIxT, rEq, rNe, rSetL, tBits,
    L2.start, List.map_cons, List.map_nil, List.cons_append, List.nil_append, List.append_nil, List.length_cons, List.length_nil, List.replicate, Nat.reduceAdd, Nat.reduceSub, Nat.zero_add, List.getElem?_cons_zero, List.getElem?_cons_succ, List.set_cons_zero, List.set_cons_succ,
    Option.some.injEq, exists_eq_left', exists_eq_left, V.int.injEq, V.bl.injEq, V.ref.injEq, V.str.injEq, List.cons.injEq, reduceCtorEq, and_true, true_and, false_and, and_false, exists_false, or_false, false_or, or_true, true_or, exists_const, CMul, CDiv, CPow, and_assoc, exists_and_left, exists_and_right, Int.reducePow, Int.reduceNeg, Int.reduceLT, Int.reduceLE, Nat.reducePow, Nat.reduceLT, Int.reduceToNat, gt_iff_lt, ge_iff_le, decide_eq_true_eq, Bool.not_eq_true', decide_eq_false_iff_not, scal, ↓reduceIte, Bool.false_eq_true]
  refine ite2 (fun h2 => ?_) (fun h2 => ?_)
  · exact q 0 H (Int.le_refl 0) (.inr rfl) (Kp.refl _ _) ⟨sc, ns, i, b, c, d, e, f, hs, hsc, hne, hi, ks, ksc⟩
  have S1 := Sr.put (i' := i) (b' := b) (c' := c + 1) (d' := d) (e' := e) (f' := f) (⟨hs, hsc, hne, hi, ks, ksc⟩ : Sr K H s sc ns i b c d e f) hi
  have kp1 : Kp s H (upd H s (.lst [.ref sc, .int i, .int b, .int (c + 1), .int d, .int e, .int f])) := Kp.put hs
  generalize upd H s (.lst [.ref sc, .int i, .int b, .int (c + 1), .int d, .int e, .int f]) = H1 at S1 kp1 ⊢
  refine ⟨TakeA K s m H, ?_, ?_⟩
  · obtain ⟨hs, hsc, hne, hi, ks, ksc⟩ := id S1
    have o1 := (ob_none ks).trans hs
    have o2 := (ob_none ksc).trans hsc
    have no : TakeA K s m H [some (.ref s), some (.int m), none, none, none, none, none] H1 := ⟨none, rfl, kp1, _, _, _, _, _, _, _, _, S1⟩
    simp only [o1, o2, hs, List.length_map, cx_K, decide_true, decide_false, reduceCtorEq, gTp, gCons, gNil, ca_0, ca_1, ca_2, ca_3, ca_4, ca_5, ca_6, ca_7, ca_8, ca_9, ca_10, ca_11, ca_12, ca_13, ca_14, ca_15, ca_16, ca_17, ca_18, ca_19, ca_20, ca_21, ca_22, ca_23, ca_24, ca_25, ca_26, ca_27, ca_28, ca_29, ca_30, not_true_eq_false, not_false_eq_true, Int.reduceEq, Nat.reduceEqDiff, Nat.reduceLeDiff, rGcd, V.ty.injEq, eq_self, List.not_mem_nil, beq_self_eq_true, HO.lst.injEq, HO.tup.injEq, tFor_eq, iRng1, iList, iTup, nat10, tSeq, rIxA, rSetA, rIsN, rIsT, tTp, tLs, itsO_tup, itsO_lst, tyO_tup, tyO_lst, tyO_dK, tyN_non, tyN_bl, tyN_int, tyN_str, tyN_ref, tyNs_lt, isB, upd_same, upd_upd, sizeLine_eq, List.mem_cons, String.reduceBEq, String.reduceEq, Bool.or_false, Bool.or_true, Bool.and_false, Bool.false_or, Bool.and_self, Bool.false_and, Bool.not_false, Bool.not_true, List.any_cons, List.any_nil, atI_0, setI_0, atI_1, setI_1, atI_2, setI_2, atI_3, setI_3, atI_4, setI_4, atI_5, setI_5, atI_6, setI_6, tAsg, gName, tOp, tUn, tVar, tC, tCons, L2.tNil, tRet, tIfS, tTest, tCB, tCall, rI, rI0, rU, tNext, tB, tAnd, tOr, tNot, tAndV, tOrV, tNotV, tDrop, tIf, tPar, gSub, rIxL, rIxT, rEq, rNe, rSetL, tBits,
    L2.start, List.map_cons, List.map_nil, List.cons_append, List.nil_append, List.append_nil, List.length_cons, List.length_nil, List.replicate, Nat.reduceAdd, Nat.reduceSub, Nat.zero_add, List.getElem?_cons_zero, List.getElem?_cons_succ, List.set_cons_zero, List.set_cons_succ,
    Option.some.injEq, exists_eq_left', exists_eq_left, V.int.injEq, V.bl.injEq, V.ref.injEq, V.str.injEq, List.cons.injEq, reduceCtorEq, and_true, true_and, false_and, and_false, exists_false, or_false, false_or, or_true, true_or, exists_const, CMul, CDiv, CPow, and_assoc, exists_and_left, exists_and_right, Int.reducePow, Int.reduceNeg, Int.reduceLT, Int.reduceLE, Nat.reducePow, Nat.reduceLT, Int.reduceToNat, gt_iff_lt, ge_iff_le, decide_eq_true_eq, Bool.not_eq_true', decide_eq_false_iff_not, scal, ↓reduceIte, Bool.false_eq_true]
    refine ite2 (fun _ => ?_) (fun _ => no)
    refine ite2 (fun _ => ?_) (fun _ => no)
    refine ite2 (fun hlt => ?_) (fun _ => no)
    obtain ⟨z, hz⟩ := at_ints hi hlt
    simp only [hz, cx_K, decide_true, decide_false, reduceCtorEq, gTp, gCons, gNil, ca_0, ca_1, ca_2, ca_3, ca_4, ca_5, ca_6, ca_7, ca_8, ca_9, ca_10, ca_11, ca_12, ca_13, ca_14, ca_15, ca_16, ca_17, ca_18, ca_19, ca_20, ca_21, ca_22, ca_23, ca_24, ca_25, ca_26, ca_27, ca_28, ca_29, ca_30, not_true_eq_false, not_false_eq_true, Int.reduceEq, Nat.reduceEqDiff, Nat.reduceLeDiff, rGcd, V.ty.injEq, eq_self, List.not_mem_nil, beq_self_eq_true, HO.lst.injEq, HO.tup.injEq, tFor_eq, iRng1, iList, iTup, nat10, tSeq, rIxA, rSetA, rIsN, rIsT, tTp, tLs, itsO_tup, itsO_lst, tyO_tup, tyO_lst, tyO_dK, tyN_non, tyN_bl, tyN_int, tyN_str, tyN_ref, tyNs_lt, isB, upd_same, upd_upd, sizeLine_eq, List.mem_cons, String.reduceBEq, String.reduceEq, Bool.or_false, Bool.or_true, Bool.and_false, Bool.false_or, Bool.and_self, Bool.false_and, Bool.not_false, Bool.not_true, List.any_cons, List.any_nil, atI_0, setI_0, atI_1, setI_1, atI_2, setI_2, atI_3, setI_3, atI_4, setI_4, atI_5, setI_5, atI_6, setI_6, tAsg, gName, tOp, tUn, tVar, tC, tCons, L2.tNil, tRet, tIfS, tTest, tCB, tCall, rI, rI0, rU, tNext, tB, tAnd, tOr, tNot, tAndV, tOrV, tNotV, tDrop, tIf, tPar, gSub, rIxL, rIxT, rEq, rNe, rSetL, tBits,
    L2.start, List.map_cons, List.map_nil, List.cons_append, List.nil_append, List.append_nil, List.length_cons, List.length_nil, List.replicate, Nat.reduceAdd, Nat.reduceSub, Nat.zero_add, List.getElem?_cons_zero, List.getElem?_cons_succ, List.set_cons_zero, List.set_cons_succ,
    Option.some.injEq, exists_eq_left', exists_eq_left, V.int.injEq, V.bl.injEq, V.ref.injEq, V.str.injEq, List.cons.injEq, reduceCtorEq, and_true, true_and, false_and, and_false, exists_false, or_false, false_or, or_true, true_or, exists_const, CMul, CDiv, CPow, and_assoc, exists_and_left, exists_and_right, Int.reducePow, Int.reduceNeg, Int.reduceLT, Int.reduceLE, Nat.reducePow, Nat.reduceLT, Int.reduceToNat, gt_iff_lt, ge_iff_le, decide_eq_true_eq, Bool.not_eq_true', decide_eq_false_iff_not, scal, ↓reduceIte, Bool.false_eq_true]
    refine ite2 (fun _ => ?_) (fun _ => ?_)
    · have S2 := S1.put (i' := i + 1) (b' := b) (c' := c + 1) (d' := d) (e' := 2) (f' := z) (by omega)
      exact ⟨_, rfl, kp1.trans (Kp.put hs), _, _, _, _, _, _, _, _, S2⟩
    · have S2 := S1.put (i' := i + 1) (b' := if z < 0 then -z else z) (c' := c + 1) (d' := d) (e' := e) (f' := f) (by omega)
      exact ⟨_, rfl, kp1.trans (Kp.put hs), _, _, _, _, _, _, _, _, S2⟩
  rintro σ' H2 ⟨x, rfl, kp2, sc, ns, i, b, c, d, e, f, S2⟩
  obtain ⟨hs, hsc, hne, hi, ks, ksc⟩ := id S2
  have o1 := (ob_none ks).trans hs
  simp only [o1, hs, cx_K, decide_true, decide_false, reduceCtorEq, gTp, gCons, gNil, ca_0, ca_1, ca_2, ca_3, ca_4, ca_5, ca_6, ca_7, ca_8, ca_9, ca_10, ca_11, ca_12, ca_13, ca_14, ca_15, ca_16, ca_17, ca_18, ca_19, ca_20, ca_21, ca_22, ca_23, ca_24, ca_25, ca_26, ca_27, ca_28, ca_29, ca_30, not_true_eq_false, not_false_eq_true, Int.reduceEq, Nat.reduceEqDiff, Nat.reduceLeDiff, rGcd, V.ty.injEq, eq_self, List.not_mem_nil, beq_self_eq_true, HO.lst.injEq, HO.tup.injEq, tFor_eq, iRng1, iList, iTup, nat10, tSeq, rIxA, rSetA, rIsN, rIsT, tTp, tLs, itsO_tup, itsO_lst, tyO_tup, tyO_lst, tyO_dK, tyN_non, tyN_bl, tyN_int, tyN_str, tyN_ref, tyNs_lt, isB, upd_same, upd_upd, sizeLine_eq, List.mem_cons, String.reduceBEq, String.reduceEq, Bool.or_false, Bool.or_true, Bool.and_false, Bool.false_or, Bool.and_self, Bool.false_and, Bool.not_false, Bool.not_true, List.any_cons, List.any_nil, atI_0, setI_0, atI_1, setI_1, atI_2, setI_2, atI_3, setI_3, atI_4, setI_4, atI_5, setI_5, atI_6, setI_6, tAsg, gName, tOp, tUn, tVar, tC, tCons, L2.tNil, tRet, tIfS, tTest, tCB, tCall, rI, rI0, rU, tNext, tB, tAnd, tOr, tNot, tAndV, tOrV, tNotV, tDrop, tIf, tPar, gSub, rIxL, rIxT, rEq, rNe, rSetL, tBits,
    L2.start, List.map_cons, List.map_nil, List.cons_append, List.nil_append, List.append_nil, List.length_cons, List.length_nil, List.replicate, Nat.reduceAdd, Nat.reduceSub, Nat.zero_add, List.getElem?_cons_zero, List.getElem?_cons_succ, List.set_cons_zero, List.set_cons_succ,
    Option.some.injEq, exists_eq_left', exists_eq_left, V.int.injEq, V.bl.injEq, V.ref.injEq, V.str.injEq, List.cons.injEq, reduceCtorEq, and_true, true_and, false_and, and_false, exists_false, or_false, false_or, or_true, true_or, exists_const, CMul, CDiv, CPow, and_assoc, exists_and_left, exists_and_right, Int.reducePow, Int.reduceNeg, Int.reduceLT, Int.reduceLE, Nat.reducePow, Nat.reduceLT, Int.reduceToNat, gt_iff_lt, ge_iff_le, decide_eq_true_eq, Bool.not_eq_true', decide_eq_false_iff_not, scal, ↓reduceIte, Bool.false_eq_true]
  have hm0 : m ≠ 0 := by omega
  refine ite2 (fun hb => ?_) (fun hb => ?_)
  · have S3 := S2.put (i' := i) (b' := b / m) (c' := c) (d' := d) (e' := e) (f' := f) hi
    refine ⟨hm0, wide_div (b := 200) (by omega) (by omega) (by omega) (by omega), q _ _ ?_ (.inl ?_) (kp2.trans (Kp.put hs)) ⟨_, _, _, _, _, _, _, _, S3⟩⟩
    · rw [Int.fmod_eq_emod_of_nonneg b (by omega)]
      exact Int.emod_nonneg _ hm0
    · rw [Int.fmod_eq_emod_of_nonneg b (by omega)]
      exact Int.emod_lt_of_pos _ (by omega)
  refine ⟨TakeB K s m H, ?_, ?_⟩
  · simp only [o1, hs, cx_K, decide_true, decide_false, reduceCtorEq, gTp, gCons, gNil, ca_0, ca_1, ca_2, ca_3, ca_4, ca_5, ca_6, ca_7, ca_8, ca_9, ca_10, ca_11, ca_12, ca_13, ca_14, ca_15, ca_16, ca_17, ca_18, ca_19, ca_20, ca_21, ca_22, ca_23, ca_24, ca_25, ca_26, ca_27, ca_28, ca_29, ca_30, not_true_eq_false, not_false_eq_true, Int.reduceEq, Nat.reduceEqDiff, Nat.reduceLeDiff, rGcd, V.ty.injEq, eq_self, List.not_mem_nil, beq_self_eq_true, HO.lst.injEq, HO.tup.injEq, tFor_eq, iRng1, iList, iTup, nat10, tSeq, rIxA, rSetA, rIsN, rIsT, tTp, tLs, itsO_tup, itsO_lst, tyO_tup, tyO_lst, tyO_dK, tyN_non, tyN_bl, tyN_int, tyN_str, tyN_ref, tyNs_lt, isB, upd_same, upd_upd, sizeLine_eq, List.mem_cons, String.reduceBEq, String.reduceEq, Bool.or_false, Bool.or_true, Bool.and_false, Bool.false_or, Bool.and_self, Bool.false_and, Bool.not_false, Bool.not_true, List.any_cons, List.any_nil, atI_0, setI_0, atI_1, setI_1, atI_2, setI_2, atI_3, setI_3, atI_4, setI_4, atI_5, setI_5, atI_6, setI_6, tAsg, gName, tOp, tUn, tVar, tC, tCons, L2.tNil, tRet, tIfS, tTest, tCB, tCall, rI, rI0, rU, tNext, tB, tAnd, tOr, tNot, tAndV, tOrV, tNotV, tDrop, tIf, tPar, gSub, rIxL, rIxT, rEq, rNe, rSetL, tBits,
    L2.start, List.map_cons, List.map_nil, List.cons_append, List.nil_append, List.append_nil, List.length_cons, List.length_nil, List.replicate, Nat.reduceAdd, Nat.reduceSub, Nat.zero_add, List.getElem?_cons_zero, List.getElem?_cons_succ, List.set_cons_zero, List.set_cons_succ,
    Option.some.injEq, exists_eq_left', exists_eq_left, V.int.injEq, V.bl.injEq, V.ref.injEq, V.str.injEq, List.cons.injEq, reduceCtorEq, and_true, true_and, false_and, and_false, exists_false, or_false, false_or, or_true, true_or, exists_const, CMul, CDiv, CPow, and_assoc, exists_and_left, exists_and_right, Int.reducePow, Int.reduceNeg, Int.reduceLT, Int.reduceLE, Nat.reducePow, Nat.reduceLT, Int.reduceToNat, gt_iff_lt, ge_iff_le, decide_eq_true_eq, Bool.not_eq_true', decide_eq_false_iff_not, scal, ↓reduceIte, Bool.false_eq_true]
    refine ite2 (fun he => ?_) (fun he => ?_)
    · have S3 := S2.put (i' := i) (b' := b) (c' := c) (d' := d) (e' := e - 1) (f' := f) hi
      have o3 := (ob_none ks).trans S3.1
      simp only [o3, cx_K, decide_true, decide_false, reduceCtorEq, gTp, gCons, gNil, ca_0, ca_1, ca_2, ca_3, ca_4, ca_5, ca_6, ca_7, ca_8, ca_9, ca_10, ca_11, ca_12, ca_13, ca_14, ca_15, ca_16, ca_17, ca_18, ca_19, ca_20, ca_21, ca_22, ca_23, ca_24, ca_25, ca_26, ca_27, ca_28, ca_29, ca_30, not_true_eq_false, not_false_eq_true, Int.reduceEq, Nat.reduceEqDiff, Nat.reduceLeDiff, rGcd, V.ty.injEq, eq_self, List.not_mem_nil, beq_self_eq_true, HO.lst.injEq, HO.tup.injEq, tFor_eq, iRng1, iList, iTup, nat10, tSeq, rIxA, rSetA, rIsN, rIsT, tTp, tLs, itsO_tup, itsO_lst, tyO_tup, tyO_lst, tyO_dK, tyN_non, tyN_bl, tyN_int, tyN_str, tyN_ref, tyNs_lt, isB, upd_same, upd_upd, sizeLine_eq, List.mem_cons, String.reduceBEq, String.reduceEq, Bool.or_false, Bool.or_true, Bool.and_false, Bool.false_or, Bool.and_self, Bool.false_and, Bool.not_false, Bool.not_true, List.any_cons, List.any_nil, atI_0, setI_0, atI_1, setI_1, atI_2, setI_2, atI_3, setI_3, atI_4, setI_4, atI_5, setI_5, atI_6, setI_6, tAsg, gName, tOp, tUn, tVar, tC, tCons, L2.tNil, tRet, tIfS, tTest, tCB, tCall, rI, rI0, rU, tNext, tB, tAnd, tOr, tNot, tAndV, tOrV, tNotV, tDrop, tIf, tPar, gSub, rIxL, rIxT, rEq, rNe, rSetL, tBits,
    L2.start, List.map_cons, List.map_nil, List.cons_append, List.nil_append, List.append_nil, List.length_cons, List.length_nil, List.replicate, Nat.reduceAdd, Nat.reduceSub, Nat.zero_add, List.getElem?_cons_zero, List.getElem?_cons_succ, List.set_cons_zero, List.set_cons_succ,
    Option.some.injEq, exists_eq_left', exists_eq_left, V.int.injEq, V.bl.injEq, V.ref.injEq, V.str.injEq, List.cons.injEq, reduceCtorEq, and_true, true_and, false_and, and_false, exists_false, or_false, false_or, or_true, true_or, exists_const, CMul, CDiv, CPow, and_assoc, exists_and_left, exists_and_right, Int.reducePow, Int.reduceNeg, Int.reduceLT, Int.reduceLE, Nat.reducePow, Nat.reduceLT, Int.reduceToNat, gt_iff_lt, ge_iff_le, decide_eq_true_eq, Bool.not_eq_true', decide_eq_false_iff_not, scal, ↓reduceIte, Bool.false_eq_true]
      exact ⟨_, _, rfl, kp2.trans (Kp.put hs), _, _, _, _, _, _, _, _, S3⟩
    · exact ⟨_, _, rfl, kp2, _, _, _, _, _, _, _, _, S2⟩
  rintro σ' H3 ⟨x, n, rfl, kp3, sc, ns, i, b, c, d, e, f, S3⟩
  obtain ⟨hs, hsc, hne, hi, ks, ksc⟩ := id S3
  have o1 := (ob_none ks).trans hs
  simp only [o1, hs, cx_K, decide_true, decide_false, reduceCtorEq, gTp, gCons, gNil, ca_0, ca_1, ca_2, ca_3, ca_4, ca_5, ca_6, ca_7, ca_8, ca_9, ca_10, ca_11, ca_12, ca_13, ca_14, ca_15, ca_16, ca_17, ca_18, ca_19, ca_20, ca_21, ca_22, ca_23, ca_24, ca_25, ca_26, ca_27, ca_28, ca_29, ca_30, not_true_eq_false, not_false_eq_true, Int.reduceEq, Nat.reduceEqDiff, Nat.reduceLeDiff, rGcd, V.ty.injEq, eq_self, List.not_mem_nil, beq_self_eq_true, HO.lst.injEq, HO.tup.injEq, tFor_eq, iRng1, iList, iTup, nat10, tSeq, rIxA, rSetA, rIsN, rIsT, tTp, tLs, itsO_tup, itsO_lst, tyO_tup, tyO_lst, tyO_dK, tyN_non, tyN_bl, tyN_int, tyN_str, tyN_ref, tyNs_lt, isB, upd_same, upd_upd, sizeLine_eq, List.mem_cons, String.reduceBEq, String.reduceEq, Bool.or_false, Bool.or_true, Bool.and_false, Bool.false_or, Bool.and_self, Bool.false_and, Bool.not_false, Bool.not_true, List.any_cons, List.any_nil, atI_0, setI_0, atI_1, setI_1, atI_2, setI_2, atI_3, setI_3, atI_4, setI_4, atI_5, setI_5, atI_6, setI_6, tAsg, gName, tOp, tUn, tVar, tC, tCons, L2.tNil, tRet, tIfS, tTest, tCB, tCall, rI, rI0, rU, tNext, tB, tAnd, tOr, tNot, tAndV, tOrV, tNotV, tDrop, tIf, tPar, gSub, rIxL, rIxT, rEq, rNe, rSetL, tBits,
    L2.start, List.map_cons, List.map_nil, List.cons_append, List.nil_append, List.append_nil, List.length_cons, List.length_nil, List.replicate, Nat.reduceAdd, Nat.reduceSub, Nat.zero_add, List.getElem?_cons_zero, List.getElem?_cons_succ, List.set_cons_zero, List.set_cons_succ,
    Option.some.injEq, exists_eq_left', exists_eq_left, V.int.injEq, V.bl.injEq, V.ref.injEq, V.str.injEq, List.cons.injEq, reduceCtorEq, and_true, true_and, false_and, and_false, exists_false, or_false, false_or, or_true, true_or, exists_const, CMul, CDiv, CPow, and_assoc, exists_and_left, exists_and_right, Int.reducePow, Int.reduceNeg, Int.reduceLT, Int.reduceLE, Nat.reducePow, Nat.reduceLT, Int.reduceToNat, gt_iff_lt, ge_iff_le, decide_eq_true_eq, Bool.not_eq_true', decide_eq_false_iff_not, scal, ↓reduceIte, Bool.false_eq_true]
  have hbits : Builtin.Int.intBits m ≤ 200 := bits_le (by omega)
  refine ⟨by omega, by omega, forI_range (TakeC s m x n H3) ⟨0, none, rfl, rfl⟩ ?_ ?_⟩
  · rintro k σ H' hk ⟨v, y, rfl, rfl⟩
    simp only [o1, hs, cx_K, decide_true, decide_false, reduceCtorEq, gTp, gCons, gNil, ca_0, ca_1, ca_2, ca_3, ca_4, ca_5, ca_6, ca_7, ca_8, ca_9, ca_10, ca_11, ca_12, ca_13, ca_14, ca_15, ca_16, ca_17, ca_18, ca_19, ca_20, ca_21, ca_22, ca_23, ca_24, ca_25, ca_26, ca_27, ca_28, ca_29, ca_30, not_true_eq_false, not_false_eq_true, Int.reduceEq, Nat.reduceEqDiff, Nat.reduceLeDiff, rGcd, V.ty.injEq, eq_self, List.not_mem_nil, beq_self_eq_true, HO.lst.injEq, HO.tup.injEq, tFor_eq, iRng1, iList, iTup, nat10, tSeq, rIxA, rSetA, rIsN, rIsT, tTp, tLs, itsO_tup, itsO_lst, tyO_tup, tyO_lst, tyO_dK, tyN_non, tyN_bl, tyN_int, tyN_str, tyN_ref, tyNs_lt, isB, upd_same, upd_upd, sizeLine_eq, List.mem_cons, String.reduceBEq, String.reduceEq, Bool.or_false, Bool.or_true, Bool.and_false, Bool.false_or, Bool.and_self, Bool.false_and, Bool.not_false, Bool.not_true, List.any_cons, List.any_nil, atI_0, setI_0, atI_1, setI_1, atI_2, setI_2, atI_3, setI_3, atI_4, setI_4, atI_5, setI_5, atI_6, setI_6, tAsg, gName, tOp, tUn, tVar, tC, tCons, L2.tNil, tRet, tIfS, tTest, tCB, tCall, rI, rI0, rU, tNext, tB, tAnd, tOr, tNot, tAndV, tOrV, tNotV, tDrop, tIf, tPar, gSub, rIxL, rIxT, rEq, rNe, rSetL, tBits,
    L2.start, List.map_cons, List.map_nil, List.cons_append, List.nil_append, List.append_nil, List.length_cons, List.length_nil, List.replicate, Nat.reduceAdd, Nat.reduceSub, Nat.zero_add, List.getElem?_cons_zero, List.getElem?_cons_succ, List.set_cons_zero, List.set_cons_succ,
    Option.some.injEq, exists_eq_left', exists_eq_left, V.int.injEq, V.bl.injEq, V.ref.injEq, V.str.injEq, List.cons.injEq, reduceCtorEq, and_true, true_and, false_and, and_false, exists_false, or_false, false_or, or_true, true_or, exists_const, CMul, CDiv, CPow, and_assoc, exists_and_left, exists_and_right, Int.reducePow, Int.reduceNeg, Int.reduceLT, Int.reduceLE, Nat.reducePow, Nat.reduceLT, Int.reduceToNat, gt_iff_lt, ge_iff_le, decide_eq_true_eq, Bool.not_eq_true', decide_eq_false_iff_not, scal, ↓reduceIte, Bool.false_eq_true]
    refine ⟨_, _, rfl, fun r => ?_⟩
    simp only [cx_K, decide_true, decide_false, reduceCtorEq, gTp, gCons, gNil, ca_0, ca_1, ca_2, ca_3, ca_4, ca_5, ca_6, ca_7, ca_8, ca_9, ca_10, ca_11, ca_12, ca_13, ca_14, ca_15, ca_16, ca_17, ca_18, ca_19, ca_20, ca_21, ca_22, ca_23, ca_24, ca_25, ca_26, ca_27, ca_28, ca_29, ca_30, not_true_eq_false, not_false_eq_true, Int.reduceEq, Nat.reduceEqDiff, Nat.reduceLeDiff, rGcd, V.ty.injEq, eq_self, List.not_mem_nil, beq_self_eq_true, HO.lst.injEq, HO.tup.injEq, tFor_eq, iRng1, iList, iTup, nat10, tSeq, rIxA, rSetA, rIsN, rIsT, tTp, tLs, itsO_tup, itsO_lst, tyO_tup, tyO_lst, tyO_dK, tyN_non, tyN_bl, tyN_int, tyN_str, tyN_ref, tyNs_lt, isB, upd_same, upd_upd, sizeLine_eq, List.mem_cons, String.reduceBEq, String.reduceEq, Bool.or_false, Bool.or_true, Bool.and_false, Bool.false_or, Bool.and_self, Bool.false_and, Bool.not_false, Bool.not_true, List.any_cons, List.any_nil, atI_0, setI_0, atI_1, setI_1, atI_2, setI_2, atI_3, setI_3, atI_4, setI_4, atI_5, setI_5, atI_6, setI_6, tAsg, gName, tOp, tUn, tVar, tC, tCons, L2.tNil, tRet, tIfS, tTest, tCB, tCall, rI, rI0, rU, tNext, tB, tAnd, tOr, tNot, tAndV, tOrV, tNotV, tDrop, tIf, tPar, gSub, rIxL, rIxT, rEq, rNe, rSetL, tBits,
    L2.start, List.map_cons, List.map_nil, List.cons_append, List.nil_append, List.append_nil, List.length_cons, List.length_nil, List.replicate, Nat.reduceAdd, Nat.reduceSub, Nat.zero_add, List.getElem?_cons_zero, List.getElem?_cons_succ, List.set_cons_zero, List.set_cons_succ,
    Option.some.injEq, exists_eq_left', exists_eq_left, V.int.injEq, V.bl.injEq, V.ref.injEq, V.str.injEq, List.cons.injEq, reduceCtorEq, and_true, true_and, false_and, and_false, exists_false, or_false, false_or, or_true, true_or, exists_const, CMul, CDiv, CPow, and_assoc, exists_and_left, exists_and_right, Int.reducePow, Int.reduceNeg, Int.reduceLT, Int.reduceLE, Nat.reducePow, Nat.reduceLT, Int.reduceToNat, gt_iff_lt, ge_iff_le, decide_eq_true_eq, Bool.not_eq_true', decide_eq_false_iff_not, scal, ↓reduceIte, Bool.false_eq_true]
    exact ⟨_, _, rfl, rfl⟩
  · rintro σ H' ⟨v, y, rfl, rfl⟩
    simp only [cx_K, decide_true, decide_false, reduceCtorEq, gTp, gCons, gNil, ca_0, ca_1, ca_2, ca_3, ca_4, ca_5, ca_6, ca_7, ca_8, ca_9, ca_10, ca_11, ca_12, ca_13, ca_14, ca_15, ca_16, ca_17, ca_18, ca_19, ca_20, ca_21, ca_22, ca_23, ca_24, ca_25, ca_26, ca_27, ca_28, ca_29, ca_30, not_true_eq_false, not_false_eq_true, Int.reduceEq, Nat.reduceEqDiff, Nat.reduceLeDiff, rGcd, V.ty.injEq, eq_self, List.not_mem_nil, beq_self_eq_true, HO.lst.injEq, HO.tup.injEq, tFor_eq, iRng1, iList, iTup, nat10, tSeq, rIxA, rSetA, rIsN, rIsT, tTp, tLs, itsO_tup, itsO_lst, tyO_tup, tyO_lst, tyO_dK, tyN_non, tyN_bl, tyN_int, tyN_str, tyN_ref, tyNs_lt, isB, upd_same, upd_upd, sizeLine_eq, List.mem_cons, String.reduceBEq, String.reduceEq, Bool.or_false, Bool.or_true, Bool.and_false, Bool.false_or, Bool.and_self, Bool.false_and, Bool.not_false, Bool.not_true, List.any_cons, List.any_nil, atI_0, setI_0, atI_1, setI_1, atI_2, setI_2, atI_3, setI_3, atI_4, setI_4, atI_5, setI_5, atI_6, setI_6, tAsg, gName, tOp, tUn, tVar, tC, tCons, L2.tNil, tRet, tIfS, tTest, tCB, tCall, rI, rI0, rU, tNext, tB, tAnd, tOr, tNot, tAndV, tOrV, tNotV, tDrop, tIf, tPar, gSub, rIxL, rIxT, rEq, rNe, rSetL, tBits,
    L2.start, List.map_cons, List.map_nil, List.cons_append, List.nil_append, List.append_nil, List.length_cons, List.length_nil, List.replicate, Nat.reduceAdd, Nat.reduceSub, Nat.zero_add, List.getElem?_cons_zero, List.getElem?_cons_succ, List.set_cons_zero, List.set_cons_succ,
    Option.some.injEq, exists_eq_left', exists_eq_left, V.int.injEq, V.bl.injEq, V.ref.injEq, V.str.injEq, List.cons.injEq, reduceCtorEq, and_true, true_and, false_and, and_false, exists_false, or_false, false_or, or_true, true_or, exists_const, CMul, CDiv, CPow, and_assoc, exists_and_left, exists_and_right, Int.reducePow, Int.reduceNeg, Int.reduceLT, Int.reduceLE, Nat.reducePow, Nat.reduceLT, Int.reduceToNat, gt_iff_lt, ge_iff_le, decide_eq_true_eq, Bool.not_eq_true', decide_eq_false_iff_not, scal, ↓reduceIte, Bool.false_eq_true]
    refine ⟨hm0, q _ _ ?_ (.inl ?_) kp3 ⟨_, _, _, _, _, _, _, _, S3⟩⟩
    · rw [Int.fmod_eq_emod_of_nonneg v (by omega)]
      exact Int.emod_nonneg _ hm0
    · rw [Int.fmod_eq_emod_of_nonneg v (by omega)]
      exact Int.emod_lt_of_pos _ (by omega)
end
end My

namespace My
open PySem PySem.Spec PyProof.Rows L2
section
variable {P : Program} {w : World} {K : PySem.W.Frag} {mg : Str → Option Value} {base : Heap}
theorem abs_if (n : Int) : (if n < 0 then -n else n) = (n.natAbs : Int) := by split <;> omega
def spGcd : Sp := fun vs H Q _ => ∃ a b : Int, vs = [.int a, .int b] ∧ Q (.int ((Int.gcd a b : Nat) : Int)) H
def GcdW (a b : Int) (H : Hp) (σ : L2.St) (H' : Hp) : Prop := ∃ l r : Int, σ = [some (.int l), some (.int r)] ∧ H' = H ∧ 0 ≤ l ∧ 0 ≤ r ∧ Int.gcd l r = Int.gcd a b
def GcdM (σ : L2.St) (_ : Hp) : Nat := match σ with
  | [_, some (.int r)] => r.toNat
  | _ => 0
abbrev sGcd : Stmt := topS 39
theorem scGcd : FnScope ["_law_left", "_law_right"] ["_law_left", "_law_right"] (defScope sGcd) := ⟨rfl, rfl, rfl, by decide +kernel, rfl, by decide +kernel, by decide +kernel⟩
theorem k_Gcd (T : Bt K mg) (D : Dfn K mg "_law_gcd" sGcd ["_law_left", "_law_right"]) : Kn P w K mg base 1 "_law_gcd" ["_law_left", "_law_right"] spGcd := by
  refine Kn.mk' D scGcd (fun vs H Q E h => ?_) (fun f cdv A outer s H vs Q E hr h => ?_)
  · obtain ⟨a, b, rfl, _⟩ := h
    rfl
  obtain ⟨a, b, rfl, q⟩ := h
  refine ⟨_, (pss_cons (ps_set (i := 0) scGcd.nd rfl (.inl rfl) (pe_callB call_abs (by rfl) T.b_abs (by decide +kernel) (pa_cons (pv 0) pa_nil)))
      (pss_cons (ps_set (i := 1) scGcd.nd rfl (.inl rfl) (pe_callB call_abs (by rfl) T.b_abs (by decide +kernel) (pa_cons (pv 1) pa_nil)))
      (pss_cons (ps_while PassesOwn.never (pt_cmpR op_gt (pv 1) pe_int (nomark _)) (pss_one (ps_par (i := 0) (j := 1) (by rfl) scGcd.nd rfl rfl (by decide) rfl rfl (pa_cons (pv 1) (pa_cons (pe_op op_modN (pe_callTy call_int1 (by rfl) T.b_int (by decide +kernel) (pa_cons (pv 0) pa_nil)) (pv 1)) pa_nil)) (by rfl))))
      (pss_one (ps_ret (pv 0)))))), ?_⟩
  simp only [abs_if, cx_K, decide_true, decide_false, reduceCtorEq, gTp, gCons, gNil, ca_0, ca_1, ca_2, ca_3, ca_4, ca_5, ca_6, ca_7, ca_8, ca_9, ca_10, ca_11, ca_12, ca_13, ca_14, ca_15, ca_16, ca_17, ca_18, ca_19, ca_20, ca_21, ca_22, ca_23, ca_24, ca_25, ca_26, ca_27, ca_28, ca_29, ca_30, not_true_eq_false, not_false_eq_true, Int.reduceEq, Nat.reduceEqDiff, Nat.reduceLeDiff, rGcd, V.ty.injEq, eq_self, List.not_mem_nil, beq_self_eq_true, HO.lst.injEq, HO.tup.injEq, tFor_eq, iRng1, iList, iTup, nat10, tSeq, rIxA, rSetA, rIsN, rIsT, tTp, tLs, itsO_tup, itsO_lst, tyO_tup, tyO_lst, tyO_dK, tyN_non, tyN_bl, tyN_int, tyN_str, tyN_ref, tyNs_lt, isB, upd_same, upd_upd, sizeLine_eq, List.mem_cons, String.reduceBEq, String.reduceEq, Bool.or_false, Bool.or_true, Bool.and_false, Bool.false_or, Bool.and_self, Bool.false_and, Bool.not_false, Bool.not_true, List.any_cons, List.any_nil, atI_0, setI_0, atI_1, setI_1, atI_2, setI_2, atI_3, setI_3, atI_4, setI_4, atI_5, setI_5, atI_6, setI_6, tAsg, gName, tOp, tUn, tVar, tC, tCons, L2.tNil, tRet, tIfS, tTest, tCB, tCall, rI, rI0, rU, tNext, tB, tAnd, tOr, tNot, tAndV, tOrV, tNotV, tDrop, tIf, tPar, gSub, rIxL, rIxT, rEq, rNe, rSetL, tBits,
    L2.start, List.map_cons, List.map_nil, List.cons_append, List.nil_append, List.append_nil, List.length_cons, List.length_nil, List.replicate, Nat.reduceAdd, Nat.reduceSub, Nat.zero_add, List.getElem?_cons_zero, List.getElem?_cons_succ, List.set_cons_zero, List.set_cons_succ,
    Option.some.injEq, exists_eq_left', exists_eq_left, V.int.injEq, V.bl.injEq, V.ref.injEq, V.str.injEq, List.cons.injEq, reduceCtorEq, and_true, true_and, false_and, and_false, exists_false, or_false, false_or, or_true, true_or, exists_const, CMul, CDiv, CPow, and_assoc, exists_and_left, exists_and_right, Int.reducePow, Int.reduceNeg, Int.reduceLT, Int.reduceLE, Nat.reducePow, Nat.reduceLT, Int.reduceToNat, gt_iff_lt, ge_iff_le, decide_eq_true_eq, Bool.not_eq_true', decide_eq_false_iff_not, scal, ↓reduceIte, Bool.false_eq_true]
  refine while_by (GcdW a b H) GcdM ⟨_, _, rfl, rfl, by omega, by omega, rfl⟩ ?_ ?_
  · rintro σ H' ⟨l, r, rfl, rfl, hl, hr, e⟩
    simp only [cx_K, decide_true, decide_false, reduceCtorEq, gTp, gCons, gNil, ca_0, ca_1, ca_2, ca_3, ca_4, ca_5, ca_6, ca_7, ca_8, ca_9, ca_10, ca_11, ca_12, ca_13, ca_14, ca_15, ca_16, ca_17, ca_18, ca_19, ca_20, ca_21, ca_22, ca_23, ca_24, ca_25, ca_26, ca_27, ca_28, ca_29, ca_30, not_true_eq_false, not_false_eq_true, Int.reduceEq, Nat.reduceEqDiff, Nat.reduceLeDiff, rGcd, V.ty.injEq, eq_self, List.not_mem_nil, beq_self_eq_true, HO.lst.injEq, HO.tup.injEq, tFor_eq, iRng1, iList, iTup, nat10, tSeq, rIxA, rSetA, rIsN, rIsT, tTp, tLs, itsO_tup, itsO_lst, tyO_tup, tyO_lst, tyO_dK, tyN_non, tyN_bl, tyN_int, tyN_str, tyN_ref, tyNs_lt, isB, upd_same, upd_upd, sizeLine_eq, List.mem_cons, String.reduceBEq, String.reduceEq, Bool.or_false, Bool.or_true, Bool.and_false, Bool.false_or, Bool.and_self, Bool.false_and, Bool.not_false, Bool.not_true, List.any_cons, List.any_nil, atI_0, setI_0, atI_1, setI_1, atI_2, setI_2, atI_3, setI_3, atI_4, setI_4, atI_5, setI_5, atI_6, setI_6, tAsg, gName, tOp, tUn, tVar, tC, tCons, L2.tNil, tRet, tIfS, tTest, tCB, tCall, rI, rI0, rU, tNext, tB, tAnd, tOr, tNot, tAndV, tOrV, tNotV, tDrop, tIf, tPar, gSub, rIxL, rIxT, rEq, rNe, rSetL, tBits,
    L2.start, List.map_cons, List.map_nil, List.cons_append, List.nil_append, List.append_nil, List.length_cons, List.length_nil, List.replicate, Nat.reduceAdd, Nat.reduceSub, Nat.zero_add, List.getElem?_cons_zero, List.getElem?_cons_succ, List.set_cons_zero, List.set_cons_succ,
    Option.some.injEq, exists_eq_left', exists_eq_left, V.int.injEq, V.bl.injEq, V.ref.injEq, V.str.injEq, List.cons.injEq, reduceCtorEq, and_true, true_and, false_and, and_false, exists_false, or_false, false_or, or_true, true_or, exists_const, CMul, CDiv, CPow, and_assoc, exists_and_left, exists_and_right, Int.reducePow, Int.reduceNeg, Int.reduceLT, Int.reduceLE, Nat.reducePow, Nat.reduceLT, Int.reduceToNat, gt_iff_lt, ge_iff_le, decide_eq_true_eq, Bool.not_eq_true', decide_eq_false_iff_not, scal, ↓reduceIte, Bool.false_eq_true]
    refine ite2 (fun h => ?_) (fun h => ?_)
    · refine ⟨by omega, ⟨_, _, rfl, rfl, hr, ?_, ?_⟩, ?_⟩
      · rw [Int.fmod_eq_emod_of_nonneg l hr]
        exact Int.emod_nonneg _ (by omega)
      · rw [Int.fmod_eq_emod_of_nonneg l hr, ← e]
        show Nat.gcd r.natAbs (l % r).natAbs = Nat.gcd l.natAbs r.natAbs
        rw [Int.natAbs_emod_of_nonneg hl, Nat.gcd_comm l.natAbs, Nat.gcd_rec r.natAbs l.natAbs, Nat.gcd_comm]
      · show (l.fmod r).toNat < r.toNat
        rw [Int.fmod_eq_emod_of_nonneg l hr]
        have := Int.emod_lt_of_pos l h
        omega
    · have hr0 : r = 0 := by omega
      subst hr0
      have e2 : l = ((Int.gcd a b : Nat) : Int) := by
        rw [← e, Int.gcd_zero_right]
        omega
      rw [e2]
      exact q
  · rintro σ H' Q' Q2 hq ⟨v, e, i, j, h1, h2, k, ek, h⟩
    exact ⟨v, e, i, j, h1, h2, k, ek, hq _ _ h⟩
/-- the law's own lowest terms; 0 beneath gives 0 -/
def Lw (q : Qt) (t b : Int) : Prop := (b = 0 → q = (0, 1)) ∧ (b ≠ 0 → Is q t b)
/-- hands back a fraction, all else as it was -/
def Gv (K : PySem.W.Frag) (H : Hp) (Q : VK) (q : Qt) : Prop := ∀ (p : Addr) (H' : Hp), Same H H' → ob K H' p = some (frt q) → Q (.ref p) H'
theorem Gv.new {K : PySem.W.Frag} {H : Hp} {Q : VK} {q : Qt} (h : Gv K H Q q) {p : Addr} (hp : H p = none) (kp : K.lookup p = none) : Q (.ref p) (upd H p (.tup [.int q.1, .int q.2])) := h p _ (Same.new hp _) (ob_new kp)
def spLowest (K : PySem.W.Frag) : Sp := fun vs H Q _ => ∃ t b : Int, vs = [.int t, .int b] ∧ b.natAbs < 2 ^ 8000 ∧ ∀ q, Lw q t b → Gv K H Q q
abbrev sLowest : Stmt := topS 40
theorem scLowest : FnScope ["_law_top", "_law_bottom", "_law_common"] ["_law_top", "_law_bottom"] (defScope sLowest) := ⟨rfl, rfl, rfl, by decide +kernel, rfl, by decide +kernel, by decide +kernel⟩
theorem k_Lowest (T : Bt K mg) (D : Dfn K mg "_law_lowest" sLowest ["_law_top", "_law_bottom"]) (d__law_gcd : Kn P w K mg base 1 "_law_gcd" ["_law_left", "_law_right"] spGcd) : Kn P w K mg base 2 "_law_lowest" ["_law_top", "_law_bottom"] (spLowest K) := by
  refine Kn.mk' D scLowest (fun vs H Q E h => ?_) (fun f cdv A outer s H vs Q E hr h => ?_)
  · obtain ⟨t, b, rfl, _⟩ := h
    rfl
  obtain ⟨t, b, rfl, hz, q⟩ := h
  refine ⟨_, (pss_cons (ps_if (pt_cmpR op_eq (pv 1) pe_int (nomark _)) (pss_one (ps_ret (pe_tp (pa_cons pe_int (pa_cons pe_int pa_nil))))) pss_nil)
      (pss_cons (ps_if (pt_cmpR op_lt (pv 1) pe_int (nomark _)) (pss_cons (ps_set (i := 0) scLowest.nd rfl (.inl rfl) (pe_un un_neg (pv 0)))
      (pss_one (ps_set (i := 1) scLowest.nd rfl (.inl rfl) (pe_un un_neg (pv 1))))) pss_nil)
      (pss_cons (ps_set (i := 2) scLowest.nd rfl (.inl rfl) (pe_kn d__law_gcd hr (by rfl) (pa_cons (pv 0) (pa_cons (pv 1) pa_nil))))
      (pss_one (ps_ret (pe_tp (pa_cons (pe_op op_fdivW (pv 0) (pv 2)) (pa_cons (pe_op op_fdivW (pv 1) (pv 2)) pa_nil)))))))), ?_⟩
  simp only [cx_K, decide_true, decide_false, reduceCtorEq, gTp, gCons, gNil, ca_0, ca_1, ca_2, ca_3, ca_4, ca_5, ca_6, ca_7, ca_8, ca_9, ca_10, ca_11, ca_12, ca_13, ca_14, ca_15, ca_16, ca_17, ca_18, ca_19, ca_20, ca_21, ca_22, ca_23, ca_24, ca_25, ca_26, ca_27, ca_28, ca_29, ca_30, not_true_eq_false, not_false_eq_true, Int.reduceEq, Nat.reduceEqDiff, Nat.reduceLeDiff, rGcd, V.ty.injEq, eq_self, List.not_mem_nil, beq_self_eq_true, HO.lst.injEq, HO.tup.injEq, tFor_eq, iRng1, iList, iTup, nat10, tSeq, rIxA, rSetA, rIsN, rIsT, tTp, tLs, itsO_tup, itsO_lst, tyO_tup, tyO_lst, tyO_dK, tyN_non, tyN_bl, tyN_int, tyN_str, tyN_ref, tyNs_lt, isB, upd_same, upd_upd, sizeLine_eq, List.mem_cons, String.reduceBEq, String.reduceEq, Bool.or_false, Bool.or_true, Bool.and_false, Bool.false_or, Bool.and_self, Bool.false_and, Bool.not_false, Bool.not_true, List.any_cons, List.any_nil, atI_0, setI_0, atI_1, setI_1, atI_2, setI_2, atI_3, setI_3, atI_4, setI_4, atI_5, setI_5, atI_6, setI_6, tAsg, gName, tOp, tUn, tVar, tC, tCons, L2.tNil, tRet, tIfS, tTest, tCB, tCall, rI, rI0, rU, tNext, tB, tAnd, tOr, tNot, tAndV, tOrV, tNotV, tDrop, tIf, tPar, gSub, rIxL, rIxT, rEq, rNe, rSetL, tBits,
    L2.start, List.map_cons, List.map_nil, List.cons_append, List.nil_append, List.append_nil, List.length_cons, List.length_nil, List.replicate, Nat.reduceAdd, Nat.reduceSub, Nat.zero_add, List.getElem?_cons_zero, List.getElem?_cons_succ, List.set_cons_zero, List.set_cons_succ,
    Option.some.injEq, exists_eq_left', exists_eq_left, V.int.injEq, V.bl.injEq, V.ref.injEq, V.str.injEq, List.cons.injEq, reduceCtorEq, and_true, true_and, false_and, and_false, exists_false, or_false, false_or, or_true, true_or, exists_const, CMul, CDiv, CPow, and_assoc, exists_and_left, exists_and_right, Int.reducePow, Int.reduceNeg, Int.reduceLT, Int.reduceLE, Nat.reducePow, Nat.reduceLT, Int.reduceToNat, gt_iff_lt, ge_iff_le, decide_eq_true_eq, Bool.not_eq_true', decide_eq_false_iff_not, scal, ↓reduceIte, Bool.false_eq_true]
  refine ite2 (fun h => ?_) (fun h => ?_)
  · exact fun p hp kp => (q (0, 1) ⟨fun _ => rfl, fun z => absurd h z⟩).new hp kp
  have key : ∀ t' b' : Int, 0 < b' → b'.natAbs < 2 ^ 8000 → (∀ q, Is q t' b' → Gv K H Q q) → CDivW t' ((Int.gcd t' b' : Nat) : Int) ∧ CDivW b' ((Int.gcd t' b' : Nat) : Int) ∧ ∀ p, H p = none → K.lookup p = none → Q (.ref p) (upd H p (.tup [.int (t' / ((Int.gcd t' b' : Nat) : Int)), .int (b' / ((Int.gcd t' b' : Nat) : Int))])) := fun t' b' h0 hz hq => by
    have g0 := gcd_pos (t := t') (b := b') (by omega)
    have g1 := gcd_le (t := t') (b := b') (by omega)
    have g2 : ((Int.gcd t' b' : Nat) : Int).natAbs < 2 ^ 8000 := by rw [Int.natAbs_natCast]; omega
    exact ⟨wide_div (b := 8000) (by omega) g2 (by omega) (by omega), wide_div (b := 8000) (by omega) g2 (by omega) (by omega), fun p hp kp => (hq _ (is_div h0)).new hp kp⟩
  refine ite2 (fun hb => ?_) (fun hb => ?_)
  · have k := key (-t) (-b) (by omega) (by rw [Int.natAbs_neg]; exact hz) fun z hz => q z ⟨fun e => absurd e h, fun _ => is_neg hz⟩
    refine ⟨_, _, rfl, ?_⟩
    simp only [cx_K, decide_true, decide_false, reduceCtorEq, gTp, gCons, gNil, ca_0, ca_1, ca_2, ca_3, ca_4, ca_5, ca_6, ca_7, ca_8, ca_9, ca_10, ca_11, ca_12, ca_13, ca_14, ca_15, ca_16, ca_17, ca_18, ca_19, ca_20, ca_21, ca_22, ca_23, ca_24, ca_25, ca_26, ca_27, ca_28, ca_29, ca_30, not_true_eq_false, not_false_eq_true, Int.reduceEq, Nat.reduceEqDiff, Nat.reduceLeDiff, rGcd, V.ty.injEq, eq_self, List.not_mem_nil, beq_self_eq_true, HO.lst.injEq, HO.tup.injEq, tFor_eq, iRng1, iList, iTup, nat10, tSeq, rIxA, rSetA, rIsN, rIsT, tTp, tLs, itsO_tup, itsO_lst, tyO_tup, tyO_lst, tyO_dK, tyN_non, tyN_bl, tyN_int, tyN_str, tyN_ref, tyNs_lt, isB, upd_same, upd_upd, sizeLine_eq, List.mem_cons, String.reduceBEq, String.reduceEq, Bool.or_false, Bool.or_true, Bool.and_false, Bool.false_or, Bool.and_self, Bool.false_and, Bool.not_false, Bool.not_true, List.any_cons, List.any_nil, atI_0, setI_0, atI_1, setI_1, atI_2, setI_2, atI_3, setI_3, atI_4, setI_4, atI_5, setI_5, atI_6, setI_6, tAsg, gName, tOp, tUn, tVar, tC, tCons, L2.tNil, tRet, tIfS, tTest, tCB, tCall, rI, rI0, rU, tNext, tB, tAnd, tOr, tNot, tAndV, tOrV, tNotV, tDrop, tIf, tPar, gSub, rIxL, rIxT, rEq, rNe, rSetL, tBits,
    L2.start, List.map_cons, List.map_nil, List.cons_append, List.nil_append, List.append_nil, List.length_cons, List.length_nil, List.replicate, Nat.reduceAdd, Nat.reduceSub, Nat.zero_add, List.getElem?_cons_zero, List.getElem?_cons_succ, List.set_cons_zero, List.set_cons_succ,
    Option.some.injEq, exists_eq_left', exists_eq_left, V.int.injEq, V.bl.injEq, V.ref.injEq, V.str.injEq, List.cons.injEq, reduceCtorEq, and_true, true_and, false_and, and_false, exists_false, or_false, false_or, or_true, true_or, exists_const, CMul, CDiv, CPow, and_assoc, exists_and_left, exists_and_right, Int.reducePow, Int.reduceNeg, Int.reduceLT, Int.reduceLE, Nat.reducePow, Nat.reduceLT, Int.reduceToNat, gt_iff_lt, ge_iff_le, decide_eq_true_eq, Bool.not_eq_true', decide_eq_false_iff_not, scal, ↓reduceIte, Bool.false_eq_true]
    exact k
  · have k := key t b (by omega) hz fun z hz => q z ⟨fun e => absurd e h, fun _ => hz⟩
    refine ⟨_, _, rfl, ?_⟩
    simp only [cx_K, decide_true, decide_false, reduceCtorEq, gTp, gCons, gNil, ca_0, ca_1, ca_2, ca_3, ca_4, ca_5, ca_6, ca_7, ca_8, ca_9, ca_10, ca_11, ca_12, ca_13, ca_14, ca_15, ca_16, ca_17, ca_18, ca_19, ca_20, ca_21, ca_22, ca_23, ca_24, ca_25, ca_26, ca_27, ca_28, ca_29, ca_30, not_true_eq_false, not_false_eq_true, Int.reduceEq, Nat.reduceEqDiff, Nat.reduceLeDiff, rGcd, V.ty.injEq, eq_self, List.not_mem_nil, beq_self_eq_true, HO.lst.injEq, HO.tup.injEq, tFor_eq, iRng1, iList, iTup, nat10, tSeq, rIxA, rSetA, rIsN, rIsT, tTp, tLs, itsO_tup, itsO_lst, tyO_tup, tyO_lst, tyO_dK, tyN_non, tyN_bl, tyN_int, tyN_str, tyN_ref, tyNs_lt, isB, upd_same, upd_upd, sizeLine_eq, List.mem_cons, String.reduceBEq, String.reduceEq, Bool.or_false, Bool.or_true, Bool.and_false, Bool.false_or, Bool.and_self, Bool.false_and, Bool.not_false, Bool.not_true, List.any_cons, List.any_nil, atI_0, setI_0, atI_1, setI_1, atI_2, setI_2, atI_3, setI_3, atI_4, setI_4, atI_5, setI_5, atI_6, setI_6, tAsg, gName, tOp, tUn, tVar, tC, tCons, L2.tNil, tRet, tIfS, tTest, tCB, tCall, rI, rI0, rU, tNext, tB, tAnd, tOr, tNot, tAndV, tOrV, tNotV, tDrop, tIf, tPar, gSub, rIxL, rIxT, rEq, rNe, rSetL, tBits,
    L2.start, List.map_cons, List.map_nil, List.cons_append, List.nil_append, List.append_nil, List.length_cons, List.length_nil, List.replicate, Nat.reduceAdd, Nat.reduceSub, Nat.zero_add, List.getElem?_cons_zero, List.getElem?_cons_succ, List.set_cons_zero, List.set_cons_succ,
    Option.some.injEq, exists_eq_left', exists_eq_left, V.int.injEq, V.bl.injEq, V.ref.injEq, V.str.injEq, List.cons.injEq, reduceCtorEq, and_true, true_and, false_and, and_false, exists_false, or_false, false_or, or_true, true_or, exists_const, CMul, CDiv, CPow, and_assoc, exists_and_left, exists_and_right, Int.reducePow, Int.reduceNeg, Int.reduceLT, Int.reduceLE, Nat.reducePow, Nat.reduceLT, Int.reduceToNat, gt_iff_lt, ge_iff_le, decide_eq_true_eq, Bool.not_eq_true', decide_eq_false_iff_not, scal, ↓reduceIte, Bool.false_eq_true]
    exact k
end
end My

namespace My
open PySem PySem.Spec PyProof.Rows L2
section
variable {P : Program} {w : World} {K : PySem.W.Frag} {mg : Str → Option Value} {base : Heap}
end
structure DfnD (K : PySem.W.Frag) (mg : Str → Option Value) (x : Str) (st : Stmt) (ps : List Str) : Prop where
  ex : ∃ f fd dvs, FunD K x x (defArgs st) (defBody st) (defScope st) dvs [] f fd ∧ mg x = some (.ref f) ∧ Binds K fd ps []
theorem Kn.mkD {P : Program} {w : World} {K : PySem.W.Frag} {mg : Str → Option Value} {base : Heap} {x : Str} {st : Stmt} {N ps : List Str} {k : Nat} {sp : Sp} (D : DfnD K mg x st ps) (S : FnScope N ps (defScope st)) (len : ∀ vs H Q E, sp vs H Q E → vs.length = ps.length)
    (hbody : ∀ (f : Addr) (cdv : Value) (A : Around) (outer : List Env) (s : Shared) (H : Hp) (vs : List V) (Q : VK) (E : XK), Room k (A.deeper (envOfC x (defScope st) s.heap.objs.size f cdv)) → sp vs H Q E →
      ∃ t, PSs (cxOf CX0 P w K mg base N x (defScope st) f cdv A outer s H E).nox (defBody st) t ∧ t { nx := fun _ H' => Q .non H', rt := Q } (start N vs) H) : Kn P w K mg base (k + 1) x ps sp := by
  obtain ⟨f, fd, dvs, F, m, b⟩ := D.ex
  exact ⟨f, fd, m, F.kp, b, F.ok S len fun cdv A outer s H vs Q E hr h => let ⟨t, a, c⟩ := hbody f cdv A outer s H vs Q E hr h; ⟨t, a.nox, c⟩⟩
section
variable {P : Program} {w : World} {K : PySem.W.Frag} {mg : Str → Option Value} {base : Heap}
def spRequire : Sp := fun vs H Q _ => ∃ x : V, vs = [.bl true, x] ∧ Q .non H
abbrev sRequire : Stmt := topS 15
theorem scRequire : FnScope ["well_formed", "what"] ["well_formed", "what"] (defScope sRequire) := ⟨rfl, rfl, rfl, by decide +kernel, rfl, by decide +kernel, by decide +kernel⟩
theorem k_Require (T : Bt K mg) (D : Dfn K mg "require" sRequire ["well_formed", "what"]) : Kn P w K mg base 1 "require" ["well_formed", "what"] spRequire := by
  refine Kn.mk' D scRequire (fun vs H Q E h => ?_) (fun f cdv A outer s H vs Q E hr h => ?_)
  · obtain ⟨x, rfl, _⟩ := h
    rfl
  obtain ⟨x, rfl, q⟩ := h
  refine ⟨_, (pss_one (ps_if (pt_not (pt_val (pv 0))) (pss_one ps_never) pss_nil)), ?_⟩
  simp only [cx_K, decide_true, decide_false, reduceCtorEq, gTp, gCons, gNil, ca_0, ca_1, ca_2, ca_3, ca_4, ca_5, ca_6, ca_7, ca_8, ca_9, ca_10, ca_11, ca_12, ca_13, ca_14, ca_15, ca_16, ca_17, ca_18, ca_19, ca_20, ca_21, ca_22, ca_23, ca_24, ca_25, ca_26, ca_27, ca_28, ca_29, ca_30, not_true_eq_false, not_false_eq_true, Int.reduceEq, Nat.reduceEqDiff, Nat.reduceLeDiff, rGcd, V.ty.injEq, eq_self, List.not_mem_nil, beq_self_eq_true, HO.lst.injEq, HO.tup.injEq, tFor_eq, iRng1, iList, iTup, nat10, tSeq, rIxA, rSetA, rIsN, rIsT, tTp, tLs, itsO_tup, itsO_lst, tyO_tup, tyO_lst, tyO_dK, tyN_non, tyN_bl, tyN_int, tyN_str, tyN_ref, tyNs_lt, isB, upd_same, upd_upd, sizeLine_eq, List.mem_cons, String.reduceBEq, String.reduceEq, Bool.or_false, Bool.or_true, Bool.and_false, Bool.false_or, Bool.and_self, Bool.false_and, Bool.not_false, Bool.not_true, List.any_cons, List.any_nil, atI_0, setI_0, atI_1, setI_1, atI_2, setI_2, atI_3, setI_3, atI_4, setI_4, atI_5, setI_5, atI_6, setI_6, tAsg, gName, tOp, tUn, tVar, tC, tCons, L2.tNil, tRet, tIfS, tTest, tCB, tCall, rI, rI0, rU, tNext, tB, tAnd, tOr, tNot, tAndV, tOrV, tNotV, tDrop, tIf, tPar, gSub, rIxL, rIxT, rEq, rNe, rSetL, tBits,
    L2.start, List.map_cons, List.map_nil, List.cons_append, List.nil_append, List.append_nil, List.length_cons, List.length_nil, List.replicate, Nat.reduceAdd, Nat.reduceSub, Nat.zero_add, List.getElem?_cons_zero, List.getElem?_cons_succ, List.set_cons_zero, List.set_cons_succ,
    Option.some.injEq, exists_eq_left', exists_eq_left, V.int.injEq, V.bl.injEq, V.ref.injEq, V.str.injEq, List.cons.injEq, reduceCtorEq, and_true, true_and, false_and, and_false, exists_false, or_false, false_or, or_true, true_or, exists_const, CMul, CDiv, CPow, and_assoc, exists_and_left, exists_and_right, Int.reducePow, Int.reduceNeg, Int.reduceLT, Int.reduceLE, Nat.reducePow, Nat.reduceLT, Int.reduceToNat, gt_iff_lt, ge_iff_le, decide_eq_true_eq, Bool.not_eq_true', decide_eq_false_iff_not, scal, ↓reduceIte, Bool.false_eq_true]
  exact q
def wholeV : V → Bool
  | .int _ => true
  | _ => false
theorem wholeV_ty {H : Hp} {v : V} {t : String} (h : tyN K H v = some t) : wholeV v = (t == "int") := by
  cases v with
  | ref a =>
    have h1 : tyO (ob K H a) = some t := h
    unfold tyO at h1
    split at h1 <;> first | (cases h1; rfl) | cases h1
  | _ => first | (cases h; rfl) | cases h
def spWhole (K : PySem.W.Frag) : Sp := fun vs H Q _ => ∃ v, vs = [v] ∧ (tyN K H v).isSome ∧ Q (.bl (wholeV v)) H
abbrev sWhole : Stmt := topS 16
theorem scWhole : FnScope ["value"] ["value"] (defScope sWhole) := ⟨rfl, rfl, rfl, by decide +kernel, rfl, by decide +kernel, by decide +kernel⟩
theorem k_Whole (T : Bt K mg) (D : Dfn K mg "is_whole" sWhole ["value"]) : Kn P w K mg base 1 "is_whole" ["value"] (spWhole K) := by
  refine Kn.mk' D scWhole (fun vs H Q E h => ?_) (fun f cdv A outer s H vs Q E hr h => ?_)
  · obtain ⟨v, rfl, _⟩ := h
    rfl
  obtain ⟨v, rfl, hv, q⟩ := h
  refine ⟨_, (pss_one (ps_ret (pe_and (pe_callB call_isN (by rfl) T.b_isinstance (by decide +kernel) (pa_cons (pv 0) (pa_cons (pe_bltn (v := .ty "int") (by rfl) T.b_int (by decide +kernel) rfl) pa_nil))) (pe_one (pe_not (pe_callB call_isN (by rfl) T.b_isinstance (by decide +kernel) (pa_cons (pv 0) (pa_cons (pe_bltn (v := .ty "bool") (by rfl) T.b_bool (by decide +kernel) rfl) pa_nil)))))))), ?_⟩
  obtain ⟨t, ht⟩ := Option.isSome_iff_exists.mp hv
  rw [wholeV_ty ht] at q
  have mt := tyN_mem ht
  simp only [List.mem_cons, List.not_mem_nil, or_false] at mt
  rcases mt with rfl | rfl | rfl | rfl | rfl | rfl | rfl <;> (simp only [ht, cx_K, decide_true, decide_false, reduceCtorEq, gTp, gCons, gNil, ca_0, ca_1, ca_2, ca_3, ca_4, ca_5, ca_6, ca_7, ca_8, ca_9, ca_10, ca_11, ca_12, ca_13, ca_14, ca_15, ca_16, ca_17, ca_18, ca_19, ca_20, ca_21, ca_22, ca_23, ca_24, ca_25, ca_26, ca_27, ca_28, ca_29, ca_30, not_true_eq_false, not_false_eq_true, Int.reduceEq, Nat.reduceEqDiff, Nat.reduceLeDiff, rGcd, V.ty.injEq, eq_self, List.not_mem_nil, beq_self_eq_true, HO.lst.injEq, HO.tup.injEq, tFor_eq, iRng1, iList, iTup, nat10, tSeq, rIxA, rSetA, rIsN, rIsT, tTp, tLs, itsO_tup, itsO_lst, tyO_tup, tyO_lst, tyO_dK, tyN_non, tyN_bl, tyN_int, tyN_str, tyN_ref, tyNs_lt, isB, upd_same, upd_upd, sizeLine_eq, List.mem_cons, String.reduceBEq, String.reduceEq, Bool.or_false, Bool.or_true, Bool.and_false, Bool.false_or, Bool.and_self, Bool.false_and, Bool.not_false, Bool.not_true, List.any_cons, List.any_nil, atI_0, setI_0, atI_1, setI_1, atI_2, setI_2, atI_3, setI_3, atI_4, setI_4, atI_5, setI_5, atI_6, setI_6, tAsg, gName, tOp, tUn, tVar, tC, tCons, L2.tNil, tRet, tIfS, tTest, tCB, tCall, rI, rI0, rU, tNext, tB, tAnd, tOr, tNot, tAndV, tOrV, tNotV, tDrop, tIf, tPar, gSub, rIxL, rIxT, rEq, rNe, rSetL, tBits,
    L2.start, List.map_cons, List.map_nil, List.cons_append, List.nil_append, List.append_nil, List.length_cons, List.length_nil, List.replicate, Nat.reduceAdd, Nat.reduceSub, Nat.zero_add, List.getElem?_cons_zero, List.getElem?_cons_succ, List.set_cons_zero, List.set_cons_succ,
    Option.some.injEq, exists_eq_left', exists_eq_left, V.int.injEq, V.bl.injEq, V.ref.injEq, V.str.injEq, List.cons.injEq, reduceCtorEq, and_true, true_and, false_and, and_false, exists_false, or_false, false_or, or_true, true_or, exists_const, CMul, CDiv, CPow, and_assoc, exists_and_left, exists_and_right, Int.reducePow, Int.reduceNeg, Int.reduceLT, Int.reduceLE, Nat.reducePow, Nat.reduceLT, Int.reduceToNat, gt_iff_lt, ge_iff_le, decide_eq_true_eq, Bool.not_eq_true', decide_eq_false_iff_not, scal, ↓reduceIte, Bool.false_eq_true]; simpa using q)
abbrev sLWhole : Stmt := topS 41
theorem scLWhole : FnScope ["_law_told"] ["_law_told"] (defScope sLWhole) := ⟨rfl, rfl, rfl, by decide +kernel, rfl, by decide +kernel, by decide +kernel⟩
theorem k_LWhole (T : Bt K mg) (D : Dfn K mg "_law_is_whole" sLWhole ["_law_told"]) : Kn P w K mg base 1 "_law_is_whole" ["_law_told"] (spWhole K) := by
  refine Kn.mk' D scLWhole (fun vs H Q E h => ?_) (fun f cdv A outer s H vs Q E hr h => ?_)
  · obtain ⟨v, rfl, _⟩ := h
    rfl
  obtain ⟨v, rfl, hv, q⟩ := h
  refine ⟨_, (pss_one (ps_ret (pe_and (pe_callB call_isN (by rfl) T.b_isinstance (by decide +kernel) (pa_cons (pv 0) (pa_cons (pe_bltn (v := .ty "int") (by rfl) T.b_int (by decide +kernel) rfl) pa_nil))) (pe_one (pe_not (pe_callB call_isN (by rfl) T.b_isinstance (by decide +kernel) (pa_cons (pv 0) (pa_cons (pe_bltn (v := .ty "bool") (by rfl) T.b_bool (by decide +kernel) rfl) pa_nil)))))))), ?_⟩
  obtain ⟨t, ht⟩ := Option.isSome_iff_exists.mp hv
  rw [wholeV_ty ht] at q
  have mt := tyN_mem ht
  simp only [List.mem_cons, List.not_mem_nil, or_false] at mt
  rcases mt with rfl | rfl | rfl | rfl | rfl | rfl | rfl <;> (simp only [ht, cx_K, decide_true, decide_false, reduceCtorEq, gTp, gCons, gNil, ca_0, ca_1, ca_2, ca_3, ca_4, ca_5, ca_6, ca_7, ca_8, ca_9, ca_10, ca_11, ca_12, ca_13, ca_14, ca_15, ca_16, ca_17, ca_18, ca_19, ca_20, ca_21, ca_22, ca_23, ca_24, ca_25, ca_26, ca_27, ca_28, ca_29, ca_30, not_true_eq_false, not_false_eq_true, Int.reduceEq, Nat.reduceEqDiff, Nat.reduceLeDiff, rGcd, V.ty.injEq, eq_self, List.not_mem_nil, beq_self_eq_true, HO.lst.injEq, HO.tup.injEq, tFor_eq, iRng1, iList, iTup, nat10, tSeq, rIxA, rSetA, rIsN, rIsT, tTp, tLs, itsO_tup, itsO_lst, tyO_tup, tyO_lst, tyO_dK, tyN_non, tyN_bl, tyN_int, tyN_str, tyN_ref, tyNs_lt, isB, upd_same, upd_upd, sizeLine_eq, List.mem_cons, String.reduceBEq, String.reduceEq, Bool.or_false, Bool.or_true, Bool.and_false, Bool.false_or, Bool.and_self, Bool.false_and, Bool.not_false, Bool.not_true, List.any_cons, List.any_nil, atI_0, setI_0, atI_1, setI_1, atI_2, setI_2, atI_3, setI_3, atI_4, setI_4, atI_5, setI_5, atI_6, setI_6, tAsg, gName, tOp, tUn, tVar, tC, tCons, L2.tNil, tRet, tIfS, tTest, tCB, tCall, rI, rI0, rU, tNext, tB, tAnd, tOr, tNot, tAndV, tOrV, tNotV, tDrop, tIf, tPar, gSub, rIxL, rIxT, rEq, rNe, rSetL, tBits,
    L2.start, List.map_cons, List.map_nil, List.cons_append, List.nil_append, List.append_nil, List.length_cons, List.length_nil, List.replicate, Nat.reduceAdd, Nat.reduceSub, Nat.zero_add, List.getElem?_cons_zero, List.getElem?_cons_succ, List.set_cons_zero, List.set_cons_succ,
    Option.some.injEq, exists_eq_left', exists_eq_left, V.int.injEq, V.bl.injEq, V.ref.injEq, V.str.injEq, List.cons.injEq, reduceCtorEq, and_true, true_and, false_and, and_false, exists_false, or_false, false_or, or_true, true_or, exists_const, CMul, CDiv, CPow, and_assoc, exists_and_left, exists_and_right, Int.reducePow, Int.reduceNeg, Int.reduceLT, Int.reduceLE, Nat.reducePow, Nat.reduceLT, Int.reduceToNat, gt_iff_lt, ge_iff_le, decide_eq_true_eq, Bool.not_eq_true', decide_eq_false_iff_not, scal, ↓reduceIte, Bool.false_eq_true]; simpa using q)
def spFraction (K : PySem.W.Frag) : Sp := fun vs H Q _ => ∃ n d : Int, vs = [.int n, .int d] ∧ d ≠ 0 ∧ d.natAbs < 2 ^ 8000 ∧ ∀ q, Is q n d → Gv K H Q q
theorem gcdX {n d : Int} (h0 : d ≠ 0) (hz : d.natAbs < 2 ^ 8000) (x : Int) : CDivX x (if d < 0 then -((Int.gcd n d : Nat) : Int) else (Int.gcd n d : Nat)) := by
  have g0 := gcd_pos (t := n) (b := d) h0
  have g1 := gcd_le (t := n) (b := d) h0
  have e : 2 ^ 8000 ≤ 2 ^ 8999 := Nat.pow_le_pow_right (by omega) (by omega)
  unfold CDivX
  split <;> refine ⟨by omega, by omega⟩
abbrev sFraction : Stmt := topS 20
theorem scFraction : FnScope ["numerator", "denominator", "divisor"] ["numerator", "denominator"] (defScope sFraction) := ⟨rfl, rfl, rfl, by decide +kernel, rfl, by decide +kernel, by decide +kernel⟩
theorem k_Fraction (T : Bt K mg) (D : DfnD K mg "fraction" sFraction ["numerator", "denominator"]) (d_require : Kn P w K mg base 1 "require" ["well_formed", "what"] spRequire) (d_is_whole : Kn P w K mg base 1 "is_whole" ["value"] (spWhole K)) : Kn P w K mg base 2 "fraction" ["numerator", "denominator"] (spFraction K) := by
  refine Kn.mkD D scFraction (fun vs H Q E h => ?_) (fun f cdv A outer s H vs Q E hr h => ?_)
  · obtain ⟨n, d, rfl, _⟩ := h
    rfl
  obtain ⟨n, d, rfl, h0, hz, q⟩ := h
  refine ⟨_, (pss_cons (ps_expr (pe_kn d_require hr (by rfl) (pa_cons (pe_kn d_is_whole hr (by rfl) (pa_cons (pv 0) pa_nil)) (pa_cons pe_str pa_nil))))
      (pss_cons (ps_expr (pe_kn d_require hr (by rfl) (pa_cons (pe_and (pe_kn d_is_whole hr (by rfl) (pa_cons (pv 1) pa_nil)) (pe_one (pe_cmpR op_ne (pv 1) pe_int (nomark _)))) (pa_cons pe_str pa_nil))))
      (pss_cons (ps_set (i := 2) scFraction.nd rfl (.inl rfl) (pe_callBfun cr_gcd (by rfl) T.g_gcd (pa_cons (pv 0) (pa_cons (pv 1) pa_nil))))
      (pss_cons (ps_if (pt_cmpR op_lt (pv 1) pe_int (nomark _)) (pss_one (ps_set (i := 2) scFraction.nd rfl (.inl rfl) (pe_un un_neg (pv 2)))) pss_nil)
      (pss_one (ps_ret (pe_tp (pa_cons (pe_op op_fdivX (pv 0) (pv 2)) (pa_cons (pe_op op_fdivX (pv 1) (pv 2)) pa_nil))))))))), ?_⟩
  simp only [cx_K, decide_true, decide_false, reduceCtorEq, gTp, gCons, gNil, ca_0, ca_1, ca_2, ca_3, ca_4, ca_5, ca_6, ca_7, ca_8, ca_9, ca_10, ca_11, ca_12, ca_13, ca_14, ca_15, ca_16, ca_17, ca_18, ca_19, ca_20, ca_21, ca_22, ca_23, ca_24, ca_25, ca_26, ca_27, ca_28, ca_29, ca_30, not_true_eq_false, not_false_eq_true, Int.reduceEq, Nat.reduceEqDiff, Nat.reduceLeDiff, rGcd, V.ty.injEq, eq_self, List.not_mem_nil, beq_self_eq_true, HO.lst.injEq, HO.tup.injEq, tFor_eq, iRng1, iList, iTup, nat10, tSeq, rIxA, rSetA, rIsN, rIsT, tTp, tLs, itsO_tup, itsO_lst, tyO_tup, tyO_lst, tyO_dK, tyN_non, tyN_bl, tyN_int, tyN_str, tyN_ref, tyNs_lt, isB, upd_same, upd_upd, sizeLine_eq, List.mem_cons, String.reduceBEq, String.reduceEq, Bool.or_false, Bool.or_true, Bool.and_false, Bool.false_or, Bool.and_self, Bool.false_and, Bool.not_false, Bool.not_true, List.any_cons, List.any_nil, atI_0, setI_0, atI_1, setI_1, atI_2, setI_2, atI_3, setI_3, atI_4, setI_4, atI_5, setI_5, atI_6, setI_6, tAsg, gName, tOp, tUn, tVar, tC, tCons, L2.tNil, tRet, tIfS, tTest, tCB, tCall, rI, rI0, rU, tNext, tB, tAnd, tOr, tNot, tAndV, tOrV, tNotV, tDrop, tIf, tPar, gSub, rIxL, rIxT, rEq, rNe, rSetL, tBits,
    L2.start, List.map_cons, List.map_nil, List.cons_append, List.nil_append, List.append_nil, List.length_cons, List.length_nil, List.replicate, Nat.reduceAdd, Nat.reduceSub, Nat.zero_add, List.getElem?_cons_zero, List.getElem?_cons_succ, List.set_cons_zero, List.set_cons_succ,
    Option.some.injEq, exists_eq_left', exists_eq_left, V.int.injEq, V.bl.injEq, V.ref.injEq, V.str.injEq, List.cons.injEq, reduceCtorEq, and_true, true_and, false_and, and_false, exists_false, or_false, false_or, or_true, true_or, exists_const, CMul, CDiv, CPow, and_assoc, exists_and_left, exists_and_right, Int.reducePow, Int.reduceNeg, Int.reduceLT, Int.reduceLE, Nat.reducePow, Nat.reduceLT, Int.reduceToNat, gt_iff_lt, ge_iff_le, decide_eq_true_eq, Bool.not_eq_true', decide_eq_false_iff_not, scal, ↓reduceIte, Bool.false_eq_true]
  refine ⟨_, rfl, rfl, ⟨_, rfl, ⟨_, rfl, rfl, ⟨true, rfl, ?_⟩⟩⟩⟩
  rw [if_pos rfl]
  refine ⟨_, by rw [decide_eq_false h0]; rfl, ?_⟩
  simp only [cx_K, decide_true, decide_false, reduceCtorEq, gTp, gCons, gNil, ca_0, ca_1, ca_2, ca_3, ca_4, ca_5, ca_6, ca_7, ca_8, ca_9, ca_10, ca_11, ca_12, ca_13, ca_14, ca_15, ca_16, ca_17, ca_18, ca_19, ca_20, ca_21, ca_22, ca_23, ca_24, ca_25, ca_26, ca_27, ca_28, ca_29, ca_30, not_true_eq_false, not_false_eq_true, Int.reduceEq, Nat.reduceEqDiff, Nat.reduceLeDiff, rGcd, V.ty.injEq, eq_self, List.not_mem_nil, beq_self_eq_true, HO.lst.injEq, HO.tup.injEq, tFor_eq, iRng1, iList, iTup, nat10, tSeq, rIxA, rSetA, rIsN, rIsT, tTp, tLs, itsO_tup, itsO_lst, tyO_tup, tyO_lst, tyO_dK, tyN_non, tyN_bl, tyN_int, tyN_str, tyN_ref, tyNs_lt, isB, upd_same, upd_upd, sizeLine_eq, List.mem_cons, String.reduceBEq, String.reduceEq, Bool.or_false, Bool.or_true, Bool.and_false, Bool.false_or, Bool.and_self, Bool.false_and, Bool.not_false, Bool.not_true, List.any_cons, List.any_nil, atI_0, setI_0, atI_1, setI_1, atI_2, setI_2, atI_3, setI_3, atI_4, setI_4, atI_5, setI_5, atI_6, setI_6, tAsg, gName, tOp, tUn, tVar, tC, tCons, L2.tNil, tRet, tIfS, tTest, tCB, tCall, rI, rI0, rU, tNext, tB, tAnd, tOr, tNot, tAndV, tOrV, tNotV, tDrop, tIf, tPar, gSub, rIxL, rIxT, rEq, rNe, rSetL, tBits,
    L2.start, List.map_cons, List.map_nil, List.cons_append, List.nil_append, List.append_nil, List.length_cons, List.length_nil, List.replicate, Nat.reduceAdd, Nat.reduceSub, Nat.zero_add, List.getElem?_cons_zero, List.getElem?_cons_succ, List.set_cons_zero, List.set_cons_succ,
    Option.some.injEq, exists_eq_left', exists_eq_left, V.int.injEq, V.bl.injEq, V.ref.injEq, V.str.injEq, List.cons.injEq, reduceCtorEq, and_true, true_and, false_and, and_false, exists_false, or_false, false_or, or_true, true_or, exists_const, CMul, CDiv, CPow, and_assoc, exists_and_left, exists_and_right, Int.reducePow, Int.reduceNeg, Int.reduceLT, Int.reduceLE, Nat.reducePow, Nat.reduceLT, Int.reduceToNat, gt_iff_lt, ge_iff_le, decide_eq_true_eq, Bool.not_eq_true', decide_eq_false_iff_not, scal, ↓reduceIte, Bool.false_eq_true]
  have k := gcdX (n := n) h0 hz
  have v := is_fdiv (t := n) h0
  refine ite2 (fun h => ?_) (fun h => ?_)
  · rw [if_pos h] at v
    simp only [if_pos h] at k
    exact ⟨k _, k _, fun p hp kp => (q _ v).new hp kp⟩
  · rw [if_neg h] at v
    simp only [if_neg h] at k
    exact ⟨k _, k _, fun p hp kp => (q _ v).new hp kp⟩
def frOk (K : PySem.W.Frag) (H : Hp) : V → Bool
  | .ref a => match ob K H a with
    | some (.tup [.int n, .int d]) => decide (1 ≤ d) && decide (Int.gcd n d = 1)
    | _ => false
  | _ => false
theorem frOk_fr {H : Hp} {a : Addr} {q : Qt} (h : ob K H a = some (frt q)) (hn : Nf q) : frOk K H (.ref a) = true := by
  simp only [frOk, h, frt]
  show (decide (1 ≤ q.2) && decide (Int.gcd q.1 q.2 = 1)) = true
  rw [decide_eq_true hn.1, decide_eq_true hn.2]
  rfl
/-- v and, if it is a tuple, its items are of known kinds -/
def Tyd (K : PySem.W.Frag) (H : Hp) (v : V) : Prop := (tyN K H v).isSome ∧ ∀ a xs, v = .ref a → ob K H a = some (.tup xs) → ∀ x ∈ xs, (tyN K H x).isSome
theorem Tyd.fr {H : Hp} {a : Addr} {q : Qt} (h : ob K H a = some (frt q)) : Tyd K H (.ref a) := by
  refine ⟨by rw [tyN_ref, h]; rfl, fun b xs e hx x hm => ?_⟩
  cases e
  rw [h] at hx
  cases hx
  simp only [List.mem_cons, List.not_mem_nil, or_false] at hm
  rcases hm with rfl | rfl <;> rfl
theorem tyN_tuple {H : Hp} {v : V} (h : tyN K H v = some "tuple") : ∃ a xs, v = .ref a ∧ ob K H a = some (.tup xs) := by
  cases v with
  | ref a =>
    have h1 : tyO (ob K H a) = some "tuple" := h
    unfold tyO at h1
    split at h1 <;> first | exact ⟨a, _, rfl, by assumption⟩ | (exfalso; revert h1; decide)
  | _ => exfalso; revert h; simp only [tyN]; decide
def spIsFraction (K : PySem.W.Frag) : Sp := fun vs H Q _ => ∃ v, vs = [v] ∧ Tyd K H v ∧ Q (.bl (frOk K H v)) H
abbrev sIsFraction : Stmt := topS 21
theorem scIsFraction : FnScope ["value", "numerator", "denominator"] ["value"] (defScope sIsFraction) := ⟨rfl, rfl, rfl, by decide +kernel, rfl, by decide +kernel, by decide +kernel⟩
theorem k_IsFraction (T : Bt K mg) (D : Dfn K mg "is_fraction" sIsFraction ["value"]) (d_is_whole : Kn P w K mg base 1 "is_whole" ["value"] (spWhole K)) : Kn P w K mg base 2 "is_fraction" ["value"] (spIsFraction K) := by
  refine Kn.mk' D scIsFraction (fun vs H Q E h => ?_) (fun f cdv A outer s H vs Q E hr h => ?_)
  · obtain ⟨v, rfl, _⟩ := h
    rfl
  obtain ⟨v, rfl, hv, q⟩ := h
  refine ⟨_, (pss_cons (ps_if (PW.pt (pw_or (pt_not (pt_val (pe_callB call_isN (by rfl) T.b_isinstance (by decide +kernel) (pa_cons (pv 0) (pa_cons (pe_bltn (v := .ty "tuple") (by rfl) T.b_tuple (by decide +kernel) rfl) pa_nil))))) (pw_or1 (pt_cmpR op_ne (pe_callB call_lenA (by rfl) T.b_len PySem.boot_len (pa_cons (pv 0) pa_nil)) pe_int (nomark _))))) (pss_one (ps_ret pe_bl)) pss_nil)
      (pss_cons (ps_asg (pv 0) (pg_tp 2 (by rfl) (pgs_cons (pg_name (i := 1) scIsFraction.nd rfl (.inl rfl)) (pgs_cons (pg_name (i := 2) scIsFraction.nd rfl (.inl rfl)) pgs_nil))))
      (pss_cons (ps_if (PW.pt (pw_or (pt_not (pt_val (pe_kn d_is_whole hr (by rfl) (pa_cons (pv 1) pa_nil)))) (pw_or1 (pt_not (pt_val (pe_kn d_is_whole hr (by rfl) (pa_cons (pv 2) pa_nil))))))) (pss_one (ps_ret pe_bl)) pss_nil)
      (pss_one (ps_ret (pe_and (pe_cmpR op_ge (pv 2) pe_int (nomark _)) (pe_one (pe_cmpR op_eq (pe_callBfun cr_gcd (by rfl) T.g_gcd (pa_cons (pv 1) (pa_cons (pv 2) pa_nil))) pe_int (nomark _))))))))), ?_⟩
  obtain ⟨t, ht⟩ := Option.isSome_iff_exists.mp hv.1
  by_cases e : t = "tuple"
  · subst e
    obtain ⟨a, xs, rfl, ha⟩ := tyN_tuple ht
    have hx := hv.2 a xs rfl ha
    match xs, ha, hx with
    | [], ha, hx =>
      have e : frOk K H (.ref a) = false := by simp only [frOk, ha]
      rw [e] at q
      simp only [ha, cx_K, decide_true, decide_false, reduceCtorEq, gTp, gCons, gNil, ca_0, ca_1, ca_2, ca_3, ca_4, ca_5, ca_6, ca_7, ca_8, ca_9, ca_10, ca_11, ca_12, ca_13, ca_14, ca_15, ca_16, ca_17, ca_18, ca_19, ca_20, ca_21, ca_22, ca_23, ca_24, ca_25, ca_26, ca_27, ca_28, ca_29, ca_30, not_true_eq_false, not_false_eq_true, Int.reduceEq, Nat.reduceEqDiff, Nat.reduceLeDiff, rGcd, V.ty.injEq, eq_self, List.not_mem_nil, beq_self_eq_true, HO.lst.injEq, HO.tup.injEq, tFor_eq, iRng1, iList, iTup, nat10, tSeq, rIxA, rSetA, rIsN, rIsT, tTp, tLs, itsO_tup, itsO_lst, tyO_tup, tyO_lst, tyO_dK, tyN_non, tyN_bl, tyN_int, tyN_str, tyN_ref, tyNs_lt, isB, upd_same, upd_upd, sizeLine_eq, List.mem_cons, String.reduceBEq, String.reduceEq, Bool.or_false, Bool.or_true, Bool.and_false, Bool.false_or, Bool.and_self, Bool.false_and, Bool.not_false, Bool.not_true, List.any_cons, List.any_nil, atI_0, setI_0, atI_1, setI_1, atI_2, setI_2, atI_3, setI_3, atI_4, setI_4, atI_5, setI_5, atI_6, setI_6, tAsg, gName, tOp, tUn, tVar, tC, tCons, L2.tNil, tRet, tIfS, tTest, tCB, tCall, rI, rI0, rU, tNext, tB, tAnd, tOr, tNot, tAndV, tOrV, tNotV, tDrop, tIf, tPar, gSub, rIxL, rIxT, rEq, rNe, rSetL, tBits,
    L2.start, List.map_cons, List.map_nil, List.cons_append, List.nil_append, List.append_nil, List.length_cons, List.length_nil, List.replicate, Nat.reduceAdd, Nat.reduceSub, Nat.zero_add, List.getElem?_cons_zero, List.getElem?_cons_succ, List.set_cons_zero, List.set_cons_succ,
    Option.some.injEq, exists_eq_left', exists_eq_left, V.int.injEq, V.bl.injEq, V.ref.injEq, V.str.injEq, List.cons.injEq, reduceCtorEq, and_true, true_and, false_and, and_false, exists_false, or_false, false_or, or_true, true_or, exists_const, CMul, CDiv, CPow, and_assoc, exists_and_left, exists_and_right, Int.reducePow, Int.reduceNeg, Int.reduceLT, Int.reduceLE, Nat.reducePow, Nat.reduceLT, Int.reduceToNat, gt_iff_lt, ge_iff_le, decide_eq_true_eq, Bool.not_eq_true', decide_eq_false_iff_not, scal, ↓reduceIte, Bool.false_eq_true]
      exact q
    | [x], ha, hx =>
      have e : frOk K H (.ref a) = false := by simp only [frOk, ha]
      rw [e] at q
      simp only [ha, cx_K, decide_true, decide_false, reduceCtorEq, gTp, gCons, gNil, ca_0, ca_1, ca_2, ca_3, ca_4, ca_5, ca_6, ca_7, ca_8, ca_9, ca_10, ca_11, ca_12, ca_13, ca_14, ca_15, ca_16, ca_17, ca_18, ca_19, ca_20, ca_21, ca_22, ca_23, ca_24, ca_25, ca_26, ca_27, ca_28, ca_29, ca_30, not_true_eq_false, not_false_eq_true, Int.reduceEq, Nat.reduceEqDiff, Nat.reduceLeDiff, rGcd, V.ty.injEq, eq_self, List.not_mem_nil, beq_self_eq_true, HO.lst.injEq, HO.tup.injEq, tFor_eq, iRng1, iList, iTup, nat10, tSeq, rIxA, rSetA, rIsN, rIsT, tTp, tLs, itsO_tup, itsO_lst, tyO_tup, tyO_lst, tyO_dK, tyN_non, tyN_bl, tyN_int, tyN_str, tyN_ref, tyNs_lt, isB, upd_same, upd_upd, sizeLine_eq, List.mem_cons, String.reduceBEq, String.reduceEq, Bool.or_false, Bool.or_true, Bool.and_false, Bool.false_or, Bool.and_self, Bool.false_and, Bool.not_false, Bool.not_true, List.any_cons, List.any_nil, atI_0, setI_0, atI_1, setI_1, atI_2, setI_2, atI_3, setI_3, atI_4, setI_4, atI_5, setI_5, atI_6, setI_6, tAsg, gName, tOp, tUn, tVar, tC, tCons, L2.tNil, tRet, tIfS, tTest, tCB, tCall, rI, rI0, rU, tNext, tB, tAnd, tOr, tNot, tAndV, tOrV, tNotV, tDrop, tIf, tPar, gSub, rIxL, rIxT, rEq, rNe, rSetL, tBits,
    L2.start, List.map_cons, List.map_nil, List.cons_append, List.nil_append, List.append_nil, List.length_cons, List.length_nil, List.replicate, Nat.reduceAdd, Nat.reduceSub, Nat.zero_add, List.getElem?_cons_zero, List.getElem?_cons_succ, List.set_cons_zero, List.set_cons_succ,
    Option.some.injEq, exists_eq_left', exists_eq_left, V.int.injEq, V.bl.injEq, V.ref.injEq, V.str.injEq, List.cons.injEq, reduceCtorEq, and_true, true_and, false_and, and_false, exists_false, or_false, false_or, or_true, true_or, exists_const, CMul, CDiv, CPow, and_assoc, exists_and_left, exists_and_right, Int.reducePow, Int.reduceNeg, Int.reduceLT, Int.reduceLE, Nat.reducePow, Nat.reduceLT, Int.reduceToNat, gt_iff_lt, ge_iff_le, decide_eq_true_eq, Bool.not_eq_true', decide_eq_false_iff_not, scal, ↓reduceIte, Bool.false_eq_true]
      exact q
    | [x, y], ha, hx =>
      have hx1 := hx x (by simp)
      have hx2 := hx y (by simp)
      simp only [ha, cx_K, decide_true, decide_false, reduceCtorEq, gTp, gCons, gNil, ca_0, ca_1, ca_2, ca_3, ca_4, ca_5, ca_6, ca_7, ca_8, ca_9, ca_10, ca_11, ca_12, ca_13, ca_14, ca_15, ca_16, ca_17, ca_18, ca_19, ca_20, ca_21, ca_22, ca_23, ca_24, ca_25, ca_26, ca_27, ca_28, ca_29, ca_30, not_true_eq_false, not_false_eq_true, Int.reduceEq, Nat.reduceEqDiff, Nat.reduceLeDiff, rGcd, V.ty.injEq, eq_self, List.not_mem_nil, beq_self_eq_true, HO.lst.injEq, HO.tup.injEq, tFor_eq, iRng1, iList, iTup, nat10, tSeq, rIxA, rSetA, rIsN, rIsT, tTp, tLs, itsO_tup, itsO_lst, tyO_tup, tyO_lst, tyO_dK, tyN_non, tyN_bl, tyN_int, tyN_str, tyN_ref, tyNs_lt, isB, upd_same, upd_upd, sizeLine_eq, List.mem_cons, String.reduceBEq, String.reduceEq, Bool.or_false, Bool.or_true, Bool.and_false, Bool.false_or, Bool.and_self, Bool.false_and, Bool.not_false, Bool.not_true, List.any_cons, List.any_nil, atI_0, setI_0, atI_1, setI_1, atI_2, setI_2, atI_3, setI_3, atI_4, setI_4, atI_5, setI_5, atI_6, setI_6, tAsg, gName, tOp, tUn, tVar, tC, tCons, L2.tNil, tRet, tIfS, tTest, tCB, tCall, rI, rI0, rU, tNext, tB, tAnd, tOr, tNot, tAndV, tOrV, tNotV, tDrop, tIf, tPar, gSub, rIxL, rIxT, rEq, rNe, rSetL, tBits,
    L2.start, List.map_cons, List.map_nil, List.cons_append, List.nil_append, List.append_nil, List.length_cons, List.length_nil, List.replicate, Nat.reduceAdd, Nat.reduceSub, Nat.zero_add, List.getElem?_cons_zero, List.getElem?_cons_succ, List.set_cons_zero, List.set_cons_succ,
    Option.some.injEq, exists_eq_left', exists_eq_left, V.int.injEq, V.bl.injEq, V.ref.injEq, V.str.injEq, List.cons.injEq, reduceCtorEq, and_true, true_and, false_and, and_false, exists_false, or_false, false_or, or_true, true_or, exists_const, CMul, CDiv, CPow, and_assoc, exists_and_left, exists_and_right, Int.reducePow, Int.reduceNeg, Int.reduceLT, Int.reduceLE, Nat.reducePow, Nat.reduceLT, Int.reduceToNat, gt_iff_lt, ge_iff_le, decide_eq_true_eq, Bool.not_eq_true', decide_eq_false_iff_not, scal, ↓reduceIte, Bool.false_eq_true]
      refine ⟨_, rfl, hx1, ?_⟩
      cases x with
      | int n =>
        refine ⟨true, rfl, ?_⟩
        rw [if_neg Bool.noConfusion]
        refine ⟨_, rfl, hx2, ?_⟩
        cases y with
        | int d =>
          refine ⟨true, rfl, ?_⟩
          rw [if_neg Bool.noConfusion]
          simp only [ha, cx_K, decide_true, decide_false, reduceCtorEq, gTp, gCons, gNil, ca_0, ca_1, ca_2, ca_3, ca_4, ca_5, ca_6, ca_7, ca_8, ca_9, ca_10, ca_11, ca_12, ca_13, ca_14, ca_15, ca_16, ca_17, ca_18, ca_19, ca_20, ca_21, ca_22, ca_23, ca_24, ca_25, ca_26, ca_27, ca_28, ca_29, ca_30, not_true_eq_false, not_false_eq_true, Int.reduceEq, Nat.reduceEqDiff, Nat.reduceLeDiff, rGcd, V.ty.injEq, eq_self, List.not_mem_nil, beq_self_eq_true, HO.lst.injEq, HO.tup.injEq, tFor_eq, iRng1, iList, iTup, nat10, tSeq, rIxA, rSetA, rIsN, rIsT, tTp, tLs, itsO_tup, itsO_lst, tyO_tup, tyO_lst, tyO_dK, tyN_non, tyN_bl, tyN_int, tyN_str, tyN_ref, tyNs_lt, isB, upd_same, upd_upd, sizeLine_eq, List.mem_cons, String.reduceBEq, String.reduceEq, Bool.or_false, Bool.or_true, Bool.and_false, Bool.false_or, Bool.and_self, Bool.false_and, Bool.not_false, Bool.not_true, List.any_cons, List.any_nil, atI_0, setI_0, atI_1, setI_1, atI_2, setI_2, atI_3, setI_3, atI_4, setI_4, atI_5, setI_5, atI_6, setI_6, tAsg, gName, tOp, tUn, tVar, tC, tCons, L2.tNil, tRet, tIfS, tTest, tCB, tCall, rI, rI0, rU, tNext, tB, tAnd, tOr, tNot, tAndV, tOrV, tNotV, tDrop, tIf, tPar, gSub, rIxL, rIxT, rEq, rNe, rSetL, tBits,
    L2.start, List.map_cons, List.map_nil, List.cons_append, List.nil_append, List.append_nil, List.length_cons, List.length_nil, List.replicate, Nat.reduceAdd, Nat.reduceSub, Nat.zero_add, List.getElem?_cons_zero, List.getElem?_cons_succ, List.set_cons_zero, List.set_cons_succ,
    Option.some.injEq, exists_eq_left', exists_eq_left, V.int.injEq, V.bl.injEq, V.ref.injEq, V.str.injEq, List.cons.injEq, reduceCtorEq, and_true, true_and, false_and, and_false, exists_false, or_false, false_or, or_true, true_or, exists_const, CMul, CDiv, CPow, and_assoc, exists_and_left, exists_and_right, Int.reducePow, Int.reduceNeg, Int.reduceLT, Int.reduceLE, Nat.reducePow, Nat.reduceLT, Int.reduceToNat, gt_iff_lt, ge_iff_le, decide_eq_true_eq, Bool.not_eq_true', decide_eq_false_iff_not, scal, ↓reduceIte, Bool.false_eq_true]
          refine ite2 (fun h => ?_) (fun h => ?_)
          · have e : frOk K H (.ref a) = decide (((n.natAbs.gcd d.natAbs : Nat) : Int) = 1) := by
              simp only [frOk, ha]
              rw [decide_eq_true h, Bool.true_and]
              show decide (Nat.gcd n.natAbs d.natAbs = 1) = _
              exact decide_eq_decide.mpr (by omega)
            rw [e] at q
            exact q
          · have e : frOk K H (.ref a) = false := by
              simp only [frOk, ha]
              rw [decide_eq_false h, Bool.false_and]
            rw [e] at q
            exact q
        | _ =>
          refine ⟨false, rfl, ?_⟩
          rw [if_pos rfl]
          have e : frOk K H (.ref a) = false := by simp only [frOk, ha]
          rw [e] at q
          exact q
      | _ =>
        refine ⟨false, rfl, ?_⟩
        rw [if_pos rfl]
        have e : frOk K H (.ref a) = false := by simp only [frOk, ha]
        rw [e] at q
        exact q
    | x :: y :: z :: r, ha, hx =>
      have e : frOk K H (.ref a) = false := by simp only [frOk, ha]
      rw [e] at q
      simp only [ha, cx_K, decide_true, decide_false, reduceCtorEq, gTp, gCons, gNil, ca_0, ca_1, ca_2, ca_3, ca_4, ca_5, ca_6, ca_7, ca_8, ca_9, ca_10, ca_11, ca_12, ca_13, ca_14, ca_15, ca_16, ca_17, ca_18, ca_19, ca_20, ca_21, ca_22, ca_23, ca_24, ca_25, ca_26, ca_27, ca_28, ca_29, ca_30, not_true_eq_false, not_false_eq_true, Int.reduceEq, Nat.reduceEqDiff, Nat.reduceLeDiff, rGcd, V.ty.injEq, eq_self, List.not_mem_nil, beq_self_eq_true, HO.lst.injEq, HO.tup.injEq, tFor_eq, iRng1, iList, iTup, nat10, tSeq, rIxA, rSetA, rIsN, rIsT, tTp, tLs, itsO_tup, itsO_lst, tyO_tup, tyO_lst, tyO_dK, tyN_non, tyN_bl, tyN_int, tyN_str, tyN_ref, tyNs_lt, isB, upd_same, upd_upd, sizeLine_eq, List.mem_cons, String.reduceBEq, String.reduceEq, Bool.or_false, Bool.or_true, Bool.and_false, Bool.false_or, Bool.and_self, Bool.false_and, Bool.not_false, Bool.not_true, List.any_cons, List.any_nil, atI_0, setI_0, atI_1, setI_1, atI_2, setI_2, atI_3, setI_3, atI_4, setI_4, atI_5, setI_5, atI_6, setI_6, tAsg, gName, tOp, tUn, tVar, tC, tCons, L2.tNil, tRet, tIfS, tTest, tCB, tCall, rI, rI0, rU, tNext, tB, tAnd, tOr, tNot, tAndV, tOrV, tNotV, tDrop, tIf, tPar, gSub, rIxL, rIxT, rEq, rNe, rSetL, tBits,
    L2.start, List.map_cons, List.map_nil, List.cons_append, List.nil_append, List.append_nil, List.length_cons, List.length_nil, List.replicate, Nat.reduceAdd, Nat.reduceSub, Nat.zero_add, List.getElem?_cons_zero, List.getElem?_cons_succ, List.set_cons_zero, List.set_cons_succ,
    Option.some.injEq, exists_eq_left', exists_eq_left, V.int.injEq, V.bl.injEq, V.ref.injEq, V.str.injEq, List.cons.injEq, reduceCtorEq, and_true, true_and, false_and, and_false, exists_false, or_false, false_or, or_true, true_or, exists_const, CMul, CDiv, CPow, and_assoc, exists_and_left, exists_and_right, Int.reducePow, Int.reduceNeg, Int.reduceLT, Int.reduceLE, Nat.reducePow, Nat.reduceLT, Int.reduceToNat, gt_iff_lt, ge_iff_le, decide_eq_true_eq, Bool.not_eq_true', decide_eq_false_iff_not, scal, ↓reduceIte, Bool.false_eq_true]
      refine ite2 (fun h => q) (fun h => ?_)
      exfalso
      omega
  · have e1 : frOk K H v = false := by
      cases v with
      | ref a =>
        have h1 : tyO (ob K H a) = some t := ht
        cases hz : ob K H a with
        | none => simp only [frOk, hz]
        | some z =>
          cases z with
          | tup xs =>
            rw [hz] at h1
            exact absurd (Option.some.inj h1).symm e
          | _ => simp only [frOk, hz]
      | _ => rfl
    rw [e1] at q
    have mt := tyN_mem ht
    simp only [List.mem_cons, List.not_mem_nil, or_false] at mt
    rcases mt with rfl | rfl | rfl | rfl | rfl | rfl | rfl <;> first | exact absurd rfl e | (simp only [ht, cx_K, decide_true, decide_false, reduceCtorEq, gTp, gCons, gNil, ca_0, ca_1, ca_2, ca_3, ca_4, ca_5, ca_6, ca_7, ca_8, ca_9, ca_10, ca_11, ca_12, ca_13, ca_14, ca_15, ca_16, ca_17, ca_18, ca_19, ca_20, ca_21, ca_22, ca_23, ca_24, ca_25, ca_26, ca_27, ca_28, ca_29, ca_30, not_true_eq_false, not_false_eq_true, Int.reduceEq, Nat.reduceEqDiff, Nat.reduceLeDiff, rGcd, V.ty.injEq, eq_self, List.not_mem_nil, beq_self_eq_true, HO.lst.injEq, HO.tup.injEq, tFor_eq, iRng1, iList, iTup, nat10, tSeq, rIxA, rSetA, rIsN, rIsT, tTp, tLs, itsO_tup, itsO_lst, tyO_tup, tyO_lst, tyO_dK, tyN_non, tyN_bl, tyN_int, tyN_str, tyN_ref, tyNs_lt, isB, upd_same, upd_upd, sizeLine_eq, List.mem_cons, String.reduceBEq, String.reduceEq, Bool.or_false, Bool.or_true, Bool.and_false, Bool.false_or, Bool.and_self, Bool.false_and, Bool.not_false, Bool.not_true, List.any_cons, List.any_nil, atI_0, setI_0, atI_1, setI_1, atI_2, setI_2, atI_3, setI_3, atI_4, setI_4, atI_5, setI_5, atI_6, setI_6, tAsg, gName, tOp, tUn, tVar, tC, tCons, L2.tNil, tRet, tIfS, tTest, tCB, tCall, rI, rI0, rU, tNext, tB, tAnd, tOr, tNot, tAndV, tOrV, tNotV, tDrop, tIf, tPar, gSub, rIxL, rIxT, rEq, rNe, rSetL, tBits,
    L2.start, List.map_cons, List.map_nil, List.cons_append, List.nil_append, List.append_nil, List.length_cons, List.length_nil, List.replicate, Nat.reduceAdd, Nat.reduceSub, Nat.zero_add, List.getElem?_cons_zero, List.getElem?_cons_succ, List.set_cons_zero, List.set_cons_succ,
    Option.some.injEq, exists_eq_left', exists_eq_left, V.int.injEq, V.bl.injEq, V.ref.injEq, V.str.injEq, List.cons.injEq, reduceCtorEq, and_true, true_and, false_and, and_false, exists_false, or_false, false_or, or_true, true_or, exists_const, CMul, CDiv, CPow, and_assoc, exists_and_left, exists_and_right, Int.reducePow, Int.reduceNeg, Int.reduceLT, Int.reduceLE, Nat.reducePow, Nat.reduceLT, Int.reduceToNat, gt_iff_lt, ge_iff_le, decide_eq_true_eq, Bool.not_eq_true', decide_eq_false_iff_not, scal, ↓reduceIte, Bool.false_eq_true]; exact q)
end
end My

namespace My
open PySem PySem.Spec PyProof.Rows L2
section
variable {P : Program} {w : World} {K : PySem.W.Frag} {mg : Str → Option Value} {base : Heap}
theorem nf_part {q : Qt} (h : Nf q) : Nf (q.1 % q.2, q.2) := by
  refine ⟨h.1, ?_⟩
  show Int.gcd (q.1 % q.2) q.2 = 1
  have e : q.1 % q.2 = q.1 + (-(q.1 / q.2)) * q.2 := by
    have := Int.emod_add_mul_ediv q.1 q.2
    rw [Int.neg_mul, Int.mul_comm]
    omega
  rw [e, Int.gcd_add_mul_right_left]
  exact h.2
theorem nf_abs {q : Qt} (h : Nf q) : Nf ((q.1.natAbs : Int), q.2) := ⟨h.1, by
  show Int.gcd (q.1.natAbs : Int) q.2 = 1
  rw [← h.2]
  rfl⟩
theorem nf_neg {q : Qt} (h : Nf q) : Nf (-q.1, q.2) := ⟨h.1, by
  show Int.gcd (-q.1) q.2 = 1
  rw [Int.neg_gcd]
  exact h.2⟩
def off (q : Qt) : Qt := (if q.2 < 2 * (q.1 % q.2) then q.1 % q.2 - q.2 else q.1 % q.2, q.2)
theorem nf_off {q : Qt} (h : Nf q) : Nf (off q) := by
  have k := nf_part h
  unfold off
  split
  · refine ⟨h.1, ?_⟩
    show Int.gcd (q.1 % q.2 - q.2) q.2 = 1
    rw [show q.1 % q.2 - q.2 = q.1 % q.2 + (-1) * q.2 by omega, Int.gcd_add_mul_right_left]
    exact k.2
  · exact k
theorem is_self {q : Qt} (h : Nf q) : Is q q.1 q.2 := ⟨h, rfl⟩
def sum2 (p q : Qt) (z : Qt) : Prop := Is z (p.1 * q.2 + q.1 * p.2) (p.2 * q.2)
theorem Nf.ne {q : Qt} (h : Nf q) : q.2 ≠ 0 := by have := h.1; omega
theorem mul_ne {a b : Int} (h1 : 1 ≤ a) (h2 : 1 ≤ b) : a * b ≠ 0 := Int.mul_ne_zero (by omega) (by omega)
theorem szPart {q : Qt} {k : Nat} (h : Nf q) (hz : Sz k q) : Sz k (q.1 % q.2, q.2) := by
  refine ⟨?_, hz.2⟩
  have h1 := Int.emod_nonneg q.1 h.ne
  have h2 := Int.emod_lt_of_pos q.1 (show 0 < q.2 by have := h.1; omega)
  have := hz.2
  show (q.1 % q.2).natAbs < 2 ^ k
  omega
theorem szOff {q : Qt} {k : Nat} (h : Nf q) (hz : Sz k q) : Sz k (off q) := by
  have h1 := Int.emod_nonneg q.1 h.ne
  have h2 := Int.emod_lt_of_pos q.1 (show 0 < q.2 by have := h.1; omega)
  have h3 := hz.2
  have h4 := h.1
  unfold off
  refine ⟨?_, h3⟩
  show (if q.2 < 2 * (q.1 % q.2) then q.1 % q.2 - q.2 else q.1 % q.2).natAbs < 2 ^ k
  split <;> omega
/-- a fraction at a, in lowest terms, of a bounded size -/
structure Fq (K : PySem.W.Frag) (H : Hp) (k : Nat) (a : Addr) (q : Qt) : Prop where
  o : ob K H a = some (.tup [.int q.1, .int q.2])
  nf : Nf q
  sz : Sz k q
theorem Fq.same {H H' : Hp} {k : Nat} {a : Addr} {q : Qt} (h : Fq K H k a q) (s : Same H H') : Fq K H' k a q := ⟨ob_same s h.o, h.nf, h.sz⟩
theorem Fq.kp {H H' : Hp} {k : Nat} {a s : Addr} {q : Qt} {ys : List V} (h : Fq K H k a q) (e : Kp s H H') (hs : H s = some (.lst ys)) : Fq K H' k a q := ⟨ob_kp e hs (fun _ z => by cases z) h.o, h.nf, h.sz⟩
theorem Fq.mono {H : Hp} {j k : Nat} {a : Addr} {q : Qt} (h : Fq K H j a q) (l : j ≤ k) : Fq K H k a q := ⟨h.o, h.nf, h.sz.mono l⟩
def spBin (K : PySem.W.Frag) (R : Qt → Qt → Qt → Prop) : Sp := fun vs H Q _ => ∃ (a b : Addr) (p q : Qt), vs = [.ref a, .ref b] ∧ Fq K H 3000 a p ∧ Fq K H 3000 b q ∧ ∀ z, R p q z → Gv K H Q z
def spUn (K : PySem.W.Frag) (g : Qt → Qt) : Sp := fun vs H Q _ => ∃ (a : Addr) (q : Qt), vs = [.ref a] ∧ Fq K H 8000 a q ∧ Gv K H Q (g q)
def spFloor (K : PySem.W.Frag) : Sp := fun vs H Q _ => ∃ (a : Addr) (q : Qt), vs = [.ref a] ∧ Fq K H 8000 a q ∧ Q (.int (q.1 / q.2)) H
abbrev sPlus : Stmt := topS 22
theorem scPlus : FnScope ["left", "right"] ["left", "right"] (defScope sPlus) := ⟨rfl, rfl, rfl, by decide +kernel, rfl, by decide +kernel, by decide +kernel⟩
theorem k_Plus (T : Bt K mg) (D : Dfn K mg "plus" sPlus ["left", "right"]) (d_require : Kn P w K mg base 1 "require" ["well_formed", "what"] spRequire) (d_is_fraction : Kn P w K mg base 2 "is_fraction" ["value"] (spIsFraction K)) (d_fraction : Kn P w K mg base 2 "fraction" ["numerator", "denominator"] (spFraction K)) : Kn P w K mg base 3 "plus" ["left", "right"] (spBin K sum2) := by
  refine Kn.mk' D scPlus (fun vs H Q E h => ?_) (fun f cdv A outer s H vs Q E hr h => ?_)
  · obtain ⟨a, b, p, q, rfl, _⟩ := h
    rfl
  obtain ⟨a, b, p, q, rfl, hp, hq, k⟩ := h
  refine ⟨_, (pss_cons (ps_expr (pe_kn d_require hr (by rfl) (pa_cons (pe_kn d_is_fraction hr (by rfl) (pa_cons (pv 0) pa_nil)) (pa_cons pe_str pa_nil))))
      (pss_cons (ps_expr (pe_kn d_require hr (by rfl) (pa_cons (pe_kn d_is_fraction hr (by rfl) (pa_cons (pv 1) pa_nil)) (pa_cons pe_str pa_nil))))
      (pss_one (ps_ret (pe_kn d_fraction hr (by rfl) (pa_cons (pe_op op_add (pe_op op_mulW (pe_ix ix_any (pv 0) pe_int (fun _ _ => rfl)) (pe_ix ix_any (pv 1) pe_int (fun _ _ => rfl))) (pe_op op_mulW (pe_ix ix_any (pv 1) pe_int (fun _ _ => rfl)) (pe_ix ix_any (pv 0) pe_int (fun _ _ => rfl)))) (pa_cons (pe_op op_mulW (pe_ix ix_any (pv 0) pe_int (fun _ _ => rfl)) (pe_ix ix_any (pv 1) pe_int (fun _ _ => rfl))) pa_nil))))))), ?_⟩
  simp only [cx_K, decide_true, decide_false, reduceCtorEq, gTp, gCons, gNil, ca_0, ca_1, ca_2, ca_3, ca_4, ca_5, ca_6, ca_7, ca_8, ca_9, ca_10, ca_11, ca_12, ca_13, ca_14, ca_15, ca_16, ca_17, ca_18, ca_19, ca_20, ca_21, ca_22, ca_23, ca_24, ca_25, ca_26, ca_27, ca_28, ca_29, ca_30, not_true_eq_false, not_false_eq_true, Int.reduceEq, Nat.reduceEqDiff, Nat.reduceLeDiff, rGcd, V.ty.injEq, eq_self, List.not_mem_nil, beq_self_eq_true, HO.lst.injEq, HO.tup.injEq, tFor_eq, iRng1, iList, iTup, nat10, tSeq, rIxA, rSetA, rIsN, rIsT, tTp, tLs, itsO_tup, itsO_lst, tyO_tup, tyO_lst, tyO_dK, tyN_non, tyN_bl, tyN_int, tyN_str, tyN_ref, tyNs_lt, isB, upd_same, upd_upd, sizeLine_eq, List.mem_cons, String.reduceBEq, String.reduceEq, Bool.or_false, Bool.or_true, Bool.and_false, Bool.false_or, Bool.and_self, Bool.false_and, Bool.not_false, Bool.not_true, List.any_cons, List.any_nil, atI_0, setI_0, atI_1, setI_1, atI_2, setI_2, atI_3, setI_3, atI_4, setI_4, atI_5, setI_5, atI_6, setI_6, tAsg, gName, tOp, tUn, tVar, tC, tCons, L2.tNil, tRet, tIfS, tTest, tCB, tCall, rI, rI0, rU, tNext, tB, tAnd, tOr, tNot, tAndV, tOrV, tNotV, tDrop, tIf, tPar, gSub, rIxL, rIxT, rEq, rNe, rSetL, tBits,
    L2.start, List.map_cons, List.map_nil, List.cons_append, List.nil_append, List.append_nil, List.length_cons, List.length_nil, List.replicate, Nat.reduceAdd, Nat.reduceSub, Nat.zero_add, List.getElem?_cons_zero, List.getElem?_cons_succ, List.set_cons_zero, List.set_cons_succ,
    Option.some.injEq, exists_eq_left', exists_eq_left, V.int.injEq, V.bl.injEq, V.ref.injEq, V.str.injEq, List.cons.injEq, reduceCtorEq, and_true, true_and, false_and, and_false, exists_false, or_false, false_or, or_true, true_or, exists_const, CMul, CDiv, CPow, and_assoc, exists_and_left, exists_and_right, Int.reducePow, Int.reduceNeg, Int.reduceLT, Int.reduceLE, Nat.reducePow, Nat.reduceLT, Int.reduceToNat, gt_iff_lt, ge_iff_le, decide_eq_true_eq, Bool.not_eq_true', decide_eq_false_iff_not, scal, ↓reduceIte, Bool.false_eq_true]
  refine ⟨_, rfl, Tyd.fr hp.o, _, by rw [frOk_fr hp.o hp.nf], _, rfl, Tyd.fr hq.o, _, by rw [frOk_fr hq.o hq.nf], ?_⟩
  simp only [hp.o, hq.o, cx_K, decide_true, decide_false, reduceCtorEq, gTp, gCons, gNil, ca_0, ca_1, ca_2, ca_3, ca_4, ca_5, ca_6, ca_7, ca_8, ca_9, ca_10, ca_11, ca_12, ca_13, ca_14, ca_15, ca_16, ca_17, ca_18, ca_19, ca_20, ca_21, ca_22, ca_23, ca_24, ca_25, ca_26, ca_27, ca_28, ca_29, ca_30, not_true_eq_false, not_false_eq_true, Int.reduceEq, Nat.reduceEqDiff, Nat.reduceLeDiff, rGcd, V.ty.injEq, eq_self, List.not_mem_nil, beq_self_eq_true, HO.lst.injEq, HO.tup.injEq, tFor_eq, iRng1, iList, iTup, nat10, tSeq, rIxA, rSetA, rIsN, rIsT, tTp, tLs, itsO_tup, itsO_lst, tyO_tup, tyO_lst, tyO_dK, tyN_non, tyN_bl, tyN_int, tyN_str, tyN_ref, tyNs_lt, isB, upd_same, upd_upd, sizeLine_eq, List.mem_cons, String.reduceBEq, String.reduceEq, Bool.or_false, Bool.or_true, Bool.and_false, Bool.false_or, Bool.and_self, Bool.false_and, Bool.not_false, Bool.not_true, List.any_cons, List.any_nil, atI_0, setI_0, atI_1, setI_1, atI_2, setI_2, atI_3, setI_3, atI_4, setI_4, atI_5, setI_5, atI_6, setI_6, tAsg, gName, tOp, tUn, tVar, tC, tCons, L2.tNil, tRet, tIfS, tTest, tCB, tCall, rI, rI0, rU, tNext, tB, tAnd, tOr, tNot, tAndV, tOrV, tNotV, tDrop, tIf, tPar, gSub, rIxL, rIxT, rEq, rNe, rSetL, tBits,
    L2.start, List.map_cons, List.map_nil, List.cons_append, List.nil_append, List.append_nil, List.length_cons, List.length_nil, List.replicate, Nat.reduceAdd, Nat.reduceSub, Nat.zero_add, List.getElem?_cons_zero, List.getElem?_cons_succ, List.set_cons_zero, List.set_cons_succ,
    Option.some.injEq, exists_eq_left', exists_eq_left, V.int.injEq, V.bl.injEq, V.ref.injEq, V.str.injEq, List.cons.injEq, reduceCtorEq, and_true, true_and, false_and, and_false, exists_false, or_false, false_or, or_true, true_or, exists_const, CMul, CDiv, CPow, and_assoc, exists_and_left, exists_and_right, Int.reducePow, Int.reduceNeg, Int.reduceLT, Int.reduceLE, Nat.reducePow, Nat.reduceLT, Int.reduceToNat, gt_iff_lt, ge_iff_le, decide_eq_true_eq, Bool.not_eq_true', decide_eq_false_iff_not, scal, ↓reduceIte, Bool.false_eq_true]
  exact ⟨mulW hp.sz.1 hq.sz.2 (by omega), mulW hq.sz.1 hp.sz.2 (by omega), mulW hp.sz.2 hq.sz.2 (by omega), _, _, rfl, mul_ne hp.nf.1 hq.nf.1, szMono (szMul hp.sz.2 hq.sz.2) (by omega), k⟩
def spLFrac (K : PySem.W.Frag) : Sp := fun vs H Q _ => ∃ (a : Addr) (q : Qt), vs = [.ref a] ∧ Fq K H 8000 a q ∧ Q (.bl true) H
abbrev sLFrac : Stmt := topS 42
theorem scLFrac : FnScope ["_law_told"] ["_law_told"] (defScope sLFrac) := ⟨rfl, rfl, rfl, by decide +kernel, rfl, by decide +kernel, by decide +kernel⟩
theorem k_LFrac (T : Bt K mg) (D : Dfn K mg "_law_is_frac" sLFrac ["_law_told"]) (d__law_is_whole : Kn P w K mg base 1 "_law_is_whole" ["_law_told"] (spWhole K)) (d__law_gcd : Kn P w K mg base 1 "_law_gcd" ["_law_left", "_law_right"] spGcd) : Kn P w K mg base 2 "_law_is_frac" ["_law_told"] (spLFrac K) := by
  refine Kn.mk' D scLFrac (fun vs H Q E h => ?_) (fun f cdv A outer s H vs Q E hr h => ?_)
  · obtain ⟨a, q, rfl, _⟩ := h
    rfl
  obtain ⟨a, q, rfl, hq, k⟩ := h
  refine ⟨_, (pss_cons (ps_if (PW.pt (pw_or (pt_not (pt_val (pe_callB call_isN (by rfl) T.b_isinstance (by decide +kernel) (pa_cons (pv 0) (pa_cons (pe_bltn (v := .ty "tuple") (by rfl) T.b_tuple (by decide +kernel) rfl) pa_nil))))) (pw_or1 (pt_cmpR op_ne (pe_callB call_lenA (by rfl) T.b_len PySem.boot_len (pa_cons (pv 0) pa_nil)) pe_int (nomark _))))) (pss_one (ps_ret pe_bl)) pss_nil)
      (pss_cons (ps_if (PW.pt (pw_or (pt_not (pt_val (pe_kn d__law_is_whole hr (by rfl) (pa_cons (pe_ix ix_any (pv 0) pe_int (fun _ _ => rfl)) pa_nil)))) (pw_or1 (pt_not (pt_val (pe_kn d__law_is_whole hr (by rfl) (pa_cons (pe_ix ix_any (pv 0) pe_int (fun _ _ => rfl)) pa_nil))))))) (pss_one (ps_ret pe_bl)) pss_nil)
      (pss_one (ps_ret (pe_and (pe_cmpR op_gt (pe_ix ix_any (pv 0) pe_int (fun _ _ => rfl)) pe_int (nomark _)) (pe_one (pe_cmpR op_eq (pe_kn d__law_gcd hr (by rfl) (pa_cons (pe_ix ix_any (pv 0) pe_int (fun _ _ => rfl)) (pa_cons (pe_ix ix_any (pv 0) pe_int (fun _ _ => rfl)) pa_nil))) pe_int (nomark _)))))))), ?_⟩
  simp only [hq.o, cx_K, decide_true, decide_false, reduceCtorEq, gTp, gCons, gNil, ca_0, ca_1, ca_2, ca_3, ca_4, ca_5, ca_6, ca_7, ca_8, ca_9, ca_10, ca_11, ca_12, ca_13, ca_14, ca_15, ca_16, ca_17, ca_18, ca_19, ca_20, ca_21, ca_22, ca_23, ca_24, ca_25, ca_26, ca_27, ca_28, ca_29, ca_30, not_true_eq_false, not_false_eq_true, Int.reduceEq, Nat.reduceEqDiff, Nat.reduceLeDiff, rGcd, V.ty.injEq, eq_self, List.not_mem_nil, beq_self_eq_true, HO.lst.injEq, HO.tup.injEq, tFor_eq, iRng1, iList, iTup, nat10, tSeq, rIxA, rSetA, rIsN, rIsT, tTp, tLs, itsO_tup, itsO_lst, tyO_tup, tyO_lst, tyO_dK, tyN_non, tyN_bl, tyN_int, tyN_str, tyN_ref, tyNs_lt, isB, upd_same, upd_upd, sizeLine_eq, List.mem_cons, String.reduceBEq, String.reduceEq, Bool.or_false, Bool.or_true, Bool.and_false, Bool.false_or, Bool.and_self, Bool.false_and, Bool.not_false, Bool.not_true, List.any_cons, List.any_nil, atI_0, setI_0, atI_1, setI_1, atI_2, setI_2, atI_3, setI_3, atI_4, setI_4, atI_5, setI_5, atI_6, setI_6, tAsg, gName, tOp, tUn, tVar, tC, tCons, L2.tNil, tRet, tIfS, tTest, tCB, tCall, rI, rI0, rU, tNext, tB, tAnd, tOr, tNot, tAndV, tOrV, tNotV, tDrop, tIf, tPar, gSub, rIxL, rIxT, rEq, rNe, rSetL, tBits,
    L2.start, List.map_cons, List.map_nil, List.cons_append, List.nil_append, List.append_nil, List.length_cons, List.length_nil, List.replicate, Nat.reduceAdd, Nat.reduceSub, Nat.zero_add, List.getElem?_cons_zero, List.getElem?_cons_succ, List.set_cons_zero, List.set_cons_succ,
    Option.some.injEq, exists_eq_left', exists_eq_left, V.int.injEq, V.bl.injEq, V.ref.injEq, V.str.injEq, List.cons.injEq, reduceCtorEq, and_true, true_and, false_and, and_false, exists_false, or_false, false_or, or_true, true_or, exists_const, CMul, CDiv, CPow, and_assoc, exists_and_left, exists_and_right, Int.reducePow, Int.reduceNeg, Int.reduceLT, Int.reduceLE, Nat.reducePow, Nat.reduceLT, Int.reduceToNat, gt_iff_lt, ge_iff_le, decide_eq_true_eq, Bool.not_eq_true', decide_eq_false_iff_not, scal, ↓reduceIte, Bool.false_eq_true]
  refine ⟨_, rfl, rfl, true, rfl, ?_⟩
  rw [if_neg Bool.noConfusion]
  simp only [hq.o, cx_K, decide_true, decide_false, reduceCtorEq, gTp, gCons, gNil, ca_0, ca_1, ca_2, ca_3, ca_4, ca_5, ca_6, ca_7, ca_8, ca_9, ca_10, ca_11, ca_12, ca_13, ca_14, ca_15, ca_16, ca_17, ca_18, ca_19, ca_20, ca_21, ca_22, ca_23, ca_24, ca_25, ca_26, ca_27, ca_28, ca_29, ca_30, not_true_eq_false, not_false_eq_true, Int.reduceEq, Nat.reduceEqDiff, Nat.reduceLeDiff, rGcd, V.ty.injEq, eq_self, List.not_mem_nil, beq_self_eq_true, HO.lst.injEq, HO.tup.injEq, tFor_eq, iRng1, iList, iTup, nat10, tSeq, rIxA, rSetA, rIsN, rIsT, tTp, tLs, itsO_tup, itsO_lst, tyO_tup, tyO_lst, tyO_dK, tyN_non, tyN_bl, tyN_int, tyN_str, tyN_ref, tyNs_lt, isB, upd_same, upd_upd, sizeLine_eq, List.mem_cons, String.reduceBEq, String.reduceEq, Bool.or_false, Bool.or_true, Bool.and_false, Bool.false_or, Bool.and_self, Bool.false_and, Bool.not_false, Bool.not_true, List.any_cons, List.any_nil, atI_0, setI_0, atI_1, setI_1, atI_2, setI_2, atI_3, setI_3, atI_4, setI_4, atI_5, setI_5, atI_6, setI_6, tAsg, gName, tOp, tUn, tVar, tC, tCons, L2.tNil, tRet, tIfS, tTest, tCB, tCall, rI, rI0, rU, tNext, tB, tAnd, tOr, tNot, tAndV, tOrV, tNotV, tDrop, tIf, tPar, gSub, rIxL, rIxT, rEq, rNe, rSetL, tBits,
    L2.start, List.map_cons, List.map_nil, List.cons_append, List.nil_append, List.append_nil, List.length_cons, List.length_nil, List.replicate, Nat.reduceAdd, Nat.reduceSub, Nat.zero_add, List.getElem?_cons_zero, List.getElem?_cons_succ, List.set_cons_zero, List.set_cons_succ,
    Option.some.injEq, exists_eq_left', exists_eq_left, V.int.injEq, V.bl.injEq, V.ref.injEq, V.str.injEq, List.cons.injEq, reduceCtorEq, and_true, true_and, false_and, and_false, exists_false, or_false, false_or, or_true, true_or, exists_const, CMul, CDiv, CPow, and_assoc, exists_and_left, exists_and_right, Int.reducePow, Int.reduceNeg, Int.reduceLT, Int.reduceLE, Nat.reducePow, Nat.reduceLT, Int.reduceToNat, gt_iff_lt, ge_iff_le, decide_eq_true_eq, Bool.not_eq_true', decide_eq_false_iff_not, scal, ↓reduceIte, Bool.false_eq_true]
  refine ⟨_, rfl, rfl, true, rfl, ?_⟩
  rw [if_neg Bool.noConfusion]
  simp only [hq.o, cx_K, decide_true, decide_false, reduceCtorEq, gTp, gCons, gNil, ca_0, ca_1, ca_2, ca_3, ca_4, ca_5, ca_6, ca_7, ca_8, ca_9, ca_10, ca_11, ca_12, ca_13, ca_14, ca_15, ca_16, ca_17, ca_18, ca_19, ca_20, ca_21, ca_22, ca_23, ca_24, ca_25, ca_26, ca_27, ca_28, ca_29, ca_30, not_true_eq_false, not_false_eq_true, Int.reduceEq, Nat.reduceEqDiff, Nat.reduceLeDiff, rGcd, V.ty.injEq, eq_self, List.not_mem_nil, beq_self_eq_true, HO.lst.injEq, HO.tup.injEq, tFor_eq, iRng1, iList, iTup, nat10, tSeq, rIxA, rSetA, rIsN, rIsT, tTp, tLs, itsO_tup, itsO_lst, tyO_tup, tyO_lst, tyO_dK, tyN_non, tyN_bl, tyN_int, tyN_str, tyN_ref, tyNs_lt, isB, upd_same, upd_upd, sizeLine_eq, List.mem_cons, String.reduceBEq, String.reduceEq, Bool.or_false, Bool.or_true, Bool.and_false, Bool.false_or, Bool.and_self, Bool.false_and, Bool.not_false, Bool.not_true, List.any_cons, List.any_nil, atI_0, setI_0, atI_1, setI_1, atI_2, setI_2, atI_3, setI_3, atI_4, setI_4, atI_5, setI_5, atI_6, setI_6, tAsg, gName, tOp, tUn, tVar, tC, tCons, L2.tNil, tRet, tIfS, tTest, tCB, tCall, rI, rI0, rU, tNext, tB, tAnd, tOr, tNot, tAndV, tOrV, tNotV, tDrop, tIf, tPar, gSub, rIxL, rIxT, rEq, rNe, rSetL, tBits,
    L2.start, List.map_cons, List.map_nil, List.cons_append, List.nil_append, List.append_nil, List.length_cons, List.length_nil, List.replicate, Nat.reduceAdd, Nat.reduceSub, Nat.zero_add, List.getElem?_cons_zero, List.getElem?_cons_succ, List.set_cons_zero, List.set_cons_succ,
    Option.some.injEq, exists_eq_left', exists_eq_left, V.int.injEq, V.bl.injEq, V.ref.injEq, V.str.injEq, List.cons.injEq, reduceCtorEq, and_true, true_and, false_and, and_false, exists_false, or_false, false_or, or_true, true_or, exists_const, CMul, CDiv, CPow, and_assoc, exists_and_left, exists_and_right, Int.reducePow, Int.reduceNeg, Int.reduceLT, Int.reduceLE, Nat.reducePow, Nat.reduceLT, Int.reduceToNat, gt_iff_lt, ge_iff_le, decide_eq_true_eq, Bool.not_eq_true', decide_eq_false_iff_not, scal, ↓reduceIte, Bool.false_eq_true]
  rw [if_pos (show 0 < q.2 by have := hq.nf.1; omega)]
  refine ⟨_, _, rfl, rfl, ?_⟩
  have e : decide (V.int ((Int.gcd q.1 q.2 : Nat) : Int) = V.int 1) = true := by rw [hq.nf.2]; rfl
  rw [e]
  exact k
def dif2 (p q : Qt) (z : Qt) : Prop := Is z (p.1 * q.2 - q.1 * p.2) (p.2 * q.2)
def pro2 (p q : Qt) (z : Qt) : Prop := Is z (p.1 * q.1) (p.2 * q.2)
def quo2 (p q : Qt) (z : Qt) : Prop := Is z (p.1 * q.2) (p.2 * q.1)
def cmp2 (p q : Qt) : Int := if p.1 * q.2 = q.1 * p.2 then 0 else if p.1 * q.2 < q.1 * p.2 then -1 else 1
def spQuo (K : PySem.W.Frag) : Sp := fun vs H Q _ => ∃ (a b : Addr) (p q : Qt), vs = [.ref a, .ref b] ∧ Fq K H 3000 a p ∧ Fq K H 3000 b q ∧ q.1 ≠ 0 ∧ ∀ z, quo2 p q z → Gv K H Q z
def spCmp (K : PySem.W.Frag) : Sp := fun vs H Q _ => ∃ (a b : Addr) (p q : Qt), vs = [.ref a, .ref b] ∧ Fq K H 3000 a p ∧ Fq K H 3000 b q ∧ Q (.int (cmp2 p q)) H
abbrev sTimes : Stmt := topS 23
theorem scTimes : FnScope ["left", "right"] ["left", "right"] (defScope sTimes) := ⟨rfl, rfl, rfl, by decide +kernel, rfl, by decide +kernel, by decide +kernel⟩
theorem k_Times (T : Bt K mg) (D : Dfn K mg "times" sTimes ["left", "right"]) (d_require : Kn P w K mg base 1 "require" ["well_formed", "what"] spRequire) (d_is_fraction : Kn P w K mg base 2 "is_fraction" ["value"] (spIsFraction K)) (d_fraction : Kn P w K mg base 2 "fraction" ["numerator", "denominator"] (spFraction K)) : Kn P w K mg base 3 "times" ["left", "right"] (spBin K pro2) := by
  refine Kn.mk' D scTimes (fun vs H Q E h => ?_) (fun f cdv A outer s H vs Q E hr h => ?_)
  · obtain ⟨a, b, p, q, rfl, _⟩ := h
    rfl
  obtain ⟨a, b, p, q, rfl, hp, hq, k⟩ := h
  refine ⟨_, (pss_cons (ps_expr (pe_kn d_require hr (by rfl) (pa_cons (pe_kn d_is_fraction hr (by rfl) (pa_cons (pv 0) pa_nil)) (pa_cons pe_str pa_nil))))
      (pss_cons (ps_expr (pe_kn d_require hr (by rfl) (pa_cons (pe_kn d_is_fraction hr (by rfl) (pa_cons (pv 1) pa_nil)) (pa_cons pe_str pa_nil))))
      (pss_one (ps_ret (pe_kn d_fraction hr (by rfl) (pa_cons (pe_op op_mulW (pe_ix ix_any (pv 0) pe_int (fun _ _ => rfl)) (pe_ix ix_any (pv 1) pe_int (fun _ _ => rfl))) (pa_cons (pe_op op_mulW (pe_ix ix_any (pv 0) pe_int (fun _ _ => rfl)) (pe_ix ix_any (pv 1) pe_int (fun _ _ => rfl))) pa_nil))))))), ?_⟩
  simp only [cx_K, decide_true, decide_false, reduceCtorEq, gTp, gCons, gNil, ca_0, ca_1, ca_2, ca_3, ca_4, ca_5, ca_6, ca_7, ca_8, ca_9, ca_10, ca_11, ca_12, ca_13, ca_14, ca_15, ca_16, ca_17, ca_18, ca_19, ca_20, ca_21, ca_22, ca_23, ca_24, ca_25, ca_26, ca_27, ca_28, ca_29, ca_30, not_true_eq_false, not_false_eq_true, Int.reduceEq, Nat.reduceEqDiff, Nat.reduceLeDiff, rGcd, V.ty.injEq, eq_self, List.not_mem_nil, beq_self_eq_true, HO.lst.injEq, HO.tup.injEq, tFor_eq, iRng1, iList, iTup, nat10, tSeq, rIxA, rSetA, rIsN, rIsT, tTp, tLs, itsO_tup, itsO_lst, tyO_tup, tyO_lst, tyO_dK, tyN_non, tyN_bl, tyN_int, tyN_str, tyN_ref, tyNs_lt, isB, upd_same, upd_upd, sizeLine_eq, List.mem_cons, String.reduceBEq, String.reduceEq, Bool.or_false, Bool.or_true, Bool.and_false, Bool.false_or, Bool.and_self, Bool.false_and, Bool.not_false, Bool.not_true, List.any_cons, List.any_nil, atI_0, setI_0, atI_1, setI_1, atI_2, setI_2, atI_3, setI_3, atI_4, setI_4, atI_5, setI_5, atI_6, setI_6, tAsg, gName, tOp, tUn, tVar, tC, tCons, L2.tNil, tRet, tIfS, tTest, tCB, tCall, rI, rI0, rU, tNext, tB, tAnd, tOr, tNot, tAndV, tOrV, tNotV, tDrop, tIf, tPar, gSub, rIxL, rIxT, rEq, rNe, rSetL, tBits,
    L2.start, List.map_cons, List.map_nil, List.cons_append, List.nil_append, List.append_nil, List.length_cons, List.length_nil, List.replicate, Nat.reduceAdd, Nat.reduceSub, Nat.zero_add, List.getElem?_cons_zero, List.getElem?_cons_succ, List.set_cons_zero, List.set_cons_succ,
    Option.some.injEq, exists_eq_left', exists_eq_left, V.int.injEq, V.bl.injEq, V.ref.injEq, V.str.injEq, List.cons.injEq, reduceCtorEq, and_true, true_and, false_and, and_false, exists_false, or_false, false_or, or_true, true_or, exists_const, CMul, CDiv, CPow, and_assoc, exists_and_left, exists_and_right, Int.reducePow, Int.reduceNeg, Int.reduceLT, Int.reduceLE, Nat.reducePow, Nat.reduceLT, Int.reduceToNat, gt_iff_lt, ge_iff_le, decide_eq_true_eq, Bool.not_eq_true', decide_eq_false_iff_not, scal, ↓reduceIte, Bool.false_eq_true]
  refine ⟨_, rfl, Tyd.fr hp.o, _, by rw [frOk_fr hp.o hp.nf], _, rfl, Tyd.fr hq.o, _, by rw [frOk_fr hq.o hq.nf], ?_⟩
  simp only [hp.o, hq.o, cx_K, decide_true, decide_false, reduceCtorEq, gTp, gCons, gNil, ca_0, ca_1, ca_2, ca_3, ca_4, ca_5, ca_6, ca_7, ca_8, ca_9, ca_10, ca_11, ca_12, ca_13, ca_14, ca_15, ca_16, ca_17, ca_18, ca_19, ca_20, ca_21, ca_22, ca_23, ca_24, ca_25, ca_26, ca_27, ca_28, ca_29, ca_30, not_true_eq_false, not_false_eq_true, Int.reduceEq, Nat.reduceEqDiff, Nat.reduceLeDiff, rGcd, V.ty.injEq, eq_self, List.not_mem_nil, beq_self_eq_true, HO.lst.injEq, HO.tup.injEq, tFor_eq, iRng1, iList, iTup, nat10, tSeq, rIxA, rSetA, rIsN, rIsT, tTp, tLs, itsO_tup, itsO_lst, tyO_tup, tyO_lst, tyO_dK, tyN_non, tyN_bl, tyN_int, tyN_str, tyN_ref, tyNs_lt, isB, upd_same, upd_upd, sizeLine_eq, List.mem_cons, String.reduceBEq, String.reduceEq, Bool.or_false, Bool.or_true, Bool.and_false, Bool.false_or, Bool.and_self, Bool.false_and, Bool.not_false, Bool.not_true, List.any_cons, List.any_nil, atI_0, setI_0, atI_1, setI_1, atI_2, setI_2, atI_3, setI_3, atI_4, setI_4, atI_5, setI_5, atI_6, setI_6, tAsg, gName, tOp, tUn, tVar, tC, tCons, L2.tNil, tRet, tIfS, tTest, tCB, tCall, rI, rI0, rU, tNext, tB, tAnd, tOr, tNot, tAndV, tOrV, tNotV, tDrop, tIf, tPar, gSub, rIxL, rIxT, rEq, rNe, rSetL, tBits,
    L2.start, List.map_cons, List.map_nil, List.cons_append, List.nil_append, List.append_nil, List.length_cons, List.length_nil, List.replicate, Nat.reduceAdd, Nat.reduceSub, Nat.zero_add, List.getElem?_cons_zero, List.getElem?_cons_succ, List.set_cons_zero, List.set_cons_succ,
    Option.some.injEq, exists_eq_left', exists_eq_left, V.int.injEq, V.bl.injEq, V.ref.injEq, V.str.injEq, List.cons.injEq, reduceCtorEq, and_true, true_and, false_and, and_false, exists_false, or_false, false_or, or_true, true_or, exists_const, CMul, CDiv, CPow, and_assoc, exists_and_left, exists_and_right, Int.reducePow, Int.reduceNeg, Int.reduceLT, Int.reduceLE, Nat.reducePow, Nat.reduceLT, Int.reduceToNat, gt_iff_lt, ge_iff_le, decide_eq_true_eq, Bool.not_eq_true', decide_eq_false_iff_not, scal, ↓reduceIte, Bool.false_eq_true]
  exact ⟨mulW hp.sz.1 hq.sz.1 (by omega), mulW hp.sz.2 hq.sz.2 (by omega), _, _, rfl, mul_ne hp.nf.1 hq.nf.1, szMono (szMul hp.sz.2 hq.sz.2) (by omega), k⟩
abbrev sOver : Stmt := topS 24
theorem scOver : FnScope ["left", "right"] ["left", "right"] (defScope sOver) := ⟨rfl, rfl, rfl, by decide +kernel, rfl, by decide +kernel, by decide +kernel⟩
theorem k_Over (T : Bt K mg) (D : Dfn K mg "over" sOver ["left", "right"]) (d_require : Kn P w K mg base 1 "require" ["well_formed", "what"] spRequire) (d_is_fraction : Kn P w K mg base 2 "is_fraction" ["value"] (spIsFraction K)) (d_fraction : Kn P w K mg base 2 "fraction" ["numerator", "denominator"] (spFraction K)) : Kn P w K mg base 3 "over" ["left", "right"] (spQuo K) := by
  refine Kn.mk' D scOver (fun vs H Q E h => ?_) (fun f cdv A outer s H vs Q E hr h => ?_)
  · obtain ⟨a, b, p, q, rfl, _⟩ := h
    rfl
  obtain ⟨a, b, p, q, rfl, hp, hq, h0, k⟩ := h
  refine ⟨_, (pss_cons (ps_expr (pe_kn d_require hr (by rfl) (pa_cons (pe_kn d_is_fraction hr (by rfl) (pa_cons (pv 0) pa_nil)) (pa_cons pe_str pa_nil))))
      (pss_cons (ps_expr (pe_kn d_require hr (by rfl) (pa_cons (pe_and (pe_kn d_is_fraction hr (by rfl) (pa_cons (pv 1) pa_nil)) (pe_one (pe_cmpR op_ne (pe_ix ix_any (pv 1) pe_int (fun _ _ => rfl)) pe_int (nomark _)))) (pa_cons pe_str pa_nil))))
      (pss_one (ps_ret (pe_kn d_fraction hr (by rfl) (pa_cons (pe_op op_mulW (pe_ix ix_any (pv 0) pe_int (fun _ _ => rfl)) (pe_ix ix_any (pv 1) pe_int (fun _ _ => rfl))) (pa_cons (pe_op op_mulW (pe_ix ix_any (pv 0) pe_int (fun _ _ => rfl)) (pe_ix ix_any (pv 1) pe_int (fun _ _ => rfl))) pa_nil))))))), ?_⟩
  simp only [cx_K, decide_true, decide_false, reduceCtorEq, gTp, gCons, gNil, ca_0, ca_1, ca_2, ca_3, ca_4, ca_5, ca_6, ca_7, ca_8, ca_9, ca_10, ca_11, ca_12, ca_13, ca_14, ca_15, ca_16, ca_17, ca_18, ca_19, ca_20, ca_21, ca_22, ca_23, ca_24, ca_25, ca_26, ca_27, ca_28, ca_29, ca_30, not_true_eq_false, not_false_eq_true, Int.reduceEq, Nat.reduceEqDiff, Nat.reduceLeDiff, rGcd, V.ty.injEq, eq_self, List.not_mem_nil, beq_self_eq_true, HO.lst.injEq, HO.tup.injEq, tFor_eq, iRng1, iList, iTup, nat10, tSeq, rIxA, rSetA, rIsN, rIsT, tTp, tLs, itsO_tup, itsO_lst, tyO_tup, tyO_lst, tyO_dK, tyN_non, tyN_bl, tyN_int, tyN_str, tyN_ref, tyNs_lt, isB, upd_same, upd_upd, sizeLine_eq, List.mem_cons, String.reduceBEq, String.reduceEq, Bool.or_false, Bool.or_true, Bool.and_false, Bool.false_or, Bool.and_self, Bool.false_and, Bool.not_false, Bool.not_true, List.any_cons, List.any_nil, atI_0, setI_0, atI_1, setI_1, atI_2, setI_2, atI_3, setI_3, atI_4, setI_4, atI_5, setI_5, atI_6, setI_6, tAsg, gName, tOp, tUn, tVar, tC, tCons, L2.tNil, tRet, tIfS, tTest, tCB, tCall, rI, rI0, rU, tNext, tB, tAnd, tOr, tNot, tAndV, tOrV, tNotV, tDrop, tIf, tPar, gSub, rIxL, rIxT, rEq, rNe, rSetL, tBits,
    L2.start, List.map_cons, List.map_nil, List.cons_append, List.nil_append, List.append_nil, List.length_cons, List.length_nil, List.replicate, Nat.reduceAdd, Nat.reduceSub, Nat.zero_add, List.getElem?_cons_zero, List.getElem?_cons_succ, List.set_cons_zero, List.set_cons_succ,
    Option.some.injEq, exists_eq_left', exists_eq_left, V.int.injEq, V.bl.injEq, V.ref.injEq, V.str.injEq, List.cons.injEq, reduceCtorEq, and_true, true_and, false_and, and_false, exists_false, or_false, false_or, or_true, true_or, exists_const, CMul, CDiv, CPow, and_assoc, exists_and_left, exists_and_right, Int.reducePow, Int.reduceNeg, Int.reduceLT, Int.reduceLE, Nat.reducePow, Nat.reduceLT, Int.reduceToNat, gt_iff_lt, ge_iff_le, decide_eq_true_eq, Bool.not_eq_true', decide_eq_false_iff_not, scal, ↓reduceIte, Bool.false_eq_true]
  refine ⟨_, rfl, Tyd.fr hp.o, _, by rw [frOk_fr hp.o hp.nf], _, rfl, Tyd.fr hq.o, true, by rw [frOk_fr hq.o hq.nf], ?_⟩
  rw [if_pos rfl]
  simp only [hq.o, cx_K, decide_true, decide_false, reduceCtorEq, gTp, gCons, gNil, ca_0, ca_1, ca_2, ca_3, ca_4, ca_5, ca_6, ca_7, ca_8, ca_9, ca_10, ca_11, ca_12, ca_13, ca_14, ca_15, ca_16, ca_17, ca_18, ca_19, ca_20, ca_21, ca_22, ca_23, ca_24, ca_25, ca_26, ca_27, ca_28, ca_29, ca_30, not_true_eq_false, not_false_eq_true, Int.reduceEq, Nat.reduceEqDiff, Nat.reduceLeDiff, rGcd, V.ty.injEq, eq_self, List.not_mem_nil, beq_self_eq_true, HO.lst.injEq, HO.tup.injEq, tFor_eq, iRng1, iList, iTup, nat10, tSeq, rIxA, rSetA, rIsN, rIsT, tTp, tLs, itsO_tup, itsO_lst, tyO_tup, tyO_lst, tyO_dK, tyN_non, tyN_bl, tyN_int, tyN_str, tyN_ref, tyNs_lt, isB, upd_same, upd_upd, sizeLine_eq, List.mem_cons, String.reduceBEq, String.reduceEq, Bool.or_false, Bool.or_true, Bool.and_false, Bool.false_or, Bool.and_self, Bool.false_and, Bool.not_false, Bool.not_true, List.any_cons, List.any_nil, atI_0, setI_0, atI_1, setI_1, atI_2, setI_2, atI_3, setI_3, atI_4, setI_4, atI_5, setI_5, atI_6, setI_6, tAsg, gName, tOp, tUn, tVar, tC, tCons, L2.tNil, tRet, tIfS, tTest, tCB, tCall, rI, rI0, rU, tNext, tB, tAnd, tOr, tNot, tAndV, tOrV, tNotV, tDrop, tIf, tPar, gSub, rIxL, rIxT, rEq, rNe, rSetL, tBits,
    L2.start, List.map_cons, List.map_nil, List.cons_append, List.nil_append, List.append_nil, List.length_cons, List.length_nil, List.replicate, Nat.reduceAdd, Nat.reduceSub, Nat.zero_add, List.getElem?_cons_zero, List.getElem?_cons_succ, List.set_cons_zero, List.set_cons_succ,
    Option.some.injEq, exists_eq_left', exists_eq_left, V.int.injEq, V.bl.injEq, V.ref.injEq, V.str.injEq, List.cons.injEq, reduceCtorEq, and_true, true_and, false_and, and_false, exists_false, or_false, false_or, or_true, true_or, exists_const, CMul, CDiv, CPow, and_assoc, exists_and_left, exists_and_right, Int.reducePow, Int.reduceNeg, Int.reduceLT, Int.reduceLE, Nat.reducePow, Nat.reduceLT, Int.reduceToNat, gt_iff_lt, ge_iff_le, decide_eq_true_eq, Bool.not_eq_true', decide_eq_false_iff_not, scal, ↓reduceIte, Bool.false_eq_true]
  refine ⟨_, by rw [decide_eq_false h0]; rfl, ?_⟩
  simp only [hp.o, hq.o, cx_K, decide_true, decide_false, reduceCtorEq, gTp, gCons, gNil, ca_0, ca_1, ca_2, ca_3, ca_4, ca_5, ca_6, ca_7, ca_8, ca_9, ca_10, ca_11, ca_12, ca_13, ca_14, ca_15, ca_16, ca_17, ca_18, ca_19, ca_20, ca_21, ca_22, ca_23, ca_24, ca_25, ca_26, ca_27, ca_28, ca_29, ca_30, not_true_eq_false, not_false_eq_true, Int.reduceEq, Nat.reduceEqDiff, Nat.reduceLeDiff, rGcd, V.ty.injEq, eq_self, List.not_mem_nil, beq_self_eq_true, HO.lst.injEq, HO.tup.injEq, tFor_eq, iRng1, iList, iTup, nat10, tSeq, rIxA, rSetA, rIsN, rIsT, tTp, tLs, itsO_tup, itsO_lst, tyO_tup, tyO_lst, tyO_dK, tyN_non, tyN_bl, tyN_int, tyN_str, tyN_ref, tyNs_lt, isB, upd_same, upd_upd, sizeLine_eq, List.mem_cons, String.reduceBEq, String.reduceEq, Bool.or_false, Bool.or_true, Bool.and_false, Bool.false_or, Bool.and_self, Bool.false_and, Bool.not_false, Bool.not_true, List.any_cons, List.any_nil, atI_0, setI_0, atI_1, setI_1, atI_2, setI_2, atI_3, setI_3, atI_4, setI_4, atI_5, setI_5, atI_6, setI_6, tAsg, gName, tOp, tUn, tVar, tC, tCons, L2.tNil, tRet, tIfS, tTest, tCB, tCall, rI, rI0, rU, tNext, tB, tAnd, tOr, tNot, tAndV, tOrV, tNotV, tDrop, tIf, tPar, gSub, rIxL, rIxT, rEq, rNe, rSetL, tBits,
    L2.start, List.map_cons, List.map_nil, List.cons_append, List.nil_append, List.append_nil, List.length_cons, List.length_nil, List.replicate, Nat.reduceAdd, Nat.reduceSub, Nat.zero_add, List.getElem?_cons_zero, List.getElem?_cons_succ, List.set_cons_zero, List.set_cons_succ,
    Option.some.injEq, exists_eq_left', exists_eq_left, V.int.injEq, V.bl.injEq, V.ref.injEq, V.str.injEq, List.cons.injEq, reduceCtorEq, and_true, true_and, false_and, and_false, exists_false, or_false, false_or, or_true, true_or, exists_const, CMul, CDiv, CPow, and_assoc, exists_and_left, exists_and_right, Int.reducePow, Int.reduceNeg, Int.reduceLT, Int.reduceLE, Nat.reducePow, Nat.reduceLT, Int.reduceToNat, gt_iff_lt, ge_iff_le, decide_eq_true_eq, Bool.not_eq_true', decide_eq_false_iff_not, scal, ↓reduceIte, Bool.false_eq_true]
  exact ⟨mulW hp.sz.1 hq.sz.2 (by omega), mulW hp.sz.2 hq.sz.1 (by omega), _, _, rfl, Int.mul_ne_zero hp.nf.ne h0, szMono (szMul hp.sz.2 hq.sz.1) (by omega), k⟩
def spQuot (K : PySem.W.Frag) : Sp := fun vs H Q _ => ∃ (a : Addr) (z : Qt) (t b : Int), vs = [.ref a, .int t, .int b] ∧ Fq K H 3000 a z ∧ Is z t b ∧ t.natAbs < 2 ^ 3000 ∧ b.natAbs < 2 ^ 3000 ∧ Q (.bl true) H
def spLFracs (K : PySem.W.Frag) : Sp := fun vs H Q _ => ∃ (l : Addr) (xs : List V), vs = [.ref l] ∧ H l = some (.lst xs) ∧ K.lookup l = none ∧ (∀ x ∈ xs, ∃ a q, x = .ref a ∧ Fq K H 8000 a q) ∧ Q (.bl true) H
def FracsI (l : Addr) (H : Hp) (_ : Nat) (σ : L2.St) (H' : Hp) : Prop := ∃ y, σ = [some (.ref l), y] ∧ H' = H
def spLeaves (K : PySem.W.Frag) : Sp := fun vs H Q _ => ∃ (a b : Addr) (p q : Qt), vs = [.ref a, .ref b] ∧ Fq K H 8000 a p ∧ Fq K H 8000 b q ∧ Q (.bl (decide (q.2 = p.2) && decide ((p.1 - q.1) % p.2 = 0))) H
theorem frOk_inv {H : Hp} {v : V} (h : frOk K H v = true) : ∃ a q, v = .ref a ∧ ob K H a = some (.tup [.int q.1, .int q.2]) ∧ Nf q := by
  cases v with
  | ref a =>
    simp only [frOk] at h
    split at h
    · rename_i n d hz
      simp only [Bool.and_eq_true, decide_eq_true_eq] at h
      exact ⟨_, (n, d), rfl, hz, h.1, h.2⟩
    · cases h
  | _ => cases h
/-- a place: a fraction of 0 or more, less than 1 -/
def plOk (K : PySem.W.Frag) (H : Hp) (v : V) : Bool := frOk K H v && match v with
  | .ref a => match ob K H a with
    | some (.tup [.int n, .int d]) => decide (0 ≤ n) && decide (n < d)
    | _ => false
  | _ => false
theorem plOk_no {H : Hp} {v : V} (h : frOk K H v = false) : plOk K H v = false := by unfold plOk; rw [h]; rfl
theorem plOk_fr {H : Hp} {a : Addr} {q : Qt} (h : ob K H a = some (.tup [.int q.1, .int q.2])) (hn : Nf q) : plOk K H (.ref a) = (decide (0 ≤ q.1) && decide (q.1 < q.2)) := by
  have e := frOk_fr (K := K) h hn
  unfold plOk
  rw [e]
  simp only [h, Bool.true_and]
def spIsPlace (K : PySem.W.Frag) : Sp := fun vs H Q _ => ∃ v, vs = [v] ∧ Tyd K H v ∧ Q (.bl (plOk K H v)) H
def spLPlace (K : PySem.W.Frag) : Sp := fun vs H Q _ => ∃ (a : Addr) (q : Qt), vs = [.ref a] ∧ Fq K H 8000 a q ∧ 0 ≤ q.1 ∧ q.1 < q.2 ∧ Q (.bl true) H
end
end My

namespace My
open PySem PySem.Spec PyProof.Rows L2
section
variable {P : Program} {w : World} {K : PySem.W.Frag} {mg : Str → Option Value} {base : Heap}
/-- an int that the draws gave; all but the store stands -/
def spPick (K : PySem.W.Frag) : Sp := fun vs H Q _ => ∃ (s r : Addr) (xs : List V), vs = [.ref s, .ref r] ∧ Sto K H s ∧ H r = some (.lst xs) ∧ s ≠ r ∧ 0 < xs.length ∧ xs.length < 1000 ∧ ∀ x H', x ∈ xs → Kp s H H' → Sto K H' s → Q x H'
theorem at_mem {α : Type} {xs : List α} {i : Int} (h0 : 0 ≤ i) (h : i < (xs.length : Int)) : ∃ v ∈ xs, atI xs i = some v := by
  have hk : i.toNat < xs.length := by omega
  have q : atI xs ((i.toNat : Nat) : Int) = some xs[i.toNat] := atI_nat (List.getElem?_eq_getElem hk)
  rw [show ((i.toNat : Nat) : Int) = i by omega] at q
  exact ⟨_, List.getElem_mem hk, q⟩
theorem Sto.at {H : Hp} {s : Addr} (h : Sto K H s) : ∃ ys, H s = some (.lst ys) := by
  obtain ⟨sc, ns, i, b, c, d, e, f, h⟩ := h
  exact ⟨_, h.1⟩
theorem Kp.at {s : Addr} {H H' : Hp} {r : Addr} {o : HO} (e : Kp s H H') (n : s ≠ r) (h : H r = some o) : H' r = some o := e _ _ (Ne.symm n) h
abbrev sPick : Stmt := topS 37
theorem scPick : FnScope ["_law_store_here", "_law_row"] ["_law_store_here", "_law_row"] (defScope sPick) := ⟨rfl, rfl, rfl, by decide +kernel, rfl, by decide +kernel, by decide +kernel⟩
theorem k_Pick (T : Bt K mg) (D : Dfn K mg "_law_pick" sPick ["_law_store_here", "_law_row"]) (d__law_take : Kn P w K mg base 2 "_law_take" ["_law_store_here", "_law_many"] (spTake K)) : Kn P w K mg base 3 "_law_pick" ["_law_store_here", "_law_row"] (spPick K) := by
  refine Kn.mk' D scPick (fun vs H Q E h => ?_) (fun f cdv A outer s H vs Q E hr h => ?_)
  · obtain ⟨s, r, xs, rfl, _⟩ := h
    rfl
  obtain ⟨s, r, xs, rfl, hS, hr', ne, hl0, hl1, k⟩ := h
  refine ⟨_, (pss_one (ps_ret (pe_ix ix_list (pv 1) (pe_kn d__law_take hr (by rfl) (pa_cons (pv 0) (pa_cons (pe_callB call_len_seq (by rfl) T.b_len PySem.boot_len (pa_cons (pv 1) pa_nil)) pa_nil))) (fun _ _ => rfl)))), ?_⟩
  simp only [cx_K, decide_true, decide_false, reduceCtorEq, gTp, gCons, gNil, ca_0, ca_1, ca_2, ca_3, ca_4, ca_5, ca_6, ca_7, ca_8, ca_9, ca_10, ca_11, ca_12, ca_13, ca_14, ca_15, ca_16, ca_17, ca_18, ca_19, ca_20, ca_21, ca_22, ca_23, ca_24, ca_25, ca_26, ca_27, ca_28, ca_29, ca_30, not_true_eq_false, not_false_eq_true, Int.reduceEq, Nat.reduceEqDiff, Nat.reduceLeDiff, rGcd, V.ty.injEq, eq_self, List.not_mem_nil, beq_self_eq_true, HO.lst.injEq, HO.tup.injEq, tFor_eq, iRng1, iList, iTup, nat10, tSeq, rIxA, rSetA, rIsN, rIsT, tTp, tLs, itsO_tup, itsO_lst, tyO_tup, tyO_lst, tyO_dK, tyN_non, tyN_bl, tyN_int, tyN_str, tyN_ref, tyNs_lt, isB, upd_same, upd_upd, sizeLine_eq, List.mem_cons, String.reduceBEq, String.reduceEq, Bool.or_false, Bool.or_true, Bool.and_false, Bool.false_or, Bool.and_self, Bool.false_and, Bool.not_false, Bool.not_true, List.any_cons, List.any_nil, atI_0, setI_0, atI_1, setI_1, atI_2, setI_2, atI_3, setI_3, atI_4, setI_4, atI_5, setI_5, atI_6, setI_6, tAsg, gName, tOp, tUn, tVar, tC, tCons, L2.tNil, tRet, tIfS, tTest, tCB, tCall, rI, rI0, rU, tNext, tB, tAnd, tOr, tNot, tAndV, tOrV, tNotV, tDrop, tIf, tPar, gSub, rIxL, rIxT, rEq, rNe, rSetL, tBits,
    L2.start, List.map_cons, List.map_nil, List.cons_append, List.nil_append, List.append_nil, List.length_cons, List.length_nil, List.replicate, Nat.reduceAdd, Nat.reduceSub, Nat.zero_add, List.getElem?_cons_zero, List.getElem?_cons_succ, List.set_cons_zero, List.set_cons_succ,
    Option.some.injEq, exists_eq_left', exists_eq_left, V.int.injEq, V.bl.injEq, V.ref.injEq, V.str.injEq, List.cons.injEq, reduceCtorEq, and_true, true_and, false_and, and_false, exists_false, or_false, false_or, or_true, true_or, exists_const, CMul, CDiv, CPow, and_assoc, exists_and_left, exists_and_right, Int.reducePow, Int.reduceNeg, Int.reduceLT, Int.reduceLE, Nat.reducePow, Nat.reduceLT, Int.reduceToNat, gt_iff_lt, ge_iff_le, decide_eq_true_eq, Bool.not_eq_true', decide_eq_false_iff_not, scal, ↓reduceIte, Bool.false_eq_true]
  refine ⟨xs, .inl (.of hr'), s, _, rfl, hS, by omega, fun i H' h0 h1 kp st => ?_⟩
  obtain ⟨v, hv, e⟩ := at_mem (xs := xs) (i := i) h0 (by omega)
  exact ⟨xs, i, rfl, .of (kp.at ne hr'), v, e, k v H' hv kp st⟩
def spInt (K : PySem.W.Frag) (R : Int → Prop) : Sp := fun vs H Q _ => ∃ (s : Addr), vs = [.ref s] ∧ Sto K H s ∧ ∀ n H', R n → Kp s H H' → Sto K H' s → Q (.int n) H'
def spLInt (K : PySem.W.Frag) : Sp := fun vs H Q _ => ∃ (s : Addr) (r : Int), vs = [.ref s, .int r] ∧ Sto K H s ∧ 1 ≤ r ∧ r < 2 ^ 190 ∧ ∀ n H', -r ≤ n → n ≤ r → Kp s H H' → Sto K H' s → Q (.int n) H'
theorem menu {xs : List V} {i : Int} {R : V → Prop} (h0 : 0 ≤ i) (h : i < (xs.length : Int)) (k : ∀ v ∈ xs, R v) : ∃ v, atI xs i = some v ∧ R v := by
  obtain ⟨v, hv, e⟩ := at_mem h0 h
  exact ⟨v, e, k v hv⟩
abbrev sLInt : Stmt := topS 44
theorem scLInt : FnScope ["_law_store_here", "_law_reach", "_law_spot"] ["_law_store_here", "_law_reach"] (defScope sLInt) := ⟨rfl, rfl, rfl, by decide +kernel, rfl, by decide +kernel, by decide +kernel⟩
theorem k_LInt (T : Bt K mg) (D : Dfn K mg "_law_whole" sLInt ["_law_store_here", "_law_reach"]) (d__law_take : Kn P w K mg base 2 "_law_take" ["_law_store_here", "_law_many"] (spTake K)) : Kn P w K mg base 3 "_law_whole" ["_law_store_here", "_law_reach"] (spLInt K) := by
  refine Kn.mk' D scLInt (fun vs H Q E h => ?_) (fun f cdv A outer s H vs Q E hr h => ?_)
  · obtain ⟨s, r, rfl, _⟩ := h
    rfl
  obtain ⟨s, r, rfl, hS, hr1, hr2, k⟩ := h
  refine ⟨_, (pss_cons (ps_set (i := 2) scLInt.nd rfl (.inl rfl) (pe_kn d__law_take hr (by rfl) (pa_cons (pv 0) (pa_cons pe_int pa_nil))))
      (pss_cons (ps_if (pt_cmpR op_lt (pv 2) pe_int (nomark _)) (pss_one (ps_ret (pe_ix ix_any (pe_ls (pa_cons pe_int (pa_cons (pe_callB (call_min2 rfl) (by rfl) T.b_min (by decide +kernel) (pa_cons pe_int (pa_cons (pv 1) pa_nil))) (pa_cons (pe_un un_neg (pe_callB (call_min2 rfl) (by rfl) T.b_min (by decide +kernel) (pa_cons pe_int (pa_cons (pv 1) pa_nil)))) (pa_cons (pv 1) (pa_cons (pe_un un_neg (pv 1)) pa_nil)))))) (pv 2) (fun _ _ => rfl)))) pss_nil)
      (pss_one (ps_ret (pe_op op_sub (pe_kn d__law_take hr (by rfl) (pa_cons (pv 0) (pa_cons (pe_op op_add (pe_op op_mul pe_int (pv 1)) pe_int) pa_nil))) (pv 1)))))), ?_⟩
  simp only [cx_K, decide_true, decide_false, reduceCtorEq, gTp, gCons, gNil, ca_0, ca_1, ca_2, ca_3, ca_4, ca_5, ca_6, ca_7, ca_8, ca_9, ca_10, ca_11, ca_12, ca_13, ca_14, ca_15, ca_16, ca_17, ca_18, ca_19, ca_20, ca_21, ca_22, ca_23, ca_24, ca_25, ca_26, ca_27, ca_28, ca_29, ca_30, not_true_eq_false, not_false_eq_true, Int.reduceEq, Nat.reduceEqDiff, Nat.reduceLeDiff, rGcd, V.ty.injEq, eq_self, List.not_mem_nil, beq_self_eq_true, HO.lst.injEq, HO.tup.injEq, tFor_eq, iRng1, iList, iTup, nat10, tSeq, rIxA, rSetA, rIsN, rIsT, tTp, tLs, itsO_tup, itsO_lst, tyO_tup, tyO_lst, tyO_dK, tyN_non, tyN_bl, tyN_int, tyN_str, tyN_ref, tyNs_lt, isB, upd_same, upd_upd, sizeLine_eq, List.mem_cons, String.reduceBEq, String.reduceEq, Bool.or_false, Bool.or_true, Bool.and_false, Bool.false_or, Bool.and_self, Bool.false_and, Bool.not_false, Bool.not_true, List.any_cons, List.any_nil, atI_0, setI_0, atI_1, setI_1, atI_2, setI_2, atI_3, setI_3, atI_4, setI_4, atI_5, setI_5, atI_6, setI_6, tAsg, gName, tOp, tUn, tVar, tC, tCons, L2.tNil, tRet, tIfS, tTest, tCB, tCall, rI, rI0, rU, tNext, tB, tAnd, tOr, tNot, tAndV, tOrV, tNotV, tDrop, tIf, tPar, gSub, rIxL, rIxT, rEq, rNe, rSetL, tBits,
    L2.start, List.map_cons, List.map_nil, List.cons_append, List.nil_append, List.append_nil, List.length_cons, List.length_nil, List.replicate, Nat.reduceAdd, Nat.reduceSub, Nat.zero_add, List.getElem?_cons_zero, List.getElem?_cons_succ, List.set_cons_zero, List.set_cons_succ,
    Option.some.injEq, exists_eq_left', exists_eq_left, V.int.injEq, V.bl.injEq, V.ref.injEq, V.str.injEq, List.cons.injEq, reduceCtorEq, and_true, true_and, false_and, and_false, exists_false, or_false, false_or, or_true, true_or, exists_const, CMul, CDiv, CPow, and_assoc, exists_and_left, exists_and_right, Int.reducePow, Int.reduceNeg, Int.reduceLT, Int.reduceLE, Nat.reducePow, Nat.reduceLT, Int.reduceToNat, gt_iff_lt, ge_iff_le, decide_eq_true_eq, Bool.not_eq_true', decide_eq_false_iff_not, scal, ↓reduceIte, Bool.false_eq_true]
  refine ⟨s, 12, rfl, hS, by omega, fun i H1 h0 h1 kp st => ?_⟩
  simp only [cx_K, decide_true, decide_false, reduceCtorEq, gTp, gCons, gNil, ca_0, ca_1, ca_2, ca_3, ca_4, ca_5, ca_6, ca_7, ca_8, ca_9, ca_10, ca_11, ca_12, ca_13, ca_14, ca_15, ca_16, ca_17, ca_18, ca_19, ca_20, ca_21, ca_22, ca_23, ca_24, ca_25, ca_26, ca_27, ca_28, ca_29, ca_30, not_true_eq_false, not_false_eq_true, Int.reduceEq, Nat.reduceEqDiff, Nat.reduceLeDiff, rGcd, V.ty.injEq, eq_self, List.not_mem_nil, beq_self_eq_true, HO.lst.injEq, HO.tup.injEq, tFor_eq, iRng1, iList, iTup, nat10, tSeq, rIxA, rSetA, rIsN, rIsT, tTp, tLs, itsO_tup, itsO_lst, tyO_tup, tyO_lst, tyO_dK, tyN_non, tyN_bl, tyN_int, tyN_str, tyN_ref, tyNs_lt, isB, upd_same, upd_upd, sizeLine_eq, List.mem_cons, String.reduceBEq, String.reduceEq, Bool.or_false, Bool.or_true, Bool.and_false, Bool.false_or, Bool.and_self, Bool.false_and, Bool.not_false, Bool.not_true, List.any_cons, List.any_nil, atI_0, setI_0, atI_1, setI_1, atI_2, setI_2, atI_3, setI_3, atI_4, setI_4, atI_5, setI_5, atI_6, setI_6, tAsg, gName, tOp, tUn, tVar, tC, tCons, L2.tNil, tRet, tIfS, tTest, tCB, tCall, rI, rI0, rU, tNext, tB, tAnd, tOr, tNot, tAndV, tOrV, tNotV, tDrop, tIf, tPar, gSub, rIxL, rIxT, rEq, rNe, rSetL, tBits,
    L2.start, List.map_cons, List.map_nil, List.cons_append, List.nil_append, List.append_nil, List.length_cons, List.length_nil, List.replicate, Nat.reduceAdd, Nat.reduceSub, Nat.zero_add, List.getElem?_cons_zero, List.getElem?_cons_succ, List.set_cons_zero, List.set_cons_succ,
    Option.some.injEq, exists_eq_left', exists_eq_left, V.int.injEq, V.bl.injEq, V.ref.injEq, V.str.injEq, List.cons.injEq, reduceCtorEq, and_true, true_and, false_and, and_false, exists_false, or_false, false_or, or_true, true_or, exists_const, CMul, CDiv, CPow, and_assoc, exists_and_left, exists_and_right, Int.reducePow, Int.reduceNeg, Int.reduceLT, Int.reduceLE, Nat.reducePow, Nat.reduceLT, Int.reduceToNat, gt_iff_lt, ge_iff_le, decide_eq_true_eq, Bool.not_eq_true', decide_eq_false_iff_not, scal, ↓reduceIte, Bool.false_eq_true]
  refine ite2 (fun h => ?_) (fun h => ?_)
  · intro p hp kp'
    rw [ob_new kp']
    simp only [cx_K, decide_true, decide_false, reduceCtorEq, gTp, gCons, gNil, ca_0, ca_1, ca_2, ca_3, ca_4, ca_5, ca_6, ca_7, ca_8, ca_9, ca_10, ca_11, ca_12, ca_13, ca_14, ca_15, ca_16, ca_17, ca_18, ca_19, ca_20, ca_21, ca_22, ca_23, ca_24, ca_25, ca_26, ca_27, ca_28, ca_29, ca_30, not_true_eq_false, not_false_eq_true, Int.reduceEq, Nat.reduceEqDiff, Nat.reduceLeDiff, rGcd, V.ty.injEq, eq_self, List.not_mem_nil, beq_self_eq_true, HO.lst.injEq, HO.tup.injEq, tFor_eq, iRng1, iList, iTup, nat10, tSeq, rIxA, rSetA, rIsN, rIsT, tTp, tLs, itsO_tup, itsO_lst, tyO_tup, tyO_lst, tyO_dK, tyN_non, tyN_bl, tyN_int, tyN_str, tyN_ref, tyNs_lt, isB, upd_same, upd_upd, sizeLine_eq, List.mem_cons, String.reduceBEq, String.reduceEq, Bool.or_false, Bool.or_true, Bool.and_false, Bool.false_or, Bool.and_self, Bool.false_and, Bool.not_false, Bool.not_true, List.any_cons, List.any_nil, atI_0, setI_0, atI_1, setI_1, atI_2, setI_2, atI_3, setI_3, atI_4, setI_4, atI_5, setI_5, atI_6, setI_6, tAsg, gName, tOp, tUn, tVar, tC, tCons, L2.tNil, tRet, tIfS, tTest, tCB, tCall, rI, rI0, rU, tNext, tB, tAnd, tOr, tNot, tAndV, tOrV, tNotV, tDrop, tIf, tPar, gSub, rIxL, rIxT, rEq, rNe, rSetL, tBits,
    L2.start, List.map_cons, List.map_nil, List.cons_append, List.nil_append, List.append_nil, List.length_cons, List.length_nil, List.replicate, Nat.reduceAdd, Nat.reduceSub, Nat.zero_add, List.getElem?_cons_zero, List.getElem?_cons_succ, List.set_cons_zero, List.set_cons_succ,
    Option.some.injEq, exists_eq_left', exists_eq_left, V.int.injEq, V.bl.injEq, V.ref.injEq, V.str.injEq, List.cons.injEq, reduceCtorEq, and_true, true_and, false_and, and_false, exists_false, or_false, false_or, or_true, true_or, exists_const, CMul, CDiv, CPow, and_assoc, exists_and_left, exists_and_right, Int.reducePow, Int.reduceNeg, Int.reduceLT, Int.reduceLE, Nat.reducePow, Nat.reduceLT, Int.reduceToNat, gt_iff_lt, ge_iff_le, decide_eq_true_eq, Bool.not_eq_true', decide_eq_false_iff_not, scal, ↓reduceIte, Bool.false_eq_true]
    refine menu h0 (by simpa using h) fun v hv => ?_
    rw [if_neg (show ¬ r < 1 by omega)] at hv ⊢
    simp only [List.mem_cons, List.not_mem_nil, or_false] at hv
    rcases hv with rfl | rfl | rfl | rfl | rfl <;> exact k _ _ (by omega) (by omega) (kp.trans (Kp.same (Same.new hp _))) (st.same (Same.new hp _))
  · refine ⟨s, _, rfl, st, by omega, fun j H2 h0' h1' kp2 st2 => ?_⟩
    simp only [cx_K, decide_true, decide_false, reduceCtorEq, gTp, gCons, gNil, ca_0, ca_1, ca_2, ca_3, ca_4, ca_5, ca_6, ca_7, ca_8, ca_9, ca_10, ca_11, ca_12, ca_13, ca_14, ca_15, ca_16, ca_17, ca_18, ca_19, ca_20, ca_21, ca_22, ca_23, ca_24, ca_25, ca_26, ca_27, ca_28, ca_29, ca_30, not_true_eq_false, not_false_eq_true, Int.reduceEq, Nat.reduceEqDiff, Nat.reduceLeDiff, rGcd, V.ty.injEq, eq_self, List.not_mem_nil, beq_self_eq_true, HO.lst.injEq, HO.tup.injEq, tFor_eq, iRng1, iList, iTup, nat10, tSeq, rIxA, rSetA, rIsN, rIsT, tTp, tLs, itsO_tup, itsO_lst, tyO_tup, tyO_lst, tyO_dK, tyN_non, tyN_bl, tyN_int, tyN_str, tyN_ref, tyNs_lt, isB, upd_same, upd_upd, sizeLine_eq, List.mem_cons, String.reduceBEq, String.reduceEq, Bool.or_false, Bool.or_true, Bool.and_false, Bool.false_or, Bool.and_self, Bool.false_and, Bool.not_false, Bool.not_true, List.any_cons, List.any_nil, atI_0, setI_0, atI_1, setI_1, atI_2, setI_2, atI_3, setI_3, atI_4, setI_4, atI_5, setI_5, atI_6, setI_6, tAsg, gName, tOp, tUn, tVar, tC, tCons, L2.tNil, tRet, tIfS, tTest, tCB, tCall, rI, rI0, rU, tNext, tB, tAnd, tOr, tNot, tAndV, tOrV, tNotV, tDrop, tIf, tPar, gSub, rIxL, rIxT, rEq, rNe, rSetL, tBits,
    L2.start, List.map_cons, List.map_nil, List.cons_append, List.nil_append, List.append_nil, List.length_cons, List.length_nil, List.replicate, Nat.reduceAdd, Nat.reduceSub, Nat.zero_add, List.getElem?_cons_zero, List.getElem?_cons_succ, List.set_cons_zero, List.set_cons_succ,
    Option.some.injEq, exists_eq_left', exists_eq_left, V.int.injEq, V.bl.injEq, V.ref.injEq, V.str.injEq, List.cons.injEq, reduceCtorEq, and_true, true_and, false_and, and_false, exists_false, or_false, false_or, or_true, true_or, exists_const, CMul, CDiv, CPow, and_assoc, exists_and_left, exists_and_right, Int.reducePow, Int.reduceNeg, Int.reduceLT, Int.reduceLE, Nat.reducePow, Nat.reduceLT, Int.reduceToNat, gt_iff_lt, ge_iff_le, decide_eq_true_eq, Bool.not_eq_true', decide_eq_false_iff_not, scal, ↓reduceIte, Bool.false_eq_true]
    exact k _ _ (by omega) (by omega) (kp.trans kp2) st2
def GreatI (s : Addr) (spot : Int) (H1 : Hp) (_ : Nat) (σ : L2.St) (H' : Hp) : Prop := ∃ v y, σ = [some (.ref s), some (.int spot), some (.int v), y] ∧ H' = H1 ∧ 0 ≤ v ∧ v < 2 ^ 133
abbrev sGreat : Stmt := topS 45
theorem scGreat : FnScope ["_law_store_here", "_law_spot", "_law_value", "_law_k"] ["_law_store_here"] (defScope sGreat) := ⟨rfl, rfl, rfl, by decide +kernel, rfl, by decide +kernel, by decide +kernel⟩
theorem k_Great (T : Bt K mg) (D : Dfn K mg "_law_great" sGreat ["_law_store_here"]) (d__law_take : Kn P w K mg base 2 "_law_take" ["_law_store_here", "_law_many"] (spTake K)) : Kn P w K mg base 3 "_law_great" ["_law_store_here"] (spInt K fun n => n.natAbs < 2 ^ 133) := by
  refine Kn.mk' D scGreat (fun vs H Q E h => ?_) (fun f cdv A outer s H vs Q E hr h => ?_)
  · obtain ⟨s, rfl, _⟩ := h
    rfl
  obtain ⟨s, rfl, hS, k⟩ := h
  refine ⟨_, (pss_cons (ps_set (i := 1) scGreat.nd rfl (.inl rfl) (pe_kn d__law_take hr (by rfl) (pa_cons (pv 0) (pa_cons pe_int pa_nil))))
      (pss_cons (ps_if (pt_cmpR op_lt (pv 1) pe_int (nomark _)) (pss_one (ps_ret (pe_ix ix_any (pe_ls (pa_cons (pe_op op_sub (pe_op op_pow pe_int pe_int) pe_int) (pa_cons (pe_op op_sub pe_int (pe_op op_pow pe_int pe_int)) (pa_cons (pe_op op_pow pe_int pe_int) (pa_cons pe_int pa_nil))))) (pv 1) (fun _ _ => rfl)))) pss_nil)
      (pss_cons (ps_set (i := 2) scGreat.nd rfl (.inl rfl) (pe_kn d__law_take hr (by rfl) (pa_cons (pv 0) (pa_cons (pe_op op_pow pe_int pe_int) pa_nil))))
      (pss_cons (ps_for PassesOwn.never rfl (pi_range1 (by rfl) T.b_range (pa_cons (pe_kn d__law_take hr (by rfl) (pa_cons (pv 0) (pa_cons pe_int pa_nil))) pa_nil)) (pg_name (i := 3) scGreat.nd rfl (.inl rfl)) (pss_one (ps_set (i := 2) scGreat.nd rfl (.inl rfl) (pe_op op_fdiv (pv 2) pe_int))))
      (pss_cons (ps_if (pt_cmpR op_eq (pe_op op_mod (pv 1) pe_int) pe_int (nomark _)) (pss_one (ps_ret (pe_un un_neg (pv 2)))) pss_nil)
      (pss_one (ps_ret (pv 2)))))))), ?_⟩
  simp only [cx_K, decide_true, decide_false, reduceCtorEq, gTp, gCons, gNil, ca_0, ca_1, ca_2, ca_3, ca_4, ca_5, ca_6, ca_7, ca_8, ca_9, ca_10, ca_11, ca_12, ca_13, ca_14, ca_15, ca_16, ca_17, ca_18, ca_19, ca_20, ca_21, ca_22, ca_23, ca_24, ca_25, ca_26, ca_27, ca_28, ca_29, ca_30, not_true_eq_false, not_false_eq_true, Int.reduceEq, Nat.reduceEqDiff, Nat.reduceLeDiff, rGcd, V.ty.injEq, eq_self, List.not_mem_nil, beq_self_eq_true, HO.lst.injEq, HO.tup.injEq, tFor_eq, iRng1, iList, iTup, nat10, tSeq, rIxA, rSetA, rIsN, rIsT, tTp, tLs, itsO_tup, itsO_lst, tyO_tup, tyO_lst, tyO_dK, tyN_non, tyN_bl, tyN_int, tyN_str, tyN_ref, tyNs_lt, isB, upd_same, upd_upd, sizeLine_eq, List.mem_cons, String.reduceBEq, String.reduceEq, Bool.or_false, Bool.or_true, Bool.and_false, Bool.false_or, Bool.and_self, Bool.false_and, Bool.not_false, Bool.not_true, List.any_cons, List.any_nil, atI_0, setI_0, atI_1, setI_1, atI_2, setI_2, atI_3, setI_3, atI_4, setI_4, atI_5, setI_5, atI_6, setI_6, tAsg, gName, tOp, tUn, tVar, tC, tCons, L2.tNil, tRet, tIfS, tTest, tCB, tCall, rI, rI0, rU, tNext, tB, tAnd, tOr, tNot, tAndV, tOrV, tNotV, tDrop, tIf, tPar, gSub, rIxL, rIxT, rEq, rNe, rSetL, tBits,
    L2.start, List.map_cons, List.map_nil, List.cons_append, List.nil_append, List.append_nil, List.length_cons, List.length_nil, List.replicate, Nat.reduceAdd, Nat.reduceSub, Nat.zero_add, List.getElem?_cons_zero, List.getElem?_cons_succ, List.set_cons_zero, List.set_cons_succ,
    Option.some.injEq, exists_eq_left', exists_eq_left, V.int.injEq, V.bl.injEq, V.ref.injEq, V.str.injEq, List.cons.injEq, reduceCtorEq, and_true, true_and, false_and, and_false, exists_false, or_false, false_or, or_true, true_or, exists_const, CMul, CDiv, CPow, and_assoc, exists_and_left, exists_and_right, Int.reducePow, Int.reduceNeg, Int.reduceLT, Int.reduceLE, Nat.reducePow, Nat.reduceLT, Int.reduceToNat, gt_iff_lt, ge_iff_le, decide_eq_true_eq, Bool.not_eq_true', decide_eq_false_iff_not, scal, ↓reduceIte, Bool.false_eq_true]
  refine ⟨s, 12, rfl, hS, by omega, fun i H1 h0 h1 kp st => ?_⟩
  simp only [cx_K, decide_true, decide_false, reduceCtorEq, gTp, gCons, gNil, ca_0, ca_1, ca_2, ca_3, ca_4, ca_5, ca_6, ca_7, ca_8, ca_9, ca_10, ca_11, ca_12, ca_13, ca_14, ca_15, ca_16, ca_17, ca_18, ca_19, ca_20, ca_21, ca_22, ca_23, ca_24, ca_25, ca_26, ca_27, ca_28, ca_29, ca_30, not_true_eq_false, not_false_eq_true, Int.reduceEq, Nat.reduceEqDiff, Nat.reduceLeDiff, rGcd, V.ty.injEq, eq_self, List.not_mem_nil, beq_self_eq_true, HO.lst.injEq, HO.tup.injEq, tFor_eq, iRng1, iList, iTup, nat10, tSeq, rIxA, rSetA, rIsN, rIsT, tTp, tLs, itsO_tup, itsO_lst, tyO_tup, tyO_lst, tyO_dK, tyN_non, tyN_bl, tyN_int, tyN_str, tyN_ref, tyNs_lt, isB, upd_same, upd_upd, sizeLine_eq, List.mem_cons, String.reduceBEq, String.reduceEq, Bool.or_false, Bool.or_true, Bool.and_false, Bool.false_or, Bool.and_self, Bool.false_and, Bool.not_false, Bool.not_true, List.any_cons, List.any_nil, atI_0, setI_0, atI_1, setI_1, atI_2, setI_2, atI_3, setI_3, atI_4, setI_4, atI_5, setI_5, atI_6, setI_6, tAsg, gName, tOp, tUn, tVar, tC, tCons, L2.tNil, tRet, tIfS, tTest, tCB, tCall, rI, rI0, rU, tNext, tB, tAnd, tOr, tNot, tAndV, tOrV, tNotV, tDrop, tIf, tPar, gSub, rIxL, rIxT, rEq, rNe, rSetL, tBits,
    L2.start, List.map_cons, List.map_nil, List.cons_append, List.nil_append, List.append_nil, List.length_cons, List.length_nil, List.replicate, Nat.reduceAdd, Nat.reduceSub, Nat.zero_add, List.getElem?_cons_zero, List.getElem?_cons_succ, List.set_cons_zero, List.set_cons_succ,
    Option.some.injEq, exists_eq_left', exists_eq_left, V.int.injEq, V.bl.injEq, V.ref.injEq, V.str.injEq, List.cons.injEq, reduceCtorEq, and_true, true_and, false_and, and_false, exists_false, or_false, false_or, or_true, true_or, exists_const, CMul, CDiv, CPow, and_assoc, exists_and_left, exists_and_right, Int.reducePow, Int.reduceNeg, Int.reduceLT, Int.reduceLE, Nat.reducePow, Nat.reduceLT, Int.reduceToNat, gt_iff_lt, ge_iff_le, decide_eq_true_eq, Bool.not_eq_true', decide_eq_false_iff_not, scal, ↓reduceIte, Bool.false_eq_true]
  refine ite2 (fun h => ?_) (fun h => ?_)
  · intro p hp kp'
    rw [ob_new kp']
    simp only [cx_K, decide_true, decide_false, reduceCtorEq, gTp, gCons, gNil, ca_0, ca_1, ca_2, ca_3, ca_4, ca_5, ca_6, ca_7, ca_8, ca_9, ca_10, ca_11, ca_12, ca_13, ca_14, ca_15, ca_16, ca_17, ca_18, ca_19, ca_20, ca_21, ca_22, ca_23, ca_24, ca_25, ca_26, ca_27, ca_28, ca_29, ca_30, not_true_eq_false, not_false_eq_true, Int.reduceEq, Nat.reduceEqDiff, Nat.reduceLeDiff, rGcd, V.ty.injEq, eq_self, List.not_mem_nil, beq_self_eq_true, HO.lst.injEq, HO.tup.injEq, tFor_eq, iRng1, iList, iTup, nat10, tSeq, rIxA, rSetA, rIsN, rIsT, tTp, tLs, itsO_tup, itsO_lst, tyO_tup, tyO_lst, tyO_dK, tyN_non, tyN_bl, tyN_int, tyN_str, tyN_ref, tyNs_lt, isB, upd_same, upd_upd, sizeLine_eq, List.mem_cons, String.reduceBEq, String.reduceEq, Bool.or_false, Bool.or_true, Bool.and_false, Bool.false_or, Bool.and_self, Bool.false_and, Bool.not_false, Bool.not_true, List.any_cons, List.any_nil, atI_0, setI_0, atI_1, setI_1, atI_2, setI_2, atI_3, setI_3, atI_4, setI_4, atI_5, setI_5, atI_6, setI_6, tAsg, gName, tOp, tUn, tVar, tC, tCons, L2.tNil, tRet, tIfS, tTest, tCB, tCall, rI, rI0, rU, tNext, tB, tAnd, tOr, tNot, tAndV, tOrV, tNotV, tDrop, tIf, tPar, gSub, rIxL, rIxT, rEq, rNe, rSetL, tBits,
    L2.start, List.map_cons, List.map_nil, List.cons_append, List.nil_append, List.append_nil, List.length_cons, List.length_nil, List.replicate, Nat.reduceAdd, Nat.reduceSub, Nat.zero_add, List.getElem?_cons_zero, List.getElem?_cons_succ, List.set_cons_zero, List.set_cons_succ,
    Option.some.injEq, exists_eq_left', exists_eq_left, V.int.injEq, V.bl.injEq, V.ref.injEq, V.str.injEq, List.cons.injEq, reduceCtorEq, and_true, true_and, false_and, and_false, exists_false, or_false, false_or, or_true, true_or, exists_const, CMul, CDiv, CPow, and_assoc, exists_and_left, exists_and_right, Int.reducePow, Int.reduceNeg, Int.reduceLT, Int.reduceLE, Nat.reducePow, Nat.reduceLT, Int.reduceToNat, gt_iff_lt, ge_iff_le, decide_eq_true_eq, Bool.not_eq_true', decide_eq_false_iff_not, scal, ↓reduceIte, Bool.false_eq_true]
    refine menu h0 (by simpa using h) fun v hv => ?_
    simp only [List.mem_cons, List.not_mem_nil, or_false] at hv
    rcases hv with rfl | rfl | rfl | rfl <;> exact k _ _ (by show Int.natAbs _ < _; omega) (kp.trans (Kp.same (Same.new hp _))) (st.same (Same.new hp _))
  · refine ⟨s, _, rfl, st, by omega, fun j H2 j0 j1 kp2 st2 => ⟨s, 40, rfl, st2, by omega, fun m H3 m0 m1 kp3 st3 => ?_⟩⟩
    simp only [cx_K, decide_true, decide_false, reduceCtorEq, gTp, gCons, gNil, ca_0, ca_1, ca_2, ca_3, ca_4, ca_5, ca_6, ca_7, ca_8, ca_9, ca_10, ca_11, ca_12, ca_13, ca_14, ca_15, ca_16, ca_17, ca_18, ca_19, ca_20, ca_21, ca_22, ca_23, ca_24, ca_25, ca_26, ca_27, ca_28, ca_29, ca_30, not_true_eq_false, not_false_eq_true, Int.reduceEq, Nat.reduceEqDiff, Nat.reduceLeDiff, rGcd, V.ty.injEq, eq_self, List.not_mem_nil, beq_self_eq_true, HO.lst.injEq, HO.tup.injEq, tFor_eq, iRng1, iList, iTup, nat10, tSeq, rIxA, rSetA, rIsN, rIsT, tTp, tLs, itsO_tup, itsO_lst, tyO_tup, tyO_lst, tyO_dK, tyN_non, tyN_bl, tyN_int, tyN_str, tyN_ref, tyNs_lt, isB, upd_same, upd_upd, sizeLine_eq, List.mem_cons, String.reduceBEq, String.reduceEq, Bool.or_false, Bool.or_true, Bool.and_false, Bool.false_or, Bool.and_self, Bool.false_and, Bool.not_false, Bool.not_true, List.any_cons, List.any_nil, atI_0, setI_0, atI_1, setI_1, atI_2, setI_2, atI_3, setI_3, atI_4, setI_4, atI_5, setI_5, atI_6, setI_6, tAsg, gName, tOp, tUn, tVar, tC, tCons, L2.tNil, tRet, tIfS, tTest, tCB, tCall, rI, rI0, rU, tNext, tB, tAnd, tOr, tNot, tAndV, tOrV, tNotV, tDrop, tIf, tPar, gSub, rIxL, rIxT, rEq, rNe, rSetL, tBits,
    L2.start, List.map_cons, List.map_nil, List.cons_append, List.nil_append, List.append_nil, List.length_cons, List.length_nil, List.replicate, Nat.reduceAdd, Nat.reduceSub, Nat.zero_add, List.getElem?_cons_zero, List.getElem?_cons_succ, List.set_cons_zero, List.set_cons_succ,
    Option.some.injEq, exists_eq_left', exists_eq_left, V.int.injEq, V.bl.injEq, V.ref.injEq, V.str.injEq, List.cons.injEq, reduceCtorEq, and_true, true_and, false_and, and_false, exists_false, or_false, false_or, or_true, true_or, exists_const, CMul, CDiv, CPow, and_assoc, exists_and_left, exists_and_right, Int.reducePow, Int.reduceNeg, Int.reduceLT, Int.reduceLE, Nat.reducePow, Nat.reduceLT, Int.reduceToNat, gt_iff_lt, ge_iff_le, decide_eq_true_eq, Bool.not_eq_true', decide_eq_false_iff_not, scal, ↓reduceIte, Bool.false_eq_true]
    refine ⟨by omega, by omega, forI_range (GreatI s i H3) ⟨j, none, rfl, rfl, j0, by omega⟩ ?_ ?_⟩
    · rintro t σ H' _ ⟨v, y, rfl, rfl, v0, v1⟩
      simp only [cx_K, decide_true, decide_false, reduceCtorEq, gTp, gCons, gNil, ca_0, ca_1, ca_2, ca_3, ca_4, ca_5, ca_6, ca_7, ca_8, ca_9, ca_10, ca_11, ca_12, ca_13, ca_14, ca_15, ca_16, ca_17, ca_18, ca_19, ca_20, ca_21, ca_22, ca_23, ca_24, ca_25, ca_26, ca_27, ca_28, ca_29, ca_30, not_true_eq_false, not_false_eq_true, Int.reduceEq, Nat.reduceEqDiff, Nat.reduceLeDiff, rGcd, V.ty.injEq, eq_self, List.not_mem_nil, beq_self_eq_true, HO.lst.injEq, HO.tup.injEq, tFor_eq, iRng1, iList, iTup, nat10, tSeq, rIxA, rSetA, rIsN, rIsT, tTp, tLs, itsO_tup, itsO_lst, tyO_tup, tyO_lst, tyO_dK, tyN_non, tyN_bl, tyN_int, tyN_str, tyN_ref, tyNs_lt, isB, upd_same, upd_upd, sizeLine_eq, List.mem_cons, String.reduceBEq, String.reduceEq, Bool.or_false, Bool.or_true, Bool.and_false, Bool.false_or, Bool.and_self, Bool.false_and, Bool.not_false, Bool.not_true, List.any_cons, List.any_nil, atI_0, setI_0, atI_1, setI_1, atI_2, setI_2, atI_3, setI_3, atI_4, setI_4, atI_5, setI_5, atI_6, setI_6, tAsg, gName, tOp, tUn, tVar, tC, tCons, L2.tNil, tRet, tIfS, tTest, tCB, tCall, rI, rI0, rU, tNext, tB, tAnd, tOr, tNot, tAndV, tOrV, tNotV, tDrop, tIf, tPar, gSub, rIxL, rIxT, rEq, rNe, rSetL, tBits,
    L2.start, List.map_cons, List.map_nil, List.cons_append, List.nil_append, List.append_nil, List.length_cons, List.length_nil, List.replicate, Nat.reduceAdd, Nat.reduceSub, Nat.zero_add, List.getElem?_cons_zero, List.getElem?_cons_succ, List.set_cons_zero, List.set_cons_succ,
    Option.some.injEq, exists_eq_left', exists_eq_left, V.int.injEq, V.bl.injEq, V.ref.injEq, V.str.injEq, List.cons.injEq, reduceCtorEq, and_true, true_and, false_and, and_false, exists_false, or_false, false_or, or_true, true_or, exists_const, CMul, CDiv, CPow, and_assoc, exists_and_left, exists_and_right, Int.reducePow, Int.reduceNeg, Int.reduceLT, Int.reduceLE, Nat.reducePow, Nat.reduceLT, Int.reduceToNat, gt_iff_lt, ge_iff_le, decide_eq_true_eq, Bool.not_eq_true', decide_eq_false_iff_not, scal, ↓reduceIte, Bool.false_eq_true]
      exact ⟨_, _, rfl, rfl, by omega, by omega⟩
    · rintro σ H' ⟨v, y, rfl, rfl, v0, v1⟩
      simp only [cx_K, decide_true, decide_false, reduceCtorEq, gTp, gCons, gNil, ca_0, ca_1, ca_2, ca_3, ca_4, ca_5, ca_6, ca_7, ca_8, ca_9, ca_10, ca_11, ca_12, ca_13, ca_14, ca_15, ca_16, ca_17, ca_18, ca_19, ca_20, ca_21, ca_22, ca_23, ca_24, ca_25, ca_26, ca_27, ca_28, ca_29, ca_30, not_true_eq_false, not_false_eq_true, Int.reduceEq, Nat.reduceEqDiff, Nat.reduceLeDiff, rGcd, V.ty.injEq, eq_self, List.not_mem_nil, beq_self_eq_true, HO.lst.injEq, HO.tup.injEq, tFor_eq, iRng1, iList, iTup, nat10, tSeq, rIxA, rSetA, rIsN, rIsT, tTp, tLs, itsO_tup, itsO_lst, tyO_tup, tyO_lst, tyO_dK, tyN_non, tyN_bl, tyN_int, tyN_str, tyN_ref, tyNs_lt, isB, upd_same, upd_upd, sizeLine_eq, List.mem_cons, String.reduceBEq, String.reduceEq, Bool.or_false, Bool.or_true, Bool.and_false, Bool.false_or, Bool.and_self, Bool.false_and, Bool.not_false, Bool.not_true, List.any_cons, List.any_nil, atI_0, setI_0, atI_1, setI_1, atI_2, setI_2, atI_3, setI_3, atI_4, setI_4, atI_5, setI_5, atI_6, setI_6, tAsg, gName, tOp, tUn, tVar, tC, tCons, L2.tNil, tRet, tIfS, tTest, tCB, tCall, rI, rI0, rU, tNext, tB, tAnd, tOr, tNot, tAndV, tOrV, tNotV, tDrop, tIf, tPar, gSub, rIxL, rIxT, rEq, rNe, rSetL, tBits,
    L2.start, List.map_cons, List.map_nil, List.cons_append, List.nil_append, List.append_nil, List.length_cons, List.length_nil, List.replicate, Nat.reduceAdd, Nat.reduceSub, Nat.zero_add, List.getElem?_cons_zero, List.getElem?_cons_succ, List.set_cons_zero, List.set_cons_succ,
    Option.some.injEq, exists_eq_left', exists_eq_left, V.int.injEq, V.bl.injEq, V.ref.injEq, V.str.injEq, List.cons.injEq, reduceCtorEq, and_true, true_and, false_and, and_false, exists_false, or_false, false_or, or_true, true_or, exists_const, CMul, CDiv, CPow, and_assoc, exists_and_left, exists_and_right, Int.reducePow, Int.reduceNeg, Int.reduceLT, Int.reduceLE, Nat.reducePow, Nat.reduceLT, Int.reduceToNat, gt_iff_lt, ge_iff_le, decide_eq_true_eq, Bool.not_eq_true', decide_eq_false_iff_not, scal, ↓reduceIte, Bool.false_eq_true]
      have kk := (kp.trans kp2).trans kp3
      exact ite2 (fun _ => k _ _ (by show Int.natAbs _ < _; omega) kk st3) (fun _ => k _ _ (by show Int.natAbs _ < _; omega) kk st3)
def spDFrac (K : PySem.W.Frag) (n : Nat) : Sp := fun vs H Q _ => ∃ (s : Addr), vs = [.ref s] ∧ Sto K H s ∧ ∀ a q H', Fq K H' n a q → Kp s H H' → Sto K H' s → Q (.ref a) H'
theorem nf01 : Nf (0, 1) := ⟨by decide, by decide⟩
theorem nf11 : Nf (1, 1) := ⟨by decide, by decide⟩
theorem nfm1 : Nf (-1, 1) := ⟨by decide, by decide⟩
theorem nf12 : Nf (1, 2) := ⟨by decide, by decide⟩
theorem nfm2 : Nf (-1, 2) := ⟨by decide, by decide⟩
theorem sz10 {x y : Int} (h1 : x.natAbs < 1024) (h2 : y.natAbs < 1024) : Sz 10 (x, y) := ⟨by show x.natAbs < _; omega, by show y.natAbs < _; omega⟩
abbrev sDFrac : Stmt := topS 46
theorem scDFrac : FnScope ["_law_store_here", "_law_spot", "_law_bottom"] ["_law_store_here"] (defScope sDFrac) := ⟨rfl, rfl, rfl, by decide +kernel, rfl, by decide +kernel, by decide +kernel⟩
theorem k_DFrac (T : Bt K mg) (D : Dfn K mg "_law_frac" sDFrac ["_law_store_here"]) (d__law_take : Kn P w K mg base 2 "_law_take" ["_law_store_here", "_law_many"] (spTake K)) (d__law_lowest : Kn P w K mg base 2 "_law_lowest" ["_law_top", "_law_bottom"] (spLowest K)) : Kn P w K mg base 3 "_law_frac" ["_law_store_here"] (spDFrac K 10) := by
  refine Kn.mk' D scDFrac (fun vs H Q E h => ?_) (fun f cdv A outer s H vs Q E hr h => ?_)
  · obtain ⟨s, rfl, _⟩ := h
    rfl
  obtain ⟨s, rfl, hS, k⟩ := h
  refine ⟨_, (pss_cons (ps_set (i := 1) scDFrac.nd rfl (.inl rfl) (pe_kn d__law_take hr (by rfl) (pa_cons (pv 0) (pa_cons pe_int pa_nil))))
      (pss_cons (ps_if (pt_cmpR op_lt (pv 1) pe_int (nomark _)) (pss_one (ps_ret (pe_ix ix_any (pe_ls (pa_cons (pe_tp (pa_cons pe_int (pa_cons pe_int pa_nil))) (pa_cons (pe_tp (pa_cons pe_int (pa_cons pe_int pa_nil))) (pa_cons (pe_tp (pa_cons (pe_un un_neg pe_int) (pa_cons pe_int pa_nil))) (pa_cons (pe_tp (pa_cons pe_int (pa_cons pe_int pa_nil))) (pa_cons (pe_tp (pa_cons (pe_un un_neg pe_int) (pa_cons pe_int pa_nil))) pa_nil)))))) (pv 1) (fun _ _ => rfl)))) pss_nil)
      (pss_cons (ps_set (i := 2) scDFrac.nd rfl (.inl rfl) (pe_op op_add pe_int (pe_kn d__law_take hr (by rfl) (pa_cons (pv 0) (pa_cons pe_int pa_nil)))))
      (pss_one (ps_ret (pe_kn d__law_lowest hr (by rfl) (pa_cons (pe_op op_sub (pe_kn d__law_take hr (by rfl) (pa_cons (pv 0) (pa_cons (pe_op op_add (pe_op op_mul pe_int (pv 2)) pe_int) pa_nil))) (pe_op op_mul pe_int (pv 2))) (pa_cons (pv 2) pa_nil)))))))), ?_⟩
  simp only [cx_K, decide_true, decide_false, reduceCtorEq, gTp, gCons, gNil, ca_0, ca_1, ca_2, ca_3, ca_4, ca_5, ca_6, ca_7, ca_8, ca_9, ca_10, ca_11, ca_12, ca_13, ca_14, ca_15, ca_16, ca_17, ca_18, ca_19, ca_20, ca_21, ca_22, ca_23, ca_24, ca_25, ca_26, ca_27, ca_28, ca_29, ca_30, not_true_eq_false, not_false_eq_true, Int.reduceEq, Nat.reduceEqDiff, Nat.reduceLeDiff, rGcd, V.ty.injEq, eq_self, List.not_mem_nil, beq_self_eq_true, HO.lst.injEq, HO.tup.injEq, tFor_eq, iRng1, iList, iTup, nat10, tSeq, rIxA, rSetA, rIsN, rIsT, tTp, tLs, itsO_tup, itsO_lst, tyO_tup, tyO_lst, tyO_dK, tyN_non, tyN_bl, tyN_int, tyN_str, tyN_ref, tyNs_lt, isB, upd_same, upd_upd, sizeLine_eq, List.mem_cons, String.reduceBEq, String.reduceEq, Bool.or_false, Bool.or_true, Bool.and_false, Bool.false_or, Bool.and_self, Bool.false_and, Bool.not_false, Bool.not_true, List.any_cons, List.any_nil, atI_0, setI_0, atI_1, setI_1, atI_2, setI_2, atI_3, setI_3, atI_4, setI_4, atI_5, setI_5, atI_6, setI_6, tAsg, gName, tOp, tUn, tVar, tC, tCons, L2.tNil, tRet, tIfS, tTest, tCB, tCall, rI, rI0, rU, tNext, tB, tAnd, tOr, tNot, tAndV, tOrV, tNotV, tDrop, tIf, tPar, gSub, rIxL, rIxT, rEq, rNe, rSetL, tBits,
    L2.start, List.map_cons, List.map_nil, List.cons_append, List.nil_append, List.append_nil, List.length_cons, List.length_nil, List.replicate, Nat.reduceAdd, Nat.reduceSub, Nat.zero_add, List.getElem?_cons_zero, List.getElem?_cons_succ, List.set_cons_zero, List.set_cons_succ,
    Option.some.injEq, exists_eq_left', exists_eq_left, V.int.injEq, V.bl.injEq, V.ref.injEq, V.str.injEq, List.cons.injEq, reduceCtorEq, and_true, true_and, false_and, and_false, exists_false, or_false, false_or, or_true, true_or, exists_const, CMul, CDiv, CPow, and_assoc, exists_and_left, exists_and_right, Int.reducePow, Int.reduceNeg, Int.reduceLT, Int.reduceLE, Nat.reducePow, Nat.reduceLT, Int.reduceToNat, gt_iff_lt, ge_iff_le, decide_eq_true_eq, Bool.not_eq_true', decide_eq_false_iff_not, scal, ↓reduceIte, Bool.false_eq_true]
  refine ⟨s, 12, rfl, hS, by omega, fun i H1 z0 z1 kp st => ?_⟩
  simp only [cx_K, decide_true, decide_false, reduceCtorEq, gTp, gCons, gNil, ca_0, ca_1, ca_2, ca_3, ca_4, ca_5, ca_6, ca_7, ca_8, ca_9, ca_10, ca_11, ca_12, ca_13, ca_14, ca_15, ca_16, ca_17, ca_18, ca_19, ca_20, ca_21, ca_22, ca_23, ca_24, ca_25, ca_26, ca_27, ca_28, ca_29, ca_30, not_true_eq_false, not_false_eq_true, Int.reduceEq, Nat.reduceEqDiff, Nat.reduceLeDiff, rGcd, V.ty.injEq, eq_self, List.not_mem_nil, beq_self_eq_true, HO.lst.injEq, HO.tup.injEq, tFor_eq, iRng1, iList, iTup, nat10, tSeq, rIxA, rSetA, rIsN, rIsT, tTp, tLs, itsO_tup, itsO_lst, tyO_tup, tyO_lst, tyO_dK, tyN_non, tyN_bl, tyN_int, tyN_str, tyN_ref, tyNs_lt, isB, upd_same, upd_upd, sizeLine_eq, List.mem_cons, String.reduceBEq, String.reduceEq, Bool.or_false, Bool.or_true, Bool.and_false, Bool.false_or, Bool.and_self, Bool.false_and, Bool.not_false, Bool.not_true, List.any_cons, List.any_nil, atI_0, setI_0, atI_1, setI_1, atI_2, setI_2, atI_3, setI_3, atI_4, setI_4, atI_5, setI_5, atI_6, setI_6, tAsg, gName, tOp, tUn, tVar, tC, tCons, L2.tNil, tRet, tIfS, tTest, tCB, tCall, rI, rI0, rU, tNext, tB, tAnd, tOr, tNot, tAndV, tOrV, tNotV, tDrop, tIf, tPar, gSub, rIxL, rIxT, rEq, rNe, rSetL, tBits,
    L2.start, List.map_cons, List.map_nil, List.cons_append, List.nil_append, List.append_nil, List.length_cons, List.length_nil, List.replicate, Nat.reduceAdd, Nat.reduceSub, Nat.zero_add, List.getElem?_cons_zero, List.getElem?_cons_succ, List.set_cons_zero, List.set_cons_succ,
    Option.some.injEq, exists_eq_left', exists_eq_left, V.int.injEq, V.bl.injEq, V.ref.injEq, V.str.injEq, List.cons.injEq, reduceCtorEq, and_true, true_and, false_and, and_false, exists_false, or_false, false_or, or_true, true_or, exists_const, CMul, CDiv, CPow, and_assoc, exists_and_left, exists_and_right, Int.reducePow, Int.reduceNeg, Int.reduceLT, Int.reduceLE, Nat.reducePow, Nat.reduceLT, Int.reduceToNat, gt_iff_lt, ge_iff_le, decide_eq_true_eq, Bool.not_eq_true', decide_eq_false_iff_not, scal, ↓reduceIte, Bool.false_eq_true]
  refine ite2 (fun h => ?_) (fun h => ?_)
  · intro p1 h1 k1 p2 h2 k2 p3 h3 k3 p4 h4 k4 p5 h5 k5 p6 h6 k6
    rw [ob_new k6]
    simp only [cx_K, decide_true, decide_false, reduceCtorEq, gTp, gCons, gNil, ca_0, ca_1, ca_2, ca_3, ca_4, ca_5, ca_6, ca_7, ca_8, ca_9, ca_10, ca_11, ca_12, ca_13, ca_14, ca_15, ca_16, ca_17, ca_18, ca_19, ca_20, ca_21, ca_22, ca_23, ca_24, ca_25, ca_26, ca_27, ca_28, ca_29, ca_30, not_true_eq_false, not_false_eq_true, Int.reduceEq, Nat.reduceEqDiff, Nat.reduceLeDiff, rGcd, V.ty.injEq, eq_self, List.not_mem_nil, beq_self_eq_true, HO.lst.injEq, HO.tup.injEq, tFor_eq, iRng1, iList, iTup, nat10, tSeq, rIxA, rSetA, rIsN, rIsT, tTp, tLs, itsO_tup, itsO_lst, tyO_tup, tyO_lst, tyO_dK, tyN_non, tyN_bl, tyN_int, tyN_str, tyN_ref, tyNs_lt, isB, upd_same, upd_upd, sizeLine_eq, List.mem_cons, String.reduceBEq, String.reduceEq, Bool.or_false, Bool.or_true, Bool.and_false, Bool.false_or, Bool.and_self, Bool.false_and, Bool.not_false, Bool.not_true, List.any_cons, List.any_nil, atI_0, setI_0, atI_1, setI_1, atI_2, setI_2, atI_3, setI_3, atI_4, setI_4, atI_5, setI_5, atI_6, setI_6, tAsg, gName, tOp, tUn, tVar, tC, tCons, L2.tNil, tRet, tIfS, tTest, tCB, tCall, rI, rI0, rU, tNext, tB, tAnd, tOr, tNot, tAndV, tOrV, tNotV, tDrop, tIf, tPar, gSub, rIxL, rIxT, rEq, rNe, rSetL, tBits,
    L2.start, List.map_cons, List.map_nil, List.cons_append, List.nil_append, List.append_nil, List.length_cons, List.length_nil, List.replicate, Nat.reduceAdd, Nat.reduceSub, Nat.zero_add, List.getElem?_cons_zero, List.getElem?_cons_succ, List.set_cons_zero, List.set_cons_succ,
    Option.some.injEq, exists_eq_left', exists_eq_left, V.int.injEq, V.bl.injEq, V.ref.injEq, V.str.injEq, List.cons.injEq, reduceCtorEq, and_true, true_and, false_and, and_false, exists_false, or_false, false_or, or_true, true_or, exists_const, CMul, CDiv, CPow, and_assoc, exists_and_left, exists_and_right, Int.reducePow, Int.reduceNeg, Int.reduceLT, Int.reduceLE, Nat.reducePow, Nat.reduceLT, Int.reduceToNat, gt_iff_lt, ge_iff_le, decide_eq_true_eq, Bool.not_eq_true', decide_eq_false_iff_not, scal, ↓reduceIte, Bool.false_eq_true]
    refine menu z0 (by simpa using h) fun v hv => ?_
    simp only [List.mem_cons, List.not_mem_nil, or_false] at hv
    rcases hv with rfl | rfl | rfl | rfl | rfl
    · exact k _ _ _ ⟨ob_same ((Same.new h2 _).trans ((Same.new h3 _).trans ((Same.new h4 _).trans ((Same.new h5 _).trans (Same.new h6 _))))) (ob_new k1), nf01, sz10 (by decide) (by decide)⟩ (kp.trans (Kp.same ((Same.new h1 _).trans ((Same.new h2 _).trans ((Same.new h3 _).trans ((Same.new h4 _).trans ((Same.new h5 _).trans (Same.new h6 _)))))))) (st.same ((Same.new h1 _).trans ((Same.new h2 _).trans ((Same.new h3 _).trans ((Same.new h4 _).trans ((Same.new h5 _).trans (Same.new h6 _)))))))
    · exact k _ _ _ ⟨ob_same ((Same.new h3 _).trans ((Same.new h4 _).trans ((Same.new h5 _).trans (Same.new h6 _)))) (ob_new k2), nf11, sz10 (by decide) (by decide)⟩ (kp.trans (Kp.same ((Same.new h1 _).trans ((Same.new h2 _).trans ((Same.new h3 _).trans ((Same.new h4 _).trans ((Same.new h5 _).trans (Same.new h6 _)))))))) (st.same ((Same.new h1 _).trans ((Same.new h2 _).trans ((Same.new h3 _).trans ((Same.new h4 _).trans ((Same.new h5 _).trans (Same.new h6 _)))))))
    · exact k _ _ _ ⟨ob_same ((Same.new h4 _).trans ((Same.new h5 _).trans (Same.new h6 _))) (ob_new k3), nfm1, sz10 (by decide) (by decide)⟩ (kp.trans (Kp.same ((Same.new h1 _).trans ((Same.new h2 _).trans ((Same.new h3 _).trans ((Same.new h4 _).trans ((Same.new h5 _).trans (Same.new h6 _)))))))) (st.same ((Same.new h1 _).trans ((Same.new h2 _).trans ((Same.new h3 _).trans ((Same.new h4 _).trans ((Same.new h5 _).trans (Same.new h6 _)))))))
    · exact k _ _ _ ⟨ob_same ((Same.new h5 _).trans (Same.new h6 _)) (ob_new k4), nf12, sz10 (by decide) (by decide)⟩ (kp.trans (Kp.same ((Same.new h1 _).trans ((Same.new h2 _).trans ((Same.new h3 _).trans ((Same.new h4 _).trans ((Same.new h5 _).trans (Same.new h6 _)))))))) (st.same ((Same.new h1 _).trans ((Same.new h2 _).trans ((Same.new h3 _).trans ((Same.new h4 _).trans ((Same.new h5 _).trans (Same.new h6 _)))))))
    · exact k _ _ _ ⟨ob_same (Same.new h6 _) (ob_new k5), nfm2, sz10 (by decide) (by decide)⟩ (kp.trans (Kp.same ((Same.new h1 _).trans ((Same.new h2 _).trans ((Same.new h3 _).trans ((Same.new h4 _).trans ((Same.new h5 _).trans (Same.new h6 _)))))))) (st.same ((Same.new h1 _).trans ((Same.new h2 _).trans ((Same.new h3 _).trans ((Same.new h4 _).trans ((Same.new h5 _).trans (Same.new h6 _)))))))
  · refine ⟨s, 12, rfl, st, by omega, fun j H2 j0 j1 kp2 st2 => ?_⟩
    simp only [cx_K, decide_true, decide_false, reduceCtorEq, gTp, gCons, gNil, ca_0, ca_1, ca_2, ca_3, ca_4, ca_5, ca_6, ca_7, ca_8, ca_9, ca_10, ca_11, ca_12, ca_13, ca_14, ca_15, ca_16, ca_17, ca_18, ca_19, ca_20, ca_21, ca_22, ca_23, ca_24, ca_25, ca_26, ca_27, ca_28, ca_29, ca_30, not_true_eq_false, not_false_eq_true, Int.reduceEq, Nat.reduceEqDiff, Nat.reduceLeDiff, rGcd, V.ty.injEq, eq_self, List.not_mem_nil, beq_self_eq_true, HO.lst.injEq, HO.tup.injEq, tFor_eq, iRng1, iList, iTup, nat10, tSeq, rIxA, rSetA, rIsN, rIsT, tTp, tLs, itsO_tup, itsO_lst, tyO_tup, tyO_lst, tyO_dK, tyN_non, tyN_bl, tyN_int, tyN_str, tyN_ref, tyNs_lt, isB, upd_same, upd_upd, sizeLine_eq, List.mem_cons, String.reduceBEq, String.reduceEq, Bool.or_false, Bool.or_true, Bool.and_false, Bool.false_or, Bool.and_self, Bool.false_and, Bool.not_false, Bool.not_true, List.any_cons, List.any_nil, atI_0, setI_0, atI_1, setI_1, atI_2, setI_2, atI_3, setI_3, atI_4, setI_4, atI_5, setI_5, atI_6, setI_6, tAsg, gName, tOp, tUn, tVar, tC, tCons, L2.tNil, tRet, tIfS, tTest, tCB, tCall, rI, rI0, rU, tNext, tB, tAnd, tOr, tNot, tAndV, tOrV, tNotV, tDrop, tIf, tPar, gSub, rIxL, rIxT, rEq, rNe, rSetL, tBits,
    L2.start, List.map_cons, List.map_nil, List.cons_append, List.nil_append, List.append_nil, List.length_cons, List.length_nil, List.replicate, Nat.reduceAdd, Nat.reduceSub, Nat.zero_add, List.getElem?_cons_zero, List.getElem?_cons_succ, List.set_cons_zero, List.set_cons_succ,
    Option.some.injEq, exists_eq_left', exists_eq_left, V.int.injEq, V.bl.injEq, V.ref.injEq, V.str.injEq, List.cons.injEq, reduceCtorEq, and_true, true_and, false_and, and_false, exists_false, or_false, false_or, or_true, true_or, exists_const, CMul, CDiv, CPow, and_assoc, exists_and_left, exists_and_right, Int.reducePow, Int.reduceNeg, Int.reduceLT, Int.reduceLE, Nat.reducePow, Nat.reduceLT, Int.reduceToNat, gt_iff_lt, ge_iff_le, decide_eq_true_eq, Bool.not_eq_true', decide_eq_false_iff_not, scal, ↓reduceIte, Bool.false_eq_true]
    refine ⟨s, _, rfl, st2, by omega, fun m H3 m0 m1 kp3 st3 => ?_⟩
    simp only [cx_K, decide_true, decide_false, reduceCtorEq, gTp, gCons, gNil, ca_0, ca_1, ca_2, ca_3, ca_4, ca_5, ca_6, ca_7, ca_8, ca_9, ca_10, ca_11, ca_12, ca_13, ca_14, ca_15, ca_16, ca_17, ca_18, ca_19, ca_20, ca_21, ca_22, ca_23, ca_24, ca_25, ca_26, ca_27, ca_28, ca_29, ca_30, not_true_eq_false, not_false_eq_true, Int.reduceEq, Nat.reduceEqDiff, Nat.reduceLeDiff, rGcd, V.ty.injEq, eq_self, List.not_mem_nil, beq_self_eq_true, HO.lst.injEq, HO.tup.injEq, tFor_eq, iRng1, iList, iTup, nat10, tSeq, rIxA, rSetA, rIsN, rIsT, tTp, tLs, itsO_tup, itsO_lst, tyO_tup, tyO_lst, tyO_dK, tyN_non, tyN_bl, tyN_int, tyN_str, tyN_ref, tyNs_lt, isB, upd_same, upd_upd, sizeLine_eq, List.mem_cons, String.reduceBEq, String.reduceEq, Bool.or_false, Bool.or_true, Bool.and_false, Bool.false_or, Bool.and_self, Bool.false_and, Bool.not_false, Bool.not_true, List.any_cons, List.any_nil, atI_0, setI_0, atI_1, setI_1, atI_2, setI_2, atI_3, setI_3, atI_4, setI_4, atI_5, setI_5, atI_6, setI_6, tAsg, gName, tOp, tUn, tVar, tC, tCons, L2.tNil, tRet, tIfS, tTest, tCB, tCall, rI, rI0, rU, tNext, tB, tAnd, tOr, tNot, tAndV, tOrV, tNotV, tDrop, tIf, tPar, gSub, rIxL, rIxT, rEq, rNe, rSetL, tBits,
    L2.start, List.map_cons, List.map_nil, List.cons_append, List.nil_append, List.append_nil, List.length_cons, List.length_nil, List.replicate, Nat.reduceAdd, Nat.reduceSub, Nat.zero_add, List.getElem?_cons_zero, List.getElem?_cons_succ, List.set_cons_zero, List.set_cons_succ,
    Option.some.injEq, exists_eq_left', exists_eq_left, V.int.injEq, V.bl.injEq, V.ref.injEq, V.str.injEq, List.cons.injEq, reduceCtorEq, and_true, true_and, false_and, and_false, exists_false, or_false, false_or, or_true, true_or, exists_const, CMul, CDiv, CPow, and_assoc, exists_and_left, exists_and_right, Int.reducePow, Int.reduceNeg, Int.reduceLT, Int.reduceLE, Nat.reducePow, Nat.reduceLT, Int.reduceToNat, gt_iff_lt, ge_iff_le, decide_eq_true_eq, Bool.not_eq_true', decide_eq_false_iff_not, scal, ↓reduceIte, Bool.false_eq_true]
    refine ⟨_, _, rfl, ?_, fun q hq p H4 s4 o4 => ?_⟩
    · have e : 2 ^ 10 ≤ 2 ^ 8000 := Nat.pow_le_pow_right (by omega) (by omega)
      omega
    · have hI := hq.2 (show 1 + j ≠ 0 by omega)
      exact k p q H4 ⟨o4, hI.1, is_sz (by omega) hI (by omega) (by omega)⟩ (((kp.trans kp2).trans kp3).trans (Kp.same s4)) (st3.same s4)
abbrev sDFracW : Stmt := topS 47
theorem scDFracW : FnScope ["_law_store_here", "_law_spot"] ["_law_store_here"] (defScope sDFracW) := ⟨rfl, rfl, rfl, by decide +kernel, rfl, by decide +kernel, by decide +kernel⟩
theorem k_DFracW (T : Bt K mg) (D : Dfn K mg "_law_frac_wide" sDFracW ["_law_store_here"]) (d__law_take : Kn P w K mg base 2 "_law_take" ["_law_store_here", "_law_many"] (spTake K)) (d__law_lowest : Kn P w K mg base 2 "_law_lowest" ["_law_top", "_law_bottom"] (spLowest K)) (d__law_great : Kn P w K mg base 3 "_law_great" ["_law_store_here"] (spInt K fun n => n.natAbs < 2 ^ 133)) (d__law_whole : Kn P w K mg base 3 "_law_whole" ["_law_store_here", "_law_reach"] (spLInt K)) (d__law_frac : Kn P w K mg base 3 "_law_frac" ["_law_store_here"] (spDFrac K 10)) : Kn P w K mg base 4 "_law_frac_wide" ["_law_store_here"] (spDFrac K 133) := by
  refine Kn.mk' D scDFracW (fun vs H Q E h => ?_) (fun f cdv A outer s H vs Q E hr h => ?_)
  · obtain ⟨s, rfl, _⟩ := h
    rfl
  obtain ⟨s, rfl, hS, k⟩ := h
  refine ⟨_, (pss_cons (ps_set (i := 1) scDFracW.nd rfl (.inl rfl) (pe_kn d__law_take hr (by rfl) (pa_cons (pv 0) (pa_cons pe_int pa_nil))))
      (pss_cons (ps_if (pt_cmpR op_eq (pv 1) pe_int (nomark _)) (pss_one (ps_ret (pe_kn d__law_lowest hr (by rfl) (pa_cons (pe_kn d__law_great hr (by rfl) (pa_cons (pv 0) pa_nil)) (pa_cons (pe_callB (call_max2 rfl) (by rfl) T.b_max (by decide +kernel) (pa_cons pe_int (pa_cons (pe_callB call_abs (by rfl) T.b_abs (by decide +kernel) (pa_cons (pe_kn d__law_great hr (by rfl) (pa_cons (pv 0) pa_nil)) pa_nil)) pa_nil))) pa_nil))))) pss_nil)
      (pss_cons (ps_if (pt_cmpR op_eq (pv 1) pe_int (nomark _)) (pss_one (ps_ret (pe_kn d__law_lowest hr (by rfl) (pa_cons (pe_kn d__law_whole hr (by rfl) (pa_cons (pv 0) (pa_cons (pe_op op_pow pe_int pe_int) pa_nil))) (pa_cons (pe_op op_add pe_int (pe_kn d__law_take hr (by rfl) (pa_cons (pv 0) (pa_cons pe_int pa_nil)))) pa_nil))))) pss_nil)
      (pss_one (ps_ret (pe_kn d__law_frac hr (by rfl) (pa_cons (pv 0) pa_nil))))))), ?_⟩
  simp only [cx_K, decide_true, decide_false, reduceCtorEq, gTp, gCons, gNil, ca_0, ca_1, ca_2, ca_3, ca_4, ca_5, ca_6, ca_7, ca_8, ca_9, ca_10, ca_11, ca_12, ca_13, ca_14, ca_15, ca_16, ca_17, ca_18, ca_19, ca_20, ca_21, ca_22, ca_23, ca_24, ca_25, ca_26, ca_27, ca_28, ca_29, ca_30, not_true_eq_false, not_false_eq_true, Int.reduceEq, Nat.reduceEqDiff, Nat.reduceLeDiff, rGcd, V.ty.injEq, eq_self, List.not_mem_nil, beq_self_eq_true, HO.lst.injEq, HO.tup.injEq, tFor_eq, iRng1, iList, iTup, nat10, tSeq, rIxA, rSetA, rIsN, rIsT, tTp, tLs, itsO_tup, itsO_lst, tyO_tup, tyO_lst, tyO_dK, tyN_non, tyN_bl, tyN_int, tyN_str, tyN_ref, tyNs_lt, isB, upd_same, upd_upd, sizeLine_eq, List.mem_cons, String.reduceBEq, String.reduceEq, Bool.or_false, Bool.or_true, Bool.and_false, Bool.false_or, Bool.and_self, Bool.false_and, Bool.not_false, Bool.not_true, List.any_cons, List.any_nil, atI_0, setI_0, atI_1, setI_1, atI_2, setI_2, atI_3, setI_3, atI_4, setI_4, atI_5, setI_5, atI_6, setI_6, tAsg, gName, tOp, tUn, tVar, tC, tCons, L2.tNil, tRet, tIfS, tTest, tCB, tCall, rI, rI0, rU, tNext, tB, tAnd, tOr, tNot, tAndV, tOrV, tNotV, tDrop, tIf, tPar, gSub, rIxL, rIxT, rEq, rNe, rSetL, tBits,
    L2.start, List.map_cons, List.map_nil, List.cons_append, List.nil_append, List.append_nil, List.length_cons, List.length_nil, List.replicate, Nat.reduceAdd, Nat.reduceSub, Nat.zero_add, List.getElem?_cons_zero, List.getElem?_cons_succ, List.set_cons_zero, List.set_cons_succ,
    Option.some.injEq, exists_eq_left', exists_eq_left, V.int.injEq, V.bl.injEq, V.ref.injEq, V.str.injEq, List.cons.injEq, reduceCtorEq, and_true, true_and, false_and, and_false, exists_false, or_false, false_or, or_true, true_or, exists_const, CMul, CDiv, CPow, and_assoc, exists_and_left, exists_and_right, Int.reducePow, Int.reduceNeg, Int.reduceLT, Int.reduceLE, Nat.reducePow, Nat.reduceLT, Int.reduceToNat, gt_iff_lt, ge_iff_le, decide_eq_true_eq, Bool.not_eq_true', decide_eq_false_iff_not, scal, ↓reduceIte, Bool.false_eq_true]
  refine ⟨s, 8, rfl, hS, by omega, fun i H1 z0 z1 kp st => ?_⟩
  simp only [cx_K, decide_true, decide_false, reduceCtorEq, gTp, gCons, gNil, ca_0, ca_1, ca_2, ca_3, ca_4, ca_5, ca_6, ca_7, ca_8, ca_9, ca_10, ca_11, ca_12, ca_13, ca_14, ca_15, ca_16, ca_17, ca_18, ca_19, ca_20, ca_21, ca_22, ca_23, ca_24, ca_25, ca_26, ca_27, ca_28, ca_29, ca_30, not_true_eq_false, not_false_eq_true, Int.reduceEq, Nat.reduceEqDiff, Nat.reduceLeDiff, rGcd, V.ty.injEq, eq_self, List.not_mem_nil, beq_self_eq_true, HO.lst.injEq, HO.tup.injEq, tFor_eq, iRng1, iList, iTup, nat10, tSeq, rIxA, rSetA, rIsN, rIsT, tTp, tLs, itsO_tup, itsO_lst, tyO_tup, tyO_lst, tyO_dK, tyN_non, tyN_bl, tyN_int, tyN_str, tyN_ref, tyNs_lt, isB, upd_same, upd_upd, sizeLine_eq, List.mem_cons, String.reduceBEq, String.reduceEq, Bool.or_false, Bool.or_true, Bool.and_false, Bool.false_or, Bool.and_self, Bool.false_and, Bool.not_false, Bool.not_true, List.any_cons, List.any_nil, atI_0, setI_0, atI_1, setI_1, atI_2, setI_2, atI_3, setI_3, atI_4, setI_4, atI_5, setI_5, atI_6, setI_6, tAsg, gName, tOp, tUn, tVar, tC, tCons, L2.tNil, tRet, tIfS, tTest, tCB, tCall, rI, rI0, rU, tNext, tB, tAnd, tOr, tNot, tAndV, tOrV, tNotV, tDrop, tIf, tPar, gSub, rIxL, rIxT, rEq, rNe, rSetL, tBits,
    L2.start, List.map_cons, List.map_nil, List.cons_append, List.nil_append, List.append_nil, List.length_cons, List.length_nil, List.replicate, Nat.reduceAdd, Nat.reduceSub, Nat.zero_add, List.getElem?_cons_zero, List.getElem?_cons_succ, List.set_cons_zero, List.set_cons_succ,
    Option.some.injEq, exists_eq_left', exists_eq_left, V.int.injEq, V.bl.injEq, V.ref.injEq, V.str.injEq, List.cons.injEq, reduceCtorEq, and_true, true_and, false_and, and_false, exists_false, or_false, false_or, or_true, true_or, exists_const, CMul, CDiv, CPow, and_assoc, exists_and_left, exists_and_right, Int.reducePow, Int.reduceNeg, Int.reduceLT, Int.reduceLE, Nat.reducePow, Nat.reduceLT, Int.reduceToNat, gt_iff_lt, ge_iff_le, decide_eq_true_eq, Bool.not_eq_true', decide_eq_false_iff_not, scal, ↓reduceIte, Bool.false_eq_true]
  have big : 2 ^ 133 ≤ 2 ^ 8000 := Nat.pow_le_pow_right (by omega) (by omega)
  refine ite2 (fun h => ?_) (fun h => ite2 (fun h' => ?_) (fun h' => ?_))
  · refine ⟨s, rfl, st, fun t H2 ht kp2 st2 => ⟨s, rfl, st2, fun b H3 hb kp3 st3 => ?_⟩⟩
    simp only [abs_if, cx_K, decide_true, decide_false, reduceCtorEq, gTp, gCons, gNil, ca_0, ca_1, ca_2, ca_3, ca_4, ca_5, ca_6, ca_7, ca_8, ca_9, ca_10, ca_11, ca_12, ca_13, ca_14, ca_15, ca_16, ca_17, ca_18, ca_19, ca_20, ca_21, ca_22, ca_23, ca_24, ca_25, ca_26, ca_27, ca_28, ca_29, ca_30, not_true_eq_false, not_false_eq_true, Int.reduceEq, Nat.reduceEqDiff, Nat.reduceLeDiff, rGcd, V.ty.injEq, eq_self, List.not_mem_nil, beq_self_eq_true, HO.lst.injEq, HO.tup.injEq, tFor_eq, iRng1, iList, iTup, nat10, tSeq, rIxA, rSetA, rIsN, rIsT, tTp, tLs, itsO_tup, itsO_lst, tyO_tup, tyO_lst, tyO_dK, tyN_non, tyN_bl, tyN_int, tyN_str, tyN_ref, tyNs_lt, isB, upd_same, upd_upd, sizeLine_eq, List.mem_cons, String.reduceBEq, String.reduceEq, Bool.or_false, Bool.or_true, Bool.and_false, Bool.false_or, Bool.and_self, Bool.false_and, Bool.not_false, Bool.not_true, List.any_cons, List.any_nil, atI_0, setI_0, atI_1, setI_1, atI_2, setI_2, atI_3, setI_3, atI_4, setI_4, atI_5, setI_5, atI_6, setI_6, tAsg, gName, tOp, tUn, tVar, tC, tCons, L2.tNil, tRet, tIfS, tTest, tCB, tCall, rI, rI0, rU, tNext, tB, tAnd, tOr, tNot, tAndV, tOrV, tNotV, tDrop, tIf, tPar, gSub, rIxL, rIxT, rEq, rNe, rSetL, tBits,
    L2.start, List.map_cons, List.map_nil, List.cons_append, List.nil_append, List.append_nil, List.length_cons, List.length_nil, List.replicate, Nat.reduceAdd, Nat.reduceSub, Nat.zero_add, List.getElem?_cons_zero, List.getElem?_cons_succ, List.set_cons_zero, List.set_cons_succ,
    Option.some.injEq, exists_eq_left', exists_eq_left, V.int.injEq, V.bl.injEq, V.ref.injEq, V.str.injEq, List.cons.injEq, reduceCtorEq, and_true, true_and, false_and, and_false, exists_false, or_false, false_or, or_true, true_or, exists_const, CMul, CDiv, CPow, and_assoc, exists_and_left, exists_and_right, Int.reducePow, Int.reduceNeg, Int.reduceLT, Int.reduceLE, Nat.reducePow, Nat.reduceLT, Int.reduceToNat, gt_iff_lt, ge_iff_le, decide_eq_true_eq, Bool.not_eq_true', decide_eq_false_iff_not, scal, ↓reduceIte, Bool.false_eq_true]
    have hd : (if 1 < (b.natAbs : Int) then (b.natAbs : Int) else 1) ≠ 0 ∧ (if 1 < (b.natAbs : Int) then (b.natAbs : Int) else 1).natAbs < 2 ^ 133 := by
      have hb' : b.natAbs < 2 ^ 133 := hb
      split <;> refine ⟨by omega, by omega⟩
    generalize (if 1 < (b.natAbs : Int) then (b.natAbs : Int) else 1) = d at hd ⊢
    refine ⟨_, _, rfl, by omega, fun q hq p H4 s4 o4 => ?_⟩
    have hI := hq.2 hd.1
    exact k p q H4 ⟨o4, hI.1, is_sz hd.1 hI ht hd.2⟩ (((kp.trans kp2).trans kp3).trans (Kp.same s4)) (st3.same s4)
  · refine ⟨s, _, rfl, st, by omega, by omega, fun t H2 t0 t1 kp2 st2 => ⟨s, 1000, rfl, st2, by omega, fun b H3 b0 b1 kp3 st3 => ?_⟩⟩
    simp only [cx_K, decide_true, decide_false, reduceCtorEq, gTp, gCons, gNil, ca_0, ca_1, ca_2, ca_3, ca_4, ca_5, ca_6, ca_7, ca_8, ca_9, ca_10, ca_11, ca_12, ca_13, ca_14, ca_15, ca_16, ca_17, ca_18, ca_19, ca_20, ca_21, ca_22, ca_23, ca_24, ca_25, ca_26, ca_27, ca_28, ca_29, ca_30, not_true_eq_false, not_false_eq_true, Int.reduceEq, Nat.reduceEqDiff, Nat.reduceLeDiff, rGcd, V.ty.injEq, eq_self, List.not_mem_nil, beq_self_eq_true, HO.lst.injEq, HO.tup.injEq, tFor_eq, iRng1, iList, iTup, nat10, tSeq, rIxA, rSetA, rIsN, rIsT, tTp, tLs, itsO_tup, itsO_lst, tyO_tup, tyO_lst, tyO_dK, tyN_non, tyN_bl, tyN_int, tyN_str, tyN_ref, tyNs_lt, isB, upd_same, upd_upd, sizeLine_eq, List.mem_cons, String.reduceBEq, String.reduceEq, Bool.or_false, Bool.or_true, Bool.and_false, Bool.false_or, Bool.and_self, Bool.false_and, Bool.not_false, Bool.not_true, List.any_cons, List.any_nil, atI_0, setI_0, atI_1, setI_1, atI_2, setI_2, atI_3, setI_3, atI_4, setI_4, atI_5, setI_5, atI_6, setI_6, tAsg, gName, tOp, tUn, tVar, tC, tCons, L2.tNil, tRet, tIfS, tTest, tCB, tCall, rI, rI0, rU, tNext, tB, tAnd, tOr, tNot, tAndV, tOrV, tNotV, tDrop, tIf, tPar, gSub, rIxL, rIxT, rEq, rNe, rSetL, tBits,
    L2.start, List.map_cons, List.map_nil, List.cons_append, List.nil_append, List.append_nil, List.length_cons, List.length_nil, List.replicate, Nat.reduceAdd, Nat.reduceSub, Nat.zero_add, List.getElem?_cons_zero, List.getElem?_cons_succ, List.set_cons_zero, List.set_cons_succ,
    Option.some.injEq, exists_eq_left', exists_eq_left, V.int.injEq, V.bl.injEq, V.ref.injEq, V.str.injEq, List.cons.injEq, reduceCtorEq, and_true, true_and, false_and, and_false, exists_false, or_false, false_or, or_true, true_or, exists_const, CMul, CDiv, CPow, and_assoc, exists_and_left, exists_and_right, Int.reducePow, Int.reduceNeg, Int.reduceLT, Int.reduceLE, Nat.reducePow, Nat.reduceLT, Int.reduceToNat, gt_iff_lt, ge_iff_le, decide_eq_true_eq, Bool.not_eq_true', decide_eq_false_iff_not, scal, ↓reduceIte, Bool.false_eq_true]
    refine ⟨_, _, rfl, by omega, fun q hq p H4 s4 o4 => ?_⟩
    have hI := hq.2 (show 1 + b ≠ 0 by omega)
    exact k p q H4 ⟨o4, hI.1, is_sz (by omega) hI (by omega) (by omega)⟩ (((kp.trans kp2).trans kp3).trans (Kp.same s4)) (st3.same s4)
  · exact ⟨s, rfl, st, fun a q H2 hq kp2 st2 => k a q H2 (hq.mono (by omega)) (kp.trans kp2) st2⟩
/-- the script, read alone -/
def spStore (K : PySem.W.Frag) : Sp := fun vs H Q _ => ∃ (a : Addr) (ns : List Int), vs = [.ref a] ∧ SqL K H a (ns.map V.int) ∧ ∀ s H', Same H H' → Sto K H' s → Q (.ref s) H'
def StoreI (a : Addr) (H : Hp) (_ : Nat) (σ : L2.St) (H' : Hp) : Prop := ∃ (v : Int) (y : Option V), σ = [some (.ref a), some (.int v), y] ∧ H' = H
abbrev sStore : Stmt := topS 35
theorem scStore : FnScope ["_law_script", "_law_seed", "_law_cell"] ["_law_script"] (defScope sStore) := ⟨rfl, rfl, rfl, by decide +kernel, rfl, by decide +kernel, by decide +kernel⟩
theorem k_Store (T : Bt K mg) (D : Dfn K mg "_law_store" sStore ["_law_script"]) : Kn P w K mg base 1 "_law_store" ["_law_script"] (spStore K) := by
  refine Kn.mk' D scStore (fun vs H Q E h => ?_) (fun f cdv A outer s H vs Q E hr h => ?_)
  · obtain ⟨a, ns, rfl, _⟩ := h
    rfl
  obtain ⟨a, ns, rfl, hS, k⟩ := h
  refine ⟨_, (pss_cons (ps_set (i := 1) scStore.nd rfl (.inl rfl) (pe_op op_add (pe_callB call_len_seq (by rfl) T.b_len PySem.boot_len (pa_cons (pv 0) pa_nil)) pe_int))
      (pss_cons (ps_for PassesOwn.never rfl (pi_list (pv 0)) (pg_name (i := 2) scStore.nd rfl (.inl rfl)) (pss_one (ps_set (i := 1) scStore.nd rfl (.inl rfl) (pe_op op_mod (pe_op op_add (pe_op op_add (pe_op op_mul (pv 1) pe_int) (pe_op op_mod (pe_callTy call_int1 (by rfl) T.b_int (by decide +kernel) (pa_cons (pv 2) pa_nil)) pe_int)) pe_int) pe_int))))
      (pss_one (ps_ret (pe_ls (pa_cons (pe_callTy call_listK (by rfl) T.b_list (by decide +kernel) (pa_cons (pv 0) pa_nil)) (pa_cons pe_int (pa_cons pe_int (pa_cons pe_int (pa_cons (pv 1) (pa_cons pe_int (pa_cons pe_int pa_nil)))))))))))), ?_⟩
  simp only [cx_K, decide_true, decide_false, reduceCtorEq, gTp, gCons, gNil, ca_0, ca_1, ca_2, ca_3, ca_4, ca_5, ca_6, ca_7, ca_8, ca_9, ca_10, ca_11, ca_12, ca_13, ca_14, ca_15, ca_16, ca_17, ca_18, ca_19, ca_20, ca_21, ca_22, ca_23, ca_24, ca_25, ca_26, ca_27, ca_28, ca_29, ca_30, not_true_eq_false, not_false_eq_true, Int.reduceEq, Nat.reduceEqDiff, Nat.reduceLeDiff, rGcd, V.ty.injEq, eq_self, List.not_mem_nil, beq_self_eq_true, HO.lst.injEq, HO.tup.injEq, tFor_eq, iRng1, iList, iTup, nat10, tSeq, rIxA, rSetA, rIsN, rIsT, tTp, tLs, itsO_tup, itsO_lst, tyO_tup, tyO_lst, tyO_dK, tyN_non, tyN_bl, tyN_int, tyN_str, tyN_ref, tyNs_lt, isB, upd_same, upd_upd, sizeLine_eq, List.mem_cons, String.reduceBEq, String.reduceEq, Bool.or_false, Bool.or_true, Bool.and_false, Bool.false_or, Bool.and_self, Bool.false_and, Bool.not_false, Bool.not_true, List.any_cons, List.any_nil, atI_0, setI_0, atI_1, setI_1, atI_2, setI_2, atI_3, setI_3, atI_4, setI_4, atI_5, setI_5, atI_6, setI_6, tAsg, gName, tOp, tUn, tVar, tC, tCons, L2.tNil, tRet, tIfS, tTest, tCB, tCall, rI, rI0, rU, tNext, tB, tAnd, tOr, tNot, tAndV, tOrV, tNotV, tDrop, tIf, tPar, gSub, rIxL, rIxT, rEq, rNe, rSetL, tBits,
    L2.start, List.map_cons, List.map_nil, List.cons_append, List.nil_append, List.append_nil, List.length_cons, List.length_nil, List.replicate, Nat.reduceAdd, Nat.reduceSub, Nat.zero_add, List.getElem?_cons_zero, List.getElem?_cons_succ, List.set_cons_zero, List.set_cons_succ,
    Option.some.injEq, exists_eq_left', exists_eq_left, V.int.injEq, V.bl.injEq, V.ref.injEq, V.str.injEq, List.cons.injEq, reduceCtorEq, and_true, true_and, false_and, and_false, exists_false, or_false, false_or, or_true, true_or, exists_const, CMul, CDiv, CPow, and_assoc, exists_and_left, exists_and_right, Int.reducePow, Int.reduceNeg, Int.reduceLT, Int.reduceLE, Nat.reducePow, Nat.reduceLT, Int.reduceToNat, gt_iff_lt, ge_iff_le, decide_eq_true_eq, Bool.not_eq_true', decide_eq_false_iff_not, scal, ↓reduceIte, Bool.false_eq_true]
  refine ⟨_, .inl hS, ⟨_, hS⟩, forI_list (xs := ns.map V.int) (StoreI a H) ⟨_, none, rfl, rfl⟩ ?_ ?_ ?_⟩
  · rintro i σ H' _ ⟨v, y, rfl, rfl⟩
    exact hS
  · rintro i x σ H' hi ⟨v, y, rfl, rfl⟩
    obtain ⟨z, rfl⟩ : ∃ z, x = V.int z := by
      rw [List.getElem?_map] at hi
      cases e : ns[i]? with
      | none => rw [e] at hi; cases hi
      | some z => rw [e] at hi; exact ⟨z, (Option.some.inj hi).symm⟩
    simp only [cx_K, decide_true, decide_false, reduceCtorEq, gTp, gCons, gNil, ca_0, ca_1, ca_2, ca_3, ca_4, ca_5, ca_6, ca_7, ca_8, ca_9, ca_10, ca_11, ca_12, ca_13, ca_14, ca_15, ca_16, ca_17, ca_18, ca_19, ca_20, ca_21, ca_22, ca_23, ca_24, ca_25, ca_26, ca_27, ca_28, ca_29, ca_30, not_true_eq_false, not_false_eq_true, Int.reduceEq, Nat.reduceEqDiff, Nat.reduceLeDiff, rGcd, V.ty.injEq, eq_self, List.not_mem_nil, beq_self_eq_true, HO.lst.injEq, HO.tup.injEq, tFor_eq, iRng1, iList, iTup, nat10, tSeq, rIxA, rSetA, rIsN, rIsT, tTp, tLs, itsO_tup, itsO_lst, tyO_tup, tyO_lst, tyO_dK, tyN_non, tyN_bl, tyN_int, tyN_str, tyN_ref, tyNs_lt, isB, upd_same, upd_upd, sizeLine_eq, List.mem_cons, String.reduceBEq, String.reduceEq, Bool.or_false, Bool.or_true, Bool.and_false, Bool.false_or, Bool.and_self, Bool.false_and, Bool.not_false, Bool.not_true, List.any_cons, List.any_nil, atI_0, setI_0, atI_1, setI_1, atI_2, setI_2, atI_3, setI_3, atI_4, setI_4, atI_5, setI_5, atI_6, setI_6, tAsg, gName, tOp, tUn, tVar, tC, tCons, L2.tNil, tRet, tIfS, tTest, tCB, tCall, rI, rI0, rU, tNext, tB, tAnd, tOr, tNot, tAndV, tOrV, tNotV, tDrop, tIf, tPar, gSub, rIxL, rIxT, rEq, rNe, rSetL, tBits,
    L2.start, List.map_cons, List.map_nil, List.cons_append, List.nil_append, List.append_nil, List.length_cons, List.length_nil, List.replicate, Nat.reduceAdd, Nat.reduceSub, Nat.zero_add, List.getElem?_cons_zero, List.getElem?_cons_succ, List.set_cons_zero, List.set_cons_succ,
    Option.some.injEq, exists_eq_left', exists_eq_left, V.int.injEq, V.bl.injEq, V.ref.injEq, V.str.injEq, List.cons.injEq, reduceCtorEq, and_true, true_and, false_and, and_false, exists_false, or_false, false_or, or_true, true_or, exists_const, CMul, CDiv, CPow, and_assoc, exists_and_left, exists_and_right, Int.reducePow, Int.reduceNeg, Int.reduceLT, Int.reduceLE, Nat.reducePow, Nat.reduceLT, Int.reduceToNat, gt_iff_lt, ge_iff_le, decide_eq_true_eq, Bool.not_eq_true', decide_eq_false_iff_not, scal, ↓reduceIte, Bool.false_eq_true]
    exact ⟨_, _, rfl, rfl⟩
  · rintro σ H' ⟨v, y, rfl, rfl⟩
    simp only [cx_K, decide_true, decide_false, reduceCtorEq, gTp, gCons, gNil, ca_0, ca_1, ca_2, ca_3, ca_4, ca_5, ca_6, ca_7, ca_8, ca_9, ca_10, ca_11, ca_12, ca_13, ca_14, ca_15, ca_16, ca_17, ca_18, ca_19, ca_20, ca_21, ca_22, ca_23, ca_24, ca_25, ca_26, ca_27, ca_28, ca_29, ca_30, not_true_eq_false, not_false_eq_true, Int.reduceEq, Nat.reduceEqDiff, Nat.reduceLeDiff, rGcd, V.ty.injEq, eq_self, List.not_mem_nil, beq_self_eq_true, HO.lst.injEq, HO.tup.injEq, tFor_eq, iRng1, iList, iTup, nat10, tSeq, rIxA, rSetA, rIsN, rIsT, tTp, tLs, itsO_tup, itsO_lst, tyO_tup, tyO_lst, tyO_dK, tyN_non, tyN_bl, tyN_int, tyN_str, tyN_ref, tyNs_lt, isB, upd_same, upd_upd, sizeLine_eq, List.mem_cons, String.reduceBEq, String.reduceEq, Bool.or_false, Bool.or_true, Bool.and_false, Bool.false_or, Bool.and_self, Bool.false_and, Bool.not_false, Bool.not_true, List.any_cons, List.any_nil, atI_0, setI_0, atI_1, setI_1, atI_2, setI_2, atI_3, setI_3, atI_4, setI_4, atI_5, setI_5, atI_6, setI_6, tAsg, gName, tOp, tUn, tVar, tC, tCons, L2.tNil, tRet, tIfS, tTest, tCB, tCall, rI, rI0, rU, tNext, tB, tAnd, tOr, tNot, tAndV, tOrV, tNotV, tDrop, tIf, tPar, gSub, rIxL, rIxT, rEq, rNe, rSetL, tBits,
    L2.start, List.map_cons, List.map_nil, List.cons_append, List.nil_append, List.append_nil, List.length_cons, List.length_nil, List.replicate, Nat.reduceAdd, Nat.reduceSub, Nat.zero_add, List.getElem?_cons_zero, List.getElem?_cons_succ, List.set_cons_zero, List.set_cons_succ,
    Option.some.injEq, exists_eq_left', exists_eq_left, V.int.injEq, V.bl.injEq, V.ref.injEq, V.str.injEq, List.cons.injEq, reduceCtorEq, and_true, true_and, false_and, and_false, exists_false, or_false, false_or, or_true, true_or, exists_const, CMul, CDiv, CPow, and_assoc, exists_and_left, exists_and_right, Int.reducePow, Int.reduceNeg, Int.reduceLT, Int.reduceLE, Nat.reducePow, Nat.reduceLT, Int.reduceToNat, gt_iff_lt, ge_iff_le, decide_eq_true_eq, Bool.not_eq_true', decide_eq_false_iff_not, scal, ↓reduceIte, Bool.false_eq_true]
    refine ⟨_, .inl hS, fun l hl kl => ?_⟩
    intro s hs ks
    have s1 := Same.new hl (.lst (ns.map V.int))
    have e1 : upd H' l (.lst (ns.map V.int)) l = some (.lst (ns.map V.int)) := upd_same
    have n1 : s ≠ l := by rintro rfl; rw [upd_same] at hs; cases hs
    exact k s _ (s1.trans (Same.new hs _)) ⟨l, ns, 0, 0, 0, v, 0, 0, upd_same, by rw [upd_ne (Ne.symm n1)]; exact e1, n1, Int.le_refl 0, ks, kl⟩
end
end My

namespace My
open PySem PySem.Spec PyProof.Rows L2
section
variable {P : Program} {w : World} {K : PySem.W.Frag} {mg : Str → Option Value} {base : Heap}
/-- the same data, n levels deep at most -/
def scv : V → Bool
  | .non => true
  | .bl _ => true
  | .int _ => true
  | .str _ => true
  | _ => false
def Eqv (K : PySem.W.Frag) (H : Hp) : Nat → V → V → Prop
  | 0, x, y => x = y ∧ scv x = true
  | n + 1, x, y => (x = y ∧ scv x = true) ∨ ∃ (a b : Addr) (xs ys : List V), x = .ref a ∧ y = .ref b ∧ ((ob K H a = some (.tup xs) ∧ ob K H b = some (.tup ys)) ∨ (ob K H a = some (.lst xs) ∧ ob K H b = some (.lst ys))) ∧ xs.length = ys.length ∧ ys.length ≤ 1000 ∧
      ∀ (i : Nat) x y, xs[i]? = some x → ys[i]? = some y → Eqv K H n x y
theorem Eqv.same {H H' : Hp} (e : Same H H') : ∀ {n : Nat} {x y : V}, Eqv K H n x y → Eqv K H' n x y
  | 0, _, _, h => h
  | n + 1, x, y, .inl h => .inl h
  | n + 1, x, y, .inr ⟨a, b, xs, ys, h1, h2, h3, h4, h5, h6⟩ =>
    .inr ⟨a, b, xs, ys, h1, h2, h3.imp (fun z => ⟨ob_same e z.1, ob_same e z.2⟩) (fun z => ⟨ob_same e z.1, ob_same e z.2⟩), h4, h5, fun i x y hx hy => (h6 i x y hx hy).same e⟩
theorem Eqv.up {H : Hp} : ∀ {n : Nat} {x y : V}, Eqv K H n x y → Eqv K H (n + 1) x y
  | 0, _, _, h => .inl h
  | n + 1, x, y, .inl h => .inl h
  | n + 1, x, y, .inr ⟨a, b, xs, ys, h1, h2, h3, h4, h5, h6⟩ => .inr ⟨a, b, xs, ys, h1, h2, h3, h4, h5, fun i x y hx hy => (h6 i x y hx hy).up⟩
def spSame (K : PySem.W.Frag) : Nat → Sp
  | 0 => fun _ _ _ _ => False
  | n + 1 => fun vs H Q _ => ∃ x y, vs = [x, y] ∧ Eqv K H n x y ∧ ∀ H', Same H H' → Q (.bl true) H'
theorem Eqv.split {H : Hp} {n : Nat} {x y : V} (h : Eqv K H n x y) : (x = y ∧ scv x = true) ∨ ∃ m, n = m + 1 ∧ ∃ (a b : Addr) (xs ys : List V), x = .ref a ∧ y = .ref b ∧ ((ob K H a = some (.tup xs) ∧ ob K H b = some (.tup ys)) ∨ (ob K H a = some (.lst xs) ∧ ob K H b = some (.lst ys))) ∧ xs.length = ys.length ∧ ys.length ≤ 1000 ∧
    ∀ (i : Nat) x y, xs[i]? = some x → ys[i]? = some y → Eqv K H m x y := by
  cases n with
  | zero => exact .inl h
  | succ m =>
    rcases h with h | h
    · exact .inl h
    · exact .inr ⟨m, rfl, h⟩
def SameI (H : Hp) (a b : Addr) (_ : Nat) (σ : L2.St) (H' : Hp) : Prop := ∃ z, σ = [some (.ref a), some (.ref b), z] ∧ Same H H'
theorem Kn.none {x : Str} {ps : List Str} {st : Stmt} (D : Dfn K mg x st ps) : Kn P w K mg base 0 x ps (fun _ _ _ _ => False) := by
  obtain ⟨f, fd, F, m, b⟩ := D.ex
  exact ⟨f, fd, m, F.kp, b, ⟨fun vs H Q E h => h.elim, fun A outer s H args us vs Q E _ _ _ _ h => h.elim⟩⟩
abbrev sSame : Stmt := topS 43
theorem scSame : FnScope ["_law_told", "_law_due", "_law_k"] ["_law_told", "_law_due"] (defScope sSame) := ⟨rfl, rfl, rfl, by decide +kernel, rfl, by decide +kernel, by decide +kernel⟩
theorem k_Same (n : Nat) (T : Bt K mg) (D : Dfn K mg "_law_same" sSame ["_law_told", "_law_due"]) (d__law_is_whole : Kn P w K mg base 1 "_law_is_whole" ["_law_told"] (spWhole K)) (d__law_same : Kn P w K mg base (n + 1) "_law_same" ["_law_told", "_law_due"] (spSame K n)) : Kn P w K mg base (n + 2) "_law_same" ["_law_told", "_law_due"] (spSame K (n + 1)) := by
  refine Kn.mk' D scSame (fun vs H Q E h => ?_) (fun f cdv A outer s H vs Q E hr h => ?_)
  · obtain ⟨x, y, rfl, _⟩ := h
    rfl
  obtain ⟨x, y, rfl, he, k⟩ := h
  refine ⟨_, (pss_cons (ps_if (pt_cmpR op_isN (pv 1) pe_non (nomark _)) (pss_one (ps_ret (pe_cmpR op_isN (pv 0) pe_non (nomark _)))) pss_nil)
      (pss_cons (ps_if (pt_val (pe_callB call_isN (by rfl) T.b_isinstance (by decide +kernel) (pa_cons (pv 1) (pa_cons (pe_bltn (v := .ty "bool") (by rfl) T.b_bool (by decide +kernel) rfl) pa_nil)))) (pss_one (ps_ret (pe_and (pe_callB call_isN (by rfl) T.b_isinstance (by decide +kernel) (pa_cons (pv 0) (pa_cons (pe_bltn (v := .ty "bool") (by rfl) T.b_bool (by decide +kernel) rfl) pa_nil))) (pe_one (pe_cmpR op_eq (pv 0) (pv 1) (nomark _)))))) pss_nil)
      (pss_cons (ps_if (pt_val (pe_callB call_isN (by rfl) T.b_isinstance (by decide +kernel) (pa_cons (pv 1) (pa_cons (pe_bltn (v := .ty "int") (by rfl) T.b_int (by decide +kernel) rfl) pa_nil)))) (pss_one (ps_ret (pe_and (pe_kn d__law_is_whole hr (by rfl) (pa_cons (pv 0) pa_nil)) (pe_one (pe_cmpR op_eq (pv 0) (pv 1) (nomark _)))))) pss_nil)
      (pss_cons (ps_if (pt_val (pe_callB call_isN (by rfl) T.b_isinstance (by decide +kernel) (pa_cons (pv 1) (pa_cons (pe_bltn (v := .ty "str") (by rfl) T.b_str (by decide +kernel) rfl) pa_nil)))) (pss_one (ps_ret (pe_and (pe_callB call_isN (by rfl) T.b_isinstance (by decide +kernel) (pa_cons (pv 0) (pa_cons (pe_bltn (v := .ty "str") (by rfl) T.b_str (by decide +kernel) rfl) pa_nil))) (pe_one (pe_cmpR op_eq (pv 0) (pv 1) (nomark _)))))) pss_nil)
      (pss_cons (ps_if (pt_val (pe_callB call_isN (by rfl) T.b_isinstance (by decide +kernel) (pa_cons (pv 1) (pa_cons (pe_bltn (v := .ty "dict") (by rfl) T.b_dict (by decide +kernel) rfl) pa_nil)))) (pss_cons (ps_if (PW.pt (pw_or (pt_not (pt_val (pe_callB call_isN (by rfl) T.b_isinstance (by decide +kernel) (pa_cons (pv 0) (pa_cons (pe_bltn (v := .ty "dict") (by rfl) T.b_dict (by decide +kernel) rfl) pa_nil))))) (pw_or1 (pt_not (pt_val (pe_kn d__law_same hr (by rfl) (pa_cons (pe_callTy call_list_of (by rfl) T.b_list (by decide +kernel) (pa_cons (pv 0) pa_nil)) (pa_cons (pe_callTy call_list_of (by rfl) T.b_list (by decide +kernel) (pa_cons (pv 1) pa_nil)) pa_nil)))))))) (pss_one (ps_ret pe_bl)) pss_nil)
      (pss_one ps_never)) pss_nil)
      (pss_cons (ps_if (PW.pt (pw_and (pt_val (pe_callB call_isN (by rfl) T.b_isinstance (by decide +kernel) (pa_cons (pv 1) (pa_cons (pe_bltn (v := .ty "list") (by rfl) T.b_list (by decide +kernel) rfl) pa_nil)))) (pw_and1 (pt_not (pt_val (pe_callB call_isN (by rfl) T.b_isinstance (by decide +kernel) (pa_cons (pv 0) (pa_cons (pe_bltn (v := .ty "list") (by rfl) T.b_list (by decide +kernel) rfl) pa_nil)))))))) (pss_one (ps_ret pe_bl)) pss_nil)
      (pss_cons (ps_if (PW.pt (pw_and (pt_val (pe_callB call_isN (by rfl) T.b_isinstance (by decide +kernel) (pa_cons (pv 1) (pa_cons (pe_bltn (v := .ty "tuple") (by rfl) T.b_tuple (by decide +kernel) rfl) pa_nil)))) (pw_and1 (pt_not (pt_val (pe_callB call_isN (by rfl) T.b_isinstance (by decide +kernel) (pa_cons (pv 0) (pa_cons (pe_bltn (v := .ty "tuple") (by rfl) T.b_tuple (by decide +kernel) rfl) pa_nil)))))))) (pss_one (ps_ret pe_bl)) pss_nil)
      (pss_cons (ps_if (PW.pt (pw_or (pt_not (pt_val (pe_callB call_isT (by rfl) T.b_isinstance (by decide +kernel) (pa_cons (pv 1) (pa_cons (pe_tp (pa_cons (pe_bltn (v := .ty "list") (by rfl) T.b_list (by decide +kernel) rfl) (pa_cons (pe_bltn (v := .ty "tuple") (by rfl) T.b_tuple (by decide +kernel) rfl) pa_nil))) pa_nil))))) (pw_or1 (pt_cmpR op_ne (pe_callB call_lenA (by rfl) T.b_len PySem.boot_len (pa_cons (pv 0) pa_nil)) (pe_callB call_lenA (by rfl) T.b_len PySem.boot_len (pa_cons (pv 1) pa_nil)) (nomark _))))) (pss_one (ps_ret pe_bl)) pss_nil)
      (pss_cons (ps_for PassesOwn.never rfl (pi_range1 (by rfl) T.b_range (pa_cons (pe_callB call_lenA (by rfl) T.b_len PySem.boot_len (pa_cons (pv 1) pa_nil)) pa_nil)) (pg_name (i := 2) scSame.nd rfl (.inl rfl)) (pss_one (ps_if (pt_not (pt_val (pe_kn d__law_same hr (by rfl) (pa_cons (pe_ix ix_any (pv 0) (pv 2) (fun _ _ => rfl)) (pa_cons (pe_ix ix_any (pv 1) (pv 2) (fun _ _ => rfl)) pa_nil))))) (pss_one (ps_ret pe_bl)) pss_nil)))
      (pss_one (ps_ret pe_bl))))))))))), ?_⟩
  rcases he.split with ⟨rfl, hsc⟩ | ⟨m, rfl, a, b, xs, ys, rfl, rfl, ho, hl, h1000, hi⟩
  · cases x with
    | non =>
      simp only [cx_K, decide_true, decide_false, reduceCtorEq, gTp, gCons, gNil, ca_0, ca_1, ca_2, ca_3, ca_4, ca_5, ca_6, ca_7, ca_8, ca_9, ca_10, ca_11, ca_12, ca_13, ca_14, ca_15, ca_16, ca_17, ca_18, ca_19, ca_20, ca_21, ca_22, ca_23, ca_24, ca_25, ca_26, ca_27, ca_28, ca_29, ca_30, not_true_eq_false, not_false_eq_true, Int.reduceEq, Nat.reduceEqDiff, Nat.reduceLeDiff, rGcd, V.ty.injEq, eq_self, List.not_mem_nil, beq_self_eq_true, HO.lst.injEq, HO.tup.injEq, tFor_eq, iRng1, iList, iTup, nat10, tSeq, rIxA, rSetA, rIsN, rIsT, tTp, tLs, itsO_tup, itsO_lst, tyO_tup, tyO_lst, tyO_dK, tyN_non, tyN_bl, tyN_int, tyN_str, tyN_ref, tyNs_lt, isB, upd_same, upd_upd, sizeLine_eq, List.mem_cons, String.reduceBEq, String.reduceEq, Bool.or_false, Bool.or_true, Bool.and_false, Bool.false_or, Bool.and_self, Bool.false_and, Bool.not_false, Bool.not_true, List.any_cons, List.any_nil, atI_0, setI_0, atI_1, setI_1, atI_2, setI_2, atI_3, setI_3, atI_4, setI_4, atI_5, setI_5, atI_6, setI_6, tAsg, gName, tOp, tUn, tVar, tC, tCons, L2.tNil, tRet, tIfS, tTest, tCB, tCall, rI, rI0, rU, tNext, tB, tAnd, tOr, tNot, tAndV, tOrV, tNotV, tDrop, tIf, tPar, gSub, rIxL, rIxT, rEq, rNe, rSetL, tBits,
    L2.start, List.map_cons, List.map_nil, List.cons_append, List.nil_append, List.append_nil, List.length_cons, List.length_nil, List.replicate, Nat.reduceAdd, Nat.reduceSub, Nat.zero_add, List.getElem?_cons_zero, List.getElem?_cons_succ, List.set_cons_zero, List.set_cons_succ,
    Option.some.injEq, exists_eq_left', exists_eq_left, V.int.injEq, V.bl.injEq, V.ref.injEq, V.str.injEq, List.cons.injEq, reduceCtorEq, and_true, true_and, false_and, and_false, exists_false, or_false, false_or, or_true, true_or, exists_const, CMul, CDiv, CPow, and_assoc, exists_and_left, exists_and_right, Int.reducePow, Int.reduceNeg, Int.reduceLT, Int.reduceLE, Nat.reducePow, Nat.reduceLT, Int.reduceToNat, gt_iff_lt, ge_iff_le, decide_eq_true_eq, Bool.not_eq_true', decide_eq_false_iff_not, scal, ↓reduceIte, Bool.false_eq_true]
      exact k H (Same.refl H)
    | bl b =>
      simp only [cx_K, decide_true, decide_false, reduceCtorEq, gTp, gCons, gNil, ca_0, ca_1, ca_2, ca_3, ca_4, ca_5, ca_6, ca_7, ca_8, ca_9, ca_10, ca_11, ca_12, ca_13, ca_14, ca_15, ca_16, ca_17, ca_18, ca_19, ca_20, ca_21, ca_22, ca_23, ca_24, ca_25, ca_26, ca_27, ca_28, ca_29, ca_30, not_true_eq_false, not_false_eq_true, Int.reduceEq, Nat.reduceEqDiff, Nat.reduceLeDiff, rGcd, V.ty.injEq, eq_self, List.not_mem_nil, beq_self_eq_true, HO.lst.injEq, HO.tup.injEq, tFor_eq, iRng1, iList, iTup, nat10, tSeq, rIxA, rSetA, rIsN, rIsT, tTp, tLs, itsO_tup, itsO_lst, tyO_tup, tyO_lst, tyO_dK, tyN_non, tyN_bl, tyN_int, tyN_str, tyN_ref, tyNs_lt, isB, upd_same, upd_upd, sizeLine_eq, List.mem_cons, String.reduceBEq, String.reduceEq, Bool.or_false, Bool.or_true, Bool.and_false, Bool.false_or, Bool.and_self, Bool.false_and, Bool.not_false, Bool.not_true, List.any_cons, List.any_nil, atI_0, setI_0, atI_1, setI_1, atI_2, setI_2, atI_3, setI_3, atI_4, setI_4, atI_5, setI_5, atI_6, setI_6, tAsg, gName, tOp, tUn, tVar, tC, tCons, L2.tNil, tRet, tIfS, tTest, tCB, tCall, rI, rI0, rU, tNext, tB, tAnd, tOr, tNot, tAndV, tOrV, tNotV, tDrop, tIf, tPar, gSub, rIxL, rIxT, rEq, rNe, rSetL, tBits,
    L2.start, List.map_cons, List.map_nil, List.cons_append, List.nil_append, List.append_nil, List.length_cons, List.length_nil, List.replicate, Nat.reduceAdd, Nat.reduceSub, Nat.zero_add, List.getElem?_cons_zero, List.getElem?_cons_succ, List.set_cons_zero, List.set_cons_succ,
    Option.some.injEq, exists_eq_left', exists_eq_left, V.int.injEq, V.bl.injEq, V.ref.injEq, V.str.injEq, List.cons.injEq, reduceCtorEq, and_true, true_and, false_and, and_false, exists_false, or_false, false_or, or_true, true_or, exists_const, CMul, CDiv, CPow, and_assoc, exists_and_left, exists_and_right, Int.reducePow, Int.reduceNeg, Int.reduceLT, Int.reduceLE, Nat.reducePow, Nat.reduceLT, Int.reduceToNat, gt_iff_lt, ge_iff_le, decide_eq_true_eq, Bool.not_eq_true', decide_eq_false_iff_not, scal, ↓reduceIte, Bool.false_eq_true]
      exact k H (Same.refl H)
    | int i =>
      simp only [cx_K, decide_true, decide_false, reduceCtorEq, gTp, gCons, gNil, ca_0, ca_1, ca_2, ca_3, ca_4, ca_5, ca_6, ca_7, ca_8, ca_9, ca_10, ca_11, ca_12, ca_13, ca_14, ca_15, ca_16, ca_17, ca_18, ca_19, ca_20, ca_21, ca_22, ca_23, ca_24, ca_25, ca_26, ca_27, ca_28, ca_29, ca_30, not_true_eq_false, not_false_eq_true, Int.reduceEq, Nat.reduceEqDiff, Nat.reduceLeDiff, rGcd, V.ty.injEq, eq_self, List.not_mem_nil, beq_self_eq_true, HO.lst.injEq, HO.tup.injEq, tFor_eq, iRng1, iList, iTup, nat10, tSeq, rIxA, rSetA, rIsN, rIsT, tTp, tLs, itsO_tup, itsO_lst, tyO_tup, tyO_lst, tyO_dK, tyN_non, tyN_bl, tyN_int, tyN_str, tyN_ref, tyNs_lt, isB, upd_same, upd_upd, sizeLine_eq, List.mem_cons, String.reduceBEq, String.reduceEq, Bool.or_false, Bool.or_true, Bool.and_false, Bool.false_or, Bool.and_self, Bool.false_and, Bool.not_false, Bool.not_true, List.any_cons, List.any_nil, atI_0, setI_0, atI_1, setI_1, atI_2, setI_2, atI_3, setI_3, atI_4, setI_4, atI_5, setI_5, atI_6, setI_6, tAsg, gName, tOp, tUn, tVar, tC, tCons, L2.tNil, tRet, tIfS, tTest, tCB, tCall, rI, rI0, rU, tNext, tB, tAnd, tOr, tNot, tAndV, tOrV, tNotV, tDrop, tIf, tPar, gSub, rIxL, rIxT, rEq, rNe, rSetL, tBits,
    L2.start, List.map_cons, List.map_nil, List.cons_append, List.nil_append, List.append_nil, List.length_cons, List.length_nil, List.replicate, Nat.reduceAdd, Nat.reduceSub, Nat.zero_add, List.getElem?_cons_zero, List.getElem?_cons_succ, List.set_cons_zero, List.set_cons_succ,
    Option.some.injEq, exists_eq_left', exists_eq_left, V.int.injEq, V.bl.injEq, V.ref.injEq, V.str.injEq, List.cons.injEq, reduceCtorEq, and_true, true_and, false_and, and_false, exists_false, or_false, false_or, or_true, true_or, exists_const, CMul, CDiv, CPow, and_assoc, exists_and_left, exists_and_right, Int.reducePow, Int.reduceNeg, Int.reduceLT, Int.reduceLE, Nat.reducePow, Nat.reduceLT, Int.reduceToNat, gt_iff_lt, ge_iff_le, decide_eq_true_eq, Bool.not_eq_true', decide_eq_false_iff_not, scal, ↓reduceIte, Bool.false_eq_true]
      exact ⟨_, rfl, rfl, true, rfl, k H (Same.refl H)⟩
    | str z =>
      simp only [cx_K, decide_true, decide_false, reduceCtorEq, gTp, gCons, gNil, ca_0, ca_1, ca_2, ca_3, ca_4, ca_5, ca_6, ca_7, ca_8, ca_9, ca_10, ca_11, ca_12, ca_13, ca_14, ca_15, ca_16, ca_17, ca_18, ca_19, ca_20, ca_21, ca_22, ca_23, ca_24, ca_25, ca_26, ca_27, ca_28, ca_29, ca_30, not_true_eq_false, not_false_eq_true, Int.reduceEq, Nat.reduceEqDiff, Nat.reduceLeDiff, rGcd, V.ty.injEq, eq_self, List.not_mem_nil, beq_self_eq_true, HO.lst.injEq, HO.tup.injEq, tFor_eq, iRng1, iList, iTup, nat10, tSeq, rIxA, rSetA, rIsN, rIsT, tTp, tLs, itsO_tup, itsO_lst, tyO_tup, tyO_lst, tyO_dK, tyN_non, tyN_bl, tyN_int, tyN_str, tyN_ref, tyNs_lt, isB, upd_same, upd_upd, sizeLine_eq, List.mem_cons, String.reduceBEq, String.reduceEq, Bool.or_false, Bool.or_true, Bool.and_false, Bool.false_or, Bool.and_self, Bool.false_and, Bool.not_false, Bool.not_true, List.any_cons, List.any_nil, atI_0, setI_0, atI_1, setI_1, atI_2, setI_2, atI_3, setI_3, atI_4, setI_4, atI_5, setI_5, atI_6, setI_6, tAsg, gName, tOp, tUn, tVar, tC, tCons, L2.tNil, tRet, tIfS, tTest, tCB, tCall, rI, rI0, rU, tNext, tB, tAnd, tOr, tNot, tAndV, tOrV, tNotV, tDrop, tIf, tPar, gSub, rIxL, rIxT, rEq, rNe, rSetL, tBits,
    L2.start, List.map_cons, List.map_nil, List.cons_append, List.nil_append, List.append_nil, List.length_cons, List.length_nil, List.replicate, Nat.reduceAdd, Nat.reduceSub, Nat.zero_add, List.getElem?_cons_zero, List.getElem?_cons_succ, List.set_cons_zero, List.set_cons_succ,
    Option.some.injEq, exists_eq_left', exists_eq_left, V.int.injEq, V.bl.injEq, V.ref.injEq, V.str.injEq, List.cons.injEq, reduceCtorEq, and_true, true_and, false_and, and_false, exists_false, or_false, false_or, or_true, true_or, exists_const, CMul, CDiv, CPow, and_assoc, exists_and_left, exists_and_right, Int.reducePow, Int.reduceNeg, Int.reduceLT, Int.reduceLE, Nat.reducePow, Nat.reduceLT, Int.reduceToNat, gt_iff_lt, ge_iff_le, decide_eq_true_eq, Bool.not_eq_true', decide_eq_false_iff_not, scal, ↓reduceIte, Bool.false_eq_true]
      exact k H (Same.refl H)
    | _ => cases hsc
  rcases ho with ⟨oa, oc⟩ | ⟨oa, oc⟩
  · simp only [oa, oc, cx_K, decide_true, decide_false, reduceCtorEq, gTp, gCons, gNil, ca_0, ca_1, ca_2, ca_3, ca_4, ca_5, ca_6, ca_7, ca_8, ca_9, ca_10, ca_11, ca_12, ca_13, ca_14, ca_15, ca_16, ca_17, ca_18, ca_19, ca_20, ca_21, ca_22, ca_23, ca_24, ca_25, ca_26, ca_27, ca_28, ca_29, ca_30, not_true_eq_false, not_false_eq_true, Int.reduceEq, Nat.reduceEqDiff, Nat.reduceLeDiff, rGcd, V.ty.injEq, eq_self, List.not_mem_nil, beq_self_eq_true, HO.lst.injEq, HO.tup.injEq, tFor_eq, iRng1, iList, iTup, nat10, tSeq, rIxA, rSetA, rIsN, rIsT, tTp, tLs, itsO_tup, itsO_lst, tyO_tup, tyO_lst, tyO_dK, tyN_non, tyN_bl, tyN_int, tyN_str, tyN_ref, tyNs_lt, isB, upd_same, upd_upd, sizeLine_eq, List.mem_cons, String.reduceBEq, String.reduceEq, Bool.or_false, Bool.or_true, Bool.and_false, Bool.false_or, Bool.and_self, Bool.false_and, Bool.not_false, Bool.not_true, List.any_cons, List.any_nil, atI_0, setI_0, atI_1, setI_1, atI_2, setI_2, atI_3, setI_3, atI_4, setI_4, atI_5, setI_5, atI_6, setI_6, tAsg, gName, tOp, tUn, tVar, tC, tCons, L2.tNil, tRet, tIfS, tTest, tCB, tCall, rI, rI0, rU, tNext, tB, tAnd, tOr, tNot, tAndV, tOrV, tNotV, tDrop, tIf, tPar, gSub, rIxL, rIxT, rEq, rNe, rSetL, tBits,
    L2.start, List.map_cons, List.map_nil, List.cons_append, List.nil_append, List.append_nil, List.length_cons, List.length_nil, List.replicate, Nat.reduceAdd, Nat.reduceSub, Nat.zero_add, List.getElem?_cons_zero, List.getElem?_cons_succ, List.set_cons_zero, List.set_cons_succ,
    Option.some.injEq, exists_eq_left', exists_eq_left, V.int.injEq, V.bl.injEq, V.ref.injEq, V.str.injEq, List.cons.injEq, reduceCtorEq, and_true, true_and, false_and, and_false, exists_false, or_false, false_or, or_true, true_or, exists_const, CMul, CDiv, CPow, and_assoc, exists_and_left, exists_and_right, Int.reducePow, Int.reduceNeg, Int.reduceLT, Int.reduceLE, Nat.reducePow, Nat.reduceLT, Int.reduceToNat, gt_iff_lt, ge_iff_le, decide_eq_true_eq, Bool.not_eq_true', decide_eq_false_iff_not, scal, ↓reduceIte, Bool.false_eq_true]
    intro p hp kp
    have s1 := Same.new hp (.tup [V.ty "list", V.ty "tuple"])
    generalize upd H p (.tup [V.ty "list", V.ty "tuple"]) = H1 at s1 ⊢
    have oa1 := ob_same s1 oa
    have oc1 := ob_same s1 oc
    simp only [oa1, oc1, cx_K, decide_true, decide_false, reduceCtorEq, gTp, gCons, gNil, ca_0, ca_1, ca_2, ca_3, ca_4, ca_5, ca_6, ca_7, ca_8, ca_9, ca_10, ca_11, ca_12, ca_13, ca_14, ca_15, ca_16, ca_17, ca_18, ca_19, ca_20, ca_21, ca_22, ca_23, ca_24, ca_25, ca_26, ca_27, ca_28, ca_29, ca_30, not_true_eq_false, not_false_eq_true, Int.reduceEq, Nat.reduceEqDiff, Nat.reduceLeDiff, rGcd, V.ty.injEq, eq_self, List.not_mem_nil, beq_self_eq_true, HO.lst.injEq, HO.tup.injEq, tFor_eq, iRng1, iList, iTup, nat10, tSeq, rIxA, rSetA, rIsN, rIsT, tTp, tLs, itsO_tup, itsO_lst, tyO_tup, tyO_lst, tyO_dK, tyN_non, tyN_bl, tyN_int, tyN_str, tyN_ref, tyNs_lt, isB, upd_same, upd_upd, sizeLine_eq, List.mem_cons, String.reduceBEq, String.reduceEq, Bool.or_false, Bool.or_true, Bool.and_false, Bool.false_or, Bool.and_self, Bool.false_and, Bool.not_false, Bool.not_true, List.any_cons, List.any_nil, atI_0, setI_0, atI_1, setI_1, atI_2, setI_2, atI_3, setI_3, atI_4, setI_4, atI_5, setI_5, atI_6, setI_6, tAsg, gName, tOp, tUn, tVar, tC, tCons, L2.tNil, tRet, tIfS, tTest, tCB, tCall, rI, rI0, rU, tNext, tB, tAnd, tOr, tNot, tAndV, tOrV, tNotV, tDrop, tIf, tPar, gSub, rIxL, rIxT, rEq, rNe, rSetL, tBits,
    L2.start, List.map_cons, List.map_nil, List.cons_append, List.nil_append, List.append_nil, List.length_cons, List.length_nil, List.replicate, Nat.reduceAdd, Nat.reduceSub, Nat.zero_add, List.getElem?_cons_zero, List.getElem?_cons_succ, List.set_cons_zero, List.set_cons_succ,
    Option.some.injEq, exists_eq_left', exists_eq_left, V.int.injEq, V.bl.injEq, V.ref.injEq, V.str.injEq, List.cons.injEq, reduceCtorEq, and_true, true_and, false_and, and_false, exists_false, or_false, false_or, or_true, true_or, exists_const, CMul, CDiv, CPow, and_assoc, exists_and_left, exists_and_right, Int.reducePow, Int.reduceNeg, Int.reduceLT, Int.reduceLE, Nat.reducePow, Nat.reduceLT, Int.reduceToNat, gt_iff_lt, ge_iff_le, decide_eq_true_eq, Bool.not_eq_true', decide_eq_false_iff_not, scal, ↓reduceIte, Bool.false_eq_true]
    rw [if_neg (show ¬ ¬ ((xs.length : Int) = (ys.length : Int)) by omega)]
    refine ⟨by omega, by omega, forI_range (SameI H a b) ⟨none, rfl, s1⟩ ?_ ?_⟩
    · rintro i σ H' hlt ⟨z, rfl, s2⟩
      have hx : i < xs.length := by omega
      have hy : i < ys.length := by omega
      have oa2 := ob_same s2 oa
      have oc2 := ob_same s2 oc
      have ex : atI xs (0 + (i : Int)) = some xs[i] := by rw [Int.zero_add]; exact atI_nat (List.getElem?_eq_getElem hx)
      have ey : atI ys (0 + (i : Int)) = some ys[i] := by rw [Int.zero_add]; exact atI_nat (List.getElem?_eq_getElem hy)
      simp only [oa2, oc2, ex, ey, cx_K, decide_true, decide_false, reduceCtorEq, gTp, gCons, gNil, ca_0, ca_1, ca_2, ca_3, ca_4, ca_5, ca_6, ca_7, ca_8, ca_9, ca_10, ca_11, ca_12, ca_13, ca_14, ca_15, ca_16, ca_17, ca_18, ca_19, ca_20, ca_21, ca_22, ca_23, ca_24, ca_25, ca_26, ca_27, ca_28, ca_29, ca_30, not_true_eq_false, not_false_eq_true, Int.reduceEq, Nat.reduceEqDiff, Nat.reduceLeDiff, rGcd, V.ty.injEq, eq_self, List.not_mem_nil, beq_self_eq_true, HO.lst.injEq, HO.tup.injEq, tFor_eq, iRng1, iList, iTup, nat10, tSeq, rIxA, rSetA, rIsN, rIsT, tTp, tLs, itsO_tup, itsO_lst, tyO_tup, tyO_lst, tyO_dK, tyN_non, tyN_bl, tyN_int, tyN_str, tyN_ref, tyNs_lt, isB, upd_same, upd_upd, sizeLine_eq, List.mem_cons, String.reduceBEq, String.reduceEq, Bool.or_false, Bool.or_true, Bool.and_false, Bool.false_or, Bool.and_self, Bool.false_and, Bool.not_false, Bool.not_true, List.any_cons, List.any_nil, atI_0, setI_0, atI_1, setI_1, atI_2, setI_2, atI_3, setI_3, atI_4, setI_4, atI_5, setI_5, atI_6, setI_6, tAsg, gName, tOp, tUn, tVar, tC, tCons, L2.tNil, tRet, tIfS, tTest, tCB, tCall, rI, rI0, rU, tNext, tB, tAnd, tOr, tNot, tAndV, tOrV, tNotV, tDrop, tIf, tPar, gSub, rIxL, rIxT, rEq, rNe, rSetL, tBits,
    L2.start, List.map_cons, List.map_nil, List.cons_append, List.nil_append, List.append_nil, List.length_cons, List.length_nil, List.replicate, Nat.reduceAdd, Nat.reduceSub, Nat.zero_add, List.getElem?_cons_zero, List.getElem?_cons_succ, List.set_cons_zero, List.set_cons_succ,
    Option.some.injEq, exists_eq_left', exists_eq_left, V.int.injEq, V.bl.injEq, V.ref.injEq, V.str.injEq, List.cons.injEq, reduceCtorEq, and_true, true_and, false_and, and_false, exists_false, or_false, false_or, or_true, true_or, exists_const, CMul, CDiv, CPow, and_assoc, exists_and_left, exists_and_right, Int.reducePow, Int.reduceNeg, Int.reduceLT, Int.reduceLE, Nat.reducePow, Nat.reduceLT, Int.reduceToNat, gt_iff_lt, ge_iff_le, decide_eq_true_eq, Bool.not_eq_true', decide_eq_false_iff_not, scal, ↓reduceIte, Bool.false_eq_true]
      refine ⟨_, _, rfl, (hi i _ _ (List.getElem?_eq_getElem hx) (List.getElem?_eq_getElem hy)).same s2, fun H2 s3 => ⟨true, rfl, ?_⟩⟩
      rw [if_neg Bool.noConfusion]
      exact ⟨_, rfl, s2.trans s3⟩
    · rintro σ H' ⟨z, rfl, s2⟩
      simp only [cx_K, decide_true, decide_false, reduceCtorEq, gTp, gCons, gNil, ca_0, ca_1, ca_2, ca_3, ca_4, ca_5, ca_6, ca_7, ca_8, ca_9, ca_10, ca_11, ca_12, ca_13, ca_14, ca_15, ca_16, ca_17, ca_18, ca_19, ca_20, ca_21, ca_22, ca_23, ca_24, ca_25, ca_26, ca_27, ca_28, ca_29, ca_30, not_true_eq_false, not_false_eq_true, Int.reduceEq, Nat.reduceEqDiff, Nat.reduceLeDiff, rGcd, V.ty.injEq, eq_self, List.not_mem_nil, beq_self_eq_true, HO.lst.injEq, HO.tup.injEq, tFor_eq, iRng1, iList, iTup, nat10, tSeq, rIxA, rSetA, rIsN, rIsT, tTp, tLs, itsO_tup, itsO_lst, tyO_tup, tyO_lst, tyO_dK, tyN_non, tyN_bl, tyN_int, tyN_str, tyN_ref, tyNs_lt, isB, upd_same, upd_upd, sizeLine_eq, List.mem_cons, String.reduceBEq, String.reduceEq, Bool.or_false, Bool.or_true, Bool.and_false, Bool.false_or, Bool.and_self, Bool.false_and, Bool.not_false, Bool.not_true, List.any_cons, List.any_nil, atI_0, setI_0, atI_1, setI_1, atI_2, setI_2, atI_3, setI_3, atI_4, setI_4, atI_5, setI_5, atI_6, setI_6, tAsg, gName, tOp, tUn, tVar, tC, tCons, L2.tNil, tRet, tIfS, tTest, tCB, tCall, rI, rI0, rU, tNext, tB, tAnd, tOr, tNot, tAndV, tOrV, tNotV, tDrop, tIf, tPar, gSub, rIxL, rIxT, rEq, rNe, rSetL, tBits,
    L2.start, List.map_cons, List.map_nil, List.cons_append, List.nil_append, List.append_nil, List.length_cons, List.length_nil, List.replicate, Nat.reduceAdd, Nat.reduceSub, Nat.zero_add, List.getElem?_cons_zero, List.getElem?_cons_succ, List.set_cons_zero, List.set_cons_succ,
    Option.some.injEq, exists_eq_left', exists_eq_left, V.int.injEq, V.bl.injEq, V.ref.injEq, V.str.injEq, List.cons.injEq, reduceCtorEq, and_true, true_and, false_and, and_false, exists_false, or_false, false_or, or_true, true_or, exists_const, CMul, CDiv, CPow, and_assoc, exists_and_left, exists_and_right, Int.reducePow, Int.reduceNeg, Int.reduceLT, Int.reduceLE, Nat.reducePow, Nat.reduceLT, Int.reduceToNat, gt_iff_lt, ge_iff_le, decide_eq_true_eq, Bool.not_eq_true', decide_eq_false_iff_not, scal, ↓reduceIte, Bool.false_eq_true]
      exact k H' s2
  · simp only [oa, oc, cx_K, decide_true, decide_false, reduceCtorEq, gTp, gCons, gNil, ca_0, ca_1, ca_2, ca_3, ca_4, ca_5, ca_6, ca_7, ca_8, ca_9, ca_10, ca_11, ca_12, ca_13, ca_14, ca_15, ca_16, ca_17, ca_18, ca_19, ca_20, ca_21, ca_22, ca_23, ca_24, ca_25, ca_26, ca_27, ca_28, ca_29, ca_30, not_true_eq_false, not_false_eq_true, Int.reduceEq, Nat.reduceEqDiff, Nat.reduceLeDiff, rGcd, V.ty.injEq, eq_self, List.not_mem_nil, beq_self_eq_true, HO.lst.injEq, HO.tup.injEq, tFor_eq, iRng1, iList, iTup, nat10, tSeq, rIxA, rSetA, rIsN, rIsT, tTp, tLs, itsO_tup, itsO_lst, tyO_tup, tyO_lst, tyO_dK, tyN_non, tyN_bl, tyN_int, tyN_str, tyN_ref, tyNs_lt, isB, upd_same, upd_upd, sizeLine_eq, List.mem_cons, String.reduceBEq, String.reduceEq, Bool.or_false, Bool.or_true, Bool.and_false, Bool.false_or, Bool.and_self, Bool.false_and, Bool.not_false, Bool.not_true, List.any_cons, List.any_nil, atI_0, setI_0, atI_1, setI_1, atI_2, setI_2, atI_3, setI_3, atI_4, setI_4, atI_5, setI_5, atI_6, setI_6, tAsg, gName, tOp, tUn, tVar, tC, tCons, L2.tNil, tRet, tIfS, tTest, tCB, tCall, rI, rI0, rU, tNext, tB, tAnd, tOr, tNot, tAndV, tOrV, tNotV, tDrop, tIf, tPar, gSub, rIxL, rIxT, rEq, rNe, rSetL, tBits,
    L2.start, List.map_cons, List.map_nil, List.cons_append, List.nil_append, List.append_nil, List.length_cons, List.length_nil, List.replicate, Nat.reduceAdd, Nat.reduceSub, Nat.zero_add, List.getElem?_cons_zero, List.getElem?_cons_succ, List.set_cons_zero, List.set_cons_succ,
    Option.some.injEq, exists_eq_left', exists_eq_left, V.int.injEq, V.bl.injEq, V.ref.injEq, V.str.injEq, List.cons.injEq, reduceCtorEq, and_true, true_and, false_and, and_false, exists_false, or_false, false_or, or_true, true_or, exists_const, CMul, CDiv, CPow, and_assoc, exists_and_left, exists_and_right, Int.reducePow, Int.reduceNeg, Int.reduceLT, Int.reduceLE, Nat.reducePow, Nat.reduceLT, Int.reduceToNat, gt_iff_lt, ge_iff_le, decide_eq_true_eq, Bool.not_eq_true', decide_eq_false_iff_not, scal, ↓reduceIte, Bool.false_eq_true]
    intro p hp kp
    have s1 := Same.new hp (.tup [V.ty "list", V.ty "tuple"])
    generalize upd H p (.tup [V.ty "list", V.ty "tuple"]) = H1 at s1 ⊢
    have oa1 := ob_same s1 oa
    have oc1 := ob_same s1 oc
    simp only [oa1, oc1, cx_K, decide_true, decide_false, reduceCtorEq, gTp, gCons, gNil, ca_0, ca_1, ca_2, ca_3, ca_4, ca_5, ca_6, ca_7, ca_8, ca_9, ca_10, ca_11, ca_12, ca_13, ca_14, ca_15, ca_16, ca_17, ca_18, ca_19, ca_20, ca_21, ca_22, ca_23, ca_24, ca_25, ca_26, ca_27, ca_28, ca_29, ca_30, not_true_eq_false, not_false_eq_true, Int.reduceEq, Nat.reduceEqDiff, Nat.reduceLeDiff, rGcd, V.ty.injEq, eq_self, List.not_mem_nil, beq_self_eq_true, HO.lst.injEq, HO.tup.injEq, tFor_eq, iRng1, iList, iTup, nat10, tSeq, rIxA, rSetA, rIsN, rIsT, tTp, tLs, itsO_tup, itsO_lst, tyO_tup, tyO_lst, tyO_dK, tyN_non, tyN_bl, tyN_int, tyN_str, tyN_ref, tyNs_lt, isB, upd_same, upd_upd, sizeLine_eq, List.mem_cons, String.reduceBEq, String.reduceEq, Bool.or_false, Bool.or_true, Bool.and_false, Bool.false_or, Bool.and_self, Bool.false_and, Bool.not_false, Bool.not_true, List.any_cons, List.any_nil, atI_0, setI_0, atI_1, setI_1, atI_2, setI_2, atI_3, setI_3, atI_4, setI_4, atI_5, setI_5, atI_6, setI_6, tAsg, gName, tOp, tUn, tVar, tC, tCons, L2.tNil, tRet, tIfS, tTest, tCB, tCall, rI, rI0, rU, tNext, tB, tAnd, tOr, tNot, tAndV, tOrV, tNotV, tDrop, tIf, tPar, gSub, rIxL, rIxT, rEq, rNe, rSetL, tBits,
    L2.start, List.map_cons, List.map_nil, List.cons_append, List.nil_append, List.append_nil, List.length_cons, List.length_nil, List.replicate, Nat.reduceAdd, Nat.reduceSub, Nat.zero_add, List.getElem?_cons_zero, List.getElem?_cons_succ, List.set_cons_zero, List.set_cons_succ,
    Option.some.injEq, exists_eq_left', exists_eq_left, V.int.injEq, V.bl.injEq, V.ref.injEq, V.str.injEq, List.cons.injEq, reduceCtorEq, and_true, true_and, false_and, and_false, exists_false, or_false, false_or, or_true, true_or, exists_const, CMul, CDiv, CPow, and_assoc, exists_and_left, exists_and_right, Int.reducePow, Int.reduceNeg, Int.reduceLT, Int.reduceLE, Nat.reducePow, Nat.reduceLT, Int.reduceToNat, gt_iff_lt, ge_iff_le, decide_eq_true_eq, Bool.not_eq_true', decide_eq_false_iff_not, scal, ↓reduceIte, Bool.false_eq_true]
    rw [if_neg (show ¬ ¬ ((xs.length : Int) = (ys.length : Int)) by omega)]
    refine ⟨by omega, by omega, forI_range (SameI H a b) ⟨none, rfl, s1⟩ ?_ ?_⟩
    · rintro i σ H' hlt ⟨z, rfl, s2⟩
      have hx : i < xs.length := by omega
      have hy : i < ys.length := by omega
      have oa2 := ob_same s2 oa
      have oc2 := ob_same s2 oc
      have ex : atI xs (0 + (i : Int)) = some xs[i] := by rw [Int.zero_add]; exact atI_nat (List.getElem?_eq_getElem hx)
      have ey : atI ys (0 + (i : Int)) = some ys[i] := by rw [Int.zero_add]; exact atI_nat (List.getElem?_eq_getElem hy)
      simp only [oa2, oc2, ex, ey, cx_K, decide_true, decide_false, reduceCtorEq, gTp, gCons, gNil, ca_0, ca_1, ca_2, ca_3, ca_4, ca_5, ca_6, ca_7, ca_8, ca_9, ca_10, ca_11, ca_12, ca_13, ca_14, ca_15, ca_16, ca_17, ca_18, ca_19, ca_20, ca_21, ca_22, ca_23, ca_24, ca_25, ca_26, ca_27, ca_28, ca_29, ca_30, not_true_eq_false, not_false_eq_true, Int.reduceEq, Nat.reduceEqDiff, Nat.reduceLeDiff, rGcd, V.ty.injEq, eq_self, List.not_mem_nil, beq_self_eq_true, HO.lst.injEq, HO.tup.injEq, tFor_eq, iRng1, iList, iTup, nat10, tSeq, rIxA, rSetA, rIsN, rIsT, tTp, tLs, itsO_tup, itsO_lst, tyO_tup, tyO_lst, tyO_dK, tyN_non, tyN_bl, tyN_int, tyN_str, tyN_ref, tyNs_lt, isB, upd_same, upd_upd, sizeLine_eq, List.mem_cons, String.reduceBEq, String.reduceEq, Bool.or_false, Bool.or_true, Bool.and_false, Bool.false_or, Bool.and_self, Bool.false_and, Bool.not_false, Bool.not_true, List.any_cons, List.any_nil, atI_0, setI_0, atI_1, setI_1, atI_2, setI_2, atI_3, setI_3, atI_4, setI_4, atI_5, setI_5, atI_6, setI_6, tAsg, gName, tOp, tUn, tVar, tC, tCons, L2.tNil, tRet, tIfS, tTest, tCB, tCall, rI, rI0, rU, tNext, tB, tAnd, tOr, tNot, tAndV, tOrV, tNotV, tDrop, tIf, tPar, gSub, rIxL, rIxT, rEq, rNe, rSetL, tBits,
    L2.start, List.map_cons, List.map_nil, List.cons_append, List.nil_append, List.append_nil, List.length_cons, List.length_nil, List.replicate, Nat.reduceAdd, Nat.reduceSub, Nat.zero_add, List.getElem?_cons_zero, List.getElem?_cons_succ, List.set_cons_zero, List.set_cons_succ,
    Option.some.injEq, exists_eq_left', exists_eq_left, V.int.injEq, V.bl.injEq, V.ref.injEq, V.str.injEq, List.cons.injEq, reduceCtorEq, and_true, true_and, false_and, and_false, exists_false, or_false, false_or, or_true, true_or, exists_const, CMul, CDiv, CPow, and_assoc, exists_and_left, exists_and_right, Int.reducePow, Int.reduceNeg, Int.reduceLT, Int.reduceLE, Nat.reducePow, Nat.reduceLT, Int.reduceToNat, gt_iff_lt, ge_iff_le, decide_eq_true_eq, Bool.not_eq_true', decide_eq_false_iff_not, scal, ↓reduceIte, Bool.false_eq_true]
      refine ⟨_, _, rfl, (hi i _ _ (List.getElem?_eq_getElem hx) (List.getElem?_eq_getElem hy)).same s2, fun H2 s3 => ⟨true, rfl, ?_⟩⟩
      rw [if_neg Bool.noConfusion]
      exact ⟨_, rfl, s2.trans s3⟩
    · rintro σ H' ⟨z, rfl, s2⟩
      simp only [cx_K, decide_true, decide_false, reduceCtorEq, gTp, gCons, gNil, ca_0, ca_1, ca_2, ca_3, ca_4, ca_5, ca_6, ca_7, ca_8, ca_9, ca_10, ca_11, ca_12, ca_13, ca_14, ca_15, ca_16, ca_17, ca_18, ca_19, ca_20, ca_21, ca_22, ca_23, ca_24, ca_25, ca_26, ca_27, ca_28, ca_29, ca_30, not_true_eq_false, not_false_eq_true, Int.reduceEq, Nat.reduceEqDiff, Nat.reduceLeDiff, rGcd, V.ty.injEq, eq_self, List.not_mem_nil, beq_self_eq_true, HO.lst.injEq, HO.tup.injEq, tFor_eq, iRng1, iList, iTup, nat10, tSeq, rIxA, rSetA, rIsN, rIsT, tTp, tLs, itsO_tup, itsO_lst, tyO_tup, tyO_lst, tyO_dK, tyN_non, tyN_bl, tyN_int, tyN_str, tyN_ref, tyNs_lt, isB, upd_same, upd_upd, sizeLine_eq, List.mem_cons, String.reduceBEq, String.reduceEq, Bool.or_false, Bool.or_true, Bool.and_false, Bool.false_or, Bool.and_self, Bool.false_and, Bool.not_false, Bool.not_true, List.any_cons, List.any_nil, atI_0, setI_0, atI_1, setI_1, atI_2, setI_2, atI_3, setI_3, atI_4, setI_4, atI_5, setI_5, atI_6, setI_6, tAsg, gName, tOp, tUn, tVar, tC, tCons, L2.tNil, tRet, tIfS, tTest, tCB, tCall, rI, rI0, rU, tNext, tB, tAnd, tOr, tNot, tAndV, tOrV, tNotV, tDrop, tIf, tPar, gSub, rIxL, rIxT, rEq, rNe, rSetL, tBits,
    L2.start, List.map_cons, List.map_nil, List.cons_append, List.nil_append, List.append_nil, List.length_cons, List.length_nil, List.replicate, Nat.reduceAdd, Nat.reduceSub, Nat.zero_add, List.getElem?_cons_zero, List.getElem?_cons_succ, List.set_cons_zero, List.set_cons_succ,
    Option.some.injEq, exists_eq_left', exists_eq_left, V.int.injEq, V.bl.injEq, V.ref.injEq, V.str.injEq, List.cons.injEq, reduceCtorEq, and_true, true_and, false_and, and_false, exists_false, or_false, false_or, or_true, true_or, exists_const, CMul, CDiv, CPow, and_assoc, exists_and_left, exists_and_right, Int.reducePow, Int.reduceNeg, Int.reduceLT, Int.reduceLE, Nat.reducePow, Nat.reduceLT, Int.reduceToNat, gt_iff_lt, ge_iff_le, decide_eq_true_eq, Bool.not_eq_true', decide_eq_false_iff_not, scal, ↓reduceIte, Bool.false_eq_true]
      exact k H' s2
theorem k_same (T : Bt K mg) (D : Dfn K mg "_law_same" sSame ["_law_told", "_law_due"]) (d : Kn P w K mg base 1 "_law_is_whole" ["_law_told"] (spWhole K)) : ∀ n : Nat, Kn P w K mg base (n + 1) "_law_same" ["_law_told", "_law_due"] (spSame K n)
  | 0 => by
    obtain ⟨f, fd, m, kp, b, G⟩ := (Kn.none (P := P) (w := w) (base := base) D).ex
    exact ⟨f, fd, m, kp, b, (G.mono (Nat.zero_le _)).imp fun vs H Q E h => h.elim⟩
  | n + 1 => k_Same n T D d (k_same T D d n)
end
end My

namespace My
open PySem PySem.Spec PyProof.Rows L2
section
variable {P : Program} {w : World} {K : PySem.W.Frag} {mg : Str → Option Value} {base : Heap}
/-! ### what is no fraction -/
def fr2 : List V → Bool
  | [.int n, .int d] => decide (1 ≤ d) && decide (Int.gcd n d = 1)
  | _ => false
theorem frOk_tup {H : Hp} {a : Addr} {xs : List V} (o : ob K H a = some (.tup xs)) : frOk K H (.ref a) = fr2 xs := by
  simp only [frOk, o]
  unfold fr2
  split <;> simp_all
theorem tyN_same {H H' : Hp} {v : V} {t : String} (e : Same H H') (h : tyN K H v = some t) : tyN K H' v = some t := by
  cases v with
  | ref a =>
    have h1 : tyO (ob K H a) = some t := h
    show tyO (ob K H' a) = some t
    cases hz : ob K H a with
    | none => rw [hz] at h1; cases h1
    | some z => rw [ob_same e hz, ← hz]; exact h1
  | _ => exact h
theorem tyS_same {H H' : Hp} {v : V} (e : Same H H') (h : (tyN K H v).isSome) : (tyN K H' v).isSome := by
  obtain ⟨t, ht⟩ := Option.isSome_iff_exists.mp h
  rw [tyN_same e ht]
  rfl
theorem ob_back {H H' : Hp} {a : Addr} {z : HO} (e : Same H H') (h : (tyN K H (.ref a)).isSome) (o : ob K H' a = some z) : ob K H a = some z := by
  cases hz : ob K H a with
  | none =>
    rw [tyN_ref, hz] at h
    cases h
  | some y =>
    rw [← o, ob_same e hz]
structure Gd (K : PySem.W.Frag) (H : Hp) (v : V) : Prop where
  ty : Tyd K H v
  no : frOk K H v = false
theorem Gd.same {H H' : Hp} {v : V} (e : Same H H') (h : Gd K H v) : Gd K H' v := by
  refine ⟨⟨tyS_same e h.ty.1, fun a xs ev o x hx => ?_⟩, ?_⟩
  · subst ev
    exact tyS_same e (h.ty.2 a xs rfl (ob_back e h.ty.1 o) x hx)
  · cases v with
    | ref a =>
      cases hz : ob K H a with
      | none =>
        have := h.ty.1
        rw [tyN_ref, hz] at this
        cases this
      | some z =>
        have e2 : frOk K H' (.ref a) = frOk K H (.ref a) := by simp only [frOk, hz, ob_same e hz]
        rw [e2]
        exact h.no
    | _ => rfl
theorem gd_sc {H : Hp} {v : V} (h : scv v = true) : Gd K H v := by
  refine ⟨⟨?_, fun a xs e => ?_⟩, ?_⟩
  · cases v <;> first | rfl | cases h
  · subst e; cases h
  · cases v <;> first | rfl | cases h
theorem gd_tup {H : Hp} {a : Addr} {xs : List V} (o : ob K H a = some (.tup xs)) (hx : ∀ x ∈ xs, (tyN K H x).isSome) (f : fr2 xs = false) : Gd K H (.ref a) := by
  refine ⟨⟨by rw [tyN_ref, o]; rfl, fun b ys e o' => ?_⟩, by rw [frOk_tup o]; exact f⟩
  cases e
  rw [o] at o'
  cases o'
  exact hx
theorem gd_lst {H : Hp} {a : Addr} {xs : List V} (o : ob K H a = some (.lst xs)) : Gd K H (.ref a) := by
  refine ⟨⟨by rw [tyN_ref, o]; rfl, fun b ys e o' => ?_⟩, by simp only [frOk, o]⟩
  cases e
  rw [o] at o'
  cases o'
theorem gd_dict {H : Hp} {a : Addr} {xs : List (Key × V)} (o : ob K H a = some (.dK xs)) : Gd K H (.ref a) := by
  refine ⟨⟨by rw [tyN_ref, o]; rfl, fun b ys e o' => ?_⟩, by simp only [frOk, o]⟩
  cases e
  rw [o] at o'
  cases o'
/-! ### displays that only make -/
def Mk (R : Hp → V → Prop) (te : TE) : Prop := ∀ σ H Q, (∀ v H', Same H H' → R H' v → Q v H') → te σ H Q
def MkL (R : Hp → V → Prop) (n : Nat) (ta : TA) : Prop := ∀ σ H Q, (∀ vs H', Same H H' → vs.length = n → (∀ v ∈ vs, R H' v) → Q vs H') → ta σ H Q
theorem mkL_nil {R : Hp → V → Prop} : MkL R 0 L2.tNil := fun σ H Q k => k [] H (Same.refl H) rfl fun _ z => absurd z (by simp)
theorem mkL_cons {R : Hp → V → Prop} {n : Nat} {te : TE} {ta : TA} (mono : ∀ (H H' : Hp) (v : V), Same H H' → R H v → R H' v) (h1 : Mk R te) (h2 : MkL R n ta) : MkL R (n + 1) (tCons te ta) := fun σ H Q k =>
  h1 σ H _ fun v H1 s1 r1 => h2 σ H1 _ fun vs H2 s2 hn hr => k (v :: vs) H2 (s1.trans s2) (by rw [List.length_cons, hn]) fun x hx => by
    rcases List.mem_cons.mp hx with e | e
    · subst e; exact mono _ _ _ s2 r1
    · exact hr x e
theorem mk_c {v : V} (h : scv v = true) : Mk (Gd K) (tC v) := fun σ H Q k => k v H (Same.refl H) (gd_sc h)
theorem mk_tc {ta : TA} (xs : List V) (e : ∀ σ H Q, Q xs H → ta σ H Q) (hs : xs.all scv = true) (hf : fr2 xs = false) (hl : xs.length ≤ 100 := by decide) : Mk (Gd K) (tTp K ta) := fun σ H Q k => by
  refine e σ H _ ⟨by rw [sizeLine_eq]; omega, fun p hp kp => k _ _ (Same.new hp _) (gd_tup (ob_new kp) (fun x hx => ?_) hf)⟩
  exact (gd_sc (K := K) (H := upd H p (.tup xs)) (List.all_eq_true.mp hs x hx)).ty.1
theorem mk_ls {ta : TA} {n : Nat} {R : Hp → V → Prop} (h : MkL R n ta) (hl : n ≤ 100 := by decide) : Mk (Gd K) (tLs K ta) := fun σ H Q k =>
  h σ H _ fun vs H1 s1 hn _ => ⟨by rw [sizeLine_eq]; omega, fun p hp kp => k _ _ (s1.trans (Same.new hp _)) (gd_lst (ob_new kp))⟩
theorem mk_dn : Mk (Gd K) (tDn K) := fun σ H Q k p hp kp => k _ _ (Same.new hp _) (gd_dict (ob_new kp))
theorem mk_any {R : Hp → V → Prop} {te : TE} (h : Mk R te) : Mk (fun _ _ => True) te := fun σ H Q k => h σ H Q fun v H' s _ => k v H' s True.intro
theorem mk_tup {ta : TA} {n : Nat} {R : Hp → V → Prop} (h : MkL R n ta) (hl : n ≤ 100 := by decide) : Mk (fun _ _ => True) (tTp K ta) := fun σ H Q k =>
  h σ H _ fun vs H1 s1 hn _ => ⟨by rw [sizeLine_eq]; omega, fun p hp kp => k _ _ (s1.trans (Same.new hp _)) True.intro⟩
/-! the same where names are read -/
def MkA (σ : L2.St) (H0 : Hp) (R : Hp → V → Prop) (te : TE) : Prop := ∀ H, Same H0 H → ∀ Q, (∀ v H', Same H H' → R H' v → Q v H') → te σ H Q
def MkAL (σ : L2.St) (H0 : Hp) (R : Hp → V → Prop) (n : Nat) (ta : TA) : Prop := ∀ H, Same H0 H → ∀ Q, (∀ vs H', Same H H' → vs.length = n → (∀ v ∈ vs, R H' v) → Q vs H') → ta σ H Q
theorem mkA_nil {σ : L2.St} {H0 : Hp} {R : Hp → V → Prop} : MkAL σ H0 R 0 L2.tNil := fun H _ Q k => k [] H (Same.refl H) rfl fun _ z => absurd z (by simp)
theorem mkA_cons {σ : L2.St} {H0 : Hp} {R : Hp → V → Prop} {n : Nat} {te : TE} {ta : TA} (mono : ∀ (H H' : Hp) (v : V), Same H H' → R H v → R H' v) (h1 : MkA σ H0 R te) (h2 : MkAL σ H0 R n ta) : MkAL σ H0 R (n + 1) (tCons te ta) := fun H s Q k =>
  h1 H s _ fun v H1 s1 r1 => h2 H1 (s.trans s1) _ fun vs H2 s2 hn hr => k (v :: vs) H2 (s1.trans s2) (by rw [List.length_cons, hn]) fun x hx => by
    rcases List.mem_cons.mp hx with e | e
    · subst e; exact mono _ _ _ s2 r1
    · exact hr x e
theorem mkA_tc {σ : L2.St} {H0 : Hp} {ta : TA} (xs : List V) (e : ∀ H, Same H0 H → ∀ Q, Q xs H → ta σ H Q) (hs : ∀ x ∈ xs, (tyN K H0 x).isSome) (hf : fr2 xs = false) (hl : xs.length ≤ 100) : MkA σ H0 (Gd K) (tTp K ta) := fun H s Q k => by
  refine e H s _ ⟨by rw [sizeLine_eq]; omega, fun p hp kp => k _ _ (Same.new hp _) (gd_tup (ob_new kp) (fun x hx => ?_) hf)⟩
  exact tyS_same (s.trans (Same.new hp _)) (hs x hx)
theorem mkA_lc {σ : L2.St} {H0 : Hp} {ta : TA} (xs : List V) (e : ∀ H, Same H0 H → ∀ Q, Q xs H → ta σ H Q) (hl : xs.length ≤ 100) : MkA σ H0 (Gd K) (tLs K ta) := fun H s Q k => by
  exact e H s _ ⟨by rw [sizeLine_eq]; omega, fun p hp kp => k _ _ (Same.new hp _) (gd_lst (ob_new kp))⟩
theorem lsA {ta : TA} {n : Nat} {R : Hp → V → Prop} {σ : L2.St} {H : Hp} {Q : VK} (mono : ∀ (H H' : Hp) (v : V), Same H H' → R H v → R H' v) (h : MkAL σ H R n ta) (hl : n ≤ 100)
    (k : ∀ vs p H', Same H H' → H p = none → K.lookup p = none → vs.length = n → (∀ v ∈ vs, R H' v) → H' p = some (.lst vs) → Q (.ref p) H') : tLs K ta σ H Q :=
  h H (Same.refl H) _ fun vs H1 s1 hn hr => ⟨by rw [sizeLine_eq]; omega, fun p hp kp => k vs p _ (s1.trans (Same.new hp _)) (s1.free hp) kp hn (fun v hv => mono _ _ _ (Same.new hp _) (hr v hv)) upd_same⟩
/-! what is no fraction stays so while the draws go on -/
theorem ob_kp2 {H H' : Hp} {s a : Addr} {z : HO} (e : Kp s H H') (n : a ≠ s) (h : ob K H a = some z) : ob K H' a = some z := by
  unfold ob at h ⊢
  split
  · rename_i o q
    rw [q] at h
    exact h
  · rename_i q
    rw [q] at h
    exact e _ _ n h
theorem Sto.ob {H : Hp} {s : Addr} (h : Sto K H s) : ∃ ys, My.ob K H s = some (.lst ys) := by
  obtain ⟨sc, ns, i, b, c, d, e, f, h⟩ := h
  exact ⟨_, (ob_none h.2.2.2.2.1).trans h.1⟩
theorem tyS_kp {H H' : Hp} {s : Addr} {v : V} (e : Kp s H H') (t : Sto K H' s) (h : (tyN K H v).isSome) : (tyN K H' v).isSome := by
  cases v with
  | ref a =>
    by_cases ha : a = s
    · subst ha
      obtain ⟨ys, hy⟩ := t.ob
      rw [tyN_ref, hy]
      rfl
    · cases hz : ob K H a with
      | none => rw [tyN_ref, hz] at h; cases h
      | some z =>
        rw [tyN_ref, ob_kp2 e ha hz, ← hz]
        exact h
  | _ => exact h
theorem Gd.kp {H H' : Hp} {s : Addr} {v : V} (e : Kp s H H') (t : Sto K H' s) (h : Gd K H v) : Gd K H' v := by
  cases v with
  | ref a =>
    by_cases ha : a = s
    · subst ha
      obtain ⟨ys, hy⟩ := t.ob
      exact gd_lst hy
    · cases hz : ob K H a with
      | none =>
        have := h.ty.1
        rw [tyN_ref, hz] at this
        cases this
      | some z =>
        have hz' := ob_kp2 e ha hz
        refine ⟨⟨tyS_kp e t h.ty.1, fun b xs ev o x hx => ?_⟩, ?_⟩
        · cases ev
          rw [hz'] at o
          exact tyS_kp e t (h.ty.2 a xs rfl (hz.trans o) x hx)
        · have e2 : frOk K H' (.ref a) = frOk K H (.ref a) := by simp only [frOk, hz, hz']
          rw [e2]
          exact h.no
  | _ => exact ⟨⟨h.ty.1, fun _ _ e => by cases e⟩, h.no⟩
/-- a list display of such things -/
theorem lsX {ta : TA} {n : Nat} {R : Hp → V → Prop} {σ : L2.St} {H : Hp} {Q : VK} (mono : ∀ (H H' : Hp) (v : V), Same H H' → R H v → R H' v) (h : MkL R n ta) (hl : n ≤ 100)
    (k : ∀ vs p H', Same H H' → H p = none → K.lookup p = none → vs.length = n → (∀ v ∈ vs, R H' v) → H' p = some (.lst vs) → Q (.ref p) H') : tLs K ta σ H Q :=
  h σ H _ fun vs H1 s1 hn hr => ⟨by rw [sizeLine_eq]; omega, fun p hp kp => k vs p _ (s1.trans (Same.new hp _)) (s1.free hp) kp hn (fun v hv => mono _ _ _ (Same.new hp _) (hr v hv)) upd_same⟩
theorem fr2_mul {q : Qt} {k : Int} (hk : 2 ≤ k) : fr2 [.int (q.1 * k), .int (q.2 * k)] = false := by
  show (decide (1 ≤ q.2 * k) && decide (Int.gcd (q.1 * k) (q.2 * k) = 1)) = false
  rw [Int.gcd_mul_right]
  have : Int.gcd q.1 q.2 * k.natAbs ≠ 1 := fun e => by
    have := Nat.eq_one_of_mul_eq_one_left e
    omega
  rw [decide_eq_false this, Bool.and_false]
theorem fr2_neg {n d : Int} (h : d < 1) : fr2 [.int n, .int d] = false := by
  show (decide (1 ≤ d) && decide (Int.gcd n d = 1)) = false
  rw [decide_eq_false (by omega), Bool.false_and]
def spBadFrac (K : PySem.W.Frag) : Sp := fun vs H Q _ => ∃ s : Addr, vs = [.ref s] ∧ Sto K H s ∧ ∀ v H', Gd K H' v → Kp s H H' → Sto K H' s → Q v H'
abbrev sBadFrac : Stmt := topS 51
theorem scBadFrac : FnScope ["_law_store_here", "_law_value", "_law_more", "_law_bent", "_law_bad"] ["_law_store_here"] (defScope sBadFrac) := ⟨rfl, rfl, rfl, by decide +kernel, rfl, by decide +kernel, by decide +kernel⟩
theorem k_BadFrac (T : Bt K mg) (D : Dfn K mg "_law_bad_frac" sBadFrac ["_law_store_here"]) (d__law_take : Kn P w K mg base 2 "_law_take" ["_law_store_here", "_law_many"] (spTake K)) (d__law_frac : Kn P w K mg base 3 "_law_frac" ["_law_store_here"] (spDFrac K 10)) (d__law_pick : Kn P w K mg base 3 "_law_pick" ["_law_store_here", "_law_row"] (spPick K)) : Kn P w K mg base 4 "_law_bad_frac" ["_law_store_here"] (spBadFrac K) := by
  refine Kn.mk' D scBadFrac (fun vs H Q E h => ?_) (fun f cdv A outer s H vs Q E hr h => ?_)
  · obtain ⟨s, rfl, _⟩ := h
    rfl
  obtain ⟨s, rfl, hS, k⟩ := h
  refine ⟨_, (pss_cons (ps_if (pt_cmpR op_eq (pe_kn d__law_take hr (by rfl) (pa_cons (pv 0) (pa_cons pe_int pa_nil))) pe_int (nomark _)) (pss_cons (ps_set (i := 1) scBadFrac.nd rfl (.inl rfl) (pe_kn d__law_frac hr (by rfl) (pa_cons (pv 0) pa_nil)))
      (pss_cons (ps_set (i := 2) scBadFrac.nd rfl (.inl rfl) (pe_op op_add pe_int (pe_kn d__law_take hr (by rfl) (pa_cons (pv 0) (pa_cons pe_int pa_nil)))))
      (pss_cons (ps_set (i := 3) scBadFrac.nd rfl (.inl rfl) (pe_ls (pa_cons (pe_ls (pa_cons (pe_ix ix_any (pv 1) pe_int (fun _ _ => rfl)) (pa_cons (pe_ix ix_any (pv 1) pe_int (fun _ _ => rfl)) pa_nil))) (pa_cons (pe_tp (pa_cons (pe_op op_mulW (pe_ix ix_any (pv 1) pe_int (fun _ _ => rfl)) (pv 2)) (pa_cons (pe_op op_mulW (pe_ix ix_any (pv 1) pe_int (fun _ _ => rfl)) (pv 2)) pa_nil))) (pa_cons (pe_tp (pa_cons (pe_un un_neg (pe_ix ix_any (pv 1) pe_int (fun _ _ => rfl))) (pa_cons (pe_un un_neg (pe_ix ix_any (pv 1) pe_int (fun _ _ => rfl))) pa_nil))) pa_nil)))))
      (pss_one (ps_ret (pe_kn d__law_pick hr (by rfl) (pa_cons (pv 0) (pa_cons (pe_op op_cat (pv 3) (pe_ls (pa_cons (pe_tp (pa_cons (pe_ix ix_any (pv 1) pe_int (fun _ _ => rfl)) pa_nil)) (pa_cons (pe_tp (pa_cons (pe_ix ix_any (pv 1) pe_int (fun _ _ => rfl)) (pa_cons (pe_ix ix_any (pv 1) pe_int (fun _ _ => rfl)) (pa_cons pe_int pa_nil)))) (pa_cons (pe_tp (pa_cons (pv 1) (pa_cons (pv 1) pa_nil))) (pa_cons (pe_tp (pa_cons (pe_ix ix_any (pv 1) pe_int (fun _ _ => rfl)) (pa_cons pe_int pa_nil))) pa_nil)))))) pa_nil)))))))) pss_nil)
      (pss_cons (ps_set (i := 4) scBadFrac.nd rfl (.inl rfl) (pe_ls (pa_cons (pe_tp (pa_cons pe_int (pa_cons pe_int pa_nil))) (pa_cons (pe_tp (pa_cons pe_int (pa_cons pe_int pa_nil))) (pa_cons (pe_tp (pa_cons pe_int (pa_cons pe_int pa_nil))) (pa_cons (pe_tp (pa_cons pe_int (pa_cons pe_int pa_nil))) (pa_cons (pe_tp (pa_cons pe_int (pa_cons (pe_un un_neg pe_int) pa_nil))) (pa_cons (pe_tp (pa_cons pe_int (pa_cons (pe_un un_neg pe_int) pa_nil))) (pa_cons (pe_tp (pa_cons pe_bl (pa_cons pe_int pa_nil))) (pa_cons (pe_tp (pa_cons pe_bl (pa_cons pe_int pa_nil))) (pa_cons (pe_tp (pa_cons pe_int (pa_cons pe_bl pa_nil))) (pa_cons (pe_tp (pa_cons pe_bl (pa_cons pe_int pa_nil))) (pa_cons (pe_tp (pa_cons pe_int (pa_cons pe_non pa_nil))) pa_nil)))))))))))))
      (pss_cons (ps_set (i := 4) scBadFrac.nd rfl (.inl rfl) (pe_op op_cat (pv 4) (pe_ls (pa_cons (pe_tp (pa_cons pe_str (pa_cons pe_int pa_nil))) (pa_cons (pe_ls (pa_cons pe_int (pa_cons pe_int pa_nil))) (pa_cons (pe_tp pa_nil) (pa_cons (pe_tp (pa_cons pe_int pa_nil)) (pa_cons (pe_tp (pa_cons pe_int (pa_cons pe_int (pa_cons pe_int pa_nil)))) (pa_cons (pe_ls (pa_cons (pe_tp (pa_cons pe_int (pa_cons pe_int pa_nil))) pa_nil)) pa_nil)))))))))
      (pss_one (ps_ret (pe_kn d__law_pick hr (by rfl) (pa_cons (pv 0) (pa_cons (pe_op op_cat (pv 4) (pe_ls (pa_cons pe_int (pa_cons pe_int (pa_cons pe_bl (pa_cons pe_bl (pa_cons pe_non (pa_cons pe_str (pa_cons pe_str (pa_cons pe_dn pa_nil)))))))))) pa_nil)))))))), ?_⟩
  refine ⟨_, rfl, s, 3, rfl, hS, by omega, fun i H1 z0 z1 kp st => ⟨rfl, _, rfl, ite2 (fun h => ?_) (fun h => ?_)⟩⟩
  · refine ⟨_, rfl, s, rfl, st, fun a q H2 hq kp2 st2 => ⟨_, rfl, s, 3, rfl, st2, by omega, fun m H3 m0 m1 kp3 st3 => ⟨_, _, rfl, rfl, ?_⟩⟩⟩
    obtain ⟨ys2, hys2⟩ := st2.at
    have hq3 := hq.kp kp3 hys2
    simp only [cx_K, tNext, tSeq, tAsg, gName, L2.start, List.map_cons, List.map_nil, List.cons_append, List.nil_append, List.length_cons, List.length_nil, List.replicate, Nat.reduceAdd, Nat.reduceSub, List.set_cons_zero, List.set_cons_succ]
    have k10 : (2 + m).natAbs < 2 ^ 10 := by omega
    have ty3 : (tyN K H3 (.ref a)).isSome := by rw [tyN_ref, hq3.o]; rfl
    refine lsA (R := Gd K) (fun _ _ _ s h => Gd.same s h) (mkA_cons (R := Gd K) (fun _ _ _ s h => Gd.same s h) (mkA_lc [.int q.1, .int q.2] (fun H' s' Q' h' => by
        have o := ob_same s' hq3.o
        simp only [o, cx_K, decide_true, decide_false, reduceCtorEq, gTp, gCons, gNil, ca_0, ca_1, ca_2, ca_3, ca_4, ca_5, ca_6, ca_7, ca_8, ca_9, ca_10, ca_11, ca_12, ca_13, ca_14, ca_15, ca_16, ca_17, ca_18, ca_19, ca_20, ca_21, ca_22, ca_23, ca_24, ca_25, ca_26, ca_27, ca_28, ca_29, ca_30, not_true_eq_false, not_false_eq_true, Int.reduceEq, Nat.reduceEqDiff, Nat.reduceLeDiff, rGcd, V.ty.injEq, eq_self, List.not_mem_nil, beq_self_eq_true, HO.lst.injEq, HO.tup.injEq, tFor_eq, iRng1, iList, iTup, nat10, tSeq, rIxA, rSetA, rIsN, rIsT, tTp, tLs, itsO_tup, itsO_lst, tyO_tup, tyO_lst, tyO_dK, tyN_non, tyN_bl, tyN_int, tyN_str, tyN_ref, tyNs_lt, isB, upd_same, upd_upd, sizeLine_eq, List.mem_cons, String.reduceBEq, String.reduceEq, Bool.or_false, Bool.or_true, Bool.and_false, Bool.false_or, Bool.and_self, Bool.false_and, Bool.not_false, Bool.not_true, List.any_cons, List.any_nil, atI_0, setI_0, atI_1, setI_1, atI_2, setI_2, atI_3, setI_3, atI_4, setI_4, atI_5, setI_5, atI_6, setI_6, tAsg, gName, tOp, tUn, tVar, tC, tCons, L2.tNil, tRet, tIfS, tTest, tCB, tCall, rI, rI0, rU, tNext, tB, tAnd, tOr, tNot, tAndV, tOrV, tNotV, tDrop, tIf, tPar, gSub, rIxL, rIxT, rEq, rNe, rSetL, tBits,
    L2.start, List.map_cons, List.map_nil, List.cons_append, List.nil_append, List.append_nil, List.length_cons, List.length_nil, List.replicate, Nat.reduceAdd, Nat.reduceSub, Nat.zero_add, List.getElem?_cons_zero, List.getElem?_cons_succ, List.set_cons_zero, List.set_cons_succ,
    Option.some.injEq, exists_eq_left', exists_eq_left, V.int.injEq, V.bl.injEq, V.ref.injEq, V.str.injEq, List.cons.injEq, reduceCtorEq, and_true, true_and, false_and, and_false, exists_false, or_false, false_or, or_true, true_or, exists_const, CMul, CDiv, CPow, and_assoc, exists_and_left, exists_and_right, Int.reducePow, Int.reduceNeg, Int.reduceLT, Int.reduceLE, Nat.reducePow, Nat.reduceLT, Int.reduceToNat, gt_iff_lt, ge_iff_le, decide_eq_true_eq, Bool.not_eq_true', decide_eq_false_iff_not, scal, ↓reduceIte, Bool.false_eq_true]
        exact h') (by simp))
      (mkA_cons (R := Gd K) (fun _ _ _ s h => Gd.same s h) (mkA_tc [.int (q.1 * (2 + m)), .int (q.2 * (2 + m))] (fun H' s' Q' h' => by
        have o := ob_same s' hq3.o
        simp only [o, cx_K, decide_true, decide_false, reduceCtorEq, gTp, gCons, gNil, ca_0, ca_1, ca_2, ca_3, ca_4, ca_5, ca_6, ca_7, ca_8, ca_9, ca_10, ca_11, ca_12, ca_13, ca_14, ca_15, ca_16, ca_17, ca_18, ca_19, ca_20, ca_21, ca_22, ca_23, ca_24, ca_25, ca_26, ca_27, ca_28, ca_29, ca_30, not_true_eq_false, not_false_eq_true, Int.reduceEq, Nat.reduceEqDiff, Nat.reduceLeDiff, rGcd, V.ty.injEq, eq_self, List.not_mem_nil, beq_self_eq_true, HO.lst.injEq, HO.tup.injEq, tFor_eq, iRng1, iList, iTup, nat10, tSeq, rIxA, rSetA, rIsN, rIsT, tTp, tLs, itsO_tup, itsO_lst, tyO_tup, tyO_lst, tyO_dK, tyN_non, tyN_bl, tyN_int, tyN_str, tyN_ref, tyNs_lt, isB, upd_same, upd_upd, sizeLine_eq, List.mem_cons, String.reduceBEq, String.reduceEq, Bool.or_false, Bool.or_true, Bool.and_false, Bool.false_or, Bool.and_self, Bool.false_and, Bool.not_false, Bool.not_true, List.any_cons, List.any_nil, atI_0, setI_0, atI_1, setI_1, atI_2, setI_2, atI_3, setI_3, atI_4, setI_4, atI_5, setI_5, atI_6, setI_6, tAsg, gName, tOp, tUn, tVar, tC, tCons, L2.tNil, tRet, tIfS, tTest, tCB, tCall, rI, rI0, rU, tNext, tB, tAnd, tOr, tNot, tAndV, tOrV, tNotV, tDrop, tIf, tPar, gSub, rIxL, rIxT, rEq, rNe, rSetL, tBits,
    L2.start, List.map_cons, List.map_nil, List.cons_append, List.nil_append, List.append_nil, List.length_cons, List.length_nil, List.replicate, Nat.reduceAdd, Nat.reduceSub, Nat.zero_add, List.getElem?_cons_zero, List.getElem?_cons_succ, List.set_cons_zero, List.set_cons_succ,
    Option.some.injEq, exists_eq_left', exists_eq_left, V.int.injEq, V.bl.injEq, V.ref.injEq, V.str.injEq, List.cons.injEq, reduceCtorEq, and_true, true_and, false_and, and_false, exists_false, or_false, false_or, or_true, true_or, exists_const, CMul, CDiv, CPow, and_assoc, exists_and_left, exists_and_right, Int.reducePow, Int.reduceNeg, Int.reduceLT, Int.reduceLE, Nat.reducePow, Nat.reduceLT, Int.reduceToNat, gt_iff_lt, ge_iff_le, decide_eq_true_eq, Bool.not_eq_true', decide_eq_false_iff_not, scal, ↓reduceIte, Bool.false_eq_true]
        exact ⟨mulW hq3.sz.1 k10 (by omega), mulW hq3.sz.2 k10 (by omega), h'⟩) (by simp [tyN]) (fr2_mul (by omega)) (by simp))
      (mkA_cons (R := Gd K) (fun _ _ _ s h => Gd.same s h) (mkA_tc [.int (-q.1), .int (-q.2)] (fun H' s' Q' h' => by
        have o := ob_same s' hq3.o
        simp only [o, cx_K, decide_true, decide_false, reduceCtorEq, gTp, gCons, gNil, ca_0, ca_1, ca_2, ca_3, ca_4, ca_5, ca_6, ca_7, ca_8, ca_9, ca_10, ca_11, ca_12, ca_13, ca_14, ca_15, ca_16, ca_17, ca_18, ca_19, ca_20, ca_21, ca_22, ca_23, ca_24, ca_25, ca_26, ca_27, ca_28, ca_29, ca_30, not_true_eq_false, not_false_eq_true, Int.reduceEq, Nat.reduceEqDiff, Nat.reduceLeDiff, rGcd, V.ty.injEq, eq_self, List.not_mem_nil, beq_self_eq_true, HO.lst.injEq, HO.tup.injEq, tFor_eq, iRng1, iList, iTup, nat10, tSeq, rIxA, rSetA, rIsN, rIsT, tTp, tLs, itsO_tup, itsO_lst, tyO_tup, tyO_lst, tyO_dK, tyN_non, tyN_bl, tyN_int, tyN_str, tyN_ref, tyNs_lt, isB, upd_same, upd_upd, sizeLine_eq, List.mem_cons, String.reduceBEq, String.reduceEq, Bool.or_false, Bool.or_true, Bool.and_false, Bool.false_or, Bool.and_self, Bool.false_and, Bool.not_false, Bool.not_true, List.any_cons, List.any_nil, atI_0, setI_0, atI_1, setI_1, atI_2, setI_2, atI_3, setI_3, atI_4, setI_4, atI_5, setI_5, atI_6, setI_6, tAsg, gName, tOp, tUn, tVar, tC, tCons, L2.tNil, tRet, tIfS, tTest, tCB, tCall, rI, rI0, rU, tNext, tB, tAnd, tOr, tNot, tAndV, tOrV, tNotV, tDrop, tIf, tPar, gSub, rIxL, rIxT, rEq, rNe, rSetL, tBits,
    L2.start, List.map_cons, List.map_nil, List.cons_append, List.nil_append, List.append_nil, List.length_cons, List.length_nil, List.replicate, Nat.reduceAdd, Nat.reduceSub, Nat.zero_add, List.getElem?_cons_zero, List.getElem?_cons_succ, List.set_cons_zero, List.set_cons_succ,
    Option.some.injEq, exists_eq_left', exists_eq_left, V.int.injEq, V.bl.injEq, V.ref.injEq, V.str.injEq, List.cons.injEq, reduceCtorEq, and_true, true_and, false_and, and_false, exists_false, or_false, false_or, or_true, true_or, exists_const, CMul, CDiv, CPow, and_assoc, exists_and_left, exists_and_right, Int.reducePow, Int.reduceNeg, Int.reduceLT, Int.reduceLE, Nat.reducePow, Nat.reduceLT, Int.reduceToNat, gt_iff_lt, ge_iff_le, decide_eq_true_eq, Bool.not_eq_true', decide_eq_false_iff_not, scal, ↓reduceIte, Bool.false_eq_true]
        exact h') (by simp [tyN]) (fr2_neg (by have := hq3.nf.1; omega)) (by simp)) mkA_nil))) (by decide) fun vs p H4 s4 hp kp4 hn hv hl => ?_
    refine ⟨_, rfl, _, rfl, ?_⟩
    have hq4 := hq3.same s4
    refine lsA (R := Gd K) (fun _ _ _ s h => Gd.same s h) (mkA_cons (R := Gd K) (fun _ _ _ s h => Gd.same s h) (mkA_tc [.int q.1] (fun H' s' Q' h' => by
        have o := ob_same s' hq4.o
        simp only [o, cx_K, decide_true, decide_false, reduceCtorEq, gTp, gCons, gNil, ca_0, ca_1, ca_2, ca_3, ca_4, ca_5, ca_6, ca_7, ca_8, ca_9, ca_10, ca_11, ca_12, ca_13, ca_14, ca_15, ca_16, ca_17, ca_18, ca_19, ca_20, ca_21, ca_22, ca_23, ca_24, ca_25, ca_26, ca_27, ca_28, ca_29, ca_30, not_true_eq_false, not_false_eq_true, Int.reduceEq, Nat.reduceEqDiff, Nat.reduceLeDiff, rGcd, V.ty.injEq, eq_self, List.not_mem_nil, beq_self_eq_true, HO.lst.injEq, HO.tup.injEq, tFor_eq, iRng1, iList, iTup, nat10, tSeq, rIxA, rSetA, rIsN, rIsT, tTp, tLs, itsO_tup, itsO_lst, tyO_tup, tyO_lst, tyO_dK, tyN_non, tyN_bl, tyN_int, tyN_str, tyN_ref, tyNs_lt, isB, upd_same, upd_upd, sizeLine_eq, List.mem_cons, String.reduceBEq, String.reduceEq, Bool.or_false, Bool.or_true, Bool.and_false, Bool.false_or, Bool.and_self, Bool.false_and, Bool.not_false, Bool.not_true, List.any_cons, List.any_nil, atI_0, setI_0, atI_1, setI_1, atI_2, setI_2, atI_3, setI_3, atI_4, setI_4, atI_5, setI_5, atI_6, setI_6, tAsg, gName, tOp, tUn, tVar, tC, tCons, L2.tNil, tRet, tIfS, tTest, tCB, tCall, rI, rI0, rU, tNext, tB, tAnd, tOr, tNot, tAndV, tOrV, tNotV, tDrop, tIf, tPar, gSub, rIxL, rIxT, rEq, rNe, rSetL, tBits,
    L2.start, List.map_cons, List.map_nil, List.cons_append, List.nil_append, List.append_nil, List.length_cons, List.length_nil, List.replicate, Nat.reduceAdd, Nat.reduceSub, Nat.zero_add, List.getElem?_cons_zero, List.getElem?_cons_succ, List.set_cons_zero, List.set_cons_succ,
    Option.some.injEq, exists_eq_left', exists_eq_left, V.int.injEq, V.bl.injEq, V.ref.injEq, V.str.injEq, List.cons.injEq, reduceCtorEq, and_true, true_and, false_and, and_false, exists_false, or_false, false_or, or_true, true_or, exists_const, CMul, CDiv, CPow, and_assoc, exists_and_left, exists_and_right, Int.reducePow, Int.reduceNeg, Int.reduceLT, Int.reduceLE, Nat.reducePow, Nat.reduceLT, Int.reduceToNat, gt_iff_lt, ge_iff_le, decide_eq_true_eq, Bool.not_eq_true', decide_eq_false_iff_not, scal, ↓reduceIte, Bool.false_eq_true]
        exact h') (by simp [tyN]) rfl (by simp))
      (mkA_cons (R := Gd K) (fun _ _ _ s h => Gd.same s h) (mkA_tc [.int q.1, .int q.2, .int 1] (fun H' s' Q' h' => by
        have o := ob_same s' hq4.o
        simp only [o, cx_K, decide_true, decide_false, reduceCtorEq, gTp, gCons, gNil, ca_0, ca_1, ca_2, ca_3, ca_4, ca_5, ca_6, ca_7, ca_8, ca_9, ca_10, ca_11, ca_12, ca_13, ca_14, ca_15, ca_16, ca_17, ca_18, ca_19, ca_20, ca_21, ca_22, ca_23, ca_24, ca_25, ca_26, ca_27, ca_28, ca_29, ca_30, not_true_eq_false, not_false_eq_true, Int.reduceEq, Nat.reduceEqDiff, Nat.reduceLeDiff, rGcd, V.ty.injEq, eq_self, List.not_mem_nil, beq_self_eq_true, HO.lst.injEq, HO.tup.injEq, tFor_eq, iRng1, iList, iTup, nat10, tSeq, rIxA, rSetA, rIsN, rIsT, tTp, tLs, itsO_tup, itsO_lst, tyO_tup, tyO_lst, tyO_dK, tyN_non, tyN_bl, tyN_int, tyN_str, tyN_ref, tyNs_lt, isB, upd_same, upd_upd, sizeLine_eq, List.mem_cons, String.reduceBEq, String.reduceEq, Bool.or_false, Bool.or_true, Bool.and_false, Bool.false_or, Bool.and_self, Bool.false_and, Bool.not_false, Bool.not_true, List.any_cons, List.any_nil, atI_0, setI_0, atI_1, setI_1, atI_2, setI_2, atI_3, setI_3, atI_4, setI_4, atI_5, setI_5, atI_6, setI_6, tAsg, gName, tOp, tUn, tVar, tC, tCons, L2.tNil, tRet, tIfS, tTest, tCB, tCall, rI, rI0, rU, tNext, tB, tAnd, tOr, tNot, tAndV, tOrV, tNotV, tDrop, tIf, tPar, gSub, rIxL, rIxT, rEq, rNe, rSetL, tBits,
    L2.start, List.map_cons, List.map_nil, List.cons_append, List.nil_append, List.append_nil, List.length_cons, List.length_nil, List.replicate, Nat.reduceAdd, Nat.reduceSub, Nat.zero_add, List.getElem?_cons_zero, List.getElem?_cons_succ, List.set_cons_zero, List.set_cons_succ,
    Option.some.injEq, exists_eq_left', exists_eq_left, V.int.injEq, V.bl.injEq, V.ref.injEq, V.str.injEq, List.cons.injEq, reduceCtorEq, and_true, true_and, false_and, and_false, exists_false, or_false, false_or, or_true, true_or, exists_const, CMul, CDiv, CPow, and_assoc, exists_and_left, exists_and_right, Int.reducePow, Int.reduceNeg, Int.reduceLT, Int.reduceLE, Nat.reducePow, Nat.reduceLT, Int.reduceToNat, gt_iff_lt, ge_iff_le, decide_eq_true_eq, Bool.not_eq_true', decide_eq_false_iff_not, scal, ↓reduceIte, Bool.false_eq_true]
        exact h') (by simp [tyN]) rfl (by simp))
      (mkA_cons (R := Gd K) (fun _ _ _ s h => Gd.same s h) (mkA_tc [.ref a, .ref a] (fun H' s' Q' h' => ⟨_, rfl, _, rfl, h'⟩) (by
        have := tyS_same s4 ty3
        simpa using this) rfl (by simp))
      (mkA_cons (R := Gd K) (fun _ _ _ s h => Gd.same s h) (mkA_tc [.int q.1, .int 0] (fun H' s' Q' h' => by
        have o := ob_same s' hq4.o
        simp only [o, cx_K, decide_true, decide_false, reduceCtorEq, gTp, gCons, gNil, ca_0, ca_1, ca_2, ca_3, ca_4, ca_5, ca_6, ca_7, ca_8, ca_9, ca_10, ca_11, ca_12, ca_13, ca_14, ca_15, ca_16, ca_17, ca_18, ca_19, ca_20, ca_21, ca_22, ca_23, ca_24, ca_25, ca_26, ca_27, ca_28, ca_29, ca_30, not_true_eq_false, not_false_eq_true, Int.reduceEq, Nat.reduceEqDiff, Nat.reduceLeDiff, rGcd, V.ty.injEq, eq_self, List.not_mem_nil, beq_self_eq_true, HO.lst.injEq, HO.tup.injEq, tFor_eq, iRng1, iList, iTup, nat10, tSeq, rIxA, rSetA, rIsN, rIsT, tTp, tLs, itsO_tup, itsO_lst, tyO_tup, tyO_lst, tyO_dK, tyN_non, tyN_bl, tyN_int, tyN_str, tyN_ref, tyNs_lt, isB, upd_same, upd_upd, sizeLine_eq, List.mem_cons, String.reduceBEq, String.reduceEq, Bool.or_false, Bool.or_true, Bool.and_false, Bool.false_or, Bool.and_self, Bool.false_and, Bool.not_false, Bool.not_true, List.any_cons, List.any_nil, atI_0, setI_0, atI_1, setI_1, atI_2, setI_2, atI_3, setI_3, atI_4, setI_4, atI_5, setI_5, atI_6, setI_6, tAsg, gName, tOp, tUn, tVar, tC, tCons, L2.tNil, tRet, tIfS, tTest, tCB, tCall, rI, rI0, rU, tNext, tB, tAnd, tOr, tNot, tAndV, tOrV, tNotV, tDrop, tIf, tPar, gSub, rIxL, rIxT, rEq, rNe, rSetL, tBits,
    L2.start, List.map_cons, List.map_nil, List.cons_append, List.nil_append, List.append_nil, List.length_cons, List.length_nil, List.replicate, Nat.reduceAdd, Nat.reduceSub, Nat.zero_add, List.getElem?_cons_zero, List.getElem?_cons_succ, List.set_cons_zero, List.set_cons_succ,
    Option.some.injEq, exists_eq_left', exists_eq_left, V.int.injEq, V.bl.injEq, V.ref.injEq, V.str.injEq, List.cons.injEq, reduceCtorEq, and_true, true_and, false_and, and_false, exists_false, or_false, false_or, or_true, true_or, exists_const, CMul, CDiv, CPow, and_assoc, exists_and_left, exists_and_right, Int.reducePow, Int.reduceNeg, Int.reduceLT, Int.reduceLE, Nat.reducePow, Nat.reduceLT, Int.reduceToNat, gt_iff_lt, ge_iff_le, decide_eq_true_eq, Bool.not_eq_true', decide_eq_false_iff_not, scal, ↓reduceIte, Bool.false_eq_true]
        exact h') (by simp [tyN]) (fr2_neg (by omega)) (by simp)) mkA_nil)))) (by decide) fun ws p2 H5 s5 hp2 kp5 hn5 hv5 hl5 => ?_
    refine ⟨p, p2, vs, ws, rfl, rfl, s5 _ _ hl, hl5, by rw [hn, hn5, sizeLine_eq]; omega, fun p3 h3 => ?_⟩
    have s6 : Same H3 (upd H5 p3 (.lst (vs ++ ws))) := s4.trans (s5.trans (Same.new h3 _))
    have st6 := st3.same s6
    obtain ⟨ys, hys⟩ := (st3.same (s4.trans s5)).at
    refine ⟨s, p3, vs ++ ws, rfl, st6, upd_same, ne_of_none hys h3, by rw [List.length_append, hn, hn5]; omega, by rw [List.length_append, hn, hn5]; omega, fun v H' hm kp' st' => k v H' (Gd.kp kp' st' ?_) (kp.trans (kp2.trans (kp3.trans ((Kp.same s6).trans kp')))) st'⟩
    rw [List.mem_append] at hm
    rcases hm with hm | hm
    · exact (hv v hm).same (s5.trans (Same.new h3 _))
    · exact (hv5 v hm).same (Same.new h3 _)
  · simp only [cx_K, tNext, tSeq, tAsg, gName]
    refine lsX (R := Gd K) (fun _ _ _ s h => Gd.same s h) (mkL_cons (R := Gd K) (fun _ _ _ s h => Gd.same s h) (mk_tc (K := K) [.int (2), .int (4)] (fun σ H Q h => h) rfl rfl) (mkL_cons (R := Gd K) (fun _ _ _ s h => Gd.same s h) (mk_tc (K := K) [.int (0), .int (2)] (fun σ H Q h => h) rfl rfl) (mkL_cons (R := Gd K) (fun _ _ _ s h => Gd.same s h) (mk_tc (K := K) [.int (0), .int (0)] (fun σ H Q h => h) rfl rfl) (mkL_cons (R := Gd K) (fun _ _ _ s h => Gd.same s h) (mk_tc (K := K) [.int (1), .int (0)] (fun σ H Q h => h) rfl rfl) (mkL_cons (R := Gd K) (fun _ _ _ s h => Gd.same s h) (mk_tc (K := K) [.int (1), .int (-2)] (fun σ H Q h => ⟨2, rfl, h⟩) rfl rfl) (mkL_cons (R := Gd K) (fun _ _ _ s h => Gd.same s h) (mk_tc (K := K) [.int (0), .int (-1)] (fun σ H Q h => ⟨1, rfl, h⟩) rfl rfl) (mkL_cons (R := Gd K) (fun _ _ _ s h => Gd.same s h) (mk_tc (K := K) [.bl true, .int (1)] (fun σ H Q h => h) rfl rfl) (mkL_cons (R := Gd K) (fun _ _ _ s h => Gd.same s h) (mk_tc (K := K) [.bl false, .int (1)] (fun σ H Q h => h) rfl rfl) (mkL_cons (R := Gd K) (fun _ _ _ s h => Gd.same s h) (mk_tc (K := K) [.int (1), .bl true] (fun σ H Q h => h) rfl rfl) (mkL_cons (R := Gd K) (fun _ _ _ s h => Gd.same s h) (mk_tc (K := K) [.bl true, .int (2)] (fun σ H Q h => h) rfl rfl) (mkL_cons (R := Gd K) (fun _ _ _ s h => Gd.same s h) (mk_tc (K := K) [.int (1), .non] (fun σ H Q h => h) rfl rfl) mkL_nil))))))))))) (by decide) fun vs p H2 s2 hp kp2 hn hv hl => ?_
    simp only [tOp, tVar, L2.start, List.map_cons, List.map_nil, List.cons_append, List.nil_append, List.length_cons, List.length_nil, List.replicate, Nat.reduceAdd, Nat.reduceSub, List.set_cons_zero, List.set_cons_succ, List.getElem?_cons_zero, List.getElem?_cons_succ, Option.some.injEq, exists_eq_left']
    refine lsX (R := Gd K) (fun _ _ _ s h => Gd.same s h) (mkL_cons (R := Gd K) (fun _ _ _ s h => Gd.same s h) (mk_tc (K := K) [.str "1", .int (2)] (fun σ H Q h => h) rfl rfl) (mkL_cons (R := Gd K) (fun _ _ _ s h => Gd.same s h) (mk_ls (K := K) (mkL_cons (R := fun _ _ => True) (fun _ _ _ _ _ => True.intro) (mk_any (mk_c (K := K) rfl)) (mkL_cons (R := fun _ _ => True) (fun _ _ _ _ _ => True.intro) (mk_any (mk_c (K := K) rfl)) mkL_nil))) (mkL_cons (R := Gd K) (fun _ _ _ s h => Gd.same s h) (mk_tc (K := K) [] (fun σ H Q h => h) rfl rfl) (mkL_cons (R := Gd K) (fun _ _ _ s h => Gd.same s h) (mk_tc (K := K) [.int (1)] (fun σ H Q h => h) rfl rfl) (mkL_cons (R := Gd K) (fun _ _ _ s h => Gd.same s h) (mk_tc (K := K) [.int (1), .int (2), .int (1)] (fun σ H Q h => h) rfl rfl) (mkL_cons (R := Gd K) (fun _ _ _ s h => Gd.same s h) (mk_ls (K := K) (mkL_cons (R := fun _ _ => True) (fun _ _ _ _ _ => True.intro) (mk_tup (mkL_cons (R := fun _ _ => True) (fun _ _ _ _ _ => True.intro) (mk_any (mk_c (K := K) rfl)) (mkL_cons (R := fun _ _ => True) (fun _ _ _ _ _ => True.intro) (mk_any (mk_c (K := K) rfl)) mkL_nil))) mkL_nil)) mkL_nil)))))) (by decide) fun ws p' H3 s3 hp' kp3 hn' hv' hl' => ?_
    refine ⟨p, p', vs, ws, rfl, rfl, s3 _ _ hl, hl', by rw [hn, hn', sizeLine_eq]; omega, fun p3 h3 => ⟨_, rfl, _, rfl, ?_⟩⟩
    refine lsX (R := Gd K) (fun _ _ _ s h => Gd.same s h) (mkL_cons (R := Gd K) (fun _ _ _ s h => Gd.same s h) (mk_c (K := K) rfl) (mkL_cons (R := Gd K) (fun _ _ _ s h => Gd.same s h) (mk_c (K := K) rfl) (mkL_cons (R := Gd K) (fun _ _ _ s h => Gd.same s h) (mk_c (K := K) rfl) (mkL_cons (R := Gd K) (fun _ _ _ s h => Gd.same s h) (mk_c (K := K) rfl) (mkL_cons (R := Gd K) (fun _ _ _ s h => Gd.same s h) (mk_c (K := K) rfl) (mkL_cons (R := Gd K) (fun _ _ _ s h => Gd.same s h) (mk_c (K := K) rfl) (mkL_cons (R := Gd K) (fun _ _ _ s h => Gd.same s h) (mk_c (K := K) rfl) (mkL_cons (R := Gd K) (fun _ _ _ s h => Gd.same s h) (mk_dn (K := K)) mkL_nil)))))))) (by decide) fun us p4 H4 s4 hp4 kp4 hn4 hv4 hl4 => ?_
    refine ⟨p3, p4, vs ++ ws, us, rfl, rfl, s4 _ _ upd_same, hl4, by rw [List.length_append, hn, hn', hn4, sizeLine_eq]; omega, fun p5 h5 => ?_⟩
    have s5 : Same H1 (upd H4 p5 (.lst (vs ++ ws ++ us))) := s2.trans (s3.trans ((Same.new h3 _).trans (s4.trans (Same.new h5 _))))
    have st5 := st.same s5
    obtain ⟨ys, hys⟩ := (st.same (s2.trans (s3.trans ((Same.new h3 _).trans s4)))).at
    refine ⟨s, p5, vs ++ ws ++ us, rfl, st5, upd_same, ne_of_none hys h5, by rw [List.length_append, List.length_append, hn, hn', hn4]; omega, by rw [List.length_append, List.length_append, hn, hn', hn4]; omega, fun v H' hm kp' st' => k v H' (Gd.kp kp' st' ?_) (kp.trans ((Kp.same s5).trans kp')) st'⟩
    rw [List.mem_append, List.mem_append] at hm
    rcases hm with (hm | hm) | hm
    · exact (hv v hm).same (s3.trans ((Same.new h3 _).trans (s4.trans (Same.new h5 _))))
    · exact (hv' v hm).same ((Same.new h3 _).trans (s4.trans (Same.new h5 _)))
    · exact (hv4 v hm).same (Same.new h5 _)
end
end My

namespace My
open PySem PySem.Spec PyProof.Rows L2
/-! ### the common measure of fractions -/
/-- one more fraction: the numerators' greatest common divisor over the denominators' least common multiple -/
def gl2 (m q : Qt) : Qt := (((Nat.gcd m.1.natAbs q.1.natAbs : Nat) : Int), ((Nat.lcm m.2.natAbs q.2.natAbs : Nat) : Int))
def glF (qs : List Qt) : Qt := qs.foldl gl2 (0, 1)
theorem glF_nil : glF [] = (0, 1) := rfl
theorem glF_app (qs : List Qt) (q : Qt) : glF (qs ++ [q]) = gl2 (glF qs) q := by
  unfold glF
  rw [List.foldl_append]
  rfl
/-- the two products' greatest common divisor -/
theorem gcd_cross {a b n d : Nat} (h1 : Nat.Coprime a b) (h2 : Nat.Coprime n d) : Nat.gcd (a * d) (n * b) = Nat.gcd a n * Nat.gcd b d := by
  obtain ⟨b', eb⟩ := Nat.gcd_dvd_left b d
  obtain ⟨d', ed⟩ := Nat.gcd_dvd_right b d
  obtain ⟨a', ea⟩ := Nat.gcd_dvd_left a n
  obtain ⟨n', en⟩ := Nat.gcd_dvd_right a n
  generalize hg : Nat.gcd a n = g at *
  generalize hh : Nat.gcd b d = h at *
  by_cases g0 : g = 0
  · rw [g0] at ea en
    rw [ea, en]
    simp [g0]
  by_cases h0 : h = 0
  · rw [h0] at eb ed
    rw [eb, ed]
    simp [h0]
  have c1 : Nat.Coprime a' n' := by
    have e : g * Nat.gcd a' n' = g * 1 := by
      rw [← Nat.gcd_mul_left, ← ea, ← en, hg, Nat.mul_one]
    exact Nat.eq_of_mul_eq_mul_left (by omega) e
  have c2 : Nat.Coprime b' d' := by
    have e : h * Nat.gcd b' d' = h * 1 := by
      rw [← Nat.gcd_mul_left, ← eb, ← ed, hh, Nat.mul_one]
    exact Nat.eq_of_mul_eq_mul_left (by omega) e
  have c3 : Nat.Coprime a' b' := by
    rw [ea, eb] at h1
    exact Nat.Coprime.coprime_mul_left (Nat.Coprime.coprime_mul_left_right h1)
  have c4 : Nat.Coprime n' d' := by
    rw [en, ed] at h2
    exact Nat.Coprime.coprime_mul_left (Nat.Coprime.coprime_mul_left_right h2)
  have c5 : Nat.Coprime (a' * d') (n' * b') := Nat.Coprime.mul_left (Nat.Coprime.mul_right c1 c3) (Nat.Coprime.mul_right c4.symm c2.symm)
  rw [show a * d = (g * h) * (a' * d') by rw [ea, ed]; grind, show n * b = (g * h) * (n' * b') by rw [en, eb]; grind, Nat.gcd_mul_left, c5, Nat.mul_one]
theorem nf_gl2 {m q : Qt} (hm : Nf m) (hq : Nf q) : Nf (gl2 m q) := by
  have m1 := hm.1
  have q1 := hq.1
  refine ⟨?_, ?_⟩
  · show (1 : Int) ≤ ((Nat.lcm m.2.natAbs q.2.natAbs : Nat) : Int)
    have := Nat.lcm_pos (m := m.2.natAbs) (n := q.2.natAbs) (by omega) (by omega)
    omega
  · show Nat.gcd (Nat.gcd m.1.natAbs q.1.natAbs) (Nat.lcm m.2.natAbs q.2.natAbs) = 1
    have c1 : Nat.Coprime (Nat.gcd m.1.natAbs q.1.natAbs) m.2.natAbs := Nat.Coprime.coprime_dvd_left (Nat.gcd_dvd_left _ _) (nf_cop hm)
    have c2 : Nat.Coprime (Nat.gcd m.1.natAbs q.1.natAbs) q.2.natAbs := Nat.Coprime.coprime_dvd_left (Nat.gcd_dvd_right _ _) (nf_cop hq)
    exact Nat.Coprime.coprime_dvd_right (Nat.lcm_dvd_mul _ _) (Nat.Coprime.mul_right c1 c2)
/-- what the weights' way gives -/
theorem is_gl2 {m q : Qt} (hm : Nf m) (hq : Nf q) : Is (gl2 m q) ((Int.gcd (m.1 * q.2) (q.1 * m.2) : Nat) : Int) (m.2 * q.2) := by
  refine ⟨nf_gl2 hm hq, ?_⟩
  have m1 := hm.1
  have q1 := hq.1
  have e := gcd_cross (nf_cop hm) (nf_cop hq)
  have e2 : Int.gcd (m.1 * q.2) (q.1 * m.2) = Nat.gcd m.1.natAbs q.1.natAbs * Nat.gcd m.2.natAbs q.2.natAbs := by
    rw [← e]
    show Nat.gcd (m.1 * q.2).natAbs (q.1 * m.2).natAbs = _
    rw [Int.natAbs_mul, Int.natAbs_mul]
  rw [e2]
  have e3 := Nat.gcd_mul_lcm m.2.natAbs q.2.natAbs
  show ((Nat.gcd m.1.natAbs q.1.natAbs : Nat) : Int) * (m.2 * q.2) = ((Nat.gcd m.1.natAbs q.1.natAbs * Nat.gcd m.2.natAbs q.2.natAbs : Nat) : Int) * ((Nat.lcm m.2.natAbs q.2.natAbs : Nat) : Int)
  have e4 : m.2 * q.2 = ((m.2.natAbs * q.2.natAbs : Nat) : Int) := by
    rw [Int.natCast_mul]
    congr 1 <;> omega
  rw [e4, ← e3, Int.natCast_mul, Int.natCast_mul]
  grind
theorem nf_glF : ∀ {qs : List Qt} {m : Qt}, Nf m → (∀ q ∈ qs, Nf q) → Nf (qs.foldl gl2 m)
  | [], m, hm, _ => hm
  | q :: r, m, hm, h => nf_glF (qs := r) (m := gl2 m q) (nf_gl2 hm (h q List.mem_cons_self)) fun p hp => h p (List.mem_cons_of_mem _ hp)
theorem nf_01 : Nf (0, 1) := ⟨by decide, by decide⟩
theorem nf_gl {qs : List Qt} (h : ∀ q ∈ qs, Nf q) : Nf (glF qs) := nf_glF nf_01 h
theorem gl_dvd : ∀ {qs : List Qt} {m : Qt} {x : Nat}, (x ∣ (qs.foldl gl2 m).1.natAbs ↔ x ∣ m.1.natAbs ∧ ∀ q ∈ qs, x ∣ q.1.natAbs) ∧ ((qs.foldl gl2 m).2.natAbs ∣ x ↔ m.2.natAbs ∣ x ∧ ∀ q ∈ qs, q.2.natAbs ∣ x)
  | [], m, x => ⟨⟨fun h => ⟨h, fun _ z => nomatch z⟩, fun h => h.1⟩, ⟨fun h => ⟨h, fun _ z => nomatch z⟩, fun h => h.1⟩⟩
  | q :: r, m, x => by
    obtain ⟨h1, h2⟩ := gl_dvd (qs := r) (m := gl2 m q) (x := x)
    have a1 : x ∣ (gl2 m q).1.natAbs ↔ x ∣ m.1.natAbs ∧ x ∣ q.1.natAbs := by
      show x ∣ (((Nat.gcd m.1.natAbs q.1.natAbs : Nat) : Int)).natAbs ↔ _
      rw [Int.natAbs_natCast, Nat.dvd_gcd_iff]
    have a2 : (gl2 m q).2.natAbs ∣ x ↔ m.2.natAbs ∣ x ∧ q.2.natAbs ∣ x := by
      show (((Nat.lcm m.2.natAbs q.2.natAbs : Nat) : Int)).natAbs ∣ x ↔ _
      rw [Int.natAbs_natCast, Nat.lcm_dvd_iff]
    refine ⟨?_, ?_⟩
    · rw [List.foldl_cons, h1, a1, List.forall_mem_cons, and_assoc]
    · rw [List.foldl_cons, h2, a2, List.forall_mem_cons, and_assoc]
theorem gl_nn : ∀ {qs : List Qt} {m : Qt}, 0 ≤ m.1 → 0 ≤ m.2 → 0 ≤ (qs.foldl gl2 m).1 ∧ 0 ≤ (qs.foldl gl2 m).2
  | [], _, h1, h2 => ⟨h1, h2⟩
  | q :: r, m, _, _ => gl_nn (qs := r) (m := gl2 m q) (Int.natCast_nonneg _) (Int.natCast_nonneg _)
theorem gl_rev (qs : List Qt) : glF qs.reverse = glF qs := by
  have n1 := gl_nn (qs := qs) (m := (0, 1)) (by decide) (by decide)
  have n2 := gl_nn (qs := qs.reverse) (m := (0, 1)) (by decide) (by decide)
  have e1 : (glF qs.reverse).1.natAbs = (glF qs).1.natAbs := Nat.dvd_antisymm (gl_dvd.1.mpr ⟨(gl_dvd.1.mp (Nat.dvd_refl _)).1, fun q hq => (gl_dvd.1.mp (Nat.dvd_refl (glF qs.reverse).1.natAbs)).2 q (List.mem_reverse.mpr hq)⟩) (gl_dvd.1.mpr ⟨(gl_dvd.1.mp (Nat.dvd_refl _)).1, fun q hq => (gl_dvd.1.mp (Nat.dvd_refl (glF qs).1.natAbs)).2 q (List.mem_reverse.mp hq)⟩)
  have e2 : (glF qs.reverse).2.natAbs = (glF qs).2.natAbs := Nat.dvd_antisymm (gl_dvd.2.mpr ⟨(gl_dvd.2.mp (Nat.dvd_refl _)).1, fun q hq => (gl_dvd.2.mp (Nat.dvd_refl (glF qs).2.natAbs)).2 q (List.mem_reverse.mp hq)⟩) (gl_dvd.2.mpr ⟨(gl_dvd.2.mp (Nat.dvd_refl _)).1, fun q hq => (gl_dvd.2.mp (Nat.dvd_refl (glF qs.reverse).2.natAbs)).2 q (List.mem_reverse.mpr hq)⟩)
  unfold glF at e1 e2 ⊢
  exact Prod.ext (by omega) (by omega)
theorem gl_num {qs : List Qt} {q : Qt} (h : q ∈ qs) : (glF qs).1 ∣ q.1 := by
  have := (gl_dvd.1.mp (Nat.dvd_refl (glF qs).1.natAbs)).2 q h
  exact Int.natAbs_dvd_natAbs.mp this
theorem gl_den {qs : List Qt} {q : Qt} (h : q ∈ qs) : q.2 ∣ (glF qs).2 := by
  have := (gl_dvd.2.mp (Nat.dvd_refl (glF qs).2.natAbs)).2 q h
  exact Int.natAbs_dvd_natAbs.mp this
/-- sizes -/
theorem gl_sz : ∀ {qs : List Qt} {m : Qt} {k : Nat}, m.1.natAbs < 2 ^ 134 → m.2.natAbs ≤ 2 ^ (134 * k) → 1 ≤ m.2 → (∀ q ∈ qs, Sz 134 q ∧ Nf q) → (qs.foldl gl2 m).1.natAbs < 2 ^ 134 ∧ (qs.foldl gl2 m).2.natAbs ≤ 2 ^ (134 * (k + qs.length)) ∧ 1 ≤ (qs.foldl gl2 m).2
  | [], m, k, h1, h2, h3, _ => ⟨h1, h2, h3⟩
  | q :: r, m, k, h1, h2, h3, h => by
    have hq := h q List.mem_cons_self
    have q1 := hq.2.1
    have a1 : (gl2 m q).1.natAbs < 2 ^ 134 := by
      show (((Nat.gcd m.1.natAbs q.1.natAbs : Nat) : Int)).natAbs < _
      rw [Int.natAbs_natCast]
      by_cases z : m.1.natAbs = 0
      · rw [z, Nat.gcd_zero_left]
        exact hq.1.1
      · exact Nat.lt_of_le_of_lt (Nat.gcd_le_left _ (by omega)) h1
    have a2 : (gl2 m q).2.natAbs ≤ 2 ^ (134 * (k + 1)) := by
      show (((Nat.lcm m.2.natAbs q.2.natAbs : Nat) : Int)).natAbs ≤ _
      rw [Int.natAbs_natCast]
      have l : Nat.lcm m.2.natAbs q.2.natAbs ≤ m.2.natAbs * q.2.natAbs := Nat.le_of_dvd (Nat.mul_pos (by omega) (by omega)) (Nat.lcm_dvd_mul _ _)
      have l2 : m.2.natAbs * q.2.natAbs ≤ 2 ^ (134 * k) * 2 ^ 134 := Nat.mul_le_mul h2 (Nat.le_of_lt hq.1.2)
      rw [← Nat.pow_add] at l2
      rw [show 134 * (k + 1) = 134 * k + 134 by omega]
      omega
    have a3 : 1 ≤ (gl2 m q).2 := by
      show (1 : Int) ≤ ((Nat.lcm m.2.natAbs q.2.natAbs : Nat) : Int)
      have := Nat.lcm_pos (m := m.2.natAbs) (n := q.2.natAbs) (by omega) (by omega)
      omega
    obtain ⟨b1, b2, b3⟩ := gl_sz (qs := r) (m := gl2 m q) (k := k + 1) a1 a2 a3 fun p hp => h p (List.mem_cons_of_mem _ hp)
    refine ⟨b1, ?_, b3⟩
    rw [List.length_cons, show k + (r.length + 1) = k + 1 + r.length by omega]
    exact b2
theorem glF_sz {qs : List Qt} (h : ∀ q ∈ qs, Sz 134 q ∧ Nf q) : (glF qs).1.natAbs < 2 ^ 134 ∧ (glF qs).2.natAbs ≤ 2 ^ (134 * qs.length) ∧ 1 ≤ (glF qs).2 := by
  have := gl_sz (qs := qs) (m := (0, 1)) (k := 0) (by decide) (by decide) (by decide) h
  rw [Nat.zero_add] at this
  exact this
theorem glF_sz12 {qs : List Qt} (h : ∀ q ∈ qs, Sz 134 q ∧ Nf q) (l : qs.length ≤ 12) : Sz 1610 (glF qs) := by
  obtain ⟨a, b, c⟩ := glF_sz h
  refine ⟨szMono a (by omega), ?_⟩
  have e1 : 2 ^ (134 * qs.length) ≤ 2 ^ 1609 := Nat.pow_le_pow_right (by omega) (by omega)
  have e2 : 2 ^ 1609 < 2 ^ 1610 := Nat.pow_lt_pow_right (by omega) (by omega)
  omega
/-! ### the weights -/
/-- the weighted sum over a common denominator -/
def smW : List Int → List Qt → Int → Int
  | w :: ws, q :: qs, c => w * q.1 * (c / q.2) + smW ws qs c
  | _, _, _ => 0
theorem smW_app : ∀ {ws : List Int} {qs : List Qt} {y : Int} {q : Qt} {c : Int}, ws.length = qs.length → smW (ws ++ [y]) (qs ++ [q]) c = smW ws qs c + y * q.1 * (c / q.2)
  | [], [], y, q, c, _ => by
    show y * q.1 * (c / q.2) + 0 = 0 + y * q.1 * (c / q.2)
    omega
  | w :: ws, p :: ps, y, q, c, h => by
    show w * p.1 * (c / p.2) + smW (ws ++ [y]) (ps ++ [q]) c = w * p.1 * (c / p.2) + smW ws ps c + y * q.1 * (c / q.2)
    rw [smW_app (by simpa using h)]
    omega
  | [], _ :: _, _, _, _, h => by simp at h
  | _ :: _, [], _, _, _, h => by simp at h
theorem smW_map (x : Int) : ∀ (ws : List Int) (qs : List Qt) (c : Int), smW (ws.map (· * x)) qs c = x * smW ws qs c
  | [], _, _ => by
    show (0 : Int) = x * 0
    omega
  | w :: ws, [], c => by
    show (0 : Int) = x * 0
    omega
  | w :: ws, q :: qs, c => by
    show w * x * q.1 * (c / q.2) + smW (ws.map (· * x)) qs c = x * (w * q.1 * (c / q.2) + smW ws qs c)
    rw [smW_map x ws qs c]
    grind
/-- the weights show the measure -/
def Wts (ws : List Int) (qs : List Qt) (m : Qt) : Prop := ws.length = qs.length ∧ ∀ c : Int, (∀ q ∈ qs, q.2 ∣ c) → smW ws qs c * m.2 = m.1 * c
theorem wts_nil : Wts [] [] (0, 1) := ⟨rfl, fun c _ => by
  show (0 : Int) * 1 = 0 * c
  omega⟩
theorem wts_next {ws : List Int} {qs : List Qt} {m m' q : Qt} {x y : Int} (h : Wts ws qs m) (hm : 1 ≤ m.2) (hq : 1 ≤ q.2) (e : m'.1 * (m.2 * q.2) = (x * (m.1 * q.2) + y * (q.1 * m.2)) * m'.2) : Wts (ws.map (· * x) ++ [y]) (qs ++ [q]) m' := by
  refine ⟨by rw [List.length_append, List.length_append, List.length_map, h.1]; rfl, fun c hc => ?_⟩
  have h1 := h.2 c fun p hp => hc p (List.mem_append_left _ hp)
  obtain ⟨k, hk⟩ := hc q (List.mem_append_right _ (List.mem_singleton.mpr rfl))
  rw [smW_app (by rw [List.length_map, h.1]), smW_map]
  have ek : c / q.2 = k := by rw [hk]; exact Int.mul_ediv_cancel_left _ (by omega)
  rw [ek]
  generalize smW ws qs c = S at h1
  have z : m.2 * ((x * S + y * q.1 * k) * m'.2) = m.2 * (m'.1 * c) := by
    have a1 : m.2 * ((x * S + y * q.1 * k) * m'.2) = (x * (S * m.2) + y * q.1 * k * m.2) * m'.2 := by grind
    rw [a1, h1, hk]
    have a2 : (x * (m.1 * (q.2 * k)) + y * q.1 * k * m.2) * m'.2 = k * ((x * (m.1 * q.2) + y * (q.1 * m.2)) * m'.2) := by grind
    rw [a2, ← e]
    grind
  exact Int.eq_of_mul_eq_mul_left (by omega) z
/-! ### Bezout's numbers -/
/-- one state of the walk: what is left, and the first one's factors -/
structure BzI (l r a b p q : Int) : Prop where
  g : Int.gcd a b = Int.gcd l r
  d1 : r ∣ a - p * l
  d2 : r ∣ b - q * l
  s : (a = l ∧ b = r ∧ p = 1 ∧ q = 0) ∨ (a ≠ 0 ∧ (b = 0 ∨ (0 < a ∧ 0 < b ∧ b < a) ∨ (a < 0 ∧ b < 0 ∧ a < b)) ∧ ((0 ≤ q ∧ p ≤ 0) ∨ (q ≤ 0 ∧ 0 ≤ p)) ∧ q.natAbs * a.natAbs + p.natAbs * b.natAbs = r.natAbs ∧ p.natAbs ≤ r.natAbs)
theorem bz_0 (l r : Int) : BzI l r l r 1 0 := ⟨rfl, ⟨0, by omega⟩, ⟨1, by omega⟩, .inl ⟨rfl, rfl, rfl, rfl⟩⟩
theorem fm_sign {a b : Int} (hb : b ≠ 0) : a - a.fdiv b * b = 0 ∨ (0 < b ∧ 0 < a - a.fdiv b * b ∧ a - a.fdiv b * b < b) ∨ (b < 0 ∧ a - a.fdiv b * b < 0 ∧ b < a - a.fdiv b * b) := by
  have e : a.fmod b = a - a.fdiv b * b := by
    have := Int.mul_fdiv_add_fmod a b
    rw [Int.mul_comm] at this
    omega
  rw [← e]
  rcases Int.lt_or_gt_of_ne hb with h | h
  · have e2 : a.fmod b = -((-a).fmod (-b)) := by rw [Int.neg_fmod_neg]; omega
    have e3 : (-a).fmod (-b) = (-a) % (-b) := Int.fmod_eq_emod_of_nonneg _ (by omega)
    have n1 := Int.emod_nonneg (-a) (show -b ≠ 0 by omega)
    have n2 := Int.emod_lt_of_pos (-a) (show 0 < -b by omega)
    omega
  · have e3 : a.fmod b = a % b := Int.fmod_eq_emod_of_nonneg _ (by omega)
    have n1 := Int.emod_nonneg a (show b ≠ 0 by omega)
    have n2 := Int.emod_lt_of_pos a h
    omega
theorem bz_next {l r a b p q : Int} (hb : b ≠ 0) (h : BzI l r a b p q) : BzI l r b (a - a.fdiv b * b) q (p - a.fdiv b * q) := by
  have sg := fm_sign (a := a) hb
  obtain ⟨g, d1, d2, s⟩ := h
  refine ⟨?_, d2, ?_, .inr ?_⟩
  · rw [← g, Int.gcd_comm a b]
    have := Int.gcd_sub_mul_right_right b a (a.fdiv b)
    simpa using this
  · obtain ⟨x, hx⟩ := d1
    obtain ⟨y, hy⟩ := d2
    exact ⟨x - a.fdiv b * y, by grind⟩
  · rcases s with ⟨rfl, rfl, rfl, rfl⟩ | ⟨a0, hs, hf, hi, hp⟩
    · refine ⟨hb, by omega, .inl ⟨by omega, by omega⟩, ?_, by simp⟩
      rw [Int.mul_zero, Int.sub_zero]
      simp
    · generalize hk : a.fdiv b = k at sg ⊢
      have hk1 : 1 ≤ k := by
        rcases hs with z | ⟨z1, z2, z3⟩ | ⟨z1, z2, z3⟩
        · exact absurd z hb
        · rw [← hk]
          have e1 : a.fdiv b = a / b := Int.fdiv_eq_ediv_of_nonneg _ (by omega)
          rw [e1]
          exact (Int.le_ediv_iff_mul_le z2).mpr (by omega)
        · rw [← hk]
          have e1 : a.fdiv b = (-a) / (-b) := by rw [← Int.fdiv_eq_ediv_of_nonneg _ (by omega), Int.neg_fdiv_neg]
          rw [e1]
          exact (Int.le_ediv_iff_mul_le (by omega)).mpr (by omega)
      have en : (p - k * q).natAbs = p.natAbs + k.natAbs * q.natAbs := by
        rw [← Int.natAbs_mul]
        rcases hf with ⟨f1, f2⟩ | ⟨f1, f2⟩
        · have : 0 ≤ k * q := Int.mul_nonneg (by omega) f1
          omega
        · have : k * q ≤ 0 := Int.mul_nonpos_of_nonneg_of_nonpos (by omega) f1
          omega
      have ea : (a - k * b).natAbs + k.natAbs * b.natAbs = a.natAbs := by
        rw [← Int.natAbs_mul]
        rcases hs with z | ⟨z1, z2, z3⟩ | ⟨z1, z2, z3⟩
        · exact absurd z hb
        · have : 0 ≤ k * b := Int.mul_nonneg (by omega) (by omega)
          omega
        · have : k * b ≤ 0 := Int.mul_nonpos_of_nonneg_of_nonpos (by omega) (by omega)
          omega
      refine ⟨hb, by omega, ?_, ?_, ?_⟩
      · rcases hf with ⟨f1, f2⟩ | ⟨f1, f2⟩
        · have : 0 ≤ k * q := Int.mul_nonneg (by omega) f1
          exact .inr ⟨by omega, f1⟩
        · have : k * q ≤ 0 := Int.mul_nonpos_of_nonneg_of_nonpos (by omega) f1
          exact .inl ⟨by omega, f1⟩
      · rw [en, ← hi]
        generalize p.natAbs = p at *
        generalize q.natAbs = q at *
        generalize k.natAbs = k at *
        generalize b.natAbs = b at *
        generalize (a - _).natAbs = c at *
        rw [← ea]
        grind
      · have a1 : 1 ≤ a.natAbs := by omega
        have : q.natAbs * 1 ≤ q.natAbs * a.natAbs := Nat.mul_le_mul_left _ a1
        omega
theorem bz_end {l r a p q : Int} (h : BzI l r a 0 p q) : (a.natAbs : Int) = (Int.gcd l r : Nat) ∧ (p.natAbs ≤ 1 ∨ p.natAbs ≤ r.natAbs) := by
  refine ⟨?_, ?_⟩
  · have := h.g
    rw [Int.gcd_zero_right] at this
    omega
  · rcases h.s with ⟨_, _, rfl, _⟩ | ⟨_, _, _, _, z⟩
    · exact .inl (by decide)
    · exact .inr z
theorem bz_q {l r a b p q : Int} (h : BzI l r a b p q) : q.natAbs ≤ r.natAbs := by
  rcases h.s with ⟨_, _, _, rfl⟩ | ⟨a0, _, _, hi, _⟩
  · exact Nat.zero_le _
  · have a1 : 1 ≤ a.natAbs := by omega
    have : q.natAbs * 1 ≤ q.natAbs * a.natAbs := Nat.mul_le_mul_left _ a1
    omega
theorem bz_k {a b : Int} (hb : b ≠ 0) : (a.fdiv b).natAbs ≤ a.natAbs + b.natAbs ∧ (a - a.fdiv b * b).natAbs < b.natAbs := by
  have sg := fm_sign (a := a) hb
  have e : (a.fdiv b * b).natAbs = (a.fdiv b).natAbs * b.natAbs := Int.natAbs_mul _ _
  have b1 : 1 ≤ b.natAbs := by omega
  have : (a.fdiv b).natAbs * 1 ≤ (a.fdiv b).natAbs * b.natAbs := Nat.mul_le_mul_left _ b1
  generalize a.fdiv b * b = z at *
  omega
theorem bz_p {l r a b p q : Int} (h : BzI l r a b p q) : p.natAbs ≤ 1 ∨ p.natAbs ≤ r.natAbs := by
  rcases h.s with ⟨_, _, rfl, _⟩ | ⟨_, _, _, _, z⟩
  · exact .inl (by decide)
  · exact .inr z
/-- the second factor -/
theorem bz_y {l r x g : Int} (hr : r ≠ 0) (hg : g = ((Int.gcd l r : Nat) : Int)) (d : r ∣ g - x * l) (hx : x.natAbs ≤ 1 ∨ x.natAbs ≤ r.natAbs) : x * l + (g - x * l).fdiv r * r = g ∧ ((g - x * l).fdiv r).natAbs ≤ l.natAbs + 1 := by
  obtain ⟨c, hc⟩ := d
  have e : (g - x * l).fdiv r = c := by rw [hc]; exact Int.mul_fdiv_cancel_left _ hr
  rw [e]
  refine ⟨by grind, ?_⟩
  have g1 : g.natAbs ≤ r.natAbs := by
    rw [hg, Int.natAbs_natCast]
    exact gcd_le hr
  have r1 : 1 ≤ r.natAbs := by omega
  have x1 : x.natAbs ≤ r.natAbs := by omega
  have e1 : (g - x * l).natAbs = r.natAbs * c.natAbs := by rw [hc, Int.natAbs_mul]
  have e2 : (x * l).natAbs = x.natAbs * l.natAbs := Int.natAbs_mul _ _
  have l1 : x.natAbs * l.natAbs ≤ r.natAbs * l.natAbs := Nat.mul_le_mul_right _ x1
  have l2 : r.natAbs * c.natAbs ≤ r.natAbs * (l.natAbs + 1) := by
    rw [Nat.mul_add, Nat.mul_one]
    omega
  exact Nat.le_of_mul_le_mul_left l2 r1
/-! ### one term of a weighted sum -/
def wst (T : Qt) (w : Int) (q z : Qt) : Prop := Is z (T.1 * q.2 + w * q.1 * T.2) (T.2 * q.2)
theorem wst_of {T q p z : Qt} {w : Int} (hT : Nf T) (hp : Is p (w * q.1) (1 * q.2)) (hz : Is z (T.1 * p.2 + p.1 * T.2) (T.2 * p.2)) : wst T w q z := by
  refine ⟨hz.1, ?_⟩
  have h1 := hp.2
  have h2 := hz.2
  have p1 := hp.1.1
  rw [Int.one_mul] at h1
  have z1 : p.2 * (z.1 * (T.2 * q.2)) = p.2 * ((T.1 * q.2 + w * q.1 * T.2) * z.2) := by
    have a1 : p.2 * (z.1 * (T.2 * q.2)) = (z.1 * (T.2 * p.2)) * q.2 := by grind
    have a2 : p.2 * ((T.1 * q.2 + w * q.1 * T.2) * z.2) = (T.1 * p.2 * q.2 + (w * q.1 * p.2) * T.2) * z.2 := by grind
    rw [a1, a2, h2, ← h1]
    grind
  exact Int.eq_of_mul_eq_mul_left (by omega) z1
theorem wst_1 {m z : Qt} {x : Int} (h : wst (0, 1) x m z) : Is z (x * m.1) m.2 := ⟨h.1, by
  have := h.2
  simpa using this⟩
theorem wst_2 {m v T z : Qt} {x y : Int} (hm : 1 ≤ m.2) (h1 : Is T (x * m.1) m.2) (h : wst T y v z) : Is z (x * (m.1 * v.2) + y * (v.1 * m.2)) (m.2 * v.2) := by
  refine ⟨h.1, ?_⟩
  have e1 := h1.2
  have e2 := h.2
  have t1 := h1.1.1
  have z1 : T.2 * (z.1 * (m.2 * v.2)) = T.2 * ((x * (m.1 * v.2) + y * (v.1 * m.2)) * z.2) := by
    have a1 : T.2 * (z.1 * (m.2 * v.2)) = (z.1 * (T.2 * v.2)) * m.2 := by grind
    have a2 : T.2 * ((x * (m.1 * v.2) + y * (v.1 * m.2)) * z.2) = ((x * m.1 * T.2) * v.2 + y * v.1 * T.2 * m.2) * z.2 := by grind
    rw [a1, a2, e2, ← e1]
    grind
  exact Int.eq_of_mul_eq_mul_left (by omega) z1
/-- the next measure -/
theorem wst_gl {m v z : Qt} {x y : Int} (hm : Nf m) (hv : Nf v) (hb : x * (m.1 * v.2) + y * (v.1 * m.2) = ((Int.gcd (m.1 * v.2) (v.1 * m.2) : Nat) : Int)) (h : Is z (x * (m.1 * v.2) + y * (v.1 * m.2)) (m.2 * v.2)) : z = gl2 m v := by
  rw [hb] at h
  exact is_unique (Int.mul_ne_zero (by have := hm.1; omega) (by have := hv.1; omega)) h (is_gl2 hm hv)
/-! ### the numbers that the walk ends with -/
def bzL : Nat → Int → Int → Int → Int → Int × Int
  | 0, a, _, p, _ => (a, p)
  | n + 1, a, b, p, q => if b = 0 then (a, p) else bzL n b (a - a.fdiv b * b) q (p - a.fdiv b * q)
theorem bzL_0 (n : Nat) (a p q : Int) : bzL n a 0 p q = (a, p) := by
  cases n with
  | zero => rfl
  | succ n => exact if_pos rfl
def bx (l r : Int) : Int × Int := (if (bzL r.natAbs l r 1 0).1 < 0 then -(bzL r.natAbs l r 1 0).2 else (bzL r.natAbs l r 1 0).2, if r = 0 then 0 else ((if (bzL r.natAbs l r 1 0).1 < 0 then -(bzL r.natAbs l r 1 0).1 else (bzL r.natAbs l r 1 0).1) - (if (bzL r.natAbs l r 1 0).1 < 0 then -(bzL r.natAbs l r 1 0).2 else (bzL r.natAbs l r 1 0).2) * l).fdiv r)
/-- the walk so far -/
def BzN (l r a b p q : Int) : Prop := ∃ n, b.natAbs ≤ n ∧ bzL n a b p q = bzL r.natAbs l r 1 0
theorem bzN_0 (l r : Int) : BzN l r l r 1 0 := ⟨_, Nat.le_refl _, rfl⟩
theorem bzN_next {l r a b p q : Int} (hb : b ≠ 0) (h : BzN l r a b p q) : BzN l r b (a - a.fdiv b * b) q (p - a.fdiv b * q) := by
  obtain ⟨n, hn, e⟩ := h
  have k2 := (bz_k (a := a) hb).2
  cases n with
  | zero => omega
  | succ n =>
    refine ⟨n, by omega, ?_⟩
    rw [← e]
    exact (if_neg hb).symm
theorem bzN_end {l r a p q : Int} (h : BzN l r a 0 p q) : bzL r.natAbs l r 1 0 = (a, p) := by
  obtain ⟨n, _, e⟩ := h
  rw [← e, bzL_0]
def wsS (st : Qt × List Int) (q : Qt) : Qt × List Int := (gl2 st.1 q, st.2.map (· * (bx (st.1.1 * q.2) (q.1 * st.1.2)).1) ++ [(bx (st.1.1 * q.2) (q.1 * st.1.2)).2])
def wsF (qs : List Qt) : List Int := (qs.foldl wsS ((0, 1), [])).2
theorem wsS_1 : ∀ (qs : List Qt) (m : Qt) (w : List Int), (qs.foldl wsS (m, w)).1 = qs.foldl gl2 m
  | [], _, _ => rfl
  | q :: r, m, w => wsS_1 r _ _
theorem wsF_app (qs : List Qt) (q : Qt) : wsF (qs ++ [q]) = (wsF qs).map (· * (bx ((glF qs).1 * q.2) (q.1 * (glF qs).2)).1) ++ [(bx ((glF qs).1 * q.2) (q.1 * (glF qs).2)).2] := by
  unfold wsF glF
  rw [List.foldl_append, ← wsS_1 qs (0, 1) []]
  rfl
/-! ### the product of the denominators -/
def prD (qs : List Qt) : Int := qs.foldl (fun c q => c * q.2) 1
theorem prD_app (qs : List Qt) (q : Qt) : prD (qs ++ [q]) = prD qs * q.2 := by
  unfold prD
  rw [List.foldl_append]
  rfl
theorem prD_dvd : ∀ {qs : List Qt} {c : Int}, c ∣ qs.foldl (fun c q => c * q.2) c ∧ ∀ q ∈ qs, q.2 ∣ qs.foldl (fun c q => c * q.2) c
  | [], c => ⟨⟨1, by simp⟩, fun _ z => nomatch z⟩
  | p :: r, c => by
    obtain ⟨h1, h2⟩ := prD_dvd (qs := r) (c := c * p.2)
    refine ⟨Int.dvd_trans ⟨p.2, rfl⟩ h1, fun q hq => ?_⟩
    rcases List.mem_cons.mp hq with rfl | hq
    · exact Int.dvd_trans ⟨c, Int.mul_comm _ _⟩ h1
    · exact h2 q hq
theorem prD_sz : ∀ {qs : List Qt} {c : Int} {k : Nat}, c.natAbs < 2 ^ k → (∀ q ∈ qs, Sz 134 q) → (qs.foldl (fun c q => c * q.2) c).natAbs < 2 ^ (k + 134 * qs.length)
  | [], _, _, h, _ => h
  | q :: r, c, k, h, hq => by
    have := prD_sz (qs := r) (szMul h (hq q List.mem_cons_self).2) fun p hp => hq p (List.mem_cons_of_mem _ hp)
    rw [List.length_cons, show k + 134 * (r.length + 1) = k + 134 + 134 * r.length by omega]
    exact this
theorem smW_take {ws : List Int} {qs : List Qt} {c w : Int} {q : Qt} {i : Nat} (l : ws.length = qs.length) (hw : ws[i]? = some w) (hq : qs[i]? = some q) : smW (ws.take (i + 1)) (qs.take (i + 1)) c = smW (ws.take i) (qs.take i) c + w * q.1 * (c / q.2) := by
  rw [List.take_add_one, List.take_add_one, hw, hq]
  exact smW_app (by rw [List.length_take, List.length_take, l])
theorem div_sz {c d : Int} {k : Nat} (h : c.natAbs < 2 ^ k) (hd : 1 ≤ d) : (c / d).natAbs < 2 ^ k := by
  have e : (c / d).natAbs ≤ c.natAbs := Int.natAbs_ediv_le_natAbs _ _
  omega
theorem smW_sz : ∀ {ws : List Int} {qs : List Qt} {c : Int}, (∀ w ∈ ws, w.natAbs < 2 ^ 22750) → (∀ q ∈ qs, Sz 134 q ∧ Nf q) → c.natAbs < 2 ^ 1610 → (smW ws qs c).natAbs < 2 ^ (24494 + ws.length)
  | [], qs, c, _, _, _ => by
    show (0 : Int).natAbs < _
    exact Nat.two_pow_pos _
  | w :: ws, [], c, _, _, _ => by
    show (0 : Int).natAbs < _
    exact Nat.two_pow_pos _
  | w :: ws, q :: qs, c, hw, hq, hc => by
    have ih := smW_sz (ws := ws) (qs := qs) (c := c) (fun v hv => hw v (List.mem_cons_of_mem _ hv)) (fun v hv => hq v (List.mem_cons_of_mem _ hv)) hc
    have q1 := hq q List.mem_cons_self
    have t := szMul (szMul (hw w List.mem_cons_self) q1.1.1) (div_sz hc q1.2.1)
    exact szAdd t ih (by rw [List.length_cons]; omega) (by rw [List.length_cons]; omega)
end My

namespace My
open PySem PySem.Spec PyProof.Rows L2
section
variable {P : Program} {w : World} {K : PySem.W.Frag} {mg : Str → Option Value} {base : Heap}
section
variable {X : Cx}
/-- what is tracked is none of the written part's -/
def tFr (K : PySem.W.Frag) (t : TE) : TE := fun σ H Q => t σ H fun v H' => (∀ a, H' a ≠ none → K.lookup a = none) → Q v H'
theorem pe_fr {e : Expr} {t : TE} (h : PE X e t) : PE X e (tFr X.K t) := ⟨fun pins s σ H Q I hw => thn (h.run pins s σ H _ I hw) fun u s1 ⟨v, H1, I1, r, q⟩ => ⟨v, H1, I1, r, q fun a ha => by
  cases z : X.K.lookup a with
  | none => rfl
  | some o => exact absurd (I1.bs a o (I1.ok.mod.kin a o z)).2 ha⟩⟩
end
theorem cut_to (xs : List V) (j : Nat) (hj : j ≤ xs.length) : cutV xs none (some (j : Int)) = xs.take j := by
  have e := HT.sIx_nat xs.length xs.length j
  unfold cutV
  rw [e, HT.sIx_none, List.drop_zero, Nat.sub_zero, Nat.min_eq_left hj]
theorem cut_from (xs : List V) (j : Nat) (hj : j ≤ xs.length) : cutV xs (some (j : Int)) none = xs.drop j := by
  have e := HT.sIx_nat xs.length 0 j
  unfold cutV
  rw [e, HT.sIx_none, Nat.min_eq_left hj, List.take_of_length_le (by rw [List.length_drop]; omega)]
/-- name = [..] on one line; what is tracked is none of the written part's -/
theorem ps_setLcF {X : Cx} {i : Nat} {y : Str} {py : Pos} {elt tg iter : Expr} {ifs : List Expr} {scope : Scope} {own : List (Str × Nat)} {pos spos : Pos} {wi : TI} {g : TG} {tt : TT} {te : TE} (hc : X.calm = true) (hN : X.N.Nodup) (hy : X.N[i]? = some y) (hyl : X.env.scope.names.lookup y = some .local)
    (hsw : swapsWith (.ListComp elt [⟨tg, iter, ifs, 0⟩] scope pos) (some (.Name y py)) spos.line X.env = pure true) (hi : PI X tg iter wi) (ok : BlkOk X.N X.env.scope scope own)
    (hg : ∀ (s : Shared) (H : Hp) (C : Addr) (cl : List (Str × Addr)) (fp : List Addr), PG (X.blk s H scope (compEnvC scope cl C X.env) fp) tg g) (ht : ∀ (s : Shared) (H : Hp) (C : Addr) (cl : List (Str × Addr)) (fp : List Addr), PTs (X.blk s H scope (compEnvC scope cl C X.env) fp) ifs tt)
    (he : ∀ (s : Shared) (H : Hp) (C : Addr) (cl : List (Str × Addr)) (fp : List Addr), PE (X.blk s H scope (compEnvC scope cl C X.env) fp) elt te) (hs : ∀ x, foldedSetIterable iter X.env x = pure x := by intro _; rfl) :
    PS X (.Assign [.Name y py] (.ListComp elt [⟨tg, iter, ifs, 0⟩] scope pos) spos) (tAsg (tFr X.K (tLc wi g tt te (own.map (·.2)))) (gName i)) := by
  refine ⟨fun pins s σ H D I h => ?_⟩
  rw [exec_Assign_Name_used _ _ _ _ hsw]
  refine wpAny_bind (wpAny_standAt (wpAny_bind ?_))
  show wpAny _ X.A (do let _ ← comprehension (.ListComp elt [⟨tg, iter, ifs, 0⟩] scope pos) scope X.env (firstIterPos [⟨tg, iter, ifs, 0⟩] pos) (newList []) false (eval iter X.env) (some (assign (.Name y py) X.env))) _ _ s
  have h : tLc wi g tt te (own.map (·.2)) σ H (fun x H1 => (∀ a, H1 a ≠ none → X.K.lookup a = none) → gName i x σ H1 D.nx) := h
  refine wpAny_bind (thn (lc_core (Qf := fun _ s' => SP X pins D .next s') hc hN I hi ok hg ht he hs h fun L C s' m H' I' q hn f => ?_) fun _ s' hq => wpAny_pure (wpAny_pure hq))
  have fr : ∀ a, H' a ≠ none → X.K.lookup a = none := fun a ha => by
    cases z : X.K.lookup a with
    | none => rfl
    | some o => exact absurd (I'.bs a o (I'.ok.mod.kin a o z)).2 ha
  show wpAny _ _ (assign (.Name y py) X.env (.ref L)) _ _ _
  refine wpAny_assign_Name (store_ok2 (v := V.ref L) I' hN hy (.inl hyl) rfl (fun s2 I2 ⟨a, sb, ha⟩ => ?_) (.inr hyl))
  obtain ⟨f0, f1, f2, f3, f4, f5⟩ := f
  have haC : C ≠ a := by
    rcases ha with z | z
    · rw [z]; exact f1
    · exact fun e => f4 y a z e.symm
  refine ⟨m, hn.sameBut sb haC, fun h3 sb3 => ?_⟩
  exact ⟨_, H', I2.turned (t' := s2.toks) (fun b o hb e => (sb3.2 b hb).trans e) f0 f1 f3 f4 f5, q fr⟩
def rLcm : List V → Hp → VK → Prop := fun vs H Q => ∃ a b : Int, vs = [.int a, .int b] ∧ a.natAbs < 2 ^ 2000 ∧ b.natAbs < 2 ^ 2000 ∧ Q (.int ((Nat.lcm a.natAbs b.natAbs : Nat) : Int)) H
theorem cr_lcm {X : Cx} : CallR X (.builtin "math.lcm") rLcm := by
  intro pins s σ H vs us Q I r h
  obtain ⟨a, b, rfl, ha, hb, q⟩ := h
  obtain ⟨t, u, rfl⟩ := Vals.int2 r
  have e1 : Nat.lcm 1 a.natAbs = a.natAbs := by simp [Nat.lcm]
  have z1 : (max 1 a.natAbs).log2 < 2001 := PySem.Flt.log2_lt_of (by omega) (by
    have : 2 ^ 2000 < 2 ^ 2001 := Nat.pow_lt_pow_right (by omega) (by omega)
    have : 1 < 2 ^ 2001 := Nat.one_lt_two_pow (by omega)
    omega)
  have z2 : (max a.natAbs b.natAbs).log2 < 2000 := PySem.Flt.log2_lt_of (by omega) (by omega)
  have z3 : (a.natAbs.lcm b.natAbs).log2 < 4000 := PySem.Flt.log2_lt_of (by omega) (by
    have l : Nat.lcm a.natAbs b.natAbs ≤ a.natAbs * b.natAbs := by unfold Nat.lcm; exact Nat.div_le_self _ _
    have l2 : a.natAbs * b.natAbs < 2 ^ 2000 * 2 ^ 2000 := Nat.mul_lt_mul'' ha hb
    rw [← Nat.pow_add] at l2
    exact Nat.lt_of_le_of_lt l l2)
  have g := PySem.W.mg_run_lcm a t b u (by omega) (by omega) (by
    rw [e1, Int.natAbs_natCast]
    exact Nat.lt_trans z3 (by decide))
  rw [e1] at g
  exact call_function_meets PySem.W.MGF.kind_lcm PySem.W.MGF.plain_lcm PySem.W.MGF.entry_lcm (PySem.W.MGF.args_lcm _ _) g.meets ⟨.int _, H, I.tok _, ⟨_, rfl⟩, q⟩
theorem itsO_of {H : Hp} {a : Addr} {xs : List V} (h : ob K H a = some (.tup xs)) : itsO (ob K H a) = some xs := by rw [h]; rfl
theorem itsO_ofL {H : Hp} {a : Addr} {xs : List V} (h : ob K H a = some (.lst xs)) : itsO (ob K H a) = some xs := by rw [h]; rfl
theorem sz2 {n : Nat} (h : n ≤ 100) : n ≤ sizeLine := by rw [sizeLine_eq]; omega
/-- a list of fractions -/
def AF (K : PySem.W.Frag) (H : Hp) (n : Nat) (xs : List V) (qs : List Qt) : Prop := xs.length = qs.length ∧ ∀ (i : Nat) x q, xs[i]? = some x → qs[i]? = some q → ∃ a, x = .ref a ∧ Fq K H n a q
theorem AF.same {H H' : Hp} {n : Nat} {xs : List V} {qs : List Qt} (h : AF K H n xs qs) (s : Same H H') : AF K H' n xs qs := ⟨h.1, fun i x q hx hq => by
  obtain ⟨a, e, f⟩ := h.2 i x q hx hq
  exact ⟨a, e, f.same s⟩⟩
theorem AF.kp {H H' : Hp} {n : Nat} {s : Addr} {xs ys : List V} {qs : List Qt} (h : AF K H n xs qs) (e : Kp s H H') (hs : H s = some (.lst ys)) : AF K H' n xs qs := ⟨h.1, fun i x q hx hq => by
  obtain ⟨a, e', f⟩ := h.2 i x q hx hq
  exact ⟨a, e', f.kp e hs⟩⟩
theorem AF.nil {H : Hp} {n : Nat} : AF K H n [] [] := ⟨rfl, fun i x q hx _ => by simp at hx⟩
theorem AF.snoc {H : Hp} {n : Nat} {xs : List V} {qs : List Qt} {a : Addr} {q : Qt} (h : AF K H n xs qs) (f : Fq K H n a q) : AF K H n (xs ++ [.ref a]) (qs ++ [q]) := by
  refine ⟨by rw [List.length_append, List.length_append, h.1]; rfl, fun i x p hx hq => ?_⟩
  have l := h.1
  by_cases c : i < xs.length
  · rw [List.getElem?_append_left c] at hx
    rw [List.getElem?_append_left (by omega)] at hq
    exact h.2 i x p hx hq
  · rw [List.getElem?_append_right (by omega)] at hx
    rw [List.getElem?_append_right (by omega)] at hq
    have : i - xs.length = 0 := by
      have := (List.getElem?_eq_some_iff.mp hx).1
      rw [List.length_singleton] at this
      omega
    rw [this] at hx
    rw [show i - qs.length = 0 by omega] at hq
    cases hx
    cases hq
    exact ⟨a, rfl, f⟩
theorem AF.app {H : Hp} {n : Nat} {xs ys : List V} {qs ps : List Qt} (h : AF K H n xs qs) (g : AF K H n ys ps) : AF K H n (xs ++ ys) (qs ++ ps) := by
  refine ⟨by rw [List.length_append, List.length_append, h.1, g.1], fun i x p hx hq => ?_⟩
  have l := h.1
  by_cases c : i < xs.length
  · rw [List.getElem?_append_left c] at hx
    rw [List.getElem?_append_left (by omega)] at hq
    exact h.2 i x p hx hq
  · rw [List.getElem?_append_right (by omega)] at hx
    rw [List.getElem?_append_right (by omega)] at hq
    rw [l] at hx
    exact g.2 _ x p hx hq
theorem AF.take {H : Hp} {n : Nat} {xs : List V} {qs : List Qt} (h : AF K H n xs qs) (k : Nat) : AF K H n (xs.take k) (qs.take k) := by
  refine ⟨by rw [List.length_take, List.length_take, h.1], fun i x p hx hq => ?_⟩
  rw [List.getElem?_take] at hx hq
  split at hx
  · rename_i c
    rw [if_pos c] at hq
    exact h.2 i x p hx hq
  · cases hx
theorem AF.rev {H : Hp} {n : Nat} {xs : List V} {qs : List Qt} (h : AF K H n xs qs) : AF K H n xs.reverse qs.reverse := by
  refine ⟨by rw [List.length_reverse, List.length_reverse, h.1], fun i x p hx hq => ?_⟩
  have l1 := (List.getElem?_eq_some_iff.mp hx).1
  have l2 := (List.getElem?_eq_some_iff.mp hq).1
  rw [List.length_reverse] at l1 l2
  rw [List.getElem?_reverse l1] at hx
  rw [List.getElem?_reverse l2, ← h.1] at hq
  exact h.2 _ x p hx hq
theorem AF.at {H : Hp} {n i : Nat} {xs : List V} {qs : List Qt} {x : V} (h : AF K H n xs qs) (hx : xs[i]? = some x) : ∃ a q, qs[i]? = some q ∧ x = .ref a ∧ Fq K H n a q := by
  have l := (List.getElem?_eq_some_iff.mp hx).1
  have l' : i < qs.length := by rw [← h.1]; exact l
  obtain ⟨a, e, f⟩ := h.2 i x qs[i] hx (List.getElem?_eq_getElem l')
  exact ⟨a, qs[i], List.getElem?_eq_getElem l', e, f⟩
theorem AF.mono {H : Hp} {n m : Nat} {xs : List V} {qs : List Qt} (h : AF K H n xs qs) (l : n ≤ m) : AF K H m xs qs := ⟨h.1, fun i x q hx hq => by
  obtain ⟨a, e, f⟩ := h.2 i x q hx hq
  exact ⟨a, e, f.mono l⟩⟩
theorem AF.sz {H : Hp} {n : Nat} {xs : List V} {qs : List Qt} (h : AF K H n xs qs) : ∀ q ∈ qs, Sz n q ∧ Nf q := fun q hq => by
  obtain ⟨i, hi⟩ := List.getElem?_of_mem hq
  have l := (List.getElem?_eq_some_iff.mp hi).1
  have l' : i < xs.length := by rw [h.1]; exact l
  obtain ⟨a, e, f⟩ := h.2 i xs[i] q (List.getElem?_eq_getElem l') hi
  exact ⟨f.sz, f.nf⟩
theorem frOk_same {H H' : Hp} {v : V} (e : Same H H') (h : (tyN K H v).isSome) : frOk K H' v = frOk K H v := by
  cases v with
  | ref a =>
    cases hz : ob K H a with
    | none => rw [tyN_ref, hz] at h; cases h
    | some z =>
      have hz' := ob_same e hz
      simp only [frOk, hz, hz']
  | _ => rfl
theorem Tyd.same {H H' : Hp} {v : V} (e : Same H H') (h : Tyd K H v) : Tyd K H' v := by
  refine ⟨tyS_same e h.1, fun a xs ev o x hx => ?_⟩
  subst ev
  have h1 := h.1
  cases hz : ob K H a with
  | none => rw [tyN_ref, hz] at h1; cases h1
  | some z =>
    rw [ob_same e hz] at o
    cases o
    exact tyS_same e (h.2 a xs rfl hz x hx)
/-- what the test of a list of fractions answers -/
def VlA (K : PySem.W.Frag) (H : Hp) (v : V) (Q : VK) : Prop := (∃ t, tyN K H v = some t ∧ t ≠ "list" ∧ Q (.bl false) H) ∨ ∃ (a : Addr) (xs : List V), v = .ref a ∧ ob K H a = some (.lst xs) ∧ (((xs.length = 0 ∨ 12 < xs.length) ∧ Q (.bl false) H) ∨ (1 ≤ xs.length ∧ xs.length ≤ 12 ∧ (∀ x ∈ xs, Tyd K H x) ∧ ∀ H', Same H H' → Q (.bl (xs.all (frOk K H))) H'))
def spVl (K : PySem.W.Frag) : Sp := fun vs H Q _ => ∃ v, vs = [v] ∧ VlA K H v Q
def VlI (K : PySem.W.Frag) (D : Addr) (xs : List V) (H0 : Hp) (i : Nat) (H' : Hp) : Prop := H' D = some (.lst (((xs.take i).map (frOk K H0)).map V.bl)) ∧ Same H0 H'
abbrev sVl : Stmt := topS 30
theorem scVl : FnScope ["values", "value"] ["values"] (defScope sVl) := ⟨rfl, rfl, rfl, by decide +kernel, rfl, by decide +kernel, by decide +kernel⟩
theorem blkV : BlkOk ["values", "value"] (defScope sVl) { kind := .function, names := [(".0", .local), ("value", .local), ("is_fraction", .globalImplicit)], isGenerator := false, isCoroutine := false, more := [] } [("value", 1)] := ⟨rfl, by decide +kernel, by decide +kernel, by decide +kernel, by decide +kernel⟩
theorem k_Vl {tkM : Tok} (zA : mg "all" = none) (gMV : mg "MOST_VALUES" = some (.int 12 tkM)) (T : Bt K mg) (D : Dfn K mg "_is_value_list" sVl ["values"]) (d_is_fraction : Kn P w K mg base 2 "is_fraction" ["value"] (spIsFraction K)) : Kn P w K mg base 3 "_is_value_list" ["values"] (spVl K) := by
  refine Kn.mk' D scVl (fun vs H Q E h => ?_) (fun f cdv A outer s H vs Q E hr h => ?_)
  · obtain ⟨v, rfl, _⟩ := h
    rfl
  obtain ⟨v, rfl, h⟩ := h
  refine ⟨_, (pss_cons (ps_if (PW.pt (pw_or (pt_not (pt_val (pe_callB call_isN (by rfl) T.b_isinstance (by decide +kernel) (pa_cons (pv 0) (pa_cons (pe_bltn (v := .ty "list") (by rfl) T.b_list (by decide +kernel) rfl) pa_nil))))) (pw_or1 (pt_not (pt_chain op_le op_le pe_int (pe_callB call_lenA (by rfl) T.b_len PySem.boot_len (pa_cons (pv 0) pa_nil)) (pe_glob (v := .int 12) (by rfl) gMV ⟨_, rfl⟩)))))) (pss_one (ps_ret pe_bl)) pss_nil)
      (pss_one (ps_ret (pe_callB (cr_all rfl) (by rfl) zA (by decide +kernel) (pa_cons (pe_lc (own := [("value", 1)]) (g := gName 1) (te := tCall (spIsFraction K) [] E0 (tCons (tVar 1) L2.tNil)) rfl scVl.nd (pi_list (pv 0)) blkV (fun _ _ _ _ _ => by exact pg_name (i := 1) scVl.nd rfl (.inl rfl)) (fun _ _ _ _ _ => pts_nil) (fun _ _ _ _ _ => by exact (pe_kn d_is_fraction hr (by rfl) (pa_cons (pv 1) pa_nil)))) pa_nil))))), ?_⟩
  rcases h with ⟨t, ht, nt, k⟩ | ⟨a, xs, rfl, o, h⟩
  · have mt := tyN_mem ht
    simp only [List.mem_cons, List.not_mem_nil, or_false] at mt
    rcases mt with rfl | rfl | rfl | rfl | rfl | rfl | rfl <;> first | exact absurd rfl nt | (simp only [ht, tChain, cx_K, decide_true, decide_false, reduceCtorEq, gTp, gCons, gNil, ca_0, ca_1, ca_2, ca_3, ca_4, ca_5, ca_6, ca_7, ca_8, ca_9, ca_10, ca_11, ca_12, ca_13, ca_14, ca_15, ca_16, ca_17, ca_18, ca_19, ca_20, ca_21, ca_22, ca_23, ca_24, ca_25, ca_26, ca_27, ca_28, ca_29, ca_30, not_true_eq_false, not_false_eq_true, Int.reduceEq, Nat.reduceEqDiff, Nat.reduceLeDiff, rGcd, V.ty.injEq, eq_self, List.not_mem_nil, beq_self_eq_true, HO.lst.injEq, HO.tup.injEq, tFor_eq, iRng1, iList, iTup, nat10, tSeq, rIxA, rSetA, rIsN, rIsT, tTp, tLs, itsO_tup, itsO_lst, tyO_tup, tyO_lst, tyO_dK, tyN_non, tyN_bl, tyN_int, tyN_str, tyN_ref, tyNs_lt, isB, upd_same, upd_upd, sizeLine_eq, List.mem_cons, String.reduceBEq, String.reduceEq, Bool.or_false, Bool.or_true, Bool.and_false, Bool.false_or, Bool.and_self, Bool.false_and, Bool.not_false, Bool.not_true, List.any_cons, List.any_nil, atI_0, setI_0, atI_1, setI_1, atI_2, setI_2, atI_3, setI_3, atI_4, setI_4, atI_5, setI_5, atI_6, setI_6, tAsg, gName, tOp, tUn, tVar, tC, tCons, L2.tNil, tRet, tIfS, tTest, tCB, tCall, rI, rI0, rU, tNext, tB, tAnd, tOr, tNot, tAndV, tOrV, tNotV, tDrop, tIf, tPar, gSub, rIxL, rIxT, rEq, rNe, rSetL, tBits,
    L2.start, List.map_cons, List.map_nil, List.cons_append, List.nil_append, List.append_nil, List.length_cons, List.length_nil, List.replicate, Nat.reduceAdd, Nat.reduceSub, Nat.zero_add, List.getElem?_cons_zero, List.getElem?_cons_succ, List.set_cons_zero, List.set_cons_succ,
    Option.some.injEq, exists_eq_left', exists_eq_left, V.int.injEq, V.bl.injEq, V.ref.injEq, V.str.injEq, List.cons.injEq, reduceCtorEq, and_true, true_and, false_and, and_false, exists_false, or_false, false_or, or_true, true_or, exists_const, CMul, CDiv, CPow, and_assoc, exists_and_left, exists_and_right, Int.reducePow, Int.reduceNeg, Int.reduceLT, Int.reduceLE, Nat.reducePow, Nat.reduceLT, Int.reduceToNat, gt_iff_lt, ge_iff_le, decide_eq_true_eq, Bool.not_eq_true', decide_eq_false_iff_not, scal, ↓reduceIte, Bool.false_eq_true]; exact k)
  have ty0 : tyN K H (.ref a) = some "list" := by rw [tyN_ref, o]; rfl
  have oi := itsO_ofL o
  simp only [ty0, tChain, oi, cx_K, decide_true, decide_false, reduceCtorEq, gTp, gCons, gNil, ca_0, ca_1, ca_2, ca_3, ca_4, ca_5, ca_6, ca_7, ca_8, ca_9, ca_10, ca_11, ca_12, ca_13, ca_14, ca_15, ca_16, ca_17, ca_18, ca_19, ca_20, ca_21, ca_22, ca_23, ca_24, ca_25, ca_26, ca_27, ca_28, ca_29, ca_30, not_true_eq_false, not_false_eq_true, Int.reduceEq, Nat.reduceEqDiff, Nat.reduceLeDiff, rGcd, V.ty.injEq, eq_self, List.not_mem_nil, beq_self_eq_true, HO.lst.injEq, HO.tup.injEq, tFor_eq, iRng1, iList, iTup, nat10, tSeq, rIxA, rSetA, rIsN, rIsT, tTp, tLs, itsO_tup, itsO_lst, tyO_tup, tyO_lst, tyO_dK, tyN_non, tyN_bl, tyN_int, tyN_str, tyN_ref, tyNs_lt, isB, upd_same, upd_upd, sizeLine_eq, List.mem_cons, String.reduceBEq, String.reduceEq, Bool.or_false, Bool.or_true, Bool.and_false, Bool.false_or, Bool.and_self, Bool.false_and, Bool.not_false, Bool.not_true, List.any_cons, List.any_nil, atI_0, setI_0, atI_1, setI_1, atI_2, setI_2, atI_3, setI_3, atI_4, setI_4, atI_5, setI_5, atI_6, setI_6, tAsg, gName, tOp, tUn, tVar, tC, tCons, L2.tNil, tRet, tIfS, tTest, tCB, tCall, rI, rI0, rU, tNext, tB, tAnd, tOr, tNot, tAndV, tOrV, tNotV, tDrop, tIf, tPar, gSub, rIxL, rIxT, rEq, rNe, rSetL, tBits,
    L2.start, List.map_cons, List.map_nil, List.cons_append, List.nil_append, List.append_nil, List.length_cons, List.length_nil, List.replicate, Nat.reduceAdd, Nat.reduceSub, Nat.zero_add, List.getElem?_cons_zero, List.getElem?_cons_succ, List.set_cons_zero, List.set_cons_succ,
    Option.some.injEq, exists_eq_left', exists_eq_left, V.int.injEq, V.bl.injEq, V.ref.injEq, V.str.injEq, List.cons.injEq, reduceCtorEq, and_true, true_and, false_and, and_false, exists_false, or_false, false_or, or_true, true_or, exists_const, CMul, CDiv, CPow, and_assoc, exists_and_left, exists_and_right, Int.reducePow, Int.reduceNeg, Int.reduceLT, Int.reduceLE, Nat.reducePow, Nat.reduceLT, Int.reduceToNat, gt_iff_lt, ge_iff_le, decide_eq_true_eq, Bool.not_eq_true', decide_eq_false_iff_not, scal, ↓reduceIte, Bool.false_eq_true]
  rcases h with ⟨hx, k⟩ | ⟨h1, h12, ty, k⟩
  · refine ite2 (fun h => ?_) (fun h => ?_)
    · rw [if_pos (by rcases hx with hx | hx <;> first | omega | (intro z; omega) | simp; omega)]
      exact k
    · exact k
  · rw [if_pos (show (1 : Int) ≤ (xs.length : Int) by omega)]
    rw [if_neg (show ¬ ¬ ((xs.length : Int) ≤ 12) by omega)]
    have hsl := ob_lst o
    obtain ⟨ha, ka⟩ := ob_H o (fun _ z => by cases z)
    refine ⟨_, rfl, a, rfl, ⟨xs, .of ha⟩, fun D hD => lc_list (xs := xs) (VlI K D xs H) ⟨upd_same, Same.new hD _⟩ (fun i H' _ h => .of (h.2 _ _ ha)) ?_ ?_⟩
    · rintro i x H' hi ⟨h, s2⟩
      refine ⟨rfl, ?_⟩
      simp only [tYes, if_true]
      have tx := ty x (List.mem_of_getElem? hi)
      refine ⟨_, rfl, x, rfl, tx.same s2, ?_⟩
      rw [frOk_same s2 tx.1]
      refine ⟨_, h, by rw [List.length_map, List.length_map, List.length_take, sizeLine_eq]; omega, ?_, fun c o e => ?_⟩
      · rw [upd_same, List.take_add_one, hi]
        simp
      · rw [upd_ne (ne_of_none e hD)]
        exact s2 _ _ e
    · rintro H' ⟨h, s2⟩
      rw [List.take_length] at h
      refine ⟨D, xs.map (frOk K H), rfl, .of h, ?_⟩
      have e : (xs.map (frOk K H)).all id = xs.all (frOk K H) := by rw [List.all_map]; rfl
      rw [e]
      exact k H' s2

end
end My

namespace My
open PySem PySem.Spec PyProof.Rows L2
section
variable {P : Program} {w : World} {K : PySem.W.Frag} {mg : Str → Option Value} {base : Heap}
end
/-! ### a call that leaves the last parameter away -/
structure DfnD1 (K : PySem.W.Frag) (mg : Str → Option Value) (x : Str) (st : Stmt) (ps : List Str) (dv : V) : Prop where
  ex : ∃ f fd dvs ds, FunD K x x (defArgs st) (defBody st) (defScope st) dvs [] f fd ∧ mg x = some (.ref f) ∧ Vals [dv] ds ∧ Binds K fd ps ds
structure Kn1 (P : Program) (w : World) (K : PySem.W.Frag) (mg : Str → Option Value) (base : Heap) (k : Nat) (x : Str) (ps : List Str) (sp : Sp) (dv : V) : Prop where
  ex : ∃ f fd ds, mg x = some (.ref f) ∧ PySem.W.keepIn K (.ref f) = true ∧ Vals [dv] ds ∧ Binds K fd ps ds ∧ FnOk P w K mg base CX0 k f fd ps sp
theorem Kn1.mkD {P : Program} {w : World} {K : PySem.W.Frag} {mg : Str → Option Value} {base : Heap} {x : Str} {st : Stmt} {N ps : List Str} {k : Nat} {sp : Sp} {dv : V} (D : DfnD1 K mg x st ps dv) (S : FnScope N ps (defScope st)) (len : ∀ vs H Q E, sp vs H Q E → vs.length = ps.length)
    (hbody : ∀ (f : Addr) (cdv : Value) (A : Around) (outer : List Env) (s : Shared) (H : Hp) (vs : List V) (Q : VK) (E : XK), Room k (A.deeper (envOfC x (defScope st) s.heap.objs.size f cdv)) → sp vs H Q E →
      ∃ t, PSs (cxOf CX0 P w K mg base N x (defScope st) f cdv A outer s H E).nox (defBody st) t ∧ t { nx := fun _ H' => Q .non H', rt := Q } (start N vs) H) : Kn1 P w K mg base (k + 1) x ps sp dv := by
  obtain ⟨f, fd, dvs, ds, F, m, v, b⟩ := D.ex
  exact ⟨f, fd, ds, m, F.kp, v, b, F.ok S len fun cdv A outer s H vs Q E hr h => let ⟨t, a, c⟩ := hbody f cdv A outer s H vs Q E hr h; ⟨t, a.nox, c⟩⟩
section
variable {X : Cx}
theorem pe_kn1 {j k : Nat} {x : Str} {ps : List Str} {sp : Sp} {dv : V} {p pos : Pos} {e : Expr} {es : List Expr} {t : TA} (F : Kn1 X.prog X.w X.K X.mg X.base k x ps sp dv) (hr : Room j X.A) (hg : Gl X x) (ha : PA X (e :: es) t) (hj : k ≤ j := by omega)
    (hdb : (x == ("__debug__" : Str)) = false := by decide) (he : starEach (e :: es) X.env = (false, eval e X.env) :: starEach es X.env := by rfl) (hpl : (backTo pos (starEach es X.env)).any (·.1) = false := by rfl) :
    PE X (.Call (.Name x p) (e :: es) [] pos) (tCall sp [dv] E0 t) := by
  obtain ⟨f, fd, ds, m, kp, v, b, G⟩ := F.ex
  exact pe_call G (hr.mono hj) hg m kp b v pass0 ha hdb he hpl
end
section
variable {P : Program} {w : World} {K : PySem.W.Frag} {mg : Str → Option Value} {base : Heap}
theorem k_Fraction1 (T : Bt K mg) (D : DfnD1 K mg "fraction" sFraction ["numerator", "denominator"] (.int 1)) (d_require : Kn P w K mg base 1 "require" ["well_formed", "what"] spRequire) (d_is_whole : Kn P w K mg base 1 "is_whole" ["value"] (spWhole K)) : Kn1 P w K mg base 2 "fraction" ["numerator", "denominator"] (spFraction K) (.int 1) := by
  refine Kn1.mkD D scFraction (fun vs H Q E h => ?_) (fun f cdv A outer s H vs Q E hr h => ?_)
  · obtain ⟨n, d, rfl, _⟩ := h
    rfl
  obtain ⟨n, d, rfl, h0, hz, q⟩ := h
  refine ⟨_, (pss_cons (ps_expr (pe_kn d_require hr (by rfl) (pa_cons (pe_kn d_is_whole hr (by rfl) (pa_cons (pv 0) pa_nil)) (pa_cons pe_str pa_nil))))
      (pss_cons (ps_expr (pe_kn d_require hr (by rfl) (pa_cons (pe_and (pe_kn d_is_whole hr (by rfl) (pa_cons (pv 1) pa_nil)) (pe_one (pe_cmpR op_ne (pv 1) pe_int (nomark _)))) (pa_cons pe_str pa_nil))))
      (pss_cons (ps_set (i := 2) scFraction.nd rfl (.inl rfl) (pe_callBfun cr_gcd (by rfl) T.g_gcd (pa_cons (pv 0) (pa_cons (pv 1) pa_nil))))
      (pss_cons (ps_if (pt_cmpR op_lt (pv 1) pe_int (nomark _)) (pss_one (ps_set (i := 2) scFraction.nd rfl (.inl rfl) (pe_un un_neg (pv 2)))) pss_nil)
      (pss_one (ps_ret (pe_tp (pa_cons (pe_op op_fdivX (pv 0) (pv 2)) (pa_cons (pe_op op_fdivX (pv 1) (pv 2)) pa_nil))))))))), ?_⟩
  simp only [cx_K, decide_true, decide_false, reduceCtorEq, gTp, gCons, gNil, ca_0, ca_1, ca_2, ca_3, ca_4, ca_5, ca_6, ca_7, ca_8, ca_9, ca_10, ca_11, ca_12, ca_13, ca_14, ca_15, ca_16, ca_17, ca_18, ca_19, ca_20, ca_21, ca_22, ca_23, ca_24, ca_25, ca_26, ca_27, ca_28, ca_29, ca_30, not_true_eq_false, not_false_eq_true, Int.reduceEq, Nat.reduceEqDiff, Nat.reduceLeDiff, rGcd, V.ty.injEq, eq_self, List.not_mem_nil, beq_self_eq_true, HO.lst.injEq, HO.tup.injEq, tFor_eq, iRng1, iList, iTup, nat10, tSeq, rIxA, rSetA, rIsN, rIsT, tTp, tLs, itsO_tup, itsO_lst, tyO_tup, tyO_lst, tyO_dK, tyN_non, tyN_bl, tyN_int, tyN_str, tyN_ref, tyNs_lt, isB, upd_same, upd_upd, sizeLine_eq, List.mem_cons, String.reduceBEq, String.reduceEq, Bool.or_false, Bool.or_true, Bool.and_false, Bool.false_or, Bool.and_self, Bool.false_and, Bool.not_false, Bool.not_true, List.any_cons, List.any_nil, atI_0, setI_0, atI_1, setI_1, atI_2, setI_2, atI_3, setI_3, atI_4, setI_4, atI_5, setI_5, atI_6, setI_6, tAsg, gName, tOp, tUn, tVar, tC, tCons, L2.tNil, tRet, tIfS, tTest, tCB, tCall, rI, rI0, rU, tNext, tB, tAnd, tOr, tNot, tAndV, tOrV, tNotV, tDrop, tIf, tPar, gSub, rIxL, rIxT, rEq, rNe, rSetL, tBits,
    L2.start, List.map_cons, List.map_nil, List.cons_append, List.nil_append, List.append_nil, List.length_cons, List.length_nil, List.replicate, Nat.reduceAdd, Nat.reduceSub, Nat.zero_add, List.getElem?_cons_zero, List.getElem?_cons_succ, List.set_cons_zero, List.set_cons_succ,
    Option.some.injEq, exists_eq_left', exists_eq_left, V.int.injEq, V.bl.injEq, V.ref.injEq, V.str.injEq, List.cons.injEq, reduceCtorEq, and_true, true_and, false_and, and_false, exists_false, or_false, false_or, or_true, true_or, exists_const, CMul, CDiv, CPow, and_assoc, exists_and_left, exists_and_right, Int.reducePow, Int.reduceNeg, Int.reduceLT, Int.reduceLE, Nat.reducePow, Nat.reduceLT, Int.reduceToNat, gt_iff_lt, ge_iff_le, decide_eq_true_eq, Bool.not_eq_true', decide_eq_false_iff_not, scal, ↓reduceIte, Bool.false_eq_true]
  refine ⟨_, rfl, rfl, ⟨_, rfl, ⟨_, rfl, rfl, ⟨true, rfl, ?_⟩⟩⟩⟩
  rw [if_pos rfl]
  refine ⟨_, by rw [decide_eq_false h0]; rfl, ?_⟩
  simp only [cx_K, decide_true, decide_false, reduceCtorEq, gTp, gCons, gNil, ca_0, ca_1, ca_2, ca_3, ca_4, ca_5, ca_6, ca_7, ca_8, ca_9, ca_10, ca_11, ca_12, ca_13, ca_14, ca_15, ca_16, ca_17, ca_18, ca_19, ca_20, ca_21, ca_22, ca_23, ca_24, ca_25, ca_26, ca_27, ca_28, ca_29, ca_30, not_true_eq_false, not_false_eq_true, Int.reduceEq, Nat.reduceEqDiff, Nat.reduceLeDiff, rGcd, V.ty.injEq, eq_self, List.not_mem_nil, beq_self_eq_true, HO.lst.injEq, HO.tup.injEq, tFor_eq, iRng1, iList, iTup, nat10, tSeq, rIxA, rSetA, rIsN, rIsT, tTp, tLs, itsO_tup, itsO_lst, tyO_tup, tyO_lst, tyO_dK, tyN_non, tyN_bl, tyN_int, tyN_str, tyN_ref, tyNs_lt, isB, upd_same, upd_upd, sizeLine_eq, List.mem_cons, String.reduceBEq, String.reduceEq, Bool.or_false, Bool.or_true, Bool.and_false, Bool.false_or, Bool.and_self, Bool.false_and, Bool.not_false, Bool.not_true, List.any_cons, List.any_nil, atI_0, setI_0, atI_1, setI_1, atI_2, setI_2, atI_3, setI_3, atI_4, setI_4, atI_5, setI_5, atI_6, setI_6, tAsg, gName, tOp, tUn, tVar, tC, tCons, L2.tNil, tRet, tIfS, tTest, tCB, tCall, rI, rI0, rU, tNext, tB, tAnd, tOr, tNot, tAndV, tOrV, tNotV, tDrop, tIf, tPar, gSub, rIxL, rIxT, rEq, rNe, rSetL, tBits,
    L2.start, List.map_cons, List.map_nil, List.cons_append, List.nil_append, List.append_nil, List.length_cons, List.length_nil, List.replicate, Nat.reduceAdd, Nat.reduceSub, Nat.zero_add, List.getElem?_cons_zero, List.getElem?_cons_succ, List.set_cons_zero, List.set_cons_succ,
    Option.some.injEq, exists_eq_left', exists_eq_left, V.int.injEq, V.bl.injEq, V.ref.injEq, V.str.injEq, List.cons.injEq, reduceCtorEq, and_true, true_and, false_and, and_false, exists_false, or_false, false_or, or_true, true_or, exists_const, CMul, CDiv, CPow, and_assoc, exists_and_left, exists_and_right, Int.reducePow, Int.reduceNeg, Int.reduceLT, Int.reduceLE, Nat.reducePow, Nat.reduceLT, Int.reduceToNat, gt_iff_lt, ge_iff_le, decide_eq_true_eq, Bool.not_eq_true', decide_eq_false_iff_not, scal, ↓reduceIte, Bool.false_eq_true]
  have k := gcdX (n := n) h0 hz
  have v := is_fdiv (t := n) h0
  refine ite2 (fun h => ?_) (fun h => ?_)
  · rw [if_pos h] at v
    simp only [if_pos h] at k
    exact ⟨k _, k _, fun p hp kp => (q _ v).new hp kp⟩
  · rw [if_neg h] at v
    simp only [if_neg h] at k
    exact ⟨k _, k _, fun p hp kp => (q _ v).new hp kp⟩
def spBez (K : PySem.W.Frag) : Sp := fun vs H Q _ => ∃ l r : Int, vs = [.int l, .int r] ∧ l.natAbs < 2 ^ 2000 ∧ r.natAbs < 2 ^ 2000 ∧ ∀ c x y H', Same H H' → (x, y) = bx l r → x * l + y * r = ((Int.gcd l r : Nat) : Int) → (x.natAbs ≤ 1 ∨ x.natAbs ≤ r.natAbs) → y.natAbs ≤ l.natAbs + 1 → ob K H' c = some (.tup [.int x, .int y]) → Q (.ref c) H'
def BzW (l r : Int) (H : Hp) (σ : L2.St) (H' : Hp) : Prop := ∃ (a b p q : Int) (x6 : Option V), σ = [some (.int l), some (.int r), some (.int a), some (.int b), some (.int p), some (.int q), x6] ∧ Same H H' ∧ BzI l r a b p q ∧ BzN l r a b p q ∧ a.natAbs < 2 ^ 2000 ∧ b.natAbs < 2 ^ 2000
def BzM (σ : L2.St) (_ : Hp) : Nat := match σ with
  | [_, _, _, some (.int b), _, _, _] => b.natAbs
  | _ => 0
abbrev sBez : Stmt := topS 32
theorem scBez : FnScope ["left", "right", "last", "rest", "last_factor", "factor", "quotient"] ["left", "right"] (defScope sBez) := ⟨rfl, rfl, rfl, by decide +kernel, rfl, by decide +kernel, by decide +kernel⟩
theorem k_Bez (T : Bt K mg) (D : Dfn K mg "_bezout" sBez ["left", "right"]) : Kn P w K mg base 1 "_bezout" ["left", "right"] (spBez K) := by
  refine Kn.mk' D scBez (fun vs H Q E h => ?_) (fun f cdv A outer s H vs Q E hr h => ?_)
  · obtain ⟨l, r, rfl, _⟩ := h
    rfl
  obtain ⟨l, r, rfl, hl, hr2, k⟩ := h
  refine ⟨_, (pss_cons (ps_par (i := 2) (j := 3) (by rfl) scBez.nd rfl rfl (by decide) rfl rfl (pa_cons (pv 0) (pa_cons (pv 1) pa_nil)) (by rfl))
      (pss_cons (ps_asg (pe_tp (pa_cons pe_int (pa_cons pe_int pa_nil))) (pg_tp 2 (by rfl) (pgs_cons (pg_name (i := 4) scBez.nd rfl (.inl rfl)) (pgs_cons (pg_name (i := 5) scBez.nd rfl (.inl rfl)) pgs_nil))))
      (pss_cons (ps_while PassesOwn.never (pt_cmpR op_ne (pv 3) pe_int (nomark _)) (pss_cons (ps_set (i := 6) scBez.nd rfl (.inl rfl) (pe_op op_fdivX (pv 2) (pv 3)))
      (pss_cons (ps_par (i := 2) (j := 3) (by rfl) scBez.nd rfl rfl (by decide) rfl rfl (pa_cons (pv 3) (pa_cons (pe_op op_sub (pv 2) (pe_op op_mulW (pv 6) (pv 3))) pa_nil)) (by rfl))
      (pss_one (ps_par (i := 4) (j := 5) (by rfl) scBez.nd rfl rfl (by decide) rfl rfl (pa_cons (pv 5) (pa_cons (pe_op op_sub (pv 4) (pe_op op_mulW (pv 6) (pv 5))) pa_nil)) (by rfl))))))
      (pss_cons (ps_if (pt_cmpR op_lt (pv 2) pe_int (nomark _)) (pss_one (ps_par (i := 2) (j := 4) (by rfl) scBez.nd rfl rfl (by decide) rfl rfl (pa_cons (pe_un un_neg (pv 2)) (pa_cons (pe_un un_neg (pv 4)) pa_nil)) (by rfl))) pss_nil)
      (pss_cons (ps_if (pt_cmpR op_eq (pv 1) pe_int (nomark _)) (pss_one (ps_ret (pe_tp (pa_cons (pv 4) (pa_cons pe_int pa_nil))))) pss_nil)
      (pss_one (ps_ret (pe_tp (pa_cons (pv 4) (pa_cons (pe_op op_fdivX (pe_op op_sub (pv 2) (pe_op op_mulW (pv 4) (pv 0))) (pv 1)) pa_nil)))))))))), ?_⟩
  simp only [cx_K, decide_true, decide_false, reduceCtorEq, gTp, gCons, gNil, ca_0, ca_1, ca_2, ca_3, ca_4, ca_5, ca_6, ca_7, ca_8, ca_9, ca_10, ca_11, ca_12, ca_13, ca_14, ca_15, ca_16, ca_17, ca_18, ca_19, ca_20, ca_21, ca_22, ca_23, ca_24, ca_25, ca_26, ca_27, ca_28, ca_29, ca_30, not_true_eq_false, not_false_eq_true, Int.reduceEq, Nat.reduceEqDiff, Nat.reduceLeDiff, rGcd, V.ty.injEq, eq_self, List.not_mem_nil, beq_self_eq_true, HO.lst.injEq, HO.tup.injEq, tFor_eq, iRng1, iList, iTup, nat10, tSeq, rIxA, rSetA, rIsN, rIsT, tTp, tLs, itsO_tup, itsO_lst, tyO_tup, tyO_lst, tyO_dK, tyN_non, tyN_bl, tyN_int, tyN_str, tyN_ref, tyNs_lt, isB, upd_same, upd_upd, sizeLine_eq, List.mem_cons, String.reduceBEq, String.reduceEq, Bool.or_false, Bool.or_true, Bool.and_false, Bool.false_or, Bool.and_self, Bool.false_and, Bool.not_false, Bool.not_true, List.any_cons, List.any_nil, atI_0, setI_0, atI_1, setI_1, atI_2, setI_2, atI_3, setI_3, atI_4, setI_4, atI_5, setI_5, atI_6, setI_6, tAsg, gName, tOp, tUn, tVar, tC, tCons, L2.tNil, tRet, tIfS, tTest, tCB, tCall, rI, rI0, rU, tNext, tB, tAnd, tOr, tNot, tAndV, tOrV, tNotV, tDrop, tIf, tPar, gSub, rIxL, rIxT, rEq, rNe, rSetL, tBits,
    L2.start, List.map_cons, List.map_nil, List.cons_append, List.nil_append, List.append_nil, List.length_cons, List.length_nil, List.replicate, Nat.reduceAdd, Nat.reduceSub, Nat.zero_add, List.getElem?_cons_zero, List.getElem?_cons_succ, List.set_cons_zero, List.set_cons_succ,
    Option.some.injEq, exists_eq_left', exists_eq_left, V.int.injEq, V.bl.injEq, V.ref.injEq, V.str.injEq, List.cons.injEq, reduceCtorEq, and_true, true_and, false_and, and_false, exists_false, or_false, false_or, or_true, true_or, exists_const, CMul, CDiv, CPow, and_assoc, exists_and_left, exists_and_right, Int.reducePow, Int.reduceNeg, Int.reduceLT, Int.reduceLE, Nat.reducePow, Nat.reduceLT, Int.reduceToNat, gt_iff_lt, ge_iff_le, decide_eq_true_eq, Bool.not_eq_true', decide_eq_false_iff_not, scal, ↓reduceIte, Bool.false_eq_true]
  refine fun p0 hp0 kp0 => ?_
  have s0 := Same.new hp0 (.tup [V.int 1, V.int 0])
  refine ⟨_, ob_new kp0, rfl, _, _, rfl, _, _, rfl, rfl, ?_⟩
  refine while_by (BzW l r H) BzM ⟨l, r, 1, 0, none, rfl, s0, bz_0 l r, bzN_0 l r, hl, hr2⟩ ?_ ?_
  · rintro σ H' ⟨a, b, p, q, x6, rfl, sH, I, N, ha, hb⟩
    simp only [cx_K, decide_true, decide_false, reduceCtorEq, gTp, gCons, gNil, ca_0, ca_1, ca_2, ca_3, ca_4, ca_5, ca_6, ca_7, ca_8, ca_9, ca_10, ca_11, ca_12, ca_13, ca_14, ca_15, ca_16, ca_17, ca_18, ca_19, ca_20, ca_21, ca_22, ca_23, ca_24, ca_25, ca_26, ca_27, ca_28, ca_29, ca_30, not_true_eq_false, not_false_eq_true, Int.reduceEq, Nat.reduceEqDiff, Nat.reduceLeDiff, rGcd, V.ty.injEq, eq_self, List.not_mem_nil, beq_self_eq_true, HO.lst.injEq, HO.tup.injEq, tFor_eq, iRng1, iList, iTup, nat10, tSeq, rIxA, rSetA, rIsN, rIsT, tTp, tLs, itsO_tup, itsO_lst, tyO_tup, tyO_lst, tyO_dK, tyN_non, tyN_bl, tyN_int, tyN_str, tyN_ref, tyNs_lt, isB, upd_same, upd_upd, sizeLine_eq, List.mem_cons, String.reduceBEq, String.reduceEq, Bool.or_false, Bool.or_true, Bool.and_false, Bool.false_or, Bool.and_self, Bool.false_and, Bool.not_false, Bool.not_true, List.any_cons, List.any_nil, atI_0, setI_0, atI_1, setI_1, atI_2, setI_2, atI_3, setI_3, atI_4, setI_4, atI_5, setI_5, atI_6, setI_6, tAsg, gName, tOp, tUn, tVar, tC, tCons, L2.tNil, tRet, tIfS, tTest, tCB, tCall, rI, rI0, rU, tNext, tB, tAnd, tOr, tNot, tAndV, tOrV, tNotV, tDrop, tIf, tPar, gSub, rIxL, rIxT, rEq, rNe, rSetL, tBits,
    L2.start, List.map_cons, List.map_nil, List.cons_append, List.nil_append, List.append_nil, List.length_cons, List.length_nil, List.replicate, Nat.reduceAdd, Nat.reduceSub, Nat.zero_add, List.getElem?_cons_zero, List.getElem?_cons_succ, List.set_cons_zero, List.set_cons_succ,
    Option.some.injEq, exists_eq_left', exists_eq_left, V.int.injEq, V.bl.injEq, V.ref.injEq, V.str.injEq, List.cons.injEq, reduceCtorEq, and_true, true_and, false_and, and_false, exists_false, or_false, false_or, or_true, true_or, exists_const, CMul, CDiv, CPow, and_assoc, exists_and_left, exists_and_right, Int.reducePow, Int.reduceNeg, Int.reduceLT, Int.reduceLE, Nat.reducePow, Nat.reduceLT, Int.reduceToNat, gt_iff_lt, ge_iff_le, decide_eq_true_eq, Bool.not_eq_true', decide_eq_false_iff_not, scal, ↓reduceIte, Bool.false_eq_true]
    refine ite2 (fun h => ?_) (fun h => ?_)
    · obtain ⟨k1, k2⟩ := bz_k (a := a) h
      have q1 := bz_q I
      have p2 : 2 ^ 2000 + 2 ^ 2000 = 2 ^ 2001 := by rw [Nat.pow_succ 2 2000, Nat.mul_two]
      have kz : (a.fdiv b).natAbs < 2 ^ 2001 := by omega
      refine ⟨⟨h, Nat.lt_of_lt_of_le hb (Nat.pow_le_pow_right (by omega) (by omega))⟩, mulW kz hb (by omega), mulW kz (Nat.lt_of_le_of_lt q1 hr2) (by omega), ⟨_, _, _, _, _, rfl, sH, bz_next h I, bzN_next h N, hb, Nat.lt_trans k2 hb⟩, ?_⟩
      exact k2
    · have h0 : b = 0 := by omega
      subst h0
      obtain ⟨g, px⟩ := bz_end I
      have d1 := I.d1
      have eN := bzN_end N
      have fin : ∀ x a' : Int, x = (if a < 0 then -p else p) → a' = (if a < 0 then -a else a) → a' = ((Int.gcd l r : Nat) : Int) → r ∣ a' - x * l → (x.natAbs ≤ 1 ∨ x.natAbs ≤ r.natAbs) → if r = 0 then ∀ p_1 : Addr, H' p_1 = none → List.lookup p_1 K = none → Q (V.ref p_1) (upd H' p_1 (HO.tup [V.int x, V.int 0])) else CMulW x l ∧ CDivX (a' - x * l) r ∧ ∀ p_1 : Addr, H' p_1 = none → List.lookup p_1 K = none → Q (V.ref p_1) (upd H' p_1 (HO.tup [V.int x, V.int ((a' - x * l).fdiv r)])) := fun x a' ex ea hg d hx => by
        have ebx : bx l r = (x, if r = 0 then 0 else (a' - x * l).fdiv r) := by
          unfold bx
          rw [eN, ex, ea]
        refine ite2 (fun h => ?_) (fun h => ?_)
        · subst h
          refine fun p1 hp1 kp1 => k p1 x 0 _ (sH.trans (Same.new hp1 _)) (by rw [ebx, if_pos rfl]) ?_ hx (by simp) (ob_new kp1)
          rw [← hg]
          obtain ⟨c, hc⟩ := d
          omega
        · obtain ⟨y1, y2⟩ := bz_y h hg d hx
          have xz : x.natAbs < 2 ^ 2001 := by
            have : 2 ^ 2000 < 2 ^ 2001 := Nat.pow_lt_pow_right (by omega) (by omega)
            have : 1 < 2 ^ 2001 := Nat.one_lt_two_pow (by omega)
            omega
          exact ⟨mulW xz hl (by omega), ⟨h, Nat.lt_of_lt_of_le hr2 (Nat.pow_le_pow_right (by omega) (by omega))⟩, fun p1 hp1 kp1 => k p1 x _ _ (sH.trans (Same.new hp1 _)) (by rw [ebx, if_neg h]) (y1.trans hg) hx y2 (ob_new kp1)⟩
      refine ite2 (fun h => ?_) (fun h => ?_)
      · refine fin (-p) (-a) (by rw [if_pos h]) (by rw [if_pos h]) (by omega) ?_ (by rw [Int.natAbs_neg]; exact px)
        obtain ⟨c, hc⟩ := d1
        exact ⟨-c, by rw [Int.mul_neg, ← hc, Int.neg_mul]; omega⟩
      · exact fin p a (by rw [if_neg h]) (by rw [if_neg h]) (by omega) d1 px
  · rintro σ H' Q' Q2 hq ⟨v, e, k0, b0, e2, h⟩
    exact ⟨v, e, k0, b0, e2, hq _ _ h⟩

end
end My

namespace My
open PySem PySem.Spec PyProof.Rows L2
section
variable {P : Program} {w : World} {K : PySem.W.Frag} {mg : Str → Option Value} {base : Heap}
def spWS (K : PySem.W.Frag) : Sp := fun vs H Q _ => ∃ (l1 l2 a b : Addr) (x y : Int) (m v : Qt), vs = [.ref l1, .ref l2] ∧ H l1 = some (.lst [.int x, .int y]) ∧ H l2 = some (.lst [.ref a, .ref b]) ∧ Fq K H 1610 a m ∧ m.1.natAbs < 2 ^ 134 ∧ Fq K H 134 b v ∧ x.natAbs < 2 ^ 1750 ∧ y.natAbs < 2 ^ 300 ∧ ∀ z, Is z (x * (m.1 * v.2) + y * (v.1 * m.2)) (m.2 * v.2) → Gv K H Q z
/-- the sum after i terms -/
def WsR (x : Int) (m v : Qt) (y : Int) : Nat → Qt → Prop
  | 0, T => T = (0, 1)
  | 1, T => Is T (x * m.1) m.2
  | _, T => Is T (x * (m.1 * v.2) + y * (v.1 * m.2)) (m.2 * v.2)
def szI : Nat → Nat
  | 0 => 1
  | 1 => 1900
  | _ => 2900
def WsI (K : PySem.W.Frag) (l1 l2 : Addr) (x y : Int) (m v : Qt) (H : Hp) (i : Nat) (σ : L2.St) (H' : Hp) : Prop := ∃ (t : Addr) (T : Qt) (x3 x4 : Option V), σ = [some (.ref l1), some (.ref l2), some (.ref t), x3, x4] ∧ Same H H' ∧ Fq K H' (szI i) t T ∧ WsR x m v y i T
abbrev sWS : Stmt := topS 29
theorem scWS : FnScope ["weights", "values", "total", "weight", "value"] ["weights", "values"] (defScope sWS) := ⟨rfl, rfl, rfl, by decide +kernel, rfl, by decide +kernel, by decide +kernel⟩
theorem k_WS (T : Bt K mg) {z0 : Addr} (gZ : mg "ZERO" = some (.ref z0)) (oZ : ∀ H, ob K H z0 = some (frt (0, 1))) (zZ : mg "zip" = none) (d_fraction : Kn1 P w K mg base 2 "fraction" ["numerator", "denominator"] (spFraction K) (.int 1)) (D : Dfn K mg "weighted_sum" sWS ["weights", "values"]) (d_plus : Kn P w K mg base 3 "plus" ["left", "right"] (spBin K sum2)) (d_times : Kn P w K mg base 3 "times" ["left", "right"] (spBin K pro2)) : Kn P w K mg base 4 "weighted_sum" ["weights", "values"] (spWS K) := by
  refine Kn.mk' D scWS (fun vs H Q E h => ?_) (fun f cdv A outer s H vs Q E hr h => ?_)
  · obtain ⟨l1, l2, a, b, x, y, m, v, rfl, _⟩ := h
    rfl
  obtain ⟨l1, l2, a, b, x, y, m, v, rfl, h1, h2, hm, hm0, hv, hx, hy, k⟩ := h
  refine ⟨_, (pss_cons (ps_set (i := 2) scWS.nd rfl (.inl rfl) (pe_glob (v := .ref z0) (by rfl) gZ rfl))
      (pss_cons (ps_for PassesOwn.never rfl (pi_zip (by rfl) zZ (pa_cons (pv 0) (pa_cons (pv 1) pa_nil))) (pg_tup rfl (pgs_cons (pg_name (i := 3) scWS.nd rfl (.inl rfl)) (pgs_cons (pg_name (i := 4) scWS.nd rfl (.inl rfl)) pgs_nil))) (pss_one (ps_set (i := 2) scWS.nd rfl (.inl rfl) (pe_kn d_plus hr (by rfl) (pa_cons (pv 2) (pa_cons (pe_kn d_times hr (by rfl) (pa_cons (pe_kn1 d_fraction hr (by rfl) (pa_cons (pv 3) pa_nil)) (pa_cons (pv 4) pa_nil))) pa_nil))))))
      (pss_one (ps_ret (pv 2))))), ?_⟩
  refine ⟨_, rfl, _, rfl, l1, l2, _, _, rfl, .of h1, .of h2, RZ.for_zipL (xs := [V.int x, V.int y]) (ys := [V.ref a, V.ref b]) rfl (WsI K l1 l2 x y m v H) ⟨z0, (0, 1), none, none, rfl, Same.refl _, ⟨oZ _, nf_01, by show (0 : Nat) < 2; decide, by show (1 : Nat) < 2; decide⟩, rfl⟩ (fun i σ H' h => ?_) ?_ ?_⟩
  · obtain ⟨t, T, x3, x4, rfl, s, _⟩ := h
    exact ⟨.of (s _ _ h1), .of (s _ _ h2)⟩
  · rintro i x' y' Tp σ H' hx' hy' ⟨t, T, x3, x4, rfl, s, ft, hr'⟩ hT
    have s1 := Same.new hT (.tup [x', y'])
    have oT : upd H' Tp (.tup [x', y']) Tp = some (.tup [x', y']) := upd_same
    have s2 := s.trans s1
    have ft2 := ft.same s1
    generalize upd H' Tp (.tup [x', y']) = H2 at s1 oT s2 ft2 ⊢
    obtain ⟨w, c, q, rfl, rfl, fq, hw, hw2, fin⟩ : ∃ (w : Int) (c : Addr) (q : Qt), x' = .int w ∧ y' = .ref c ∧ Fq K H2 1610 c q ∧ w.natAbs < 2 ^ 1750 ∧ (w * q.1).natAbs < 2 ^ 1900 ∧ ∀ z, wst T w q z → WsR x m v y (i + 1) z ∧ Sz (szI (i + 1)) z := by
      have hi : i = 0 ∨ i = 1 := by
        have := (List.getElem?_eq_some_iff.mp hx').1
        simp only [List.length_cons, List.length_nil] at this
        omega
      have xm := szMul (a := 1750) (b := 134) hx hm0
      have yv := szMul (a := 300) (b := 134) hy hv.sz.1
      rcases hi with rfl | rfl
      · cases hx'
        cases hy'
        cases hr'
        refine ⟨x, a, m, rfl, rfl, hm.same s2, hx, szMono xm (by omega), fun z hz => ⟨wst_1 hz, is_sz hm.nf.ne (wst_1 hz) (szMono xm (by show 1884 ≤ 1900; omega)) (szMono hm.sz.2 (by show 1610 ≤ 1900; omega))⟩⟩
      · cases hx'
        cases hy'
        have tz : Sz 1900 T := ft.sz
        refine ⟨y, b, v, rfl, rfl, (hv.mono (by omega)).same s2, szMono hy (by omega), szMono yv (by omega), fun z hz => ⟨wst_2 hm.nf.1 hr' hz, is_sz (Int.mul_ne_zero ft.nf.ne hv.nf.ne) hz (szMono (szAdd (c := 2600) (szMul tz.1 hv.sz.2) (szMul yv tz.2) (by omega) (by omega)) (by show 2600 ≤ 2900; omega)) (szMono (szMul tz.2 hv.sz.2) (by show 1900 + 134 ≤ 2900; omega))⟩⟩
    have tz : Sz 2900 T := ft2.sz.mono (by
      unfold szI
      split <;> omega)
    refine ⟨Tp, _, rfl, .inl (.inl oT), rfl, _, _, rfl, _, _, rfl, rfl, ?_⟩
    have wn : Is (w, 1) w 1 := ⟨⟨by show (1 : Int) ≤ 1; decide, by show Int.gcd w 1 = 1; simp⟩, rfl⟩
    refine ⟨_, rfl, _, rfl, w, 1, rfl, by decide, Nat.one_lt_two_pow (by omega), fun p hp ap H3 s3 o3 => ?_⟩
    have ep := is_unique (by decide) hp wn
    subst ep
    refine ⟨_, rfl, ap, c, (w, 1), q, rfl, ⟨o3, hp.1, szMono hw (by omega), Nat.one_lt_two_pow (by omega)⟩, (fq.mono (by omega)).same s3, fun r hr3 ar H4 s4 o4 => ?_⟩
    have hr4 : Is r (w * q.1) (1 * q.2) := hr3
    have rz : Sz 1900 r := is_sz (by rw [Int.one_mul]; exact fq.nf.ne) hr4 hw2 (by rw [Int.one_mul]; exact szMono fq.sz.2 (by omega))
    refine ⟨t, ar, T, r, rfl, ⟨ob_same (s3.trans s4) ft2.o, ft2.nf, tz.mono (by omega)⟩, ⟨o4, hr4.1, rz.mono (by omega)⟩, fun z hz az H5 s5 o5 => ?_⟩
    have wz := wst_of ft2.nf hr4 hz
    obtain ⟨f1, f2⟩ := fin z wz
    exact ⟨az, z, _, _, rfl, s2.trans (s3.trans (s4.trans s5)), ⟨o5, wz.1, f2⟩, f1⟩
  · rintro σ H' ⟨t, T, x3, x4, rfl, s, ft, hr'⟩
    exact ⟨_, rfl, k T hr' t H' s ft.o⟩

def spCM (K : PySem.W.Frag) : Sp := fun vs H Q _ => ∃ (a : Addr) (xs : List V) (qs : List Qt), vs = [.ref a] ∧ H a = some (.lst xs) ∧ K.lookup a = none ∧ AF K H 134 xs qs ∧ 1 ≤ xs.length ∧ xs.length ≤ 12 ∧ Gv K H Q (glF qs)
def CmI (a : Addr) (qs : List Qt) (H : Hp) (i : Nat) (σ : L2.St) (H' : Hp) : Prop := ∃ x3 : Option V, σ = [some (.ref a), some (.int (glF (qs.take i)).1), some (.int (glF (qs.take i)).2), x3] ∧ Same H H'
abbrev sCM : Stmt := topS 25
theorem scCM : FnScope ["values", "numerator", "denominator", "value"] ["values"] (defScope sCM) := ⟨rfl, rfl, rfl, by decide +kernel, rfl, by decide +kernel, by decide +kernel⟩
theorem k_CM (T : Bt K mg) (gL : mg "lcm" = some (.builtin "math.lcm")) (D : Dfn K mg "common_measure" sCM ["values"]) (d_require : Kn P w K mg base 1 "require" ["well_formed", "what"] spRequire) (d__is_value_list : Kn P w K mg base 3 "_is_value_list" ["values"] (spVl K)) (d_fraction : Kn P w K mg base 2 "fraction" ["numerator", "denominator"] (spFraction K)) : Kn P w K mg base 4 "common_measure" ["values"] (spCM K) := by
  refine Kn.mk' D scCM (fun vs H Q E h => ?_) (fun f cdv A outer s H vs Q E hr h => ?_)
  · obtain ⟨a, xs, qs, rfl, _⟩ := h
    rfl
  obtain ⟨a, xs, qs, rfl, ha, ka, af, l1, l12, k⟩ := h
  refine ⟨_, (pss_cons (ps_expr (pe_kn d_require hr (by rfl) (pa_cons (pe_kn d__is_value_list hr (by rfl) (pa_cons (pv 0) pa_nil)) (pa_cons pe_str pa_nil))))
      (pss_cons (ps_set (i := 1) scCM.nd rfl (.inl rfl) pe_int)
      (pss_cons (ps_set (i := 2) scCM.nd rfl (.inl rfl) pe_int)
      (pss_cons (ps_for PassesOwn.never rfl (pi_list (pv 0)) (pg_name (i := 3) scCM.nd rfl (.inl rfl)) (pss_cons (ps_set (i := 1) scCM.nd rfl (.inl rfl) (pe_callBfun cr_gcd (by rfl) T.g_gcd (pa_cons (pv 1) (pa_cons (pe_ix ix_any (pv 3) pe_int (fun _ _ => rfl)) pa_nil))))
      (pss_one (ps_set (i := 2) scCM.nd rfl (.inl rfl) (pe_callBfun cr_lcm (by rfl) gL (pa_cons (pv 2) (pa_cons (pe_ix ix_any (pv 3) pe_int (fun _ _ => rfl)) pa_nil)))))))
      (pss_one (ps_ret (pe_kn d_fraction hr (by rfl) (pa_cons (pv 1) (pa_cons (pv 2) pa_nil))))))))), ?_⟩
  have o := (ob_none ka).trans ha
  have tyd : ∀ x ∈ xs, Tyd K H x := fun x hx => by
    obtain ⟨i, hi⟩ := List.getElem?_of_mem hx
    obtain ⟨b, q, _, rfl, f⟩ := af.at hi
    exact Tyd.fr f.o
  have al : xs.all (frOk K H) = true := List.all_eq_true.mpr fun x hx => by
    obtain ⟨i, hi⟩ := List.getElem?_of_mem hx
    obtain ⟨b, q, _, rfl, f⟩ := af.at hi
    exact frOk_fr f.o f.nf
  refine ⟨_, rfl, _, rfl, .inr ⟨a, xs, rfl, o, .inr ⟨l1, l12, tyd, fun H1 s1 => ?_⟩⟩⟩
  rw [al]
  refine ⟨_, rfl, ?_⟩
  refine ⟨_, rfl, a, rfl, ⟨xs, .of (s1 _ _ ha)⟩, forI_list (xs := xs) (CmI a qs H) ⟨none, rfl, s1⟩ (fun i σ H' _ h => ?_) ?_ ?_⟩
  · obtain ⟨x3, rfl, s⟩ := h
    exact .of (s _ _ ha)
  · rintro i x σ H' hi ⟨x3, rfl, s⟩
    obtain ⟨b, q, hq, rfl, f⟩ := af.at hi
    have f2 := f.same s
    have e : glF (qs.take (i + 1)) = gl2 (glF (qs.take i)) q := by
      rw [List.take_add_one, hq]
      exact glF_app _ _
    have gz := glF_sz12 (qs := qs.take i) (fun q hq => af.sz q (List.mem_of_mem_take hq)) (by rw [List.length_take]; have := af.1; omega)
    refine ⟨_, rfl, _, rfl, b, 0, rfl, rfl, _, itsO_of f2.o, _, atI_0 _ _, _, _, rfl, ?_⟩
    refine ⟨_, rfl, _, rfl, b, 1, rfl, rfl, _, itsO_of f2.o, _, atI_1 _ _ _, _, _, rfl, szMono gz.2 (by omega), szMono f2.sz.2 (by omega), ?_⟩
    refine ⟨some (.ref b), ?_, s⟩
    rw [e]
    rfl
  · rintro σ H' ⟨x3, rfl, s⟩
    rw [af.1, List.take_length]
    have gz := glF_sz12 af.sz (by have := af.1; omega)
    have nf := nf_gl fun q hq => (af.sz q hq).2
    refine ⟨_, rfl, _, rfl, _, _, rfl, nf.ne, szMono gz.2 (by omega), fun z hz p H2 s2 o2 => ?_⟩
    rw [is_unique nf.ne hz (is_self nf)] at o2
    exact k p H2 (s.trans s2) o2

def spMP (K : PySem.W.Frag) : Sp := fun vs H Q _ => ∃ (a : Addr) (xs : List V) (qs : List Qt), vs = [.ref a] ∧ H a = some (.lst xs) ∧ K.lookup a = none ∧ AF K H 134 xs qs ∧ 1 ≤ xs.length ∧ xs.length ≤ 12 ∧ ∀ c t tw H', Same H H' → ob K H' c = some (.tup [.ref t, .ref tw]) → ob K H' t = some (frt (glF qs)) → ob K H' tw = some (.tup ((wsF qs).map V.int)) → Wts (wsF qs) qs (glF qs) → (∀ x ∈ wsF qs, x.natAbs < 2 ^ 22750) → Q (.ref c) H'
def MpI (K : PySem.W.Frag) (a : Addr) (qs : List Qt) (H : Hp) (i : Nat) (σ : L2.St) (H' : Hp) : Prop := ∃ (t l : Addr) (ws : List Int) (x3 x4 x5 : Option V), σ = [some (.ref a), some (.ref t), some (.ref l), x3, x4, x5, none] ∧ Same H H' ∧ ob K H' t = some (frt (glF (qs.take i))) ∧ H' l = some (.lst (ws.map V.int)) ∧ K.lookup l = none ∧ ws = wsF (qs.take i) ∧ Wts ws (qs.take i) (glF (qs.take i)) ∧ ∀ x ∈ ws, x.natAbs < 2 ^ (1750 * (i + 1))
def WcI (D : Addr) (ws : List Int) (x : Int) (H0 : Hp) (i : Nat) (H' : Hp) : Prop := H' D = some (.lst (((ws.take i).map (· * x)).map V.int)) ∧ Same H0 H'
abbrev sMP : Stmt := topS 26
theorem scMP : FnScope ["values", "measure", "weights", "value", "kept", "added", "weight"] ["values"] (defScope sMP) := ⟨rfl, rfl, rfl, by decide +kernel, rfl, by decide +kernel, by decide +kernel⟩
theorem blk_scMP_0 : BlkOk ["values", "measure", "weights", "value", "kept", "added", "weight"] (defScope sMP) { kind := .function, names := [(".0", .local), ("weight", .local), ("kept", .free)], isGenerator := false, isCoroutine := false, more := [] } [("weight", 6)] := ⟨rfl, by decide +kernel, by decide +kernel, by decide +kernel, by decide +kernel⟩
theorem k_MP (T : Bt K mg) {z0 : Addr} (gZ : mg "ZERO" = some (.ref z0)) (oZ : ∀ H, ob K H z0 = some (frt (0, 1))) (D : Dfn K mg "measure_paper" sMP ["values"]) (d_require : Kn P w K mg base 1 "require" ["well_formed", "what"] spRequire) (d__is_value_list : Kn P w K mg base 3 "_is_value_list" ["values"] (spVl K)) (d__bezout : Kn P w K mg base 1 "_bezout" ["left", "right"] (spBez K)) (d_weighted_sum : Kn P w K mg base 4 "weighted_sum" ["weights", "values"] (spWS K)) : Kn P w K mg base 5 "measure_paper" ["values"] (spMP K) := by
  refine Kn.mk' D scMP (fun vs H Q E h => ?_) (fun f cdv A outer s H vs Q E hr h => ?_)
  · obtain ⟨a, xs, qs, rfl, _⟩ := h
    rfl
  obtain ⟨a, xs, qs, rfl, ha, ka, af, l1, l12, k⟩ := h
  refine ⟨_, (pss_cons (ps_expr (pe_kn d_require hr (by rfl) (pa_cons (pe_kn d__is_value_list hr (by rfl) (pa_cons (pv 0) pa_nil)) (pa_cons pe_str pa_nil))))
      (pss_cons (ps_set (i := 1) scMP.nd rfl (.inl rfl) (pe_glob (v := .ref z0) (by rfl) gZ rfl))
      (pss_cons (ps_set (i := 2) scMP.nd rfl (.inl rfl) (pe_ls pa_nil))
      (pss_cons (ps_for PassesOwn.never rfl (pi_list (pv 0)) (pg_name (i := 3) scMP.nd rfl (.inl rfl)) (pss_cons (ps_asg (pe_kn d__bezout hr (by rfl) (pa_cons (pe_op op_mulW (pe_ix ix_any (pv 1) pe_int (fun _ _ => rfl)) (pe_ix ix_any (pv 3) pe_int (fun _ _ => rfl))) (pa_cons (pe_op op_mulW (pe_ix ix_any (pv 3) pe_int (fun _ _ => rfl)) (pe_ix ix_any (pv 1) pe_int (fun _ _ => rfl))) pa_nil))) (pg_tp 2 (by rfl) (pgs_cons (pg_name (i := 4) scMP.nd rfl (.inr rfl)) (pgs_cons (pg_name (i := 5) scMP.nd rfl (.inl rfl)) pgs_nil))))
      (pss_cons (ps_set (i := 1) scMP.nd rfl (.inl rfl) (pe_kn d_weighted_sum hr (by rfl) (pa_cons (pe_ls (pa_cons (pv 4) (pa_cons (pv 5) pa_nil))) (pa_cons (pe_ls (pa_cons (pv 1) (pa_cons (pv 3) pa_nil))) pa_nil))))
      (pss_one (ps_set (i := 2) scMP.nd rfl (.inl rfl) (pe_fr (pe_op op_cat (pe_fr (pe_lc (own := [("weight", 6)]) (g := gName 6) (te := (tOp (rI CMulW fun i j => V.int (i * j)) (tVar 6) (tVar 4))) rfl scMP.nd (pi_list (pv 2)) blk_scMP_0 (fun _ _ _ _ _ => by exact pg_name (i := 6) scMP.nd rfl (.inl rfl)) (fun _ _ _ _ _ => pts_nil) (fun _ _ _ _ _ => by exact (pe_op op_mulW (pv 6) (pv 4))))) (pe_ls (pa_cons (pv 5) pa_nil)))))))))
      (pss_one (ps_ret (pe_tp (pa_cons (pv 1) (pa_cons (pe_fr (pe_callTy call_tuple_of (by rfl) T.b_tuple (by decide +kernel) (pa_cons (pv 2) pa_nil))) pa_nil))))))))), ?_⟩
  have o := (ob_none ka).trans ha
  have tyd : ∀ x ∈ xs, Tyd K H x := fun x hx => by
    obtain ⟨i, hi⟩ := List.getElem?_of_mem hx
    obtain ⟨b, q, _, rfl, f⟩ := af.at hi
    exact Tyd.fr f.o
  have al : xs.all (frOk K H) = true := List.all_eq_true.mpr fun x hx => by
    obtain ⟨i, hi⟩ := List.getElem?_of_mem hx
    obtain ⟨b, q, _, rfl, f⟩ := af.at hi
    exact frOk_fr f.o f.nf
  refine ⟨_, rfl, _, rfl, .inr ⟨a, xs, rfl, o, .inr ⟨l1, l12, tyd, fun H1 s1 => ?_⟩⟩⟩
  rw [al]
  refine ⟨_, rfl, sz2 (by show 0 ≤ 100; decide), fun l0 hl0 kl0 => ?_⟩
  have s2 := Same.new hl0 (.lst [])
  refine ⟨_, rfl, a, rfl, ⟨xs, .of (s2 _ _ (s1 _ _ ha))⟩, forI_list (xs := xs) (MpI K a qs H) ⟨z0, l0, [], none, none, none, rfl, s1.trans s2, oZ _, upd_same, kl0, rfl, wts_nil, fun x hx => nomatch hx⟩ (fun i σ H' _ h => ?_) ?_ ?_⟩
  · obtain ⟨t, l, ws, x3, x4, x5, rfl, s, _⟩ := h
    exact .of (s _ _ ha)
  · rintro i x σ H' hi ⟨t, l, ws, x3, x4, x5, rfl, s, ot, hl, kl, ew, wt, wz⟩
    obtain ⟨b, q, hq, rfl, f⟩ := af.at hi
    have f2 := f.same s
    have e : glF (qs.take (i + 1)) = gl2 (glF (qs.take i)) q := by
      rw [List.take_add_one, hq]
      exact glF_app _ _
    have e' : qs.take (i + 1) = qs.take i ++ [q] := by
      rw [List.take_add_one, hq]
      rfl
    have e2 : wsF (qs.take (i + 1)) = ws.map (· * (bx ((glF (qs.take i)).1 * q.2) (q.1 * (glF (qs.take i)).2)).1) ++ [(bx ((glF (qs.take i)).1 * q.2) (q.1 * (glF (qs.take i)).2)).2] := by
      rw [e', ew]
      exact wsF_app _ _
    have afz : ∀ q ∈ qs.take i, Sz 134 q ∧ Nf q := fun q hq => af.sz q (List.mem_of_mem_take hq)
    have gz := glF_sz12 afz (by rw [List.length_take]; have := af.1; omega)
    have g0 := (glF_sz afz).1
    have gn := nf_gl fun q hq => (afz q hq).2
    have hil : i < 12 := by
      have := (List.getElem?_eq_some_iff.mp hi).1
      omega
    generalize glF (qs.take i) = m at ot wt gz g0 gn e e2
    have lz := szMul g0 f.sz.2
    have rz := szMul f.sz.1 gz.2
    refine ⟨_, rfl, t, 0, rfl, rfl, _, itsO_of ot, _, atI_0 _ _, _, rfl, b, 1, rfl, rfl, _, itsO_of f2.o, _, atI_1 _ _ _, _, _, rfl, rfl, mulW g0 f.sz.2 (by omega), _, rfl, b, 0, rfl, rfl, _, itsO_of f2.o, _, atI_0 _ _, _, rfl, t, 1, rfl, rfl, _, itsO_of ot, _, atI_1 _ _ _, _, _, rfl, rfl, mulW f.sz.1 gz.2 (by omega), ?_⟩
    refine ⟨_, _, rfl, szMono lz (by omega), szMono rz (by omega), fun c x y H2 s3 exy hxy hx hy oc => ?_⟩
    rw [← exy] at e2
    have xz : x.natAbs < 2 ^ 1750 := by
      rcases hx with z | z
      · exact Nat.lt_of_le_of_lt z (Nat.one_lt_two_pow (by omega))
      · exact szMono (Nat.lt_of_le_of_lt z rz) (by omega)
    have yz : y.natAbs < 2 ^ 300 := by
      have e1 : 2 ^ 268 < 2 ^ 300 := Nat.pow_lt_pow_right (by omega) (by omega)
      have lz : (m.1 * q.2).natAbs < 2 ^ 268 := lz
      omega
    refine ⟨c, rfl, _, oc, rfl, _, _, rfl, _, _, rfl, rfl, ?_⟩
    refine ⟨_, rfl, _, rfl, sz2 (by show 2 ≤ 100; decide), fun p1 hp1 kp1 => ?_⟩
    have s4 := Same.new hp1 (.lst [.int x, .int y])
    have o1 : upd H2 p1 (.lst [.int x, .int y]) p1 = some (.lst [.int x, .int y]) := upd_same
    generalize upd H2 p1 (.lst [.int x, .int y]) = H3 at s4 o1 ⊢
    refine ⟨_, rfl, _, rfl, sz2 (by show 2 ≤ 100; decide), fun p2 hp2 kp2 => ?_⟩
    have s5 := Same.new hp2 (.lst [.ref t, .ref b])
    have o2 : upd H3 p2 (.lst [.ref t, .ref b]) p2 = some (.lst [.ref t, .ref b]) := upd_same
    have o1 := s5 _ _ o1
    generalize upd H3 p2 (.lst [.ref t, .ref b]) = H4 at s5 o1 o2 ⊢
    have s35 := s3.trans (s4.trans s5)
    refine ⟨p1, p2, t, b, x, y, m, q, rfl, o1, o2, ⟨ob_same s35 ot, gn, gz⟩, g0, f2.same s35, xz, yz, fun z hz tz H5 s6 o5 => ?_⟩
    have ez := wst_gl gn f.nf hxy hz
    subst ez
    have hl5 := s6 _ _ (s35 _ _ hl)
    refine ⟨_, rfl, l, rfl, ⟨_, .of hl5⟩, fun D hD => lc_list (xs := ws.map V.int) (WcI D ws x H5) ⟨upd_same, Same.new hD _⟩ (fun i H' _ h => .of (h.2 _ _ hl5)) ?_ ?_⟩
    · rintro j v H6 hj ⟨h, s7⟩
      have jl := (List.getElem?_eq_some_iff.mp hj).1
      rw [List.length_map] at jl
      rw [List.getElem?_map, List.getElem?_eq_getElem jl] at hj
      cases hj
      have wj : (ws[j]).natAbs < 2 ^ (1750 * (i + 1)) := wz _ (List.getElem_mem jl)
      refine ⟨rfl, ?_⟩
      simp only [tYes, if_true]
      have le : 1750 * (i + 1) ≤ 22750 := by omega
      refine ⟨_, rfl, _, rfl, _, _, rfl, rfl, mulW (szMono wj le) xz (by omega), _, h, by have := wt.1; rw [List.length_map, List.length_map, List.length_take, sizeLine_eq]; have := List.length_take_le i qs; omega, ?_, fun c o e => ?_⟩
      · rw [upd_same, List.take_add_one, List.getElem?_eq_getElem jl, List.map_append, List.map_append]
        rfl
      · rw [upd_ne (ne_of_none e hD)]
        exact s7 _ _ e
    · rintro H6 ⟨h, s7⟩ fr6
      rw [List.length_map, List.take_length] at h
      refine ⟨_, rfl, sz2 (by show 1 ≤ 100; decide), fun p4 hp4 kp4 => ?_⟩
      have s8 := Same.new hp4 (.lst [.int y])
      have o4 : upd H6 p4 (.lst [.int y]) p4 = some (.lst [.int y]) := upd_same
      have h := s8 _ _ h
      generalize upd H6 p4 (.lst [.int y]) = H7 at s8 o4 h ⊢
      refine ⟨D, p4, _, _, rfl, rfl, h, o4, by have := wt.1; have := List.length_take_le i qs; rw [List.length_map, List.length_map, List.length_singleton, sizeLine_eq]; omega, fun p5 hp5 fr5 => ?_⟩
      have s9 := Same.new hp5 (.lst ((ws.map (· * x)).map V.int ++ [.int y]))
      have s59 := s6.trans (s7.trans (s8.trans s9))
      refine ⟨tz, p5, ws.map (· * x) ++ [y], _, _, _, rfl, s.trans (s35.trans s59), by rw [e]; exact ob_same (s7.trans (s8.trans s9)) o5, ?_, fr5 p5 (by rw [upd_same]; simp), e2.symm, ?_, ?_⟩
      · rw [upd_same, List.map_append]
        rfl
      · rw [e, e']
        refine wts_next wt gn.1 f.nf.1 ?_
        rw [hxy]
        exact (is_gl2 gn f.nf).2
      · intro v hv
        have le : 1750 * (i + 1) + 1750 = 1750 * (i + 1 + 1) := by omega
        rcases List.mem_append.mp hv with hv | hv
        · obtain ⟨w, hw, rfl⟩ := List.mem_map.mp hv
          have := szMul (wz w hw) xz
          rw [le] at this
          exact this
        · rw [List.mem_singleton] at hv
          rw [hv]
          exact szMono yz (by omega)
  · rintro σ H' ⟨t, l, ws, x3, x4, x5, rfl, s, ot, hl, kl, ew, wt, wz⟩
    rw [af.1, List.take_length] at ot wt ew
    subst ew
    refine ⟨_, rfl, _, rfl, l, _, rfl, .inl ⟨.of hl, fun p hp fr => ?_⟩⟩
    have s2 := Same.new hp (.tup ((wsF qs).map V.int))
    have kp : K.lookup p = none := fr p (by rw [upd_same]; simp)
    have op := ob_new (H := H') (o := .tup ((wsF qs).map V.int)) kp
    have ot2 := ob_same s2 ot
    generalize upd H' p (.tup ((wsF qs).map V.int)) = H2 at s2 op ot2 ⊢
    refine ⟨sz2 (by show 2 ≤ 100; decide), fun c hc kc => ?_⟩
    have s3 := Same.new hc (.tup [.ref t, .ref p])
    exact k c t p _ (s.trans (s2.trans s3)) (ob_new kc) (ob_same s3 ot2) (ob_same s3 op) wt fun v hv => szMono (wz v hv) (by have := af.1; omega)

end
end My

namespace My
open PySem PySem.Spec PyProof.Rows L2
section
variable {P : Program} {w : World} {K : PySem.W.Frag} {mg : Str → Option Value} {base : Heap}
/-- the store, while a list is written that is newer than it -/
theorem Sto.mut {H0 H' : Hp} {s l : Addr} {o : HO} (st0 : Sto K H0 s) (hl : H0 l = none) (kp : Kp s H0 H') (st : Sto K H' s) : Sto K (upd H' l o) s ∧ Kp s H0 (upd H' l o) := by
  obtain ⟨sc0, ns0, i0, b0, c0, d0, e0, f0, g1, g2, g3⟩ := st0
  obtain ⟨sc, ns, i, b, c, d, e, f, h1, h2, h3⟩ := st
  obtain ⟨r', hr⟩ := kp.2 _ _ g1
  rw [h1] at hr
  cases hr
  have n1 : s ≠ l := by rintro rfl; rw [g1] at hl; cases hl
  have n2 : sc0 ≠ l := by rintro rfl; rw [g2] at hl; cases hl
  refine ⟨⟨sc0, ns, i, b, c, d, e, f, by rw [upd_ne n1]; exact h1, by rw [upd_ne n2]; exact h2, h3⟩, fun b o n e => ?_, fun x r e => ?_⟩
  · rw [upd_ne (ne_of_none e hl)]
    exact kp.1 b o n e
  · obtain ⟨r2, hr2⟩ := kp.2 x r e
    exact ⟨r2, by rw [upd_ne n1]; exact hr2⟩
theorem Sto.ne' {H : Hp} {s l : Addr} (st : Sto K H s) (hl : H l = none) : l ≠ s := by
  rintro rfl
  obtain ⟨ys, hy⟩ := st.at
  rw [hy] at hl
  cases hl
theorem Kp.free {H H' : Hp} {s p : Addr} (kp : Kp s H H') (st : Sto K H' s) (hp : H' p = none) : H p = none := by
  have ne := st.ne' hp
  cases e : H p with
  | none => rfl
  | some o =>
    have := kp.1 p o ne e
    rw [hp] at this
    cases this
theorem Sto.ne {H : Hp} {s l : Addr} (st : Sto K H s) (hl : H l = none) : l ≠ s := by
  rintro rfl
  obtain ⟨ys, hy⟩ := st.at
  rw [hy] at hl
  cases hl
def spSize (K : PySem.W.Frag) : Sp := fun vs H Q _ => ∃ (s : Addr) (top : Int), vs = [.ref s, .int top] ∧ Sto K H s ∧ 0 ≤ top ∧ top < 2 ^ 60 ∧ ∀ r H', 0 ≤ r → r ≤ top → Kp s H H' → Sto K H' s → Q (.int r) H'
abbrev sSize : Stmt := topS 38
theorem scSize : FnScope ["_law_store_here", "_law_top", "_law_spot"] ["_law_store_here", "_law_top"] (defScope sSize) := ⟨rfl, rfl, rfl, by decide +kernel, rfl, by decide +kernel, by decide +kernel⟩
theorem k_Size (T : Bt K mg) (D : Dfn K mg "_law_size" sSize ["_law_store_here", "_law_top"]) (d__law_take : Kn P w K mg base 2 "_law_take" ["_law_store_here", "_law_many"] (spTake K)) : Kn P w K mg base 3 "_law_size" ["_law_store_here", "_law_top"] (spSize K) := by
  refine Kn.mk' D scSize (fun vs H Q E h => ?_) (fun f cdv A outer s H vs Q E hr h => ?_)
  · obtain ⟨s, top, rfl, _⟩ := h
    rfl
  obtain ⟨s, top, rfl, hS, t0, t1, k⟩ := h
  refine ⟨_, (pss_cons (ps_set (i := 2) scSize.nd rfl (.inl rfl) (pe_kn d__law_take hr (by rfl) (pa_cons (pv 0) (pa_cons pe_int pa_nil))))
      (pss_cons (ps_if (pt_cmpR op_lt (pv 2) pe_int (nomark _)) (pss_one (ps_ret (pe_callB (call_min2 rfl) (by rfl) T.b_min (by decide +kernel) (pa_cons (pv 2) (pa_cons (pv 1) pa_nil))))) pss_nil)
      (pss_cons (ps_if (PW.pt (pw_and (pt_cmpR op_eq (pv 2) pe_int (nomark _)) (pw_and1 (PW.pt (pw_or (pt_cmpR op_lt (pv 1) pe_int (nomark _)) (pw_or1 (pt_cmpR op_eq (pe_kn d__law_take hr (by rfl) (pa_cons (pv 0) (pa_cons pe_int pa_nil))) pe_int (nomark _)))))))) (pss_one (ps_ret (pv 1))) pss_nil)
      (pss_one (ps_ret (pe_kn d__law_take hr (by rfl) (pa_cons (pv 0) (pa_cons (pe_op op_add (pe_callB (call_min2 rfl) (by rfl) T.b_min (by decide +kernel) (pa_cons (pv 1) (pa_cons pe_int pa_nil))) pe_int) pa_nil)))))))), ?_⟩
  refine ⟨_, rfl, s, 12, rfl, hS, by omega, fun i H1 i0 i1 kp st => ?_⟩
  simp only [cx_K, decide_true, decide_false, reduceCtorEq, gTp, gCons, gNil, ca_0, ca_1, ca_2, ca_3, ca_4, ca_5, ca_6, ca_7, ca_8, ca_9, ca_10, ca_11, ca_12, ca_13, ca_14, ca_15, ca_16, ca_17, ca_18, ca_19, ca_20, ca_21, ca_22, ca_23, ca_24, ca_25, ca_26, ca_27, ca_28, ca_29, ca_30, not_true_eq_false, not_false_eq_true, Int.reduceEq, Nat.reduceEqDiff, Nat.reduceLeDiff, rGcd, V.ty.injEq, eq_self, List.not_mem_nil, beq_self_eq_true, HO.lst.injEq, HO.tup.injEq, tFor_eq, iRng1, iList, iTup, nat10, tSeq, rIxA, rSetA, rIsN, rIsT, tTp, tLs, itsO_tup, itsO_lst, tyO_tup, tyO_lst, tyO_dK, tyN_non, tyN_bl, tyN_int, tyN_str, tyN_ref, tyNs_lt, isB, upd_same, upd_upd, sizeLine_eq, List.mem_cons, String.reduceBEq, String.reduceEq, Bool.or_false, Bool.or_true, Bool.and_false, Bool.false_or, Bool.and_self, Bool.false_and, Bool.not_false, Bool.not_true, List.any_cons, List.any_nil, atI_0, setI_0, atI_1, setI_1, atI_2, setI_2, atI_3, setI_3, atI_4, setI_4, atI_5, setI_5, atI_6, setI_6, tAsg, gName, tOp, tUn, tVar, tC, tCons, L2.tNil, tRet, tIfS, tTest, tCB, tCall, rI, rI0, rU, tNext, tB, tAnd, tOr, tNot, tAndV, tOrV, tNotV, tDrop, tIf, tPar, gSub, rIxL, rIxT, rEq, rNe, rSetL, tBits,
    L2.start, List.map_cons, List.map_nil, List.cons_append, List.nil_append, List.append_nil, List.length_cons, List.length_nil, List.replicate, Nat.reduceAdd, Nat.reduceSub, Nat.zero_add, List.getElem?_cons_zero, List.getElem?_cons_succ, List.set_cons_zero, List.set_cons_succ,
    Option.some.injEq, exists_eq_left', exists_eq_left, V.int.injEq, V.bl.injEq, V.ref.injEq, V.str.injEq, List.cons.injEq, reduceCtorEq, and_true, true_and, false_and, and_false, exists_false, or_false, false_or, or_true, true_or, exists_const, CMul, CDiv, CPow, and_assoc, exists_and_left, exists_and_right, Int.reducePow, Int.reduceNeg, Int.reduceLT, Int.reduceLE, Nat.reducePow, Nat.reduceLT, Int.reduceToNat, gt_iff_lt, ge_iff_le, decide_eq_true_eq, Bool.not_eq_true', decide_eq_false_iff_not, scal, ↓reduceIte, Bool.false_eq_true]
  refine ite2 (fun h => ?_) (fun h => ?_)
  · refine k _ H1 ?_ ?_ kp st <;> split <;> omega
  have fin : ∀ H2, Kp s H1 H2 → Sto K H2 s → spTake K [.ref s, .int ((if 6 < top then 6 else top) + 1)] H2 Q C8.E0 := fun H2 kp2 st2 =>
    ⟨s, _, rfl, st2, by split <;> omega, fun j H3 j0 j1 kp3 st3 => k j H3 j0 (by split at j1 <;> omega) ((kp.trans kp2).trans kp3) st3⟩
  refine ite2 (fun _ => ite2 (fun _ => k top H1 t0 (Int.le_refl _) kp st) (fun _ => ⟨s, 3, rfl, st, by omega, fun j H2 j0 j1 kp2 st2 => ⟨rfl, ite2 (fun _ => k top H2 t0 (Int.le_refl _) (kp.trans kp2) st2) (fun _ => fin H2 kp2 st2)⟩⟩)) (fun _ => fin H1 (Kp.refl _ _) st)
def spWith (K : PySem.W.Frag) : Sp := fun vs H Q _ => ∃ (s a : Addr) (xs : List V) (y : V), vs = [.ref s, .ref a, y] ∧ Sto K H s ∧ H a = some (.lst xs) ∧ K.lookup a = none ∧ a ≠ s ∧ 1 ≤ xs.length ∧ xs.length ≤ 1000 ∧ ∀ c j H', j < xs.length → Kp s H H' → Sto K H' s → H' c = some (.lst (xs.take j ++ y :: xs.drop (j + 1))) → H c = none → K.lookup c = none → Q (.ref c) H'
abbrev sWith : Stmt := topS 49
theorem scWith : FnScope ["_law_store_here", "_law_row", "_law_item", "_law_spot"] ["_law_store_here", "_law_row", "_law_item"] (defScope sWith) := ⟨rfl, rfl, rfl, by decide +kernel, rfl, by decide +kernel, by decide +kernel⟩
theorem k_With (T : Bt K mg) (D : Dfn K mg "_law_with" sWith ["_law_store_here", "_law_row", "_law_item"]) (d__law_take : Kn P w K mg base 2 "_law_take" ["_law_store_here", "_law_many"] (spTake K)) : Kn P w K mg base 3 "_law_with" ["_law_store_here", "_law_row", "_law_item"] (spWith K) := by
  refine Kn.mk' D scWith (fun vs H Q E h => ?_) (fun f cdv A outer s H vs Q E hr h => ?_)
  · obtain ⟨s, a, xs, y, rfl, _⟩ := h
    rfl
  obtain ⟨s, a, xs, y, rfl, hS, ha, ka, na, l1, l2, k⟩ := h
  refine ⟨_, (pss_cons (ps_set (i := 3) scWith.nd rfl (.inl rfl) (pe_kn d__law_take hr (by rfl) (pa_cons (pv 0) (pa_cons (pe_callB call_lenA (by rfl) T.b_len PySem.boot_len (pa_cons (pv 1) pa_nil)) pa_nil))))
      (pss_one (ps_ret (pe_fr (pe_op op_cat (pe_fr (pe_op op_cat (pe_fr (pe_slice sl_list (pv 1) po_none (po_some (pv 3)))) (pe_ls (pa_cons (pv 2) pa_nil)))) (pe_fr (pe_slice sl_list (pv 1) (po_some (pe_op op_add (pv 3) pe_int)) po_none))))))), ?_⟩
  have oa := (ob_none ka).trans ha
  refine ⟨_, rfl, _, rfl, a, rfl, _, itsO_ofL oa, s, _, rfl, hS, by omega, fun i H1 i0 i1 kp st => ?_⟩
  obtain ⟨j, rfl⟩ : ∃ j : Nat, i = (j : Int) := ⟨i.toNat, by omega⟩
  have hj : j < xs.length := by omega
  have ha1 := kp _ _ na ha
  refine ⟨_, rfl, _, rfl, _, rfl, a, xs, rfl, .of ha1, ?_⟩
  rw [cut_to xs j (by omega)]
  refine fun p1 hp1 fr1 => ?_
  have s1 := Same.new hp1 (.lst (xs.take j))
  have c1 : upd H1 p1 (.lst (xs.take j)) p1 = some (.lst (xs.take j)) := upd_same
  have ha2 := s1 _ _ ha1
  generalize upd H1 p1 (.lst (xs.take j)) = H2 at s1 c1 ha2 ⊢
  refine ⟨_, rfl, sz2 (by show 1 ≤ 100; decide), fun p2 hp2 kp2 => ?_⟩
  have s2 := Same.new hp2 (.lst [y])
  have c2 : upd H2 p2 (.lst [y]) p2 = some (.lst [y]) := upd_same
  have c1 := s2 _ _ c1
  have ha3 := s2 _ _ ha2
  generalize upd H2 p2 (.lst [y]) = H3 at s2 c1 c2 ha3 ⊢
  refine ⟨p1, p2, _, _, rfl, rfl, c1, c2, by rw [List.length_take, List.length_singleton, sizeLine_eq]; omega, fun p3 hp3 fr3 => ?_⟩
  have s3 := Same.new hp3 (.lst (xs.take j ++ [y]))
  have c3 : upd H3 p3 (.lst (xs.take j ++ [y])) p3 = some (.lst (xs.take j ++ [y])) := upd_same
  have ha4 := s3 _ _ ha3
  generalize upd H3 p3 (.lst (xs.take j ++ [y])) = H4 at s3 c3 ha4 ⊢
  have ec : cutV xs (some ((j : Int) + 1)) none = xs.drop (j + 1) := by
    rw [show ((j : Int) + 1) = ((j + 1 : Nat) : Int) by omega]
    exact cut_from xs (j + 1) (by omega)
  refine ⟨_, rfl, _, rfl, _, _, rfl, rfl, _, rfl, a, xs, rfl, .of ha4, fun p4 hp4 fr4 => ?_⟩
  have s4 := Same.new hp4 (.lst (cutV xs (some ((j : Int) + 1)) none))
  have c4 : upd H4 p4 (.lst (cutV xs (some ((j : Int) + 1)) none)) p4 = some (.lst (xs.drop (j + 1))) := by rw [ec]; exact upd_same
  have c3 := s4 _ _ c3
  have hp4' : upd H4 p4 (.lst (cutV xs (some ((j : Int) + 1)) none)) = upd H4 p4 (.lst (cutV xs (some ((fun i j => i + j) (j : Int) 1)) none)) := rfl
  refine ⟨p3, p4, _, _, rfl, rfl, c3, c4, by rw [List.length_append, List.length_take, List.length_singleton, List.length_drop, sizeLine_eq]; omega, fun p5 hp5 fr5 => ?_⟩
  have s5 := Same.new hp5 (.lst (xs.take j ++ [y] ++ xs.drop (j + 1)))
  have sA := s1.trans (s2.trans (s3.trans (s4.trans s5)))
  have sB := s1.trans (s2.trans (s3.trans s4))
  exact k p5 j _ hj (kp.trans (Kp.same sA)) (st.same sA) (by rw [upd_same, List.append_assoc]; rfl) (Kp.free (kp.trans (Kp.same sB)) (st.same sB) hp5) (fr5 p5 (by rw [upd_same]; simp))
theorem if_no {c : Bool} {A B : Prop} (e : c = false) (h : B) : if c = true then A else B := by
  rw [e, if_neg Bool.noConfusion]
  exact h
theorem if_yes {c : Bool} {A B : Prop} (e : c = true) (h : A) : if c = true then A else B := by
  rw [e, if_pos rfl]
  exact h
theorem Fq.put {H : Hp} {n : Nat} {a D : Addr} {q : Qt} {xs : List V} {o : HO} (h : Fq K H n a q) (hD : H D = some (.lst xs)) : Fq K (upd H D o) n a q := by
  refine ⟨?_, h.nf, h.sz⟩
  have o' := h.o
  unfold ob at o' ⊢
  split
  · rename_i z e
    rw [e] at o'
    exact o'
  · rename_i e
    rw [e] at o'
    rw [upd_ne (fun z => by rw [z, hD] at o'; cases o')]
    exact o'
def RFq (K : PySem.W.Frag) (n : Nat) (H : Hp) (x : V) : Prop := ∃ a q, x = .ref a ∧ Fq K H n a q
theorem AF.of_all {H : Hp} {n : Nat} : ∀ {xs : List V}, (∀ x ∈ xs, RFq K n H x) → ∃ qs, AF K H n xs qs
  | [], _ => ⟨[], AF.nil⟩
  | x :: r, h => by
    obtain ⟨qs, hq⟩ := AF.of_all (xs := r) fun y hy => h y (List.mem_cons_of_mem _ hy)
    obtain ⟨a, q, rfl, f⟩ := h x List.mem_cons_self
    exact ⟨q :: qs, AF.app (AF.snoc AF.nil f) hq⟩
/-- a list that grows by draws -/
def PvD (K : PySem.W.Frag) (n : Nat) (s D : Addr) (H1 : Hp) (i : Nat) (H' : Hp) : Prop := ∃ acc : List V, acc.length = i ∧ H' D = some (.lst acc) ∧ Kp s H1 H' ∧ Sto K H' s ∧ ∀ x ∈ acc, RFq K n H' x
theorem pvd_0 {n : Nat} {s D : Addr} {H1 : Hp} (st : Sto K H1 s) (hD : H1 D = none) : PvD K n s D H1 0 (upd H1 D (.lst [])) := ⟨[], rfl, upd_same, (st.mut hD (Kp.refl _ _) st).2, (st.mut hD (Kp.refl _ _) st).1, fun x hx => nomatch hx⟩
theorem pvd_step {n i : Nat} {s D : Addr} {H1 H' H2 : Hp} {y : V} (st1 : Sto K H1 s) (hD : H1 D = none) (h : PvD K n s D H1 i H') (kp : Kp s H' H2) (st : Sto K H2 s) (hy : RFq K n H2 y) (hi : i < 1000) : ∃ acc, H2 D = some (.lst acc) ∧ acc.length < sizeLine ∧ PvD K n s D H1 (i + 1) (upd H2 D (.lst (acc ++ [y]))) := by
  obtain ⟨acc, l, hd, kp0, st0, hx⟩ := h
  have nD : D ≠ s := st1.ne hD
  have hd2 := kp D _ nD hd
  obtain ⟨m1, m2⟩ := st1.mut (o := .lst (acc ++ [y])) hD (kp0.trans kp) st
  refine ⟨acc, hd2, by rw [l, sizeLine_eq]; omega, acc ++ [y], by rw [List.length_append, l]; rfl, upd_same, m2, m1, fun x hm => ?_⟩
  obtain ⟨ys, hys⟩ := st0.at
  rcases List.mem_append.mp hm with hm | hm
  · obtain ⟨a, q, rfl, f⟩ := hx x hm
    exact ⟨a, q, rfl, (f.kp kp hys).put hd2⟩
  · rw [List.mem_singleton] at hm
    obtain ⟨a, q, rfl, f⟩ := hy
    exact ⟨a, q, hm, f.put hd2⟩
def spFracs (K : PySem.W.Frag) : Sp := fun vs H Q _ => ∃ s : Addr, vs = [.ref s, .int 1, .int 12] ∧ Sto K H s ∧ ∀ l xs qs H', 1 ≤ xs.length → xs.length ≤ 12 → H l = none → K.lookup l = none → H' l = some (.lst xs) → AF K H' 134 xs qs → Kp s H H' → Sto K H' s → Q (.ref l) H'
abbrev sFracs : Stmt := topS 48
theorem scFracs : FnScope ["_law_store_here", "_law_low", "_law_high", "_law_many", "_law_kind", "_law_alike", "_law_k"] ["_law_store_here", "_law_low", "_law_high"] (defScope sFracs) := ⟨rfl, rfl, rfl, by decide +kernel, rfl, by decide +kernel, by decide +kernel⟩
theorem blk_scFracs_0 : BlkOk ["_law_store_here", "_law_low", "_law_high", "_law_many", "_law_kind", "_law_alike", "_law_k"] (defScope sFracs) { kind := .function, names := [(".0", .local), ("_law_k", .local), ("_law_frac_wide", .globalImplicit), ("_law_store_here", .free)], isGenerator := false, isCoroutine := false, more := [] } [("_law_k", 6)] := ⟨rfl, by decide +kernel, by decide +kernel, by decide +kernel, by decide +kernel⟩
theorem blk_scFracs_1 : BlkOk ["_law_store_here", "_law_low", "_law_high", "_law_many", "_law_kind", "_law_alike", "_law_k"] (defScope sFracs) { kind := .function, names := [(".0", .local), ("_law_k", .local), ("_law_alike", .free)], isGenerator := false, isCoroutine := false, more := [] } [("_law_k", 6)] := ⟨rfl, by decide +kernel, by decide +kernel, by decide +kernel, by decide +kernel⟩
theorem blk_scFracs_2 : BlkOk ["_law_store_here", "_law_low", "_law_high", "_law_many", "_law_kind", "_law_alike", "_law_k"] (defScope sFracs) { kind := .function, names := [(".0", .local), ("_law_k", .local), ("_law_pick", .globalImplicit), ("_law_frac", .globalImplicit), ("_law_alike", .free), ("_law_store_here", .free)], isGenerator := false, isCoroutine := false, more := [] } [("_law_k", 6)] := ⟨rfl, by decide +kernel, by decide +kernel, by decide +kernel, by decide +kernel⟩
theorem k_Fracs (T : Bt K mg) (D : Dfn K mg "_law_fracs" sFracs ["_law_store_here", "_law_low", "_law_high"]) (d__law_take : Kn P w K mg base 2 "_law_take" ["_law_store_here", "_law_many"] (spTake K)) (d__law_size : Kn P w K mg base 3 "_law_size" ["_law_store_here", "_law_top"] (spSize K)) (d__law_pick : Kn P w K mg base 3 "_law_pick" ["_law_store_here", "_law_row"] (spPick K)) (d__law_frac_wide : Kn P w K mg base 4 "_law_frac_wide" ["_law_store_here"] (spDFrac K 133)) (d__law_frac : Kn P w K mg base 3 "_law_frac" ["_law_store_here"] (spDFrac K 10)) : Kn P w K mg base 5 "_law_fracs" ["_law_store_here", "_law_low", "_law_high"] (spFracs K) := by
  refine Kn.mk' D scFracs (fun vs H Q E h => ?_) (fun f cdv A outer s H vs Q E hr h => ?_)
  · obtain ⟨s, rfl, _⟩ := h
    rfl
  obtain ⟨s, rfl, hS, k⟩ := h
  refine ⟨_, (pss_cons (ps_set (i := 3) scFracs.nd rfl (.inl rfl) (pe_op op_add (pv 1) (pe_kn d__law_size hr (by rfl) (pa_cons (pv 0) (pa_cons (pe_op op_sub (pv 2) (pv 1)) pa_nil)))))
      (pss_cons (ps_set (i := 4) scFracs.nd rfl (.inl rfl) (pe_kn d__law_take hr (by rfl) (pa_cons (pv 0) (pa_cons pe_int pa_nil))))
      (pss_cons (ps_if (pt_cmpR op_eq (pv 4) pe_int (nomark _)) (pss_one (ps_ret (pe_fr (pe_lc (own := [("_law_k", 6)]) (g := gName 6) (te := (tCall (spDFrac K 133) [] E0 (tCons (tVar 0) L2.tNil))) rfl scFracs.nd (pi_range1 (by rfl) T.b_range (pa_cons (pv 3) pa_nil)) blk_scFracs_0 (fun _ _ _ _ _ => by exact pg_name (i := 6) scFracs.nd rfl (.inl rfl)) (fun _ _ _ _ _ => pts_nil) (fun _ _ _ _ _ => by exact (pe_kn d__law_frac_wide hr (by rfl) (pa_cons (pv 0) pa_nil))))))) pss_nil)
      (pss_cons (ps_set (i := 5) scFracs.nd rfl (.inr rfl) (pe_kn d__law_pick hr (by rfl) (pa_cons (pv 0) (pa_cons (pe_ls (pa_cons (pe_tp (pa_cons pe_int (pa_cons pe_int pa_nil))) (pa_cons (pe_kn d__law_frac hr (by rfl) (pa_cons (pv 0) pa_nil)) pa_nil))) pa_nil))))
      (pss_cons (ps_if (pt_cmpR op_lt (pv 4) pe_int (nomark _)) (pss_one (ps_ret (pe_fr (pe_lc (own := [("_law_k", 6)]) (g := gName 6) (te := (tVar 5)) rfl scFracs.nd (pi_range1 (by rfl) T.b_range (pa_cons (pv 3) pa_nil)) blk_scFracs_1 (fun _ _ _ _ _ => by exact pg_name (i := 6) scFracs.nd rfl (.inl rfl)) (fun _ _ _ _ _ => pts_nil) (fun _ _ _ _ _ => by exact (pv 5)))))) pss_nil)
      (pss_one (ps_ret (pe_fr (pe_lc (own := [("_law_k", 6)]) (g := gName 6) (te := (tCall (spPick K) [] E0 (tCons (tVar 0) (tCons (tLs K (tCons (tVar 5) (tCons (tCall (spDFrac K 10) [] E0 (tCons (tVar 0) L2.tNil)) (tCons (tCall (spDFrac K 10) [] E0 (tCons (tVar 0) L2.tNil)) L2.tNil)))) L2.tNil)))) rfl scFracs.nd (pi_range1 (by rfl) T.b_range (pa_cons (pv 3) pa_nil)) blk_scFracs_2 (fun _ _ _ _ _ => by exact pg_name (i := 6) scFracs.nd rfl (.inl rfl)) (fun _ _ _ _ _ => pts_nil) (fun _ _ _ _ _ => by exact (pe_kn d__law_pick hr (by rfl) (pa_cons (pv 0) (pa_cons (pe_ls (pa_cons (pv 5) (pa_cons (pe_kn d__law_frac hr (by rfl) (pa_cons (pv 0) pa_nil)) (pa_cons (pe_kn d__law_frac hr (by rfl) (pa_cons (pv 0) pa_nil)) pa_nil)))) pa_nil))))))))))))), ?_⟩
  refine ⟨_, rfl, _, rfl, _, rfl, _, rfl, _, _, rfl, rfl, s, _, rfl, hS, by omega, by omega, fun r H1 r0 r1 kp1 st1 => ⟨_, _, rfl, rfl, ?_⟩⟩
  have rk : ∀ {n : Nat} {H H' : Hp} {x : V}, RFq K n H x → Kp s H H' → Sto K H s → RFq K n H' x := fun ⟨a, q, e, f⟩ kp st => by
    obtain ⟨ys, hys⟩ := st.at
    exact ⟨a, q, e, f.kp kp hys⟩
  refine ⟨_, rfl, s, 8, rfl, st1, by omega, fun kd H2 k0 k1 kp2 st2 => ?_⟩
  have kpH2 := kp1.trans kp2
  have fin : ∀ (H3 : Hp) (D : Addr), Kp s H H3 → Sto K H3 s → H3 D = none → ∀ Hn, PvD K 134 s D H3 (1 + r).toNat Hn → (∀ a, Hn a ≠ none → K.lookup a = none) → Q (.ref D) Hn := fun H3 D kp3 st3 hD Hn hP fr => by
    obtain ⟨acc, l, hd, kp, st, hx⟩ := hP
    obtain ⟨qs, af⟩ := AF.of_all hx
    exact k D acc qs Hn (by omega) (by omega) (kp3.free st3 hD) (fr D (by rw [hd]; simp)) hd af (kp3.trans kp) st
  refine ⟨_, rfl, rfl, _, rfl, ite2 (fun h => ?_) (fun h => ?_)⟩
  · refine ⟨_, rfl, _, rfl, by omega, by omega, fun D hD => lc_range (lo := 0) (n := (1 + r).toNat) (PvD K 134 s D H2) (pvd_0 st2 hD) ?_ (fin H2 D kpH2 st2 hD)⟩
    rintro i H' hi hP
    refine ⟨rfl, ?_⟩
    simp only [tYes, if_true]
    have stP : Sto K H' s := by
      obtain ⟨_, _, _, _, z, _⟩ := hP
      exact z
    exact ⟨_, rfl, s, rfl, stP, fun a q H3 fq kp st => pvd_step st2 hD hP kp st ⟨a, q, rfl, fq.mono (by omega)⟩ (by omega)⟩
  refine ⟨_, rfl, sz2 (by show 2 ≤ 100; decide), fun p1 hp1 kp1' => ?_⟩
  have s3 := Same.new hp1 (.tup [.int 0, .int 1])
  have o1 := ob_new (H := H2) (o := .tup [.int 0, .int 1]) kp1'
  have st3 := st2.same s3
  generalize upd H2 p1 (.tup [.int 0, .int 1]) = H3 at s3 o1 st3 ⊢
  refine ⟨_, rfl, s, rfl, st3, fun a q H4 fq kp4 st4 => ⟨sz2 (by show 2 ≤ 100; decide), fun p2 hp2 kp2' => ?_⟩⟩
  have s5 := Same.new hp2 (.lst [.ref p1, .ref a])
  have o2 : upd H4 p2 (.lst [.ref p1, .ref a]) p2 = some (.lst [.ref p1, .ref a]) := upd_same
  have st5 := st4.same s5
  have n2 := Ne.symm (st4.ne hp2)
  obtain ⟨ys3, hys3⟩ := st3.at
  have f1 : Fq K H4 134 p1 (0, 1) := ⟨ob_kp kp4 hys3 (fun _ z => by cases z) o1, nf_01, by decide, by decide⟩
  have f1 := f1.same s5
  have f2 := (fq.mono (show 10 ≤ 134 by omega)).same s5
  generalize upd H4 p2 (.lst [.ref p1, .ref a]) = H5 at s5 o2 st5 f1 f2 ⊢
  refine ⟨s, p2, _, rfl, st5, o2, n2, by show 0 < 2; decide, by show 2 < 1000; decide, fun x H6 hx kp6 st6 => ?_⟩
  have hx6 : RFq K 134 H6 x := by
    simp only [List.mem_cons, List.not_mem_nil, or_false] at hx
    rcases hx with rfl | rfl
    · exact rk ⟨p1, _, rfl, f1⟩ kp6 st5
    · exact rk ⟨a, _, rfl, f2⟩ kp6 st5
  have kpH6 := kpH2.trans ((Kp.same s3).trans (kp4.trans ((Kp.same s5).trans kp6)))
  refine ⟨_, rfl, _, _, rfl, rfl, _, rfl, ite2 (fun h => ?_) (fun h => ?_)⟩
  · refine ⟨_, rfl, _, rfl, by omega, by omega, fun D hD => lc_range (lo := 0) (n := (1 + r).toNat) (PvD K 134 s D H6) (pvd_0 st6 hD) ?_ (fin H6 D kpH6 st6 hD)⟩
    rintro i H' hi hP
    refine ⟨rfl, ?_⟩
    simp only [tYes, if_true]
    obtain ⟨_, _, _, kpP, stP, _⟩ := id hP
    exact ⟨_, rfl, pvd_step st6 hD hP (Kp.refl _ _) stP (rk hx6 kpP st6) (by omega)⟩
  · refine ⟨_, rfl, _, rfl, by omega, by omega, fun D hD => lc_range (lo := 0) (n := (1 + r).toNat) (PvD K 134 s D H6) (pvd_0 st6 hD) ?_ (fin H6 D kpH6 st6 hD)⟩
    rintro i H' hi hP
    refine ⟨rfl, ?_⟩
    simp only [tYes, if_true]
    obtain ⟨_, _, _, kpP, stP, _⟩ := id hP
    have x7 := rk hx6 kpP st6
    refine ⟨_, rfl, _, rfl, _, rfl, s, rfl, stP, fun a1 q1 H7 fq1 kp7 st7 => ⟨_, rfl, s, rfl, st7, fun a2 q2 H8 fq2 kp8 st8 => ⟨sz2 (by show 3 ≤ 100; decide), fun p3 hp3 kp3' => ?_⟩⟩⟩
    have x8 := rk (rk x7 kp7 stP) kp8 st7
    have y1 := rk (⟨a1, q1, rfl, fq1.mono (by omega)⟩ : RFq K 134 H7 (.ref a1)) kp8 st7
    have y2 : RFq K 134 H8 (.ref a2) := ⟨a2, q2, rfl, fq2.mono (by omega)⟩
    have s9 := Same.new hp3 (.lst [x, .ref a1, .ref a2])
    refine ⟨s, p3, _, rfl, st8.same s9, upd_same, Ne.symm (st8.ne hp3), by show 0 < 3; decide, by show 3 < 1000; decide, fun z H9 hz kp9 st9 => ?_⟩
    have hz9 : RFq K 134 H9 z := by
      refine rk ?_ kp9 (st8.same s9)
      have up : ∀ {v : V}, RFq K 134 H8 v → RFq K 134 (upd H8 p3 (.lst [x, .ref a1, .ref a2])) v := fun ⟨a, q, e, f⟩ => ⟨a, q, e, f.same s9⟩
      simp only [List.mem_cons, List.not_mem_nil, or_false] at hz
      rcases hz with rfl | rfl | rfl
      · exact up x8
      · exact up y1
      · exact up y2
    exact pvd_step st6 hD hP (kp7.trans (kp8.trans ((Kp.same s9).trans kp9))) st9 hz9 (by omega)

end
end My

namespace My
open PySem PySem.Spec PyProof.Rows L2
section
variable {P : Program} {w : World} {K : PySem.W.Frag} {mg : Str → Option Value} {base : Heap}
/-- a list that grows by draws, its items of any kind that stays -/
structure Stb (K : PySem.W.Frag) (s : Addr) (R : Hp → V → Prop) : Prop where
  kp : ∀ H H' x, R H x → Kp s H H' → Sto K H s → R H' x
  put : ∀ H D xs o x, R H x → H D = some (.lst xs) → R (upd H D o) x
def PvG (K : PySem.W.Frag) (R : Hp → V → Prop) (s D : Addr) (H1 : Hp) (i : Nat) (H' : Hp) : Prop := ∃ acc : List V, acc.length = i ∧ H' D = some (.lst acc) ∧ Kp s H1 H' ∧ Sto K H' s ∧ ∀ x ∈ acc, R H' x
theorem pvg_0 {R : Hp → V → Prop} {s D : Addr} {H1 : Hp} (st : Sto K H1 s) (hD : H1 D = none) : PvG K R s D H1 0 (upd H1 D (.lst [])) := ⟨[], rfl, upd_same, (st.mut hD (Kp.refl _ _) st).2, (st.mut hD (Kp.refl _ _) st).1, fun x hx => nomatch hx⟩
theorem pvg_step {R : Hp → V → Prop} {i : Nat} {s D : Addr} {H1 H' H2 : Hp} {y : V} (S : Stb K s R) (st1 : Sto K H1 s) (hD : H1 D = none) (h : PvG K R s D H1 i H') (kp : Kp s H' H2) (st : Sto K H2 s) (hy : R H2 y) (hi : i < 1000) : ∃ acc, H2 D = some (.lst acc) ∧ acc.length < sizeLine ∧ PvG K R s D H1 (i + 1) (upd H2 D (.lst (acc ++ [y]))) := by
  obtain ⟨acc, l, hd, kp0, st0, hx⟩ := h
  have nD : D ≠ s := st1.ne hD
  have hd2 := kp D _ nD hd
  obtain ⟨m1, m2⟩ := st1.mut (o := .lst (acc ++ [y])) hD (kp0.trans kp) st
  refine ⟨acc, hd2, by rw [l, sizeLine_eq]; omega, acc ++ [y], by rw [List.length_append, l]; rfl, upd_same, m2, m1, fun x hm => ?_⟩
  rcases List.mem_append.mp hm with hm | hm
  · exact S.put _ _ _ _ _ (S.kp _ _ _ (hx x hm) kp st0) hd2
  · rw [List.mem_singleton] at hm
    subst hm
    exact S.put _ _ _ _ _ hy hd2
theorem ob_put {H : Hp} {a D : Addr} {xs ys : List V} {o : HO} (h : ob K H a = some (.tup ys)) (hD : H D = some (.lst xs)) : ob K (upd H D o) a = some (.tup ys) := by
  unfold ob at h ⊢
  split
  · rename_i z e
    rw [e] at h
    exact h
  · rename_i e
    rw [e] at h
    rw [upd_ne (fun z => by rw [z, hD] at h; cases h)]
    exact h
/-- a row of two numbers -/
def R2i (K : PySem.W.Frag) (H : Hp) (x : V) : Prop := ∃ (a : Addr) (n d : Int), x = .ref a ∧ ob K H a = some (.tup [.int n, .int d]) ∧ n.natAbs < 2 ^ 133 ∧ 1 ≤ d ∧ d.natAbs < 2 ^ 133
theorem stb_2i {s : Addr} : Stb K s (R2i K) := ⟨fun H H' x ⟨a, n, d, e, o, z⟩ kp st => by
  obtain ⟨ys, hys⟩ := st.at
  exact ⟨a, n, d, e, ob_kp kp hys (fun _ z => by cases z) o, z⟩, fun H D xs o x ⟨a, n, d, e, ho, z⟩ hD => ⟨a, n, d, e, ob_put ho hD, z⟩⟩
theorem stb_fq {s : Addr} {n : Nat} : Stb K s (RFq K n) := ⟨fun H H' x ⟨a, q, e, f⟩ kp st => by
  obtain ⟨ys, hys⟩ := st.at
  exact ⟨a, q, e, f.kp kp hys⟩, fun H D xs o x ⟨a, q, e, f⟩ hD => ⟨a, q, e, f.put hD⟩⟩
def spVals (K : PySem.W.Frag) : Sp := fun vs H Q _ => ∃ s : Addr, vs = [.ref s] ∧ Sto K H s ∧ ∀ l xs qs H', 1 ≤ xs.length → xs.length ≤ 12 → H l = none → K.lookup l = none → H' l = some (.lst xs) → AF K H' 134 xs qs → Kp s H H' → Sto K H' s → Q (.ref l) H'
abbrev sVals : Stmt := topS 54
theorem scVals : FnScope ["_law_store_here", "_law_many", "_law_rows", "_law_k", "_law_row"] ["_law_store_here"] (defScope sVals) := ⟨rfl, rfl, rfl, by decide +kernel, rfl, by decide +kernel, by decide +kernel⟩
theorem blk_scVals_0 : BlkOk ["_law_store_here", "_law_many", "_law_rows", "_law_k", "_law_row"] (defScope sVals) { kind := .function, names := [(".0", .local), ("_law_k", .local), ("_law_great", .globalImplicit), ("abs", .globalImplicit), ("_law_whole", .globalImplicit), ("_law_store_here", .free)], isGenerator := false, isCoroutine := false, more := [] } [("_law_k", 3)] := ⟨rfl, by decide +kernel, by decide +kernel, by decide +kernel, by decide +kernel⟩
theorem blk_scVals_1 : BlkOk ["_law_store_here", "_law_many", "_law_rows", "_law_k", "_law_row"] (defScope sVals) { kind := .function, names := [(".0", .local), ("_law_row", .local), ("_law_lowest", .globalImplicit)], isGenerator := false, isCoroutine := false, more := [] } [("_law_row", 4)] := ⟨rfl, by decide +kernel, by decide +kernel, by decide +kernel, by decide +kernel⟩
theorem k_Vals (T : Bt K mg) (D : Dfn K mg "_law_values" sVals ["_law_store_here"]) (d__law_take : Kn P w K mg base 2 "_law_take" ["_law_store_here", "_law_many"] (spTake K)) (d__law_size : Kn P w K mg base 3 "_law_size" ["_law_store_here", "_law_top"] (spSize K)) (d__law_fracs : Kn P w K mg base 5 "_law_fracs" ["_law_store_here", "_law_low", "_law_high"] (spFracs K)) (d__law_great : Kn P w K mg base 3 "_law_great" ["_law_store_here"] (spInt K fun n => n.natAbs < 2 ^ 133)) (d__law_whole : Kn P w K mg base 3 "_law_whole" ["_law_store_here", "_law_reach"] (spLInt K)) (d__law_lowest : Kn P w K mg base 2 "_law_lowest" ["_law_top", "_law_bottom"] (spLowest K)) : Kn P w K mg base 6 "_law_values" ["_law_store_here"] (spVals K) := by
  refine Kn.mk' D scVals (fun vs H Q E h => ?_) (fun f cdv A outer s H vs Q E hr h => ?_)
  · obtain ⟨s, rfl, _⟩ := h
    rfl
  obtain ⟨s, rfl, hS, k⟩ := h
  refine ⟨_, (pss_cons (ps_if (pt_cmpR op_gt (pe_kn d__law_take hr (by rfl) (pa_cons (pv 0) (pa_cons pe_int pa_nil))) pe_int (nomark _)) (pss_one (ps_ret (pe_kn d__law_fracs hr (by rfl) (pa_cons (pv 0) (pa_cons pe_int (pa_cons pe_int pa_nil)))))) pss_nil)
      (pss_cons (ps_set (i := 1) scVals.nd rfl (.inl rfl) (pe_op op_add pe_int (pe_kn d__law_size hr (by rfl) (pa_cons (pv 0) (pa_cons pe_int pa_nil)))))
      (pss_cons (ps_setLcF (i := 2) (own := [("_law_k", 3)]) (g := gName 3) (te := (tTp K (tCons (tCall (spInt K fun n => n.natAbs < 2 ^ 133) [] E0 (tCons (tVar 0) L2.tNil)) (tCons (tOp (rI0 fun i j => V.int (i + j)) (tC (.int 1)) (tCB (fun xs H Q => ∃ i, xs = [V.int i] ∧ Q (V.int (if i < 0 then -i else i)) H) (tCons (tCall (spLInt K) [] E0 (tCons (tVar 0) (tCons (tOp (rI CPow fun i j => V.int (i ^ j.toNat)) (tC (.int 10)) (tC (.int 39))) L2.tNil))) L2.tNil))) L2.tNil)))) rfl scVals.nd rfl rfl (sw_true rfl rfl rfl rfl) (pi_range1 (by rfl) T.b_range (pa_cons (pv 1) pa_nil)) blk_scVals_0 (fun _ _ _ _ _ => by exact pg_name (i := 3) scVals.nd rfl (.inl rfl)) (fun _ _ _ _ _ => pts_nil) (fun _ _ _ _ _ => by exact (pe_tp (pa_cons (pe_kn d__law_great hr (by rfl) (pa_cons (pv 0) pa_nil)) (pa_cons (pe_op op_add pe_int (pe_callB call_abs (by rfl) T.b_abs (by decide +kernel) (pa_cons (pe_kn d__law_whole hr (by rfl) (pa_cons (pv 0) (pa_cons (pe_op op_pow pe_int pe_int) pa_nil))) pa_nil))) pa_nil)))))
      (pss_one (ps_ret (pe_fr (pe_lc (own := [("_law_row", 4)]) (g := gName 4) (te := (tCall (spLowest K) [] E0 (tCons (tOp (rIxA K) (tVar 4) (tC (.int 0))) (tCons (tOp (rIxA K) (tVar 4) (tC (.int 1))) L2.tNil)))) rfl scVals.nd (pi_list (pv 2)) blk_scVals_1 (fun _ _ _ _ _ => by exact pg_name (i := 4) scVals.nd rfl (.inl rfl)) (fun _ _ _ _ _ => pts_nil) (fun _ _ _ _ _ => by exact (pe_kn d__law_lowest hr (by rfl) (pa_cons (pe_ix ix_any (pv 4) pe_int (fun _ _ => rfl)) (pa_cons (pe_ix ix_any (pv 4) pe_int (fun _ _ => rfl)) pa_nil))))))))))), ?_⟩
  refine ⟨_, rfl, s, 16, rfl, hS, by omega, fun i H1 i0 i1 kp1 st1 => ⟨_, _, rfl, rfl, _, rfl, ite2 (fun h => ?_) (fun h => ?_)⟩⟩
  · exact ⟨_, rfl, s, rfl, st1, fun l xs qs H2 l1 l2 hl kl hl2 af kp2 st2 => k l xs qs H2 l1 l2 (kp1.free st1 hl) kl hl2 af (kp1.trans kp2) st2⟩
  refine ⟨_, rfl, s, 11, rfl, st1, by omega, by omega, fun r H2 r0 r1 kp2 st2 => ⟨_, _, rfl, rfl, ?_⟩⟩
  refine ⟨_, rfl, _, rfl, by omega, by omega, fun D hD => lc_range (lo := 0) (n := (1 + r).toNat) (PvG K (R2i K) s D H2) (pvg_0 st2 hD) ?_ ?_⟩
  · rintro i H' hi hP
    refine ⟨rfl, ?_⟩
    simp only [tYes, if_true]
    obtain ⟨_, _, _, kpP, stP, _⟩ := id hP
    refine ⟨_, rfl, s, rfl, stP, fun n H3 hn kp3 st3 => ?_⟩
    have e39 : (10 : Int) ^ (39 : Int).toNat = 1000000000000000000000000000000000000000 := by decide
    refine ⟨_, rfl, _, _, rfl, rfl, by unfold CPow; decide, s, _, rfl, st3, by rw [e39]; decide, by rw [e39]; decide, fun m H4 m0 m1 kp4 st4 => ⟨_, rfl, _, _, rfl, rfl, sz2 (by show 2 ≤ 100; decide), fun p hp kp => ?_⟩⟩
    rw [e39] at m0 m1
    have s5 := Same.new hp (.tup [.int n, .int (1 + if m < 0 then -m else m)])
    refine pvg_step stb_2i st2 hD hP (kp3.trans (kp4.trans (Kp.same s5))) (st4.same s5) ⟨p, n, 1 + if m < 0 then -m else m, rfl, ob_new kp, hn, ?_, ?_⟩ (by omega)
    · split <;> omega
    · split <;> omega
  · rintro H3 ⟨acc, al, hd, kp3, st3, hx⟩ fr
    have nD := st2.ne hD
    have kpH3 := kp1.trans (kp2.trans kp3)
    refine ⟨_, rfl, D, rfl, ⟨_, .of hd⟩, fun D2 hD2 => lc_list (xs := acc) (PvG K (RFq K 134) s D2 H3) (pvg_0 st3 hD2) (fun i H' _ hP => ?_) ?_ ?_⟩
    · obtain ⟨_, _, _, kpP, _⟩ := hP
      exact .of (kpP D _ nD hd)
    · rintro i x H' hi hP
      refine ⟨rfl, ?_⟩
      simp only [tYes, if_true]
      obtain ⟨_, _, _, kpP, stP, _⟩ := id hP
      obtain ⟨a, n, d, rfl, o, hn, hd1, hd2⟩ := stb_2i.kp _ _ _ (hx x (List.mem_of_getElem? hi)) kpP st3
      have il := (List.getElem?_eq_some_iff.mp hi).1
      refine ⟨_, rfl, a, 0, rfl, rfl, _, itsO_of o, _, atI_0 _ _, _, rfl, a, 1, rfl, rfl, _, itsO_of o, _, atI_1 _ _ _, n, d, rfl, szMono hd2 (by omega), fun q hq p H5 s5 o5 => ?_⟩
      have hI := hq.2 (show d ≠ 0 by omega)
      exact pvg_step stb_fq st3 hD2 hP (Kp.same s5) (stP.same s5) ⟨p, q, rfl, o5, hI.1, (is_sz (by omega) hI hn hd2).mono (by omega)⟩ (by omega)
    · rintro H4 ⟨acc2, al2, hd2, kp4, st4, hx2⟩ fr2
      obtain ⟨qs, af⟩ := AF.of_all hx2
      exact k D2 acc2 qs H4 (by omega) (by omega) (kpH3.free st3 hD2) (fr2 D2 (by rw [hd2]; simp)) hd2 af (kpH3.trans kp4) st4

def spWL (K : PySem.W.Frag) : Sp := fun vs H Q _ => ∃ (s a : Addr) (xs : List V), vs = [.ref s, .ref a, .int 1, .int 12] ∧ Sto K H s ∧ H a = some (.lst xs) ∧ K.lookup a = none ∧ a ≠ s ∧ 1 ≤ xs.length ∧ xs.length ≤ 12 ∧ ∀ c ys H', (ys.length = 0 ∨ 12 < ys.length) → H c = none → K.lookup c = none → H' c = some (.lst ys) → Kp s H H' → Sto K H' s → Q (.ref c) H'
def TkI (D s : Addr) (H1 : Hp) (i : Nat) (H' : Hp) : Prop := ∃ acc : List V, acc.length = i ∧ H' D = some (.lst acc) ∧ Same H1 H'
abbrev sWL : Stmt := topS 50
theorem scWL : FnScope ["_law_store_here", "_law_row", "_law_low", "_law_high", "_law_size_here", "_law_k"] ["_law_store_here", "_law_row", "_law_low", "_law_high"] (defScope sWL) := ⟨rfl, rfl, rfl, by decide +kernel, rfl, by decide +kernel, by decide +kernel⟩
theorem blk_scWL_0 : BlkOk ["_law_store_here", "_law_row", "_law_low", "_law_high", "_law_size_here", "_law_k"] (defScope sWL) { kind := .function, names := [(".0", .local), ("_law_k", .local), ("len", .globalImplicit), ("_law_row", .free)], isGenerator := false, isCoroutine := false, more := [] } [("_law_k", 5)] := ⟨rfl, by decide +kernel, by decide +kernel, by decide +kernel, by decide +kernel⟩
theorem k_WL (T : Bt K mg) (D : Dfn K mg "_law_wrong_length" sWL ["_law_store_here", "_law_row", "_law_low", "_law_high"]) (d__law_take : Kn P w K mg base 2 "_law_take" ["_law_store_here", "_law_many"] (spTake K)) : Kn P w K mg base 3 "_law_wrong_length" ["_law_store_here", "_law_row", "_law_low", "_law_high"] (spWL K) := by
  refine Kn.mk' D scWL (fun vs H Q E h => ?_) (fun f cdv A outer s H vs Q E hr h => ?_)
  · obtain ⟨s, a, xs, rfl, _⟩ := h
    rfl
  obtain ⟨s, a, xs, rfl, hS, ha, ka, na, l1, l2, k⟩ := h
  refine ⟨_, (pss_cons (ps_if (PW.pt (pw_and (pt_cmpR op_gt (pv 2) pe_int (nomark _)) (pw_and1 (pt_cmpR op_eq (pe_kn d__law_take hr (by rfl) (pa_cons (pv 0) (pa_cons pe_int pa_nil))) pe_int (nomark _))))) (pss_one (ps_ret (pe_fr (pe_slice sl_list (pe_fr (pe_slice sl_list (pv 1) po_none (po_some pe_int))) po_none (po_some (pe_kn d__law_take hr (by rfl) (pa_cons (pv 0) (pa_cons (pv 2) pa_nil)))))))) pss_nil)
      (pss_cons (ps_set (i := 4) scWL.nd rfl (.inl rfl) (pe_op op_add (pe_op op_add (pv 3) pe_int) (pe_kn d__law_take hr (by rfl) (pa_cons (pv 0) (pa_cons pe_int pa_nil)))))
      (pss_one (ps_ret (pe_fr (pe_lc (own := [("_law_k", 5)]) (g := gName 5) (te := (tOp (rIxA K) (tVar 1) (tOp (rI (fun _ j => j ≠ 0) fun i j => V.int (i.fmod j)) (tVar 5) (tCB (fun xs H Q => ∃ p, xs = [V.ref p] ∧ ∃ ys, itsO (ob K H p) = some ys ∧ Q (V.int (ys.length : Int)) H) (tCons (tVar 1) L2.tNil))))) rfl scWL.nd (pi_range1 (by rfl) T.b_range (pa_cons (pv 4) pa_nil)) blk_scWL_0 (fun _ _ _ _ _ => by exact pg_name (i := 5) scWL.nd rfl (.inl rfl)) (fun _ _ _ _ _ => pts_nil) (fun _ _ _ _ _ => by exact (pe_ix ix_any (pv 1) (pe_op op_modN (pv 5) (pe_callB call_lenA (by rfl) T.b_len PySem.boot_len (pa_cons (pv 1) pa_nil))) (fun _ _ => rfl))))))))), ?_⟩
  have oa := (ob_none ka).trans ha
  refine ⟨_, rfl, _, _, rfl, rfl, _, rfl, ?_⟩
  refine if_yes (by decide) ⟨_, rfl, s, 2, rfl, hS, by omega, fun i H1 i0 i1 kp1 st1 => ⟨rfl, _, rfl, ite2 (fun h => ?_) (fun h => ?_)⟩⟩
  · have ha1 := kp1 _ _ na ha
    refine ⟨_, rfl, _, rfl, a, xs, rfl, .of ha1, fun p1 hp1 fr1 => ?_⟩
    have s2 := Same.new hp1 (.lst (cutV xs none (some 1)))
    have o1 : upd H1 p1 (.lst (cutV xs none (some 1))) p1 = some (.lst (cutV xs none (some 1))) := upd_same
    have n1 := st1.ne hp1
    have st2 := st1.same s2
    generalize cutV xs none (some 1) = ys at s2 o1 st2 fr1 ⊢
    generalize upd H1 p1 (.lst ys) = H2 at s2 o1 st2 ⊢
    refine ⟨_, rfl, _, rfl, s, 1, rfl, st2, by omega, fun j H3 j0 j1 kp3 st3 => ⟨_, rfl, p1, ys, rfl, .of (kp3 _ _ n1 o1), ?_⟩⟩
    have ej : j = ((0 : Nat) : Int) := by omega
    rw [ej, cut_to ys 0 (by omega), List.take_zero]
    refine fun p2 hp2 fr2 => ?_
    have kpA := kp1.trans ((Kp.same s2).trans kp3)
    exact k p2 [] _ (.inl rfl) (kpA.free st3 hp2) (fr2 p2 (by rw [upd_same]; simp)) upd_same (kpA.trans (Kp.same (Same.new hp2 _))) (st3.same (Same.new hp2 _))
  · refine ⟨_, rfl, _, _, rfl, rfl, _, rfl, s, 3, rfl, st1, by omega, fun j H2 j0 j1 kp2 st2 => ⟨_, _, rfl, rfl, ?_⟩⟩
    have ha2 := kp2 _ _ na (kp1 _ _ na ha)
    have oa2 := (ob_none ka).trans ha2
    refine ⟨_, rfl, _, rfl, by omega, by omega, fun D hD => lc_range (lo := 0) (n := (12 + 1 + j).toNat) (TkI D s H2) ⟨[], rfl, upd_same, Same.new hD _⟩ ?_ ?_⟩
    · rintro n H' hn ⟨acc, al, hd, s3⟩
      refine ⟨rfl, ?_⟩
      simp only [tYes, if_true]
      have o3 := ob_same s3 oa2
      have hpos : (0 : Int) < (xs.length : Int) := by omega
      have fm : (0 + (n : Int)).fmod (xs.length : Int) = (0 + (n : Int)) % (xs.length : Int) := Int.fmod_eq_emod_of_nonneg _ (by omega)
      obtain ⟨v, hv, ev⟩ := at_mem (xs := xs) (i := (0 + (n : Int)) % (xs.length : Int)) (Int.emod_nonneg _ (by omega)) (Int.emod_lt_of_pos _ hpos)
      refine ⟨_, rfl, _, rfl, _, rfl, a, rfl, xs, itsO_ofL o3, _, _, rfl, rfl, by omega, a, _, rfl, rfl, xs, itsO_ofL o3, v, by rw [fm]; exact ev, acc, hd, by rw [al, sizeLine_eq]; omega, acc ++ [v], by rw [List.length_append, al]; rfl, upd_same, fun c o e => ?_⟩
      rw [upd_ne (ne_of_none e hD)]
      exact s3 _ _ e
    · rintro H' ⟨acc, al, hd, s3⟩ fr
      have kpA := kp1.trans kp2
      exact k D acc H' (.inr (by omega)) (kpA.free st2 hD) (fr D (by rw [hd]; simp)) hd (kpA.trans (Kp.same s3)) (st2.same s3)

def spBL (K : PySem.W.Frag) : Sp := fun vs H Q _ => ∃ (s a : Addr) (xs : List V), vs = [.ref s, .ref a] ∧ Sto K H s ∧ H a = some (.lst xs) ∧ ∀ v t H', tyN K H' v = some t → t ≠ "list" → Kp s H H' → Sto K H' s → Q v H'
abbrev sBL : Stmt := topS 52
theorem scBL : FnScope ["_law_store_here", "_law_row"] ["_law_store_here", "_law_row"] (defScope sBL) := ⟨rfl, rfl, rfl, by decide +kernel, rfl, by decide +kernel, by decide +kernel⟩
theorem k_BL (T : Bt K mg) (D : Dfn K mg "_law_bad_list" sBL ["_law_store_here", "_law_row"]) (d__law_pick : Kn P w K mg base 3 "_law_pick" ["_law_store_here", "_law_row"] (spPick K)) : Kn P w K mg base 4 "_law_bad_list" ["_law_store_here", "_law_row"] (spBL K) := by
  refine Kn.mk' D scBL (fun vs H Q E h => ?_) (fun f cdv A outer s H vs Q E hr h => ?_)
  · obtain ⟨s, a, xs, rfl, _⟩ := h
    rfl
  obtain ⟨s, a, xs, rfl, hS, ha, k⟩ := h
  refine ⟨_, (pss_one (ps_ret (pe_kn d__law_pick hr (by rfl) (pa_cons (pv 0) (pa_cons (pe_ls (pa_cons (pe_fr (pe_callTy call_tuple_of (by rfl) T.b_tuple (by decide +kernel) (pa_cons (pv 1) pa_nil))) (pa_cons (pe_fr (pe_callTy call_tuple_of (by rfl) T.b_tuple (by decide +kernel) (pa_cons (pv 1) pa_nil))) (pa_cons pe_non (pa_cons pe_int (pa_cons pe_bl (pa_cons pe_str (pa_cons pe_dn (pa_cons (pe_tp pa_nil) pa_nil))))))))) pa_nil))))), ?_⟩
  refine ⟨_, rfl, _, rfl, a, _, rfl, .inl ⟨.of ha, fun p1 hp1 fr1 => ?_⟩⟩
  have s1 := Same.new hp1 (.tup xs)
  have o1 := ob_new (H := H) (o := .tup xs) (fr1 p1 (by rw [upd_same]; simp))
  have ha1 := s1 _ _ ha
  generalize upd H p1 (.tup xs) = H1 at s1 o1 ha1 ⊢
  refine ⟨_, rfl, a, _, rfl, .inl ⟨.of ha1, fun p2 hp2 fr2 => ?_⟩⟩
  have s2 := Same.new hp2 (.tup xs)
  have o2 := ob_new (H := H1) (o := .tup xs) (fr2 p2 (by rw [upd_same]; simp))
  have o1 := ob_same s2 o1
  generalize upd H1 p2 (.tup xs) = H2 at s2 o1 o2 ⊢
  refine fun p3 hp3 kp3 => ?_
  have s3 := Same.new hp3 (.dK [])
  have o3 := ob_new (H := H2) (o := .dK []) kp3
  have o1 := ob_same s3 o1
  have o2 := ob_same s3 o2
  generalize upd H2 p3 (.dK []) = H3 at s3 o1 o2 o3 ⊢
  refine ⟨sz2 (by show 0 ≤ 100; decide), fun p4 hp4 kp4 => ?_⟩
  have s4 := Same.new hp4 (.tup [])
  have o4 := ob_new (H := H3) (o := .tup []) kp4
  have o1 := ob_same s4 o1
  have o2 := ob_same s4 o2
  have o3 := ob_same s4 o3
  generalize upd H3 p4 (.tup []) = H4 at s4 o1 o2 o3 o4 ⊢
  refine ⟨sz2 (by show 8 ≤ 100; decide), fun p5 hp5 kp5 => ?_⟩
  have s5 := Same.new hp5 (.lst [.ref p1, .ref p2, .non, .int 0, .bl true, .str "", .ref p3, .ref p4])
  have sA := s1.trans (s2.trans (s3.trans s4))
  have st4 := hS.same sA
  have st5 := st4.same s5
  refine ⟨s, p5, _, rfl, st5, upd_same, Ne.symm (st4.ne hp5), by show 0 < 8; decide, by show 8 < 1000; decide, fun v H6 hv kp6 st6 => ?_⟩
  have kpA := (Kp.same (sA.trans s5)).trans kp6
  obtain ⟨ys, hys⟩ := st5.at
  have fin : ∀ (p : Addr) (z : HO) (t : String), ob K H4 p = some z → (∀ l, z ≠ .lst l) → tyO (some z) = some t → t ≠ "list" → Q (.ref p) H6 := fun p z t o n ty nt => by
    have o6 := ob_kp kp6 hys n (ob_same s5 o)
    exact k (.ref p) t H6 (by rw [tyN_ref, o6]; exact ty) nt kpA st6
  simp only [List.mem_cons, List.not_mem_nil, or_false] at hv
  rcases hv with rfl | rfl | rfl | rfl | rfl | rfl | rfl | rfl
  · exact fin p1 _ "tuple" o1 (fun _ z => by cases z) rfl (by decide)
  · exact fin p2 _ "tuple" o2 (fun _ z => by cases z) rfl (by decide)
  · exact k .non "NoneType" H6 rfl (by decide) kpA st6
  · exact k (.int 0) "int" H6 rfl (by decide) kpA st6
  · exact k (.bl true) "bool" H6 rfl (by decide) kpA st6
  · exact k (.str "") "str" H6 rfl (by decide) kpA st6
  · exact fin p3 _ "dict" o3 (fun _ z => by cases z) rfl (by decide)
  · exact fin p4 _ "tuple" o4 (fun _ z => by cases z) rfl (by decide)

end
end My

namespace My
open PySem PySem.Spec PyProof.Rows L2
section
variable {P : Program} {w : World} {K : PySem.W.Frag} {mg : Str → Option Value} {base : Heap}
theorem same_put {H H' : Hp} {l : Addr} {o : HO} (s : Same H H') (h : H l = none) : Same H (upd H' l o) := fun b u e => by
  rw [upd_ne (ne_of_none e h)]
  exact s _ _ e
theorem eqv_tup {H : Hp} {a b : Addr} {xs : List V} (oa : ob K H a = some (.tup xs)) (ob' : ob K H b = some (.tup xs)) (hs : xs.all scv = true) (hl : xs.length ≤ 1000) : Eqv K H 1 (.ref a) (.ref b) := by
  refine .inr ⟨a, b, xs, xs, rfl, rfl, .inl ⟨oa, ob'⟩, rfl, hl, fun i x y hx hy => ?_⟩
  rw [hx] at hy
  cases hy
  exact ⟨rfl, List.all_eq_true.mp hs x (List.mem_of_getElem? hx)⟩
theorem eqv_af {H : Hp} {a b : Addr} {n : Nat} {xs : List V} {qs : List Qt} (oa : ob K H a = some (.lst xs)) (ob' : ob K H b = some (.lst xs)) (af : AF K H n xs qs) (hl : xs.length ≤ 1000) : Eqv K H 2 (.ref a) (.ref b) := by
  refine .inr ⟨a, b, xs, xs, rfl, rfl, .inr ⟨oa, ob'⟩, rfl, hl, fun i x y hx hy => ?_⟩
  rw [hx] at hy
  cases hy
  obtain ⟨c, q, _, rfl, f⟩ := af.at hx
  exact eqv_tup f.o f.o rfl (by show 2 ≤ 1000; omega)
def spDiv (K : PySem.W.Frag) : Sp := fun vs H Q _ => ∃ (a b : Addr) (m v : Qt), vs = [.ref a, .ref b] ∧ Fq K H 1610 a m ∧ Fq K H 134 b v ∧ m.1 ∣ v.1 ∧ v.2 ∣ m.2 ∧ Q (.bl true) H
abbrev sDiv : Stmt := topS 55
theorem scDiv : FnScope ["_law_measure", "_law_value"] ["_law_measure", "_law_value"] (defScope sDiv) := ⟨rfl, rfl, rfl, by decide +kernel, rfl, by decide +kernel, by decide +kernel⟩
theorem k_Div (T : Bt K mg) (D : Dfn K mg "_law_divides" sDiv ["_law_measure", "_law_value"]) : Kn P w K mg base 1 "_law_divides" ["_law_measure", "_law_value"] (spDiv K) := by
  refine Kn.mk' D scDiv (fun vs H Q E h => ?_) (fun f cdv A outer s H vs Q E hr h => ?_)
  · obtain ⟨a, b, m, v, rfl, _⟩ := h
    rfl
  obtain ⟨a, b, m, v, rfl, hm, hv, d1, d2, k⟩ := h
  refine ⟨_, (pss_cons (ps_if (PW.pt (pw_or (pt_cmpR op_eq (pe_ix ix_any (pv 1) pe_int (fun _ _ => rfl)) pe_int (nomark _)) (pw_or1 (pt_cmpR op_eq (pe_ix ix_any (pv 0) pe_int (fun _ _ => rfl)) pe_int (nomark _))))) (pss_one (ps_ret (pe_cmpR op_eq (pe_ix ix_any (pv 1) pe_int (fun _ _ => rfl)) pe_int (nomark _)))) pss_nil)
      (pss_one (ps_ret (pe_cmpR op_eq (pe_op op_modN (pe_callTy call_int1 (by rfl) T.b_int (by decide +kernel) (pa_cons (pe_op op_mulW (pe_ix ix_any (pv 1) pe_int (fun _ _ => rfl)) (pe_ix ix_any (pv 0) pe_int (fun _ _ => rfl))) pa_nil)) (pe_op op_mulW (pe_ix ix_any (pv 1) pe_int (fun _ _ => rfl)) (pe_ix ix_any (pv 0) pe_int (fun _ _ => rfl)))) pe_int (nomark _))))), ?_⟩
  simp only [hv.o, hm.o, cx_K, decide_true, decide_false, reduceCtorEq, gTp, gCons, gNil, ca_0, ca_1, ca_2, ca_3, ca_4, ca_5, ca_6, ca_7, ca_8, ca_9, ca_10, ca_11, ca_12, ca_13, ca_14, ca_15, ca_16, ca_17, ca_18, ca_19, ca_20, ca_21, ca_22, ca_23, ca_24, ca_25, ca_26, ca_27, ca_28, ca_29, ca_30, not_true_eq_false, not_false_eq_true, Int.reduceEq, Nat.reduceEqDiff, Nat.reduceLeDiff, rGcd, V.ty.injEq, eq_self, List.not_mem_nil, beq_self_eq_true, HO.lst.injEq, HO.tup.injEq, tFor_eq, iRng1, iList, iTup, nat10, tSeq, rIxA, rSetA, rIsN, rIsT, tTp, tLs, itsO_tup, itsO_lst, tyO_tup, tyO_lst, tyO_dK, tyN_non, tyN_bl, tyN_int, tyN_str, tyN_ref, tyNs_lt, isB, upd_same, upd_upd, sizeLine_eq, List.mem_cons, String.reduceBEq, String.reduceEq, Bool.or_false, Bool.or_true, Bool.and_false, Bool.false_or, Bool.and_self, Bool.false_and, Bool.not_false, Bool.not_true, List.any_cons, List.any_nil, atI_0, setI_0, atI_1, setI_1, atI_2, setI_2, atI_3, setI_3, atI_4, setI_4, atI_5, setI_5, atI_6, setI_6, tAsg, gName, tOp, tUn, tVar, tC, tCons, L2.tNil, tRet, tIfS, tTest, tCB, tCall, rI, rI0, rU, tNext, tB, tAnd, tOr, tNot, tAndV, tOrV, tNotV, tDrop, tIf, tPar, gSub, rIxL, rIxT, rEq, rNe, rSetL, tBits,
    L2.start, List.map_cons, List.map_nil, List.cons_append, List.nil_append, List.append_nil, List.length_cons, List.length_nil, List.replicate, Nat.reduceAdd, Nat.reduceSub, Nat.zero_add, List.getElem?_cons_zero, List.getElem?_cons_succ, List.set_cons_zero, List.set_cons_succ,
    Option.some.injEq, exists_eq_left', exists_eq_left, V.int.injEq, V.bl.injEq, V.ref.injEq, V.str.injEq, List.cons.injEq, reduceCtorEq, and_true, true_and, false_and, and_false, exists_false, or_false, false_or, or_true, true_or, exists_const, CMul, CDiv, CPow, and_assoc, exists_and_left, exists_and_right, Int.reducePow, Int.reduceNeg, Int.reduceLT, Int.reduceLE, Nat.reducePow, Nat.reduceLT, Int.reduceToNat, gt_iff_lt, ge_iff_le, decide_eq_true_eq, Bool.not_eq_true', decide_eq_false_iff_not, scal, ↓reduceIte, Bool.false_eq_true]
  have m1 := hm.nf.1
  have v1 := hv.nf.1
  refine ite2 (fun h => ?_) (fun h => ?_)
  · rw [decide_eq_true h]
    exact k
  · have m0 : m.1 ≠ 0 := fun z => by
      obtain ⟨c, hc⟩ := d1
      rw [z, Int.zero_mul] at hc
      exact h hc
    rw [if_neg m0]
    have dv : v.2 * m.1 ∣ v.1 * m.2 := by
      obtain ⟨c1, e1⟩ := d1
      obtain ⟨c2, e2⟩ := d2
      exact ⟨c1 * c2, by rw [e1, e2]; grind⟩
    have e : (v.1 * m.2).fmod (v.2 * m.1) = 0 := Int.fmod_eq_zero_of_dvd dv
    rw [e]
    exact ⟨mulW hv.sz.1 hm.sz.2 (by omega), mulW hv.sz.2 hm.sz.1 (by omega), Int.mul_ne_zero (by omega) m0, k⟩

/-- a certificate of a measure at c -/
structure Ppr (K : PySem.W.Frag) (H : Hp) (qs : List Qt) (c : Addr) : Prop where
  ex : ∃ t tw, ob K H c = some (.tup [.ref t, .ref tw]) ∧ ob K H t = some (frt (glF qs)) ∧ ob K H tw = some (.tup ((wsF qs).map V.int))
def spPD (K : PySem.W.Frag) : Sp := fun vs H Q _ => ∃ (a c : Addr) (xs : List V) (qs : List Qt), vs = [.ref a, .ref c] ∧ H a = some (.lst xs) ∧ K.lookup a = none ∧ AF K H 134 xs qs ∧ 1 ≤ xs.length ∧ xs.length ≤ 12 ∧ Ppr K H qs c ∧ Wts (wsF qs) qs (glF qs) ∧ (∀ x ∈ wsF qs, x.natAbs < 2 ^ 22750) ∧ Q (.bl true) H
def PdI (K : PySem.W.Frag) (a c : Addr) (qs : List Qt) (H : Hp) (i : Nat) (σ : L2.St) (H' : Hp) : Prop := ∃ x3, σ = [some (.ref a), some (.ref c), some (.int (prD (qs.take i))), x3, none, none] ∧ H' = H
def PdJ (K : PySem.W.Frag) (a c : Addr) (qs : List Qt) (x3 : Option V) (H : Hp) (i : Nat) (σ : L2.St) (H' : Hp) : Prop := ∃ x5, σ = [some (.ref a), some (.ref c), some (.int (prD qs)), x3, some (.int (smW ((wsF qs).take i) (qs.take i) (prD qs))), x5] ∧ H' = H
abbrev sPD : Stmt := topS 56
theorem scPD : FnScope ["_law_values_here", "_law_paper", "_law_common", "_law_value", "_law_total", "_law_k"] ["_law_values_here", "_law_paper"] (defScope sPD) := ⟨rfl, rfl, rfl, by decide +kernel, rfl, by decide +kernel, by decide +kernel⟩
theorem k_PD (T : Bt K mg) (D : Dfn K mg "_law_paper_due" sPD ["_law_values_here", "_law_paper"]) (d__law_is_frac : Kn P w K mg base 2 "_law_is_frac" ["_law_told"] (spLFrac K)) (d__law_is_whole : Kn P w K mg base 1 "_law_is_whole" ["_law_told"] (spWhole K)) (d__law_divides : Kn P w K mg base 1 "_law_divides" ["_law_measure", "_law_value"] (spDiv K)) : Kn P w K mg base 3 "_law_paper_due" ["_law_values_here", "_law_paper"] (spPD K) := by
  refine Kn.mk' D scPD (fun vs H Q E h => ?_) (fun f cdv A outer s H vs Q E hr h => ?_)
  · obtain ⟨a, c, xs, qs, rfl, _⟩ := h
    rfl
  obtain ⟨a, c, xs, qs, rfl, ha, ka, af, l1, l12, pp, wt, wz, k⟩ := h
  refine ⟨_, (pss_cons (ps_if (PW.pt (pw_or (pt_not (pt_val (pe_callB call_isN (by rfl) T.b_isinstance (by decide +kernel) (pa_cons (pv 1) (pa_cons (pe_bltn (v := .ty "tuple") (by rfl) T.b_tuple (by decide +kernel) rfl) pa_nil))))) (pw_or (pt_cmpR op_ne (pe_callB call_lenA (by rfl) T.b_len PySem.boot_len (pa_cons (pv 1) pa_nil)) pe_int (nomark _)) (pw_or (pt_not (pt_val (pe_kn d__law_is_frac hr (by rfl) (pa_cons (pe_ix ix_any (pv 1) pe_int (fun _ _ => rfl)) pa_nil)))) (pw_or1 (pt_cmpR op_lt (pe_ix ix_any (pe_ix ix_any (pv 1) pe_int (fun _ _ => rfl)) pe_int (fun _ _ => rfl)) pe_int (nomark _))))))) (pss_one (ps_ret pe_bl)) pss_nil)
      (pss_cons (ps_if (PW.pt (pw_or (pt_not (pt_val (pe_callB call_isN (by rfl) T.b_isinstance (by decide +kernel) (pa_cons (pe_ix ix_any (pv 1) pe_int (fun _ _ => rfl)) (pa_cons (pe_bltn (v := .ty "tuple") (by rfl) T.b_tuple (by decide +kernel) rfl) pa_nil))))) (pw_or1 (pt_cmpR op_ne (pe_callB call_lenA (by rfl) T.b_len PySem.boot_len (pa_cons (pe_ix ix_any (pv 1) pe_int (fun _ _ => rfl)) pa_nil)) (pe_callB call_lenA (by rfl) T.b_len PySem.boot_len (pa_cons (pv 0) pa_nil)) (nomark _))))) (pss_one (ps_ret pe_bl)) pss_nil)
      (pss_cons (ps_set (i := 2) scPD.nd rfl (.inl rfl) pe_int)
      (pss_cons (ps_for PassesOwn.never rfl (pi_list (pv 0)) (pg_name (i := 3) scPD.nd rfl (.inl rfl)) (pss_one (ps_set (i := 2) scPD.nd rfl (.inl rfl) (pe_op op_mulW (pv 2) (pe_ix ix_any (pv 3) pe_int (fun _ _ => rfl))))))
      (pss_cons (ps_set (i := 4) scPD.nd rfl (.inl rfl) pe_int)
      (pss_cons (ps_for PassesOwn.never rfl (pi_range1 (by rfl) T.b_range (pa_cons (pe_callB call_lenA (by rfl) T.b_len PySem.boot_len (pa_cons (pv 0) pa_nil)) pa_nil)) (pg_name (i := 5) scPD.nd rfl (.inl rfl)) (pss_cons (ps_if (PW.pt (pw_or (pt_not (pt_val (pe_kn d__law_is_whole hr (by rfl) (pa_cons (pe_ix ix_any (pe_ix ix_any (pv 1) pe_int (fun _ _ => rfl)) (pv 5) (fun _ _ => rfl)) pa_nil)))) (pw_or1 (pt_not (pt_val (pe_kn d__law_divides hr (by rfl) (pa_cons (pe_ix ix_any (pv 1) pe_int (fun _ _ => rfl)) (pa_cons (pe_ix ix_any (pv 0) (pv 5) (fun _ _ => rfl)) pa_nil)))))))) (pss_one (ps_ret pe_bl)) pss_nil)
      (pss_one (ps_set (i := 4) scPD.nd rfl (.inl rfl) (pe_op op_add (pv 4) (pe_op op_mulW (pe_op op_mulW (pe_ix ix_any (pe_ix ix_any (pv 1) pe_int (fun _ _ => rfl)) (pv 5) (fun _ _ => rfl)) (pe_ix ix_any (pe_ix ix_any (pv 0) (pv 5) (fun _ _ => rfl)) pe_int (fun _ _ => rfl))) (pe_op op_fdivX (pv 2) (pe_ix ix_any (pe_ix ix_any (pv 0) (pv 5) (fun _ _ => rfl)) pe_int (fun _ _ => rfl)))))))))
      (pss_one (ps_ret (pe_cmpR op_eq (pe_op op_mulW (pv 4) (pe_ix ix_any (pe_ix ix_any (pv 1) pe_int (fun _ _ => rfl)) pe_int (fun _ _ => rfl))) (pe_op op_mulW (pe_ix ix_any (pe_ix ix_any (pv 1) pe_int (fun _ _ => rfl)) pe_int (fun _ _ => rfl)) (pv 2)) (nomark _)))))))))), ?_⟩
  obtain ⟨t, tw, oc, ot, otw⟩ := pp
  have gz := glF_sz12 af.sz (by have := af.1; omega)
  have gn := nf_gl fun q hq => (af.sz q hq).2
  have ft : Fq K H 1610 t (glF qs) := ⟨ot, gn, gz⟩
  have oa := (ob_none ka).trans ha
  have ft' := ft.o
  have g0 : 0 ≤ (glF qs).1 := (gl_nn (qs := qs) (m := (0, 1)) (by decide) (by decide)).1
  have wl := wt.1
  have ql := af.1
  have it := itsO_of oc
  have iw := itsO_of otw
  simp only [oc, cx_K, decide_true, decide_false, reduceCtorEq, gTp, gCons, gNil, ca_0, ca_1, ca_2, ca_3, ca_4, ca_5, ca_6, ca_7, ca_8, ca_9, ca_10, ca_11, ca_12, ca_13, ca_14, ca_15, ca_16, ca_17, ca_18, ca_19, ca_20, ca_21, ca_22, ca_23, ca_24, ca_25, ca_26, ca_27, ca_28, ca_29, ca_30, not_true_eq_false, not_false_eq_true, Int.reduceEq, Nat.reduceEqDiff, Nat.reduceLeDiff, rGcd, V.ty.injEq, eq_self, List.not_mem_nil, beq_self_eq_true, HO.lst.injEq, HO.tup.injEq, tFor_eq, iRng1, iList, iTup, nat10, tSeq, rIxA, rSetA, rIsN, rIsT, tTp, tLs, itsO_tup, itsO_lst, tyO_tup, tyO_lst, tyO_dK, tyN_non, tyN_bl, tyN_int, tyN_str, tyN_ref, tyNs_lt, isB, upd_same, upd_upd, sizeLine_eq, List.mem_cons, String.reduceBEq, String.reduceEq, Bool.or_false, Bool.or_true, Bool.and_false, Bool.false_or, Bool.and_self, Bool.false_and, Bool.not_false, Bool.not_true, List.any_cons, List.any_nil, atI_0, setI_0, atI_1, setI_1, atI_2, setI_2, atI_3, setI_3, atI_4, setI_4, atI_5, setI_5, atI_6, setI_6, tAsg, gName, tOp, tUn, tVar, tC, tCons, L2.tNil, tRet, tIfS, tTest, tCB, tCall, rI, rI0, rU, tNext, tB, tAnd, tOr, tNot, tAndV, tOrV, tNotV, tDrop, tIf, tPar, gSub, rIxL, rIxT, rEq, rNe, rSetL, tBits,
    L2.start, List.map_cons, List.map_nil, List.cons_append, List.nil_append, List.append_nil, List.length_cons, List.length_nil, List.replicate, Nat.reduceAdd, Nat.reduceSub, Nat.zero_add, List.getElem?_cons_zero, List.getElem?_cons_succ, List.set_cons_zero, List.set_cons_succ,
    Option.some.injEq, exists_eq_left', exists_eq_left, V.int.injEq, V.bl.injEq, V.ref.injEq, V.str.injEq, List.cons.injEq, reduceCtorEq, and_true, true_and, false_and, and_false, exists_false, or_false, false_or, or_true, true_or, exists_const, CMul, CDiv, CPow, and_assoc, exists_and_left, exists_and_right, Int.reducePow, Int.reduceNeg, Int.reduceLT, Int.reduceLE, Nat.reducePow, Nat.reduceLT, Int.reduceToNat, gt_iff_lt, ge_iff_le, decide_eq_true_eq, Bool.not_eq_true', decide_eq_false_iff_not, scal, ↓reduceIte, Bool.false_eq_true]
  refine ⟨t, glF qs, rfl, ft.mono (by omega), true, rfl, ?_⟩
  rw [if_neg Bool.noConfusion]
  simp only [oc, ft', otw, oa, List.length_map, cx_K, decide_true, decide_false, reduceCtorEq, gTp, gCons, gNil, ca_0, ca_1, ca_2, ca_3, ca_4, ca_5, ca_6, ca_7, ca_8, ca_9, ca_10, ca_11, ca_12, ca_13, ca_14, ca_15, ca_16, ca_17, ca_18, ca_19, ca_20, ca_21, ca_22, ca_23, ca_24, ca_25, ca_26, ca_27, ca_28, ca_29, ca_30, not_true_eq_false, not_false_eq_true, Int.reduceEq, Nat.reduceEqDiff, Nat.reduceLeDiff, rGcd, V.ty.injEq, eq_self, List.not_mem_nil, beq_self_eq_true, HO.lst.injEq, HO.tup.injEq, tFor_eq, iRng1, iList, iTup, nat10, tSeq, rIxA, rSetA, rIsN, rIsT, tTp, tLs, itsO_tup, itsO_lst, tyO_tup, tyO_lst, tyO_dK, tyN_non, tyN_bl, tyN_int, tyN_str, tyN_ref, tyNs_lt, isB, upd_same, upd_upd, sizeLine_eq, List.mem_cons, String.reduceBEq, String.reduceEq, Bool.or_false, Bool.or_true, Bool.and_false, Bool.false_or, Bool.and_self, Bool.false_and, Bool.not_false, Bool.not_true, List.any_cons, List.any_nil, atI_0, setI_0, atI_1, setI_1, atI_2, setI_2, atI_3, setI_3, atI_4, setI_4, atI_5, setI_5, atI_6, setI_6, tAsg, gName, tOp, tUn, tVar, tC, tCons, L2.tNil, tRet, tIfS, tTest, tCB, tCall, rI, rI0, rU, tNext, tB, tAnd, tOr, tNot, tAndV, tOrV, tNotV, tDrop, tIf, tPar, gSub, rIxL, rIxT, rEq, rNe, rSetL, tBits,
    L2.start, List.map_cons, List.map_nil, List.cons_append, List.nil_append, List.append_nil, List.length_cons, List.length_nil, List.replicate, Nat.reduceAdd, Nat.reduceSub, Nat.zero_add, List.getElem?_cons_zero, List.getElem?_cons_succ, List.set_cons_zero, List.set_cons_succ,
    Option.some.injEq, exists_eq_left', exists_eq_left, V.int.injEq, V.bl.injEq, V.ref.injEq, V.str.injEq, List.cons.injEq, reduceCtorEq, and_true, true_and, false_and, and_false, exists_false, or_false, false_or, or_true, true_or, exists_const, CMul, CDiv, CPow, and_assoc, exists_and_left, exists_and_right, Int.reducePow, Int.reduceNeg, Int.reduceLT, Int.reduceLE, Nat.reducePow, Nat.reduceLT, Int.reduceToNat, gt_iff_lt, ge_iff_le, decide_eq_true_eq, Bool.not_eq_true', decide_eq_false_iff_not, scal, ↓reduceIte, Bool.false_eq_true]
  rw [if_neg (show ¬ (glF qs).1 < 0 by omega), if_neg (show ¬ ¬ (((wsF qs).length : Int) = (xs.length : Int)) by omega)]
  refine ⟨⟨xs, .of ha⟩, forI_list (xs := xs) (PdI K a c qs H) ⟨none, rfl, rfl⟩ (fun i σ H' _ h => by
    obtain ⟨x3, rfl, rfl⟩ := h
    exact .of ha) ?_ ?_⟩
  · rintro i x σ H' hi ⟨x3, rfl, rfl⟩
    obtain ⟨b, q, hq, rfl, f⟩ := af.at hi
    have e : prD (qs.take (i + 1)) = prD (qs.take i) * q.2 := by
      rw [List.take_add_one, hq]
      exact prD_app _ _
    have pz : (prD (qs.take i)).natAbs < 2 ^ (1 + 134 * (qs.take i).length) := prD_sz (by decide) fun q hq => (af.sz q (List.mem_of_mem_take hq)).1
    have le : 1 + 134 * (qs.take i).length ≤ 2000 := by
      rw [List.length_take]
      omega
    refine ⟨_, rfl, _, rfl, b, 1, rfl, rfl, _, itsO_of f.o, _, atI_1 _ _ _, _, _, rfl, rfl, mulW (szMono pz le) f.sz.2 (by omega), ?_⟩
    refine ⟨some (.ref b), ?_, rfl⟩
    rw [e]
    rfl
  · rintro σ H' ⟨x3, rfl, rfl⟩
    rw [ql, List.take_length]
    have pz : (prD qs).natAbs < 2 ^ (1 + 134 * qs.length) := prD_sz (by decide) fun q hq => (af.sz q hq).1
    have pz : (prD qs).natAbs < 2 ^ 1610 := szMono pz (by omega)
    have pd : ∀ q ∈ qs, q.2 ∣ prD qs := (prD_dvd (qs := qs) (c := 1)).2
    refine ⟨_, rfl, a, rfl, xs, itsO_ofL oa, _, rfl, by omega, by omega, forI_range (lo := 0) (n := xs.length) (PdJ K a c qs x3 H') ⟨none, rfl, rfl⟩ ?_ ?_⟩
    · rintro i σ H' hi ⟨x5, rfl, rfl⟩
      have il : i < qs.length := by omega
      have iw2 : i < (wsF qs).length := by omega
      obtain ⟨b, q, hq, ex, f⟩ := af.at (List.getElem?_eq_getElem hi)
      have hw : (wsF qs)[i]? = some (wsF qs)[i] := List.getElem?_eq_getElem iw2
      have wb := wz _ (List.getElem_mem iw2)
      generalize (wsF qs)[i] = w at hw wb
      have e1 : atI xs (0 + (i : Int)) = some (.ref b) := by rw [Int.zero_add]; exact atI_nat (by rw [List.getElem?_eq_getElem hi, ex])
      have e2 : atI ((wsF qs).map V.int) (0 + (i : Int)) = some (.int w) := by rw [Int.zero_add]; exact atI_nat (by rw [List.getElem?_map, hw]; rfl)
      have it := itsO_of oc
      have iw := itsO_of otw
      have ia := itsO_ofL oa
      have ib := itsO_of f.o
      simp only [it, iw, ia, e1, e2, cx_K, decide_true, decide_false, reduceCtorEq, gTp, gCons, gNil, ca_0, ca_1, ca_2, ca_3, ca_4, ca_5, ca_6, ca_7, ca_8, ca_9, ca_10, ca_11, ca_12, ca_13, ca_14, ca_15, ca_16, ca_17, ca_18, ca_19, ca_20, ca_21, ca_22, ca_23, ca_24, ca_25, ca_26, ca_27, ca_28, ca_29, ca_30, not_true_eq_false, not_false_eq_true, Int.reduceEq, Nat.reduceEqDiff, Nat.reduceLeDiff, rGcd, V.ty.injEq, eq_self, List.not_mem_nil, beq_self_eq_true, HO.lst.injEq, HO.tup.injEq, tFor_eq, iRng1, iList, iTup, nat10, tSeq, rIxA, rSetA, rIsN, rIsT, tTp, tLs, itsO_tup, itsO_lst, tyO_tup, tyO_lst, tyO_dK, tyN_non, tyN_bl, tyN_int, tyN_str, tyN_ref, tyNs_lt, isB, upd_same, upd_upd, sizeLine_eq, List.mem_cons, String.reduceBEq, String.reduceEq, Bool.or_false, Bool.or_true, Bool.and_false, Bool.false_or, Bool.and_self, Bool.false_and, Bool.not_false, Bool.not_true, List.any_cons, List.any_nil, atI_0, setI_0, atI_1, setI_1, atI_2, setI_2, atI_3, setI_3, atI_4, setI_4, atI_5, setI_5, atI_6, setI_6, tAsg, gName, tOp, tUn, tVar, tC, tCons, L2.tNil, tRet, tIfS, tTest, tCB, tCall, rI, rI0, rU, tNext, tB, tAnd, tOr, tNot, tAndV, tOrV, tNotV, tDrop, tIf, tPar, gSub, rIxL, rIxT, rEq, rNe, rSetL, tBits,
    L2.start, List.map_cons, List.map_nil, List.cons_append, List.nil_append, List.append_nil, List.length_cons, List.length_nil, List.replicate, Nat.reduceAdd, Nat.reduceSub, Nat.zero_add, List.getElem?_cons_zero, List.getElem?_cons_succ, List.set_cons_zero, List.set_cons_succ,
    Option.some.injEq, exists_eq_left', exists_eq_left, V.int.injEq, V.bl.injEq, V.ref.injEq, V.str.injEq, List.cons.injEq, reduceCtorEq, and_true, true_and, false_and, and_false, exists_false, or_false, false_or, or_true, true_or, exists_const, CMul, CDiv, CPow, and_assoc, exists_and_left, exists_and_right, Int.reducePow, Int.reduceNeg, Int.reduceLT, Int.reduceLE, Nat.reducePow, Nat.reduceLT, Int.reduceToNat, gt_iff_lt, ge_iff_le, decide_eq_true_eq, Bool.not_eq_true', decide_eq_false_iff_not, scal, ↓reduceIte, Bool.false_eq_true]
      have d1 : (prD qs).fdiv q.2 = prD qs / q.2 := Int.fdiv_eq_ediv_of_nonneg _ (by have := f.nf.1; omega)
      refine ⟨_, rfl, rfl, true, rfl, ?_⟩
      rw [if_neg Bool.noConfusion]
      simp only [it, ia, e1, e2, cx_K, decide_true, decide_false, reduceCtorEq, gTp, gCons, gNil, ca_0, ca_1, ca_2, ca_3, ca_4, ca_5, ca_6, ca_7, ca_8, ca_9, ca_10, ca_11, ca_12, ca_13, ca_14, ca_15, ca_16, ca_17, ca_18, ca_19, ca_20, ca_21, ca_22, ca_23, ca_24, ca_25, ca_26, ca_27, ca_28, ca_29, ca_30, not_true_eq_false, not_false_eq_true, Int.reduceEq, Nat.reduceEqDiff, Nat.reduceLeDiff, rGcd, V.ty.injEq, eq_self, List.not_mem_nil, beq_self_eq_true, HO.lst.injEq, HO.tup.injEq, tFor_eq, iRng1, iList, iTup, nat10, tSeq, rIxA, rSetA, rIsN, rIsT, tTp, tLs, itsO_tup, itsO_lst, tyO_tup, tyO_lst, tyO_dK, tyN_non, tyN_bl, tyN_int, tyN_str, tyN_ref, tyNs_lt, isB, upd_same, upd_upd, sizeLine_eq, List.mem_cons, String.reduceBEq, String.reduceEq, Bool.or_false, Bool.or_true, Bool.and_false, Bool.false_or, Bool.and_self, Bool.false_and, Bool.not_false, Bool.not_true, List.any_cons, List.any_nil, atI_0, setI_0, atI_1, setI_1, atI_2, setI_2, atI_3, setI_3, atI_4, setI_4, atI_5, setI_5, atI_6, setI_6, tAsg, gName, tOp, tUn, tVar, tC, tCons, L2.tNil, tRet, tIfS, tTest, tCB, tCall, rI, rI0, rU, tNext, tB, tAnd, tOr, tNot, tAndV, tOrV, tNotV, tDrop, tIf, tPar, gSub, rIxL, rIxT, rEq, rNe, rSetL, tBits,
    L2.start, List.map_cons, List.map_nil, List.cons_append, List.nil_append, List.append_nil, List.length_cons, List.length_nil, List.replicate, Nat.reduceAdd, Nat.reduceSub, Nat.zero_add, List.getElem?_cons_zero, List.getElem?_cons_succ, List.set_cons_zero, List.set_cons_succ,
    Option.some.injEq, exists_eq_left', exists_eq_left, V.int.injEq, V.bl.injEq, V.ref.injEq, V.str.injEq, List.cons.injEq, reduceCtorEq, and_true, true_and, false_and, and_false, exists_false, or_false, false_or, or_true, true_or, exists_const, CMul, CDiv, CPow, and_assoc, exists_and_left, exists_and_right, Int.reducePow, Int.reduceNeg, Int.reduceLT, Int.reduceLE, Nat.reducePow, Nat.reduceLT, Int.reduceToNat, gt_iff_lt, ge_iff_le, decide_eq_true_eq, Bool.not_eq_true', decide_eq_false_iff_not, scal, ↓reduceIte, Bool.false_eq_true]
      have qm : q ∈ qs := List.mem_of_getElem? hq
      refine ⟨t, b, glF qs, q, rfl, ft, f, gl_num qm, gl_den qm, true, rfl, ?_⟩
      rw [if_neg Bool.noConfusion]
      simp only [it, iw, ia, ib, e1, e2, d1, cx_K, decide_true, decide_false, reduceCtorEq, gTp, gCons, gNil, ca_0, ca_1, ca_2, ca_3, ca_4, ca_5, ca_6, ca_7, ca_8, ca_9, ca_10, ca_11, ca_12, ca_13, ca_14, ca_15, ca_16, ca_17, ca_18, ca_19, ca_20, ca_21, ca_22, ca_23, ca_24, ca_25, ca_26, ca_27, ca_28, ca_29, ca_30, not_true_eq_false, not_false_eq_true, Int.reduceEq, Nat.reduceEqDiff, Nat.reduceLeDiff, rGcd, V.ty.injEq, eq_self, List.not_mem_nil, beq_self_eq_true, HO.lst.injEq, HO.tup.injEq, tFor_eq, iRng1, iList, iTup, nat10, tSeq, rIxA, rSetA, rIsN, rIsT, tTp, tLs, itsO_tup, itsO_lst, tyO_tup, tyO_lst, tyO_dK, tyN_non, tyN_bl, tyN_int, tyN_str, tyN_ref, tyNs_lt, isB, upd_same, upd_upd, sizeLine_eq, List.mem_cons, String.reduceBEq, String.reduceEq, Bool.or_false, Bool.or_true, Bool.and_false, Bool.false_or, Bool.and_self, Bool.false_and, Bool.not_false, Bool.not_true, List.any_cons, List.any_nil, atI_0, setI_0, atI_1, setI_1, atI_2, setI_2, atI_3, setI_3, atI_4, setI_4, atI_5, setI_5, atI_6, setI_6, tAsg, gName, tOp, tUn, tVar, tC, tCons, L2.tNil, tRet, tIfS, tTest, tCB, tCall, rI, rI0, rU, tNext, tB, tAnd, tOr, tNot, tAndV, tOrV, tNotV, tDrop, tIf, tPar, gSub, rIxL, rIxT, rEq, rNe, rSetL, tBits,
    L2.start, List.map_cons, List.map_nil, List.cons_append, List.nil_append, List.append_nil, List.length_cons, List.length_nil, List.replicate, Nat.reduceAdd, Nat.reduceSub, Nat.zero_add, List.getElem?_cons_zero, List.getElem?_cons_succ, List.set_cons_zero, List.set_cons_succ,
    Option.some.injEq, exists_eq_left', exists_eq_left, V.int.injEq, V.bl.injEq, V.ref.injEq, V.str.injEq, List.cons.injEq, reduceCtorEq, and_true, true_and, false_and, and_false, exists_false, or_false, false_or, or_true, true_or, exists_const, CMul, CDiv, CPow, and_assoc, exists_and_left, exists_and_right, Int.reducePow, Int.reduceNeg, Int.reduceLT, Int.reduceLE, Nat.reducePow, Nat.reduceLT, Int.reduceToNat, gt_iff_lt, ge_iff_le, decide_eq_true_eq, Bool.not_eq_true', decide_eq_false_iff_not, scal, ↓reduceIte, Bool.false_eq_true]
      refine ⟨mulW wb f.sz.1 (by omega), ⟨f.nf.ne, szMono f.sz.2 (by omega)⟩, mulW (szMul wb f.sz.1) (div_sz pz f.nf.1) (by omega), ?_⟩
      refine ⟨some (.int (0 + (i : Int))), ?_, rfl⟩
      rw [smW_take wl hw hq]
    · rintro σ H' ⟨x5, rfl, rfl⟩
      have it := itsO_of oc
      have ift := itsO_of ft'
      simp only [it, ift, cx_K, decide_true, decide_false, reduceCtorEq, gTp, gCons, gNil, ca_0, ca_1, ca_2, ca_3, ca_4, ca_5, ca_6, ca_7, ca_8, ca_9, ca_10, ca_11, ca_12, ca_13, ca_14, ca_15, ca_16, ca_17, ca_18, ca_19, ca_20, ca_21, ca_22, ca_23, ca_24, ca_25, ca_26, ca_27, ca_28, ca_29, ca_30, not_true_eq_false, not_false_eq_true, Int.reduceEq, Nat.reduceEqDiff, Nat.reduceLeDiff, rGcd, V.ty.injEq, eq_self, List.not_mem_nil, beq_self_eq_true, HO.lst.injEq, HO.tup.injEq, tFor_eq, iRng1, iList, iTup, nat10, tSeq, rIxA, rSetA, rIsN, rIsT, tTp, tLs, itsO_tup, itsO_lst, tyO_tup, tyO_lst, tyO_dK, tyN_non, tyN_bl, tyN_int, tyN_str, tyN_ref, tyNs_lt, isB, upd_same, upd_upd, sizeLine_eq, List.mem_cons, String.reduceBEq, String.reduceEq, Bool.or_false, Bool.or_true, Bool.and_false, Bool.false_or, Bool.and_self, Bool.false_and, Bool.not_false, Bool.not_true, List.any_cons, List.any_nil, atI_0, setI_0, atI_1, setI_1, atI_2, setI_2, atI_3, setI_3, atI_4, setI_4, atI_5, setI_5, atI_6, setI_6, tAsg, gName, tOp, tUn, tVar, tC, tCons, L2.tNil, tRet, tIfS, tTest, tCB, tCall, rI, rI0, rU, tNext, tB, tAnd, tOr, tNot, tAndV, tOrV, tNotV, tDrop, tIf, tPar, gSub, rIxL, rIxT, rEq, rNe, rSetL, tBits,
    L2.start, List.map_cons, List.map_nil, List.cons_append, List.nil_append, List.append_nil, List.length_cons, List.length_nil, List.replicate, Nat.reduceAdd, Nat.reduceSub, Nat.zero_add, List.getElem?_cons_zero, List.getElem?_cons_succ, List.set_cons_zero, List.set_cons_succ,
    Option.some.injEq, exists_eq_left', exists_eq_left, V.int.injEq, V.bl.injEq, V.ref.injEq, V.str.injEq, List.cons.injEq, reduceCtorEq, and_true, true_and, false_and, and_false, exists_false, or_false, false_or, or_true, true_or, exists_const, CMul, CDiv, CPow, and_assoc, exists_and_left, exists_and_right, Int.reducePow, Int.reduceNeg, Int.reduceLT, Int.reduceLE, Nat.reducePow, Nat.reduceLT, Int.reduceToNat, gt_iff_lt, ge_iff_le, decide_eq_true_eq, Bool.not_eq_true', decide_eq_false_iff_not, scal, ↓reduceIte, Bool.false_eq_true]
      have sz := smW_sz (ws := wsF qs) (qs := qs) wz af.sz pz
      rw [ql, List.take_length, ← wl, List.take_length, wt.2 _ pd]
      rw [decide_eq_true rfl]
      exact ⟨mulW sz gz.2 (by omega), mulW gz.1 pz (by omega), k⟩

def spHolds (K : PySem.W.Frag) : Sp := fun vs H Q _ => ∃ (a : Addr) (xs : List V) (qs : List Qt), vs = [.ref a] ∧ H a = some (.lst xs) ∧ K.lookup a = none ∧ AF K H 134 xs qs ∧ 1 ≤ xs.length ∧ xs.length ≤ 12 ∧ ∀ H', Same H H' → Q (.bl true) H'
abbrev sHolds : Stmt := topS 58
theorem scHolds : FnScope ["_law_values_here", "_law_row", "_law_paper", "_law_again"] ["_law_values_here"] (defScope sHolds) := ⟨rfl, rfl, rfl, by decide +kernel, rfl, by decide +kernel, by decide +kernel⟩
theorem k_Holds (T : Bt K mg) (D : Dfn K mg "_law_holds" sHolds ["_law_values_here"]) (d_measure_paper : Kn P w K mg base 5 "measure_paper" ["values"] (spMP K)) (d__law_paper_due : Kn P w K mg base 3 "_law_paper_due" ["_law_values_here", "_law_paper"] (spPD K)) (d_common_measure : Kn P w K mg base 4 "common_measure" ["values"] (spCM K)) (d__law_same : Kn P w K mg base 4 "_law_same" ["_law_told", "_law_due"] (spSame K 3)) : Kn P w K mg base 6 "_law_holds" ["_law_values_here"] (spHolds K) := by
  refine Kn.mk' D scHolds (fun vs H Q E h => ?_) (fun f cdv A outer s H vs Q E hr h => ?_)
  · obtain ⟨a, xs, qs, rfl, _⟩ := h
    rfl
  obtain ⟨a, xs, qs, rfl, ha, ka, af, l1, l12, k⟩ := h
  refine ⟨_, (pss_cons (ps_set (i := 1) scHolds.nd rfl (.inl rfl) (pe_fr (pe_callTy call_list_of (by rfl) T.b_list (by decide +kernel) (pa_cons (pv 0) pa_nil))))
      (pss_cons (ps_set (i := 2) scHolds.nd rfl (.inl rfl) (pe_kn d_measure_paper hr (by rfl) (pa_cons (pv 1) pa_nil)))
      (pss_cons (ps_if (PW.pt (pw_or (pt_not (pt_val (pe_kn d__law_paper_due hr (by rfl) (pa_cons (pv 0) (pa_cons (pv 2) pa_nil))))) (pw_or1 (pt_not (pt_val (pe_kn d__law_same hr (by rfl) (pa_cons (pe_kn d_common_measure hr (by rfl) (pa_cons (pv 1) pa_nil)) (pa_cons (pe_ix ix_any (pv 2) pe_int (fun _ _ => rfl)) pa_nil)))))))) (pss_one (ps_ret pe_bl)) pss_nil)
      (pss_cons (ps_if (pt_not (pt_val (pe_kn d__law_same hr (by rfl) (pa_cons (pv 1) (pa_cons (pv 0) pa_nil))))) (pss_one (ps_ret pe_bl)) pss_nil)
      (pss_cons (ps_expr (pe_bm PySem.F.plainAttrs_list PySem.F.slot_list_append PySem.F.type_list_append mt_append (pv 1) (pa_cons (pe_tp (pa_cons pe_int (pa_cons pe_int pa_nil))) pa_nil)))
      (pss_cons (ps_asg (pe_tp (pa_cons pe_int (pa_cons pe_int pa_nil))) (pg_sub (pv 1) pe_int set_any))
      (pss_cons (ps_set (i := 3) scHolds.nd rfl (.inl rfl) (pe_kn d_measure_paper hr (by rfl) (pa_cons (pe_fr (pe_callTy call_list_of (by rfl) T.b_list (by decide +kernel) (pa_cons (pv 0) pa_nil))) pa_nil)))
      (pss_one (ps_ret (pe_and (pe_kn d__law_same hr (by rfl) (pa_cons (pv 3) (pa_cons (pv 2) pa_nil))) (pe_one (pe_kn d__law_same hr (by rfl) (pa_cons (pe_kn d_common_measure hr (by rfl) (pa_cons (pe_fr (pe_revL (pv 0))) pa_nil)) (pa_cons (pe_ix ix_any (pv 2) pe_int (fun _ _ => rfl)) pa_nil)))))))))))))), ?_⟩
  refine ⟨_, rfl, a, xs, rfl, .inl (.of ha), fun l hl fr => ?_⟩
  have s1 := Same.new hl (.lst xs)
  have kl := fr l (by rw [upd_same]; simp)
  have hl1 : upd H l (.lst xs) l = some (.lst xs) := upd_same
  generalize upd H l (.lst xs) = H1 at s1 hl1 ⊢
  refine ⟨_, rfl, l, xs, qs, rfl, hl1, kl, af.same s1, l1, l12, fun c t tw H2 s2 oc ot otw wt wz => ?_⟩
  have s12 := s1.trans s2
  refine ⟨_, rfl, _, rfl, a, c, xs, qs, rfl, s12 _ _ ha, ka, af.same s12, l1, l12, ⟨t, tw, oc, ot, otw⟩, wt, wz, true, rfl, if_no rfl ?_⟩
  refine ⟨_, rfl, l, xs, qs, rfl, s2 _ _ hl1, kl, af.same s12, l1, l12, fun p H3 s3 o3 => ?_⟩
  have fz : (frt (glF qs)) = .tup [V.int (glF qs).1, V.int (glF qs).2] := rfl
  refine ⟨_, rfl, c, 0, rfl, rfl, _, itsO_of (ob_same s3 oc), _, atI_0 _ _, _, _, rfl, (eqv_tup o3 (ob_same s3 ot) rfl (by show 2 ≤ 1000; omega)).up, fun H4 s4 => ⟨true, rfl, if_no rfl ?_⟩⟩
  have s34 := s3.trans s4
  have s24 := s2.trans s34
  have s14 := s1.trans s24
  have hl4 := s24 _ _ hl1
  have ha4 := s14 _ _ ha
  refine ⟨_, rfl, _, rfl, _, _, rfl, eqv_af ((ob_none kl).trans hl4) ((ob_none ka).trans ha4) (af.same s14) (by omega), fun H5 s5 => ⟨true, rfl, if_no rfl ?_⟩⟩
  have oc5 := ob_same (s34.trans s5) oc
  have ot5 := ob_same (s34.trans s5) ot
  have otw5 := ob_same (s34.trans s5) otw
  have hl5 := s5 _ _ hl4
  have s15 := s14.trans s5
  clear s1 hl1 s2 s12 s3 o3 s4 s34 s24 s14 hl4 ha4 s5 oc ot otw
  refine ⟨_, rfl, .inl ⟨rfl, _, .of hl5⟩, sz2 (by show 2 ≤ 100; decide), fun p1 hp1 kp1 => ?_⟩
  have s6 := Same.new hp1 (.tup [.int 1, .int 7])
  have oc6 := ob_same s6 oc5
  have ot6 := ob_same s6 ot5
  have otw6 := ob_same s6 otw5
  have hl6 := s6 _ _ hl5
  have s16 := s15.trans s6
  generalize upd H5 p1 (.tup [.int 1, .int 7]) = H6 at hl6 oc6 ot6 otw6 s16 ⊢
  refine ⟨l, xs, _, rfl, rfl, hl6, by rw [sizeLine_eq]; omega, ?_⟩
  have oc7 := ob_put (o := .lst (xs ++ [.ref p1])) oc6 hl6
  have ot7 := ob_put (o := .lst (xs ++ [.ref p1])) ot6 hl6
  have otw7 := ob_put (o := .lst (xs ++ [.ref p1])) otw6 hl6
  have s17 := same_put (o := .lst (xs ++ [.ref p1])) s16 hl
  have hl7 : upd H6 l (HO.lst (xs ++ [V.ref p1])) l = some (HO.lst (xs ++ [V.ref p1])) := upd_same
  generalize upd H6 l (HO.lst (xs ++ [V.ref p1])) = H7 at oc7 ot7 otw7 s17 hl7 ⊢
  refine ⟨sz2 (by show 2 ≤ 100; decide), fun p2 hp2 kp2 => ?_⟩
  have s8 := Same.new hp2 (.tup [.int 1, .int 5])
  have oc8 := ob_same s8 oc7
  have ot8 := ob_same s8 ot7
  have otw8 := ob_same s8 otw7
  have hl8 := s8 _ _ hl7
  have s18 := s17.trans s8
  generalize upd H7 p2 (.tup [.int 1, .int 5]) = H8 at hl8 oc8 ot8 otw8 s18 ⊢
  have es : setI (xs ++ [V.ref p1]) 0 (V.ref p2) = some ((xs ++ [V.ref p1]).set 0 (V.ref p2)) := setI_nat (j := 0) (by rw [List.length_append]; omega) rfl
  refine ⟨_, rfl, l, 0, rfl, rfl, _, hl8, _, es, ?_⟩
  have oc9 := ob_put (o := .lst ((xs ++ [V.ref p1]).set 0 (V.ref p2))) oc8 hl8
  have ot9 := ob_put (o := .lst ((xs ++ [V.ref p1]).set 0 (V.ref p2))) ot8 hl8
  have otw9 := ob_put (o := .lst ((xs ++ [V.ref p1]).set 0 (V.ref p2))) otw8 hl8
  have s19 := same_put (o := .lst ((xs ++ [V.ref p1]).set 0 (V.ref p2))) s18 hl
  generalize upd H8 l (.lst ((xs ++ [V.ref p1]).set 0 (V.ref p2))) = H9 at oc9 ot9 otw9 s19 ⊢
  clear s15 s16 s17 s8 s18 oc5 ot5 otw5 oc6 ot6 otw6 oc7 ot7 otw7 oc8 ot8 otw8 s6
  refine ⟨_, rfl, a, xs, rfl, .inl (.of (s19 _ _ ha)), fun l3 hl3 fr3 => ?_⟩
  have s10 := Same.new hl3 (.lst xs)
  have hl10 : upd H9 l3 (.lst xs) l3 = some (.lst xs) := upd_same
  have k3 := fr3 l3 (by rw [upd_same]; simp)
  have s1a := s19.trans s10
  have ocA := ob_same s10 oc9
  have otA := ob_same s10 ot9
  have otwA := ob_same s10 otw9
  generalize upd H9 l3 (.lst xs) = HA at s10 hl10 s1a ocA otA otwA ⊢
  refine ⟨l3, xs, qs, rfl, hl10, k3, af.same s1a, l1, l12, fun c2 t2 tw2 HB sB oc2 ot2 otw2 wt2 wz2 => ?_⟩
  have s1b := s1a.trans sB
  have wl : (wsF qs).length = xs.length := wt.1.trans af.1.symm
  have eq : Eqv K HB 2 (.ref c2) (.ref c) := by
    refine .inr ⟨c2, c, _, _, rfl, rfl, .inl ⟨oc2, ob_same sB ocA⟩, rfl, by show 2 ≤ 1000; omega, fun i x y hx hy => ?_⟩
    match i, hx, hy with
    | 0, hx, hy =>
      cases hx
      cases hy
      exact eqv_tup ot2 (ob_same sB otA) rfl (by show 2 ≤ 1000; omega)
    | 1, hx, hy =>
      cases hx
      cases hy
      exact eqv_tup otw2 (ob_same sB otwA) (List.all_eq_true.mpr fun x hx => by
        obtain ⟨z, _, rfl⟩ := List.mem_map.mp hx
        rfl) (by rw [List.length_map]; omega)
    | n + 2, hx, _ => cases hx
  refine ⟨_, rfl, _, rfl, _, _, rfl, eq, fun HC sC => ⟨true, rfl, if_yes rfl ?_⟩⟩
  have s1c := s1b.trans sC
  refine ⟨_, rfl, a, xs, rfl, .of (s1c _ _ ha), fun p hp frp => ?_⟩
  have sD := Same.new hp (.lst xs.reverse)
  have hD : upd HC p (.lst xs.reverse) p = some (.lst xs.reverse) := upd_same
  have kp := frp p (by rw [upd_same]; simp)
  have s1d := s1c.trans sD
  have ocD := ob_same (sB.trans (sC.trans sD)) ocA
  have otD := ob_same (sB.trans (sC.trans sD)) otA
  generalize upd HC p (.lst xs.reverse) = HD at sD hD s1d ocD otD ⊢
  refine ⟨p, xs.reverse, qs.reverse, rfl, hD, kp, (af.same s1d).rev, by rw [List.length_reverse]; exact l1, by rw [List.length_reverse]; exact l12, fun p2 HE sE oE => ?_⟩
  rw [gl_rev] at oE
  refine ⟨_, rfl, c, 0, rfl, rfl, _, itsO_of (ob_same sE ocD), _, atI_0 _ _, _, _, rfl, (eqv_tup oE (ob_same sE otD) rfl (by show 2 ≤ 1000; omega)).up, fun HF sF => ?_⟩
  exact k HF (s1d.trans (sE.trans sF))

end
end My

namespace My
open PySem PySem.Spec PyProof.Rows L2
section
variable {P : Program} {w : World} {K : PySem.W.Frag} {mg : Str → Option Value} {base : Heap}
end
/-! ### what a def that raises keeps -/
structure KnX (P : Program) (w : World) (K : PySem.W.Frag) (mg : Str → Option Value) (base : Heap) (k : Nat) (x : Str) (ps : List Str) (sp : Sp) : Prop where
  ex : ∃ f fd, mg x = some (.ref f) ∧ PySem.W.keepIn K (.ref f) = true ∧ Binds K fd ps [] ∧ FnOk P w K mg base (L2.CX P w) k f fd ps sp
theorem KnX.mk' {P : Program} {w : World} {K : PySem.W.Frag} {mg : Str → Option Value} {base : Heap} {x : Str} {st : Stmt} {N ps : List Str} {k : Nat} {sp : Sp} (D : Dfn K mg x st ps) (S : FnScope N ps (defScope st)) (len : ∀ vs H Q E, sp vs H Q E → vs.length = ps.length)
    (hbody : ∀ (f : Addr) (cdv : Value) (A : Around) (outer : List Env) (s : Shared) (H : Hp) (vs : List V) (Q : VK) (E : XK), Room k (A.deeper (envOfC x (defScope st) s.heap.objs.size f cdv)) → sp vs H Q E →
      ∃ t, PSs (cxOf (L2.CX P w) P w K mg base N x (defScope st) f cdv A outer s H E) (defBody st) t ∧ t { nx := fun _ H' => Q .non H', rt := Q } (start N vs) H) : KnX P w K mg base (k + 1) x ps sp := by
  obtain ⟨f, fd, F, m, b⟩ := D.ex
  exact ⟨f, fd, m, F.kp, b, F.okX S len (hbody f)⟩
section
variable {X : Cx}
theorem pe_knX {j k : Nat} {x : Str} {ps : List Str} {sp : Sp} {p pos : Pos} {e : Expr} {es : List Expr} {t : TA} {W : WX} (E : XK) (F : KnX X.prog X.w X.K X.mg X.base k x ps sp) (hr : Room j X.A) (hg : Gl X x) (tk : Takes X W) (hW : ∀ cls d σ H, E cls d H → W cls d σ H) (ha : PA X (e :: es) t) (hj : k ≤ j := by omega)
    (hdb : (x == ("__debug__" : Str)) = false := by decide) (he : starEach (e :: es) X.env = (false, eval e X.env) :: starEach es X.env := by rfl) (hpl : (backTo pos (starEach es X.env)).any (·.1) = false := by rfl) :
    PE X (.Call (.Name x p) (e :: es) [] pos) (tCall sp [] E t) := by
  obtain ⟨f, fd, m, kp, b, G⟩ := F.ex
  exact pe_call G (hr.mono hj) hg m kp b .nil (passes_call tk hW) ha hdb he hpl
end
/-! ### BadValue -/
structure BvT (K : PySem.W.Frag) (mg : Str → Option Value) (C : Addr) : Prop where
  g : mg "BadValue" = some (.ref C)
  ox : OexC K C
  no : PySem.W.findIn K (.ref C) "what" = some none
  ini : ∃ fI fd, PySem.W.findIn K (.ref C) "__init__" = some (some (.ref fI)) ∧ PySem.W.typeIn K (.ref fI) = some (.type "function") ∧ Fun K "__init__" "BadValue.__init__" (inClass (topS 3) 0) fI fd ∧ Binds K fd ["self", "what"] []
def spInit (C : Addr) : Sp := fun vs H Q _ => ∃ (a : Addr) (y : V), vs = [.ref a, y] ∧ H a = some (exo a C none) ∧ ∀ dx, H dx = none → dx ≠ a → Q .non (upd (upd H dx (exd dx [("what", y)])) a (exo a C (some dx)))
/-- an error of BadValue: its own dict d, what it names -/
def Bv (K : PySem.W.Frag) (C : Addr) (H : Hp) (E : XK) (y : V) : Prop := ∀ (d : Addr) (H' : Hp), Same H H' → H' d = some (.xd [("what", y)]) → E (.ref C) (some d) H'
def spRequireX (K : PySem.W.Frag) (C : Addr) : Sp := fun vs H _ E => ∃ y : V, vs = [.bl false, y] ∧ Bv K C H E y
section
variable {P : Program} {w : World} {K : PySem.W.Frag} {mg : Str → Option Value} {base : Heap}
abbrev sInitB : Stmt := inClass (topS 3) 0
theorem scInitB : FnScope ["self", "what"] ["self", "what"] (defScope sInitB) := ⟨rfl, rfl, rfl, by decide +kernel, rfl, by decide +kernel, by decide +kernel⟩
theorem ok_initB {C fI : Addr} {fd : FuncData} (B : BvT K mg C) (F : Fun K "__init__" "BadValue.__init__" sInitB fI fd) : FnOk P w K mg base CX0 1 fI fd ["self", "what"] (spInit C) := by
  refine F.ok scInitB (fun vs H Q E h => ?_) (fun cdv A outer s H vs Q E hr h => ?_)
  · obtain ⟨a, y, rfl, _⟩ := h
    rfl
  obtain ⟨a, y, rfl, ha, k⟩ := h
  refine ⟨_, pss_one (ps_ost (pv 0) (pv 1)), ?_⟩
  exact ⟨_, rfl, _, rfl, a, C, rfl, B.ox, B.no, .inl ⟨ha, k⟩⟩
theorem kx_Require {C : Addr} (B : BvT K mg C) (D : Dfn K mg "require" sRequire ["well_formed", "what"]) : KnX P w K mg base 3 "require" ["well_formed", "what"] (spRequireX K C) := by
  refine KnX.mk' D scRequire (fun vs H Q E h => ?_) (fun f cdv A outer s H vs Q E hr h => ?_)
  · obtain ⟨y, rfl, _⟩ := h
    rfl
  obtain ⟨y, rfl, k⟩ := h
  obtain ⟨fI, fd, iC, tI, F, b⟩ := B.ini
  refine ⟨_, (pss_one (ps_if (pt_not (pt_val (pv 0))) (pss_one (ps_raise rfl (takes_of rfl rfl rfl rfl) (pmk_oex B.ox iC tI (ok_initB B F) hr b .nil pass0 (by rfl) B.g (pa_cons (pv 1) pa_nil)))) pss_nil)), ?_⟩
  refine ⟨_, rfl, _, rfl, iteT ?_⟩
  refine ⟨_, rfl, by show 1 ≤ 1000; decide, fun a na => ⟨a, y, rfl, upd_same, fun dx ndx ne => ⟨rfl, dx, [("what", y)], upd_same, ?_, ?_, ?_⟩⟩⟩
  · rw [upd_ne ne, upd_same]
  · rw [upd_ne ne] at ndx
    exact ndx
  · rw [upd_ne ne] at ndx
    refine k dx _ (fun b o e => ?_) upd_same
    rw [upd_ne (ne_of_none e ndx), del_ne (ne_of_none e na), upd_ne (ne_of_none e na), upd_ne (ne_of_none e ndx), upd_ne (ne_of_none e na)]
    exact e
end
end My

namespace My
open PySem PySem.Spec PyProof.Rows L2
section
variable {P : Program} {w : World} {K : PySem.W.Frag} {mg : Str → Option Value} {base : Heap}
end
/-- what the written part says of the errors' classes: C is BadValue, S SkyError, A the eleven by name -/
structure AskT (K : PySem.W.Frag) (mg : Str → Option Value) (C S : Addr) (A : String → Addr) : Prop where
  sky : mg "SkyError" = some (.ref S)
  exm : PySem.W.exmOne K (.ref C) (.ref S) = some true
  g : ∀ n ∈ ["BadValue", "Mismatch", "Still", "Endless", "TooMany", "NoName", "Taken", "Locked", "Looped", "Broken", "ReadError"], mg (Str.ofString n) = some (.ref (A n))
  k : ∀ n ∈ ["BadValue", "Mismatch", "Still", "Endless", "TooMany", "NoName", "Taken", "Locked", "Looped", "Broken", "ReadError"], PySem.W.kitOne K (.ref C) (.ref (A n)) = some (n == "BadValue")
  ve : PySem.W.kitOne K (.ref C) (.type "ValueError") = some true
  b_VE : mg "ValueError" = none
  hcl : (PySem.W.clsIn K C).isSome = true
  hga : PySem.W.findIn K (.ref C) "__getattribute__" = some (some (.builtin "BaseException.__getattribute__"))
  hgt : PySem.W.findIn K (.ref C) "__getattr__" = some none
  hsub : PySem.W.subIn K (.ref C) (.type "BaseException") = some true
  ha : PySem.W.findIn K (.ref C) "__class__" = some (some (.builtin "object.__class__"))
  hn : PySem.W.specialIn K (.builtin "object.__class__") "__get__" = some (some (.builtin "getset_descriptor.__get__"))
  htk : PySem.W.takesIn K (.builtin "object.__class__") = some true
  hm : PySem.W.mroIn K C (.type "object") = some true
  xf : XfC K C
/-- isinstance of a caught error that has its dict -/
def kitV (K : PySem.W.Frag) (C : Addr) : V → Option Bool
  | .ref D => PySem.W.kitOne K (.ref C) (.ref D)
  | .ty n => PySem.W.kitOne K (.ref C) (.type n)
  | _ => none
def rIsX (K : PySem.W.Frag) (C a : Addr) (cls : Value) (d : Option Addr) : List V → Hp → VK → Prop := fun xs H Q => ∃ c, xs = [.ref a, c] ∧ cls = .ref C ∧ ∃ dd, d = some dd ∧ (∃ fs, H dd = some (.xd fs)) ∧ ∃ b, kitV K C c = some b ∧ Q (.bl b) H
theorem call_isX {X : Cx} {C S a : Addr} {A : String → Addr} {oe : Obj} {cls : Value} {d : Option Addr} {pn : List (Addr × Obj)} (T : AskT X.K X.mg C S A) (hz : Zc cls d oe) (hf : ∃ vs, oe.data = .fields vs) : CallR (X.suite a ((a, oe) :: pn)) (.builtin "isinstance") (rIsX X.K C a cls d) := fun pins s σ H xs us Q I r h => by
  obtain ⟨c, rfl, rfl, dd, rfl, ⟨fs, hfs⟩, b, hb, q⟩ := h
  obtain ⟨u1, u2, rfl, r1, r2⟩ := vals2 r
  cases r1
  obtain ⟨hget, _⟩ := I.pin (a, oe) (List.mem_append.mpr (.inl List.mem_cons_self))
  obtain ⟨vs, hv⟩ := hf
  obtain ⟨mA, ⟨od, es, ep, ho, hr0⟩, hr⟩ := (show ObjOk X.prog X.w H s.heap dd (.xd fs) from I.hok dd _ hfs)
  have J : PySem.W.InstAt s.heap a oe C (some od) := ⟨hget, hz.1, by unfold PySem.W.notCls; rw [hv] <;> rfl, by rw [hz.2]; exact ho⟩
  have Z := PySem.W.kitx_exc (K := X.K) (C := C) (x := a) (ox := oe) (od := some od) T.hcl T.hga T.hgt T.hsub T.ha T.hn T.htk T.hm
  cases c with
  | ref D =>
    obtain rfl : u2 = Value.ref D := r2
    exact PySem.W.kia_one Z I.kIn J hb (fun z => nomatch z) fun tk => ⟨.bl b, H, I.kept (t' := tk) fun _ _ z => z, rfl, q⟩
  | ty n =>
    obtain rfl : u2 = Value.type n := r2
    exact PySem.W.kia_one Z I.kIn J hb (fun z => nomatch z) fun tk => ⟨.bl b, H, I.kept (t' := tk) fun _ _ z => z, rfl, q⟩
  | _ => cases hb
def rLenA (K : PySem.W.Frag) : List V → Hp → VK → Prop := fun xs H Q => ∃ p, xs = [.ref p] ∧ ∃ ys, itsO (ob K H p) = some ys ∧ Q (.int ys.length) H
/-- a wish of the right number of slots is wish enough -/
theorem takes_len {X : Cx} {W : WX} (t : Takes X W) : Takes X (fun cls d σ H => σ.length = X.N.length → W cls d σ H) := fun u s' ⟨a, B, sI, pins, σ, H, cls, d, e, I, nb, up, sky, na, os, ag, w⟩ =>
  t u s' ⟨a, B, sI, pins, σ, H, cls, d, e, I, nb, up, sky, na, os, ag, w I.len⟩
/-- what the law's asking makes of a call: told, or BadValue and what it names -/
def TAsk (K : PySem.W.Frag) (C : Addr) : (XK → Hp → VK → Prop) → Hp → VK → Prop := fun tl H Q =>
  tl (fun cls d H' => cls = .ref C ∧ ∃ dd y, d = some dd ∧ H' dd = some (.xd [("what", y)]) ∧ ∀ p H'', Same H' H'' → ob K H'' p = some (.tup [.str "BadValue", y]) → Q (.ref p) H'') H
    (fun v H1 => ([V.str "told", v] : List V).length ≤ sizeLine ∧ ∀ p, H1 p = none → K.lookup p = none → Q (.ref p) (upd H1 p (.tup [.str "told", v])))
abbrev sAsked : Stmt := topS 53
theorem scAsked : FnScope ["_law_call", "e", "_law_kinds"] ["_law_call"] (defScope sAsked) := ⟨rfl, rfl, rfl, by decide +kernel, rfl, by decide +kernel, by decide +kernel⟩

theorem asked_gives {X : Cx} {C S : Addr} {A : String → Addr} {g : Addr} {cdg : Value} {q : Str} (Z : Bt X.K X.mg) (B : BvT X.K X.mg C) (T : AskT X.K X.mg C S A) : LamX.GivesTo X ["_law_call", "e", "_law_kinds"] "_law_asked" (defScope sAsked) g cdg (defBody sAsked) "_law_call" q (TAsk X.K C) := by
  intro f c' s H Q tl act hc h
  refine ⟨_, pss_one (ps_try_as (X := (cxOf C8.CX0 X.prog X.w X.K X.mg X.base ["_law_call", "e", "_law_kinds"] "_law_asked" (defScope sAsked) g cdg X.A X.stack s H C8.E0).nox) (i := 1) (c := .ref S)
      (tb := fun W D σ H => ∃ Ech : XK, (∀ cls d σ' H', Ech cls d H' → σ'.length = 3 → W cls d σ' H') ∧ tRet (tTp X.K (tCons (tC (.str "told")) (tCons (fun σZ HZ Q => σZ[0]? = some (some (.ref f)) ∧ HZ c' = some (LamX.CodeO c' q) ∧ tl Ech HZ Q) L2.tNil))) D σ H)
      rfl rfl scAsked.nd rfl rfl ⟨rfl, by decide, .inl T.sky⟩ takes0 (fun W pn xe tk _ => ?_) (fun a oe cls d pn hz hf => (pss_cons (ps_set (i := 2) scAsked.nd rfl (.inl rfl) (show PE (Cx.suite (cxOf C8.CX0 X.prog X.w X.K X.mg X.base ["_law_call", "e", "_law_kinds"] "_law_asked" (defScope sAsked) g cdg X.A X.stack s H C8.E0).nox a ((a, oe) :: pn)) _ (tLs X.K L2.tNil) from pe_ls pa_nil))
      (pss_cons (ps_if (pt_val (pe_callB (call_isX (X := (cxOf C8.CX0 X.prog X.w X.K X.mg X.base ["_law_call", "e", "_law_kinds"] "_law_asked" (defScope sAsked) g cdg X.A X.stack s H C8.E0).nox) (a := a) (pn := pn) T hz hf) (by rfl) Z.b_isinstance (by decide +kernel) (pa_cons (pv 1) (pa_cons (pe_glob (v := .ref (A "BadValue")) (by rfl) (T.g "BadValue" (by decide)) rfl) pa_nil)))) (pss_one (ps_expr (show PE (Cx.suite (cxOf C8.CX0 X.prog X.w X.K X.mg X.base ["_law_call", "e", "_law_kinds"] "_law_asked" (defScope sAsked) g cdg X.A X.stack s H C8.E0).nox a ((a, oe) :: pn)) _ (tBM X.K "list" rAppend (tVar 2) (tCons (tTp X.K (tCons (tC (.str "BadValue")) (tCons (tXf a cls d C "what" (tVar 1)) L2.tNil))) L2.tNil)) from pe_bm PySem.F.plainAttrs_list PySem.F.slot_list_append PySem.F.type_list_append mt_append (pv 2) (pa_cons (pe_tp (pa_cons pe_str (pa_cons (pe_xf (X := (cxOf C8.CX0 X.prog X.w X.K X.mg X.base ["_law_call", "e", "_law_kinds"] "_law_asked" (defScope sAsked) g cdg X.A X.stack s H C8.E0).nox) (a := a) (pn := pn) T.xf B.no hz hf (pv 1)) pa_nil))) pa_nil)))) pss_nil)
      (pss_cons (ps_if (pt_val (pe_callB (call_isX (X := (cxOf C8.CX0 X.prog X.w X.K X.mg X.base ["_law_call", "e", "_law_kinds"] "_law_asked" (defScope sAsked) g cdg X.A X.stack s H C8.E0).nox) (a := a) (pn := pn) T hz hf) (by rfl) Z.b_isinstance (by decide +kernel) (pa_cons (pv 1) (pa_cons (pe_glob (v := .ref (A "Mismatch")) (by rfl) (T.g "Mismatch" (by decide)) rfl) pa_nil)))) (pss_one ps_never) pss_nil)
      (pss_cons (ps_if (pt_val (pe_callB (call_isX (X := (cxOf C8.CX0 X.prog X.w X.K X.mg X.base ["_law_call", "e", "_law_kinds"] "_law_asked" (defScope sAsked) g cdg X.A X.stack s H C8.E0).nox) (a := a) (pn := pn) T hz hf) (by rfl) Z.b_isinstance (by decide +kernel) (pa_cons (pv 1) (pa_cons (pe_glob (v := .ref (A "Still")) (by rfl) (T.g "Still" (by decide)) rfl) pa_nil)))) (pss_one ps_never) pss_nil)
      (pss_cons (ps_if (pt_val (pe_callB (call_isX (X := (cxOf C8.CX0 X.prog X.w X.K X.mg X.base ["_law_call", "e", "_law_kinds"] "_law_asked" (defScope sAsked) g cdg X.A X.stack s H C8.E0).nox) (a := a) (pn := pn) T hz hf) (by rfl) Z.b_isinstance (by decide +kernel) (pa_cons (pv 1) (pa_cons (pe_glob (v := .ref (A "Endless")) (by rfl) (T.g "Endless" (by decide)) rfl) pa_nil)))) (pss_one ps_never) pss_nil)
      (pss_cons (ps_if (pt_val (pe_callB (call_isX (X := (cxOf C8.CX0 X.prog X.w X.K X.mg X.base ["_law_call", "e", "_law_kinds"] "_law_asked" (defScope sAsked) g cdg X.A X.stack s H C8.E0).nox) (a := a) (pn := pn) T hz hf) (by rfl) Z.b_isinstance (by decide +kernel) (pa_cons (pv 1) (pa_cons (pe_glob (v := .ref (A "TooMany")) (by rfl) (T.g "TooMany" (by decide)) rfl) pa_nil)))) (pss_one ps_never) pss_nil)
      (pss_cons (ps_if (pt_val (pe_callB (call_isX (X := (cxOf C8.CX0 X.prog X.w X.K X.mg X.base ["_law_call", "e", "_law_kinds"] "_law_asked" (defScope sAsked) g cdg X.A X.stack s H C8.E0).nox) (a := a) (pn := pn) T hz hf) (by rfl) Z.b_isinstance (by decide +kernel) (pa_cons (pv 1) (pa_cons (pe_glob (v := .ref (A "NoName")) (by rfl) (T.g "NoName" (by decide)) rfl) pa_nil)))) (pss_one ps_never) pss_nil)
      (pss_cons (ps_if (pt_val (pe_callB (call_isX (X := (cxOf C8.CX0 X.prog X.w X.K X.mg X.base ["_law_call", "e", "_law_kinds"] "_law_asked" (defScope sAsked) g cdg X.A X.stack s H C8.E0).nox) (a := a) (pn := pn) T hz hf) (by rfl) Z.b_isinstance (by decide +kernel) (pa_cons (pv 1) (pa_cons (pe_glob (v := .ref (A "Taken")) (by rfl) (T.g "Taken" (by decide)) rfl) pa_nil)))) (pss_one ps_never) pss_nil)
      (pss_cons (ps_if (pt_val (pe_callB (call_isX (X := (cxOf C8.CX0 X.prog X.w X.K X.mg X.base ["_law_call", "e", "_law_kinds"] "_law_asked" (defScope sAsked) g cdg X.A X.stack s H C8.E0).nox) (a := a) (pn := pn) T hz hf) (by rfl) Z.b_isinstance (by decide +kernel) (pa_cons (pv 1) (pa_cons (pe_glob (v := .ref (A "Locked")) (by rfl) (T.g "Locked" (by decide)) rfl) pa_nil)))) (pss_one ps_never) pss_nil)
      (pss_cons (ps_if (pt_val (pe_callB (call_isX (X := (cxOf C8.CX0 X.prog X.w X.K X.mg X.base ["_law_call", "e", "_law_kinds"] "_law_asked" (defScope sAsked) g cdg X.A X.stack s H C8.E0).nox) (a := a) (pn := pn) T hz hf) (by rfl) Z.b_isinstance (by decide +kernel) (pa_cons (pv 1) (pa_cons (pe_glob (v := .ref (A "Looped")) (by rfl) (T.g "Looped" (by decide)) rfl) pa_nil)))) (pss_one ps_never) pss_nil)
      (pss_cons (ps_if (pt_val (pe_callB (call_isX (X := (cxOf C8.CX0 X.prog X.w X.K X.mg X.base ["_law_call", "e", "_law_kinds"] "_law_asked" (defScope sAsked) g cdg X.A X.stack s H C8.E0).nox) (a := a) (pn := pn) T hz hf) (by rfl) Z.b_isinstance (by decide +kernel) (pa_cons (pv 1) (pa_cons (pe_glob (v := .ref (A "Broken")) (by rfl) (T.g "Broken" (by decide)) rfl) pa_nil)))) (pss_one ps_never) pss_nil)
      (pss_cons (ps_if (pt_val (pe_callB (call_isX (X := (cxOf C8.CX0 X.prog X.w X.K X.mg X.base ["_law_call", "e", "_law_kinds"] "_law_asked" (defScope sAsked) g cdg X.A X.stack s H C8.E0).nox) (a := a) (pn := pn) T hz hf) (by rfl) Z.b_isinstance (by decide +kernel) (pa_cons (pv 1) (pa_cons (pe_glob (v := .ref (A "ReadError")) (by rfl) (T.g "ReadError" (by decide)) rfl) pa_nil)))) (pss_one ps_never) pss_nil)
      (pss_cons (ps_if (PW.pt (pw_or (pt_cmpR op_ne (pe_callB (show CallR (Cx.suite (cxOf C8.CX0 X.prog X.w X.K X.mg X.base ["_law_call", "e", "_law_kinds"] "_law_asked" (defScope sAsked) g cdg X.A X.stack s H C8.E0).nox a ((a, oe) :: pn)) (.builtin "len") (rLenA X.K) from call_lenA) (by rfl) Z.b_len PySem.boot_len (pa_cons (pv 2) pa_nil)) pe_int (nomark _)) (pw_or1 (pt_not (pt_val (pe_callB (call_isX (X := (cxOf C8.CX0 X.prog X.w X.K X.mg X.base ["_law_call", "e", "_law_kinds"] "_law_asked" (defScope sAsked) g cdg X.A X.stack s H C8.E0).nox) (a := a) (pn := pn) T hz hf) (by rfl) Z.b_isinstance (by decide +kernel) (pa_cons (pv 1) (pa_cons (pe_bltn (v := .ty "ValueError") (by rfl) T.b_VE (by decide +kernel) rfl) pa_nil)))))))) (pss_one ps_never) pss_nil)
      (pss_one (ps_ret (pe_ix (show IxR (Cx.suite (cxOf C8.CX0 X.prog X.w X.K X.mg X.base ["_law_call", "e", "_law_kinds"] "_law_asked" (defScope sAsked) g cdg X.A X.stack s H C8.E0).nox a ((a, oe) :: pn)) (rIxA X.K) from ix_any) (pv 2) pe_int (fun _ _ => rfl))))))))))))))))))), ?_⟩
  · refine ⟨fun pins s' σ H' D I h' => ?_⟩
    obtain ⟨Ech, hW, h2⟩ := h'
    exact (pss_one (ps_ret (pe_tp (pa_cons pe_str (pa_cons (act _ pn xe Ech _ _ (takes_len tk) (fun cls d σ' H' e l => hW cls d σ' H' e l)) pa_nil))))).run pins s' σ H' D I h2
  · refine ⟨fun cls d H' => cls = .ref C ∧ ∃ dd y, d = some dd ∧ H' dd = some (.xd [("what", y)]) ∧ ∀ p H'', Same H' H'' → ob X.K H'' p = some (.tup [.str "BadValue", y]) → Q (.ref p) H'', fun cls d σ' H' e l => ?_, rfl, hc, h⟩
    obtain ⟨rfl, dd, y, rfl, hd, k⟩ := e
    obtain ⟨x0, x1, x2, rfl⟩ : ∃ x0 x1 x2, σ' = [x0, x1, x2] := by
      match σ', l with
      | [x0, x1, x2], _ => exact ⟨x0, x1, x2, rfl⟩
    refine ⟨true, T.exm, fun _ a ha => ?_, fun z => nomatch z⟩
    refine ⟨Nat.zero_le _, fun l hl kl => ?_⟩
    have nl : dd ≠ l := ne_of_none hd hl
    have hd1 : upd H' l (.lst []) dd = some (.xd [("what", y)]) := by rw [upd_ne nl]; exact hd
    refine ⟨_, rfl, .ref (A "BadValue"), rfl, rfl, dd, rfl, ⟨_, hd1⟩, true, (T.k "BadValue" (by decide)).trans rfl, true, rfl, iteT ?_⟩
    refine ⟨_, rfl, .inl ⟨rfl, _, .of upd_same⟩, _, rfl, rfl, rfl, dd, _, y, rfl, hd1, rfl, by rw [sizeLine_eq]; show 2 ≤ 16777216; decide, fun p hp kp => ?_⟩
    have npl : p ≠ l := by rintro rfl; rw [upd_same] at hp; cases hp
    have npd : dd ≠ p := ne_of_none hd1 hp
    refine ⟨l, [], .ref p, rfl, rfl, by rw [upd_ne (Ne.symm npl), upd_same], by rw [sizeLine_eq]; decide, ?_⟩
    have hp0 : H' p = none := by rw [upd_ne npl] at hp; exact hp
    have hd3 : upd (upd (upd H' l (.lst [])) p (.tup [.str "BadValue", y])) l (.lst ([] ++ [.ref p])) dd = some (.xd [("what", y)]) := by rw [upd_ne nl, upd_ne npd]; exact hd1
    have s3 : Same H' (upd (upd (upd H' l (.lst [])) p (.tup [.str "BadValue", y])) l (.lst ([] ++ [.ref p]))) := fun b o e => by
      rw [upd_ne (ne_of_none e hl), upd_ne (ne_of_none e hp0), upd_ne (ne_of_none e hl)]
      exact e
    have ol : ob X.K (upd (upd (upd H' l (.lst [])) p (.tup [.str "BadValue", y])) l (.lst ([] ++ [.ref p]))) l = some (.lst [.ref p]) := ob_new kl
    have op : ob X.K (upd (upd (upd H' l (.lst [])) p (.tup [.str "BadValue", y])) l (.lst ([] ++ [.ref p]))) p = some (.tup [.str "BadValue", y]) := by rw [ob_none kp, upd_ne npl, upd_same]
    generalize upd (upd (upd H' l (.lst [])) p (.tup [.str "BadValue", y])) l (.lst ([] ++ [.ref p])) = H3 at hd3 s3 ol op ⊢
    refine ⟨_, rfl, .ref (A "Mismatch"), rfl, rfl, dd, rfl, ⟨_, hd3⟩, false, (T.k "Mismatch" (by decide)).trans rfl, false, rfl, iteF ?_⟩
    refine ⟨_, rfl, .ref (A "Still"), rfl, rfl, dd, rfl, ⟨_, hd3⟩, false, (T.k "Still" (by decide)).trans rfl, false, rfl, iteF ?_⟩
    refine ⟨_, rfl, .ref (A "Endless"), rfl, rfl, dd, rfl, ⟨_, hd3⟩, false, (T.k "Endless" (by decide)).trans rfl, false, rfl, iteF ?_⟩
    refine ⟨_, rfl, .ref (A "TooMany"), rfl, rfl, dd, rfl, ⟨_, hd3⟩, false, (T.k "TooMany" (by decide)).trans rfl, false, rfl, iteF ?_⟩
    refine ⟨_, rfl, .ref (A "NoName"), rfl, rfl, dd, rfl, ⟨_, hd3⟩, false, (T.k "NoName" (by decide)).trans rfl, false, rfl, iteF ?_⟩
    refine ⟨_, rfl, .ref (A "Taken"), rfl, rfl, dd, rfl, ⟨_, hd3⟩, false, (T.k "Taken" (by decide)).trans rfl, false, rfl, iteF ?_⟩
    refine ⟨_, rfl, .ref (A "Locked"), rfl, rfl, dd, rfl, ⟨_, hd3⟩, false, (T.k "Locked" (by decide)).trans rfl, false, rfl, iteF ?_⟩
    refine ⟨_, rfl, .ref (A "Looped"), rfl, rfl, dd, rfl, ⟨_, hd3⟩, false, (T.k "Looped" (by decide)).trans rfl, false, rfl, iteF ?_⟩
    refine ⟨_, rfl, .ref (A "Broken"), rfl, rfl, dd, rfl, ⟨_, hd3⟩, false, (T.k "Broken" (by decide)).trans rfl, false, rfl, iteF ?_⟩
    refine ⟨_, rfl, .ref (A "ReadError"), rfl, rfl, dd, rfl, ⟨_, hd3⟩, false, (T.k "ReadError" (by decide)).trans rfl, false, rfl, iteF ?_⟩
    refine ⟨_, rfl, l, rfl, _, (by rw [ol]; rfl), rfl, false, rfl, iteF ?_⟩
    refine ⟨_, rfl, .ty "ValueError", rfl, rfl, dd, rfl, ⟨_, hd3⟩, true, T.ve, true, rfl, iteF ?_⟩
    exact ⟨_, rfl, l, 0, rfl, rfl, [.ref p], (by rw [ol]; rfl), .ref p, rfl, k p H3 s3 op⟩
end My

namespace My
open PySem PySem.Spec PyProof.Rows L2
section
variable {P : Program} {w : World} {K : PySem.W.Frag} {mg : Str → Option Value} {base : Heap}
def BadVL (K : PySem.W.Frag) (H : Hp) (v : V) : Prop := (∃ t, tyN K H v = some t ∧ t ≠ "list") ∨ ∃ (a : Addr) (xs : List V), v = .ref a ∧ ob K H a = some (.lst xs) ∧ ((xs.length = 0 ∨ 12 < xs.length) ∨ (1 ≤ xs.length ∧ xs.length ≤ 12 ∧ (∀ x ∈ xs, RFq K 134 H x ∨ Gd K H x) ∧ ∃ x ∈ xs, Gd K H x))
theorem ap_vlB {H : Hp} {Q : VK} {v : V} (hb : BadVL K H v) (k : ∀ H', Same H H' → Q (.bl false) H') : VlA K H v Q := by
  rcases hb with ⟨t, ht, nt⟩ | ⟨a, xs, rfl, o, hx⟩
  · exact .inl ⟨t, ht, nt, k H (Same.refl H)⟩
  · refine .inr ⟨a, xs, rfl, o, ?_⟩
    rcases hx with hx | ⟨l1, l2, ty, x, hx, nf⟩
    · exact .inl ⟨hx, k H (Same.refl H)⟩
    · refine .inr ⟨l1, l2, fun x hx => (ty x hx).elim (fun ⟨a, q, e, f⟩ => by rw [e]; exact Tyd.fr f.o) Gd.ty, fun H' s => ?_⟩
      rw [show xs.all (frOk K H) = false from List.all_eq_false.mpr ⟨x, hx, by rw [nf.no]; exact Bool.noConfusion⟩]
      exact k H' s
def spVX (K : PySem.W.Frag) (C : Addr) : Sp := fun vs H _ E => ∃ v, vs = [v] ∧ BadVL K H v ∧ Bv K C H E (.str "values")
def spVX2 (K : PySem.W.Frag) (C : Addr) : Sp := fun vs H _ E => ∃ v u, vs = [v, u] ∧ BadVL K H v ∧ Bv K C H E (.str "values")
abbrev sIMP : Stmt := topS 27
theorem scIMP : FnScope ["values", "paper", "measure", "weights"] ["values", "paper"] (defScope sIMP) := ⟨rfl, rfl, rfl, by decide +kernel, rfl, by decide +kernel, by decide +kernel⟩
theorem kx_CM {C : Addr} (B : BvT K mg C) (D : Dfn K mg "common_measure" sCM ["values"]) (d_x : KnX P w K mg base 3 "require" ["well_formed", "what"] (spRequireX K C)) (d__is_value_list : Kn P w K mg base 3 "_is_value_list" ["values"] (spVl K)) : KnX P w K mg base 4 "common_measure" ["values"] (spVX K C) := by
  refine KnX.mk' D scCM (fun vs H Q E h => ?_) (fun f cdv A outer s H vs Q E hr h => ?_)
  · obtain ⟨v, rfl, _⟩ := h
    rfl
  obtain ⟨v, rfl, hb, k⟩ := h
  refine ⟨_, (pss_cons (ps_expr (pe_knX E d_x hr (by rfl) (takes_of rfl rfl rfl rfl) (fun _ _ _ _ h => h) (pa_cons (pe_kn d__is_value_list hr (by rfl) (pa_cons (pv 0) pa_nil)) (pa_cons pe_str pa_nil)))) (pss_cons ps_never (pss_cons ps_never (pss_cons ps_never (pss_one ps_never))))), ?_⟩
  exact ⟨_, rfl, _, rfl, ap_vlB hb fun H1 s1 => ⟨_, rfl, fun d H' s2 hd => k d H' (s1.trans s2) hd⟩⟩
theorem kx_MP {C : Addr} (B : BvT K mg C) (D : Dfn K mg "measure_paper" sMP ["values"]) (d_x : KnX P w K mg base 3 "require" ["well_formed", "what"] (spRequireX K C)) (d__is_value_list : Kn P w K mg base 3 "_is_value_list" ["values"] (spVl K)) : KnX P w K mg base 4 "measure_paper" ["values"] (spVX K C) := by
  refine KnX.mk' D scMP (fun vs H Q E h => ?_) (fun f cdv A outer s H vs Q E hr h => ?_)
  · obtain ⟨v, rfl, _⟩ := h
    rfl
  obtain ⟨v, rfl, hb, k⟩ := h
  refine ⟨_, (pss_cons (ps_expr (pe_knX E d_x hr (by rfl) (takes_of rfl rfl rfl rfl) (fun _ _ _ _ h => h) (pa_cons (pe_kn d__is_value_list hr (by rfl) (pa_cons (pv 0) pa_nil)) (pa_cons pe_str pa_nil)))) (pss_cons ps_never (pss_cons ps_never (pss_cons ps_never (pss_one ps_never))))), ?_⟩
  exact ⟨_, rfl, _, rfl, ap_vlB hb fun H1 s1 => ⟨_, rfl, fun d H' s2 hd => k d H' (s1.trans s2) hd⟩⟩
theorem kx_IMP {C : Addr} (B : BvT K mg C) (D : Dfn K mg "is_measure_paper" sIMP ["values", "paper"]) (d_x : KnX P w K mg base 3 "require" ["well_formed", "what"] (spRequireX K C)) (d__is_value_list : Kn P w K mg base 3 "_is_value_list" ["values"] (spVl K)) : KnX P w K mg base 4 "is_measure_paper" ["values", "paper"] (spVX2 K C) := by
  refine KnX.mk' D scIMP (fun vs H Q E h => ?_) (fun f cdv A outer s H vs Q E hr h => ?_)
  · obtain ⟨v, u, rfl, _⟩ := h
    rfl
  obtain ⟨v, u, rfl, hb, k⟩ := h
  refine ⟨_, (pss_cons (ps_expr (pe_knX E d_x hr (by rfl) (takes_of rfl rfl rfl rfl) (fun _ _ _ _ h => h) (pa_cons (pe_kn d__is_value_list hr (by rfl) (pa_cons (pv 0) pa_nil)) (pa_cons pe_str pa_nil)))) (pss_cons ps_never (pss_cons ps_never (pss_cons ps_never (pss_cons ps_never (pss_one ps_never)))))), ?_⟩
  exact ⟨_, rfl, _, rfl, ap_vlB hb fun H1 s1 => ⟨_, rfl, fun d H' s2 hd => k d H' (s1.trans s2) hd⟩⟩
end
end My

namespace My
open PySem PySem.Spec PyProof.Rows L2
section
variable {P : Program} {w : World} {K : PySem.W.Frag} {mg : Str → Option Value} {base : Heap}
/-! ### the tables, while the draws go on -/
theorem tabs_kp {T : List (Addr × Str)} {H H' : Hp} {s : Addr} {ys : List V} (e : Kp s H H') (hs : H s = some (.lst ys)) (t : LamX.Tabs T H) : LamX.Tabs T H' := fun p hp => by
  obtain ⟨ps, h1, h2, h3⟩ := t p hp
  refine ⟨ps, e _ _ (by rintro z; rw [z, hs] at h1; cases h1) h1, h2, fun pos cv hc => ?_⟩
  obtain ⟨c, e1, e2⟩ := h3 pos cv hc
  exact ⟨c, e1, e _ _ (by rintro z; rw [z, hs] at e2; unfold LamX.CodeO at e2; cases e2) e2⟩
theorem tabs_same {T : List (Addr × Str)} {H H' : Hp} (e : Same H H') (t : LamX.Tabs T H) : LamX.Tabs T H' := t.ext e
/-- all but the store and the tables stands -/
def Bg (s : Addr) (H H' : Hp) : Prop := ∀ b o, b ≠ s → (∀ ps, o ≠ .tbl ps) → H b = some o → H' b = some o
theorem Bg.refl (s : Addr) (H : Hp) : Bg s H H := fun _ _ _ _ h => h
theorem Bg.trans {s : Addr} {H H1 H2 : Hp} (a : Bg s H H1) (b : Bg s H1 H2) : Bg s H H2 := fun c o n m h => b c o n m (a c o n m h)
theorem Bg.kp {s : Addr} {H H1 : Hp} (a : Kp s H H1) : Bg s H H1 := fun c o n _ h => a c o n h
theorem Bg.same {s : Addr} {H H1 : Hp} (a : Same H H1) : Bg s H H1 := fun c o _ _ h => a c o h
theorem Bg.ext {s : Addr} {H H1 : Hp} (a : LamX.ExtN H H1) : Bg s H H1 := fun c o _ m h => a c o h m
theorem ob_bg {H H' : Hp} {s a : Addr} {ys xs : List V} (e : Bg s H H') (hs : H s = some (.lst ys)) (h : ob K H a = some (.tup xs)) : ob K H' a = some (.tup xs) := by
  unfold ob at h ⊢
  split
  · rename_i o q
    rw [q] at h
    exact h
  · rename_i q
    rw [q] at h
    exact e _ _ (by rintro rfl; rw [hs] at h; cases h) (fun ps z => by cases z) h
theorem Fq.bg {H H' : Hp} {s a : Addr} {n : Nat} {ys : List V} {q : Qt} (h : Fq K H n a q) (e : Bg s H H') (hs : H s = some (.lst ys)) : Fq K H' n a q := ⟨ob_bg e hs h.o, h.nf, h.sz⟩
theorem Sto.ext {H H' : Hp} {s : Addr} (h : Sto K H s) (e : LamX.ExtN H H') : Sto K H' s := by
  obtain ⟨sc, ns, i, b, c, d, x, f, h1, h2, h3⟩ := h
  exact ⟨sc, ns, i, b, c, d, x, f, e _ _ h1 (fun ps z => by cases z), e _ _ h2 (fun ps z => by cases z), h3⟩
theorem ob_ext {H H' : Hp} {a : Addr} {z : HO} (e : LamX.ExtN H H') (n : ∀ ps, z ≠ .tbl ps) (h : ob K H a = some z) : ob K H' a = some z := by
  unfold ob at h ⊢
  split
  · rename_i o q
    rw [q] at h
    exact h
  · rename_i q
    rw [q] at h
    exact e _ _ h n
theorem tyO_ntbl {z : HO} (h : (tyO (some z)).isSome) : ∀ ps, z ≠ .tbl ps := fun ps e => by subst e; cases h
theorem tyS_ext {H H' : Hp} {v : V} (e : LamX.ExtN H H') (h : (tyN K H v).isSome) : (tyN K H' v).isSome := by
  cases v with
  | ref a =>
    cases hz : ob K H a with
    | none => rw [tyN_ref, hz] at h; cases h
    | some z =>
      rw [tyN_ref, hz] at h
      rw [tyN_ref, ob_ext e (tyO_ntbl h) hz]
      exact h
  | _ => exact h
theorem Gd.ext {H H' : Hp} {v : V} (e : LamX.ExtN H H') (h : Gd K H v) : Gd K H' v := by
  cases v with
  | ref a =>
    cases hz : ob K H a with
    | none =>
      have := h.ty.1
      rw [tyN_ref, hz] at this
      cases this
    | some z =>
      have nz : ∀ ps, z ≠ .tbl ps := tyO_ntbl (by have := h.ty.1; rw [tyN_ref, hz] at this; exact this)
      have hz' := ob_ext e nz hz
      refine ⟨⟨tyS_ext e h.ty.1, fun b xs ev o x hx => ?_⟩, ?_⟩
      · cases ev
        rw [hz'] at o
        exact tyS_ext e (h.ty.2 a xs rfl (hz.trans o) x hx)
      · have e2 : frOk K H' (.ref a) = frOk K H (.ref a) := by simp only [frOk, hz, hz']
        rw [e2]
        exact h.no
  | _ => exact ⟨⟨h.ty.1, fun _ _ e => by cases e⟩, h.no⟩
structure LawS (K : PySem.W.Frag) (T : List (Addr × Str)) (H : Hp) (s : Addr) : Prop where
  st : Sto K H s
  tb : LamX.Tabs T H
theorem LawS.same {T : List (Addr × Str)} {H H' : Hp} {s : Addr} (h : LawS K T H s) (e : Same H H') : LawS K T H' s := ⟨h.st.same e, tabs_same e h.tb⟩
theorem LawS.kp {T : List (Addr × Str)} {H H' : Hp} {s : Addr} (h : LawS K T H s) (e : Kp s H H') (st : Sto K H' s) : LawS K T H' s := by
  obtain ⟨ys, hy⟩ := h.st.at
  exact ⟨st, tabs_kp e hy h.tb⟩
end
/-! ### a captured name that holds one of the four -/
def tCallX (i : Nat) (S : Addr → Prop) (sp : Sp) (E : XK) (t : TA) : TE := fun σ H Q => ∃ f, σ[i]? = some (some (.ref f)) ∧ S f ∧ t σ H fun vs H1 => sp (vs ++ []) H1 Q E
section
variable {X : Cx}
theorem pe_callX {k i : Nat} {S : Addr → Prop} {sp : Sp} {x : Str} {p pos : Pos} {e : Expr} {es : List Expr} {t : TA} {W : WX} (E : XK) (A : ∀ f, S f → ∃ fd ps, FnOk X.prog X.w X.K X.mg X.base (L2.CX X.prog X.w) k f fd ps sp ∧ PySem.W.keepIn X.K (.ref f) = true ∧ Binds X.K fd ps []) (hr : Room k X.A) (hN : X.N[i]? = some x) (hv : Vis X.env.scope x)
    (tk : Takes X W) (hW : ∀ cls d σ H, E cls d H → W cls d σ H) (ha : PA X (e :: es) t) (hdb : (x == ("__debug__" : Str)) = false := by decide) (hcd : (x == ("__classdict__" : Str)) = false := by decide)
    (he : starEach (e :: es) X.env = (false, eval e X.env) :: starEach es X.env := by rfl) (hpl : (backTo pos (starEach es X.env)).any (·.1) = false := by rfl) : PE X (.Call (.Name x p) (e :: es) [] pos) (tCallX i S sp E t) := ⟨fun pins s σ H Q I h => by
  obtain ⟨f, hs, hS, ht⟩ := h
  obtain ⟨fd, ps, F, hk, hb⟩ := A f hS
  exact (pe_callL (i := i) (f := f) (sp := sp) (dvs := []) (E := E) F hr hN hv hk hb .nil (passes_call tk hW) ha hdb hcd he hpl).run pins s σ H Q I ⟨hs, ht⟩⟩
end
section
variable {P : Program} {w : World} {K : PySem.W.Frag} {mg : Str → Option Value} {base : Heap}
theorem tyN_ext {H H' : Hp} {v : V} {t : String} (e : LamX.ExtN H H') (h : tyN K H v = some t) : tyN K H' v = some t := by
  cases v with
  | ref a =>
    have h1 : tyO (ob K H a) = some t := h
    show tyO (ob K H' a) = some t
    cases hz : ob K H a with
    | none => rw [hz] at h1; cases h1
    | some z =>
      rw [hz] at h1
      rw [ob_ext e (fun ps ez => by rw [ez] at h1; cases h1) hz]
      exact h1
  | _ => exact h
theorem tyN_kp {H H' : Hp} {s : Addr} {v : V} {t : String} (e : Kp s H H') (n : v ≠ .ref s) (h : tyN K H v = some t) : tyN K H' v = some t := by
  cases v with
  | ref a =>
    have h1 : tyO (ob K H a) = some t := h
    show tyO (ob K H' a) = some t
    cases hz : ob K H a with
    | none => rw [hz] at h1; cases h1
    | some z =>
      rw [hz] at h1
      rw [ob_kp2 e (fun ea => n (by rw [ea])) hz]
      exact h1
  | _ => exact h
theorem Fq.ext {H H' : Hp} {n : Nat} {a : Addr} {q : Qt} (h : Fq K H n a q) (e : LamX.ExtN H H') : Fq K H' n a q := ⟨ob_ext e (fun ps z => by cases z) h.o, h.nf, h.sz⟩
theorem AF.ext {H H' : Hp} {n : Nat} {xs : List V} {qs : List Qt} (h : AF K H n xs qs) (e : LamX.ExtN H H') : AF K H' n xs qs := ⟨h.1, fun i x q hx hq => by
  obtain ⟨a, e', f⟩ := h.2 i x q hx hq
  exact ⟨a, e', f.ext e⟩⟩
/-- no list of fractions, and not the store -/
def BadR (K : PySem.W.Frag) (s : Addr) (H : Hp) (v : V) : Prop := BadVL K H v ∧ v ≠ .ref s
theorem BadR.same {s : Addr} {H H' : Hp} {v : V} (h : BadR K s H v) (e : Same H H') : BadR K s H' v := by
  refine ⟨?_, h.2⟩
  rcases h.1 with ⟨t, ht, nt⟩ | ⟨a, xs, rfl, o, hx⟩
  · exact .inl ⟨t, tyN_same e ht, nt⟩
  · exact .inr ⟨a, xs, rfl, ob_same e o, hx.imp id fun ⟨l1, l2, ty, x, hm, g⟩ => ⟨l1, l2, fun y hy => (ty y hy).imp (fun ⟨a, q, z, f⟩ => ⟨a, q, z, f.same e⟩) fun g => g.same e, x, hm, g.same e⟩⟩
theorem BadR.ext {s : Addr} {H H' : Hp} {v : V} (h : BadR K s H v) (e : LamX.ExtN H H') : BadR K s H' v := by
  refine ⟨?_, h.2⟩
  rcases h.1 with ⟨t, ht, nt⟩ | ⟨a, xs, rfl, o, hx⟩
  · exact .inl ⟨t, tyN_ext e ht, nt⟩
  · exact .inr ⟨a, xs, rfl, ob_ext e (fun ps z => by cases z) o, hx.imp id fun ⟨l1, l2, ty, x, hm, g⟩ => ⟨l1, l2, fun y hy => (ty y hy).imp (fun ⟨a, q, z, f⟩ => ⟨a, q, z, f.ext e⟩) fun g => g.ext e, x, hm, g.ext e⟩⟩
theorem BadR.kp {s : Addr} {H H' : Hp} {v : V} (h : BadR K s H v) (e : Kp s H H') (st0 : Sto K H s) (st : Sto K H' s) : BadR K s H' v := by
  refine ⟨?_, h.2⟩
  obtain ⟨ys, hys⟩ := st0.at
  rcases h.1 with ⟨t, ht, nt⟩ | ⟨a, xs, rfl, o, hx⟩
  · exact .inl ⟨t, tyN_kp e h.2 ht, nt⟩
  · exact .inr ⟨a, xs, rfl, ob_kp2 e (fun ea => h.2 (by rw [ea])) o, hx.imp id fun ⟨l1, l2, ty, x, hm, g⟩ => ⟨l1, l2, fun y hy => (ty y hy).imp (fun ⟨a, q, z, f⟩ => ⟨a, q, z, f.kp e hys⟩) fun g => g.kp e st, x, hm, g.kp e st⟩⟩
/-- the store, the tables, the drawn values, the wrong ones -/
structure RV (K : PySem.W.Frag) (T : List (Addr × Str)) (s a w : Addr) (xs ws : List V) (qs : List Qt) (H : Hp) : Prop where
  ls : LawS K T H s
  ha : H a = some (.lst xs)
  af : AF K H 134 xs qs
  hw : H w = some (.lst ws)
  bd : ∀ v ∈ ws, BadR K s H v
theorem RV.same {T : List (Addr × Str)} {H H' : Hp} {s a w : Addr} {xs ws : List V} {qs : List Qt} (h : RV K T s a w xs ws qs H) (e : Same H H') : RV K T s a w xs ws qs H' := ⟨h.ls.same e, e _ _ h.ha, h.af.same e, e _ _ h.hw, fun v hv => (h.bd v hv).same e⟩
theorem RV.ext {T : List (Addr × Str)} {H H' : Hp} {s a w : Addr} {xs ws : List V} {qs : List Qt} (h : RV K T s a w xs ws qs H) (e : LamX.ExtN H H') (t : LamX.Tabs T H') : RV K T s a w xs ws qs H' := ⟨⟨h.ls.st.ext e, t⟩, e _ _ h.ha (fun ps z => by cases z), h.af.ext e, e _ _ h.hw (fun ps z => by cases z), fun v hv => (h.bd v hv).ext e⟩
theorem RV.kp {T : List (Addr × Str)} {H H' : Hp} {s a w : Addr} {xs ws : List V} {qs : List Qt} (h : RV K T s a w xs ws qs H) (na : a ≠ s) (nw : w ≠ s) (e : Kp s H H') (st : Sto K H' s) : RV K T s a w xs ws qs H' := by
  obtain ⟨ys, hys⟩ := h.ls.st.at
  exact ⟨h.ls.kp e st, e _ _ na h.ha, h.af.kp e hys, e _ _ nw h.hw, fun v hv => (h.bd v hv).kp e h.ls.st st⟩
abbrev sRefuses : Stmt := topS 57
theorem scRefuses : FnScope ["_law_store_here", "_law_values_here", "_law_wrong", "_law_call", "_law_paper", "_law_row"] ["_law_store_here", "_law_values_here"] (defScope sRefuses) := ⟨rfl, rfl, rfl, by decide +kernel, rfl, by decide +kernel, by decide +kernel⟩
def qLam : Str := ("_law_refuses" ++ ".<locals>.") ++ "<lambda>"
structure AskD (K : PySem.W.Frag) (mg : Str → Option Value) (g : Addr) (oc : Value) (od : Option Addr) (dV kV doc pm : Value) (an : Option Addr) (cdv ct : Value) (osl : Array (Option Value)) : Prop where
  m : mg "_law_asked" = some (.ref g)
  kp : PySem.W.keepIn K (.ref g) = true
  lk : K.lookup g = some ⟨oc, od, .func (PySem.W.fnOf "_law_asked" "_law_asked" (defArgs sAsked) (defBody sAsked) (defScope sAsked) dV kV doc pm an cdv ct), osl⟩
  cd : PySem.W.codeIn K cdv "_law_asked" = true
  b : Binds K (PySem.W.fnOf "_law_asked" "_law_asked" (defArgs sAsked) (defBody sAsked) (defScope sAsked) dV kV doc pm an cdv ct) ["_law_call"] []
def isTwo (mg : Str → Option Value) (f : Addr) : Prop := ∃ n ∈ (["common_measure", "measure_paper"] : List Str), mg n = some (.ref f)
def spRefuses (K : PySem.W.Frag) (Pt : Addr) : Sp := fun vs H Q _ => ∃ (sr a : Addr) (xs : List V) (qs : List Qt), vs = [.ref sr, .ref a] ∧ LawS K [(Pt, qLam)] H sr ∧ H a = some (.lst xs) ∧ K.lookup a = none ∧ a ≠ sr ∧ AF K H 134 xs qs ∧ 1 ≤ xs.length ∧ xs.length ≤ 12 ∧ ∀ H', Bg sr H H' → LawS K [(Pt, qLam)] H' sr → Q (.bl true) H'
def OuI (K : PySem.W.Frag) (Pt sr a w : Addr) (xs ws : List V) (qs : List Qt) (H : Hp) (_ : Nat) (σ : L2.St) (H' : Hp) : Prop := ∃ (x3 x4 x5 : Option V), σ = [some (.ref sr), some (.ref a), some (.ref w), x3, x4, x5] ∧ RV K [(Pt, qLam)] sr a w xs ws qs H' ∧ Bg sr H H'
def InI (K : PySem.W.Frag) (Pt sr a w l : Addr) (xs ws fs : List V) (qs : List Qt) (row : V) (x4 : Option V) (H : Hp) (_ : Nat) (σ : L2.St) (H' : Hp) : Prop := ∃ (x3 : Option V), σ = [some (.ref sr), some (.ref a), some (.ref w), x3, x4, some row] ∧ RV K [(Pt, qLam)] sr a w xs ws qs H' ∧ Bg sr H H' ∧ H' l = some (.lst fs)
theorem ok_refuses {CB S fa g c Pt f1 f2 : Addr} {A : String → Addr} {oc dV kV doc pm cdv ct oc' dV' kV' doc' pm' ct' : Value} {od an od' an' : Option Addr} {osl osl' : Array (Option Value)} (T : Bt K mg) (B : BvT K mg CB) (AT : AskT K mg CB S A) (AS : AskD K mg g oc od dV kV doc pm an cdv ct osl)
    (lkR : K.lookup fa = some ⟨oc', od', .func (PySem.W.fnOf "_law_refuses" "_law_refuses" (defArgs sRefuses) (defBody sRefuses) (defScope sRefuses) dV' kV' doc' pm' an' (.ref c) ct'), osl'⟩) (cdR : PySem.W.codeIn K (.ref c) "_law_refuses" = true) (TB : LamX.TabB base mg c Pt)
    (m1 : mg "common_measure" = some (.ref f1)) (m2 : mg "measure_paper" = some (.ref f2)) (HX : ∀ f, isTwo mg f → ∃ fd ps, FnOk P w K mg base (L2.CX P w) 4 f fd ps (spVX K CB) ∧ PySem.W.keepIn K (.ref f) = true ∧ Binds K fd ps [])
    (IX2 : KnX P w K mg base 4 "is_measure_paper" ["values", "paper"] (spVX2 K CB))
    (d__law_with : Kn P w K mg base 3 "_law_with" ["_law_store_here", "_law_row", "_law_item"] (spWith K)) (d__law_bad_frac : Kn P w K mg base 4 "_law_bad_frac" ["_law_store_here"] (spBadFrac K)) (d__law_wrong_length : Kn P w K mg base 3 "_law_wrong_length" ["_law_store_here", "_law_row", "_law_low", "_law_high"] (spWL K)) (d__law_bad_list : Kn P w K mg base 4 "_law_bad_list" ["_law_store_here", "_law_row"] (spBL K)) (d__law_same : Kn P w K mg base 4 "_law_same" ["_law_told", "_law_due"] (spSame K 3)) (d__law_pick : Kn P w K mg base 3 "_law_pick" ["_law_store_here", "_law_row"] (spPick K)) (d_measure_paper : Kn P w K mg base 5 "measure_paper" ["values"] (spMP K)) (d__law_frac : Kn P w K mg base 3 "_law_frac" ["_law_store_here"] (spDFrac K 10)) : FnOk P w K mg base CX0 8 fa (PySem.W.fnOf "_law_refuses" "_law_refuses" (defArgs sRefuses) (defBody sRefuses) (defScope sRefuses) dV' kV' doc' pm' an' (.ref c) ct') ["_law_store_here", "_law_values_here"] (spRefuses K Pt) := by
  refine fn_of lkR cdR scRefuses (fun vs H Q E h => ?_) fun A outer s H vs Q E hr h => ?_
  · obtain ⟨sr, a, xs, qs, rfl, _⟩ := h
    rfl
  obtain ⟨sr, a, xs, qs, rfl, LS0, ha, ka, na, af, l1, l12, k⟩ := h
  refine ⟨_, PSs.nox (pss_cons (ps_set (i := 2) scRefuses.nd rfl (.inl rfl) (pe_ls (pa_cons (pe_kn d__law_with hr (by rfl) (pa_cons (pv 0) (pa_cons (pv 1) (pa_cons (pe_kn d__law_bad_frac hr (by rfl) (pa_cons (pv 0) pa_nil)) pa_nil)))) (pa_cons (pe_kn d__law_wrong_length hr (by rfl) (pa_cons (pv 0) (pa_cons (pv 1) (pa_cons pe_int (pa_cons pe_int pa_nil))))) (pa_cons (pe_kn d__law_bad_list hr (by rfl) (pa_cons (pv 0) (pa_cons (pv 1) pa_nil))) (pa_cons (pe_ls pa_nil) pa_nil))))))
      (pss_cons (ps_for PassesOwn.never rfl (pi_list (pv 2)) (pg_name (i := 5) scRefuses.nd rfl (.inr rfl)) (pss_cons (ps_for PassesOwn.never rfl (pi_list (pe_ls (pa_cons (pe_glob (v := .ref f1) (by rfl) m1 rfl) (pa_cons (pe_glob (v := .ref f2) (by rfl) m2 rfl) pa_nil)))) (pg_name (i := 3) scRefuses.nd rfl (.inr rfl)) (pss_one (ps_if (pt_not (pt_val (pe_kn d__law_same hr (by rfl) (pa_cons (LamX.pe_lamcall (T := [(Pt, qLam)]) (TT := TAsk K CB) (t := fun E => tCallX 3 (isTwo mg) (spVX K CB) E (tCons (tVar 5) L2.tNil)) (by rfl) AS.m AS.kp AS.lk AS.cd AS.b scAsked rfl (.inl rfl) (asked_gives T B AT) TB rfl (List.mem_cons_self ..) (fun p hp _ => by simp only [List.mem_cons, List.not_mem_nil, or_false] at hp; subst hp; rfl) hr (LamX.lamS_by (by show LamX.lamSB (defScope sRefuses) _ = true; decide +kernel)) rfl (fun _ _ _ _ _ => rfl) (fun A outer s H E f c' hr' => pe_callX E (fun f hf => HX f hf) (hr'.mono (by omega)) (by rfl) (.inr (.inr rfl)) (takes_of rfl rfl rfl rfl) (fun _ _ _ _ h => h) (pa_cons (pv 5) pa_nil))) (pa_cons (pe_tp (pa_cons pe_str (pa_cons pe_str pa_nil))) pa_nil))))) (pss_one (ps_ret pe_bl)) pss_nil)))
      (pss_cons (ps_set (i := 4) scRefuses.nd rfl (.inr rfl) (pe_kn d__law_pick hr (by rfl) (pa_cons (pv 0) (pa_cons (pe_ls (pa_cons (pe_kn d_measure_paper hr (by rfl) (pa_cons (pe_fr (pe_callTy call_list_of (by rfl) T.b_list (by decide +kernel) (pa_cons (pv 1) pa_nil))) pa_nil)) (pa_cons pe_non (pa_cons (pe_tp (pa_cons (pe_tp (pa_cons pe_int (pa_cons pe_int pa_nil))) (pa_cons (pe_tp pa_nil) pa_nil))) (pa_cons (pe_kn d__law_frac hr (by rfl) (pa_cons (pv 0) pa_nil)) (pa_cons (pv 5) pa_nil)))))) pa_nil))))
      (pss_one (ps_if (pt_not (pt_val (pe_kn d__law_same hr (by rfl) (pa_cons (LamX.pe_lamcall (T := [(Pt, qLam)]) (TT := TAsk K CB) (t := fun E => tCall (spVX2 K CB) [] E (tCons (tVar 5) (tCons (tVar 4) L2.tNil))) (by rfl) AS.m AS.kp AS.lk AS.cd AS.b scAsked rfl (.inl rfl) (asked_gives T B AT) TB rfl (List.mem_cons_self ..) (fun p hp _ => by simp only [List.mem_cons, List.not_mem_nil, or_false] at hp; subst hp; rfl) hr (LamX.lamS_by (by show LamX.lamSB (defScope sRefuses) _ = true; decide +kernel)) rfl (fun _ _ _ _ _ => rfl) (fun A outer s H E f c' hr' => pe_knX E IX2 hr' (by rfl) (takes_of rfl rfl rfl rfl) (fun _ _ _ _ h => h) (pa_cons (pv 5) (pa_cons (pv 4) pa_nil)))) (pa_cons (pe_tp (pa_cons pe_str (pa_cons pe_str pa_nil))) pa_nil))))) (pss_one (ps_ret pe_bl)) pss_nil)))))
      (pss_one (ps_ret pe_bl)))), ?_⟩
  simp only [cx_K]
  refine ⟨_, rfl, _, rfl, _, rfl, sr, rfl, LS0.st, fun bad H1 gb kp1 st1 => ?_⟩
  have ha1 := kp1 _ _ na ha
  have LS1 := LS0.kp kp1 st1
  obtain ⟨ys0, hys0⟩ := LS0.st.at
  have af1 := af.kp kp1 hys0
  have bg1 : Bg sr H H1 := Bg.kp kp1
  refine ⟨sr, a, xs, bad, rfl, st1, ha1, ka, na, l1, by omega, fun c1 j H2 hj kp2 st2 hc1 fc1 kc1 => ?_⟩
  have n1 := st1.ne fc1
  have ha2 := kp2 _ _ na ha1
  have LS2 := LS1.kp kp2 st2
  obtain ⟨ys1, hys1⟩ := st1.at
  have af2 := af1.kp kp2 hys1
  have bg2 := bg1.trans (Bg.kp kp2)
  have gb2 := gb.kp kp2 st2
  have b1 : BadR K sr H2 (.ref c1) := by
    refine ⟨.inr ⟨c1, _, rfl, (ob_none kc1).trans hc1, .inr ⟨?_, ?_, fun x hx => ?_, bad, List.mem_append_right _ List.mem_cons_self, gb2⟩⟩, fun e => n1 (V.ref.inj e)⟩
    · rw [List.length_append, List.length_cons]
      omega
    · rw [List.length_append, List.length_cons, List.length_take, List.length_drop]
      omega
    · have inx : ∀ x ∈ xs, RFq K 134 H2 x := fun x hx => by
        obtain ⟨i, hi⟩ := List.getElem?_of_mem hx
        obtain ⟨b, q, _, e, f⟩ := af2.at hi
        exact ⟨b, q, e, f⟩
      rcases List.mem_append.mp hx with hx | hx
      · exact .inl (inx x (List.mem_of_mem_take hx))
      · rcases List.mem_cons.mp hx with rfl | hx
        · exact .inr gb2
        · exact .inl (inx x (List.mem_of_mem_drop hx))
  refine ⟨_, rfl, _, rfl, sr, a, xs, rfl, st2, ha2, ka, na, l1, l12, fun c2 ys H3 hy fc2 kc2 hc2 kp3 st3 => ?_⟩
  have n2 := st2.ne fc2
  have ha3 := kp3 _ _ na ha2
  have LS3 := LS2.kp kp3 st3
  obtain ⟨ys2, hys2⟩ := st2.at
  have af3 := af2.kp kp3 hys2
  have bg3 := bg2.trans (Bg.kp kp3)
  have b1 := b1.kp kp3 st2 st3
  have b2 : BadR K sr H3 (.ref c2) := ⟨.inr ⟨c2, _, rfl, (ob_none kc2).trans hc2, .inl hy⟩, fun e => n2 (V.ref.inj e)⟩
  refine ⟨_, rfl, _, rfl, sr, a, xs, rfl, st3, ha3, fun v3 t3 H4 ht3 nt3 kp4 st4 => ?_⟩
  have ha4 := kp4 _ _ na ha3
  have LS4 := LS3.kp kp4 st4
  obtain ⟨ys3, hys3⟩ := st3.at
  have af4 := af3.kp kp4 hys3
  have bg4 := bg3.trans (Bg.kp kp4)
  have b1 := b1.kp kp4 st3 st4
  have b2 := b2.kp kp4 st3 st4
  have b3 : BadR K sr H4 v3 := ⟨.inl ⟨t3, ht3, nt3⟩, fun e => by
    obtain ⟨ys4, hys4⟩ := st4.ob
    rw [e, tyN_ref, hys4] at ht3
    cases ht3
    exact nt3 rfl⟩
  clear kp1 kp2 kp3 kp4 st1 st2 st3 LS0 LS1 LS2 LS3 af af1 af2 af3 ha ha1 ha2 ha3 bg1 bg2 bg3 gb gb2 hc1 fc1 kc1 hc2 fc2 kc2 ht3 hys0 hys1 hys2 hys3 hy n1 n2
  refine ⟨sz2 (by show 0 ≤ 100; decide), fun c4 hc4 kc4 => ?_⟩
  have s5 := Same.new hc4 (.lst [])
  have LS5 := LS4.same s5
  have b4 : BadR K sr (upd H4 c4 (.lst [])) (.ref c4) := ⟨.inr ⟨c4, [], rfl, ob_new kc4, .inl (.inl rfl)⟩, fun e => st4.ne hc4 (V.ref.inj e)⟩
  have b1 := b1.same s5
  have b2 := b2.same s5
  have b3 := b3.same s5
  have ha5 := s5 _ _ ha4
  have af5 := af4.same s5
  have bg5 := bg4.trans (Bg.same s5)
  generalize upd H4 c4 (.lst []) = H5 at LS5 b1 b2 b3 b4 ha5 af5 bg5 ⊢
  clear s5 LS4 ha4 af4 bg4 st4 hc4
  refine ⟨sz2 (by show 4 ≤ 100; decide), fun w hw kw => ?_⟩
  have s6 := Same.new hw (.lst [.ref c1, .ref c2, v3, .ref c4])
  have nw : w ≠ sr := LS5.st.ne hw
  have R6 : RV K [(Pt, qLam)] sr a w xs [.ref c1, .ref c2, v3, .ref c4] qs (upd H5 w (.lst [.ref c1, .ref c2, v3, .ref c4])) := ⟨LS5.same s6, s6 _ _ ha5, af5.same s6, upd_same, fun v hv => by
    simp only [List.mem_cons, List.not_mem_nil, or_false] at hv
    rcases hv with rfl | rfl | rfl | rfl
    · exact b1.same s6
    · exact b2.same s6
    · exact b3.same s6
    · exact b4.same s6⟩
  have bg6 := bg5.trans (Bg.same s6)
  generalize [V.ref c1, V.ref c2, v3, V.ref c4] = ws at R6 bg6 ⊢
  generalize upd H5 w (.lst ws) = H6 at R6 bg6 ⊢
  clear s6 LS5 b1 b2 b3 b4 ha5 af5 bg5 hw
  refine ⟨_, rfl, w, rfl, ⟨_, .of R6.hw⟩, forI_list (xs := ws) (OuI K Pt sr a w xs ws qs H) ⟨none, none, none, rfl, R6, bg6⟩ (fun i σ H' _ h => ?_) ?_ ?_⟩
  · obtain ⟨x3, x4, x5, rfl, R, _⟩ := h
    exact .of R.hw
  · rintro i row σ H7 hi ⟨x3, x4, x5, rfl, R7, bg7⟩
    have hrow := List.mem_of_getElem? hi
    refine ⟨sz2 (by show 2 ≤ 100; decide), fun l hl kl => ?_⟩
    have s8 := Same.new hl (.lst [.ref f1, .ref f2])
    have hl8 : upd H7 l (.lst [.ref f1, .ref f2]) l = some (.lst [.ref f1, .ref f2]) := upd_same
    have R8 := R7.same s8
    have bg8 := bg7.trans (Bg.same s8)
    have nl : l ≠ sr := R7.ls.st.ne hl
    generalize upd H7 l (.lst [.ref f1, .ref f2]) = H8 at hl8 R8 bg8 ⊢
    clear s8 R7 bg7
    refine ⟨l, rfl, ⟨_, .of hl8⟩, forI_list (xs := [V.ref f1, V.ref f2]) (InI K Pt sr a w l xs ws [V.ref f1, V.ref f2] qs row x4 H) ⟨x3, rfl, R8, bg8, hl8⟩ (fun i σ H' _ h => ?_) ?_ ?_⟩
    · obtain ⟨x3, rfl, R, _, h⟩ := h
      exact .of h
    · rintro i fc σ H9 hf ⟨x3', rfl, R9, bg9, hl9⟩
      obtain ⟨ff, rfl, htwo⟩ : ∃ ff, fc = .ref ff ∧ isTwo mg ff := by
        have := List.mem_of_getElem? hf
        simp only [List.mem_cons, List.not_mem_nil, or_false] at this
        rcases this with rfl | rfl
        · exact ⟨f1, rfl, "common_measure", by simp, m1⟩
        · exact ⟨f2, rfl, "measure_paper", by simp, m2⟩
      refine ⟨R9.ls.tb, fun Ha ea ta => ?_⟩
      have Ra := R9.ext ea ta
      have bga := bg9.trans (Bg.ext ea)
      have hla := ea _ _ hl9 (fun ps z => by cases z)
      refine ⟨ff, rfl, htwo, _, rfl, row, rfl, (Ra.bd row hrow).1, fun d Hb sb hb => ⟨rfl, d, _, rfl, hb, fun c2 Hc sc oc => ?_⟩⟩
      have sX := sb.trans sc
      refine ⟨sz2 (by show 2 ≤ 100; decide), fun p hp kp => ?_⟩
      have sd := Same.new hp (.tup [.str "BadValue", .str "values"])
      refine ⟨_, _, rfl, (eqv_tup (ob_same sd oc) (ob_new kp) rfl (by show 2 ≤ 1000; omega)).up, fun He se => ⟨true, rfl, if_no rfl ?_⟩⟩
      have sY := sX.trans (sd.trans se)
      exact ⟨_, rfl, Ra.same sY, bga.trans (Bg.same sY), sY _ _ hla⟩
    · rintro σ H9 ⟨x3', rfl, R9, bg9, hl9⟩
      refine ⟨_, rfl, _, rfl, a, xs, rfl, .inl (.of R9.ha), fun l2 hl2 fr2 => ?_⟩
      have sA := Same.new hl2 (.lst xs)
      have hlA : upd H9 l2 (.lst xs) l2 = some (.lst xs) := upd_same
      have k2 := fr2 l2 (by rw [upd_same]; simp)
      have RA := R9.same sA
      have bgA := bg9.trans (Bg.same sA)
      generalize upd H9 l2 (.lst xs) = HA at hlA RA bgA ⊢
      refine ⟨l2, xs, qs, rfl, hlA, k2, RA.af, l1, l12, fun c t tw HB sB oc ot otw wt wz => ?_⟩
      refine ⟨sz2 (by show 2 ≤ 100; decide), fun p1 hp1 kp1 => ⟨sz2 (by show 0 ≤ 100; decide), fun p2 hp2 kp2 => ⟨sz2 (by show 2 ≤ 100; decide), fun p3 hp3 kp3 => ?_⟩⟩⟩
      have s1 := Same.new hp1 (.tup [.int 0, .int 1])
      have s2 := Same.new hp2 (.tup [])
      have s3 := Same.new hp3 (.tup [.ref p1, .ref p2])
      have sX := sB.trans (s1.trans (s2.trans s3))
      have RC := RA.same sX
      have bgC := bgA.trans (Bg.same sX)
      generalize upd (upd (upd HB p1 (.tup [.int 0, .int 1])) p2 (.tup [])) p3 (.tup [.ref p1, .ref p2]) = HC at RC bgC ⊢
      refine ⟨_, rfl, sr, rfl, RC.ls.st, fun fa' fq HD fqq kpD stD => ?_⟩
      have RD := RC.kp na nw kpD stD
      have bgD := bgC.trans (Bg.kp kpD)
      refine ⟨_, rfl, sz2 (by show 5 ≤ 100; decide), fun pl hpl kpl => ?_⟩
      have s4 := Same.new hpl (.lst [.ref c, .non, .ref p3, .ref fa', row])
      refine ⟨sr, pl, _, rfl, stD.same s4, upd_same, Ne.symm (stD.ne hpl), by show 0 < 5; decide, by show 5 < 1000; decide, fun paper HE _ kpE stE => ?_⟩
      have RE := (RD.same s4).kp na nw kpE stE
      have bgE := (bgD.trans (Bg.same s4)).trans (Bg.kp kpE)
      refine ⟨RE.ls.tb, fun Ha ea ta => ?_⟩
      have Ra := RE.ext ea ta
      have bga := bgE.trans (Bg.ext ea)
      refine ⟨_, rfl, _, rfl, row, paper, rfl, (Ra.bd row hrow).1, fun d Hb sb hb => ⟨rfl, d, _, rfl, hb, fun c2 Hc sc oc => ?_⟩⟩
      have sX := sb.trans sc
      refine ⟨sz2 (by show 2 ≤ 100; decide), fun p hp kp => ?_⟩
      have sd := Same.new hp (.tup [.str "BadValue", .str "values"])
      refine ⟨_, _, rfl, (eqv_tup (ob_same sd oc) (ob_new kp) rfl (by show 2 ≤ 1000; omega)).up, fun He se => ⟨true, rfl, if_no rfl ?_⟩⟩
      have sY := sX.trans (sd.trans se)
      exact ⟨_, _, _, rfl, Ra.same sY, bga.trans (Bg.same sY)⟩
  · rintro σ H7 ⟨x3, x4, x5, rfl, R7, bg7⟩
    exact k H7 bg7 R7.ls
end
end My

namespace My
open PySem PySem.Spec PyProof.Rows L2
section
variable {P : Program} {w : World} {K : PySem.W.Frag} {mg : Str → Option Value} {base : Heap}
theorem cut_any (xs : List V) (j : Nat) : cutV xs none (some (j : Int)) = xs.take j := by
  have e := HT.sIx_nat xs.length xs.length j
  unfold cutV
  rw [e, HT.sIx_none, List.drop_zero, Nat.sub_zero]
  rcases Nat.le_total j xs.length with h | h
  · rw [Nat.min_eq_left h]
  · rw [Nat.min_eq_right h, List.take_of_length_le (Nat.le_refl _), List.take_of_length_le h]
/-- drawn values -/
structure VLs (K : PySem.W.Frag) (s : Addr) (H : Hp) (l : Addr) : Prop where
  ex : ∃ xs qs, H l = some (.lst xs) ∧ AF K H 134 xs qs ∧ 1 ≤ xs.length ∧ xs.length ≤ 12
  kl : K.lookup l = none
  nl : l ≠ s
theorem AF.bg {H H' : Hp} {s : Addr} {n : Nat} {xs ys : List V} {qs : List Qt} (h : AF K H n xs qs) (e : Bg s H H') (hs : H s = some (.lst ys)) : AF K H' n xs qs := ⟨h.1, fun i x q hx hq => by
  obtain ⟨a, e', f⟩ := h.2 i x q hx hq
  exact ⟨a, e', f.bg e hs⟩⟩
theorem VLs.bg {H H' : Hp} {s l : Addr} (h : VLs K s H l) (e : Bg s H H') (st : Sto K H s) : VLs K s H' l := by
  obtain ⟨⟨xs, qs, h1, h2, h3, h4⟩, kl, nl⟩ := h
  obtain ⟨ys, hys⟩ := st.at
  exact ⟨⟨xs, qs, e _ _ nl (fun ps z => by cases z) h1, h2.bg e hys, h3, h4⟩, kl, nl⟩
def spLaw (K : PySem.W.Frag) (Pt : Addr) : Sp := fun vs H Q _ => ∃ (a : Addr) (ns : List Int), vs = [.ref a] ∧ SqL K H a (ns.map V.int) ∧ H Pt = some (.tbl #[]) ∧ ∀ H', Q (.bl true) H'
def LaI (K : PySem.W.Frag) (Pt sa s l1 l2 l3 w : Addr) (ws : List V) (_ : Nat) (σ : L2.St) (H' : Hp) : Prop := ∃ (x5 : Option V), σ = [some (.ref sa), some (.ref s), some (.ref l1), some (.ref l2), some (.ref l3), x5] ∧ LawS K [(Pt, qLam)] H' s ∧ H' w = some (.lst ws) ∧ ∀ v ∈ ws, ∃ l, v = .ref l ∧ VLs K s H' l
abbrev sLaw : Stmt := topS 59
theorem scLaw : FnScope ["_law_script", "_law_store_here", "_law_first", "_law_second", "_law_more", "_law_values_here"] ["_law_script"] (defScope sLaw) := ⟨rfl, rfl, rfl, by decide +kernel, rfl, by decide +kernel, by decide +kernel⟩
theorem ok_law {fa Pt : Addr} {fd : FuncData} (F : Fun K "law" "law" sLaw fa fd) (T : Bt K mg) (d__law_store : Kn P w K mg base 1 "_law_store" ["_law_script"] (spStore K)) (d__law_values : Kn P w K mg base 6 "_law_values" ["_law_store_here"] (spVals K)) (d__law_holds : Kn P w K mg base 6 "_law_holds" ["_law_values_here"] (spHolds K)) (d__law_refuses : Kn P w K mg base 8 "_law_refuses" ["_law_store_here", "_law_values_here"] (spRefuses K Pt)) : FnOk P w K mg base CX0 9 fa fd ["_law_script"] (spLaw K Pt) := by
  refine F.ok scLaw (fun vs H Q E h => ?_) (fun cdv A outer s H vs Q E hr h => ?_)
  · obtain ⟨sa, ns, rfl, _⟩ := h
    rfl
  obtain ⟨sa, ns, rfl, hsa, hP, q⟩ := h
  refine ⟨_, (pss_cons (ps_set (i := 1) scLaw.nd rfl (.inl rfl) (pe_kn d__law_store hr (by rfl) (pa_cons (pv 0) pa_nil)))
      (pss_cons (ps_set (i := 2) scLaw.nd rfl (.inl rfl) (pe_kn d__law_values hr (by rfl) (pa_cons (pv 1) pa_nil)))
      (pss_cons (ps_set (i := 3) scLaw.nd rfl (.inl rfl) (pe_kn d__law_values hr (by rfl) (pa_cons (pv 1) pa_nil)))
      (pss_cons (ps_set (i := 4) scLaw.nd rfl (.inl rfl) (pe_fr (pe_slice sl_list (pe_fr (pe_op op_cat (pv 2) (pv 3))) po_none (po_some pe_int))))
      (pss_cons (ps_for PassesOwn.never rfl (pi_list (pe_ls (pa_cons (pv 2) (pa_cons (pv 3) (pa_cons (pv 2) (pa_cons (pv 4) pa_nil)))))) (pg_name (i := 5) scLaw.nd rfl (.inl rfl)) (pss_one (ps_if (PW.pt (pw_or (pt_not (pt_val (pe_kn d__law_holds hr (by rfl) (pa_cons (pv 5) pa_nil)))) (pw_or1 (pt_not (pt_val (pe_kn d__law_refuses hr (by rfl) (pa_cons (pv 1) (pa_cons (pv 5) pa_nil)))))))) (pss_one (ps_ret pe_bl)) pss_nil)))
      (pss_one (ps_ret pe_bl))))))), ?_⟩
  have TBL : ∀ H1, Same H H1 → LamX.Tabs [(Pt, qLam)] H1 := fun H1 s1 p hp => by
    simp only [List.mem_cons, List.not_mem_nil, or_false] at hp
    subst hp
    exact LamX.TabS.nil (s1 _ _ hP)
  simp only [cx_K]
  refine ⟨_, rfl, sa, ns, rfl, hsa, fun s H1 s1 st1 => ?_⟩
  have LS1 : LawS K [(Pt, qLam)] H1 s := LawS.mk st1 (TBL H1 s1)
  refine ⟨_, rfl, s, rfl, st1, fun l1 xs1 qs1 H2 a1 b1 f1 k1 h1 af1 kp2 st2 => ?_⟩
  have LS2 := LS1.kp kp2 st2
  have n1 : l1 ≠ s := st1.ne f1
  have V1 : VLs K s H2 l1 := ⟨⟨xs1, qs1, h1, af1, a1, b1⟩, k1, n1⟩
  refine ⟨_, rfl, s, rfl, st2, fun l2 xs2 qs2 H3 a2 b2 f2 k2 h2 af2 kp3 st3 => ?_⟩
  have LS3 := LS2.kp kp3 st3
  have n2 : l2 ≠ s := st2.ne f2
  have V2 : VLs K s H3 l2 := ⟨⟨xs2, qs2, h2, af2, a2, b2⟩, k2, n2⟩
  have V1 := V1.bg (Bg.kp kp3) st2
  have h1 := kp3 _ _ n1 h1
  obtain ⟨ys2, hys2⟩ := st2.at
  have af1 := af1.kp kp3 hys2
  clear TBL LS1 LS2 st1 st2 kp2 kp3 hsa hP s1 f1 f2 hys2
  refine ⟨_, rfl, _, rfl, l1, l2, _, _, rfl, rfl, h1, h2, by rw [sizeLine_eq]; omega, fun p1 hp1 fr1 => ?_⟩
  have s4 := Same.new hp1 (.lst (xs1 ++ xs2))
  have hp4 : upd H3 p1 (.lst (xs1 ++ xs2)) p1 = some (.lst (xs1 ++ xs2)) := upd_same
  have LS4 := LS3.same s4
  have V1 := V1.bg (Bg.same s4) st3
  have V2 := V2.bg (Bg.same s4) st3
  have af4 := (AF.app af1 af2).same s4
  generalize upd H3 p1 (.lst (xs1 ++ xs2)) = H4 at s4 hp4 LS4 V1 V2 af4 ⊢
  refine ⟨_, rfl, p1, _, rfl, .of hp4, ?_⟩
  have ec : cutV (xs1 ++ xs2) none (some 12) = (xs1 ++ xs2).take 12 := cut_any _ 12
  rw [ec]
  refine fun l3 hl3 fr3 => ?_
  have s5 := Same.new hl3 (.lst ((xs1 ++ xs2).take 12))
  have V3 : VLs K s (upd H4 l3 (.lst ((xs1 ++ xs2).take 12))) l3 := ⟨⟨_, _, upd_same, (af4.take 12).same s5, by rw [List.length_take, List.length_append]; omega, by rw [List.length_take]; omega⟩, fr3 l3 (by rw [upd_same]; simp), LS4.st.ne hl3⟩
  have LS5 := LS4.same s5
  have V1 := V1.bg (Bg.same s5) LS4.st
  have V2 := V2.bg (Bg.same s5) LS4.st
  generalize upd H4 l3 (.lst ((xs1 ++ xs2).take 12)) = H5 at LS5 V1 V2 V3 ⊢
  clear s4 s5 hp4 LS3 LS4 af4 af1 af2 h1 h2 st3 hl3 hp1 fr1 fr3
  refine ⟨_, rfl, _, rfl, _, rfl, _, rfl, sz2 (by show 4 ≤ 100; decide), fun w hw kw => ?_⟩
  have s6 := Same.new hw (.lst [.ref l1, .ref l2, .ref l1, .ref l3])
  have hw6 : upd H5 w (.lst [.ref l1, .ref l2, .ref l1, .ref l3]) w = some (.lst [.ref l1, .ref l2, .ref l1, .ref l3]) := upd_same
  have nw : w ≠ s := LS5.st.ne hw
  have LS6 := LS5.same s6
  have VV : ∀ v ∈ [V.ref l1, V.ref l2, V.ref l1, V.ref l3], ∃ l, v = .ref l ∧ VLs K s (upd H5 w (.lst [.ref l1, .ref l2, .ref l1, .ref l3])) l := fun v hv => by
    simp only [List.mem_cons, List.not_mem_nil, or_false] at hv
    rcases hv with rfl | rfl | rfl | rfl
    · exact ⟨l1, rfl, V1.bg (Bg.same s6) LS5.st⟩
    · exact ⟨l2, rfl, V2.bg (Bg.same s6) LS5.st⟩
    · exact ⟨l1, rfl, V1.bg (Bg.same s6) LS5.st⟩
    · exact ⟨l3, rfl, V3.bg (Bg.same s6) LS5.st⟩
  generalize [V.ref l1, V.ref l2, V.ref l1, V.ref l3] = ws at hw6 LS6 VV s6 ⊢
  generalize upd H5 w (.lst ws) = H6 at hw6 LS6 VV ⊢
  refine ⟨w, rfl, ⟨_, .of hw6⟩, forI_list (xs := ws) (LaI K Pt sa s l1 l2 l3 w ws) ⟨none, rfl, LS6, hw6, VV⟩ (fun i σ H' _ h => ?_) ?_ ?_⟩
  · obtain ⟨x5, rfl, _, h, _⟩ := h
    exact .of h
  · rintro i x σ H7 hi ⟨x5, rfl, LS7, hw7, VV7⟩
    obtain ⟨l, rfl, V⟩ := VV7 x (List.mem_of_getElem? hi)
    obtain ⟨xs, qs, hl, af, m1, m2⟩ := V.ex
    refine ⟨_, rfl, l, xs, qs, rfl, hl, V.kl, af, m1, m2, fun H8 s8 => ⟨true, rfl, if_no rfl ?_⟩⟩
    have LS8 := LS7.same s8
    refine ⟨_, rfl, _, rfl, s, l, xs, qs, rfl, LS8, s8 _ _ hl, V.kl, V.nl, af.same s8, m1, m2, fun H9 bg9 LS9 => ⟨true, rfl, if_no rfl ?_⟩⟩
    have bgA := (Bg.same (s := s) s8).trans bg9
    refine ⟨_, rfl, LS9, bgA _ _ nw (fun ps z => by cases z) hw7, fun v hv => ?_⟩
    obtain ⟨l', e, V'⟩ := VV7 v hv
    exact ⟨l', e, V'.bg bgA LS7.st⟩
  · rintro σ H7 ⟨x5, rfl, LS7, hw7, VV7⟩
    exact q H7

end
end My

namespace My
open PySem PySem.Spec PyProof.Rows L2
/-- the tuple of two ints that the written part holds -/
theorem ob_con {K : PySem.W.Frag} {z : Addr} {dd : Option Addr} {x y : Int} {t0 t1 : Tok} {n : Nat} {sl : Array (Option Value)} (h : K.lookup z = some ⟨.type "tuple", dd, .seq #[.int x t0, .int y t1] n, sl⟩) (H : Hp) : ob K H z = some (.tup [.int x, .int y]) := by
  unfold ob obK
  rw [h]
  show (if 2 ≤ sizeLine then _ else _) = _
  rw [if_pos (by rw [sizeLine_eq]; omega)]
  rfl
/-! ### the end: what the top has written -/
theorem dfn_mk {K : PySem.W.Frag} {h : Heap} {mg : Str → Option Value} {x : Str} {st : Stmt} {ps : List Str} {f : Addr} {oc kV doc pm cd ct : Value} {od an : Option Addr} {sl : Array (Option Value)} (X : K.In h) (G : h.Ns mainGlobals mg)
    (a : PySem.W.nsIn K mainGlobals x = some (some (.ref f))) (l : K.lookup f = some ⟨oc, od, .func (PySem.W.fnOf x x (defArgs st) (defBody st) (defScope st) .none kV doc pm an cd ct), sl⟩) (c : PySem.W.codeIn K cd x = true) (k : PySem.W.keepIn K (.ref f) = true)
    (hb : ∀ (kV doc pm : Value) (an : Option Addr) (cdv ct : Value) (us : List Value), us.length = ps.length → bindArgs (PySem.W.fnOf x x (defArgs st) (defBody st) (defScope st) .none kV doc pm an cdv ct) ⟨us, []⟩ = pure (ps.zip us)) : Dfn K mg x st ps :=
  ⟨f, _, fun_mk l c k, PySem.W.mg_of X G a, (fun_mk l c k).binds hb⟩
theorem all_mk {P : Program} {w : World} {K : PySem.W.Frag} {h : Heap} {mg : Str → Option Value} {fa : Addr} (X : K.In h) (G : h.Ns mainGlobals mg) (hfa : mg "law" = some (.ref fa)) {f0 : Addr} {oc0 kV0 dc0 pm0 cd0 ct0 : Value} {od0 an0 : Option Addr} {sl0 : Array (Option Value)} {f1 : Addr} {oc1 kV1 dc1 pm1 cd1 ct1 : Value} {od1 an1 : Option Addr} {sl1 : Array (Option Value)} {f2 : Addr} {oc2 kV2 dc2 pm2 cd2 ct2 : Value} {od2 an2 : Option Addr} {sl2 : Array (Option Value)} {f3 : Addr} {oc3 kV3 dc3 pm3 cd3 ct3 : Value} {od3 an3 : Option Addr} {sl3 : Array (Option Value)} {f4 : Addr} {oc4 kV4 dc4 pm4 cd4 ct4 : Value} {od4 an4 : Option Addr} {sl4 : Array (Option Value)} {f5 : Addr} {oc5 kV5 dc5 pm5 cd5 ct5 : Value} {od5 an5 : Option Addr} {sl5 : Array (Option Value)} {f6 : Addr} {oc6 kV6 dc6 pm6 cd6 ct6 : Value} {od6 an6 : Option Addr} {sl6 : Array (Option Value)} {f7 : Addr} {oc7 kV7 dc7 pm7 cd7 ct7 : Value} {od7 an7 : Option Addr} {sl7 : Array (Option Value)} {f8 : Addr} {oc8 kV8 dc8 pm8 cd8 ct8 : Value} {od8 an8 : Option Addr} {sl8 : Array (Option Value)} {f9 : Addr} {oc9 kV9 dc9 pm9 cd9 ct9 : Value} {od9 an9 : Option Addr} {sl9 : Array (Option Value)} {f10 : Addr} {oc10 kV10 dc10 pm10 cd10 ct10 : Value} {od10 an10 : Option Addr} {sl10 : Array (Option Value)} {f11 : Addr} {oc11 kV11 dc11 pm11 cd11 ct11 : Value} {od11 an11 : Option Addr} {sl11 : Array (Option Value)} {f12 : Addr} {oc12 kV12 dc12 pm12 cd12 ct12 : Value} {od12 an12 : Option Addr} {sl12 : Array (Option Value)} {f13 : Addr} {oc13 kV13 dc13 pm13 cd13 ct13 : Value} {od13 an13 : Option Addr} {sl13 : Array (Option Value)} {f14 : Addr} {oc14 kV14 dc14 pm14 cd14 ct14 : Value} {od14 an14 : Option Addr} {sl14 : Array (Option Value)} {f15 : Addr} {oc15 kV15 dc15 pm15 cd15 ct15 : Value} {od15 an15 : Option Addr} {sl15 : Array (Option Value)} {f16 : Addr} {oc16 kV16 dc16 pm16 cd16 ct16 : Value} {od16 an16 : Option Addr} {sl16 : Array (Option Value)} {f17 : Addr} {oc17 kV17 dc17 pm17 cd17 ct17 : Value} {od17 an17 : Option Addr} {sl17 : Array (Option Value)} {f18 : Addr} {oc18 kV18 dc18 pm18 cd18 ct18 : Value} {od18 an18 : Option Addr} {sl18 : Array (Option Value)} {f19 : Addr} {oc19 kV19 dc19 pm19 cd19 ct19 : Value} {od19 an19 : Option Addr} {sl19 : Array (Option Value)} {f20 : Addr} {oc20 kV20 dc20 pm20 cd20 ct20 : Value} {od20 an20 : Option Addr} {sl20 : Array (Option Value)} {f21 : Addr} {oc21 kV21 dc21 pm21 cd21 ct21 : Value} {od21 an21 : Option Addr} {sl21 : Array (Option Value)} {f22 : Addr} {oc22 kV22 dc22 pm22 cd22 ct22 : Value} {od22 an22 : Option Addr} {sl22 : Array (Option Value)} {f23 : Addr} {oc23 kV23 dc23 pm23 cd23 ct23 : Value} {od23 an23 : Option Addr} {sl23 : Array (Option Value)} {f24 : Addr} {oc24 kV24 dc24 pm24 cd24 ct24 : Value} {od24 an24 : Option Addr} {sl24 : Array (Option Value)} {f25 : Addr} {oc25 kV25 dc25 pm25 cd25 ct25 : Value} {od25 an25 : Option Addr} {sl25 : Array (Option Value)} {f26 : Addr} {oc26 kV26 dc26 pm26 cd26 ct26 : Value} {od26 an26 : Option Addr} {sl26 : Array (Option Value)} {f27 : Addr} {oc27 kV27 dc27 pm27 cd27 ct27 : Value} {od27 an27 : Option Addr} {sl27 : Array (Option Value)} {f28 : Addr} {oc28 kV28 dc28 pm28 cd28 ct28 : Value} {od28 an28 : Option Addr} {sl28 : Array (Option Value)} {f29 : Addr} {oc29 kV29 dc29 pm29 cd29 ct29 : Value} {od29 an29 : Option Addr} {sl29 : Array (Option Value)} {f30 : Addr} {oc30 kV30 dc30 pm30 cd30 ct30 : Value} {od30 an30 : Option Addr} {sl30 : Array (Option Value)} {f31 : Addr} {oc31 kV31 dc31 pm31 cd31 ct31 : Value} {od31 an31 : Option Addr} {sl31 : Array (Option Value)} {f32 : Addr} {oc32 kV32 dc32 pm32 cd32 ct32 : Value} {od32 an32 : Option Addr} {sl32 : Array (Option Value)} {f33 : Addr} {oc33 kV33 dc33 pm33 cd33 ct33 : Value} {od33 an33 : Option Addr} {sl33 : Array (Option Value)} {fF tF z0 : Addr} {ocF kVF dcF pmF cdF ctF ocT : Value} {odF anF odT : Option Addr} {slF slT : Array (Option Value)} {tk : Tok} {nT : Nat} {ddZ : Option Addr} {taZ tbZ : Tok} {nnZ : Nat} {ssZ : Array (Option Value)} {tkM : Tok} {C S fI : Addr} {nm qn : Str} {N0 : Addr} {bs bm : List Value} {sn : List Str} {sub : List Value} {ab : Bool} {col : Option Bool} {dd : Option Addr} {m0 m1 m2 m3 m5 : Option Value} {ocI kVI dcI pmI cdI ctI : Value} {odI anI : Option Addr} {slI : Array (Option Value)} {C_Mismatch : Addr} {C_Still : Addr} {C_Endless : Addr} {C_TooMany : Addr} {C_NoName : Addr} {C_Taken : Addr} {C_Locked : Addr} {C_Looped : Addr} {C_Broken : Addr} {C_ReadError : Addr} {gA : Addr} {ocA kVA dcA pmA cdA ctA : Value} {odA anA : Option Addr} {slA : Array (Option Value)} {fR cR : Addr} {ocR kVR dcR pmR ctR : Value} {odR anR : Option Addr} {slR : Array (Option Value)} {fL : Addr} {ocL kVL dcL pmL cdvL ctL : Value} {odL anL : Option Addr} {slL : Array (Option Value)}
    (a0 : PySem.W.nsIn K mainGlobals "require" = some (some (.ref f0)))
    (l0 : K.lookup f0 = some ⟨oc0, od0, .func (PySem.W.fnOf "require" "require" (defArgs sRequire) (defBody sRequire) (defScope sRequire) .none kV0 dc0 pm0 an0 cd0 ct0), sl0⟩)
    (c0 : PySem.W.codeIn K cd0 "require" = true)
    (k0 : PySem.W.keepIn K (.ref f0) = true)
    (a1 : PySem.W.nsIn K mainGlobals "is_whole" = some (some (.ref f1)))
    (l1 : K.lookup f1 = some ⟨oc1, od1, .func (PySem.W.fnOf "is_whole" "is_whole" (defArgs sWhole) (defBody sWhole) (defScope sWhole) .none kV1 dc1 pm1 an1 cd1 ct1), sl1⟩)
    (c1 : PySem.W.codeIn K cd1 "is_whole" = true)
    (k1 : PySem.W.keepIn K (.ref f1) = true)
    (a2 : PySem.W.nsIn K mainGlobals "is_fraction" = some (some (.ref f2)))
    (l2 : K.lookup f2 = some ⟨oc2, od2, .func (PySem.W.fnOf "is_fraction" "is_fraction" (defArgs sIsFraction) (defBody sIsFraction) (defScope sIsFraction) .none kV2 dc2 pm2 an2 cd2 ct2), sl2⟩)
    (c2 : PySem.W.codeIn K cd2 "is_fraction" = true)
    (k2 : PySem.W.keepIn K (.ref f2) = true)
    (a3 : PySem.W.nsIn K mainGlobals "plus" = some (some (.ref f3)))
    (l3 : K.lookup f3 = some ⟨oc3, od3, .func (PySem.W.fnOf "plus" "plus" (defArgs sPlus) (defBody sPlus) (defScope sPlus) .none kV3 dc3 pm3 an3 cd3 ct3), sl3⟩)
    (c3 : PySem.W.codeIn K cd3 "plus" = true)
    (k3 : PySem.W.keepIn K (.ref f3) = true)
    (a4 : PySem.W.nsIn K mainGlobals "times" = some (some (.ref f4)))
    (l4 : K.lookup f4 = some ⟨oc4, od4, .func (PySem.W.fnOf "times" "times" (defArgs sTimes) (defBody sTimes) (defScope sTimes) .none kV4 dc4 pm4 an4 cd4 ct4), sl4⟩)
    (c4 : PySem.W.codeIn K cd4 "times" = true)
    (k4 : PySem.W.keepIn K (.ref f4) = true)
    (a5 : PySem.W.nsIn K mainGlobals "_is_value_list" = some (some (.ref f5)))
    (l5 : K.lookup f5 = some ⟨oc5, od5, .func (PySem.W.fnOf "_is_value_list" "_is_value_list" (defArgs sVl) (defBody sVl) (defScope sVl) .none kV5 dc5 pm5 an5 cd5 ct5), sl5⟩)
    (c5 : PySem.W.codeIn K cd5 "_is_value_list" = true)
    (k5 : PySem.W.keepIn K (.ref f5) = true)
    (a6 : PySem.W.nsIn K mainGlobals "_bezout" = some (some (.ref f6)))
    (l6 : K.lookup f6 = some ⟨oc6, od6, .func (PySem.W.fnOf "_bezout" "_bezout" (defArgs sBez) (defBody sBez) (defScope sBez) .none kV6 dc6 pm6 an6 cd6 ct6), sl6⟩)
    (c6 : PySem.W.codeIn K cd6 "_bezout" = true)
    (k6 : PySem.W.keepIn K (.ref f6) = true)
    (a7 : PySem.W.nsIn K mainGlobals "weighted_sum" = some (some (.ref f7)))
    (l7 : K.lookup f7 = some ⟨oc7, od7, .func (PySem.W.fnOf "weighted_sum" "weighted_sum" (defArgs sWS) (defBody sWS) (defScope sWS) .none kV7 dc7 pm7 an7 cd7 ct7), sl7⟩)
    (c7 : PySem.W.codeIn K cd7 "weighted_sum" = true)
    (k7 : PySem.W.keepIn K (.ref f7) = true)
    (a8 : PySem.W.nsIn K mainGlobals "common_measure" = some (some (.ref f8)))
    (l8 : K.lookup f8 = some ⟨oc8, od8, .func (PySem.W.fnOf "common_measure" "common_measure" (defArgs sCM) (defBody sCM) (defScope sCM) .none kV8 dc8 pm8 an8 cd8 ct8), sl8⟩)
    (c8 : PySem.W.codeIn K cd8 "common_measure" = true)
    (k8 : PySem.W.keepIn K (.ref f8) = true)
    (a9 : PySem.W.nsIn K mainGlobals "measure_paper" = some (some (.ref f9)))
    (l9 : K.lookup f9 = some ⟨oc9, od9, .func (PySem.W.fnOf "measure_paper" "measure_paper" (defArgs sMP) (defBody sMP) (defScope sMP) .none kV9 dc9 pm9 an9 cd9 ct9), sl9⟩)
    (c9 : PySem.W.codeIn K cd9 "measure_paper" = true)
    (k9 : PySem.W.keepIn K (.ref f9) = true)
    (a10 : PySem.W.nsIn K mainGlobals "is_measure_paper" = some (some (.ref f10)))
    (l10 : K.lookup f10 = some ⟨oc10, od10, .func (PySem.W.fnOf "is_measure_paper" "is_measure_paper" (defArgs sIMP) (defBody sIMP) (defScope sIMP) .none kV10 dc10 pm10 an10 cd10 ct10), sl10⟩)
    (c10 : PySem.W.codeIn K cd10 "is_measure_paper" = true)
    (k10 : PySem.W.keepIn K (.ref f10) = true)
    (a11 : PySem.W.nsIn K mainGlobals "_law_mixed" = some (some (.ref f11)))
    (l11 : K.lookup f11 = some ⟨oc11, od11, .func (PySem.W.fnOf "_law_mixed" "_law_mixed" (defArgs sMixed) (defBody sMixed) (defScope sMixed) .none kV11 dc11 pm11 an11 cd11 ct11), sl11⟩)
    (c11 : PySem.W.codeIn K cd11 "_law_mixed" = true)
    (k11 : PySem.W.keepIn K (.ref f11) = true)
    (a12 : PySem.W.nsIn K mainGlobals "_law_store" = some (some (.ref f12)))
    (l12 : K.lookup f12 = some ⟨oc12, od12, .func (PySem.W.fnOf "_law_store" "_law_store" (defArgs sStore) (defBody sStore) (defScope sStore) .none kV12 dc12 pm12 an12 cd12 ct12), sl12⟩)
    (c12 : PySem.W.codeIn K cd12 "_law_store" = true)
    (k12 : PySem.W.keepIn K (.ref f12) = true)
    (a13 : PySem.W.nsIn K mainGlobals "_law_take" = some (some (.ref f13)))
    (l13 : K.lookup f13 = some ⟨oc13, od13, .func (PySem.W.fnOf "_law_take" "_law_take" (defArgs sTake) (defBody sTake) (defScope sTake) .none kV13 dc13 pm13 an13 cd13 ct13), sl13⟩)
    (c13 : PySem.W.codeIn K cd13 "_law_take" = true)
    (k13 : PySem.W.keepIn K (.ref f13) = true)
    (a14 : PySem.W.nsIn K mainGlobals "_law_pick" = some (some (.ref f14)))
    (l14 : K.lookup f14 = some ⟨oc14, od14, .func (PySem.W.fnOf "_law_pick" "_law_pick" (defArgs sPick) (defBody sPick) (defScope sPick) .none kV14 dc14 pm14 an14 cd14 ct14), sl14⟩)
    (c14 : PySem.W.codeIn K cd14 "_law_pick" = true)
    (k14 : PySem.W.keepIn K (.ref f14) = true)
    (a15 : PySem.W.nsIn K mainGlobals "_law_gcd" = some (some (.ref f15)))
    (l15 : K.lookup f15 = some ⟨oc15, od15, .func (PySem.W.fnOf "_law_gcd" "_law_gcd" (defArgs sGcd) (defBody sGcd) (defScope sGcd) .none kV15 dc15 pm15 an15 cd15 ct15), sl15⟩)
    (c15 : PySem.W.codeIn K cd15 "_law_gcd" = true)
    (k15 : PySem.W.keepIn K (.ref f15) = true)
    (a16 : PySem.W.nsIn K mainGlobals "_law_lowest" = some (some (.ref f16)))
    (l16 : K.lookup f16 = some ⟨oc16, od16, .func (PySem.W.fnOf "_law_lowest" "_law_lowest" (defArgs sLowest) (defBody sLowest) (defScope sLowest) .none kV16 dc16 pm16 an16 cd16 ct16), sl16⟩)
    (c16 : PySem.W.codeIn K cd16 "_law_lowest" = true)
    (k16 : PySem.W.keepIn K (.ref f16) = true)
    (a17 : PySem.W.nsIn K mainGlobals "_law_size" = some (some (.ref f17)))
    (l17 : K.lookup f17 = some ⟨oc17, od17, .func (PySem.W.fnOf "_law_size" "_law_size" (defArgs sSize) (defBody sSize) (defScope sSize) .none kV17 dc17 pm17 an17 cd17 ct17), sl17⟩)
    (c17 : PySem.W.codeIn K cd17 "_law_size" = true)
    (k17 : PySem.W.keepIn K (.ref f17) = true)
    (a18 : PySem.W.nsIn K mainGlobals "_law_is_whole" = some (some (.ref f18)))
    (l18 : K.lookup f18 = some ⟨oc18, od18, .func (PySem.W.fnOf "_law_is_whole" "_law_is_whole" (defArgs sLWhole) (defBody sLWhole) (defScope sLWhole) .none kV18 dc18 pm18 an18 cd18 ct18), sl18⟩)
    (c18 : PySem.W.codeIn K cd18 "_law_is_whole" = true)
    (k18 : PySem.W.keepIn K (.ref f18) = true)
    (a19 : PySem.W.nsIn K mainGlobals "_law_is_frac" = some (some (.ref f19)))
    (l19 : K.lookup f19 = some ⟨oc19, od19, .func (PySem.W.fnOf "_law_is_frac" "_law_is_frac" (defArgs sLFrac) (defBody sLFrac) (defScope sLFrac) .none kV19 dc19 pm19 an19 cd19 ct19), sl19⟩)
    (c19 : PySem.W.codeIn K cd19 "_law_is_frac" = true)
    (k19 : PySem.W.keepIn K (.ref f19) = true)
    (a20 : PySem.W.nsIn K mainGlobals "_law_same" = some (some (.ref f20)))
    (l20 : K.lookup f20 = some ⟨oc20, od20, .func (PySem.W.fnOf "_law_same" "_law_same" (defArgs sSame) (defBody sSame) (defScope sSame) .none kV20 dc20 pm20 an20 cd20 ct20), sl20⟩)
    (c20 : PySem.W.codeIn K cd20 "_law_same" = true)
    (k20 : PySem.W.keepIn K (.ref f20) = true)
    (a21 : PySem.W.nsIn K mainGlobals "_law_whole" = some (some (.ref f21)))
    (l21 : K.lookup f21 = some ⟨oc21, od21, .func (PySem.W.fnOf "_law_whole" "_law_whole" (defArgs sLInt) (defBody sLInt) (defScope sLInt) .none kV21 dc21 pm21 an21 cd21 ct21), sl21⟩)
    (c21 : PySem.W.codeIn K cd21 "_law_whole" = true)
    (k21 : PySem.W.keepIn K (.ref f21) = true)
    (a22 : PySem.W.nsIn K mainGlobals "_law_great" = some (some (.ref f22)))
    (l22 : K.lookup f22 = some ⟨oc22, od22, .func (PySem.W.fnOf "_law_great" "_law_great" (defArgs sGreat) (defBody sGreat) (defScope sGreat) .none kV22 dc22 pm22 an22 cd22 ct22), sl22⟩)
    (c22 : PySem.W.codeIn K cd22 "_law_great" = true)
    (k22 : PySem.W.keepIn K (.ref f22) = true)
    (a23 : PySem.W.nsIn K mainGlobals "_law_frac" = some (some (.ref f23)))
    (l23 : K.lookup f23 = some ⟨oc23, od23, .func (PySem.W.fnOf "_law_frac" "_law_frac" (defArgs sDFrac) (defBody sDFrac) (defScope sDFrac) .none kV23 dc23 pm23 an23 cd23 ct23), sl23⟩)
    (c23 : PySem.W.codeIn K cd23 "_law_frac" = true)
    (k23 : PySem.W.keepIn K (.ref f23) = true)
    (a24 : PySem.W.nsIn K mainGlobals "_law_frac_wide" = some (some (.ref f24)))
    (l24 : K.lookup f24 = some ⟨oc24, od24, .func (PySem.W.fnOf "_law_frac_wide" "_law_frac_wide" (defArgs sDFracW) (defBody sDFracW) (defScope sDFracW) .none kV24 dc24 pm24 an24 cd24 ct24), sl24⟩)
    (c24 : PySem.W.codeIn K cd24 "_law_frac_wide" = true)
    (k24 : PySem.W.keepIn K (.ref f24) = true)
    (a25 : PySem.W.nsIn K mainGlobals "_law_bad_frac" = some (some (.ref f25)))
    (l25 : K.lookup f25 = some ⟨oc25, od25, .func (PySem.W.fnOf "_law_bad_frac" "_law_bad_frac" (defArgs sBadFrac) (defBody sBadFrac) (defScope sBadFrac) .none kV25 dc25 pm25 an25 cd25 ct25), sl25⟩)
    (c25 : PySem.W.codeIn K cd25 "_law_bad_frac" = true)
    (k25 : PySem.W.keepIn K (.ref f25) = true)
    (a26 : PySem.W.nsIn K mainGlobals "_law_with" = some (some (.ref f26)))
    (l26 : K.lookup f26 = some ⟨oc26, od26, .func (PySem.W.fnOf "_law_with" "_law_with" (defArgs sWith) (defBody sWith) (defScope sWith) .none kV26 dc26 pm26 an26 cd26 ct26), sl26⟩)
    (c26 : PySem.W.codeIn K cd26 "_law_with" = true)
    (k26 : PySem.W.keepIn K (.ref f26) = true)
    (a27 : PySem.W.nsIn K mainGlobals "_law_fracs" = some (some (.ref f27)))
    (l27 : K.lookup f27 = some ⟨oc27, od27, .func (PySem.W.fnOf "_law_fracs" "_law_fracs" (defArgs sFracs) (defBody sFracs) (defScope sFracs) .none kV27 dc27 pm27 an27 cd27 ct27), sl27⟩)
    (c27 : PySem.W.codeIn K cd27 "_law_fracs" = true)
    (k27 : PySem.W.keepIn K (.ref f27) = true)
    (a28 : PySem.W.nsIn K mainGlobals "_law_values" = some (some (.ref f28)))
    (l28 : K.lookup f28 = some ⟨oc28, od28, .func (PySem.W.fnOf "_law_values" "_law_values" (defArgs sVals) (defBody sVals) (defScope sVals) .none kV28 dc28 pm28 an28 cd28 ct28), sl28⟩)
    (c28 : PySem.W.codeIn K cd28 "_law_values" = true)
    (k28 : PySem.W.keepIn K (.ref f28) = true)
    (a29 : PySem.W.nsIn K mainGlobals "_law_wrong_length" = some (some (.ref f29)))
    (l29 : K.lookup f29 = some ⟨oc29, od29, .func (PySem.W.fnOf "_law_wrong_length" "_law_wrong_length" (defArgs sWL) (defBody sWL) (defScope sWL) .none kV29 dc29 pm29 an29 cd29 ct29), sl29⟩)
    (c29 : PySem.W.codeIn K cd29 "_law_wrong_length" = true)
    (k29 : PySem.W.keepIn K (.ref f29) = true)
    (a30 : PySem.W.nsIn K mainGlobals "_law_bad_list" = some (some (.ref f30)))
    (l30 : K.lookup f30 = some ⟨oc30, od30, .func (PySem.W.fnOf "_law_bad_list" "_law_bad_list" (defArgs sBL) (defBody sBL) (defScope sBL) .none kV30 dc30 pm30 an30 cd30 ct30), sl30⟩)
    (c30 : PySem.W.codeIn K cd30 "_law_bad_list" = true)
    (k30 : PySem.W.keepIn K (.ref f30) = true)
    (a31 : PySem.W.nsIn K mainGlobals "_law_divides" = some (some (.ref f31)))
    (l31 : K.lookup f31 = some ⟨oc31, od31, .func (PySem.W.fnOf "_law_divides" "_law_divides" (defArgs sDiv) (defBody sDiv) (defScope sDiv) .none kV31 dc31 pm31 an31 cd31 ct31), sl31⟩)
    (c31 : PySem.W.codeIn K cd31 "_law_divides" = true)
    (k31 : PySem.W.keepIn K (.ref f31) = true)
    (a32 : PySem.W.nsIn K mainGlobals "_law_paper_due" = some (some (.ref f32)))
    (l32 : K.lookup f32 = some ⟨oc32, od32, .func (PySem.W.fnOf "_law_paper_due" "_law_paper_due" (defArgs sPD) (defBody sPD) (defScope sPD) .none kV32 dc32 pm32 an32 cd32 ct32), sl32⟩)
    (c32 : PySem.W.codeIn K cd32 "_law_paper_due" = true)
    (k32 : PySem.W.keepIn K (.ref f32) = true)
    (a33 : PySem.W.nsIn K mainGlobals "_law_holds" = some (some (.ref f33)))
    (l33 : K.lookup f33 = some ⟨oc33, od33, .func (PySem.W.fnOf "_law_holds" "_law_holds" (defArgs sHolds) (defBody sHolds) (defScope sHolds) .none kV33 dc33 pm33 an33 cd33 ct33), sl33⟩)
    (c33 : PySem.W.codeIn K cd33 "_law_holds" = true)
    (k33 : PySem.W.keepIn K (.ref f33) = true)
    (aF : PySem.W.nsIn K mainGlobals "fraction" = some (some (.ref fF)))
    (lF : K.lookup fF = some ⟨ocF, odF, .func (PySem.W.fnOf "fraction" "fraction" (defArgs sFraction) (defBody sFraction) (defScope sFraction) (.ref tF) kVF dcF pmF anF cdF ctF), slF⟩)
    (cF : PySem.W.codeIn K cdF "fraction" = true)
    (kF : PySem.W.keepIn K (.ref fF) = true)
    (lT : K.lookup tF = some ⟨ocT, odT, .seq #[.int 1 tk] nT, slT⟩)
    (aZ : PySem.W.nsIn K mainGlobals "ZERO" = some (some (.ref z0)))
    (o_Z : K.lookup z0 = some ⟨.type "tuple", ddZ, .seq #[.int 0 taZ, .int 1 tbZ] nnZ, ssZ⟩)
    (z_int : PySem.W.nsIn K mainGlobals "int" = some none)
    (z_len : PySem.W.nsIn K mainGlobals "len" = some none)
    (z_list : PySem.W.nsIn K mainGlobals "list" = some none)
    (z_abs : PySem.W.nsIn K mainGlobals "abs" = some none)
    (z_range : PySem.W.nsIn K mainGlobals "range" = some none)
    (z_min : PySem.W.nsIn K mainGlobals "min" = some none)
    (z_max : PySem.W.nsIn K mainGlobals "max" = some none)
    (z_isinstance : PySem.W.nsIn K mainGlobals "isinstance" = some none)
    (z_bool : PySem.W.nsIn K mainGlobals "bool" = some none)
    (z_str : PySem.W.nsIn K mainGlobals "str" = some none)
    (z_dict : PySem.W.nsIn K mainGlobals "dict" = some none)
    (z_tuple : PySem.W.nsIn K mainGlobals "tuple" = some none)
    (z_zip : PySem.W.nsIn K mainGlobals "zip" = some none)
    (z_all : PySem.W.nsIn K mainGlobals "all" = some none)
    (z_gcd : PySem.W.nsIn K mainGlobals "gcd" = some (some (.builtin "math.gcd")))
    (aM : PySem.W.nsIn K mainGlobals "MOST_VALUES" = some (some (.int 12 tkM)))
    (z_lcm : PySem.W.nsIn K mainGlobals "lcm" = some (some (.builtin "math.lcm")))
    (z_VE : PySem.W.nsIn K mainGlobals "ValueError" = some none)
    (aC : PySem.W.nsIn K mainGlobals "BadValue" = some (some (.ref C)))
    (aS : PySem.W.nsIn K mainGlobals "SkyError" = some (some (.ref S)))
    (xL : K.lookup C = some (excClassObj nm qn C N0 bs bm true sn sub ab col dd m0 m1 m2 m3 m5 "ValueError.__new__"))
    (hbm : PySem.HandSPX.refsVE bm = true)
    (sa : PySem.W.findIn K (.ref C) "__setattr__" = some (some (.builtin "object.__setattr__")))
    (ga : PySem.W.findIn K (.ref C) "__getattribute__" = some (some (.builtin "BaseException.__getattribute__")))
    (gg : PySem.W.findIn K (.ref C) "__getattr__" = some none)
    (gc : PySem.W.findIn K (.ref C) "__class__" = some (some (.builtin "object.__class__")))
    (nw : PySem.W.findIn K (.ref C) "what" = some none)
    (aI : PySem.W.findIn K (.ref C) "__init__" = some (some (.ref fI)))
    (tI : PySem.W.typeIn K (.ref fI) = some (.type "function"))
    (lI : K.lookup fI = some ⟨ocI, odI, .func (PySem.W.fnOf "__init__" "BadValue.__init__" (defArgs sInitB) (defBody sInitB) (defScope sInitB) .none kVI dcI pmI anI cdI ctI), slI⟩)
    (cI : PySem.W.codeIn K cdI "BadValue.__init__" = true)
    (kI : PySem.W.keepIn K (.ref fI) = true)
    (kC : PySem.W.keepIn K (.ref C) = true)
    (eC : PySem.W.subIn K (.ref C) (.type "BaseException") = some true)
    (tC : PySem.W.typeIn K (.ref C) = some (.type "type"))
    (hC : PySem.W.hasDictIn K C = true)
    (mC : PySem.W.mroIn K C (.type "object") = some true)
    (vC : PySem.W.subIn K (.ref C) (.type "ValueError") = some true)
    (spc : PySem.W.specialIn K (.builtin "object.__class__") "__get__" = some (some (.builtin "getset_descriptor.__get__")))
    (tkc : PySem.W.takesIn K (.builtin "object.__class__") = some true)
    (eS : PySem.W.subIn K (.ref S) (.type "BaseException") = some true)
    (hS : PySem.W.hasDictIn K S = true)
    (tS : PySem.W.typeIn K (.ref S) = some (.type "type"))
    (cS : PySem.W.subIn K (.ref C) (.ref S) = some true)
    (a_Mismatch : PySem.W.nsIn K mainGlobals "Mismatch" = some (some (.ref C_Mismatch)))
    (t_Mismatch : PySem.W.typeIn K (.ref C_Mismatch) = some (.type "type"))
    (h_Mismatch : PySem.W.hasDictIn K C_Mismatch = true)
    (s_Mismatch : PySem.W.subIn K (.ref C) (.ref C_Mismatch) = some false)
    (n_Mismatch : (Value.ref C == Value.ref C_Mismatch) = false)
    (a_Still : PySem.W.nsIn K mainGlobals "Still" = some (some (.ref C_Still)))
    (t_Still : PySem.W.typeIn K (.ref C_Still) = some (.type "type"))
    (h_Still : PySem.W.hasDictIn K C_Still = true)
    (s_Still : PySem.W.subIn K (.ref C) (.ref C_Still) = some false)
    (n_Still : (Value.ref C == Value.ref C_Still) = false)
    (a_Endless : PySem.W.nsIn K mainGlobals "Endless" = some (some (.ref C_Endless)))
    (t_Endless : PySem.W.typeIn K (.ref C_Endless) = some (.type "type"))
    (h_Endless : PySem.W.hasDictIn K C_Endless = true)
    (s_Endless : PySem.W.subIn K (.ref C) (.ref C_Endless) = some false)
    (n_Endless : (Value.ref C == Value.ref C_Endless) = false)
    (a_TooMany : PySem.W.nsIn K mainGlobals "TooMany" = some (some (.ref C_TooMany)))
    (t_TooMany : PySem.W.typeIn K (.ref C_TooMany) = some (.type "type"))
    (h_TooMany : PySem.W.hasDictIn K C_TooMany = true)
    (s_TooMany : PySem.W.subIn K (.ref C) (.ref C_TooMany) = some false)
    (n_TooMany : (Value.ref C == Value.ref C_TooMany) = false)
    (a_NoName : PySem.W.nsIn K mainGlobals "NoName" = some (some (.ref C_NoName)))
    (t_NoName : PySem.W.typeIn K (.ref C_NoName) = some (.type "type"))
    (h_NoName : PySem.W.hasDictIn K C_NoName = true)
    (s_NoName : PySem.W.subIn K (.ref C) (.ref C_NoName) = some false)
    (n_NoName : (Value.ref C == Value.ref C_NoName) = false)
    (a_Taken : PySem.W.nsIn K mainGlobals "Taken" = some (some (.ref C_Taken)))
    (t_Taken : PySem.W.typeIn K (.ref C_Taken) = some (.type "type"))
    (h_Taken : PySem.W.hasDictIn K C_Taken = true)
    (s_Taken : PySem.W.subIn K (.ref C) (.ref C_Taken) = some false)
    (n_Taken : (Value.ref C == Value.ref C_Taken) = false)
    (a_Locked : PySem.W.nsIn K mainGlobals "Locked" = some (some (.ref C_Locked)))
    (t_Locked : PySem.W.typeIn K (.ref C_Locked) = some (.type "type"))
    (h_Locked : PySem.W.hasDictIn K C_Locked = true)
    (s_Locked : PySem.W.subIn K (.ref C) (.ref C_Locked) = some false)
    (n_Locked : (Value.ref C == Value.ref C_Locked) = false)
    (a_Looped : PySem.W.nsIn K mainGlobals "Looped" = some (some (.ref C_Looped)))
    (t_Looped : PySem.W.typeIn K (.ref C_Looped) = some (.type "type"))
    (h_Looped : PySem.W.hasDictIn K C_Looped = true)
    (s_Looped : PySem.W.subIn K (.ref C) (.ref C_Looped) = some false)
    (n_Looped : (Value.ref C == Value.ref C_Looped) = false)
    (a_Broken : PySem.W.nsIn K mainGlobals "Broken" = some (some (.ref C_Broken)))
    (t_Broken : PySem.W.typeIn K (.ref C_Broken) = some (.type "type"))
    (h_Broken : PySem.W.hasDictIn K C_Broken = true)
    (s_Broken : PySem.W.subIn K (.ref C) (.ref C_Broken) = some false)
    (n_Broken : (Value.ref C == Value.ref C_Broken) = false)
    (a_ReadError : PySem.W.nsIn K mainGlobals "ReadError" = some (some (.ref C_ReadError)))
    (t_ReadError : PySem.W.typeIn K (.ref C_ReadError) = some (.type "type"))
    (h_ReadError : PySem.W.hasDictIn K C_ReadError = true)
    (s_ReadError : PySem.W.subIn K (.ref C) (.ref C_ReadError) = some false)
    (n_ReadError : (Value.ref C == Value.ref C_ReadError) = false)
    (aA : PySem.W.nsIn K mainGlobals "_law_asked" = some (some (.ref gA)))
    (lA : K.lookup gA = some ⟨ocA, odA, .func (PySem.W.fnOf "_law_asked" "_law_asked" (defArgs sAsked) (defBody sAsked) (defScope sAsked) .none kVA dcA pmA anA cdA ctA), slA⟩)
    (cA : PySem.W.codeIn K cdA "_law_asked" = true)
    (kA : PySem.W.keepIn K (.ref gA) = true)
    (aR : PySem.W.nsIn K mainGlobals "_law_refuses" = some (some (.ref fR)))
    (lR : K.lookup fR = some ⟨ocR, odR, .func (PySem.W.fnOf "_law_refuses" "_law_refuses" (defArgs sRefuses) (defBody sRefuses) (defScope sRefuses) .none kVR dcR pmR anR (.ref cR) ctR), slR⟩)
    (cdR : PySem.W.codeIn K (.ref cR) "_law_refuses" = true)
    (kR : PySem.W.keepIn K (.ref fR) = true)
    (aL : PySem.W.nsIn K mainGlobals "law" = some (some (.ref fL)))
    (lL : K.lookup fL = some ⟨ocL, odL, .func (PySem.W.fnOf "law" "law" (defArgs sLaw) (defBody sLaw) (defScope sLaw) .none kVL dcL pmL anL cdvL ctL), slL⟩)
    (cL : PySem.W.codeIn K cdvL "law" = true)
    (kL : PySem.W.keepIn K (.ref fL) = true) :
    ∃ fd : FuncData, (∀ (s : Shared) (v : Value), BindsTo s fd ⟨[v], []⟩ [("_law_script", v)]) ∧ ∀ base : Heap, K.In base → base.Ns mainGlobals mg → ∀ Pt : Addr, LamX.TabB base mg cR Pt → FnOk P w K mg base CX0 9 fa fd ["_law_script"] (spLaw K Pt) := by
  have DRequire : Dfn K mg "require" sRequire ["well_formed", "what"] := dfn_mk X G a0 l0 c0 k0 fun _ _ _ _ _ _ us hl => match us, hl with | [_, _], _ => rfl
  have DWhole : Dfn K mg "is_whole" sWhole ["value"] := dfn_mk X G a1 l1 c1 k1 fun _ _ _ _ _ _ us hl => match us, hl with | [_], _ => rfl
  have DIsFraction : Dfn K mg "is_fraction" sIsFraction ["value"] := dfn_mk X G a2 l2 c2 k2 fun _ _ _ _ _ _ us hl => match us, hl with | [_], _ => rfl
  have DPlus : Dfn K mg "plus" sPlus ["left", "right"] := dfn_mk X G a3 l3 c3 k3 fun _ _ _ _ _ _ us hl => match us, hl with | [_, _], _ => rfl
  have DTimes : Dfn K mg "times" sTimes ["left", "right"] := dfn_mk X G a4 l4 c4 k4 fun _ _ _ _ _ _ us hl => match us, hl with | [_, _], _ => rfl
  have DVl : Dfn K mg "_is_value_list" sVl ["values"] := dfn_mk X G a5 l5 c5 k5 fun _ _ _ _ _ _ us hl => match us, hl with | [_], _ => rfl
  have DBez : Dfn K mg "_bezout" sBez ["left", "right"] := dfn_mk X G a6 l6 c6 k6 fun _ _ _ _ _ _ us hl => match us, hl with | [_, _], _ => rfl
  have DWS : Dfn K mg "weighted_sum" sWS ["weights", "values"] := dfn_mk X G a7 l7 c7 k7 fun _ _ _ _ _ _ us hl => match us, hl with | [_, _], _ => rfl
  have DCM : Dfn K mg "common_measure" sCM ["values"] := dfn_mk X G a8 l8 c8 k8 fun _ _ _ _ _ _ us hl => match us, hl with | [_], _ => rfl
  have DMP : Dfn K mg "measure_paper" sMP ["values"] := dfn_mk X G a9 l9 c9 k9 fun _ _ _ _ _ _ us hl => match us, hl with | [_], _ => rfl
  have DIMP : Dfn K mg "is_measure_paper" sIMP ["values", "paper"] := dfn_mk X G a10 l10 c10 k10 fun _ _ _ _ _ _ us hl => match us, hl with | [_, _], _ => rfl
  have DMixed : Dfn K mg "_law_mixed" sMixed ["_law_number", "_law_turn"] := dfn_mk X G a11 l11 c11 k11 fun _ _ _ _ _ _ us hl => match us, hl with | [_, _], _ => rfl
  have DStore : Dfn K mg "_law_store" sStore ["_law_script"] := dfn_mk X G a12 l12 c12 k12 fun _ _ _ _ _ _ us hl => match us, hl with | [_], _ => rfl
  have DTake : Dfn K mg "_law_take" sTake ["_law_store_here", "_law_many"] := dfn_mk X G a13 l13 c13 k13 fun _ _ _ _ _ _ us hl => match us, hl with | [_, _], _ => rfl
  have DPick : Dfn K mg "_law_pick" sPick ["_law_store_here", "_law_row"] := dfn_mk X G a14 l14 c14 k14 fun _ _ _ _ _ _ us hl => match us, hl with | [_, _], _ => rfl
  have DGcd : Dfn K mg "_law_gcd" sGcd ["_law_left", "_law_right"] := dfn_mk X G a15 l15 c15 k15 fun _ _ _ _ _ _ us hl => match us, hl with | [_, _], _ => rfl
  have DLowest : Dfn K mg "_law_lowest" sLowest ["_law_top", "_law_bottom"] := dfn_mk X G a16 l16 c16 k16 fun _ _ _ _ _ _ us hl => match us, hl with | [_, _], _ => rfl
  have DSize : Dfn K mg "_law_size" sSize ["_law_store_here", "_law_top"] := dfn_mk X G a17 l17 c17 k17 fun _ _ _ _ _ _ us hl => match us, hl with | [_, _], _ => rfl
  have DLWhole : Dfn K mg "_law_is_whole" sLWhole ["_law_told"] := dfn_mk X G a18 l18 c18 k18 fun _ _ _ _ _ _ us hl => match us, hl with | [_], _ => rfl
  have DLFrac : Dfn K mg "_law_is_frac" sLFrac ["_law_told"] := dfn_mk X G a19 l19 c19 k19 fun _ _ _ _ _ _ us hl => match us, hl with | [_], _ => rfl
  have DSame : Dfn K mg "_law_same" sSame ["_law_told", "_law_due"] := dfn_mk X G a20 l20 c20 k20 fun _ _ _ _ _ _ us hl => match us, hl with | [_, _], _ => rfl
  have DLInt : Dfn K mg "_law_whole" sLInt ["_law_store_here", "_law_reach"] := dfn_mk X G a21 l21 c21 k21 fun _ _ _ _ _ _ us hl => match us, hl with | [_, _], _ => rfl
  have DGreat : Dfn K mg "_law_great" sGreat ["_law_store_here"] := dfn_mk X G a22 l22 c22 k22 fun _ _ _ _ _ _ us hl => match us, hl with | [_], _ => rfl
  have DDFrac : Dfn K mg "_law_frac" sDFrac ["_law_store_here"] := dfn_mk X G a23 l23 c23 k23 fun _ _ _ _ _ _ us hl => match us, hl with | [_], _ => rfl
  have DDFracW : Dfn K mg "_law_frac_wide" sDFracW ["_law_store_here"] := dfn_mk X G a24 l24 c24 k24 fun _ _ _ _ _ _ us hl => match us, hl with | [_], _ => rfl
  have DBadFrac : Dfn K mg "_law_bad_frac" sBadFrac ["_law_store_here"] := dfn_mk X G a25 l25 c25 k25 fun _ _ _ _ _ _ us hl => match us, hl with | [_], _ => rfl
  have DWith : Dfn K mg "_law_with" sWith ["_law_store_here", "_law_row", "_law_item"] := dfn_mk X G a26 l26 c26 k26 fun _ _ _ _ _ _ us hl => match us, hl with | [_, _, _], _ => rfl
  have DFracs : Dfn K mg "_law_fracs" sFracs ["_law_store_here", "_law_low", "_law_high"] := dfn_mk X G a27 l27 c27 k27 fun _ _ _ _ _ _ us hl => match us, hl with | [_, _, _], _ => rfl
  have DVals : Dfn K mg "_law_values" sVals ["_law_store_here"] := dfn_mk X G a28 l28 c28 k28 fun _ _ _ _ _ _ us hl => match us, hl with | [_], _ => rfl
  have DWL : Dfn K mg "_law_wrong_length" sWL ["_law_store_here", "_law_row", "_law_low", "_law_high"] := dfn_mk X G a29 l29 c29 k29 fun _ _ _ _ _ _ us hl => match us, hl with | [_, _, _, _], _ => rfl
  have DBL : Dfn K mg "_law_bad_list" sBL ["_law_store_here", "_law_row"] := dfn_mk X G a30 l30 c30 k30 fun _ _ _ _ _ _ us hl => match us, hl with | [_, _], _ => rfl
  have DDiv : Dfn K mg "_law_divides" sDiv ["_law_measure", "_law_value"] := dfn_mk X G a31 l31 c31 k31 fun _ _ _ _ _ _ us hl => match us, hl with | [_, _], _ => rfl
  have DPD : Dfn K mg "_law_paper_due" sPD ["_law_values_here", "_law_paper"] := dfn_mk X G a32 l32 c32 k32 fun _ _ _ _ _ _ us hl => match us, hl with | [_, _], _ => rfl
  have DHolds : Dfn K mg "_law_holds" sHolds ["_law_values_here"] := dfn_mk X G a33 l33 c33 k33 fun _ _ _ _ _ _ us hl => match us, hl with | [_], _ => rfl
  have FD : FunD K "fraction" "fraction" (defArgs sFraction) (defBody sFraction) (defScope sFraction) [.int 1] [] fF _ := ⟨⟨ocF, odF, _, kVF, dcF, pmF, anF, cdF, ctF, slF, rfl, lF, cF, .inr ⟨by simp, tF, _, [.int 1 tk], nT, rfl, lT, rfl, .cons ⟨tk, rfl⟩ .nil⟩, .inl rfl⟩, kF⟩
  have DFraction : DfnD K mg "fraction" sFraction ["numerator", "denominator"] := by
    obtain ⟨ds, hv, hb⟩ := FD.binds1 (ps := ["numerator", "denominator"]) 2 1 (by simp) rfl fun T kV doc pm an cdv ct us its hu hi => match us, its, hu, hi with
      | [u1, u2], [i1], _, _ => ⟨_, rfl, rfl⟩
    cases hv
    exact ⟨fF, _, _, FD, PySem.W.mg_of X G aF, hb⟩
  have DFraction1 : DfnD1 K mg "fraction" sFraction ["numerator", "denominator"] (.int 1) := by
    obtain ⟨ds, hv, hb⟩ := FD.binds1 (ps := ["numerator", "denominator"]) 1 0 (by simp) rfl fun T kV doc pm an cdv ct us its hu hi => match us, its, hu, hi with
      | [u1], [i1], _, _ => ⟨_, rfl, rfl⟩
    exact ⟨fF, _, _, ds, FD, PySem.W.mg_of X G aF, hv, hb⟩
  have T : Bt K mg := ⟨PySem.W.mg_none_of X G z_int, PySem.W.mg_none_of X G z_len, PySem.W.mg_none_of X G z_list, PySem.W.mg_none_of X G z_abs, PySem.W.mg_none_of X G z_range, PySem.W.mg_none_of X G z_min, PySem.W.mg_none_of X G z_max, PySem.W.mg_none_of X G z_isinstance, PySem.W.mg_none_of X G z_bool, PySem.W.mg_none_of X G z_str, PySem.W.mg_none_of X G z_dict, PySem.W.mg_none_of X G z_tuple, PySem.W.mg_of X G z_gcd⟩
  have FI := fun_mk (st := sInitB) lI cI kI
  have bI := FI.binds (ps := ["self", "what"]) fun _ _ _ _ _ _ us hl => match us, hl with | [_, _], _ => rfl
  have B : BvT K mg C := ⟨PySem.W.mg_of X G aC, ⟨⟨nm, qn, N0, bs, bm, sn, sub, ab, col, dd, m0, m1, m2, m3, m5, xL, hbm⟩, sa, eC, tC, kC⟩, nw, fI, _, aI, tI, FI, bI⟩
  have icC : (PySem.W.clsIn K C).isSome = true := by
    obtain ⟨cd, hc, _⟩ := PySem.W.any_some hC
    rw [hc]; rfl
  let A : String → Addr := fun n => if n = "Mismatch" then C_Mismatch else if n = "Still" then C_Still else if n = "Endless" then C_Endless else if n = "TooMany" then C_TooMany else if n = "NoName" then C_NoName else if n = "Taken" then C_Taken else if n = "Locked" then C_Locked else if n = "Looped" then C_Looped else if n = "Broken" then C_Broken else if n = "ReadError" then C_ReadError else C
  have kit : ∀ D : Addr, PySem.W.typeIn K (.ref D) = some (.type "type") → PySem.W.hasDictIn K D = true → PySem.W.subIn K (.ref C) (.ref D) = some false → (Value.ref C == Value.ref D) = false → PySem.W.kitOne K (.ref C) (.ref D) = some false := fun D h1 h2 h3 h4 => by
    obtain ⟨cd, hc, _⟩ := PySem.W.any_some h2
    unfold PySem.W.kitOne PySem.W.kitCls
    rw [h4, if_neg Bool.false_ne_true]
    show (if ((PySem.W.clsIn K D).isSome && PySem.W.typeIn K (.ref D) == some (.type "type")) = true then PySem.W.subIn K (.ref C) (.ref D) else none) = some false
    rw [hc, h1, if_pos (by rfl)]
    exact h3
  have AT : AskT K mg C S A := {
    sky := PySem.W.mg_of X G aS
    exm := PySem.W.exm_ref eS hS tS cS
    g := fun n hn => by
      simp only [List.mem_cons, List.not_mem_nil, or_false] at hn
      rcases hn with rfl | rfl | rfl | rfl | rfl | rfl | rfl | rfl | rfl | rfl | rfl
      · exact PySem.W.mg_of X G aC
      · exact PySem.W.mg_of X G a_Mismatch
      · exact PySem.W.mg_of X G a_Still
      · exact PySem.W.mg_of X G a_Endless
      · exact PySem.W.mg_of X G a_TooMany
      · exact PySem.W.mg_of X G a_NoName
      · exact PySem.W.mg_of X G a_Taken
      · exact PySem.W.mg_of X G a_Locked
      · exact PySem.W.mg_of X G a_Looped
      · exact PySem.W.mg_of X G a_Broken
      · exact PySem.W.mg_of X G a_ReadError
    k := fun n hn => by
      simp only [List.mem_cons, List.not_mem_nil, or_false] at hn
      rcases hn with rfl | rfl | rfl | rfl | rfl | rfl | rfl | rfl | rfl | rfl | rfl
      · show PySem.W.kitOne K (.ref C) (.ref C) = some true
        unfold PySem.W.kitOne
        rw [if_pos (by simp)]
      · exact kit C_Mismatch t_Mismatch h_Mismatch s_Mismatch n_Mismatch
      · exact kit C_Still t_Still h_Still s_Still n_Still
      · exact kit C_Endless t_Endless h_Endless s_Endless n_Endless
      · exact kit C_TooMany t_TooMany h_TooMany s_TooMany n_TooMany
      · exact kit C_NoName t_NoName h_NoName s_NoName n_NoName
      · exact kit C_Taken t_Taken h_Taken s_Taken n_Taken
      · exact kit C_Locked t_Locked h_Locked s_Locked n_Locked
      · exact kit C_Looped t_Looped h_Looped s_Looped n_Looped
      · exact kit C_Broken t_Broken h_Broken s_Broken n_Broken
      · exact kit C_ReadError t_ReadError h_ReadError s_ReadError n_ReadError
    ve := by
      unfold PySem.W.kitOne PySem.W.kitCls
      rw [if_neg (by simp)]
      show (if PySem.W.kitMeta "ValueError" = true then PySem.W.subIn K (.ref C) (.type "ValueError") else none) = some true
      rw [if_pos (by decide +kernel)]
      exact vC
    b_VE := PySem.W.mg_none_of X G z_VE
    hcl := icC
    hga := ga
    hgt := gg
    hsub := eC
    ha := gc
    hn := spc
    htk := tkc
    hm := mC
    xf := ⟨ga, gg, eC, hC⟩ }
  have FA := fun_mk (st := sAsked) lA cA kA
  have AS : AskD K mg gA ocA odA .none kVA dcA pmA anA cdA ctA slA := ⟨PySem.W.mg_of X G aA, kA, lA, cA, FA.binds (ps := ["_law_call"]) fun _ _ _ _ _ _ us hl => match us, hl with | [_], _ => rfl⟩
  have FR := fun_mk (st := sRefuses) lR cdR kR
  have bR := FR.binds (ps := ["_law_store_here", "_law_values_here"]) fun _ _ _ _ _ _ us hl => match us, hl with | [_, _], _ => rfl
  have FL := fun_mk (st := sLaw) lL cL kL
  refine ⟨PySem.W.fnOf "law" "law" (defArgs sLaw) (defBody sLaw) (defScope sLaw) .none kVL dcL pmL anL cdvL ctL, fun s v => .of_eq rfl, fun base _ _ Pt TB => ?_⟩
  have e := hfa.symm.trans (PySem.W.mg_of X G aL)
  cases e
  have kMixed := k_Mixed (P := P) (w := w) (base := base) T DMixed
  have kTake := k_Take T DTake kMixed
  have kPick := k_Pick T DPick kTake
  have kGcd := k_Gcd (P := P) (w := w) (base := base) T DGcd
  have kLowest := k_Lowest T DLowest kGcd
  have kRequire := k_Require (P := P) (w := w) (base := base) T DRequire
  have kWhole := k_Whole (P := P) (w := w) (base := base) T DWhole
  have kLWhole := k_LWhole (P := P) (w := w) (base := base) T DLWhole
  have kFraction := k_Fraction T DFraction kRequire kWhole
  have kFraction1 := k_Fraction1 T DFraction1 kRequire kWhole
  have kIsFraction := k_IsFraction T DIsFraction kWhole
  have kPlus := k_Plus T DPlus kRequire kIsFraction kFraction
  have kTimes := k_Times T DTimes kRequire kIsFraction kFraction
  have kLFrac := k_LFrac T DLFrac kLWhole kGcd
  have kSame := k_same T DSame kLWhole 3
  have kLInt := k_LInt T DLInt kTake
  have kGreat := k_Great T DGreat kTake
  have kDFrac := k_DFrac T DDFrac kTake kLowest
  have kDFracW := k_DFracW T DDFracW kTake kLowest kGreat kLInt kDFrac
  have kStore := k_Store (P := P) (w := w) (base := base) T DStore
  have kBadF := k_BadFrac T DBadFrac kTake kDFrac kPick
  have gZ := PySem.W.mg_of X G aZ
  have oZ := ob_con o_Z
  have zA := PySem.W.mg_none_of X G z_all
  have kVl := k_Vl zA (PySem.W.mg_of X G aM) T DVl kIsFraction
  have kBez := k_Bez (P := P) (w := w) (base := base) T DBez
  have kWS := k_WS T gZ oZ (PySem.W.mg_none_of X G z_zip) kFraction1 DWS kPlus kTimes
  have kCM := k_CM T (PySem.W.mg_of X G z_lcm) DCM kRequire kVl kFraction
  have kMP := k_MP T gZ oZ DMP kRequire kVl kBez kWS
  have kSize := k_Size T DSize kTake
  have kWith := k_With T DWith kTake
  have kFracs := k_Fracs T DFracs kTake kSize kPick kDFracW kDFrac
  have kVals := k_Vals T DVals kTake kSize kFracs kGreat kLInt kLowest
  have kWL := k_WL T DWL kTake
  have kBL := k_BL T DBL kPick
  have kDiv := k_Div (P := P) (w := w) (base := base) T DDiv
  have kPD := k_PD T DPD kLFrac kLWhole kDiv
  have kHolds := k_Holds T DHolds kMP kPD kCM kSame
  have xReq := kx_Require (P := P) (w := w) (base := base) B DRequire
  have xCM := kx_CM B DCM xReq kVl
  have xMP := kx_MP B DMP xReq kVl
  have xIMP := kx_IMP B DIMP xReq kVl
  have HX : ∀ f, isTwo mg f → ∃ fd ps, FnOk P w K mg base (L2.CX P w) 4 f fd ps (spVX K C) ∧ PySem.W.keepIn K (.ref f) = true ∧ Binds K fd ps [] := fun f ⟨n, hn, e⟩ => by
    simp only [List.mem_cons, List.not_mem_nil, or_false] at hn
    rcases hn with rfl | rfl
    · obtain ⟨f', fd, m, kp, b, F⟩ := xCM.ex
      rw [e] at m
      cases m
      exact ⟨fd, _, F, kp, b⟩
    · obtain ⟨f', fd, m, kp, b, F⟩ := xMP.ex
      rw [e] at m
      cases m
      exact ⟨fd, _, F, kp, b⟩
  have kRef : Kn P w K mg base 8 "_law_refuses" ["_law_store_here", "_law_values_here"] (spRefuses K Pt) := ⟨fR, _, PySem.W.mg_of X G aR, kR, bR, ok_refuses T B AT AS lR cdR TB (PySem.W.mg_of X G a8) (PySem.W.mg_of X G a9) HX xIMP kWith kBadF kWL kBL kSame kPick kMP kDFrac⟩
  exact ok_law FL T kStore kVals kHolds kRef
end My

namespace My
open PySem PySem.Spec PyProof.Rows L2
/-- the end as the head asks for it -/
theorem law_at {l : PySem.W.OpenLaw} {w : World} {K : PySem.W.Frag} {h : Heap} {mg : Str → Option Value} {fa cR Pt : Addr} (hT : h.get? Pt = some { cls := .none, data := .fields #[] }) (nP : K.lookup Pt = none) (C : PySem.W.CodeHd h cR Pt)
    (R : ∃ fd : FuncData, (∀ (s : Shared) (v : Value), BindsTo s fd ⟨[v], []⟩ [("_law_script", v)]) ∧ ∀ base : Heap, K.In base → base.Ns mainGlobals mg → ∀ Pt : Addr, LamX.TabB base mg cR Pt → FnOk l.prog w K mg base CX0 9 fa fd ["_law_script"] (spLaw K Pt)) :
    LamX.LawAtS l w K CX0 9 63 "_law_script" mg fa h := by
  obtain ⟨fd, hb, F⟩ := R
  have one : ∀ {p : Addr × Addr} {q : Addr × Addr → Prop}, q (cR, Pt) → p ∈ [(cR, Pt)] → q p := fun {p q} h hp => by
    rw [List.mem_singleton] at hp
    rw [hp]
    exact h
  refine ⟨fd, [(cR, Pt)], spLaw K Pt, fun p hp => one (q := fun p => h.get? p.2 = _) hT hp, fun p hp => one (q := fun p => K.lookup p.2 = none) nP hp, fun p hp => one (q := fun p => PySem.W.CodeHd h p.1 p.2) C hp, hb, fun H a ns hl hbits hH hS => ?_, fun base X G TB => F base X G Pt (TB (cR, Pt) (List.mem_singleton.mpr rfl))⟩
  exact ⟨a, ns, rfl, hS, hH (cR, Pt) (List.mem_singleton.mpr rfl), fun _ => rfl⟩
theorem walk_mk {l : PySem.W.OpenLaw} {q : Program} {loose : List Str} {XP : (Str → Option Value) → Heap → Prop} {YP : World → Heap → Prop} {d : DefRec} {K : Params → PySem.W.Frag} (hn : l.most = some 63) (hdf : d.params.defaults = [])
    (hY : ∀ (w : World) (h : Heap), YP w h → (K w.params).In h)
    (F : ∀ (w : World) (mg : Str → Option Value) (fa : Addr) (h : Heap), YP w h → (K w.params).In h → h.Ns mainGlobals mg → mg d.name = some (.ref fa) → LamX.LawAtS l w (K w.params) CX0 9 63 "_law_script" mg fa h) :
    PySem.W.WalkO q loose XP YP l.row.toRowW d [] (fun f vs => PySem.call f vs) :=
  LamX.walk_ofTs (CX := fun _ => CX0) hn (by decide) hdf ⟨rfl, by decide, by decide⟩ hY F fun _ _ _ _ _ z => z
end My
open PySem PySem.W PyProof.Rows
set_option maxRecDepth 100000 in
set_option maxHeartbeats 0 in
theorem PySem.Challenge.cw_wheelsky_k03_common_measures_holds : PySem.Challenge.rw_wheelsky_k03_common_measures.Holds := by
  w_on; o_law; k_head; (case hw => w_witness2)
  k_fill
  refine My.walk_mk (l := PySem.Challenge.rw_wheelsky_k03_common_measures) rfl rfl (fun w h Y => km_in_of Y) ?F
  case F =>
    intro w mg fa h Y KX G hmg
    refine' My.law_at (km_tabs_of Y _ (List.mem_cons_self ..)) ?nP ?cH (My.all_mk KX G hmg ?a0 ?l0 ?c0 ?k0 ?a1 ?l1 ?c1 ?k1 ?a2 ?l2 ?c2 ?k2 ?a3 ?l3 ?c3 ?k3 ?a4 ?l4 ?c4 ?k4 ?a5 ?l5 ?c5 ?k5 ?a6 ?l6 ?c6 ?k6 ?a7 ?l7 ?c7 ?k7 ?a8 ?l8 ?c8 ?k8 ?a9 ?l9 ?c9 ?k9 ?a10 ?l10 ?c10 ?k10 ?a11 ?l11 ?c11 ?k11 ?a12 ?l12 ?c12 ?k12 ?a13 ?l13 ?c13 ?k13 ?a14 ?l14 ?c14 ?k14 ?a15 ?l15 ?c15 ?k15 ?a16 ?l16 ?c16 ?k16 ?a17 ?l17 ?c17 ?k17 ?a18 ?l18 ?c18 ?k18 ?a19 ?l19 ?c19 ?k19 ?a20 ?l20 ?c20 ?k20 ?a21 ?l21 ?c21 ?k21 ?a22 ?l22 ?c22 ?k22 ?a23 ?l23 ?c23 ?k23 ?a24 ?l24 ?c24 ?k24 ?a25 ?l25 ?c25 ?k25 ?a26 ?l26 ?c26 ?k26 ?a27 ?l27 ?c27 ?k27 ?a28 ?l28 ?c28 ?k28 ?a29 ?l29 ?c29 ?k29 ?a30 ?l30 ?c30 ?k30 ?a31 ?l31 ?c31 ?k31 ?a32 ?l32 ?c32 ?k32 ?a33 ?l33 ?c33 ?k33 ?aF ?lF ?cF ?kF ?lT ?aZ ?o_Z ?z_int ?z_len ?z_list ?z_abs ?z_range ?z_min ?z_max ?z_isinstance ?z_bool ?z_str ?z_dict ?z_tuple ?z_zip ?z_all ?z_gcd ?aM ?z_lcm ?z_VE ?aC ?aS ?xL ?hbm ?sa ?ga ?gg ?gc ?nw ?aI ?tI ?lI ?cI ?kI ?kC ?eC ?tC ?hC ?mC ?vC ?spc ?tkc ?eS ?hS ?tS ?cS ?a_Mismatch ?t_Mismatch ?h_Mismatch ?s_Mismatch ?n_Mismatch ?a_Still ?t_Still ?h_Still ?s_Still ?n_Still ?a_Endless ?t_Endless ?h_Endless ?s_Endless ?n_Endless ?a_TooMany ?t_TooMany ?h_TooMany ?s_TooMany ?n_TooMany ?a_NoName ?t_NoName ?h_NoName ?s_NoName ?n_NoName ?a_Taken ?t_Taken ?h_Taken ?s_Taken ?n_Taken ?a_Locked ?t_Locked ?h_Locked ?s_Locked ?n_Locked ?a_Looped ?t_Looped ?h_Looped ?s_Looped ?n_Looped ?a_Broken ?t_Broken ?h_Broken ?s_Broken ?n_Broken ?a_ReadError ?t_ReadError ?h_ReadError ?s_ReadError ?n_ReadError ?aA ?lA ?cA ?kA ?aR ?lR ?cdR ?kR ?aL ?lL ?cL ?kL)
    (case a0 => k_is); (case l0 => k_is); (case c0 => k_is); (case k0 => k_is); (case a1 => k_is); (case l1 => k_is); (case c1 => k_is); (case k1 => k_is)
    (case a2 => k_is); (case l2 => k_is); (case c2 => k_is); (case k2 => k_is); (case a3 => k_is); (case l3 => k_is); (case c3 => k_is); (case k3 => k_is)
    (case a4 => k_is); (case l4 => k_is); (case c4 => k_is); (case k4 => k_is); (case a5 => k_is); (case l5 => k_is); (case c5 => k_is); (case k5 => k_is)
    (case a6 => k_is); (case l6 => k_is); (case c6 => k_is); (case k6 => k_is); (case a7 => k_is); (case l7 => k_is); (case c7 => k_is); (case k7 => k_is)
    (case a8 => k_is); (case l8 => k_is); (case c8 => k_is); (case k8 => k_is); (case a9 => k_is); (case l9 => k_is); (case c9 => k_is); (case k9 => k_is)
    (case a10 => k_is); (case l10 => k_is); (case c10 => k_is); (case k10 => k_is); (case a11 => k_is); (case l11 => k_is); (case c11 => k_is); (case k11 => k_is)
    (case a12 => k_is); (case l12 => k_is); (case c12 => k_is); (case k12 => k_is); (case a13 => k_is); (case l13 => k_is); (case c13 => k_is); (case k13 => k_is)
    (case a14 => k_is); (case l14 => k_is); (case c14 => k_is); (case k14 => k_is); (case a15 => k_is); (case l15 => k_is); (case c15 => k_is); (case k15 => k_is)
    (case a16 => k_is); (case l16 => k_is); (case c16 => k_is); (case k16 => k_is); (case a17 => k_is); (case l17 => k_is); (case c17 => k_is); (case k17 => k_is)
    (case a18 => k_is); (case l18 => k_is); (case c18 => k_is); (case k18 => k_is); (case a19 => k_is); (case l19 => k_is); (case c19 => k_is); (case k19 => k_is)
    (case a20 => k_is); (case l20 => k_is); (case c20 => k_is); (case k20 => k_is); (case a21 => k_is); (case l21 => k_is); (case c21 => k_is); (case k21 => k_is)
    (case a22 => k_is); (case l22 => k_is); (case c22 => k_is); (case k22 => k_is); (case a23 => k_is); (case l23 => k_is); (case c23 => k_is); (case k23 => k_is)
    (case a24 => k_is); (case l24 => k_is); (case c24 => k_is); (case k24 => k_is); (case a25 => k_is); (case l25 => k_is); (case c25 => k_is); (case k25 => k_is)
    (case a26 => k_is); (case l26 => k_is); (case c26 => k_is); (case k26 => k_is); (case a27 => k_is); (case l27 => k_is); (case c27 => k_is); (case k27 => k_is)
    (case a28 => k_is); (case l28 => k_is); (case c28 => k_is); (case k28 => k_is); (case a29 => k_is); (case l29 => k_is); (case c29 => k_is); (case k29 => k_is)
    (case a30 => k_is); (case l30 => k_is); (case c30 => k_is); (case k30 => k_is); (case a31 => k_is); (case l31 => k_is); (case c31 => k_is); (case k31 => k_is)
    (case a32 => k_is); (case l32 => k_is); (case c32 => k_is); (case k32 => k_is); (case a33 => k_is); (case l33 => k_is); (case c33 => k_is); (case k33 => k_is)
    (case aF => k_is); (case lF => k_is); (case cF => k_is); (case kF => k_is); (case lT => k_is); (case aZ => k_is); (case o_Z => k_is); (case z_int => k_is)
    (case z_len => k_is); (case z_list => k_is); (case z_abs => k_is); (case z_range => k_is); (case z_min => k_is); (case z_max => k_is); (case z_isinstance => k_is); (case z_bool => k_is)
    (case z_str => k_is); (case z_dict => k_is); (case z_tuple => k_is); (case z_zip => k_is); (case z_all => k_is); (case z_gcd => k_is); (case aM => k_is); (case z_lcm => k_is)
    (case z_VE => k_is); (case aC => k_is); (case aS => k_is); (case xL => k_is); (case hbm => decide +kernel); (case sa => k_is); (case ga => k_is); (case gg => k_is)
    (case gc => k_is); (case nw => k_is); (case aI => k_is); (case tI => k_is); (case lI => k_is); (case cI => k_is); (case kI => k_is); (case kC => k_is)
    (case eC => k_is); (case tC => k_is); (case hC => k_is); (case mC => k_is); (case vC => k_is); (case spc => k_is); (case tkc => k_is); (case eS => k_is)
    (case hS => k_is); (case tS => k_is); (case cS => k_is); (case a_Mismatch => k_is); (case t_Mismatch => k_is); (case h_Mismatch => k_is); (case s_Mismatch => k_is); (case n_Mismatch => decide +kernel)
    (case a_Still => k_is); (case t_Still => k_is); (case h_Still => k_is); (case s_Still => k_is); (case n_Still => decide +kernel); (case a_Endless => k_is); (case t_Endless => k_is); (case h_Endless => k_is)
    (case s_Endless => k_is); (case n_Endless => decide +kernel); (case a_TooMany => k_is); (case t_TooMany => k_is); (case h_TooMany => k_is); (case s_TooMany => k_is); (case n_TooMany => decide +kernel); (case a_NoName => k_is)
    (case t_NoName => k_is); (case h_NoName => k_is); (case s_NoName => k_is); (case n_NoName => decide +kernel); (case a_Taken => k_is); (case t_Taken => k_is); (case h_Taken => k_is); (case s_Taken => k_is)
    (case n_Taken => decide +kernel); (case a_Locked => k_is); (case t_Locked => k_is); (case h_Locked => k_is); (case s_Locked => k_is); (case n_Locked => decide +kernel); (case a_Looped => k_is); (case t_Looped => k_is)
    (case h_Looped => k_is); (case s_Looped => k_is); (case n_Looped => decide +kernel); (case a_Broken => k_is); (case t_Broken => k_is); (case h_Broken => k_is); (case s_Broken => k_is); (case n_Broken => decide +kernel)
    (case a_ReadError => k_is); (case t_ReadError => k_is); (case h_ReadError => k_is); (case s_ReadError => k_is); (case n_ReadError => decide +kernel); (case aA => k_is); (case lA => k_is); (case cA => k_is)
    (case kA => k_is); (case aR => k_is); (case lR => k_is); (case cdR => k_is); (case kR => k_is); (case aL => k_is); (case lL => k_is); (case cL => k_is)
    (case kL => k_is)
    (case cH => exact codeHd_of_K KX (by kernel_rfl))
    (case nP => kernel_rfl)
