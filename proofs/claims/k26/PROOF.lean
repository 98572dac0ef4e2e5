import PyProof.Rows.All
import Wide.All
import OpenK.AllK
import Wide.FinOn
import HandS.ForMost
import HandS.Exc
import HandS.Codes
import HandS.Wide
import HandS.WideBits
import HandS.Gcd
import HandS.IsInst
import HandS.Defaults
import HandS.TupLe
import HandS.Comp
import HandS.Flow
import HandS.ForExc
import HandS.ExcInit
import HandS.ExcField
import HandS.ExcIs
import KE.KExcIs
import HandS.Lambda
import HandS.List
import HandS.SetFor
import HandS.Rev
import HandS.CallLocal
import HandS.EndTab
import PySem.Challenge.RW_wheelsky_k26_quotients_and_convergents
set_option Elab.async false
set_option linter.all false
set_option maxRecDepth 100000
set_option maxHeartbeats 4000000
namespace My
open PySem PySem.Spec PyProof.Rows L2
def topS (i : Nat) : Stmt := PySem.Challenge.pw_wheelsky_k26_quotients_and_convergents.main.body.getD i (.Pass ⟨0, 0, 0, 0⟩)
/-! ### a def of the top, and what it is known to keep -/
structure Dfn (K : PySem.W.Frag) (mg : Str → Option Value) (x : Str) (st : Stmt) (ps : List Str) : Prop where
  ex : ∃ f fd, Fun K x x st f fd ∧ mg x = some (.ref f) ∧ Binds K fd ps []
structure Kn (P : Program) (w : World) (K : PySem.W.Frag) (mg : Str → Option Value) (base : Heap) (k : Nat) (x : Str) (ps : List Str) (sp : Sp) : Prop where
  ex : ∃ f fd, mg x = some (.ref f) ∧ PySem.W.keepIn K (.ref f) = true ∧ Binds K fd ps [] ∧ FnOk P w K mg base CX0 k f fd ps sp
theorem Kn.mk' {P : Program} {w : World} {K : PySem.W.Frag} {mg : Str → Option Value} {base : Heap} {x : Str} {st : Stmt} {N ps : List Str} {k : Nat} {sp : Sp} (D : Dfn K mg x st ps) (S : FnScope N ps (defScope st)) (len : ∀ vs H Q E, sp vs H Q E → vs.length = ps.length)
    (hbody : ∀ (f : Addr) (cdv : Value) (A : Around) (outer : List Env) (s : Shared) (H : Hp) (vs : List V) (Q : VK) (E : XK), Room k (A.deeper (envOfC x (defScope st) s.heap.objs.size f cdv)) → sp vs H Q E →
      ∃ t, PSs (cxOf CX0 P w K mg base N x (defScope st) f cdv A outer s H E).nox (defBody st) t ∧ t { nx := fun _ H' => Q .non H', rt := Q } (start N vs) H) : Kn P w K mg base (k + 1) x ps sp := by
  obtain ⟨f, fd, F, m, b⟩ := D.ex
  exact ⟨f, fd, m, F.kp, b, F.ok S len (hbody f)⟩
section
variable {X : Cx}
theorem pe_kn {j k : Nat} {x : Str} {ps : List Str} {sp : Sp} {p pos : Pos} {e : Expr} {es : List Expr} {t : TA} (F : Kn X.prog X.w X.K X.mg X.base k x ps sp) (hr : Room j X.A) (hg : Gl X x) (ha : PA X (e :: es) t) (hj : k ≤ j := by omega)
    (hdb : (x == ("__debug__" : Str)) = false := by decide) (he : starEach (e :: es) X.env = (false, eval e X.env) :: starEach es X.env := by rfl) (hpl : (backTo pos (starEach es X.env)).any (·.1) = false := by rfl) :
    PE X (.Call (.Name x p) (e :: es) [] pos) (tCall sp [] E0 t) := by
  obtain ⟨f, fd, m, kp, b, G⟩ := F.ex
  exact pe_call G (hr.mono hj) hg m kp b .nil pass0 ha hdb he hpl
end
/-! ### heaps -/
/-- all but s stands -/
def Kp (s : Addr) (H H' : Hp) : Prop := (∀ b o, b ≠ s → H b = some o → H' b = some o) ∧ ∀ x r, H s = some (.lst (x :: r)) → ∃ r', H' s = some (.lst (x :: r'))
instance {s : Addr} {H H' : Hp} : CoeFun (Kp s H H') (fun _ => ∀ b o, b ≠ s → H b = some o → H' b = some o) := ⟨fun h => h.1⟩
theorem Kp.refl (s : Addr) (H : Hp) : Kp s H H := ⟨fun _ _ _ e => e, fun _ r e => ⟨r, e⟩⟩
theorem Kp.trans {s : Addr} {H H1 H2 : Hp} (a : Kp s H H1) (b : Kp s H1 H2) : Kp s H H2 := ⟨fun c o n e => b.1 c o n (a.1 c o n e), fun x r e => by
  obtain ⟨r', e'⟩ := a.2 x r e
  exact b.2 x r' e'⟩
theorem Kp.same {s : Addr} {H H1 : Hp} (a : Same H H1) : Kp s H H1 := ⟨fun b o _ e => a b o e, fun x r e => ⟨r, a _ _ e⟩⟩
theorem Same.new {H : Hp} {p : Addr} (h : H p = none) (o : HO) : Same H (upd H p o) := fun b u q => by rw [upd_ne (ne_of_none q h)]; exact q
theorem Kp.put {s : Addr} {H : Hp} {x : V} {r r' : List V} (h : H s = some (.lst (x :: r))) : Kp s H (upd H s (.lst (x :: r'))) := ⟨fun b u n e => by rw [upd_ne n]; exact e, fun y q e => by
  rw [h] at e
  cases e
  exact ⟨r', upd_same⟩⟩
/-- the store of the draws at s -/
def Sr (K : PySem.W.Frag) (H : Hp) (s : Addr) (sc : Addr) (ns : List Int) (i b c d e f : Int) : Prop :=
  H s = some (.lst [.ref sc, .int i, .int b, .int c, .int d, .int e, .int f]) ∧ H sc = some (.lst (ns.map V.int)) ∧ s ≠ sc ∧ 0 ≤ i ∧ K.lookup s = none ∧ K.lookup sc = none
def Sto (K : PySem.W.Frag) (H : Hp) (s : Addr) : Prop := ∃ sc ns i b c d e f, Sr K H s sc ns i b c d e f
theorem Sr.same {K : PySem.W.Frag} {H H1 : Hp} {s sc : Addr} {ns : List Int} {i b c d e f : Int} (h : Sr K H s sc ns i b c d e f) (a : Same H H1) : Sr K H1 s sc ns i b c d e f := ⟨a _ _ h.1, a _ _ h.2.1, h.2.2⟩
theorem Sto.same {K : PySem.W.Frag} {H H1 : Hp} {s : Addr} (h : Sto K H s) (a : Same H H1) : Sto K H1 s := by
  obtain ⟨sc, ns, i, b, c, d, e, f, h⟩ := h
  exact ⟨sc, ns, i, b, c, d, e, f, h.same a⟩
theorem Sr.put {K : PySem.W.Frag} {H : Hp} {s sc : Addr} {ns : List Int} {i b c d e f i' b' c' d' e' f' : Int} (h : Sr K H s sc ns i b c d e f) (hi : 0 ≤ i') :
    Sr K (upd H s (.lst [.ref sc, .int i', .int b', .int c', .int d', .int e', .int f'])) s sc ns i' b' c' d' e' f' :=
  ⟨upd_same, by rw [upd_ne (Ne.symm h.2.2.1)]; exact h.2.1, h.2.2.1, hi, h.2.2.2.2⟩
theorem Kp.seqT {s : Addr} {K : PySem.W.Frag} {H H' : Hp} {a : Addr} {xs ys : List V} (e : Kp s H H') (hs : H s = some (.lst ys)) (h : SqT K H a xs) : SqT K H' a xs := by
  rcases h with (h | ⟨o, h⟩) | h
  · exact .inl (.inl (e _ _ (by rintro rfl; rw [hs] at h; cases h) h))
  · exact .inl (.inr ⟨o, e _ _ (by rintro rfl; rw [hs] at h; cases h) h⟩)
  · exact .inr h
theorem Same.seqT {K : PySem.W.Frag} {H H' : Hp} {a : Addr} {xs : List V} (e : Same H H') (h : SqT K H a xs) : SqT K H' a xs := by
  rcases h with (h | ⟨o, h⟩) | h
  · exact .inl (.inl (e _ _ h))
  · exact .inl (.inr ⟨o, e _ _ h⟩)
  · exact .inr h
/-- the built-ins' names, unbound -/
structure Bt (K : PySem.W.Frag) (mg : Str → Option Value) : Prop where
  b_int : mg "int" = none
  b_len : mg "len" = none
  b_list : mg "list" = none
  b_abs : mg "abs" = none
  b_range : mg "range" = none
  b_min : mg "min" = none
  b_max : mg "max" = none
  b_isinstance : mg "isinstance" = none
  b_bool : mg "bool" = none
  b_str : mg "str" = none
  b_dict : mg "dict" = none
  b_tuple : mg "tuple" = none
  g_gcd : mg "gcd" = some (.builtin "math.gcd")
end My

namespace My
open PySem PySem.Spec PyProof.Rows L2
theorem cx_K {CX : CXT} {P : Program} {w : World} {K : PySem.W.Frag} {mg : Str → Option Value} {base : Heap} {N : List Str} {qual : Str} {scope : Scope} {f : Addr} {cd : Value} {A : Around} {outer : List Env} {s : Shared} {H : Hp} {E : XK} : (cxOf CX P w K mg base N qual scope f cd A outer s H E).K = K := rfl
/-! ### what stands at an address, the written part first -/
def obK (o : Obj) : Option HO := match o.cls, o.data with
  | .type "tuple", .seq its _ => if its.size ≤ sizeLine then (its.toList.mapM absV).map HO.tup else none
  | _, _ => none
def ob (K : PySem.W.Frag) (H : Hp) (a : Addr) : Option HO := match K.lookup a with
  | some o => obK o
  | none => H a
theorem absV_rel {u : Value} {x : V} (h : absV u = some x) : RelV x u := by
  cases u <;> simp only [absV, Option.some.injEq, reduceCtorEq] at h <;> subst h
  all_goals first | exact rfl | exact ⟨_, rfl⟩
theorem absV_all : ∀ {us : List Value} {xs : List V}, us.mapM absV = some xs → Vals xs us
  | [], xs, h => by
    simp at h
    subst h
    exact .nil
  | u :: us, xs, h => by
    rw [List.mapM_cons] at h
    cases e1 : absV u with
    | none => simp [e1] at h
    | some x =>
      cases e2 : us.mapM absV with
      | none => simp [e1, e2] at h
      | some r =>
        simp [e1, e2] at h
        subst h
        exact .cons (absV_rel e1) (absV_all e2)
theorem obK_tup {o : Obj} {z : HO} (h : obK o = some z) : ∃ xs its n, z = .tup xs ∧ o.cls = .type "tuple" ∧ o.data = .seq its n ∧ its.size ≤ sizeLine ∧ Vals xs its.toList := by
  unfold obK at h
  split at h
  · rename_i its n e1 e2
    split at h
    · rename_i hz
      cases e : its.toList.mapM absV with
      | none => rw [e] at h; cases h
      | some xs =>
        rw [e] at h
        exact ⟨xs, its, n, (Option.some.inj h).symm, e1, e2, hz, absV_all e⟩
    · cases h
  · cases h
theorem ob_none {K : PySem.W.Frag} {H : Hp} {a : Addr} (h : K.lookup a = none) : ob K H a = H a := by unfold ob; rw [h]
theorem ob_tup {K : PySem.W.Frag} {H : Hp} {a : Addr} {xs : List V} (h : ob K H a = some (.tup xs)) : SqT K H a xs := by
  unfold ob at h
  split at h
  · rename_i o e
    obtain ⟨ys, its, n, z, h1, h2, h3, h4⟩ := obK_tup h
    cases z
    exact .inr ⟨o, its, n, e, h1, h2, h3, h4⟩
  · exact .inl (.inl h)
theorem ob_H {K : PySem.W.Frag} {H : Hp} {a : Addr} {z : HO} (h : ob K H a = some z) (n : ∀ xs, z ≠ .tup xs) : H a = some z ∧ K.lookup a = none := by
  unfold ob at h
  split at h
  · obtain ⟨ys, its, n', z', _⟩ := obK_tup h
    exact absurd z' (n ys)
  · rename_i e
    exact ⟨h, e⟩
theorem ob_lst {K : PySem.W.Frag} {H : Hp} {a : Addr} {xs : List V} (h : ob K H a = some (.lst xs)) : SqL K H a xs := .of (ob_H h (fun _ z => by cases z)).1
theorem ob_same {K : PySem.W.Frag} {H H' : Hp} {a : Addr} {z : HO} (e : Same H H') (h : ob K H a = some z) : ob K H' a = some z := by
  unfold ob at h ⊢
  split
  · rename_i o q
    rw [q] at h
    exact h
  · rename_i q
    rw [q] at h
    exact e _ _ h
theorem ob_kp {K : PySem.W.Frag} {H H' : Hp} {s a : Addr} {ys : List V} {z : HO} (e : Kp s H H') (hs : H s = some (.lst ys)) (n : ∀ ys, z ≠ .lst ys) (h : ob K H a = some z) : ob K H' a = some z := by
  unfold ob at h ⊢
  split
  · rename_i o q
    rw [q] at h
    exact h
  · rename_i q
    rw [q] at h
    exact e _ _ (by rintro rfl; rw [hs] at h; exact n _ (Option.some.inj h).symm) h
theorem ob_new {K : PySem.W.Frag} {H : Hp} {p : Addr} {o : HO} (k : K.lookup p = none) : ob K (upd H p o) p = some o := by rw [ob_none k, upd_same]
/-- a built-in type's name, of what stands somewhere -/
def tyO : Option HO → Option String
  | some (.tup _) => some "tuple"
  | some (.lst _) => some "list"
  | some (.dK _) => some "dict"
  | _ => none
def tyN (K : PySem.W.Frag) (H : Hp) : V → Option String
  | .non => some "NoneType"
  | .bl _ => some "bool"
  | .int _ => some "int"
  | .str _ => some "str"
  | .ref a => tyO (ob K H a)
  | _ => none
theorem tyO_tup (xs : List V) : tyO (some (.tup xs)) = some "tuple" := rfl
theorem tyO_lst (xs : List V) : tyO (some (.lst xs)) = some "list" := rfl
theorem tyO_dK (xs : List (Key × V)) : tyO (some (.dK xs)) = some "dict" := rfl
theorem tyN_non {K : PySem.W.Frag} {H : Hp} : tyN K H .non = some "NoneType" := rfl
theorem tyN_bl {K : PySem.W.Frag} {H : Hp} (b : Bool) : tyN K H (.bl b) = some "bool" := rfl
theorem tyN_int {K : PySem.W.Frag} {H : Hp} (b : Int) : tyN K H (.int b) = some "int" := rfl
theorem tyN_str {K : PySem.W.Frag} {H : Hp} (b : Str) : tyN K H (.str b) = some "str" := rfl
theorem tyN_ref {K : PySem.W.Frag} {H : Hp} (a : Addr) : tyN K H (.ref a) = tyO (ob K H a) := rfl
theorem tyN_X {K : PySem.W.Frag} {H : Hp} {x : V} {t : String} (h : tyN K H x = some t) : TyX K H x (.type t) := by
  cases x with
  | non => cases h; exact .base .non
  | bl b => cases h; exact .base (.bl b)
  | int i => cases h; exact .base (.int i)
  | str z => cases h; exact .base (.str z)
  | byt _ => cases h
  | flt _ => cases h
  | ty _ => cases h
  | ref a =>
    have h1 : tyO (ob K H a) = some t := h
    cases e : ob K H a with
    | none => rw [e] at h1; cases h1
    | some z =>
      rw [e] at h1
      cases z with
      | tup xs =>
        cases h1
        unfold ob at e
        split at e
        · rename_i o q
          obtain ⟨_, _, _, _, c, _⟩ := obK_tup e
          exact .kTuple q c
        · exact .base (.tup e)
      | lst xs => cases h1; exact .base (.lst (ob_H e (fun _ z => by cases z)).1)
      | dK kvs => cases h1; exact .base (.dK (ob_H e (fun _ z => by cases z)).1)
      | _ => cases h1
/-- isinstance(x, T) by names -/
def isB (a b : String) : Bool := a == b || (a == "bool" && b == "int")
def rIsN (K : PySem.W.Frag) : List V → Hp → VK → Prop := fun xs H Q => ∃ x n, xs = [x, .ty n] ∧ n ∈ ["int", "bool", "str", "list", "tuple", "dict"] ∧ ∃ t, tyN K H x = some t ∧ Q (.bl (isB t n)) H
theorem tyN_mem {K : PySem.W.Frag} {H : Hp} {x : V} {t : String} (h : tyN K H x = some t) : t ∈ ["NoneType", "bool", "int", "str", "tuple", "list", "dict"] := by
  cases x with
  | non => cases h; decide
  | bl b => cases h; decide
  | int i => cases h; decide
  | str z => cases h; decide
  | byt _ => cases h
  | flt _ => cases h
  | ty _ => cases h
  | ref a =>
    have h1 : tyO (ob K H a) = some t := h
    unfold tyO at h1
    split at h1 <;> first | (cases h1; decide) | cases h1
theorem kit_all : ∀ t ∈ ["NoneType", "bool", "int", "str", "tuple", "list", "dict"], ∀ n ∈ ["int", "bool", "str", "list", "tuple", "dict"], kitB t n = some (isB t n) := by decide +kernel
/-- isinstance(x, (T, ..)) -/
def tyNs : List V → Option (List String)
  | [] => some []
  | .ty n :: r => if n ∈ ["int", "bool", "str", "list", "tuple", "dict"] then (tyNs r).map (n :: ·) else none
  | _ :: _ => none
theorem tyNs_of : ∀ {cs : List V} {ns : List String}, tyNs cs = some ns → cs = ns.map V.ty ∧ ∀ n ∈ ns, n ∈ ["int", "bool", "str", "list", "tuple", "dict"]
  | [], ns, h => by cases h; exact ⟨rfl, fun _ z => absurd z (by simp)⟩
  | c :: r, ns, h => by
    cases c with
    | ty n =>
      unfold tyNs at h
      split at h
      · rename_i hn
        cases e : tyNs r with
        | none => rw [e] at h; cases h
        | some ms =>
          rw [e] at h
          cases h
          obtain ⟨h1, h2⟩ := tyNs_of e
          refine ⟨by rw [h1]; rfl, fun m hm => ?_⟩
          rcases List.mem_cons.mp hm with z | z
          · rw [z]; exact hn
          · exact h2 m z
      · cases h
    | _ => cases h
theorem tyNs_lt : tyNs [.ty "list", .ty "tuple"] = some ["list", "tuple"] := by decide
def rIsT (K : PySem.W.Frag) : List V → Hp → VK → Prop := fun xs H Q => ∃ x tp, xs = [x, .ref tp] ∧ ∃ cs, H tp = some (.tup cs) ∧ ∃ ns, tyNs cs = some ns ∧ ∃ t, tyN K H x = some t ∧ Q (.bl (ns.any (isB t))) H
section
variable {X : Cx}
theorem call_isN : CallR X (.builtin "isinstance") (rIsN X.K) := fun pins s σ H xs us Q I r h => by
  obtain ⟨x, n, rfl, hn, t, ht, q⟩ := h
  exact call_isi pins s σ H _ us Q I r ⟨x, .ty n, .type t, .type n, isB t n, rfl, .ty n, tyN_X ht, kit_ty (kit_all t (tyN_mem ht) n hn), q⟩
theorem kitAny_of {K : PySem.W.Frag} {t : String} (ht : t ∈ ["NoneType", "bool", "int", "str", "tuple", "list", "dict"]) : ∀ {ns : List String}, (∀ n ∈ ns, n ∈ ["int", "bool", "str", "list", "tuple", "dict"]) → PySem.W.kitAny K (.type t) (ns.map Value.type) = some (ns.any (isB t))
  | [], _ => rfl
  | n :: ns, h => by
    have e1 : PySem.W.kitOne K (.type t) (.type n) = some (isB t n) := kit_ty (kit_all t ht n (h n List.mem_cons_self))
    have e2 := kitAny_of (K := K) ht (ns := ns) fun m hm => h m (List.mem_cons_of_mem _ hm)
    rw [List.map_cons, List.any_cons]
    unfold PySem.W.kitAny
    rw [e1]
    cases isB t n
    · simpa using e2
    · rfl
theorem clsV_all : ∀ ns : List String, Paired ClsV (ns.map V.ty) (ns.map Value.type)
  | [] => .nil
  | n :: ns => .cons (.ty n) (clsV_all ns)
theorem call_isT : CallR X (.builtin "isinstance") (rIsT X.K) := fun pins s σ H xs us Q I r h => by
  obtain ⟨x, tp, rfl, cs, hT, ns, hns, t, ht, q⟩ := h
  obtain ⟨rfl, hn⟩ := tyNs_of hns
  exact call_isiT pins s σ H _ us Q I r ⟨x, tp, _, .type t, _, _, rfl, hT, clsV_all ns, tyN_X ht, kitAny_of (tyN_mem ht) hn, q⟩
/-- xs[i], t[i] -/
def itsO : Option HO → Option (List V)
  | some (.tup xs) => some xs
  | some (.lst xs) => some xs
  | _ => none
theorem itsO_tup (xs : List V) : itsO (some (.tup xs)) = some xs := rfl
theorem itsO_lst (xs : List V) : itsO (some (.lst xs)) = some xs := rfl
theorem itsO_or {K : PySem.W.Frag} {H : Hp} {a : Addr} {xs : List V} (h : itsO (ob K H a) = some xs) : SqL K H a xs ∨ SqT K H a xs := by
  cases e : ob K H a with
  | none => rw [e] at h; cases h
  | some z =>
    rw [e] at h
    cases z with
    | tup ys => cases h; exact .inr (ob_tup e)
    | lst ys => cases h; exact .inl (ob_lst e)
    | _ => cases h
def rIxA (K : PySem.W.Frag) : R2 := fun x y H Q => ∃ p i, x = .ref p ∧ y = .int i ∧ ∃ xs, itsO (ob K H p) = some xs ∧ ∃ v, atI xs i = some v ∧ Q v H
theorem ix_any : IxR X (rIxA X.K) := fun value slice pins s σ H x y v u Q I rx ry h hs => by
  obtain ⟨p, i, rfl, rfl, xs, hx, w, hw, q⟩ := h
  rcases itsO_or hx with z | z
  · exact ix_list value slice pins s σ H _ _ v u Q I rx ry ⟨p, xs, i, w, rfl, rfl, z, hw, q⟩ hs
  · exact ix_tup value slice pins s σ H _ _ v u Q I rx ry ⟨p, xs, i, w, rfl, rfl, z, hw, q⟩ hs
theorem call_lenA : CallR X (.builtin "len") (fun xs H Q => ∃ p, xs = [.ref p] ∧ ∃ ys, itsO (ob X.K H p) = some ys ∧ Q (.int ys.length) H) := fun pins s σ H xs us Q I r h => by
  obtain ⟨p, rfl, ys, hy, q⟩ := h
  exact call_len_seq pins s σ H _ us Q I r ⟨p, ys, rfl, itsO_or hy, q⟩
/-! new tuples and lists, away from the written part -/
variable {es : List Expr} {t : TA} {pos : Pos}
def tTp (K : PySem.W.Frag) (t : TA) : TE := fun σ H Q => t σ H fun xs H1 => xs.length ≤ sizeLine ∧ ∀ p, H1 p = none → K.lookup p = none → Q (.ref p) (upd H1 p (.tup xs))
def tLs (K : PySem.W.Frag) (t : TA) : TE := fun σ H Q => t σ H fun xs H1 => xs.length ≤ sizeLine ∧ ∀ p, H1 p = none → K.lookup p = none → Q (.ref p) (upd H1 p (.lst xs))
theorem new_K {pins : List (Addr × Obj)} {σ : L2.St} {H : Hp} {s : Shared} (I : Inv X pins σ H s) : X.K.lookup s.heap.objs.size = none := by
  cases e : X.K.lookup s.heap.objs.size with
  | none => rfl
  | some o => exact absurd (Heap.lt_size (I.kIn _ _ e)) (Nat.lt_irrefl _)
theorem pe_tp {x1} (h : PA X es t) : PE X (.Tuple es x1 pos) (tTp X.K t) := by
  refine ⟨fun pins s σ H Q I hq => ?_⟩
  refine wpAny_Tuple_spliced (thn (h.run pos pins s σ H _ I hq) fun us s1 ⟨xs, H1, I1, r, z, q⟩ => ⟨by rw [← r.length]; exact z, ?_⟩)
  have hf : H1 s1.heap.objs.size = none := I1.hok.fresh (Nat.le_refl _)
  refine ⟨.ref s1.heap.objs.size, upd H1 s1.heap.objs.size (.tup xs), I1.laid (t' := s1.toks) (fun b u e => Heap.get?_push_of_some _ e) (Nat.le_refl _) ?_, rfl, q _ hf (new_K I1)⟩
  exact ⟨z, us, r, ⟨_, Heap.get?_push_size _ rfl, rfl, _, rfl⟩⟩
theorem pe_ls (h : PA X es t) : PE X (.List es pos) (tLs X.K t) := by
  refine ⟨fun pins s σ H Q I hq => ?_⟩
  refine wpAny_List_spliced (thn (h.run pos pins s σ H _ I hq) fun us s1 ⟨xs, H1, I1, r, z, q⟩ => ⟨by rw [← r.length]; exact z, ?_⟩)
  have hf : H1 s1.heap.objs.size = none := I1.hok.fresh (Nat.le_refl _)
  refine ⟨.ref s1.heap.objs.size, upd H1 s1.heap.objs.size (.lst xs), I1.laid (t' := s1.toks) (fun b u e => Heap.get?_push_of_some _ e) (Nat.le_refl _) ?_, rfl, q _ hf (new_K I1)⟩
  exact ⟨z, us, 0, r, Heap.get?_push_size _ rfl⟩
end
/-- a, b = t -/
def gTp (K : PySem.W.Frag) (n : Nat) (t : TGs) : TG := fun v σ H Q => ∃ a, v = .ref a ∧ ∃ xs, ob K H a = some (.tup xs) ∧ xs.length = n ∧ t xs σ H Q
theorem pg_tp {X : Cx} {pos : Pos} {es : List Expr} {k : Nat} {t : TGs} (n : Nat) (hc : X.calm = true) (h : PGs X es t) (hn : (assignEach es X.env).length = n := by rfl) (hst : (assignEach es X.env).findIdx? (·.1) = none := by rfl) : PG X (.Tuple es k pos) (gTp X.K n t) :=
  ⟨fun pins s σ H v u Q I r hw => by
    obtain ⟨a, e, xs, hx, hl, q⟩ := hw
    exact (pg_tup (n := n) hc h hn hst).run pins s σ H v u Q I r ⟨a, xs, e, ob_tup hx, hl, q⟩⟩
/-- {} -/
def tDn (K : PySem.W.Frag) : TE := fun _ H Q => ∀ p, H p = none → K.lookup p = none → Q (.ref p) (upd H p (.dK []))
theorem pe_dn {X : Cx} {pos : Pos} : PE X (.Dict [] [] pos) (tDn X.K) := ⟨fun pins s σ H Q I h => by
  refine wpAny_Dict_empty ⟨.ref s.heap.objs.size, upd H s.heap.objs.size (.dK []), ?_, rfl, h _ (I.hok.fresh (Nat.le_refl _)) (new_K I)⟩
  exact I.laid (t' := s.toks) (fun _ _ e => Heap.get?_push_of_some _ e) (Nat.le_refl _) (dk_empty s.heap I.big)⟩
/-! ### loops -/
def ForI (J : It) (g : TG) (tb : TS) (D : Ends) (σ : L2.St) (H : Hp) : Prop := ∃ W : Nat → Nat → L2.St → Hp → Prop, (∃ m, W 0 m σ H) ∧ ∀ i m σ H, W i m σ H →
  (J.stop i H ∧ D.nx σ H) ∨ (J.go i H ∧ ∃ N : L2.St → Hp → Prop, (∀ σ' H', N σ' H' → ∃ m', m' < m ∧ W (i + 1) m' σ' H') ∧ ∀ x H', J.yld i H x H' → g x σ H' fun σ2 H2 => tb { D with nx := N, ct := N, bk := D.nx } σ2 H2)
theorem tFor_eq (wi : TI) (g : TG) (tb : TS) (D : Ends) (σ : L2.St) (H : Hp) : tFor wi g tb D σ H = wi σ H fun J H1 => ForI J g tb D σ H1 := rfl
section
variable {g : TG} {tb : TS} {D : Ends} {σ : L2.St} {H : Hp}
theorem forI_range {lo : Int} {n : Nat} (Pv : Nat → L2.St → Hp → Prop) (h0 : Pv 0 σ H)
    (hs : ∀ i σ H, i < n → Pv i σ H → g (.int (lo + i)) σ H fun σ2 H2 => tb { D with nx := Pv (i + 1), ct := Pv (i + 1), bk := D.nx } σ2 H2) (hd : ∀ σ H, Pv n σ H → D.nx σ H) : ForI (Itr lo n) g tb D σ H := for_range Pv h0 hs hd
theorem forI_list {K : PySem.W.Frag} {a : Addr} {xs : List V} (Pv : Nat → L2.St → Hp → Prop) (h0 : Pv 0 σ H) (hl : ∀ i σ H, i ≤ xs.length → Pv i σ H → SqL K H a xs)
    (hs : ∀ i x σ H, xs[i]? = some x → Pv i σ H → g x σ H fun σ2 H2 => tb { D with nx := Pv (i + 1), ct := Pv (i + 1), bk := D.nx } σ2 H2) (hd : ∀ σ H, Pv xs.length σ H → D.nx σ H) : ForI (Itl K a) g tb D σ H := for_list Pv h0 hl hs hd
theorem forI_tup {K : PySem.W.Frag} {a : Addr} {xs : List V} (Pv : Nat → L2.St → Hp → Prop) (h0 : Pv 0 σ H) (hl : ∀ i σ H, i ≤ xs.length → Pv i σ H → SqT K H a xs)
    (hs : ∀ i x σ H, xs[i]? = some x → Pv i σ H → g x σ H fun σ2 H2 => tb { D with nx := Pv (i + 1), ct := Pv (i + 1), bk := D.nx } σ2 H2) (hd : ∀ σ H, Pv xs.length σ H → D.nx σ H) : ForI (Itt K a) g tb D σ H := for_tup Pv h0 hl hs hd
end
theorem ca_0 : ((0 : Nat) : Int) = 0 := rfl
theorem ca_1 : ((1 : Nat) : Int) = 1 := rfl
theorem ca_2 : ((2 : Nat) : Int) = 2 := rfl
theorem ca_3 : ((3 : Nat) : Int) = 3 := rfl
theorem ca_4 : ((4 : Nat) : Int) = 4 := rfl
theorem ca_5 : ((5 : Nat) : Int) = 5 := rfl
theorem ca_6 : ((6 : Nat) : Int) = 6 := rfl
theorem ca_7 : ((7 : Nat) : Int) = 7 := rfl
theorem ca_8 : ((8 : Nat) : Int) = 8 := rfl
theorem ca_9 : ((9 : Nat) : Int) = 9 := rfl
theorem ca_10 : ((10 : Nat) : Int) = 10 := rfl
theorem ca_11 : ((11 : Nat) : Int) = 11 := rfl
theorem ca_12 : ((12 : Nat) : Int) = 12 := rfl
theorem ca_13 : ((13 : Nat) : Int) = 13 := rfl
theorem ca_14 : ((14 : Nat) : Int) = 14 := rfl
theorem ca_15 : ((15 : Nat) : Int) = 15 := rfl
theorem ca_16 : ((16 : Nat) : Int) = 16 := rfl
theorem ca_17 : ((17 : Nat) : Int) = 17 := rfl
theorem ca_18 : ((18 : Nat) : Int) = 18 := rfl
theorem ca_19 : ((19 : Nat) : Int) = 19 := rfl
theorem ca_20 : ((20 : Nat) : Int) = 20 := rfl
theorem ca_21 : ((21 : Nat) : Int) = 21 := rfl
theorem ca_22 : ((22 : Nat) : Int) = 22 := rfl
theorem ca_23 : ((23 : Nat) : Int) = 23 := rfl
theorem ca_24 : ((24 : Nat) : Int) = 24 := rfl
theorem ca_25 : ((25 : Nat) : Int) = 25 := rfl
theorem ca_26 : ((26 : Nat) : Int) = 26 := rfl
theorem ca_27 : ((27 : Nat) : Int) = 27 := rfl
theorem ca_28 : ((28 : Nat) : Int) = 28 := rfl
theorem ca_29 : ((29 : Nat) : Int) = 29 := rfl
theorem ca_30 : ((30 : Nat) : Int) = 30 := rfl
theorem nat10 : (10 : Int).natAbs = 10 := rfl
/-- list(xs), away from the written part -/
theorem call_listK {X : Cx} : CallR X (.type "list") (fun xs H Q => ∃ p, xs = [.ref p] ∧ ∃ ys, (SqL X.K H p ys ∨ SqT X.K H p ys) ∧ ∀ l, H l = none → X.K.lookup l = none → Q (.ref l) (upd H l (.lst ys))) := fun pins s σ H xs us Q I r h => by
  obtain ⟨p, e0, ys, hy, k⟩ := h
  subst e0
  obtain ⟨u, e1, ru⟩ := vals1 r
  subst e1
  cases ru
  have laid (its : List Value) (rv : Vals ys its) (hz : ys.length ≤ sizeLine) (hh : Heap) (cap : Nat) (kp : ∀ b o, s.heap.get? b = some o → hh.get? b = some o)
      (e : hh.get? s.heap.objs.size = some { cls := .type "list", dict := none, data := .seq its.toArray cap, slots := #[] }) : EP X pins σ Q (.ref s.heap.objs.size) { s with heap := hh } := by
    have ok : ObjOk X.prog X.w (upd H s.heap.objs.size (.lst ys)) hh s.heap.objs.size (.lst ys) := ⟨hz, its, cap, rv, e⟩
    exact ⟨.ref s.heap.objs.size, _, I.laid (t' := s.toks) kp (Nat.le_refl _) ok, rfl, k _ (I.hok.fresh (Nat.le_refl _)) (new_K I)⟩
  cases hy with
  | inl hy =>
    obtain ⟨its, rv, pl, hz⟩ := I.list hy
    obtain ⟨o, ho, hc, n, hd⟩ := pl.isList
    have hl := rv.length
    exact call_list_seq p (.inl rfl) ho hc hd (laid its rv hz) (by simp only [List.size_toArray]; omega)
  | inr hy =>
    obtain ⟨its, rv, pl, hz⟩ := I.tuple hy
    obtain ⟨o, ho, hc, n, hd⟩ := pl
    have hl := rv.length
    exact call_list_seq p (.inr rfl) ho hc hd (laid its rv hz) (by simp only [List.size_toArray]; omega)
/-- xs[i] = v -/
def setI (xs : List V) (i : Int) (v : V) : Option (List V) := (ixN xs.length i).map fun j => xs.set j v
theorem setI_nat {xs ys : List V} {j : Nat} {v : V} (h : j < xs.length) (e : xs.set j v = ys) : setI xs (j : Int) v = some ys := by
  have e1 : ixN xs.length (j : Int) = some j := by
    unfold ixN
    rw [if_pos (by omega), if_pos (by omega)]
    simp
  unfold setI
  rw [e1, ← e]
  rfl
def rSetA : V → V → V → Hp → (Hp → Prop) → Prop := fun o i v H Q => ∃ p k, o = .ref p ∧ i = .int k ∧ ∃ xs, H p = some (.lst xs) ∧ ∃ ys, setI xs k v = some ys ∧ Q (upd H p (.lst ys))
section
variable {X : Cx}
theorem set_any : PSet X rSetA := by
  intro pins s σ H o i v uo ui uv Q I ro ri rv h
  obtain ⟨p, k, rfl, rfl, xs, hx, ys, hy, q⟩ := h
  unfold setI at hy
  cases e : ixN xs.length k with
  | none => rw [e] at hy; cases hy
  | some j =>
    rw [e] at hy
    cases hy
    exact set_list pins s σ H _ _ _ uo ui uv Q I ro ri rv ⟨p, xs, k, j, rfl, rfl, hx, e, q⟩
end
theorem atI_0 {α : Type} (x0 : α) (l : List α) : atI (x0 :: l) 0 = some x0 := atI_nat (j := 0) rfl
theorem setI_0 (x0 v : V) (l : List V) : setI (x0 :: l) 0 v = some (v :: l) := setI_nat (j := 0) (by simp) (by rfl)
theorem atI_1 {α : Type} (x0 x1 : α) (l : List α) : atI (x0 :: x1 :: l) 1 = some x1 := atI_nat (j := 1) rfl
theorem setI_1 (x0 x1 v : V) (l : List V) : setI (x0 :: x1 :: l) 1 v = some (x0 :: v :: l) := setI_nat (j := 1) (by simp) (by rfl)
theorem atI_2 {α : Type} (x0 x1 x2 : α) (l : List α) : atI (x0 :: x1 :: x2 :: l) 2 = some x2 := atI_nat (j := 2) rfl
theorem setI_2 (x0 x1 x2 v : V) (l : List V) : setI (x0 :: x1 :: x2 :: l) 2 v = some (x0 :: x1 :: v :: l) := setI_nat (j := 2) (by simp) (by rfl)
theorem atI_3 {α : Type} (x0 x1 x2 x3 : α) (l : List α) : atI (x0 :: x1 :: x2 :: x3 :: l) 3 = some x3 := atI_nat (j := 3) rfl
theorem setI_3 (x0 x1 x2 x3 v : V) (l : List V) : setI (x0 :: x1 :: x2 :: x3 :: l) 3 v = some (x0 :: x1 :: x2 :: v :: l) := setI_nat (j := 3) (by simp) (by rfl)
theorem atI_4 {α : Type} (x0 x1 x2 x3 x4 : α) (l : List α) : atI (x0 :: x1 :: x2 :: x3 :: x4 :: l) 4 = some x4 := atI_nat (j := 4) rfl
theorem setI_4 (x0 x1 x2 x3 x4 v : V) (l : List V) : setI (x0 :: x1 :: x2 :: x3 :: x4 :: l) 4 v = some (x0 :: x1 :: x2 :: x3 :: v :: l) := setI_nat (j := 4) (by simp) (by rfl)
theorem atI_5 {α : Type} (x0 x1 x2 x3 x4 x5 : α) (l : List α) : atI (x0 :: x1 :: x2 :: x3 :: x4 :: x5 :: l) 5 = some x5 := atI_nat (j := 5) rfl
theorem setI_5 (x0 x1 x2 x3 x4 x5 v : V) (l : List V) : setI (x0 :: x1 :: x2 :: x3 :: x4 :: x5 :: l) 5 v = some (x0 :: x1 :: x2 :: x3 :: x4 :: v :: l) := setI_nat (j := 5) (by simp) (by rfl)
theorem atI_6 {α : Type} (x0 x1 x2 x3 x4 x5 x6 : α) (l : List α) : atI (x0 :: x1 :: x2 :: x3 :: x4 :: x5 :: x6 :: l) 6 = some x6 := atI_nat (j := 6) rfl
theorem setI_6 (x0 x1 x2 x3 x4 x5 x6 v : V) (l : List V) : setI (x0 :: x1 :: x2 :: x3 :: x4 :: x5 :: x6 :: l) 6 v = some (x0 :: x1 :: x2 :: x3 :: x4 :: x5 :: v :: l) := setI_nat (j := 6) (by simp) (by rfl)
end My

namespace My
open PySem PySem.Spec PyProof.Rows L2
/-! ### numbers: fractions in lowest terms -/
abbrev Qt := Int × Int
def Nf (q : Qt) : Prop := 1 ≤ q.2 ∧ Int.gcd q.1 q.2 = 1
/-- q is t / b in lowest terms -/
def Is (q : Qt) (t b : Int) : Prop := Nf q ∧ q.1 * b = t * q.2
def Sz (k : Nat) (q : Qt) : Prop := q.1.natAbs < 2 ^ k ∧ q.2.natAbs < 2 ^ k
theorem nf_cop {q : Qt} (h : Nf q) : Nat.Coprime q.1.natAbs q.2.natAbs := h.2
theorem nf_unique {p q : Qt} (hp : Nf p) (hq : Nf q) (h : p.1 * q.2 = q.1 * p.2) : p = q := by
  have h1 : p.1.natAbs * q.2.natAbs = q.1.natAbs * p.2.natAbs := by rw [← Int.natAbs_mul, ← Int.natAbs_mul, h]
  have d1 : p.2.natAbs ∣ q.2.natAbs := (nf_cop hp).symm.dvd_of_dvd_mul_left (n := q.2.natAbs) (m := p.1.natAbs) (by rw [h1]; exact Nat.dvd_mul_left _ _)
  have d2 : q.2.natAbs ∣ p.2.natAbs := (nf_cop hq).symm.dvd_of_dvd_mul_left (n := p.2.natAbs) (m := q.1.natAbs) (by rw [← h1]; exact Nat.dvd_mul_left _ _)
  have e := Nat.dvd_antisymm d1 d2
  have a1 := hp.1
  have a2 := hq.1
  have e2 : p.2 = q.2 := by omega
  rw [e2] at h
  have e1 : p.1 = q.1 := Int.eq_of_mul_eq_mul_right (show q.2 ≠ 0 by omega) h
  exact Prod.ext e1 e2
theorem is_unique {p q : Qt} {t b : Int} (hb : b ≠ 0) (hp : Is p t b) (hq : Is q t b) : p = q := by
  refine nf_unique hp.1 hq.1 ?_
  have h1 := hp.2
  have h2 := hq.2
  have h3 : b * (p.1 * q.2) = b * (q.1 * p.2) := by
    have e1 : b * (p.1 * q.2) = (p.1 * b) * q.2 := by rw [Int.mul_comm p.1 b, Int.mul_assoc]
    have e2 : b * (q.1 * p.2) = (q.1 * b) * p.2 := by rw [Int.mul_comm q.1 b, Int.mul_assoc]
    rw [e1, e2, h1, h2, Int.mul_assoc, Int.mul_assoc, Int.mul_comm p.2 q.2]
  exact Int.eq_of_mul_eq_mul_left hb h3
theorem is_le {q : Qt} {t b : Int} (hb : b ≠ 0) (h : Is q t b) : q.1.natAbs ≤ t.natAbs ∧ q.2.natAbs ≤ b.natAbs := by
  have h1 : q.1.natAbs * b.natAbs = t.natAbs * q.2.natAbs := by rw [← Int.natAbs_mul, ← Int.natAbs_mul, h.2]
  have d : q.2.natAbs ∣ b.natAbs := (nf_cop h.1).symm.dvd_of_dvd_mul_left (n := b.natAbs) (m := q.1.natAbs) (by rw [h1]; exact Nat.dvd_mul_left _ _)
  have hb' : 0 < b.natAbs := by omega
  have le2 := Nat.le_of_dvd hb' d
  refine ⟨?_, le2⟩
  have q2 : 0 < q.2.natAbs := by have := h.1.1; omega
  have h2 : q.1.natAbs * q.2.natAbs ≤ t.natAbs * q.2.natAbs := by rw [← h1]; exact Nat.mul_le_mul_left _ le2
  exact Nat.le_of_mul_le_mul_right h2 q2
theorem is_sz {q : Qt} {t b : Int} {k : Nat} (hb : b ≠ 0) (h : Is q t b) (ht : t.natAbs < 2 ^ k) (hk : b.natAbs < 2 ^ k) : Sz k q :=
  ⟨Nat.lt_of_le_of_lt (is_le hb h).1 ht, Nat.lt_of_le_of_lt (is_le hb h).2 hk⟩
/-- exact division by the greatest common divisor -/
theorem gcd_pos {t b : Int} (hb : b ≠ 0) : 0 < Int.gcd t b := Nat.gcd_pos_of_pos_right _ (by omega)
theorem gcd_le {t b : Int} (hb : b ≠ 0) : Int.gcd t b ≤ b.natAbs := Nat.le_of_dvd (by omega) (Nat.gcd_dvd_right _ _)
theorem is_div {t b : Int} (hb : 0 < b) : Is (t / (Int.gcd t b : Nat), b / (Int.gcd t b : Nat)) t b := by
  have hg := gcd_pos (t := t) (b := b) (by omega)
  obtain ⟨x, hx⟩ := Int.gcd_dvd_left (a := t) (b := b)
  obtain ⟨y, hy⟩ := Int.gcd_dvd_right (a := t) (b := b)
  have hg' : ((Int.gcd t b : Nat) : Int) ≠ 0 := by omega
  have e1 : t / (Int.gcd t b : Nat) = x := by conv => lhs; lhs; rw [hx]
                                              exact Int.mul_ediv_cancel_left _ hg'
  have e2 : b / (Int.gcd t b : Nat) = y := by conv => lhs; lhs; rw [hy]
                                              exact Int.mul_ediv_cancel_left _ hg'
  rw [e1, e2]
  have hy0 : 0 < y := by
    rcases Int.lt_trichotomy y 0 with z | z | z
    · have := Int.mul_neg_of_pos_of_neg (show (0 : Int) < (Int.gcd t b : Nat) by omega) z
      omega
    · rw [z, Int.mul_zero] at hy
      omega
    · exact z
  refine ⟨⟨by show 1 ≤ y; omega, ?_⟩, ?_⟩
  · show Int.gcd x y = 1
    have h : Int.gcd t b = Int.gcd t b * Int.gcd x y := by
      have k : Int.gcd (((Int.gcd t b : Nat) : Int) * x) (((Int.gcd t b : Nat) : Int) * y) = Int.gcd t b * Int.gcd x y := by rw [Int.gcd_mul_left, Int.natAbs_natCast]
      rwa [← hx, ← hy] at k
    exact Nat.eq_of_mul_eq_mul_left hg (by rw [← h, Nat.mul_one])
  · show x * b = t * y
    conv => lhs; rw [hy]
    conv => rhs; rw [hx]
    rw [← Int.mul_assoc, Int.mul_comm x]
theorem is_neg {q : Qt} {t b : Int} (h : Is q (-t) (-b)) : Is q t b := ⟨h.1, by have := h.2; rw [Int.mul_neg, Int.neg_mul] at this; omega⟩
theorem gcd_neg2 (t b : Int) : Int.gcd (-t) (-b) = Int.gcd t b := by rw [Int.gcd_neg, Int.neg_gcd]
/-- what fraction hands back -/
theorem is_fdiv {t b : Int} (hb : b ≠ 0) : Is (t.fdiv (if b < 0 then -((Int.gcd t b : Nat) : Int) else (Int.gcd t b : Nat)), b.fdiv (if b < 0 then -((Int.gcd t b : Nat) : Int) else (Int.gcd t b : Nat))) t b := by
  by_cases h : b < 0
  · rw [if_pos h]
    have e := is_div (t := -t) (b := -b) (by omega)
    rw [gcd_neg2] at e
    have k : ∀ x : Int, x.fdiv (-((Int.gcd t b : Nat) : Int)) = (-x) / ((Int.gcd t b : Nat) : Int) := fun x => by
      rw [← Int.fdiv_eq_ediv_of_nonneg _ (by omega), ← Int.neg_fdiv_neg (-x), Int.neg_neg]
    rw [k, k]
    exact is_neg e
  · rw [if_neg h, Int.fdiv_eq_ediv_of_nonneg _ (by omega), Int.fdiv_eq_ediv_of_nonneg _ (by omega)]
    exact is_div (by omega)
theorem mulW {i j : Int} {a b : Nat} (ha : i.natAbs < 2 ^ a) (hb : j.natAbs < 2 ^ b) (h : a + b ≤ 900000) : CMulW i j := by
  refine wide_mul (a := a + 1) (b := b + 1) (Nat.lt_of_lt_of_le ha (Nat.pow_le_pow_right (by omega) (by omega))) (Nat.lt_of_lt_of_le hb (Nat.pow_le_pow_right (by omega) (by omega))) (by omega) (by omega) (by omega)
theorem szMul {i j : Int} {a b : Nat} (ha : i.natAbs < 2 ^ a) (hb : j.natAbs < 2 ^ b) : (i * j).natAbs < 2 ^ (a + b) := wide_lt ha hb
theorem szAdd {i j : Int} {a b c : Nat} (ha : i.natAbs < 2 ^ a) (hb : j.natAbs < 2 ^ b) (h1 : a + 1 ≤ c) (h2 : b + 1 ≤ c) : (i + j).natAbs < 2 ^ c := by
  have e1 : 2 ^ (a + 1) ≤ 2 ^ c := Nat.pow_le_pow_right (by omega) h1
  have e2 : 2 ^ (b + 1) ≤ 2 ^ c := Nat.pow_le_pow_right (by omega) h2
  rw [Nat.pow_succ] at e1 e2
  have := Int.natAbs_add_le i j
  omega
theorem szSub {i j : Int} {a b c : Nat} (ha : i.natAbs < 2 ^ a) (hb : j.natAbs < 2 ^ b) (h1 : a + 1 ≤ c) (h2 : b + 1 ≤ c) : (i - j).natAbs < 2 ^ c := by
  rw [Int.sub_eq_add_neg]
  exact szAdd ha (by rw [Int.natAbs_neg]; exact hb) h1 h2
theorem szMono {i : Int} {a b : Nat} (ha : i.natAbs < 2 ^ a) (h : a ≤ b) : i.natAbs < 2 ^ b := Nat.lt_of_lt_of_le ha (Nat.pow_le_pow_right (by omega) h)
theorem Sz.mono {q : Qt} {a b : Nat} (ha : Sz a q) (h : a ≤ b) : Sz b q := ⟨szMono ha.1 h, szMono ha.2 h⟩
/-- // by any number of a bounded size -/
def CDivX (_ j : Int) : Prop := j ≠ 0 ∧ j.natAbs < 2 ^ 8999
theorem op_fdivX {X : Cx} : OpR X (binaryOp .FloorDiv) (rI CDivX fun i j => .int (i.fdiv j)) := by
  intro pins s σ H x y v u Q I rx ry h
  obtain ⟨i, j, rfl, rfl, hc, q⟩ := h
  obtain ⟨t, rfl⟩ := rx
  obtain ⟨t', rfl⟩ := ry
  exact floordiv_int hc.1 ⟨.int _, H, I.tok _, ⟨_, rfl⟩, q⟩ (.inl (PyProof.noPylong_of_log2 (Nat.lt_of_lt_of_le (PySem.Flt.log2_lt_of (by omega) hc.2) (by omega))))
/-! ### fractions as values -/
def frt (q : Qt) : HO := .tup [.int q.1, .int q.2]
end My

namespace My
open PySem PySem.Spec PyProof.Rows L2
section
variable {P : Program} {w : World} {K : PySem.W.Frag} {mg : Str → Option Value} {base : Heap}
def spMixed : Sp := fun vs H Q _ => ∃ a b : Int, vs = [.int a, .int b] ∧ ∀ r : Int, Q (.int r) H
theorem mulW_mod {i : Int} {n : Int} (h0 : 0 < n) (h : n < 2 ^ 64) : CMulW (i % n) (i % n) := by
  have h1 := Int.emod_nonneg i (show n ≠ 0 by omega)
  have h2 := Int.emod_lt_of_pos i h0
  exact wide_mul (a := 64) (b := 64) (by omega) (by omega) (by omega) (by omega) (by omega)
abbrev sMixed : Stmt := topS 28
theorem scMixed : FnScope ["_law_number", "_law_turn", "_law_value"] ["_law_number", "_law_turn"] (defScope sMixed) := ⟨rfl, rfl, rfl, by decide +kernel, rfl, by decide +kernel, by decide +kernel⟩
theorem k_Mixed (T : Bt K mg) (D : Dfn K mg "_law_mixed" sMixed ["_law_number", "_law_turn"]) : Kn P w K mg base 1 "_law_mixed" ["_law_number", "_law_turn"] spMixed := by
  refine Kn.mk' D scMixed (fun vs H Q E h => ?_) (fun f cdv A outer s H vs Q E hr h => ?_)
  · obtain ⟨a, b, rfl, _⟩ := h
    rfl
  obtain ⟨a, b, rfl, q⟩ := h
  refine ⟨_, (pss_cons (ps_set (i := 2) scMixed.nd rfl (.inl rfl) (pe_op op_mod (pe_op op_add (pe_op op_add (pe_op op_mul (pe_op op_mod (pe_callTy call_int1 (by rfl) T.b_int (by decide +kernel) (pa_cons (pv 0) pa_nil)) pe_int) pe_int) (pe_op op_mul (pv 1) pe_int)) pe_int) pe_int))
      (pss_cons (ps_set (i := 2) scMixed.nd rfl (.inl rfl) (pe_op op_mod (pe_op op_add (pe_op op_add (pe_op op_add (pe_op op_mulW (pv 2) (pv 2)) (pe_op op_mul (pv 2) pe_int)) (pe_op op_mul (pv 1) pe_int)) pe_int) pe_int))
      (pss_cons (ps_set (i := 2) scMixed.nd rfl (.inl rfl) (pe_op op_mod (pe_op op_add (pe_op op_add (pe_op op_mul (pv 2) pe_int) (pe_op op_fdiv (pv 2) pe_int)) pe_int) pe_int))
      (pss_cons (ps_set (i := 2) scMixed.nd rfl (.inl rfl) (pe_op op_mod (pe_op op_add (pe_op op_mulW (pv 2) (pv 2)) (pv 1)) pe_int))
      (pss_one (ps_ret (pe_op op_fdiv (pv 2) pe_int))))))), ?_⟩
  simp only [cx_K, decide_true, decide_false, reduceCtorEq, gTp, gCons, gNil, ca_0, ca_1, ca_2, ca_3, ca_4, ca_5, ca_6, ca_7, ca_8, ca_9, ca_10, ca_11, ca_12, ca_13, ca_14, ca_15, ca_16, ca_17, ca_18, ca_19, ca_20, ca_21, ca_22, ca_23, ca_24, ca_25, ca_26, ca_27, ca_28, ca_29, ca_30, not_true_eq_false, not_false_eq_true, Int.reduceEq, Nat.reduceEqDiff, Nat.reduceLeDiff, rGcd, V.ty.injEq, eq_self, List.not_mem_nil, beq_self_eq_true, HO.lst.injEq, HO.tup.injEq, tFor_eq, iRng1, iList, iTup, nat10, tSeq, rIxA, rSetA, rIsN, rIsT, tTp, tLs, itsO_tup, itsO_lst, tyO_tup, tyO_lst, tyO_dK, tyN_non, tyN_bl, tyN_int, tyN_str, tyN_ref, tyNs_lt, isB, upd_same, upd_upd, sizeLine_eq, List.mem_cons, String.reduceBEq, String.reduceEq, Bool.or_false, Bool.or_true, Bool.and_false, Bool.false_or, Bool.and_self, Bool.false_and, Bool.not_false, Bool.not_true, List.any_cons, List.any_nil, atI_0, setI_0, atI_1, setI_1, atI_2, setI_2, atI_3, setI_3, atI_4, setI_4, atI_5, setI_5, atI_6, setI_6, tAsg, gName, tOp, tUn, tVar, tC, tCons, L2.tNil, tRet, tIfS, tTest, tCB, tCall, rI, rI0, rU, tNext, tB, tAnd, tOr, tNot, tAndV, tOrV, tNotV, tDrop, tIf, tPar, gSub, rIxL, rIxT, rEq, rNe, rSetL, tBits,
    L2.start, List.map_cons, List.map_nil, List.cons_append, List.nil_append, List.append_nil, List.length_cons, List.length_nil, List.replicate, Nat.reduceAdd, Nat.reduceSub, Nat.zero_add, List.getElem?_cons_zero, List.getElem?_cons_succ, List.set_cons_zero, List.set_cons_succ,
    Option.some.injEq, exists_eq_left', exists_eq_left, V.int.injEq, V.bl.injEq, V.ref.injEq, V.str.injEq, List.cons.injEq, reduceCtorEq, and_true, true_and, false_and, and_false, exists_false, or_false, false_or, or_true, true_or, exists_const, CMul, CDiv, CPow, and_assoc, exists_and_left, exists_and_right, Int.reducePow, Int.reduceNeg, Int.reduceLT, Int.reduceLE, Nat.reducePow, Nat.reduceLT, Int.reduceToNat, gt_iff_lt, ge_iff_le, decide_eq_true_eq, Bool.not_eq_true', decide_eq_false_iff_not, scal, ↓reduceIte, Bool.false_eq_true]
  exact ⟨mulW_mod (by omega) (by omega), mulW_mod (by omega) (by omega), q _⟩
theorem at_ints {ns : List Int} {i : Int} (h0 : 0 ≤ i) (h : i < (ns.length : Int)) : ∃ z, atI (ns.map V.int) i = some (.int z) := by
  have hk : i.toNat < ns.length := by omega
  have q : atI (ns.map V.int) ((i.toNat : Nat) : Int) = some (.int ns[i.toNat]) := atI_nat (by rw [List.getElem?_map, List.getElem?_eq_getElem hk] <;> rfl)
  rw [show ((i.toNat : Nat) : Int) = i by omega] at q
  exact ⟨_, q⟩
theorem bits_le {m : Int} (h : m.natAbs < 2 ^ 200) : Builtin.Int.intBits m ≤ 200 := by
  unfold Builtin.Int.intBits
  split
  · omega
  · have := PySem.Flt.log2_lt_of (show 0 < 200 by omega) h
    omega
def TakeA (K : PySem.W.Frag) (s : Addr) (m : Int) (H : Hp) (σ' : L2.St) (H' : Hp) : Prop := ∃ x, σ' = [some (.ref s), some (.int m), x, none, none, none, none] ∧ Kp s H H' ∧ Sto K H' s
def TakeB (K : PySem.W.Frag) (s : Addr) (m : Int) (H : Hp) (σ' : L2.St) (H' : Hp) : Prop := ∃ x n, σ' = [some (.ref s), some (.int m), x, none, some (.int n), none, none] ∧ Kp s H H' ∧ Sto K H' s
def TakeC (s : Addr) (m : Int) (x : Option V) (n : Int) (H3 : Hp) (k : Nat) (σ : L2.St) (H' : Hp) : Prop := ∃ v y, σ = [some (.ref s), some (.int m), x, none, some (.int n), some (.int v), y] ∧ H' = H3
def spTake (K : PySem.W.Frag) : Sp := fun vs H Q _ => ∃ (s : Addr) (m : Int), vs = [.ref s, .int m] ∧ Sto K H s ∧ m < 2 ^ 200 ∧ ∀ r H', 0 ≤ r → (r < m ∨ r = 0) → Kp s H H' → Sto K H' s → Q (.int r) H'
abbrev sTake : Stmt := topS 30
theorem scTake : FnScope ["_law_store_here", "_law_many", "_law_cell", "_law_digit", "_law_number", "_law_value", "_law_k"] ["_law_store_here", "_law_many"] (defScope sTake) := ⟨rfl, rfl, rfl, by decide +kernel, rfl, by decide +kernel, by decide +kernel⟩
theorem k_Take (T : Bt K mg) (D : Dfn K mg "_law_take" sTake ["_law_store_here", "_law_many"]) (d__law_mixed : Kn P w K mg base 1 "_law_mixed" ["_law_number", "_law_turn"] spMixed) : Kn P w K mg base 2 "_law_take" ["_law_store_here", "_law_many"] (spTake K) := by
  refine Kn.mk' D scTake (fun vs H Q E h => ?_) (fun f cdv A outer s H vs Q E hr h => ?_)
  · obtain ⟨a, m, rfl, _⟩ := h
    rfl
  obtain ⟨s, m, rfl, hS, hm, q⟩ := h
  refine ⟨_, (pss_cons (ps_if (pt_cmpR op_lt (pv 1) pe_int (nomark _)) (pss_one (ps_ret pe_int)) pss_nil)
      (pss_cons (ps_asg (pe_op op_add (pe_ix ix_any (pv 0) pe_int (fun _ _ => rfl)) pe_int) (pg_sub (pv 0) pe_int set_any))
      (C8.pss_cut (ps_if (PW.pt (pw_and (pt_cmpR op_lt (pe_ix ix_any (pv 0) pe_int (fun _ _ => rfl)) pe_int (nomark _)) (pw_and (pt_cmpR op_lt (pe_ix ix_any (pv 0) pe_int (fun _ _ => rfl)) pe_int (nomark _)) (pw_and1 (pt_cmpR op_lt (pe_ix ix_any (pv 0) pe_int (fun _ _ => rfl)) (pe_callB call_lenA (by rfl) T.b_len PySem.boot_len (pa_cons (pe_ix ix_any (pv 0) pe_int (fun _ _ => rfl)) pa_nil)) (nomark _)))))) (pss_cons (ps_set (i := 2) scTake.nd rfl (.inl rfl) (pe_callTy call_int1 (by rfl) T.b_int (by decide +kernel) (pa_cons (pe_ix ix_any (pe_ix ix_any (pv 0) pe_int (fun _ _ => rfl)) (pe_ix ix_any (pv 0) pe_int (fun _ _ => rfl)) (fun _ _ => rfl)) pa_nil)))
      (pss_cons (ps_asg (pe_op op_add (pe_ix ix_any (pv 0) pe_int (fun _ _ => rfl)) pe_int) (pg_sub (pv 0) pe_int set_any))
      (pss_one (ps_if (pt_cmpR op_lt (pe_callB call_abs (by rfl) T.b_abs (by decide +kernel) (pa_cons (pv 2) pa_nil)) (pe_op op_pow pe_int pe_int) (nomark _)) (pss_cons (ps_asg pe_int (pg_sub (pv 0) pe_int set_any))
      (pss_one (ps_asg (pv 2) (pg_sub (pv 0) pe_int set_any)))) (pss_one (ps_asg (pe_callB call_abs (by rfl) T.b_abs (by decide +kernel) (pa_cons (pv 2) pa_nil)) (pg_sub (pv 0) pe_int set_any))))))) pss_nil)
      (pss_cons (ps_if (pt_cmpR op_gt (pe_ix ix_any (pv 0) pe_int (fun _ _ => rfl)) pe_int (nomark _)) (pss_cons (ps_set (i := 3) scTake.nd rfl (.inl rfl) (pe_op op_modN (pe_callTy call_int1 (by rfl) T.b_int (by decide +kernel) (pa_cons (pe_ix ix_any (pv 0) pe_int (fun _ _ => rfl)) pa_nil)) (pv 1)))
      (pss_cons (ps_asg (pe_op op_fdivW (pe_ix ix_any (pv 0) pe_int (fun _ _ => rfl)) (pv 1)) (pg_sub (pv 0) pe_int set_any))
      (pss_one (ps_ret (pv 3))))) pss_nil)
      (pss_cons (ps_set (i := 4) scTake.nd rfl (.inl rfl) (pe_ix ix_any (pv 0) pe_int (fun _ _ => rfl)))
      (C8.pss_cut (ps_if (pt_cmpR op_gt (pe_ix ix_any (pv 0) pe_int (fun _ _ => rfl)) pe_int (nomark _)) (pss_cons (ps_asg (pe_op op_sub (pe_ix ix_any (pv 0) pe_int (fun _ _ => rfl)) pe_int) (pg_sub (pv 0) pe_int set_any))
      (pss_one (ps_set (i := 4) scTake.nd rfl (.inl rfl) (pe_ix ix_any (pv 0) pe_int (fun _ _ => rfl))))) pss_nil)
      (pss_cons (ps_set (i := 5) scTake.nd rfl (.inl rfl) pe_int)
      (pss_cons (ps_for PassesOwn.never rfl (pi_range1 (by rfl) T.b_range (pa_cons (pe_op op_add pe_int (pe_op op_fdiv (pe_bits (pv 1)) pe_int)) pa_nil)) (pg_name (i := 6) scTake.nd rfl (.inl rfl)) (pss_one (ps_set (i := 5) scTake.nd rfl (.inl rfl) (pe_op op_add (pe_op op_mul (pv 5) pe_int) (pe_kn d__law_mixed hr (by rfl) (pa_cons (pv 4) (pa_cons (pe_op op_add (pe_op op_mul (pe_ix ix_any (pv 0) pe_int (fun _ _ => rfl)) pe_int) (pv 6)) pa_nil)))))))
      (pss_one (ps_ret (pe_op op_modN (pv 5) (pv 1)))))))))))), ?_⟩
  obtain ⟨sc, ns, i, b, c, d, e, f, hs, hsc, hne, hi, ks, ksc⟩ := hS
  have o1 := (ob_none ks).trans hs
  simp only [o1, hs, cx_K, decide_true, decide_false, reduceCtorEq, gTp, gCons, gNil, ca_0, ca_1, ca_2, ca_3, ca_4, ca_5, ca_6, ca_7, ca_8, ca_9, ca_10, ca_11, ca_12, ca_13, ca_14, ca_15, ca_16, ca_17, ca_18, ca_19, ca_20, ca_21, ca_22, ca_23, ca_24, ca_25, ca_26, ca_27, ca_28, ca_29, ca_30, not_true_eq_false, not_false_eq_true, Int.reduceEq, Nat.reduceEqDiff, Nat.reduceLeDiff, rGcd, V.ty.injEq, eq_self, List.not_mem_nil, beq_self_eq_true, HO.lst.injEq, HO.tup.injEq, tFor_eq, iRng1, iList, iTup, nat10, tSeq, rIxA, rSetA, rIsN, rIsT, tTp, tLs, itsO_tup, itsO_lst, tyO_tup, tyO_lst, tyO_dK, tyN_non, tyN_bl, tyN_int, tyN_str, tyN_ref, tyNs_lt, isB, upd_same, upd_upd, sizeLine_eq, List.mem_cons, String.reduceBEq, String.reduceEq, Bool.or_false, Bool.or_true, Bool.and_false, Bool.false_or, Bool.and_self, Bool.false_and, Bool.not_false, Bool.not_true, List.any_cons, List.any_nil, atI_0, setI_0, atI_1, setI_1, atI_2, setI_2, atI_3, setI_3, atI_4, setI_4, atI_5, setI_5, atI_6, setI_6, tAsg, gName, tOp, tUn, tVar, tC, tCons, L2.tNil, tRet, tIfS, tTest, tCB, tCall, rI, rI0, rU, tNext, tB, tAnd, tOr, tNot, tAndV, tOrV, tNotV, tDrop, tIf, tPar, gSub, rIxL, rIxT, rEq, rNe, rSetL, tBits,
    L2.start, List.map_cons, List.map_nil, List.cons_append, List.nil_append, List.append_nil, List.length_cons, List.length_nil, List.replicate, Nat.reduceAdd, Nat.reduceSub, Nat.zero_add, List.getElem?_cons_zero, List.getElem?_cons_succ, List.set_cons_zero, List.set_cons_succ,
    Option.some.injEq, exists_eq_left', exists_eq_left, V.int.injEq, V.bl.injEq, V.ref.injEq, V.str.injEq, List.cons.injEq, reduceCtorEq, and_true, true_and, false_and, and_false, exists_false, or_false, false_or, or_true, true_or, exists_const, CMul, CDiv, CPow, and_assoc, exists_and_left, exists_and_right, Int.reducePow, Int.reduceNeg, Int.reduceLT, Int.reduceLE, Nat.reducePow, Nat.reduceLT, Int.reduceToNat, gt_iff_lt, ge_iff_le, decide_eq_true_eq, Bool.not_eq_true', decide_eq_false_iff_not, scal, ↓reduceIte, Bool.false_eq_true]
  refine ite2 (fun h2 => ?_) (fun h2 => ?_)
  · exact q 0 H (Int.le_refl 0) (.inr rfl) (Kp.refl _ _) ⟨sc, ns, i, b, c, d, e, f, hs, hsc, hne, hi, ks, ksc⟩
  have S1 := Sr.put (i' := i) (b' := b) (c' := c + 1) (d' := d) (e' := e) (f' := f) (⟨hs, hsc, hne, hi, ks, ksc⟩ : Sr K H s sc ns i b c d e f) hi
  have kp1 : Kp s H (upd H s (.lst [.ref sc, .int i, .int b, .int (c + 1), .int d, .int e, .int f])) := Kp.put hs
  generalize upd H s (.lst [.ref sc, .int i, .int b, .int (c + 1), .int d, .int e, .int f]) = H1 at S1 kp1 ⊢
  refine ⟨TakeA K s m H, ?_, ?_⟩
  · obtain ⟨hs, hsc, hne, hi, ks, ksc⟩ := id S1
    have o1 := (ob_none ks).trans hs
    have o2 := (ob_none ksc).trans hsc
    have no : TakeA K s m H [some (.ref s), some (.int m), none, none, none, none, none] H1 := ⟨none, rfl, kp1, _, _, _, _, _, _, _, _, S1⟩
    simp only [o1, o2, hs, List.length_map, cx_K, decide_true, decide_false, reduceCtorEq, gTp, gCons, gNil, ca_0, ca_1, ca_2, ca_3, ca_4, ca_5, ca_6, ca_7, ca_8, ca_9, ca_10, ca_11, ca_12, ca_13, ca_14, ca_15, ca_16, ca_17, ca_18, ca_19, ca_20, ca_21, ca_22, ca_23, ca_24, ca_25, ca_26, ca_27, ca_28, ca_29, ca_30, not_true_eq_false, not_false_eq_true, Int.reduceEq, Nat.reduceEqDiff, Nat.reduceLeDiff, rGcd, V.ty.injEq, eq_self, List.not_mem_nil, beq_self_eq_true, HO.lst.injEq, HO.tup.injEq, tFor_eq, iRng1, iList, iTup, nat10, tSeq, rIxA, rSetA, rIsN, rIsT, tTp, tLs, itsO_tup, itsO_lst, tyO_tup, tyO_lst, tyO_dK, tyN_non, tyN_bl, tyN_int, tyN_str, tyN_ref, tyNs_lt, isB, upd_same, upd_upd, sizeLine_eq, List.mem_cons, String.reduceBEq, String.reduceEq, Bool.or_false, Bool.or_true, Bool.and_false, Bool.false_or, Bool.and_self, Bool.false_and, Bool.not_false, Bool.not_true, List.any_cons, List.any_nil, atI_0, setI_0, atI_1, setI_1, atI_2, setI_2, atI_3, setI_3, atI_4, setI_4, atI_5, setI_5, atI_6, setI_6, tAsg, gName, tOp, tUn, tVar, tC, tCons, L2.tNil, tRet, tIfS, tTest, tCB, tCall, rI, rI0, rU, tNext, tB, tAnd, tOr, tNot, tAndV, tOrV, tNotV, tDrop, tIf, tPar, gSub, rIxL, rIxT, rEq, rNe, rSetL, tBits,
    L2.start, List.map_cons, List.map_nil, List.cons_append, List.nil_append, List.append_nil, List.length_cons, List.length_nil, List.replicate, Nat.reduceAdd, Nat.reduceSub, Nat.zero_add, List.getElem?_cons_zero, List.getElem?_cons_succ, List.set_cons_zero, List.set_cons_succ,
    Option.some.injEq, exists_eq_left', exists_eq_left, V.int.injEq, V.bl.injEq, V.ref.injEq, V.str.injEq, List.cons.injEq, reduceCtorEq, and_true, true_and, false_and, and_false, exists_false, or_false, false_or, or_true, true_or, exists_const, CMul, CDiv, CPow, and_assoc, exists_and_left, exists_and_right, Int.reducePow, Int.reduceNeg, Int.reduceLT, Int.reduceLE, Nat.reducePow, Nat.reduceLT, Int.reduceToNat, gt_iff_lt, ge_iff_le, decide_eq_true_eq, Bool.not_eq_true', decide_eq_false_iff_not, scal, ↓reduceIte, Bool.false_eq_true]
    refine ite2 (fun _ => ?_) (fun _ => no)
    refine ite2 (fun _ => ?_) (fun _ => no)
    refine ite2 (fun hlt => ?_) (fun _ => no)
    obtain ⟨z, hz⟩ := at_ints hi hlt
    simp only [hz, cx_K, decide_true, decide_false, reduceCtorEq, gTp, gCons, gNil, ca_0, ca_1, ca_2, ca_3, ca_4, ca_5, ca_6, ca_7, ca_8, ca_9, ca_10, ca_11, ca_12, ca_13, ca_14, ca_15, ca_16, ca_17, ca_18, ca_19, ca_20, ca_21, ca_22, ca_23, ca_24, ca_25, ca_26, ca_27, ca_28, ca_29, ca_30, not_true_eq_false, not_false_eq_true, Int.reduceEq, Nat.reduceEqDiff, Nat.reduceLeDiff, rGcd, V.ty.injEq, eq_self, List.not_mem_nil, beq_self_eq_true, HO.lst.injEq, HO.tup.injEq, tFor_eq, iRng1, iList, iTup, nat10, tSeq, rIxA, rSetA, rIsN, rIsT, tTp, tLs, itsO_tup, itsO_lst, tyO_tup, tyO_lst, tyO_dK, tyN_non, tyN_bl, tyN_int, tyN_str, tyN_ref, tyNs_lt, isB, upd_same, upd_upd, sizeLine_eq, List.mem_cons, String.reduceBEq, String.reduceEq, Bool.or_false, Bool.or_true, Bool.and_false, Bool.false_or, Bool.and_self, Bool.false_and, Bool.not_false, Bool.not_true, List.any_cons, List.any_nil, atI_0, setI_0, atI_1, setI_1, atI_2, setI_2, atI_3, setI_3, atI_4, setI_4, atI_5, setI_5, atI_6, setI_6, tAsg, gName, tOp, tUn, tVar, tC, tCons, L2.tNil, tRet, tIfS, tTest, tCB, tCall, rI, rI0, rU, tNext, tB, tAnd, tOr, tNot, tAndV, tOrV, tNotV, tDrop, tIf, tPar, gSub, rIxL, rIxT, rEq, rNe, rSetL, tBits,
    L2.start, List.map_cons, List.map_nil, List.cons_append, List.nil_append, List.append_nil, List.length_cons, List.length_nil, List.replicate, Nat.reduceAdd, Nat.reduceSub, Nat.zero_add, List.getElem?_cons_zero, List.getElem?_cons_succ, List.set_cons_zero, List.set_cons_succ,
    Option.some.injEq, exists_eq_left', exists_eq_left, V.int.injEq, V.bl.injEq, V.ref.injEq, V.str.injEq, List.cons.injEq, reduceCtorEq, and_true, true_and, false_and, and_false, exists_false, or_false, false_or, or_true, true_or, exists_const, CMul, CDiv, CPow, and_assoc, exists_and_left, exists_and_right, Int.reducePow, Int.reduceNeg, Int.reduceLT, Int.reduceLE, Nat.reducePow, Nat.reduceLT, Int.reduceToNat, gt_iff_lt, ge_iff_le, decide_eq_true_eq, Bool.not_eq_true', decide_eq_false_iff_not, scal, ↓reduceIte, Bool.false_eq_true]
    refine ite2 (fun _ => ?_) (fun _ => ?_)
    · have S2 := S1.put (i' := i + 1) (b' := b) (c' := c + 1) (d' := d) (e' := 2) (f' := z) (by omega)
      exact ⟨_, rfl, kp1.trans (Kp.put hs), _, _, _, _, _, _, _, _, S2⟩
    · have S2 := S1.put (i' := i + 1) (b' := if z < 0 then -z else z) (c' := c + 1) (d' := d) (e' := e) (f' := f) (by omega)
      exact ⟨_, rfl, kp1.trans (Kp.put hs), _, _, _, _, _, _, _, _, S2⟩
  rintro σ' H2 ⟨x, rfl, kp2, sc, ns, i, b, c, d, e, f, S2⟩
  obtain ⟨hs, hsc, hne, hi, ks, ksc⟩ := id S2
  have o1 := (ob_none ks).trans hs
  simp only [o1, hs, cx_K, decide_true, decide_false, reduceCtorEq, gTp, gCons, gNil, ca_0, ca_1, ca_2, ca_3, ca_4, ca_5, ca_6, ca_7, ca_8, ca_9, ca_10, ca_11, ca_12, ca_13, ca_14, ca_15, ca_16, ca_17, ca_18, ca_19, ca_20, ca_21, ca_22, ca_23, ca_24, ca_25, ca_26, ca_27, ca_28, ca_29, ca_30, not_true_eq_false, not_false_eq_true, Int.reduceEq, Nat.reduceEqDiff, Nat.reduceLeDiff, rGcd, V.ty.injEq, eq_self, List.not_mem_nil, beq_self_eq_true, HO.lst.injEq, HO.tup.injEq, tFor_eq, iRng1, iList, iTup, nat10, tSeq, rIxA, rSetA, rIsN, rIsT, tTp, tLs, itsO_tup, itsO_lst, tyO_tup, tyO_lst, tyO_dK, tyN_non, tyN_bl, tyN_int, tyN_str, tyN_ref, tyNs_lt, isB, upd_same, upd_upd, sizeLine_eq, List.mem_cons, String.reduceBEq, String.reduceEq, Bool.or_false, Bool.or_true, Bool.and_false, Bool.false_or, Bool.and_self, Bool.false_and, Bool.not_false, Bool.not_true, List.any_cons, List.any_nil, atI_0, setI_0, atI_1, setI_1, atI_2, setI_2, atI_3, setI_3, atI_4, setI_4, atI_5, setI_5, atI_6, setI_6, tAsg, gName, tOp, tUn, tVar, tC, tCons, L2.tNil, tRet, tIfS, tTest, tCB, tCall, rI, rI0, rU, tNext, tB, tAnd, tOr, tNot, tAndV, tOrV, tNotV, tDrop, tIf, tPar, gSub, rIxL, rIxT, rEq, rNe, rSetL, tBits,
    L2.start, List.map_cons, List.map_nil, List.cons_append, List.nil_append, List.append_nil, List.length_cons, List.length_nil, List.replicate, Nat.reduceAdd, Nat.reduceSub, Nat.zero_add, List.getElem?_cons_zero, List.getElem?_cons_succ, List.set_cons_zero, List.set_cons_succ,
    Option.some.injEq, exists_eq_left', exists_eq_left, V.int.injEq, V.bl.injEq, V.ref.injEq, V.str.injEq, List.cons.injEq, reduceCtorEq, and_true, true_and, false_and, and_false, exists_false, or_false, false_or, or_true, true_or, exists_const, CMul, CDiv, CPow, and_assoc, exists_and_left, exists_and_right, Int.reducePow, Int.reduceNeg, Int.reduceLT, Int.reduceLE, Nat.reducePow, Nat.reduceLT, Int.reduceToNat, gt_iff_lt, ge_iff_le, decide_eq_true_eq, Bool.not_eq_true', decide_eq_false_iff_not, scal, ↓reduceIte, Bool.false_eq_true]
  have hm0 : m ≠ 0 := by omega
  refine ite2 (fun hb => ?_) (fun hb => ?_)
  · have S3 := S2.put (i' := i) (b' := b / m) (c' := c) (d' := d) (e' := e) (f' := f) hi
    refine ⟨hm0, wide_div (b := 200) (by omega) (by omega) (by omega) (by omega), q _ _ ?_ (.inl ?_) (kp2.trans (Kp.put hs)) ⟨_, _, _, _, _, _, _, _, S3⟩⟩
    · rw [Int.fmod_eq_emod_of_nonneg b (by omega)]
      exact Int.emod_nonneg _ hm0
    · rw [Int.fmod_eq_emod_of_nonneg b (by omega)]
      exact Int.emod_lt_of_pos _ (by omega)
  refine ⟨TakeB K s m H, ?_, ?_⟩
  · simp only [o1, hs, cx_K, decide_true, decide_false, reduceCtorEq, gTp, gCons, gNil, ca_0, ca_1, ca_2, ca_3, ca_4, ca_5, ca_6, ca_7, ca_8, ca_9, ca_10, ca_11, ca_12, ca_13, ca_14, ca_15, ca_16, ca_17, ca_18, ca_19, ca_20, ca_21, ca_22, ca_23, ca_24, ca_25, ca_26, ca_27, ca_28, ca_29, ca_30, not_true_eq_false, not_false_eq_true, Int.reduceEq, Nat.reduceEqDiff, Nat.reduceLeDiff, rGcd, V.ty.injEq, eq_self, List.not_mem_nil, beq_self_eq_true, HO.lst.injEq, HO.tup.injEq, tFor_eq, iRng1, iList, iTup, nat10, tSeq, rIxA, rSetA, rIsN, rIsT, tTp, tLs, itsO_tup, itsO_lst, tyO_tup, tyO_lst, tyO_dK, tyN_non, tyN_bl, tyN_int, tyN_str, tyN_ref, tyNs_lt, isB, upd_same, upd_upd, sizeLine_eq, List.mem_cons, String.reduceBEq, String.reduceEq, Bool.or_false, Bool.or_true, Bool.and_false, Bool.false_or, Bool.and_self, Bool.false_and, Bool.not_false, Bool.not_true, List.any_cons, List.any_nil, atI_0, setI_0, atI_1, setI_1, atI_2, setI_2, atI_3, setI_3, atI_4, setI_4, atI_5, setI_5, atI_6, setI_6, tAsg, gName, tOp, tUn, tVar, tC, tCons, L2.tNil, tRet, tIfS, tTest, tCB, tCall, rI, rI0, rU, tNext, tB, tAnd, tOr, tNot, tAndV, tOrV, tNotV, tDrop, tIf, tPar, gSub, rIxL, rIxT, rEq, rNe, rSetL, tBits,
    L2.start, List.map_cons, List.map_nil, List.cons_append, List.nil_append, List.append_nil, List.length_cons, List.length_nil, List.replicate, Nat.reduceAdd, Nat.reduceSub, Nat.zero_add, List.getElem?_cons_zero, List.getElem?_cons_succ, List.set_cons_zero, List.set_cons_succ,
    Option.some.injEq, exists_eq_left', exists_eq_left, V.int.injEq, V.bl.injEq, V.ref.injEq, V.str.injEq, List.cons.injEq, reduceCtorEq, and_true, true_and, false_and, and_false, exists_false, or_false, false_or, or_true, true_or, exists_const, CMul, CDiv, CPow, and_assoc, exists_and_left, exists_and_right, Int.reducePow, Int.reduceNeg, Int.reduceLT, Int.reduceLE, Nat.reducePow, Nat.reduceLT, Int.reduceToNat, gt_iff_lt, ge_iff_le, decide_eq_true_eq, Bool.not_eq_true', decide_eq_false_iff_not, scal, ↓reduceIte, Bool.false_eq_true]
    refine ite2 (fun he => ?_) (fun he => ?_)
    · have S3 := S2.put (i' := i) (b' := b) (c' := c) (d' := d) (e' := e - 1) (f' := f) hi
      have o3 := (ob_none ks).trans S3.1
      simp only [o3, cx_K, decide_true, decide_false, reduceCtorEq, gTp, gCons, gNil, ca_0, ca_1, ca_2, ca_3, ca_4, ca_5, ca_6, ca_7, ca_8, ca_9, ca_10, ca_11, ca_12, ca_13, ca_14, ca_15, ca_16, ca_17, ca_18, ca_19, ca_20, ca_21, ca_22, ca_23, ca_24, ca_25, ca_26, ca_27, ca_28, ca_29, ca_30, not_true_eq_false, not_false_eq_true, Int.reduceEq, Nat.reduceEqDiff, Nat.reduceLeDiff, rGcd, V.ty.injEq, eq_self, List.not_mem_nil, beq_self_eq_true, HO.lst.injEq, HO.tup.injEq, tFor_eq, iRng1, iList, iTup, nat10, tSeq, rIxA, rSetA, rIsN, rIsT, tTp, tLs, itsO_tup, itsO_lst, tyO_tup, tyO_lst, tyO_dK, tyN_non, tyN_bl, tyN_int, tyN_str, tyN_ref, tyNs_lt, isB, upd_same, upd_upd, sizeLine_eq, List.mem_cons, String.reduceBEq, String.reduceEq, Bool.or_false, Bool.or_true, Bool.and_false, Bool.false_or, Bool.and_self, Bool.false_and, Bool.not_false, Bool.not_true, List.any_cons, List.any_nil, atI_0, setI_0, atI_1, setI_1, atI_2, setI_2, atI_3, setI_3, atI_4, setI_4, atI_5, setI_5, atI_6, setI_6, tAsg, gName, tOp, tUn, tVar, tC, tCons, L2.tNil, tRet, tIfS, tTest, tCB, tCall, rI, rI0, rU, tNext, tB, tAnd, tOr, tNot, tAndV, tOrV, tNotV, tDrop, tIf, tPar, gSub, rIxL, rIxT, rEq, rNe, rSetL, tBits,
    L2.start, List.map_cons, List.map_nil, List.cons_append, List.nil_append, List.append_nil, List.length_cons, List.length_nil, List.replicate, Nat.reduceAdd, Nat.reduceSub, Nat.zero_add, List.getElem?_cons_zero, List.getElem?_cons_succ, List.set_cons_zero, List.set_cons_succ,
    Option.some.injEq, exists_eq_left', exists_eq_left, V.int.injEq, V.bl.injEq, V.ref.injEq, V.str.injEq, List.cons.injEq, reduceCtorEq, and_true, true_and, false_and, and_false, exists_false, or_false, false_or, or_true, true_or, exists_const, CMul, CDiv, CPow, and_assoc, exists_and_left, exists_and_right, Int.reducePow, Int.reduceNeg, Int.reduceLT, Int.reduceLE, Nat.reducePow, Nat.reduceLT, Int.reduceToNat, gt_iff_lt, ge_iff_le, decide_eq_true_eq, Bool.not_eq_true', decide_eq_false_iff_not, scal, ↓reduceIte, Bool.false_eq_true]
      exact ⟨_, _, rfl, kp2.trans (Kp.put hs), _, _, _, _, _, _, _, _, S3⟩
    · exact ⟨_, _, rfl, kp2, _, _, _, _, _, _, _, _, S2⟩
  rintro σ' H3 ⟨x, n, rfl, kp3, sc, ns, i, b, c, d, e, f, S3⟩
  obtain ⟨hs, hsc, hne, hi, ks, ksc⟩ := id S3
  have o1 := (ob_none ks).trans hs
  simp only [o1, hs, cx_K, decide_true, decide_false, reduceCtorEq, gTp, gCons, gNil, ca_0, ca_1, ca_2, ca_3, ca_4, ca_5, ca_6, ca_7, ca_8, ca_9, ca_10, ca_11, ca_12, ca_13, ca_14, ca_15, ca_16, ca_17, ca_18, ca_19, ca_20, ca_21, ca_22, ca_23, ca_24, ca_25, ca_26, ca_27, ca_28, ca_29, ca_30, not_true_eq_false, not_false_eq_true, Int.reduceEq, Nat.reduceEqDiff, Nat.reduceLeDiff, rGcd, V.ty.injEq, eq_self, List.not_mem_nil, beq_self_eq_true, HO.lst.injEq, HO.tup.injEq, tFor_eq, iRng1, iList, iTup, nat10, tSeq, rIxA, rSetA, rIsN, rIsT, tTp, tLs, itsO_tup, itsO_lst, tyO_tup, tyO_lst, tyO_dK, tyN_non, tyN_bl, tyN_int, tyN_str, tyN_ref, tyNs_lt, isB, upd_same, upd_upd, sizeLine_eq, List.mem_cons, String.reduceBEq, String.reduceEq, Bool.or_false, Bool.or_true, Bool.and_false, Bool.false_or, Bool.and_self, Bool.false_and, Bool.not_false, Bool.not_true, List.any_cons, List.any_nil, atI_0, setI_0, atI_1, setI_1, atI_2, setI_2, atI_3, setI_3, atI_4, setI_4, atI_5, setI_5, atI_6, setI_6, tAsg, gName, tOp, tUn, tVar, tC, tCons, L2.tNil, tRet, tIfS, tTest, tCB, tCall, rI, rI0, rU, tNext, tB, tAnd, tOr, tNot, tAndV, tOrV, tNotV, tDrop, tIf, tPar, gSub, rIxL, rIxT, rEq, rNe, rSetL, tBits,
    L2.start, List.map_cons, List.map_nil, List.cons_append, List.nil_append, List.append_nil, List.length_cons, List.length_nil, List.replicate, Nat.reduceAdd, Nat.reduceSub, Nat.zero_add, List.getElem?_cons_zero, List.getElem?_cons_succ, List.set_cons_zero, List.set_cons_succ,
    Option.some.injEq, exists_eq_left', exists_eq_left, V.int.injEq, V.bl.injEq, V.ref.injEq, V.str.injEq, List.cons.injEq, reduceCtorEq, and_true, true_and, false_and, and_false, exists_false, or_false, false_or, or_true, true_or, exists_const, CMul, CDiv, CPow, and_assoc, exists_and_left, exists_and_right, Int.reducePow, Int.reduceNeg, Int.reduceLT, Int.reduceLE, Nat.reducePow, Nat.reduceLT, Int.reduceToNat, gt_iff_lt, ge_iff_le, decide_eq_true_eq, Bool.not_eq_true', decide_eq_false_iff_not, scal, ↓reduceIte, Bool.false_eq_true]
  have hbits : Builtin.Int.intBits m ≤ 200 := bits_le (by omega)
  refine ⟨by omega, by omega, forI_range (TakeC s m x n H3) ⟨0, none, rfl, rfl⟩ ?_ ?_⟩
  · rintro k σ H' hk ⟨v, y, rfl, rfl⟩
    simp only [o1, hs, cx_K, decide_true, decide_false, reduceCtorEq, gTp, gCons, gNil, ca_0, ca_1, ca_2, ca_3, ca_4, ca_5, ca_6, ca_7, ca_8, ca_9, ca_10, ca_11, ca_12, ca_13, ca_14, ca_15, ca_16, ca_17, ca_18, ca_19, ca_20, ca_21, ca_22, ca_23, ca_24, ca_25, ca_26, ca_27, ca_28, ca_29, ca_30, not_true_eq_false, not_false_eq_true, Int.reduceEq, Nat.reduceEqDiff, Nat.reduceLeDiff, rGcd, V.ty.injEq, eq_self, List.not_mem_nil, beq_self_eq_true, HO.lst.injEq, HO.tup.injEq, tFor_eq, iRng1, iList, iTup, nat10, tSeq, rIxA, rSetA, rIsN, rIsT, tTp, tLs, itsO_tup, itsO_lst, tyO_tup, tyO_lst, tyO_dK, tyN_non, tyN_bl, tyN_int, tyN_str, tyN_ref, tyNs_lt, isB, upd_same, upd_upd, sizeLine_eq, List.mem_cons, String.reduceBEq, String.reduceEq, Bool.or_false, Bool.or_true, Bool.and_false, Bool.false_or, Bool.and_self, Bool.false_and, Bool.not_false, Bool.not_true, List.any_cons, List.any_nil, atI_0, setI_0, atI_1, setI_1, atI_2, setI_2, atI_3, setI_3, atI_4, setI_4, atI_5, setI_5, atI_6, setI_6, tAsg, gName, tOp, tUn, tVar, tC, tCons, L2.tNil, tRet, tIfS, tTest, tCB, tCall, rI, rI0, rU, tNext, tB, tAnd, tOr, tNot, tAndV, tOrV, tNotV, tDrop, tIf, tPar, gSub, rIxL, rIxT, rEq, rNe, rSetL, tBits,
    L2.start, List.map_cons, List.map_nil, List.cons_append, List.nil_append, List.append_nil, List.length_cons, List.length_nil, List.replicate, Nat.reduceAdd, Nat.reduceSub, Nat.zero_add, List.getElem?_cons_zero, List.getElem?_cons_succ, List.set_cons_zero, List.set_cons_succ,
    Option.some.injEq, exists_eq_left', exists_eq_left, V.int.injEq, V.bl.injEq, V.ref.injEq, V.str.injEq, List.cons.injEq, reduceCtorEq, and_true, true_and, false_and, and_false, exists_false, or_false, false_or, or_true, true_or, exists_const, CMul, CDiv, CPow, and_assoc, exists_and_left, exists_and_right, Int.reducePow, Int.reduceNeg, Int.reduceLT, Int.reduceLE, Nat.reducePow, Nat.reduceLT, Int.reduceToNat, gt_iff_lt, ge_iff_le, decide_eq_true_eq, Bool.not_eq_true', decide_eq_false_iff_not, scal, ↓reduceIte, Bool.false_eq_true]
    refine ⟨_, _, rfl, fun r => ?_⟩
    simp only [cx_K, decide_true, decide_false, reduceCtorEq, gTp, gCons, gNil, ca_0, ca_1, ca_2, ca_3, ca_4, ca_5, ca_6, ca_7, ca_8, ca_9, ca_10, ca_11, ca_12, ca_13, ca_14, ca_15, ca_16, ca_17, ca_18, ca_19, ca_20, ca_21, ca_22, ca_23, ca_24, ca_25, ca_26, ca_27, ca_28, ca_29, ca_30, not_true_eq_false, not_false_eq_true, Int.reduceEq, Nat.reduceEqDiff, Nat.reduceLeDiff, rGcd, V.ty.injEq, eq_self, List.not_mem_nil, beq_self_eq_true, HO.lst.injEq, HO.tup.injEq, tFor_eq, iRng1, iList, iTup, nat10, tSeq, rIxA, rSetA, rIsN, rIsT, tTp, tLs, itsO_tup, itsO_lst, tyO_tup, tyO_lst, tyO_dK, tyN_non, tyN_bl, tyN_int, tyN_str, tyN_ref, tyNs_lt, isB, upd_same, upd_upd, sizeLine_eq, List.mem_cons, String.reduceBEq, String.reduceEq, Bool.or_false, Bool.or_true, Bool.and_false, Bool.false_or, Bool.and_self, Bool.false_and, Bool.not_false, Bool.not_true, List.any_cons, List.any_nil, atI_0, setI_0, atI_1, setI_1, atI_2, setI_2, atI_3, setI_3, atI_4, setI_4, atI_5, setI_5, atI_6, setI_6, tAsg, gName, tOp, tUn, tVar, tC, tCons, L2.tNil, tRet, tIfS, tTest, tCB, tCall, rI, rI0, rU, tNext, tB, tAnd, tOr, tNot, tAndV, tOrV, tNotV, tDrop, tIf, tPar, gSub, rIxL, rIxT, rEq, rNe, rSetL, tBits,
    L2.start, List.map_cons, List.map_nil, List.cons_append, List.nil_append, List.append_nil, List.length_cons, List.length_nil, List.replicate, Nat.reduceAdd, Nat.reduceSub, Nat.zero_add, List.getElem?_cons_zero, List.getElem?_cons_succ, List.set_cons_zero, List.set_cons_succ,
    Option.some.injEq, exists_eq_left', exists_eq_left, V.int.injEq, V.bl.injEq, V.ref.injEq, V.str.injEq, List.cons.injEq, reduceCtorEq, and_true, true_and, false_and, and_false, exists_false, or_false, false_or, or_true, true_or, exists_const, CMul, CDiv, CPow, and_assoc, exists_and_left, exists_and_right, Int.reducePow, Int.reduceNeg, Int.reduceLT, Int.reduceLE, Nat.reducePow, Nat.reduceLT, Int.reduceToNat, gt_iff_lt, ge_iff_le, decide_eq_true_eq, Bool.not_eq_true', decide_eq_false_iff_not, scal, ↓reduceIte, Bool.false_eq_true]
    exact ⟨_, _, rfl, rfl⟩
  · rintro σ H' ⟨v, y, rfl, rfl⟩
    simp only [cx_K, decide_true, decide_false, reduceCtorEq, gTp, gCons, gNil, ca_0, ca_1, ca_2, ca_3, ca_4, ca_5, ca_6, ca_7, ca_8, ca_9, ca_10, ca_11, ca_12, ca_13, ca_14, ca_15, ca_16, ca_17, ca_18, ca_19, ca_20, ca_21, ca_22, ca_23, ca_24, ca_25, ca_26, ca_27, ca_28, ca_29, ca_30, not_true_eq_false, not_false_eq_true, Int.reduceEq, Nat.reduceEqDiff, Nat.reduceLeDiff, rGcd, V.ty.injEq, eq_self, List.not_mem_nil, beq_self_eq_true, HO.lst.injEq, HO.tup.injEq, tFor_eq, iRng1, iList, iTup, nat10, tSeq, rIxA, rSetA, rIsN, rIsT, tTp, tLs, itsO_tup, itsO_lst, tyO_tup, tyO_lst, tyO_dK, tyN_non, tyN_bl, tyN_int, tyN_str, tyN_ref, tyNs_lt, isB, upd_same, upd_upd, sizeLine_eq, List.mem_cons, String.reduceBEq, String.reduceEq, Bool.or_false, Bool.or_true, Bool.and_false, Bool.false_or, Bool.and_self, Bool.false_and, Bool.not_false, Bool.not_true, List.any_cons, List.any_nil, atI_0, setI_0, atI_1, setI_1, atI_2, setI_2, atI_3, setI_3, atI_4, setI_4, atI_5, setI_5, atI_6, setI_6, tAsg, gName, tOp, tUn, tVar, tC, tCons, L2.tNil, tRet, tIfS, tTest, tCB, tCall, rI, rI0, rU, tNext, tB, tAnd, tOr, tNot, tAndV, tOrV, tNotV, tDrop, tIf, tPar, gSub, rIxL, rIxT, rEq, rNe, rSetL, tBits,
    L2.start, List.map_cons, List.map_nil, List.cons_append, List.nil_append, List.append_nil, List.length_cons, List.length_nil, List.replicate, Nat.reduceAdd, Nat.reduceSub, Nat.zero_add, List.getElem?_cons_zero, List.getElem?_cons_succ, List.set_cons_zero, List.set_cons_succ,
    Option.some.injEq, exists_eq_left', exists_eq_left, V.int.injEq, V.bl.injEq, V.ref.injEq, V.str.injEq, List.cons.injEq, reduceCtorEq, and_true, true_and, false_and, and_false, exists_false, or_false, false_or, or_true, true_or, exists_const, CMul, CDiv, CPow, and_assoc, exists_and_left, exists_and_right, Int.reducePow, Int.reduceNeg, Int.reduceLT, Int.reduceLE, Nat.reducePow, Nat.reduceLT, Int.reduceToNat, gt_iff_lt, ge_iff_le, decide_eq_true_eq, Bool.not_eq_true', decide_eq_false_iff_not, scal, ↓reduceIte, Bool.false_eq_true]
    refine ⟨hm0, q _ _ ?_ (.inl ?_) kp3 ⟨_, _, _, _, _, _, _, _, S3⟩⟩
    · rw [Int.fmod_eq_emod_of_nonneg v (by omega)]
      exact Int.emod_nonneg _ hm0
    · rw [Int.fmod_eq_emod_of_nonneg v (by omega)]
      exact Int.emod_lt_of_pos _ (by omega)
end
end My

namespace My
open PySem PySem.Spec PyProof.Rows L2
section
variable {P : Program} {w : World} {K : PySem.W.Frag} {mg : Str → Option Value} {base : Heap}
theorem abs_if (n : Int) : (if n < 0 then -n else n) = (n.natAbs : Int) := by split <;> omega
def spGcd : Sp := fun vs H Q _ => ∃ a b : Int, vs = [.int a, .int b] ∧ Q (.int ((Int.gcd a b : Nat) : Int)) H
def GcdW (a b : Int) (H : Hp) (σ : L2.St) (H' : Hp) : Prop := ∃ l r : Int, σ = [some (.int l), some (.int r)] ∧ H' = H ∧ 0 ≤ l ∧ 0 ≤ r ∧ Int.gcd l r = Int.gcd a b
def GcdM (σ : L2.St) (_ : Hp) : Nat := match σ with
  | [_, some (.int r)] => r.toNat
  | _ => 0
abbrev sGcd : Stmt := topS 33
theorem scGcd : FnScope ["_law_left", "_law_right_here"] ["_law_left", "_law_right_here"] (defScope sGcd) := ⟨rfl, rfl, rfl, by decide +kernel, rfl, by decide +kernel, by decide +kernel⟩
theorem k_Gcd (T : Bt K mg) (D : Dfn K mg "_law_gcd" sGcd ["_law_left", "_law_right_here"]) : Kn P w K mg base 1 "_law_gcd" ["_law_left", "_law_right_here"] spGcd := by
  refine Kn.mk' D scGcd (fun vs H Q E h => ?_) (fun f cdv A outer s H vs Q E hr h => ?_)
  · obtain ⟨a, b, rfl, _⟩ := h
    rfl
  obtain ⟨a, b, rfl, q⟩ := h
  refine ⟨_, (pss_cons (ps_set (i := 0) scGcd.nd rfl (.inl rfl) (pe_callB call_abs (by rfl) T.b_abs (by decide +kernel) (pa_cons (pv 0) pa_nil)))
      (pss_cons (ps_set (i := 1) scGcd.nd rfl (.inl rfl) (pe_callB call_abs (by rfl) T.b_abs (by decide +kernel) (pa_cons (pv 1) pa_nil)))
      (pss_cons (ps_while PassesOwn.never (pt_cmpR op_gt (pv 1) pe_int (nomark _)) (pss_one (ps_par (i := 0) (j := 1) (by rfl) scGcd.nd rfl rfl (by decide) rfl rfl (pa_cons (pv 1) (pa_cons (pe_op op_modN (pe_callTy call_int1 (by rfl) T.b_int (by decide +kernel) (pa_cons (pv 0) pa_nil)) (pv 1)) pa_nil)) (by rfl))))
      (pss_one (ps_ret (pv 0)))))), ?_⟩
  simp only [abs_if, cx_K, decide_true, decide_false, reduceCtorEq, gTp, gCons, gNil, ca_0, ca_1, ca_2, ca_3, ca_4, ca_5, ca_6, ca_7, ca_8, ca_9, ca_10, ca_11, ca_12, ca_13, ca_14, ca_15, ca_16, ca_17, ca_18, ca_19, ca_20, ca_21, ca_22, ca_23, ca_24, ca_25, ca_26, ca_27, ca_28, ca_29, ca_30, not_true_eq_false, not_false_eq_true, Int.reduceEq, Nat.reduceEqDiff, Nat.reduceLeDiff, rGcd, V.ty.injEq, eq_self, List.not_mem_nil, beq_self_eq_true, HO.lst.injEq, HO.tup.injEq, tFor_eq, iRng1, iList, iTup, nat10, tSeq, rIxA, rSetA, rIsN, rIsT, tTp, tLs, itsO_tup, itsO_lst, tyO_tup, tyO_lst, tyO_dK, tyN_non, tyN_bl, tyN_int, tyN_str, tyN_ref, tyNs_lt, isB, upd_same, upd_upd, sizeLine_eq, List.mem_cons, String.reduceBEq, String.reduceEq, Bool.or_false, Bool.or_true, Bool.and_false, Bool.false_or, Bool.and_self, Bool.false_and, Bool.not_false, Bool.not_true, List.any_cons, List.any_nil, atI_0, setI_0, atI_1, setI_1, atI_2, setI_2, atI_3, setI_3, atI_4, setI_4, atI_5, setI_5, atI_6, setI_6, tAsg, gName, tOp, tUn, tVar, tC, tCons, L2.tNil, tRet, tIfS, tTest, tCB, tCall, rI, rI0, rU, tNext, tB, tAnd, tOr, tNot, tAndV, tOrV, tNotV, tDrop, tIf, tPar, gSub, rIxL, rIxT, rEq, rNe, rSetL, tBits,
    L2.start, List.map_cons, List.map_nil, List.cons_append, List.nil_append, List.append_nil, List.length_cons, List.length_nil, List.replicate, Nat.reduceAdd, Nat.reduceSub, Nat.zero_add, List.getElem?_cons_zero, List.getElem?_cons_succ, List.set_cons_zero, List.set_cons_succ,
    Option.some.injEq, exists_eq_left', exists_eq_left, V.int.injEq, V.bl.injEq, V.ref.injEq, V.str.injEq, List.cons.injEq, reduceCtorEq, and_true, true_and, false_and, and_false, exists_false, or_false, false_or, or_true, true_or, exists_const, CMul, CDiv, CPow, and_assoc, exists_and_left, exists_and_right, Int.reducePow, Int.reduceNeg, Int.reduceLT, Int.reduceLE, Nat.reducePow, Nat.reduceLT, Int.reduceToNat, gt_iff_lt, ge_iff_le, decide_eq_true_eq, Bool.not_eq_true', decide_eq_false_iff_not, scal, ↓reduceIte, Bool.false_eq_true]
  refine while_by (GcdW a b H) GcdM ⟨_, _, rfl, rfl, by omega, by omega, rfl⟩ ?_ ?_
  · rintro σ H' ⟨l, r, rfl, rfl, hl, hr, e⟩
    simp only [cx_K, decide_true, decide_false, reduceCtorEq, gTp, gCons, gNil, ca_0, ca_1, ca_2, ca_3, ca_4, ca_5, ca_6, ca_7, ca_8, ca_9, ca_10, ca_11, ca_12, ca_13, ca_14, ca_15, ca_16, ca_17, ca_18, ca_19, ca_20, ca_21, ca_22, ca_23, ca_24, ca_25, ca_26, ca_27, ca_28, ca_29, ca_30, not_true_eq_false, not_false_eq_true, Int.reduceEq, Nat.reduceEqDiff, Nat.reduceLeDiff, rGcd, V.ty.injEq, eq_self, List.not_mem_nil, beq_self_eq_true, HO.lst.injEq, HO.tup.injEq, tFor_eq, iRng1, iList, iTup, nat10, tSeq, rIxA, rSetA, rIsN, rIsT, tTp, tLs, itsO_tup, itsO_lst, tyO_tup, tyO_lst, tyO_dK, tyN_non, tyN_bl, tyN_int, tyN_str, tyN_ref, tyNs_lt, isB, upd_same, upd_upd, sizeLine_eq, List.mem_cons, String.reduceBEq, String.reduceEq, Bool.or_false, Bool.or_true, Bool.and_false, Bool.false_or, Bool.and_self, Bool.false_and, Bool.not_false, Bool.not_true, List.any_cons, List.any_nil, atI_0, setI_0, atI_1, setI_1, atI_2, setI_2, atI_3, setI_3, atI_4, setI_4, atI_5, setI_5, atI_6, setI_6, tAsg, gName, tOp, tUn, tVar, tC, tCons, L2.tNil, tRet, tIfS, tTest, tCB, tCall, rI, rI0, rU, tNext, tB, tAnd, tOr, tNot, tAndV, tOrV, tNotV, tDrop, tIf, tPar, gSub, rIxL, rIxT, rEq, rNe, rSetL, tBits,
    L2.start, List.map_cons, List.map_nil, List.cons_append, List.nil_append, List.append_nil, List.length_cons, List.length_nil, List.replicate, Nat.reduceAdd, Nat.reduceSub, Nat.zero_add, List.getElem?_cons_zero, List.getElem?_cons_succ, List.set_cons_zero, List.set_cons_succ,
    Option.some.injEq, exists_eq_left', exists_eq_left, V.int.injEq, V.bl.injEq, V.ref.injEq, V.str.injEq, List.cons.injEq, reduceCtorEq, and_true, true_and, false_and, and_false, exists_false, or_false, false_or, or_true, true_or, exists_const, CMul, CDiv, CPow, and_assoc, exists_and_left, exists_and_right, Int.reducePow, Int.reduceNeg, Int.reduceLT, Int.reduceLE, Nat.reducePow, Nat.reduceLT, Int.reduceToNat, gt_iff_lt, ge_iff_le, decide_eq_true_eq, Bool.not_eq_true', decide_eq_false_iff_not, scal, ↓reduceIte, Bool.false_eq_true]
    refine ite2 (fun h => ?_) (fun h => ?_)
    · refine ⟨by omega, ⟨_, _, rfl, rfl, hr, ?_, ?_⟩, ?_⟩
      · rw [Int.fmod_eq_emod_of_nonneg l hr]
        exact Int.emod_nonneg _ (by omega)
      · rw [Int.fmod_eq_emod_of_nonneg l hr, ← e]
        show Nat.gcd r.natAbs (l % r).natAbs = Nat.gcd l.natAbs r.natAbs
        rw [Int.natAbs_emod_of_nonneg hl, Nat.gcd_comm l.natAbs, Nat.gcd_rec r.natAbs l.natAbs, Nat.gcd_comm]
      · show (l.fmod r).toNat < r.toNat
        rw [Int.fmod_eq_emod_of_nonneg l hr]
        have := Int.emod_lt_of_pos l h
        omega
    · have hr0 : r = 0 := by omega
      subst hr0
      have e2 : l = ((Int.gcd a b : Nat) : Int) := by
        rw [← e, Int.gcd_zero_right]
        omega
      rw [e2]
      exact q
  · rintro σ H' Q' Q2 hq ⟨v, e, i, j, h1, h2, k, ek, h⟩
    exact ⟨v, e, i, j, h1, h2, k, ek, hq _ _ h⟩
/-- the law's own lowest terms; 0 beneath gives 0 -/
def Lw (q : Qt) (t b : Int) : Prop := (b = 0 → q = (0, 1)) ∧ (b ≠ 0 → Is q t b)
/-- hands back a fraction, all else as it was -/
def Gv (K : PySem.W.Frag) (H : Hp) (Q : VK) (q : Qt) : Prop := ∀ (p : Addr) (H' : Hp), Same H H' → ob K H' p = some (frt q) → Q (.ref p) H'
theorem Gv.new {K : PySem.W.Frag} {H : Hp} {Q : VK} {q : Qt} (h : Gv K H Q q) {p : Addr} (hp : H p = none) (kp : K.lookup p = none) : Q (.ref p) (upd H p (.tup [.int q.1, .int q.2])) := h p _ (Same.new hp _) (ob_new kp)
def spLowest (K : PySem.W.Frag) : Sp := fun vs H Q _ => ∃ t b : Int, vs = [.int t, .int b] ∧ b.natAbs < 2 ^ 8000 ∧ ∀ q, Lw q t b → Gv K H Q q
abbrev sLowest : Stmt := topS 34
theorem scLowest : FnScope ["_law_top", "_law_bottom", "_law_common"] ["_law_top", "_law_bottom"] (defScope sLowest) := ⟨rfl, rfl, rfl, by decide +kernel, rfl, by decide +kernel, by decide +kernel⟩
theorem k_Lowest (T : Bt K mg) (D : Dfn K mg "_law_lowest" sLowest ["_law_top", "_law_bottom"]) (d__law_gcd : Kn P w K mg base 1 "_law_gcd" ["_law_left", "_law_right_here"] spGcd) : Kn P w K mg base 2 "_law_lowest" ["_law_top", "_law_bottom"] (spLowest K) := by
  refine Kn.mk' D scLowest (fun vs H Q E h => ?_) (fun f cdv A outer s H vs Q E hr h => ?_)
  · obtain ⟨t, b, rfl, _⟩ := h
    rfl
  obtain ⟨t, b, rfl, hz, q⟩ := h
  refine ⟨_, (pss_cons (ps_if (pt_cmpR op_eq (pv 1) pe_int (nomark _)) (pss_one (ps_ret (pe_tp (pa_cons pe_int (pa_cons pe_int pa_nil))))) pss_nil)
      (pss_cons (ps_if (pt_cmpR op_lt (pv 1) pe_int (nomark _)) (pss_cons (ps_set (i := 0) scLowest.nd rfl (.inl rfl) (pe_un un_neg (pv 0)))
      (pss_one (ps_set (i := 1) scLowest.nd rfl (.inl rfl) (pe_un un_neg (pv 1))))) pss_nil)
      (pss_cons (ps_set (i := 2) scLowest.nd rfl (.inl rfl) (pe_kn d__law_gcd hr (by rfl) (pa_cons (pv 0) (pa_cons (pv 1) pa_nil))))
      (pss_one (ps_ret (pe_tp (pa_cons (pe_op op_fdivW (pv 0) (pv 2)) (pa_cons (pe_op op_fdivW (pv 1) (pv 2)) pa_nil)))))))), ?_⟩
  simp only [cx_K, decide_true, decide_false, reduceCtorEq, gTp, gCons, gNil, ca_0, ca_1, ca_2, ca_3, ca_4, ca_5, ca_6, ca_7, ca_8, ca_9, ca_10, ca_11, ca_12, ca_13, ca_14, ca_15, ca_16, ca_17, ca_18, ca_19, ca_20, ca_21, ca_22, ca_23, ca_24, ca_25, ca_26, ca_27, ca_28, ca_29, ca_30, not_true_eq_false, not_false_eq_true, Int.reduceEq, Nat.reduceEqDiff, Nat.reduceLeDiff, rGcd, V.ty.injEq, eq_self, List.not_mem_nil, beq_self_eq_true, HO.lst.injEq, HO.tup.injEq, tFor_eq, iRng1, iList, iTup, nat10, tSeq, rIxA, rSetA, rIsN, rIsT, tTp, tLs, itsO_tup, itsO_lst, tyO_tup, tyO_lst, tyO_dK, tyN_non, tyN_bl, tyN_int, tyN_str, tyN_ref, tyNs_lt, isB, upd_same, upd_upd, sizeLine_eq, List.mem_cons, String.reduceBEq, String.reduceEq, Bool.or_false, Bool.or_true, Bool.and_false, Bool.false_or, Bool.and_self, Bool.false_and, Bool.not_false, Bool.not_true, List.any_cons, List.any_nil, atI_0, setI_0, atI_1, setI_1, atI_2, setI_2, atI_3, setI_3, atI_4, setI_4, atI_5, setI_5, atI_6, setI_6, tAsg, gName, tOp, tUn, tVar, tC, tCons, L2.tNil, tRet, tIfS, tTest, tCB, tCall, rI, rI0, rU, tNext, tB, tAnd, tOr, tNot, tAndV, tOrV, tNotV, tDrop, tIf, tPar, gSub, rIxL, rIxT, rEq, rNe, rSetL, tBits,
    L2.start, List.map_cons, List.map_nil, List.cons_append, List.nil_append, List.append_nil, List.length_cons, List.length_nil, List.replicate, Nat.reduceAdd, Nat.reduceSub, Nat.zero_add, List.getElem?_cons_zero, List.getElem?_cons_succ, List.set_cons_zero, List.set_cons_succ,
    Option.some.injEq, exists_eq_left', exists_eq_left, V.int.injEq, V.bl.injEq, V.ref.injEq, V.str.injEq, List.cons.injEq, reduceCtorEq, and_true, true_and, false_and, and_false, exists_false, or_false, false_or, or_true, true_or, exists_const, CMul, CDiv, CPow, and_assoc, exists_and_left, exists_and_right, Int.reducePow, Int.reduceNeg, Int.reduceLT, Int.reduceLE, Nat.reducePow, Nat.reduceLT, Int.reduceToNat, gt_iff_lt, ge_iff_le, decide_eq_true_eq, Bool.not_eq_true', decide_eq_false_iff_not, scal, ↓reduceIte, Bool.false_eq_true]
  refine ite2 (fun h => ?_) (fun h => ?_)
  · exact fun p hp kp => (q (0, 1) ⟨fun _ => rfl, fun z => absurd h z⟩).new hp kp
  have key : ∀ t' b' : Int, 0 < b' → b'.natAbs < 2 ^ 8000 → (∀ q, Is q t' b' → Gv K H Q q) → CDivW t' ((Int.gcd t' b' : Nat) : Int) ∧ CDivW b' ((Int.gcd t' b' : Nat) : Int) ∧ ∀ p, H p = none → K.lookup p = none → Q (.ref p) (upd H p (.tup [.int (t' / ((Int.gcd t' b' : Nat) : Int)), .int (b' / ((Int.gcd t' b' : Nat) : Int))])) := fun t' b' h0 hz hq => by
    have g0 := gcd_pos (t := t') (b := b') (by omega)
    have g1 := gcd_le (t := t') (b := b') (by omega)
    have g2 : ((Int.gcd t' b' : Nat) : Int).natAbs < 2 ^ 8000 := by rw [Int.natAbs_natCast]; omega
    exact ⟨wide_div (b := 8000) (by omega) g2 (by omega) (by omega), wide_div (b := 8000) (by omega) g2 (by omega) (by omega), fun p hp kp => (hq _ (is_div h0)).new hp kp⟩
  refine ite2 (fun hb => ?_) (fun hb => ?_)
  · have k := key (-t) (-b) (by omega) (by rw [Int.natAbs_neg]; exact hz) fun z hz => q z ⟨fun e => absurd e h, fun _ => is_neg hz⟩
    refine ⟨_, _, rfl, ?_⟩
    simp only [cx_K, decide_true, decide_false, reduceCtorEq, gTp, gCons, gNil, ca_0, ca_1, ca_2, ca_3, ca_4, ca_5, ca_6, ca_7, ca_8, ca_9, ca_10, ca_11, ca_12, ca_13, ca_14, ca_15, ca_16, ca_17, ca_18, ca_19, ca_20, ca_21, ca_22, ca_23, ca_24, ca_25, ca_26, ca_27, ca_28, ca_29, ca_30, not_true_eq_false, not_false_eq_true, Int.reduceEq, Nat.reduceEqDiff, Nat.reduceLeDiff, rGcd, V.ty.injEq, eq_self, List.not_mem_nil, beq_self_eq_true, HO.lst.injEq, HO.tup.injEq, tFor_eq, iRng1, iList, iTup, nat10, tSeq, rIxA, rSetA, rIsN, rIsT, tTp, tLs, itsO_tup, itsO_lst, tyO_tup, tyO_lst, tyO_dK, tyN_non, tyN_bl, tyN_int, tyN_str, tyN_ref, tyNs_lt, isB, upd_same, upd_upd, sizeLine_eq, List.mem_cons, String.reduceBEq, String.reduceEq, Bool.or_false, Bool.or_true, Bool.and_false, Bool.false_or, Bool.and_self, Bool.false_and, Bool.not_false, Bool.not_true, List.any_cons, List.any_nil, atI_0, setI_0, atI_1, setI_1, atI_2, setI_2, atI_3, setI_3, atI_4, setI_4, atI_5, setI_5, atI_6, setI_6, tAsg, gName, tOp, tUn, tVar, tC, tCons, L2.tNil, tRet, tIfS, tTest, tCB, tCall, rI, rI0, rU, tNext, tB, tAnd, tOr, tNot, tAndV, tOrV, tNotV, tDrop, tIf, tPar, gSub, rIxL, rIxT, rEq, rNe, rSetL, tBits,
    L2.start, List.map_cons, List.map_nil, List.cons_append, List.nil_append, List.append_nil, List.length_cons, List.length_nil, List.replicate, Nat.reduceAdd, Nat.reduceSub, Nat.zero_add, List.getElem?_cons_zero, List.getElem?_cons_succ, List.set_cons_zero, List.set_cons_succ,
    Option.some.injEq, exists_eq_left', exists_eq_left, V.int.injEq, V.bl.injEq, V.ref.injEq, V.str.injEq, List.cons.injEq, reduceCtorEq, and_true, true_and, false_and, and_false, exists_false, or_false, false_or, or_true, true_or, exists_const, CMul, CDiv, CPow, and_assoc, exists_and_left, exists_and_right, Int.reducePow, Int.reduceNeg, Int.reduceLT, Int.reduceLE, Nat.reducePow, Nat.reduceLT, Int.reduceToNat, gt_iff_lt, ge_iff_le, decide_eq_true_eq, Bool.not_eq_true', decide_eq_false_iff_not, scal, ↓reduceIte, Bool.false_eq_true]
    exact k
  · have k := key t b (by omega) hz fun z hz => q z ⟨fun e => absurd e h, fun _ => hz⟩
    refine ⟨_, _, rfl, ?_⟩
    simp only [cx_K, decide_true, decide_false, reduceCtorEq, gTp, gCons, gNil, ca_0, ca_1, ca_2, ca_3, ca_4, ca_5, ca_6, ca_7, ca_8, ca_9, ca_10, ca_11, ca_12, ca_13, ca_14, ca_15, ca_16, ca_17, ca_18, ca_19, ca_20, ca_21, ca_22, ca_23, ca_24, ca_25, ca_26, ca_27, ca_28, ca_29, ca_30, not_true_eq_false, not_false_eq_true, Int.reduceEq, Nat.reduceEqDiff, Nat.reduceLeDiff, rGcd, V.ty.injEq, eq_self, List.not_mem_nil, beq_self_eq_true, HO.lst.injEq, HO.tup.injEq, tFor_eq, iRng1, iList, iTup, nat10, tSeq, rIxA, rSetA, rIsN, rIsT, tTp, tLs, itsO_tup, itsO_lst, tyO_tup, tyO_lst, tyO_dK, tyN_non, tyN_bl, tyN_int, tyN_str, tyN_ref, tyNs_lt, isB, upd_same, upd_upd, sizeLine_eq, List.mem_cons, String.reduceBEq, String.reduceEq, Bool.or_false, Bool.or_true, Bool.and_false, Bool.false_or, Bool.and_self, Bool.false_and, Bool.not_false, Bool.not_true, List.any_cons, List.any_nil, atI_0, setI_0, atI_1, setI_1, atI_2, setI_2, atI_3, setI_3, atI_4, setI_4, atI_5, setI_5, atI_6, setI_6, tAsg, gName, tOp, tUn, tVar, tC, tCons, L2.tNil, tRet, tIfS, tTest, tCB, tCall, rI, rI0, rU, tNext, tB, tAnd, tOr, tNot, tAndV, tOrV, tNotV, tDrop, tIf, tPar, gSub, rIxL, rIxT, rEq, rNe, rSetL, tBits,
    L2.start, List.map_cons, List.map_nil, List.cons_append, List.nil_append, List.append_nil, List.length_cons, List.length_nil, List.replicate, Nat.reduceAdd, Nat.reduceSub, Nat.zero_add, List.getElem?_cons_zero, List.getElem?_cons_succ, List.set_cons_zero, List.set_cons_succ,
    Option.some.injEq, exists_eq_left', exists_eq_left, V.int.injEq, V.bl.injEq, V.ref.injEq, V.str.injEq, List.cons.injEq, reduceCtorEq, and_true, true_and, false_and, and_false, exists_false, or_false, false_or, or_true, true_or, exists_const, CMul, CDiv, CPow, and_assoc, exists_and_left, exists_and_right, Int.reducePow, Int.reduceNeg, Int.reduceLT, Int.reduceLE, Nat.reducePow, Nat.reduceLT, Int.reduceToNat, gt_iff_lt, ge_iff_le, decide_eq_true_eq, Bool.not_eq_true', decide_eq_false_iff_not, scal, ↓reduceIte, Bool.false_eq_true]
    exact k
end
end My

namespace My
open PySem PySem.Spec PyProof.Rows L2
section
variable {P : Program} {w : World} {K : PySem.W.Frag} {mg : Str → Option Value} {base : Heap}
end
structure DfnD (K : PySem.W.Frag) (mg : Str → Option Value) (x : Str) (st : Stmt) (ps : List Str) : Prop where
  ex : ∃ f fd dvs, FunD K x x (defArgs st) (defBody st) (defScope st) dvs [] f fd ∧ mg x = some (.ref f) ∧ Binds K fd ps []
theorem Kn.mkD {P : Program} {w : World} {K : PySem.W.Frag} {mg : Str → Option Value} {base : Heap} {x : Str} {st : Stmt} {N ps : List Str} {k : Nat} {sp : Sp} (D : DfnD K mg x st ps) (S : FnScope N ps (defScope st)) (len : ∀ vs H Q E, sp vs H Q E → vs.length = ps.length)
    (hbody : ∀ (f : Addr) (cdv : Value) (A : Around) (outer : List Env) (s : Shared) (H : Hp) (vs : List V) (Q : VK) (E : XK), Room k (A.deeper (envOfC x (defScope st) s.heap.objs.size f cdv)) → sp vs H Q E →
      ∃ t, PSs (cxOf CX0 P w K mg base N x (defScope st) f cdv A outer s H E).nox (defBody st) t ∧ t { nx := fun _ H' => Q .non H', rt := Q } (start N vs) H) : Kn P w K mg base (k + 1) x ps sp := by
  obtain ⟨f, fd, dvs, F, m, b⟩ := D.ex
  exact ⟨f, fd, m, F.kp, b, F.ok S len fun cdv A outer s H vs Q E hr h => let ⟨t, a, c⟩ := hbody f cdv A outer s H vs Q E hr h; ⟨t, a.nox, c⟩⟩
section
variable {P : Program} {w : World} {K : PySem.W.Frag} {mg : Str → Option Value} {base : Heap}
def spRequire : Sp := fun vs H Q _ => ∃ x : V, vs = [.bl true, x] ∧ Q .non H
abbrev sRequire : Stmt := topS 15
theorem scRequire : FnScope ["well_formed", "what"] ["well_formed", "what"] (defScope sRequire) := ⟨rfl, rfl, rfl, by decide +kernel, rfl, by decide +kernel, by decide +kernel⟩
theorem k_Require (T : Bt K mg) (D : Dfn K mg "require" sRequire ["well_formed", "what"]) : Kn P w K mg base 1 "require" ["well_formed", "what"] spRequire := by
  refine Kn.mk' D scRequire (fun vs H Q E h => ?_) (fun f cdv A outer s H vs Q E hr h => ?_)
  · obtain ⟨x, rfl, _⟩ := h
    rfl
  obtain ⟨x, rfl, q⟩ := h
  refine ⟨_, (pss_one (ps_if (pt_not (pt_val (pv 0))) (pss_one ps_never) pss_nil)), ?_⟩
  simp only [cx_K, decide_true, decide_false, reduceCtorEq, gTp, gCons, gNil, ca_0, ca_1, ca_2, ca_3, ca_4, ca_5, ca_6, ca_7, ca_8, ca_9, ca_10, ca_11, ca_12, ca_13, ca_14, ca_15, ca_16, ca_17, ca_18, ca_19, ca_20, ca_21, ca_22, ca_23, ca_24, ca_25, ca_26, ca_27, ca_28, ca_29, ca_30, not_true_eq_false, not_false_eq_true, Int.reduceEq, Nat.reduceEqDiff, Nat.reduceLeDiff, rGcd, V.ty.injEq, eq_self, List.not_mem_nil, beq_self_eq_true, HO.lst.injEq, HO.tup.injEq, tFor_eq, iRng1, iList, iTup, nat10, tSeq, rIxA, rSetA, rIsN, rIsT, tTp, tLs, itsO_tup, itsO_lst, tyO_tup, tyO_lst, tyO_dK, tyN_non, tyN_bl, tyN_int, tyN_str, tyN_ref, tyNs_lt, isB, upd_same, upd_upd, sizeLine_eq, List.mem_cons, String.reduceBEq, String.reduceEq, Bool.or_false, Bool.or_true, Bool.and_false, Bool.false_or, Bool.and_self, Bool.false_and, Bool.not_false, Bool.not_true, List.any_cons, List.any_nil, atI_0, setI_0, atI_1, setI_1, atI_2, setI_2, atI_3, setI_3, atI_4, setI_4, atI_5, setI_5, atI_6, setI_6, tAsg, gName, tOp, tUn, tVar, tC, tCons, L2.tNil, tRet, tIfS, tTest, tCB, tCall, rI, rI0, rU, tNext, tB, tAnd, tOr, tNot, tAndV, tOrV, tNotV, tDrop, tIf, tPar, gSub, rIxL, rIxT, rEq, rNe, rSetL, tBits,
    L2.start, List.map_cons, List.map_nil, List.cons_append, List.nil_append, List.append_nil, List.length_cons, List.length_nil, List.replicate, Nat.reduceAdd, Nat.reduceSub, Nat.zero_add, List.getElem?_cons_zero, List.getElem?_cons_succ, List.set_cons_zero, List.set_cons_succ,
    Option.some.injEq, exists_eq_left', exists_eq_left, V.int.injEq, V.bl.injEq, V.ref.injEq, V.str.injEq, List.cons.injEq, reduceCtorEq, and_true, true_and, false_and, and_false, exists_false, or_false, false_or, or_true, true_or, exists_const, CMul, CDiv, CPow, and_assoc, exists_and_left, exists_and_right, Int.reducePow, Int.reduceNeg, Int.reduceLT, Int.reduceLE, Nat.reducePow, Nat.reduceLT, Int.reduceToNat, gt_iff_lt, ge_iff_le, decide_eq_true_eq, Bool.not_eq_true', decide_eq_false_iff_not, scal, ↓reduceIte, Bool.false_eq_true]
  exact q
def wholeV : V → Bool
  | .int _ => true
  | _ => false
theorem wholeV_ty {H : Hp} {v : V} {t : String} (h : tyN K H v = some t) : wholeV v = (t == "int") := by
  cases v with
  | ref a =>
    have h1 : tyO (ob K H a) = some t := h
    unfold tyO at h1
    split at h1 <;> first | (cases h1; rfl) | cases h1
  | _ => first | (cases h; rfl) | cases h
def spWhole (K : PySem.W.Frag) : Sp := fun vs H Q _ => ∃ v, vs = [v] ∧ (tyN K H v).isSome ∧ Q (.bl (wholeV v)) H
abbrev sWhole : Stmt := topS 16
theorem scWhole : FnScope ["value"] ["value"] (defScope sWhole) := ⟨rfl, rfl, rfl, by decide +kernel, rfl, by decide +kernel, by decide +kernel⟩
theorem k_Whole (T : Bt K mg) (D : Dfn K mg "is_whole" sWhole ["value"]) : Kn P w K mg base 1 "is_whole" ["value"] (spWhole K) := by
  refine Kn.mk' D scWhole (fun vs H Q E h => ?_) (fun f cdv A outer s H vs Q E hr h => ?_)
  · obtain ⟨v, rfl, _⟩ := h
    rfl
  obtain ⟨v, rfl, hv, q⟩ := h
  refine ⟨_, (pss_one (ps_ret (pe_and (pe_callB call_isN (by rfl) T.b_isinstance (by decide +kernel) (pa_cons (pv 0) (pa_cons (pe_bltn (v := .ty "int") (by rfl) T.b_int (by decide +kernel) rfl) pa_nil))) (pe_one (pe_not (pe_callB call_isN (by rfl) T.b_isinstance (by decide +kernel) (pa_cons (pv 0) (pa_cons (pe_bltn (v := .ty "bool") (by rfl) T.b_bool (by decide +kernel) rfl) pa_nil)))))))), ?_⟩
  obtain ⟨t, ht⟩ := Option.isSome_iff_exists.mp hv
  rw [wholeV_ty ht] at q
  have mt := tyN_mem ht
  simp only [List.mem_cons, List.not_mem_nil, or_false] at mt
  rcases mt with rfl | rfl | rfl | rfl | rfl | rfl | rfl <;> (simp only [ht, cx_K, decide_true, decide_false, reduceCtorEq, gTp, gCons, gNil, ca_0, ca_1, ca_2, ca_3, ca_4, ca_5, ca_6, ca_7, ca_8, ca_9, ca_10, ca_11, ca_12, ca_13, ca_14, ca_15, ca_16, ca_17, ca_18, ca_19, ca_20, ca_21, ca_22, ca_23, ca_24, ca_25, ca_26, ca_27, ca_28, ca_29, ca_30, not_true_eq_false, not_false_eq_true, Int.reduceEq, Nat.reduceEqDiff, Nat.reduceLeDiff, rGcd, V.ty.injEq, eq_self, List.not_mem_nil, beq_self_eq_true, HO.lst.injEq, HO.tup.injEq, tFor_eq, iRng1, iList, iTup, nat10, tSeq, rIxA, rSetA, rIsN, rIsT, tTp, tLs, itsO_tup, itsO_lst, tyO_tup, tyO_lst, tyO_dK, tyN_non, tyN_bl, tyN_int, tyN_str, tyN_ref, tyNs_lt, isB, upd_same, upd_upd, sizeLine_eq, List.mem_cons, String.reduceBEq, String.reduceEq, Bool.or_false, Bool.or_true, Bool.and_false, Bool.false_or, Bool.and_self, Bool.false_and, Bool.not_false, Bool.not_true, List.any_cons, List.any_nil, atI_0, setI_0, atI_1, setI_1, atI_2, setI_2, atI_3, setI_3, atI_4, setI_4, atI_5, setI_5, atI_6, setI_6, tAsg, gName, tOp, tUn, tVar, tC, tCons, L2.tNil, tRet, tIfS, tTest, tCB, tCall, rI, rI0, rU, tNext, tB, tAnd, tOr, tNot, tAndV, tOrV, tNotV, tDrop, tIf, tPar, gSub, rIxL, rIxT, rEq, rNe, rSetL, tBits,
    L2.start, List.map_cons, List.map_nil, List.cons_append, List.nil_append, List.append_nil, List.length_cons, List.length_nil, List.replicate, Nat.reduceAdd, Nat.reduceSub, Nat.zero_add, List.getElem?_cons_zero, List.getElem?_cons_succ, List.set_cons_zero, List.set_cons_succ,
    Option.some.injEq, exists_eq_left', exists_eq_left, V.int.injEq, V.bl.injEq, V.ref.injEq, V.str.injEq, List.cons.injEq, reduceCtorEq, and_true, true_and, false_and, and_false, exists_false, or_false, false_or, or_true, true_or, exists_const, CMul, CDiv, CPow, and_assoc, exists_and_left, exists_and_right, Int.reducePow, Int.reduceNeg, Int.reduceLT, Int.reduceLE, Nat.reducePow, Nat.reduceLT, Int.reduceToNat, gt_iff_lt, ge_iff_le, decide_eq_true_eq, Bool.not_eq_true', decide_eq_false_iff_not, scal, ↓reduceIte, Bool.false_eq_true]; simpa using q)
abbrev sLWhole : Stmt := topS 35
theorem scLWhole : FnScope ["_law_told_here"] ["_law_told_here"] (defScope sLWhole) := ⟨rfl, rfl, rfl, by decide +kernel, rfl, by decide +kernel, by decide +kernel⟩
theorem k_LWhole (T : Bt K mg) (D : Dfn K mg "_law_is_whole" sLWhole ["_law_told_here"]) : Kn P w K mg base 1 "_law_is_whole" ["_law_told_here"] (spWhole K) := by
  refine Kn.mk' D scLWhole (fun vs H Q E h => ?_) (fun f cdv A outer s H vs Q E hr h => ?_)
  · obtain ⟨v, rfl, _⟩ := h
    rfl
  obtain ⟨v, rfl, hv, q⟩ := h
  refine ⟨_, (pss_one (ps_ret (pe_and (pe_callB call_isN (by rfl) T.b_isinstance (by decide +kernel) (pa_cons (pv 0) (pa_cons (pe_bltn (v := .ty "int") (by rfl) T.b_int (by decide +kernel) rfl) pa_nil))) (pe_one (pe_not (pe_callB call_isN (by rfl) T.b_isinstance (by decide +kernel) (pa_cons (pv 0) (pa_cons (pe_bltn (v := .ty "bool") (by rfl) T.b_bool (by decide +kernel) rfl) pa_nil)))))))), ?_⟩
  obtain ⟨t, ht⟩ := Option.isSome_iff_exists.mp hv
  rw [wholeV_ty ht] at q
  have mt := tyN_mem ht
  simp only [List.mem_cons, List.not_mem_nil, or_false] at mt
  rcases mt with rfl | rfl | rfl | rfl | rfl | rfl | rfl <;> (simp only [ht, cx_K, decide_true, decide_false, reduceCtorEq, gTp, gCons, gNil, ca_0, ca_1, ca_2, ca_3, ca_4, ca_5, ca_6, ca_7, ca_8, ca_9, ca_10, ca_11, ca_12, ca_13, ca_14, ca_15, ca_16, ca_17, ca_18, ca_19, ca_20, ca_21, ca_22, ca_23, ca_24, ca_25, ca_26, ca_27, ca_28, ca_29, ca_30, not_true_eq_false, not_false_eq_true, Int.reduceEq, Nat.reduceEqDiff, Nat.reduceLeDiff, rGcd, V.ty.injEq, eq_self, List.not_mem_nil, beq_self_eq_true, HO.lst.injEq, HO.tup.injEq, tFor_eq, iRng1, iList, iTup, nat10, tSeq, rIxA, rSetA, rIsN, rIsT, tTp, tLs, itsO_tup, itsO_lst, tyO_tup, tyO_lst, tyO_dK, tyN_non, tyN_bl, tyN_int, tyN_str, tyN_ref, tyNs_lt, isB, upd_same, upd_upd, sizeLine_eq, List.mem_cons, String.reduceBEq, String.reduceEq, Bool.or_false, Bool.or_true, Bool.and_false, Bool.false_or, Bool.and_self, Bool.false_and, Bool.not_false, Bool.not_true, List.any_cons, List.any_nil, atI_0, setI_0, atI_1, setI_1, atI_2, setI_2, atI_3, setI_3, atI_4, setI_4, atI_5, setI_5, atI_6, setI_6, tAsg, gName, tOp, tUn, tVar, tC, tCons, L2.tNil, tRet, tIfS, tTest, tCB, tCall, rI, rI0, rU, tNext, tB, tAnd, tOr, tNot, tAndV, tOrV, tNotV, tDrop, tIf, tPar, gSub, rIxL, rIxT, rEq, rNe, rSetL, tBits,
    L2.start, List.map_cons, List.map_nil, List.cons_append, List.nil_append, List.append_nil, List.length_cons, List.length_nil, List.replicate, Nat.reduceAdd, Nat.reduceSub, Nat.zero_add, List.getElem?_cons_zero, List.getElem?_cons_succ, List.set_cons_zero, List.set_cons_succ,
    Option.some.injEq, exists_eq_left', exists_eq_left, V.int.injEq, V.bl.injEq, V.ref.injEq, V.str.injEq, List.cons.injEq, reduceCtorEq, and_true, true_and, false_and, and_false, exists_false, or_false, false_or, or_true, true_or, exists_const, CMul, CDiv, CPow, and_assoc, exists_and_left, exists_and_right, Int.reducePow, Int.reduceNeg, Int.reduceLT, Int.reduceLE, Nat.reducePow, Nat.reduceLT, Int.reduceToNat, gt_iff_lt, ge_iff_le, decide_eq_true_eq, Bool.not_eq_true', decide_eq_false_iff_not, scal, ↓reduceIte, Bool.false_eq_true]; simpa using q)
def spFraction (K : PySem.W.Frag) : Sp := fun vs H Q _ => ∃ n d : Int, vs = [.int n, .int d] ∧ d ≠ 0 ∧ d.natAbs < 2 ^ 8000 ∧ ∀ q, Is q n d → Gv K H Q q
theorem gcdX {n d : Int} (h0 : d ≠ 0) (hz : d.natAbs < 2 ^ 8000) (x : Int) : CDivX x (if d < 0 then -((Int.gcd n d : Nat) : Int) else (Int.gcd n d : Nat)) := by
  have g0 := gcd_pos (t := n) (b := d) h0
  have g1 := gcd_le (t := n) (b := d) h0
  have e : 2 ^ 8000 ≤ 2 ^ 8999 := Nat.pow_le_pow_right (by omega) (by omega)
  unfold CDivX
  split <;> refine ⟨by omega, by omega⟩
def frOk (K : PySem.W.Frag) (H : Hp) : V → Bool
  | .ref a => match ob K H a with
    | some (.tup [.int n, .int d]) => decide (1 ≤ d) && decide (Int.gcd n d = 1)
    | _ => false
  | _ => false
theorem frOk_fr {H : Hp} {a : Addr} {q : Qt} (h : ob K H a = some (frt q)) (hn : Nf q) : frOk K H (.ref a) = true := by
  simp only [frOk, h, frt]
  show (decide (1 ≤ q.2) && decide (Int.gcd q.1 q.2 = 1)) = true
  rw [decide_eq_true hn.1, decide_eq_true hn.2]
  rfl
/-- v and, if it is a tuple, its items are of known kinds -/
def Tyd (K : PySem.W.Frag) (H : Hp) (v : V) : Prop := (tyN K H v).isSome ∧ ∀ a xs, v = .ref a → ob K H a = some (.tup xs) → ∀ x ∈ xs, (tyN K H x).isSome
theorem Tyd.fr {H : Hp} {a : Addr} {q : Qt} (h : ob K H a = some (frt q)) : Tyd K H (.ref a) := by
  refine ⟨by rw [tyN_ref, h]; rfl, fun b xs e hx x hm => ?_⟩
  cases e
  rw [h] at hx
  cases hx
  simp only [List.mem_cons, List.not_mem_nil, or_false] at hm
  rcases hm with rfl | rfl <;> rfl
theorem tyN_tuple {H : Hp} {v : V} (h : tyN K H v = some "tuple") : ∃ a xs, v = .ref a ∧ ob K H a = some (.tup xs) := by
  cases v with
  | ref a =>
    have h1 : tyO (ob K H a) = some "tuple" := h
    unfold tyO at h1
    split at h1 <;> first | exact ⟨a, _, rfl, by assumption⟩ | (exfalso; revert h1; decide)
  | _ => exfalso; revert h; simp only [tyN]; decide
def spIsFraction (K : PySem.W.Frag) : Sp := fun vs H Q _ => ∃ v, vs = [v] ∧ Tyd K H v ∧ Q (.bl (frOk K H v)) H
abbrev sIsFraction : Stmt := topS 19
theorem scIsFraction : FnScope ["value", "numerator", "denominator"] ["value"] (defScope sIsFraction) := ⟨rfl, rfl, rfl, by decide +kernel, rfl, by decide +kernel, by decide +kernel⟩
theorem k_IsFraction (T : Bt K mg) (D : Dfn K mg "is_fraction" sIsFraction ["value"]) (d_is_whole : Kn P w K mg base 1 "is_whole" ["value"] (spWhole K)) : Kn P w K mg base 2 "is_fraction" ["value"] (spIsFraction K) := by
  refine Kn.mk' D scIsFraction (fun vs H Q E h => ?_) (fun f cdv A outer s H vs Q E hr h => ?_)
  · obtain ⟨v, rfl, _⟩ := h
    rfl
  obtain ⟨v, rfl, hv, q⟩ := h
  refine ⟨_, (pss_cons (ps_if (PW.pt (pw_or (pt_not (pt_val (pe_callB call_isN (by rfl) T.b_isinstance (by decide +kernel) (pa_cons (pv 0) (pa_cons (pe_bltn (v := .ty "tuple") (by rfl) T.b_tuple (by decide +kernel) rfl) pa_nil))))) (pw_or1 (pt_cmpR op_ne (pe_callB call_lenA (by rfl) T.b_len PySem.boot_len (pa_cons (pv 0) pa_nil)) pe_int (nomark _))))) (pss_one (ps_ret pe_bl)) pss_nil)
      (pss_cons (ps_asg (pv 0) (pg_tp 2 (by rfl) (pgs_cons (pg_name (i := 1) scIsFraction.nd rfl (.inl rfl)) (pgs_cons (pg_name (i := 2) scIsFraction.nd rfl (.inl rfl)) pgs_nil))))
      (pss_cons (ps_if (PW.pt (pw_or (pt_not (pt_val (pe_kn d_is_whole hr (by rfl) (pa_cons (pv 1) pa_nil)))) (pw_or1 (pt_not (pt_val (pe_kn d_is_whole hr (by rfl) (pa_cons (pv 2) pa_nil))))))) (pss_one (ps_ret pe_bl)) pss_nil)
      (pss_one (ps_ret (pe_and (pe_cmpR op_ge (pv 2) pe_int (nomark _)) (pe_one (pe_cmpR op_eq (pe_callBfun cr_gcd (by rfl) T.g_gcd (pa_cons (pv 1) (pa_cons (pv 2) pa_nil))) pe_int (nomark _))))))))), ?_⟩
  obtain ⟨t, ht⟩ := Option.isSome_iff_exists.mp hv.1
  by_cases e : t = "tuple"
  · subst e
    obtain ⟨a, xs, rfl, ha⟩ := tyN_tuple ht
    have hx := hv.2 a xs rfl ha
    match xs, ha, hx with
    | [], ha, hx =>
      have e : frOk K H (.ref a) = false := by simp only [frOk, ha]
      rw [e] at q
      simp only [ha, cx_K, decide_true, decide_false, reduceCtorEq, gTp, gCons, gNil, ca_0, ca_1, ca_2, ca_3, ca_4, ca_5, ca_6, ca_7, ca_8, ca_9, ca_10, ca_11, ca_12, ca_13, ca_14, ca_15, ca_16, ca_17, ca_18, ca_19, ca_20, ca_21, ca_22, ca_23, ca_24, ca_25, ca_26, ca_27, ca_28, ca_29, ca_30, not_true_eq_false, not_false_eq_true, Int.reduceEq, Nat.reduceEqDiff, Nat.reduceLeDiff, rGcd, V.ty.injEq, eq_self, List.not_mem_nil, beq_self_eq_true, HO.lst.injEq, HO.tup.injEq, tFor_eq, iRng1, iList, iTup, nat10, tSeq, rIxA, rSetA, rIsN, rIsT, tTp, tLs, itsO_tup, itsO_lst, tyO_tup, tyO_lst, tyO_dK, tyN_non, tyN_bl, tyN_int, tyN_str, tyN_ref, tyNs_lt, isB, upd_same, upd_upd, sizeLine_eq, List.mem_cons, String.reduceBEq, String.reduceEq, Bool.or_false, Bool.or_true, Bool.and_false, Bool.false_or, Bool.and_self, Bool.false_and, Bool.not_false, Bool.not_true, List.any_cons, List.any_nil, atI_0, setI_0, atI_1, setI_1, atI_2, setI_2, atI_3, setI_3, atI_4, setI_4, atI_5, setI_5, atI_6, setI_6, tAsg, gName, tOp, tUn, tVar, tC, tCons, L2.tNil, tRet, tIfS, tTest, tCB, tCall, rI, rI0, rU, tNext, tB, tAnd, tOr, tNot, tAndV, tOrV, tNotV, tDrop, tIf, tPar, gSub, rIxL, rIxT, rEq, rNe, rSetL, tBits,
    L2.start, List.map_cons, List.map_nil, List.cons_append, List.nil_append, List.append_nil, List.length_cons, List.length_nil, List.replicate, Nat.reduceAdd, Nat.reduceSub, Nat.zero_add, List.getElem?_cons_zero, List.getElem?_cons_succ, List.set_cons_zero, List.set_cons_succ,
    Option.some.injEq, exists_eq_left', exists_eq_left, V.int.injEq, V.bl.injEq, V.ref.injEq, V.str.injEq, List.cons.injEq, reduceCtorEq, and_true, true_and, false_and, and_false, exists_false, or_false, false_or, or_true, true_or, exists_const, CMul, CDiv, CPow, and_assoc, exists_and_left, exists_and_right, Int.reducePow, Int.reduceNeg, Int.reduceLT, Int.reduceLE, Nat.reducePow, Nat.reduceLT, Int.reduceToNat, gt_iff_lt, ge_iff_le, decide_eq_true_eq, Bool.not_eq_true', decide_eq_false_iff_not, scal, ↓reduceIte, Bool.false_eq_true]
      exact q
    | [x], ha, hx =>
      have e : frOk K H (.ref a) = false := by simp only [frOk, ha]
      rw [e] at q
      simp only [ha, cx_K, decide_true, decide_false, reduceCtorEq, gTp, gCons, gNil, ca_0, ca_1, ca_2, ca_3, ca_4, ca_5, ca_6, ca_7, ca_8, ca_9, ca_10, ca_11, ca_12, ca_13, ca_14, ca_15, ca_16, ca_17, ca_18, ca_19, ca_20, ca_21, ca_22, ca_23, ca_24, ca_25, ca_26, ca_27, ca_28, ca_29, ca_30, not_true_eq_false, not_false_eq_true, Int.reduceEq, Nat.reduceEqDiff, Nat.reduceLeDiff, rGcd, V.ty.injEq, eq_self, List.not_mem_nil, beq_self_eq_true, HO.lst.injEq, HO.tup.injEq, tFor_eq, iRng1, iList, iTup, nat10, tSeq, rIxA, rSetA, rIsN, rIsT, tTp, tLs, itsO_tup, itsO_lst, tyO_tup, tyO_lst, tyO_dK, tyN_non, tyN_bl, tyN_int, tyN_str, tyN_ref, tyNs_lt, isB, upd_same, upd_upd, sizeLine_eq, List.mem_cons, String.reduceBEq, String.reduceEq, Bool.or_false, Bool.or_true, Bool.and_false, Bool.false_or, Bool.and_self, Bool.false_and, Bool.not_false, Bool.not_true, List.any_cons, List.any_nil, atI_0, setI_0, atI_1, setI_1, atI_2, setI_2, atI_3, setI_3, atI_4, setI_4, atI_5, setI_5, atI_6, setI_6, tAsg, gName, tOp, tUn, tVar, tC, tCons, L2.tNil, tRet, tIfS, tTest, tCB, tCall, rI, rI0, rU, tNext, tB, tAnd, tOr, tNot, tAndV, tOrV, tNotV, tDrop, tIf, tPar, gSub, rIxL, rIxT, rEq, rNe, rSetL, tBits,
    L2.start, List.map_cons, List.map_nil, List.cons_append, List.nil_append, List.append_nil, List.length_cons, List.length_nil, List.replicate, Nat.reduceAdd, Nat.reduceSub, Nat.zero_add, List.getElem?_cons_zero, List.getElem?_cons_succ, List.set_cons_zero, List.set_cons_succ,
    Option.some.injEq, exists_eq_left', exists_eq_left, V.int.injEq, V.bl.injEq, V.ref.injEq, V.str.injEq, List.cons.injEq, reduceCtorEq, and_true, true_and, false_and, and_false, exists_false, or_false, false_or, or_true, true_or, exists_const, CMul, CDiv, CPow, and_assoc, exists_and_left, exists_and_right, Int.reducePow, Int.reduceNeg, Int.reduceLT, Int.reduceLE, Nat.reducePow, Nat.reduceLT, Int.reduceToNat, gt_iff_lt, ge_iff_le, decide_eq_true_eq, Bool.not_eq_true', decide_eq_false_iff_not, scal, ↓reduceIte, Bool.false_eq_true]
      exact q
    | [x, y], ha, hx =>
      have hx1 := hx x (by simp)
      have hx2 := hx y (by simp)
      simp only [ha, cx_K, decide_true, decide_false, reduceCtorEq, gTp, gCons, gNil, ca_0, ca_1, ca_2, ca_3, ca_4, ca_5, ca_6, ca_7, ca_8, ca_9, ca_10, ca_11, ca_12, ca_13, ca_14, ca_15, ca_16, ca_17, ca_18, ca_19, ca_20, ca_21, ca_22, ca_23, ca_24, ca_25, ca_26, ca_27, ca_28, ca_29, ca_30, not_true_eq_false, not_false_eq_true, Int.reduceEq, Nat.reduceEqDiff, Nat.reduceLeDiff, rGcd, V.ty.injEq, eq_self, List.not_mem_nil, beq_self_eq_true, HO.lst.injEq, HO.tup.injEq, tFor_eq, iRng1, iList, iTup, nat10, tSeq, rIxA, rSetA, rIsN, rIsT, tTp, tLs, itsO_tup, itsO_lst, tyO_tup, tyO_lst, tyO_dK, tyN_non, tyN_bl, tyN_int, tyN_str, tyN_ref, tyNs_lt, isB, upd_same, upd_upd, sizeLine_eq, List.mem_cons, String.reduceBEq, String.reduceEq, Bool.or_false, Bool.or_true, Bool.and_false, Bool.false_or, Bool.and_self, Bool.false_and, Bool.not_false, Bool.not_true, List.any_cons, List.any_nil, atI_0, setI_0, atI_1, setI_1, atI_2, setI_2, atI_3, setI_3, atI_4, setI_4, atI_5, setI_5, atI_6, setI_6, tAsg, gName, tOp, tUn, tVar, tC, tCons, L2.tNil, tRet, tIfS, tTest, tCB, tCall, rI, rI0, rU, tNext, tB, tAnd, tOr, tNot, tAndV, tOrV, tNotV, tDrop, tIf, tPar, gSub, rIxL, rIxT, rEq, rNe, rSetL, tBits,
    L2.start, List.map_cons, List.map_nil, List.cons_append, List.nil_append, List.append_nil, List.length_cons, List.length_nil, List.replicate, Nat.reduceAdd, Nat.reduceSub, Nat.zero_add, List.getElem?_cons_zero, List.getElem?_cons_succ, List.set_cons_zero, List.set_cons_succ,
    Option.some.injEq, exists_eq_left', exists_eq_left, V.int.injEq, V.bl.injEq, V.ref.injEq, V.str.injEq, List.cons.injEq, reduceCtorEq, and_true, true_and, false_and, and_false, exists_false, or_false, false_or, or_true, true_or, exists_const, CMul, CDiv, CPow, and_assoc, exists_and_left, exists_and_right, Int.reducePow, Int.reduceNeg, Int.reduceLT, Int.reduceLE, Nat.reducePow, Nat.reduceLT, Int.reduceToNat, gt_iff_lt, ge_iff_le, decide_eq_true_eq, Bool.not_eq_true', decide_eq_false_iff_not, scal, ↓reduceIte, Bool.false_eq_true]
      refine ⟨_, rfl, hx1, ?_⟩
      cases x with
      | int n =>
        refine ⟨true, rfl, ?_⟩
        rw [if_neg Bool.noConfusion]
        refine ⟨_, rfl, hx2, ?_⟩
        cases y with
        | int d =>
          refine ⟨true, rfl, ?_⟩
          rw [if_neg Bool.noConfusion]
          simp only [ha, cx_K, decide_true, decide_false, reduceCtorEq, gTp, gCons, gNil, ca_0, ca_1, ca_2, ca_3, ca_4, ca_5, ca_6, ca_7, ca_8, ca_9, ca_10, ca_11, ca_12, ca_13, ca_14, ca_15, ca_16, ca_17, ca_18, ca_19, ca_20, ca_21, ca_22, ca_23, ca_24, ca_25, ca_26, ca_27, ca_28, ca_29, ca_30, not_true_eq_false, not_false_eq_true, Int.reduceEq, Nat.reduceEqDiff, Nat.reduceLeDiff, rGcd, V.ty.injEq, eq_self, List.not_mem_nil, beq_self_eq_true, HO.lst.injEq, HO.tup.injEq, tFor_eq, iRng1, iList, iTup, nat10, tSeq, rIxA, rSetA, rIsN, rIsT, tTp, tLs, itsO_tup, itsO_lst, tyO_tup, tyO_lst, tyO_dK, tyN_non, tyN_bl, tyN_int, tyN_str, tyN_ref, tyNs_lt, isB, upd_same, upd_upd, sizeLine_eq, List.mem_cons, String.reduceBEq, String.reduceEq, Bool.or_false, Bool.or_true, Bool.and_false, Bool.false_or, Bool.and_self, Bool.false_and, Bool.not_false, Bool.not_true, List.any_cons, List.any_nil, atI_0, setI_0, atI_1, setI_1, atI_2, setI_2, atI_3, setI_3, atI_4, setI_4, atI_5, setI_5, atI_6, setI_6, tAsg, gName, tOp, tUn, tVar, tC, tCons, L2.tNil, tRet, tIfS, tTest, tCB, tCall, rI, rI0, rU, tNext, tB, tAnd, tOr, tNot, tAndV, tOrV, tNotV, tDrop, tIf, tPar, gSub, rIxL, rIxT, rEq, rNe, rSetL, tBits,
    L2.start, List.map_cons, List.map_nil, List.cons_append, List.nil_append, List.append_nil, List.length_cons, List.length_nil, List.replicate, Nat.reduceAdd, Nat.reduceSub, Nat.zero_add, List.getElem?_cons_zero, List.getElem?_cons_succ, List.set_cons_zero, List.set_cons_succ,
    Option.some.injEq, exists_eq_left', exists_eq_left, V.int.injEq, V.bl.injEq, V.ref.injEq, V.str.injEq, List.cons.injEq, reduceCtorEq, and_true, true_and, false_and, and_false, exists_false, or_false, false_or, or_true, true_or, exists_const, CMul, CDiv, CPow, and_assoc, exists_and_left, exists_and_right, Int.reducePow, Int.reduceNeg, Int.reduceLT, Int.reduceLE, Nat.reducePow, Nat.reduceLT, Int.reduceToNat, gt_iff_lt, ge_iff_le, decide_eq_true_eq, Bool.not_eq_true', decide_eq_false_iff_not, scal, ↓reduceIte, Bool.false_eq_true]
          refine ite2 (fun h => ?_) (fun h => ?_)
          · have e : frOk K H (.ref a) = decide (((n.natAbs.gcd d.natAbs : Nat) : Int) = 1) := by
              simp only [frOk, ha]
              rw [decide_eq_true h, Bool.true_and]
              show decide (Nat.gcd n.natAbs d.natAbs = 1) = _
              exact decide_eq_decide.mpr (by omega)
            rw [e] at q
            exact q
          · have e : frOk K H (.ref a) = false := by
              simp only [frOk, ha]
              rw [decide_eq_false h, Bool.false_and]
            rw [e] at q
            exact q
        | _ =>
          refine ⟨false, rfl, ?_⟩
          rw [if_pos rfl]
          have e : frOk K H (.ref a) = false := by simp only [frOk, ha]
          rw [e] at q
          exact q
      | _ =>
        refine ⟨false, rfl, ?_⟩
        rw [if_pos rfl]
        have e : frOk K H (.ref a) = false := by simp only [frOk, ha]
        rw [e] at q
        exact q
    | x :: y :: z :: r, ha, hx =>
      have e : frOk K H (.ref a) = false := by simp only [frOk, ha]
      rw [e] at q
      simp only [ha, cx_K, decide_true, decide_false, reduceCtorEq, gTp, gCons, gNil, ca_0, ca_1, ca_2, ca_3, ca_4, ca_5, ca_6, ca_7, ca_8, ca_9, ca_10, ca_11, ca_12, ca_13, ca_14, ca_15, ca_16, ca_17, ca_18, ca_19, ca_20, ca_21, ca_22, ca_23, ca_24, ca_25, ca_26, ca_27, ca_28, ca_29, ca_30, not_true_eq_false, not_false_eq_true, Int.reduceEq, Nat.reduceEqDiff, Nat.reduceLeDiff, rGcd, V.ty.injEq, eq_self, List.not_mem_nil, beq_self_eq_true, HO.lst.injEq, HO.tup.injEq, tFor_eq, iRng1, iList, iTup, nat10, tSeq, rIxA, rSetA, rIsN, rIsT, tTp, tLs, itsO_tup, itsO_lst, tyO_tup, tyO_lst, tyO_dK, tyN_non, tyN_bl, tyN_int, tyN_str, tyN_ref, tyNs_lt, isB, upd_same, upd_upd, sizeLine_eq, List.mem_cons, String.reduceBEq, String.reduceEq, Bool.or_false, Bool.or_true, Bool.and_false, Bool.false_or, Bool.and_self, Bool.false_and, Bool.not_false, Bool.not_true, List.any_cons, List.any_nil, atI_0, setI_0, atI_1, setI_1, atI_2, setI_2, atI_3, setI_3, atI_4, setI_4, atI_5, setI_5, atI_6, setI_6, tAsg, gName, tOp, tUn, tVar, tC, tCons, L2.tNil, tRet, tIfS, tTest, tCB, tCall, rI, rI0, rU, tNext, tB, tAnd, tOr, tNot, tAndV, tOrV, tNotV, tDrop, tIf, tPar, gSub, rIxL, rIxT, rEq, rNe, rSetL, tBits,
    L2.start, List.map_cons, List.map_nil, List.cons_append, List.nil_append, List.append_nil, List.length_cons, List.length_nil, List.replicate, Nat.reduceAdd, Nat.reduceSub, Nat.zero_add, List.getElem?_cons_zero, List.getElem?_cons_succ, List.set_cons_zero, List.set_cons_succ,
    Option.some.injEq, exists_eq_left', exists_eq_left, V.int.injEq, V.bl.injEq, V.ref.injEq, V.str.injEq, List.cons.injEq, reduceCtorEq, and_true, true_and, false_and, and_false, exists_false, or_false, false_or, or_true, true_or, exists_const, CMul, CDiv, CPow, and_assoc, exists_and_left, exists_and_right, Int.reducePow, Int.reduceNeg, Int.reduceLT, Int.reduceLE, Nat.reducePow, Nat.reduceLT, Int.reduceToNat, gt_iff_lt, ge_iff_le, decide_eq_true_eq, Bool.not_eq_true', decide_eq_false_iff_not, scal, ↓reduceIte, Bool.false_eq_true]
      refine ite2 (fun h => q) (fun h => ?_)
      exfalso
      omega
  · have e1 : frOk K H v = false := by
      cases v with
      | ref a =>
        have h1 : tyO (ob K H a) = some t := ht
        cases hz : ob K H a with
        | none => simp only [frOk, hz]
        | some z =>
          cases z with
          | tup xs =>
            rw [hz] at h1
            exact absurd (Option.some.inj h1).symm e
          | _ => simp only [frOk, hz]
      | _ => rfl
    rw [e1] at q
    have mt := tyN_mem ht
    simp only [List.mem_cons, List.not_mem_nil, or_false] at mt
    rcases mt with rfl | rfl | rfl | rfl | rfl | rfl | rfl <;> first | exact absurd rfl e | (simp only [ht, cx_K, decide_true, decide_false, reduceCtorEq, gTp, gCons, gNil, ca_0, ca_1, ca_2, ca_3, ca_4, ca_5, ca_6, ca_7, ca_8, ca_9, ca_10, ca_11, ca_12, ca_13, ca_14, ca_15, ca_16, ca_17, ca_18, ca_19, ca_20, ca_21, ca_22, ca_23, ca_24, ca_25, ca_26, ca_27, ca_28, ca_29, ca_30, not_true_eq_false, not_false_eq_true, Int.reduceEq, Nat.reduceEqDiff, Nat.reduceLeDiff, rGcd, V.ty.injEq, eq_self, List.not_mem_nil, beq_self_eq_true, HO.lst.injEq, HO.tup.injEq, tFor_eq, iRng1, iList, iTup, nat10, tSeq, rIxA, rSetA, rIsN, rIsT, tTp, tLs, itsO_tup, itsO_lst, tyO_tup, tyO_lst, tyO_dK, tyN_non, tyN_bl, tyN_int, tyN_str, tyN_ref, tyNs_lt, isB, upd_same, upd_upd, sizeLine_eq, List.mem_cons, String.reduceBEq, String.reduceEq, Bool.or_false, Bool.or_true, Bool.and_false, Bool.false_or, Bool.and_self, Bool.false_and, Bool.not_false, Bool.not_true, List.any_cons, List.any_nil, atI_0, setI_0, atI_1, setI_1, atI_2, setI_2, atI_3, setI_3, atI_4, setI_4, atI_5, setI_5, atI_6, setI_6, tAsg, gName, tOp, tUn, tVar, tC, tCons, L2.tNil, tRet, tIfS, tTest, tCB, tCall, rI, rI0, rU, tNext, tB, tAnd, tOr, tNot, tAndV, tOrV, tNotV, tDrop, tIf, tPar, gSub, rIxL, rIxT, rEq, rNe, rSetL, tBits,
    L2.start, List.map_cons, List.map_nil, List.cons_append, List.nil_append, List.append_nil, List.length_cons, List.length_nil, List.replicate, Nat.reduceAdd, Nat.reduceSub, Nat.zero_add, List.getElem?_cons_zero, List.getElem?_cons_succ, List.set_cons_zero, List.set_cons_succ,
    Option.some.injEq, exists_eq_left', exists_eq_left, V.int.injEq, V.bl.injEq, V.ref.injEq, V.str.injEq, List.cons.injEq, reduceCtorEq, and_true, true_and, false_and, and_false, exists_false, or_false, false_or, or_true, true_or, exists_const, CMul, CDiv, CPow, and_assoc, exists_and_left, exists_and_right, Int.reducePow, Int.reduceNeg, Int.reduceLT, Int.reduceLE, Nat.reducePow, Nat.reduceLT, Int.reduceToNat, gt_iff_lt, ge_iff_le, decide_eq_true_eq, Bool.not_eq_true', decide_eq_false_iff_not, scal, ↓reduceIte, Bool.false_eq_true]; exact q)
end
end My

namespace My
open PySem PySem.Spec PyProof.Rows L2
section
variable {P : Program} {w : World} {K : PySem.W.Frag} {mg : Str → Option Value} {base : Heap}
theorem nf_part {q : Qt} (h : Nf q) : Nf (q.1 % q.2, q.2) := by
  refine ⟨h.1, ?_⟩
  show Int.gcd (q.1 % q.2) q.2 = 1
  have e : q.1 % q.2 = q.1 + (-(q.1 / q.2)) * q.2 := by
    have := Int.emod_add_mul_ediv q.1 q.2
    rw [Int.neg_mul, Int.mul_comm]
    omega
  rw [e, Int.gcd_add_mul_right_left]
  exact h.2
theorem nf_abs {q : Qt} (h : Nf q) : Nf ((q.1.natAbs : Int), q.2) := ⟨h.1, by
  show Int.gcd (q.1.natAbs : Int) q.2 = 1
  rw [← h.2]
  rfl⟩
theorem nf_neg {q : Qt} (h : Nf q) : Nf (-q.1, q.2) := ⟨h.1, by
  show Int.gcd (-q.1) q.2 = 1
  rw [Int.neg_gcd]
  exact h.2⟩
def off (q : Qt) : Qt := (if q.2 < 2 * (q.1 % q.2) then q.1 % q.2 - q.2 else q.1 % q.2, q.2)
theorem nf_off {q : Qt} (h : Nf q) : Nf (off q) := by
  have k := nf_part h
  unfold off
  split
  · refine ⟨h.1, ?_⟩
    show Int.gcd (q.1 % q.2 - q.2) q.2 = 1
    rw [show q.1 % q.2 - q.2 = q.1 % q.2 + (-1) * q.2 by omega, Int.gcd_add_mul_right_left]
    exact k.2
  · exact k
theorem is_self {q : Qt} (h : Nf q) : Is q q.1 q.2 := ⟨h, rfl⟩
def sum2 (p q : Qt) (z : Qt) : Prop := Is z (p.1 * q.2 + q.1 * p.2) (p.2 * q.2)
theorem Nf.ne {q : Qt} (h : Nf q) : q.2 ≠ 0 := by have := h.1; omega
theorem mul_ne {a b : Int} (h1 : 1 ≤ a) (h2 : 1 ≤ b) : a * b ≠ 0 := Int.mul_ne_zero (by omega) (by omega)
theorem szPart {q : Qt} {k : Nat} (h : Nf q) (hz : Sz k q) : Sz k (q.1 % q.2, q.2) := by
  refine ⟨?_, hz.2⟩
  have h1 := Int.emod_nonneg q.1 h.ne
  have h2 := Int.emod_lt_of_pos q.1 (show 0 < q.2 by have := h.1; omega)
  have := hz.2
  show (q.1 % q.2).natAbs < 2 ^ k
  omega
theorem szOff {q : Qt} {k : Nat} (h : Nf q) (hz : Sz k q) : Sz k (off q) := by
  have h1 := Int.emod_nonneg q.1 h.ne
  have h2 := Int.emod_lt_of_pos q.1 (show 0 < q.2 by have := h.1; omega)
  have h3 := hz.2
  have h4 := h.1
  unfold off
  refine ⟨?_, h3⟩
  show (if q.2 < 2 * (q.1 % q.2) then q.1 % q.2 - q.2 else q.1 % q.2).natAbs < 2 ^ k
  split <;> omega
/-- a fraction at a, in lowest terms, of a bounded size -/
structure Fq (K : PySem.W.Frag) (H : Hp) (k : Nat) (a : Addr) (q : Qt) : Prop where
  o : ob K H a = some (.tup [.int q.1, .int q.2])
  nf : Nf q
  sz : Sz k q
theorem Fq.same {H H' : Hp} {k : Nat} {a : Addr} {q : Qt} (h : Fq K H k a q) (s : Same H H') : Fq K H' k a q := ⟨ob_same s h.o, h.nf, h.sz⟩
theorem Fq.kp {H H' : Hp} {k : Nat} {a s : Addr} {q : Qt} {ys : List V} (h : Fq K H k a q) (e : Kp s H H') (hs : H s = some (.lst ys)) : Fq K H' k a q := ⟨ob_kp e hs (fun _ z => by cases z) h.o, h.nf, h.sz⟩
theorem Fq.mono {H : Hp} {j k : Nat} {a : Addr} {q : Qt} (h : Fq K H j a q) (l : j ≤ k) : Fq K H k a q := ⟨h.o, h.nf, h.sz.mono l⟩
def spBin (K : PySem.W.Frag) (R : Qt → Qt → Qt → Prop) : Sp := fun vs H Q _ => ∃ (a b : Addr) (p q : Qt), vs = [.ref a, .ref b] ∧ Fq K H 3000 a p ∧ Fq K H 3000 b q ∧ ∀ z, R p q z → Gv K H Q z
def spUn (K : PySem.W.Frag) (g : Qt → Qt) : Sp := fun vs H Q _ => ∃ (a : Addr) (q : Qt), vs = [.ref a] ∧ Fq K H 8000 a q ∧ Gv K H Q (g q)
def spFloor (K : PySem.W.Frag) : Sp := fun vs H Q _ => ∃ (a : Addr) (q : Qt), vs = [.ref a] ∧ Fq K H 8000 a q ∧ Q (.int (q.1 / q.2)) H
def spLFrac (K : PySem.W.Frag) : Sp := fun vs H Q _ => ∃ (a : Addr) (q : Qt), vs = [.ref a] ∧ Fq K H 8000 a q ∧ Q (.bl true) H
def dif2 (p q : Qt) (z : Qt) : Prop := Is z (p.1 * q.2 - q.1 * p.2) (p.2 * q.2)
def pro2 (p q : Qt) (z : Qt) : Prop := Is z (p.1 * q.1) (p.2 * q.2)
def quo2 (p q : Qt) (z : Qt) : Prop := Is z (p.1 * q.2) (p.2 * q.1)
def cmp2 (p q : Qt) : Int := if p.1 * q.2 = q.1 * p.2 then 0 else if p.1 * q.2 < q.1 * p.2 then -1 else 1
def spQuo (K : PySem.W.Frag) : Sp := fun vs H Q _ => ∃ (a b : Addr) (p q : Qt), vs = [.ref a, .ref b] ∧ Fq K H 3000 a p ∧ Fq K H 3000 b q ∧ q.1 ≠ 0 ∧ ∀ z, quo2 p q z → Gv K H Q z
def spCmp (K : PySem.W.Frag) : Sp := fun vs H Q _ => ∃ (a b : Addr) (p q : Qt), vs = [.ref a, .ref b] ∧ Fq K H 3000 a p ∧ Fq K H 3000 b q ∧ Q (.int (cmp2 p q)) H
def spQuot (K : PySem.W.Frag) : Sp := fun vs H Q _ => ∃ (a : Addr) (z : Qt) (t b : Int), vs = [.ref a, .int t, .int b] ∧ Fq K H 3000 a z ∧ Is z t b ∧ t.natAbs < 2 ^ 3000 ∧ b.natAbs < 2 ^ 3000 ∧ Q (.bl true) H
def spLFracs (K : PySem.W.Frag) : Sp := fun vs H Q _ => ∃ (l : Addr) (xs : List V), vs = [.ref l] ∧ H l = some (.lst xs) ∧ K.lookup l = none ∧ (∀ x ∈ xs, ∃ a q, x = .ref a ∧ Fq K H 8000 a q) ∧ Q (.bl true) H
def FracsI (l : Addr) (H : Hp) (_ : Nat) (σ : L2.St) (H' : Hp) : Prop := ∃ y, σ = [some (.ref l), y] ∧ H' = H
def spLeaves (K : PySem.W.Frag) : Sp := fun vs H Q _ => ∃ (a b : Addr) (p q : Qt), vs = [.ref a, .ref b] ∧ Fq K H 8000 a p ∧ Fq K H 8000 b q ∧ Q (.bl (decide (q.2 = p.2) && decide ((p.1 - q.1) % p.2 = 0))) H
theorem frOk_inv {H : Hp} {v : V} (h : frOk K H v = true) : ∃ a q, v = .ref a ∧ ob K H a = some (.tup [.int q.1, .int q.2]) ∧ Nf q := by
  cases v with
  | ref a =>
    simp only [frOk] at h
    split at h
    · rename_i n d hz
      simp only [Bool.and_eq_true, decide_eq_true_eq] at h
      exact ⟨_, (n, d), rfl, hz, h.1, h.2⟩
    · cases h
  | _ => cases h
/-- a place: a fraction of 0 or more, less than 1 -/
def plOk (K : PySem.W.Frag) (H : Hp) (v : V) : Bool := frOk K H v && match v with
  | .ref a => match ob K H a with
    | some (.tup [.int n, .int d]) => decide (0 ≤ n) && decide (n < d)
    | _ => false
  | _ => false
theorem plOk_no {H : Hp} {v : V} (h : frOk K H v = false) : plOk K H v = false := by unfold plOk; rw [h]; rfl
theorem plOk_fr {H : Hp} {a : Addr} {q : Qt} (h : ob K H a = some (.tup [.int q.1, .int q.2])) (hn : Nf q) : plOk K H (.ref a) = (decide (0 ≤ q.1) && decide (q.1 < q.2)) := by
  have e := frOk_fr (K := K) h hn
  unfold plOk
  rw [e]
  simp only [h, Bool.true_and]
def spIsPlace (K : PySem.W.Frag) : Sp := fun vs H Q _ => ∃ v, vs = [v] ∧ Tyd K H v ∧ Q (.bl (plOk K H v)) H
def spLPlace (K : PySem.W.Frag) : Sp := fun vs H Q _ => ∃ (a : Addr) (q : Qt), vs = [.ref a] ∧ Fq K H 8000 a q ∧ 0 ≤ q.1 ∧ q.1 < q.2 ∧ Q (.bl true) H
end
end My

namespace My
open PySem PySem.Spec PyProof.Rows L2
section
variable {P : Program} {w : World} {K : PySem.W.Frag} {mg : Str → Option Value} {base : Heap}
/-- an int that the draws gave; all but the store stands -/
def spPick (K : PySem.W.Frag) : Sp := fun vs H Q _ => ∃ (s r : Addr) (xs : List V), vs = [.ref s, .ref r] ∧ Sto K H s ∧ H r = some (.lst xs) ∧ s ≠ r ∧ 0 < xs.length ∧ xs.length < 1000 ∧ ∀ x H', x ∈ xs → Kp s H H' → Sto K H' s → Q x H'
theorem at_mem {α : Type} {xs : List α} {i : Int} (h0 : 0 ≤ i) (h : i < (xs.length : Int)) : ∃ v ∈ xs, atI xs i = some v := by
  have hk : i.toNat < xs.length := by omega
  have q : atI xs ((i.toNat : Nat) : Int) = some xs[i.toNat] := atI_nat (List.getElem?_eq_getElem hk)
  rw [show ((i.toNat : Nat) : Int) = i by omega] at q
  exact ⟨_, List.getElem_mem hk, q⟩
theorem Sto.at {H : Hp} {s : Addr} (h : Sto K H s) : ∃ ys, H s = some (.lst ys) := by
  obtain ⟨sc, ns, i, b, c, d, e, f, h⟩ := h
  exact ⟨_, h.1⟩
theorem Kp.at {s : Addr} {H H' : Hp} {r : Addr} {o : HO} (e : Kp s H H') (n : s ≠ r) (h : H r = some o) : H' r = some o := e _ _ (Ne.symm n) h
abbrev sPick : Stmt := topS 31
theorem scPick : FnScope ["_law_store_here", "_law_row"] ["_law_store_here", "_law_row"] (defScope sPick) := ⟨rfl, rfl, rfl, by decide +kernel, rfl, by decide +kernel, by decide +kernel⟩
theorem k_Pick (T : Bt K mg) (D : Dfn K mg "_law_pick" sPick ["_law_store_here", "_law_row"]) (d__law_take : Kn P w K mg base 2 "_law_take" ["_law_store_here", "_law_many"] (spTake K)) : Kn P w K mg base 3 "_law_pick" ["_law_store_here", "_law_row"] (spPick K) := by
  refine Kn.mk' D scPick (fun vs H Q E h => ?_) (fun f cdv A outer s H vs Q E hr h => ?_)
  · obtain ⟨s, r, xs, rfl, _⟩ := h
    rfl
  obtain ⟨s, r, xs, rfl, hS, hr', ne, hl0, hl1, k⟩ := h
  refine ⟨_, (pss_one (ps_ret (pe_ix ix_list (pv 1) (pe_kn d__law_take hr (by rfl) (pa_cons (pv 0) (pa_cons (pe_callB call_len_seq (by rfl) T.b_len PySem.boot_len (pa_cons (pv 1) pa_nil)) pa_nil))) (fun _ _ => rfl)))), ?_⟩
  simp only [cx_K, decide_true, decide_false, reduceCtorEq, gTp, gCons, gNil, ca_0, ca_1, ca_2, ca_3, ca_4, ca_5, ca_6, ca_7, ca_8, ca_9, ca_10, ca_11, ca_12, ca_13, ca_14, ca_15, ca_16, ca_17, ca_18, ca_19, ca_20, ca_21, ca_22, ca_23, ca_24, ca_25, ca_26, ca_27, ca_28, ca_29, ca_30, not_true_eq_false, not_false_eq_true, Int.reduceEq, Nat.reduceEqDiff, Nat.reduceLeDiff, rGcd, V.ty.injEq, eq_self, List.not_mem_nil, beq_self_eq_true, HO.lst.injEq, HO.tup.injEq, tFor_eq, iRng1, iList, iTup, nat10, tSeq, rIxA, rSetA, rIsN, rIsT, tTp, tLs, itsO_tup, itsO_lst, tyO_tup, tyO_lst, tyO_dK, tyN_non, tyN_bl, tyN_int, tyN_str, tyN_ref, tyNs_lt, isB, upd_same, upd_upd, sizeLine_eq, List.mem_cons, String.reduceBEq, String.reduceEq, Bool.or_false, Bool.or_true, Bool.and_false, Bool.false_or, Bool.and_self, Bool.false_and, Bool.not_false, Bool.not_true, List.any_cons, List.any_nil, atI_0, setI_0, atI_1, setI_1, atI_2, setI_2, atI_3, setI_3, atI_4, setI_4, atI_5, setI_5, atI_6, setI_6, tAsg, gName, tOp, tUn, tVar, tC, tCons, L2.tNil, tRet, tIfS, tTest, tCB, tCall, rI, rI0, rU, tNext, tB, tAnd, tOr, tNot, tAndV, tOrV, tNotV, tDrop, tIf, tPar, gSub, rIxL, rIxT, rEq, rNe, rSetL, tBits,
    L2.start, List.map_cons, List.map_nil, List.cons_append, List.nil_append, List.append_nil, List.length_cons, List.length_nil, List.replicate, Nat.reduceAdd, Nat.reduceSub, Nat.zero_add, List.getElem?_cons_zero, List.getElem?_cons_succ, List.set_cons_zero, List.set_cons_succ,
    Option.some.injEq, exists_eq_left', exists_eq_left, V.int.injEq, V.bl.injEq, V.ref.injEq, V.str.injEq, List.cons.injEq, reduceCtorEq, and_true, true_and, false_and, and_false, exists_false, or_false, false_or, or_true, true_or, exists_const, CMul, CDiv, CPow, and_assoc, exists_and_left, exists_and_right, Int.reducePow, Int.reduceNeg, Int.reduceLT, Int.reduceLE, Nat.reducePow, Nat.reduceLT, Int.reduceToNat, gt_iff_lt, ge_iff_le, decide_eq_true_eq, Bool.not_eq_true', decide_eq_false_iff_not, scal, ↓reduceIte, Bool.false_eq_true]
  refine ⟨xs, .inl (.of hr'), s, _, rfl, hS, by omega, fun i H' h0 h1 kp st => ?_⟩
  obtain ⟨v, hv, e⟩ := at_mem (xs := xs) (i := i) h0 (by omega)
  exact ⟨xs, i, rfl, .of (kp.at ne hr'), v, e, k v H' hv kp st⟩
def spInt (K : PySem.W.Frag) (R : Int → Prop) : Sp := fun vs H Q _ => ∃ (s : Addr), vs = [.ref s] ∧ Sto K H s ∧ ∀ n H', R n → Kp s H H' → Sto K H' s → Q (.int n) H'
def spLInt (K : PySem.W.Frag) : Sp := fun vs H Q _ => ∃ (s : Addr) (r : Int), vs = [.ref s, .int r] ∧ Sto K H s ∧ 1 ≤ r ∧ r < 2 ^ 190 ∧ ∀ n H', -r ≤ n → n ≤ r → Kp s H H' → Sto K H' s → Q (.int n) H'
theorem menu {xs : List V} {i : Int} {R : V → Prop} (h0 : 0 ≤ i) (h : i < (xs.length : Int)) (k : ∀ v ∈ xs, R v) : ∃ v, atI xs i = some v ∧ R v := by
  obtain ⟨v, hv, e⟩ := at_mem h0 h
  exact ⟨v, e, k v hv⟩
abbrev sLInt : Stmt := topS 37
theorem scLInt : FnScope ["_law_store_here", "_law_reach", "_law_spot"] ["_law_store_here", "_law_reach"] (defScope sLInt) := ⟨rfl, rfl, rfl, by decide +kernel, rfl, by decide +kernel, by decide +kernel⟩
theorem k_LInt (T : Bt K mg) (D : Dfn K mg "_law_whole" sLInt ["_law_store_here", "_law_reach"]) (d__law_take : Kn P w K mg base 2 "_law_take" ["_law_store_here", "_law_many"] (spTake K)) : Kn P w K mg base 3 "_law_whole" ["_law_store_here", "_law_reach"] (spLInt K) := by
  refine Kn.mk' D scLInt (fun vs H Q E h => ?_) (fun f cdv A outer s H vs Q E hr h => ?_)
  · obtain ⟨s, r, rfl, _⟩ := h
    rfl
  obtain ⟨s, r, rfl, hS, hr1, hr2, k⟩ := h
  refine ⟨_, (pss_cons (ps_set (i := 2) scLInt.nd rfl (.inl rfl) (pe_kn d__law_take hr (by rfl) (pa_cons (pv 0) (pa_cons pe_int pa_nil))))
      (pss_cons (ps_if (pt_cmpR op_lt (pv 2) pe_int (nomark _)) (pss_one (ps_ret (pe_ix ix_any (pe_ls (pa_cons pe_int (pa_cons (pe_callB (call_min2 rfl) (by rfl) T.b_min (by decide +kernel) (pa_cons pe_int (pa_cons (pv 1) pa_nil))) (pa_cons (pe_un un_neg (pe_callB (call_min2 rfl) (by rfl) T.b_min (by decide +kernel) (pa_cons pe_int (pa_cons (pv 1) pa_nil)))) (pa_cons (pv 1) (pa_cons (pe_un un_neg (pv 1)) pa_nil)))))) (pv 2) (fun _ _ => rfl)))) pss_nil)
      (pss_one (ps_ret (pe_op op_sub (pe_kn d__law_take hr (by rfl) (pa_cons (pv 0) (pa_cons (pe_op op_add (pe_op op_mul pe_int (pv 1)) pe_int) pa_nil))) (pv 1)))))), ?_⟩
  simp only [cx_K, decide_true, decide_false, reduceCtorEq, gTp, gCons, gNil, ca_0, ca_1, ca_2, ca_3, ca_4, ca_5, ca_6, ca_7, ca_8, ca_9, ca_10, ca_11, ca_12, ca_13, ca_14, ca_15, ca_16, ca_17, ca_18, ca_19, ca_20, ca_21, ca_22, ca_23, ca_24, ca_25, ca_26, ca_27, ca_28, ca_29, ca_30, not_true_eq_false, not_false_eq_true, Int.reduceEq, Nat.reduceEqDiff, Nat.reduceLeDiff, rGcd, V.ty.injEq, eq_self, List.not_mem_nil, beq_self_eq_true, HO.lst.injEq, HO.tup.injEq, tFor_eq, iRng1, iList, iTup, nat10, tSeq, rIxA, rSetA, rIsN, rIsT, tTp, tLs, itsO_tup, itsO_lst, tyO_tup, tyO_lst, tyO_dK, tyN_non, tyN_bl, tyN_int, tyN_str, tyN_ref, tyNs_lt, isB, upd_same, upd_upd, sizeLine_eq, List.mem_cons, String.reduceBEq, String.reduceEq, Bool.or_false, Bool.or_true, Bool.and_false, Bool.false_or, Bool.and_self, Bool.false_and, Bool.not_false, Bool.not_true, List.any_cons, List.any_nil, atI_0, setI_0, atI_1, setI_1, atI_2, setI_2, atI_3, setI_3, atI_4, setI_4, atI_5, setI_5, atI_6, setI_6, tAsg, gName, tOp, tUn, tVar, tC, tCons, L2.tNil, tRet, tIfS, tTest, tCB, tCall, rI, rI0, rU, tNext, tB, tAnd, tOr, tNot, tAndV, tOrV, tNotV, tDrop, tIf, tPar, gSub, rIxL, rIxT, rEq, rNe, rSetL, tBits,
    L2.start, List.map_cons, List.map_nil, List.cons_append, List.nil_append, List.append_nil, List.length_cons, List.length_nil, List.replicate, Nat.reduceAdd, Nat.reduceSub, Nat.zero_add, List.getElem?_cons_zero, List.getElem?_cons_succ, List.set_cons_zero, List.set_cons_succ,
    Option.some.injEq, exists_eq_left', exists_eq_left, V.int.injEq, V.bl.injEq, V.ref.injEq, V.str.injEq, List.cons.injEq, reduceCtorEq, and_true, true_and, false_and, and_false, exists_false, or_false, false_or, or_true, true_or, exists_const, CMul, CDiv, CPow, and_assoc, exists_and_left, exists_and_right, Int.reducePow, Int.reduceNeg, Int.reduceLT, Int.reduceLE, Nat.reducePow, Nat.reduceLT, Int.reduceToNat, gt_iff_lt, ge_iff_le, decide_eq_true_eq, Bool.not_eq_true', decide_eq_false_iff_not, scal, ↓reduceIte, Bool.false_eq_true]
  refine ⟨s, 12, rfl, hS, by omega, fun i H1 h0 h1 kp st => ?_⟩
  simp only [cx_K, decide_true, decide_false, reduceCtorEq, gTp, gCons, gNil, ca_0, ca_1, ca_2, ca_3, ca_4, ca_5, ca_6, ca_7, ca_8, ca_9, ca_10, ca_11, ca_12, ca_13, ca_14, ca_15, ca_16, ca_17, ca_18, ca_19, ca_20, ca_21, ca_22, ca_23, ca_24, ca_25, ca_26, ca_27, ca_28, ca_29, ca_30, not_true_eq_false, not_false_eq_true, Int.reduceEq, Nat.reduceEqDiff, Nat.reduceLeDiff, rGcd, V.ty.injEq, eq_self, List.not_mem_nil, beq_self_eq_true, HO.lst.injEq, HO.tup.injEq, tFor_eq, iRng1, iList, iTup, nat10, tSeq, rIxA, rSetA, rIsN, rIsT, tTp, tLs, itsO_tup, itsO_lst, tyO_tup, tyO_lst, tyO_dK, tyN_non, tyN_bl, tyN_int, tyN_str, tyN_ref, tyNs_lt, isB, upd_same, upd_upd, sizeLine_eq, List.mem_cons, String.reduceBEq, String.reduceEq, Bool.or_false, Bool.or_true, Bool.and_false, Bool.false_or, Bool.and_self, Bool.false_and, Bool.not_false, Bool.not_true, List.any_cons, List.any_nil, atI_0, setI_0, atI_1, setI_1, atI_2, setI_2, atI_3, setI_3, atI_4, setI_4, atI_5, setI_5, atI_6, setI_6, tAsg, gName, tOp, tUn, tVar, tC, tCons, L2.tNil, tRet, tIfS, tTest, tCB, tCall, rI, rI0, rU, tNext, tB, tAnd, tOr, tNot, tAndV, tOrV, tNotV, tDrop, tIf, tPar, gSub, rIxL, rIxT, rEq, rNe, rSetL, tBits,
    L2.start, List.map_cons, List.map_nil, List.cons_append, List.nil_append, List.append_nil, List.length_cons, List.length_nil, List.replicate, Nat.reduceAdd, Nat.reduceSub, Nat.zero_add, List.getElem?_cons_zero, List.getElem?_cons_succ, List.set_cons_zero, List.set_cons_succ,
    Option.some.injEq, exists_eq_left', exists_eq_left, V.int.injEq, V.bl.injEq, V.ref.injEq, V.str.injEq, List.cons.injEq, reduceCtorEq, and_true, true_and, false_and, and_false, exists_false, or_false, false_or, or_true, true_or, exists_const, CMul, CDiv, CPow, and_assoc, exists_and_left, exists_and_right, Int.reducePow, Int.reduceNeg, Int.reduceLT, Int.reduceLE, Nat.reducePow, Nat.reduceLT, Int.reduceToNat, gt_iff_lt, ge_iff_le, decide_eq_true_eq, Bool.not_eq_true', decide_eq_false_iff_not, scal, ↓reduceIte, Bool.false_eq_true]
  refine ite2 (fun h => ?_) (fun h => ?_)
  · intro p hp kp'
    rw [ob_new kp']
    simp only [cx_K, decide_true, decide_false, reduceCtorEq, gTp, gCons, gNil, ca_0, ca_1, ca_2, ca_3, ca_4, ca_5, ca_6, ca_7, ca_8, ca_9, ca_10, ca_11, ca_12, ca_13, ca_14, ca_15, ca_16, ca_17, ca_18, ca_19, ca_20, ca_21, ca_22, ca_23, ca_24, ca_25, ca_26, ca_27, ca_28, ca_29, ca_30, not_true_eq_false, not_false_eq_true, Int.reduceEq, Nat.reduceEqDiff, Nat.reduceLeDiff, rGcd, V.ty.injEq, eq_self, List.not_mem_nil, beq_self_eq_true, HO.lst.injEq, HO.tup.injEq, tFor_eq, iRng1, iList, iTup, nat10, tSeq, rIxA, rSetA, rIsN, rIsT, tTp, tLs, itsO_tup, itsO_lst, tyO_tup, tyO_lst, tyO_dK, tyN_non, tyN_bl, tyN_int, tyN_str, tyN_ref, tyNs_lt, isB, upd_same, upd_upd, sizeLine_eq, List.mem_cons, String.reduceBEq, String.reduceEq, Bool.or_false, Bool.or_true, Bool.and_false, Bool.false_or, Bool.and_self, Bool.false_and, Bool.not_false, Bool.not_true, List.any_cons, List.any_nil, atI_0, setI_0, atI_1, setI_1, atI_2, setI_2, atI_3, setI_3, atI_4, setI_4, atI_5, setI_5, atI_6, setI_6, tAsg, gName, tOp, tUn, tVar, tC, tCons, L2.tNil, tRet, tIfS, tTest, tCB, tCall, rI, rI0, rU, tNext, tB, tAnd, tOr, tNot, tAndV, tOrV, tNotV, tDrop, tIf, tPar, gSub, rIxL, rIxT, rEq, rNe, rSetL, tBits,
    L2.start, List.map_cons, List.map_nil, List.cons_append, List.nil_append, List.append_nil, List.length_cons, List.length_nil, List.replicate, Nat.reduceAdd, Nat.reduceSub, Nat.zero_add, List.getElem?_cons_zero, List.getElem?_cons_succ, List.set_cons_zero, List.set_cons_succ,
    Option.some.injEq, exists_eq_left', exists_eq_left, V.int.injEq, V.bl.injEq, V.ref.injEq, V.str.injEq, List.cons.injEq, reduceCtorEq, and_true, true_and, false_and, and_false, exists_false, or_false, false_or, or_true, true_or, exists_const, CMul, CDiv, CPow, and_assoc, exists_and_left, exists_and_right, Int.reducePow, Int.reduceNeg, Int.reduceLT, Int.reduceLE, Nat.reducePow, Nat.reduceLT, Int.reduceToNat, gt_iff_lt, ge_iff_le, decide_eq_true_eq, Bool.not_eq_true', decide_eq_false_iff_not, scal, ↓reduceIte, Bool.false_eq_true]
    refine menu h0 (by simpa using h) fun v hv => ?_
    rw [if_neg (show ¬ r < 1 by omega)] at hv ⊢
    simp only [List.mem_cons, List.not_mem_nil, or_false] at hv
    rcases hv with rfl | rfl | rfl | rfl | rfl <;> exact k _ _ (by omega) (by omega) (kp.trans (Kp.same (Same.new hp _))) (st.same (Same.new hp _))
  · refine ⟨s, _, rfl, st, by omega, fun j H2 h0' h1' kp2 st2 => ?_⟩
    simp only [cx_K, decide_true, decide_false, reduceCtorEq, gTp, gCons, gNil, ca_0, ca_1, ca_2, ca_3, ca_4, ca_5, ca_6, ca_7, ca_8, ca_9, ca_10, ca_11, ca_12, ca_13, ca_14, ca_15, ca_16, ca_17, ca_18, ca_19, ca_20, ca_21, ca_22, ca_23, ca_24, ca_25, ca_26, ca_27, ca_28, ca_29, ca_30, not_true_eq_false, not_false_eq_true, Int.reduceEq, Nat.reduceEqDiff, Nat.reduceLeDiff, rGcd, V.ty.injEq, eq_self, List.not_mem_nil, beq_self_eq_true, HO.lst.injEq, HO.tup.injEq, tFor_eq, iRng1, iList, iTup, nat10, tSeq, rIxA, rSetA, rIsN, rIsT, tTp, tLs, itsO_tup, itsO_lst, tyO_tup, tyO_lst, tyO_dK, tyN_non, tyN_bl, tyN_int, tyN_str, tyN_ref, tyNs_lt, isB, upd_same, upd_upd, sizeLine_eq, List.mem_cons, String.reduceBEq, String.reduceEq, Bool.or_false, Bool.or_true, Bool.and_false, Bool.false_or, Bool.and_self, Bool.false_and, Bool.not_false, Bool.not_true, List.any_cons, List.any_nil, atI_0, setI_0, atI_1, setI_1, atI_2, setI_2, atI_3, setI_3, atI_4, setI_4, atI_5, setI_5, atI_6, setI_6, tAsg, gName, tOp, tUn, tVar, tC, tCons, L2.tNil, tRet, tIfS, tTest, tCB, tCall, rI, rI0, rU, tNext, tB, tAnd, tOr, tNot, tAndV, tOrV, tNotV, tDrop, tIf, tPar, gSub, rIxL, rIxT, rEq, rNe, rSetL, tBits,
    L2.start, List.map_cons, List.map_nil, List.cons_append, List.nil_append, List.append_nil, List.length_cons, List.length_nil, List.replicate, Nat.reduceAdd, Nat.reduceSub, Nat.zero_add, List.getElem?_cons_zero, List.getElem?_cons_succ, List.set_cons_zero, List.set_cons_succ,
    Option.some.injEq, exists_eq_left', exists_eq_left, V.int.injEq, V.bl.injEq, V.ref.injEq, V.str.injEq, List.cons.injEq, reduceCtorEq, and_true, true_and, false_and, and_false, exists_false, or_false, false_or, or_true, true_or, exists_const, CMul, CDiv, CPow, and_assoc, exists_and_left, exists_and_right, Int.reducePow, Int.reduceNeg, Int.reduceLT, Int.reduceLE, Nat.reducePow, Nat.reduceLT, Int.reduceToNat, gt_iff_lt, ge_iff_le, decide_eq_true_eq, Bool.not_eq_true', decide_eq_false_iff_not, scal, ↓reduceIte, Bool.false_eq_true]
    exact k _ _ (by omega) (by omega) (kp.trans kp2) st2
def GreatI (s : Addr) (spot : Int) (H1 : Hp) (_ : Nat) (σ : L2.St) (H' : Hp) : Prop := ∃ v y, σ = [some (.ref s), some (.int spot), some (.int v), y] ∧ H' = H1 ∧ 0 ≤ v ∧ v < 2 ^ 133
abbrev sGreat : Stmt := topS 38
theorem scGreat : FnScope ["_law_store_here", "_law_spot", "_law_value", "_law_k"] ["_law_store_here"] (defScope sGreat) := ⟨rfl, rfl, rfl, by decide +kernel, rfl, by decide +kernel, by decide +kernel⟩
theorem k_Great (T : Bt K mg) (D : Dfn K mg "_law_great" sGreat ["_law_store_here"]) (d__law_take : Kn P w K mg base 2 "_law_take" ["_law_store_here", "_law_many"] (spTake K)) : Kn P w K mg base 3 "_law_great" ["_law_store_here"] (spInt K fun n => n.natAbs < 2 ^ 133) := by
  refine Kn.mk' D scGreat (fun vs H Q E h => ?_) (fun f cdv A outer s H vs Q E hr h => ?_)
  · obtain ⟨s, rfl, _⟩ := h
    rfl
  obtain ⟨s, rfl, hS, k⟩ := h
  refine ⟨_, (pss_cons (ps_set (i := 1) scGreat.nd rfl (.inl rfl) (pe_kn d__law_take hr (by rfl) (pa_cons (pv 0) (pa_cons pe_int pa_nil))))
      (pss_cons (ps_if (pt_cmpR op_lt (pv 1) pe_int (nomark _)) (pss_one (ps_ret (pe_ix ix_any (pe_ls (pa_cons (pe_op op_sub (pe_op op_pow pe_int pe_int) pe_int) (pa_cons (pe_op op_sub pe_int (pe_op op_pow pe_int pe_int)) (pa_cons (pe_op op_pow pe_int pe_int) (pa_cons pe_int pa_nil))))) (pv 1) (fun _ _ => rfl)))) pss_nil)
      (pss_cons (ps_set (i := 2) scGreat.nd rfl (.inl rfl) (pe_kn d__law_take hr (by rfl) (pa_cons (pv 0) (pa_cons (pe_op op_pow pe_int pe_int) pa_nil))))
      (pss_cons (ps_for PassesOwn.never rfl (pi_range1 (by rfl) T.b_range (pa_cons (pe_kn d__law_take hr (by rfl) (pa_cons (pv 0) (pa_cons pe_int pa_nil))) pa_nil)) (pg_name (i := 3) scGreat.nd rfl (.inl rfl)) (pss_one (ps_set (i := 2) scGreat.nd rfl (.inl rfl) (pe_op op_fdiv (pv 2) pe_int))))
      (pss_cons (ps_if (pt_cmpR op_eq (pe_op op_mod (pv 1) pe_int) pe_int (nomark _)) (pss_one (ps_ret (pe_un un_neg (pv 2)))) pss_nil)
      (pss_one (ps_ret (pv 2)))))))), ?_⟩
  simp only [cx_K, decide_true, decide_false, reduceCtorEq, gTp, gCons, gNil, ca_0, ca_1, ca_2, ca_3, ca_4, ca_5, ca_6, ca_7, ca_8, ca_9, ca_10, ca_11, ca_12, ca_13, ca_14, ca_15, ca_16, ca_17, ca_18, ca_19, ca_20, ca_21, ca_22, ca_23, ca_24, ca_25, ca_26, ca_27, ca_28, ca_29, ca_30, not_true_eq_false, not_false_eq_true, Int.reduceEq, Nat.reduceEqDiff, Nat.reduceLeDiff, rGcd, V.ty.injEq, eq_self, List.not_mem_nil, beq_self_eq_true, HO.lst.injEq, HO.tup.injEq, tFor_eq, iRng1, iList, iTup, nat10, tSeq, rIxA, rSetA, rIsN, rIsT, tTp, tLs, itsO_tup, itsO_lst, tyO_tup, tyO_lst, tyO_dK, tyN_non, tyN_bl, tyN_int, tyN_str, tyN_ref, tyNs_lt, isB, upd_same, upd_upd, sizeLine_eq, List.mem_cons, String.reduceBEq, String.reduceEq, Bool.or_false, Bool.or_true, Bool.and_false, Bool.false_or, Bool.and_self, Bool.false_and, Bool.not_false, Bool.not_true, List.any_cons, List.any_nil, atI_0, setI_0, atI_1, setI_1, atI_2, setI_2, atI_3, setI_3, atI_4, setI_4, atI_5, setI_5, atI_6, setI_6, tAsg, gName, tOp, tUn, tVar, tC, tCons, L2.tNil, tRet, tIfS, tTest, tCB, tCall, rI, rI0, rU, tNext, tB, tAnd, tOr, tNot, tAndV, tOrV, tNotV, tDrop, tIf, tPar, gSub, rIxL, rIxT, rEq, rNe, rSetL, tBits,
    L2.start, List.map_cons, List.map_nil, List.cons_append, List.nil_append, List.append_nil, List.length_cons, List.length_nil, List.replicate, Nat.reduceAdd, Nat.reduceSub, Nat.zero_add, List.getElem?_cons_zero, List.getElem?_cons_succ, List.set_cons_zero, List.set_cons_succ,
    Option.some.injEq, exists_eq_left', exists_eq_left, V.int.injEq, V.bl.injEq, V.ref.injEq, V.str.injEq, List.cons.injEq, reduceCtorEq, and_true, true_and, false_and, and_false, exists_false, or_false, false_or, or_true, true_or, exists_const, CMul, CDiv, CPow, and_assoc, exists_and_left, exists_and_right, Int.reducePow, Int.reduceNeg, Int.reduceLT, Int.reduceLE, Nat.reducePow, Nat.reduceLT, Int.reduceToNat, gt_iff_lt, ge_iff_le, decide_eq_true_eq, Bool.not_eq_true', decide_eq_false_iff_not, scal, ↓reduceIte, Bool.false_eq_true]
  refine ⟨s, 12, rfl, hS, by omega, fun i H1 h0 h1 kp st => ?_⟩
  simp only [cx_K, decide_true, decide_false, reduceCtorEq, gTp, gCons, gNil, ca_0, ca_1, ca_2, ca_3, ca_4, ca_5, ca_6, ca_7, ca_8, ca_9, ca_10, ca_11, ca_12, ca_13, ca_14, ca_15, ca_16, ca_17, ca_18, ca_19, ca_20, ca_21, ca_22, ca_23, ca_24, ca_25, ca_26, ca_27, ca_28, ca_29, ca_30, not_true_eq_false, not_false_eq_true, Int.reduceEq, Nat.reduceEqDiff, Nat.reduceLeDiff, rGcd, V.ty.injEq, eq_self, List.not_mem_nil, beq_self_eq_true, HO.lst.injEq, HO.tup.injEq, tFor_eq, iRng1, iList, iTup, nat10, tSeq, rIxA, rSetA, rIsN, rIsT, tTp, tLs, itsO_tup, itsO_lst, tyO_tup, tyO_lst, tyO_dK, tyN_non, tyN_bl, tyN_int, tyN_str, tyN_ref, tyNs_lt, isB, upd_same, upd_upd, sizeLine_eq, List.mem_cons, String.reduceBEq, String.reduceEq, Bool.or_false, Bool.or_true, Bool.and_false, Bool.false_or, Bool.and_self, Bool.false_and, Bool.not_false, Bool.not_true, List.any_cons, List.any_nil, atI_0, setI_0, atI_1, setI_1, atI_2, setI_2, atI_3, setI_3, atI_4, setI_4, atI_5, setI_5, atI_6, setI_6, tAsg, gName, tOp, tUn, tVar, tC, tCons, L2.tNil, tRet, tIfS, tTest, tCB, tCall, rI, rI0, rU, tNext, tB, tAnd, tOr, tNot, tAndV, tOrV, tNotV, tDrop, tIf, tPar, gSub, rIxL, rIxT, rEq, rNe, rSetL, tBits,
    L2.start, List.map_cons, List.map_nil, List.cons_append, List.nil_append, List.append_nil, List.length_cons, List.length_nil, List.replicate, Nat.reduceAdd, Nat.reduceSub, Nat.zero_add, List.getElem?_cons_zero, List.getElem?_cons_succ, List.set_cons_zero, List.set_cons_succ,
    Option.some.injEq, exists_eq_left', exists_eq_left, V.int.injEq, V.bl.injEq, V.ref.injEq, V.str.injEq, List.cons.injEq, reduceCtorEq, and_true, true_and, false_and, and_false, exists_false, or_false, false_or, or_true, true_or, exists_const, CMul, CDiv, CPow, and_assoc, exists_and_left, exists_and_right, Int.reducePow, Int.reduceNeg, Int.reduceLT, Int.reduceLE, Nat.reducePow, Nat.reduceLT, Int.reduceToNat, gt_iff_lt, ge_iff_le, decide_eq_true_eq, Bool.not_eq_true', decide_eq_false_iff_not, scal, ↓reduceIte, Bool.false_eq_true]
  refine ite2 (fun h => ?_) (fun h => ?_)
  · intro p hp kp'
    rw [ob_new kp']
    simp only [cx_K, decide_true, decide_false, reduceCtorEq, gTp, gCons, gNil, ca_0, ca_1, ca_2, ca_3, ca_4, ca_5, ca_6, ca_7, ca_8, ca_9, ca_10, ca_11, ca_12, ca_13, ca_14, ca_15, ca_16, ca_17, ca_18, ca_19, ca_20, ca_21, ca_22, ca_23, ca_24, ca_25, ca_26, ca_27, ca_28, ca_29, ca_30, not_true_eq_false, not_false_eq_true, Int.reduceEq, Nat.reduceEqDiff, Nat.reduceLeDiff, rGcd, V.ty.injEq, eq_self, List.not_mem_nil, beq_self_eq_true, HO.lst.injEq, HO.tup.injEq, tFor_eq, iRng1, iList, iTup, nat10, tSeq, rIxA, rSetA, rIsN, rIsT, tTp, tLs, itsO_tup, itsO_lst, tyO_tup, tyO_lst, tyO_dK, tyN_non, tyN_bl, tyN_int, tyN_str, tyN_ref, tyNs_lt, isB, upd_same, upd_upd, sizeLine_eq, List.mem_cons, String.reduceBEq, String.reduceEq, Bool.or_false, Bool.or_true, Bool.and_false, Bool.false_or, Bool.and_self, Bool.false_and, Bool.not_false, Bool.not_true, List.any_cons, List.any_nil, atI_0, setI_0, atI_1, setI_1, atI_2, setI_2, atI_3, setI_3, atI_4, setI_4, atI_5, setI_5, atI_6, setI_6, tAsg, gName, tOp, tUn, tVar, tC, tCons, L2.tNil, tRet, tIfS, tTest, tCB, tCall, rI, rI0, rU, tNext, tB, tAnd, tOr, tNot, tAndV, tOrV, tNotV, tDrop, tIf, tPar, gSub, rIxL, rIxT, rEq, rNe, rSetL, tBits,
    L2.start, List.map_cons, List.map_nil, List.cons_append, List.nil_append, List.append_nil, List.length_cons, List.length_nil, List.replicate, Nat.reduceAdd, Nat.reduceSub, Nat.zero_add, List.getElem?_cons_zero, List.getElem?_cons_succ, List.set_cons_zero, List.set_cons_succ,
    Option.some.injEq, exists_eq_left', exists_eq_left, V.int.injEq, V.bl.injEq, V.ref.injEq, V.str.injEq, List.cons.injEq, reduceCtorEq, and_true, true_and, false_and, and_false, exists_false, or_false, false_or, or_true, true_or, exists_const, CMul, CDiv, CPow, and_assoc, exists_and_left, exists_and_right, Int.reducePow, Int.reduceNeg, Int.reduceLT, Int.reduceLE, Nat.reducePow, Nat.reduceLT, Int.reduceToNat, gt_iff_lt, ge_iff_le, decide_eq_true_eq, Bool.not_eq_true', decide_eq_false_iff_not, scal, ↓reduceIte, Bool.false_eq_true]
    refine menu h0 (by simpa using h) fun v hv => ?_
    simp only [List.mem_cons, List.not_mem_nil, or_false] at hv
    rcases hv with rfl | rfl | rfl | rfl <;> exact k _ _ (by show Int.natAbs _ < _; omega) (kp.trans (Kp.same (Same.new hp _))) (st.same (Same.new hp _))
  · refine ⟨s, _, rfl, st, by omega, fun j H2 j0 j1 kp2 st2 => ⟨s, 40, rfl, st2, by omega, fun m H3 m0 m1 kp3 st3 => ?_⟩⟩
    simp only [cx_K, decide_true, decide_false, reduceCtorEq, gTp, gCons, gNil, ca_0, ca_1, ca_2, ca_3, ca_4, ca_5, ca_6, ca_7, ca_8, ca_9, ca_10, ca_11, ca_12, ca_13, ca_14, ca_15, ca_16, ca_17, ca_18, ca_19, ca_20, ca_21, ca_22, ca_23, ca_24, ca_25, ca_26, ca_27, ca_28, ca_29, ca_30, not_true_eq_false, not_false_eq_true, Int.reduceEq, Nat.reduceEqDiff, Nat.reduceLeDiff, rGcd, V.ty.injEq, eq_self, List.not_mem_nil, beq_self_eq_true, HO.lst.injEq, HO.tup.injEq, tFor_eq, iRng1, iList, iTup, nat10, tSeq, rIxA, rSetA, rIsN, rIsT, tTp, tLs, itsO_tup, itsO_lst, tyO_tup, tyO_lst, tyO_dK, tyN_non, tyN_bl, tyN_int, tyN_str, tyN_ref, tyNs_lt, isB, upd_same, upd_upd, sizeLine_eq, List.mem_cons, String.reduceBEq, String.reduceEq, Bool.or_false, Bool.or_true, Bool.and_false, Bool.false_or, Bool.and_self, Bool.false_and, Bool.not_false, Bool.not_true, List.any_cons, List.any_nil, atI_0, setI_0, atI_1, setI_1, atI_2, setI_2, atI_3, setI_3, atI_4, setI_4, atI_5, setI_5, atI_6, setI_6, tAsg, gName, tOp, tUn, tVar, tC, tCons, L2.tNil, tRet, tIfS, tTest, tCB, tCall, rI, rI0, rU, tNext, tB, tAnd, tOr, tNot, tAndV, tOrV, tNotV, tDrop, tIf, tPar, gSub, rIxL, rIxT, rEq, rNe, rSetL, tBits,
    L2.start, List.map_cons, List.map_nil, List.cons_append, List.nil_append, List.append_nil, List.length_cons, List.length_nil, List.replicate, Nat.reduceAdd, Nat.reduceSub, Nat.zero_add, List.getElem?_cons_zero, List.getElem?_cons_succ, List.set_cons_zero, List.set_cons_succ,
    Option.some.injEq, exists_eq_left', exists_eq_left, V.int.injEq, V.bl.injEq, V.ref.injEq, V.str.injEq, List.cons.injEq, reduceCtorEq, and_true, true_and, false_and, and_false, exists_false, or_false, false_or, or_true, true_or, exists_const, CMul, CDiv, CPow, and_assoc, exists_and_left, exists_and_right, Int.reducePow, Int.reduceNeg, Int.reduceLT, Int.reduceLE, Nat.reducePow, Nat.reduceLT, Int.reduceToNat, gt_iff_lt, ge_iff_le, decide_eq_true_eq, Bool.not_eq_true', decide_eq_false_iff_not, scal, ↓reduceIte, Bool.false_eq_true]
    refine ⟨by omega, by omega, forI_range (GreatI s i H3) ⟨j, none, rfl, rfl, j0, by omega⟩ ?_ ?_⟩
    · rintro t σ H' _ ⟨v, y, rfl, rfl, v0, v1⟩
      simp only [cx_K, decide_true, decide_false, reduceCtorEq, gTp, gCons, gNil, ca_0, ca_1, ca_2, ca_3, ca_4, ca_5, ca_6, ca_7, ca_8, ca_9, ca_10, ca_11, ca_12, ca_13, ca_14, ca_15, ca_16, ca_17, ca_18, ca_19, ca_20, ca_21, ca_22, ca_23, ca_24, ca_25, ca_26, ca_27, ca_28, ca_29, ca_30, not_true_eq_false, not_false_eq_true, Int.reduceEq, Nat.reduceEqDiff, Nat.reduceLeDiff, rGcd, V.ty.injEq, eq_self, List.not_mem_nil, beq_self_eq_true, HO.lst.injEq, HO.tup.injEq, tFor_eq, iRng1, iList, iTup, nat10, tSeq, rIxA, rSetA, rIsN, rIsT, tTp, tLs, itsO_tup, itsO_lst, tyO_tup, tyO_lst, tyO_dK, tyN_non, tyN_bl, tyN_int, tyN_str, tyN_ref, tyNs_lt, isB, upd_same, upd_upd, sizeLine_eq, List.mem_cons, String.reduceBEq, String.reduceEq, Bool.or_false, Bool.or_true, Bool.and_false, Bool.false_or, Bool.and_self, Bool.false_and, Bool.not_false, Bool.not_true, List.any_cons, List.any_nil, atI_0, setI_0, atI_1, setI_1, atI_2, setI_2, atI_3, setI_3, atI_4, setI_4, atI_5, setI_5, atI_6, setI_6, tAsg, gName, tOp, tUn, tVar, tC, tCons, L2.tNil, tRet, tIfS, tTest, tCB, tCall, rI, rI0, rU, tNext, tB, tAnd, tOr, tNot, tAndV, tOrV, tNotV, tDrop, tIf, tPar, gSub, rIxL, rIxT, rEq, rNe, rSetL, tBits,
    L2.start, List.map_cons, List.map_nil, List.cons_append, List.nil_append, List.append_nil, List.length_cons, List.length_nil, List.replicate, Nat.reduceAdd, Nat.reduceSub, Nat.zero_add, List.getElem?_cons_zero, List.getElem?_cons_succ, List.set_cons_zero, List.set_cons_succ,
    Option.some.injEq, exists_eq_left', exists_eq_left, V.int.injEq, V.bl.injEq, V.ref.injEq, V.str.injEq, List.cons.injEq, reduceCtorEq, and_true, true_and, false_and, and_false, exists_false, or_false, false_or, or_true, true_or, exists_const, CMul, CDiv, CPow, and_assoc, exists_and_left, exists_and_right, Int.reducePow, Int.reduceNeg, Int.reduceLT, Int.reduceLE, Nat.reducePow, Nat.reduceLT, Int.reduceToNat, gt_iff_lt, ge_iff_le, decide_eq_true_eq, Bool.not_eq_true', decide_eq_false_iff_not, scal, ↓reduceIte, Bool.false_eq_true]
      exact ⟨_, _, rfl, rfl, by omega, by omega⟩
    · rintro σ H' ⟨v, y, rfl, rfl, v0, v1⟩
      simp only [cx_K, decide_true, decide_false, reduceCtorEq, gTp, gCons, gNil, ca_0, ca_1, ca_2, ca_3, ca_4, ca_5, ca_6, ca_7, ca_8, ca_9, ca_10, ca_11, ca_12, ca_13, ca_14, ca_15, ca_16, ca_17, ca_18, ca_19, ca_20, ca_21, ca_22, ca_23, ca_24, ca_25, ca_26, ca_27, ca_28, ca_29, ca_30, not_true_eq_false, not_false_eq_true, Int.reduceEq, Nat.reduceEqDiff, Nat.reduceLeDiff, rGcd, V.ty.injEq, eq_self, List.not_mem_nil, beq_self_eq_true, HO.lst.injEq, HO.tup.injEq, tFor_eq, iRng1, iList, iTup, nat10, tSeq, rIxA, rSetA, rIsN, rIsT, tTp, tLs, itsO_tup, itsO_lst, tyO_tup, tyO_lst, tyO_dK, tyN_non, tyN_bl, tyN_int, tyN_str, tyN_ref, tyNs_lt, isB, upd_same, upd_upd, sizeLine_eq, List.mem_cons, String.reduceBEq, String.reduceEq, Bool.or_false, Bool.or_true, Bool.and_false, Bool.false_or, Bool.and_self, Bool.false_and, Bool.not_false, Bool.not_true, List.any_cons, List.any_nil, atI_0, setI_0, atI_1, setI_1, atI_2, setI_2, atI_3, setI_3, atI_4, setI_4, atI_5, setI_5, atI_6, setI_6, tAsg, gName, tOp, tUn, tVar, tC, tCons, L2.tNil, tRet, tIfS, tTest, tCB, tCall, rI, rI0, rU, tNext, tB, tAnd, tOr, tNot, tAndV, tOrV, tNotV, tDrop, tIf, tPar, gSub, rIxL, rIxT, rEq, rNe, rSetL, tBits,
    L2.start, List.map_cons, List.map_nil, List.cons_append, List.nil_append, List.append_nil, List.length_cons, List.length_nil, List.replicate, Nat.reduceAdd, Nat.reduceSub, Nat.zero_add, List.getElem?_cons_zero, List.getElem?_cons_succ, List.set_cons_zero, List.set_cons_succ,
    Option.some.injEq, exists_eq_left', exists_eq_left, V.int.injEq, V.bl.injEq, V.ref.injEq, V.str.injEq, List.cons.injEq, reduceCtorEq, and_true, true_and, false_and, and_false, exists_false, or_false, false_or, or_true, true_or, exists_const, CMul, CDiv, CPow, and_assoc, exists_and_left, exists_and_right, Int.reducePow, Int.reduceNeg, Int.reduceLT, Int.reduceLE, Nat.reducePow, Nat.reduceLT, Int.reduceToNat, gt_iff_lt, ge_iff_le, decide_eq_true_eq, Bool.not_eq_true', decide_eq_false_iff_not, scal, ↓reduceIte, Bool.false_eq_true]
      have kk := (kp.trans kp2).trans kp3
      exact ite2 (fun _ => k _ _ (by show Int.natAbs _ < _; omega) kk st3) (fun _ => k _ _ (by show Int.natAbs _ < _; omega) kk st3)
def spDFrac (K : PySem.W.Frag) (n : Nat) : Sp := fun vs H Q _ => ∃ (s : Addr), vs = [.ref s] ∧ Sto K H s ∧ ∀ a q H', Fq K H' n a q → Kp s H H' → Sto K H' s → Q (.ref a) H'
theorem nf01 : Nf (0, 1) := ⟨by decide, by decide⟩
theorem nf11 : Nf (1, 1) := ⟨by decide, by decide⟩
theorem nfm1 : Nf (-1, 1) := ⟨by decide, by decide⟩
theorem nf12 : Nf (1, 2) := ⟨by decide, by decide⟩
theorem nfm2 : Nf (-1, 2) := ⟨by decide, by decide⟩
theorem sz10 {x y : Int} (h1 : x.natAbs < 1024) (h2 : y.natAbs < 1024) : Sz 10 (x, y) := ⟨by show x.natAbs < _; omega, by show y.natAbs < _; omega⟩
abbrev sDFrac : Stmt := topS 39
theorem scDFrac : FnScope ["_law_store_here", "_law_spot", "_law_bottom"] ["_law_store_here"] (defScope sDFrac) := ⟨rfl, rfl, rfl, by decide +kernel, rfl, by decide +kernel, by decide +kernel⟩
theorem k_DFrac (T : Bt K mg) (D : Dfn K mg "_law_frac" sDFrac ["_law_store_here"]) (d__law_take : Kn P w K mg base 2 "_law_take" ["_law_store_here", "_law_many"] (spTake K)) (d__law_lowest : Kn P w K mg base 2 "_law_lowest" ["_law_top", "_law_bottom"] (spLowest K)) : Kn P w K mg base 3 "_law_frac" ["_law_store_here"] (spDFrac K 10) := by
  refine Kn.mk' D scDFrac (fun vs H Q E h => ?_) (fun f cdv A outer s H vs Q E hr h => ?_)
  · obtain ⟨s, rfl, _⟩ := h
    rfl
  obtain ⟨s, rfl, hS, k⟩ := h
  refine ⟨_, (pss_cons (ps_set (i := 1) scDFrac.nd rfl (.inl rfl) (pe_kn d__law_take hr (by rfl) (pa_cons (pv 0) (pa_cons pe_int pa_nil))))
      (pss_cons (ps_if (pt_cmpR op_lt (pv 1) pe_int (nomark _)) (pss_one (ps_ret (pe_ix ix_any (pe_ls (pa_cons (pe_tp (pa_cons pe_int (pa_cons pe_int pa_nil))) (pa_cons (pe_tp (pa_cons pe_int (pa_cons pe_int pa_nil))) (pa_cons (pe_tp (pa_cons (pe_un un_neg pe_int) (pa_cons pe_int pa_nil))) (pa_cons (pe_tp (pa_cons pe_int (pa_cons pe_int pa_nil))) (pa_cons (pe_tp (pa_cons (pe_un un_neg pe_int) (pa_cons pe_int pa_nil))) pa_nil)))))) (pv 1) (fun _ _ => rfl)))) pss_nil)
      (pss_cons (ps_set (i := 2) scDFrac.nd rfl (.inl rfl) (pe_op op_add pe_int (pe_kn d__law_take hr (by rfl) (pa_cons (pv 0) (pa_cons pe_int pa_nil)))))
      (pss_one (ps_ret (pe_kn d__law_lowest hr (by rfl) (pa_cons (pe_op op_sub (pe_kn d__law_take hr (by rfl) (pa_cons (pv 0) (pa_cons (pe_op op_add (pe_op op_mul pe_int (pv 2)) pe_int) pa_nil))) (pe_op op_mul pe_int (pv 2))) (pa_cons (pv 2) pa_nil)))))))), ?_⟩
  simp only [cx_K, decide_true, decide_false, reduceCtorEq, gTp, gCons, gNil, ca_0, ca_1, ca_2, ca_3, ca_4, ca_5, ca_6, ca_7, ca_8, ca_9, ca_10, ca_11, ca_12, ca_13, ca_14, ca_15, ca_16, ca_17, ca_18, ca_19, ca_20, ca_21, ca_22, ca_23, ca_24, ca_25, ca_26, ca_27, ca_28, ca_29, ca_30, not_true_eq_false, not_false_eq_true, Int.reduceEq, Nat.reduceEqDiff, Nat.reduceLeDiff, rGcd, V.ty.injEq, eq_self, List.not_mem_nil, beq_self_eq_true, HO.lst.injEq, HO.tup.injEq, tFor_eq, iRng1, iList, iTup, nat10, tSeq, rIxA, rSetA, rIsN, rIsT, tTp, tLs, itsO_tup, itsO_lst, tyO_tup, tyO_lst, tyO_dK, tyN_non, tyN_bl, tyN_int, tyN_str, tyN_ref, tyNs_lt, isB, upd_same, upd_upd, sizeLine_eq, List.mem_cons, String.reduceBEq, String.reduceEq, Bool.or_false, Bool.or_true, Bool.and_false, Bool.false_or, Bool.and_self, Bool.false_and, Bool.not_false, Bool.not_true, List.any_cons, List.any_nil, atI_0, setI_0, atI_1, setI_1, atI_2, setI_2, atI_3, setI_3, atI_4, setI_4, atI_5, setI_5, atI_6, setI_6, tAsg, gName, tOp, tUn, tVar, tC, tCons, L2.tNil, tRet, tIfS, tTest, tCB, tCall, rI, rI0, rU, tNext, tB, tAnd, tOr, tNot, tAndV, tOrV, tNotV, tDrop, tIf, tPar, gSub, rIxL, rIxT, rEq, rNe, rSetL, tBits,
    L2.start, List.map_cons, List.map_nil, List.cons_append, List.nil_append, List.append_nil, List.length_cons, List.length_nil, List.replicate, Nat.reduceAdd, Nat.reduceSub, Nat.zero_add, List.getElem?_cons_zero, List.getElem?_cons_succ, List.set_cons_zero, List.set_cons_succ,
    Option.some.injEq, exists_eq_left', exists_eq_left, V.int.injEq, V.bl.injEq, V.ref.injEq, V.str.injEq, List.cons.injEq, reduceCtorEq, and_true, true_and, false_and, and_false, exists_false, or_false, false_or, or_true, true_or, exists_const, CMul, CDiv, CPow, and_assoc, exists_and_left, exists_and_right, Int.reducePow, Int.reduceNeg, Int.reduceLT, Int.reduceLE, Nat.reducePow, Nat.reduceLT, Int.reduceToNat, gt_iff_lt, ge_iff_le, decide_eq_true_eq, Bool.not_eq_true', decide_eq_false_iff_not, scal, ↓reduceIte, Bool.false_eq_true]
  refine ⟨s, 12, rfl, hS, by omega, fun i H1 z0 z1 kp st => ?_⟩
  simp only [cx_K, decide_true, decide_false, reduceCtorEq, gTp, gCons, gNil, ca_0, ca_1, ca_2, ca_3, ca_4, ca_5, ca_6, ca_7, ca_8, ca_9, ca_10, ca_11, ca_12, ca_13, ca_14, ca_15, ca_16, ca_17, ca_18, ca_19, ca_20, ca_21, ca_22, ca_23, ca_24, ca_25, ca_26, ca_27, ca_28, ca_29, ca_30, not_true_eq_false, not_false_eq_true, Int.reduceEq, Nat.reduceEqDiff, Nat.reduceLeDiff, rGcd, V.ty.injEq, eq_self, List.not_mem_nil, beq_self_eq_true, HO.lst.injEq, HO.tup.injEq, tFor_eq, iRng1, iList, iTup, nat10, tSeq, rIxA, rSetA, rIsN, rIsT, tTp, tLs, itsO_tup, itsO_lst, tyO_tup, tyO_lst, tyO_dK, tyN_non, tyN_bl, tyN_int, tyN_str, tyN_ref, tyNs_lt, isB, upd_same, upd_upd, sizeLine_eq, List.mem_cons, String.reduceBEq, String.reduceEq, Bool.or_false, Bool.or_true, Bool.and_false, Bool.false_or, Bool.and_self, Bool.false_and, Bool.not_false, Bool.not_true, List.any_cons, List.any_nil, atI_0, setI_0, atI_1, setI_1, atI_2, setI_2, atI_3, setI_3, atI_4, setI_4, atI_5, setI_5, atI_6, setI_6, tAsg, gName, tOp, tUn, tVar, tC, tCons, L2.tNil, tRet, tIfS, tTest, tCB, tCall, rI, rI0, rU, tNext, tB, tAnd, tOr, tNot, tAndV, tOrV, tNotV, tDrop, tIf, tPar, gSub, rIxL, rIxT, rEq, rNe, rSetL, tBits,
    L2.start, List.map_cons, List.map_nil, List.cons_append, List.nil_append, List.append_nil, List.length_cons, List.length_nil, List.replicate, Nat.reduceAdd, Nat.reduceSub, Nat.zero_add, List.getElem?_cons_zero, List.getElem?_cons_succ, List.set_cons_zero, List.set_cons_succ,
    Option.some.injEq, exists_eq_left', exists_eq_left, V.int.injEq, V.bl.injEq, V.ref.injEq, V.str.injEq, List.cons.injEq, reduceCtorEq, and_true, true_and, false_and, and_false, exists_false, or_false, false_or, or_true, true_or, exists_const, CMul, CDiv, CPow, and_assoc, exists_and_left, exists_and_right, Int.reducePow, Int.reduceNeg, Int.reduceLT, Int.reduceLE, Nat.reducePow, Nat.reduceLT, Int.reduceToNat, gt_iff_lt, ge_iff_le, decide_eq_true_eq, Bool.not_eq_true', decide_eq_false_iff_not, scal, ↓reduceIte, Bool.false_eq_true]
  refine ite2 (fun h => ?_) (fun h => ?_)
  · intro p1 h1 k1 p2 h2 k2 p3 h3 k3 p4 h4 k4 p5 h5 k5 p6 h6 k6
    rw [ob_new k6]
    simp only [cx_K, decide_true, decide_false, reduceCtorEq, gTp, gCons, gNil, ca_0, ca_1, ca_2, ca_3, ca_4, ca_5, ca_6, ca_7, ca_8, ca_9, ca_10, ca_11, ca_12, ca_13, ca_14, ca_15, ca_16, ca_17, ca_18, ca_19, ca_20, ca_21, ca_22, ca_23, ca_24, ca_25, ca_26, ca_27, ca_28, ca_29, ca_30, not_true_eq_false, not_false_eq_true, Int.reduceEq, Nat.reduceEqDiff, Nat.reduceLeDiff, rGcd, V.ty.injEq, eq_self, List.not_mem_nil, beq_self_eq_true, HO.lst.injEq, HO.tup.injEq, tFor_eq, iRng1, iList, iTup, nat10, tSeq, rIxA, rSetA, rIsN, rIsT, tTp, tLs, itsO_tup, itsO_lst, tyO_tup, tyO_lst, tyO_dK, tyN_non, tyN_bl, tyN_int, tyN_str, tyN_ref, tyNs_lt, isB, upd_same, upd_upd, sizeLine_eq, List.mem_cons, String.reduceBEq, String.reduceEq, Bool.or_false, Bool.or_true, Bool.and_false, Bool.false_or, Bool.and_self, Bool.false_and, Bool.not_false, Bool.not_true, List.any_cons, List.any_nil, atI_0, setI_0, atI_1, setI_1, atI_2, setI_2, atI_3, setI_3, atI_4, setI_4, atI_5, setI_5, atI_6, setI_6, tAsg, gName, tOp, tUn, tVar, tC, tCons, L2.tNil, tRet, tIfS, tTest, tCB, tCall, rI, rI0, rU, tNext, tB, tAnd, tOr, tNot, tAndV, tOrV, tNotV, tDrop, tIf, tPar, gSub, rIxL, rIxT, rEq, rNe, rSetL, tBits,
    L2.start, List.map_cons, List.map_nil, List.cons_append, List.nil_append, List.append_nil, List.length_cons, List.length_nil, List.replicate, Nat.reduceAdd, Nat.reduceSub, Nat.zero_add, List.getElem?_cons_zero, List.getElem?_cons_succ, List.set_cons_zero, List.set_cons_succ,
    Option.some.injEq, exists_eq_left', exists_eq_left, V.int.injEq, V.bl.injEq, V.ref.injEq, V.str.injEq, List.cons.injEq, reduceCtorEq, and_true, true_and, false_and, and_false, exists_false, or_false, false_or, or_true, true_or, exists_const, CMul, CDiv, CPow, and_assoc, exists_and_left, exists_and_right, Int.reducePow, Int.reduceNeg, Int.reduceLT, Int.reduceLE, Nat.reducePow, Nat.reduceLT, Int.reduceToNat, gt_iff_lt, ge_iff_le, decide_eq_true_eq, Bool.not_eq_true', decide_eq_false_iff_not, scal, ↓reduceIte, Bool.false_eq_true]
    refine menu z0 (by simpa using h) fun v hv => ?_
    simp only [List.mem_cons, List.not_mem_nil, or_false] at hv
    rcases hv with rfl | rfl | rfl | rfl | rfl
    · exact k _ _ _ ⟨ob_same ((Same.new h2 _).trans ((Same.new h3 _).trans ((Same.new h4 _).trans ((Same.new h5 _).trans (Same.new h6 _))))) (ob_new k1), nf01, sz10 (by decide) (by decide)⟩ (kp.trans (Kp.same ((Same.new h1 _).trans ((Same.new h2 _).trans ((Same.new h3 _).trans ((Same.new h4 _).trans ((Same.new h5 _).trans (Same.new h6 _)))))))) (st.same ((Same.new h1 _).trans ((Same.new h2 _).trans ((Same.new h3 _).trans ((Same.new h4 _).trans ((Same.new h5 _).trans (Same.new h6 _)))))))
    · exact k _ _ _ ⟨ob_same ((Same.new h3 _).trans ((Same.new h4 _).trans ((Same.new h5 _).trans (Same.new h6 _)))) (ob_new k2), nf11, sz10 (by decide) (by decide)⟩ (kp.trans (Kp.same ((Same.new h1 _).trans ((Same.new h2 _).trans ((Same.new h3 _).trans ((Same.new h4 _).trans ((Same.new h5 _).trans (Same.new h6 _)))))))) (st.same ((Same.new h1 _).trans ((Same.new h2 _).trans ((Same.new h3 _).trans ((Same.new h4 _).trans ((Same.new h5 _).trans (Same.new h6 _)))))))
    · exact k _ _ _ ⟨ob_same ((Same.new h4 _).trans ((Same.new h5 _).trans (Same.new h6 _))) (ob_new k3), nfm1, sz10 (by decide) (by decide)⟩ (kp.trans (Kp.same ((Same.new h1 _).trans ((Same.new h2 _).trans ((Same.new h3 _).trans ((Same.new h4 _).trans ((Same.new h5 _).trans (Same.new h6 _)))))))) (st.same ((Same.new h1 _).trans ((Same.new h2 _).trans ((Same.new h3 _).trans ((Same.new h4 _).trans ((Same.new h5 _).trans (Same.new h6 _)))))))
    · exact k _ _ _ ⟨ob_same ((Same.new h5 _).trans (Same.new h6 _)) (ob_new k4), nf12, sz10 (by decide) (by decide)⟩ (kp.trans (Kp.same ((Same.new h1 _).trans ((Same.new h2 _).trans ((Same.new h3 _).trans ((Same.new h4 _).trans ((Same.new h5 _).trans (Same.new h6 _)))))))) (st.same ((Same.new h1 _).trans ((Same.new h2 _).trans ((Same.new h3 _).trans ((Same.new h4 _).trans ((Same.new h5 _).trans (Same.new h6 _)))))))
    · exact k _ _ _ ⟨ob_same (Same.new h6 _) (ob_new k5), nfm2, sz10 (by decide) (by decide)⟩ (kp.trans (Kp.same ((Same.new h1 _).trans ((Same.new h2 _).trans ((Same.new h3 _).trans ((Same.new h4 _).trans ((Same.new h5 _).trans (Same.new h6 _)))))))) (st.same ((Same.new h1 _).trans ((Same.new h2 _).trans ((Same.new h3 _).trans ((Same.new h4 _).trans ((Same.new h5 _).trans (Same.new h6 _)))))))
  · refine ⟨s, 12, rfl, st, by omega, fun j H2 j0 j1 kp2 st2 => ?_⟩
    simp only [cx_K, decide_true, decide_false, reduceCtorEq, gTp, gCons, gNil, ca_0, ca_1, ca_2, ca_3, ca_4, ca_5, ca_6, ca_7, ca_8, ca_9, ca_10, ca_11, ca_12, ca_13, ca_14, ca_15, ca_16, ca_17, ca_18, ca_19, ca_20, ca_21, ca_22, ca_23, ca_24, ca_25, ca_26, ca_27, ca_28, ca_29, ca_30, not_true_eq_false, not_false_eq_true, Int.reduceEq, Nat.reduceEqDiff, Nat.reduceLeDiff, rGcd, V.ty.injEq, eq_self, List.not_mem_nil, beq_self_eq_true, HO.lst.injEq, HO.tup.injEq, tFor_eq, iRng1, iList, iTup, nat10, tSeq, rIxA, rSetA, rIsN, rIsT, tTp, tLs, itsO_tup, itsO_lst, tyO_tup, tyO_lst, tyO_dK, tyN_non, tyN_bl, tyN_int, tyN_str, tyN_ref, tyNs_lt, isB, upd_same, upd_upd, sizeLine_eq, List.mem_cons, String.reduceBEq, String.reduceEq, Bool.or_false, Bool.or_true, Bool.and_false, Bool.false_or, Bool.and_self, Bool.false_and, Bool.not_false, Bool.not_true, List.any_cons, List.any_nil, atI_0, setI_0, atI_1, setI_1, atI_2, setI_2, atI_3, setI_3, atI_4, setI_4, atI_5, setI_5, atI_6, setI_6, tAsg, gName, tOp, tUn, tVar, tC, tCons, L2.tNil, tRet, tIfS, tTest, tCB, tCall, rI, rI0, rU, tNext, tB, tAnd, tOr, tNot, tAndV, tOrV, tNotV, tDrop, tIf, tPar, gSub, rIxL, rIxT, rEq, rNe, rSetL, tBits,
    L2.start, List.map_cons, List.map_nil, List.cons_append, List.nil_append, List.append_nil, List.length_cons, List.length_nil, List.replicate, Nat.reduceAdd, Nat.reduceSub, Nat.zero_add, List.getElem?_cons_zero, List.getElem?_cons_succ, List.set_cons_zero, List.set_cons_succ,
    Option.some.injEq, exists_eq_left', exists_eq_left, V.int.injEq, V.bl.injEq, V.ref.injEq, V.str.injEq, List.cons.injEq, reduceCtorEq, and_true, true_and, false_and, and_false, exists_false, or_false, false_or, or_true, true_or, exists_const, CMul, CDiv, CPow, and_assoc, exists_and_left, exists_and_right, Int.reducePow, Int.reduceNeg, Int.reduceLT, Int.reduceLE, Nat.reducePow, Nat.reduceLT, Int.reduceToNat, gt_iff_lt, ge_iff_le, decide_eq_true_eq, Bool.not_eq_true', decide_eq_false_iff_not, scal, ↓reduceIte, Bool.false_eq_true]
    refine ⟨s, _, rfl, st2, by omega, fun m H3 m0 m1 kp3 st3 => ?_⟩
    simp only [cx_K, decide_true, decide_false, reduceCtorEq, gTp, gCons, gNil, ca_0, ca_1, ca_2, ca_3, ca_4, ca_5, ca_6, ca_7, ca_8, ca_9, ca_10, ca_11, ca_12, ca_13, ca_14, ca_15, ca_16, ca_17, ca_18, ca_19, ca_20, ca_21, ca_22, ca_23, ca_24, ca_25, ca_26, ca_27, ca_28, ca_29, ca_30, not_true_eq_false, not_false_eq_true, Int.reduceEq, Nat.reduceEqDiff, Nat.reduceLeDiff, rGcd, V.ty.injEq, eq_self, List.not_mem_nil, beq_self_eq_true, HO.lst.injEq, HO.tup.injEq, tFor_eq, iRng1, iList, iTup, nat10, tSeq, rIxA, rSetA, rIsN, rIsT, tTp, tLs, itsO_tup, itsO_lst, tyO_tup, tyO_lst, tyO_dK, tyN_non, tyN_bl, tyN_int, tyN_str, tyN_ref, tyNs_lt, isB, upd_same, upd_upd, sizeLine_eq, List.mem_cons, String.reduceBEq, String.reduceEq, Bool.or_false, Bool.or_true, Bool.and_false, Bool.false_or, Bool.and_self, Bool.false_and, Bool.not_false, Bool.not_true, List.any_cons, List.any_nil, atI_0, setI_0, atI_1, setI_1, atI_2, setI_2, atI_3, setI_3, atI_4, setI_4, atI_5, setI_5, atI_6, setI_6, tAsg, gName, tOp, tUn, tVar, tC, tCons, L2.tNil, tRet, tIfS, tTest, tCB, tCall, rI, rI0, rU, tNext, tB, tAnd, tOr, tNot, tAndV, tOrV, tNotV, tDrop, tIf, tPar, gSub, rIxL, rIxT, rEq, rNe, rSetL, tBits,
    L2.start, List.map_cons, List.map_nil, List.cons_append, List.nil_append, List.append_nil, List.length_cons, List.length_nil, List.replicate, Nat.reduceAdd, Nat.reduceSub, Nat.zero_add, List.getElem?_cons_zero, List.getElem?_cons_succ, List.set_cons_zero, List.set_cons_succ,
    Option.some.injEq, exists_eq_left', exists_eq_left, V.int.injEq, V.bl.injEq, V.ref.injEq, V.str.injEq, List.cons.injEq, reduceCtorEq, and_true, true_and, false_and, and_false, exists_false, or_false, false_or, or_true, true_or, exists_const, CMul, CDiv, CPow, and_assoc, exists_and_left, exists_and_right, Int.reducePow, Int.reduceNeg, Int.reduceLT, Int.reduceLE, Nat.reducePow, Nat.reduceLT, Int.reduceToNat, gt_iff_lt, ge_iff_le, decide_eq_true_eq, Bool.not_eq_true', decide_eq_false_iff_not, scal, ↓reduceIte, Bool.false_eq_true]
    refine ⟨_, _, rfl, ?_, fun q hq p H4 s4 o4 => ?_⟩
    · have e : 2 ^ 10 ≤ 2 ^ 8000 := Nat.pow_le_pow_right (by omega) (by omega)
      omega
    · have hI := hq.2 (show 1 + j ≠ 0 by omega)
      exact k p q H4 ⟨o4, hI.1, is_sz (by omega) hI (by omega) (by omega)⟩ (((kp.trans kp2).trans kp3).trans (Kp.same s4)) (st3.same s4)
abbrev sDFracW : Stmt := topS 40
theorem scDFracW : FnScope ["_law_store_here", "_law_spot"] ["_law_store_here"] (defScope sDFracW) := ⟨rfl, rfl, rfl, by decide +kernel, rfl, by decide +kernel, by decide +kernel⟩
theorem k_DFracW (T : Bt K mg) (D : Dfn K mg "_law_frac_wide" sDFracW ["_law_store_here"]) (d__law_take : Kn P w K mg base 2 "_law_take" ["_law_store_here", "_law_many"] (spTake K)) (d__law_lowest : Kn P w K mg base 2 "_law_lowest" ["_law_top", "_law_bottom"] (spLowest K)) (d__law_great : Kn P w K mg base 3 "_law_great" ["_law_store_here"] (spInt K fun n => n.natAbs < 2 ^ 133)) (d__law_whole : Kn P w K mg base 3 "_law_whole" ["_law_store_here", "_law_reach"] (spLInt K)) (d__law_frac : Kn P w K mg base 3 "_law_frac" ["_law_store_here"] (spDFrac K 10)) : Kn P w K mg base 4 "_law_frac_wide" ["_law_store_here"] (spDFrac K 133) := by
  refine Kn.mk' D scDFracW (fun vs H Q E h => ?_) (fun f cdv A outer s H vs Q E hr h => ?_)
  · obtain ⟨s, rfl, _⟩ := h
    rfl
  obtain ⟨s, rfl, hS, k⟩ := h
  refine ⟨_, (pss_cons (ps_set (i := 1) scDFracW.nd rfl (.inl rfl) (pe_kn d__law_take hr (by rfl) (pa_cons (pv 0) (pa_cons pe_int pa_nil))))
      (pss_cons (ps_if (pt_cmpR op_eq (pv 1) pe_int (nomark _)) (pss_one (ps_ret (pe_kn d__law_lowest hr (by rfl) (pa_cons (pe_kn d__law_great hr (by rfl) (pa_cons (pv 0) pa_nil)) (pa_cons (pe_callB (call_max2 rfl) (by rfl) T.b_max (by decide +kernel) (pa_cons pe_int (pa_cons (pe_callB call_abs (by rfl) T.b_abs (by decide +kernel) (pa_cons (pe_kn d__law_great hr (by rfl) (pa_cons (pv 0) pa_nil)) pa_nil)) pa_nil))) pa_nil))))) pss_nil)
      (pss_cons (ps_if (pt_cmpR op_eq (pv 1) pe_int (nomark _)) (pss_one (ps_ret (pe_kn d__law_lowest hr (by rfl) (pa_cons (pe_kn d__law_whole hr (by rfl) (pa_cons (pv 0) (pa_cons (pe_op op_pow pe_int pe_int) pa_nil))) (pa_cons (pe_op op_add pe_int (pe_kn d__law_take hr (by rfl) (pa_cons (pv 0) (pa_cons pe_int pa_nil)))) pa_nil))))) pss_nil)
      (pss_one (ps_ret (pe_kn d__law_frac hr (by rfl) (pa_cons (pv 0) pa_nil))))))), ?_⟩
  simp only [cx_K, decide_true, decide_false, reduceCtorEq, gTp, gCons, gNil, ca_0, ca_1, ca_2, ca_3, ca_4, ca_5, ca_6, ca_7, ca_8, ca_9, ca_10, ca_11, ca_12, ca_13, ca_14, ca_15, ca_16, ca_17, ca_18, ca_19, ca_20, ca_21, ca_22, ca_23, ca_24, ca_25, ca_26, ca_27, ca_28, ca_29, ca_30, not_true_eq_false, not_false_eq_true, Int.reduceEq, Nat.reduceEqDiff, Nat.reduceLeDiff, rGcd, V.ty.injEq, eq_self, List.not_mem_nil, beq_self_eq_true, HO.lst.injEq, HO.tup.injEq, tFor_eq, iRng1, iList, iTup, nat10, tSeq, rIxA, rSetA, rIsN, rIsT, tTp, tLs, itsO_tup, itsO_lst, tyO_tup, tyO_lst, tyO_dK, tyN_non, tyN_bl, tyN_int, tyN_str, tyN_ref, tyNs_lt, isB, upd_same, upd_upd, sizeLine_eq, List.mem_cons, String.reduceBEq, String.reduceEq, Bool.or_false, Bool.or_true, Bool.and_false, Bool.false_or, Bool.and_self, Bool.false_and, Bool.not_false, Bool.not_true, List.any_cons, List.any_nil, atI_0, setI_0, atI_1, setI_1, atI_2, setI_2, atI_3, setI_3, atI_4, setI_4, atI_5, setI_5, atI_6, setI_6, tAsg, gName, tOp, tUn, tVar, tC, tCons, L2.tNil, tRet, tIfS, tTest, tCB, tCall, rI, rI0, rU, tNext, tB, tAnd, tOr, tNot, tAndV, tOrV, tNotV, tDrop, tIf, tPar, gSub, rIxL, rIxT, rEq, rNe, rSetL, tBits,
    L2.start, List.map_cons, List.map_nil, List.cons_append, List.nil_append, List.append_nil, List.length_cons, List.length_nil, List.replicate, Nat.reduceAdd, Nat.reduceSub, Nat.zero_add, List.getElem?_cons_zero, List.getElem?_cons_succ, List.set_cons_zero, List.set_cons_succ,
    Option.some.injEq, exists_eq_left', exists_eq_left, V.int.injEq, V.bl.injEq, V.ref.injEq, V.str.injEq, List.cons.injEq, reduceCtorEq, and_true, true_and, false_and, and_false, exists_false, or_false, false_or, or_true, true_or, exists_const, CMul, CDiv, CPow, and_assoc, exists_and_left, exists_and_right, Int.reducePow, Int.reduceNeg, Int.reduceLT, Int.reduceLE, Nat.reducePow, Nat.reduceLT, Int.reduceToNat, gt_iff_lt, ge_iff_le, decide_eq_true_eq, Bool.not_eq_true', decide_eq_false_iff_not, scal, ↓reduceIte, Bool.false_eq_true]
  refine ⟨s, 8, rfl, hS, by omega, fun i H1 z0 z1 kp st => ?_⟩
  simp only [cx_K, decide_true, decide_false, reduceCtorEq, gTp, gCons, gNil, ca_0, ca_1, ca_2, ca_3, ca_4, ca_5, ca_6, ca_7, ca_8, ca_9, ca_10, ca_11, ca_12, ca_13, ca_14, ca_15, ca_16, ca_17, ca_18, ca_19, ca_20, ca_21, ca_22, ca_23, ca_24, ca_25, ca_26, ca_27, ca_28, ca_29, ca_30, not_true_eq_false, not_false_eq_true, Int.reduceEq, Nat.reduceEqDiff, Nat.reduceLeDiff, rGcd, V.ty.injEq, eq_self, List.not_mem_nil, beq_self_eq_true, HO.lst.injEq, HO.tup.injEq, tFor_eq, iRng1, iList, iTup, nat10, tSeq, rIxA, rSetA, rIsN, rIsT, tTp, tLs, itsO_tup, itsO_lst, tyO_tup, tyO_lst, tyO_dK, tyN_non, tyN_bl, tyN_int, tyN_str, tyN_ref, tyNs_lt, isB, upd_same, upd_upd, sizeLine_eq, List.mem_cons, String.reduceBEq, String.reduceEq, Bool.or_false, Bool.or_true, Bool.and_false, Bool.false_or, Bool.and_self, Bool.false_and, Bool.not_false, Bool.not_true, List.any_cons, List.any_nil, atI_0, setI_0, atI_1, setI_1, atI_2, setI_2, atI_3, setI_3, atI_4, setI_4, atI_5, setI_5, atI_6, setI_6, tAsg, gName, tOp, tUn, tVar, tC, tCons, L2.tNil, tRet, tIfS, tTest, tCB, tCall, rI, rI0, rU, tNext, tB, tAnd, tOr, tNot, tAndV, tOrV, tNotV, tDrop, tIf, tPar, gSub, rIxL, rIxT, rEq, rNe, rSetL, tBits,
    L2.start, List.map_cons, List.map_nil, List.cons_append, List.nil_append, List.append_nil, List.length_cons, List.length_nil, List.replicate, Nat.reduceAdd, Nat.reduceSub, Nat.zero_add, List.getElem?_cons_zero, List.getElem?_cons_succ, List.set_cons_zero, List.set_cons_succ,
    Option.some.injEq, exists_eq_left', exists_eq_left, V.int.injEq, V.bl.injEq, V.ref.injEq, V.str.injEq, List.cons.injEq, reduceCtorEq, and_true, true_and, false_and, and_false, exists_false, or_false, false_or, or_true, true_or, exists_const, CMul, CDiv, CPow, and_assoc, exists_and_left, exists_and_right, Int.reducePow, Int.reduceNeg, Int.reduceLT, Int.reduceLE, Nat.reducePow, Nat.reduceLT, Int.reduceToNat, gt_iff_lt, ge_iff_le, decide_eq_true_eq, Bool.not_eq_true', decide_eq_false_iff_not, scal, ↓reduceIte, Bool.false_eq_true]
  have big : 2 ^ 133 ≤ 2 ^ 8000 := Nat.pow_le_pow_right (by omega) (by omega)
  refine ite2 (fun h => ?_) (fun h => ite2 (fun h' => ?_) (fun h' => ?_))
  · refine ⟨s, rfl, st, fun t H2 ht kp2 st2 => ⟨s, rfl, st2, fun b H3 hb kp3 st3 => ?_⟩⟩
    simp only [abs_if, cx_K, decide_true, decide_false, reduceCtorEq, gTp, gCons, gNil, ca_0, ca_1, ca_2, ca_3, ca_4, ca_5, ca_6, ca_7, ca_8, ca_9, ca_10, ca_11, ca_12, ca_13, ca_14, ca_15, ca_16, ca_17, ca_18, ca_19, ca_20, ca_21, ca_22, ca_23, ca_24, ca_25, ca_26, ca_27, ca_28, ca_29, ca_30, not_true_eq_false, not_false_eq_true, Int.reduceEq, Nat.reduceEqDiff, Nat.reduceLeDiff, rGcd, V.ty.injEq, eq_self, List.not_mem_nil, beq_self_eq_true, HO.lst.injEq, HO.tup.injEq, tFor_eq, iRng1, iList, iTup, nat10, tSeq, rIxA, rSetA, rIsN, rIsT, tTp, tLs, itsO_tup, itsO_lst, tyO_tup, tyO_lst, tyO_dK, tyN_non, tyN_bl, tyN_int, tyN_str, tyN_ref, tyNs_lt, isB, upd_same, upd_upd, sizeLine_eq, List.mem_cons, String.reduceBEq, String.reduceEq, Bool.or_false, Bool.or_true, Bool.and_false, Bool.false_or, Bool.and_self, Bool.false_and, Bool.not_false, Bool.not_true, List.any_cons, List.any_nil, atI_0, setI_0, atI_1, setI_1, atI_2, setI_2, atI_3, setI_3, atI_4, setI_4, atI_5, setI_5, atI_6, setI_6, tAsg, gName, tOp, tUn, tVar, tC, tCons, L2.tNil, tRet, tIfS, tTest, tCB, tCall, rI, rI0, rU, tNext, tB, tAnd, tOr, tNot, tAndV, tOrV, tNotV, tDrop, tIf, tPar, gSub, rIxL, rIxT, rEq, rNe, rSetL, tBits,
    L2.start, List.map_cons, List.map_nil, List.cons_append, List.nil_append, List.append_nil, List.length_cons, List.length_nil, List.replicate, Nat.reduceAdd, Nat.reduceSub, Nat.zero_add, List.getElem?_cons_zero, List.getElem?_cons_succ, List.set_cons_zero, List.set_cons_succ,
    Option.some.injEq, exists_eq_left', exists_eq_left, V.int.injEq, V.bl.injEq, V.ref.injEq, V.str.injEq, List.cons.injEq, reduceCtorEq, and_true, true_and, false_and, and_false, exists_false, or_false, false_or, or_true, true_or, exists_const, CMul, CDiv, CPow, and_assoc, exists_and_left, exists_and_right, Int.reducePow, Int.reduceNeg, Int.reduceLT, Int.reduceLE, Nat.reducePow, Nat.reduceLT, Int.reduceToNat, gt_iff_lt, ge_iff_le, decide_eq_true_eq, Bool.not_eq_true', decide_eq_false_iff_not, scal, ↓reduceIte, Bool.false_eq_true]
    have hd : (if 1 < (b.natAbs : Int) then (b.natAbs : Int) else 1) ≠ 0 ∧ (if 1 < (b.natAbs : Int) then (b.natAbs : Int) else 1).natAbs < 2 ^ 133 := by
      have hb' : b.natAbs < 2 ^ 133 := hb
      split <;> refine ⟨by omega, by omega⟩
    generalize (if 1 < (b.natAbs : Int) then (b.natAbs : Int) else 1) = d at hd ⊢
    refine ⟨_, _, rfl, by omega, fun q hq p H4 s4 o4 => ?_⟩
    have hI := hq.2 hd.1
    exact k p q H4 ⟨o4, hI.1, is_sz hd.1 hI ht hd.2⟩ (((kp.trans kp2).trans kp3).trans (Kp.same s4)) (st3.same s4)
  · refine ⟨s, _, rfl, st, by omega, by omega, fun t H2 t0 t1 kp2 st2 => ⟨s, 1000, rfl, st2, by omega, fun b H3 b0 b1 kp3 st3 => ?_⟩⟩
    simp only [cx_K, decide_true, decide_false, reduceCtorEq, gTp, gCons, gNil, ca_0, ca_1, ca_2, ca_3, ca_4, ca_5, ca_6, ca_7, ca_8, ca_9, ca_10, ca_11, ca_12, ca_13, ca_14, ca_15, ca_16, ca_17, ca_18, ca_19, ca_20, ca_21, ca_22, ca_23, ca_24, ca_25, ca_26, ca_27, ca_28, ca_29, ca_30, not_true_eq_false, not_false_eq_true, Int.reduceEq, Nat.reduceEqDiff, Nat.reduceLeDiff, rGcd, V.ty.injEq, eq_self, List.not_mem_nil, beq_self_eq_true, HO.lst.injEq, HO.tup.injEq, tFor_eq, iRng1, iList, iTup, nat10, tSeq, rIxA, rSetA, rIsN, rIsT, tTp, tLs, itsO_tup, itsO_lst, tyO_tup, tyO_lst, tyO_dK, tyN_non, tyN_bl, tyN_int, tyN_str, tyN_ref, tyNs_lt, isB, upd_same, upd_upd, sizeLine_eq, List.mem_cons, String.reduceBEq, String.reduceEq, Bool.or_false, Bool.or_true, Bool.and_false, Bool.false_or, Bool.and_self, Bool.false_and, Bool.not_false, Bool.not_true, List.any_cons, List.any_nil, atI_0, setI_0, atI_1, setI_1, atI_2, setI_2, atI_3, setI_3, atI_4, setI_4, atI_5, setI_5, atI_6, setI_6, tAsg, gName, tOp, tUn, tVar, tC, tCons, L2.tNil, tRet, tIfS, tTest, tCB, tCall, rI, rI0, rU, tNext, tB, tAnd, tOr, tNot, tAndV, tOrV, tNotV, tDrop, tIf, tPar, gSub, rIxL, rIxT, rEq, rNe, rSetL, tBits,
    L2.start, List.map_cons, List.map_nil, List.cons_append, List.nil_append, List.append_nil, List.length_cons, List.length_nil, List.replicate, Nat.reduceAdd, Nat.reduceSub, Nat.zero_add, List.getElem?_cons_zero, List.getElem?_cons_succ, List.set_cons_zero, List.set_cons_succ,
    Option.some.injEq, exists_eq_left', exists_eq_left, V.int.injEq, V.bl.injEq, V.ref.injEq, V.str.injEq, List.cons.injEq, reduceCtorEq, and_true, true_and, false_and, and_false, exists_false, or_false, false_or, or_true, true_or, exists_const, CMul, CDiv, CPow, and_assoc, exists_and_left, exists_and_right, Int.reducePow, Int.reduceNeg, Int.reduceLT, Int.reduceLE, Nat.reducePow, Nat.reduceLT, Int.reduceToNat, gt_iff_lt, ge_iff_le, decide_eq_true_eq, Bool.not_eq_true', decide_eq_false_iff_not, scal, ↓reduceIte, Bool.false_eq_true]
    refine ⟨_, _, rfl, by omega, fun q hq p H4 s4 o4 => ?_⟩
    have hI := hq.2 (show 1 + b ≠ 0 by omega)
    exact k p q H4 ⟨o4, hI.1, is_sz (by omega) hI (by omega) (by omega)⟩ (((kp.trans kp2).trans kp3).trans (Kp.same s4)) (st3.same s4)
  · exact ⟨s, rfl, st, fun a q H2 hq kp2 st2 => k a q H2 (hq.mono (by omega)) (kp.trans kp2) st2⟩
/-- the script, read alone -/
def spStore (K : PySem.W.Frag) : Sp := fun vs H Q _ => ∃ (a : Addr) (ns : List Int), vs = [.ref a] ∧ SqL K H a (ns.map V.int) ∧ ∀ s H', Same H H' → Sto K H' s → Q (.ref s) H'
def StoreI (a : Addr) (H : Hp) (_ : Nat) (σ : L2.St) (H' : Hp) : Prop := ∃ (v : Int) (y : Option V), σ = [some (.ref a), some (.int v), y] ∧ H' = H
abbrev sStore : Stmt := topS 29
theorem scStore : FnScope ["_law_script", "_law_seed", "_law_cell"] ["_law_script"] (defScope sStore) := ⟨rfl, rfl, rfl, by decide +kernel, rfl, by decide +kernel, by decide +kernel⟩
theorem k_Store (T : Bt K mg) (D : Dfn K mg "_law_store" sStore ["_law_script"]) : Kn P w K mg base 1 "_law_store" ["_law_script"] (spStore K) := by
  refine Kn.mk' D scStore (fun vs H Q E h => ?_) (fun f cdv A outer s H vs Q E hr h => ?_)
  · obtain ⟨a, ns, rfl, _⟩ := h
    rfl
  obtain ⟨a, ns, rfl, hS, k⟩ := h
  refine ⟨_, (pss_cons (ps_set (i := 1) scStore.nd rfl (.inl rfl) (pe_op op_add (pe_callB call_len_seq (by rfl) T.b_len PySem.boot_len (pa_cons (pv 0) pa_nil)) pe_int))
      (pss_cons (ps_for PassesOwn.never rfl (pi_list (pv 0)) (pg_name (i := 2) scStore.nd rfl (.inl rfl)) (pss_one (ps_set (i := 1) scStore.nd rfl (.inl rfl) (pe_op op_mod (pe_op op_add (pe_op op_add (pe_op op_mul (pv 1) pe_int) (pe_op op_mod (pe_callTy call_int1 (by rfl) T.b_int (by decide +kernel) (pa_cons (pv 2) pa_nil)) pe_int)) pe_int) pe_int))))
      (pss_one (ps_ret (pe_ls (pa_cons (pe_callTy call_listK (by rfl) T.b_list (by decide +kernel) (pa_cons (pv 0) pa_nil)) (pa_cons pe_int (pa_cons pe_int (pa_cons pe_int (pa_cons (pv 1) (pa_cons pe_int (pa_cons pe_int pa_nil)))))))))))), ?_⟩
  simp only [cx_K, decide_true, decide_false, reduceCtorEq, gTp, gCons, gNil, ca_0, ca_1, ca_2, ca_3, ca_4, ca_5, ca_6, ca_7, ca_8, ca_9, ca_10, ca_11, ca_12, ca_13, ca_14, ca_15, ca_16, ca_17, ca_18, ca_19, ca_20, ca_21, ca_22, ca_23, ca_24, ca_25, ca_26, ca_27, ca_28, ca_29, ca_30, not_true_eq_false, not_false_eq_true, Int.reduceEq, Nat.reduceEqDiff, Nat.reduceLeDiff, rGcd, V.ty.injEq, eq_self, List.not_mem_nil, beq_self_eq_true, HO.lst.injEq, HO.tup.injEq, tFor_eq, iRng1, iList, iTup, nat10, tSeq, rIxA, rSetA, rIsN, rIsT, tTp, tLs, itsO_tup, itsO_lst, tyO_tup, tyO_lst, tyO_dK, tyN_non, tyN_bl, tyN_int, tyN_str, tyN_ref, tyNs_lt, isB, upd_same, upd_upd, sizeLine_eq, List.mem_cons, String.reduceBEq, String.reduceEq, Bool.or_false, Bool.or_true, Bool.and_false, Bool.false_or, Bool.and_self, Bool.false_and, Bool.not_false, Bool.not_true, List.any_cons, List.any_nil, atI_0, setI_0, atI_1, setI_1, atI_2, setI_2, atI_3, setI_3, atI_4, setI_4, atI_5, setI_5, atI_6, setI_6, tAsg, gName, tOp, tUn, tVar, tC, tCons, L2.tNil, tRet, tIfS, tTest, tCB, tCall, rI, rI0, rU, tNext, tB, tAnd, tOr, tNot, tAndV, tOrV, tNotV, tDrop, tIf, tPar, gSub, rIxL, rIxT, rEq, rNe, rSetL, tBits,
    L2.start, List.map_cons, List.map_nil, List.cons_append, List.nil_append, List.append_nil, List.length_cons, List.length_nil, List.replicate, Nat.reduceAdd, Nat.reduceSub, Nat.zero_add, List.getElem?_cons_zero, List.getElem?_cons_succ, List.set_cons_zero, List.set_cons_succ,
    Option.some.injEq, exists_eq_left', exists_eq_left, V.int.injEq, V.bl.injEq, V.ref.injEq, V.str.injEq, List.cons.injEq, reduceCtorEq, and_true, true_and, false_and, and_false, exists_false, or_false, false_or, or_true, true_or, exists_const, CMul, CDiv, CPow, and_assoc, exists_and_left, exists_and_right, Int.reducePow, Int.reduceNeg, Int.reduceLT, Int.reduceLE, Nat.reducePow, Nat.reduceLT, Int.reduceToNat, gt_iff_lt, ge_iff_le, decide_eq_true_eq, Bool.not_eq_true', decide_eq_false_iff_not, scal, ↓reduceIte, Bool.false_eq_true]
  refine ⟨_, .inl hS, ⟨_, hS⟩, forI_list (xs := ns.map V.int) (StoreI a H) ⟨_, none, rfl, rfl⟩ ?_ ?_ ?_⟩
  · rintro i σ H' _ ⟨v, y, rfl, rfl⟩
    exact hS
  · rintro i x σ H' hi ⟨v, y, rfl, rfl⟩
    obtain ⟨z, rfl⟩ : ∃ z, x = V.int z := by
      rw [List.getElem?_map] at hi
      cases e : ns[i]? with
      | none => rw [e] at hi; cases hi
      | some z => rw [e] at hi; exact ⟨z, (Option.some.inj hi).symm⟩
    simp only [cx_K, decide_true, decide_false, reduceCtorEq, gTp, gCons, gNil, ca_0, ca_1, ca_2, ca_3, ca_4, ca_5, ca_6, ca_7, ca_8, ca_9, ca_10, ca_11, ca_12, ca_13, ca_14, ca_15, ca_16, ca_17, ca_18, ca_19, ca_20, ca_21, ca_22, ca_23, ca_24, ca_25, ca_26, ca_27, ca_28, ca_29, ca_30, not_true_eq_false, not_false_eq_true, Int.reduceEq, Nat.reduceEqDiff, Nat.reduceLeDiff, rGcd, V.ty.injEq, eq_self, List.not_mem_nil, beq_self_eq_true, HO.lst.injEq, HO.tup.injEq, tFor_eq, iRng1, iList, iTup, nat10, tSeq, rIxA, rSetA, rIsN, rIsT, tTp, tLs, itsO_tup, itsO_lst, tyO_tup, tyO_lst, tyO_dK, tyN_non, tyN_bl, tyN_int, tyN_str, tyN_ref, tyNs_lt, isB, upd_same, upd_upd, sizeLine_eq, List.mem_cons, String.reduceBEq, String.reduceEq, Bool.or_false, Bool.or_true, Bool.and_false, Bool.false_or, Bool.and_self, Bool.false_and, Bool.not_false, Bool.not_true, List.any_cons, List.any_nil, atI_0, setI_0, atI_1, setI_1, atI_2, setI_2, atI_3, setI_3, atI_4, setI_4, atI_5, setI_5, atI_6, setI_6, tAsg, gName, tOp, tUn, tVar, tC, tCons, L2.tNil, tRet, tIfS, tTest, tCB, tCall, rI, rI0, rU, tNext, tB, tAnd, tOr, tNot, tAndV, tOrV, tNotV, tDrop, tIf, tPar, gSub, rIxL, rIxT, rEq, rNe, rSetL, tBits,
    L2.start, List.map_cons, List.map_nil, List.cons_append, List.nil_append, List.append_nil, List.length_cons, List.length_nil, List.replicate, Nat.reduceAdd, Nat.reduceSub, Nat.zero_add, List.getElem?_cons_zero, List.getElem?_cons_succ, List.set_cons_zero, List.set_cons_succ,
    Option.some.injEq, exists_eq_left', exists_eq_left, V.int.injEq, V.bl.injEq, V.ref.injEq, V.str.injEq, List.cons.injEq, reduceCtorEq, and_true, true_and, false_and, and_false, exists_false, or_false, false_or, or_true, true_or, exists_const, CMul, CDiv, CPow, and_assoc, exists_and_left, exists_and_right, Int.reducePow, Int.reduceNeg, Int.reduceLT, Int.reduceLE, Nat.reducePow, Nat.reduceLT, Int.reduceToNat, gt_iff_lt, ge_iff_le, decide_eq_true_eq, Bool.not_eq_true', decide_eq_false_iff_not, scal, ↓reduceIte, Bool.false_eq_true]
    exact ⟨_, _, rfl, rfl⟩
  · rintro σ H' ⟨v, y, rfl, rfl⟩
    simp only [cx_K, decide_true, decide_false, reduceCtorEq, gTp, gCons, gNil, ca_0, ca_1, ca_2, ca_3, ca_4, ca_5, ca_6, ca_7, ca_8, ca_9, ca_10, ca_11, ca_12, ca_13, ca_14, ca_15, ca_16, ca_17, ca_18, ca_19, ca_20, ca_21, ca_22, ca_23, ca_24, ca_25, ca_26, ca_27, ca_28, ca_29, ca_30, not_true_eq_false, not_false_eq_true, Int.reduceEq, Nat.reduceEqDiff, Nat.reduceLeDiff, rGcd, V.ty.injEq, eq_self, List.not_mem_nil, beq_self_eq_true, HO.lst.injEq, HO.tup.injEq, tFor_eq, iRng1, iList, iTup, nat10, tSeq, rIxA, rSetA, rIsN, rIsT, tTp, tLs, itsO_tup, itsO_lst, tyO_tup, tyO_lst, tyO_dK, tyN_non, tyN_bl, tyN_int, tyN_str, tyN_ref, tyNs_lt, isB, upd_same, upd_upd, sizeLine_eq, List.mem_cons, String.reduceBEq, String.reduceEq, Bool.or_false, Bool.or_true, Bool.and_false, Bool.false_or, Bool.and_self, Bool.false_and, Bool.not_false, Bool.not_true, List.any_cons, List.any_nil, atI_0, setI_0, atI_1, setI_1, atI_2, setI_2, atI_3, setI_3, atI_4, setI_4, atI_5, setI_5, atI_6, setI_6, tAsg, gName, tOp, tUn, tVar, tC, tCons, L2.tNil, tRet, tIfS, tTest, tCB, tCall, rI, rI0, rU, tNext, tB, tAnd, tOr, tNot, tAndV, tOrV, tNotV, tDrop, tIf, tPar, gSub, rIxL, rIxT, rEq, rNe, rSetL, tBits,
    L2.start, List.map_cons, List.map_nil, List.cons_append, List.nil_append, List.append_nil, List.length_cons, List.length_nil, List.replicate, Nat.reduceAdd, Nat.reduceSub, Nat.zero_add, List.getElem?_cons_zero, List.getElem?_cons_succ, List.set_cons_zero, List.set_cons_succ,
    Option.some.injEq, exists_eq_left', exists_eq_left, V.int.injEq, V.bl.injEq, V.ref.injEq, V.str.injEq, List.cons.injEq, reduceCtorEq, and_true, true_and, false_and, and_false, exists_false, or_false, false_or, or_true, true_or, exists_const, CMul, CDiv, CPow, and_assoc, exists_and_left, exists_and_right, Int.reducePow, Int.reduceNeg, Int.reduceLT, Int.reduceLE, Nat.reducePow, Nat.reduceLT, Int.reduceToNat, gt_iff_lt, ge_iff_le, decide_eq_true_eq, Bool.not_eq_true', decide_eq_false_iff_not, scal, ↓reduceIte, Bool.false_eq_true]
    refine ⟨_, .inl hS, fun l hl kl => ?_⟩
    intro s hs ks
    have s1 := Same.new hl (.lst (ns.map V.int))
    have e1 : upd H' l (.lst (ns.map V.int)) l = some (.lst (ns.map V.int)) := upd_same
    have n1 : s ≠ l := by rintro rfl; rw [upd_same] at hs; cases hs
    exact k s _ (s1.trans (Same.new hs _)) ⟨l, ns, 0, 0, 0, v, 0, 0, upd_same, by rw [upd_ne (Ne.symm n1)]; exact e1, n1, Int.le_refl 0, ks, kl⟩
end
end My

namespace My
open PySem PySem.Spec PyProof.Rows L2
section
variable {P : Program} {w : World} {K : PySem.W.Frag} {mg : Str → Option Value} {base : Heap}
def scv : V → Bool
  | .non => true
  | .bl _ => true
  | .int _ => true
  | .str _ => true
  | _ => false
/-! ### what is no fraction -/
def fr2 : List V → Bool
  | [.int n, .int d] => decide (1 ≤ d) && decide (Int.gcd n d = 1)
  | _ => false
theorem frOk_tup {H : Hp} {a : Addr} {xs : List V} (o : ob K H a = some (.tup xs)) : frOk K H (.ref a) = fr2 xs := by
  simp only [frOk, o]
  unfold fr2
  split <;> simp_all
theorem tyN_same {H H' : Hp} {v : V} {t : String} (e : Same H H') (h : tyN K H v = some t) : tyN K H' v = some t := by
  cases v with
  | ref a =>
    have h1 : tyO (ob K H a) = some t := h
    show tyO (ob K H' a) = some t
    cases hz : ob K H a with
    | none => rw [hz] at h1; cases h1
    | some z => rw [ob_same e hz, ← hz]; exact h1
  | _ => exact h
theorem tyS_same {H H' : Hp} {v : V} (e : Same H H') (h : (tyN K H v).isSome) : (tyN K H' v).isSome := by
  obtain ⟨t, ht⟩ := Option.isSome_iff_exists.mp h
  rw [tyN_same e ht]
  rfl
theorem ob_back {H H' : Hp} {a : Addr} {z : HO} (e : Same H H') (h : (tyN K H (.ref a)).isSome) (o : ob K H' a = some z) : ob K H a = some z := by
  cases hz : ob K H a with
  | none =>
    rw [tyN_ref, hz] at h
    cases h
  | some y =>
    rw [← o, ob_same e hz]
structure Gd (K : PySem.W.Frag) (H : Hp) (v : V) : Prop where
  ty : Tyd K H v
  no : frOk K H v = false
theorem Gd.same {H H' : Hp} {v : V} (e : Same H H') (h : Gd K H v) : Gd K H' v := by
  refine ⟨⟨tyS_same e h.ty.1, fun a xs ev o x hx => ?_⟩, ?_⟩
  · subst ev
    exact tyS_same e (h.ty.2 a xs rfl (ob_back e h.ty.1 o) x hx)
  · cases v with
    | ref a =>
      cases hz : ob K H a with
      | none =>
        have := h.ty.1
        rw [tyN_ref, hz] at this
        cases this
      | some z =>
        have e2 : frOk K H' (.ref a) = frOk K H (.ref a) := by simp only [frOk, hz, ob_same e hz]
        rw [e2]
        exact h.no
    | _ => rfl
theorem gd_sc {H : Hp} {v : V} (h : scv v = true) : Gd K H v := by
  refine ⟨⟨?_, fun a xs e => ?_⟩, ?_⟩
  · cases v <;> first | rfl | cases h
  · subst e; cases h
  · cases v <;> first | rfl | cases h
theorem gd_tup {H : Hp} {a : Addr} {xs : List V} (o : ob K H a = some (.tup xs)) (hx : ∀ x ∈ xs, (tyN K H x).isSome) (f : fr2 xs = false) : Gd K H (.ref a) := by
  refine ⟨⟨by rw [tyN_ref, o]; rfl, fun b ys e o' => ?_⟩, by rw [frOk_tup o]; exact f⟩
  cases e
  rw [o] at o'
  cases o'
  exact hx
theorem gd_lst {H : Hp} {a : Addr} {xs : List V} (o : ob K H a = some (.lst xs)) : Gd K H (.ref a) := by
  refine ⟨⟨by rw [tyN_ref, o]; rfl, fun b ys e o' => ?_⟩, by simp only [frOk, o]⟩
  cases e
  rw [o] at o'
  cases o'
theorem gd_dict {H : Hp} {a : Addr} {xs : List (Key × V)} (o : ob K H a = some (.dK xs)) : Gd K H (.ref a) := by
  refine ⟨⟨by rw [tyN_ref, o]; rfl, fun b ys e o' => ?_⟩, by simp only [frOk, o]⟩
  cases e
  rw [o] at o'
  cases o'
/-! ### displays that only make -/
def Mk (R : Hp → V → Prop) (te : TE) : Prop := ∀ σ H Q, (∀ v H', Same H H' → R H' v → Q v H') → te σ H Q
def MkL (R : Hp → V → Prop) (n : Nat) (ta : TA) : Prop := ∀ σ H Q, (∀ vs H', Same H H' → vs.length = n → (∀ v ∈ vs, R H' v) → Q vs H') → ta σ H Q
theorem mkL_nil {R : Hp → V → Prop} : MkL R 0 L2.tNil := fun σ H Q k => k [] H (Same.refl H) rfl fun _ z => absurd z (by simp)
theorem mkL_cons {R : Hp → V → Prop} {n : Nat} {te : TE} {ta : TA} (mono : ∀ (H H' : Hp) (v : V), Same H H' → R H v → R H' v) (h1 : Mk R te) (h2 : MkL R n ta) : MkL R (n + 1) (tCons te ta) := fun σ H Q k =>
  h1 σ H _ fun v H1 s1 r1 => h2 σ H1 _ fun vs H2 s2 hn hr => k (v :: vs) H2 (s1.trans s2) (by rw [List.length_cons, hn]) fun x hx => by
    rcases List.mem_cons.mp hx with e | e
    · subst e; exact mono _ _ _ s2 r1
    · exact hr x e
theorem mk_c {v : V} (h : scv v = true) : Mk (Gd K) (tC v) := fun σ H Q k => k v H (Same.refl H) (gd_sc h)
theorem mk_tc {ta : TA} (xs : List V) (e : ∀ σ H Q, Q xs H → ta σ H Q) (hs : xs.all scv = true) (hf : fr2 xs = false) (hl : xs.length ≤ 100 := by decide) : Mk (Gd K) (tTp K ta) := fun σ H Q k => by
  refine e σ H _ ⟨by rw [sizeLine_eq]; omega, fun p hp kp => k _ _ (Same.new hp _) (gd_tup (ob_new kp) (fun x hx => ?_) hf)⟩
  exact (gd_sc (K := K) (H := upd H p (.tup xs)) (List.all_eq_true.mp hs x hx)).ty.1
theorem mk_ls {ta : TA} {n : Nat} {R : Hp → V → Prop} (h : MkL R n ta) (hl : n ≤ 100 := by decide) : Mk (Gd K) (tLs K ta) := fun σ H Q k =>
  h σ H _ fun vs H1 s1 hn _ => ⟨by rw [sizeLine_eq]; omega, fun p hp kp => k _ _ (s1.trans (Same.new hp _)) (gd_lst (ob_new kp))⟩
theorem mk_dn : Mk (Gd K) (tDn K) := fun σ H Q k p hp kp => k _ _ (Same.new hp _) (gd_dict (ob_new kp))
theorem mk_any {R : Hp → V → Prop} {te : TE} (h : Mk R te) : Mk (fun _ _ => True) te := fun σ H Q k => h σ H Q fun v H' s _ => k v H' s True.intro
theorem mk_tup {ta : TA} {n : Nat} {R : Hp → V → Prop} (h : MkL R n ta) (hl : n ≤ 100 := by decide) : Mk (fun _ _ => True) (tTp K ta) := fun σ H Q k =>
  h σ H _ fun vs H1 s1 hn _ => ⟨by rw [sizeLine_eq]; omega, fun p hp kp => k _ _ (s1.trans (Same.new hp _)) True.intro⟩
/-! the same where names are read -/
def MkA (σ : L2.St) (H0 : Hp) (R : Hp → V → Prop) (te : TE) : Prop := ∀ H, Same H0 H → ∀ Q, (∀ v H', Same H H' → R H' v → Q v H') → te σ H Q
def MkAL (σ : L2.St) (H0 : Hp) (R : Hp → V → Prop) (n : Nat) (ta : TA) : Prop := ∀ H, Same H0 H → ∀ Q, (∀ vs H', Same H H' → vs.length = n → (∀ v ∈ vs, R H' v) → Q vs H') → ta σ H Q
theorem mkA_nil {σ : L2.St} {H0 : Hp} {R : Hp → V → Prop} : MkAL σ H0 R 0 L2.tNil := fun H _ Q k => k [] H (Same.refl H) rfl fun _ z => absurd z (by simp)
theorem mkA_cons {σ : L2.St} {H0 : Hp} {R : Hp → V → Prop} {n : Nat} {te : TE} {ta : TA} (mono : ∀ (H H' : Hp) (v : V), Same H H' → R H v → R H' v) (h1 : MkA σ H0 R te) (h2 : MkAL σ H0 R n ta) : MkAL σ H0 R (n + 1) (tCons te ta) := fun H s Q k =>
  h1 H s _ fun v H1 s1 r1 => h2 H1 (s.trans s1) _ fun vs H2 s2 hn hr => k (v :: vs) H2 (s1.trans s2) (by rw [List.length_cons, hn]) fun x hx => by
    rcases List.mem_cons.mp hx with e | e
    · subst e; exact mono _ _ _ s2 r1
    · exact hr x e
theorem mkA_tc {σ : L2.St} {H0 : Hp} {ta : TA} (xs : List V) (e : ∀ H, Same H0 H → ∀ Q, Q xs H → ta σ H Q) (hs : ∀ x ∈ xs, (tyN K H0 x).isSome) (hf : fr2 xs = false) (hl : xs.length ≤ 100) : MkA σ H0 (Gd K) (tTp K ta) := fun H s Q k => by
  refine e H s _ ⟨by rw [sizeLine_eq]; omega, fun p hp kp => k _ _ (Same.new hp _) (gd_tup (ob_new kp) (fun x hx => ?_) hf)⟩
  exact tyS_same (s.trans (Same.new hp _)) (hs x hx)
theorem mkA_lc {σ : L2.St} {H0 : Hp} {ta : TA} (xs : List V) (e : ∀ H, Same H0 H → ∀ Q, Q xs H → ta σ H Q) (hl : xs.length ≤ 100) : MkA σ H0 (Gd K) (tLs K ta) := fun H s Q k => by
  exact e H s _ ⟨by rw [sizeLine_eq]; omega, fun p hp kp => k _ _ (Same.new hp _) (gd_lst (ob_new kp))⟩
theorem lsA {ta : TA} {n : Nat} {R : Hp → V → Prop} {σ : L2.St} {H : Hp} {Q : VK} (mono : ∀ (H H' : Hp) (v : V), Same H H' → R H v → R H' v) (h : MkAL σ H R n ta) (hl : n ≤ 100)
    (k : ∀ vs p H', Same H H' → H p = none → K.lookup p = none → vs.length = n → (∀ v ∈ vs, R H' v) → H' p = some (.lst vs) → Q (.ref p) H') : tLs K ta σ H Q :=
  h H (Same.refl H) _ fun vs H1 s1 hn hr => ⟨by rw [sizeLine_eq]; omega, fun p hp kp => k vs p _ (s1.trans (Same.new hp _)) (s1.free hp) kp hn (fun v hv => mono _ _ _ (Same.new hp _) (hr v hv)) upd_same⟩
/-! what is no fraction stays so while the draws go on -/
theorem ob_kp2 {H H' : Hp} {s a : Addr} {z : HO} (e : Kp s H H') (n : a ≠ s) (h : ob K H a = some z) : ob K H' a = some z := by
  unfold ob at h ⊢
  split
  · rename_i o q
    rw [q] at h
    exact h
  · rename_i q
    rw [q] at h
    exact e _ _ n h
theorem Sto.ob {H : Hp} {s : Addr} (h : Sto K H s) : ∃ ys, My.ob K H s = some (.lst ys) := by
  obtain ⟨sc, ns, i, b, c, d, e, f, h⟩ := h
  exact ⟨_, (ob_none h.2.2.2.2.1).trans h.1⟩
theorem tyS_kp {H H' : Hp} {s : Addr} {v : V} (e : Kp s H H') (t : Sto K H' s) (h : (tyN K H v).isSome) : (tyN K H' v).isSome := by
  cases v with
  | ref a =>
    by_cases ha : a = s
    · subst ha
      obtain ⟨ys, hy⟩ := t.ob
      rw [tyN_ref, hy]
      rfl
    · cases hz : ob K H a with
      | none => rw [tyN_ref, hz] at h; cases h
      | some z =>
        rw [tyN_ref, ob_kp2 e ha hz, ← hz]
        exact h
  | _ => exact h
theorem Gd.kp {H H' : Hp} {s : Addr} {v : V} (e : Kp s H H') (t : Sto K H' s) (h : Gd K H v) : Gd K H' v := by
  cases v with
  | ref a =>
    by_cases ha : a = s
    · subst ha
      obtain ⟨ys, hy⟩ := t.ob
      exact gd_lst hy
    · cases hz : ob K H a with
      | none =>
        have := h.ty.1
        rw [tyN_ref, hz] at this
        cases this
      | some z =>
        have hz' := ob_kp2 e ha hz
        refine ⟨⟨tyS_kp e t h.ty.1, fun b xs ev o x hx => ?_⟩, ?_⟩
        · cases ev
          rw [hz'] at o
          exact tyS_kp e t (h.ty.2 a xs rfl (hz.trans o) x hx)
        · have e2 : frOk K H' (.ref a) = frOk K H (.ref a) := by simp only [frOk, hz, hz']
          rw [e2]
          exact h.no
  | _ => exact ⟨⟨h.ty.1, fun _ _ e => by cases e⟩, h.no⟩
/-- a list display of such things -/
theorem lsX {ta : TA} {n : Nat} {R : Hp → V → Prop} {σ : L2.St} {H : Hp} {Q : VK} (mono : ∀ (H H' : Hp) (v : V), Same H H' → R H v → R H' v) (h : MkL R n ta) (hl : n ≤ 100)
    (k : ∀ vs p H', Same H H' → H p = none → K.lookup p = none → vs.length = n → (∀ v ∈ vs, R H' v) → H' p = some (.lst vs) → Q (.ref p) H') : tLs K ta σ H Q :=
  h σ H _ fun vs H1 s1 hn hr => ⟨by rw [sizeLine_eq]; omega, fun p hp kp => k vs p _ (s1.trans (Same.new hp _)) (s1.free hp) kp hn (fun v hv => mono _ _ _ (Same.new hp _) (hr v hv)) upd_same⟩
theorem fr2_mul {q : Qt} {k : Int} (hk : 2 ≤ k) : fr2 [.int (q.1 * k), .int (q.2 * k)] = false := by
  show (decide (1 ≤ q.2 * k) && decide (Int.gcd (q.1 * k) (q.2 * k) = 1)) = false
  rw [Int.gcd_mul_right]
  have : Int.gcd q.1 q.2 * k.natAbs ≠ 1 := fun e => by
    have := Nat.eq_one_of_mul_eq_one_left e
    omega
  rw [decide_eq_false this, Bool.and_false]
theorem fr2_neg {n d : Int} (h : d < 1) : fr2 [.int n, .int d] = false := by
  show (decide (1 ≤ d) && decide (Int.gcd n d = 1)) = false
  rw [decide_eq_false (by omega), Bool.false_and]
def spBadFrac (K : PySem.W.Frag) : Sp := fun vs H Q _ => ∃ s : Addr, vs = [.ref s] ∧ Sto K H s ∧ ∀ v H', Gd K H' v → Kp s H H' → Sto K H' s → Q v H'
abbrev sBadFrac : Stmt := topS 42
theorem scBadFrac : FnScope ["_law_store_here", "_law_value", "_law_more", "_law_bent", "_law_bad"] ["_law_store_here"] (defScope sBadFrac) := ⟨rfl, rfl, rfl, by decide +kernel, rfl, by decide +kernel, by decide +kernel⟩
theorem k_BadFrac (T : Bt K mg) (D : Dfn K mg "_law_bad_frac" sBadFrac ["_law_store_here"]) (d__law_take : Kn P w K mg base 2 "_law_take" ["_law_store_here", "_law_many"] (spTake K)) (d__law_frac : Kn P w K mg base 3 "_law_frac" ["_law_store_here"] (spDFrac K 10)) (d__law_pick : Kn P w K mg base 3 "_law_pick" ["_law_store_here", "_law_row"] (spPick K)) : Kn P w K mg base 4 "_law_bad_frac" ["_law_store_here"] (spBadFrac K) := by
  refine Kn.mk' D scBadFrac (fun vs H Q E h => ?_) (fun f cdv A outer s H vs Q E hr h => ?_)
  · obtain ⟨s, rfl, _⟩ := h
    rfl
  obtain ⟨s, rfl, hS, k⟩ := h
  refine ⟨_, (pss_cons (ps_if (pt_cmpR op_eq (pe_kn d__law_take hr (by rfl) (pa_cons (pv 0) (pa_cons pe_int pa_nil))) pe_int (nomark _)) (pss_cons (ps_set (i := 1) scBadFrac.nd rfl (.inl rfl) (pe_kn d__law_frac hr (by rfl) (pa_cons (pv 0) pa_nil)))
      (pss_cons (ps_set (i := 2) scBadFrac.nd rfl (.inl rfl) (pe_op op_add pe_int (pe_kn d__law_take hr (by rfl) (pa_cons (pv 0) (pa_cons pe_int pa_nil)))))
      (pss_cons (ps_set (i := 3) scBadFrac.nd rfl (.inl rfl) (pe_ls (pa_cons (pe_ls (pa_cons (pe_ix ix_any (pv 1) pe_int (fun _ _ => rfl)) (pa_cons (pe_ix ix_any (pv 1) pe_int (fun _ _ => rfl)) pa_nil))) (pa_cons (pe_tp (pa_cons (pe_op op_mulW (pe_ix ix_any (pv 1) pe_int (fun _ _ => rfl)) (pv 2)) (pa_cons (pe_op op_mulW (pe_ix ix_any (pv 1) pe_int (fun _ _ => rfl)) (pv 2)) pa_nil))) (pa_cons (pe_tp (pa_cons (pe_un un_neg (pe_ix ix_any (pv 1) pe_int (fun _ _ => rfl))) (pa_cons (pe_un un_neg (pe_ix ix_any (pv 1) pe_int (fun _ _ => rfl))) pa_nil))) pa_nil)))))
      (pss_one (ps_ret (pe_kn d__law_pick hr (by rfl) (pa_cons (pv 0) (pa_cons (pe_op op_cat (pv 3) (pe_ls (pa_cons (pe_tp (pa_cons (pe_ix ix_any (pv 1) pe_int (fun _ _ => rfl)) pa_nil)) (pa_cons (pe_tp (pa_cons (pe_ix ix_any (pv 1) pe_int (fun _ _ => rfl)) (pa_cons (pe_ix ix_any (pv 1) pe_int (fun _ _ => rfl)) (pa_cons pe_int pa_nil)))) (pa_cons (pe_tp (pa_cons (pv 1) (pa_cons (pv 1) pa_nil))) (pa_cons (pe_tp (pa_cons (pe_ix ix_any (pv 1) pe_int (fun _ _ => rfl)) (pa_cons pe_int pa_nil))) pa_nil)))))) pa_nil)))))))) pss_nil)
      (pss_cons (ps_set (i := 4) scBadFrac.nd rfl (.inl rfl) (pe_ls (pa_cons (pe_tp (pa_cons pe_int (pa_cons pe_int pa_nil))) (pa_cons (pe_tp (pa_cons pe_int (pa_cons pe_int pa_nil))) (pa_cons (pe_tp (pa_cons pe_int (pa_cons pe_int pa_nil))) (pa_cons (pe_tp (pa_cons pe_int (pa_cons pe_int pa_nil))) (pa_cons (pe_tp (pa_cons pe_int (pa_cons (pe_un un_neg pe_int) pa_nil))) (pa_cons (pe_tp (pa_cons pe_int (pa_cons (pe_un un_neg pe_int) pa_nil))) (pa_cons (pe_tp (pa_cons pe_bl (pa_cons pe_int pa_nil))) (pa_cons (pe_tp (pa_cons pe_bl (pa_cons pe_int pa_nil))) (pa_cons (pe_tp (pa_cons pe_int (pa_cons pe_bl pa_nil))) (pa_cons (pe_tp (pa_cons pe_bl (pa_cons pe_int pa_nil))) (pa_cons (pe_tp (pa_cons pe_int (pa_cons pe_non pa_nil))) pa_nil)))))))))))))
      (pss_cons (ps_set (i := 4) scBadFrac.nd rfl (.inl rfl) (pe_op op_cat (pv 4) (pe_ls (pa_cons (pe_tp (pa_cons pe_str (pa_cons pe_int pa_nil))) (pa_cons (pe_ls (pa_cons pe_int (pa_cons pe_int pa_nil))) (pa_cons (pe_tp pa_nil) (pa_cons (pe_tp (pa_cons pe_int pa_nil)) (pa_cons (pe_tp (pa_cons pe_int (pa_cons pe_int (pa_cons pe_int pa_nil)))) (pa_cons (pe_ls (pa_cons (pe_tp (pa_cons pe_int (pa_cons pe_int pa_nil))) pa_nil)) pa_nil)))))))))
      (pss_one (ps_ret (pe_kn d__law_pick hr (by rfl) (pa_cons (pv 0) (pa_cons (pe_op op_cat (pv 4) (pe_ls (pa_cons pe_int (pa_cons pe_int (pa_cons pe_bl (pa_cons pe_bl (pa_cons pe_non (pa_cons pe_str (pa_cons pe_str (pa_cons pe_dn pa_nil)))))))))) pa_nil)))))))), ?_⟩
  refine ⟨_, rfl, s, 3, rfl, hS, by omega, fun i H1 z0 z1 kp st => ⟨rfl, _, rfl, ite2 (fun h => ?_) (fun h => ?_)⟩⟩
  · refine ⟨_, rfl, s, rfl, st, fun a q H2 hq kp2 st2 => ⟨_, rfl, s, 3, rfl, st2, by omega, fun m H3 m0 m1 kp3 st3 => ⟨_, _, rfl, rfl, ?_⟩⟩⟩
    obtain ⟨ys2, hys2⟩ := st2.at
    have hq3 := hq.kp kp3 hys2
    simp only [cx_K, tNext, tSeq, tAsg, gName, L2.start, List.map_cons, List.map_nil, List.cons_append, List.nil_append, List.length_cons, List.length_nil, List.replicate, Nat.reduceAdd, Nat.reduceSub, List.set_cons_zero, List.set_cons_succ]
    have k10 : (2 + m).natAbs < 2 ^ 10 := by omega
    have ty3 : (tyN K H3 (.ref a)).isSome := by rw [tyN_ref, hq3.o]; rfl
    refine lsA (R := Gd K) (fun _ _ _ s h => Gd.same s h) (mkA_cons (R := Gd K) (fun _ _ _ s h => Gd.same s h) (mkA_lc [.int q.1, .int q.2] (fun H' s' Q' h' => by
        have o := ob_same s' hq3.o
        simp only [o, cx_K, decide_true, decide_false, reduceCtorEq, gTp, gCons, gNil, ca_0, ca_1, ca_2, ca_3, ca_4, ca_5, ca_6, ca_7, ca_8, ca_9, ca_10, ca_11, ca_12, ca_13, ca_14, ca_15, ca_16, ca_17, ca_18, ca_19, ca_20, ca_21, ca_22, ca_23, ca_24, ca_25, ca_26, ca_27, ca_28, ca_29, ca_30, not_true_eq_false, not_false_eq_true, Int.reduceEq, Nat.reduceEqDiff, Nat.reduceLeDiff, rGcd, V.ty.injEq, eq_self, List.not_mem_nil, beq_self_eq_true, HO.lst.injEq, HO.tup.injEq, tFor_eq, iRng1, iList, iTup, nat10, tSeq, rIxA, rSetA, rIsN, rIsT, tTp, tLs, itsO_tup, itsO_lst, tyO_tup, tyO_lst, tyO_dK, tyN_non, tyN_bl, tyN_int, tyN_str, tyN_ref, tyNs_lt, isB, upd_same, upd_upd, sizeLine_eq, List.mem_cons, String.reduceBEq, String.reduceEq, Bool.or_false, Bool.or_true, Bool.and_false, Bool.false_or, Bool.and_self, Bool.false_and, Bool.not_false, Bool.not_true, List.any_cons, List.any_nil, atI_0, setI_0, atI_1, setI_1, atI_2, setI_2, atI_3, setI_3, atI_4, setI_4, atI_5, setI_5, atI_6, setI_6, tAsg, gName, tOp, tUn, tVar, tC, tCons, L2.tNil, tRet, tIfS, tTest, tCB, tCall, rI, rI0, rU, tNext, tB, tAnd, tOr, tNot, tAndV, tOrV, tNotV, tDrop, tIf, tPar, gSub, rIxL, rIxT, rEq, rNe, rSetL, tBits,
    L2.start, List.map_cons, List.map_nil, List.cons_append, List.nil_append, List.append_nil, List.length_cons, List.length_nil, List.replicate, Nat.reduceAdd, Nat.reduceSub, Nat.zero_add, List.getElem?_cons_zero, List.getElem?_cons_succ, List.set_cons_zero, List.set_cons_succ,
    Option.some.injEq, exists_eq_left', exists_eq_left, V.int.injEq, V.bl.injEq, V.ref.injEq, V.str.injEq, List.cons.injEq, reduceCtorEq, and_true, true_and, false_and, and_false, exists_false, or_false, false_or, or_true, true_or, exists_const, CMul, CDiv, CPow, and_assoc, exists_and_left, exists_and_right, Int.reducePow, Int.reduceNeg, Int.reduceLT, Int.reduceLE, Nat.reducePow, Nat.reduceLT, Int.reduceToNat, gt_iff_lt, ge_iff_le, decide_eq_true_eq, Bool.not_eq_true', decide_eq_false_iff_not, scal, ↓reduceIte, Bool.false_eq_true]
        exact h') (by simp))
      (mkA_cons (R := Gd K) (fun _ _ _ s h => Gd.same s h) (mkA_tc [.int (q.1 * (2 + m)), .int (q.2 * (2 + m))] (fun H' s' Q' h' => by
        have o := ob_same s' hq3.o
        simp only [o, cx_K, decide_true, decide_false, reduceCtorEq, gTp, gCons, gNil, ca_0, ca_1, ca_2, ca_3, ca_4, ca_5, ca_6, ca_7, ca_8, ca_9, ca_10, ca_11, ca_12, ca_13, ca_14, ca_15, ca_16, ca_17, ca_18, ca_19, ca_20, ca_21, ca_22, ca_23, ca_24, ca_25, ca_26, ca_27, ca_28, ca_29, ca_30, not_true_eq_false, not_false_eq_true, Int.reduceEq, Nat.reduceEqDiff, Nat.reduceLeDiff, rGcd, V.ty.injEq, eq_self, List.not_mem_nil, beq_self_eq_true, HO.lst.injEq, HO.tup.injEq, tFor_eq, iRng1, iList, iTup, nat10, tSeq, rIxA, rSetA, rIsN, rIsT, tTp, tLs, itsO_tup, itsO_lst, tyO_tup, tyO_lst, tyO_dK, tyN_non, tyN_bl, tyN_int, tyN_str, tyN_ref, tyNs_lt, isB, upd_same, upd_upd, sizeLine_eq, List.mem_cons, String.reduceBEq, String.reduceEq, Bool.or_false, Bool.or_true, Bool.and_false, Bool.false_or, Bool.and_self, Bool.false_and, Bool.not_false, Bool.not_true, List.any_cons, List.any_nil, atI_0, setI_0, atI_1, setI_1, atI_2, setI_2, atI_3, setI_3, atI_4, setI_4, atI_5, setI_5, atI_6, setI_6, tAsg, gName, tOp, tUn, tVar, tC, tCons, L2.tNil, tRet, tIfS, tTest, tCB, tCall, rI, rI0, rU, tNext, tB, tAnd, tOr, tNot, tAndV, tOrV, tNotV, tDrop, tIf, tPar, gSub, rIxL, rIxT, rEq, rNe, rSetL, tBits,
    L2.start, List.map_cons, List.map_nil, List.cons_append, List.nil_append, List.append_nil, List.length_cons, List.length_nil, List.replicate, Nat.reduceAdd, Nat.reduceSub, Nat.zero_add, List.getElem?_cons_zero, List.getElem?_cons_succ, List.set_cons_zero, List.set_cons_succ,
    Option.some.injEq, exists_eq_left', exists_eq_left, V.int.injEq, V.bl.injEq, V.ref.injEq, V.str.injEq, List.cons.injEq, reduceCtorEq, and_true, true_and, false_and, and_false, exists_false, or_false, false_or, or_true, true_or, exists_const, CMul, CDiv, CPow, and_assoc, exists_and_left, exists_and_right, Int.reducePow, Int.reduceNeg, Int.reduceLT, Int.reduceLE, Nat.reducePow, Nat.reduceLT, Int.reduceToNat, gt_iff_lt, ge_iff_le, decide_eq_true_eq, Bool.not_eq_true', decide_eq_false_iff_not, scal, ↓reduceIte, Bool.false_eq_true]
        exact ⟨mulW hq3.sz.1 k10 (by omega), mulW hq3.sz.2 k10 (by omega), h'⟩) (by simp [tyN]) (fr2_mul (by omega)) (by simp))
      (mkA_cons (R := Gd K) (fun _ _ _ s h => Gd.same s h) (mkA_tc [.int (-q.1), .int (-q.2)] (fun H' s' Q' h' => by
        have o := ob_same s' hq3.o
        simp only [o, cx_K, decide_true, decide_false, reduceCtorEq, gTp, gCons, gNil, ca_0, ca_1, ca_2, ca_3, ca_4, ca_5, ca_6, ca_7, ca_8, ca_9, ca_10, ca_11, ca_12, ca_13, ca_14, ca_15, ca_16, ca_17, ca_18, ca_19, ca_20, ca_21, ca_22, ca_23, ca_24, ca_25, ca_26, ca_27, ca_28, ca_29, ca_30, not_true_eq_false, not_false_eq_true, Int.reduceEq, Nat.reduceEqDiff, Nat.reduceLeDiff, rGcd, V.ty.injEq, eq_self, List.not_mem_nil, beq_self_eq_true, HO.lst.injEq, HO.tup.injEq, tFor_eq, iRng1, iList, iTup, nat10, tSeq, rIxA, rSetA, rIsN, rIsT, tTp, tLs, itsO_tup, itsO_lst, tyO_tup, tyO_lst, tyO_dK, tyN_non, tyN_bl, tyN_int, tyN_str, tyN_ref, tyNs_lt, isB, upd_same, upd_upd, sizeLine_eq, List.mem_cons, String.reduceBEq, String.reduceEq, Bool.or_false, Bool.or_true, Bool.and_false, Bool.false_or, Bool.and_self, Bool.false_and, Bool.not_false, Bool.not_true, List.any_cons, List.any_nil, atI_0, setI_0, atI_1, setI_1, atI_2, setI_2, atI_3, setI_3, atI_4, setI_4, atI_5, setI_5, atI_6, setI_6, tAsg, gName, tOp, tUn, tVar, tC, tCons, L2.tNil, tRet, tIfS, tTest, tCB, tCall, rI, rI0, rU, tNext, tB, tAnd, tOr, tNot, tAndV, tOrV, tNotV, tDrop, tIf, tPar, gSub, rIxL, rIxT, rEq, rNe, rSetL, tBits,
    L2.start, List.map_cons, List.map_nil, List.cons_append, List.nil_append, List.append_nil, List.length_cons, List.length_nil, List.replicate, Nat.reduceAdd, Nat.reduceSub, Nat.zero_add, List.getElem?_cons_zero, List.getElem?_cons_succ, List.set_cons_zero, List.set_cons_succ,
    Option.some.injEq, exists_eq_left', exists_eq_left, V.int.injEq, V.bl.injEq, V.ref.injEq, V.str.injEq, List.cons.injEq, reduceCtorEq, and_true, true_and, false_and, and_false, exists_false, or_false, false_or, or_true, true_or, exists_const, CMul, CDiv, CPow, and_assoc, exists_and_left, exists_and_right, Int.reducePow, Int.reduceNeg, Int.reduceLT, Int.reduceLE, Nat.reducePow, Nat.reduceLT, Int.reduceToNat, gt_iff_lt, ge_iff_le, decide_eq_true_eq, Bool.not_eq_true', decide_eq_false_iff_not, scal, ↓reduceIte, Bool.false_eq_true]
        exact h') (by simp [tyN]) (fr2_neg (by have := hq3.nf.1; omega)) (by simp)) mkA_nil))) (by decide) fun vs p H4 s4 hp kp4 hn hv hl => ?_
    refine ⟨_, rfl, _, rfl, ?_⟩
    have hq4 := hq3.same s4
    refine lsA (R := Gd K) (fun _ _ _ s h => Gd.same s h) (mkA_cons (R := Gd K) (fun _ _ _ s h => Gd.same s h) (mkA_tc [.int q.1] (fun H' s' Q' h' => by
        have o := ob_same s' hq4.o
        simp only [o, cx_K, decide_true, decide_false, reduceCtorEq, gTp, gCons, gNil, ca_0, ca_1, ca_2, ca_3, ca_4, ca_5, ca_6, ca_7, ca_8, ca_9, ca_10, ca_11, ca_12, ca_13, ca_14, ca_15, ca_16, ca_17, ca_18, ca_19, ca_20, ca_21, ca_22, ca_23, ca_24, ca_25, ca_26, ca_27, ca_28, ca_29, ca_30, not_true_eq_false, not_false_eq_true, Int.reduceEq, Nat.reduceEqDiff, Nat.reduceLeDiff, rGcd, V.ty.injEq, eq_self, List.not_mem_nil, beq_self_eq_true, HO.lst.injEq, HO.tup.injEq, tFor_eq, iRng1, iList, iTup, nat10, tSeq, rIxA, rSetA, rIsN, rIsT, tTp, tLs, itsO_tup, itsO_lst, tyO_tup, tyO_lst, tyO_dK, tyN_non, tyN_bl, tyN_int, tyN_str, tyN_ref, tyNs_lt, isB, upd_same, upd_upd, sizeLine_eq, List.mem_cons, String.reduceBEq, String.reduceEq, Bool.or_false, Bool.or_true, Bool.and_false, Bool.false_or, Bool.and_self, Bool.false_and, Bool.not_false, Bool.not_true, List.any_cons, List.any_nil, atI_0, setI_0, atI_1, setI_1, atI_2, setI_2, atI_3, setI_3, atI_4, setI_4, atI_5, setI_5, atI_6, setI_6, tAsg, gName, tOp, tUn, tVar, tC, tCons, L2.tNil, tRet, tIfS, tTest, tCB, tCall, rI, rI0, rU, tNext, tB, tAnd, tOr, tNot, tAndV, tOrV, tNotV, tDrop, tIf, tPar, gSub, rIxL, rIxT, rEq, rNe, rSetL, tBits,
    L2.start, List.map_cons, List.map_nil, List.cons_append, List.nil_append, List.append_nil, List.length_cons, List.length_nil, List.replicate, Nat.reduceAdd, Nat.reduceSub, Nat.zero_add, List.getElem?_cons_zero, List.getElem?_cons_succ, List.set_cons_zero, List.set_cons_succ,
    Option.some.injEq, exists_eq_left', exists_eq_left, V.int.injEq, V.bl.injEq, V.ref.injEq, V.str.injEq, List.cons.injEq, reduceCtorEq, and_true, true_and, false_and, and_false, exists_false, or_false, false_or, or_true, true_or, exists_const, CMul, CDiv, CPow, and_assoc, exists_and_left, exists_and_right, Int.reducePow, Int.reduceNeg, Int.reduceLT, Int.reduceLE, Nat.reducePow, Nat.reduceLT, Int.reduceToNat, gt_iff_lt, ge_iff_le, decide_eq_true_eq, Bool.not_eq_true', decide_eq_false_iff_not, scal, ↓reduceIte, Bool.false_eq_true]
        exact h') (by simp [tyN]) rfl (by simp))
      (mkA_cons (R := Gd K) (fun _ _ _ s h => Gd.same s h) (mkA_tc [.int q.1, .int q.2, .int 1] (fun H' s' Q' h' => by
        have o := ob_same s' hq4.o
        simp only [o, cx_K, decide_true, decide_false, reduceCtorEq, gTp, gCons, gNil, ca_0, ca_1, ca_2, ca_3, ca_4, ca_5, ca_6, ca_7, ca_8, ca_9, ca_10, ca_11, ca_12, ca_13, ca_14, ca_15, ca_16, ca_17, ca_18, ca_19, ca_20, ca_21, ca_22, ca_23, ca_24, ca_25, ca_26, ca_27, ca_28, ca_29, ca_30, not_true_eq_false, not_false_eq_true, Int.reduceEq, Nat.reduceEqDiff, Nat.reduceLeDiff, rGcd, V.ty.injEq, eq_self, List.not_mem_nil, beq_self_eq_true, HO.lst.injEq, HO.tup.injEq, tFor_eq, iRng1, iList, iTup, nat10, tSeq, rIxA, rSetA, rIsN, rIsT, tTp, tLs, itsO_tup, itsO_lst, tyO_tup, tyO_lst, tyO_dK, tyN_non, tyN_bl, tyN_int, tyN_str, tyN_ref, tyNs_lt, isB, upd_same, upd_upd, sizeLine_eq, List.mem_cons, String.reduceBEq, String.reduceEq, Bool.or_false, Bool.or_true, Bool.and_false, Bool.false_or, Bool.and_self, Bool.false_and, Bool.not_false, Bool.not_true, List.any_cons, List.any_nil, atI_0, setI_0, atI_1, setI_1, atI_2, setI_2, atI_3, setI_3, atI_4, setI_4, atI_5, setI_5, atI_6, setI_6, tAsg, gName, tOp, tUn, tVar, tC, tCons, L2.tNil, tRet, tIfS, tTest, tCB, tCall, rI, rI0, rU, tNext, tB, tAnd, tOr, tNot, tAndV, tOrV, tNotV, tDrop, tIf, tPar, gSub, rIxL, rIxT, rEq, rNe, rSetL, tBits,
    L2.start, List.map_cons, List.map_nil, List.cons_append, List.nil_append, List.append_nil, List.length_cons, List.length_nil, List.replicate, Nat.reduceAdd, Nat.reduceSub, Nat.zero_add, List.getElem?_cons_zero, List.getElem?_cons_succ, List.set_cons_zero, List.set_cons_succ,
    Option.some.injEq, exists_eq_left', exists_eq_left, V.int.injEq, V.bl.injEq, V.ref.injEq, V.str.injEq, List.cons.injEq, reduceCtorEq, and_true, true_and, false_and, and_false, exists_false, or_false, false_or, or_true, true_or, exists_const, CMul, CDiv, CPow, and_assoc, exists_and_left, exists_and_right, Int.reducePow, Int.reduceNeg, Int.reduceLT, Int.reduceLE, Nat.reducePow, Nat.reduceLT, Int.reduceToNat, gt_iff_lt, ge_iff_le, decide_eq_true_eq, Bool.not_eq_true', decide_eq_false_iff_not, scal, ↓reduceIte, Bool.false_eq_true]
        exact h') (by simp [tyN]) rfl (by simp))
      (mkA_cons (R := Gd K) (fun _ _ _ s h => Gd.same s h) (mkA_tc [.ref a, .ref a] (fun H' s' Q' h' => ⟨_, rfl, _, rfl, h'⟩) (by
        have := tyS_same s4 ty3
        simpa using this) rfl (by simp))
      (mkA_cons (R := Gd K) (fun _ _ _ s h => Gd.same s h) (mkA_tc [.int q.1, .int 0] (fun H' s' Q' h' => by
        have o := ob_same s' hq4.o
        simp only [o, cx_K, decide_true, decide_false, reduceCtorEq, gTp, gCons, gNil, ca_0, ca_1, ca_2, ca_3, ca_4, ca_5, ca_6, ca_7, ca_8, ca_9, ca_10, ca_11, ca_12, ca_13, ca_14, ca_15, ca_16, ca_17, ca_18, ca_19, ca_20, ca_21, ca_22, ca_23, ca_24, ca_25, ca_26, ca_27, ca_28, ca_29, ca_30, not_true_eq_false, not_false_eq_true, Int.reduceEq, Nat.reduceEqDiff, Nat.reduceLeDiff, rGcd, V.ty.injEq, eq_self, List.not_mem_nil, beq_self_eq_true, HO.lst.injEq, HO.tup.injEq, tFor_eq, iRng1, iList, iTup, nat10, tSeq, rIxA, rSetA, rIsN, rIsT, tTp, tLs, itsO_tup, itsO_lst, tyO_tup, tyO_lst, tyO_dK, tyN_non, tyN_bl, tyN_int, tyN_str, tyN_ref, tyNs_lt, isB, upd_same, upd_upd, sizeLine_eq, List.mem_cons, String.reduceBEq, String.reduceEq, Bool.or_false, Bool.or_true, Bool.and_false, Bool.false_or, Bool.and_self, Bool.false_and, Bool.not_false, Bool.not_true, List.any_cons, List.any_nil, atI_0, setI_0, atI_1, setI_1, atI_2, setI_2, atI_3, setI_3, atI_4, setI_4, atI_5, setI_5, atI_6, setI_6, tAsg, gName, tOp, tUn, tVar, tC, tCons, L2.tNil, tRet, tIfS, tTest, tCB, tCall, rI, rI0, rU, tNext, tB, tAnd, tOr, tNot, tAndV, tOrV, tNotV, tDrop, tIf, tPar, gSub, rIxL, rIxT, rEq, rNe, rSetL, tBits,
    L2.start, List.map_cons, List.map_nil, List.cons_append, List.nil_append, List.append_nil, List.length_cons, List.length_nil, List.replicate, Nat.reduceAdd, Nat.reduceSub, Nat.zero_add, List.getElem?_cons_zero, List.getElem?_cons_succ, List.set_cons_zero, List.set_cons_succ,
    Option.some.injEq, exists_eq_left', exists_eq_left, V.int.injEq, V.bl.injEq, V.ref.injEq, V.str.injEq, List.cons.injEq, reduceCtorEq, and_true, true_and, false_and, and_false, exists_false, or_false, false_or, or_true, true_or, exists_const, CMul, CDiv, CPow, and_assoc, exists_and_left, exists_and_right, Int.reducePow, Int.reduceNeg, Int.reduceLT, Int.reduceLE, Nat.reducePow, Nat.reduceLT, Int.reduceToNat, gt_iff_lt, ge_iff_le, decide_eq_true_eq, Bool.not_eq_true', decide_eq_false_iff_not, scal, ↓reduceIte, Bool.false_eq_true]
        exact h') (by simp [tyN]) (fr2_neg (by omega)) (by simp)) mkA_nil)))) (by decide) fun ws p2 H5 s5 hp2 kp5 hn5 hv5 hl5 => ?_
    refine ⟨p, p2, vs, ws, rfl, rfl, s5 _ _ hl, hl5, by rw [hn, hn5, sizeLine_eq]; omega, fun p3 h3 => ?_⟩
    have s6 : Same H3 (upd H5 p3 (.lst (vs ++ ws))) := s4.trans (s5.trans (Same.new h3 _))
    have st6 := st3.same s6
    obtain ⟨ys, hys⟩ := (st3.same (s4.trans s5)).at
    refine ⟨s, p3, vs ++ ws, rfl, st6, upd_same, ne_of_none hys h3, by rw [List.length_append, hn, hn5]; omega, by rw [List.length_append, hn, hn5]; omega, fun v H' hm kp' st' => k v H' (Gd.kp kp' st' ?_) (kp.trans (kp2.trans (kp3.trans ((Kp.same s6).trans kp')))) st'⟩
    rw [List.mem_append] at hm
    rcases hm with hm | hm
    · exact (hv v hm).same (s5.trans (Same.new h3 _))
    · exact (hv5 v hm).same (Same.new h3 _)
  · simp only [cx_K, tNext, tSeq, tAsg, gName]
    refine lsX (R := Gd K) (fun _ _ _ s h => Gd.same s h) (mkL_cons (R := Gd K) (fun _ _ _ s h => Gd.same s h) (mk_tc (K := K) [.int (2), .int (4)] (fun σ H Q h => h) rfl rfl) (mkL_cons (R := Gd K) (fun _ _ _ s h => Gd.same s h) (mk_tc (K := K) [.int (0), .int (2)] (fun σ H Q h => h) rfl rfl) (mkL_cons (R := Gd K) (fun _ _ _ s h => Gd.same s h) (mk_tc (K := K) [.int (0), .int (0)] (fun σ H Q h => h) rfl rfl) (mkL_cons (R := Gd K) (fun _ _ _ s h => Gd.same s h) (mk_tc (K := K) [.int (1), .int (0)] (fun σ H Q h => h) rfl rfl) (mkL_cons (R := Gd K) (fun _ _ _ s h => Gd.same s h) (mk_tc (K := K) [.int (1), .int (-2)] (fun σ H Q h => ⟨2, rfl, h⟩) rfl rfl) (mkL_cons (R := Gd K) (fun _ _ _ s h => Gd.same s h) (mk_tc (K := K) [.int (0), .int (-1)] (fun σ H Q h => ⟨1, rfl, h⟩) rfl rfl) (mkL_cons (R := Gd K) (fun _ _ _ s h => Gd.same s h) (mk_tc (K := K) [.bl true, .int (1)] (fun σ H Q h => h) rfl rfl) (mkL_cons (R := Gd K) (fun _ _ _ s h => Gd.same s h) (mk_tc (K := K) [.bl false, .int (1)] (fun σ H Q h => h) rfl rfl) (mkL_cons (R := Gd K) (fun _ _ _ s h => Gd.same s h) (mk_tc (K := K) [.int (1), .bl true] (fun σ H Q h => h) rfl rfl) (mkL_cons (R := Gd K) (fun _ _ _ s h => Gd.same s h) (mk_tc (K := K) [.bl true, .int (2)] (fun σ H Q h => h) rfl rfl) (mkL_cons (R := Gd K) (fun _ _ _ s h => Gd.same s h) (mk_tc (K := K) [.int (1), .non] (fun σ H Q h => h) rfl rfl) mkL_nil))))))))))) (by decide) fun vs p H2 s2 hp kp2 hn hv hl => ?_
    simp only [tOp, tVar, L2.start, List.map_cons, List.map_nil, List.cons_append, List.nil_append, List.length_cons, List.length_nil, List.replicate, Nat.reduceAdd, Nat.reduceSub, List.set_cons_zero, List.set_cons_succ, List.getElem?_cons_zero, List.getElem?_cons_succ, Option.some.injEq, exists_eq_left']
    refine lsX (R := Gd K) (fun _ _ _ s h => Gd.same s h) (mkL_cons (R := Gd K) (fun _ _ _ s h => Gd.same s h) (mk_tc (K := K) [.str "1", .int (2)] (fun σ H Q h => h) rfl rfl) (mkL_cons (R := Gd K) (fun _ _ _ s h => Gd.same s h) (mk_ls (K := K) (mkL_cons (R := fun _ _ => True) (fun _ _ _ _ _ => True.intro) (mk_any (mk_c (K := K) rfl)) (mkL_cons (R := fun _ _ => True) (fun _ _ _ _ _ => True.intro) (mk_any (mk_c (K := K) rfl)) mkL_nil))) (mkL_cons (R := Gd K) (fun _ _ _ s h => Gd.same s h) (mk_tc (K := K) [] (fun σ H Q h => h) rfl rfl) (mkL_cons (R := Gd K) (fun _ _ _ s h => Gd.same s h) (mk_tc (K := K) [.int (1)] (fun σ H Q h => h) rfl rfl) (mkL_cons (R := Gd K) (fun _ _ _ s h => Gd.same s h) (mk_tc (K := K) [.int (1), .int (2), .int (1)] (fun σ H Q h => h) rfl rfl) (mkL_cons (R := Gd K) (fun _ _ _ s h => Gd.same s h) (mk_ls (K := K) (mkL_cons (R := fun _ _ => True) (fun _ _ _ _ _ => True.intro) (mk_tup (mkL_cons (R := fun _ _ => True) (fun _ _ _ _ _ => True.intro) (mk_any (mk_c (K := K) rfl)) (mkL_cons (R := fun _ _ => True) (fun _ _ _ _ _ => True.intro) (mk_any (mk_c (K := K) rfl)) mkL_nil))) mkL_nil)) mkL_nil)))))) (by decide) fun ws p' H3 s3 hp' kp3 hn' hv' hl' => ?_
    refine ⟨p, p', vs, ws, rfl, rfl, s3 _ _ hl, hl', by rw [hn, hn', sizeLine_eq]; omega, fun p3 h3 => ⟨_, rfl, _, rfl, ?_⟩⟩
    refine lsX (R := Gd K) (fun _ _ _ s h => Gd.same s h) (mkL_cons (R := Gd K) (fun _ _ _ s h => Gd.same s h) (mk_c (K := K) rfl) (mkL_cons (R := Gd K) (fun _ _ _ s h => Gd.same s h) (mk_c (K := K) rfl) (mkL_cons (R := Gd K) (fun _ _ _ s h => Gd.same s h) (mk_c (K := K) rfl) (mkL_cons (R := Gd K) (fun _ _ _ s h => Gd.same s h) (mk_c (K := K) rfl) (mkL_cons (R := Gd K) (fun _ _ _ s h => Gd.same s h) (mk_c (K := K) rfl) (mkL_cons (R := Gd K) (fun _ _ _ s h => Gd.same s h) (mk_c (K := K) rfl) (mkL_cons (R := Gd K) (fun _ _ _ s h => Gd.same s h) (mk_c (K := K) rfl) (mkL_cons (R := Gd K) (fun _ _ _ s h => Gd.same s h) (mk_dn (K := K)) mkL_nil)))))))) (by decide) fun us p4 H4 s4 hp4 kp4 hn4 hv4 hl4 => ?_
    refine ⟨p3, p4, vs ++ ws, us, rfl, rfl, s4 _ _ upd_same, hl4, by rw [List.length_append, hn, hn', hn4, sizeLine_eq]; omega, fun p5 h5 => ?_⟩
    have s5 : Same H1 (upd H4 p5 (.lst (vs ++ ws ++ us))) := s2.trans (s3.trans ((Same.new h3 _).trans (s4.trans (Same.new h5 _))))
    have st5 := st.same s5
    obtain ⟨ys, hys⟩ := (st.same (s2.trans (s3.trans ((Same.new h3 _).trans s4)))).at
    refine ⟨s, p5, vs ++ ws ++ us, rfl, st5, upd_same, ne_of_none hys h5, by rw [List.length_append, List.length_append, hn, hn', hn4]; omega, by rw [List.length_append, List.length_append, hn, hn', hn4]; omega, fun v H' hm kp' st' => k v H' (Gd.kp kp' st' ?_) (kp.trans ((Kp.same s5).trans kp')) st'⟩
    rw [List.mem_append, List.mem_append] at hm
    rcases hm with (hm | hm) | hm
    · exact (hv v hm).same (s3.trans ((Same.new h3 _).trans (s4.trans (Same.new h5 _))))
    · exact (hv' v hm).same ((Same.new h3 _).trans (s4.trans (Same.new h5 _)))
    · exact (hv4 v hm).same (Same.new h5 _)
end
end My

namespace My
open PySem PySem.Spec PyProof.Rows L2
section
variable {P : Program} {w : World} {K : PySem.W.Frag} {mg : Str → Option Value} {base : Heap}
/-! ### Euclid's division, and the chain of fractions that it gives -/
def Eu : Int → Int → List Int → Prop
  | _, y, [] => y = 0
  | x, y, t :: r => 0 < y ∧ t = x / y ∧ Eu y (x % y) r
theorem Eu.uni : ∀ {ts us : List Int} {x y : Int}, Eu x y ts → Eu x y us → ts = us
  | [], [], _, _, _, _ => rfl
  | [], u :: us, x, y, h, g => by
    have h1 : y = 0 := h
    have g1 : 0 < y := g.1
    omega
  | t :: ts, [], x, y, h, g => by
    have h1 : y = 0 := g
    have g1 : 0 < y := h.1
    omega
  | t :: ts, u :: us, x, y, h, g => by
    rw [h.2.1, g.2.1, Eu.uni h.2.2 g.2.2]
theorem Eu.nonneg {x y : Int} : ∀ {ts : List Int}, Eu x y ts → 0 ≤ y
  | [], h => by have h1 : y = 0 := h; omega
  | _ :: _, h => by have h1 : 0 < y := h.1; omega
theorem eu_ex : ∀ (k : Nat) (x y : Int), 0 ≤ y → y < 2 ^ k → ∃ ts, Eu x y ts ∧ ts.length ≤ 2 * k + 1
  | 0, x, y, h0, h1 => ⟨[], by show y = 0; omega, by simp⟩
  | k + 1, x, y, h0, h1 => by
    by_cases e : y = 0
    · exact ⟨[], e, by simp⟩
    have p1 : 0 < y := by omega
    have m0 := Int.emod_nonneg x e
    have m1 := Int.emod_lt_of_pos x p1
    by_cases e2 : x % y = 0
    · exact ⟨[x / y], ⟨p1, rfl, e2⟩, by show 1 ≤ _; omega⟩
    have p2 : 0 < x % y := by omega
    have n0 := Int.emod_nonneg y e2
    have n1 := Int.emod_lt_of_pos y p2
    have h2 : y % (x % y) < 2 ^ k := by
      have q1 : 1 ≤ y / (x % y) := Int.le_ediv_of_mul_le p2 (by omega)
      have q2 := Int.emod_add_mul_ediv y (x % y)
      have q3 : (x % y) * 1 ≤ (x % y) * (y / (x % y)) := Int.mul_le_mul_of_nonneg_left q1 (by omega)
      have q4 : (2 : Int) ^ (k + 1) = 2 ^ k * 2 := Int.pow_succ 2 k
      omega
    obtain ⟨ts, h3, h4⟩ := eu_ex k (x % y) (y % (x % y)) n0 h2
    exact ⟨x / y :: y / (x % y) :: ts, ⟨p1, rfl, p2, rfl, h3⟩, by simp only [List.length_cons]; omega⟩
def adv (b l : Qt) (t : Int) : Qt := (b.1 + t * l.1, b.2 + t * l.2)
def chn : Qt → Qt → List Int → List Qt
  | _, _, [] => []
  | b, l, t :: r => adv b l t :: chn l (adv b l t) r
def stp : Qt → Qt → List Int → Qt × Qt
  | b, l, [] => (b, l)
  | b, l, t :: r => stp l (adv b l t) r
theorem chn_app : ∀ (ts us : List Int) (b l : Qt), chn b l (ts ++ us) = chn b l ts ++ chn (stp b l ts).1 (stp b l ts).2 us
  | [], us, b, l => rfl
  | t :: ts, us, b, l => by
    show adv b l t :: chn l (adv b l t) (ts ++ us) = adv b l t :: (chn l (adv b l t) ts ++ _)
    rw [chn_app ts us]
    rfl
theorem stp_app : ∀ (ts us : List Int) (b l : Qt), stp b l (ts ++ us) = stp (stp b l ts).1 (stp b l ts).2 us
  | [], us, b, l => rfl
  | t :: ts, us, b, l => stp_app ts us l (adv b l t)
theorem chn_len : ∀ (ts : List Int) (b l : Qt), (chn b l ts).length = ts.length
  | [], _, _ => rfl
  | t :: ts, b, l => by
    show (chn l (adv b l t) ts).length + 1 = ts.length + 1
    rw [chn_len ts]
/-- what the steps keep: n / d over the pair x, y -/
structure Ci (n d : Int) (b l : Qt) (x y : Int) : Prop where
  e1 : n = l.1 * x + b.1 * y
  e2 : d = l.2 * x + b.2 * y
  det : l.1 * b.2 - l.2 * b.1 = 1 ∨ l.1 * b.2 - l.2 * b.1 = -1
  b0 : 0 ≤ b.2
  l0 : 0 ≤ l.2
theorem ci_start (n d : Int) : Ci n d (0, 1) (1, 0) n d := ⟨by omega, by omega, .inl (by decide), by decide, by decide⟩
theorem Ci.step {n d x y t : Int} {b l : Qt} (h : Ci n d b l x y) (ht : t = x / y) (t0 : 0 ≤ b.2 + t * l.2) : Ci n d l (adv b l t) y (x % y) := by
  have e := Int.emod_add_mul_ediv x y
  rw [← ht] at e
  have e1 := h.e1
  have e2 := h.e2
  refine ⟨?_, ?_, ?_, h.l0, t0⟩
  · show n = (b.1 + t * l.1) * y + l.1 * (x % y)
    have : x % y = x - y * t := by omega
    rw [this, e1]
    grind
  · show d = (b.2 + t * l.2) * y + l.2 * (x % y)
    have : x % y = x - y * t := by omega
    rw [this, e2]
    grind
  · show (b.1 + t * l.1) * l.2 - (b.2 + t * l.2) * l.1 = 1 ∨ (b.1 + t * l.1) * l.2 - (b.2 + t * l.2) * l.1 = -1
    have e3 : (b.1 + t * l.1) * l.2 - (b.2 + t * l.2) * l.1 = -(l.1 * b.2 - l.2 * b.1) := by grind
    rw [e3]
    rcases h.det with z | z <;> omega
theorem nf_det {b l : Qt} (h1 : 1 ≤ l.2) (h : l.1 * b.2 - l.2 * b.1 = 1 ∨ l.1 * b.2 - l.2 * b.1 = -1) : Nf l := by
  refine ⟨h1, ?_⟩
  have d1 : ((Int.gcd l.1 l.2 : Nat) : Int) ∣ l.1 := Int.gcd_dvd_left _ _
  have d2 : ((Int.gcd l.1 l.2 : Nat) : Int) ∣ l.2 := Int.gcd_dvd_right _ _
  have d3 : ((Int.gcd l.1 l.2 : Nat) : Int) ∣ l.1 * b.2 - l.2 * b.1 := Int.dvd_sub (Int.dvd_mul_of_dvd_left d1) (Int.dvd_mul_of_dvd_left d2)
  have d4 : ((Int.gcd l.1 l.2 : Nat) : Int) ∣ 1 := by
    rcases h with h | h
    · rwa [h] at d3
    · rw [h] at d3
      exact Int.dvd_neg.mp d3
  have := Int.le_of_dvd (by decide) d4
  have g0 : Int.gcd l.1 l.2 ≠ 0 := fun e => by
    have := (Int.gcd_eq_zero_iff.mp e).2
    omega
  omega

/-- where the denominators pass m -/
def npF (m : Int) : Qt → Qt → List Int → Qt × Qt
  | b, l, [] => (b, l)
  | b, l, t :: r => if m < (adv b l t).2 then (b, l) else npF m l (adv b l t) r
structure NpOk (n d m : Int) (b l : Qt) (x y : Int) : Prop where
  c : Ci n d b l x y
  y0 : 0 < y
  br : m < b.2 + x / y * l.2
  lm : l.2 ≤ m
  bm : b.2 ≤ m
  x0 : l.2 = 0 ∨ 0 ≤ x
theorem np_ok {n d m : Int} (hm : 1 ≤ m) (hg : Int.gcd n d = 1) (hd : m < d) : ∀ (ts : List Int) (b l : Qt) (x y : Int), Ci n d b l x y → Eu x y ts → l.2 ≤ m → b.2 ≤ m → (l.2 = 0 ∨ 0 ≤ x) → ∃ x' y', NpOk n d m (npF m b l ts).1 (npF m b l ts).2 x' y'
  | [], b, l, x, y, c, e, lm, bm, hx => by
    have y0 : y = 0 := e
    subst y0
    have e1 := c.e1
    have e2 := c.e2
    rw [Int.mul_zero, Int.add_zero] at e1 e2
    have xp : 0 < x := by
      rcases Int.lt_trichotomy x 0 with z | z | z
      · have := Int.mul_nonneg c.l0 (show 0 ≤ -x by omega)
        rw [Int.mul_neg] at this
        omega
      · rw [z, Int.mul_zero] at e2
        omega
      · exact z
    have x1 : x = 1 := by
      have d1 : x ∣ n := ⟨l.1, by rw [e1, Int.mul_comm]⟩
      have d2 : x ∣ d := ⟨l.2, by rw [e2, Int.mul_comm]⟩
      have d3 := Int.dvd_coe_gcd d1 d2
      rw [hg] at d3
      have := Int.le_of_dvd (by decide) d3
      omega
    rw [x1, Int.mul_one] at e2
    omega
  | t :: r, b, l, x, y, c, e, lm, bm, hx => by
    have y0 : 0 < y := e.1
    have ht : t = x / y := e.2.1
    have tl : 0 ≤ t * l.2 := by
      rcases hx with z | z
      · rw [z, Int.mul_zero]; omega
      · exact Int.mul_nonneg (by rw [ht]; exact Int.ediv_nonneg z (by omega)) c.l0
    unfold npF
    split
    · rename_i hb
      have hb' : m < b.2 + t * l.2 := hb
      exact ⟨x, y, c, y0, by rw [← ht]; exact hb', lm, bm, hx⟩
    · rename_i hb
      have hb' : ¬ m < b.2 + t * l.2 := hb
      exact np_ok hm hg hd r l (adv b l t) y (x % y) (c.step ht (by have := c.b0; omega)) e.2.2 (by show b.2 + t * l.2 ≤ m; omega) lm (.inr (by omega))
/-- what stands there: the last one that fits, and as many steps beside it as fit -/
structure NpAt (n d m : Int) (l o : Qt) (e A B : Int) : Prop where
  e1 : e = 1 ∨ e = -1
  l2 : 1 ≤ l.2
  o2 : 1 ≤ o.2
  lm : l.2 ≤ m
  om : o.2 ≤ m
  det : l.1 * o.2 - l.2 * o.1 = e
  sum : m < l.2 + o.2
  gl : n * l.2 - d * l.1 = -e * A
  go : n * o.2 - d * o.1 = e * B
  a0 : 0 < A
  b0 : 0 < B
  ad : A ≤ d
  bd : B ≤ d
theorem np_at {n d m x y : Int} {b l : Qt} (hm : 1 ≤ m) (h : NpOk n d m b l x y) : ∃ e, NpAt n d m l (adv b l ((m - b.2) / l.2)) e y (x - (m - b.2) / l.2 * y) := by
  obtain ⟨c, y0, br, lm, bm, hx⟩ := h
  have l1 : 1 ≤ l.2 := by
    have := c.l0
    rcases Int.lt_or_eq_of_le this with z | z
    · omega
    · rw [← z, Int.mul_zero] at br
      omega
  have x0 : 0 ≤ x := by omega
  generalize hk : (m - b.2) / l.2 = k at *
  have k0 : 0 ≤ k := by rw [← hk]; exact Int.ediv_nonneg (by omega) (by omega)
  have kd := Int.emod_add_mul_ediv (m - b.2) l.2
  rw [hk] at kd
  have km0 := Int.emod_nonneg (m - b.2) (show l.2 ≠ 0 by omega)
  have km1 := Int.emod_lt_of_pos (m - b.2) (show 0 < l.2 by omega)
  have ekl : l.2 * k = k * l.2 := Int.mul_comm _ _
  have kt : k < x / y := by
    rcases Int.lt_or_le k (x / y) with z | z
    · exact z
    · have := Int.mul_le_mul_of_nonneg_right z (show 0 ≤ l.2 by omega)
      omega
  have xy := Int.emod_add_mul_ediv x y
  have xm := Int.emod_nonneg x (show y ≠ 0 by omega)
  have xk : (k + 1) * y ≤ x / y * y := Int.mul_le_mul_of_nonneg_right (by omega) (by omega)
  have eyx : y * (x / y) = x / y * y := Int.mul_comm _ _
  have ekk : (k + 1) * y = k * y + y := by rw [Int.add_mul, Int.one_mul]
  have ky : 0 ≤ k * y := Int.mul_nonneg k0 (by omega)
  have xd : x ≤ d := by
    have e2 := c.e2
    have q1 : 1 * x ≤ l.2 * x := Int.mul_le_mul_of_nonneg_right l1 x0
    have q2 : 0 ≤ b.2 * y := Int.mul_nonneg c.b0 (by omega)
    omega
  refine ⟨l.1 * b.2 - l.2 * b.1, c.det, l1, ?_, lm, ?_, ?_, ?_, ?_, ?_, y0, by omega, by omega, by omega⟩
  · show 1 ≤ b.2 + k * l.2
    omega
  · show b.2 + k * l.2 ≤ m
    omega
  · show l.1 * (b.2 + k * l.2) - l.2 * (b.1 + k * l.1) = _
    grind
  · show m < l.2 + (b.2 + k * l.2)
    omega
  · rw [c.e1, c.e2]
    grind
  · rw [c.e1, c.e2]
    show _ * (b.2 + k * l.2) - _ * (b.1 + k * l.1) = _
    grind
/-- the nearer one; of two the one with the smaller denominator, of these the lower one -/
def lex (o l : Qt) : Bool := decide (o.2 < l.2) || (decide (o.2 = l.2) && decide (o.1 < l.1))
def nearF (n d : Int) (l o : Qt) : Qt :=
  if ((o.1 * d - n * o.2).natAbs : Int) * l.2 < ((l.1 * d - n * l.2).natAbs : Int) * o.2 ∨ (((o.1 * d - n * o.2).natAbs : Int) * l.2 = ((l.1 * d - n * l.2).natAbs : Int) * o.2 ∧ lex o l = true) then o else l
theorem near_eq {n d m A B e : Int} {l o : Qt} (h : NpAt n d m l o e A B) : nearF n d l o = if B * l.2 < A * o.2 ∨ (B * l.2 = A * o.2 ∧ lex o l = true) then o else l := by
  have a : ((l.1 * d - n * l.2).natAbs : Int) = A := by
    have := h.gl
    have := h.a0
    have e3 : l.1 * d = d * l.1 := Int.mul_comm _ _
    rcases h.e1 with z | z <;> subst z <;> omega
  have b : ((o.1 * d - n * o.2).natAbs : Int) = B := by
    have := h.go
    have := h.b0
    have e3 : o.1 * d = d * o.1 := Int.mul_comm _ _
    rcases h.e1 with z | z <;> subst z <;> omega
  unfold nearF
  rw [a, b]
theorem NpAt.lt {n d m A B e : Int} {l o : Qt} (h : NpAt n d m l o e A B) : l.1 * o.2 < o.1 * l.2 ↔ e = -1 := by
  have := h.det
  have e3 : o.1 * l.2 = l.2 * o.1 := Int.mul_comm _ _
  rcases h.e1 with z | z <;> subst z <;> constructor <;> intro q <;> omega
theorem NpAt.lexN {n d m A B : Int} {l o : Qt} (h : NpAt n d m l o (-1) A B) : lex o l = decide (o.2 < l.2) := by
  unfold lex
  by_cases z : o.2 = l.2
  · have q : ¬ o.1 < l.1 := by
      intro q
      have d := h.det
      rw [z] at d
      have l2 := h.l2
      have : l.2 * (l.1 - o.1) = -1 := by rw [Int.mul_sub, Int.mul_comm l.2 l.1]; exact d
      have := Int.mul_pos (show 0 < l.2 by omega) (show 0 < l.1 - o.1 by omega)
      omega
    simp [q]
  · simp [z]
theorem NpAt.lexP {n d m A B : Int} {l o : Qt} (h : NpAt n d m l o 1 A B) : lex o l = !decide (l.2 < o.2) := by
  unfold lex
  rcases Int.lt_trichotomy o.2 l.2 with z | z | z
  · rw [decide_eq_true z, decide_eq_false (show ¬ l.2 < o.2 by omega)]
    rfl
  · have q : o.1 < l.1 := by
      have d := h.det
      rw [z] at d
      have l2 := h.l2
      have e3 : l.2 * (l.1 - o.1) = 1 := by rw [Int.mul_sub, Int.mul_comm l.2 l.1]; exact d
      rcases Int.lt_or_le o.1 l.1 with w | w
      · exact w
      · have := Int.mul_nonneg (show 0 ≤ l.2 by omega) (show 0 ≤ o.1 - l.1 by omega)
        have e4 : l.2 * (o.1 - l.1) = -(l.2 * (l.1 - o.1)) := by grind
        omega
    rw [decide_eq_true z, decide_eq_true q, decide_eq_false (show ¬ l.2 < o.2 by omega)]
    simp
  · rw [decide_eq_false (show ¬ o.2 < l.2 by omega), decide_eq_false (show ¬ o.2 = l.2 by omega), decide_eq_true z]
    rfl
theorem Ci.szl {n d x y : Int} {b l : Qt} {N : Nat} (c : Ci n d b l x y) (d1 : 1 ≤ d) (y0 : 0 ≤ y) (yx : y < x) (l1 : 1 ≤ l.2) (hn : n.natAbs < 2 ^ N) (hd : d.natAbs < 2 ^ N) : Sz (N + 1) l := by
  have e1 := c.e1
  have e2 := c.e2
  have b0 := c.b0
  have p1 := Int.mul_nonneg b0 y0
  have p2 : l.2 * 1 ≤ l.2 * x := Int.mul_le_mul_of_nonneg_left (by omega) (by omega)
  have p3 : 1 * x ≤ l.2 * x := Int.mul_le_mul_of_nonneg_right l1 (by omega)
  have q : l.1 * d = l.2 * n + y * (l.1 * b.2 - l.2 * b.1) := by rw [e1, e2]; grind
  have ld : l.2 ≤ d := by omega
  have yd : y ≤ d := by omega
  have pw := Nat.pow_succ (n := 2) (m := N)
  refine ⟨?_, by omega⟩
  have key : l.1.natAbs ≤ n.natAbs + 1 := by
    have b1 : l.2 * n ≤ d * (n.natAbs : Int) := by
      have a1 : l.2 * n ≤ l.2 * (n.natAbs : Int) := Int.mul_le_mul_of_nonneg_left (by omega) (by omega)
      have a2 : l.2 * (n.natAbs : Int) ≤ d * (n.natAbs : Int) := Int.mul_le_mul_of_nonneg_right ld (by omega)
      omega
    have b2 : -(d * (n.natAbs : Int)) ≤ l.2 * n := by
      have a1 : l.2 * (-(n.natAbs : Int)) ≤ l.2 * n := Int.mul_le_mul_of_nonneg_left (by omega) (by omega)
      have a2 : l.2 * (n.natAbs : Int) ≤ d * (n.natAbs : Int) := Int.mul_le_mul_of_nonneg_right ld (by omega)
      rw [Int.mul_neg] at a1
      omega
    have dd : d * ((n.natAbs : Int) + 1) = d * (n.natAbs : Int) + d := by rw [Int.mul_add, Int.mul_one]
    have up : d * l.1 ≤ d * ((n.natAbs : Int) + 1) := by
      rw [Int.mul_comm d l.1, q, dd]
      rcases c.det with z | z <;> rw [z] <;> omega
    have dn : d * (-((n.natAbs : Int) + 1)) ≤ d * l.1 := by
      rw [Int.mul_comm d l.1, q, Int.mul_neg, dd]
      rcases c.det with z | z <;> rw [z] <;> omega
    have u := Int.le_of_mul_le_mul_left up (by omega)
    have w := Int.le_of_mul_le_mul_left dn (by omega)
    omega
  omega
theorem stp_ci {n d : Int} : ∀ (ts : List Int) (b l : Qt) (x y : Int), Ci n d b l x y → Eu x y ts → 0 ≤ y → y < x → 1 ≤ l.2 → ∀ i ≤ ts.length, ∃ x' y', Ci n d (stp b l (ts.take i)).1 (stp b l (ts.take i)).2 x' y' ∧ 0 ≤ y' ∧ y' < x' ∧ 1 ≤ (stp b l (ts.take i)).2.2 ∧ Eu x' y' (ts.drop i)
  | ts, b, l, x, y, c, e, y0, yx, l1, 0, _ => ⟨x, y, c, y0, yx, l1, e⟩
  | [], b, l, x, y, c, e, y0, yx, l1, i + 1, hi => by simp at hi
  | t :: r, b, l, x, y, c, e, y0, yx, l1, i + 1, hi => by
    have p : 0 < y := e.1
    have ht : t = x / y := e.2.1
    have t1 : 1 ≤ t := by rw [ht]; exact Int.le_ediv_of_mul_le p (by omega)
    have b0 := c.b0
    have q : 1 * 1 ≤ t * l.2 := Int.mul_le_mul t1 l1 (by omega) (by omega)
    have c' := c.step ht (by omega)
    exact stp_ci r l (adv b l t) y (x % y) c' e.2.2 (Int.emod_nonneg x (by omega)) (Int.emod_lt_of_pos x p) (by show 1 ≤ b.2 + t * l.2; omega) i (by simpa using hi)
theorem eu_ci {n d : Int} {ts : List Int} (he : Eu n d ts) (d1 : 1 ≤ d) : ∀ i, 1 ≤ i → i ≤ ts.length → ∃ x' y', Ci n d (stp (0, 1) (1, 0) (ts.take i)).1 (stp (0, 1) (1, 0) (ts.take i)).2 x' y' ∧ 0 ≤ y' ∧ y' < x' ∧ 1 ≤ (stp (0, 1) (1, 0) (ts.take i)).2.2 ∧ Eu x' y' (ts.drop i) := fun i h1 hi => by
  match ts, i, he, h1, hi with
  | [], i, _, h1, hi => simp at hi; omega
  | t :: r, i + 1, he, _, hi =>
    have ht : t = n / d := he.2.1
    have c' := (ci_start n d).step ht (by show 0 ≤ (1 : Int) + t * 0; omega)
    exact stp_ci r (1, 0) (adv (0, 1) (1, 0) t) d (n % d) c' he.2.2 (Int.emod_nonneg n (by omega)) (Int.emod_lt_of_pos n (by omega)) (by show 1 ≤ (1 : Int) + t * 0; omega) i (by simpa using hi)
theorem conv_szl {n d : Int} {N : Nat} {ts : List Int} (he : Eu n d ts) (d1 : 1 ≤ d) (hn : n.natAbs < 2 ^ N) (hd : d.natAbs < 2 ^ N) (i : Nat) (hi : i ≤ ts.length) : Sz (N + 1) (stp (0, 1) (1, 0) (ts.take i)).2 := by
  match i with
  | 0 => 
    have pw := Nat.pow_succ (n := 2) (m := N)
    have : 0 < 2 ^ N := Nat.pow_pos (by decide)
    exact ⟨by show (1 : Int).natAbs < _; omega, by show (0 : Int).natAbs < _; omega⟩
  | i + 1 =>
    obtain ⟨x, y, c, y0, yx, l1, _⟩ := eu_ci he d1 (i + 1) (by omega) hi
    exact c.szl d1 y0 yx l1 hn hd
theorem conv_szb {n d : Int} {N : Nat} {ts : List Int} (he : Eu n d ts) (d1 : 1 ≤ d) (hn : n.natAbs < 2 ^ N) (hd : d.natAbs < 2 ^ N) (i : Nat) (hi : i ≤ ts.length) : Sz (N + 1) (stp (0, 1) (1, 0) (ts.take i)).1 := by
  match i with
  | 0 => 
    have pw := Nat.pow_succ (n := 2) (m := N)
    have : 0 < 2 ^ N := Nat.pow_pos (by decide)
    exact ⟨by show (0 : Int).natAbs < _; omega, by show (1 : Int).natAbs < _; omega⟩
  | i + 1 =>
    have hl : i < ts.length := by omega
    have e : (stp (0, 1) (1, 0) (ts.take (i + 1))).1 = (stp (0, 1) (1, 0) (ts.take i)).2 := by
      rw [List.take_add_one, List.getElem?_eq_getElem hl, stp_app]
      rfl
    rw [e]
    exact conv_szl he d1 hn hd i (by omega)
theorem nf_int (w : Int) : Nf (w, 1) := ⟨by show (1 : Int) ≤ 1; omega, by show Int.gcd w 1 = 1; exact Int.gcd_one_right _⟩
theorem sz_of {x y : Int} {k : Nat} (h1 : x.natAbs < 2 ^ k) (h2 : y.natAbs < 2 ^ k) : Sz k (x, y) := ⟨h1, h2⟩
theorem itsO_of {H : Hp} {a : Addr} {xs : List V} (h : ob K H a = some (.tup xs)) : itsO (ob K H a) = some xs := by rw [h]; rfl
theorem itsO_ofL {H : Hp} {a : Addr} {xs : List V} (h : ob K H a = some (.lst xs)) : itsO (ob K H a) = some xs := by rw [h]; rfl
theorem sz2 {n : Nat} (h : n ≤ 100) : n ≤ sizeLine := by rw [sizeLine_eq]; omega
theorem Fq.kps {H H' : Hp} {n : Nat} {a s : Addr} {q : Qt} (h : Fq K H n a q) (e : Kp s H H') (st : Sto K H s) : Fq K H' n a q := by
  obtain ⟨ys, hy⟩ := st.at
  exact h.kp e hy
theorem ob_kps {H H' : Hp} {a s : Addr} {xs : List V} (h : ob K H a = some (.tup xs)) (e : Kp s H H') (st : Sto K H s) : ob K H' a = some (.tup xs) := by
  obtain ⟨ys, hy⟩ := st.at
  exact ob_kp e hy (fun _ z => by cases z) h
theorem if_no {c : Bool} {A B : Prop} (e : c = false) (h : B) : if c = true then A else B := by
  rw [e, if_neg Bool.noConfusion]
  exact h
theorem if_yes {c : Bool} {A B : Prop} (e : c = true) (h : A) : if c = true then A else B := by
  rw [e, if_pos rfl]
  exact h
end
/-- divmod by any number above 0 of a bounded size -/
theorem call_divmodK {X : Cx} : CallR X (.builtin "divmod") (fun xs H Q => ∃ i j, xs = [.int i, .int j] ∧ (0 < j ∧ j.natAbs < 2 ^ 8000) ∧ ∀ p, H p = none → X.K.lookup p = none → Q (.ref p) (upd H p (.tup [.int (i / j), .int (i % j)]))) := by
  intro pins s σ H xs us Q I r h
  obtain ⟨i, j, rfl, ⟨h1, h2⟩, q⟩ := h
  obtain ⟨u, w', rfl, ⟨t, rfl⟩, ⟨t', rfl⟩⟩ := vals2 r
  refine divmod_int (by omega) ?_ (.inl (PyProof.noPylong_of_log2 (Nat.lt_of_lt_of_le (PySem.Flt.log2_lt_of (by omega) h2) (by omega))))
  rw [Int.fdiv_eq_ediv_of_nonneg i (by omega), Int.fmod_eq_emod_of_nonneg i (by omega)]
  have hn : H s.heap.objs.size = none := I.hok.fresh (Nat.le_refl _)
  refine ⟨.ref s.heap.objs.size, _, ?_, rfl, q _ hn (new_K I)⟩
  refine I.laid (fun b o e => Heap.get?_push_of_some _ e) (Nat.le_refl _) ⟨by simp only [List.length_cons, List.length_nil]; rw [sizeLine_eq]; decide, [.int (i / j) s.toks, .int (i % j) (s.toks + 1)], .cons ⟨_, rfl⟩ (.cons ⟨_, rfl⟩ .nil), ?_⟩
  exact ⟨_, Heap.get?_push_size s.heap rfl, rfl, 0, rfl⟩
section
variable {P : Program} {w : World} {K : PySem.W.Frag} {mg : Str → Option Value} {base : Heap}
def spQuots (K : PySem.W.Frag) : Sp := fun vs H Q _ => ∃ (a : Addr) (v : Qt), vs = [.ref a] ∧ Fq K H 3100 a v ∧ ∀ ts l H', Eu v.1 v.2 ts → ts.length ≤ 6201 → Same H H' → H l = none → H' l = some (.lst (ts.map V.int)) → K.lookup l = none → Q (.ref l) H'
def QuoW (a l : Addr) (v : Qt) (H : Hp) (σ : L2.St) (H' : Hp) : Prop := ∃ (ds : List Int) (x y : Int) (t4 t5 : Option V), σ = [some (.ref a), some (.ref l), some (.int x), some (.int y), t4, t5] ∧ H' l = some (.lst (ds.map V.int)) ∧ Same H H' ∧ 0 ≤ y ∧ y ≤ v.2 ∧ ∀ r, Eu x y r → Eu v.1 v.2 (ds ++ r)
def QuoM (σ : L2.St) (_ : Hp) : Nat := match σ with
  | [_, _, _, some (.int y), _, _] => y.toNat
  | _ => 0
theorem quo_len {v : Qt} (n : Nf v) (s : Sz 3100 v) {ts : List Int} (h : Eu v.1 v.2 ts) : ts.length ≤ 6201 := by
  have z := s.2
  have n1 := n.1
  obtain ⟨us, h1, h2⟩ := eu_ex 3100 v.1 v.2 (by omega) (by omega)
  rw [h.uni h1]
  exact h2
abbrev sQuots : Stmt := topS 22
theorem scQuots : FnScope ["value", "terms", "numerator", "denominator", "term", "rest"] ["value"] (defScope sQuots) := ⟨rfl, rfl, rfl, by decide +kernel, rfl, by decide +kernel, by decide +kernel⟩
theorem k_Quots (zD : mg "divmod" = none) (T : Bt K mg) (D : Dfn K mg "quotients" sQuots ["value"]) (d_require : Kn P w K mg base 1 "require" ["well_formed", "what"] spRequire) (d_is_fraction : Kn P w K mg base 2 "is_fraction" ["value"] (spIsFraction K)) : Kn P w K mg base 3 "quotients" ["value"] (spQuots K) := by
  refine Kn.mk' D scQuots (fun vs H Q E h => ?_) (fun f cdv A outer s H vs Q E hr h => ?_)
  · obtain ⟨a, v, rfl, _⟩ := h
    rfl
  obtain ⟨a, v, rfl, hv, k⟩ := h
  refine ⟨_, (pss_cons (ps_expr (pe_kn d_require hr (by rfl) (pa_cons (pe_kn d_is_fraction hr (by rfl) (pa_cons (pv 0) pa_nil)) (pa_cons pe_str pa_nil))))
      (pss_cons (ps_set (i := 1) scQuots.nd rfl (.inl rfl) (pe_ls pa_nil))
      (pss_cons (ps_asg (pv 0) (pg_tp 2 (by rfl) (pgs_cons (pg_name (i := 2) scQuots.nd rfl (.inl rfl)) (pgs_cons (pg_name (i := 3) scQuots.nd rfl (.inl rfl)) pgs_nil))))
      (pss_cons (ps_while PassesOwn.never (pt_cmpR op_ne (pv 3) pe_int (nomark _)) (pss_cons (ps_asg (pe_callB call_divmodK (by rfl) zD (by decide +kernel) (pa_cons (pv 2) (pa_cons (pv 3) pa_nil))) (pg_tp 2 (by rfl) (pgs_cons (pg_name (i := 4) scQuots.nd rfl (.inl rfl)) (pgs_cons (pg_name (i := 5) scQuots.nd rfl (.inl rfl)) pgs_nil))))
      (pss_cons (ps_expr (pe_bm PySem.F.plainAttrs_list PySem.F.slot_list_append PySem.F.type_list_append mt_append (pv 1) (pa_cons (pv 4) pa_nil)))
      (pss_one (ps_par (i := 2) (j := 3) (by rfl) scQuots.nd rfl rfl (by decide) rfl rfl (pa_cons (pv 3) (pa_cons (pv 5) pa_nil)) (by rfl))))))
      (pss_one (ps_ret (pv 1))))))), ?_⟩
  refine ⟨_, rfl, _, rfl, Tyd.fr hv.o, _, by rw [frOk_fr hv.o hv.nf]; rfl, ?_⟩
  refine ⟨sz2 (by show 0 ≤ 100; decide), fun l hl kl => ?_⟩
  have sl := Same.new hl (.lst [])
  refine ⟨_, rfl, a, rfl, _, ob_same sl hv.o, rfl, _, _, rfl, _, _, rfl, rfl, ?_⟩
  refine while_by (QuoW a l v H) QuoM ⟨[], v.1, v.2, none, none, rfl, upd_same, sl, by have := hv.nf.1; omega, Int.le_refl _, fun r h => h⟩ ?_ ?_
  · rintro σ H' ⟨ds, x, y, t4, t5, rfl, hl', s', y0, yv, he⟩
    refine ⟨_, rfl, rfl, _, rfl, ?_⟩
    refine ite2 (fun h => ?_) (fun h => ?_)
    · have y1 : 0 < y := by
        rcases Int.lt_or_eq_of_le y0 with z | z
        · exact z
        · rw [← z] at h
          simp at h
      have zz := hv.sz.2
      have dl : ds.length ≤ 6201 := by
        obtain ⟨r, h1, h2⟩ := eu_ex 3100 x y y0 (by omega)
        have := quo_len hv.nf hv.sz (he r h1)
        rw [List.length_append] at this
        omega
      refine ⟨_, rfl, _, rfl, _, _, rfl, ⟨y1, Nat.lt_of_lt_of_le (show y.natAbs < 2 ^ 3100 by omega) (Nat.pow_le_pow_right (by omega) (by omega))⟩, fun p hp kp => ⟨p, rfl, _, ob_new kp, rfl, _, _, rfl, _, _, rfl, rfl, ?_⟩⟩
      have sp := Same.new hp (.tup [.int (x / y), .int (x % y)])
      refine ⟨_, rfl, .inl ⟨rfl, _, .of (sp _ _ hl')⟩, _, rfl, l, _, _, rfl, rfl, sp _ _ hl', by rw [List.length_map, sizeLine_eq]; omega, ?_⟩
      refine ⟨_, rfl, _, rfl, _, _, rfl, ⟨ds ++ [x / y], y, x % y, _, _, rfl, ?_, fun b o e => ?_, Int.emod_nonneg _ (by omega), ?_, fun r hr => ?_⟩, ?_⟩
      · rw [upd_same, List.map_append]
        rfl
      · rw [upd_ne (ne_of_none e hl)]
        exact sp _ _ (s' _ _ e)
      · have := Int.emod_lt_of_pos x y1
        omega
      · rw [List.append_assoc]
        exact he _ ⟨y1, rfl, hr⟩
      · show (x % y).toNat < y.toNat
        have := Int.emod_lt_of_pos x y1
        omega
    · have y1 : y = 0 := by
        by_cases z : y = 0
        · exact z
        · simp [z] at h
      subst y1
      have e := he [] rfl
      rw [List.append_nil] at e
      exact ⟨_, rfl, k ds l H' e (quo_len hv.nf hv.sz e) s' hl hl' kl⟩
  · rintro σ H' Q' Q2 hq ⟨v, e, h1, k, ek, h⟩
    exact ⟨v, e, h1, k, ek, hq _ _ h⟩
end
end My

namespace My
open PySem PySem.Spec PyProof.Rows L2
section
variable {P : Program} {w : World} {K : PySem.W.Frag} {mg : Str → Option Value} {base : Heap}
/-- two ints at a, of a bounded size -/
structure Tq (K : PySem.W.Frag) (H : Hp) (k : Nat) (a : Addr) (q : Qt) : Prop where
  o : ob K H a = some (.tup [.int q.1, .int q.2])
  sz : Sz k q
theorem Tq.same {H H' : Hp} {k : Nat} {a : Addr} {q : Qt} (h : Tq K H k a q) (s : Same H H') : Tq K H' k a q := ⟨ob_same s h.o, h.sz⟩
theorem Tq.mono {H : Hp} {j k : Nat} {a : Addr} {q : Qt} (h : Tq K H j a q) (l : j ≤ k) : Tq K H k a q := ⟨h.o, h.sz.mono l⟩
theorem adv_sz {b l : Qt} {t : Int} {i j k : Nat} (hb : Sz i b) (hl : Sz j l) (ht : t.natAbs < 2 ^ k) (m : Nat) (h1 : i + 1 ≤ m) (h2 : j + k + 1 ≤ m) : Sz m (adv b l t) :=
  ⟨szAdd hb.1 (szMul ht hl.1) h1 (by omega), szAdd hb.2 (szMul ht hl.2) h1 (by omega)⟩
def spAdv (K : PySem.W.Frag) : Sp := fun vs H Q _ => ∃ (a c : Addr) (b l : Qt) (t : Int) (i j k : Nat), vs = [.ref a, .ref c, .int t] ∧ Tq K H i a b ∧ Tq K H j c l ∧ t.natAbs < 2 ^ k ∧ j + k ≤ 890000 ∧ ∀ p H', H p = none → Same H H' → ob K H' p = some (frt (adv b l t)) → K.lookup p = none → Q (.ref p) H'
abbrev sAdv : Stmt := topS 26
theorem scAdv : FnScope ["before", "last", "steps"] ["before", "last", "steps"] (defScope sAdv) := ⟨rfl, rfl, rfl, by decide +kernel, rfl, by decide +kernel, by decide +kernel⟩
theorem k_Adv (T : Bt K mg) (D : Dfn K mg "_advanced" sAdv ["before", "last", "steps"]) : Kn P w K mg base 1 "_advanced" ["before", "last", "steps"] (spAdv K) := by
  refine Kn.mk' D scAdv (fun vs H Q E h => ?_) (fun f cdv A outer s H vs Q E hr h => ?_)
  · obtain ⟨a, c, b, l, t, i, j, n, rfl, _⟩ := h
    rfl
  obtain ⟨a, c, b, l, t, i, j, n, rfl, ha, hc, ht, hj, k⟩ := h
  refine ⟨_, (pss_one (ps_ret (pe_tp (pa_cons (pe_op op_add (pe_ix ix_any (pv 0) pe_int (fun _ _ => rfl)) (pe_op op_mulW (pv 2) (pe_ix ix_any (pv 1) pe_int (fun _ _ => rfl)))) (pa_cons (pe_op op_add (pe_ix ix_any (pv 0) pe_int (fun _ _ => rfl)) (pe_op op_mulW (pv 2) (pe_ix ix_any (pv 1) pe_int (fun _ _ => rfl)))) pa_nil))))), ?_⟩
  simp only [ha.o, hc.o, cx_K, decide_true, decide_false, reduceCtorEq, gTp, gCons, gNil, ca_0, ca_1, ca_2, ca_3, ca_4, ca_5, ca_6, ca_7, ca_8, ca_9, ca_10, ca_11, ca_12, ca_13, ca_14, ca_15, ca_16, ca_17, ca_18, ca_19, ca_20, ca_21, ca_22, ca_23, ca_24, ca_25, ca_26, ca_27, ca_28, ca_29, ca_30, not_true_eq_false, not_false_eq_true, Int.reduceEq, Nat.reduceEqDiff, Nat.reduceLeDiff, rGcd, V.ty.injEq, eq_self, List.not_mem_nil, beq_self_eq_true, HO.lst.injEq, HO.tup.injEq, tFor_eq, iRng1, iList, iTup, nat10, tSeq, rIxA, rSetA, rIsN, rIsT, tTp, tLs, itsO_tup, itsO_lst, tyO_tup, tyO_lst, tyO_dK, tyN_non, tyN_bl, tyN_int, tyN_str, tyN_ref, tyNs_lt, isB, upd_same, upd_upd, sizeLine_eq, List.mem_cons, String.reduceBEq, String.reduceEq, Bool.or_false, Bool.or_true, Bool.and_false, Bool.false_or, Bool.and_self, Bool.false_and, Bool.not_false, Bool.not_true, List.any_cons, List.any_nil, atI_0, setI_0, atI_1, setI_1, atI_2, setI_2, atI_3, setI_3, atI_4, setI_4, atI_5, setI_5, atI_6, setI_6, tAsg, gName, tOp, tUn, tVar, tC, tCons, L2.tNil, tRet, tIfS, tTest, tCB, tCall, rI, rI0, rU, tNext, tB, tAnd, tOr, tNot, tAndV, tOrV, tNotV, tDrop, tIf, tPar, gSub, rIxL, rIxT, rEq, rNe, rSetL, tBits,
    L2.start, List.map_cons, List.map_nil, List.cons_append, List.nil_append, List.append_nil, List.length_cons, List.length_nil, List.replicate, Nat.reduceAdd, Nat.reduceSub, Nat.zero_add, List.getElem?_cons_zero, List.getElem?_cons_succ, List.set_cons_zero, List.set_cons_succ,
    Option.some.injEq, exists_eq_left', exists_eq_left, V.int.injEq, V.bl.injEq, V.ref.injEq, V.str.injEq, List.cons.injEq, reduceCtorEq, and_true, true_and, false_and, and_false, exists_false, or_false, false_or, or_true, true_or, exists_const, CMul, CDiv, CPow, and_assoc, exists_and_left, exists_and_right, Int.reducePow, Int.reduceNeg, Int.reduceLT, Int.reduceLE, Nat.reducePow, Nat.reduceLT, Int.reduceToNat, gt_iff_lt, ge_iff_le, decide_eq_true_eq, Bool.not_eq_true', decide_eq_false_iff_not, scal, ↓reduceIte, Bool.false_eq_true]
  exact ⟨mulW ht hc.sz.1 (by omega), mulW ht hc.sz.2 (by omega), fun p hp kp => k p _ hp (Same.new hp _) (ob_new kp) kp⟩
/-- the sizes of the first quotients' pair -/
theorem stp_sz {k : Nat} : ∀ (ts : List Int) (b l : Qt) (n : Nat), (∀ t ∈ ts, t.natAbs < 2 ^ k) → Sz n b → Sz n l → Sz (n + (k + 1) * ts.length) (stp b l ts).1 ∧ Sz (n + (k + 1) * ts.length) (stp b l ts).2
  | [], b, l, n, _, hb, hl => ⟨hb.mono (by omega), hl.mono (by omega)⟩
  | t :: ts, b, l, n, h, hb, hl => by
    have e := stp_sz ts l (adv b l t) (n + (k + 1)) (fun x hx => h x (List.mem_cons_of_mem _ hx)) (hl.mono (by omega)) (adv_sz hb hl (h t List.mem_cons_self) _ (by omega) (by omega))
    have el : n + (k + 1) * (t :: ts).length = n + (k + 1) + (k + 1) * ts.length := by
      rw [List.length_cons, Nat.mul_add]
      omega
    rw [el]
    exact e
theorem eu_sz {k : Nat} : ∀ {ts : List Int} {x y : Int}, Eu x y ts → x.natAbs < 2 ^ k → y.natAbs < 2 ^ k → ∀ t ∈ ts, t.natAbs < 2 ^ (k + 1)
  | [], _, _, _, _, _, t, ht => absurd ht (by simp)
  | u :: ts, x, y, h, hx, hy, t, ht => by
    have e : 2 ^ (k + 1) = 2 ^ k * 2 := Nat.pow_succ 2 k
    rcases List.mem_cons.mp ht with z | z
    · have y0 := h.1
      have q := Int.emod_add_mul_ediv x y
      have m0 := Int.emod_nonneg x (show y ≠ 0 by omega)
      have m1 := Int.emod_lt_of_pos x y0
      rw [z, h.2.1]
      have d := Int.natAbs_ediv_le_natAbs x y
      omega
    · have m0 := Int.emod_nonneg x (show y ≠ 0 by have := h.1; omega)
      have m1 := Int.emod_lt_of_pos x h.1
      exact eu_sz h.2.2 hy (by omega) t z
/-- a list of fractions told as tuples -/
def Rws (K : PySem.W.Frag) (H : Hp) : List V → List Qt → Prop := fun xs qs => xs.length = qs.length ∧ ∀ (i : Nat) x q, xs[i]? = some x → qs[i]? = some q → ∃ a, x = .ref a ∧ ob K H a = some (frt q)
theorem Rws.same {H H' : Hp} {xs : List V} {qs : List Qt} (h : Rws K H xs qs) (s : Same H H') : Rws K H' xs qs := ⟨h.1, fun i x q hx hq => by
  obtain ⟨a, e, o⟩ := h.2 i x q hx hq
  exact ⟨a, e, ob_same s o⟩⟩
theorem Rws.app {H : Hp} {xs : List V} {qs : List Qt} {a : Addr} {q : Qt} (h : Rws K H xs qs) (o : ob K H a = some (frt q)) : Rws K H (xs ++ [.ref a]) (qs ++ [q]) := by
  refine ⟨by simp [h.1], fun i x r hx hr => ?_⟩
  by_cases hi : i < xs.length
  · rw [List.getElem?_append_left hi] at hx
    rw [List.getElem?_append_left (by rw [← h.1]; exact hi)] at hr
    exact h.2 i x r hx hr
  · have hi2 : i = xs.length := by
      have := (List.getElem?_eq_some_iff.mp hx).1
      rw [List.length_append] at this
      simp at this
      omega
    subst hi2
    rw [List.getElem?_append_right (Nat.le_refl _), Nat.sub_self] at hx
    rw [h.1, List.getElem?_append_right (Nat.le_refl _), Nat.sub_self] at hr
    cases hx
    cases hr
    exact ⟨a, rfl, o⟩
theorem ob_putL {H : Hp} {c a : Addr} {ys : List V} {o : HO} {xs : List V} (hc : H c = some (.lst ys)) (h : ob K H a = some (.tup xs)) : ob K (upd H c o) a = some (.tup xs) := by
  unfold ob at h ⊢
  split
  · rename_i z hz
    rw [hz] at h
    exact h
  · rename_i hz
    rw [hz] at h
    rw [upd_ne (by rintro rfl; rw [hc] at h; cases h)]
    exact h
theorem Rws.putL {H : Hp} {c : Addr} {ys : List V} {o : HO} {xs : List V} {qs : List Qt} (h : Rws K H xs qs) (hc : H c = some (.lst ys)) : Rws K (upd H c o) xs qs := ⟨h.1, fun i x q hx hq => by
  obtain ⟨a, e, z⟩ := h.2 i x q hx hq
  exact ⟨a, e, ob_putL hc z⟩⟩
theorem Tq.putL {H : Hp} {c : Addr} {ys : List V} {o : HO} {k : Nat} {a : Addr} {q : Qt} (h : Tq K H k a q) (hc : H c = some (.lst ys)) : Tq K (upd H c o) k a q := ⟨ob_putL hc h.o, h.sz⟩
def spConv (K : PySem.W.Frag) : Sp := fun vs H Q _ => ∃ (a : Addr) (v : Qt), vs = [.ref a] ∧ Fq K H 3100 a v ∧ ∀ ts l xs H', Eu v.1 v.2 ts → ts.length ≤ 6201 → Same H H' → H l = none → H' l = some (.lst xs) → K.lookup l = none → Rws K H' xs (chn (0, 1) (1, 0) ts) → Q (.ref l) H'
def ConvI (K : PySem.W.Frag) (a f : Addr) (tl : Addr) (ts : List Int) (H H1 : Hp) (i : Nat) (σ : L2.St) (H' : Hp) : Prop := ∃ (b l : Addr) (xs : List V) (x4 : Option V), σ = [some (.ref a), some (.ref f), some (.ref b), some (.ref l), x4] ∧ H' f = some (.lst xs) ∧ Rws K H' xs (chn (0, 1) (1, 0) (ts.take i)) ∧
  Tq K H' 3101 b (stp (0, 1) (1, 0) (ts.take i)).1 ∧ Tq K H' 3101 l (stp (0, 1) (1, 0) (ts.take i)).2 ∧ Same H H' ∧ H' tl = some (.lst (ts.map V.int)) ∧ xs.length ≤ i
abbrev sConv : Stmt := topS 24
theorem scConv : FnScope ["value", "found", "before", "last", "term"] ["value"] (defScope sConv) := ⟨rfl, rfl, rfl, by decide +kernel, rfl, by decide +kernel, by decide +kernel⟩
theorem k_Conv (T : Bt K mg) (D : Dfn K mg "convergents" sConv ["value"]) (d_require : Kn P w K mg base 1 "require" ["well_formed", "what"] spRequire) (d_is_fraction : Kn P w K mg base 2 "is_fraction" ["value"] (spIsFraction K)) (d_quotients : Kn P w K mg base 3 "quotients" ["value"] (spQuots K)) (d__advanced : Kn P w K mg base 1 "_advanced" ["before", "last", "steps"] (spAdv K)) : Kn P w K mg base 4 "convergents" ["value"] (spConv K) := by
  refine Kn.mk' D scConv (fun vs H Q E h => ?_) (fun f cdv A outer s H vs Q E hr h => ?_)
  · obtain ⟨a, v, rfl, _⟩ := h
    rfl
  obtain ⟨a, v, rfl, hv, k⟩ := h
  refine ⟨_, (pss_cons (ps_expr (pe_kn d_require hr (by rfl) (pa_cons (pe_kn d_is_fraction hr (by rfl) (pa_cons (pv 0) pa_nil)) (pa_cons pe_str pa_nil))))
      (pss_cons (ps_set (i := 1) scConv.nd rfl (.inl rfl) (pe_ls pa_nil))
      (pss_cons (ps_asg (pe_tp (pa_cons (pe_tp (pa_cons pe_int (pa_cons pe_int pa_nil))) (pa_cons (pe_tp (pa_cons pe_int (pa_cons pe_int pa_nil))) pa_nil))) (pg_tp 2 (by rfl) (pgs_cons (pg_name (i := 2) scConv.nd rfl (.inl rfl)) (pgs_cons (pg_name (i := 3) scConv.nd rfl (.inl rfl)) pgs_nil))))
      (pss_cons (ps_for PassesOwn.never rfl (pi_list (pe_kn d_quotients hr (by rfl) (pa_cons (pv 0) pa_nil))) (pg_name (i := 4) scConv.nd rfl (.inl rfl)) (pss_cons (ps_par (i := 2) (j := 3) (by rfl) scConv.nd rfl rfl (by decide) rfl rfl (pa_cons (pv 3) (pa_cons (pe_kn d__advanced hr (by rfl) (pa_cons (pv 2) (pa_cons (pv 3) (pa_cons (pv 4) pa_nil)))) pa_nil)) (by rfl))
      (pss_one (ps_expr (pe_bm PySem.F.plainAttrs_list PySem.F.slot_list_append PySem.F.type_list_append mt_append (pv 1) (pa_cons (pv 3) pa_nil))))))
      (pss_one (ps_ret (pv 1))))))), ?_⟩
  refine ⟨_, rfl, _, rfl, Tyd.fr hv.o, _, by rw [frOk_fr hv.o hv.nf]; rfl, ?_⟩
  refine ⟨sz2 (by show 0 ≤ 100; decide), fun f hf kf => ?_⟩
  have sf := Same.new hf (.lst [])
  refine ⟨sz2 (by show 2 ≤ 100; decide), fun b0 hb kb => ⟨sz2 (by show 2 ≤ 100; decide), fun l0 hl kl => ⟨sz2 (by show 2 ≤ 100; decide), fun tp htp ktp => ⟨tp, rfl, _, ob_new ktp, rfl, _, _, rfl, _, _, rfl, rfl, ?_⟩⟩⟩⟩
  have s1 := Same.new hb (.tup [.int 0, .int 1])
  have s2 := Same.new hl (.tup [.int 1, .int 0])
  have s3 := Same.new htp (.tup [.ref b0, .ref l0])
  have tb : Tq K (upd (upd (upd (upd H f (.lst [])) b0 (.tup [.int 0, .int 1])) l0 (.tup [.int 1, .int 0])) tp (.tup [.ref b0, .ref l0])) 1 b0 (0, 1) := ⟨ob_same (s2.trans s3) (ob_new kb), by decide, by decide⟩
  have tl0 : Tq K (upd (upd (upd (upd H f (.lst [])) b0 (.tup [.int 0, .int 1])) l0 (.tup [.int 1, .int 0])) tp (.tup [.ref b0, .ref l0])) 1 l0 (1, 0) := ⟨ob_same s3 (ob_new kl), by decide, by decide⟩
  have s4 := sf.trans (s1.trans (s2.trans s3))
  have hf4 := (s1.trans (s2.trans s3)) _ _ (upd_same (H := H) (a := f) (o := .lst []))
  generalize upd (upd (upd (upd H f (.lst [])) b0 (.tup [.int 0, .int 1])) l0 (.tup [.int 1, .int 0])) tp (.tup [.ref b0, .ref l0]) = H1 at tb tl0 s4 hf4 ⊢
  clear s1 s2 s3 sf hb kb hl kl htp ktp
  refine ⟨_, rfl, a, v, rfl, hv.same s4, fun ts tl H2 he hlen s5 hn htl ktl => ⟨tl, rfl, ⟨_, .of htl⟩, forI_list (xs := ts.map V.int) (ConvI K a f tl ts H H1) ⟨b0, l0, [], none, rfl, s5 _ _ hf4, ⟨rfl, fun i x q hx => by cases hx⟩, (tb.same s5).mono (by omega), (tl0.same s5).mono (by omega), s4.trans s5, htl, Nat.le_refl _⟩ ?_ ?_ ?_⟩⟩
  · rintro i σ H' _ ⟨b, l, xs, x4, rfl, h1, h2, h3, h4, h5, h6, h7⟩
    exact .of h6
  · rintro i x σ H' hi ⟨b, l, xs, x4, rfl, h1, h2, h3, h4, h5, h6, h7⟩
    obtain ⟨t, rfl, ht⟩ : ∃ t, x = V.int t ∧ ts[i]? = some t := by
      rw [List.getElem?_map] at hi
      cases e : ts[i]? with
      | none => rw [e] at hi; cases hi
      | some z => rw [e] at hi; exact ⟨z, (Option.some.inj hi).symm, rfl⟩
    have hil : i < ts.length := (List.getElem?_eq_some_iff.mp ht).1
    have htk : ts.take (i + 1) = ts.take i ++ [t] := by rw [List.take_add_one, ht]; rfl
    have lk : (ts.take i).length = i := by rw [List.length_take]; omega
    have lk1 : (ts.take (i + 1)).length = i + 1 := by rw [List.length_take]; omega
    have tz := eu_sz he hv.sz.1 hv.sz.2 t (List.mem_of_getElem? ht)
    refine ⟨_, rfl, _, rfl, _, rfl, _, rfl, b, l, _, _, t, _, _, 3101, rfl, h3, h4, tz, by omega, fun p H3 hp sp op kp => ⟨_, _, rfl, ?_⟩⟩
    have nf' : f ≠ tl := by
      rintro rfl
      rw [s5 _ _ hf4] at htl
      have e := congrArg (fun o => match o with | some (HO.lst z) => z.length | _ => 0) htl
      simp at e
      omega
    have np : Tq K H3 3101 p (adv (stp (0, 1) (1, 0) (ts.take i)).1 (stp (0, 1) (1, 0) (ts.take i)).2 t) := ⟨op, by
      have z := conv_szl he hv.nf.1 hv.sz.1 hv.sz.2 (i + 1) (by omega)
      rw [htk, stp_app] at z
      exact z⟩
    refine ⟨_, rfl, .inl ⟨rfl, xs, .of (sp _ _ h1)⟩, _, rfl, f, xs, _, rfl, rfl, sp _ _ h1, by rw [sizeLine_eq]; omega, ?_⟩
    refine ⟨l, p, xs ++ [.ref p], _, rfl, upd_same, ?_, ?_, ?_, fun c o e => ?_, ?_, by rw [List.length_append]; show xs.length + 1 ≤ i + 1; omega⟩
    · rw [htk, chn_app]
      exact ((h2.same sp).app op).putL (sp _ _ h1)
    · rw [htk, stp_app]
      have := (h4.same sp).putL (o := .lst (xs ++ [.ref p])) (sp _ _ h1)
      exact this
    · rw [htk, stp_app]
      exact np.putL (sp _ _ h1)
    · rw [upd_ne (ne_of_none e hf)]
      exact sp _ _ (h5 _ _ e)
    · rw [upd_ne (Ne.symm nf')]
      exact sp _ _ h6
  · rintro σ H' ⟨b, l, xs, x4, rfl, h1, h2, h3, h4, h5, h6, h7⟩
    rw [List.length_map, List.take_length] at h2
    exact ⟨_, rfl, k ts f xs H' he hlen h5 hf h1 kf h2⟩
end
end My

namespace My
open PySem PySem.Spec PyProof.Rows L2
section
variable {P : Program} {w : World} {K : PySem.W.Frag} {mg : Str → Option Value} {base : Heap}
/-- the same data, n levels deep at most -/
def Eqv (K : PySem.W.Frag) (H : Hp) : Nat → V → V → Prop
  | 0, x, y => x = y ∧ scv x = true
  | n + 1, x, y => (x = y ∧ scv x = true) ∨ ∃ (a b : Addr) (xs ys : List V), x = .ref a ∧ y = .ref b ∧ ((ob K H a = some (.tup xs) ∧ ob K H b = some (.tup ys)) ∨ (ob K H a = some (.lst xs) ∧ ob K H b = some (.lst ys))) ∧ xs.length = ys.length ∧ ys.length ≤ 1000 ∧
      ∀ (i : Nat) x y, xs[i]? = some x → ys[i]? = some y → Eqv K H n x y
theorem Eqv.same {H H' : Hp} (e : Same H H') : ∀ {n : Nat} {x y : V}, Eqv K H n x y → Eqv K H' n x y
  | 0, _, _, h => h
  | n + 1, x, y, .inl h => .inl h
  | n + 1, x, y, .inr ⟨a, b, xs, ys, h1, h2, h3, h4, h5, h6⟩ =>
    .inr ⟨a, b, xs, ys, h1, h2, h3.imp (fun z => ⟨ob_same e z.1, ob_same e z.2⟩) (fun z => ⟨ob_same e z.1, ob_same e z.2⟩), h4, h5, fun i x y hx hy => (h6 i x y hx hy).same e⟩
theorem Eqv.up {H : Hp} : ∀ {n : Nat} {x y : V}, Eqv K H n x y → Eqv K H (n + 1) x y
  | 0, _, _, h => .inl h
  | n + 1, x, y, .inl h => .inl h
  | n + 1, x, y, .inr ⟨a, b, xs, ys, h1, h2, h3, h4, h5, h6⟩ => .inr ⟨a, b, xs, ys, h1, h2, h3, h4, h5, fun i x y hx hy => (h6 i x y hx hy).up⟩
def spAlike (K : PySem.W.Frag) : Nat → Sp
  | 0 => fun _ _ _ _ => False
  | n + 1 => fun vs H Q _ => ∃ x y, vs = [x, y] ∧ Eqv K H n x y ∧ ∀ H', Same H H' → Q (.bl true) H'
theorem Eqv.split {H : Hp} {n : Nat} {x y : V} (h : Eqv K H n x y) : (x = y ∧ scv x = true) ∨ ∃ m, n = m + 1 ∧ ∃ (a b : Addr) (xs ys : List V), x = .ref a ∧ y = .ref b ∧ ((ob K H a = some (.tup xs) ∧ ob K H b = some (.tup ys)) ∨ (ob K H a = some (.lst xs) ∧ ob K H b = some (.lst ys))) ∧ xs.length = ys.length ∧ ys.length ≤ 1000 ∧
    ∀ (i : Nat) x y, xs[i]? = some x → ys[i]? = some y → Eqv K H m x y := by
  cases n with
  | zero => exact .inl h
  | succ m =>
    rcases h with h | h
    · exact .inl h
    · exact .inr ⟨m, rfl, h⟩
theorem Kn.none {x : Str} {ps : List Str} {st : Stmt} (D : Dfn K mg x st ps) : Kn P w K mg base 0 x ps (fun _ _ _ _ => False) := by
  obtain ⟨f, fd, F, m, b⟩ := D.ex
  exact ⟨f, fd, m, F.kp, b, ⟨fun vs H Q E h => h.elim, fun A outer s H args us vs Q E _ _ _ _ h => h.elim⟩⟩
abbrev sAlike : Stmt := topS 44
theorem scAlike : FnScope ["_law_told_here", "_law_due", "_law_k"] ["_law_told_here", "_law_due"] (defScope sAlike) := ⟨rfl, rfl, rfl, by decide +kernel, rfl, by decide +kernel, by decide +kernel⟩
theorem blkA : BlkOk ["_law_told_here", "_law_due", "_law_k"] (defScope sAlike) { kind := .function, names := [(".0", .local), ("_law_k", .local), ("_law_alike", .globalImplicit), ("_law_due", .free), ("_law_told_here", .free)], isGenerator := false, isCoroutine := false, more := [] } [("_law_k", 2)] := ⟨rfl, by decide +kernel, by decide +kernel, by decide +kernel, by decide +kernel⟩
theorem k_Alike (n : Nat) (T : Bt K mg) (D : Dfn K mg "_law_alike" sAlike ["_law_told_here", "_law_due"]) (d__law_alike : Kn P w K mg base (n + 1) "_law_alike" ["_law_told_here", "_law_due"] (spAlike K n)) : Kn P w K mg base (n + 2) "_law_alike" ["_law_told_here", "_law_due"] (spAlike K (n + 1)) := by
  refine Kn.mk' D scAlike (fun vs H Q E h => ?_) (fun f cdv A outer s H vs Q E hr h => ?_)
  · obtain ⟨x, y, rfl, _⟩ := h
    rfl
  obtain ⟨x, y, rfl, he, k⟩ := h
  refine ⟨_, (pss_cons (ps_if (pt_val (pe_callB call_isT (by rfl) T.b_isinstance (by decide +kernel) (pa_cons (pv 1) (pa_cons (pe_tp (pa_cons (pe_bltn (v := .ty "list") (by rfl) T.b_list (by decide +kernel) rfl) (pa_cons (pe_bltn (v := .ty "tuple") (by rfl) T.b_tuple (by decide +kernel) rfl) pa_nil))) pa_nil)))) (pss_cons (ps_if (PW.pt (pw_or (pt_not (pt_val (pe_callB call_isT (by rfl) T.b_isinstance (by decide +kernel) (pa_cons (pv 0) (pa_cons (pe_tp (pa_cons (pe_bltn (v := .ty "list") (by rfl) T.b_list (by decide +kernel) rfl) (pa_cons (pe_bltn (v := .ty "tuple") (by rfl) T.b_tuple (by decide +kernel) rfl) pa_nil))) pa_nil))))) (pw_or1 (pt_cmpR op_ne (pe_callB call_isN (by rfl) T.b_isinstance (by decide +kernel) (pa_cons (pv 0) (pa_cons (pe_bltn (v := .ty "list") (by rfl) T.b_list (by decide +kernel) rfl) pa_nil))) (pe_callB call_isN (by rfl) T.b_isinstance (by decide +kernel) (pa_cons (pv 1) (pa_cons (pe_bltn (v := .ty "list") (by rfl) T.b_list (by decide +kernel) rfl) pa_nil))) (nomark _))))) (pss_one (ps_ret pe_bl)) pss_nil)
      (pss_one (ps_ret (pe_and (pe_cmpR op_eq (pe_callB call_lenA (by rfl) T.b_len PySem.boot_len (pa_cons (pv 0) pa_nil)) (pe_callB call_lenA (by rfl) T.b_len PySem.boot_len (pa_cons (pv 1) pa_nil)) (nomark _)) (pe_one (pe_notT (pe_lc (own := [("_law_k", 2)]) (g := gName 2) (tt := tNot (tTest (tCall (spAlike K n) [] E0 (tCons (tOp (rIxA K) (tVar 0) (tVar 2)) (tCons (tOp (rIxA K) (tVar 1) (tVar 2)) L2.tNil))))) (te := tVar 2) rfl scAlike.nd (pi_range1 (by rfl) T.b_range (pa_cons (pe_callB call_lenA (by rfl) T.b_len PySem.boot_len (pa_cons (pv 1) pa_nil)) pa_nil)) blkA (fun _ _ _ _ _ => by exact pg_name (i := 2) scAlike.nd rfl (.inl rfl)) (fun _ _ _ _ _ => by exact pts_one (pt_not (pt_val (pe_kn d__law_alike hr (by rfl) (pa_cons (pe_ix ix_any (pv 0) (pv 2) (fun _ _ => rfl)) (pa_cons (pe_ix ix_any (pv 1) (pv 2) (fun _ _ => rfl)) pa_nil)))))) (fun _ _ _ _ _ => by exact pv 2)))))))) pss_nil)
      (pss_cons (ps_if (PW.pt (pw_or (pt_cmpR op_isN (pv 1) pe_non (nomark _)) (pw_or1 (pt_cmpR op_isN (pv 0) pe_non (nomark _))))) (pss_one (ps_ret (pe_and (pe_cmpR op_isN (pv 1) pe_non (nomark _)) (pe_one (pe_cmpR op_isN (pv 0) pe_non (nomark _)))))) pss_nil)
      (pss_cons (ps_if (pt_val (pe_callB call_isN (by rfl) T.b_isinstance (by decide +kernel) (pa_cons (pv 1) (pa_cons (pe_bltn (v := .ty "str") (by rfl) T.b_str (by decide +kernel) rfl) pa_nil)))) (pss_one (ps_ret (pe_and (pe_callB call_isN (by rfl) T.b_isinstance (by decide +kernel) (pa_cons (pv 0) (pa_cons (pe_bltn (v := .ty "str") (by rfl) T.b_str (by decide +kernel) rfl) pa_nil))) (pe_one (pe_cmpR op_eq (pv 0) (pv 1) (nomark _)))))) pss_nil)
      (pss_one (ps_ret (pe_and (pe_callB call_isN (by rfl) T.b_isinstance (by decide +kernel) (pa_cons (pv 0) (pa_cons (pe_bltn (v := .ty "int") (by rfl) T.b_int (by decide +kernel) rfl) pa_nil))) (pe_and (pe_cmpR op_eq (pe_callB call_isN (by rfl) T.b_isinstance (by decide +kernel) (pa_cons (pv 0) (pa_cons (pe_bltn (v := .ty "bool") (by rfl) T.b_bool (by decide +kernel) rfl) pa_nil))) (pe_callB call_isN (by rfl) T.b_isinstance (by decide +kernel) (pa_cons (pv 1) (pa_cons (pe_bltn (v := .ty "bool") (by rfl) T.b_bool (by decide +kernel) rfl) pa_nil))) (nomark _)) (pe_one (pe_cmpR op_eq (pv 0) (pv 1) (nomark _)))))))))), ?_⟩
  rcases he.split with ⟨rfl, hsc⟩ | ⟨m, rfl, a, b, xs, ys, rfl, rfl, ho, hl, h1000, hi⟩
  · cases x with
    | int i =>
      simp only [cx_K, decide_true, decide_false, reduceCtorEq, gTp, gCons, gNil, ca_0, ca_1, ca_2, ca_3, ca_4, ca_5, ca_6, ca_7, ca_8, ca_9, ca_10, ca_11, ca_12, ca_13, ca_14, ca_15, ca_16, ca_17, ca_18, ca_19, ca_20, ca_21, ca_22, ca_23, ca_24, ca_25, ca_26, ca_27, ca_28, ca_29, ca_30, not_true_eq_false, not_false_eq_true, Int.reduceEq, Nat.reduceEqDiff, Nat.reduceLeDiff, rGcd, V.ty.injEq, eq_self, List.not_mem_nil, beq_self_eq_true, HO.lst.injEq, HO.tup.injEq, tFor_eq, iRng1, iList, iTup, nat10, tSeq, rIxA, rSetA, rIsN, rIsT, tTp, tLs, itsO_tup, itsO_lst, tyO_tup, tyO_lst, tyO_dK, tyN_non, tyN_bl, tyN_int, tyN_str, tyN_ref, tyNs_lt, isB, upd_same, upd_upd, sizeLine_eq, List.mem_cons, String.reduceBEq, String.reduceEq, Bool.or_false, Bool.or_true, Bool.and_false, Bool.false_or, Bool.and_self, Bool.false_and, Bool.not_false, Bool.not_true, List.any_cons, List.any_nil, atI_0, setI_0, atI_1, setI_1, atI_2, setI_2, atI_3, setI_3, atI_4, setI_4, atI_5, setI_5, atI_6, setI_6, tAsg, gName, tOp, tUn, tVar, tC, tCons, L2.tNil, tRet, tIfS, tTest, tCB, tCall, rI, rI0, rU, tNext, tB, tAnd, tOr, tNot, tAndV, tOrV, tNotV, tDrop, tIf, tPar, gSub, rIxL, rIxT, rEq, rNe, rSetL, tBits,
    L2.start, List.map_cons, List.map_nil, List.cons_append, List.nil_append, List.append_nil, List.length_cons, List.length_nil, List.replicate, Nat.reduceAdd, Nat.reduceSub, Nat.zero_add, List.getElem?_cons_zero, List.getElem?_cons_succ, List.set_cons_zero, List.set_cons_succ,
    Option.some.injEq, exists_eq_left', exists_eq_left, V.int.injEq, V.bl.injEq, V.ref.injEq, V.str.injEq, List.cons.injEq, reduceCtorEq, and_true, true_and, false_and, and_false, exists_false, or_false, false_or, or_true, true_or, exists_const, CMul, CDiv, CPow, and_assoc, exists_and_left, exists_and_right, Int.reducePow, Int.reduceNeg, Int.reduceLT, Int.reduceLE, Nat.reducePow, Nat.reduceLT, Int.reduceToNat, gt_iff_lt, ge_iff_le, decide_eq_true_eq, Bool.not_eq_true', decide_eq_false_iff_not, scal, ↓reduceIte, Bool.false_eq_true]
      intro p hp kp
      have s1 := Same.new hp (.tup [V.ty "list", V.ty "tuple"])
      generalize upd H p (.tup [V.ty "list", V.ty "tuple"]) = H1 at s1 ⊢
      exact k H1 s1
    | non =>
      simp only [cx_K, decide_true, decide_false, reduceCtorEq, gTp, gCons, gNil, ca_0, ca_1, ca_2, ca_3, ca_4, ca_5, ca_6, ca_7, ca_8, ca_9, ca_10, ca_11, ca_12, ca_13, ca_14, ca_15, ca_16, ca_17, ca_18, ca_19, ca_20, ca_21, ca_22, ca_23, ca_24, ca_25, ca_26, ca_27, ca_28, ca_29, ca_30, not_true_eq_false, not_false_eq_true, Int.reduceEq, Nat.reduceEqDiff, Nat.reduceLeDiff, rGcd, V.ty.injEq, eq_self, List.not_mem_nil, beq_self_eq_true, HO.lst.injEq, HO.tup.injEq, tFor_eq, iRng1, iList, iTup, nat10, tSeq, rIxA, rSetA, rIsN, rIsT, tTp, tLs, itsO_tup, itsO_lst, tyO_tup, tyO_lst, tyO_dK, tyN_non, tyN_bl, tyN_int, tyN_str, tyN_ref, tyNs_lt, isB, upd_same, upd_upd, sizeLine_eq, List.mem_cons, String.reduceBEq, String.reduceEq, Bool.or_false, Bool.or_true, Bool.and_false, Bool.false_or, Bool.and_self, Bool.false_and, Bool.not_false, Bool.not_true, List.any_cons, List.any_nil, atI_0, setI_0, atI_1, setI_1, atI_2, setI_2, atI_3, setI_3, atI_4, setI_4, atI_5, setI_5, atI_6, setI_6, tAsg, gName, tOp, tUn, tVar, tC, tCons, L2.tNil, tRet, tIfS, tTest, tCB, tCall, rI, rI0, rU, tNext, tB, tAnd, tOr, tNot, tAndV, tOrV, tNotV, tDrop, tIf, tPar, gSub, rIxL, rIxT, rEq, rNe, rSetL, tBits,
    L2.start, List.map_cons, List.map_nil, List.cons_append, List.nil_append, List.append_nil, List.length_cons, List.length_nil, List.replicate, Nat.reduceAdd, Nat.reduceSub, Nat.zero_add, List.getElem?_cons_zero, List.getElem?_cons_succ, List.set_cons_zero, List.set_cons_succ,
    Option.some.injEq, exists_eq_left', exists_eq_left, V.int.injEq, V.bl.injEq, V.ref.injEq, V.str.injEq, List.cons.injEq, reduceCtorEq, and_true, true_and, false_and, and_false, exists_false, or_false, false_or, or_true, true_or, exists_const, CMul, CDiv, CPow, and_assoc, exists_and_left, exists_and_right, Int.reducePow, Int.reduceNeg, Int.reduceLT, Int.reduceLE, Nat.reducePow, Nat.reduceLT, Int.reduceToNat, gt_iff_lt, ge_iff_le, decide_eq_true_eq, Bool.not_eq_true', decide_eq_false_iff_not, scal, ↓reduceIte, Bool.false_eq_true]
      intro p hp kp
      exact k _ (Same.new hp _)
    | str z =>
      simp only [cx_K, decide_true, decide_false, reduceCtorEq, gTp, gCons, gNil, ca_0, ca_1, ca_2, ca_3, ca_4, ca_5, ca_6, ca_7, ca_8, ca_9, ca_10, ca_11, ca_12, ca_13, ca_14, ca_15, ca_16, ca_17, ca_18, ca_19, ca_20, ca_21, ca_22, ca_23, ca_24, ca_25, ca_26, ca_27, ca_28, ca_29, ca_30, not_true_eq_false, not_false_eq_true, Int.reduceEq, Nat.reduceEqDiff, Nat.reduceLeDiff, rGcd, V.ty.injEq, eq_self, List.not_mem_nil, beq_self_eq_true, HO.lst.injEq, HO.tup.injEq, tFor_eq, iRng1, iList, iTup, nat10, tSeq, rIxA, rSetA, rIsN, rIsT, tTp, tLs, itsO_tup, itsO_lst, tyO_tup, tyO_lst, tyO_dK, tyN_non, tyN_bl, tyN_int, tyN_str, tyN_ref, tyNs_lt, isB, upd_same, upd_upd, sizeLine_eq, List.mem_cons, String.reduceBEq, String.reduceEq, Bool.or_false, Bool.or_true, Bool.and_false, Bool.false_or, Bool.and_self, Bool.false_and, Bool.not_false, Bool.not_true, List.any_cons, List.any_nil, atI_0, setI_0, atI_1, setI_1, atI_2, setI_2, atI_3, setI_3, atI_4, setI_4, atI_5, setI_5, atI_6, setI_6, tAsg, gName, tOp, tUn, tVar, tC, tCons, L2.tNil, tRet, tIfS, tTest, tCB, tCall, rI, rI0, rU, tNext, tB, tAnd, tOr, tNot, tAndV, tOrV, tNotV, tDrop, tIf, tPar, gSub, rIxL, rIxT, rEq, rNe, rSetL, tBits,
    L2.start, List.map_cons, List.map_nil, List.cons_append, List.nil_append, List.append_nil, List.length_cons, List.length_nil, List.replicate, Nat.reduceAdd, Nat.reduceSub, Nat.zero_add, List.getElem?_cons_zero, List.getElem?_cons_succ, List.set_cons_zero, List.set_cons_succ,
    Option.some.injEq, exists_eq_left', exists_eq_left, V.int.injEq, V.bl.injEq, V.ref.injEq, V.str.injEq, List.cons.injEq, reduceCtorEq, and_true, true_and, false_and, and_false, exists_false, or_false, false_or, or_true, true_or, exists_const, CMul, CDiv, CPow, and_assoc, exists_and_left, exists_and_right, Int.reducePow, Int.reduceNeg, Int.reduceLT, Int.reduceLE, Nat.reducePow, Nat.reduceLT, Int.reduceToNat, gt_iff_lt, ge_iff_le, decide_eq_true_eq, Bool.not_eq_true', decide_eq_false_iff_not, scal, ↓reduceIte, Bool.false_eq_true]
      intro p hp kp
      exact k _ (Same.new hp _)
    | bl z =>
      simp only [cx_K, decide_true, decide_false, reduceCtorEq, gTp, gCons, gNil, ca_0, ca_1, ca_2, ca_3, ca_4, ca_5, ca_6, ca_7, ca_8, ca_9, ca_10, ca_11, ca_12, ca_13, ca_14, ca_15, ca_16, ca_17, ca_18, ca_19, ca_20, ca_21, ca_22, ca_23, ca_24, ca_25, ca_26, ca_27, ca_28, ca_29, ca_30, not_true_eq_false, not_false_eq_true, Int.reduceEq, Nat.reduceEqDiff, Nat.reduceLeDiff, rGcd, V.ty.injEq, eq_self, List.not_mem_nil, beq_self_eq_true, HO.lst.injEq, HO.tup.injEq, tFor_eq, iRng1, iList, iTup, nat10, tSeq, rIxA, rSetA, rIsN, rIsT, tTp, tLs, itsO_tup, itsO_lst, tyO_tup, tyO_lst, tyO_dK, tyN_non, tyN_bl, tyN_int, tyN_str, tyN_ref, tyNs_lt, isB, upd_same, upd_upd, sizeLine_eq, List.mem_cons, String.reduceBEq, String.reduceEq, Bool.or_false, Bool.or_true, Bool.and_false, Bool.false_or, Bool.and_self, Bool.false_and, Bool.not_false, Bool.not_true, List.any_cons, List.any_nil, atI_0, setI_0, atI_1, setI_1, atI_2, setI_2, atI_3, setI_3, atI_4, setI_4, atI_5, setI_5, atI_6, setI_6, tAsg, gName, tOp, tUn, tVar, tC, tCons, L2.tNil, tRet, tIfS, tTest, tCB, tCall, rI, rI0, rU, tNext, tB, tAnd, tOr, tNot, tAndV, tOrV, tNotV, tDrop, tIf, tPar, gSub, rIxL, rIxT, rEq, rNe, rSetL, tBits,
    L2.start, List.map_cons, List.map_nil, List.cons_append, List.nil_append, List.append_nil, List.length_cons, List.length_nil, List.replicate, Nat.reduceAdd, Nat.reduceSub, Nat.zero_add, List.getElem?_cons_zero, List.getElem?_cons_succ, List.set_cons_zero, List.set_cons_succ,
    Option.some.injEq, exists_eq_left', exists_eq_left, V.int.injEq, V.bl.injEq, V.ref.injEq, V.str.injEq, List.cons.injEq, reduceCtorEq, and_true, true_and, false_and, and_false, exists_false, or_false, false_or, or_true, true_or, exists_const, CMul, CDiv, CPow, and_assoc, exists_and_left, exists_and_right, Int.reducePow, Int.reduceNeg, Int.reduceLT, Int.reduceLE, Nat.reducePow, Nat.reduceLT, Int.reduceToNat, gt_iff_lt, ge_iff_le, decide_eq_true_eq, Bool.not_eq_true', decide_eq_false_iff_not, scal, ↓reduceIte, Bool.false_eq_true]
      intro p hp kp
      exact k _ (Same.new hp _)
    | _ => cases hsc
  rcases ho with ⟨oa, oc⟩ | ⟨oa, oc⟩
  · simp only [oa, oc, cx_K, decide_true, decide_false, reduceCtorEq, gTp, gCons, gNil, ca_0, ca_1, ca_2, ca_3, ca_4, ca_5, ca_6, ca_7, ca_8, ca_9, ca_10, ca_11, ca_12, ca_13, ca_14, ca_15, ca_16, ca_17, ca_18, ca_19, ca_20, ca_21, ca_22, ca_23, ca_24, ca_25, ca_26, ca_27, ca_28, ca_29, ca_30, not_true_eq_false, not_false_eq_true, Int.reduceEq, Nat.reduceEqDiff, Nat.reduceLeDiff, rGcd, V.ty.injEq, eq_self, List.not_mem_nil, beq_self_eq_true, HO.lst.injEq, HO.tup.injEq, tFor_eq, iRng1, iList, iTup, nat10, tSeq, rIxA, rSetA, rIsN, rIsT, tTp, tLs, itsO_tup, itsO_lst, tyO_tup, tyO_lst, tyO_dK, tyN_non, tyN_bl, tyN_int, tyN_str, tyN_ref, tyNs_lt, isB, upd_same, upd_upd, sizeLine_eq, List.mem_cons, String.reduceBEq, String.reduceEq, Bool.or_false, Bool.or_true, Bool.and_false, Bool.false_or, Bool.and_self, Bool.false_and, Bool.not_false, Bool.not_true, List.any_cons, List.any_nil, atI_0, setI_0, atI_1, setI_1, atI_2, setI_2, atI_3, setI_3, atI_4, setI_4, atI_5, setI_5, atI_6, setI_6, tAsg, gName, tOp, tUn, tVar, tC, tCons, L2.tNil, tRet, tIfS, tTest, tCB, tCall, rI, rI0, rU, tNext, tB, tAnd, tOr, tNot, tAndV, tOrV, tNotV, tDrop, tIf, tPar, gSub, rIxL, rIxT, rEq, rNe, rSetL, tBits,
    L2.start, List.map_cons, List.map_nil, List.cons_append, List.nil_append, List.append_nil, List.length_cons, List.length_nil, List.replicate, Nat.reduceAdd, Nat.reduceSub, Nat.zero_add, List.getElem?_cons_zero, List.getElem?_cons_succ, List.set_cons_zero, List.set_cons_succ,
    Option.some.injEq, exists_eq_left', exists_eq_left, V.int.injEq, V.bl.injEq, V.ref.injEq, V.str.injEq, List.cons.injEq, reduceCtorEq, and_true, true_and, false_and, and_false, exists_false, or_false, false_or, or_true, true_or, exists_const, CMul, CDiv, CPow, and_assoc, exists_and_left, exists_and_right, Int.reducePow, Int.reduceNeg, Int.reduceLT, Int.reduceLE, Nat.reducePow, Nat.reduceLT, Int.reduceToNat, gt_iff_lt, ge_iff_le, decide_eq_true_eq, Bool.not_eq_true', decide_eq_false_iff_not, scal, ↓reduceIte, Bool.false_eq_true]
    intro p1 hp1 kp1
    have s1 := Same.new hp1 (.tup [V.ty "list", V.ty "tuple"])
    generalize upd H p1 (.tup [V.ty "list", V.ty "tuple"]) = H1 at s1 ⊢
    have oa1 := ob_same s1 oa
    have oc1 := ob_same s1 oc
    simp only [oa1, oc1, cx_K, decide_true, decide_false, reduceCtorEq, gTp, gCons, gNil, ca_0, ca_1, ca_2, ca_3, ca_4, ca_5, ca_6, ca_7, ca_8, ca_9, ca_10, ca_11, ca_12, ca_13, ca_14, ca_15, ca_16, ca_17, ca_18, ca_19, ca_20, ca_21, ca_22, ca_23, ca_24, ca_25, ca_26, ca_27, ca_28, ca_29, ca_30, not_true_eq_false, not_false_eq_true, Int.reduceEq, Nat.reduceEqDiff, Nat.reduceLeDiff, rGcd, V.ty.injEq, eq_self, List.not_mem_nil, beq_self_eq_true, HO.lst.injEq, HO.tup.injEq, tFor_eq, iRng1, iList, iTup, nat10, tSeq, rIxA, rSetA, rIsN, rIsT, tTp, tLs, itsO_tup, itsO_lst, tyO_tup, tyO_lst, tyO_dK, tyN_non, tyN_bl, tyN_int, tyN_str, tyN_ref, tyNs_lt, isB, upd_same, upd_upd, sizeLine_eq, List.mem_cons, String.reduceBEq, String.reduceEq, Bool.or_false, Bool.or_true, Bool.and_false, Bool.false_or, Bool.and_self, Bool.false_and, Bool.not_false, Bool.not_true, List.any_cons, List.any_nil, atI_0, setI_0, atI_1, setI_1, atI_2, setI_2, atI_3, setI_3, atI_4, setI_4, atI_5, setI_5, atI_6, setI_6, tAsg, gName, tOp, tUn, tVar, tC, tCons, L2.tNil, tRet, tIfS, tTest, tCB, tCall, rI, rI0, rU, tNext, tB, tAnd, tOr, tNot, tAndV, tOrV, tNotV, tDrop, tIf, tPar, gSub, rIxL, rIxT, rEq, rNe, rSetL, tBits,
    L2.start, List.map_cons, List.map_nil, List.cons_append, List.nil_append, List.append_nil, List.length_cons, List.length_nil, List.replicate, Nat.reduceAdd, Nat.reduceSub, Nat.zero_add, List.getElem?_cons_zero, List.getElem?_cons_succ, List.set_cons_zero, List.set_cons_succ,
    Option.some.injEq, exists_eq_left', exists_eq_left, V.int.injEq, V.bl.injEq, V.ref.injEq, V.str.injEq, List.cons.injEq, reduceCtorEq, and_true, true_and, false_and, and_false, exists_false, or_false, false_or, or_true, true_or, exists_const, CMul, CDiv, CPow, and_assoc, exists_and_left, exists_and_right, Int.reducePow, Int.reduceNeg, Int.reduceLT, Int.reduceLE, Nat.reducePow, Nat.reduceLT, Int.reduceToNat, gt_iff_lt, ge_iff_le, decide_eq_true_eq, Bool.not_eq_true', decide_eq_false_iff_not, scal, ↓reduceIte, Bool.false_eq_true]
    intro p2 hp2 kp2
    have s2 := Same.new hp2 (.tup [V.ty "list", V.ty "tuple"])
    generalize upd H1 p2 (.tup [V.ty "list", V.ty "tuple"]) = H2 at s2 ⊢
    have oa2 := ob_same s2 oa1
    have oc2 := ob_same s2 oc1
    simp only [oa2, oc2, cx_K, decide_true, decide_false, reduceCtorEq, gTp, gCons, gNil, ca_0, ca_1, ca_2, ca_3, ca_4, ca_5, ca_6, ca_7, ca_8, ca_9, ca_10, ca_11, ca_12, ca_13, ca_14, ca_15, ca_16, ca_17, ca_18, ca_19, ca_20, ca_21, ca_22, ca_23, ca_24, ca_25, ca_26, ca_27, ca_28, ca_29, ca_30, not_true_eq_false, not_false_eq_true, Int.reduceEq, Nat.reduceEqDiff, Nat.reduceLeDiff, rGcd, V.ty.injEq, eq_self, List.not_mem_nil, beq_self_eq_true, HO.lst.injEq, HO.tup.injEq, tFor_eq, iRng1, iList, iTup, nat10, tSeq, rIxA, rSetA, rIsN, rIsT, tTp, tLs, itsO_tup, itsO_lst, tyO_tup, tyO_lst, tyO_dK, tyN_non, tyN_bl, tyN_int, tyN_str, tyN_ref, tyNs_lt, isB, upd_same, upd_upd, sizeLine_eq, List.mem_cons, String.reduceBEq, String.reduceEq, Bool.or_false, Bool.or_true, Bool.and_false, Bool.false_or, Bool.and_self, Bool.false_and, Bool.not_false, Bool.not_true, List.any_cons, List.any_nil, atI_0, setI_0, atI_1, setI_1, atI_2, setI_2, atI_3, setI_3, atI_4, setI_4, atI_5, setI_5, atI_6, setI_6, tAsg, gName, tOp, tUn, tVar, tC, tCons, L2.tNil, tRet, tIfS, tTest, tCB, tCall, rI, rI0, rU, tNext, tB, tAnd, tOr, tNot, tAndV, tOrV, tNotV, tDrop, tIf, tPar, gSub, rIxL, rIxT, rEq, rNe, rSetL, tBits,
    L2.start, List.map_cons, List.map_nil, List.cons_append, List.nil_append, List.append_nil, List.length_cons, List.length_nil, List.replicate, Nat.reduceAdd, Nat.reduceSub, Nat.zero_add, List.getElem?_cons_zero, List.getElem?_cons_succ, List.set_cons_zero, List.set_cons_succ,
    Option.some.injEq, exists_eq_left', exists_eq_left, V.int.injEq, V.bl.injEq, V.ref.injEq, V.str.injEq, List.cons.injEq, reduceCtorEq, and_true, true_and, false_and, and_false, exists_false, or_false, false_or, or_true, true_or, exists_const, CMul, CDiv, CPow, and_assoc, exists_and_left, exists_and_right, Int.reducePow, Int.reduceNeg, Int.reduceLT, Int.reduceLE, Nat.reducePow, Nat.reduceLT, Int.reduceToNat, gt_iff_lt, ge_iff_le, decide_eq_true_eq, Bool.not_eq_true', decide_eq_false_iff_not, scal, ↓reduceIte, Bool.false_eq_true]
    rw [if_pos (show (xs.length : Int) = (ys.length : Int) by omega)]
    have ia : itsO (ob K H2 a) = some xs := by rw [oa2]; rfl
    have ib : itsO (ob K H2 b) = some ys := by rw [oc2]; rfl
    refine ⟨_, rfl, b, rfl, ys, ib, _, rfl, by omega, by omega, fun D hD => lc_range (lo := 0) (n := ys.length) (fun _ H' => H' D = some (.lst []) ∧ Same H2 H') ⟨upd_same, Same.new hD _⟩ ?_ ?_⟩
    · rintro i H' hlt ⟨h, s3⟩
      have hx : i < xs.length := by omega
      have ex : atI xs (0 + (i : Int)) = some xs[i] := by rw [Int.zero_add]; exact atI_nat (List.getElem?_eq_getElem hx)
      have ey : atI ys (0 + (i : Int)) = some ys[i] := by rw [Int.zero_add]; exact atI_nat (List.getElem?_eq_getElem hlt)
      have s02 := (s1.trans s2).trans s3
      refine ⟨rfl, _, rfl, _, rfl, a, _, rfl, rfl, _, by rw [ob_same s3 oa2]; rfl, _, ex, _, rfl, _, rfl, b, _, rfl, rfl, _, by rw [ob_same s3 oc2]; rfl, _, ey, _, _, rfl, (hi i _ _ (List.getElem?_eq_getElem hx) (List.getElem?_eq_getElem hlt)).same s02, fun H3 s4 => ⟨true, rfl, iteF ⟨s4 _ _ h, s3.trans s4⟩⟩⟩
    · rintro H' ⟨h, s3⟩
      exact ⟨false, .inl ⟨[], .of h, rfl⟩, k H' ((s1.trans s2).trans s3)⟩
  · simp only [oa, oc, cx_K, decide_true, decide_false, reduceCtorEq, gTp, gCons, gNil, ca_0, ca_1, ca_2, ca_3, ca_4, ca_5, ca_6, ca_7, ca_8, ca_9, ca_10, ca_11, ca_12, ca_13, ca_14, ca_15, ca_16, ca_17, ca_18, ca_19, ca_20, ca_21, ca_22, ca_23, ca_24, ca_25, ca_26, ca_27, ca_28, ca_29, ca_30, not_true_eq_false, not_false_eq_true, Int.reduceEq, Nat.reduceEqDiff, Nat.reduceLeDiff, rGcd, V.ty.injEq, eq_self, List.not_mem_nil, beq_self_eq_true, HO.lst.injEq, HO.tup.injEq, tFor_eq, iRng1, iList, iTup, nat10, tSeq, rIxA, rSetA, rIsN, rIsT, tTp, tLs, itsO_tup, itsO_lst, tyO_tup, tyO_lst, tyO_dK, tyN_non, tyN_bl, tyN_int, tyN_str, tyN_ref, tyNs_lt, isB, upd_same, upd_upd, sizeLine_eq, List.mem_cons, String.reduceBEq, String.reduceEq, Bool.or_false, Bool.or_true, Bool.and_false, Bool.false_or, Bool.and_self, Bool.false_and, Bool.not_false, Bool.not_true, List.any_cons, List.any_nil, atI_0, setI_0, atI_1, setI_1, atI_2, setI_2, atI_3, setI_3, atI_4, setI_4, atI_5, setI_5, atI_6, setI_6, tAsg, gName, tOp, tUn, tVar, tC, tCons, L2.tNil, tRet, tIfS, tTest, tCB, tCall, rI, rI0, rU, tNext, tB, tAnd, tOr, tNot, tAndV, tOrV, tNotV, tDrop, tIf, tPar, gSub, rIxL, rIxT, rEq, rNe, rSetL, tBits,
    L2.start, List.map_cons, List.map_nil, List.cons_append, List.nil_append, List.append_nil, List.length_cons, List.length_nil, List.replicate, Nat.reduceAdd, Nat.reduceSub, Nat.zero_add, List.getElem?_cons_zero, List.getElem?_cons_succ, List.set_cons_zero, List.set_cons_succ,
    Option.some.injEq, exists_eq_left', exists_eq_left, V.int.injEq, V.bl.injEq, V.ref.injEq, V.str.injEq, List.cons.injEq, reduceCtorEq, and_true, true_and, false_and, and_false, exists_false, or_false, false_or, or_true, true_or, exists_const, CMul, CDiv, CPow, and_assoc, exists_and_left, exists_and_right, Int.reducePow, Int.reduceNeg, Int.reduceLT, Int.reduceLE, Nat.reducePow, Nat.reduceLT, Int.reduceToNat, gt_iff_lt, ge_iff_le, decide_eq_true_eq, Bool.not_eq_true', decide_eq_false_iff_not, scal, ↓reduceIte, Bool.false_eq_true]
    intro p1 hp1 kp1
    have s1 := Same.new hp1 (.tup [V.ty "list", V.ty "tuple"])
    generalize upd H p1 (.tup [V.ty "list", V.ty "tuple"]) = H1 at s1 ⊢
    have oa1 := ob_same s1 oa
    have oc1 := ob_same s1 oc
    simp only [oa1, oc1, cx_K, decide_true, decide_false, reduceCtorEq, gTp, gCons, gNil, ca_0, ca_1, ca_2, ca_3, ca_4, ca_5, ca_6, ca_7, ca_8, ca_9, ca_10, ca_11, ca_12, ca_13, ca_14, ca_15, ca_16, ca_17, ca_18, ca_19, ca_20, ca_21, ca_22, ca_23, ca_24, ca_25, ca_26, ca_27, ca_28, ca_29, ca_30, not_true_eq_false, not_false_eq_true, Int.reduceEq, Nat.reduceEqDiff, Nat.reduceLeDiff, rGcd, V.ty.injEq, eq_self, List.not_mem_nil, beq_self_eq_true, HO.lst.injEq, HO.tup.injEq, tFor_eq, iRng1, iList, iTup, nat10, tSeq, rIxA, rSetA, rIsN, rIsT, tTp, tLs, itsO_tup, itsO_lst, tyO_tup, tyO_lst, tyO_dK, tyN_non, tyN_bl, tyN_int, tyN_str, tyN_ref, tyNs_lt, isB, upd_same, upd_upd, sizeLine_eq, List.mem_cons, String.reduceBEq, String.reduceEq, Bool.or_false, Bool.or_true, Bool.and_false, Bool.false_or, Bool.and_self, Bool.false_and, Bool.not_false, Bool.not_true, List.any_cons, List.any_nil, atI_0, setI_0, atI_1, setI_1, atI_2, setI_2, atI_3, setI_3, atI_4, setI_4, atI_5, setI_5, atI_6, setI_6, tAsg, gName, tOp, tUn, tVar, tC, tCons, L2.tNil, tRet, tIfS, tTest, tCB, tCall, rI, rI0, rU, tNext, tB, tAnd, tOr, tNot, tAndV, tOrV, tNotV, tDrop, tIf, tPar, gSub, rIxL, rIxT, rEq, rNe, rSetL, tBits,
    L2.start, List.map_cons, List.map_nil, List.cons_append, List.nil_append, List.append_nil, List.length_cons, List.length_nil, List.replicate, Nat.reduceAdd, Nat.reduceSub, Nat.zero_add, List.getElem?_cons_zero, List.getElem?_cons_succ, List.set_cons_zero, List.set_cons_succ,
    Option.some.injEq, exists_eq_left', exists_eq_left, V.int.injEq, V.bl.injEq, V.ref.injEq, V.str.injEq, List.cons.injEq, reduceCtorEq, and_true, true_and, false_and, and_false, exists_false, or_false, false_or, or_true, true_or, exists_const, CMul, CDiv, CPow, and_assoc, exists_and_left, exists_and_right, Int.reducePow, Int.reduceNeg, Int.reduceLT, Int.reduceLE, Nat.reducePow, Nat.reduceLT, Int.reduceToNat, gt_iff_lt, ge_iff_le, decide_eq_true_eq, Bool.not_eq_true', decide_eq_false_iff_not, scal, ↓reduceIte, Bool.false_eq_true]
    intro p2 hp2 kp2
    have s2 := Same.new hp2 (.tup [V.ty "list", V.ty "tuple"])
    generalize upd H1 p2 (.tup [V.ty "list", V.ty "tuple"]) = H2 at s2 ⊢
    have oa2 := ob_same s2 oa1
    have oc2 := ob_same s2 oc1
    simp only [oa2, oc2, cx_K, decide_true, decide_false, reduceCtorEq, gTp, gCons, gNil, ca_0, ca_1, ca_2, ca_3, ca_4, ca_5, ca_6, ca_7, ca_8, ca_9, ca_10, ca_11, ca_12, ca_13, ca_14, ca_15, ca_16, ca_17, ca_18, ca_19, ca_20, ca_21, ca_22, ca_23, ca_24, ca_25, ca_26, ca_27, ca_28, ca_29, ca_30, not_true_eq_false, not_false_eq_true, Int.reduceEq, Nat.reduceEqDiff, Nat.reduceLeDiff, rGcd, V.ty.injEq, eq_self, List.not_mem_nil, beq_self_eq_true, HO.lst.injEq, HO.tup.injEq, tFor_eq, iRng1, iList, iTup, nat10, tSeq, rIxA, rSetA, rIsN, rIsT, tTp, tLs, itsO_tup, itsO_lst, tyO_tup, tyO_lst, tyO_dK, tyN_non, tyN_bl, tyN_int, tyN_str, tyN_ref, tyNs_lt, isB, upd_same, upd_upd, sizeLine_eq, List.mem_cons, String.reduceBEq, String.reduceEq, Bool.or_false, Bool.or_true, Bool.and_false, Bool.false_or, Bool.and_self, Bool.false_and, Bool.not_false, Bool.not_true, List.any_cons, List.any_nil, atI_0, setI_0, atI_1, setI_1, atI_2, setI_2, atI_3, setI_3, atI_4, setI_4, atI_5, setI_5, atI_6, setI_6, tAsg, gName, tOp, tUn, tVar, tC, tCons, L2.tNil, tRet, tIfS, tTest, tCB, tCall, rI, rI0, rU, tNext, tB, tAnd, tOr, tNot, tAndV, tOrV, tNotV, tDrop, tIf, tPar, gSub, rIxL, rIxT, rEq, rNe, rSetL, tBits,
    L2.start, List.map_cons, List.map_nil, List.cons_append, List.nil_append, List.append_nil, List.length_cons, List.length_nil, List.replicate, Nat.reduceAdd, Nat.reduceSub, Nat.zero_add, List.getElem?_cons_zero, List.getElem?_cons_succ, List.set_cons_zero, List.set_cons_succ,
    Option.some.injEq, exists_eq_left', exists_eq_left, V.int.injEq, V.bl.injEq, V.ref.injEq, V.str.injEq, List.cons.injEq, reduceCtorEq, and_true, true_and, false_and, and_false, exists_false, or_false, false_or, or_true, true_or, exists_const, CMul, CDiv, CPow, and_assoc, exists_and_left, exists_and_right, Int.reducePow, Int.reduceNeg, Int.reduceLT, Int.reduceLE, Nat.reducePow, Nat.reduceLT, Int.reduceToNat, gt_iff_lt, ge_iff_le, decide_eq_true_eq, Bool.not_eq_true', decide_eq_false_iff_not, scal, ↓reduceIte, Bool.false_eq_true]
    rw [if_pos (show (xs.length : Int) = (ys.length : Int) by omega)]
    have ia : itsO (ob K H2 a) = some xs := by rw [oa2]; rfl
    have ib : itsO (ob K H2 b) = some ys := by rw [oc2]; rfl
    refine ⟨_, rfl, b, rfl, ys, ib, _, rfl, by omega, by omega, fun D hD => lc_range (lo := 0) (n := ys.length) (fun _ H' => H' D = some (.lst []) ∧ Same H2 H') ⟨upd_same, Same.new hD _⟩ ?_ ?_⟩
    · rintro i H' hlt ⟨h, s3⟩
      have hx : i < xs.length := by omega
      have ex : atI xs (0 + (i : Int)) = some xs[i] := by rw [Int.zero_add]; exact atI_nat (List.getElem?_eq_getElem hx)
      have ey : atI ys (0 + (i : Int)) = some ys[i] := by rw [Int.zero_add]; exact atI_nat (List.getElem?_eq_getElem hlt)
      have s02 := (s1.trans s2).trans s3
      refine ⟨rfl, _, rfl, _, rfl, a, _, rfl, rfl, _, by rw [ob_same s3 oa2]; rfl, _, ex, _, rfl, _, rfl, b, _, rfl, rfl, _, by rw [ob_same s3 oc2]; rfl, _, ey, _, _, rfl, (hi i _ _ (List.getElem?_eq_getElem hx) (List.getElem?_eq_getElem hlt)).same s02, fun H3 s4 => ⟨true, rfl, iteF ⟨s4 _ _ h, s3.trans s4⟩⟩⟩
    · rintro H' ⟨h, s3⟩
      exact ⟨false, .inl ⟨[], .of h, rfl⟩, k H' ((s1.trans s2).trans s3)⟩
theorem k_alike (T : Bt K mg) (D : Dfn K mg "_law_alike" sAlike ["_law_told_here", "_law_due"]) : ∀ n : Nat, Kn P w K mg base (n + 1) "_law_alike" ["_law_told_here", "_law_due"] (spAlike K n)
  | 0 => by
    obtain ⟨f, fd, m, kp, b, G⟩ := (Kn.none (P := P) (w := w) (base := base) D).ex
    exact ⟨f, fd, m, kp, b, (G.mono (Nat.zero_le _)).imp fun vs H Q E h => h.elim⟩
  | n + 1 => k_Alike n T D (k_alike T D n)
theorem eqv_tup {H : Hp} {a b : Addr} {xs : List V} (oa : ob K H a = some (.tup xs)) (ob' : ob K H b = some (.tup xs)) (hs : xs.all scv = true) (hl : xs.length ≤ 1000) : Eqv K H 1 (.ref a) (.ref b) := by
  refine .inr ⟨a, b, xs, xs, rfl, rfl, .inl ⟨oa, ob'⟩, rfl, hl, fun i x y hx hy => ?_⟩
  rw [hx] at hy
  cases hy
  exact ⟨rfl, List.all_eq_true.mp hs x (List.mem_of_getElem? hx)⟩
theorem eqv_f {H : Hp} {a b : Addr} {p q : Qt} (ha : ob K H a = some (frt p)) (hb : ob K H b = some (frt q)) (e : p = q) : Eqv K H 2 (.ref a) (.ref b) := by
  subst e
  exact (eqv_tup (xs := [.int p.1, .int p.2]) ha hb rfl (by show 2 ≤ 1000; decide)).up
theorem eqv_rows {H : Hp} {a b : Addr} {xs ys : List V} {qs : List Qt} (oa : ob K H a = some (.lst xs)) (o2 : ob K H b = some (.lst ys)) (hx : Rws K H xs qs) (hy : Rws K H ys qs) (hl : qs.length ≤ 1000) : Eqv K H 2 (.ref a) (.ref b) := by
  refine .inr ⟨a, b, xs, ys, rfl, rfl, .inr ⟨oa, o2⟩, by rw [hx.1, hy.1], by rw [hy.1]; exact hl, fun i x y ex ey => ?_⟩
  have hi : i < qs.length := by rw [← hx.1]; exact (List.getElem?_eq_some_iff.mp ex).1
  obtain ⟨c, rfl, oc⟩ := hx.2 i x _ ex (List.getElem?_eq_getElem hi)
  obtain ⟨d, rfl, od⟩ := hy.2 i y _ ey (List.getElem?_eq_getElem hi)
  exact eqv_tup oc od rfl (by show 2 ≤ 1000; decide)
end
end My

namespace My
open PySem PySem.Spec PyProof.Rows L2
section
variable {P : Program} {w : World} {K : PySem.W.Frag} {mg : Str → Option Value} {base : Heap}
theorem sum_sz {p q z : Qt} {i j k : Nat} (h : sum2 p q z) (hp : Nf p) (hq : Nf q) (sp : Sz i p) (sq : Sz j q) (l : i + j < k) : Sz k z :=
  is_sz (mul_ne hp.1 hq.1) h (szAdd (szMul sp.1 sq.2) (szMul sq.1 sp.2) (by omega) (by omega)) (szMono (szMul sp.2 sq.2) (by omega))
theorem ap_sum {H : Hp} {Q : VK} {a b : Addr} {p q : Qt} {j k : Nat} (hp : Fq K H j a p) (hq : Fq K H k b q) (h : ∀ z c H', sum2 p q z → Same H H' → Fq K H' (j + k + 1) c z → Q (.ref c) H') (hj : j ≤ 3000 := by omega) (hk : k ≤ 3000 := by omega) (E : XK := C8.E0) : spBin K sum2 [.ref a, .ref b] H Q E :=
  ⟨a, b, p, q, rfl, hp.mono hj, hq.mono hk, fun z hz c H' s o => h z c H' hz s ⟨o, hz.1, sum_sz hz hp.nf hq.nf hp.sz hq.sz (by omega)⟩⟩
def spFits (K : PySem.W.Frag) : Nat → Sp
  | 0 => fun _ _ _ _ => False
  | n + 1 => fun vs H Q _ => ∃ x, vs = [x] ∧ ((∃ i : Int, x = .int i ∧ ∀ H', Same H H' → Q (.bl (decide (i.natAbs < 10 ^ 40))) H') ∨ (∃ (a : Addr) (p : Qt), n ≠ 0 ∧ x = .ref a ∧ ob K H a = some (.tup [.int p.1, .int p.2]) ∧ ∀ H', Same H H' → Q (.bl (decide (p.1.natAbs < 10 ^ 40) && decide (p.2.natAbs < 10 ^ 40))) H'))
def FitI (K : PySem.W.Frag) (a : Addr) (p : Qt) (H : Hp) (i : Nat) (σ : L2.St) (H' : Hp) : Prop := ∃ y, σ = [some (.ref a), y] ∧ Same H H' ∧ (1 ≤ i → p.1.natAbs < 10 ^ 40) ∧ (2 ≤ i → p.2.natAbs < 10 ^ 40)
abbrev sFits : Stmt := topS 36
theorem scFits : FnScope ["_law_thing", "_law_item"] ["_law_thing"] (defScope sFits) := ⟨rfl, rfl, rfl, by decide +kernel, rfl, by decide +kernel, by decide +kernel⟩
theorem k_Fits (n : Nat) (T : Bt K mg) (D : Dfn K mg "_law_fits" sFits ["_law_thing"]) (d__law_fits : Kn P w K mg base n "_law_fits" ["_law_thing"] (spFits K n)) : Kn P w K mg base (n + 1) "_law_fits" ["_law_thing"] (spFits K (n + 1)) := by
  refine Kn.mk' D scFits (fun vs H Q E h => ?_) (fun f cdv A outer s H vs Q E hr h => ?_)
  · obtain ⟨x, rfl, _⟩ := h
    rfl
  obtain ⟨x, rfl, h⟩ := h
  refine ⟨_, (pss_cons (ps_if (pt_val (pe_callB call_isT (by rfl) T.b_isinstance (by decide +kernel) (pa_cons (pv 0) (pa_cons (pe_tp (pa_cons (pe_bltn (v := .ty "list") (by rfl) T.b_list (by decide +kernel) rfl) (pa_cons (pe_bltn (v := .ty "tuple") (by rfl) T.b_tuple (by decide +kernel) rfl) pa_nil))) pa_nil)))) (pss_cons (ps_for PassesOwn.never rfl (pi_tup (pv 0)) (pg_name (i := 1) scFits.nd rfl (.inl rfl)) (pss_one (ps_if (pt_not (pt_val (pe_kn d__law_fits hr (by rfl) (pa_cons (pv 1) pa_nil)))) (pss_one (ps_ret pe_bl)) pss_nil)))
      (pss_one (ps_ret pe_bl))) pss_nil)
      (pss_one (ps_ret (pe_or (pe_not (pe_callB call_isN (by rfl) T.b_isinstance (by decide +kernel) (pa_cons (pv 0) (pa_cons (pe_bltn (v := .ty "int") (by rfl) T.b_int (by decide +kernel) rfl) pa_nil)))) (pe_one (pe_cmpR op_lt (pe_callB call_abs (by rfl) T.b_abs (by decide +kernel) (pa_cons (pv 0) pa_nil)) (pe_op op_pow pe_int pe_int) (nomark _))))))), ?_⟩
  rcases h with ⟨i, rfl, k⟩ | ⟨a, p, hn, rfl, oa, k⟩
  · simp only [cx_K, decide_true, decide_false, reduceCtorEq, gTp, gCons, gNil, ca_0, ca_1, ca_2, ca_3, ca_4, ca_5, ca_6, ca_7, ca_8, ca_9, ca_10, ca_11, ca_12, ca_13, ca_14, ca_15, ca_16, ca_17, ca_18, ca_19, ca_20, ca_21, ca_22, ca_23, ca_24, ca_25, ca_26, ca_27, ca_28, ca_29, ca_30, not_true_eq_false, not_false_eq_true, Int.reduceEq, Nat.reduceEqDiff, Nat.reduceLeDiff, rGcd, V.ty.injEq, eq_self, List.not_mem_nil, beq_self_eq_true, HO.lst.injEq, HO.tup.injEq, tFor_eq, iRng1, iList, iTup, nat10, tSeq, rIxA, rSetA, rIsN, rIsT, tTp, tLs, itsO_tup, itsO_lst, tyO_tup, tyO_lst, tyO_dK, tyN_non, tyN_bl, tyN_int, tyN_str, tyN_ref, tyNs_lt, isB, upd_same, upd_upd, sizeLine_eq, List.mem_cons, String.reduceBEq, String.reduceEq, Bool.or_false, Bool.or_true, Bool.and_false, Bool.false_or, Bool.and_self, Bool.false_and, Bool.not_false, Bool.not_true, List.any_cons, List.any_nil, atI_0, setI_0, atI_1, setI_1, atI_2, setI_2, atI_3, setI_3, atI_4, setI_4, atI_5, setI_5, atI_6, setI_6, tAsg, gName, tOp, tUn, tVar, tC, tCons, L2.tNil, tRet, tIfS, tTest, tCB, tCall, rI, rI0, rU, tNext, tB, tAnd, tOr, tNot, tAndV, tOrV, tNotV, tDrop, tIf, tPar, gSub, rIxL, rIxT, rEq, rNe, rSetL, tBits,
    L2.start, List.map_cons, List.map_nil, List.cons_append, List.nil_append, List.append_nil, List.length_cons, List.length_nil, List.replicate, Nat.reduceAdd, Nat.reduceSub, Nat.zero_add, List.getElem?_cons_zero, List.getElem?_cons_succ, List.set_cons_zero, List.set_cons_succ,
    Option.some.injEq, exists_eq_left', exists_eq_left, V.int.injEq, V.bl.injEq, V.ref.injEq, V.str.injEq, List.cons.injEq, reduceCtorEq, and_true, true_and, false_and, and_false, exists_false, or_false, false_or, or_true, true_or, exists_const, CMul, CDiv, CPow, and_assoc, exists_and_left, exists_and_right, Int.reducePow, Int.reduceNeg, Int.reduceLT, Int.reduceLE, Nat.reducePow, Nat.reduceLT, Int.reduceToNat, gt_iff_lt, ge_iff_le, decide_eq_true_eq, Bool.not_eq_true', decide_eq_false_iff_not, scal, ↓reduceIte, Bool.false_eq_true]
    intro p hp kp
    have s1 := Same.new hp (.tup [V.ty "list", V.ty "tuple"])
    generalize upd H p (.tup [V.ty "list", V.ty "tuple"]) = H1 at s1 ⊢
    have e : decide ((if i < 0 then -i else i) < 10000000000000000000000000000000000000000) = decide (i.natAbs < 10 ^ 40) := decide_eq_decide.mpr (by omega)
    rw [e]
    exact k H1 s1
  · simp only [oa, cx_K, decide_true, decide_false, reduceCtorEq, gTp, gCons, gNil, ca_0, ca_1, ca_2, ca_3, ca_4, ca_5, ca_6, ca_7, ca_8, ca_9, ca_10, ca_11, ca_12, ca_13, ca_14, ca_15, ca_16, ca_17, ca_18, ca_19, ca_20, ca_21, ca_22, ca_23, ca_24, ca_25, ca_26, ca_27, ca_28, ca_29, ca_30, not_true_eq_false, not_false_eq_true, Int.reduceEq, Nat.reduceEqDiff, Nat.reduceLeDiff, rGcd, V.ty.injEq, eq_self, List.not_mem_nil, beq_self_eq_true, HO.lst.injEq, HO.tup.injEq, tFor_eq, iRng1, iList, iTup, nat10, tSeq, rIxA, rSetA, rIsN, rIsT, tTp, tLs, itsO_tup, itsO_lst, tyO_tup, tyO_lst, tyO_dK, tyN_non, tyN_bl, tyN_int, tyN_str, tyN_ref, tyNs_lt, isB, upd_same, upd_upd, sizeLine_eq, List.mem_cons, String.reduceBEq, String.reduceEq, Bool.or_false, Bool.or_true, Bool.and_false, Bool.false_or, Bool.and_self, Bool.false_and, Bool.not_false, Bool.not_true, List.any_cons, List.any_nil, atI_0, setI_0, atI_1, setI_1, atI_2, setI_2, atI_3, setI_3, atI_4, setI_4, atI_5, setI_5, atI_6, setI_6, tAsg, gName, tOp, tUn, tVar, tC, tCons, L2.tNil, tRet, tIfS, tTest, tCB, tCall, rI, rI0, rU, tNext, tB, tAnd, tOr, tNot, tAndV, tOrV, tNotV, tDrop, tIf, tPar, gSub, rIxL, rIxT, rEq, rNe, rSetL, tBits,
    L2.start, List.map_cons, List.map_nil, List.cons_append, List.nil_append, List.append_nil, List.length_cons, List.length_nil, List.replicate, Nat.reduceAdd, Nat.reduceSub, Nat.zero_add, List.getElem?_cons_zero, List.getElem?_cons_succ, List.set_cons_zero, List.set_cons_succ,
    Option.some.injEq, exists_eq_left', exists_eq_left, V.int.injEq, V.bl.injEq, V.ref.injEq, V.str.injEq, List.cons.injEq, reduceCtorEq, and_true, true_and, false_and, and_false, exists_false, or_false, false_or, or_true, true_or, exists_const, CMul, CDiv, CPow, and_assoc, exists_and_left, exists_and_right, Int.reducePow, Int.reduceNeg, Int.reduceLT, Int.reduceLE, Nat.reducePow, Nat.reduceLT, Int.reduceToNat, gt_iff_lt, ge_iff_le, decide_eq_true_eq, Bool.not_eq_true', decide_eq_false_iff_not, scal, ↓reduceIte, Bool.false_eq_true]
    intro p1 hp kp
    have s1 := Same.new hp (.tup [V.ty "list", V.ty "tuple"])
    generalize upd H p1 (.tup [V.ty "list", V.ty "tuple"]) = H1 at s1 ⊢
    have oa1 := ob_same s1 oa
    obtain ⟨n, rfl⟩ : ∃ m, n = m + 1 := ⟨n - 1, by omega⟩
    refine ⟨_, by rw [oa1]; rfl, if_yes rfl ⟨⟨_, ob_tup oa1⟩, forI_tup (xs := [.int p.1, .int p.2]) (FitI K a p H) ⟨none, rfl, s1, by omega, by omega⟩ ?_ ?_ ?_⟩⟩
    · rintro i σ H' _ ⟨y, rfl, s2, _, _⟩
      exact ob_tup (ob_same s2 oa)
    · rintro i x σ H' hi ⟨y, rfl, s2, b1, b2⟩
      match i with
      | 0 =>
        cases hi
        refine ⟨_, rfl, _, rfl, .inl ⟨_, rfl, fun H2 s3 => ⟨_, rfl, ?_⟩⟩⟩
        have s23 := s2.trans s3
        refine ite2 (fun h => ?_) (fun h => ?_)
        · have e : (decide (p.1.natAbs < 10 ^ 40) && decide (p.2.natAbs < 10 ^ 40)) = false := by rw [Bool.and_eq_false_iff]; exact .inl (by simpa using h)
          rw [e] at k
          exact k H2 s23
        · exact ⟨_, rfl, s23, fun _ => by simpa using h, fun z => by omega⟩
      | 1 =>
        cases hi
        refine ⟨_, rfl, _, rfl, .inl ⟨_, rfl, fun H2 s3 => ⟨_, rfl, ?_⟩⟩⟩
        have s23 := s2.trans s3
        refine ite2 (fun h => ?_) (fun h => ?_)
        · have e : (decide (p.1.natAbs < 10 ^ 40) && decide (p.2.natAbs < 10 ^ 40)) = false := by rw [Bool.and_eq_false_iff]; exact .inr (by simpa using h)
          rw [e] at k
          exact k H2 s23
        · exact ⟨_, rfl, s23, fun _ => b1 (by omega), fun _ => by simpa using h⟩
      | j + 2 => cases hi
    · rintro σ H' ⟨y, rfl, s2, b1, b2⟩
      have c1 := b1 (by show 1 ≤ 2; decide)
      have c2 := b2 (by show 2 ≤ 2; decide)
      have e : (decide (p.1.natAbs < 10 ^ 40) && decide (p.2.natAbs < 10 ^ 40)) = true := by rw [decide_eq_true c1, decide_eq_true c2]; rfl
      rw [e] at k
      exact k H' s2
end
end My

namespace My
open PySem PySem.Spec PyProof.Rows L2
section
variable {P : Program} {w : World} {K : PySem.W.Frag} {mg : Str → Option Value} {base : Heap}
end
/-! ### what a def that raises keeps -/
structure KnX (P : Program) (w : World) (K : PySem.W.Frag) (mg : Str → Option Value) (base : Heap) (k : Nat) (x : Str) (ps : List Str) (sp : Sp) : Prop where
  ex : ∃ f fd, mg x = some (.ref f) ∧ PySem.W.keepIn K (.ref f) = true ∧ Binds K fd ps [] ∧ FnOk P w K mg base (L2.CX P w) k f fd ps sp
theorem KnX.mk' {P : Program} {w : World} {K : PySem.W.Frag} {mg : Str → Option Value} {base : Heap} {x : Str} {st : Stmt} {N ps : List Str} {k : Nat} {sp : Sp} (D : Dfn K mg x st ps) (S : FnScope N ps (defScope st)) (len : ∀ vs H Q E, sp vs H Q E → vs.length = ps.length)
    (hbody : ∀ (f : Addr) (cdv : Value) (A : Around) (outer : List Env) (s : Shared) (H : Hp) (vs : List V) (Q : VK) (E : XK), Room k (A.deeper (envOfC x (defScope st) s.heap.objs.size f cdv)) → sp vs H Q E →
      ∃ t, PSs (cxOf (L2.CX P w) P w K mg base N x (defScope st) f cdv A outer s H E) (defBody st) t ∧ t { nx := fun _ H' => Q .non H', rt := Q } (start N vs) H) : KnX P w K mg base (k + 1) x ps sp := by
  obtain ⟨f, fd, F, m, b⟩ := D.ex
  exact ⟨f, fd, m, F.kp, b, F.okX S len (hbody f)⟩
section
variable {X : Cx}
theorem pe_knX {j k : Nat} {x : Str} {ps : List Str} {sp : Sp} {p pos : Pos} {e : Expr} {es : List Expr} {t : TA} {W : WX} (E : XK) (F : KnX X.prog X.w X.K X.mg X.base k x ps sp) (hr : Room j X.A) (hg : Gl X x) (tk : Takes X W) (hW : ∀ cls d σ H, E cls d H → W cls d σ H) (ha : PA X (e :: es) t) (hj : k ≤ j := by omega)
    (hdb : (x == ("__debug__" : Str)) = false := by decide) (he : starEach (e :: es) X.env = (false, eval e X.env) :: starEach es X.env := by rfl) (hpl : (backTo pos (starEach es X.env)).any (·.1) = false := by rfl) :
    PE X (.Call (.Name x p) (e :: es) [] pos) (tCall sp [] E t) := by
  obtain ⟨f, fd, m, kp, b, G⟩ := F.ex
  exact pe_call G (hr.mono hj) hg m kp b .nil (passes_call tk hW) ha hdb he hpl
end
/-! ### BadValue -/
structure BvT (K : PySem.W.Frag) (mg : Str → Option Value) (C : Addr) : Prop where
  g : mg "BadValue" = some (.ref C)
  ox : OexC K C
  no : PySem.W.findIn K (.ref C) "what" = some none
  ini : ∃ fI fd, PySem.W.findIn K (.ref C) "__init__" = some (some (.ref fI)) ∧ PySem.W.typeIn K (.ref fI) = some (.type "function") ∧ Fun K "__init__" "BadValue.__init__" (inClass (topS 3) 0) fI fd ∧ Binds K fd ["self", "what"] []
def spInit (C : Addr) : Sp := fun vs H Q _ => ∃ (a : Addr) (y : V), vs = [.ref a, y] ∧ H a = some (exo a C none) ∧ ∀ dx, H dx = none → dx ≠ a → Q .non (upd (upd H dx (exd dx [("what", y)])) a (exo a C (some dx)))
/-- an error of BadValue: its own dict d, what it names -/
def Bv (K : PySem.W.Frag) (C : Addr) (H : Hp) (E : XK) (y : V) : Prop := ∀ (d : Addr) (H' : Hp), Same H H' → H' d = some (.xd [("what", y)]) → E (.ref C) (some d) H'
def spRequireX (K : PySem.W.Frag) (C : Addr) : Sp := fun vs H _ E => ∃ y : V, vs = [.bl false, y] ∧ Bv K C H E y
section
variable {P : Program} {w : World} {K : PySem.W.Frag} {mg : Str → Option Value} {base : Heap}
abbrev sInitB : Stmt := inClass (topS 3) 0
theorem scInitB : FnScope ["self", "what"] ["self", "what"] (defScope sInitB) := ⟨rfl, rfl, rfl, by decide +kernel, rfl, by decide +kernel, by decide +kernel⟩
theorem ok_initB {C fI : Addr} {fd : FuncData} (B : BvT K mg C) (F : Fun K "__init__" "BadValue.__init__" sInitB fI fd) : FnOk P w K mg base CX0 1 fI fd ["self", "what"] (spInit C) := by
  refine F.ok scInitB (fun vs H Q E h => ?_) (fun cdv A outer s H vs Q E hr h => ?_)
  · obtain ⟨a, y, rfl, _⟩ := h
    rfl
  obtain ⟨a, y, rfl, ha, k⟩ := h
  refine ⟨_, pss_one (ps_ost (pv 0) (pv 1)), ?_⟩
  exact ⟨_, rfl, _, rfl, a, C, rfl, B.ox, B.no, .inl ⟨ha, k⟩⟩
theorem kx_Require {C : Addr} (B : BvT K mg C) (D : Dfn K mg "require" sRequire ["well_formed", "what"]) : KnX P w K mg base 3 "require" ["well_formed", "what"] (spRequireX K C) := by
  refine KnX.mk' D scRequire (fun vs H Q E h => ?_) (fun f cdv A outer s H vs Q E hr h => ?_)
  · obtain ⟨y, rfl, _⟩ := h
    rfl
  obtain ⟨y, rfl, k⟩ := h
  obtain ⟨fI, fd, iC, tI, F, b⟩ := B.ini
  refine ⟨_, (pss_one (ps_if (pt_not (pt_val (pv 0))) (pss_one (ps_raise rfl (takes_of rfl rfl rfl rfl) (pmk_oex B.ox iC tI (ok_initB B F) hr b .nil pass0 (by rfl) B.g (pa_cons (pv 1) pa_nil)))) pss_nil)), ?_⟩
  refine ⟨_, rfl, _, rfl, iteT ?_⟩
  refine ⟨_, rfl, by show 1 ≤ 1000; decide, fun a na => ⟨a, y, rfl, upd_same, fun dx ndx ne => ⟨rfl, dx, [("what", y)], upd_same, ?_, ?_, ?_⟩⟩⟩
  · rw [upd_ne ne, upd_same]
  · rw [upd_ne ne] at ndx
    exact ndx
  · rw [upd_ne ne] at ndx
    refine k dx _ (fun b o e => ?_) upd_same
    rw [upd_ne (ne_of_none e ndx), del_ne (ne_of_none e na), upd_ne (ne_of_none e na), upd_ne (ne_of_none e ndx), upd_ne (ne_of_none e na)]
    exact e
end
end My

namespace My
open PySem PySem.Spec PyProof.Rows L2
section
variable {P : Program} {w : World} {K : PySem.W.Frag} {mg : Str → Option Value} {base : Heap}
end
/-- what the written part says of the errors' classes: C is BadValue, S SkyError, A the eleven by name -/
structure AskT (K : PySem.W.Frag) (mg : Str → Option Value) (C S : Addr) (A : String → Addr) : Prop where
  sky : mg "SkyError" = some (.ref S)
  exm : PySem.W.exmOne K (.ref C) (.ref S) = some true
  g : ∀ n ∈ ["BadValue", "Mismatch", "Still", "Endless", "TooMany", "NoName", "Taken", "Locked", "Looped", "Broken", "ReadError"], mg (Str.ofString n) = some (.ref (A n))
  k : ∀ n ∈ ["BadValue", "Mismatch", "Still", "Endless", "TooMany", "NoName", "Taken", "Locked", "Looped", "Broken", "ReadError"], PySem.W.kitOne K (.ref C) (.ref (A n)) = some (n == "BadValue")
  ve : PySem.W.kitOne K (.ref C) (.type "ValueError") = some true
  b_VE : mg "ValueError" = none
  hcl : (PySem.W.clsIn K C).isSome = true
  hga : PySem.W.findIn K (.ref C) "__getattribute__" = some (some (.builtin "BaseException.__getattribute__"))
  hgt : PySem.W.findIn K (.ref C) "__getattr__" = some none
  hsub : PySem.W.subIn K (.ref C) (.type "BaseException") = some true
  ha : PySem.W.findIn K (.ref C) "__class__" = some (some (.builtin "object.__class__"))
  hn : PySem.W.specialIn K (.builtin "object.__class__") "__get__" = some (some (.builtin "getset_descriptor.__get__"))
  htk : PySem.W.takesIn K (.builtin "object.__class__") = some true
  hm : PySem.W.mroIn K C (.type "object") = some true
  xf : XfC K C
/-- isinstance of a caught error that has its dict -/
def kitV (K : PySem.W.Frag) (C : Addr) : V → Option Bool
  | .ref D => PySem.W.kitOne K (.ref C) (.ref D)
  | .ty n => PySem.W.kitOne K (.ref C) (.type n)
  | _ => none
def rIsX (K : PySem.W.Frag) (C a : Addr) (cls : Value) (d : Option Addr) : List V → Hp → VK → Prop := fun xs H Q => ∃ c, xs = [.ref a, c] ∧ cls = .ref C ∧ ∃ dd, d = some dd ∧ (∃ fs, H dd = some (.xd fs)) ∧ ∃ b, kitV K C c = some b ∧ Q (.bl b) H
theorem call_isX {X : Cx} {C S a : Addr} {A : String → Addr} {oe : Obj} {cls : Value} {d : Option Addr} {pn : List (Addr × Obj)} (T : AskT X.K X.mg C S A) (hz : Zc cls d oe) (hf : ∃ vs, oe.data = .fields vs) : CallR (X.suite a ((a, oe) :: pn)) (.builtin "isinstance") (rIsX X.K C a cls d) := fun pins s σ H xs us Q I r h => by
  obtain ⟨c, rfl, rfl, dd, rfl, ⟨fs, hfs⟩, b, hb, q⟩ := h
  obtain ⟨u1, u2, rfl, r1, r2⟩ := vals2 r
  cases r1
  obtain ⟨hget, _⟩ := I.pin (a, oe) (List.mem_append.mpr (.inl List.mem_cons_self))
  obtain ⟨vs, hv⟩ := hf
  obtain ⟨mA, ⟨od, es, ep, ho, hr0⟩, hr⟩ := (show ObjOk X.prog X.w H s.heap dd (.xd fs) from I.hok dd _ hfs)
  have J : PySem.W.InstAt s.heap a oe C (some od) := ⟨hget, hz.1, by unfold PySem.W.notCls; rw [hv] <;> rfl, by rw [hz.2]; exact ho⟩
  have Z := PySem.W.kitx_exc (K := X.K) (C := C) (x := a) (ox := oe) (od := some od) T.hcl T.hga T.hgt T.hsub T.ha T.hn T.htk T.hm
  cases c with
  | ref D =>
    obtain rfl : u2 = Value.ref D := r2
    exact PySem.W.kia_one Z I.kIn J hb (fun z => nomatch z) fun tk => ⟨.bl b, H, I.kept (t' := tk) fun _ _ z => z, rfl, q⟩
  | ty n =>
    obtain rfl : u2 = Value.type n := r2
    exact PySem.W.kia_one Z I.kIn J hb (fun z => nomatch z) fun tk => ⟨.bl b, H, I.kept (t' := tk) fun _ _ z => z, rfl, q⟩
  | _ => cases hb
def rLenA (K : PySem.W.Frag) : List V → Hp → VK → Prop := fun xs H Q => ∃ p, xs = [.ref p] ∧ ∃ ys, itsO (ob K H p) = some ys ∧ Q (.int ys.length) H
/-- a wish of the right number of slots is wish enough -/
theorem takes_len {X : Cx} {W : WX} (t : Takes X W) : Takes X (fun cls d σ H => σ.length = X.N.length → W cls d σ H) := fun u s' ⟨a, B, sI, pins, σ, H, cls, d, e, I, nb, up, sky, na, os, ag, w⟩ =>
  t u s' ⟨a, B, sI, pins, σ, H, cls, d, e, I, nb, up, sky, na, os, ag, w I.len⟩
/-- what the law's asking makes of a call: told, or BadValue and what it names -/
def TAsk (K : PySem.W.Frag) (C : Addr) : (XK → Hp → VK → Prop) → Hp → VK → Prop := fun tl H Q =>
  tl (fun cls d H' => cls = .ref C ∧ ∃ dd y, d = some dd ∧ H' dd = some (.xd [("what", y)]) ∧ ∀ p H'', Same H' H'' → ob K H'' p = some (.tup [.str "BadValue", y]) → Q (.ref p) H'') H
    (fun v H1 => ([V.str "told", v] : List V).length ≤ sizeLine ∧ ∀ p, H1 p = none → K.lookup p = none → Q (.ref p) (upd H1 p (.tup [.str "told", v])))
end My

namespace My
open PySem PySem.Spec PyProof.Rows L2
section
variable {X : Cx}
/-- xs.count(y), flat items -/
def rCountF (K : PySem.W.Frag) : V → List V → Hp → VK → Prop := fun x xs H Q => ∃ (a : Addr) (ys : List V) (y : V), x = V.ref a ∧ xs = [y] ∧ SqL K H a ys ∧ flatV y = true ∧ ys.all flatV = true ∧ Q (.int ((ys.countP fun z => eqV z y : Nat) : Int)) H
theorem countF {y : V} : ∀ {ys : List V} {its : List Value}, Vals ys its → ys.all flatV = true → its.countP (eqU y) = ys.countP fun z => eqV z y
  | _, _, .nil, _ => rfl
  | z :: zs, u :: us, .cons r rs, h => by
    rw [List.all_cons, Bool.and_eq_true] at h
    rw [List.countP_cons, List.countP_cons, countF rs h.2, eqU_of r h.1]
theorem mt_countF : MtR X "list.count" (rCountF X.K) := by
  intro pins s σ H x xs v us Q I rx rxs h
  obtain ⟨a, ys, y, rfl, rfl, hs, fy, fys, q⟩ := h
  cases rx
  cases rxs with
  | cons ry rt =>
    rename_i uy ut
    cases rt
    obtain ⟨its, rv, ⟨⟨cls, dd, data, sl⟩, n, ho, hc, hdn, hd⟩, hlen⟩ := I.list hs
    simp only at hc hd
    subst hc hd
    refine call_meets PySem.F.slot_list_count ⟨_, ho, rfl⟩ PySem.F.entry_list_count (PySem.F.args_list_count_2 _ _)
      (SeqAt.list_countAt a its.toArray n dd sl uy (eqU y)) ⟨ho, fun u' hu' => mem_eqAt ry fy rv fys u' (by simpa using hu'), ?_⟩
    refine ⟨.int ((ys.countP fun z => eqV z y : Nat) : Int), H, I.tok _, ⟨s.toks, ?_⟩, q⟩
    show Value.int ((its.toArray.toList.countP (eqU y) : Nat) : Int) s.toks = _
    rw [show its.toArray.toList = its from rfl, countF rv fys]
end
/-- isinstance of a caught error that has its dict, of none of a tuple of classes -/
def rIsXT (K : PySem.W.Frag) (C a : Addr) (cls : Value) (d : Option Addr) : List V → Hp → VK → Prop := fun xs H Q => ∃ (tp : Addr) (cs : List Addr), xs = [.ref a, .ref tp] ∧ cls = .ref C ∧ ∃ dd, d = some dd ∧ (∃ fs, H dd = some (.xd fs)) ∧ SqT K H tp (cs.map V.ref) ∧ (∀ c ∈ cs, PySem.W.kitOne K (.ref C) (.ref c) = some false) ∧ Q (.bl false) H
theorem kitAny_no {K : PySem.W.Frag} {t : Value} : ∀ {its : List Value}, (∀ u ∈ its, PySem.W.kitOne K t u = some false) → PySem.W.kitAny K t its = some false
  | [], _ => rfl
  | u :: us, h => by
    show (match PySem.W.kitOne K t u with | some true => some true | some false => PySem.W.kitAny K t us | none => none) = some false
    rw [h u List.mem_cons_self]
    exact kitAny_no fun c hc => h c (List.mem_cons_of_mem _ hc)
theorem refs_mem : ∀ {cs : List Addr} {its : List Value}, Vals (cs.map V.ref) its → ∀ u ∈ its, ∃ c ∈ cs, u = .ref c
  | [], _, .nil, u, hu => by cases hu
  | c :: cs, v :: its, .cons r rs, u, hu => by
    rcases List.mem_cons.mp hu with rfl | hu
    · exact ⟨c, List.mem_cons_self, r⟩
    · obtain ⟨d, hd, e⟩ := refs_mem rs u hu
      exact ⟨d, List.mem_cons_of_mem _ hd, e⟩
theorem call_isXT {X : Cx} {C S a : Addr} {A : String → Addr} {oe : Obj} {cls : Value} {d : Option Addr} {pn : List (Addr × Obj)} (T : AskT X.K X.mg C S A) (hz : Zc cls d oe) (hf : ∃ vs, oe.data = .fields vs) : CallR (X.suite a ((a, oe) :: pn)) (.builtin "isinstance") (rIsXT X.K C a cls d) := fun pins s σ H xs us Q I r h => by
  obtain ⟨tp, cs, rfl, rfl, dd, rfl, ⟨fs, hfs⟩, htp, hno, q⟩ := h
  obtain ⟨u1, u2, rfl, r1, r2⟩ := vals2 r
  cases r1
  obtain ⟨hget, _⟩ := I.pin (a, oe) (List.mem_append.mpr (.inl List.mem_cons_self))
  obtain ⟨vs, hv⟩ := hf
  obtain ⟨mA, ⟨od, es, ep, ho, hr0⟩, hr⟩ := (show ObjOk X.prog X.w H s.heap dd (.xd fs) from I.hok dd _ hfs)
  have J : PySem.W.InstAt s.heap a oe C (some od) := ⟨hget, hz.1, by unfold PySem.W.notCls; rw [hv] <;> rfl, by rw [hz.2]; exact ho⟩
  have Z := PySem.W.kitx_exc (K := X.K) (C := C) (x := a) (ox := oe) (od := some od) T.hcl T.hga T.hgt T.hsub T.ha T.hn T.htk T.hm
  obtain ⟨its, rv, ⟨⟨tc, tdd, tdata, tsl⟩, tho, thc, tn, thd⟩, _⟩ := I.tuple htp
  simp only at thc thd
  subst thc thd
  obtain rfl : u2 = Value.ref tp := r2
  exact PySem.W.kia_tup Z I.kIn J tho (kitAny_no fun u hu => by
    obtain ⟨c, hc, rfl⟩ := refs_mem rv u (by simpa using hu)
    exact hno c hc) (fun z => nomatch z) fun tk => ⟨.bl false, H, I.kept (t' := tk) fun _ _ z => z, rfl, q⟩
end My

namespace My
open PySem PySem.Spec PyProof.Rows L2
section
variable {P : Program} {w : World} {K : PySem.W.Frag} {mg : Str → Option Value} {base : Heap}
end
abbrev sTold : Stmt := topS 45
theorem scTold : FnScope ["_law_call", "e", "_law_strange", "_law_kinds"] ["_law_call"] (defScope sTold) := ⟨rfl, rfl, rfl, by decide +kernel, rfl, by decide +kernel, by decide +kernel⟩

theorem told_gives {X : Cx} {C S : Addr} {A : String → Addr} {g : Addr} {cdg : Value} {q : Str} (Z : Bt X.K X.mg) (B : BvT X.K X.mg C) (T : AskT X.K X.mg C S A) : LamX.GivesTo X ["_law_call", "e", "_law_strange", "_law_kinds"] "_law_told" (defScope sTold) g cdg (defBody sTold) "_law_call" q (TAsk X.K C) := by
  intro f c' s H Q tl act hc h
  refine ⟨_, pss_one (ps_try_as (X := (cxOf C8.CX0 X.prog X.w X.K X.mg X.base ["_law_call", "e", "_law_strange", "_law_kinds"] "_law_told" (defScope sTold) g cdg X.A X.stack s H C8.E0).nox) (i := 1) (c := .ref S)
      (tb := fun W D σ H => ∃ Ech : XK, (∀ cls d σ' H', Ech cls d H' → σ'.length = 4 → W cls d σ' H') ∧ tRet (tTp X.K (tCons (tC (.str "told")) (tCons (fun σZ HZ Q => σZ[0]? = some (some (.ref f)) ∧ HZ c' = some (LamX.CodeO c' q) ∧ tl Ech HZ Q) L2.tNil))) D σ H)
      rfl rfl scTold.nd rfl rfl ⟨rfl, by decide, .inl T.sky⟩ takes0 (fun W pn xe tk _ => ?_) (fun a oe cls d pn hz hf => (pss_cons (ps_set (i := 2) scTold.nd rfl (.inl rfl) (pe_callB (call_isXT (X := (cxOf C8.CX0 X.prog X.w X.K X.mg X.base ["_law_call", "e", "_law_strange", "_law_kinds"] "_law_told" (defScope sTold) g cdg X.A X.stack s H C8.E0).nox) (a := a) (pn := pn) T hz hf) (by rfl) Z.b_isinstance (by decide +kernel) (pa_cons (pv 1) (pa_cons (show PE (Cx.suite (cxOf C8.CX0 X.prog X.w X.K X.mg X.base ["_law_call", "e", "_law_strange", "_law_kinds"] "_law_told" (defScope sTold) g cdg X.A X.stack s H C8.E0).nox a ((a, oe) :: pn)) _ (tTp X.K (tCons (tC (.ref (A "TooMany"))) (tCons (tC (.ref (A "NoName"))) (tCons (tC (.ref (A "Taken"))) (tCons (tC (.ref (A "Mismatch"))) (tCons (tC (.ref (A "Still"))) (tCons (tC (.ref (A "Endless"))) (tCons (tC (.ref (A "Looped"))) (tCons (tC (.ref (A "Broken"))) (tCons (tC (.ref (A "Locked"))) (tCons (tC (.ref (A "ReadError"))) L2.tNil))))))))))) from pe_tp (pa_cons (pe_glob (v := .ref (A "TooMany")) (by rfl) (T.g "TooMany" (by decide)) rfl) (pa_cons (pe_glob (v := .ref (A "NoName")) (by rfl) (T.g "NoName" (by decide)) rfl) (pa_cons (pe_glob (v := .ref (A "Taken")) (by rfl) (T.g "Taken" (by decide)) rfl) (pa_cons (pe_glob (v := .ref (A "Mismatch")) (by rfl) (T.g "Mismatch" (by decide)) rfl) (pa_cons (pe_glob (v := .ref (A "Still")) (by rfl) (T.g "Still" (by decide)) rfl) (pa_cons (pe_glob (v := .ref (A "Endless")) (by rfl) (T.g "Endless" (by decide)) rfl) (pa_cons (pe_glob (v := .ref (A "Looped")) (by rfl) (T.g "Looped" (by decide)) rfl) (pa_cons (pe_glob (v := .ref (A "Broken")) (by rfl) (T.g "Broken" (by decide)) rfl) (pa_cons (pe_glob (v := .ref (A "Locked")) (by rfl) (T.g "Locked" (by decide)) rfl) (pa_cons (pe_glob (v := .ref (A "ReadError")) (by rfl) (T.g "ReadError" (by decide)) rfl) pa_nil))))))))))) pa_nil))))
      (pss_cons (ps_set (i := 3) scTold.nd rfl (.inl rfl) (show PE (Cx.suite (cxOf C8.CX0 X.prog X.w X.K X.mg X.base ["_law_call", "e", "_law_strange", "_law_kinds"] "_law_told" (defScope sTold) g cdg X.A X.stack s H C8.E0).nox a ((a, oe) :: pn)) _ (tLs X.K (tCons (tCB (rIsX X.K C a cls d) (tCons (tVar 1) (tCons (tC (.ref (A "BadValue"))) L2.tNil))) L2.tNil)) from pe_ls (pa_cons (pe_callB (call_isX (X := (cxOf C8.CX0 X.prog X.w X.K X.mg X.base ["_law_call", "e", "_law_strange", "_law_kinds"] "_law_told" (defScope sTold) g cdg X.A X.stack s H C8.E0).nox) (a := a) (pn := pn) T hz hf) (by rfl) Z.b_isinstance (by decide +kernel) (pa_cons (pv 1) (pa_cons (pe_glob (v := .ref (A "BadValue")) (by rfl) (T.g "BadValue" (by decide)) rfl) pa_nil))) pa_nil)))
      (pss_cons (ps_if (PW.pt (pw_or (pt_val (pv 2)) (pw_or (pt_cmpR op_ne (show PE (Cx.suite (cxOf C8.CX0 X.prog X.w X.K X.mg X.base ["_law_call", "e", "_law_strange", "_law_kinds"] "_law_told" (defScope sTold) g cdg X.A X.stack s H C8.E0).nox a ((a, oe) :: pn)) _ (tBM X.K "list" (rCountF X.K) (tVar 3) (tCons (tC (.bl true)) L2.tNil)) from pe_bm PySem.F.plainAttrs_list PySem.F.slot_list_count PySem.F.type_list_count (show MtR (Cx.suite (cxOf C8.CX0 X.prog X.w X.K X.mg X.base ["_law_call", "e", "_law_strange", "_law_kinds"] "_law_told" (defScope sTold) g cdg X.A X.stack s H C8.E0).nox a ((a, oe) :: pn)) "list.count" (rCountF X.K) from mt_countF) (pv 3) (pa_cons pe_bl pa_nil)) pe_int (nomark _)) (pw_or1 (pt_not (pt_val (pe_callB (call_isX (X := (cxOf C8.CX0 X.prog X.w X.K X.mg X.base ["_law_call", "e", "_law_strange", "_law_kinds"] "_law_told" (defScope sTold) g cdg X.A X.stack s H C8.E0).nox) (a := a) (pn := pn) T hz hf) (by rfl) Z.b_isinstance (by decide +kernel) (pa_cons (pv 1) (pa_cons (pe_bltn (v := .ty "ValueError") (by rfl) T.b_VE (by decide +kernel) rfl) pa_nil))))))))) (pss_one ps_never) pss_nil)
      (pss_one (ps_ret (show PE (Cx.suite (cxOf C8.CX0 X.prog X.w X.K X.mg X.base ["_law_call", "e", "_law_strange", "_law_kinds"] "_law_told" (defScope sTold) g cdg X.A X.stack s H C8.E0).nox a ((a, oe) :: pn)) _ (tTp X.K (tCons (tC (.str "BadValue")) (tCons (tXf a cls d C "what" (tVar 1)) L2.tNil))) from pe_tp (pa_cons pe_str (pa_cons (pe_xf (X := (cxOf C8.CX0 X.prog X.w X.K X.mg X.base ["_law_call", "e", "_law_strange", "_law_kinds"] "_law_told" (defScope sTold) g cdg X.A X.stack s H C8.E0).nox) (a := a) (pn := pn) T.xf B.no hz hf (pv 1)) pa_nil)))))))))), ?_⟩
  · refine ⟨fun pins s' σ H' D I h' => ?_⟩
    obtain ⟨Ech, hW, h2⟩ := h'
    exact (pss_one (ps_ret (pe_tp (pa_cons pe_str (pa_cons (act _ pn xe Ech _ _ (takes_len tk) (fun cls d σ' H' e l => hW cls d σ' H' e l)) pa_nil))))).run pins s' σ H' D I h2
  · refine ⟨fun cls d H' => cls = .ref C ∧ ∃ dd y, d = some dd ∧ H' dd = some (.xd [("what", y)]) ∧ ∀ p H'', Same H' H'' → ob X.K H'' p = some (.tup [.str "BadValue", y]) → Q (.ref p) H'', fun cls d σ' H' e l => ?_, rfl, hc, h⟩
    obtain ⟨rfl, dd, y, rfl, hd, k⟩ := e
    obtain ⟨x0, x1, x2, x3, rfl⟩ : ∃ x0 x1 x2 x3, σ' = [x0, x1, x2, x3] := by
      match σ', l with
      | [x0, x1, x2, x3], _ => exact ⟨x0, x1, x2, x3, rfl⟩
    refine ⟨true, T.exm, fun _ a ha => ?_, fun z => nomatch z⟩
    refine ⟨_, rfl, sz2 (by show 10 ≤ 100; decide), fun tp htp ktp => ?_⟩
    have st := Same.new htp (.tup [V.ref (A "TooMany"), V.ref (A "NoName"), V.ref (A "Taken"), V.ref (A "Mismatch"), V.ref (A "Still"), V.ref (A "Endless"), V.ref (A "Looped"), V.ref (A "Broken"), V.ref (A "Locked"), V.ref (A "ReadError")])
    have hd1 : upd H' tp (.tup [V.ref (A "TooMany"), V.ref (A "NoName"), V.ref (A "Taken"), V.ref (A "Mismatch"), V.ref (A "Still"), V.ref (A "Endless"), V.ref (A "Looped"), V.ref (A "Broken"), V.ref (A "Locked"), V.ref (A "ReadError")]) dd = some (.xd [("what", y)]) := st _ _ hd
    refine ⟨tp, [A "TooMany", A "NoName", A "Taken", A "Mismatch", A "Still", A "Endless", A "Looped", A "Broken", A "Locked", A "ReadError"], rfl, rfl, dd, rfl, ⟨_, hd1⟩, ob_tup (ob_new ktp), fun c hc => ?_, ?_⟩
    · simp only [List.mem_cons, List.not_mem_nil, or_false] at hc
      rcases hc with rfl | rfl | rfl | rfl | rfl | rfl | rfl | rfl | rfl | rfl
      · exact (T.k "TooMany" (by decide)).trans rfl
      · exact (T.k "NoName" (by decide)).trans rfl
      · exact (T.k "Taken" (by decide)).trans rfl
      · exact (T.k "Mismatch" (by decide)).trans rfl
      · exact (T.k "Still" (by decide)).trans rfl
      · exact (T.k "Endless" (by decide)).trans rfl
      · exact (T.k "Looped" (by decide)).trans rfl
      · exact (T.k "Broken" (by decide)).trans rfl
      · exact (T.k "Locked" (by decide)).trans rfl
      · exact (T.k "ReadError" (by decide)).trans rfl
    generalize upd H' tp (.tup [V.ref (A "TooMany"), V.ref (A "NoName"), V.ref (A "Taken"), V.ref (A "Mismatch"), V.ref (A "Still"), V.ref (A "Endless"), V.ref (A "Looped"), V.ref (A "Broken"), V.ref (A "Locked"), V.ref (A "ReadError")]) = H1 at st hd1 ⊢
    refine ⟨_, rfl, .ref (A "BadValue"), rfl, rfl, dd, rfl, ⟨_, hd1⟩, true, (T.k "BadValue" (by decide)).trans rfl, sz2 (by show 1 ≤ 100; decide), fun l hl kl => ?_⟩
    have sl := Same.new hl (.lst [V.bl true])
    have hd2 := sl _ _ hd1
    have ol : upd H1 l (.lst [V.bl true]) l = some (.lst [V.bl true]) := upd_same
    have s2 := st.trans sl
    generalize upd H1 l (.lst [V.bl true]) = H2 at sl hd2 ol s2 ⊢
    refine ⟨_, rfl, false, rfl, iteF ⟨_, rfl, .inl ⟨rfl, _, .of ol⟩, l, [.bl true], .bl true, rfl, rfl, .of ol, rfl, rfl, rfl, false, rfl, iteF ?_⟩⟩
    refine ⟨_, rfl, .ty "ValueError", rfl, rfl, dd, rfl, ⟨_, hd2⟩, true, T.ve, true, rfl, iteF ?_⟩
    refine ⟨_, rfl, rfl, rfl, dd, _, y, rfl, hd2, rfl, sz2 (by show 2 ≤ 100; decide), fun p hp kp => ?_⟩
    have s3 := Same.new hp (.tup [.str "BadValue", y])
    exact k p _ (s2.trans s3) (ob_new kp)
end My

namespace My
open PySem PySem.Spec PyProof.Rows L2
section
variable {P : Program} {w : World} {K : PySem.W.Frag} {mg : Str → Option Value} {base : Heap}
section
variable {X : Cx}
/-- what is tracked is none of the written part's -/
def tFr (K : PySem.W.Frag) (t : TE) : TE := fun σ H Q => t σ H fun v H' => (∀ a, H' a ≠ none → K.lookup a = none) → Q v H'
theorem pe_fr {e : Expr} {t : TE} (h : PE X e t) : PE X e (tFr X.K t) := ⟨fun pins s σ H Q I hw => thn (h.run pins s σ H _ I hw) fun u s1 ⟨v, H1, I1, r, q⟩ => ⟨v, H1, I1, r, q fun a ha => by
  cases z : X.K.lookup a with
  | none => rfl
  | some o => exact absurd (I1.bs a o (I1.ok.mod.kin a o z)).2 ha⟩⟩
end
theorem cut1 (x : V) (xs : List V) : cutV (x :: xs) (some 1) none = xs := by
  have e : HT.sIx (x :: xs).length 0 (some 1) = 1 := by
    have := HT.sIx_nat (x :: xs).length 0 1
    rw [List.length_cons] at this ⊢
    rw [show ((1 : Nat) : Int) = 1 from rfl] at this
    rw [this]
    omega
  unfold cutV
  rw [e, HT.sIx_none, List.drop_succ_cons, List.drop_zero, List.length_cons, Nat.add_sub_cancel, List.take_length]
/-! ### the value of a row of terms -/
def valF : List Int → Qt
  | [] => (1, 0)
  | t :: r => (t * (valF r).1 + (valF r).2, (valF r).1)
theorem stp_val : ∀ (ts : List Int) (b l : Qt), (stp b l ts).2 = (l.1 * (valF ts).1 + b.1 * (valF ts).2, l.2 * (valF ts).1 + b.2 * (valF ts).2)
  | [], b, l => Prod.ext (by show l.1 = l.1 * 1 + b.1 * 0; omega) (by show l.2 = l.2 * 1 + b.2 * 0; omega)
  | t :: r, b, l => by
    show (stp l (adv b l t) r).2 = _
    rw [stp_val r]
    refine Prod.ext ?_ ?_
    · show (b.1 + t * l.1) * (valF r).1 + l.1 * (valF r).2 = l.1 * (t * (valF r).1 + (valF r).2) + b.1 * (valF r).1
      grind
    · show (b.2 + t * l.2) * (valF r).1 + l.2 * (valF r).2 = l.2 * (t * (valF r).1 + (valF r).2) + b.2 * (valF r).1
      grind
theorem val_stp (ts : List Int) : valF ts = (stp (0, 1) (1, 0) ts).2 := by
  rw [stp_val]
  exact Prod.ext (by show _ = 1 * (valF ts).1 + 0 * (valF ts).2; omega) (by show _ = 0 * (valF ts).1 + 1 * (valF ts).2; omega)
theorem stp_det : ∀ (ts : List Int) (b l : Qt), (l.1 * b.2 - l.2 * b.1 = 1 ∨ l.1 * b.2 - l.2 * b.1 = -1) → ((stp b l ts).2.1 * (stp b l ts).1.2 - (stp b l ts).2.2 * (stp b l ts).1.1 = 1 ∨ (stp b l ts).2.1 * (stp b l ts).1.2 - (stp b l ts).2.2 * (stp b l ts).1.1 = -1)
  | [], _, _, h => h
  | t :: r, b, l, h => by
    refine stp_det r l (adv b l t) ?_
    show (b.1 + t * l.1) * l.2 - (b.2 + t * l.2) * l.1 = 1 ∨ (b.1 + t * l.1) * l.2 - (b.2 + t * l.2) * l.1 = -1
    have e3 : (b.1 + t * l.1) * l.2 - (b.2 + t * l.2) * l.1 = -(l.1 * b.2 - l.2 * b.1) := by grind
    rw [e3]
    rcases h with z | z <;> omega
theorem val_pos : ∀ {r : List Int}, (∀ t ∈ r, 1 ≤ t) → 1 ≤ (valF r).1 ∧ 0 ≤ (valF r).2 ∧ (valF r).2 ≤ (valF r).1
  | [], _ => ⟨by decide, by decide, by decide⟩
  | t :: r, h => by
    obtain ⟨a, b, c⟩ := val_pos (r := r) fun t ht => h t (List.mem_cons_of_mem _ ht)
    have t1 := h t List.mem_cons_self
    have m : 1 * (valF r).1 ≤ t * (valF r).1 := Int.mul_le_mul_of_nonneg_right t1 (by omega)
    show 1 ≤ t * (valF r).1 + (valF r).2 ∧ 0 ≤ (valF r).1 ∧ (valF r).1 ≤ t * (valF r).1 + (valF r).2
    omega
/-- terms: one at least, all but the first 1 or more -/
def TOk (ts : List Int) : Prop := ts ≠ [] ∧ ∀ t ∈ ts.tail, 1 ≤ t
theorem val_nf {ts : List Int} (h : TOk ts) : Nf (valF ts) := by
  have d2 : 1 ≤ (valF ts).2 := by
    match ts, h with
    | t :: r, h => exact (val_pos (r := r) h.2).1
  rw [val_stp] at d2 ⊢
  exact nf_det d2 (stp_det ts _ _ (.inl (by decide)))
theorem eu_val : ∀ (ts : List Int), TOk ts → (∀ pre t, ts = pre ++ [t] → pre ≠ [] → 2 ≤ t) → Eu (valF ts).1 (valF ts).2 ts
  | [], h, _ => absurd rfl h.1
  | [t], _, _ => by
    show 0 < (1 : Int) ∧ t = (t * 1 + 0) / 1 ∧ (t * 1 + 0) % 1 = 0
    refine ⟨by decide, by omega, by omega⟩
  | t :: s :: r, h, hl => by
    have s1 : 1 ≤ s := h.2 s List.mem_cons_self
    have hr : ∀ u ∈ r, 1 ≤ u := fun u hu => h.2 u (List.mem_cons_of_mem _ hu)
    have ih := eu_val (s :: r) ⟨by simp, hr⟩ fun pre u e _ => hl (t :: pre) u (by rw [e]; rfl) (by simp)
    obtain ⟨p1, p2, p3⟩ := val_pos hr
    have m : 1 * (valF r).1 ≤ s * (valF r).1 := Int.mul_le_mul_of_nonneg_right s1 (by omega)
    have q2 : (valF (s :: r)).2 < (valF (s :: r)).1 := by
      show (valF r).1 < s * (valF r).1 + (valF r).2
      match r, hr, hl with
      | [], _, hl =>
        have := hl [t] s rfl (by simp)
        show (1 : Int) < s * 1 + 0
        omega
      | u :: r', hr, _ =>
        have := (val_pos (r := r') fun w hw => hr w (List.mem_cons_of_mem _ hw)).1
        have e : (valF (u :: r')).2 = (valF r').1 := rfl
        omega
    have q0 : 0 ≤ (valF (s :: r)).2 := by show 0 ≤ (valF r).1; omega
    show 0 < (valF (s :: r)).1 ∧ t = (t * (valF (s :: r)).1 + (valF (s :: r)).2) / (valF (s :: r)).1 ∧ Eu (valF (s :: r)).1 ((t * (valF (s :: r)).1 + (valF (s :: r)).2) % (valF (s :: r)).1) (s :: r)
    generalize valF (s :: r) = q at *
    have e1 : (t * q.1 + q.2) / q.1 = t := by
      rw [Int.add_comm, Int.add_mul_ediv_right _ _ (by omega), Int.ediv_eq_zero_of_lt q0 q2, Int.zero_add]
    have e2 : (t * q.1 + q.2) % q.1 = q.2 := by
      rw [Int.add_comm, Int.add_mul_emod_self_right, Int.emod_eq_of_lt q0 q2]
    rw [e1, e2]
    exact ⟨by omega, rfl, ih⟩
theorem val_merge (a : Int) : ∀ pre : List Int, valF (pre ++ [a, 1]) = valF (pre ++ [a + 1])
  | [] => Prod.ext (by show a * (1 * 1 + 0) + 1 = (a + 1) * 1 + 0; omega) (by show (1 : Int) * 1 + 0 = 1; omega)
  | t :: r => by
    show (t * (valF (r ++ [a, 1])).1 + (valF (r ++ [a, 1])).2, (valF (r ++ [a, 1])).1) = (t * (valF (r ++ [a + 1])).1 + (valF (r ++ [a + 1])).2, (valF (r ++ [a + 1])).1)
    rw [val_merge a r]
/-- what Euclid's division gives: the terms after the first -/
theorem eu_tl : ∀ {ts : List Int} {x y : Int}, Eu x y ts → 0 ≤ y → y < x → (∀ t ∈ ts, 1 ≤ t) ∧ ∀ pre t, ts = pre ++ [t] → 2 ≤ t
  | [], _, _, _, _, _ => ⟨fun t ht => absurd ht (by simp), fun pre t e => by simp at e⟩
  | u :: r, x, y, h, y0, yx => by
    have p : 0 < y := h.1
    have hu : u = x / y := h.2.1
    have m0 := Int.emod_nonneg x (show y ≠ 0 by omega)
    have m1 := Int.emod_lt_of_pos x p
    obtain ⟨a, b⟩ := eu_tl h.2.2 m0 m1
    have u1 : 1 ≤ u := by rw [hu]; exact Int.le_ediv_of_mul_le p (by omega)
    refine ⟨fun t ht => ?_, fun pre t e => ?_⟩
    · rcases List.mem_cons.mp ht with rfl | ht
      · exact u1
      · exact a t ht
    · match pre, e with
      | [], e =>
        have e' : u = t ∧ r = [] := by simpa using e
        obtain ⟨rfl, rfl⟩ := e'
        have z : x % y = 0 := h.2.2
        have q := Int.emod_add_mul_ediv x y
        rw [← hu, z] at q
        rcases Int.lt_or_le 1 u with w | w
        · omega
        · have : u = 1 := by omega
          rw [this] at q
          omega
      | w :: pre, e =>
        have e' : u = w ∧ r = pre ++ [t] := by simpa using e
        exact b pre t e'.2
theorem eu_val_of {v : Qt} (nv : Nf v) {ts : List Int} (he : Eu v.1 v.2 ts) : ts ≠ [] ∧ valF ts = v ∧ TOk ts ∧ (∀ pre t, ts = pre ++ [t] → pre ≠ [] → 2 ≤ t) ∧ ∃ r, ts = v.1 / v.2 :: r := by
  have d1 := nv.1
  match ts, he with
  | [], he =>
    have : v.2 = 0 := he
    omega
  | t :: r, he =>
    have m0 := Int.emod_nonneg v.1 (show v.2 ≠ 0 by omega)
    have m1 := Int.emod_lt_of_pos v.1 (show 0 < v.2 by omega)
    obtain ⟨a, b⟩ := eu_tl he.2.2 m0 m1
    refine ⟨by simp, ?_, ⟨by simp, a⟩, fun pre u e hp => ?_, r, by rw [he.2.1]⟩
    · obtain ⟨x, y, c, y0, yx, l1, e⟩ := eu_ci he d1 (t :: r).length (by simp) (Nat.le_refl _)
      rw [List.take_length] at c l1
      rw [List.drop_length] at e
      have yz : y = 0 := e
      have e1 := c.e1
      have e2 := c.e2
      rw [yz, Int.mul_zero, Int.add_zero] at e1 e2
      have x1 : x = 1 := by
        have d1 : x ∣ v.1 := ⟨_, by rw [e1, Int.mul_comm]⟩
        have d2 : x ∣ v.2 := ⟨_, by rw [e2, Int.mul_comm]⟩
        have d3 := Int.dvd_coe_gcd d1 d2
        rw [nv.2] at d3
        have := Int.le_of_dvd (by decide) d3
        omega
      rw [x1, Int.mul_one] at e1 e2
      rw [val_stp]
      exact Prod.ext e1.symm e2.symm
    · match pre, e, hp with
      | w :: pre, e, _ =>
        have e' : t = w ∧ r = pre ++ [u] := by simpa using e
        exact b pre u e'.2
/-! ### sizes -/
def wsum : List Int → Nat
  | [] => 0
  | t :: r => (Nat.log2 t.natAbs + 2) + wsum r
theorem val_sz : ∀ ts : List Int, Sz (1 + wsum ts) (valF ts)
  | [] => ⟨by show (1 : Int).natAbs < 2 ^ 1; decide, by show (0 : Int).natAbs < 2 ^ 1; decide⟩
  | t :: r => by
    have h := val_sz r
    have ht : t.natAbs < 2 ^ (Nat.log2 t.natAbs + 1) := Nat.lt_log2_self
    exact ⟨szAdd (szMul ht h.1) h.2 (by show _ ≤ 1 + ((Nat.log2 t.natAbs + 2) + wsum r); omega) (by show _ ≤ 1 + ((Nat.log2 t.natAbs + 2) + wsum r); omega), szMono h.1 (by show _ ≤ 1 + ((Nat.log2 t.natAbs + 2) + wsum r); omega)⟩
theorem wsum_le {k : Nat} (hk : 1 ≤ k) : ∀ {ts : List Int}, (∀ t ∈ ts, t.natAbs < 2 ^ k) → wsum ts ≤ ts.length * (k + 1)
  | [], _ => Nat.zero_le _
  | t :: r, h => by
    have ih := wsum_le hk (ts := r) fun u hu => h u (List.mem_cons_of_mem _ hu)
    have h1 : Nat.log2 t.natAbs ≤ k - 1 := by
      by_cases z : t.natAbs = 0
      · rw [z]
        have : Nat.log2 0 = 0 := by decide
        omega
      · have := (Nat.log2_lt z).mpr (h t List.mem_cons_self)
        omega
    show (Nat.log2 t.natAbs + 2) + wsum r ≤ (r.length + 1) * (k + 1)
    rw [Nat.add_mul]
    omega
theorem wsum_cons (t : Int) (r : List Int) : wsum (t :: r) = (Nat.log2 t.natAbs + 2) + wsum r := rfl
theorem wsum_app : ∀ (ts us : List Int), wsum (ts ++ us) = wsum ts + wsum us
  | [], us => (Nat.zero_add _).symm
  | t :: ts, us => by
    show (Nat.log2 t.natAbs + 2) + wsum (ts ++ us) = ((Nat.log2 t.natAbs + 2) + wsum ts) + wsum us
    rw [wsum_app ts us]
    omega
theorem Kn.weak {k : Nat} {x : Str} {ps : List Str} {sp sp' : Sp} (h : Kn P w K mg base k x ps sp) (wk : ∀ vs H Q E, sp' vs H Q E → sp vs H Q E) : Kn P w K mg base k x ps sp' := by
  obtain ⟨f, fd, m, kp, b, F⟩ := h.ex
  exact ⟨f, fd, m, kp, b, ⟨fun vs H Q E q => F.len vs H Q E (wk vs H Q E q), fun A outer s H args us vs Q E hr e hb r q => F.run A outer s H args us vs Q E hr e hb r (wk vs H Q E q)⟩⟩
def spListA (K : PySem.W.Frag) : Sp := fun vs H Q _ => ∃ (v : V) (lo hi : Int), vs = [v, .int lo, .int hi] ∧ ((∃ (a : Addr) (xs : List V), v = .ref a ∧ ob K H a = some (.lst xs) ∧ Q (.bl (decide (lo ≤ (xs.length : Int)) && decide ((xs.length : Int) ≤ hi))) H) ∨ ∃ t, tyN K H v = some t ∧ t ≠ "list" ∧ Q (.bl false) H)
abbrev sListA : Stmt := topS 17
theorem scListA : FnScope ["value", "least", "most"] ["value", "least", "most"] (defScope sListA) := ⟨rfl, rfl, rfl, by decide +kernel, rfl, by decide +kernel, by decide +kernel⟩
theorem k_ListA (T : Bt K mg) (D : Dfn K mg "is_list_within" sListA ["value", "least", "most"]) : Kn P w K mg base 1 "is_list_within" ["value", "least", "most"] (spListA K) := by
  refine Kn.mk' D scListA (fun vs H Q E h => ?_) (fun f cdv A outer s H vs Q E hr h => ?_)
  · obtain ⟨v, lo, hi, rfl, _⟩ := h
    rfl
  obtain ⟨v, lo, hi, rfl, h⟩ := h
  refine ⟨_, (pss_one (ps_ret (pe_and (pe_callB call_isN (by rfl) T.b_isinstance (by decide +kernel) (pa_cons (pv 0) (pa_cons (pe_bltn (v := .ty "list") (by rfl) T.b_list (by decide +kernel) rfl) pa_nil))) (pe_one (pe_chain op_le op_le (pv 1) (pe_callB call_lenA (by rfl) T.b_len PySem.boot_len (pa_cons (pv 0) pa_nil)) (pv 2)))))), ?_⟩
  rcases h with ⟨a, xs, rfl, o, k⟩ | ⟨t, ht, nt, k⟩
  · have ty : tyN K H (.ref a) = some "list" := by rw [tyN_ref, o]; rfl
    have oi := itsO_ofL o
    refine ⟨_, rfl, _, _, rfl, by decide, _, ty, _, rfl, if_yes rfl ?_⟩
    simp only [tChain, oi, cx_K, decide_true, decide_false, reduceCtorEq, gTp, gCons, gNil, ca_0, ca_1, ca_2, ca_3, ca_4, ca_5, ca_6, ca_7, ca_8, ca_9, ca_10, ca_11, ca_12, ca_13, ca_14, ca_15, ca_16, ca_17, ca_18, ca_19, ca_20, ca_21, ca_22, ca_23, ca_24, ca_25, ca_26, ca_27, ca_28, ca_29, ca_30, not_true_eq_false, not_false_eq_true, Int.reduceEq, Nat.reduceEqDiff, Nat.reduceLeDiff, rGcd, V.ty.injEq, eq_self, List.not_mem_nil, beq_self_eq_true, HO.lst.injEq, HO.tup.injEq, tFor_eq, iRng1, iList, iTup, nat10, tSeq, rIxA, rSetA, rIsN, rIsT, tTp, tLs, itsO_tup, itsO_lst, tyO_tup, tyO_lst, tyO_dK, tyN_non, tyN_bl, tyN_int, tyN_str, tyN_ref, tyNs_lt, isB, upd_same, upd_upd, sizeLine_eq, List.mem_cons, String.reduceBEq, String.reduceEq, Bool.or_false, Bool.or_true, Bool.and_false, Bool.false_or, Bool.and_self, Bool.false_and, Bool.not_false, Bool.not_true, List.any_cons, List.any_nil, atI_0, setI_0, atI_1, setI_1, atI_2, setI_2, atI_3, setI_3, atI_4, setI_4, atI_5, setI_5, atI_6, setI_6, tAsg, gName, tOp, tUn, tVar, tC, tCons, L2.tNil, tRet, tIfS, tTest, tCB, tCall, rI, rI0, rU, tNext, tB, tAnd, tOr, tNot, tAndV, tOrV, tNotV, tDrop, tIf, tPar, gSub, rIxL, rIxT, rEq, rNe, rSetL, tBits,
    L2.start, List.map_cons, List.map_nil, List.cons_append, List.nil_append, List.append_nil, List.length_cons, List.length_nil, List.replicate, Nat.reduceAdd, Nat.reduceSub, Nat.zero_add, List.getElem?_cons_zero, List.getElem?_cons_succ, List.set_cons_zero, List.set_cons_succ,
    Option.some.injEq, exists_eq_left', exists_eq_left, V.int.injEq, V.bl.injEq, V.ref.injEq, V.str.injEq, List.cons.injEq, reduceCtorEq, and_true, true_and, false_and, and_false, exists_false, or_false, false_or, or_true, true_or, exists_const, CMul, CDiv, CPow, and_assoc, exists_and_left, exists_and_right, Int.reducePow, Int.reduceNeg, Int.reduceLT, Int.reduceLE, Nat.reducePow, Nat.reduceLT, Int.reduceToNat, gt_iff_lt, ge_iff_le, decide_eq_true_eq, Bool.not_eq_true', decide_eq_false_iff_not, scal, ↓reduceIte, Bool.false_eq_true]
    refine ite2 (fun h => ?_) (fun h => ?_)
    · rw [decide_eq_true h, Bool.true_and] at k
      exact k
    · rw [decide_eq_false h, Bool.false_and] at k
      exact k
  · refine ⟨_, rfl, _, _, rfl, by decide, _, ht, _, rfl, if_no ?_ k⟩
    have mt := tyN_mem ht
    simp only [List.mem_cons, List.not_mem_nil, or_false] at mt
    rcases mt with rfl | rfl | rfl | rfl | rfl | rfl | rfl <;> first | rfl | exact absurd rfl nt
def badV (x : V) : Bool := match x with
  | .int i => decide (i < 1)
  | _ => true
def okV (x : V) : Bool := wholeV x && !badV x
def TmA (K : PySem.W.Frag) (H : Hp) (v : V) (Q : VK) : Prop := (∃ t, tyN K H v = some t ∧ t ≠ "list" ∧ Q (.bl false) H) ∨ ∃ (a : Addr) (xs : List V), v = .ref a ∧ ob K H a = some (.lst xs) ∧ (((xs = [] ∨ 400 < xs.length) ∧ Q (.bl false) H) ∨ (xs.length ≤ 400 ∧ ∃ x0 r, xs = x0 :: r ∧ (∀ x ∈ xs, (tyN K H x).isSome) ∧ ∀ H', Same H H' → Q (.bl (wholeV x0 && r.all okV)) H'))
def spTermsA (K : PySem.W.Frag) : Sp := fun vs H Q _ => ∃ v, vs = [v] ∧ TmA K H v Q
def TcI (D : Addr) (r : List V) (H0 : Hp) (i : Nat) (H' : Hp) : Prop := H' D = some (.lst (((r.take i).map okV).map V.bl)) ∧ Same H0 H'
abbrev sTerms : Stmt := topS 25
theorem scTerms : FnScope ["value", "term"] ["value"] (defScope sTerms) := ⟨rfl, rfl, rfl, by decide +kernel, rfl, by decide +kernel, by decide +kernel⟩
theorem blkT : BlkOk ["value", "term"] (defScope sTerms) { kind := .function, names := [(".0", .local), ("term", .local), ("is_whole", .globalImplicit)], isGenerator := false, isCoroutine := false, more := [] } [("term", 1)] := ⟨rfl, by decide +kernel, by decide +kernel, by decide +kernel, by decide +kernel⟩
theorem k_Terms {tkM : Tok} (zA : mg "all" = none) (gMT : mg "MOST_TERMS" = some (.int 400 tkM)) (T : Bt K mg) (D : Dfn K mg "_are_terms" sTerms ["value"]) (d_is_list_within : Kn P w K mg base 1 "is_list_within" ["value", "least", "most"] (spListA K)) (d_is_whole : Kn P w K mg base 1 "is_whole" ["value"] (spWhole K)) : Kn P w K mg base 2 "_are_terms" ["value"] (spTermsA K) := by
  refine Kn.mk' D scTerms (fun vs H Q E h => ?_) (fun f cdv A outer s H vs Q E hr h => ?_)
  · obtain ⟨v, rfl, _⟩ := h
    rfl
  obtain ⟨v, rfl, h⟩ := h
  refine ⟨_, (pss_cons (ps_if (PW.pt (pw_or (pt_not (pt_val (pe_kn d_is_list_within hr (by rfl) (pa_cons (pv 0) (pa_cons pe_int (pa_cons (pe_glob (v := .int 400) (by rfl) gMT ⟨_, rfl⟩) pa_nil)))))) (pw_or1 (pt_not (pt_val (pe_kn d_is_whole hr (by rfl) (pa_cons (pe_ix ix_any (pv 0) pe_int (fun _ _ => rfl)) pa_nil))))))) (pss_one (ps_ret pe_bl)) pss_nil)
      (pss_one (ps_ret (pe_callB (cr_all rfl) (by rfl) zA (by decide +kernel) (pa_cons (pe_lc (own := [("term", 1)]) (g := gName 1) (te := tAndV (tCall (spWhole K) [] E0 (tCons (tVar 1) L2.tNil)) (tOp (rI0 fun i j => V.bl (decide (j ≤ i))) (tVar 1) (tC (.int 1)))) rfl scTerms.nd (pi_list (pe_fr (pe_slice sl_list (pv 0) (po_some pe_int) po_none))) blkT (fun _ _ _ _ _ => by exact pg_name (i := 1) scTerms.nd rfl (.inl rfl)) (fun _ _ _ _ _ => pts_nil) (fun _ _ _ _ _ => by exact pe_and (pe_kn d_is_whole hr (by rfl) (pa_cons (pv 1) pa_nil)) (pe_one (pe_cmpR op_ge (pv 1) pe_int (nomark _))))) pa_nil))))), ?_⟩
  rcases h with ⟨t, ht, nt, k⟩ | ⟨a, xs, rfl, o, h⟩
  · refine ⟨_, rfl, v, _, _, rfl, .inr ⟨t, ht, nt, _, rfl, ?_⟩⟩
    show if _ = true then _ else _
    exact if_yes rfl (if_yes rfl k)
  rcases h with ⟨hx, k⟩ | ⟨hl, x0, r, rfl, ty, k⟩
  · refine ⟨_, rfl, _, _, _, rfl, .inl ⟨a, xs, rfl, o, _, rfl, ?_⟩⟩
    show if _ = true then _ else _
    refine if_yes ?_ (if_yes rfl k)
    rcases hx with rfl | hx
    · rfl
    · rw [decide_eq_false (show ¬ ((xs.length : Int) ≤ 400) by omega), Bool.and_false]
      rfl
  refine ⟨_, rfl, _, _, _, rfl, .inl ⟨a, x0 :: r, rfl, o, _, rfl, ?_⟩⟩
  show if _ = true then _ else _
  refine if_no (by rw [decide_eq_true (show ((x0 :: r).length : Int) ≤ 400 by omega), decide_eq_true (show (1 : Int) ≤ ((x0 :: r).length : Int) by rw [List.length_cons]; omega)]; rfl) ?_
  refine ⟨_, rfl, a, 0, rfl, rfl, _, itsO_ofL o, _, atI_0 _ _, x0, rfl, ty x0 List.mem_cons_self, _, rfl, ?_⟩
  show if _ = true then _ else _
  cases hw : wholeV x0 with
  | false =>
    rw [hw, Bool.false_and] at k
    exact if_yes rfl (k H fun _ _ e => e)
  | true =>
    rw [hw, Bool.true_and] at k
    refine if_no rfl ?_
    refine ⟨_, rfl, 1, rfl, a, x0 :: r, rfl, ob_lst o, ?_⟩
    rw [cut1]
    refine fun p hp fr => ?_
    have s1 := Same.new hp (.lst r)
    have hp1 : upd H p (.lst r) p = some (.lst r) := upd_same
    have ty1 : ∀ x ∈ r, (tyN K (upd H p (.lst r)) x).isSome := fun x hx => tyS_same s1 (ty x (List.mem_cons_of_mem _ hx))
    have rl : r.length ≤ 400 := by rw [List.length_cons] at hl; omega
    generalize upd H p (.lst r) = H1 at s1 hp1 ty1 ⊢
    refine ⟨p, rfl, ⟨_, .of hp1⟩, fun D hD => lc_list (xs := r) (TcI D r H1) ⟨upd_same, Same.new hD _⟩ (fun i H' _ h => .of (h.2 _ _ hp1)) ?_ ?_⟩
    · rintro i x H' hi ⟨h, s2⟩
      refine ⟨rfl, ?_⟩
      simp only [tYes, if_true]
      have hx := List.mem_of_getElem? hi
      have il := (List.getElem?_eq_some_iff.mp hi).1
      have tx := tyS_same s2 (ty1 x hx)
      have fin : ∀ b, b = okV x → ∃ acc, H' D = some (.lst acc) ∧ acc.length < sizeLine ∧ TcI D r H1 (i + 1) (upd H' D (.lst (acc ++ [V.bl b]))) := fun b hb => by
        refine ⟨_, h, by rw [List.length_map, List.length_map, List.length_take, sizeLine_eq]; omega, ?_, fun c o e => ?_⟩
        · rw [upd_same, List.take_add_one, hi, hb]
          simp
        · rw [upd_ne (ne_of_none e hD)]
          exact s2 _ _ e
      refine ⟨_, rfl, x, rfl, tx, _, rfl, ?_⟩
      cases hwx : wholeV x with
      | false => exact if_no rfl (fin _ (by unfold okV; rw [hwx]; rfl))
      | true =>
        obtain ⟨n, rfl⟩ : ∃ n, x = .int n := by
          cases x with
          | int n => exact ⟨n, rfl⟩
          | _ => cases hwx
        refine if_yes rfl ⟨_, rfl, _, _, rfl, rfl, fin _ ?_⟩
        show decide (1 ≤ n) = (true && !decide (n < 1))
        rw [Bool.true_and, ← decide_not]
        exact decide_eq_decide.mpr (by omega)
    · rintro H' ⟨h, s2⟩
      rw [List.take_length] at h
      refine ⟨D, r.map okV, rfl, .of h, ?_⟩
      have e : (r.map okV).all id = r.all okV := by rw [List.all_map]; rfl
      rw [e]
      exact k H' (s1.trans s2)

end
end My

namespace My
open PySem PySem.Spec PyProof.Rows L2
section
variable {P : Program} {w : World} {K : PySem.W.Frag} {mg : Str → Option Value} {base : Heap}
theorem wsum_mem : ∀ {ts : List Int} {t : Int}, t ∈ ts → Nat.log2 t.natAbs + 2 ≤ wsum ts
  | [], _, h => absurd h (by simp)
  | u :: r, t, h => by
    rw [wsum_cons]
    rcases List.mem_cons.mp h with rfl | h
    · omega
    · have := wsum_mem h
      omega
theorem wsum_drop (ts : List Int) (i : Nat) : wsum (ts.drop i) ≤ wsum ts := by
  have := wsum_app (ts.take i) (ts.drop i)
  rw [List.take_append_drop] at this
  omega
theorem wsum_take (ts : List Int) (i : Nat) : wsum (ts.take i) ≤ wsum ts := by
  have := wsum_app (ts.take i) (ts.drop i)
  rw [List.take_append_drop] at this
  omega
theorem ap_termsG {H : Hp} {Q : VK} {a : Addr} {ts : List Int} (o : ob K H a = some (.lst (ts.map V.int))) (tk : TOk ts) (tl : ts.length ≤ 400) (k : ∀ H', Same H H' → Q (.bl true) H') : TmA K H (.ref a) Q := by
  match ts, tk, tl with
  | t :: r, tk, tl =>
    refine .inr ⟨a, _, rfl, o, .inr ⟨by rw [List.length_map]; exact tl, .int t, r.map V.int, rfl, fun x hx => ?_, fun H' s => ?_⟩⟩
    · obtain ⟨u, _, rfl⟩ := List.mem_map.mp hx
      rfl
    · have e : (r.map V.int).all okV = true := by
        rw [List.all_map, List.all_eq_true]
        intro u hu
        have := tk.2 u hu
        show (true && !decide (u < 1)) = true
        simp
        omega
      rw [e]
      exact k H' s
/-- what is no row of terms -/
def BadT (K : PySem.W.Frag) (H : Hp) (v : V) : Prop := (∃ t, tyN K H v = some t ∧ t ≠ "list") ∨ ∃ (a : Addr) (xs : List V), v = .ref a ∧ ob K H a = some (.lst xs) ∧ (xs = [] ∨ 400 < xs.length ∨ (xs.length ≤ 400 ∧ ∃ x0 r, xs = x0 :: r ∧ (∀ x ∈ xs, (tyN K H x).isSome) ∧ (wholeV x0 = false ∨ ∃ x ∈ r, okV x = false)))
theorem ap_termsB {H : Hp} {Q : VK} {v : V} (hb : BadT K H v) (k : ∀ H', Same H H' → Q (.bl false) H') : TmA K H v Q := by
  rcases hb with ⟨t, ht, nt⟩ | ⟨a, xs, rfl, o, hx⟩
  · exact .inl ⟨t, ht, nt, k H fun _ _ e => e⟩
  · refine .inr ⟨a, xs, rfl, o, ?_⟩
    rcases hx with hx | hx | ⟨hl, x0, r, rfl, ty, hx⟩
    · exact .inl ⟨.inl hx, k H fun _ _ e => e⟩
    · exact .inl ⟨.inr hx, k H fun _ _ e => e⟩
    · refine .inr ⟨hl, x0, r, rfl, ty, fun H' s => ?_⟩
      have e : (wholeV x0 && r.all okV) = false := by
        rcases hx with h | ⟨x, hx, h⟩
        · rw [h]; rfl
        · rw [show r.all okV = false from by
            rw [List.all_eq_false]
            exact ⟨x, hx, by rw [h]; exact Bool.noConfusion⟩, Bool.and_false]
      rw [e]
      exact k H' s
def spVal (K : PySem.W.Frag) : Sp := fun vs H Q _ => ∃ (a : Addr) (ts : List Int), vs = [.ref a] ∧ ob K H a = some (.lst (ts.map V.int)) ∧ TOk ts ∧ ts.length ≤ 400 ∧ wsum ts ≤ 80000 ∧ ∀ c H', Same H H' → ob K H' c = some (.tup [.int (valF ts).1, .int (valF ts).2]) → Q (.ref c) H'
def VaI (a : Addr) (ts : List Int) (H : Hp) (i : Nat) (σ : L2.St) (H' : Hp) : Prop := H' = H ∧ ∃ x3, σ = [some (.ref a), some (.int (valF (ts.drop (ts.length - i))).1), some (.int (valF (ts.drop (ts.length - i))).2), x3]
abbrev sVal : Stmt := topS 23
theorem scVal : FnScope ["terms", "numerator", "denominator", "term"] ["terms"] (defScope sVal) := ⟨rfl, rfl, rfl, by decide +kernel, rfl, by decide +kernel, by decide +kernel⟩
theorem k_Val (zR : mg "reversed" = none) (T : Bt K mg) (D : Dfn K mg "value_of" sVal ["terms"]) (d_require : Kn P w K mg base 1 "require" ["well_formed", "what"] spRequire) (d__are_terms : Kn P w K mg base 2 "_are_terms" ["value"] (spTermsA K)) : Kn P w K mg base 3 "value_of" ["terms"] (spVal K) := by
  refine Kn.mk' D scVal (fun vs H Q E h => ?_) (fun f cdv A outer s H vs Q E hr h => ?_)
  · obtain ⟨a, ts, rfl, _⟩ := h
    rfl
  obtain ⟨a, ts, rfl, o, tk, tl, ws, k⟩ := h
  refine ⟨_, (pss_cons (ps_expr (pe_kn d_require hr (by rfl) (pa_cons (pe_kn d__are_terms hr (by rfl) (pa_cons (pv 0) pa_nil)) (pa_cons pe_str pa_nil))))
      (pss_cons (ps_asg (pe_tp (pa_cons pe_int (pa_cons pe_int pa_nil))) (pg_tp 2 (by rfl) (pgs_cons (pg_name (i := 1) scVal.nd rfl (.inl rfl)) (pgs_cons (pg_name (i := 2) scVal.nd rfl (.inl rfl)) pgs_nil))))
      (pss_cons (ps_for PassesOwn.never rfl (pi_reversed (by rfl) zR (pa_cons (pv 0) pa_nil)) (pg_name (i := 3) scVal.nd rfl (.inl rfl)) (pss_one (ps_par (i := 1) (j := 2) (by rfl) scVal.nd rfl rfl (by decide) rfl rfl (pa_cons (pe_op op_add (pe_op op_mulW (pv 3) (pv 1)) (pv 2)) (pa_cons (pv 1) pa_nil)) (by rfl))))
      (pss_one (ps_ret (pe_tp (pa_cons (pv 1) (pa_cons (pv 2) pa_nil)))))))), ?_⟩
  refine ⟨_, rfl, _, rfl, ap_termsG o tk tl fun H1 s1 => ⟨_, rfl, ?_⟩⟩
  refine ⟨sz2 (by show 2 ≤ 100; decide), fun tp htp ktp => ⟨tp, rfl, _, ob_new ktp, rfl, _, _, rfl, _, _, rfl, rfl, ?_⟩⟩
  have s2 := Same.new htp (.tup [.int 1, .int 0])
  have o2 := ob_same (s1.trans s2) o
  generalize upd H1 tp (.tup [.int 1, .int 0]) = H2 at s2 o2 ⊢
  refine ⟨_, rfl, a, _, rfl, ob_lst o2, RT.for_Itv (xs := ts.map V.int) (VaI a ts H2) ⟨rfl, none, ?_⟩ (fun i σ H h => by rw [h.1]; exact ob_lst o2) ?_ ?_⟩
  · rw [Nat.sub_zero, List.drop_length]
    rfl
  · rintro i x σ H' hi hx ⟨rfl, x3, rfl⟩
    rw [List.length_map] at hi hx
    obtain ⟨t, rfl, ht⟩ : ∃ t, x = V.int t ∧ ts[ts.length - 1 - i]? = some t := by
      rw [List.getElem?_map] at hx
      cases e : ts[ts.length - 1 - i]? with
      | none => rw [e] at hx; cases hx
      | some z => rw [e] at hx; exact ⟨z, (Option.some.inj hx).symm, rfl⟩
    have ed : ts.drop (ts.length - (i + 1)) = t :: ts.drop (ts.length - i) := by
      rw [show ts.length - (i + 1) = ts.length - 1 - i by omega, List.drop_eq_getElem_cons (show ts.length - 1 - i < ts.length by omega), show ts.length - 1 - i + 1 = ts.length - i by omega]
      rw [List.getElem?_eq_getElem (show ts.length - 1 - i < ts.length by omega)] at ht
      rw [Option.some.inj ht]
    have w1 := wsum_mem (List.mem_of_getElem? ht)
    have w2 := wsum_drop ts (ts.length - i)
    have sz := val_sz (ts.drop (ts.length - i))
    have tz : t.natAbs < 2 ^ (Nat.log2 t.natAbs + 1) := Nat.lt_log2_self
    generalize hp : valF (ts.drop (ts.length - i)) = p at sz
    refine ⟨_, rfl, _, rfl, _, _, rfl, rfl, mulW tz sz.1 (by omega), _, rfl, _, _, rfl, rfl, _, rfl, _, _, rfl, rfl, some (.int t), ?_⟩
    rw [ed]
    show _ = ([some (V.ref a), some (V.int (t * (valF (ts.drop (ts.length - i))).1 + (valF (ts.drop (ts.length - i))).2)), some (V.int (valF (ts.drop (ts.length - i))).1), some (V.int t)] : L2.St)
    rw [hp]
    rfl
  · rintro σ H' ⟨rfl, x3, rfl⟩
    rw [List.length_map, Nat.sub_self, List.drop_zero]
    refine ⟨_, rfl, _, rfl, sz2 (by show 2 ≤ 100; decide), fun c hc kc => ?_⟩
    exact k c _ (s1.trans (s2.trans (Same.new hc _))) (ob_new kc)
def spValX (K : PySem.W.Frag) (C : Addr) : Sp := fun vs H _ E => ∃ v, vs = [v] ∧ BadT K H v ∧ Bv K C H E (.str "terms")
def spQX (K : PySem.W.Frag) (C : Addr) : Sp := fun vs H _ E => ∃ v, vs = [v] ∧ Gd K H v ∧ Bv K C H E (.str "value")
theorem kx_Val {C : Addr} (B : BvT K mg C) (D : Dfn K mg "value_of" sVal ["terms"]) (d_x : KnX P w K mg base 3 "require" ["well_formed", "what"] (spRequireX K C)) (d__are_terms : Kn P w K mg base 2 "_are_terms" ["value"] (spTermsA K)) : KnX P w K mg base 4 "value_of" ["terms"] (spValX K C) := by
  refine KnX.mk' D scVal (fun vs H Q E h => ?_) (fun f cdv A outer s H vs Q E hr h => ?_)
  · obtain ⟨v, rfl, _⟩ := h
    rfl
  obtain ⟨v, rfl, hb, k⟩ := h
  refine ⟨_, (pss_cons (ps_expr (pe_knX E d_x hr (by rfl) (takes_of rfl rfl rfl rfl) (fun _ _ _ _ h => h) (pa_cons (pe_kn d__are_terms hr (by rfl) (pa_cons (pv 0) pa_nil)) (pa_cons pe_str pa_nil)))) (pss_cons ps_never (pss_cons ps_never (pss_one ps_never)))), ?_⟩
  exact ⟨_, rfl, _, rfl, ap_termsB hb fun H1 s1 => ⟨_, rfl, fun d H' s2 hd => k d H' (s1.trans s2) hd⟩⟩
theorem kx_Quots {C : Addr} (B : BvT K mg C) (D : Dfn K mg "quotients" sQuots ["value"]) (d_x : KnX P w K mg base 3 "require" ["well_formed", "what"] (spRequireX K C)) (d_is_fraction : Kn P w K mg base 2 "is_fraction" ["value"] (spIsFraction K)) : KnX P w K mg base 4 "quotients" ["value"] (spQX K C) := by
  refine KnX.mk' D scQuots (fun vs H Q E h => ?_) (fun f cdv A outer s H vs Q E hr h => ?_)
  · obtain ⟨v, rfl, _⟩ := h
    rfl
  obtain ⟨v, rfl, hv, k⟩ := h
  refine ⟨_, (pss_cons (ps_expr (pe_knX E d_x hr (by rfl) (takes_of rfl rfl rfl rfl) (fun _ _ _ _ h => h) (pa_cons (pe_kn d_is_fraction hr (by rfl) (pa_cons (pv 0) pa_nil)) (pa_cons pe_str pa_nil)))) (pss_cons ps_never (pss_cons ps_never (pss_cons ps_never (pss_one ps_never))))), ?_⟩
  exact ⟨_, rfl, v, rfl, hv.ty, _, by rw [hv.no]; rfl, k⟩
theorem kx_Conv {C : Addr} (B : BvT K mg C) (D : Dfn K mg "convergents" sConv ["value"]) (d_x : KnX P w K mg base 3 "require" ["well_formed", "what"] (spRequireX K C)) (d_is_fraction : Kn P w K mg base 2 "is_fraction" ["value"] (spIsFraction K)) : KnX P w K mg base 4 "convergents" ["value"] (spQX K C) := by
  refine KnX.mk' D scConv (fun vs H Q E h => ?_) (fun f cdv A outer s H vs Q E hr h => ?_)
  · obtain ⟨v, rfl, _⟩ := h
    rfl
  obtain ⟨v, rfl, hv, k⟩ := h
  refine ⟨_, (pss_cons (ps_expr (pe_knX E d_x hr (by rfl) (takes_of rfl rfl rfl rfl) (fun _ _ _ _ h => h) (pa_cons (pe_kn d_is_fraction hr (by rfl) (pa_cons (pv 0) pa_nil)) (pa_cons pe_str pa_nil)))) (pss_cons ps_never (pss_cons ps_never (pss_cons ps_never (pss_one ps_never))))), ?_⟩
  exact ⟨_, rfl, v, rfl, hv.ty, _, by rw [hv.no]; rfl, k⟩
end
end My

namespace My
open PySem PySem.Spec PyProof.Rows L2
section
variable {P : Program} {w : World} {K : PySem.W.Frag} {mg : Str → Option Value} {base : Heap}
theorem cut_to (xs : List V) (j : Nat) (hj : j ≤ xs.length) : cutV xs none (some (j : Int)) = xs.take j := by
  have e := HT.sIx_nat xs.length xs.length j
  unfold cutV
  rw [e, HT.sIx_none, List.drop_zero, Nat.sub_zero, Nat.min_eq_left hj]
theorem cut_from (xs : List V) (j : Nat) (hj : j ≤ xs.length) : cutV xs (some (j : Int)) none = xs.drop j := by
  have e := HT.sIx_nat xs.length 0 j
  unfold cutV
  rw [e, HT.sIx_none, Nat.min_eq_left hj, List.take_of_length_le (by rw [List.length_drop]; omega)]
/-- the store, while a list is written that is newer than it -/
theorem Sto.mut {H0 H' : Hp} {s l : Addr} {o : HO} (st0 : Sto K H0 s) (hl : H0 l = none) (kp : Kp s H0 H') (st : Sto K H' s) : Sto K (upd H' l o) s ∧ Kp s H0 (upd H' l o) := by
  obtain ⟨sc0, ns0, i0, b0, c0, d0, e0, f0, g1, g2, g3⟩ := st0
  obtain ⟨sc, ns, i, b, c, d, e, f, h1, h2, h3⟩ := st
  obtain ⟨r', hr⟩ := kp.2 _ _ g1
  rw [h1] at hr
  cases hr
  have n1 : s ≠ l := by rintro rfl; rw [g1] at hl; cases hl
  have n2 : sc0 ≠ l := by rintro rfl; rw [g2] at hl; cases hl
  refine ⟨⟨sc0, ns, i, b, c, d, e, f, by rw [upd_ne n1]; exact h1, by rw [upd_ne n2]; exact h2, h3⟩, fun b o n e => ?_, fun x r e => ?_⟩
  · rw [upd_ne (ne_of_none e hl)]
    exact kp.1 b o n e
  · obtain ⟨r2, hr2⟩ := kp.2 x r e
    exact ⟨r2, by rw [upd_ne n1]; exact hr2⟩
theorem Sto.ne' {H : Hp} {s l : Addr} (st : Sto K H s) (hl : H l = none) : l ≠ s := by
  rintro rfl
  obtain ⟨ys, hy⟩ := st.at
  rw [hy] at hl
  cases hl
theorem Kp.free {H H' : Hp} {s p : Addr} (kp : Kp s H H') (st : Sto K H' s) (hp : H' p = none) : H p = none := by
  have ne := st.ne' hp
  cases e : H p with
  | none => rfl
  | some o =>
    have := kp.1 p o ne e
    rw [hp] at this
    cases this
theorem Sto.ne {H : Hp} {s l : Addr} (st : Sto K H s) (hl : H l = none) : l ≠ s := by
  rintro rfl
  obtain ⟨ys, hy⟩ := st.at
  rw [hy] at hl
  cases hl
def spSize (K : PySem.W.Frag) : Sp := fun vs H Q _ => ∃ (s : Addr) (top : Int), vs = [.ref s, .int top] ∧ Sto K H s ∧ 0 ≤ top ∧ top < 2 ^ 60 ∧ ∀ r H', 0 ≤ r → r ≤ top → Kp s H H' → Sto K H' s → Q (.int r) H'
abbrev sSize : Stmt := topS 32
theorem scSize : FnScope ["_law_store_here", "_law_top", "_law_spot"] ["_law_store_here", "_law_top"] (defScope sSize) := ⟨rfl, rfl, rfl, by decide +kernel, rfl, by decide +kernel, by decide +kernel⟩
theorem k_Size (T : Bt K mg) (D : Dfn K mg "_law_size" sSize ["_law_store_here", "_law_top"]) (d__law_take : Kn P w K mg base 2 "_law_take" ["_law_store_here", "_law_many"] (spTake K)) : Kn P w K mg base 3 "_law_size" ["_law_store_here", "_law_top"] (spSize K) := by
  refine Kn.mk' D scSize (fun vs H Q E h => ?_) (fun f cdv A outer s H vs Q E hr h => ?_)
  · obtain ⟨s, top, rfl, _⟩ := h
    rfl
  obtain ⟨s, top, rfl, hS, t0, t1, k⟩ := h
  refine ⟨_, (pss_cons (ps_set (i := 2) scSize.nd rfl (.inl rfl) (pe_kn d__law_take hr (by rfl) (pa_cons (pv 0) (pa_cons pe_int pa_nil))))
      (pss_cons (ps_if (pt_cmpR op_lt (pv 2) pe_int (nomark _)) (pss_one (ps_ret (pe_callB (call_min2 rfl) (by rfl) T.b_min (by decide +kernel) (pa_cons (pv 2) (pa_cons (pv 1) pa_nil))))) pss_nil)
      (pss_cons (ps_if (PW.pt (pw_and (pt_cmpR op_eq (pv 2) pe_int (nomark _)) (pw_and1 (PW.pt (pw_or (pt_cmpR op_lt (pv 1) pe_int (nomark _)) (pw_or1 (pt_cmpR op_eq (pe_kn d__law_take hr (by rfl) (pa_cons (pv 0) (pa_cons pe_int pa_nil))) pe_int (nomark _)))))))) (pss_one (ps_ret (pv 1))) pss_nil)
      (pss_one (ps_ret (pe_kn d__law_take hr (by rfl) (pa_cons (pv 0) (pa_cons (pe_op op_add (pe_callB (call_min2 rfl) (by rfl) T.b_min (by decide +kernel) (pa_cons (pv 1) (pa_cons pe_int pa_nil))) pe_int) pa_nil)))))))), ?_⟩
  refine ⟨_, rfl, s, 12, rfl, hS, by omega, fun i H1 i0 i1 kp st => ?_⟩
  simp only [cx_K, decide_true, decide_false, reduceCtorEq, gTp, gCons, gNil, ca_0, ca_1, ca_2, ca_3, ca_4, ca_5, ca_6, ca_7, ca_8, ca_9, ca_10, ca_11, ca_12, ca_13, ca_14, ca_15, ca_16, ca_17, ca_18, ca_19, ca_20, ca_21, ca_22, ca_23, ca_24, ca_25, ca_26, ca_27, ca_28, ca_29, ca_30, not_true_eq_false, not_false_eq_true, Int.reduceEq, Nat.reduceEqDiff, Nat.reduceLeDiff, rGcd, V.ty.injEq, eq_self, List.not_mem_nil, beq_self_eq_true, HO.lst.injEq, HO.tup.injEq, tFor_eq, iRng1, iList, iTup, nat10, tSeq, rIxA, rSetA, rIsN, rIsT, tTp, tLs, itsO_tup, itsO_lst, tyO_tup, tyO_lst, tyO_dK, tyN_non, tyN_bl, tyN_int, tyN_str, tyN_ref, tyNs_lt, isB, upd_same, upd_upd, sizeLine_eq, List.mem_cons, String.reduceBEq, String.reduceEq, Bool.or_false, Bool.or_true, Bool.and_false, Bool.false_or, Bool.and_self, Bool.false_and, Bool.not_false, Bool.not_true, List.any_cons, List.any_nil, atI_0, setI_0, atI_1, setI_1, atI_2, setI_2, atI_3, setI_3, atI_4, setI_4, atI_5, setI_5, atI_6, setI_6, tAsg, gName, tOp, tUn, tVar, tC, tCons, L2.tNil, tRet, tIfS, tTest, tCB, tCall, rI, rI0, rU, tNext, tB, tAnd, tOr, tNot, tAndV, tOrV, tNotV, tDrop, tIf, tPar, gSub, rIxL, rIxT, rEq, rNe, rSetL, tBits,
    L2.start, List.map_cons, List.map_nil, List.cons_append, List.nil_append, List.append_nil, List.length_cons, List.length_nil, List.replicate, Nat.reduceAdd, Nat.reduceSub, Nat.zero_add, List.getElem?_cons_zero, List.getElem?_cons_succ, List.set_cons_zero, List.set_cons_succ,
    Option.some.injEq, exists_eq_left', exists_eq_left, V.int.injEq, V.bl.injEq, V.ref.injEq, V.str.injEq, List.cons.injEq, reduceCtorEq, and_true, true_and, false_and, and_false, exists_false, or_false, false_or, or_true, true_or, exists_const, CMul, CDiv, CPow, and_assoc, exists_and_left, exists_and_right, Int.reducePow, Int.reduceNeg, Int.reduceLT, Int.reduceLE, Nat.reducePow, Nat.reduceLT, Int.reduceToNat, gt_iff_lt, ge_iff_le, decide_eq_true_eq, Bool.not_eq_true', decide_eq_false_iff_not, scal, ↓reduceIte, Bool.false_eq_true]
  refine ite2 (fun h => ?_) (fun h => ?_)
  · refine k _ H1 ?_ ?_ kp st <;> split <;> omega
  have fin : ∀ H2, Kp s H1 H2 → Sto K H2 s → spTake K [.ref s, .int ((if 6 < top then 6 else top) + 1)] H2 Q C8.E0 := fun H2 kp2 st2 =>
    ⟨s, _, rfl, st2, by split <;> omega, fun j H3 j0 j1 kp3 st3 => k j H3 j0 (by split at j1 <;> omega) ((kp.trans kp2).trans kp3) st3⟩
  refine ite2 (fun _ => ite2 (fun _ => k top H1 t0 (Int.le_refl _) kp st) (fun _ => ⟨s, 3, rfl, st, by omega, fun j H2 j0 j1 kp2 st2 => ⟨rfl, ite2 (fun _ => k top H2 t0 (Int.le_refl _) (kp.trans kp2) st2) (fun _ => fin H2 kp2 st2)⟩⟩)) (fun _ => fin H1 (Kp.refl _ _) st)
def spWith (K : PySem.W.Frag) : Sp := fun vs H Q _ => ∃ (s a : Addr) (xs : List V) (y : V), vs = [.ref s, .ref a, y] ∧ Sto K H s ∧ H a = some (.lst xs) ∧ K.lookup a = none ∧ a ≠ s ∧ 1 ≤ xs.length ∧ xs.length ≤ 1000 ∧ ∀ c j H', j < xs.length → Kp s H H' → Sto K H' s → H' c = some (.lst (xs.take j ++ y :: xs.drop (j + 1))) → H c = none → K.lookup c = none → Q (.ref c) H'
abbrev sWith : Stmt := topS 41
theorem scWith : FnScope ["_law_store_here", "_law_row", "_law_item", "_law_spot"] ["_law_store_here", "_law_row", "_law_item"] (defScope sWith) := ⟨rfl, rfl, rfl, by decide +kernel, rfl, by decide +kernel, by decide +kernel⟩
theorem k_With (T : Bt K mg) (D : Dfn K mg "_law_with" sWith ["_law_store_here", "_law_row", "_law_item"]) (d__law_take : Kn P w K mg base 2 "_law_take" ["_law_store_here", "_law_many"] (spTake K)) : Kn P w K mg base 3 "_law_with" ["_law_store_here", "_law_row", "_law_item"] (spWith K) := by
  refine Kn.mk' D scWith (fun vs H Q E h => ?_) (fun f cdv A outer s H vs Q E hr h => ?_)
  · obtain ⟨s, a, xs, y, rfl, _⟩ := h
    rfl
  obtain ⟨s, a, xs, y, rfl, hS, ha, ka, na, l1, l2, k⟩ := h
  refine ⟨_, (pss_cons (ps_set (i := 3) scWith.nd rfl (.inl rfl) (pe_kn d__law_take hr (by rfl) (pa_cons (pv 0) (pa_cons (pe_callB call_lenA (by rfl) T.b_len PySem.boot_len (pa_cons (pv 1) pa_nil)) pa_nil))))
      (pss_one (ps_ret (pe_fr (pe_op op_cat (pe_fr (pe_op op_cat (pe_fr (pe_slice sl_list (pv 1) po_none (po_some (pv 3)))) (pe_ls (pa_cons (pv 2) pa_nil)))) (pe_fr (pe_slice sl_list (pv 1) (po_some (pe_op op_add (pv 3) pe_int)) po_none))))))), ?_⟩
  have oa := (ob_none ka).trans ha
  refine ⟨_, rfl, _, rfl, a, rfl, _, itsO_ofL oa, s, _, rfl, hS, by omega, fun i H1 i0 i1 kp st => ?_⟩
  obtain ⟨j, rfl⟩ : ∃ j : Nat, i = (j : Int) := ⟨i.toNat, by omega⟩
  have hj : j < xs.length := by omega
  have ha1 := kp _ _ na ha
  refine ⟨_, rfl, _, rfl, _, rfl, a, xs, rfl, .of ha1, ?_⟩
  rw [cut_to xs j (by omega)]
  refine fun p1 hp1 fr1 => ?_
  have s1 := Same.new hp1 (.lst (xs.take j))
  have c1 : upd H1 p1 (.lst (xs.take j)) p1 = some (.lst (xs.take j)) := upd_same
  have ha2 := s1 _ _ ha1
  generalize upd H1 p1 (.lst (xs.take j)) = H2 at s1 c1 ha2 ⊢
  refine ⟨_, rfl, sz2 (by show 1 ≤ 100; decide), fun p2 hp2 kp2 => ?_⟩
  have s2 := Same.new hp2 (.lst [y])
  have c2 : upd H2 p2 (.lst [y]) p2 = some (.lst [y]) := upd_same
  have c1 := s2 _ _ c1
  have ha3 := s2 _ _ ha2
  generalize upd H2 p2 (.lst [y]) = H3 at s2 c1 c2 ha3 ⊢
  refine ⟨p1, p2, _, _, rfl, rfl, c1, c2, by rw [List.length_take, List.length_singleton, sizeLine_eq]; omega, fun p3 hp3 fr3 => ?_⟩
  have s3 := Same.new hp3 (.lst (xs.take j ++ [y]))
  have c3 : upd H3 p3 (.lst (xs.take j ++ [y])) p3 = some (.lst (xs.take j ++ [y])) := upd_same
  have ha4 := s3 _ _ ha3
  generalize upd H3 p3 (.lst (xs.take j ++ [y])) = H4 at s3 c3 ha4 ⊢
  have ec : cutV xs (some ((j : Int) + 1)) none = xs.drop (j + 1) := by
    rw [show ((j : Int) + 1) = ((j + 1 : Nat) : Int) by omega]
    exact cut_from xs (j + 1) (by omega)
  refine ⟨_, rfl, _, rfl, _, _, rfl, rfl, _, rfl, a, xs, rfl, .of ha4, fun p4 hp4 fr4 => ?_⟩
  have s4 := Same.new hp4 (.lst (cutV xs (some ((j : Int) + 1)) none))
  have c4 : upd H4 p4 (.lst (cutV xs (some ((j : Int) + 1)) none)) p4 = some (.lst (xs.drop (j + 1))) := by rw [ec]; exact upd_same
  have c3 := s4 _ _ c3
  have hp4' : upd H4 p4 (.lst (cutV xs (some ((j : Int) + 1)) none)) = upd H4 p4 (.lst (cutV xs (some ((fun i j => i + j) (j : Int) 1)) none)) := rfl
  refine ⟨p3, p4, _, _, rfl, rfl, c3, c4, by rw [List.length_append, List.length_take, List.length_singleton, List.length_drop, sizeLine_eq]; omega, fun p5 hp5 fr5 => ?_⟩
  have s5 := Same.new hp5 (.lst (xs.take j ++ [y] ++ xs.drop (j + 1)))
  have sA := s1.trans (s2.trans (s3.trans (s4.trans s5)))
  have sB := s1.trans (s2.trans (s3.trans s4))
  exact k p5 j _ hj (kp.trans (Kp.same sA)) (st.same sA) (by rw [upd_same, List.append_assoc]; rfl) (Kp.free (kp.trans (Kp.same sB)) (st.same sB) hp5) (fr5 p5 (by rw [upd_same]; simp))
end
end My

namespace My
open PySem PySem.Spec PyProof.Rows L2
section
variable {P : Program} {w : World} {K : PySem.W.Frag} {mg : Str → Option Value} {base : Heap}
def spQT (K : PySem.W.Frag) : Sp := fun vs H Q _ => ∃ s : Addr, vs = [.ref s] ∧ Sto K H s ∧ ∀ c ts H', TOk ts → ts.length ≤ 400 → wsum ts ≤ 2600 → (∀ t ∈ ts, t.natAbs < 2 ^ 134) → Kp s H H' → Sto K H' s → H' c = some (.lst (ts.map V.int)) → H c = none → K.lookup c = none → Q (.ref c) H'
theorem tail_app {ts : List Int} {t : Int} (ne : ts ≠ []) : ∀ u ∈ (ts ++ [t]).tail, u ∈ ts.tail ∨ u = t := fun u hu => by
  cases ts with
  | nil => exact absurd rfl ne
  | cons a r =>
    have : u ∈ r ++ [t] := hu
    rcases List.mem_append.mp this with h | h
    · exact .inl h
    · exact .inr (by simpa using h)
theorem wsum_qt {ts : List Int} {n : Int} (ne : ts ≠ []) (hl : (ts.length : Int) = 1 + n) (hn : n ≤ 399) (b1 : ∀ t ∈ ts, t.natAbs < 2 ^ 134) (b2 : 20 ≤ 1 + n → ∀ t ∈ ts.tail, t.natAbs < 2 ^ 4) : wsum ts ≤ 2600 := by
  by_cases h20 : 20 ≤ 1 + n
  · cases ts with
    | nil => exact absurd rfl ne
    | cons t0 r =>
      have w1 := wsum_le (k := 134) (by omega) (ts := [t0]) fun u hu => b1 u (by rw [List.mem_singleton] at hu; rw [hu]; exact List.mem_cons_self)
      have w2 := wsum_le (k := 4) (by omega) (ts := r) fun u hu => b2 h20 u hu
      have e : wsum (t0 :: r) = wsum [t0] + wsum r := wsum_app [t0] r
      rw [List.length_cons] at hl
      rw [List.length_singleton] at w1
      have : r.length * (4 + 1) ≤ 399 * 5 := Nat.mul_le_mul (by omega) (by omega)
      omega
  · have w1 := wsum_le (k := 134) (by omega) (ts := ts) b1
    have : ts.length * (134 + 1) ≤ 19 * 135 := Nat.mul_le_mul (by omega) (by omega)
    omega
structure QTF (K : PySem.W.Frag) (s l : Addr) (n : Int) (H0 H' : Hp) (ts : List Int) : Prop where
  hl : H' l = some (.lst (ts.map V.int))
  tl : ∀ t ∈ ts.tail, 1 ≤ t
  bd : ∀ t ∈ ts, t.natAbs < 2 ^ 134
  b2 : 20 ≤ 1 + n → ∀ t ∈ ts.tail, t.natAbs < 2 ^ 4
  kp : Kp s H0 H'
  st : Sto K H' s
def QTM (K : PySem.W.Frag) (s : Addr) (n : Int) (b : Bool) (H : Hp) (σ : L2.St) (H' : Hp) : Prop := ∃ (l : Addr) (H0 : Hp) (t : Int), σ = [some (.ref s), some (.int (1 + n)), some (.bl b), some (.ref l), none] ∧ QTF K s l n H0 H' [t] ∧ Kp s H H0 ∧ Sto K H0 s ∧ H0 l = none ∧ K.lookup l = none
def QTI (K : PySem.W.Frag) (s l : Addr) (n : Int) (b : Bool) (H0 : Hp) (i : Nat) (σ : L2.St) (H' : Hp) : Prop := ∃ (ts : List Int) (x4 : Option V), σ = [some (.ref s), some (.int (1 + n)), some (.bl b), some (.ref l), x4] ∧ ts.length = i + 1 ∧ QTF K s l n H0 H' ts
theorem QTF.app {s l : Addr} {n : Int} {H0 H' : Hp} {ts : List Int} (h : QTF K s l n H0 H' ts) (st0 : Sto K H0 s) (h0 : H0 l = none) (ne : ts ≠ []) {t : Int} (t1 : 1 ≤ t) (tb : t.natAbs < 2 ^ 134) (t2 : 20 ≤ 1 + n → t.natAbs < 2 ^ 4) : QTF K s l n H0 (upd H' l (.lst (ts.map V.int ++ [.int t]))) (ts ++ [t]) := by
  obtain ⟨m1, m2⟩ := st0.mut (o := .lst (ts.map V.int ++ [.int t])) h0 h.kp h.st
  have tail : ∀ u ∈ (ts ++ [t]).tail, u ∈ ts.tail ∨ u = t := tail_app ne
  have e1 : upd H' l (.lst (ts.map V.int ++ [.int t])) l = some (.lst ((ts ++ [t]).map V.int)) := by
    rw [List.map_append]
    exact upd_same
  have e2 : ∀ u ∈ (ts ++ [t]).tail, 1 ≤ u := fun u hu => by
    rcases tail u hu with h' | rfl
    · exact h.tl u h'
    · exact t1
  have e3 : ∀ u ∈ ts ++ [t], u.natAbs < 2 ^ 134 := fun u hu => by
    rcases List.mem_append.mp hu with h' | h'
    · exact h.bd u h'
    · rw [List.mem_singleton] at h'
      rw [h']
      exact tb
  have e4 : 20 ≤ 1 + n → ∀ u ∈ (ts ++ [t]).tail, u.natAbs < 2 ^ 4 := fun hn u hu => by
    rcases tail u hu with h' | rfl
    · exact h.b2 hn u h'
    · exact t2 hn
  exact QTF.mk e1 e2 e3 e4 m2 m1
abbrev sQT : Stmt := topS 43
theorem scQT : FnScope ["_law_store_here", "_law_many", "_law_alike_here", "_law_terms", "_law_k"] ["_law_store_here"] (defScope sQT) := ⟨rfl, rfl, rfl, by decide +kernel, rfl, by decide +kernel, by decide +kernel⟩
theorem k_QT (T : Bt K mg) (D : Dfn K mg "_law_quotient_terms" sQT ["_law_store_here"]) (d__law_size : Kn P w K mg base 3 "_law_size" ["_law_store_here", "_law_top"] (spSize K)) (d__law_take : Kn P w K mg base 2 "_law_take" ["_law_store_here", "_law_many"] (spTake K)) (d__law_whole : Kn P w K mg base 3 "_law_whole" ["_law_store_here", "_law_reach"] (spLInt K)) (d__law_great : Kn P w K mg base 3 "_law_great" ["_law_store_here"] (spInt K fun n => n.natAbs < 2 ^ 133)) : Kn P w K mg base 4 "_law_quotient_terms" ["_law_store_here"] (spQT K) := by
  refine Kn.mk' D scQT (fun vs H Q E h => ?_) (fun f cdv A outer s H vs Q E hr h => ?_)
  · obtain ⟨s, rfl, _⟩ := h
    rfl
  obtain ⟨s, rfl, hS, k⟩ := h
  refine ⟨_, (pss_cons (ps_set (i := 1) scQT.nd rfl (.inl rfl) (pe_op op_add pe_int (pe_kn d__law_size hr (by rfl) (pa_cons (pv 0) (pa_cons pe_int pa_nil)))))
      (pss_cons (ps_set (i := 2) scQT.nd rfl (.inl rfl) (pe_cmpR op_eq (pe_kn d__law_take hr (by rfl) (pa_cons (pv 0) (pa_cons pe_int pa_nil))) pe_int (nomark _)))
      (pss_cons (ps_set (i := 3) scQT.nd rfl (.inl rfl) (pe_ls (pa_cons (pe_kn d__law_whole hr (by rfl) (pa_cons (pv 0) (pa_cons pe_int pa_nil))) pa_nil)))
      (C8.pss_cut (ps_if (pt_cmpR op_eq (pe_kn d__law_take hr (by rfl) (pa_cons (pv 0) (pa_cons pe_int pa_nil))) pe_int (nomark _)) (pss_one (ps_set (i := 3) scQT.nd rfl (.inl rfl) (pe_ls (pa_cons (pe_kn d__law_great hr (by rfl) (pa_cons (pv 0) pa_nil)) pa_nil)))) pss_nil)
      (pss_cons (ps_for PassesOwn.never rfl (pi_range1 (by rfl) T.b_range (pa_cons (pe_op op_sub (pv 1) pe_int) pa_nil)) (pg_name (i := 4) scQT.nd rfl (.inl rfl)) (pss_one (ps_if (pt_val (pv 2)) (pss_one (ps_expr (pe_bm PySem.F.plainAttrs_list PySem.F.slot_list_append PySem.F.type_list_append mt_append (pv 3) (pa_cons pe_int pa_nil)))) (pss_one (ps_if (PW.pt (pw_and (pt_cmpR op_lt (pv 1) pe_int (nomark _)) (pw_and1 (pt_cmpR op_eq (pe_kn d__law_take hr (by rfl) (pa_cons (pv 0) (pa_cons pe_int pa_nil))) pe_int (nomark _))))) (pss_one (ps_expr (pe_bm PySem.F.plainAttrs_list PySem.F.slot_list_append PySem.F.type_list_append mt_append (pv 3) (pa_cons (pe_callB (call_max2 rfl) (by rfl) T.b_max (by decide +kernel) (pa_cons pe_int (pa_cons (pe_callB call_abs (by rfl) T.b_abs (by decide +kernel) (pa_cons (pe_kn d__law_great hr (by rfl) (pa_cons (pv 0) pa_nil)) pa_nil)) pa_nil))) pa_nil)))) (pss_one (ps_expr (pe_bm PySem.F.plainAttrs_list PySem.F.slot_list_append PySem.F.type_list_append mt_append (pv 3) (pa_cons (pe_op op_add pe_int (pe_kn d__law_take hr (by rfl) (pa_cons (pv 0) (pa_cons pe_int pa_nil)))) pa_nil)))))))))
      (pss_one (ps_ret (pv 3)))))))), ?_⟩
  refine ⟨_, rfl, s, 399, rfl, hS, by omega, by omega, fun n H1 n0 n1 kp1 st1 => ⟨_, _, rfl, rfl, ?_⟩⟩
  refine ⟨_, rfl, s, 6, rfl, st1, by omega, fun i H2 i0 i1 kp2 st2 => ⟨rfl, ?_⟩⟩
  generalize decide (V.int i = V.int 0) = b
  refine ⟨_, rfl, s, 6, rfl, st2, by omega, by omega, fun w H3 w0 w1 kp3 st3 => ⟨sz2 (by show 1 ≤ 100; decide), fun l hl kl => ?_⟩⟩
  have s4 := Same.new hl (.lst [.int w])
  have kp03 := (kp1.trans kp2).trans kp3
  have z134 : (2 : Nat) ^ 134 = 21778071482940061661655974875633165533184 := by decide
  have one : ∀ {H0 H' : Hp} {l : Addr} {w : Int}, w.natAbs < 2 ^ 134 → H' l = some (.lst [.int w]) → Kp s H0 H' → Sto K H' s → QTF K s l n H0 H' [w] := fun hw h kp st => ⟨h, fun t ht => absurd ht (by simp), fun t ht => by
      rw [List.mem_singleton] at ht
      rw [ht]
      exact hw, fun _ t ht => absurd ht (by simp), kp, st⟩
  refine ⟨QTM K s n b H, ?_, ?_⟩
  · have f0 : QTF K s l n H3 (upd H3 l (.lst [.int w])) [w] := one (by rw [z134]; omega) upd_same (Kp.same s4) (st3.same s4)
    generalize upd H3 l (.lst [.int w]) = H4 at f0 s4 ⊢
    refine ⟨_, rfl, s, 8, rfl, f0.st, by omega, fun j H5 _ _ kp5 st5 => ⟨rfl, _, rfl, ite2 (fun _ => ?_) (fun _ => ?_)⟩⟩
    · refine ⟨_, rfl, s, rfl, st5, fun g H6 hg kp6 st6 => ⟨sz2 (by show 1 ≤ 100; decide), fun l2 hl2 kl2 => ?_⟩⟩
      have s7 := Same.new hl2 (.lst [.int g])
      exact ⟨l2, H6, g, rfl, one (by rw [z134]; omega) upd_same (Kp.same s7) (st6.same s7), ((kp03.trans (Kp.same s4)).trans kp5).trans kp6, st6, hl2, kl2⟩
    · have f5 : QTF K s l n H3 H5 [w] := one (f0.bd w List.mem_cons_self) (kp5 _ _ (st3.ne' hl) f0.hl) (f0.kp.trans kp5) st5
      exact ⟨l, H3, w, rfl, f5, kp03, st3, hl, kl⟩
  · rintro σ H5 ⟨l, H0, t, rfl, f, kp0, st0, h0, kl⟩
    have nls := st0.ne' h0
    refine ⟨_, rfl, _, _, rfl, rfl, _, rfl, by omega, by omega, ?_⟩
    refine forI_range (lo := 0) (QTI K s l n b H0) ⟨[t], none, rfl, rfl, f⟩ ?_ ?_
    · rintro i σ H6 hi ⟨ts, x4, rfl, hlen, f⟩
      have ne : ts ≠ [] := fun e => by rw [e] at hlen; simp at hlen
      have move : ∀ {H7 : Hp}, Kp s H6 H7 → Sto K H7 s → QTF K s l n H0 H7 ts := fun kp st => ⟨kp _ _ nls f.hl, f.tl, f.bd, f.b2, f.kp.trans kp, st⟩
      have app : ∀ {H7 : Hp} {u : Int}, QTF K s l n H0 H7 ts → 1 ≤ u → u.natAbs < 2 ^ 134 → (20 ≤ 1 + n → u.natAbs < 2 ^ 4) → QTI K s l n b H0 (i + 1) [some (.ref s), some (.int (1 + n)), some (.bl b), some (.ref l), some (.int (0 + (i : Int)))] (upd H7 l (.lst (ts.map V.int ++ [.int u]))) := fun f7 u1 ub u2 => ⟨ts ++ [_], _, rfl, by rw [List.length_append, hlen]; rfl, f7.app st0 h0 ne u1 ub u2⟩
      have lsz : (ts.map V.int).length < sizeLine := by rw [List.length_map, hlen, sizeLine_eq]; omega
      have p134 : (1 : Int).natAbs < 2 ^ 134 := by decide
      have last : ∀ H7, QTF K s l n H0 H7 ts → tDrop (tBM K "list" rAppend (tVar 3) (tCons (tOp (rI0 fun i j => V.int (i + j)) (tC (V.int 1)) (tCall (spTake K) [] E0 (tCons (tVar 0) (tCons (tC (V.int 9)) L2.tNil)))) L2.tNil)) { nx := QTI K s l n b H0 (i + 1), rt := fun _ _ => False, bk := fun _ _ => False, ct := fun _ _ => False } [some (.ref s), some (.int (1 + n)), some (.bl b), some (.ref l), some (.int (0 + (i : Int)))] H7 := fun H7 f7 => by
        refine ⟨_, rfl, .inl ⟨rfl, _, .of f7.hl⟩, _, rfl, s, 9, rfl, f7.st, by omega, fun r H8 r0 r1 kp st => ?_⟩
        have f8 : QTF K s l n H0 H8 ts := ⟨kp _ _ nls f7.hl, f7.tl, f7.bd, f7.b2, f7.kp.trans kp, st⟩
        exact ⟨_, _, rfl, rfl, l, _, _, rfl, rfl, f8.hl, lsz, app f8 (by omega) (by rw [z134]; omega) (fun _ => by omega)⟩
      refine ⟨_, rfl, _, rfl, ite2 (fun _ => ?_) (fun _ => ?_)⟩
      · exact ⟨_, rfl, .inl ⟨rfl, _, .of f.hl⟩, l, _, _, rfl, rfl, f.hl, lsz, app f (by decide) p134 (fun _ => by decide)⟩
      · refine ⟨_, rfl, _, _, rfl, rfl, _, rfl, ite2 (fun h20 => ?_) (fun _ => ?_)⟩
        · have h20 := of_decide_eq_true h20
          refine ⟨_, rfl, s, 8, rfl, f.st, by omega, fun j H7 _ _ kp7 st7 => ⟨rfl, _, rfl, ite2 (fun _ => ?_) (fun _ => last H7 (move kp7 st7))⟩⟩
          have f7 := move kp7 st7
          refine ⟨_, rfl, .inl ⟨rfl, _, .of f7.hl⟩, _, rfl, s, rfl, f7.st, fun g H8 hg kp8 st8 => ⟨_, rfl, _, _, rfl, ?_⟩⟩
          have f8 : QTF K s l n H0 H8 ts := ⟨kp8 _ _ nls f7.hl, f7.tl, f7.bd, f7.b2, f7.kp.trans kp8, st8⟩
          exact ⟨l, _, _, rfl, rfl, f8.hl, lsz, app f8 (by split <;> omega) (by rw [z134]; split <;> split <;> omega) (fun h => by omega)⟩
        · exact last H6 f
    · rintro σ H6 ⟨ts, x4, rfl, hlen, f⟩
      have hn : ts.length ≤ 400 := by omega
      have tk : TOk ts := ⟨fun e => by rw [e] at hlen; simp at hlen, f.tl⟩
      refine ⟨_, rfl, k l ts H6 tk hn ?_ f.bd (kp0.trans f.kp) f.st f.hl (Kp.free kp0 st0 h0) kl⟩
      exact wsum_qt tk.1 (by omega) n1 f.bd f.b2

end
end My

namespace My
open PySem PySem.Spec PyProof.Rows L2
section
variable {P : Program} {w : World} {K : PySem.W.Frag} {mg : Str → Option Value} {base : Heap}
def spValues (K : PySem.W.Frag) : Sp := fun vs H Q _ => ∃ (a : Addr) (ts : List Int), vs = [.ref a] ∧ ob K H a = some (.lst (ts.map V.int)) ∧ ts ≠ [] ∧ ts.length ≤ 7000 ∧ wsum ts ≤ 80000 ∧ ∀ l xs H', Same H H' → H l = none → H' l = some (.lst xs) → K.lookup l = none → Rws K H' xs (chn (0, 1) (1, 0) ts) → Q (.ref l) H'
theorem chn_at : ∀ (ts : List Int) (b l : Qt) (i : Nat), i < ts.length → (chn b l ts)[i]? = some (stp b l (ts.take (i + 1))).2
  | [], _, _, i, h => absurd h (by simp)
  | t :: r, b, l, 0, _ => rfl
  | t :: r, b, l, i + 1, h => chn_at r l (adv b l t) i (by simpa using h)
theorem stp_szt (ts : List Int) (i : Nat) : Sz (1 + wsum ts) (stp (0, 1) (1, 0) (ts.take i)).2 := by
  rw [← val_stp]
  exact (val_sz (ts.take i)).mono (by have := wsum_take ts i; omega)
theorem stp_szb (ts : List Int) (i : Nat) (hi : i < ts.length) : Sz (1 + wsum ts) (stp (0, 1) (1, 0) (ts.take (i + 1))).1 := by
  have e : (stp (0, 1) (1, 0) (ts.take (i + 1))).1 = (stp (0, 1) (1, 0) (ts.take i)).2 := by
    rw [List.take_add_one, List.getElem?_eq_getElem hi, stp_app]
    rfl
  rw [e]
  exact stp_szt ts i
def VsI (K : PySem.W.Frag) (a o q : Addr) (r : List Int) (ts : List Int) (H : Hp) (i : Nat) (σ : L2.St) (H' : Hp) : Prop := ∃ (b l : Addr) (xs : List V) (x4 : Option V), σ = [some (.ref a), some (.ref b), some (.ref l), some (.ref o), x4] ∧ H' o = some (.lst xs) ∧ Rws K H' xs (chn (0, 1) (1, 0) (ts.take (i + 1))) ∧ Tq K H' (1 + wsum ts) b (stp (0, 1) (1, 0) (ts.take (i + 1))).1 ∧ Tq K H' (1 + wsum ts) l (stp (0, 1) (1, 0) (ts.take (i + 1))).2 ∧ Same H H' ∧ xs.length ≤ i + 1 ∧ H' q = some (.lst (r.map V.int))
abbrev sValues : Stmt := topS 46
theorem scValues : FnScope ["_law_terms", "_law_before", "_law_here", "_law_out", "_law_term"] ["_law_terms"] (defScope sValues) := ⟨rfl, rfl, rfl, by decide +kernel, rfl, by decide +kernel, by decide +kernel⟩
theorem k_Values (T : Bt K mg) (D : Dfn K mg "_law_values" sValues ["_law_terms"]) : Kn P w K mg base 1 "_law_values" ["_law_terms"] (spValues K) := by
  refine Kn.mk' D scValues (fun vs H Q E h => ?_) (fun f cdv A outer s H vs Q E hr h => ?_)
  · obtain ⟨a, ts, rfl, _⟩ := h
    rfl
  obtain ⟨a, ts, rfl, o, ne, tl, ws, k⟩ := h
  refine ⟨_, (pss_cons (ps_set (i := 1) scValues.nd rfl (.inl rfl) (pe_tp (pa_cons pe_int (pa_cons pe_int pa_nil))))
      (pss_cons (ps_set (i := 2) scValues.nd rfl (.inl rfl) (pe_tp (pa_cons (pe_ix ix_any (pv 0) pe_int (fun _ _ => rfl)) (pa_cons pe_int pa_nil))))
      (pss_cons (ps_set (i := 3) scValues.nd rfl (.inl rfl) (pe_ls (pa_cons (pv 2) pa_nil)))
      (pss_cons (ps_for PassesOwn.never rfl (pi_list (pe_fr (pe_slice sl_list (pv 0) (po_some pe_int) po_none))) (pg_name (i := 4) scValues.nd rfl (.inl rfl)) (pss_cons (ps_par (i := 1) (j := 2) (by rfl) scValues.nd rfl rfl (by decide) rfl rfl (pa_cons (pv 2) (pa_cons (pe_tp (pa_cons (pe_op op_add (pe_op op_mulW (pv 4) (pe_ix ix_any (pv 2) pe_int (fun _ _ => rfl))) (pe_ix ix_any (pv 1) pe_int (fun _ _ => rfl))) (pa_cons (pe_op op_add (pe_op op_mulW (pv 4) (pe_ix ix_any (pv 2) pe_int (fun _ _ => rfl))) (pe_ix ix_any (pv 1) pe_int (fun _ _ => rfl))) pa_nil))) pa_nil)) (by rfl))
      (pss_one (ps_expr (pe_bm PySem.F.plainAttrs_list PySem.F.slot_list_append PySem.F.type_list_append mt_append (pv 3) (pa_cons (pv 2) pa_nil))))))
      (pss_one (ps_ret (pv 3))))))), ?_⟩
  obtain ⟨t0, r, rfl⟩ : ∃ t0 r, ts = t0 :: r := by
    cases ts with
    | nil => exact absurd rfl ne
    | cons t0 r => exact ⟨t0, r, rfl⟩
  refine ⟨sz2 (by show 2 ≤ 100; decide), fun b0 hb0 kb0 => ?_⟩
  have s1 := Same.new hb0 (.tup [.int 1, .int 0])
  have n1 := ob_new (H := H) (o := .tup [.int 1, .int 0]) kb0
  generalize upd H b0 (.tup [.int 1, .int 0]) = H1 at s1 n1 ⊢
  have o1 := ob_same s1 o
  refine ⟨_, rfl, a, 0, rfl, rfl, _, itsO_ofL o1, _, atI_0 _ _, sz2 (by show 2 ≤ 100; decide), fun l0 hl0 kl0 => ?_⟩
  have s2 := Same.new hl0 (.tup [.int t0, .int 1])
  have n2 := ob_new (H := H1) (o := .tup [.int t0, .int 1]) kl0
  generalize upd H1 l0 (.tup [.int t0, .int 1]) = H2 at s2 n2 ⊢
  refine ⟨_, rfl, sz2 (by show 1 ≤ 100; decide), fun p hp kp => ?_⟩
  have s3 := Same.new hp (.lst [.ref l0])
  have h3 : upd H2 p (.lst [.ref l0]) p = some (.lst [.ref l0]) := upd_same
  generalize upd H2 p (.lst [.ref l0]) = H3 at s3 h3 ⊢
  have o3 := ob_same (s2.trans s3) o1
  refine ⟨_, rfl, 1, rfl, a, V.int t0 :: r.map V.int, rfl, ob_lst o3, ?_⟩
  rw [cut1]
  refine fun q hq fr => ?_
  have s4 := Same.new hq (.lst (r.map V.int))
  have h4 : upd H3 q (.lst (r.map V.int)) q = some (.lst (r.map V.int)) := upd_same
  have npq : p ≠ q := ne_of_none h3 hq
  generalize upd H3 q (.lst (r.map V.int)) = H4 at s4 h4 ⊢
  have ea : adv (0, 1) (1, 0) t0 = (t0, 1) := Prod.ext (by show 0 + t0 * 1 = t0; omega) (by show 1 + t0 * 0 = 1; omega)
  have nb := ob_same (s2.trans (s3.trans s4)) n1
  have nl := ob_same (s3.trans s4) n2
  have rw0 : Rws K H4 [.ref l0] (chn (0, 1) (1, 0) ((t0 :: r).take 1)) := by
    show Rws K H4 [.ref l0] [adv (0, 1) (1, 0) t0]
    rw [ea]
    exact (show Rws K H4 [] [] from ⟨rfl, fun i x q hx => by cases hx⟩).app nl
  have tb : Tq K H4 (1 + wsum (t0 :: r)) b0 (stp (0, 1) (1, 0) ((t0 :: r).take 1)).1 := ⟨nb, stp_szb (t0 :: r) 0 (by simp)⟩
  have tl0 : Tq K H4 (1 + wsum (t0 :: r)) l0 (stp (0, 1) (1, 0) ((t0 :: r).take 1)).2 := by
    refine ⟨?_, stp_szt (t0 :: r) 1⟩
    show ob K H4 l0 = some (.tup [.int (adv (0, 1) (1, 0) t0).1, .int (adv (0, 1) (1, 0) t0).2])
    rw [ea]
    exact nl
  have hp0 : H p = none := s1.free (s2.free hp)
  refine ⟨q, rfl, ⟨_, .of h4⟩, forI_list (xs := r.map V.int) (VsI K a p q r (t0 :: r) H) ⟨b0, l0, [.ref l0], none, rfl, s4 _ _ h3, rw0, tb, tl0, s1.trans (s2.trans (s3.trans s4)), Nat.le_refl _, h4⟩ ?_ ?_ ?_⟩
  · rintro i σ H' _ ⟨b, l, xs, x4, rfl, _, _, _, _, _, _, g⟩
    exact .of g
  · rintro i x σ H' hi ⟨b, l, xs, x4, rfl, g1, g2, g3, g4, g5, g6, g7⟩
    obtain ⟨t, rfl, ht⟩ : ∃ t, x = V.int t ∧ r[i]? = some t := by
      rw [List.getElem?_map] at hi
      cases e : r[i]? with
      | none => rw [e] at hi; cases hi
      | some z => rw [e] at hi; exact ⟨z, (Option.some.inj hi).symm, rfl⟩
    have hil : i < r.length := (List.getElem?_eq_some_iff.mp ht).1
    have htk : (t0 :: r).take (i + 1 + 1) = (t0 :: r).take (i + 1) ++ [t] := by
      rw [List.take_add_one (l := t0 :: r), List.getElem?_cons_succ, ht]
      rfl
    have w1 := wsum_mem (ts := t0 :: r) (List.mem_cons_of_mem _ (List.mem_of_getElem? ht))
    have tz : t.natAbs < 2 ^ (Nat.log2 t.natAbs + 1) := Nat.lt_log2_self
    have z2 := stp_szt (t0 :: r) (i + 1 + 1)
    have ol := g4.o
    have ob' := g3.o
    have lz := g4.sz
    rw [htk, stp_app] at z2
    generalize hl : (stp (0, 1) (1, 0) ((t0 :: r).take (i + 1))).2 = lq at *
    generalize hb : (stp (0, 1) (1, 0) ((t0 :: r).take (i + 1))).1 = bq at *
    have ek : ∀ z : Int, (Nat.log2 t.natAbs + 1) + (1 + wsum (t0 :: r)) ≤ 900000 := fun _ => by omega
    refine ⟨_, rfl, _, rfl, _, rfl, l, 0, rfl, rfl, _, itsO_of ol, _, atI_0 _ _, _, _, rfl, rfl, mulW tz lz.1 (ek 0), _, rfl, b, 0, rfl, rfl, _, itsO_of ob', _, atI_0 _ _, _, _, rfl, rfl, _, rfl, _, rfl, l, 1, rfl, rfl, _, itsO_of ol, _, atI_1 _ _ _, _, _, rfl, rfl, mulW tz lz.2 (ek 0), _, rfl, b, 1, rfl, rfl, _, itsO_of ob', _, atI_1 _ _ _, _, _, rfl, rfl, sz2 (by show 2 ≤ 100; decide), fun c hc kc => ⟨_, _, rfl, ?_⟩⟩
    have sc := Same.new hc (.tup [.int (t * lq.1 + bq.1), .int (t * lq.2 + bq.2)])
    have oc : ob K (upd H' c (.tup [.int (t * lq.1 + bq.1), .int (t * lq.2 + bq.2)])) c = some (.tup [.int (adv bq lq t).1, .int (adv bq lq t).2]) := by
      rw [show (adv bq lq t).1 = t * lq.1 + bq.1 from Int.add_comm _ _, show (adv bq lq t).2 = t * lq.2 + bq.2 from Int.add_comm _ _]
      exact ob_new kc
    have g1c := sc _ _ g1
    have g7c := sc _ _ g7
    generalize upd H' c (.tup [.int (t * lq.1 + bq.1), .int (t * lq.2 + bq.2)]) = H5 at sc oc g1c g7c ⊢
    refine ⟨_, rfl, .inl ⟨rfl, _, .of g1c⟩, _, rfl, p, xs, _, rfl, rfl, g1c, by rw [List.length_cons] at tl; rw [sizeLine_eq]; omega, ?_⟩
    refine ⟨l, c, xs ++ [.ref c], _, rfl, upd_same, ?_, ?_, ?_, fun d o e => ?_, by rw [List.length_append]; show xs.length + 1 ≤ i + 1 + 1; omega, ?_⟩
    · rw [htk, chn_app, hl, hb]
      exact ((g2.same sc).app oc).putL g1c
    · rw [htk, stp_app, hl, hb]
      exact (g4.same sc).putL g1c
    · rw [htk, stp_app, hl, hb]
      exact Tq.putL ⟨oc, z2⟩ g1c
    · rw [upd_ne (ne_of_none e hp0)]
      exact sc _ _ (g5 _ _ e)
    · rw [upd_ne (Ne.symm npq)]
      exact g7c
  · rintro σ H' ⟨b, l, xs, x4, rfl, g1, g2, g3, g4, g5, g6, g7⟩
    rw [List.length_map, List.take_of_length_le (by simp)] at g2
    exact ⟨_, rfl, k p xs H' g5 hp0 g1 kp g2⟩
end
end My

namespace My
open PySem PySem.Spec PyProof.Rows L2
section
variable {P : Program} {w : World} {K : PySem.W.Frag} {mg : Str → Option Value} {base : Heap}
end
section
variable {K : PySem.W.Frag}
def rEqF (K : PySem.W.Frag) : R2 := fun x y H Q => ∃ (a b : Addr) (p q : Qt), x = .ref a ∧ y = .ref b ∧ ob K H a = some (.tup [.int p.1, .int p.2]) ∧ ob K H b = some (.tup [.int q.1, .int q.2]) ∧ Q (.bl (decide (p = q))) H
def rNeF (K : PySem.W.Frag) : R2 := fun x y H Q => ∃ (a b : Addr) (p q : Qt), x = .ref a ∧ y = .ref b ∧ ob K H a = some (.tup [.int p.1, .int p.2]) ∧ ob K H b = some (.tup [.int q.1, .int q.2]) ∧ Q (.bl (!decide (p = q))) H
theorem dp_fr {H : Hp} {a : Addr} {p : Qt} (h : ob K H a = some (.tup [.int p.1, .int p.2])) : Dp K H (.ref a) (.tuple [.int p.1, .int p.2]) := .tup (ob_tup h) (.cons (.int _) (.cons (.int _) .nil))
theorem eqv_fr (p q : Qt) : PyData.eqv (.tuple [.int p.1, .int p.2]) (.tuple [.int q.1, .int q.2]) = decide (p = q) := by
  show ((p.1 == q.1) && ((p.2 == q.2) && true)) = decide (p = q)
  rw [Bool.and_true]
  by_cases h : p = q
  · subst h
    simp
  · rw [decide_eq_false h]
    by_cases h1 : p.1 = q.1
    · have h2 : p.2 ≠ q.2 := fun z => h (Prod.ext h1 z)
      simp [h1, h2]
    · simp [h1]
theorem op_eqF {X : Cx} {j : Nat} (hr : Room j X.A) : OpR X (compareOp .Eq) (rEqF X.K) := fun pins s σ H x y v u Q I rx ry h => by
  obtain ⟨a, b, p, q, ex, ey, oa, ob', k⟩ := h
  subst ex ey
  refine op_eqD (by have := hr.un; omega) pins s σ H _ _ v u Q I rx ry ⟨_, _, dp_fr oa, dp_fr ob', rfl, rfl, ?_⟩
  rw [eqv_fr]
  exact k
theorem op_neF {X : Cx} {j : Nat} (hr : Room j X.A) : OpR X (compareOp .NotEq) (rNeF X.K) := fun pins s σ H x y v u Q I rx ry h => by
  obtain ⟨a, b, p, q, ex, ey, oa, ob', k⟩ := h
  subst ex ey
  refine op_neD (by have := hr.un; omega) pins s σ H _ _ v u Q I rx ry ⟨_, _, dp_fr oa, dp_fr ob', rfl, rfl, ?_⟩
  rw [eqv_fr]
  exact k
end
section
variable {P : Program} {w : World} {K : PySem.W.Frag} {mg : Str → Option Value} {base : Heap}
theorem atI_m1 {α : Type} {xs : List α} (h : xs ≠ []) : atI xs (-1) = xs[xs.length - 1]? := by
  have hl : 0 < xs.length := by
    cases xs with
    | nil => exact absurd rfl h
    | cons a r => simp
  unfold atI ixN
  rw [if_neg (by omega), if_pos (by omega)]
  show xs[((-1 : Int) + (xs.length : Int)).toNat]? = _
  rw [show ((-1 : Int) + (xs.length : Int)).toNat = xs.length - 1 by omega]
def spLRight (K : PySem.W.Frag) : Sp := fun vs H Q _ => ∃ (a b : Addr) (v : Qt) (ts : List Int), vs = [.ref a, .ref b] ∧ ob K H a = some (.lst (ts.map V.int)) ∧ Fq K H 450 b v ∧ Eu v.1 v.2 ts ∧ ts.length ≤ 1000 ∧ wsum ts ≤ 80000 ∧ ∀ H', Same H H' → Q (.bl true) H'
abbrev sLRight : Stmt := topS 47
theorem scLRight : FnScope ["_law_told_here", "_law_value", "_law_term"] ["_law_told_here", "_law_value"] (defScope sLRight) := ⟨rfl, rfl, rfl, by decide +kernel, rfl, by decide +kernel, by decide +kernel⟩
theorem blkR1 : BlkOk ["_law_told_here", "_law_value", "_law_term"] (defScope sLRight) { kind := .function, names := [(".0", .local), ("_law_term", .local), ("_law_is_whole", .globalImplicit)], isGenerator := false, isCoroutine := false, more := [] } [("_law_term", 2)] := ⟨rfl, by decide +kernel, by decide +kernel, by decide +kernel, by decide +kernel⟩
theorem blkR2 : BlkOk ["_law_told_here", "_law_value", "_law_term"] (defScope sLRight) { kind := .function, names := [(".0", .local), ("_law_term", .local)], isGenerator := false, isCoroutine := false, more := [] } [("_law_term", 2)] := ⟨rfl, by decide +kernel, by decide +kernel, by decide +kernel, by decide +kernel⟩
theorem k_LRight (T : Bt K mg) (D : Dfn K mg "_law_right" sLRight ["_law_told_here", "_law_value"]) (d__law_is_whole : Kn P w K mg base 1 "_law_is_whole" ["_law_told_here"] (spWhole K)) (d__law_values : Kn P w K mg base 1 "_law_values" ["_law_terms"] (spValues K)) : Kn P w K mg base 2 "_law_right" ["_law_told_here", "_law_value"] (spLRight K) := by
  refine Kn.mk' D scLRight (fun vs H Q E h => ?_) (fun f cdv A outer s H vs Q E hr h => ?_)
  · obtain ⟨a, b, v, ts, rfl, _⟩ := h
    rfl
  obtain ⟨a, b, v, ts, rfl, o, hv, he, tl, ws, k⟩ := h
  refine ⟨_, (pss_cons (ps_if (PW.pt (pw_or (pt_not (pt_val (pe_callB call_isN (by rfl) T.b_isinstance (by decide +kernel) (pa_cons (pv 0) (pa_cons (pe_bltn (v := .ty "list") (by rfl) T.b_list (by decide +kernel) rfl) pa_nil))))) (pw_or (pt_not (pt_truth (pv 0) (fun _ => rfl))) (pw_or1 (pt_truth (pe_lc (own := [("_law_term", 2)]) (g := gName 2) (te := tVar 2) rfl scLRight.nd (pi_list (pv 0)) blkR1 (fun _ _ _ _ _ => by exact pg_name (i := 2) scLRight.nd rfl (.inl rfl)) (fun _ _ _ _ _ => by exact pts_one (pt_not (pt_val (pe_kn d__law_is_whole hr (by rfl) (pa_cons (pv 2) pa_nil))))) (fun _ _ _ _ _ => by exact (pv 2))) (fun _ => rfl)))))) (pss_one (ps_ret pe_bl)) pss_nil)
      (pss_cons (ps_if (PW.pt (pw_or (pt_cmpR op_ne (pe_ix ix_any (pv 0) pe_int (fun _ _ => rfl)) (pe_op op_fdivX (pe_ix ix_any (pv 1) pe_int (fun _ _ => rfl)) (pe_ix ix_any (pv 1) pe_int (fun _ _ => rfl))) (nomark _)) (pw_or1 (pt_truth (pe_lc (own := [("_law_term", 2)]) (g := gName 2) (te := tVar 2) rfl scLRight.nd (pi_list (pe_fr (pe_slice sl_list (pv 0) (po_some pe_int) po_none))) blkR2 (fun _ _ _ _ _ => by exact pg_name (i := 2) scLRight.nd rfl (.inl rfl)) (fun _ _ _ _ _ => by exact pts_one (pt_cmpR op_lt (pv 2) pe_int (nomark _))) (fun _ _ _ _ _ => by exact (pv 2))) (fun _ => rfl))))) (pss_one (ps_ret pe_bl)) pss_nil)
      (pss_one (ps_ret (pe_and (pe_or (pe_cmpR op_eq (pe_callB call_lenA (by rfl) T.b_len PySem.boot_len (pa_cons (pv 0) pa_nil)) pe_int (nomark _)) (pe_one (pe_cmpR op_gt (pe_ix ix_any (pv 0) (pe_un un_neg pe_int) (fun _ _ => rfl)) pe_int (nomark _)))) (pe_one (pe_cmpR (op_eqF hr) (pe_ix ix_any (pe_kn d__law_values hr (by rfl) (pa_cons (pv 0) pa_nil)) (pe_un un_neg pe_int) (fun _ _ => rfl)) (pv 1) (nomark _)))))))), ?_⟩
  obtain ⟨ne, ev, tk, lg, r, er⟩ := eu_val_of hv.nf he
  subst er
  have ty : tyN K H (.ref a) = some "list" := by rw [tyN_ref, o]; rfl
  have v2 := hv.nf.1
  have ed : v.1.fdiv v.2 = v.1 / v.2 := Int.fdiv_eq_ediv_of_nonneg _ (by omega)
  have rl : r.length ≤ 999 := by rw [List.length_cons] at tl; omega
  refine ⟨_, rfl, _, _, rfl, by decide, _, ty, _, rfl, ?_⟩
  show if _ = true then _ else _
  refine if_no rfl ⟨_, rfl, _, .inl ⟨_, ob_lst o, rfl⟩, ?_⟩
  show if _ = true then _ else _
  refine if_no rfl ?_
  refine ⟨_, rfl, a, rfl, ⟨_, ob_lst o⟩, fun D hD => lc_list (xs := (v.1 / v.2 :: r).map V.int) (fun i H' => H' D = some (.lst []) ∧ Same H H') ⟨upd_same, Same.new hD _⟩ (fun i H' _ h => ob_lst (ob_same h.2 o)) ?_ ?_⟩
  · rintro i x H' hi ⟨h, s1⟩
    obtain ⟨t, rfl⟩ : ∃ t, x = V.int t := by
      obtain ⟨t, _, rfl⟩ := List.mem_map.mp (List.mem_of_getElem? hi)
      exact ⟨t, rfl⟩
    refine ⟨rfl, _, rfl, .int t, rfl, rfl, _, rfl, ?_⟩
    show if _ = true then _ else _
    exact if_no rfl ⟨h, s1⟩
  rintro H1 ⟨hD1, s1⟩
  refine ⟨_, .inl ⟨[], .of hD1, rfl⟩, if_no rfl ?_⟩
  have o1 := ob_same s1 o
  have hv1 := hv.same s1
  have ov1 := hv1.o
  clear hD1
  refine ⟨_, rfl, a, 0, rfl, rfl, _, itsO_ofL o1, _, atI_0 _ _, _, rfl, b, 0, rfl, rfl, _, itsO_of ov1, _, atI_0 _ _, _, rfl, b, 1, rfl, rfl, _, itsO_of ov1, _, atI_1 _ _ _, _, _, rfl, rfl, ⟨by omega, Nat.lt_of_lt_of_le hv.sz.2 (Nat.pow_le_pow_right (by omega) (by omega))⟩, rfl, _, rfl, ?_⟩
  refine if_no (by show (!decide (V.int (v.1 / v.2) = V.int (v.1.fdiv v.2))) = false; rw [ed]; simp) ?_
  refine ⟨_, rfl, 1, rfl, a, V.int (v.1 / v.2) :: r.map V.int, rfl, ob_lst o1, ?_⟩
  rw [cut1]
  refine fun p hp fr => ?_
  have s2 := Same.new hp (.lst (r.map V.int))
  have hp2 : upd H1 p (.lst (r.map V.int)) p = some (.lst (r.map V.int)) := upd_same
  generalize upd H1 p (.lst (r.map V.int)) = H2 at s2 hp2 ⊢
  refine ⟨p, rfl, ⟨_, .of hp2⟩, fun D hD => lc_list (xs := r.map V.int) (fun i H' => H' D = some (.lst []) ∧ Same H2 H') ⟨upd_same, Same.new hD _⟩ (fun i H' _ h => .of (h.2 _ _ hp2)) ?_ ?_⟩
  · rintro i x H' hi ⟨h, s3⟩
    obtain ⟨t, ht, rfl⟩ : ∃ t ∈ r, x = V.int t := by
      obtain ⟨t, ht, rfl⟩ := List.mem_map.mp (List.mem_of_getElem? hi)
      exact ⟨t, ht, rfl⟩
    have t1 := tk.2 t ht
    exact ⟨rfl, _, rfl, _, _, rfl, rfl, _, rfl, if_no (decide_eq_false (by omega)) ⟨h, s3⟩⟩
  rintro H3 ⟨hD3, s3⟩
  refine ⟨_, .inl ⟨[], .of hD3, rfl⟩, if_no rfl ?_⟩
  have s13 := s1.trans (s2.trans s3)
  have o3 := ob_same (s2.trans s3) o1
  have hv3 := hv1.same (s2.trans s3)
  clear hD3 s2 s3 hp2 fr hp o1 hv1 ov1 s1 ty
  have fin : tOp (rEqF K) (tOp (rIxA K) (tCall (spValues K) [] C8.E0 (tCons (tVar 0) L2.tNil)) (tUn (rU fun i => V.int (-i)) (tC (V.int 1)))) (tVar 1) [some (V.ref a), some (V.ref b), none] H3 (fun x H' => Q x H') := by
    refine ⟨_, rfl, a, _, rfl, o3, ne, by omega, ws, fun l xs H4 s4 hn hl kl rw4 => ?_⟩
    have hxl : xs.length = r.length + 1 := by rw [rw4.1, chn_len, List.length_cons]
    have hne : xs ≠ [] := fun e => by rw [e] at hxl; simp at hxl
    have cl := chn_at (v.1 / v.2 :: r) (0, 1) (1, 0) r.length (by simp)
    rw [List.take_of_length_le (by simp), ← val_stp, ev] at cl
    have hi : r.length < xs.length := by omega
    obtain ⟨c, hc, oc⟩ := rw4.2 r.length _ _ (List.getElem?_eq_getElem hi) cl
    have at' : atI xs (-1) = some (.ref c) := by
      rw [atI_m1 hne, hxl, Nat.add_sub_cancel, List.getElem?_eq_getElem hi, hc]
    refine ⟨_, rfl, l, -1, rfl, rfl, _, itsO_ofL ((ob_none kl).trans hl), _, at', _, rfl, c, b, v, v, rfl, rfl, oc, (hv3.same s4).o, ?_⟩
    rw [decide_eq_true rfl]
    exact k H4 (s13.trans s4)
  by_cases hr0 : r = []
  · subst hr0
    exact ⟨_, rfl, a, rfl, _, itsO_ofL o3, rfl, _, rfl, if_yes rfl ⟨_, rfl, if_yes rfl fin⟩⟩
  · obtain ⟨pre, u, epr⟩ : ∃ pre u, r = pre ++ [u] := ⟨r.dropLast, r.getLast hr0, (List.dropLast_concat_getLast hr0).symm⟩
    have u2 := lg (v.1 / v.2 :: pre) u (by rw [epr]; rfl) (by simp)
    have hrl : 1 ≤ r.length := by rw [epr]; simp
    have at' : atI ((v.1 / v.2 :: r).map V.int) (-1) = some (.int u) := by
      rw [atI_m1 (by simp), List.length_map, List.length_cons, Nat.add_sub_cancel, List.getElem?_map]
      rw [show (v.1 / v.2 :: r)[r.length]? = some u from by
        rw [epr, List.length_append, List.length_singleton, List.getElem?_cons_succ, List.getElem?_append_right (Nat.le_refl _), Nat.sub_self]
        rfl]
      rfl
    refine ⟨_, rfl, a, rfl, _, itsO_ofL o3, rfl, _, rfl, if_no (decide_eq_false ?_) ?_⟩
    · intro z
      have := V.int.inj z
      rw [List.length_map, List.length_cons] at this
      omega
    · refine ⟨_, rfl, _, rfl, a, -1, rfl, rfl, _, itsO_ofL o3, _, at', _, _, rfl, rfl, ?_⟩
      exact ⟨_, rfl, if_yes (decide_eq_true (by omega)) fin⟩

end
end My

namespace My
open PySem PySem.Spec PyProof.Rows L2
section
variable {P : Program} {w : World} {K : PySem.W.Frag} {mg : Str → Option Value} {base : Heap}
theorem lay_ints : ∀ ns : List Int, PyData.canLayAll0 (ns.map PyData.int) = true
  | [] => rfl
  | n :: r => by
    show (true && PyData.canLayAll0 (r.map PyData.int)) = true
    rw [lay_ints r]
    rfl
theorem depth_ints : ∀ ns : List Int, PyData.depthAll (ns.map PyData.int) = 0
  | [] => rfl
  | n :: r => by
    show max 0 (PyData.depthAll (r.map PyData.int)) = 0
    rw [depth_ints r]
    rfl
theorem shaped_ints (ns : List Int) : SeqAt.shaped (.list (ns.map PyData.int)) = true := by
  unfold SeqAt.shaped
  rw [show PyData.canLay0 (.list (ns.map PyData.int)) = PyData.canLayAll0 (ns.map PyData.int) from rfl, lay_ints, show PyData.depth (.list (ns.map PyData.int)) = PyData.depthAll (ns.map PyData.int) + 1 from rfl, depth_ints]
  rfl
theorem dpAll_ints {H : Hp} : ∀ ns : List Int, DpAll K H (ns.map V.int) (ns.map PyData.int)
  | [] => .nil
  | n :: r => .cons (.int n) (dpAll_ints r)
end
section
variable {K : PySem.W.Frag}
def rNeL (K : PySem.W.Frag) : R2 := fun x y H Q => ∃ (a b : Addr) (ns : List Int), x = .ref a ∧ y = .ref b ∧ SqL K H a (ns.map V.int) ∧ SqL K H b (ns.map V.int) ∧ Q (.bl false) H
theorem op_neL {X : Cx} {j : Nat} (hr : Room j X.A) : OpR X (compareOp .NotEq) (rNeL X.K) := fun pins s σ H x y v u Q I rx ry h => by
  obtain ⟨a, b, ns, ex, ey, oa, ob', k⟩ := h
  subst ex ey
  refine op_neD (by have := hr.un; omega) pins s σ H _ _ v u Q I rx ry ⟨_, _, .lst oa (dpAll_ints ns), .lst ob' (dpAll_ints ns), shaped_ints ns, shaped_ints ns, ?_⟩
  rw [SeqAt.eqv_refl (.list (ns.map PyData.int)) (lay_ints ns)]
  exact k
end
section
variable {P : Program} {w : World} {K : PySem.W.Frag} {mg : Str → Option Value} {base : Heap}
theorem eqv_lst {H : Hp} {a b : Addr} {xs : List V} (oa : ob K H a = some (.lst xs)) (ob' : ob K H b = some (.lst xs)) (hs : xs.all scv = true) (hl : xs.length ≤ 1000) : Eqv K H 1 (.ref a) (.ref b) := by
  refine .inr ⟨a, b, xs, xs, rfl, rfl, .inr ⟨oa, ob'⟩, rfl, hl, fun i x y hx hy => ?_⟩
  rw [hx] at hy
  cases hy
  exact ⟨rfl, List.all_eq_true.mp hs x (List.mem_of_getElem? hx)⟩
theorem scv_ints (ns : List Int) : (ns.map V.int).all scv = true := by
  rw [List.all_map, List.all_eq_true]
  intro _ _
  rfl
theorem Rws.at {H : Hp} {xs : List V} {qs : List Qt} {i : Nat} {q : Qt} (h : Rws K H xs qs) (hq : qs[i]? = some q) : ∃ a, xs[i]? = some (.ref a) ∧ ob K H a = some (frt q) := by
  have hi : i < xs.length := by rw [h.1]; exact (List.getElem?_eq_some_iff.mp hq).1
  obtain ⟨a, e, o⟩ := h.2 i _ q (List.getElem?_eq_getElem hi) hq
  exact ⟨a, by rw [List.getElem?_eq_getElem hi, e], o⟩
theorem Rws.kps {H H' : Hp} {s : Addr} {xs : List V} {qs : List Qt} (h : Rws K H xs qs) (e : Kp s H H') (st : Sto K H s) : Rws K H' xs qs := ⟨h.1, fun i x q hx hq => by
  obtain ⟨a, z, o⟩ := h.2 i x q hx hq
  exact ⟨a, z, ob_kps (xs := [.int q.1, .int q.2]) o e st⟩⟩
theorem quo_len2 {v : Qt} (n : Nf v) (s : Sz 135 v) {ts : List Int} (h : Eu v.1 v.2 ts) : ts.length ≤ 271 := by
  have z := s.2
  have n1 := n.1
  obtain ⟨us, h1, h2⟩ := eu_ex 135 v.1 v.2 (by omega) (by omega)
  rw [h.uni h1]
  exact h2
theorem TOk.take {ts : List Int} (h : TOk ts) (m : Nat) : TOk (ts.take (m + 1)) := by
  obtain ⟨ne, tl⟩ := h
  cases ts with
  | nil => exact absurd rfl ne
  | cons t0 r => exact ⟨by simp, fun u hu => tl u (List.mem_of_mem_take (show u ∈ r.take m from hu))⟩
/-- what stands while a fraction is taken apart -/
structure PF (K : PySem.W.Frag) (s va d c : Addr) (v : Qt) (ts : List Int) (xs : List V) (H H' : Hp) : Prop where
  st : Sto K H' s
  kp : Kp s H H'
  fv : Fq K H' 135 va v
  hc : H' c = some (.lst (ts.map V.int))
  hd : H' d = some (.lst xs)
  rw' : Rws K H' xs (chn (0, 1) (1, 0) ts)
theorem PF.same {s va d c : Addr} {v : Qt} {ts : List Int} {xs : List V} {H H1 H2 : Hp} (h : PF K s va d c v ts xs H H1) (e : Same H1 H2) : PF K s va d c v ts xs H H2 := ⟨h.st.same e, h.kp.trans (Kp.same e), h.fv.same e, e _ _ h.hc, e _ _ h.hd, h.rw'.same e⟩
theorem PF.draw {s va d c : Addr} {v : Qt} {ts : List Int} {xs : List V} {H H1 H2 : Hp} (h : PF K s va d c v ts xs H H1) (nc : c ≠ s) (nd : d ≠ s) (kp : Kp s H1 H2) (st : Sto K H2 s) : PF K s va d c v ts xs H H2 := ⟨st, h.kp.trans kp, h.fv.kps kp h.st, kp _ _ nc h.hc, kp _ _ nd h.hd, h.rw'.kps kp h.st⟩
theorem PF.mut {s va d c l : Addr} {v : Qt} {ts : List Int} {xs ys : List V} {o : HO} {H H1 : Hp} (h : PF K s va d c v ts xs H H1) (st0 : Sto K H s) (hl : H l = none) (h1 : H1 l = some (.lst ys)) (nc : c ≠ l) (nd : d ≠ l) : PF K s va d c v ts xs H (upd H1 l o) := by
  obtain ⟨m1, m2⟩ := st0.mut (o := o) hl h.kp h.st
  exact ⟨m1, m2, ⟨ob_putL h1 h.fv.o, h.fv.nf, h.fv.sz⟩, by rw [upd_ne nc]; exact h.hc, by rw [upd_ne nd]; exact h.hd, h.rw'.putL h1⟩
def spParted (K : PySem.W.Frag) : Sp := fun vs H Q _ => ∃ (s va : Addr) (v : Qt), vs = [.ref s, .ref va] ∧ Sto K H s ∧ Fq K H 135 va v ∧ ∀ H', Kp s H H' → Sto K H' s → Q (.bl true) H'
def PaI (K : PySem.W.Frag) (s va d c l e : Addr) (v : Qt) (ts : List Int) (xs : List V) (H : Hp) (j : Addr) (js : List V) (_ : Nat) (σ : L2.St) (H' : Hp) : Prop := ∃ x6 x7, σ = [some (.ref s), some (.ref va), some (.ref l), some (.ref d), some (.ref c), some (.ref e), x6, x7] ∧ PF K s va d c v ts xs H H' ∧ H' j = some (.lst js)
abbrev sParted : Stmt := topS 48
theorem scParted : FnScope ["_law_store_here", "_law_value", "_law_told_here", "_law_due", "_law_kept", "_law_rows", "_law_spot", "_law_terms"] ["_law_store_here", "_law_value"] (defScope sParted) := ⟨rfl, rfl, rfl, by decide +kernel, rfl, by decide +kernel, by decide +kernel⟩
theorem k_Parted (T : Bt K mg) (D : Dfn K mg "_law_parted" sParted ["_law_store_here", "_law_value"]) (d_quotients : Kn P w K mg base 3 "quotients" ["value"] (spQuots K)) (d__law_right : Kn P w K mg base 2 "_law_right" ["_law_told_here", "_law_value"] (spLRight K)) (d__law_values : Kn P w K mg base 1 "_law_values" ["_law_terms"] (spValues K)) (d__law_take : Kn P w K mg base 2 "_law_take" ["_law_store_here", "_law_many"] (spTake K)) (d__law_alike : Kn P w K mg base 4 "_law_alike" ["_law_told_here", "_law_due"] (spAlike K 3)) (d_convergents : Kn P w K mg base 4 "convergents" ["value"] (spConv K)) (d_value_of : Kn P w K mg base 3 "value_of" ["terms"] (spVal K)) : Kn P w K mg base 5 "_law_parted" ["_law_store_here", "_law_value"] (spParted K) := by
  refine Kn.mk' D scParted (fun vs H Q E h => ?_) (fun f cdv A outer s H vs Q E hr h => ?_)
  · obtain ⟨s, va, v, rfl, _⟩ := h
    rfl
  obtain ⟨s, va, v, rfl, hS, hv, k⟩ := h
  refine ⟨_, (pss_cons (ps_set (i := 2) scParted.nd rfl (.inl rfl) (pe_kn d_quotients hr (by rfl) (pa_cons (pv 1) pa_nil)))
      (pss_cons (ps_if (pt_not (pt_val (pe_kn d__law_right hr (by rfl) (pa_cons (pv 2) (pa_cons (pv 1) pa_nil))))) (pss_one (ps_ret pe_bl)) pss_nil)
      (pss_cons (ps_set (i := 3) scParted.nd rfl (.inl rfl) (pe_kn d__law_values hr (by rfl) (pa_cons (pv 2) pa_nil)))
      (pss_cons (ps_set (i := 4) scParted.nd rfl (.inl rfl) (pe_callTy call_listK (by rfl) T.b_list (by decide +kernel) (pa_cons (pv 2) pa_nil)))
      (pss_cons (ps_asg pe_int (pg_sub (pv 2) (pe_kn d__law_take hr (by rfl) (pa_cons (pv 0) (pa_cons (pe_callB call_lenA (by rfl) T.b_len PySem.boot_len (pa_cons (pv 2) pa_nil)) pa_nil))) set_any))
      (pss_cons (ps_expr (pe_bm PySem.F.plainAttrs_list PySem.F.slot_list_append PySem.F.type_list_append mt_append (pv 2) (pa_cons pe_int pa_nil)))
      (pss_cons (ps_if (pt_not (pt_val (pe_kn d__law_alike hr (by rfl) (pa_cons (pe_kn d_quotients hr (by rfl) (pa_cons (pv 1) pa_nil)) (pa_cons (pv 4) pa_nil))))) (pss_one (ps_ret pe_bl)) pss_nil)
      (pss_cons (ps_set (i := 5) scParted.nd rfl (.inl rfl) (pe_kn d_convergents hr (by rfl) (pa_cons (pv 1) pa_nil)))
      (pss_cons (ps_if (pt_not (pt_val (pe_kn d__law_alike hr (by rfl) (pa_cons (pv 5) (pa_cons (pv 3) pa_nil))))) (pss_one (ps_ret pe_bl)) pss_nil)
      (pss_cons (ps_expr (pe_bm PySem.F.plainAttrs_list PySem.F.slot_list_pop PySem.F.type_list_pop mt_popAt (pv 5) (pa_cons (pe_kn d__law_take hr (by rfl) (pa_cons (pv 0) (pa_cons (pe_callB call_lenA (by rfl) T.b_len PySem.boot_len (pa_cons (pv 5) pa_nil)) pa_nil))) pa_nil)))
      (pss_cons (ps_if (pt_not (pt_val (pe_kn d__law_alike hr (by rfl) (pa_cons (pe_kn d_convergents hr (by rfl) (pa_cons (pv 1) pa_nil)) (pa_cons (pv 3) pa_nil))))) (pss_one (ps_ret pe_bl)) pss_nil)
      (pss_cons (ps_for PassesOwn.never rfl (pi_list (pe_ls (pa_cons pe_int (pa_cons (pe_op op_sub (pe_callB call_lenA (by rfl) T.b_len PySem.boot_len (pa_cons (pv 4) pa_nil)) pe_int) (pa_cons (pe_kn d__law_take hr (by rfl) (pa_cons (pv 0) (pa_cons (pe_callB call_lenA (by rfl) T.b_len PySem.boot_len (pa_cons (pv 4) pa_nil)) pa_nil))) (pa_cons (pe_kn d__law_take hr (by rfl) (pa_cons (pv 0) (pa_cons (pe_callB call_lenA (by rfl) T.b_len PySem.boot_len (pa_cons (pv 4) pa_nil)) pa_nil))) pa_nil)))))) (pg_name (i := 6) scParted.nd rfl (.inl rfl)) (pss_cons (ps_set (i := 7) scParted.nd rfl (.inl rfl) (pe_fr (pe_slice sl_list (pv 4) po_none (po_some (pe_op op_add (pv 6) pe_int)))))
      (pss_one (ps_if (PW.pt (pw_or (pt_not (pt_val (pe_kn d__law_alike hr (by rfl) (pa_cons (pe_kn d_value_of hr (by rfl) (pa_cons (pv 7) pa_nil)) (pa_cons (pe_ix ix_any (pv 3) (pv 6) (fun _ _ => rfl)) pa_nil))))) (pw_or1 (pt_cmpR (op_neL hr) (pv 7) (pe_fr (pe_slice sl_list (pv 4) po_none (po_some (pe_op op_add (pv 6) pe_int)))) (nomark _))))) (pss_one (ps_ret pe_bl)) pss_nil))))
      (pss_one (ps_ret pe_bl)))))))))))))), ?_⟩
  refine ⟨_, rfl, va, v, rfl, hv.mono (by omega), fun ts l H1 he _ s1 hl0 hl kl => ?_⟩
  have len : ts.length ≤ 271 := quo_len2 hv.nf hv.sz he
  have tz := eu_sz he hv.sz.1 hv.sz.2
  have ws : wsum ts ≤ 80000 := by
    have w1 := wsum_le (k := 136) (by omega) tz
    have w2 := Nat.mul_le_mul_right (136 + 1) len
    omega
  clear tz
  obtain ⟨ne, ev, tk, lg, r, er⟩ := eu_val_of hv.nf he
  have tl1 : 1 ≤ ts.length := by rw [er]; simp
  have hv1 := hv.same s1
  have ol := (ob_none kl).trans hl
  refine ⟨_, rfl, _, rfl, l, va, v, ts, rfl, ol, hv1.mono (by omega), he, by omega, ws, fun H2 s2 => ⟨_, rfl, ?_⟩⟩
  show if _ = true then _ else _
  refine if_no rfl ?_
  have hl2 := s2 _ _ hl
  refine ⟨_, rfl, l, ts, rfl, ob_same s2 ol, ne, by omega, ws, fun d xs H3 s3 hd0 hd kd rwd => ?_⟩
  have hl3 := s3 _ _ hl2
  refine ⟨_, rfl, l, rfl, _, .inl (.of hl3), fun c hc kc => ?_⟩
  have s4 := Same.new hc (.lst (ts.map V.int))
  have ncl : c ≠ l := Ne.symm (ne_of_none hl3 hc)
  have ndc : d ≠ c := ne_of_none hd hc
  have ndl : d ≠ l := Ne.symm (ne_of_none hl2 hd0)
  have s14 := s1.trans (s2.trans (s3.trans s4))
  have nls : l ≠ s := hS.ne' hl0
  have nds : d ≠ s := (hS.same (s1.trans s2)).ne' hd0
  have ncs : c ≠ s := (hS.same (s1.trans (s2.trans s3))).ne' hc
  have P : PF K s va d c v ts xs H (upd H3 c (.lst (ts.map V.int))) := ⟨hS.same s14, Kp.same s14, hv.same s14, upd_same, s4 _ _ hd, rwd.same s4⟩
  have hl4 := s4 _ _ hl3
  generalize upd H3 c (.lst (ts.map V.int)) = H4 at P hl4 ⊢
  clear s1 s2 s3 s4 s14 hl2 hl3 hc hd hd0 rwd ol hl hv1
  refine ⟨_, rfl, _, rfl, _, rfl, l, rfl, _, itsO_ofL ((ob_none kl).trans hl4), s, _, rfl, P.st, by rw [List.length_map]; omega, fun i H5 i0 i1 kp5 st5 => ?_⟩
  have P5 := P.draw ncs nds kp5 st5
  have hl5 := kp5 _ _ nls hl4
  obtain ⟨j, rfl⟩ : ∃ j : Nat, i = (j : Int) := ⟨i.toNat, by omega⟩
  rw [List.length_map] at i1
  refine ⟨l, j, rfl, rfl, _, hl5, _, setI_nat (by rw [List.length_map]; omega) rfl, ?_⟩
  have P6 := P5.mut (o := .lst ((ts.map V.int).set j (.int 5))) hS hl0 hl5 ncl ndl
  have hl6 : upd H5 l (.lst ((ts.map V.int).set j (.int 5))) l = some (.lst ((ts.map V.int).set j (.int 5))) := upd_same
  generalize upd H5 l (.lst ((ts.map V.int).set j (.int 5))) = H6 at P6 hl6 ⊢
  clear P P5 hl4 hl5 kp5 st5 i0 i1
  refine ⟨_, rfl, .inl ⟨rfl, _, .of hl6⟩, l, _, _, rfl, rfl, hl6, by rw [List.length_set, List.length_map, sizeLine_eq]; omega, ?_⟩
  have P7 := P6.mut (o := .lst ((ts.map V.int).set j (.int 5) ++ [.int 2])) hS hl0 hl6 ncl ndl
  generalize upd H6 l (.lst ((ts.map V.int).set j (.int 5) ++ [.int 2])) = H7 at P7 ⊢
  clear P6 hl6
  refine ⟨_, rfl, va, v, rfl, P7.fv.mono (by omega), fun ts2 l2 H8 he2 _ s8 hn2 hl2 kl2 => ?_⟩
  obtain rfl := he2.uni he
  have P8 := P7.same s8
  refine ⟨_, rfl, _, _, rfl, (eqv_lst ((ob_none kl2).trans hl2) ((ob_none kc).trans P8.hc) (scv_ints _) (by rw [List.length_map]; omega)).up, fun H9 s9 => ⟨_, rfl, ?_⟩⟩
  show if _ = true then _ else _
  refine if_no rfl ?_
  have P9 := P8.same s9
  clear P7 P8 s8 s9 hn2 hl2 kl2 he2
  refine ⟨_, rfl, va, v, rfl, P9.fv.mono (by omega), fun ts3 e ys H10 he3 _ s10 hn3 hE kE rw3 => ?_⟩
  obtain rfl := he3.uni he
  have P10 := P9.same s10
  refine ⟨_, rfl, _, rfl, _, _, rfl, eqv_rows ((ob_none kE).trans hE) ((ob_none kd).trans P10.hd) rw3 P10.rw' (by rw [chn_len]; omega), fun H11 s11 => ⟨_, rfl, ?_⟩⟩
  show if _ = true then _ else _
  refine if_no rfl ?_
  have P11 := P10.same s11
  have hE11 := s11 _ _ hE
  have hE0 := Kp.free P9.kp P9.st hn3
  have nes : e ≠ s := P9.st.ne' hn3
  have nce : c ≠ e := ne_of_none P9.hc hn3
  have nde : d ≠ e := ne_of_none P9.hd hn3
  have yl : ys.length = ts3.length := by rw [rw3.1, chn_len]
  clear P9 P10 s10 s11 hE hn3 he3 rw3
  refine ⟨_, rfl, .inl ⟨rfl, _, .of hE11⟩, _, rfl, _, rfl, e, rfl, _, itsO_ofL ((ob_none kE).trans hE11), s, _, rfl, P11.st, by omega, fun i H12 i0 i1 kp12 st12 => ?_⟩
  have P12 := P11.draw ncs nds kp12 st12
  have hE12 := kp12 _ _ nes hE11
  obtain ⟨m, rfl⟩ : ∃ m : Nat, i = (m : Int) := ⟨i.toNat, by omega⟩
  have hm : m < ys.length := by omega
  have ix : ixN ys.length (m : Int) = some m := by
    unfold ixN
    rw [if_pos (by omega), if_pos (by omega)]
    simp
  refine ⟨e, ys, m, m, ys[m], rfl, rfl, hE12, by omega, by omega, (ixN_seq ix).1, List.getElem?_eq_getElem hm, ?_⟩
  have P13 := P12.mut (o := .lst (ys.eraseIdx m)) hS hE0 hE12 nce nde
  generalize upd H12 e (.lst (ys.eraseIdx m)) = H13 at P13 ⊢
  clear P11 P12 hE11 hE12 kp12 st12 i0 i1 ix
  refine ⟨_, rfl, va, v, rfl, P13.fv.mono (by omega), fun ts4 e2 zs H14 he4 _ s14 hn4 hE2 kE2 rw4 => ?_⟩
  obtain rfl := he4.uni he
  have P14 := P13.same s14
  refine ⟨_, rfl, _, _, rfl, eqv_rows ((ob_none kE2).trans hE2) ((ob_none kd).trans P14.hd) rw4 P14.rw' (by rw [chn_len]; omega), fun H15 s15 => ⟨_, rfl, ?_⟩⟩
  show if _ = true then _ else _
  refine if_no rfl ?_
  have P15 := P14.same s15
  clear P13 P14 s14 s15 hn4 hE2 kE2 rw4 he4
  have okc := (ob_none kc).trans P15.hc
  refine ⟨_, rfl, c, rfl, _, itsO_ofL okc, _, _, rfl, rfl, _, rfl, _, rfl, c, rfl, _, itsO_ofL okc, s, _, rfl, P15.st, by rw [List.length_map]; omega, fun t1 H16 t1a t1b kp16 st16 => ?_⟩
  have P16 := P15.draw ncs nds kp16 st16
  refine ⟨_, rfl, _, rfl, c, rfl, _, itsO_ofL ((ob_none kc).trans P16.hc), s, _, rfl, P16.st, by rw [List.length_map]; omega, fun t2 H17 t2a t2b kp17 st17 => ?_⟩
  have P17 := P16.draw ncs nds kp17 st17
  rw [List.length_map] at t1b t2b
  refine ⟨sz2 (by show 4 ≤ 100; decide), fun bl hb kb => ?_⟩
  obtain ⟨bs, ebs, hbs⟩ : ∃ bs : List Int, bs = [0, (ts4.length : Int) - 1, t1, t2] ∧ ∀ b ∈ bs, 0 ≤ b ∧ b < (ts4.length : Int) := ⟨_, rfl, fun b hb => by
    simp only [List.mem_cons, List.not_mem_nil, or_false] at hb
    rcases hb with rfl | rfl | rfl | rfl
    · omega
    · omega
    · omega
    · omega⟩
  have sB := Same.new hb (.lst (bs.map V.int))
  have hbl : upd H17 bl (.lst (bs.map V.int)) bl = some (.lst (bs.map V.int)) := upd_same
  have P18 := P17.same sB
  rw [show ([V.int 0, (fun i j => V.int (i - j)) (↑(List.map V.int ts4).length) 1, V.int t1, V.int t2] : List V) = bs.map V.int by rw [ebs, List.length_map]; rfl]
  generalize upd H17 bl (.lst (bs.map V.int)) = H18 at hbl P18 ⊢
  clear sB hb kb P15 P16 P17 okc ebs kp16 st16 kp17 st17 t1a t1b t2a t2b
  refine ⟨bl, rfl, ⟨_, .of hbl⟩, forI_list (xs := bs.map V.int) (PaI K s va d c l e v ts4 xs H bl (bs.map V.int)) ⟨none, none, rfl, P18, hbl⟩ ?_ ?_ ?_⟩
  · rintro i σ H' _ ⟨x6, x7, rfl, _, g⟩
    exact .of g
  · rintro i x σ H' hi ⟨x6, x7, rfl, P, g⟩
    obtain ⟨b, rfl, hb⟩ : ∃ b, x = V.int b ∧ bs[i]? = some b := by
      rw [List.getElem?_map] at hi
      cases e : bs[i]? with
      | none => rw [e] at hi; cases hi
      | some z => rw [e] at hi; exact ⟨z, (Option.some.inj hi).symm, rfl⟩
    have bb := hbs b (List.mem_of_getElem? hb)
    obtain ⟨m2, rfl⟩ : ∃ m2 : Nat, b = (m2 : Int) := ⟨b.toNat, by omega⟩
    have hm2 : m2 < ts4.length := by omega
    have ec : cutV (ts4.map V.int) none (some ((fun i j => i + j) (m2 : Int) 1)) = (ts4.take (m2 + 1)).map V.int := by
      show cutV (ts4.map V.int) none (some ((m2 : Int) + 1)) = _
      rw [show (m2 : Int) + 1 = ((m2 + 1 : Nat) : Int) by omega, cut_to _ _ (by rw [List.length_map]; omega), List.map_take]
    refine ⟨_, rfl, _, rfl, _, _, rfl, rfl, _, rfl, c, _, rfl, .of P.hc, fun p hp fr => ?_⟩
    rw [ec] at fr ⊢
    have kp' : K.lookup p = none := fr p (by rw [upd_same]; simp)
    have sp := Same.new hp (.lst ((ts4.take (m2 + 1)).map V.int))
    have cp : upd H' p (.lst ((ts4.take (m2 + 1)).map V.int)) p = some (.lst ((ts4.take (m2 + 1)).map V.int)) := upd_same
    have Pp := P.same sp
    have gp := sp _ _ g
    generalize upd H' p (.lst ((ts4.take (m2 + 1)).map V.int)) = G1 at cp Pp gp ⊢
    clear sp fr
    have tkl : (ts4.take (m2 + 1)).length ≤ 400 := by rw [List.length_take]; omega
    have wk := wsum_take ts4 (m2 + 1)
    refine ⟨_, rfl, p, _, rfl, (ob_none kp').trans cp, tk.take m2, tkl, by omega, fun z G2 t1 oz => ?_⟩
    obtain ⟨a, ea, oa⟩ := Pp.rw'.at (chn_at ts4 (0, 1) (1, 0) m2 hm2)
    refine ⟨_, rfl, _, rfl, d, _, rfl, rfl, _, itsO_ofL ((ob_none kd).trans (t1 _ _ Pp.hd)), _, ?_, _, _, rfl, eqv_f oz (ob_same t1 oa) (val_stp _), fun G3 t2 => ⟨_, rfl, ?_⟩⟩
    · exact atI_nat ea
    have P3 := Pp.same (t1.trans t2)
    have cp3 := t2 _ _ (t1 _ _ cp)
    have gp3 := t2 _ _ (t1 _ _ gp)
    show if _ = true then _ else _
    refine if_no rfl ?_
    refine ⟨_, rfl, _, rfl, _, rfl, _, _, rfl, rfl, _, rfl, c, _, rfl, .of P3.hc, fun q hq fr => ?_⟩
    rw [ec] at fr ⊢
    have kq : K.lookup q = none := fr q (by rw [upd_same]; simp)
    have sq := Same.new hq (.lst ((ts4.take (m2 + 1)).map V.int))
    have P4 := P3.same sq
    refine ⟨p, q, _, rfl, rfl, .of (sq _ _ cp3), .of upd_same, _, rfl, ?_⟩
    show if _ = true then _ else _
    refine if_no rfl ?_
    exact ⟨_, _, rfl, P4, sq _ _ gp3⟩
  · rintro σ H' ⟨x6, x7, rfl, P, g⟩
    exact k H' P.kp P.st
end
end My

namespace My
open PySem PySem.Spec PyProof.Rows L2
section
variable {P : Program} {w : World} {K : PySem.W.Frag} {mg : Str → Option Value} {base : Heap}
theorem snoc_ex {α : Type} {ts : List α} (ne : ts ≠ []) : ∃ pre t, ts = pre ++ [t] := ⟨ts.dropLast, ts.getLast ne, (List.dropLast_concat_getLast ne).symm⟩
theorem nrm_ex {ts : List Int} (tk : TOk ts) : (∃ pre a, ts = pre ++ [a, 1] ∧ Eu (valF ts).1 (valF ts).2 (pre ++ [a + 1]) ∧ valF (pre ++ [a + 1]) = valF ts) ∨ ((ts.length ≤ 1 ∨ ∃ pre t, ts = pre ++ [t] ∧ t ≠ 1) ∧ Eu (valF ts).1 (valF ts).2 ts) := by
  obtain ⟨pre, t, rfl⟩ := snoc_ex tk.1
  by_cases hp : pre = []
  · subst hp
    refine .inr ⟨.inl (by simp), eu_val _ tk fun p u e hn => ?_⟩
    have := (List.append_inj' e rfl).1
    exact absurd this.symm hn
  have tt : 1 ≤ t := tk.2 t (by
    cases pre with
    | nil => exact absurd rfl hp
    | cons a r => exact List.mem_append.mpr (.inr (List.mem_singleton.mpr rfl)))
  by_cases h1 : t = 1
  · subst h1
    obtain ⟨p2, a, rfl⟩ := snoc_ex hp
    have e0 : p2 ++ [a] ++ [(1 : Int)] = p2 ++ [a, 1] := by simp
    have e1 : valF (p2 ++ [a] ++ [1]) = valF (p2 ++ [a + 1]) := by rw [e0]; exact val_merge a p2
    have tk2 : TOk (p2 ++ [a + 1]) ∧ (p2 ≠ [] → 1 ≤ a) := by
      cases p2 with
      | nil => exact ⟨⟨by simp, fun u hu => by cases hu⟩, fun h => absurd rfl h⟩
      | cons b r =>
        have a1 : 1 ≤ a := tk.2 a (by simp)
        refine ⟨⟨by simp, fun u hu => ?_⟩, fun _ => a1⟩
        have hu : u ∈ r ++ [a + 1] := hu
        rcases List.mem_append.mp hu with h | h
        · exact tk.2 u (by show u ∈ r ++ [a] ++ [1]; simp [h])
        · rw [List.mem_singleton] at h
          omega
    refine .inl ⟨p2, a, e0, ?_, e1.symm⟩
    rw [e1]
    refine eu_val _ tk2.1 fun p u e hn => ?_
    obtain ⟨x1, x2⟩ := List.append_inj' e rfl
    have a1 := tk2.2 (by rw [x1]; exact hn)
    have : a + 1 = u := by simpa using x2
    omega
  · refine .inr ⟨.inr ⟨pre, t, rfl, h1⟩, eu_val _ tk fun p u e hn => ?_⟩
    have x2 := (List.append_inj' e rfl).2
    have : t = u := by simpa using x2
    omega
theorem Rws.last {H : Hp} {xs : List V} {ts : List Int} (h : Rws K H xs (chn (0, 1) (1, 0) ts)) (ne : ts ≠ []) : ∃ a, atI xs (-1) = some (.ref a) ∧ ob K H a = some (frt (valF ts)) := by
  have hl : 0 < ts.length := by
    cases ts with
    | nil => exact absurd rfl ne
    | cons a r => simp
  obtain ⟨a, e, o⟩ := h.at (chn_at ts (0, 1) (1, 0) (ts.length - 1) (by omega))
  have el : xs.length = ts.length := by rw [h.1, chn_len]
  rw [show ts.length - 1 + 1 = ts.length by omega, List.take_length, ← val_stp] at o
  refine ⟨a, ?_, o⟩
  rw [atI_m1 (fun z => by rw [z] at el; simp at el; omega), el]
  exact e
theorem cut_m1 (xs : List V) (x : V) : cutV (xs ++ [x]) none (some (-1)) = xs := by
  have e : HT.sIx (xs ++ [x]).length (xs ++ [x]).length (some (-1)) = xs.length := by
    show (if (-1 : Int) < 0 then ((-1 : Int) + ((xs ++ [x]).length : Int)).toNat else min (-1 : Int).toNat (xs ++ [x]).length) = _
    rw [if_pos (by omega), List.length_append, List.length_singleton]
    omega
  unfold cutV
  rw [e, HT.sIx_none, List.drop_zero, Nat.sub_zero, List.take_append_of_le_length (Nat.le_refl _), List.take_length]
theorem at_last (xs : List V) (x : V) : atI (xs ++ [x]) (-1) = some x := by
  rw [atI_m1 (by simp), List.length_append, List.length_singleton, Nat.add_sub_cancel, List.getElem?_append_right (Nat.le_refl _), Nat.sub_self]
  rfl
theorem set_last (xs : List V) (x v : V) : setI (xs ++ [x]) (-1) v = some (xs ++ [v]) := by
  have e : ixN (xs ++ [x]).length (-1) = some xs.length := by
    unfold ixN
    rw [if_neg (by omega), if_pos (by rw [List.length_append, List.length_singleton]; omega), List.length_append, List.length_singleton]
    congr 1
    omega
  unfold setI
  rw [e]
  show some ((xs ++ [x]).set xs.length v) = _
  rw [List.set_append_right _ _ (Nat.le_refl _), Nat.sub_self]
  rfl
def spJoined (K : PySem.W.Frag) : Sp := fun vs H Q _ => ∃ (a : Addr) (ts : List Int), vs = [.ref a] ∧ H a = some (.lst (ts.map V.int)) ∧ K.lookup a = none ∧ TOk ts ∧ ts.length ≤ 400 ∧ wsum ts ≤ 2600 ∧ (∀ t ∈ ts, t.natAbs < 2 ^ 134) ∧ ∀ H', Same H H' → Q (.bl true) H'
abbrev sJoined : Stmt := topS 49
theorem scJoined : FnScope ["_law_terms", "_law_given", "_law_value", "_law_step", "_law_next_value", "_law_due"] ["_law_terms"] (defScope sJoined) := ⟨rfl, rfl, rfl, by decide +kernel, rfl, by decide +kernel, by decide +kernel⟩
theorem k_Joined (T : Bt K mg) (D : Dfn K mg "_law_joined_up" sJoined ["_law_terms"]) (d_value_of : Kn P w K mg base 3 "value_of" ["terms"] (spVal K)) (d__law_values : Kn P w K mg base 1 "_law_values" ["_law_terms"] (spValues K)) (d__law_alike : Kn P w K mg base 4 "_law_alike" ["_law_told_here", "_law_due"] (spAlike K 3)) (d_quotients : Kn P w K mg base 3 "quotients" ["value"] (spQuots K)) (d_convergents : Kn P w K mg base 4 "convergents" ["value"] (spConv K)) : Kn P w K mg base 5 "_law_joined_up" ["_law_terms"] (spJoined K) := by
  refine Kn.mk' D scJoined (fun vs H Q E h => ?_) (fun f cdv A outer s H vs Q E hr h => ?_)
  · obtain ⟨a, ts, rfl, _⟩ := h
    rfl
  obtain ⟨a, ts, rfl, ha, ka, tk, tl, ws, b1, k⟩ := h
  refine ⟨_, (pss_cons (ps_set (i := 1) scJoined.nd rfl (.inl rfl) (pe_callTy call_listK (by rfl) T.b_list (by decide +kernel) (pa_cons (pv 0) pa_nil)))
      (pss_cons (ps_set (i := 2) scJoined.nd rfl (.inl rfl) (pe_kn d_value_of hr (by rfl) (pa_cons (pv 1) pa_nil)))
      (pss_cons (ps_if (PW.pt (pw_or (pt_not (pt_val (pe_kn d__law_alike hr (by rfl) (pa_cons (pv 2) (pa_cons (pe_ix ix_any (pe_kn d__law_values hr (by rfl) (pa_cons (pv 0) pa_nil)) (pe_un un_neg pe_int) (fun _ _ => rfl)) pa_nil))))) (pw_or1 (pt_not (pt_val (pe_kn d__law_alike hr (by rfl) (pa_cons (pv 1) (pa_cons (pv 0) pa_nil)))))))) (pss_one (ps_ret pe_bl)) pss_nil)
      (pss_cons (ps_set (i := 3) scJoined.nd rfl (.inl rfl) (pe_op op_sub pe_int (pe_op op_mul pe_int (pe_callTy call_int1 (by rfl) T.b_int (by decide +kernel) (pa_cons (pe_cmpR op_gt (pe_ix ix_any (pv 1) pe_int (fun _ _ => rfl)) pe_int (nomark _)) pa_nil)))))
      (pss_cons (ps_asg (pe_op op_add (pe_ix ix_any (pv 1) pe_int (fun _ _ => rfl)) (pv 3)) (pg_sub (pv 1) pe_int set_any))
      (pss_cons (ps_set (i := 4) scJoined.nd rfl (.inl rfl) (pe_tp (pa_cons (pe_op op_add (pe_ix ix_any (pv 2) pe_int (fun _ _ => rfl)) (pe_op op_mulW (pv 3) (pe_ix ix_any (pv 2) pe_int (fun _ _ => rfl)))) (pa_cons (pe_ix ix_any (pv 2) pe_int (fun _ _ => rfl)) pa_nil))))
      (pss_cons (ps_if (PW.pt (pw_or (pt_not (pt_val (pe_kn d__law_alike hr (by rfl) (pa_cons (pe_kn d_value_of hr (by rfl) (pa_cons (pv 1) pa_nil)) (pa_cons (pv 4) pa_nil))))) (pw_or1 (pt_not (pt_val (pe_kn d__law_alike hr (by rfl) (pa_cons (pe_kn d_value_of hr (by rfl) (pa_cons (pv 0) pa_nil)) (pa_cons (pv 2) pa_nil)))))))) (pss_one (ps_ret pe_bl)) pss_nil)
      (pss_cons (ps_set (i := 5) scJoined.nd rfl (.inl rfl) (pe_callTy call_listK (by rfl) T.b_list (by decide +kernel) (pa_cons (pv 0) pa_nil)))
      (pss_cons (ps_if (PW.pt (pw_and (pt_cmpR op_gt (pe_callB call_lenA (by rfl) T.b_len PySem.boot_len (pa_cons (pv 5) pa_nil)) pe_int (nomark _)) (pw_and1 (pt_cmpR op_eq (pe_ix ix_any (pv 5) (pe_un un_neg pe_int) (fun _ _ => rfl)) pe_int (nomark _))))) (pss_cons (ps_set (i := 5) scJoined.nd rfl (.inl rfl) (pe_fr (pe_slice sl_list (pv 5) po_none (po_some (pe_un un_neg pe_int)))))
      (pss_one (ps_asg (pe_op op_add (pe_ix ix_any (pv 5) (pe_un un_neg pe_int) (fun _ _ => rfl)) pe_int) (pg_sub (pv 5) (pe_un un_neg pe_int) set_any)))) pss_nil)
      (pss_one (ps_ret (pe_and (pe_kn d__law_alike hr (by rfl) (pa_cons (pe_kn d_quotients hr (by rfl) (pa_cons (pv 2) pa_nil)) (pa_cons (pv 5) pa_nil))) (pe_one (pe_kn d__law_alike hr (by rfl) (pa_cons (pe_ix ix_any (pe_kn d_convergents hr (by rfl) (pa_cons (pv 2) pa_nil)) (pe_un un_neg pe_int) (fun _ _ => rfl)) (pa_cons (pv 2) pa_nil)))))))))))))))), ?_⟩
  have oa := (ob_none ka).trans ha
  refine ⟨_, rfl, a, rfl, _, .inl (.of ha), fun c hc kc => ?_⟩
  have s1 := Same.new hc (.lst (ts.map V.int))
  have c1 : upd H c (.lst (ts.map V.int)) c = some (.lst (ts.map V.int)) := upd_same
  generalize upd H c (.lst (ts.map V.int)) = H1 at s1 c1 ⊢
  have oc1 := (ob_none kc).trans c1
  have sz := (val_sz ts).mono (show 1 + wsum ts ≤ 2700 by omega)
  have nf := val_nf tk
  refine ⟨_, rfl, c, ts, rfl, oc1, tk, tl, by omega, fun z H2 s2 oz => ?_⟩
  refine ⟨_, rfl, _, rfl, a, ts, rfl, ob_same (s1.trans s2) oa, tk.1, by omega, by omega, fun l xs H3 s3 _ hl kl rw1 => ?_⟩
  obtain ⟨b, eb, ob1⟩ := rw1.last tk.1
  refine ⟨_, rfl, l, -1, rfl, rfl, _, itsO_ofL ((ob_none kl).trans hl), _, eb, _, _, rfl, eqv_f (ob_same s3 oz) ob1 rfl, fun H4 s4 => ⟨_, rfl, ?_⟩⟩
  show if _ = true then _ else _
  refine if_no rfl ?_
  have s24 := s2.trans (s3.trans s4)
  refine ⟨_, rfl, _, rfl, _, _, rfl, (eqv_lst (ob_same s24 oc1) (ob_same (s1.trans s24) oa) (scv_ints _) (by rw [List.length_map]; omega)).up, fun H5 s5 => ⟨_, rfl, ?_⟩⟩
  show if _ = true then _ else _
  refine if_no rfl ?_
  have s25 := s24.trans s5
  have s15 := s1.trans s25
  have oz5 := ob_same (s3.trans (s4.trans s5)) oz
  have c5 := s25 _ _ c1
  obtain ⟨t0, r, ets⟩ : ∃ t0 r, ts = t0 :: r := by
    cases ts with
    | nil => exact absurd rfl tk.1
    | cons t0 r => exact ⟨t0, r, rfl⟩
  have o5 : ob K H5 c = some (.lst (.int t0 :: r.map V.int)) := by
    exact (ob_none kc).trans (by rw [c5, ets]; rfl)
  obtain ⟨sp, hsp, esp⟩ : ∃ sp : Int, (sp = 1 ∨ sp = -1) ∧ (1 - 2 * (if decide (0 < t0) = true then (1 : Int) else 0)) = sp := ⟨_, by split <;> omega, rfl⟩
  refine ⟨_, rfl, c, 0, rfl, rfl, _, itsO_ofL o5, _, atI_0 _ _, _, _, rfl, rfl, .inr ⟨_, rfl, _, _, rfl, rfl, .inl ⟨by decide, by decide⟩, _, _, rfl, rfl, ?_⟩⟩
  rw [show ((fun i j => V.int (i - j)) (1 : Int) (2 * if decide (0 < t0) = true then 1 else 0)) = V.int sp from congrArg V.int esp]
  have c5' : H5 c = some (.lst (.int t0 :: r.map V.int)) := by rw [c5, ets]; rfl
  refine ⟨_, rfl, c, 0, rfl, rfl, _, itsO_ofL o5, _, atI_0 _ _, _, rfl, _, _, rfl, rfl, _, rfl, c, 0, rfl, rfl, _, c5', _, setI_0 _ _ _, ?_⟩
  have c6 : upd H5 c (.lst (.int (t0 + sp) :: r.map V.int)) c = some (.lst (((t0 + sp) :: r).map V.int)) := upd_same
  have oz6 : ob K (upd H5 c (.lst (.int (t0 + sp) :: r.map V.int))) z = _ := ob_putL c5' oz5
  have s6 : Same H (upd H5 c (.lst (.int (t0 + sp) :: r.map V.int))) := fun b o e => by
    rw [upd_ne (ne_of_none e hc)]
    exact s15 _ _ e
  generalize upd H5 c (.lst (.int (t0 + sp) :: r.map V.int)) = H6 at c6 oz6 s6 ⊢
  have zz := sz.2
  refine ⟨_, rfl, z, 0, rfl, rfl, _, itsO_of oz6, _, atI_0 _ _, _, rfl, _, rfl, z, 1, rfl, rfl, _, itsO_of oz6, _, atI_1 _ _ _, _, _, rfl, rfl, mulW (a := 1) (b := 2700) (by rcases hsp with h | h <;> rw [h] <;> decide) zz (by omega), _, _, rfl, rfl, _, rfl, z, 1, rfl, rfl, _, itsO_of oz6, _, atI_1 _ _ _, sz2 (by show 2 ≤ 100; decide), fun tp htp ktp => ?_⟩
  have ev2 : valF ((t0 + sp) :: r) = ((valF ts).1 + sp * (valF ts).2, (valF ts).2) := by
    rw [ets]
    refine Prod.ext ?_ rfl
    show (t0 + sp) * (valF r).1 + (valF r).2 = (t0 * (valF r).1 + (valF r).2) + sp * (valF r).1
    grind
  have tk2 : TOk ((t0 + sp) :: r) := ⟨by simp, fun u hu => tk.2 u (by rw [ets]; exact hu)⟩
  have tl2 : ((t0 + sp) :: r).length ≤ 400 := by
    rw [ets, List.length_cons] at tl
    rw [List.length_cons]
    exact tl
  have ws2 : wsum ((t0 + sp) :: r) ≤ 80000 := by
    have z1 : (t0 + sp).natAbs < 2 ^ 135 := szAdd (a := 134) (b := 1) (b1 t0 (by rw [ets]; exact List.mem_cons_self)) (by rcases hsp with h | h <;> rw [h] <;> decide) (by omega) (by omega)
    have w1 := wsum_le (k := 135) (by omega) (ts := [t0 + sp]) fun u hu => by
      rw [List.mem_singleton] at hu
      rw [hu]
      exact z1
    have w2 := wsum_app [t0 + sp] r
    have w3 := wsum_app [t0] r
    rw [ets] at ws
    rw [show [t0] ++ r = t0 :: r from rfl] at w3
    rw [show [t0 + sp] ++ r = (t0 + sp) :: r from rfl] at w2
    rw [List.length_singleton] at w1
    omega
  have s7 := Same.new htp (.tup [.int ((valF ts).1 + sp * (valF ts).2), .int (valF ts).2])
  have o7 : ob K (upd H6 tp (.tup [.int ((valF ts).1 + sp * (valF ts).2), .int (valF ts).2])) tp = some (frt (valF ((t0 + sp) :: r))) := by
    rw [ev2]
    exact ob_new ktp
  have e7 : upd H6 tp (.tup [(fun i j => V.int (i + j)) (valF ts).1 (sp * (valF ts).2), .int (valF ts).2]) = upd H6 tp (.tup [.int ((valF ts).1 + sp * (valF ts).2), .int (valF ts).2]) := rfl
  rw [e7]
  have c7 := s7 _ _ c6
  have oz7 := ob_same s7 oz6
  have sA := s6.trans s7
  generalize upd H6 tp (.tup [.int ((valF ts).1 + sp * (valF ts).2), .int (valF ts).2]) = H7 at c7 oz7 sA o7 ⊢
  clear e7 s7 s6 c6 oz6 c5 c5' o5 oz5 s15 s25 s24 s1 c1 oc1
  refine ⟨_, rfl, c, _, rfl, (ob_none kc).trans c7, tk2, tl2, ws2, fun z2 H8 s8 o8 => ⟨_, rfl, _, _, rfl, eqv_f o8 (ob_same s8 o7) rfl, fun H9 s9 => ⟨_, rfl, ?_⟩⟩⟩
  show if _ = true then _ else _
  refine if_no rfl ?_
  have sB := sA.trans (s8.trans s9)
  have ozB := ob_same (s8.trans s9) oz7
  refine ⟨_, rfl, a, ts, rfl, ob_same sB oa, tk, tl, by omega, fun z3 H10 s10 o10 => ⟨_, rfl, _, _, rfl, eqv_f o10 (ob_same s10 ozB) rfl, fun H11 s11 => ⟨_, rfl, ?_⟩⟩⟩
  show if _ = true then _ else _
  refine if_no rfl ?_
  have sC := sB.trans (s10.trans s11)
  have ozC := ob_same (s10.trans s11) ozB
  refine ⟨_, rfl, a, rfl, _, .inl (.of (sC _ _ ha)), fun d hd kd => ?_⟩
  have s12 := Same.new hd (.lst (ts.map V.int))
  have d12 : upd H11 d (.lst (ts.map V.int)) d = some (.lst (ts.map V.int)) := upd_same
  have hd0 : H d = none := sC.free hd
  have sD := sC.trans s12
  have ozD := ob_same s12 ozC
  generalize upd H11 d (.lst (ts.map V.int)) = H12 at s12 d12 sD ozD ⊢
  have od := (ob_none kd).trans d12
  have fin : True := trivial
  rcases nrm_ex tk with ⟨pre, b, epb, heu, evu⟩ | ⟨hn, heu⟩
  · have eL : ts.map V.int = pre.map V.int ++ [.int b] ++ [.int 1] := by
      rw [epb, List.map_append]
      simp
    have lp : ts.length = pre.length + 2 := by rw [epb, List.length_append]; rfl
    refine ⟨_, rfl, d, rfl, _, itsO_ofL od, _, _, rfl, rfl, _, rfl, if_yes (decide_eq_true (by rw [List.length_map]; omega)) ?_⟩
    refine ⟨_, rfl, _, rfl, d, -1, rfl, rfl, _, itsO_ofL od, _, (by rw [eL]; exact at_last _ _), rfl, _, rfl, if_yes (decide_eq_true rfl) ?_⟩
    refine ⟨_, rfl, _, rfl, _, rfl, d, _, rfl, .of d12, fun p hp fr => ?_⟩
    rw [eL, show cutV (pre.map V.int ++ [V.int b] ++ [V.int 1]) none (some ((fun i => -i) 1)) = pre.map V.int ++ [V.int b] from cut_m1 _ _] at fr ⊢
    have kp : K.lookup p = none := fr p (by rw [upd_same]; simp)
    have sp' := Same.new hp (.lst (pre.map V.int ++ [.int b]))
    have cp : upd H12 p (.lst (pre.map V.int ++ [.int b])) p = some (.lst (pre.map V.int ++ [.int b])) := upd_same
    generalize upd H12 p (.lst (pre.map V.int ++ [.int b])) = H13 at sp' cp ⊢
    refine ⟨_, rfl, _, rfl, p, -1, rfl, rfl, _, itsO_ofL ((ob_none kp).trans cp), _, at_last _ _, _, _, rfl, rfl, _, rfl, _, rfl, p, -1, rfl, rfl, _, cp, _, set_last _ _ _, ?_⟩
    have hp0 : H p = none := sD.free hp
    have odX : ob K (upd H13 p (.lst (pre.map V.int ++ [.int (b + 1)]))) p = some (.lst ((pre ++ [b + 1]).map V.int)) := (ob_none kp).trans (by rw [upd_same, List.map_append]; rfl)
    have ozX : ob K (upd H13 p (.lst (pre.map V.int ++ [.int (b + 1)]))) z = _ := ob_putL cp (ob_same sp' ozD)
    have sX : Same H (upd H13 p (.lst (pre.map V.int ++ [.int (b + 1)]))) := fun x o e => by
      rw [upd_ne (ne_of_none e hp0)]
      exact (sD.trans sp') _ _ e
    have neX : pre ++ [b + 1] ≠ [] := by simp
    have evX := evu
    have lX : (pre ++ [b + 1]).length ≤ 400 := by rw [List.length_append, List.length_singleton]; omega
    generalize upd H13 p (.lst (pre.map V.int ++ [.int (b + 1)])) = HX at odX ozX sX ⊢
    refine ⟨_, rfl, z, _, rfl, ⟨ozX, nf, sz.mono (by omega)⟩, fun us2 l2 HA he _ sX1 _ hl2 kl2 => ?_⟩
    obtain rfl := he.uni heu
    refine ⟨_, rfl, _, _, rfl, (eqv_lst ((ob_none kl2).trans hl2) (ob_same sX1 odX) (scv_ints _) (by rw [List.length_map]; omega)).up, fun HB sX2 => ?_⟩
    refine ⟨_, rfl, if_yes rfl ⟨_, rfl, z, _, rfl, ⟨ob_same (sX1.trans sX2) ozX, nf, sz.mono (by omega)⟩, fun us3 l3 xs3 HC he3 _ sX3 _ hl3 kl3 rw3 => ?_⟩⟩
    obtain rfl := he3.uni heu
    obtain ⟨b3, eb3, ob3⟩ := rw3.last neX
    exact ⟨_, rfl, l3, -1, rfl, rfl, _, itsO_ofL ((ob_none kl3).trans hl3), _, eb3, _, rfl, _, _, rfl, eqv_f ob3 (ob_same (sX1.trans (sX2.trans sX3)) ozX) evX, fun HD sX4 => k HD (sX.trans (sX1.trans (sX2.trans (sX3.trans sX4))))⟩
  · have odX := od
    have ozX := ozD
    have sX := sD
    have lX := tl
    have neX := tk.1
    have evX : valF ts = valF ts := rfl
    by_cases h1 : 1 < ts.length
    · obtain ⟨pre, t, ept, nt⟩ : ∃ pre t, ts = pre ++ [t] ∧ t ≠ 1 := by
        rcases hn with h | h
        · omega
        · exact h
      refine ⟨_, rfl, d, rfl, _, itsO_ofL od, _, _, rfl, rfl, _, rfl, if_yes (decide_eq_true (by rw [List.length_map]; omega)) ?_⟩
      refine ⟨_, rfl, _, rfl, d, -1, rfl, rfl, _, itsO_ofL od, .int t, (by rw [ept, List.map_append]; exact at_last _ _), rfl, _, rfl, if_no (decide_eq_false (fun e => nt (V.int.inj e))) ?_⟩
      refine ⟨_, rfl, z, _, rfl, ⟨ozX, nf, sz.mono (by omega)⟩, fun us2 l2 HA he _ sX1 _ hl2 kl2 => ?_⟩
      obtain rfl := he.uni heu
      refine ⟨_, rfl, _, _, rfl, (eqv_lst ((ob_none kl2).trans hl2) (ob_same sX1 odX) (scv_ints _) (by rw [List.length_map]; omega)).up, fun HB sX2 => ?_⟩
      refine ⟨_, rfl, if_yes rfl ⟨_, rfl, z, _, rfl, ⟨ob_same (sX1.trans sX2) ozX, nf, sz.mono (by omega)⟩, fun us3 l3 xs3 HC he3 _ sX3 _ hl3 kl3 rw3 => ?_⟩⟩
      obtain rfl := he3.uni heu
      obtain ⟨b3, eb3, ob3⟩ := rw3.last neX
      exact ⟨_, rfl, l3, -1, rfl, rfl, _, itsO_ofL ((ob_none kl3).trans hl3), _, eb3, _, rfl, _, _, rfl, eqv_f ob3 (ob_same (sX1.trans (sX2.trans sX3)) ozX) evX, fun HD sX4 => k HD (sX.trans (sX1.trans (sX2.trans (sX3.trans sX4))))⟩
    · refine ⟨_, rfl, d, rfl, _, itsO_ofL od, _, _, rfl, rfl, _, rfl, if_no (decide_eq_false (by rw [List.length_map]; omega)) ?_⟩
      refine ⟨_, rfl, z, _, rfl, ⟨ozX, nf, sz.mono (by omega)⟩, fun us2 l2 HA he _ sX1 _ hl2 kl2 => ?_⟩
      obtain rfl := he.uni heu
      refine ⟨_, rfl, _, _, rfl, (eqv_lst ((ob_none kl2).trans hl2) (ob_same sX1 odX) (scv_ints _) (by rw [List.length_map]; omega)).up, fun HB sX2 => ?_⟩
      refine ⟨_, rfl, if_yes rfl ⟨_, rfl, z, _, rfl, ⟨ob_same (sX1.trans sX2) ozX, nf, sz.mono (by omega)⟩, fun us3 l3 xs3 HC he3 _ sX3 _ hl3 kl3 rw3 => ?_⟩⟩
      obtain rfl := he3.uni heu
      obtain ⟨b3, eb3, ob3⟩ := rw3.last neX
      exact ⟨_, rfl, l3, -1, rfl, rfl, _, itsO_ofL ((ob_none kl3).trans hl3), _, eb3, _, rfl, _, _, rfl, eqv_f ob3 (ob_same (sX1.trans (sX2.trans sX3)) ozX) evX, fun HD sX4 => k HD (sX.trans (sX1.trans (sX2.trans (sX3.trans sX4))))⟩

end
end My

namespace My
open PySem PySem.Spec PyProof.Rows L2
section
variable {P : Program} {w : World} {K : PySem.W.Frag} {mg : Str → Option Value} {base : Heap}
/-! ### the tables, while the draws go on -/
theorem tabs_kp {T : List (Addr × Str)} {H H' : Hp} {s : Addr} {ys : List V} (e : Kp s H H') (hs : H s = some (.lst ys)) (t : LamX.Tabs T H) : LamX.Tabs T H' := fun p hp => by
  obtain ⟨ps, h1, h2, h3⟩ := t p hp
  refine ⟨ps, e _ _ (by rintro z; rw [z, hs] at h1; cases h1) h1, h2, fun pos cv hc => ?_⟩
  obtain ⟨c, e1, e2⟩ := h3 pos cv hc
  exact ⟨c, e1, e _ _ (by rintro z; rw [z, hs] at e2; unfold LamX.CodeO at e2; cases e2) e2⟩
theorem tabs_same {T : List (Addr × Str)} {H H' : Hp} (e : Same H H') (t : LamX.Tabs T H) : LamX.Tabs T H' := t.ext e
/-- all but the store and the tables stands -/
def Bg (s : Addr) (H H' : Hp) : Prop := ∀ b o, b ≠ s → (∀ ps, o ≠ .tbl ps) → H b = some o → H' b = some o
theorem Bg.refl (s : Addr) (H : Hp) : Bg s H H := fun _ _ _ _ h => h
theorem Bg.trans {s : Addr} {H H1 H2 : Hp} (a : Bg s H H1) (b : Bg s H1 H2) : Bg s H H2 := fun c o n m h => b c o n m (a c o n m h)
theorem Bg.kp {s : Addr} {H H1 : Hp} (a : Kp s H H1) : Bg s H H1 := fun c o n _ h => a c o n h
theorem Bg.same {s : Addr} {H H1 : Hp} (a : Same H H1) : Bg s H H1 := fun c o _ _ h => a c o h
theorem Bg.ext {s : Addr} {H H1 : Hp} (a : LamX.ExtN H H1) : Bg s H H1 := fun c o _ m h => a c o h m
theorem ob_bg {H H' : Hp} {s a : Addr} {ys xs : List V} (e : Bg s H H') (hs : H s = some (.lst ys)) (h : ob K H a = some (.tup xs)) : ob K H' a = some (.tup xs) := by
  unfold ob at h ⊢
  split
  · rename_i o q
    rw [q] at h
    exact h
  · rename_i q
    rw [q] at h
    exact e _ _ (by rintro rfl; rw [hs] at h; cases h) (fun ps z => by cases z) h
theorem Fq.bg {H H' : Hp} {s a : Addr} {n : Nat} {ys : List V} {q : Qt} (h : Fq K H n a q) (e : Bg s H H') (hs : H s = some (.lst ys)) : Fq K H' n a q := ⟨ob_bg e hs h.o, h.nf, h.sz⟩
theorem Sto.ext {H H' : Hp} {s : Addr} (h : Sto K H s) (e : LamX.ExtN H H') : Sto K H' s := by
  obtain ⟨sc, ns, i, b, c, d, x, f, h1, h2, h3⟩ := h
  exact ⟨sc, ns, i, b, c, d, x, f, e _ _ h1 (fun ps z => by cases z), e _ _ h2 (fun ps z => by cases z), h3⟩
theorem ob_ext {H H' : Hp} {a : Addr} {z : HO} (e : LamX.ExtN H H') (n : ∀ ps, z ≠ .tbl ps) (h : ob K H a = some z) : ob K H' a = some z := by
  unfold ob at h ⊢
  split
  · rename_i o q
    rw [q] at h
    exact h
  · rename_i q
    rw [q] at h
    exact e _ _ h n
theorem tyO_ntbl {z : HO} (h : (tyO (some z)).isSome) : ∀ ps, z ≠ .tbl ps := fun ps e => by subst e; cases h
theorem tyS_ext {H H' : Hp} {v : V} (e : LamX.ExtN H H') (h : (tyN K H v).isSome) : (tyN K H' v).isSome := by
  cases v with
  | ref a =>
    cases hz : ob K H a with
    | none => rw [tyN_ref, hz] at h; cases h
    | some z =>
      rw [tyN_ref, hz] at h
      rw [tyN_ref, ob_ext e (tyO_ntbl h) hz]
      exact h
  | _ => exact h
theorem Gd.ext {H H' : Hp} {v : V} (e : LamX.ExtN H H') (h : Gd K H v) : Gd K H' v := by
  cases v with
  | ref a =>
    cases hz : ob K H a with
    | none =>
      have := h.ty.1
      rw [tyN_ref, hz] at this
      cases this
    | some z =>
      have nz : ∀ ps, z ≠ .tbl ps := tyO_ntbl (by have := h.ty.1; rw [tyN_ref, hz] at this; exact this)
      have hz' := ob_ext e nz hz
      refine ⟨⟨tyS_ext e h.ty.1, fun b xs ev o x hx => ?_⟩, ?_⟩
      · cases ev
        rw [hz'] at o
        exact tyS_ext e (h.ty.2 a xs rfl (hz.trans o) x hx)
      · have e2 : frOk K H' (.ref a) = frOk K H (.ref a) := by simp only [frOk, hz, hz']
        rw [e2]
        exact h.no
  | _ => exact ⟨⟨h.ty.1, fun _ _ e => by cases e⟩, h.no⟩
structure LawS (K : PySem.W.Frag) (T : List (Addr × Str)) (H : Hp) (s : Addr) : Prop where
  st : Sto K H s
  tb : LamX.Tabs T H
theorem LawS.same {T : List (Addr × Str)} {H H' : Hp} {s : Addr} (h : LawS K T H s) (e : Same H H') : LawS K T H' s := ⟨h.st.same e, tabs_same e h.tb⟩
theorem LawS.kp {T : List (Addr × Str)} {H H' : Hp} {s : Addr} (h : LawS K T H s) (e : Kp s H H') (st : Sto K H' s) : LawS K T H' s := by
  obtain ⟨ys, hy⟩ := h.st.at
  exact ⟨st, tabs_kp e hy h.tb⟩
end
section
variable {P : Program} {w : World} {K : PySem.W.Frag} {mg : Str → Option Value} {base : Heap}
def rfs (l : List (Addr × Str)) : List V := l.map fun x => .ref x.1
def AllB (K : PySem.W.Frag) (H : Hp) (l : List (Addr × Str)) : Prop := ∀ x ∈ l, ob K H x.1 = some (.tup [.str "BadValue", .str x.2])
theorem AllB.ext {H H' : Hp} {l : List (Addr × Str)} (h : AllB K H l) (e : LamX.ExtN H H') : AllB K H' l := fun x hx => ob_ext e (fun ps z => by cases z) (h x hx)
theorem AllB.same {H H' : Hp} {l : List (Addr × Str)} (h : AllB K H l) (e : Same H H') : AllB K H' l := fun x hx => ob_same e (h x hx)
theorem AllB.cons {H : Hp} {l : List (Addr × Str)} {a : Addr} {x : Str} (h : AllB K H l) (o : ob K H a = some (.tup [.str "BadValue", .str x])) : AllB K H (l ++ [(a, x)]) := fun y hy => by
  rcases List.mem_append.mp hy with hy | hy
  · exact h y hy
  · rw [List.mem_singleton] at hy
    rw [hy]
    exact o
theorem eqv_named {H : Hp} {a b : Addr} {l m : List (Addr × Str)} (oa : ob K H a = some (.lst (rfs l))) (o2 : ob K H b = some (.lst (rfs m))) (h : l.map (·.2) = m.map (·.2)) (hm : m.length ≤ 1000) (al : AllB K H l) (am : AllB K H m) : Eqv K H 2 (.ref a) (.ref b) := by
  have hl : l.length = m.length := by
    have e := congrArg List.length h
    simpa using e
  refine .inr ⟨a, b, rfs l, rfs m, rfl, rfl, .inr ⟨oa, o2⟩, by simp [rfs, hl], by simpa [rfs] using hm, fun i x y hx hy => ?_⟩
  unfold rfs at hx hy
  rw [List.getElem?_map] at hx hy
  cases e1 : l[i]? with
  | none => rw [e1] at hx; cases hx
  | some u =>
    cases e2 : m[i]? with
    | none => rw [e2] at hy; cases hy
    | some v =>
      rw [e1] at hx
      rw [e2] at hy
      cases hx
      cases hy
      have n : u.2 = v.2 := by
        have z : (l.map (·.2))[i]? = (m.map (·.2))[i]? := by rw [h]
        rw [List.getElem?_map, List.getElem?_map, e1, e2] at z
        exact Option.some.inj z
      have ou := al u (List.mem_of_getElem? e1)
      rw [n] at ou
      exact eqv_tup ou (am v (List.mem_of_getElem? e2)) rfl (by show 2 ≤ 1000; decide)
theorem Sto.put1 {H : Hp} {s l a : Addr} {o : HO} (h : Sto K H s) (hl : H l = some (.lst [.ref a])) : Sto K (upd H l o) s := by
  obtain ⟨sc, ns, i, b, c, d, x, f, h1, h2, h3⟩ := h
  have n1 : s ≠ l := by
    rintro rfl
    rw [hl] at h1
    cases h1
  have n2 : sc ≠ l := by
    rintro rfl
    rw [hl] at h2
    match ns, h2 with
    | [], h2 => cases h2
    | y :: ys, h2 => cases h2
  exact ⟨sc, ns, i, b, c, d, x, f, by rw [upd_ne n1]; exact h1, by rw [upd_ne n2]; exact h2, h3⟩
/-- the store, the tables, the drawn terms -/
structure RF (K : PySem.W.Frag) (T : List (Addr × Str)) (s a : Addr) (ts : List Int) (H : Hp) : Prop where
  ls : LawS K T H s
  ha : H a = some (.lst (ts.map V.int))
theorem RF.same {T : List (Addr × Str)} {H H' : Hp} {s a : Addr} {ts : List Int} (h : RF K T s a ts H) (e : Same H H') : RF K T s a ts H' := ⟨h.ls.same e, e _ _ h.ha⟩
theorem RF.kp {T : List (Addr × Str)} {H H' : Hp} {s a : Addr} {ts : List Int} (h : RF K T s a ts H) (na : a ≠ s) (e : Kp s H H') (st : Sto K H' s) : RF K T s a ts H' := ⟨h.ls.kp e st, e _ _ na h.ha⟩
theorem RF.ext {T : List (Addr × Str)} {H H' : Hp} {s a : Addr} {ts : List Int} (h : RF K T s a ts H) (e : LamX.ExtN H H') (t : LamX.Tabs T H') : RF K T s a ts H' := ⟨⟨h.ls.st.ext e, t⟩, e _ _ h.ha (fun ps z => by cases z)⟩
theorem tabs_putL {T : List (Addr × Str)} {H : Hp} {l : Addr} {ys : List V} {o : HO} (t : LamX.Tabs T H) (hl : H l = some (.lst ys)) : LamX.Tabs T (upd H l o) := fun p hp => by
  obtain ⟨ps, h1, h2, h3⟩ := t p hp
  refine ⟨ps, by rw [upd_ne (by rintro z; rw [z, hl] at h1; cases h1)]; exact h1, h2, fun pos cv hc => ?_⟩
  obtain ⟨c, e1, e2⟩ := h3 pos cv hc
  exact ⟨c, e1, by rw [upd_ne (by rintro z; rw [z, hl] at e2; unfold LamX.CodeO at e2; cases e2)]; exact e2⟩
theorem RF.put1 {T : List (Addr × Str)} {H : Hp} {s a l c : Addr} {ts : List Int} {o : HO} (h : RF K T s a ts H) (hl : H l = some (.lst [.ref c])) (n : a ≠ l) : RF K T s a ts (upd H l o) := ⟨⟨h.ls.st.put1 hl, tabs_putL h.ls.tb hl⟩, by rw [upd_ne n]; exact h.ha⟩
theorem BadT.same {H H' : Hp} {v : V} (h : BadT K H v) (e : Same H H') : BadT K H' v := by
  rcases h with ⟨t, ht, nt⟩ | ⟨a, xs, rfl, o, hx⟩
  · exact .inl ⟨t, tyN_same e ht, nt⟩
  · exact .inr ⟨a, xs, rfl, ob_same e o, hx.imp id fun z => z.imp id fun ⟨y1, x0, r, y2, y3, y4⟩ => ⟨y1, x0, r, y2, fun x hx => tyS_same e (y3 x hx), y4⟩⟩
theorem tyN_ext {H H' : Hp} {v : V} {t : String} (e : LamX.ExtN H H') (h : tyN K H v = some t) : tyN K H' v = some t := by
  cases v with
  | ref a =>
    have h1 : tyO (ob K H a) = some t := h
    show tyO (ob K H' a) = some t
    cases hz : ob K H a with
    | none => rw [hz] at h1; cases h1
    | some z =>
      rw [hz] at h1
      rw [ob_ext e (fun ps ez => by rw [ez] at h1; cases h1) hz]
      exact h1
  | _ => exact h
theorem BadT.ext {H H' : Hp} {v : V} (h : BadT K H v) (e : LamX.ExtN H H') : BadT K H' v := by
  rcases h with ⟨t, ht, nt⟩ | ⟨a, xs, rfl, o, hx⟩
  · exact .inl ⟨t, tyN_ext e ht, nt⟩
  · exact .inr ⟨a, xs, rfl, ob_ext e (fun ps z => by cases z) o, hx.imp id fun z => z.imp id fun ⟨y1, x0, r, y2, y3, y4⟩ => ⟨y1, x0, r, y2, fun x hx => tyS_ext e (y3 x hx), y4⟩⟩
theorem tyN_kp {H H' : Hp} {s : Addr} {v : V} {t : String} (e : Kp s H H') (n : v ≠ .ref s) (h : tyN K H v = some t) : tyN K H' v = some t := by
  cases v with
  | ref a =>
    have h1 : tyO (ob K H a) = some t := h
    show tyO (ob K H' a) = some t
    cases hz : ob K H a with
    | none => rw [hz] at h1; cases h1
    | some z =>
      rw [hz] at h1
      rw [ob_kp2 e (fun ea => n (by rw [ea])) hz]
      exact h1
  | _ => exact h
/-- what is no row of terms, and is not the store -/
def BadR (K : PySem.W.Frag) (s : Addr) (H : Hp) (v : V) : Prop := BadT K H v ∧ v ≠ .ref s
theorem BadR.same {s : Addr} (H H' : Hp) (v : V) (e : Same H H') (h : BadR K s H v) : BadR K s H' v := ⟨h.1.same e, h.2⟩
theorem BadR.kp {H H' : Hp} {s : Addr} {v : V} (h : BadR K s H v) (e : Kp s H H') (st : Sto K H' s) : BadR K s H' v := by
  refine ⟨?_, h.2⟩
  rcases h.1 with ⟨t, ht, nt⟩ | ⟨a, xs, rfl, o, hx⟩
  · exact .inl ⟨t, tyN_kp e h.2 ht, nt⟩
  · exact .inr ⟨a, xs, rfl, ob_kp2 e (fun ea => h.2 (by rw [ea])) o, hx.imp id fun z => z.imp id fun ⟨y1, x0, r, y2, y3, y4⟩ => ⟨y1, x0, r, y2, fun x hx => tyS_kp e st (y3 x hx), y4⟩⟩
/-! what the draws put into the lists -/
def NK (K : PySem.W.Frag) (H : Hp) (v : V) : Prop := (tyN K H v).isSome ∧ okV v = false
def NW (K : PySem.W.Frag) (H : Hp) (v : V) : Prop := (tyN K H v).isSome ∧ wholeV v = false
theorem NK.same (H H' : Hp) (v : V) (e : Same H H') (h : NK K H v) : NK K H' v := ⟨tyS_same e h.1, h.2⟩
theorem NW.same (H H' : Hp) (v : V) (e : Same H H') (h : NW K H v) : NW K H' v := ⟨tyS_same e h.1, h.2⟩
theorem nk_tp {ta : TA} {n : Nat} {R : Hp → V → Prop} (h : MkL R n ta) (hl : n ≤ 100 := by decide) : Mk (NK K) (tTp K ta) := fun σ H Q k =>
  h σ H _ fun vs H1 s1 hn _ => ⟨by rw [sizeLine_eq]; omega, fun p hp kp => k _ _ (s1.trans (Same.new hp _)) ⟨by rw [tyN_ref, ob_new kp]; rfl, rfl⟩⟩
theorem nk_ls {ta : TA} {n : Nat} {R : Hp → V → Prop} (h : MkL R n ta) (hl : n ≤ 100 := by decide) : Mk (NK K) (tLs K ta) := fun σ H Q k =>
  h σ H _ fun vs H1 s1 hn _ => ⟨by rw [sizeLine_eq]; omega, fun p hp kp => k _ _ (s1.trans (Same.new hp _)) ⟨by rw [tyN_ref, ob_new kp]; rfl, rfl⟩⟩
theorem nw_tp {ta : TA} {n : Nat} {R : Hp → V → Prop} (h : MkL R n ta) (hl : n ≤ 100 := by decide) : Mk (NW K) (tTp K ta) := fun σ H Q k =>
  h σ H _ fun vs H1 s1 hn _ => ⟨by rw [sizeLine_eq]; omega, fun p hp kp => k _ _ (s1.trans (Same.new hp _)) ⟨by rw [tyN_ref, ob_new kp]; rfl, rfl⟩⟩
theorem nw_ls {ta : TA} {n : Nat} {R : Hp → V → Prop} (h : MkL R n ta) (hl : n ≤ 100 := by decide) : Mk (NW K) (tLs K ta) := fun σ H Q k =>
  h σ H _ fun vs H1 s1 hn _ => ⟨by rw [sizeLine_eq]; omega, fun p hp kp => k _ _ (s1.trans (Same.new hp _)) ⟨by rw [tyN_ref, ob_new kp]; rfl, rfl⟩⟩
theorem nk_c {v : V} (h : scv v = true) (g : okV v = false) : Mk (NK K) (tC v) := fun σ H Q k => k v H (Same.refl H) ⟨(gd_sc h).ty.1, g⟩
theorem nw_c {v : V} (h : scv v = true) (g : wholeV v = false) : Mk (NW K) (tC v) := fun σ H Q k => k v H (Same.refl H) ⟨(gd_sc h).ty.1, g⟩
theorem ti_ints {H : Hp} {ts : List Int} : ∀ x ∈ ts.map V.int, (tyN K H x).isSome := fun x hx => by
  obtain ⟨u, _, rfl⟩ := List.mem_map.mp hx
  rfl
theorem bad_later {H : Hp} {p : Addr} {t0 : Int} {ts : List Int} {j : Nat} {y : V} (o : ob K H p = some (.lst ([.int t0] ++ ((ts.map V.int).take j ++ y :: (ts.map V.int).drop (j + 1))))) (hy : NK K H y) : BadT K H (.ref p) := by
  refine .inr ⟨p, _, rfl, o, .inr ?_⟩
  by_cases hl : ([V.int t0] ++ ((ts.map V.int).take j ++ y :: (ts.map V.int).drop (j + 1))).length ≤ 400
  · refine .inr ⟨hl, .int t0, _, rfl, fun x hx => ?_, .inr ⟨y, by simp, hy.2⟩⟩
    rcases List.mem_append.mp hx with h | hx
    · rw [List.mem_singleton] at h
      rw [h]
      rfl
    · rcases List.mem_append.mp hx with h | h
      · exact ti_ints x (List.mem_of_mem_take h)
      · rcases List.mem_cons.mp h with h | h
        · rw [h]
          exact hy.1
        · exact ti_ints x (List.mem_of_mem_drop h)
  · exact .inl (by omega)
theorem bad_first {H : Hp} {p : Addr} {ts : List Int} {z : V} (o : ob K H p = some (.lst ([z] ++ (ts.map V.int).drop 1))) (hz : NW K H z) : BadT K H (.ref p) := by
  refine .inr ⟨p, _, rfl, o, .inr ?_⟩
  by_cases hl : ([z] ++ (ts.map V.int).drop 1).length ≤ 400
  · refine .inr ⟨hl, z, _, rfl, fun x hx => ?_, .inl hz.2⟩
    rcases List.mem_append.mp hx with h | hx
    · rw [List.mem_singleton] at h
      rw [h]
      exact hz.1
    · exact ti_ints x (List.mem_of_mem_drop hx)
  · exact .inl (by omega)
theorem nk_neg {i : Int} (g : okV (.int (-i)) = false) : Mk (NK K) (tUn (rU fun i => V.int (-i)) (tC (.int i))) := fun σ H Q k => ⟨i, rfl, k _ H (Same.refl H) ⟨rfl, g⟩⟩
theorem len_rep (xs : List V) : ∀ n : Nat, ((List.replicate n xs).flatten).length = n * xs.length
  | 0 => by rw [Nat.zero_mul]; rfl
  | n + 1 => by
    rw [List.replicate_succ, List.flatten_cons, List.length_append, len_rep xs n, Nat.succ_mul]
    omega
theorem rep_ints : ∀ n : Nat, (List.replicate n [V.int 1]).flatten = (List.replicate n (1 : Int)).map V.int
  | 0 => rfl
  | n + 1 => by
    rw [List.replicate_succ, List.flatten_cons, rep_ints n, List.replicate_succ]
    rfl
theorem TOk.app {ts us : List Int} (h : TOk ts) (g : ∀ u ∈ us, 1 ≤ u) : TOk (ts ++ us) := by
  obtain ⟨ne, tl⟩ := h
  cases ts with
  | nil => exact absurd rfl ne
  | cons a r =>
    refine ⟨by simp, fun u hu => ?_⟩
    have hu : u ∈ r ++ us := hu
    rcases List.mem_append.mp hu with z | z
    · exact tl u z
    · exact g u z
theorem bad_long {H : Hp} {p : Addr} {xs : List V} (o : ob K H p = some (.lst xs)) (h : 400 < xs.length) : BadT K H (.ref p) := .inr ⟨p, xs, rfl, o, .inr (.inl h)⟩
abbrev sRefused : Stmt := topS 50
theorem scRefused : FnScope ["_law_store_here", "_law_terms", "_law_asked", "_law_later", "_law_first", "_law_long", "_law_good", "_law_bad", "_law_wrong"] ["_law_store_here", "_law_terms"] (defScope sRefused) := ⟨rfl, rfl, rfl, by decide +kernel, rfl, by decide +kernel, by decide +kernel⟩
def qLam : Str := ("_law_refused" ++ ".<locals>.") ++ "<lambda>"
structure AskD (K : PySem.W.Frag) (mg : Str → Option Value) (g : Addr) (oc : Value) (od : Option Addr) (dV kV doc pm : Value) (an : Option Addr) (cdv ct : Value) (osl : Array (Option Value)) : Prop where
  m : mg "_law_told" = some (.ref g)
  kp : PySem.W.keepIn K (.ref g) = true
  lk : K.lookup g = some ⟨oc, od, .func (PySem.W.fnOf "_law_told" "_law_told" (defArgs sTold) (defBody sTold) (defScope sTold) dV kV doc pm an cdv ct), osl⟩
  cd : PySem.W.codeIn K cdv "_law_told" = true
  b : Binds K (PySem.W.fnOf "_law_told" "_law_told" (defArgs sTold) (defBody sTold) (defScope sTold) dV kV doc pm an cdv ct) ["_law_call"] []
def spRefused (K : PySem.W.Frag) (Pt : Addr) : Sp := fun vs H Q _ => ∃ (sr a : Addr) (ts : List Int), vs = [.ref sr, .ref a] ∧ RF K [(Pt, qLam)] sr a ts H ∧ a ≠ sr ∧ K.lookup a = none ∧ TOk ts ∧ ts.length ≤ 400 ∧ wsum ts ≤ 2600 ∧ ∀ H', Q (.bl true) H'
theorem ok_refused {CB S fa g c Pt : Addr} {A : String → Addr} {oc dV kV doc pm cdv ct oc' dV' kV' doc' pm' ct' : Value} {od an od' an' : Option Addr} {osl osl' : Array (Option Value)} (T : Bt K mg) (B : BvT K mg CB) (AT : AskT K mg CB S A) (AS : AskD K mg g oc od dV kV doc pm an cdv ct osl)
    (lkR : K.lookup fa = some ⟨oc', od', .func (PySem.W.fnOf "_law_refused" "_law_refused" (defArgs sRefused) (defBody sRefused) (defScope sRefused) dV' kV' doc' pm' an' (.ref c) ct'), osl'⟩) (cdR : PySem.W.codeIn K (.ref c) "_law_refused" = true) (TB : LamX.TabB base mg c Pt)
    (QX : KnX P w K mg base 4 "quotients" ["value"] (spQX K CB)) (CX : KnX P w K mg base 4 "convergents" ["value"] (spQX K CB)) (VX : KnX P w K mg base 4 "value_of" ["terms"] (spValX K CB))
    (d__law_take : Kn P w K mg base 2 "_law_take" ["_law_store_here", "_law_many"] (spTake K)) (d__law_bad_frac : Kn P w K mg base 4 "_law_bad_frac" ["_law_store_here"] (spBadFrac K)) (d__law_pick : Kn P w K mg base 3 "_law_pick" ["_law_store_here", "_law_row"] (spPick K)) (d__law_with : Kn P w K mg base 3 "_law_with" ["_law_store_here", "_law_row", "_law_item"] (spWith K)) (d__law_values : Kn P w K mg base 1 "_law_values" ["_law_terms"] (spValues K)) (d_value_of : Kn P w K mg base 3 "value_of" ["terms"] (spVal K)) (d__law_alike : Kn P w K mg base 4 "_law_alike" ["_law_told_here", "_law_due"] (spAlike K 3)) : FnOk P w K mg base CX0 8 fa (PySem.W.fnOf "_law_refused" "_law_refused" (defArgs sRefused) (defBody sRefused) (defScope sRefused) dV' kV' doc' pm' an' (.ref c) ct') ["_law_store_here", "_law_terms"] (spRefused K Pt) := by
  refine fn_of lkR cdR scRefused (fun vs H Q E h => ?_) fun A outer s H vs Q E hr h => ?_
  · obtain ⟨sr, a, ts, rfl, _⟩ := h
    rfl
  obtain ⟨sr, a, ts, rfl, R0, na, ka, tk, tl, ws, k⟩ := h
  refine ⟨_, PSs.nox (pss_cons (ps_set (i := 7) scRefused.nd rfl (.inr rfl) (pe_kn d__law_bad_frac hr (by rfl) (pa_cons (pv 0) pa_nil)))
      (pss_cons (ps_set (i := 2) scRefused.nd rfl (.inl rfl) (pe_ls (pa_cons (LamX.pe_lamcall (T := [(Pt, qLam)]) (TT := TAsk K CB) (t := fun E => tCall (spQX K CB) [] E (tCons (tVar 7) L2.tNil)) (by rfl) AS.m AS.kp AS.lk AS.cd AS.b scTold rfl (.inl rfl) (told_gives T B AT) TB rfl (List.mem_cons_self ..) (fun p hp _ => by simp only [List.mem_cons, List.not_mem_nil, or_false] at hp; subst hp; rfl) hr (LamX.lamS_by (by show LamX.lamSB (defScope sRefused) _ = true; decide +kernel)) rfl (fun _ _ _ _ _ => rfl) (fun A outer s H E f c' hr' => pe_knX E QX hr' (by rfl) (takes_of rfl rfl rfl rfl) (fun _ _ _ _ h => h) (pa_cons (pv 7) pa_nil))) pa_nil)))
      (pss_cons (ps_expr (pe_bm PySem.F.plainAttrs_list PySem.F.slot_list_append PySem.F.type_list_append mt_append (pv 2) (pa_cons (LamX.pe_lamcall (T := [(Pt, qLam)]) (TT := TAsk K CB) (t := fun E => tCall (spQX K CB) [] E (tCons (tVar 7) L2.tNil)) (by rfl) AS.m AS.kp AS.lk AS.cd AS.b scTold rfl (.inl rfl) (told_gives T B AT) TB rfl (List.mem_cons_self ..) (fun p hp _ => by simp only [List.mem_cons, List.not_mem_nil, or_false] at hp; subst hp; rfl) hr (LamX.lamS_by (by show LamX.lamSB (defScope sRefused) _ = true; decide +kernel)) rfl (fun _ _ _ _ _ => rfl) (fun A outer s H E f c' hr' => pe_knX E CX hr' (by rfl) (takes_of rfl rfl rfl rfl) (fun _ _ _ _ h => h) (pa_cons (pv 7) pa_nil))) pa_nil)))
      (pss_cons (ps_if (pt_not (pt_val (pe_kn d__law_alike hr (by rfl) (pa_cons (pv 2) (pa_cons (pe_ls (pa_cons (pe_tp (pa_cons pe_str (pa_cons pe_str pa_nil))) (pa_cons (pe_tp (pa_cons pe_str (pa_cons pe_str pa_nil))) pa_nil))) pa_nil))))) (pss_one (ps_ret pe_bl)) pss_nil)
      (pss_cons (ps_set (i := 3) scRefused.nd rfl (.inl rfl) (pe_fr (pe_op op_cat (pe_ls (pa_cons (pe_ix ix_any (pv 1) pe_int (fun _ _ => rfl)) pa_nil)) (pe_kn d__law_with hr (by rfl) (pa_cons (pv 0) (pa_cons (pv 1) (pa_cons (pe_kn d__law_pick hr (by rfl) (pa_cons (pv 0) (pa_cons (pe_ls (pa_cons pe_int (pa_cons (pe_un un_neg pe_int) (pa_cons pe_bl (pa_cons pe_non (pa_cons pe_str (pa_cons (pe_tp (pa_cons pe_int (pa_cons pe_int pa_nil))) (pa_cons (pe_un un_neg (pe_op op_pow pe_int pe_int)) (pa_cons (pe_ls (pa_cons pe_int pa_nil)) pa_nil))))))))) pa_nil))) pa_nil)))))))
      (pss_cons (ps_set (i := 4) scRefused.nd rfl (.inl rfl) (pe_fr (pe_op op_cat (pe_ls (pa_cons (pe_kn d__law_pick hr (by rfl) (pa_cons (pv 0) (pa_cons (pe_ls (pa_cons pe_bl (pa_cons pe_bl (pa_cons pe_non (pa_cons pe_str (pa_cons (pe_tp (pa_cons pe_int (pa_cons pe_int pa_nil))) (pa_cons (pe_ls (pa_cons pe_int pa_nil)) pa_nil))))))) pa_nil))) pa_nil)) (pe_fr (pe_slice sl_list (pv 1) (po_some pe_int) po_none)))))
      (pss_cons (ps_set (i := 5) scRefused.nd rfl (.inl rfl) (pe_fr (pe_slice sl_list (pe_fr (pe_op op_rep (pv 1) pe_int)) po_none (po_some (pe_op op_add pe_int (pe_kn d__law_take hr (by rfl) (pa_cons (pv 0) (pa_cons pe_int pa_nil))))))))
      (pss_cons (ps_set (i := 8) scRefused.nd rfl (.inr rfl) (pe_kn d__law_pick hr (by rfl) (pa_cons (pv 0) (pa_cons (pe_ls (pa_cons (pe_ls pa_nil) (pa_cons (pe_fr (pe_callTy call_tuple_of (by rfl) T.b_tuple (by decide +kernel) (pa_cons (pv 1) pa_nil))) (pa_cons pe_non (pa_cons pe_int (pa_cons pe_str (pa_cons (pv 5) (pa_cons (pv 5) (pa_cons (pv 3) (pa_cons (pv 3) (pa_cons (pv 3) (pa_cons (pv 4) (pa_cons (pe_tp pa_nil) (pa_cons pe_dn pa_nil)))))))))))))) pa_nil))))
      (pss_cons (ps_set (i := 2) scRefused.nd rfl (.inl rfl) (LamX.pe_lamcall (T := [(Pt, qLam)]) (TT := TAsk K CB) (t := fun E => tCall (spValX K CB) [] E (tCons (tVar 8) L2.tNil)) (by rfl) AS.m AS.kp AS.lk AS.cd AS.b scTold rfl (.inl rfl) (told_gives T B AT) TB rfl (List.mem_cons_self ..) (fun p hp _ => by simp only [List.mem_cons, List.not_mem_nil, or_false] at hp; subst hp; rfl) hr (LamX.lamS_by (by show LamX.lamSB (defScope sRefused) _ = true; decide +kernel)) rfl (fun _ _ _ _ _ => rfl) (fun A outer s H E f c' hr' => pe_knX E VX hr' (by rfl) (takes_of rfl rfl rfl rfl) (fun _ _ _ _ h => h) (pa_cons (pv 8) pa_nil))))
      (pss_cons (ps_set (i := 6) scRefused.nd rfl (.inl rfl) (pe_fr (pe_slice sl_list (pe_fr (pe_op op_cat (pv 1) (pe_fr (pe_op op_rep (pe_ls (pa_cons pe_int pa_nil)) pe_int)))) po_none (po_some pe_int))))
      (pss_one (ps_ret (pe_and (pe_kn d__law_alike hr (by rfl) (pa_cons (pv 2) (pa_cons (pe_tp (pa_cons pe_str (pa_cons pe_str pa_nil))) pa_nil))) (pe_one (pe_kn d__law_alike hr (by rfl) (pa_cons (pe_kn d_value_of hr (by rfl) (pa_cons (pv 6) pa_nil)) (pa_cons (pe_ix ix_any (pe_kn d__law_values hr (by rfl) (pa_cons (pv 6) pa_nil)) (pe_un un_neg pe_int) (fun _ _ => rfl)) pa_nil))))))))))))))))), ?_⟩
  simp only [cx_K]
  refine ⟨_, rfl, sr, rfl, R0.ls.st, fun bad H1 gb kp1 st1 => ?_⟩
  have R1 := R0.kp na kp1 st1
  refine ⟨R1.ls.tb, fun Ha ea ta => ?_⟩
  have R2 := R1.ext ea ta
  have gb2 := gb.ext ea
  refine ⟨_, rfl, bad, rfl, gb2, fun d Hb sb hb => ⟨rfl, d, _, rfl, hb, fun c1 H2 sc o1 => ?_⟩⟩
  have R3 := (R2.same sb).same sc
  have gb3 := gb2.same (sb.trans sc)
  clear R0 R1 R2 gb gb2 kp1 st1 ea ta sb hb sc
  refine ⟨sz2 (by show 1 ≤ 100; decide), fun l hl kl => ?_⟩
  have nal : a ≠ l := ne_of_none R3.ha hl
  have s1 := Same.new hl (.lst [.ref c1])
  have hl4 : upd H2 l (.lst [.ref c1]) l = some (.lst [.ref c1]) := upd_same
  have R4 := R3.same s1
  have gb4 := gb3.same s1
  have o4 := ob_same s1 o1
  generalize upd H2 l (.lst [.ref c1]) = H4 at hl4 R4 gb4 o4 ⊢
  clear R3 gb3 o1 s1 hl
  refine ⟨_, rfl, .inl ⟨rfl, _, .of hl4⟩, R4.ls.tb, fun Ha ea ta => ?_⟩
  have R5 := R4.ext ea ta
  have gb5 := gb4.ext ea
  have hl5 := ea _ _ hl4 (fun ps z => by cases z)
  have o5 := ob_ext ea (fun ps z => by cases z) o4
  refine ⟨_, rfl, bad, rfl, gb5, fun d Hb sb hb => ⟨rfl, d, _, rfl, hb, fun c2 H6 sc o2 => ?_⟩⟩
  have s6 := sb.trans sc
  have R6 := R5.same s6
  have hl6 := s6 _ _ hl5
  have o6 := ob_same s6 o5
  clear R4 R5 gb4 gb5 hl4 hl5 o4 o5 s6 sb hb sc
  refine ⟨l, _, _, rfl, rfl, hl6, by show 1 < sizeLine; rw [sizeLine_eq]; omega, ?_⟩
  have as7 : AllB K (upd H6 l (.lst (rfs [(c1, "value"), (c2, "value")]))) [(c1, "value"), (c2, "value")] := fun x hx => by
    simp only [List.mem_cons, List.not_mem_nil, or_false] at hx
    rcases hx with rfl | rfl
    · exact ob_putL hl6 o6
    · exact ob_putL hl6 o2
  have ol7 : ob K (upd H6 l (.lst (rfs [(c1, "value"), (c2, "value")]))) l = some (.lst (rfs [(c1, "value"), (c2, "value")])) := (ob_none kl).trans upd_same
  have R7 := R6.put1 (o := .lst (rfs [(c1, "value"), (c2, "value")])) hl6 nal
  rw [show upd H6 l (.lst ([V.ref c1] ++ [V.ref c2])) = upd H6 l (.lst (rfs [(c1, "value"), (c2, "value")])) from rfl]
  generalize upd H6 l (.lst (rfs [(c1, "value"), (c2, "value")])) = H7 at as7 ol7 R7 ⊢
  clear R6 hl6 o6 o2
  refine ⟨_, rfl, sz2 (by show 2 ≤ 100; decide), fun p1 hp1 kp1 => ⟨sz2 (by show 2 ≤ 100; decide), fun p2 hp2 kp2 => ⟨sz2 (by show 2 ≤ 100; decide), fun m hm km => ?_⟩⟩⟩
  have sa := Same.new hp1 (.tup [.str "BadValue", .str "value"])
  have sb := Same.new hp2 (.tup [.str "BadValue", .str "value"])
  have sc := Same.new hm (.lst (rfs [(p1, "value"), (p2, "value")]))
  have sX := sa.trans (sb.trans sc)
  refine ⟨_, _, rfl, eqv_named (ob_same sX ol7) (ob_new (o := .lst (rfs [(p1, "value"), (p2, "value")])) km) rfl (by show 2 ≤ 1000; omega) (as7.same sX) (fun x hx => ?_), fun H9 s9 => ⟨_, rfl, ?_⟩⟩
  · simp only [List.mem_cons, List.not_mem_nil, or_false] at hx
    rcases hx with rfl | rfl
    · exact ob_same (sb.trans sc) (ob_new kp1)
    · exact ob_same sc (ob_new kp2)
  show if _ = true then _ else _
  refine if_no rfl ?_
  have R9 := (R7.same sX).same s9
  clear s9 sX sa sb sc hp1 hp2 hm R7 as7 ol7
  obtain ⟨t0, r, ets⟩ : ∃ t0 r, ts = t0 :: r := by
    cases ts with
    | nil => exact absurd rfl tk.1
    | cons t0 r => exact ⟨t0, r, rfl⟩
  have o9 : ob K H9 a = some (.lst (.int t0 :: r.map V.int)) := (ob_none ka).trans (by rw [R9.ha, ets]; rfl)
  have l1 : 1 ≤ (ts.map V.int).length := by rw [List.length_map, ets, List.length_cons]; omega
  have l2 : (ts.map V.int).length ≤ 400 := by rw [List.length_map]; exact tl
  refine ⟨_, rfl, a, 0, rfl, rfl, _, itsO_ofL o9, _, atI_0 _ _, sz2 (by show 1 ≤ 100; decide), fun q hq kq => ⟨_, rfl, _, rfl, _, rfl, ?_⟩⟩
  have nqs : q ≠ sr := R9.ls.st.ne' hq
  have nqa : a ≠ q := ne_of_none R9.ha hq
  have s10 := Same.new hq (.lst [.int t0])
  have hq10 : upd H9 q (.lst [.int t0]) q = some (.lst [.int t0]) := upd_same
  have R10 := R9.same s10
  generalize upd H9 q (.lst [.int t0]) = H10 at hq10 R10 ⊢
  clear s10 hq R9 o9
  refine lsX (R := NK K) NK.same (mkL_cons (R := NK K) NK.same (nk_c (K := K) rfl rfl) (mkL_cons (R := NK K) NK.same (nk_neg (K := K) rfl) (mkL_cons (R := NK K) NK.same (nk_c (K := K) rfl rfl) (mkL_cons (R := NK K) NK.same (nk_c (K := K) rfl rfl) (mkL_cons (R := NK K) NK.same (nk_c (K := K) rfl rfl) (mkL_cons (R := NK K) NK.same (nk_tp (K := K) (mkL_cons (R := fun _ _ => True) (fun _ _ _ _ _ => True.intro) (mk_any (mk_c (K := K) rfl)) (mkL_cons (R := fun _ _ => True) (fun _ _ _ _ _ => True.intro) (mk_any (mk_c (K := K) rfl)) mkL_nil))) (mkL_cons (R := NK K) NK.same (fun σ H Q k => ⟨_, _, rfl, rfl, by unfold CPow; decide, _, rfl, k _ H (Same.refl H) ⟨rfl, by decide +kernel⟩⟩) (mkL_cons (R := NK K) NK.same (nk_ls (K := K) (mkL_cons (R := fun _ _ => True) (fun _ _ _ _ _ => True.intro) (mk_any (mk_c (K := K) rfl)) mkL_nil)) mkL_nil)))))))) (by decide) fun vs p H11 s11 hp kp hn hv hl => ?_
  have R11 := R10.same s11
  refine ⟨sr, p, vs, rfl, R11.ls.st, hl, Ne.symm (R10.ls.st.ne' hp), by omega, by omega, fun y H12 hm kp12 st12 => ?_⟩
  have y12 := hv y hm
  have R12 := R11.kp na kp12 st12
  have hq12 := kp12 _ _ nqs (s11 _ _ hq10)
  have y12 : NK K H12 y := ⟨tyS_kp kp12 st12 y12.1, y12.2⟩
  clear R10 R11 hq10 s11 hp kp hn hv hl hm kp12 st12
  refine ⟨sr, a, ts.map V.int, y, rfl, R12.ls.st, R12.ha, ka, na, l1, by omega, fun c j H13 hj kp13 st13 hc fc kc => ?_⟩
  have R13 := R12.kp na kp13 st13
  have y13 : NK K H13 y := ⟨tyS_kp kp13 st13 y12.1, y12.2⟩
  have hq13 := kp13 _ _ nqs hq12
  clear R12 y12 hq12 kp13 st13
  refine ⟨q, c, _, _, rfl, rfl, hq13, hc, by simp only [List.length_append, List.length_cons, List.length_nil, List.length_take, List.length_drop, sizeLine_eq]; omega, fun la hla fr => ?_⟩
  have kla : K.lookup la = none := fr la (by rw [upd_same]; simp)
  have nls : la ≠ sr := R13.ls.st.ne' hla
  have s14 := Same.new hla (.lst ([.int t0] ++ ((ts.map V.int).take j ++ y :: (ts.map V.int).drop (j + 1))))
  have R14 := R13.same s14
  have B14 : BadR K sr (upd H13 la (.lst ([.int t0] ++ ((ts.map V.int).take j ++ y :: (ts.map V.int).drop (j + 1))))) (.ref la) := ⟨bad_later (ob_new kla) ⟨tyS_same s14 y13.1, y13.2⟩, fun e => nls (V.ref.inj e)⟩
  generalize upd H13 la (.lst ([.int t0] ++ ((ts.map V.int).take j ++ y :: (ts.map V.int).drop (j + 1)))) = H14 at R14 B14 ⊢
  clear R13 y13 hq13 s14 fr hc fc kc hj hla kla nls nqa nqs
  refine ⟨_, rfl, ?_⟩
  refine lsX (R := NW K) NW.same (mkL_cons (R := NW K) NW.same (nw_c (K := K) rfl rfl) (mkL_cons (R := NW K) NW.same (nw_c (K := K) rfl rfl) (mkL_cons (R := NW K) NW.same (nw_c (K := K) rfl rfl) (mkL_cons (R := NW K) NW.same (nw_c (K := K) rfl rfl) (mkL_cons (R := NW K) NW.same (nw_tp (K := K) (mkL_cons (R := fun _ _ => True) (fun _ _ _ _ _ => True.intro) (mk_any (mk_c (K := K) rfl)) (mkL_cons (R := fun _ _ => True) (fun _ _ _ _ _ => True.intro) (mk_any (mk_c (K := K) rfl)) mkL_nil))) (mkL_cons (R := NW K) NW.same (nw_ls (K := K) (mkL_cons (R := fun _ _ => True) (fun _ _ _ _ _ => True.intro) (mk_any (mk_c (K := K) rfl)) mkL_nil)) mkL_nil)))))) (by decide) fun vs p H15 s15 hp kp hn hv hl => ?_
  have R15 := R14.same s15
  have B15 := BadR.same _ _ _ s15 B14
  refine ⟨sr, p, vs, rfl, R15.ls.st, hl, Ne.symm (R14.ls.st.ne' hp), by omega, by omega, fun z H16 hm kp16 st16 => ?_⟩
  have z15 := hv z hm
  have R16 := R15.kp na kp16 st16
  have B16 := B15.kp kp16 st16
  have z16 : NW K H16 z := ⟨tyS_kp kp16 st16 z15.1, z15.2⟩
  clear R14 R15 B14 B15 s15 hp kp hn hv hl hm kp16 st16 z15
  refine ⟨sz2 (by show 1 ≤ 100; decide), fun q2 hq2 kq2 => ⟨_, rfl, _, rfl, a, _, rfl, .of ((Same.new hq2 _) _ _ R16.ha), fun p4 hp4 fr4 => ?_⟩⟩
  have s17 := Same.new hq2 (.lst [z])
  have s18 := Same.new hp4 (.lst (cutV (ts.map V.int) (some 1) none))
  refine ⟨q2, p4, _, _, rfl, rfl, s18 _ _ upd_same, upd_same, by have := cutV_length (ts.map V.int) (some 1) none; show 1 + _ ≤ _; rw [sizeLine_eq]; omega, fun lb hlb fr => ?_⟩
  have ec : cutV (ts.map V.int) (some 1) none = (ts.map V.int).drop 1 := cut_from (ts.map V.int) 1 (by omega)
  have klb : K.lookup lb = none := fr lb (by rw [upd_same]; simp)
  have nlb : lb ≠ sr := ((R16.same s17).same s18).ls.st.ne' hlb
  have s19 := Same.new hlb (.lst ([z] ++ cutV (ts.map V.int) (some 1) none))
  have s1X := s17.trans (s18.trans s19)
  have R19 := R16.same s1X
  have B19 := BadR.same _ _ _ s1X B16
  have F19 : BadR K sr (upd (upd (upd H16 q2 (.lst [z])) p4 (.lst (cutV (ts.map V.int) (some 1) none))) lb (.lst ([z] ++ cutV (ts.map V.int) (some 1) none))) (.ref lb) := ⟨bad_first (z := z) (ts := ts) (by rw [ob_new klb, ec]) ⟨tyS_same s1X z16.1, z16.2⟩, fun e => nlb (V.ref.inj e)⟩
  generalize upd (upd (upd H16 q2 (.lst [z])) p4 (.lst (cutV (ts.map V.int) (some 1) none))) lb (.lst ([z] ++ cutV (ts.map V.int) (some 1) none)) = H19 at R19 B19 F19 ⊢
  clear R16 B16 z16 s17 s18 s19 s1X klb nlb hlb fr hp4 fr4 hq2 kq2 ec
  refine ⟨_, rfl, a, 421, _, rfl, rfl, R19.ha, by omega, by omega, by show (ts.map V.int).length * 421 ≤ sizeLine; rw [sizeLine_eq]; omega, fun pr hpr frr => ?_⟩
  have npr : pr ≠ sr := R19.ls.st.ne' hpr
  have s20 := Same.new hpr (.lst (List.replicate (421 : Int).toNat (ts.map V.int)).flatten)
  have hp20 : upd H19 pr (.lst (List.replicate (421 : Int).toNat (ts.map V.int)).flatten) pr = some (.lst (List.replicate (421 : Int).toNat (ts.map V.int)).flatten) := upd_same
  have R20 := R19.same s20
  have B20 := BadR.same _ _ _ s20 B19
  have F20 := BadR.same _ _ _ s20 F19
  generalize upd H19 pr (.lst (List.replicate (421 : Int).toNat (ts.map V.int)).flatten) = H20 at hp20 R20 B20 F20 ⊢
  clear R19 B19 F19 s20 hpr frr
  refine ⟨_, rfl, sr, 20, rfl, R20.ls.st, by omega, fun u H21 u0 u1 kp21 st21 => ⟨_, _, rfl, rfl, _, rfl, pr, _, rfl, .of (kp21 _ _ npr hp20), fun pl hpl frl => ?_⟩⟩
  have R21 := R20.kp na kp21 st21
  have B21 := B20.kp kp21 st21
  have F21 := F20.kp kp21 st21
  obtain ⟨ju, rfl⟩ : ∃ ju : Nat, u = (ju : Int) := ⟨u.toNat, by omega⟩
  have ll : 400 < (cutV (List.replicate (421 : Int).toNat (ts.map V.int)).flatten none (some ((fun i j => i + j) (401 : Int) (ju : Int)))).length := by
    show 400 < (cutV (List.replicate 421 (ts.map V.int)).flatten none (some ((401 : Int) + (ju : Int)))).length
    rw [show (401 : Int) + (ju : Int) = ((401 + ju : Nat) : Int) by omega, cut_to _ _ (by rw [len_rep]; omega), List.length_take, len_rep]
    omega
  have kpl : K.lookup pl = none := frl pl (by rw [upd_same]; simp)
  have npl : pl ≠ sr := R21.ls.st.ne' hpl
  generalize cutV (List.replicate (421 : Int).toNat (ts.map V.int)).flatten none (some ((fun i j => i + j) (401 : Int) (ju : Int))) = xl at ll kpl ⊢
  have s22 := Same.new hpl (.lst xl)
  have R22 := R21.same s22
  have B22 := BadR.same _ _ _ s22 B21
  have F22 := BadR.same _ _ _ s22 F21
  have L22 : BadR K sr (upd H21 pl (.lst xl)) (.ref pl) := ⟨bad_long (ob_new kpl) ll, fun e => npl (V.ref.inj e)⟩
  generalize upd H21 pl (.lst xl) = H22 at R22 B22 F22 L22 ⊢
  clear R20 B20 F20 R21 B21 F21 s22 kpl npl hpl frl ll hp20 kp21 st21 u0 u1 npr
  refine ⟨_, rfl, ?_⟩
  obtain ⟨yst, hyst⟩ := R22.ls.st.at
  have nr : ∀ {p : Addr} {H' : Hp}, Same H22 H' → H' p = none → V.ref p ≠ V.ref sr := fun s' hp e => by
    have h := s' _ _ hyst
    rw [← V.ref.inj e, hp] at h
    cases h
  have ec : ∀ {v : V} {t : String} {σ : L2.St}, (∀ H', tyN K H' v = some t) → t ≠ "list" → v ≠ .ref sr → MkA σ H22 (BadR K sr) (tC v) := fun h1 h2 h3 H' s' Q' k' => k' _ H' (Same.refl _) ⟨.inl ⟨_, h1 H', h2⟩, h3⟩
  have ev : ∀ {i : Nat} {v : V} {σ : L2.St}, BadR K sr H22 v → σ[i]? = some (some v) → MkA σ H22 (BadR K sr) (tVar i) := fun h1 h2 H' s' Q' k' => ⟨_, h2, k' _ H' (Same.refl _) (BadR.same _ _ _ s' h1)⟩
  have cc := fun {σ : L2.St} {n : Nat} {te : TE} {ta : TA} (h1 : MkA σ H22 (BadR K sr) te) (h2 : MkAL σ H22 (BadR K sr) n ta) => mkA_cons (R := BadR K sr) BadR.same h1 h2
  refine lsA (R := BadR K sr) BadR.same
    (cc (fun H' s' Q' k' => ⟨sz2 (by show 0 ≤ 100; decide), fun p hp kp => k' _ _ (Same.new hp _) ⟨.inr ⟨p, [], rfl, ob_new kp, .inl rfl⟩, nr s' hp⟩⟩)
    (cc (fun H' s' Q' k' => ⟨_, rfl, a, _, rfl, .inl ⟨.of (s' _ _ R22.ha), fun p hp fr => k' _ _ (Same.new hp _) ⟨.inl ⟨"tuple", by rw [tyN_ref, ob_new (fr p (by rw [upd_same]; simp))]; rfl, by decide⟩, nr s' hp⟩⟩⟩)
    (cc (ec (t := "NoneType") (fun _ => rfl) (by decide) (fun e => by cases e))
    (cc (ec (t := "int") (fun _ => rfl) (by decide) (fun e => by cases e))
    (cc (ec (t := "str") (fun _ => rfl) (by decide) (fun e => by cases e))
    (cc (ev L22 rfl) (cc (ev L22 rfl) (cc (ev B22 rfl) (cc (ev B22 rfl) (cc (ev B22 rfl) (cc (ev F22 rfl)
    (cc (fun H' s' Q' k' => ⟨sz2 (by show 0 ≤ 100; decide), fun p hp kp => k' _ _ (Same.new hp _) ⟨.inl ⟨"tuple", by rw [tyN_ref, ob_new kp]; rfl, by decide⟩, nr s' hp⟩⟩)
    (cc (fun H' s' Q' k' p hp kp => k' _ _ (Same.new hp _) ⟨.inl ⟨"dict", by rw [tyN_ref, ob_new kp]; rfl, by decide⟩, nr s' hp⟩)
    mkA_nil))))))))))))) (by decide) fun vs p H23 s23 hp kp hn hv hl => ?_
  have R23 := R22.same s23
  refine ⟨sr, p, vs, rfl, R23.ls.st, hl, Ne.symm (R22.ls.st.ne' hp), by omega, by omega, fun x H24 hm kp24 st24 => ?_⟩
  have X24 := (hv x hm).kp kp24 st24
  have R24 := R23.kp na kp24 st24
  clear R22 R23 B22 F22 L22 s23 hp kp hn hv hl hm kp24 st24 hyst nr ec ev cc
  refine ⟨R24.ls.tb, fun Ha ea ta => ?_⟩
  have R25 := R24.ext ea ta
  refine ⟨_, rfl, x, rfl, X24.1.ext ea, fun d Hb sb hb => ⟨rfl, d, _, rfl, hb, fun c3 H26 sc o3 => ?_⟩⟩
  have R26 := (R25.same sb).same sc
  clear R24 R25 X24 ea ta sb hb sc
  refine ⟨_, rfl, sz2 (by show 1 ≤ 100; decide), fun q hq kq => ⟨q, 400, [.int 1], rfl, rfl, upd_same, by omega, by omega, by show 1 * 400 ≤ sizeLine; rw [sizeLine_eq]; omega, fun p5 hp5 fr5 => ?_⟩⟩
  rw [show (List.replicate (400 : Int).toNat [V.int 1]).flatten = (List.replicate 400 (1 : Int)).map V.int from rep_ints 400] at fr5 ⊢
  have s27 := Same.new hq (.lst [.int 1])
  have s28 := Same.new hp5 (.lst ((List.replicate 400 (1 : Int)).map V.int))
  have l5 : upd (upd H26 q (.lst [.int 1])) p5 (.lst ((List.replicate 400 (1 : Int)).map V.int)) p5 = some (.lst ((List.replicate 400 (1 : Int)).map V.int)) := upd_same
  have R28 := (R26.same s27).same s28
  have o28 := ob_same (s27.trans s28) o3
  generalize upd (upd H26 q (.lst [.int 1])) p5 (.lst ((List.replicate 400 (1 : Int)).map V.int)) = H28 at l5 R28 o28 fr5 ⊢
  clear s27 s28 hq hp5 R26 o3
  refine ⟨a, p5, _, _, rfl, rfl, R28.ha, l5, by rw [List.length_map, List.length_map, List.length_replicate, sizeLine_eq]; omega, fun p6 hp6 fr6 => ?_⟩
  have s29 := Same.new hp6 (.lst (ts.map V.int ++ (List.replicate 400 (1 : Int)).map V.int))
  have l6 : upd H28 p6 (.lst (ts.map V.int ++ (List.replicate 400 (1 : Int)).map V.int)) p6 = some (.lst (ts.map V.int ++ (List.replicate 400 (1 : Int)).map V.int)) := upd_same
  have o29 := ob_same s29 o28
  generalize upd H28 p6 (.lst (ts.map V.int ++ (List.replicate 400 (1 : Int)).map V.int)) = H29 at l6 o29 ⊢
  clear s29 hp6 l5 R28 o28
  refine ⟨_, rfl, p6, _, rfl, .of l6, fun gd hgd frg => ?_⟩
  have eg : cutV (ts.map V.int ++ (List.replicate 400 (1 : Int)).map V.int) none (some 400) = ((ts ++ List.replicate 400 (1 : Int)).take 400).map V.int := by
    rw [← List.map_append, List.map_take]
    exact cut_to _ 400 (by rw [List.length_map, List.length_append, List.length_replicate]; omega)
  rw [eg] at frg ⊢
  have kgd : K.lookup gd = none := frg gd (by rw [upd_same]; simp)
  have s30 := Same.new hgd (.lst (((ts ++ List.replicate 400 (1 : Int)).take 400).map V.int))
  have o30 := ob_same s30 o29
  have og : ob K (upd H29 gd (.lst (((ts ++ List.replicate 400 (1 : Int)).take 400).map V.int))) gd = some (.lst (((ts ++ List.replicate 400 (1 : Int)).take 400).map V.int)) := ob_new kgd
  have tg : TOk ((ts ++ List.replicate 400 (1 : Int)).take 400) := (tk.app fun u hu => by rw [(List.mem_replicate.mp hu).2]; omega).take 399
  have lg : ((ts ++ List.replicate 400 (1 : Int)).take 400).length ≤ 400 := by rw [List.length_take]; omega
  have wg : wsum ((ts ++ List.replicate 400 (1 : Int)).take 400) ≤ 80000 := by
    have w1 := wsum_take (ts ++ List.replicate 400 (1 : Int)) 400
    have w2 := wsum_app ts (List.replicate 400 (1 : Int))
    have w3 := wsum_le (k := 1) (by omega) (ts := List.replicate 400 (1 : Int)) fun u hu => by
      rw [(List.mem_replicate.mp hu).2]
      decide
    rw [List.length_replicate] at w3
    omega
  generalize (ts ++ List.replicate 400 (1 : Int)).take 400 = gs at eg og tg lg wg s30 o30 ⊢
  generalize upd H29 gd (.lst (gs.map V.int)) = H30 at og o30 ⊢
  clear s30 hgd frg l6 o29 eg
  refine ⟨_, rfl, sz2 (by show 2 ≤ 100; decide), fun pt hpt kpt => ?_⟩
  have s31 := Same.new hpt (.tup [.str "BadValue", .str "terms"])
  refine ⟨_, _, rfl, (eqv_tup (ob_same s31 o30) (ob_new (o := .tup [.str "BadValue", .str "terms"]) kpt) rfl (by show 2 ≤ 1000; omega)).up, fun H32 s32 => ⟨_, rfl, if_yes rfl ?_⟩⟩
  have og2 := ob_same (s31.trans s32) og
  refine ⟨_, rfl, gd, gs, rfl, og2, tg, lg, wg, fun z H33 s33 oz => ⟨_, rfl, gd, gs, rfl, ob_same s33 og2, tg.1, by omega, wg, fun lv xs H34 s34 _ hlv klv rw1 => ?_⟩⟩
  obtain ⟨b, eb, ob1⟩ := rw1.last tg.1
  exact ⟨_, rfl, lv, -1, rfl, rfl, _, itsO_ofL ((ob_none klv).trans hlv), _, eb, _, _, rfl, eqv_f (ob_same s34 oz) ob1 rfl, fun H35 s35 => k _⟩
end
end My

namespace My
open PySem PySem.Spec PyProof.Rows L2
section
variable {P : Program} {w : World} {K : PySem.W.Frag} {mg : Str → Option Value} {base : Heap}
theorem cut_any (xs : List V) (j : Nat) : cutV xs none (some (j : Int)) = xs.take j := by
  by_cases h : j ≤ xs.length
  · exact cut_to xs j h
  · have e := HT.sIx_nat xs.length xs.length j
    unfold cutV
    rw [e, HT.sIx_none, List.drop_zero, Nat.sub_zero, Nat.min_eq_right (by omega), List.take_length, List.take_of_length_le (by omega)]
theorem nb_and {a b : Bool} (h : ¬ (!(a && b)) = true) : a = true ∧ b = true := by cases a <;> cases b <;> simp_all
def spLaw (K : PySem.W.Frag) (Pt : Addr) : Sp := fun vs H Q _ => ∃ (a : Addr) (ns : List Int), vs = [.ref a] ∧ SqL K H a (ns.map V.int) ∧ H Pt = some (.tbl #[]) ∧ ∀ H', Q (.bl true) H'
def LMid (K : PySem.W.Frag) (Pt sa s a : Addr) (ts : List Int) (σ : L2.St) (H' : Hp) : Prop := ∃ (va : Addr) (v : Qt), σ = [some (.ref sa), some (.ref s), some (.ref a), some (.ref va)] ∧ RF K [(Pt, qLam)] s a ts H' ∧ Fq K H' 135 va v
abbrev sLaw : Stmt := topS 51
theorem scLaw : FnScope ["_law_script", "_law_store_here", "_law_terms", "_law_value"] ["_law_script"] (defScope sLaw) := ⟨rfl, rfl, rfl, by decide +kernel, rfl, by decide +kernel, by decide +kernel⟩
theorem ok_law {fa Pt : Addr} {fd : FuncData} (F : Fun K "law" "law" sLaw fa fd) (T : Bt K mg) (d__law_store : Kn P w K mg base 1 "_law_store" ["_law_script"] (spStore K)) (d__law_quotient_terms : Kn P w K mg base 4 "_law_quotient_terms" ["_law_store_here"] (spQT K)) (d__law_values : Kn P w K mg base 1 "_law_values" ["_law_terms"] (spValues K)) (d__law_take : Kn P w K mg base 2 "_law_take" ["_law_store_here", "_law_many"] (spTake K)) (d__law_fits : Kn P w K mg base 2 "_law_fits" ["_law_thing"] (spFits K 2)) (d__law_frac_wide : Kn P w K mg base 4 "_law_frac_wide" ["_law_store_here"] (spDFrac K 133)) (d__law_parted : Kn P w K mg base 5 "_law_parted" ["_law_store_here", "_law_value"] (spParted K)) (d__law_joined_up : Kn P w K mg base 5 "_law_joined_up" ["_law_terms"] (spJoined K)) (d__law_refused : Kn P w K mg base 8 "_law_refused" ["_law_store_here", "_law_terms"] (spRefused K Pt)) : FnOk P w K mg base CX0 9 fa fd ["_law_script"] (spLaw K Pt) := by
  refine F.ok scLaw (fun vs H Q E h => ?_) (fun cdv A outer s H vs Q E hr h => ?_)
  · obtain ⟨sa, ns, rfl, _⟩ := h
    rfl
  obtain ⟨sa, ns, rfl, hsa, hP, q⟩ := h
  refine ⟨_, (pss_cons (ps_set (i := 1) scLaw.nd rfl (.inl rfl) (pe_kn d__law_store hr (by rfl) (pa_cons (pv 0) pa_nil)))
      (pss_cons (ps_set (i := 2) scLaw.nd rfl (.inl rfl) (pe_kn d__law_quotient_terms hr (by rfl) (pa_cons (pv 1) pa_nil)))
      (pss_cons (ps_set (i := 3) scLaw.nd rfl (.inl rfl) (pe_ix ix_any (pe_kn d__law_values hr (by rfl) (pa_cons (pe_fr (pe_slice sl_list (pv 2) po_none (po_some pe_int))) pa_nil)) (pe_un un_neg pe_int) (fun _ _ => rfl)))
      (C8.pss_cut (ps_if (PW.pt (pw_or (pt_cmpR op_eq (pe_kn d__law_take hr (by rfl) (pa_cons (pv 1) (pa_cons pe_int pa_nil))) pe_int (nomark _)) (pw_or1 (pt_not (pt_val (pe_kn d__law_fits hr (by rfl) (pa_cons (pv 3) pa_nil))))))) (pss_one (ps_set (i := 3) scLaw.nd rfl (.inl rfl) (pe_kn d__law_frac_wide hr (by rfl) (pa_cons (pv 1) pa_nil)))) pss_nil)
      (pss_one (ps_ret (pe_and (pe_kn d__law_parted hr (by rfl) (pa_cons (pv 1) (pa_cons (pv 3) pa_nil))) (pe_and (pe_kn d__law_joined_up hr (by rfl) (pa_cons (pv 2) pa_nil)) (pe_one (pe_kn d__law_refused hr (by rfl) (pa_cons (pv 1) (pa_cons (pv 2) pa_nil)))))))))))), ?_⟩
  have TBL : ∀ H1, Same H H1 → LamX.Tabs [(Pt, qLam)] H1 := fun H1 s1 p hp => by
    simp only [List.mem_cons, List.not_mem_nil, or_false] at hp
    subst hp
    exact LamX.TabS.nil (s1 _ _ hP)
  simp only [cx_K]
  refine ⟨_, rfl, sa, ns, rfl, hsa, fun s H1 s1 st1 => ⟨_, rfl, s, rfl, st1, fun a ts H2 tk tl ws b1 kp2 st2 ha ha1 ka => ?_⟩⟩
  have na : a ≠ s := st1.ne' ha1
  have R2 : RF K [(Pt, qLam)] s a ts H2 := ⟨(LawS.mk st1 (TBL H1 s1)).kp kp2 st2, ha⟩
  clear TBL st1 hsa hP s1 kp2 st2 ha ha1
  refine ⟨_, rfl, _, rfl, a, _, rfl, .of R2.ha, fun p hp fr => ?_⟩
  rw [show cutV (ts.map V.int) none (some 12) = (ts.take 12).map V.int from by rw [List.map_take]; exact cut_any _ 12] at fr ⊢
  have kp : K.lookup p = none := fr p (by rw [upd_same]; simp)
  have sp := Same.new hp (.lst ((ts.take 12).map V.int))
  have op : ob K (upd H2 p (.lst ((ts.take 12).map V.int))) p = some (.lst ((ts.take 12).map V.int)) := ob_new kp
  have R3 := R2.same sp
  generalize upd H2 p (.lst ((ts.take 12).map V.int)) = H3 at op R3 ⊢
  clear sp fr hp R2
  have tk12 : TOk (ts.take 12) := tk.take 11
  have ws12 := wsum_take ts 12
  refine ⟨p, _, rfl, op, tk12.1, by rw [List.length_take]; omega, by omega, fun l xs H4 s4 _ hl kl rw1 => ?_⟩
  obtain ⟨b, eb, ob1⟩ := rw1.last tk12.1
  have R4 := R3.same s4
  refine ⟨_, rfl, l, -1, rfl, rfl, _, itsO_ofL ((ob_none kl).trans hl), _, eb, ?_⟩
  have nf := val_nf tk12
  generalize valF (ts.take 12) = v at ob1 nf
  clear s4 R3 op kp rw1 hl kl eb
  refine ⟨LMid K Pt sa s a ts, ?_, ?_⟩
  · have wide : ∀ H5, RF K [(Pt, qLam)] s a ts H5 → tAsg (tCall (spDFrac K 133) [] C8.E0 (tCons (tVar 1) L2.tNil)) (gName 3) { nx := LMid K Pt sa s a ts, rt := fun x H' => Q x H' } [some (.ref sa), some (.ref s), some (.ref a), some (.ref b)] H5 := fun H5 R5 =>
      ⟨_, rfl, s, rfl, R5.ls.st, fun va v2 H6 hq kp6 st6 => ⟨va, v2, rfl, R5.kp na kp6 st6, hq.mono (by omega)⟩⟩
    refine ⟨_, rfl, s, 2, rfl, R4.ls.st, by omega, fun i H5 i0 i1 kp5 st5 => ⟨rfl, _, rfl, ?_⟩⟩
    have R5 := R4.kp na kp5 st5
    have ob5 := ob_kps (xs := [.int v.1, .int v.2]) ob1 kp5 R4.ls.st
    refine ite2 (fun _ => wide H5 R5) (fun _ => ?_)
    refine ⟨_, rfl, _, rfl, .inr ⟨b, v, Nat.one_ne_zero, rfl, ob5, fun H6 s6 => ⟨_, rfl, ?_⟩⟩⟩
    have R6 := R5.same s6
    show if (!(decide (v.1.natAbs < 10 ^ 40) && decide (v.2.natAbs < 10 ^ 40))) = true then _ else _
    refine ite2 (fun _ => wide H6 R6) (fun hn => ?_)
    obtain ⟨h1, h2⟩ := nb_and hn
    exact ⟨b, v, rfl, R6, ⟨ob_same s6 ob5, nf, ⟨Nat.lt_of_lt_of_le (of_decide_eq_true h1) (by decide +kernel), Nat.lt_of_lt_of_le (of_decide_eq_true h2) (by decide +kernel)⟩⟩⟩
  rintro σ H5 ⟨va, v, rfl, R5, fv⟩
  refine ⟨_, rfl, _, rfl, s, va, v, rfl, R5.ls.st, fv, fun H6 kp6 st6 => ⟨_, rfl, if_yes rfl ?_⟩⟩
  have R6 := R5.kp na kp6 st6
  refine ⟨_, rfl, a, ts, rfl, R6.ha, ka, tk, tl, ws, b1, fun H7 s7 => ⟨_, rfl, if_yes rfl ?_⟩⟩
  exact ⟨_, rfl, _, rfl, s, a, ts, rfl, R6.same s7, na, ka, tk, tl, ws, fun H8 => q H8⟩

end
end My

namespace My
open PySem PySem.Spec PyProof.Rows L2
/-! ### the end: what the top has written -/
theorem dfn_mk {K : PySem.W.Frag} {h : Heap} {mg : Str → Option Value} {x : Str} {st : Stmt} {ps : List Str} {f : Addr} {oc kV doc pm cd ct : Value} {od an : Option Addr} {sl : Array (Option Value)} (X : K.In h) (G : h.Ns mainGlobals mg)
    (a : PySem.W.nsIn K mainGlobals x = some (some (.ref f))) (l : K.lookup f = some ⟨oc, od, .func (PySem.W.fnOf x x (defArgs st) (defBody st) (defScope st) .none kV doc pm an cd ct), sl⟩) (c : PySem.W.codeIn K cd x = true) (k : PySem.W.keepIn K (.ref f) = true)
    (hb : ∀ (kV doc pm : Value) (an : Option Addr) (cdv ct : Value) (us : List Value), us.length = ps.length → bindArgs (PySem.W.fnOf x x (defArgs st) (defBody st) (defScope st) .none kV doc pm an cdv ct) ⟨us, []⟩ = pure (ps.zip us)) : Dfn K mg x st ps :=
  ⟨f, _, fun_mk l c k, PySem.W.mg_of X G a, (fun_mk l c k).binds hb⟩
theorem all_mk {P : Program} {w : World} {K : PySem.W.Frag} {h : Heap} {mg : Str → Option Value} {fa : Addr} (X : K.In h) (G : h.Ns mainGlobals mg) (hfa : mg "law" = some (.ref fa)) {f0 : Addr} {oc0 kV0 dc0 pm0 cd0 ct0 : Value} {od0 an0 : Option Addr} {sl0 : Array (Option Value)} {f1 : Addr} {oc1 kV1 dc1 pm1 cd1 ct1 : Value} {od1 an1 : Option Addr} {sl1 : Array (Option Value)} {f2 : Addr} {oc2 kV2 dc2 pm2 cd2 ct2 : Value} {od2 an2 : Option Addr} {sl2 : Array (Option Value)} {f3 : Addr} {oc3 kV3 dc3 pm3 cd3 ct3 : Value} {od3 an3 : Option Addr} {sl3 : Array (Option Value)} {f4 : Addr} {oc4 kV4 dc4 pm4 cd4 ct4 : Value} {od4 an4 : Option Addr} {sl4 : Array (Option Value)} {f5 : Addr} {oc5 kV5 dc5 pm5 cd5 ct5 : Value} {od5 an5 : Option Addr} {sl5 : Array (Option Value)} {f6 : Addr} {oc6 kV6 dc6 pm6 cd6 ct6 : Value} {od6 an6 : Option Addr} {sl6 : Array (Option Value)} {f7 : Addr} {oc7 kV7 dc7 pm7 cd7 ct7 : Value} {od7 an7 : Option Addr} {sl7 : Array (Option Value)} {f8 : Addr} {oc8 kV8 dc8 pm8 cd8 ct8 : Value} {od8 an8 : Option Addr} {sl8 : Array (Option Value)} {f9 : Addr} {oc9 kV9 dc9 pm9 cd9 ct9 : Value} {od9 an9 : Option Addr} {sl9 : Array (Option Value)} {f10 : Addr} {oc10 kV10 dc10 pm10 cd10 ct10 : Value} {od10 an10 : Option Addr} {sl10 : Array (Option Value)} {f11 : Addr} {oc11 kV11 dc11 pm11 cd11 ct11 : Value} {od11 an11 : Option Addr} {sl11 : Array (Option Value)} {f12 : Addr} {oc12 kV12 dc12 pm12 cd12 ct12 : Value} {od12 an12 : Option Addr} {sl12 : Array (Option Value)} {f13 : Addr} {oc13 kV13 dc13 pm13 cd13 ct13 : Value} {od13 an13 : Option Addr} {sl13 : Array (Option Value)} {f14 : Addr} {oc14 kV14 dc14 pm14 cd14 ct14 : Value} {od14 an14 : Option Addr} {sl14 : Array (Option Value)} {f15 : Addr} {oc15 kV15 dc15 pm15 cd15 ct15 : Value} {od15 an15 : Option Addr} {sl15 : Array (Option Value)} {f16 : Addr} {oc16 kV16 dc16 pm16 cd16 ct16 : Value} {od16 an16 : Option Addr} {sl16 : Array (Option Value)} {f17 : Addr} {oc17 kV17 dc17 pm17 cd17 ct17 : Value} {od17 an17 : Option Addr} {sl17 : Array (Option Value)} {f18 : Addr} {oc18 kV18 dc18 pm18 cd18 ct18 : Value} {od18 an18 : Option Addr} {sl18 : Array (Option Value)} {f19 : Addr} {oc19 kV19 dc19 pm19 cd19 ct19 : Value} {od19 an19 : Option Addr} {sl19 : Array (Option Value)} {f20 : Addr} {oc20 kV20 dc20 pm20 cd20 ct20 : Value} {od20 an20 : Option Addr} {sl20 : Array (Option Value)} {f21 : Addr} {oc21 kV21 dc21 pm21 cd21 ct21 : Value} {od21 an21 : Option Addr} {sl21 : Array (Option Value)} {f22 : Addr} {oc22 kV22 dc22 pm22 cd22 ct22 : Value} {od22 an22 : Option Addr} {sl22 : Array (Option Value)} {f23 : Addr} {oc23 kV23 dc23 pm23 cd23 ct23 : Value} {od23 an23 : Option Addr} {sl23 : Array (Option Value)} {f24 : Addr} {oc24 kV24 dc24 pm24 cd24 ct24 : Value} {od24 an24 : Option Addr} {sl24 : Array (Option Value)} {f25 : Addr} {oc25 kV25 dc25 pm25 cd25 ct25 : Value} {od25 an25 : Option Addr} {sl25 : Array (Option Value)} {f26 : Addr} {oc26 kV26 dc26 pm26 cd26 ct26 : Value} {od26 an26 : Option Addr} {sl26 : Array (Option Value)} {f27 : Addr} {oc27 kV27 dc27 pm27 cd27 ct27 : Value} {od27 an27 : Option Addr} {sl27 : Array (Option Value)} {f28 : Addr} {oc28 kV28 dc28 pm28 cd28 ct28 : Value} {od28 an28 : Option Addr} {sl28 : Array (Option Value)} {f29 : Addr} {oc29 kV29 dc29 pm29 cd29 ct29 : Value} {od29 an29 : Option Addr} {sl29 : Array (Option Value)} {tkM : Tok} {C S fI : Addr} {nm qn : Str} {N0 : Addr} {bs bm : List Value} {sn : List Str} {sub : List Value} {ab : Bool} {col : Option Bool} {dd : Option Addr} {m0 m1 m2 m3 m5 : Option Value} {ocI kVI dcI pmI cdI ctI : Value} {odI anI : Option Addr} {slI : Array (Option Value)} {C_Mismatch : Addr} {C_Still : Addr} {C_Endless : Addr} {C_TooMany : Addr} {C_NoName : Addr} {C_Taken : Addr} {C_Locked : Addr} {C_Looped : Addr} {C_Broken : Addr} {C_ReadError : Addr} {gA : Addr} {ocA kVA dcA pmA cdA ctA : Value} {odA anA : Option Addr} {slA : Array (Option Value)} {fR cR : Addr} {ocR kVR dcR pmR ctR : Value} {odR anR : Option Addr} {slR : Array (Option Value)} {fL : Addr} {ocL kVL dcL pmL cdvL ctL : Value} {odL anL : Option Addr} {slL : Array (Option Value)}
    (a0 : PySem.W.nsIn K mainGlobals "require" = some (some (.ref f0)))
    (l0 : K.lookup f0 = some ⟨oc0, od0, .func (PySem.W.fnOf "require" "require" (defArgs sRequire) (defBody sRequire) (defScope sRequire) .none kV0 dc0 pm0 an0 cd0 ct0), sl0⟩)
    (c0 : PySem.W.codeIn K cd0 "require" = true)
    (k0 : PySem.W.keepIn K (.ref f0) = true)
    (a1 : PySem.W.nsIn K mainGlobals "is_whole" = some (some (.ref f1)))
    (l1 : K.lookup f1 = some ⟨oc1, od1, .func (PySem.W.fnOf "is_whole" "is_whole" (defArgs sWhole) (defBody sWhole) (defScope sWhole) .none kV1 dc1 pm1 an1 cd1 ct1), sl1⟩)
    (c1 : PySem.W.codeIn K cd1 "is_whole" = true)
    (k1 : PySem.W.keepIn K (.ref f1) = true)
    (a2 : PySem.W.nsIn K mainGlobals "is_fraction" = some (some (.ref f2)))
    (l2 : K.lookup f2 = some ⟨oc2, od2, .func (PySem.W.fnOf "is_fraction" "is_fraction" (defArgs sIsFraction) (defBody sIsFraction) (defScope sIsFraction) .none kV2 dc2 pm2 an2 cd2 ct2), sl2⟩)
    (c2 : PySem.W.codeIn K cd2 "is_fraction" = true)
    (k2 : PySem.W.keepIn K (.ref f2) = true)
    (a3 : PySem.W.nsIn K mainGlobals "quotients" = some (some (.ref f3)))
    (l3 : K.lookup f3 = some ⟨oc3, od3, .func (PySem.W.fnOf "quotients" "quotients" (defArgs sQuots) (defBody sQuots) (defScope sQuots) .none kV3 dc3 pm3 an3 cd3 ct3), sl3⟩)
    (c3 : PySem.W.codeIn K cd3 "quotients" = true)
    (k3 : PySem.W.keepIn K (.ref f3) = true)
    (a4 : PySem.W.nsIn K mainGlobals "_advanced" = some (some (.ref f4)))
    (l4 : K.lookup f4 = some ⟨oc4, od4, .func (PySem.W.fnOf "_advanced" "_advanced" (defArgs sAdv) (defBody sAdv) (defScope sAdv) .none kV4 dc4 pm4 an4 cd4 ct4), sl4⟩)
    (c4 : PySem.W.codeIn K cd4 "_advanced" = true)
    (k4 : PySem.W.keepIn K (.ref f4) = true)
    (a5 : PySem.W.nsIn K mainGlobals "convergents" = some (some (.ref f5)))
    (l5 : K.lookup f5 = some ⟨oc5, od5, .func (PySem.W.fnOf "convergents" "convergents" (defArgs sConv) (defBody sConv) (defScope sConv) .none kV5 dc5 pm5 an5 cd5 ct5), sl5⟩)
    (c5 : PySem.W.codeIn K cd5 "convergents" = true)
    (k5 : PySem.W.keepIn K (.ref f5) = true)
    (a6 : PySem.W.nsIn K mainGlobals "is_list_within" = some (some (.ref f6)))
    (l6 : K.lookup f6 = some ⟨oc6, od6, .func (PySem.W.fnOf "is_list_within" "is_list_within" (defArgs sListA) (defBody sListA) (defScope sListA) .none kV6 dc6 pm6 an6 cd6 ct6), sl6⟩)
    (c6 : PySem.W.codeIn K cd6 "is_list_within" = true)
    (k6 : PySem.W.keepIn K (.ref f6) = true)
    (a7 : PySem.W.nsIn K mainGlobals "_are_terms" = some (some (.ref f7)))
    (l7 : K.lookup f7 = some ⟨oc7, od7, .func (PySem.W.fnOf "_are_terms" "_are_terms" (defArgs sTerms) (defBody sTerms) (defScope sTerms) .none kV7 dc7 pm7 an7 cd7 ct7), sl7⟩)
    (c7 : PySem.W.codeIn K cd7 "_are_terms" = true)
    (k7 : PySem.W.keepIn K (.ref f7) = true)
    (a8 : PySem.W.nsIn K mainGlobals "value_of" = some (some (.ref f8)))
    (l8 : K.lookup f8 = some ⟨oc8, od8, .func (PySem.W.fnOf "value_of" "value_of" (defArgs sVal) (defBody sVal) (defScope sVal) .none kV8 dc8 pm8 an8 cd8 ct8), sl8⟩)
    (c8 : PySem.W.codeIn K cd8 "value_of" = true)
    (k8 : PySem.W.keepIn K (.ref f8) = true)
    (a9 : PySem.W.nsIn K mainGlobals "_law_mixed" = some (some (.ref f9)))
    (l9 : K.lookup f9 = some ⟨oc9, od9, .func (PySem.W.fnOf "_law_mixed" "_law_mixed" (defArgs sMixed) (defBody sMixed) (defScope sMixed) .none kV9 dc9 pm9 an9 cd9 ct9), sl9⟩)
    (c9 : PySem.W.codeIn K cd9 "_law_mixed" = true)
    (k9 : PySem.W.keepIn K (.ref f9) = true)
    (a10 : PySem.W.nsIn K mainGlobals "_law_store" = some (some (.ref f10)))
    (l10 : K.lookup f10 = some ⟨oc10, od10, .func (PySem.W.fnOf "_law_store" "_law_store" (defArgs sStore) (defBody sStore) (defScope sStore) .none kV10 dc10 pm10 an10 cd10 ct10), sl10⟩)
    (c10 : PySem.W.codeIn K cd10 "_law_store" = true)
    (k10 : PySem.W.keepIn K (.ref f10) = true)
    (a11 : PySem.W.nsIn K mainGlobals "_law_take" = some (some (.ref f11)))
    (l11 : K.lookup f11 = some ⟨oc11, od11, .func (PySem.W.fnOf "_law_take" "_law_take" (defArgs sTake) (defBody sTake) (defScope sTake) .none kV11 dc11 pm11 an11 cd11 ct11), sl11⟩)
    (c11 : PySem.W.codeIn K cd11 "_law_take" = true)
    (k11 : PySem.W.keepIn K (.ref f11) = true)
    (a12 : PySem.W.nsIn K mainGlobals "_law_pick" = some (some (.ref f12)))
    (l12 : K.lookup f12 = some ⟨oc12, od12, .func (PySem.W.fnOf "_law_pick" "_law_pick" (defArgs sPick) (defBody sPick) (defScope sPick) .none kV12 dc12 pm12 an12 cd12 ct12), sl12⟩)
    (c12 : PySem.W.codeIn K cd12 "_law_pick" = true)
    (k12 : PySem.W.keepIn K (.ref f12) = true)
    (a13 : PySem.W.nsIn K mainGlobals "_law_gcd" = some (some (.ref f13)))
    (l13 : K.lookup f13 = some ⟨oc13, od13, .func (PySem.W.fnOf "_law_gcd" "_law_gcd" (defArgs sGcd) (defBody sGcd) (defScope sGcd) .none kV13 dc13 pm13 an13 cd13 ct13), sl13⟩)
    (c13 : PySem.W.codeIn K cd13 "_law_gcd" = true)
    (k13 : PySem.W.keepIn K (.ref f13) = true)
    (a14 : PySem.W.nsIn K mainGlobals "_law_lowest" = some (some (.ref f14)))
    (l14 : K.lookup f14 = some ⟨oc14, od14, .func (PySem.W.fnOf "_law_lowest" "_law_lowest" (defArgs sLowest) (defBody sLowest) (defScope sLowest) .none kV14 dc14 pm14 an14 cd14 ct14), sl14⟩)
    (c14 : PySem.W.codeIn K cd14 "_law_lowest" = true)
    (k14 : PySem.W.keepIn K (.ref f14) = true)
    (a15 : PySem.W.nsIn K mainGlobals "_law_fits" = some (some (.ref f15)))
    (l15 : K.lookup f15 = some ⟨oc15, od15, .func (PySem.W.fnOf "_law_fits" "_law_fits" (defArgs sFits) (defBody sFits) (defScope sFits) .none kV15 dc15 pm15 an15 cd15 ct15), sl15⟩)
    (c15 : PySem.W.codeIn K cd15 "_law_fits" = true)
    (k15 : PySem.W.keepIn K (.ref f15) = true)
    (a16 : PySem.W.nsIn K mainGlobals "_law_is_whole" = some (some (.ref f16)))
    (l16 : K.lookup f16 = some ⟨oc16, od16, .func (PySem.W.fnOf "_law_is_whole" "_law_is_whole" (defArgs sLWhole) (defBody sLWhole) (defScope sLWhole) .none kV16 dc16 pm16 an16 cd16 ct16), sl16⟩)
    (c16 : PySem.W.codeIn K cd16 "_law_is_whole" = true)
    (k16 : PySem.W.keepIn K (.ref f16) = true)
    (a17 : PySem.W.nsIn K mainGlobals "_law_whole" = some (some (.ref f17)))
    (l17 : K.lookup f17 = some ⟨oc17, od17, .func (PySem.W.fnOf "_law_whole" "_law_whole" (defArgs sLInt) (defBody sLInt) (defScope sLInt) .none kV17 dc17 pm17 an17 cd17 ct17), sl17⟩)
    (c17 : PySem.W.codeIn K cd17 "_law_whole" = true)
    (k17 : PySem.W.keepIn K (.ref f17) = true)
    (a18 : PySem.W.nsIn K mainGlobals "_law_great" = some (some (.ref f18)))
    (l18 : K.lookup f18 = some ⟨oc18, od18, .func (PySem.W.fnOf "_law_great" "_law_great" (defArgs sGreat) (defBody sGreat) (defScope sGreat) .none kV18 dc18 pm18 an18 cd18 ct18), sl18⟩)
    (c18 : PySem.W.codeIn K cd18 "_law_great" = true)
    (k18 : PySem.W.keepIn K (.ref f18) = true)
    (a19 : PySem.W.nsIn K mainGlobals "_law_frac" = some (some (.ref f19)))
    (l19 : K.lookup f19 = some ⟨oc19, od19, .func (PySem.W.fnOf "_law_frac" "_law_frac" (defArgs sDFrac) (defBody sDFrac) (defScope sDFrac) .none kV19 dc19 pm19 an19 cd19 ct19), sl19⟩)
    (c19 : PySem.W.codeIn K cd19 "_law_frac" = true)
    (k19 : PySem.W.keepIn K (.ref f19) = true)
    (a20 : PySem.W.nsIn K mainGlobals "_law_frac_wide" = some (some (.ref f20)))
    (l20 : K.lookup f20 = some ⟨oc20, od20, .func (PySem.W.fnOf "_law_frac_wide" "_law_frac_wide" (defArgs sDFracW) (defBody sDFracW) (defScope sDFracW) .none kV20 dc20 pm20 an20 cd20 ct20), sl20⟩)
    (c20 : PySem.W.codeIn K cd20 "_law_frac_wide" = true)
    (k20 : PySem.W.keepIn K (.ref f20) = true)
    (a21 : PySem.W.nsIn K mainGlobals "_law_bad_frac" = some (some (.ref f21)))
    (l21 : K.lookup f21 = some ⟨oc21, od21, .func (PySem.W.fnOf "_law_bad_frac" "_law_bad_frac" (defArgs sBadFrac) (defBody sBadFrac) (defScope sBadFrac) .none kV21 dc21 pm21 an21 cd21 ct21), sl21⟩)
    (c21 : PySem.W.codeIn K cd21 "_law_bad_frac" = true)
    (k21 : PySem.W.keepIn K (.ref f21) = true)
    (a22 : PySem.W.nsIn K mainGlobals "_law_alike" = some (some (.ref f22)))
    (l22 : K.lookup f22 = some ⟨oc22, od22, .func (PySem.W.fnOf "_law_alike" "_law_alike" (defArgs sAlike) (defBody sAlike) (defScope sAlike) .none kV22 dc22 pm22 an22 cd22 ct22), sl22⟩)
    (c22 : PySem.W.codeIn K cd22 "_law_alike" = true)
    (k22 : PySem.W.keepIn K (.ref f22) = true)
    (a23 : PySem.W.nsIn K mainGlobals "_law_size" = some (some (.ref f23)))
    (l23 : K.lookup f23 = some ⟨oc23, od23, .func (PySem.W.fnOf "_law_size" "_law_size" (defArgs sSize) (defBody sSize) (defScope sSize) .none kV23 dc23 pm23 an23 cd23 ct23), sl23⟩)
    (c23 : PySem.W.codeIn K cd23 "_law_size" = true)
    (k23 : PySem.W.keepIn K (.ref f23) = true)
    (a24 : PySem.W.nsIn K mainGlobals "_law_with" = some (some (.ref f24)))
    (l24 : K.lookup f24 = some ⟨oc24, od24, .func (PySem.W.fnOf "_law_with" "_law_with" (defArgs sWith) (defBody sWith) (defScope sWith) .none kV24 dc24 pm24 an24 cd24 ct24), sl24⟩)
    (c24 : PySem.W.codeIn K cd24 "_law_with" = true)
    (k24 : PySem.W.keepIn K (.ref f24) = true)
    (a25 : PySem.W.nsIn K mainGlobals "_law_quotient_terms" = some (some (.ref f25)))
    (l25 : K.lookup f25 = some ⟨oc25, od25, .func (PySem.W.fnOf "_law_quotient_terms" "_law_quotient_terms" (defArgs sQT) (defBody sQT) (defScope sQT) .none kV25 dc25 pm25 an25 cd25 ct25), sl25⟩)
    (c25 : PySem.W.codeIn K cd25 "_law_quotient_terms" = true)
    (k25 : PySem.W.keepIn K (.ref f25) = true)
    (a26 : PySem.W.nsIn K mainGlobals "_law_values" = some (some (.ref f26)))
    (l26 : K.lookup f26 = some ⟨oc26, od26, .func (PySem.W.fnOf "_law_values" "_law_values" (defArgs sValues) (defBody sValues) (defScope sValues) .none kV26 dc26 pm26 an26 cd26 ct26), sl26⟩)
    (c26 : PySem.W.codeIn K cd26 "_law_values" = true)
    (k26 : PySem.W.keepIn K (.ref f26) = true)
    (a27 : PySem.W.nsIn K mainGlobals "_law_right" = some (some (.ref f27)))
    (l27 : K.lookup f27 = some ⟨oc27, od27, .func (PySem.W.fnOf "_law_right" "_law_right" (defArgs sLRight) (defBody sLRight) (defScope sLRight) .none kV27 dc27 pm27 an27 cd27 ct27), sl27⟩)
    (c27 : PySem.W.codeIn K cd27 "_law_right" = true)
    (k27 : PySem.W.keepIn K (.ref f27) = true)
    (a28 : PySem.W.nsIn K mainGlobals "_law_parted" = some (some (.ref f28)))
    (l28 : K.lookup f28 = some ⟨oc28, od28, .func (PySem.W.fnOf "_law_parted" "_law_parted" (defArgs sParted) (defBody sParted) (defScope sParted) .none kV28 dc28 pm28 an28 cd28 ct28), sl28⟩)
    (c28 : PySem.W.codeIn K cd28 "_law_parted" = true)
    (k28 : PySem.W.keepIn K (.ref f28) = true)
    (a29 : PySem.W.nsIn K mainGlobals "_law_joined_up" = some (some (.ref f29)))
    (l29 : K.lookup f29 = some ⟨oc29, od29, .func (PySem.W.fnOf "_law_joined_up" "_law_joined_up" (defArgs sJoined) (defBody sJoined) (defScope sJoined) .none kV29 dc29 pm29 an29 cd29 ct29), sl29⟩)
    (c29 : PySem.W.codeIn K cd29 "_law_joined_up" = true)
    (k29 : PySem.W.keepIn K (.ref f29) = true)
    (z_int : PySem.W.nsIn K mainGlobals "int" = some none)
    (z_len : PySem.W.nsIn K mainGlobals "len" = some none)
    (z_list : PySem.W.nsIn K mainGlobals "list" = some none)
    (z_abs : PySem.W.nsIn K mainGlobals "abs" = some none)
    (z_range : PySem.W.nsIn K mainGlobals "range" = some none)
    (z_min : PySem.W.nsIn K mainGlobals "min" = some none)
    (z_max : PySem.W.nsIn K mainGlobals "max" = some none)
    (z_isinstance : PySem.W.nsIn K mainGlobals "isinstance" = some none)
    (z_bool : PySem.W.nsIn K mainGlobals "bool" = some none)
    (z_str : PySem.W.nsIn K mainGlobals "str" = some none)
    (z_dict : PySem.W.nsIn K mainGlobals "dict" = some none)
    (z_tuple : PySem.W.nsIn K mainGlobals "tuple" = some none)
    (z_divmod : PySem.W.nsIn K mainGlobals "divmod" = some none)
    (z_reversed : PySem.W.nsIn K mainGlobals "reversed" = some none)
    (z_all : PySem.W.nsIn K mainGlobals "all" = some none)
    (z_gcd : PySem.W.nsIn K mainGlobals "gcd" = some (some (.builtin "math.gcd")))
    (aM : PySem.W.nsIn K mainGlobals "MOST_TERMS" = some (some (.int 400 tkM)))
    (z_VE : PySem.W.nsIn K mainGlobals "ValueError" = some none)
    (aC : PySem.W.nsIn K mainGlobals "BadValue" = some (some (.ref C)))
    (aS : PySem.W.nsIn K mainGlobals "SkyError" = some (some (.ref S)))
    (xL : K.lookup C = some (excClassObj nm qn C N0 bs bm true sn sub ab col dd m0 m1 m2 m3 m5 "ValueError.__new__"))
    (hbm : PySem.HandSPX.refsVE bm = true)
    (sa : PySem.W.findIn K (.ref C) "__setattr__" = some (some (.builtin "object.__setattr__")))
    (ga : PySem.W.findIn K (.ref C) "__getattribute__" = some (some (.builtin "BaseException.__getattribute__")))
    (gg : PySem.W.findIn K (.ref C) "__getattr__" = some none)
    (gc : PySem.W.findIn K (.ref C) "__class__" = some (some (.builtin "object.__class__")))
    (nw : PySem.W.findIn K (.ref C) "what" = some none)
    (aI : PySem.W.findIn K (.ref C) "__init__" = some (some (.ref fI)))
    (tI : PySem.W.typeIn K (.ref fI) = some (.type "function"))
    (lI : K.lookup fI = some ⟨ocI, odI, .func (PySem.W.fnOf "__init__" "BadValue.__init__" (defArgs sInitB) (defBody sInitB) (defScope sInitB) .none kVI dcI pmI anI cdI ctI), slI⟩)
    (cI : PySem.W.codeIn K cdI "BadValue.__init__" = true)
    (kI : PySem.W.keepIn K (.ref fI) = true)
    (kC : PySem.W.keepIn K (.ref C) = true)
    (eC : PySem.W.subIn K (.ref C) (.type "BaseException") = some true)
    (tC : PySem.W.typeIn K (.ref C) = some (.type "type"))
    (hC : PySem.W.hasDictIn K C = true)
    (mC : PySem.W.mroIn K C (.type "object") = some true)
    (vC : PySem.W.subIn K (.ref C) (.type "ValueError") = some true)
    (spc : PySem.W.specialIn K (.builtin "object.__class__") "__get__" = some (some (.builtin "getset_descriptor.__get__")))
    (tkc : PySem.W.takesIn K (.builtin "object.__class__") = some true)
    (eS : PySem.W.subIn K (.ref S) (.type "BaseException") = some true)
    (hS : PySem.W.hasDictIn K S = true)
    (tS : PySem.W.typeIn K (.ref S) = some (.type "type"))
    (cS : PySem.W.subIn K (.ref C) (.ref S) = some true)
    (a_Mismatch : PySem.W.nsIn K mainGlobals "Mismatch" = some (some (.ref C_Mismatch)))
    (t_Mismatch : PySem.W.typeIn K (.ref C_Mismatch) = some (.type "type"))
    (h_Mismatch : PySem.W.hasDictIn K C_Mismatch = true)
    (s_Mismatch : PySem.W.subIn K (.ref C) (.ref C_Mismatch) = some false)
    (n_Mismatch : (Value.ref C == Value.ref C_Mismatch) = false)
    (a_Still : PySem.W.nsIn K mainGlobals "Still" = some (some (.ref C_Still)))
    (t_Still : PySem.W.typeIn K (.ref C_Still) = some (.type "type"))
    (h_Still : PySem.W.hasDictIn K C_Still = true)
    (s_Still : PySem.W.subIn K (.ref C) (.ref C_Still) = some false)
    (n_Still : (Value.ref C == Value.ref C_Still) = false)
    (a_Endless : PySem.W.nsIn K mainGlobals "Endless" = some (some (.ref C_Endless)))
    (t_Endless : PySem.W.typeIn K (.ref C_Endless) = some (.type "type"))
    (h_Endless : PySem.W.hasDictIn K C_Endless = true)
    (s_Endless : PySem.W.subIn K (.ref C) (.ref C_Endless) = some false)
    (n_Endless : (Value.ref C == Value.ref C_Endless) = false)
    (a_TooMany : PySem.W.nsIn K mainGlobals "TooMany" = some (some (.ref C_TooMany)))
    (t_TooMany : PySem.W.typeIn K (.ref C_TooMany) = some (.type "type"))
    (h_TooMany : PySem.W.hasDictIn K C_TooMany = true)
    (s_TooMany : PySem.W.subIn K (.ref C) (.ref C_TooMany) = some false)
    (n_TooMany : (Value.ref C == Value.ref C_TooMany) = false)
    (a_NoName : PySem.W.nsIn K mainGlobals "NoName" = some (some (.ref C_NoName)))
    (t_NoName : PySem.W.typeIn K (.ref C_NoName) = some (.type "type"))
    (h_NoName : PySem.W.hasDictIn K C_NoName = true)
    (s_NoName : PySem.W.subIn K (.ref C) (.ref C_NoName) = some false)
    (n_NoName : (Value.ref C == Value.ref C_NoName) = false)
    (a_Taken : PySem.W.nsIn K mainGlobals "Taken" = some (some (.ref C_Taken)))
    (t_Taken : PySem.W.typeIn K (.ref C_Taken) = some (.type "type"))
    (h_Taken : PySem.W.hasDictIn K C_Taken = true)
    (s_Taken : PySem.W.subIn K (.ref C) (.ref C_Taken) = some false)
    (n_Taken : (Value.ref C == Value.ref C_Taken) = false)
    (a_Locked : PySem.W.nsIn K mainGlobals "Locked" = some (some (.ref C_Locked)))
    (t_Locked : PySem.W.typeIn K (.ref C_Locked) = some (.type "type"))
    (h_Locked : PySem.W.hasDictIn K C_Locked = true)
    (s_Locked : PySem.W.subIn K (.ref C) (.ref C_Locked) = some false)
    (n_Locked : (Value.ref C == Value.ref C_Locked) = false)
    (a_Looped : PySem.W.nsIn K mainGlobals "Looped" = some (some (.ref C_Looped)))
    (t_Looped : PySem.W.typeIn K (.ref C_Looped) = some (.type "type"))
    (h_Looped : PySem.W.hasDictIn K C_Looped = true)
    (s_Looped : PySem.W.subIn K (.ref C) (.ref C_Looped) = some false)
    (n_Looped : (Value.ref C == Value.ref C_Looped) = false)
    (a_Broken : PySem.W.nsIn K mainGlobals "Broken" = some (some (.ref C_Broken)))
    (t_Broken : PySem.W.typeIn K (.ref C_Broken) = some (.type "type"))
    (h_Broken : PySem.W.hasDictIn K C_Broken = true)
    (s_Broken : PySem.W.subIn K (.ref C) (.ref C_Broken) = some false)
    (n_Broken : (Value.ref C == Value.ref C_Broken) = false)
    (a_ReadError : PySem.W.nsIn K mainGlobals "ReadError" = some (some (.ref C_ReadError)))
    (t_ReadError : PySem.W.typeIn K (.ref C_ReadError) = some (.type "type"))
    (h_ReadError : PySem.W.hasDictIn K C_ReadError = true)
    (s_ReadError : PySem.W.subIn K (.ref C) (.ref C_ReadError) = some false)
    (n_ReadError : (Value.ref C == Value.ref C_ReadError) = false)
    (aA : PySem.W.nsIn K mainGlobals "_law_told" = some (some (.ref gA)))
    (lA : K.lookup gA = some ⟨ocA, odA, .func (PySem.W.fnOf "_law_told" "_law_told" (defArgs sTold) (defBody sTold) (defScope sTold) .none kVA dcA pmA anA cdA ctA), slA⟩)
    (cA : PySem.W.codeIn K cdA "_law_told" = true)
    (kA : PySem.W.keepIn K (.ref gA) = true)
    (aR : PySem.W.nsIn K mainGlobals "_law_refused" = some (some (.ref fR)))
    (lR : K.lookup fR = some ⟨ocR, odR, .func (PySem.W.fnOf "_law_refused" "_law_refused" (defArgs sRefused) (defBody sRefused) (defScope sRefused) .none kVR dcR pmR anR (.ref cR) ctR), slR⟩)
    (cdR : PySem.W.codeIn K (.ref cR) "_law_refused" = true)
    (kR : PySem.W.keepIn K (.ref fR) = true)
    (aL : PySem.W.nsIn K mainGlobals "law" = some (some (.ref fL)))
    (lL : K.lookup fL = some ⟨ocL, odL, .func (PySem.W.fnOf "law" "law" (defArgs sLaw) (defBody sLaw) (defScope sLaw) .none kVL dcL pmL anL cdvL ctL), slL⟩)
    (cL : PySem.W.codeIn K cdvL "law" = true)
    (kL : PySem.W.keepIn K (.ref fL) = true) :
    ∃ fd : FuncData, (∀ (s : Shared) (v : Value), BindsTo s fd ⟨[v], []⟩ [("_law_script", v)]) ∧ ∀ base : Heap, K.In base → base.Ns mainGlobals mg → ∀ Pt : Addr, LamX.TabB base mg cR Pt → FnOk P w K mg base CX0 9 fa fd ["_law_script"] (spLaw K Pt) := by
  have DRequire : Dfn K mg "require" sRequire ["well_formed", "what"] := dfn_mk X G a0 l0 c0 k0 fun _ _ _ _ _ _ us hl => match us, hl with | [_, _], _ => rfl
  have DWhole : Dfn K mg "is_whole" sWhole ["value"] := dfn_mk X G a1 l1 c1 k1 fun _ _ _ _ _ _ us hl => match us, hl with | [_], _ => rfl
  have DIsFraction : Dfn K mg "is_fraction" sIsFraction ["value"] := dfn_mk X G a2 l2 c2 k2 fun _ _ _ _ _ _ us hl => match us, hl with | [_], _ => rfl
  have DQuots : Dfn K mg "quotients" sQuots ["value"] := dfn_mk X G a3 l3 c3 k3 fun _ _ _ _ _ _ us hl => match us, hl with | [_], _ => rfl
  have DAdv : Dfn K mg "_advanced" sAdv ["before", "last", "steps"] := dfn_mk X G a4 l4 c4 k4 fun _ _ _ _ _ _ us hl => match us, hl with | [_, _, _], _ => rfl
  have DConv : Dfn K mg "convergents" sConv ["value"] := dfn_mk X G a5 l5 c5 k5 fun _ _ _ _ _ _ us hl => match us, hl with | [_], _ => rfl
  have DListA : Dfn K mg "is_list_within" sListA ["value", "least", "most"] := dfn_mk X G a6 l6 c6 k6 fun _ _ _ _ _ _ us hl => match us, hl with | [_, _, _], _ => rfl
  have DTerms : Dfn K mg "_are_terms" sTerms ["value"] := dfn_mk X G a7 l7 c7 k7 fun _ _ _ _ _ _ us hl => match us, hl with | [_], _ => rfl
  have DVal : Dfn K mg "value_of" sVal ["terms"] := dfn_mk X G a8 l8 c8 k8 fun _ _ _ _ _ _ us hl => match us, hl with | [_], _ => rfl
  have DMixed : Dfn K mg "_law_mixed" sMixed ["_law_number", "_law_turn"] := dfn_mk X G a9 l9 c9 k9 fun _ _ _ _ _ _ us hl => match us, hl with | [_, _], _ => rfl
  have DStore : Dfn K mg "_law_store" sStore ["_law_script"] := dfn_mk X G a10 l10 c10 k10 fun _ _ _ _ _ _ us hl => match us, hl with | [_], _ => rfl
  have DTake : Dfn K mg "_law_take" sTake ["_law_store_here", "_law_many"] := dfn_mk X G a11 l11 c11 k11 fun _ _ _ _ _ _ us hl => match us, hl with | [_, _], _ => rfl
  have DPick : Dfn K mg "_law_pick" sPick ["_law_store_here", "_law_row"] := dfn_mk X G a12 l12 c12 k12 fun _ _ _ _ _ _ us hl => match us, hl with | [_, _], _ => rfl
  have DGcd : Dfn K mg "_law_gcd" sGcd ["_law_left", "_law_right_here"] := dfn_mk X G a13 l13 c13 k13 fun _ _ _ _ _ _ us hl => match us, hl with | [_, _], _ => rfl
  have DLowest : Dfn K mg "_law_lowest" sLowest ["_law_top", "_law_bottom"] := dfn_mk X G a14 l14 c14 k14 fun _ _ _ _ _ _ us hl => match us, hl with | [_, _], _ => rfl
  have DFits : Dfn K mg "_law_fits" sFits ["_law_thing"] := dfn_mk X G a15 l15 c15 k15 fun _ _ _ _ _ _ us hl => match us, hl with | [_], _ => rfl
  have DLWhole : Dfn K mg "_law_is_whole" sLWhole ["_law_told_here"] := dfn_mk X G a16 l16 c16 k16 fun _ _ _ _ _ _ us hl => match us, hl with | [_], _ => rfl
  have DLInt : Dfn K mg "_law_whole" sLInt ["_law_store_here", "_law_reach"] := dfn_mk X G a17 l17 c17 k17 fun _ _ _ _ _ _ us hl => match us, hl with | [_, _], _ => rfl
  have DGreat : Dfn K mg "_law_great" sGreat ["_law_store_here"] := dfn_mk X G a18 l18 c18 k18 fun _ _ _ _ _ _ us hl => match us, hl with | [_], _ => rfl
  have DDFrac : Dfn K mg "_law_frac" sDFrac ["_law_store_here"] := dfn_mk X G a19 l19 c19 k19 fun _ _ _ _ _ _ us hl => match us, hl with | [_], _ => rfl
  have DDFracW : Dfn K mg "_law_frac_wide" sDFracW ["_law_store_here"] := dfn_mk X G a20 l20 c20 k20 fun _ _ _ _ _ _ us hl => match us, hl with | [_], _ => rfl
  have DBadFrac : Dfn K mg "_law_bad_frac" sBadFrac ["_law_store_here"] := dfn_mk X G a21 l21 c21 k21 fun _ _ _ _ _ _ us hl => match us, hl with | [_], _ => rfl
  have DAlike : Dfn K mg "_law_alike" sAlike ["_law_told_here", "_law_due"] := dfn_mk X G a22 l22 c22 k22 fun _ _ _ _ _ _ us hl => match us, hl with | [_, _], _ => rfl
  have DSize : Dfn K mg "_law_size" sSize ["_law_store_here", "_law_top"] := dfn_mk X G a23 l23 c23 k23 fun _ _ _ _ _ _ us hl => match us, hl with | [_, _], _ => rfl
  have DWith : Dfn K mg "_law_with" sWith ["_law_store_here", "_law_row", "_law_item"] := dfn_mk X G a24 l24 c24 k24 fun _ _ _ _ _ _ us hl => match us, hl with | [_, _, _], _ => rfl
  have DQT : Dfn K mg "_law_quotient_terms" sQT ["_law_store_here"] := dfn_mk X G a25 l25 c25 k25 fun _ _ _ _ _ _ us hl => match us, hl with | [_], _ => rfl
  have DValues : Dfn K mg "_law_values" sValues ["_law_terms"] := dfn_mk X G a26 l26 c26 k26 fun _ _ _ _ _ _ us hl => match us, hl with | [_], _ => rfl
  have DLRight : Dfn K mg "_law_right" sLRight ["_law_told_here", "_law_value"] := dfn_mk X G a27 l27 c27 k27 fun _ _ _ _ _ _ us hl => match us, hl with | [_, _], _ => rfl
  have DParted : Dfn K mg "_law_parted" sParted ["_law_store_here", "_law_value"] := dfn_mk X G a28 l28 c28 k28 fun _ _ _ _ _ _ us hl => match us, hl with | [_, _], _ => rfl
  have DJoined : Dfn K mg "_law_joined_up" sJoined ["_law_terms"] := dfn_mk X G a29 l29 c29 k29 fun _ _ _ _ _ _ us hl => match us, hl with | [_], _ => rfl
  have T : Bt K mg := ⟨PySem.W.mg_none_of X G z_int, PySem.W.mg_none_of X G z_len, PySem.W.mg_none_of X G z_list, PySem.W.mg_none_of X G z_abs, PySem.W.mg_none_of X G z_range, PySem.W.mg_none_of X G z_min, PySem.W.mg_none_of X G z_max, PySem.W.mg_none_of X G z_isinstance, PySem.W.mg_none_of X G z_bool, PySem.W.mg_none_of X G z_str, PySem.W.mg_none_of X G z_dict, PySem.W.mg_none_of X G z_tuple, PySem.W.mg_of X G z_gcd⟩
  have FI := fun_mk (st := sInitB) lI cI kI
  have bI := FI.binds (ps := ["self", "what"]) fun _ _ _ _ _ _ us hl => match us, hl with | [_, _], _ => rfl
  have B : BvT K mg C := ⟨PySem.W.mg_of X G aC, ⟨⟨nm, qn, N0, bs, bm, sn, sub, ab, col, dd, m0, m1, m2, m3, m5, xL, hbm⟩, sa, eC, tC, kC⟩, nw, fI, _, aI, tI, FI, bI⟩
  have icC : (PySem.W.clsIn K C).isSome = true := by
    obtain ⟨cd, hc, _⟩ := PySem.W.any_some hC
    rw [hc]; rfl
  let A : String → Addr := fun n => if n = "Mismatch" then C_Mismatch else if n = "Still" then C_Still else if n = "Endless" then C_Endless else if n = "TooMany" then C_TooMany else if n = "NoName" then C_NoName else if n = "Taken" then C_Taken else if n = "Locked" then C_Locked else if n = "Looped" then C_Looped else if n = "Broken" then C_Broken else if n = "ReadError" then C_ReadError else C
  have kit : ∀ D : Addr, PySem.W.typeIn K (.ref D) = some (.type "type") → PySem.W.hasDictIn K D = true → PySem.W.subIn K (.ref C) (.ref D) = some false → (Value.ref C == Value.ref D) = false → PySem.W.kitOne K (.ref C) (.ref D) = some false := fun D h1 h2 h3 h4 => by
    obtain ⟨cd, hc, _⟩ := PySem.W.any_some h2
    unfold PySem.W.kitOne PySem.W.kitCls
    rw [h4, if_neg Bool.false_ne_true]
    show (if ((PySem.W.clsIn K D).isSome && PySem.W.typeIn K (.ref D) == some (.type "type")) = true then PySem.W.subIn K (.ref C) (.ref D) else none) = some false
    rw [hc, h1, if_pos (by rfl)]
    exact h3
  have AT : AskT K mg C S A := {
    sky := PySem.W.mg_of X G aS
    exm := PySem.W.exm_ref eS hS tS cS
    g := fun n hn => by
      simp only [List.mem_cons, List.not_mem_nil, or_false] at hn
      rcases hn with rfl | rfl | rfl | rfl | rfl | rfl | rfl | rfl | rfl | rfl | rfl
      · exact PySem.W.mg_of X G aC
      · exact PySem.W.mg_of X G a_Mismatch
      · exact PySem.W.mg_of X G a_Still
      · exact PySem.W.mg_of X G a_Endless
      · exact PySem.W.mg_of X G a_TooMany
      · exact PySem.W.mg_of X G a_NoName
      · exact PySem.W.mg_of X G a_Taken
      · exact PySem.W.mg_of X G a_Locked
      · exact PySem.W.mg_of X G a_Looped
      · exact PySem.W.mg_of X G a_Broken
      · exact PySem.W.mg_of X G a_ReadError
    k := fun n hn => by
      simp only [List.mem_cons, List.not_mem_nil, or_false] at hn
      rcases hn with rfl | rfl | rfl | rfl | rfl | rfl | rfl | rfl | rfl | rfl | rfl
      · show PySem.W.kitOne K (.ref C) (.ref C) = some true
        unfold PySem.W.kitOne
        rw [if_pos (by simp)]
      · exact kit C_Mismatch t_Mismatch h_Mismatch s_Mismatch n_Mismatch
      · exact kit C_Still t_Still h_Still s_Still n_Still
      · exact kit C_Endless t_Endless h_Endless s_Endless n_Endless
      · exact kit C_TooMany t_TooMany h_TooMany s_TooMany n_TooMany
      · exact kit C_NoName t_NoName h_NoName s_NoName n_NoName
      · exact kit C_Taken t_Taken h_Taken s_Taken n_Taken
      · exact kit C_Locked t_Locked h_Locked s_Locked n_Locked
      · exact kit C_Looped t_Looped h_Looped s_Looped n_Looped
      · exact kit C_Broken t_Broken h_Broken s_Broken n_Broken
      · exact kit C_ReadError t_ReadError h_ReadError s_ReadError n_ReadError
    ve := by
      unfold PySem.W.kitOne PySem.W.kitCls
      rw [if_neg (by simp)]
      show (if PySem.W.kitMeta "ValueError" = true then PySem.W.subIn K (.ref C) (.type "ValueError") else none) = some true
      rw [if_pos (by decide +kernel)]
      exact vC
    b_VE := PySem.W.mg_none_of X G z_VE
    hcl := icC
    hga := ga
    hgt := gg
    hsub := eC
    ha := gc
    hn := spc
    htk := tkc
    hm := mC
    xf := ⟨ga, gg, eC, hC⟩ }
  have FA := fun_mk (st := sTold) lA cA kA
  have AS : AskD K mg gA ocA odA .none kVA dcA pmA anA cdA ctA slA := ⟨PySem.W.mg_of X G aA, kA, lA, cA, FA.binds (ps := ["_law_call"]) fun _ _ _ _ _ _ us hl => match us, hl with | [_], _ => rfl⟩
  have FR := fun_mk (st := sRefused) lR cdR kR
  have bR := FR.binds (ps := ["_law_store_here", "_law_terms"]) fun _ _ _ _ _ _ us hl => match us, hl with | [_, _], _ => rfl
  have FL := fun_mk (st := sLaw) lL cL kL
  refine ⟨PySem.W.fnOf "law" "law" (defArgs sLaw) (defBody sLaw) (defScope sLaw) .none kVL dcL pmL anL cdvL ctL, fun s v => .of_eq rfl, fun base _ _ Pt TB => ?_⟩
  have e := hfa.symm.trans (PySem.W.mg_of X G aL)
  cases e
  have kMixed := k_Mixed (P := P) (w := w) (base := base) T DMixed
  have kTake := k_Take T DTake kMixed
  have kPick := k_Pick T DPick kTake
  have kGcd := k_Gcd (P := P) (w := w) (base := base) T DGcd
  have kLowest := k_Lowest T DLowest kGcd
  have kRequire := k_Require (P := P) (w := w) (base := base) T DRequire
  have kWhole := k_Whole (P := P) (w := w) (base := base) T DWhole
  have kLWhole := k_LWhole (P := P) (w := w) (base := base) T DLWhole
  have kIsFraction := k_IsFraction T DIsFraction kWhole
  have kLInt := k_LInt T DLInt kTake
  have kGreat := k_Great T DGreat kTake
  have kDFrac := k_DFrac T DDFrac kTake kLowest
  have kDFracW := k_DFracW T DDFracW kTake kLowest kGreat kLInt kDFrac
  have kStore := k_Store (P := P) (w := w) (base := base) T DStore
  have kBadF := k_BadFrac T DBadFrac kTake kDFrac kPick
  have kQuots := k_Quots (PySem.W.mg_none_of X G z_divmod) T DQuots kRequire kIsFraction
  have kAdv := k_Adv (P := P) (w := w) (base := base) T DAdv
  have kConv := k_Conv T DConv kRequire kIsFraction kQuots kAdv
  have kList := k_ListA (P := P) (w := w) (base := base) T DListA
  have kTerms := k_Terms (PySem.W.mg_none_of X G z_all) (PySem.W.mg_of X G aM) T DTerms kList kWhole
  have kVal := k_Val (PySem.W.mg_none_of X G z_reversed) T DVal kRequire kTerms
  have kAlike := k_alike (P := P) (w := w) (base := base) T DAlike 3
  have kFits0 : Kn P w K mg base 0 "_law_fits" ["_law_thing"] (spFits K 0) := Kn.none DFits
  have kFits1 := k_Fits 0 T DFits kFits0
  have kFits := k_Fits 1 T DFits kFits1
  have kSize := k_Size T DSize kTake
  have kWith := k_With T DWith kTake
  have kQT := k_QT T DQT kSize kTake kLInt kGreat
  have kValues := k_Values (P := P) (w := w) (base := base) T DValues
  have kLRight := k_LRight T DLRight kLWhole kValues
  have kParted := k_Parted T DParted kQuots kLRight kValues kTake kAlike kConv kVal
  have kJoined := k_Joined T DJoined kVal kValues kAlike kQuots kConv
  have xReq := kx_Require (P := P) (w := w) (base := base) B DRequire
  have xQuots := kx_Quots B DQuots xReq kIsFraction
  have xConv := kx_Conv B DConv xReq kIsFraction
  have xVal := kx_Val B DVal xReq kTerms
  have kRef : Kn P w K mg base 8 "_law_refused" ["_law_store_here", "_law_terms"] (spRefused K Pt) := ⟨fR, _, PySem.W.mg_of X G aR, kR, bR, ok_refused T B AT AS lR cdR TB xQuots xConv xVal kTake kBadF kPick kWith kValues kVal kAlike⟩
  exact ok_law FL T kStore kQT kValues kTake kFits kDFracW kParted kJoined kRef
end My

namespace My
open PySem PySem.Spec PyProof.Rows L2
/-- the end as the head asks for it -/
theorem law_at {l : PySem.W.OpenLaw} {w : World} {K : PySem.W.Frag} {h : Heap} {mg : Str → Option Value} {fa cR Pt : Addr} (hT : h.get? Pt = some { cls := .none, data := .fields #[] }) (nP : K.lookup Pt = none) (C : PySem.W.CodeHd h cR Pt)
    (R : ∃ fd : FuncData, (∀ (s : Shared) (v : Value), BindsTo s fd ⟨[v], []⟩ [("_law_script", v)]) ∧ ∀ base : Heap, K.In base → base.Ns mainGlobals mg → ∀ Pt : Addr, LamX.TabB base mg cR Pt → FnOk l.prog w K mg base CX0 9 fa fd ["_law_script"] (spLaw K Pt)) :
    LamX.LawAtS l w K CX0 9 63 "_law_script" mg fa h := by
  obtain ⟨fd, hb, F⟩ := R
  have one : ∀ {p : Addr × Addr} {q : Addr × Addr → Prop}, q (cR, Pt) → p ∈ [(cR, Pt)] → q p := fun {p q} h hp => by
    rw [List.mem_singleton] at hp
    rw [hp]
    exact h
  refine ⟨fd, [(cR, Pt)], spLaw K Pt, fun p hp => one (q := fun p => h.get? p.2 = _) hT hp, fun p hp => one (q := fun p => K.lookup p.2 = none) nP hp, fun p hp => one (q := fun p => PySem.W.CodeHd h p.1 p.2) C hp, hb, fun H a ns hl hbits hH hS => ?_, fun base X G TB => F base X G Pt (TB (cR, Pt) (List.mem_singleton.mpr rfl))⟩
  exact ⟨a, ns, rfl, hS, hH (cR, Pt) (List.mem_singleton.mpr rfl), fun _ => rfl⟩
theorem walk_mk {l : PySem.W.OpenLaw} {q : Program} {loose : List Str} {XP : (Str → Option Value) → Heap → Prop} {YP : World → Heap → Prop} {d : DefRec} {K : Params → PySem.W.Frag} (hn : l.most = some 63) (hdf : d.params.defaults = [])
    (hY : ∀ (w : World) (h : Heap), YP w h → (K w.params).In h)
    (F : ∀ (w : World) (mg : Str → Option Value) (fa : Addr) (h : Heap), YP w h → (K w.params).In h → h.Ns mainGlobals mg → mg d.name = some (.ref fa) → LamX.LawAtS l w (K w.params) CX0 9 63 "_law_script" mg fa h) :
    PySem.W.WalkO q loose XP YP l.row.toRowW d [] (fun f vs => PySem.call f vs) :=
  LamX.walk_ofTs (CX := fun _ => CX0) hn (by decide) hdf ⟨rfl, by decide, by decide⟩ hY F fun _ _ _ _ _ z => z
end My
open PySem PySem.W PyProof.Rows
set_option maxRecDepth 100000 in
set_option maxHeartbeats 0 in
theorem PySem.Challenge.cw_wheelsky_k26_quotients_and_convergents_holds : PySem.Challenge.rw_wheelsky_k26_quotients_and_convergents.Holds := by
  w_on; o_law; k_head; (case hw => w_witness2)
  k_fill
  refine My.walk_mk (l := PySem.Challenge.rw_wheelsky_k26_quotients_and_convergents) rfl rfl (fun w h Y => km_in_of Y) ?F
  case F =>
    intro w mg fa h Y KX G hmg
    refine' My.law_at (km_tabs_of Y _ (List.mem_cons_self ..)) ?nP ?cH (My.all_mk KX G hmg ?a0 ?l0 ?c0 ?k0 ?a1 ?l1 ?c1 ?k1 ?a2 ?l2 ?c2 ?k2 ?a3 ?l3 ?c3 ?k3 ?a4 ?l4 ?c4 ?k4 ?a5 ?l5 ?c5 ?k5 ?a6 ?l6 ?c6 ?k6 ?a7 ?l7 ?c7 ?k7 ?a8 ?l8 ?c8 ?k8 ?a9 ?l9 ?c9 ?k9 ?a10 ?l10 ?c10 ?k10 ?a11 ?l11 ?c11 ?k11 ?a12 ?l12 ?c12 ?k12 ?a13 ?l13 ?c13 ?k13 ?a14 ?l14 ?c14 ?k14 ?a15 ?l15 ?c15 ?k15 ?a16 ?l16 ?c16 ?k16 ?a17 ?l17 ?c17 ?k17 ?a18 ?l18 ?c18 ?k18 ?a19 ?l19 ?c19 ?k19 ?a20 ?l20 ?c20 ?k20 ?a21 ?l21 ?c21 ?k21 ?a22 ?l22 ?c22 ?k22 ?a23 ?l23 ?c23 ?k23 ?a24 ?l24 ?c24 ?k24 ?a25 ?l25 ?c25 ?k25 ?a26 ?l26 ?c26 ?k26 ?a27 ?l27 ?c27 ?k27 ?a28 ?l28 ?c28 ?k28 ?a29 ?l29 ?c29 ?k29 ?z_int ?z_len ?z_list ?z_abs ?z_range ?z_min ?z_max ?z_isinstance ?z_bool ?z_str ?z_dict ?z_tuple ?z_divmod ?z_reversed ?z_all ?z_gcd ?aM ?z_VE ?aC ?aS ?xL ?hbm ?sa ?ga ?gg ?gc ?nw ?aI ?tI ?lI ?cI ?kI ?kC ?eC ?tC ?hC ?mC ?vC ?spc ?tkc ?eS ?hS ?tS ?cS ?a_Mismatch ?t_Mismatch ?h_Mismatch ?s_Mismatch ?n_Mismatch ?a_Still ?t_Still ?h_Still ?s_Still ?n_Still ?a_Endless ?t_Endless ?h_Endless ?s_Endless ?n_Endless ?a_TooMany ?t_TooMany ?h_TooMany ?s_TooMany ?n_TooMany ?a_NoName ?t_NoName ?h_NoName ?s_NoName ?n_NoName ?a_Taken ?t_Taken ?h_Taken ?s_Taken ?n_Taken ?a_Locked ?t_Locked ?h_Locked ?s_Locked ?n_Locked ?a_Looped ?t_Looped ?h_Looped ?s_Looped ?n_Looped ?a_Broken ?t_Broken ?h_Broken ?s_Broken ?n_Broken ?a_ReadError ?t_ReadError ?h_ReadError ?s_ReadError ?n_ReadError ?aA ?lA ?cA ?kA ?aR ?lR ?cdR ?kR ?aL ?lL ?cL ?kL)
    (case a0 => k_is); (case l0 => k_is); (case c0 => k_is); (case k0 => k_is); (case a1 => k_is); (case l1 => k_is); (case c1 => k_is); (case k1 => k_is)
    (case a2 => k_is); (case l2 => k_is); (case c2 => k_is); (case k2 => k_is); (case a3 => k_is); (case l3 => k_is); (case c3 => k_is); (case k3 => k_is)
    (case a4 => k_is); (case l4 => k_is); (case c4 => k_is); (case k4 => k_is); (case a5 => k_is); (case l5 => k_is); (case c5 => k_is); (case k5 => k_is)
    (case a6 => k_is); (case l6 => k_is); (case c6 => k_is); (case k6 => k_is); (case a7 => k_is); (case l7 => k_is); (case c7 => k_is); (case k7 => k_is)
    (case a8 => k_is); (case l8 => k_is); (case c8 => k_is); (case k8 => k_is); (case a9 => k_is); (case l9 => k_is); (case c9 => k_is); (case k9 => k_is)
    (case a10 => k_is); (case l10 => k_is); (case c10 => k_is); (case k10 => k_is); (case a11 => k_is); (case l11 => k_is); (case c11 => k_is); (case k11 => k_is)
    (case a12 => k_is); (case l12 => k_is); (case c12 => k_is); (case k12 => k_is); (case a13 => k_is); (case l13 => k_is); (case c13 => k_is); (case k13 => k_is)
    (case a14 => k_is); (case l14 => k_is); (case c14 => k_is); (case k14 => k_is); (case a15 => k_is); (case l15 => k_is); (case c15 => k_is); (case k15 => k_is)
    (case a16 => k_is); (case l16 => k_is); (case c16 => k_is); (case k16 => k_is); (case a17 => k_is); (case l17 => k_is); (case c17 => k_is); (case k17 => k_is)
    (case a18 => k_is); (case l18 => k_is); (case c18 => k_is); (case k18 => k_is); (case a19 => k_is); (case l19 => k_is); (case c19 => k_is); (case k19 => k_is)
    (case a20 => k_is); (case l20 => k_is); (case c20 => k_is); (case k20 => k_is); (case a21 => k_is); (case l21 => k_is); (case c21 => k_is); (case k21 => k_is)
    (case a22 => k_is); (case l22 => k_is); (case c22 => k_is); (case k22 => k_is); (case a23 => k_is); (case l23 => k_is); (case c23 => k_is); (case k23 => k_is)
    (case a24 => k_is); (case l24 => k_is); (case c24 => k_is); (case k24 => k_is); (case a25 => k_is); (case l25 => k_is); (case c25 => k_is); (case k25 => k_is)
    (case a26 => k_is); (case l26 => k_is); (case c26 => k_is); (case k26 => k_is); (case a27 => k_is); (case l27 => k_is); (case c27 => k_is); (case k27 => k_is)
    (case a28 => k_is); (case l28 => k_is); (case c28 => k_is); (case k28 => k_is); (case a29 => k_is); (case l29 => k_is); (case c29 => k_is); (case k29 => k_is)
    (case z_int => k_is); (case z_len => k_is); (case z_list => k_is); (case z_abs => k_is); (case z_range => k_is); (case z_min => k_is); (case z_max => k_is); (case z_isinstance => k_is)
    (case z_bool => k_is); (case z_str => k_is); (case z_dict => k_is); (case z_tuple => k_is); (case z_divmod => k_is); (case z_reversed => k_is); (case z_all => k_is); (case z_gcd => k_is)
    (case aM => k_is); (case z_VE => k_is); (case aC => k_is); (case aS => k_is); (case xL => k_is); (case hbm => decide +kernel); (case sa => k_is); (case ga => k_is)
    (case gg => k_is); (case gc => k_is); (case nw => k_is); (case aI => k_is); (case tI => k_is); (case lI => k_is); (case cI => k_is); (case kI => k_is)
    (case kC => k_is); (case eC => k_is); (case tC => k_is); (case hC => k_is); (case mC => k_is); (case vC => k_is); (case spc => k_is); (case tkc => k_is)
    (case eS => k_is); (case hS => k_is); (case tS => k_is); (case cS => k_is); (case a_Mismatch => k_is); (case t_Mismatch => k_is); (case h_Mismatch => k_is); (case s_Mismatch => k_is)
    (case n_Mismatch => decide +kernel); (case a_Still => k_is); (case t_Still => k_is); (case h_Still => k_is); (case s_Still => k_is); (case n_Still => decide +kernel); (case a_Endless => k_is); (case t_Endless => k_is)
    (case h_Endless => k_is); (case s_Endless => k_is); (case n_Endless => decide +kernel); (case a_TooMany => k_is); (case t_TooMany => k_is); (case h_TooMany => k_is); (case s_TooMany => k_is); (case n_TooMany => decide +kernel)
    (case a_NoName => k_is); (case t_NoName => k_is); (case h_NoName => k_is); (case s_NoName => k_is); (case n_NoName => decide +kernel); (case a_Taken => k_is); (case t_Taken => k_is); (case h_Taken => k_is)
    (case s_Taken => k_is); (case n_Taken => decide +kernel); (case a_Locked => k_is); (case t_Locked => k_is); (case h_Locked => k_is); (case s_Locked => k_is); (case n_Locked => decide +kernel); (case a_Looped => k_is)
    (case t_Looped => k_is); (case h_Looped => k_is); (case s_Looped => k_is); (case n_Looped => decide +kernel); (case a_Broken => k_is); (case t_Broken => k_is); (case h_Broken => k_is); (case s_Broken => k_is)
    (case n_Broken => decide +kernel); (case a_ReadError => k_is); (case t_ReadError => k_is); (case h_ReadError => k_is); (case s_ReadError => k_is); (case n_ReadError => decide +kernel); (case aA => k_is); (case lA => k_is)
    (case cA => k_is); (case kA => k_is); (case aR => k_is); (case lR => k_is); (case cdR => k_is); (case kR => k_is); (case aL => k_is); (case lL => k_is)
    (case cL => k_is); (case kL => k_is)
    (case cH => exact codeHd_of_K KX (by kernel_rfl))
    (case nP => kernel_rfl)
