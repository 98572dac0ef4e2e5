import PyProof.Rows.All
import Wide.All
import OpenK.AllK
import Wide.FinOn
import HandS.ForMost
import HandS.Exc
import HandS.Codes
import HandS.Wide
import HandS.WideBits
import HandS.Gcd
import HandS.IsInst
import HandS.Defaults
import HandS.Conv
import HandS.Sort
import HandS.List
import KE.KDictList
import HandS.Dict
import HandS.Zip
import KE.KDictZip
import HandS.Style
import HandS.TupAny
import HandS.Lambda
import HandS.Small
import HandS.ForExc
import HandS.ExcInit
import HandS.ExcField
import HandS.ExcIs
import KE.KExcIs
import HandS.CallLocal
import HandS.Comp
import HandS.TupLe
import HandS.ListItems
import HandS.Rev
import HandS.MakeKw
import HandS.MakeKwOnly
import HandS.Walk
import HandS.DeepEq
import HandS.SlotsOwn
import KE.KOpsOwn
import HandS.TupMul
import HandS.EndTab
import PySem.Challenge.RW_wheelsky_k06_mixed_of_values
set_option Elab.async false
set_option linter.all false
set_option maxRecDepth 100000
set_option maxHeartbeats 4000000
namespace My
open PySem PySem.Spec PyProof.Rows L2
def topS (i : Nat) : Stmt := PySem.Challenge.pw_wheelsky_k06_mixed_of_values.main.body.getD i (.Pass ⟨0, 0, 0, 0⟩)
/-! ### a def of the top, and what it is known to keep -/
structure Dfn (K : PySem.W.Frag) (mg : Str → Option Value) (x : Str) (st : Stmt) (ps : List Str) : Prop where
  ex : ∃ f fd, Fun K x x st f fd ∧ mg x = some (.ref f) ∧ Binds K fd ps []
structure Kn (P : Program) (w : World) (K : PySem.W.Frag) (mg : Str → Option Value) (base : Heap) (k : Nat) (x : Str) (ps : List Str) (sp : Sp) : Prop where
  ex : ∃ f fd, mg x = some (.ref f) ∧ PySem.W.keepIn K (.ref f) = true ∧ Binds K fd ps [] ∧ FnOk P w K mg base CX0 k f fd ps sp
theorem Kn.mk' {P : Program} {w : World} {K : PySem.W.Frag} {mg : Str → Option Value} {base : Heap} {x : Str} {st : Stmt} {N ps : List Str} {k : Nat} {sp : Sp} (D : Dfn K mg x st ps) (S : FnScope N ps (defScope st)) (len : ∀ vs H Q E, sp vs H Q E → vs.length = ps.length)
    (hbody : ∀ (f : Addr) (cdv : Value) (A : Around) (outer : List Env) (s : Shared) (H : Hp) (vs : List V) (Q : VK) (E : XK), Room k (A.deeper (envOfC x (defScope st) s.heap.objs.size f cdv)) → sp vs H Q E →
      ∃ t, PSs (cxOf CX0 P w K mg base N x (defScope st) f cdv A outer s H E).nox (defBody st) t ∧ t { nx := fun _ H' => Q .non H', rt := Q } (start N vs) H) : Kn P w K mg base (k + 1) x ps sp := by
  obtain ⟨f, fd, F, m, b⟩ := D.ex
  exact ⟨f, fd, m, F.kp, b, F.ok S len (hbody f)⟩
section
variable {X : Cx}
theorem pe_kn {j k : Nat} {x : Str} {ps : List Str} {sp : Sp} {p pos : Pos} {e : Expr} {es : List Expr} {t : TA} (F : Kn X.prog X.w X.K X.mg X.base k x ps sp) (hr : Room j X.A) (hg : Gl X x) (ha : PA X (e :: es) t) (hj : k ≤ j := by omega)
    (hdb : (x == ("__debug__" : Str)) = false := by decide) (he : starEach (e :: es) X.env = (false, eval e X.env) :: starEach es X.env := by rfl) (hpl : (backTo pos (starEach es X.env)).any (·.1) = false := by rfl) :
    PE X (.Call (.Name x p) (e :: es) [] pos) (tCall sp [] E0 t) := by
  obtain ⟨f, fd, m, kp, b, G⟩ := F.ex
  exact pe_call G (hr.mono hj) hg m kp b .nil pass0 ha hdb he hpl
end
/-! ### heaps -/
/-- all but s stands -/
def Kp (s : Addr) (H H' : Hp) : Prop := (∀ b o, b ≠ s → H b = some o → H' b = some o) ∧ ∀ x r, H s = some (.lst (x :: r)) → ∃ r', H' s = some (.lst (x :: r'))
instance {s : Addr} {H H' : Hp} : CoeFun (Kp s H H') (fun _ => ∀ b o, b ≠ s → H b = some o → H' b = some o) := ⟨fun h => h.1⟩
theorem Kp.refl (s : Addr) (H : Hp) : Kp s H H := ⟨fun _ _ _ e => e, fun _ r e => ⟨r, e⟩⟩
theorem Kp.trans {s : Addr} {H H1 H2 : Hp} (a : Kp s H H1) (b : Kp s H1 H2) : Kp s H H2 := ⟨fun c o n e => b.1 c o n (a.1 c o n e), fun x r e => by
  obtain ⟨r', e'⟩ := a.2 x r e
  exact b.2 x r' e'⟩
theorem Kp.same {s : Addr} {H H1 : Hp} (a : Same H H1) : Kp s H H1 := ⟨fun b o _ e => a b o e, fun x r e => ⟨r, a _ _ e⟩⟩
theorem Same.new {H : Hp} {p : Addr} (h : H p = none) (o : HO) : Same H (upd H p o) := fun b u q => by rw [upd_ne (ne_of_none q h)]; exact q
theorem Kp.put {s : Addr} {H : Hp} {x : V} {r r' : List V} (h : H s = some (.lst (x :: r))) : Kp s H (upd H s (.lst (x :: r'))) := ⟨fun b u n e => by rw [upd_ne n]; exact e, fun y q e => by
  rw [h] at e
  cases e
  exact ⟨r', upd_same⟩⟩
/-- the store of the draws at s -/
def Sr (K : PySem.W.Frag) (H : Hp) (s : Addr) (sc : Addr) (ns : List Int) (i b c d e f : Int) : Prop :=
  H s = some (.lst [.ref sc, .int i, .int b, .int c, .int d, .int e, .int f]) ∧ H sc = some (.lst (ns.map V.int)) ∧ s ≠ sc ∧ 0 ≤ i ∧ K.lookup s = none ∧ K.lookup sc = none
def Sto (K : PySem.W.Frag) (H : Hp) (s : Addr) : Prop := ∃ sc ns i b c d e f, Sr K H s sc ns i b c d e f
theorem Sr.same {K : PySem.W.Frag} {H H1 : Hp} {s sc : Addr} {ns : List Int} {i b c d e f : Int} (h : Sr K H s sc ns i b c d e f) (a : Same H H1) : Sr K H1 s sc ns i b c d e f := ⟨a _ _ h.1, a _ _ h.2.1, h.2.2⟩
theorem Sto.same {K : PySem.W.Frag} {H H1 : Hp} {s : Addr} (h : Sto K H s) (a : Same H H1) : Sto K H1 s := by
  obtain ⟨sc, ns, i, b, c, d, e, f, h⟩ := h
  exact ⟨sc, ns, i, b, c, d, e, f, h.same a⟩
theorem Sr.put {K : PySem.W.Frag} {H : Hp} {s sc : Addr} {ns : List Int} {i b c d e f i' b' c' d' e' f' : Int} (h : Sr K H s sc ns i b c d e f) (hi : 0 ≤ i') :
    Sr K (upd H s (.lst [.ref sc, .int i', .int b', .int c', .int d', .int e', .int f'])) s sc ns i' b' c' d' e' f' :=
  ⟨upd_same, by rw [upd_ne (Ne.symm h.2.2.1)]; exact h.2.1, h.2.2.1, hi, h.2.2.2.2⟩
theorem Kp.seqT {s : Addr} {K : PySem.W.Frag} {H H' : Hp} {a : Addr} {xs ys : List V} (e : Kp s H H') (hs : H s = some (.lst ys)) (h : SqT K H a xs) : SqT K H' a xs := by
  rcases h with (h | ⟨o, h⟩) | h
  · exact .inl (.inl (e _ _ (by rintro rfl; rw [hs] at h; cases h) h))
  · exact .inl (.inr ⟨o, e _ _ (by rintro rfl; rw [hs] at h; cases h) h⟩)
  · exact .inr h
theorem Same.seqT {K : PySem.W.Frag} {H H' : Hp} {a : Addr} {xs : List V} (e : Same H H') (h : SqT K H a xs) : SqT K H' a xs := by
  rcases h with (h | ⟨o, h⟩) | h
  · exact .inl (.inl (e _ _ h))
  · exact .inl (.inr ⟨o, e _ _ h⟩)
  · exact .inr h
/-- the built-ins' names, unbound -/
structure Bt (K : PySem.W.Frag) (mg : Str → Option Value) : Prop where
  b_int : mg "int" = none
  b_len : mg "len" = none
  b_list : mg "list" = none
  b_abs : mg "abs" = none
  b_range : mg "range" = none
  b_min : mg "min" = none
  b_max : mg "max" = none
  b_isinstance : mg "isinstance" = none
  b_bool : mg "bool" = none
  b_str : mg "str" = none
  b_dict : mg "dict" = none
  b_tuple : mg "tuple" = none
  g_gcd : mg "gcd" = some (.builtin "math.gcd")
end My

namespace My
open PySem PySem.Spec PyProof.Rows L2
theorem cx_K {CX : CXT} {P : Program} {w : World} {K : PySem.W.Frag} {mg : Str → Option Value} {base : Heap} {N : List Str} {qual : Str} {scope : Scope} {f : Addr} {cd : Value} {A : Around} {outer : List Env} {s : Shared} {H : Hp} {E : XK} : (cxOf CX P w K mg base N qual scope f cd A outer s H E).K = K := rfl
/-! ### what stands at an address, the written part first -/
def obK (o : Obj) : Option HO := match o.cls, o.data with
  | .type "tuple", .seq its _ => if its.size ≤ sizeLine then (its.toList.mapM absV).map HO.tup else none
  | _, _ => none
def ob (K : PySem.W.Frag) (H : Hp) (a : Addr) : Option HO := match K.lookup a with
  | some o => obK o
  | none => H a
theorem absV_rel {u : Value} {x : V} (h : absV u = some x) : RelV x u := by
  cases u <;> simp only [absV, Option.some.injEq, reduceCtorEq] at h <;> subst h
  all_goals first | exact rfl | exact ⟨_, rfl⟩
theorem absV_all : ∀ {us : List Value} {xs : List V}, us.mapM absV = some xs → Vals xs us
  | [], xs, h => by
    simp at h
    subst h
    exact .nil
  | u :: us, xs, h => by
    rw [List.mapM_cons] at h
    cases e1 : absV u with
    | none => simp [e1] at h
    | some x =>
      cases e2 : us.mapM absV with
      | none => simp [e1, e2] at h
      | some r =>
        simp [e1, e2] at h
        subst h
        exact .cons (absV_rel e1) (absV_all e2)
theorem obK_tup {o : Obj} {z : HO} (h : obK o = some z) : ∃ xs its n, z = .tup xs ∧ o.cls = .type "tuple" ∧ o.data = .seq its n ∧ its.size ≤ sizeLine ∧ Vals xs its.toList := by
  unfold obK at h
  split at h
  · rename_i its n e1 e2
    split at h
    · rename_i hz
      cases e : its.toList.mapM absV with
      | none => rw [e] at h; cases h
      | some xs =>
        rw [e] at h
        exact ⟨xs, its, n, (Option.some.inj h).symm, e1, e2, hz, absV_all e⟩
    · cases h
  · cases h
theorem ob_none {K : PySem.W.Frag} {H : Hp} {a : Addr} (h : K.lookup a = none) : ob K H a = H a := by unfold ob; rw [h]
theorem ob_tup {K : PySem.W.Frag} {H : Hp} {a : Addr} {xs : List V} (h : ob K H a = some (.tup xs)) : SqT K H a xs := by
  unfold ob at h
  split at h
  · rename_i o e
    obtain ⟨ys, its, n, z, h1, h2, h3, h4⟩ := obK_tup h
    cases z
    exact .inr ⟨o, its, n, e, h1, h2, h3, h4⟩
  · exact .inl (.inl h)
theorem ob_H {K : PySem.W.Frag} {H : Hp} {a : Addr} {z : HO} (h : ob K H a = some z) (n : ∀ xs, z ≠ .tup xs) : H a = some z ∧ K.lookup a = none := by
  unfold ob at h
  split at h
  · obtain ⟨ys, its, n', z', _⟩ := obK_tup h
    exact absurd z' (n ys)
  · rename_i e
    exact ⟨h, e⟩
theorem ob_lst {K : PySem.W.Frag} {H : Hp} {a : Addr} {xs : List V} (h : ob K H a = some (.lst xs)) : SqL K H a xs := .of (ob_H h (fun _ z => by cases z)).1
theorem ob_same {K : PySem.W.Frag} {H H' : Hp} {a : Addr} {z : HO} (e : Same H H') (h : ob K H a = some z) : ob K H' a = some z := by
  unfold ob at h ⊢
  split
  · rename_i o q
    rw [q] at h
    exact h
  · rename_i q
    rw [q] at h
    exact e _ _ h
theorem ob_kp {K : PySem.W.Frag} {H H' : Hp} {s a : Addr} {ys : List V} {z : HO} (e : Kp s H H') (hs : H s = some (.lst ys)) (n : ∀ ys, z ≠ .lst ys) (h : ob K H a = some z) : ob K H' a = some z := by
  unfold ob at h ⊢
  split
  · rename_i o q
    rw [q] at h
    exact h
  · rename_i q
    rw [q] at h
    exact e _ _ (by rintro rfl; rw [hs] at h; exact n _ (Option.some.inj h).symm) h
theorem ob_new {K : PySem.W.Frag} {H : Hp} {p : Addr} {o : HO} (k : K.lookup p = none) : ob K (upd H p o) p = some o := by rw [ob_none k, upd_same]
/-- a built-in type's name, of what stands somewhere -/
def tyO : Option HO → Option String
  | some (.tup _) => some "tuple"
  | some (.lst _) => some "list"
  | some (.dK _) => some "dict"
  | _ => none
def tyN (K : PySem.W.Frag) (H : Hp) : V → Option String
  | .non => some "NoneType"
  | .bl _ => some "bool"
  | .int _ => some "int"
  | .str _ => some "str"
  | .ref a => tyO (ob K H a)
  | _ => none
theorem tyO_tup (xs : List V) : tyO (some (.tup xs)) = some "tuple" := rfl
theorem tyO_lst (xs : List V) : tyO (some (.lst xs)) = some "list" := rfl
theorem tyO_dK (xs : List (Key × V)) : tyO (some (.dK xs)) = some "dict" := rfl
theorem tyN_non {K : PySem.W.Frag} {H : Hp} : tyN K H .non = some "NoneType" := rfl
theorem tyN_bl {K : PySem.W.Frag} {H : Hp} (b : Bool) : tyN K H (.bl b) = some "bool" := rfl
theorem tyN_int {K : PySem.W.Frag} {H : Hp} (b : Int) : tyN K H (.int b) = some "int" := rfl
theorem tyN_str {K : PySem.W.Frag} {H : Hp} (b : Str) : tyN K H (.str b) = some "str" := rfl
theorem tyN_ref {K : PySem.W.Frag} {H : Hp} (a : Addr) : tyN K H (.ref a) = tyO (ob K H a) := rfl
theorem tyN_X {K : PySem.W.Frag} {H : Hp} {x : V} {t : String} (h : tyN K H x = some t) : TyX K H x (.type t) := by
  cases x with
  | non => cases h; exact .base .non
  | bl b => cases h; exact .base (.bl b)
  | int i => cases h; exact .base (.int i)
  | str z => cases h; exact .base (.str z)
  | byt _ => cases h
  | flt _ => cases h
  | ty _ => cases h
  | ref a =>
    have h1 : tyO (ob K H a) = some t := h
    cases e : ob K H a with
    | none => rw [e] at h1; cases h1
    | some z =>
      rw [e] at h1
      cases z with
      | tup xs =>
        cases h1
        unfold ob at e
        split at e
        · rename_i o q
          obtain ⟨_, _, _, _, c, _⟩ := obK_tup e
          exact .kTuple q c
        · exact .base (.tup e)
      | lst xs => cases h1; exact .base (.lst (ob_H e (fun _ z => by cases z)).1)
      | dK kvs => cases h1; exact .base (.dK (ob_H e (fun _ z => by cases z)).1)
      | _ => cases h1
/-- isinstance(x, T) by names -/
def isB (a b : String) : Bool := a == b || (a == "bool" && b == "int")
def rIsN (K : PySem.W.Frag) : List V → Hp → VK → Prop := fun xs H Q => ∃ x n, xs = [x, .ty n] ∧ n ∈ ["int", "bool", "str", "list", "tuple", "dict"] ∧ ∃ t, tyN K H x = some t ∧ Q (.bl (isB t n)) H
theorem tyN_mem {K : PySem.W.Frag} {H : Hp} {x : V} {t : String} (h : tyN K H x = some t) : t ∈ ["NoneType", "bool", "int", "str", "tuple", "list", "dict"] := by
  cases x with
  | non => cases h; decide
  | bl b => cases h; decide
  | int i => cases h; decide
  | str z => cases h; decide
  | byt _ => cases h
  | flt _ => cases h
  | ty _ => cases h
  | ref a =>
    have h1 : tyO (ob K H a) = some t := h
    unfold tyO at h1
    split at h1 <;> first | (cases h1; decide) | cases h1
theorem kit_all : ∀ t ∈ ["NoneType", "bool", "int", "str", "tuple", "list", "dict"], ∀ n ∈ ["int", "bool", "str", "list", "tuple", "dict"], kitB t n = some (isB t n) := by decide +kernel
/-- isinstance(x, (T, ..)) -/
def tyNs : List V → Option (List String)
  | [] => some []
  | .ty n :: r => if n ∈ ["int", "bool", "str", "list", "tuple", "dict"] then (tyNs r).map (n :: ·) else none
  | _ :: _ => none
theorem tyNs_of : ∀ {cs : List V} {ns : List String}, tyNs cs = some ns → cs = ns.map V.ty ∧ ∀ n ∈ ns, n ∈ ["int", "bool", "str", "list", "tuple", "dict"]
  | [], ns, h => by cases h; exact ⟨rfl, fun _ z => absurd z (by simp)⟩
  | c :: r, ns, h => by
    cases c with
    | ty n =>
      unfold tyNs at h
      split at h
      · rename_i hn
        cases e : tyNs r with
        | none => rw [e] at h; cases h
        | some ms =>
          rw [e] at h
          cases h
          obtain ⟨h1, h2⟩ := tyNs_of e
          refine ⟨by rw [h1]; rfl, fun m hm => ?_⟩
          rcases List.mem_cons.mp hm with z | z
          · rw [z]; exact hn
          · exact h2 m z
      · cases h
    | _ => cases h
theorem tyNs_lt : tyNs [.ty "list", .ty "tuple"] = some ["list", "tuple"] := by decide
def rIsT (K : PySem.W.Frag) : List V → Hp → VK → Prop := fun xs H Q => ∃ x tp, xs = [x, .ref tp] ∧ ∃ cs, H tp = some (.tup cs) ∧ ∃ ns, tyNs cs = some ns ∧ ∃ t, tyN K H x = some t ∧ Q (.bl (ns.any (isB t))) H
section
variable {X : Cx}
theorem call_isN : CallR X (.builtin "isinstance") (rIsN X.K) := fun pins s σ H xs us Q I r h => by
  obtain ⟨x, n, rfl, hn, t, ht, q⟩ := h
  exact call_isi pins s σ H _ us Q I r ⟨x, .ty n, .type t, .type n, isB t n, rfl, .ty n, tyN_X ht, kit_ty (kit_all t (tyN_mem ht) n hn), q⟩
theorem kitAny_of {K : PySem.W.Frag} {t : String} (ht : t ∈ ["NoneType", "bool", "int", "str", "tuple", "list", "dict"]) : ∀ {ns : List String}, (∀ n ∈ ns, n ∈ ["int", "bool", "str", "list", "tuple", "dict"]) → PySem.W.kitAny K (.type t) (ns.map Value.type) = some (ns.any (isB t))
  | [], _ => rfl
  | n :: ns, h => by
    have e1 : PySem.W.kitOne K (.type t) (.type n) = some (isB t n) := kit_ty (kit_all t ht n (h n List.mem_cons_self))
    have e2 := kitAny_of (K := K) ht (ns := ns) fun m hm => h m (List.mem_cons_of_mem _ hm)
    rw [List.map_cons, List.any_cons]
    unfold PySem.W.kitAny
    rw [e1]
    cases isB t n
    · simpa using e2
    · rfl
theorem clsV_all : ∀ ns : List String, Paired ClsV (ns.map V.ty) (ns.map Value.type)
  | [] => .nil
  | n :: ns => .cons (.ty n) (clsV_all ns)
theorem call_isT : CallR X (.builtin "isinstance") (rIsT X.K) := fun pins s σ H xs us Q I r h => by
  obtain ⟨x, tp, rfl, cs, hT, ns, hns, t, ht, q⟩ := h
  obtain ⟨rfl, hn⟩ := tyNs_of hns
  exact call_isiT pins s σ H _ us Q I r ⟨x, tp, _, .type t, _, _, rfl, hT, clsV_all ns, tyN_X ht, kitAny_of (tyN_mem ht) hn, q⟩
/-- xs[i], t[i] -/
def itsO : Option HO → Option (List V)
  | some (.tup xs) => some xs
  | some (.lst xs) => some xs
  | _ => none
theorem itsO_tup (xs : List V) : itsO (some (.tup xs)) = some xs := rfl
theorem itsO_lst (xs : List V) : itsO (some (.lst xs)) = some xs := rfl
theorem itsO_or {K : PySem.W.Frag} {H : Hp} {a : Addr} {xs : List V} (h : itsO (ob K H a) = some xs) : SqL K H a xs ∨ SqT K H a xs := by
  cases e : ob K H a with
  | none => rw [e] at h; cases h
  | some z =>
    rw [e] at h
    cases z with
    | tup ys => cases h; exact .inr (ob_tup e)
    | lst ys => cases h; exact .inl (ob_lst e)
    | _ => cases h
def rIxA (K : PySem.W.Frag) : R2 := fun x y H Q => ∃ p i, x = .ref p ∧ y = .int i ∧ ∃ xs, itsO (ob K H p) = some xs ∧ ∃ v, atI xs i = some v ∧ Q v H
theorem ix_any : IxR X (rIxA X.K) := fun value slice pins s σ H x y v u Q I rx ry h hs => by
  obtain ⟨p, i, rfl, rfl, xs, hx, w, hw, q⟩ := h
  rcases itsO_or hx with z | z
  · exact ix_list value slice pins s σ H _ _ v u Q I rx ry ⟨p, xs, i, w, rfl, rfl, z, hw, q⟩ hs
  · exact ix_tup value slice pins s σ H _ _ v u Q I rx ry ⟨p, xs, i, w, rfl, rfl, z, hw, q⟩ hs
theorem call_lenA : CallR X (.builtin "len") (fun xs H Q => ∃ p, xs = [.ref p] ∧ ∃ ys, itsO (ob X.K H p) = some ys ∧ Q (.int ys.length) H) := fun pins s σ H xs us Q I r h => by
  obtain ⟨p, rfl, ys, hy, q⟩ := h
  exact call_len_seq pins s σ H _ us Q I r ⟨p, ys, rfl, itsO_or hy, q⟩
/-! new tuples and lists, away from the written part -/
variable {es : List Expr} {t : TA} {pos : Pos}
def tTp (K : PySem.W.Frag) (t : TA) : TE := fun σ H Q => t σ H fun xs H1 => xs.length ≤ sizeLine ∧ ∀ p, H1 p = none → K.lookup p = none → Q (.ref p) (upd H1 p (.tup xs))
def tLs (K : PySem.W.Frag) (t : TA) : TE := fun σ H Q => t σ H fun xs H1 => xs.length ≤ sizeLine ∧ ∀ p, H1 p = none → K.lookup p = none → Q (.ref p) (upd H1 p (.lst xs))
theorem new_K {pins : List (Addr × Obj)} {σ : L2.St} {H : Hp} {s : Shared} (I : Inv X pins σ H s) : X.K.lookup s.heap.objs.size = none := by
  cases e : X.K.lookup s.heap.objs.size with
  | none => rfl
  | some o => exact absurd (Heap.lt_size (I.kIn _ _ e)) (Nat.lt_irrefl _)
theorem pe_tp {x1} (h : PA X es t) : PE X (.Tuple es x1 pos) (tTp X.K t) := by
  refine ⟨fun pins s σ H Q I hq => ?_⟩
  refine wpAny_Tuple_spliced (thn (h.run pos pins s σ H _ I hq) fun us s1 ⟨xs, H1, I1, r, z, q⟩ => ⟨by rw [← r.length]; exact z, ?_⟩)
  have hf : H1 s1.heap.objs.size = none := I1.hok.fresh (Nat.le_refl _)
  refine ⟨.ref s1.heap.objs.size, upd H1 s1.heap.objs.size (.tup xs), I1.laid (t' := s1.toks) (fun b u e => Heap.get?_push_of_some _ e) (Nat.le_refl _) ?_, rfl, q _ hf (new_K I1)⟩
  exact ⟨z, us, r, ⟨_, Heap.get?_push_size _ rfl, rfl, _, rfl⟩⟩
theorem pe_ls (h : PA X es t) : PE X (.List es pos) (tLs X.K t) := by
  refine ⟨fun pins s σ H Q I hq => ?_⟩
  refine wpAny_List_spliced (thn (h.run pos pins s σ H _ I hq) fun us s1 ⟨xs, H1, I1, r, z, q⟩ => ⟨by rw [← r.length]; exact z, ?_⟩)
  have hf : H1 s1.heap.objs.size = none := I1.hok.fresh (Nat.le_refl _)
  refine ⟨.ref s1.heap.objs.size, upd H1 s1.heap.objs.size (.lst xs), I1.laid (t' := s1.toks) (fun b u e => Heap.get?_push_of_some _ e) (Nat.le_refl _) ?_, rfl, q _ hf (new_K I1)⟩
  exact ⟨z, us, 0, r, Heap.get?_push_size _ rfl⟩
end
/-- a, b = t -/
def gTp (K : PySem.W.Frag) (n : Nat) (t : TGs) : TG := fun v σ H Q => ∃ a, v = .ref a ∧ ∃ xs, ob K H a = some (.tup xs) ∧ xs.length = n ∧ t xs σ H Q
theorem pg_tp {X : Cx} {pos : Pos} {es : List Expr} {k : Nat} {t : TGs} (n : Nat) (hc : X.calm = true) (h : PGs X es t) (hn : (assignEach es X.env).length = n := by rfl) (hst : (assignEach es X.env).findIdx? (·.1) = none := by rfl) : PG X (.Tuple es k pos) (gTp X.K n t) :=
  ⟨fun pins s σ H v u Q I r hw => by
    obtain ⟨a, e, xs, hx, hl, q⟩ := hw
    exact (pg_tup (n := n) hc h hn hst).run pins s σ H v u Q I r ⟨a, xs, e, ob_tup hx, hl, q⟩⟩
/-- {} -/
def tDn (K : PySem.W.Frag) : TE := fun _ H Q => ∀ p, H p = none → K.lookup p = none → Q (.ref p) (upd H p (.dK []))
theorem pe_dn {X : Cx} {pos : Pos} : PE X (.Dict [] [] pos) (tDn X.K) := ⟨fun pins s σ H Q I h => by
  refine wpAny_Dict_empty ⟨.ref s.heap.objs.size, upd H s.heap.objs.size (.dK []), ?_, rfl, h _ (I.hok.fresh (Nat.le_refl _)) (new_K I)⟩
  exact I.laid (t' := s.toks) (fun _ _ e => Heap.get?_push_of_some _ e) (Nat.le_refl _) (dk_empty s.heap I.big)⟩
/-! ### loops -/
def ForI (J : It) (g : TG) (tb : TS) (D : Ends) (σ : L2.St) (H : Hp) : Prop := ∃ W : Nat → Nat → L2.St → Hp → Prop, (∃ m, W 0 m σ H) ∧ ∀ i m σ H, W i m σ H →
  (J.stop i H ∧ D.nx σ H) ∨ (J.go i H ∧ ∃ N : L2.St → Hp → Prop, (∀ σ' H', N σ' H' → ∃ m', m' < m ∧ W (i + 1) m' σ' H') ∧ ∀ x H', J.yld i H x H' → g x σ H' fun σ2 H2 => tb { D with nx := N, ct := N, bk := D.nx } σ2 H2)
theorem tFor_eq (wi : TI) (g : TG) (tb : TS) (D : Ends) (σ : L2.St) (H : Hp) : tFor wi g tb D σ H = wi σ H fun J H1 => ForI J g tb D σ H1 := rfl
section
variable {g : TG} {tb : TS} {D : Ends} {σ : L2.St} {H : Hp}
theorem forI_range {lo : Int} {n : Nat} (Pv : Nat → L2.St → Hp → Prop) (h0 : Pv 0 σ H)
    (hs : ∀ i σ H, i < n → Pv i σ H → g (.int (lo + i)) σ H fun σ2 H2 => tb { D with nx := Pv (i + 1), ct := Pv (i + 1), bk := D.nx } σ2 H2) (hd : ∀ σ H, Pv n σ H → D.nx σ H) : ForI (Itr lo n) g tb D σ H := for_range Pv h0 hs hd
theorem forI_list {K : PySem.W.Frag} {a : Addr} {xs : List V} (Pv : Nat → L2.St → Hp → Prop) (h0 : Pv 0 σ H) (hl : ∀ i σ H, i ≤ xs.length → Pv i σ H → SqL K H a xs)
    (hs : ∀ i x σ H, xs[i]? = some x → Pv i σ H → g x σ H fun σ2 H2 => tb { D with nx := Pv (i + 1), ct := Pv (i + 1), bk := D.nx } σ2 H2) (hd : ∀ σ H, Pv xs.length σ H → D.nx σ H) : ForI (Itl K a) g tb D σ H := for_list Pv h0 hl hs hd
theorem forI_tup {K : PySem.W.Frag} {a : Addr} {xs : List V} (Pv : Nat → L2.St → Hp → Prop) (h0 : Pv 0 σ H) (hl : ∀ i σ H, i ≤ xs.length → Pv i σ H → SqT K H a xs)
    (hs : ∀ i x σ H, xs[i]? = some x → Pv i σ H → g x σ H fun σ2 H2 => tb { D with nx := Pv (i + 1), ct := Pv (i + 1), bk := D.nx } σ2 H2) (hd : ∀ σ H, Pv xs.length σ H → D.nx σ H) : ForI (Itt K a) g tb D σ H := for_tup Pv h0 hl hs hd
end
theorem ca_0 : ((0 : Nat) : Int) = 0 := rfl
theorem ca_1 : ((1 : Nat) : Int) = 1 := rfl
theorem ca_2 : ((2 : Nat) : Int) = 2 := rfl
theorem ca_3 : ((3 : Nat) : Int) = 3 := rfl
theorem ca_4 : ((4 : Nat) : Int) = 4 := rfl
theorem ca_5 : ((5 : Nat) : Int) = 5 := rfl
theorem ca_6 : ((6 : Nat) : Int) = 6 := rfl
theorem ca_7 : ((7 : Nat) : Int) = 7 := rfl
theorem ca_8 : ((8 : Nat) : Int) = 8 := rfl
theorem ca_9 : ((9 : Nat) : Int) = 9 := rfl
theorem ca_10 : ((10 : Nat) : Int) = 10 := rfl
theorem ca_11 : ((11 : Nat) : Int) = 11 := rfl
theorem ca_12 : ((12 : Nat) : Int) = 12 := rfl
theorem ca_13 : ((13 : Nat) : Int) = 13 := rfl
theorem ca_14 : ((14 : Nat) : Int) = 14 := rfl
theorem ca_15 : ((15 : Nat) : Int) = 15 := rfl
theorem ca_16 : ((16 : Nat) : Int) = 16 := rfl
theorem ca_17 : ((17 : Nat) : Int) = 17 := rfl
theorem ca_18 : ((18 : Nat) : Int) = 18 := rfl
theorem ca_19 : ((19 : Nat) : Int) = 19 := rfl
theorem ca_20 : ((20 : Nat) : Int) = 20 := rfl
theorem ca_21 : ((21 : Nat) : Int) = 21 := rfl
theorem ca_22 : ((22 : Nat) : Int) = 22 := rfl
theorem ca_23 : ((23 : Nat) : Int) = 23 := rfl
theorem ca_24 : ((24 : Nat) : Int) = 24 := rfl
theorem ca_25 : ((25 : Nat) : Int) = 25 := rfl
theorem ca_26 : ((26 : Nat) : Int) = 26 := rfl
theorem ca_27 : ((27 : Nat) : Int) = 27 := rfl
theorem ca_28 : ((28 : Nat) : Int) = 28 := rfl
theorem ca_29 : ((29 : Nat) : Int) = 29 := rfl
theorem ca_30 : ((30 : Nat) : Int) = 30 := rfl
theorem nat10 : (10 : Int).natAbs = 10 := rfl
/-- list(xs), away from the written part -/
theorem call_listK {X : Cx} : CallR X (.type "list") (fun xs H Q => ∃ p, xs = [.ref p] ∧ ∃ ys, (SqL X.K H p ys ∨ SqT X.K H p ys) ∧ ∀ l, H l = none → X.K.lookup l = none → Q (.ref l) (upd H l (.lst ys))) := fun pins s σ H xs us Q I r h => by
  obtain ⟨p, e0, ys, hy, k⟩ := h
  subst e0
  obtain ⟨u, e1, ru⟩ := vals1 r
  subst e1
  cases ru
  have laid (its : List Value) (rv : Vals ys its) (hz : ys.length ≤ sizeLine) (hh : Heap) (cap : Nat) (kp : ∀ b o, s.heap.get? b = some o → hh.get? b = some o)
      (e : hh.get? s.heap.objs.size = some { cls := .type "list", dict := none, data := .seq its.toArray cap, slots := #[] }) : EP X pins σ Q (.ref s.heap.objs.size) { s with heap := hh } := by
    have ok : ObjOk X.prog X.w (upd H s.heap.objs.size (.lst ys)) hh s.heap.objs.size (.lst ys) := ⟨hz, its, cap, rv, e⟩
    exact ⟨.ref s.heap.objs.size, _, I.laid (t' := s.toks) kp (Nat.le_refl _) ok, rfl, k _ (I.hok.fresh (Nat.le_refl _)) (new_K I)⟩
  cases hy with
  | inl hy =>
    obtain ⟨its, rv, pl, hz⟩ := I.list hy
    obtain ⟨o, ho, hc, n, hd⟩ := pl.isList
    have hl := rv.length
    exact call_list_seq p (.inl rfl) ho hc hd (laid its rv hz) (by simp only [List.size_toArray]; omega)
  | inr hy =>
    obtain ⟨its, rv, pl, hz⟩ := I.tuple hy
    obtain ⟨o, ho, hc, n, hd⟩ := pl
    have hl := rv.length
    exact call_list_seq p (.inr rfl) ho hc hd (laid its rv hz) (by simp only [List.size_toArray]; omega)
/-- xs[i] = v -/
def setI (xs : List V) (i : Int) (v : V) : Option (List V) := (ixN xs.length i).map fun j => xs.set j v
theorem setI_nat {xs ys : List V} {j : Nat} {v : V} (h : j < xs.length) (e : xs.set j v = ys) : setI xs (j : Int) v = some ys := by
  have e1 : ixN xs.length (j : Int) = some j := by
    unfold ixN
    rw [if_pos (by omega), if_pos (by omega)]
    simp
  unfold setI
  rw [e1, ← e]
  rfl
def rSetA : V → V → V → Hp → (Hp → Prop) → Prop := fun o i v H Q => ∃ p k, o = .ref p ∧ i = .int k ∧ ∃ xs, H p = some (.lst xs) ∧ ∃ ys, setI xs k v = some ys ∧ Q (upd H p (.lst ys))
section
variable {X : Cx}
theorem set_any : PSet X rSetA := by
  intro pins s σ H o i v uo ui uv Q I ro ri rv h
  obtain ⟨p, k, rfl, rfl, xs, hx, ys, hy, q⟩ := h
  unfold setI at hy
  cases e : ixN xs.length k with
  | none => rw [e] at hy; cases hy
  | some j =>
    rw [e] at hy
    cases hy
    exact set_list pins s σ H _ _ _ uo ui uv Q I ro ri rv ⟨p, xs, k, j, rfl, rfl, hx, e, q⟩
end
theorem atI_0 {α : Type} (x0 : α) (l : List α) : atI (x0 :: l) 0 = some x0 := atI_nat (j := 0) rfl
theorem setI_0 (x0 v : V) (l : List V) : setI (x0 :: l) 0 v = some (v :: l) := setI_nat (j := 0) (by simp) (by rfl)
theorem atI_1 {α : Type} (x0 x1 : α) (l : List α) : atI (x0 :: x1 :: l) 1 = some x1 := atI_nat (j := 1) rfl
theorem setI_1 (x0 x1 v : V) (l : List V) : setI (x0 :: x1 :: l) 1 v = some (x0 :: v :: l) := setI_nat (j := 1) (by simp) (by rfl)
theorem atI_2 {α : Type} (x0 x1 x2 : α) (l : List α) : atI (x0 :: x1 :: x2 :: l) 2 = some x2 := atI_nat (j := 2) rfl
theorem setI_2 (x0 x1 x2 v : V) (l : List V) : setI (x0 :: x1 :: x2 :: l) 2 v = some (x0 :: x1 :: v :: l) := setI_nat (j := 2) (by simp) (by rfl)
theorem atI_3 {α : Type} (x0 x1 x2 x3 : α) (l : List α) : atI (x0 :: x1 :: x2 :: x3 :: l) 3 = some x3 := atI_nat (j := 3) rfl
theorem setI_3 (x0 x1 x2 x3 v : V) (l : List V) : setI (x0 :: x1 :: x2 :: x3 :: l) 3 v = some (x0 :: x1 :: x2 :: v :: l) := setI_nat (j := 3) (by simp) (by rfl)
theorem atI_4 {α : Type} (x0 x1 x2 x3 x4 : α) (l : List α) : atI (x0 :: x1 :: x2 :: x3 :: x4 :: l) 4 = some x4 := atI_nat (j := 4) rfl
theorem setI_4 (x0 x1 x2 x3 x4 v : V) (l : List V) : setI (x0 :: x1 :: x2 :: x3 :: x4 :: l) 4 v = some (x0 :: x1 :: x2 :: x3 :: v :: l) := setI_nat (j := 4) (by simp) (by rfl)
theorem atI_5 {α : Type} (x0 x1 x2 x3 x4 x5 : α) (l : List α) : atI (x0 :: x1 :: x2 :: x3 :: x4 :: x5 :: l) 5 = some x5 := atI_nat (j := 5) rfl
theorem setI_5 (x0 x1 x2 x3 x4 x5 v : V) (l : List V) : setI (x0 :: x1 :: x2 :: x3 :: x4 :: x5 :: l) 5 v = some (x0 :: x1 :: x2 :: x3 :: x4 :: v :: l) := setI_nat (j := 5) (by simp) (by rfl)
theorem atI_6 {α : Type} (x0 x1 x2 x3 x4 x5 x6 : α) (l : List α) : atI (x0 :: x1 :: x2 :: x3 :: x4 :: x5 :: x6 :: l) 6 = some x6 := atI_nat (j := 6) rfl
theorem setI_6 (x0 x1 x2 x3 x4 x5 x6 v : V) (l : List V) : setI (x0 :: x1 :: x2 :: x3 :: x4 :: x5 :: x6 :: l) 6 v = some (x0 :: x1 :: x2 :: x3 :: x4 :: x5 :: v :: l) := setI_nat (j := 6) (by simp) (by rfl)
end My

namespace My
open PySem PySem.Spec PyProof.Rows L2
section
variable {X : Cx}
/-- any(xs), a list of ints -/
def rAnyI (K : PySem.W.Frag) : List V → Hp → VK → Prop := fun vs H Q => ∃ (a : Addr) (ns : List Int), vs = [V.ref a] ∧ SqL K H a (ns.map V.int) ∧ Q (.bl (ns.any fun n => decide (n ≠ 0))) H
theorem vals_int_at : ∀ {ns : List Int} {us : List Value} {i : Nat} {v : Value}, Vals (ns.map V.int) us → us[i]? = some v → ∃ (n : Int) (t : Tok), ns[i]? = some n ∧ v = .int n t
  | [], us, i, v, h, e => by
    cases h
    cases e
  | n :: ns, us, i, v, h, e => by
    cases h with
    | cons a b =>
      cases i with
      | zero =>
        cases e
        obtain ⟨t, et⟩ := a
        exact ⟨n, t, rfl, et⟩
      | succ i => exact vals_int_at (ns := ns) (i := i) b e
theorem any_rangeI : ∀ ns : List Int, (List.range ns.length).any (fun i => decide (ns.getD i 0 ≠ 0)) = ns.any fun n => decide (n ≠ 0)
  | [] => rfl
  | n :: ns => by
    rw [List.length_cons, List.range_succ_eq_map, List.any_cons, List.any_map, List.any_cons, ← any_rangeI ns]
    all_goals rfl
theorem cr_anyI (hc : X.calm = true) : CallR X (.builtin "any") (rAnyI X.K) := by
  intro pins s σ H vs us Q I r h
  obtain ⟨a, ns, rfl, hs, q⟩ := h
  obtain ⟨its, rv, hl, _⟩ := I.list hs
  rw [Vals.ref1 r]
  have hlen := rv.length
  rw [List.length_map] at hlen
  refine call_any_walk (iter_any hl.isList fun s₂ e2 st hne => ?_)
  subst e2
  refine ⟨_, _, _, _, _, _, _, rfl, Walks.list (A := X.A.in1) (I.ok.hd hc) _ a hne its.toArray, st, (fun i v s Q E hv hq => ?_ : TruthOf X.prog X.w X.A.in1 (fun i v => its.toArray[i]? = some v) (fun i => decide (ns.getD i 0 ≠ 0))), fun h' tk hk => ?_⟩
  · have hv' : its[i]? = some v := by simpa using hv
    obtain ⟨n, t, hn, rfl⟩ := vals_int_at rv hv'
    have hg : ns.getD i 0 = n := by rw [List.getD_eq_getElem?_getD, hn] <;> rfl
    have hq' : Q (decide (ns.getD i 0 ≠ 0)) s := hq
    rw [hg, show decide (n ≠ 0) = (n != 0) from by by_cases h : n = 0 <;> simp [h]] at hq'
    exact PySem.P.truthy_int hq'
  · refine ⟨.bl _, H, I.kept fun b o eo => hk b o (fun hmem => ?_) (Heap.get?_push_of_some _ eo), ?_, q⟩
    · rcases List.mem_cons.mp hmem with e1 | hmem
      · exact absurd (e1 ▸ Heap.lt_size eo) (Nat.lt_irrefl _)
      · cases hmem
    · show Value.bool _ = Value.bool _
      rw [← any_rangeI, List.size_toArray, ← hlen]
/-- list(o.values()) -/
def tListVals (K : PySem.W.Frag) (td : TE) : TE := fun σ H Q => td σ H fun x H1 => ∃ a kvs, x = V.ref a ∧ H1 a = some (.dK kvs) ∧ ∀ p, H1 p = none → K.lookup p = none → Q (.ref p) (upd H1 p (.lst (kvs.map (·.2))))
variable {o : Expr} {p pos apos mpos : Pos} {td : TE}
theorem pe_listVals (hc : X.calm = true) (hg : Gl X "list") (hm : X.mg "list" = none) (hd : PE X o td) (hbase : attributeBase o "values" X.env (eval o X.env) = eval o X.env := by rfl) (hline : (apos.endLine == mpos.line) = true := by rfl)
    (hse : starEach [Expr.Call (.Attribute o "values" apos) [] [] mpos] X.env = [(false, eval (Expr.Call (.Attribute o "values" apos) [] [] mpos) X.env)] := by rfl) :
    PE X (.Call (.Name "list" p) [.Call (.Attribute o "values" apos) [] [] mpos] [] pos) (tListVals X.K td) := by
  refine ⟨fun pins s σ H Q I h => ?_⟩
  refine wpAny_Call_Name_kw (ld_blt I hg hm (u := .type "list") (by first | rfl | decide +kernel) ?_ (by first | decide +kernel | decide) (by first | decide +kernel | decide))
  rw [hse]
  refine PySem.callWith_type1 (wpAny_Call_method0_late hbase hline (thn (hd.run pins s σ H _ I h) fun v s1 ⟨x, H1, I1, r1, a, kvs, ex, ha, q⟩ => ?_))
  subst ex
  obtain rfl : v = Value.ref a := r1
  obtain ⟨_, hsys, vs, rel, dof⟩ := dk_of I1.hok ha
  obtain ⟨z, _, _, _, _⟩ := (show ObjOk X.prog X.w H1 s1.heap a (.dK kvs) from I1.hok a _ ha)
  obtain ⟨ep, dat⟩ := dof.dictAt
  have dat' := dat
  obtain ⟨ob, es, ho, ex, hdat, hko, hpr, hnd⟩ := dat'
  refine ⟨"dict", "dict.values", F.plainAttrs_dict, F.slot_dict_values, F.type_dict_values, ⟨ob, ho, ex.1⟩, fun b e => ?_, Calls.callWith_builtin rfl (PySem.evalArgs_none ?_)⟩
  · cases e
    exact ⟨ob, ho, ex.2.1⟩
  refine call_meetsIn F.slot_dict_values ⟨ob, ho, ex.1⟩ F.entry_dict_values (F.args_dict_values_1 _) (meets_dict_values (mixKind X.prog X.w) a hsys) ⟨⟨vs, dof⟩, ?_⟩
  have k1 : ∀ b u, s1.heap.get? b = some u → (s1.heap.push { cls := .type "dict_values", data := .fields #[.ref a] }).get? b = some u := fun b u e => Heap.get?_push_of_some _ e
  have dat1 : (s1.heap.push { cls := .type "dict_values", data := .fields #[.ref a] }).DictAt (mixKind X.prog X.w) a vs ep := dat.keep k1
  have hl : kvs.length = vs.length := Paired.length rel
  have I2 : Inv X pins σ H1 { s1 with heap := s1.heap.push { cls := .type "dict_values", data := .fields #[.ref a] } } := I1.kept (t' := s1.toks) fun b u e => Heap.get?_push_of_some _ e
  refine PySem.W.kdl_call (PySem.W.kdl_values (knd := mixKind X.prog X.w) (kvs := vs) (ep := ep) (r := s1.heap.objs.size) (d := a)) (I.ok.hd hc) ⟨⟨_, Heap.get?_push_size _ rfl, rfl, rfl⟩, dat1⟩ (by rw [← hl]; exact z) fun h' tk acc' c' hkeep hS hacc => ?_
  have hsz : (s1.heap.push { cls := .type "dict_values", data := .fields #[.ref a] }).objs.size = s1.heap.objs.size + 1 := Heap.size_push _ _
  have fr := I2.hok.fresh (a := (s1.heap.push { cls := .type "dict_values", data := .fields #[.ref a] }).objs.size) (Nat.le_refl _)
  refine ⟨.ref (s1.heap.push { cls := .type "dict_values", data := .fields #[.ref a] }).objs.size, upd H1 (s1.heap.push { cls := .type "dict_values", data := .fields #[.ref a] }).objs.size (.lst (kvs.map (·.2))), I2.laid hkeep (Nat.le_refl _) (show ObjOk X.prog X.w _ _ _ (.lst (kvs.map (·.2))) from ⟨by rw [List.length_map]; exact z, acc'.toList, c', ?_, ?_⟩), rfl, q _ fr (new_K I2)⟩
  · have el : acc'.toList.length = acc'.size := by simp
    refine vals_of_at (by rw [List.length_map, el, hacc.1, hl]) fun j x w h1 h2 => ?_
    obtain ⟨k, hky⟩ := hacc.2 j w (by rw [← Array.getElem?_toList]; exact h2)
    obtain ⟨y, e1, e2⟩ := KV.at' rel hky
    rw [List.getElem?_map, e1] at h1
    cases h1
    exact e2
  · exact hS
end
section
variable {X : Cx}
/-- what is tracked is none of the written part's -/
def tFr (K : PySem.W.Frag) (t : TE) : TE := fun σ H Q => t σ H fun v H' => (∀ a, H' a ≠ none → K.lookup a = none) → Q v H'
theorem pe_fr {e : Expr} {t : TE} (h : PE X e t) : PE X e (tFr X.K t) := ⟨fun pins s σ H Q I hw => thn (h.run pins s σ H _ I hw) fun u s1 ⟨v, H1, I1, r, q⟩ => ⟨v, H1, I1, r, q fun a ha => by
  cases z : X.K.lookup a with
  | none => rfl
  | some o => exact absurd (I1.bs a o (I1.ok.mod.kin a o z)).2 ha⟩⟩
end
/-- name = [..] on one line; what is tracked is none of the written part's -/
theorem ps_setLcF {X : Cx} {i : Nat} {y : Str} {py : Pos} {elt tg iter : Expr} {ifs : List Expr} {scope : Scope} {own : List (Str × Nat)} {pos spos : Pos} {wi : TI} {g : TG} {tt : TT} {te : TE} (hc : X.calm = true) (hN : X.N.Nodup) (hy : X.N[i]? = some y) (hyl : X.env.scope.names.lookup y = some .local)
    (hsw : swapsWith (.ListComp elt [⟨tg, iter, ifs, 0⟩] scope pos) (some (.Name y py)) spos.line X.env = pure true) (hi : PI X tg iter wi) (ok : BlkOk X.N X.env.scope scope own)
    (hg : ∀ (s : Shared) (H : Hp) (C : Addr) (cl : List (Str × Addr)) (fp : List Addr), PG (X.blk s H scope (compEnvC scope cl C X.env) fp) tg g) (ht : ∀ (s : Shared) (H : Hp) (C : Addr) (cl : List (Str × Addr)) (fp : List Addr), PTs (X.blk s H scope (compEnvC scope cl C X.env) fp) ifs tt)
    (he : ∀ (s : Shared) (H : Hp) (C : Addr) (cl : List (Str × Addr)) (fp : List Addr), PE (X.blk s H scope (compEnvC scope cl C X.env) fp) elt te) (hs : ∀ x, foldedSetIterable iter X.env x = pure x := by intro _; rfl) :
    PS X (.Assign [.Name y py] (.ListComp elt [⟨tg, iter, ifs, 0⟩] scope pos) spos) (tAsg (tFr X.K (tLc wi g tt te (own.map (·.2)))) (gName i)) := by
  refine ⟨fun pins s σ H D I h => ?_⟩
  rw [exec_Assign_Name_used _ _ _ _ hsw]
  refine wpAny_bind (wpAny_standAt (wpAny_bind ?_))
  show wpAny _ X.A (do let _ ← comprehension (.ListComp elt [⟨tg, iter, ifs, 0⟩] scope pos) scope X.env (firstIterPos [⟨tg, iter, ifs, 0⟩] pos) (newList []) false (eval iter X.env) (some (assign (.Name y py) X.env))) _ _ s
  have h : tLc wi g tt te (own.map (·.2)) σ H (fun x H1 => (∀ a, H1 a ≠ none → X.K.lookup a = none) → gName i x σ H1 D.nx) := h
  refine wpAny_bind (thn (lc_core (Qf := fun _ s' => SP X pins D .next s') hc hN I hi ok hg ht he hs h fun L C s' m H' I' q hn f => ?_) fun _ s' hq => wpAny_pure (wpAny_pure hq))
  have fr : ∀ a, H' a ≠ none → X.K.lookup a = none := fun a ha => by
    cases z : X.K.lookup a with
    | none => rfl
    | some o => exact absurd (I'.bs a o (I'.ok.mod.kin a o z)).2 ha
  show wpAny _ _ (assign (.Name y py) X.env (.ref L)) _ _ _
  refine wpAny_assign_Name (store_ok2 (v := V.ref L) I' hN hy (.inl hyl) rfl (fun s2 I2 ⟨a, sb, ha⟩ => ?_) (.inr hyl))
  obtain ⟨f0, f1, f2, f3, f4, f5⟩ := f
  have haC : C ≠ a := by
    rcases ha with z | z
    · rw [z]; exact f1
    · exact fun e => f4 y a z e.symm
  refine ⟨m, hn.sameBut sb haC, fun h3 sb3 => ?_⟩
  exact ⟨_, H', I2.turned (t' := s2.toks) (fun b o hb e => (sb3.2 b hb).trans e) f0 f1 f3 f4 f5, q fr⟩
theorem cut_to (xs : List V) (j : Nat) (hj : j ≤ xs.length) : cutV xs none (some (j : Int)) = xs.take j := by
  have e := HT.sIx_nat xs.length xs.length j
  unfold cutV
  rw [e, HT.sIx_none, List.drop_zero, Nat.sub_zero, Nat.min_eq_left hj]
theorem cut_from (xs : List V) (j : Nat) (hj : j ≤ xs.length) : cutV xs (some (j : Int)) none = xs.drop j := by
  have e := HT.sIx_nat xs.length 0 j
  unfold cutV
  rw [e, HT.sIx_none, Nat.min_eq_left hj, List.take_of_length_le (by rw [List.length_drop]; omega)]
end My

namespace My
open PySem PySem.Spec PyProof.Rows L2
/-! ### numbers: fractions in lowest terms -/
abbrev Qt := Int × Int
def Nf (q : Qt) : Prop := 1 ≤ q.2 ∧ Int.gcd q.1 q.2 = 1
/-- q is t / b in lowest terms -/
def Is (q : Qt) (t b : Int) : Prop := Nf q ∧ q.1 * b = t * q.2
def Sz (k : Nat) (q : Qt) : Prop := q.1.natAbs < 2 ^ k ∧ q.2.natAbs < 2 ^ k
theorem nf_cop {q : Qt} (h : Nf q) : Nat.Coprime q.1.natAbs q.2.natAbs := h.2
theorem nf_unique {p q : Qt} (hp : Nf p) (hq : Nf q) (h : p.1 * q.2 = q.1 * p.2) : p = q := by
  have h1 : p.1.natAbs * q.2.natAbs = q.1.natAbs * p.2.natAbs := by rw [← Int.natAbs_mul, ← Int.natAbs_mul, h]
  have d1 : p.2.natAbs ∣ q.2.natAbs := (nf_cop hp).symm.dvd_of_dvd_mul_left (n := q.2.natAbs) (m := p.1.natAbs) (by rw [h1]; exact Nat.dvd_mul_left _ _)
  have d2 : q.2.natAbs ∣ p.2.natAbs := (nf_cop hq).symm.dvd_of_dvd_mul_left (n := p.2.natAbs) (m := q.1.natAbs) (by rw [← h1]; exact Nat.dvd_mul_left _ _)
  have e := Nat.dvd_antisymm d1 d2
  have a1 := hp.1
  have a2 := hq.1
  have e2 : p.2 = q.2 := by omega
  rw [e2] at h
  have e1 : p.1 = q.1 := Int.eq_of_mul_eq_mul_right (show q.2 ≠ 0 by omega) h
  exact Prod.ext e1 e2
theorem is_unique {p q : Qt} {t b : Int} (hb : b ≠ 0) (hp : Is p t b) (hq : Is q t b) : p = q := by
  refine nf_unique hp.1 hq.1 ?_
  have h1 := hp.2
  have h2 := hq.2
  have h3 : b * (p.1 * q.2) = b * (q.1 * p.2) := by
    have e1 : b * (p.1 * q.2) = (p.1 * b) * q.2 := by rw [Int.mul_comm p.1 b, Int.mul_assoc]
    have e2 : b * (q.1 * p.2) = (q.1 * b) * p.2 := by rw [Int.mul_comm q.1 b, Int.mul_assoc]
    rw [e1, e2, h1, h2, Int.mul_assoc, Int.mul_assoc, Int.mul_comm p.2 q.2]
  exact Int.eq_of_mul_eq_mul_left hb h3
theorem is_le {q : Qt} {t b : Int} (hb : b ≠ 0) (h : Is q t b) : q.1.natAbs ≤ t.natAbs ∧ q.2.natAbs ≤ b.natAbs := by
  have h1 : q.1.natAbs * b.natAbs = t.natAbs * q.2.natAbs := by rw [← Int.natAbs_mul, ← Int.natAbs_mul, h.2]
  have d : q.2.natAbs ∣ b.natAbs := (nf_cop h.1).symm.dvd_of_dvd_mul_left (n := b.natAbs) (m := q.1.natAbs) (by rw [h1]; exact Nat.dvd_mul_left _ _)
  have hb' : 0 < b.natAbs := by omega
  have le2 := Nat.le_of_dvd hb' d
  refine ⟨?_, le2⟩
  have q2 : 0 < q.2.natAbs := by have := h.1.1; omega
  have h2 : q.1.natAbs * q.2.natAbs ≤ t.natAbs * q.2.natAbs := by rw [← h1]; exact Nat.mul_le_mul_left _ le2
  exact Nat.le_of_mul_le_mul_right h2 q2
theorem is_sz {q : Qt} {t b : Int} {k : Nat} (hb : b ≠ 0) (h : Is q t b) (ht : t.natAbs < 2 ^ k) (hk : b.natAbs < 2 ^ k) : Sz k q :=
  ⟨Nat.lt_of_le_of_lt (is_le hb h).1 ht, Nat.lt_of_le_of_lt (is_le hb h).2 hk⟩
/-- exact division by the greatest common divisor -/
theorem gcd_pos {t b : Int} (hb : b ≠ 0) : 0 < Int.gcd t b := Nat.gcd_pos_of_pos_right _ (by omega)
theorem gcd_le {t b : Int} (hb : b ≠ 0) : Int.gcd t b ≤ b.natAbs := Nat.le_of_dvd (by omega) (Nat.gcd_dvd_right _ _)
theorem is_div {t b : Int} (hb : 0 < b) : Is (t / (Int.gcd t b : Nat), b / (Int.gcd t b : Nat)) t b := by
  have hg := gcd_pos (t := t) (b := b) (by omega)
  obtain ⟨x, hx⟩ := Int.gcd_dvd_left (a := t) (b := b)
  obtain ⟨y, hy⟩ := Int.gcd_dvd_right (a := t) (b := b)
  have hg' : ((Int.gcd t b : Nat) : Int) ≠ 0 := by omega
  have e1 : t / (Int.gcd t b : Nat) = x := by conv => lhs; lhs; rw [hx]
                                              exact Int.mul_ediv_cancel_left _ hg'
  have e2 : b / (Int.gcd t b : Nat) = y := by conv => lhs; lhs; rw [hy]
                                              exact Int.mul_ediv_cancel_left _ hg'
  rw [e1, e2]
  have hy0 : 0 < y := by
    rcases Int.lt_trichotomy y 0 with z | z | z
    · have := Int.mul_neg_of_pos_of_neg (show (0 : Int) < (Int.gcd t b : Nat) by omega) z
      omega
    · rw [z, Int.mul_zero] at hy
      omega
    · exact z
  refine ⟨⟨by show 1 ≤ y; omega, ?_⟩, ?_⟩
  · show Int.gcd x y = 1
    have h : Int.gcd t b = Int.gcd t b * Int.gcd x y := by
      have k : Int.gcd (((Int.gcd t b : Nat) : Int) * x) (((Int.gcd t b : Nat) : Int) * y) = Int.gcd t b * Int.gcd x y := by rw [Int.gcd_mul_left, Int.natAbs_natCast]
      rwa [← hx, ← hy] at k
    exact Nat.eq_of_mul_eq_mul_left hg (by rw [← h, Nat.mul_one])
  · show x * b = t * y
    conv => lhs; rw [hy]
    conv => rhs; rw [hx]
    rw [← Int.mul_assoc, Int.mul_comm x]
theorem is_neg {q : Qt} {t b : Int} (h : Is q (-t) (-b)) : Is q t b := ⟨h.1, by have := h.2; rw [Int.mul_neg, Int.neg_mul] at this; omega⟩
theorem gcd_neg2 (t b : Int) : Int.gcd (-t) (-b) = Int.gcd t b := by rw [Int.gcd_neg, Int.neg_gcd]
/-- what fraction hands back -/
theorem is_fdiv {t b : Int} (hb : b ≠ 0) : Is (t.fdiv (if b < 0 then -((Int.gcd t b : Nat) : Int) else (Int.gcd t b : Nat)), b.fdiv (if b < 0 then -((Int.gcd t b : Nat) : Int) else (Int.gcd t b : Nat))) t b := by
  by_cases h : b < 0
  · rw [if_pos h]
    have e := is_div (t := -t) (b := -b) (by omega)
    rw [gcd_neg2] at e
    have k : ∀ x : Int, x.fdiv (-((Int.gcd t b : Nat) : Int)) = (-x) / ((Int.gcd t b : Nat) : Int) := fun x => by
      rw [← Int.fdiv_eq_ediv_of_nonneg _ (by omega), ← Int.neg_fdiv_neg (-x), Int.neg_neg]
    rw [k, k]
    exact is_neg e
  · rw [if_neg h, Int.fdiv_eq_ediv_of_nonneg _ (by omega), Int.fdiv_eq_ediv_of_nonneg _ (by omega)]
    exact is_div (by omega)
theorem mulW {i j : Int} {a b : Nat} (ha : i.natAbs < 2 ^ a) (hb : j.natAbs < 2 ^ b) (h : a + b ≤ 900000) : CMulW i j := by
  refine wide_mul (a := a + 1) (b := b + 1) (Nat.lt_of_lt_of_le ha (Nat.pow_le_pow_right (by omega) (by omega))) (Nat.lt_of_lt_of_le hb (Nat.pow_le_pow_right (by omega) (by omega))) (by omega) (by omega) (by omega)
theorem szMul {i j : Int} {a b : Nat} (ha : i.natAbs < 2 ^ a) (hb : j.natAbs < 2 ^ b) : (i * j).natAbs < 2 ^ (a + b) := wide_lt ha hb
theorem szAdd {i j : Int} {a b c : Nat} (ha : i.natAbs < 2 ^ a) (hb : j.natAbs < 2 ^ b) (h1 : a + 1 ≤ c) (h2 : b + 1 ≤ c) : (i + j).natAbs < 2 ^ c := by
  have e1 : 2 ^ (a + 1) ≤ 2 ^ c := Nat.pow_le_pow_right (by omega) h1
  have e2 : 2 ^ (b + 1) ≤ 2 ^ c := Nat.pow_le_pow_right (by omega) h2
  rw [Nat.pow_succ] at e1 e2
  have := Int.natAbs_add_le i j
  omega
theorem szSub {i j : Int} {a b c : Nat} (ha : i.natAbs < 2 ^ a) (hb : j.natAbs < 2 ^ b) (h1 : a + 1 ≤ c) (h2 : b + 1 ≤ c) : (i - j).natAbs < 2 ^ c := by
  rw [Int.sub_eq_add_neg]
  exact szAdd ha (by rw [Int.natAbs_neg]; exact hb) h1 h2
theorem szMono {i : Int} {a b : Nat} (ha : i.natAbs < 2 ^ a) (h : a ≤ b) : i.natAbs < 2 ^ b := Nat.lt_of_lt_of_le ha (Nat.pow_le_pow_right (by omega) h)
theorem Sz.mono {q : Qt} {a b : Nat} (ha : Sz a q) (h : a ≤ b) : Sz b q := ⟨szMono ha.1 h, szMono ha.2 h⟩
/-- // by any number of a bounded size -/
def CDivX (_ j : Int) : Prop := j ≠ 0 ∧ j.natAbs < 2 ^ 8999
theorem op_fdivX {X : Cx} : OpR X (binaryOp .FloorDiv) (rI CDivX fun i j => .int (i.fdiv j)) := by
  intro pins s σ H x y v u Q I rx ry h
  obtain ⟨i, j, rfl, rfl, hc, q⟩ := h
  obtain ⟨t, rfl⟩ := rx
  obtain ⟨t', rfl⟩ := ry
  exact floordiv_int hc.1 ⟨.int _, H, I.tok _, ⟨_, rfl⟩, q⟩ (.inl (PyProof.noPylong_of_log2 (Nat.lt_of_lt_of_le (PySem.Flt.log2_lt_of (by omega) hc.2) (by omega))))
/-! ### fractions as values -/
def frt (q : Qt) : HO := .tup [.int q.1, .int q.2]
end My

namespace My
open PySem PySem.Spec PyProof.Rows L2
section
variable {P : Program} {w : World} {K : PySem.W.Frag} {mg : Str → Option Value} {base : Heap}
def spMixed : Sp := fun vs H Q _ => ∃ a b : Int, vs = [.int a, .int b] ∧ ∀ r : Int, Q (.int r) H
theorem mulW_mod {i : Int} {n : Int} (h0 : 0 < n) (h : n < 2 ^ 64) : CMulW (i % n) (i % n) := by
  have h1 := Int.emod_nonneg i (show n ≠ 0 by omega)
  have h2 := Int.emod_lt_of_pos i h0
  exact wide_mul (a := 64) (b := 64) (by omega) (by omega) (by omega) (by omega) (by omega)
abbrev sMixed : Stmt := topS 42
theorem scMixed : FnScope ["_law_number", "_law_turn", "_law_value_here"] ["_law_number", "_law_turn"] (defScope sMixed) := ⟨rfl, rfl, rfl, by decide +kernel, rfl, by decide +kernel, by decide +kernel⟩
theorem k_Mixed (T : Bt K mg) (D : Dfn K mg "_law_mixed" sMixed ["_law_number", "_law_turn"]) : Kn P w K mg base 1 "_law_mixed" ["_law_number", "_law_turn"] spMixed := by
  refine Kn.mk' D scMixed (fun vs H Q E h => ?_) (fun f cdv A outer s H vs Q E hr h => ?_)
  · obtain ⟨a, b, rfl, _⟩ := h
    rfl
  obtain ⟨a, b, rfl, q⟩ := h
  refine ⟨_, (pss_cons (ps_set (i := 2) scMixed.nd rfl (.inl rfl) (pe_op op_mod (pe_op op_add (pe_op op_add (pe_op op_mul (pe_op op_mod (pe_callTy call_int1 (by rfl) T.b_int (by decide +kernel) (pa_cons (pv 0) pa_nil)) pe_int) pe_int) (pe_op op_mul (pv 1) pe_int)) pe_int) pe_int))
      (pss_cons (ps_set (i := 2) scMixed.nd rfl (.inl rfl) (pe_op op_mod (pe_op op_add (pe_op op_add (pe_op op_add (pe_op op_mulW (pv 2) (pv 2)) (pe_op op_mul (pv 2) pe_int)) (pe_op op_mul (pv 1) pe_int)) pe_int) pe_int))
      (pss_cons (ps_set (i := 2) scMixed.nd rfl (.inl rfl) (pe_op op_mod (pe_op op_add (pe_op op_add (pe_op op_mul (pv 2) pe_int) (pe_op op_fdiv (pv 2) pe_int)) pe_int) pe_int))
      (pss_cons (ps_set (i := 2) scMixed.nd rfl (.inl rfl) (pe_op op_mod (pe_op op_add (pe_op op_mulW (pv 2) (pv 2)) (pv 1)) pe_int))
      (pss_one (ps_ret (pe_op op_fdiv (pv 2) pe_int))))))), ?_⟩
  simp only [cx_K, decide_true, decide_false, reduceCtorEq, gTp, gCons, gNil, ca_0, ca_1, ca_2, ca_3, ca_4, ca_5, ca_6, ca_7, ca_8, ca_9, ca_10, ca_11, ca_12, ca_13, ca_14, ca_15, ca_16, ca_17, ca_18, ca_19, ca_20, ca_21, ca_22, ca_23, ca_24, ca_25, ca_26, ca_27, ca_28, ca_29, ca_30, not_true_eq_false, not_false_eq_true, Int.reduceEq, Nat.reduceEqDiff, Nat.reduceLeDiff, rGcd, V.ty.injEq, eq_self, List.not_mem_nil, beq_self_eq_true, HO.lst.injEq, HO.tup.injEq, tFor_eq, iRng1, iList, iTup, nat10, tSeq, rIxA, rSetA, rIsN, rIsT, tTp, tLs, itsO_tup, itsO_lst, tyO_tup, tyO_lst, tyO_dK, tyN_non, tyN_bl, tyN_int, tyN_str, tyN_ref, tyNs_lt, isB, upd_same, upd_upd, sizeLine_eq, List.mem_cons, String.reduceBEq, String.reduceEq, Bool.or_false, Bool.or_true, Bool.and_false, Bool.false_or, Bool.and_self, Bool.false_and, Bool.not_false, Bool.not_true, List.any_cons, List.any_nil, atI_0, setI_0, atI_1, setI_1, atI_2, setI_2, atI_3, setI_3, atI_4, setI_4, atI_5, setI_5, atI_6, setI_6, tAsg, gName, tOp, tUn, tVar, tC, tCons, L2.tNil, tRet, tIfS, tTest, tCB, tCall, rI, rI0, rU, tNext, tB, tAnd, tOr, tNot, tAndV, tOrV, tNotV, tDrop, tIf, tPar, gSub, rIxL, rIxT, rEq, rNe, rSetL, tBits,
    L2.start, List.map_cons, List.map_nil, List.cons_append, List.nil_append, List.append_nil, List.length_cons, List.length_nil, List.replicate, Nat.reduceAdd, Nat.reduceSub, Nat.zero_add, List.getElem?_cons_zero, List.getElem?_cons_succ, List.set_cons_zero, List.set_cons_succ,
    Option.some.injEq, exists_eq_left', exists_eq_left, V.int.injEq, V.bl.injEq, V.ref.injEq, V.str.injEq, List.cons.injEq, reduceCtorEq, and_true, true_and, false_and, and_false, exists_false, or_false, false_or, or_true, true_or, exists_const, CMul, CDiv, CPow, and_assoc, exists_and_left, exists_and_right, Int.reducePow, Int.reduceNeg, Int.reduceLT, Int.reduceLE, Nat.reducePow, Nat.reduceLT, Int.reduceToNat, gt_iff_lt, ge_iff_le, decide_eq_true_eq, Bool.not_eq_true', decide_eq_false_iff_not, scal, ↓reduceIte, Bool.false_eq_true]
  exact ⟨mulW_mod (by omega) (by omega), mulW_mod (by omega) (by omega), q _⟩
theorem at_ints {ns : List Int} {i : Int} (h0 : 0 ≤ i) (h : i < (ns.length : Int)) : ∃ z, atI (ns.map V.int) i = some (.int z) := by
  have hk : i.toNat < ns.length := by omega
  have q : atI (ns.map V.int) ((i.toNat : Nat) : Int) = some (.int ns[i.toNat]) := atI_nat (by rw [List.getElem?_map, List.getElem?_eq_getElem hk] <;> rfl)
  rw [show ((i.toNat : Nat) : Int) = i by omega] at q
  exact ⟨_, q⟩
theorem bits_le {m : Int} (h : m.natAbs < 2 ^ 200) : Builtin.Int.intBits m ≤ 200 := by
  unfold Builtin.Int.intBits
  split
  · omega
  · have := PySem.Flt.log2_lt_of (show 0 < 200 by omega) h
    omega
def TakeA (K : PySem.W.Frag) (s : Addr) (m : Int) (H : Hp) (σ' : L2.St) (H' : Hp) : Prop := ∃ x, σ' = [some (.ref s), some (.int m), x, none, none, none, none] ∧ Kp s H H' ∧ Sto K H' s
def TakeB (K : PySem.W.Frag) (s : Addr) (m : Int) (H : Hp) (σ' : L2.St) (H' : Hp) : Prop := ∃ x n, σ' = [some (.ref s), some (.int m), x, none, some (.int n), none, none] ∧ Kp s H H' ∧ Sto K H' s
def TakeC (s : Addr) (m : Int) (x : Option V) (n : Int) (H3 : Hp) (k : Nat) (σ : L2.St) (H' : Hp) : Prop := ∃ v y, σ = [some (.ref s), some (.int m), x, none, some (.int n), some (.int v), y] ∧ H' = H3
def spTake (K : PySem.W.Frag) : Sp := fun vs H Q _ => ∃ (s : Addr) (m : Int), vs = [.ref s, .int m] ∧ Sto K H s ∧ m < 2 ^ 200 ∧ ∀ r H', 0 ≤ r → (r < m ∨ r = 0) → Kp s H H' → Sto K H' s → Q (.int r) H'
abbrev sTake : Stmt := topS 44
theorem scTake : FnScope ["_law_store_here", "_law_many", "_law_cell", "_law_digit", "_law_number", "_law_value_here", "_law_k"] ["_law_store_here", "_law_many"] (defScope sTake) := ⟨rfl, rfl, rfl, by decide +kernel, rfl, by decide +kernel, by decide +kernel⟩
theorem k_Take (T : Bt K mg) (D : Dfn K mg "_law_take" sTake ["_law_store_here", "_law_many"]) (d__law_mixed : Kn P w K mg base 1 "_law_mixed" ["_law_number", "_law_turn"] spMixed) : Kn P w K mg base 2 "_law_take" ["_law_store_here", "_law_many"] (spTake K) := by
  refine Kn.mk' D scTake (fun vs H Q E h => ?_) (fun f cdv A outer s H vs Q E hr h => ?_)
  · obtain ⟨a, m, rfl, _⟩ := h
    rfl
  obtain ⟨s, m, rfl, hS, hm, q⟩ := h
  refine ⟨_, (pss_cons (ps_if (pt_cmpR op_lt (pv 1) pe_int (nomark _)) (pss_one (ps_ret pe_int)) pss_nil)
      (pss_cons (ps_asg (pe_op op_add (pe_ix ix_any (pv 0) pe_int (fun _ _ => rfl)) pe_int) (pg_sub (pv 0) pe_int set_any))
      (C8.pss_cut (ps_if (PW.pt (pw_and (pt_cmpR op_lt (pe_ix ix_any (pv 0) pe_int (fun _ _ => rfl)) pe_int (nomark _)) (pw_and (pt_cmpR op_lt (pe_ix ix_any (pv 0) pe_int (fun _ _ => rfl)) pe_int (nomark _)) (pw_and1 (pt_cmpR op_lt (pe_ix ix_any (pv 0) pe_int (fun _ _ => rfl)) (pe_callB call_lenA (by rfl) T.b_len PySem.boot_len (pa_cons (pe_ix ix_any (pv 0) pe_int (fun _ _ => rfl)) pa_nil)) (nomark _)))))) (pss_cons (ps_set (i := 2) scTake.nd rfl (.inl rfl) (pe_callTy call_int1 (by rfl) T.b_int (by decide +kernel) (pa_cons (pe_ix ix_any (pe_ix ix_any (pv 0) pe_int (fun _ _ => rfl)) (pe_ix ix_any (pv 0) pe_int (fun _ _ => rfl)) (fun _ _ => rfl)) pa_nil)))
      (pss_cons (ps_asg (pe_op op_add (pe_ix ix_any (pv 0) pe_int (fun _ _ => rfl)) pe_int) (pg_sub (pv 0) pe_int set_any))
      (pss_one (ps_if (pt_cmpR op_lt (pe_callB call_abs (by rfl) T.b_abs (by decide +kernel) (pa_cons (pv 2) pa_nil)) (pe_op op_pow pe_int pe_int) (nomark _)) (pss_cons (ps_asg pe_int (pg_sub (pv 0) pe_int set_any))
      (pss_one (ps_asg (pv 2) (pg_sub (pv 0) pe_int set_any)))) (pss_one (ps_asg (pe_callB call_abs (by rfl) T.b_abs (by decide +kernel) (pa_cons (pv 2) pa_nil)) (pg_sub (pv 0) pe_int set_any))))))) pss_nil)
      (pss_cons (ps_if (pt_cmpR op_gt (pe_ix ix_any (pv 0) pe_int (fun _ _ => rfl)) pe_int (nomark _)) (pss_cons (ps_set (i := 3) scTake.nd rfl (.inl rfl) (pe_op op_modN (pe_callTy call_int1 (by rfl) T.b_int (by decide +kernel) (pa_cons (pe_ix ix_any (pv 0) pe_int (fun _ _ => rfl)) pa_nil)) (pv 1)))
      (pss_cons (ps_asg (pe_op op_fdivW (pe_ix ix_any (pv 0) pe_int (fun _ _ => rfl)) (pv 1)) (pg_sub (pv 0) pe_int set_any))
      (pss_one (ps_ret (pv 3))))) pss_nil)
      (pss_cons (ps_set (i := 4) scTake.nd rfl (.inl rfl) (pe_ix ix_any (pv 0) pe_int (fun _ _ => rfl)))
      (C8.pss_cut (ps_if (pt_cmpR op_gt (pe_ix ix_any (pv 0) pe_int (fun _ _ => rfl)) pe_int (nomark _)) (pss_cons (ps_asg (pe_op op_sub (pe_ix ix_any (pv 0) pe_int (fun _ _ => rfl)) pe_int) (pg_sub (pv 0) pe_int set_any))
      (pss_one (ps_set (i := 4) scTake.nd rfl (.inl rfl) (pe_ix ix_any (pv 0) pe_int (fun _ _ => rfl))))) pss_nil)
      (pss_cons (ps_set (i := 5) scTake.nd rfl (.inl rfl) pe_int)
      (pss_cons (ps_for PassesOwn.never rfl (pi_range1 (by rfl) T.b_range (pa_cons (pe_op op_add pe_int (pe_op op_fdiv (pe_bits (pv 1)) pe_int)) pa_nil)) (pg_name (i := 6) scTake.nd rfl (.inl rfl)) (pss_one (ps_set (i := 5) scTake.nd rfl (.inl rfl) (pe_op op_add (pe_op op_mul (pv 5) pe_int) (pe_kn d__law_mixed hr (by rfl) (pa_cons (pv 4) (pa_cons (pe_op op_add (pe_op op_mul (pe_ix ix_any (pv 0) pe_int (fun _ _ => rfl)) pe_int) (pv 6)) pa_nil)))))))
      (pss_one (ps_ret (pe_op op_modN (pv 5) (pv 1)))))))))))), ?_⟩
  obtain ⟨sc, ns, i, b, c, d, e, f, hs, hsc, hne, hi, ks, ksc⟩ := hS
  have o1 := (ob_none ks).trans hs
  simp only [o1, hs, cx_K, decide_true, decide_false, reduceCtorEq, gTp, gCons, gNil, ca_0, ca_1, ca_2, ca_3, ca_4, ca_5, ca_6, ca_7, ca_8, ca_9, ca_10, ca_11, ca_12, ca_13, ca_14, ca_15, ca_16, ca_17, ca_18, ca_19, ca_20, ca_21, ca_22, ca_23, ca_24, ca_25, ca_26, ca_27, ca_28, ca_29, ca_30, not_true_eq_false, not_false_eq_true, Int.reduceEq, Nat.reduceEqDiff, Nat.reduceLeDiff, rGcd, V.ty.injEq, eq_self, List.not_mem_nil, beq_self_eq_true, HO.lst.injEq, HO.tup.injEq, tFor_eq, iRng1, iList, iTup, nat10, tSeq, rIxA, rSetA, rIsN, rIsT, tTp, tLs, itsO_tup, itsO_lst, tyO_tup, tyO_lst, tyO_dK, tyN_non, tyN_bl, tyN_int, tyN_str, tyN_ref, tyNs_lt, isB, upd_same, upd_upd, sizeLine_eq, List.mem_cons, String.reduceBEq, String.reduceEq, Bool.or_false, Bool.or_true, Bool.and_false, Bool.false_or, Bool.and_self, Bool.false_and, Bool.not_false, Bool.not_true, List.any_cons, List.any_nil, atI_0, setI_0, atI_1, setI_1, atI_2, setI_2, atI_3, setI_3, atI_4, setI_4, atI_5, setI_5, atI_6, setI_6, tAsg, gName, tOp, tUn, tVar, tC, tCons, L2.tNil, tRet, tIfS, tTest, tCB, tCall, rI, rI0, rU, tNext, tB, tAnd, tOr, tNot, tAndV, tOrV, tNotV, tDrop, tIf, tPar, gSub, rIxL, rIxT, rEq, rNe, rSetL, tBits,
    L2.start, List.map_cons, List.map_nil, List.cons_append, List.nil_append, List.append_nil, List.length_cons, List.length_nil, List.replicate, Nat.reduceAdd, Nat.reduceSub, Nat.zero_add, List.getElem?_cons_zero, List.getElem?_cons_succ, List.set_cons_zero, List.set_cons_succ,
    Option.some.injEq, exists_eq_left', exists_eq_left, V.int.injEq, V.bl.injEq, V.ref.injEq, V.str.injEq, List.cons.injEq, reduceCtorEq, and_true, true_and, false_and, and_false, exists_false, or_false, false_or, or_true, true_or, exists_const, CMul, CDiv, CPow, and_assoc, exists_and_left, exists_and_right, Int.reducePow, Int.reduceNeg, Int.reduceLT, Int.reduceLE, Nat.reducePow, Nat.reduceLT, Int.reduceToNat, gt_iff_lt, ge_iff_le, decide_eq_true_eq, Bool.not_eq_true', decide_eq_false_iff_not, scal, ↓reduceIte, Bool.false_eq_true]
  refine ite2 (fun h2 => ?_) (fun h2 => ?_)
  · exact q 0 H (Int.le_refl 0) (.inr rfl) (Kp.refl _ _) ⟨sc, ns, i, b, c, d, e, f, hs, hsc, hne, hi, ks, ksc⟩
  have S1 := Sr.put (i' := i) (b' := b) (c' := c + 1) (d' := d) (e' := e) (f' := f) (⟨hs, hsc, hne, hi, ks, ksc⟩ : Sr K H s sc ns i b c d e f) hi
  have kp1 : Kp s H (upd H s (.lst [.ref sc, .int i, .int b, .int (c + 1), .int d, .int e, .int f])) := Kp.put hs
  generalize upd H s (.lst [.ref sc, .int i, .int b, .int (c + 1), .int d, .int e, .int f]) = H1 at S1 kp1 ⊢
  refine ⟨TakeA K s m H, ?_, ?_⟩
  · obtain ⟨hs, hsc, hne, hi, ks, ksc⟩ := id S1
    have o1 := (ob_none ks).trans hs
    have o2 := (ob_none ksc).trans hsc
    have no : TakeA K s m H [some (.ref s), some (.int m), none, none, none, none, none] H1 := ⟨none, rfl, kp1, _, _, _, _, _, _, _, _, S1⟩
    simp only [o1, o2, hs, List.length_map, cx_K, decide_true, decide_false, reduceCtorEq, gTp, gCons, gNil, ca_0, ca_1, ca_2, ca_3, ca_4, ca_5, ca_6, ca_7, ca_8, ca_9, ca_10, ca_11, ca_12, ca_13, ca_14, ca_15, ca_16, ca_17, ca_18, ca_19, ca_20, ca_21, ca_22, ca_23, ca_24, ca_25, ca_26, ca_27, ca_28, ca_29, ca_30, not_true_eq_false, not_false_eq_true, Int.reduceEq, Nat.reduceEqDiff, Nat.reduceLeDiff, rGcd, V.ty.injEq, eq_self, List.not_mem_nil, beq_self_eq_true, HO.lst.injEq, HO.tup.injEq, tFor_eq, iRng1, iList, iTup, nat10, tSeq, rIxA, rSetA, rIsN, rIsT, tTp, tLs, itsO_tup, itsO_lst, tyO_tup, tyO_lst, tyO_dK, tyN_non, tyN_bl, tyN_int, tyN_str, tyN_ref, tyNs_lt, isB, upd_same, upd_upd, sizeLine_eq, List.mem_cons, String.reduceBEq, String.reduceEq, Bool.or_false, Bool.or_true, Bool.and_false, Bool.false_or, Bool.and_self, Bool.false_and, Bool.not_false, Bool.not_true, List.any_cons, List.any_nil, atI_0, setI_0, atI_1, setI_1, atI_2, setI_2, atI_3, setI_3, atI_4, setI_4, atI_5, setI_5, atI_6, setI_6, tAsg, gName, tOp, tUn, tVar, tC, tCons, L2.tNil, tRet, tIfS, tTest, tCB, tCall, rI, rI0, rU, tNext, tB, tAnd, tOr, tNot, tAndV, tOrV, tNotV, tDrop, tIf, tPar, gSub, rIxL, rIxT, rEq, rNe, rSetL, tBits,
    L2.start, List.map_cons, List.map_nil, List.cons_append, List.nil_append, List.append_nil, List.length_cons, List.length_nil, List.replicate, Nat.reduceAdd, Nat.reduceSub, Nat.zero_add, List.getElem?_cons_zero, List.getElem?_cons_succ, List.set_cons_zero, List.set_cons_succ,
    Option.some.injEq, exists_eq_left', exists_eq_left, V.int.injEq, V.bl.injEq, V.ref.injEq, V.str.injEq, List.cons.injEq, reduceCtorEq, and_true, true_and, false_and, and_false, exists_false, or_false, false_or, or_true, true_or, exists_const, CMul, CDiv, CPow, and_assoc, exists_and_left, exists_and_right, Int.reducePow, Int.reduceNeg, Int.reduceLT, Int.reduceLE, Nat.reducePow, Nat.reduceLT, Int.reduceToNat, gt_iff_lt, ge_iff_le, decide_eq_true_eq, Bool.not_eq_true', decide_eq_false_iff_not, scal, ↓reduceIte, Bool.false_eq_true]
    refine ite2 (fun _ => ?_) (fun _ => no)
    refine ite2 (fun _ => ?_) (fun _ => no)
    refine ite2 (fun hlt => ?_) (fun _ => no)
    obtain ⟨z, hz⟩ := at_ints hi hlt
    simp only [hz, cx_K, decide_true, decide_false, reduceCtorEq, gTp, gCons, gNil, ca_0, ca_1, ca_2, ca_3, ca_4, ca_5, ca_6, ca_7, ca_8, ca_9, ca_10, ca_11, ca_12, ca_13, ca_14, ca_15, ca_16, ca_17, ca_18, ca_19, ca_20, ca_21, ca_22, ca_23, ca_24, ca_25, ca_26, ca_27, ca_28, ca_29, ca_30, not_true_eq_false, not_false_eq_true, Int.reduceEq, Nat.reduceEqDiff, Nat.reduceLeDiff, rGcd, V.ty.injEq, eq_self, List.not_mem_nil, beq_self_eq_true, HO.lst.injEq, HO.tup.injEq, tFor_eq, iRng1, iList, iTup, nat10, tSeq, rIxA, rSetA, rIsN, rIsT, tTp, tLs, itsO_tup, itsO_lst, tyO_tup, tyO_lst, tyO_dK, tyN_non, tyN_bl, tyN_int, tyN_str, tyN_ref, tyNs_lt, isB, upd_same, upd_upd, sizeLine_eq, List.mem_cons, String.reduceBEq, String.reduceEq, Bool.or_false, Bool.or_true, Bool.and_false, Bool.false_or, Bool.and_self, Bool.false_and, Bool.not_false, Bool.not_true, List.any_cons, List.any_nil, atI_0, setI_0, atI_1, setI_1, atI_2, setI_2, atI_3, setI_3, atI_4, setI_4, atI_5, setI_5, atI_6, setI_6, tAsg, gName, tOp, tUn, tVar, tC, tCons, L2.tNil, tRet, tIfS, tTest, tCB, tCall, rI, rI0, rU, tNext, tB, tAnd, tOr, tNot, tAndV, tOrV, tNotV, tDrop, tIf, tPar, gSub, rIxL, rIxT, rEq, rNe, rSetL, tBits,
    L2.start, List.map_cons, List.map_nil, List.cons_append, List.nil_append, List.append_nil, List.length_cons, List.length_nil, List.replicate, Nat.reduceAdd, Nat.reduceSub, Nat.zero_add, List.getElem?_cons_zero, List.getElem?_cons_succ, List.set_cons_zero, List.set_cons_succ,
    Option.some.injEq, exists_eq_left', exists_eq_left, V.int.injEq, V.bl.injEq, V.ref.injEq, V.str.injEq, List.cons.injEq, reduceCtorEq, and_true, true_and, false_and, and_false, exists_false, or_false, false_or, or_true, true_or, exists_const, CMul, CDiv, CPow, and_assoc, exists_and_left, exists_and_right, Int.reducePow, Int.reduceNeg, Int.reduceLT, Int.reduceLE, Nat.reducePow, Nat.reduceLT, Int.reduceToNat, gt_iff_lt, ge_iff_le, decide_eq_true_eq, Bool.not_eq_true', decide_eq_false_iff_not, scal, ↓reduceIte, Bool.false_eq_true]
    refine ite2 (fun _ => ?_) (fun _ => ?_)
    · have S2 := S1.put (i' := i + 1) (b' := b) (c' := c + 1) (d' := d) (e' := 2) (f' := z) (by omega)
      exact ⟨_, rfl, kp1.trans (Kp.put hs), _, _, _, _, _, _, _, _, S2⟩
    · have S2 := S1.put (i' := i + 1) (b' := if z < 0 then -z else z) (c' := c + 1) (d' := d) (e' := e) (f' := f) (by omega)
      exact ⟨_, rfl, kp1.trans (Kp.put hs), _, _, _, _, _, _, _, _, S2⟩
  rintro σ' H2 ⟨x, rfl, kp2, sc, ns, i, b, c, d, e, f, S2⟩
  obtain ⟨hs, hsc, hne, hi, ks, ksc⟩ := id S2
  have o1 := (ob_none ks).trans hs
  simp only [o1, hs, cx_K, decide_true, decide_false, reduceCtorEq, gTp, gCons, gNil, ca_0, ca_1, ca_2, ca_3, ca_4, ca_5, ca_6, ca_7, ca_8, ca_9, ca_10, ca_11, ca_12, ca_13, ca_14, ca_15, ca_16, ca_17, ca_18, ca_19, ca_20, ca_21, ca_22, ca_23, ca_24, ca_25, ca_26, ca_27, ca_28, ca_29, ca_30, not_true_eq_false, not_false_eq_true, Int.reduceEq, Nat.reduceEqDiff, Nat.reduceLeDiff, rGcd, V.ty.injEq, eq_self, List.not_mem_nil, beq_self_eq_true, HO.lst.injEq, HO.tup.injEq, tFor_eq, iRng1, iList, iTup, nat10, tSeq, rIxA, rSetA, rIsN, rIsT, tTp, tLs, itsO_tup, itsO_lst, tyO_tup, tyO_lst, tyO_dK, tyN_non, tyN_bl, tyN_int, tyN_str, tyN_ref, tyNs_lt, isB, upd_same, upd_upd, sizeLine_eq, List.mem_cons, String.reduceBEq, String.reduceEq, Bool.or_false, Bool.or_true, Bool.and_false, Bool.false_or, Bool.and_self, Bool.false_and, Bool.not_false, Bool.not_true, List.any_cons, List.any_nil, atI_0, setI_0, atI_1, setI_1, atI_2, setI_2, atI_3, setI_3, atI_4, setI_4, atI_5, setI_5, atI_6, setI_6, tAsg, gName, tOp, tUn, tVar, tC, tCons, L2.tNil, tRet, tIfS, tTest, tCB, tCall, rI, rI0, rU, tNext, tB, tAnd, tOr, tNot, tAndV, tOrV, tNotV, tDrop, tIf, tPar, gSub, rIxL, rIxT, rEq, rNe, rSetL, tBits,
    L2.start, List.map_cons, List.map_nil, List.cons_append, List.nil_append, List.append_nil, List.length_cons, List.length_nil, List.replicate, Nat.reduceAdd, Nat.reduceSub, Nat.zero_add, List.getElem?_cons_zero, List.getElem?_cons_succ, List.set_cons_zero, List.set_cons_succ,
    Option.some.injEq, exists_eq_left', exists_eq_left, V.int.injEq, V.bl.injEq, V.ref.injEq, V.str.injEq, List.cons.injEq, reduceCtorEq, and_true, true_and, false_and, and_false, exists_false, or_false, false_or, or_true, true_or, exists_const, CMul, CDiv, CPow, and_assoc, exists_and_left, exists_and_right, Int.reducePow, Int.reduceNeg, Int.reduceLT, Int.reduceLE, Nat.reducePow, Nat.reduceLT, Int.reduceToNat, gt_iff_lt, ge_iff_le, decide_eq_true_eq, Bool.not_eq_true', decide_eq_false_iff_not, scal, ↓reduceIte, Bool.false_eq_true]
  have hm0 : m ≠ 0 := by omega
  refine ite2 (fun hb => ?_) (fun hb => ?_)
  · have S3 := S2.put (i' := i) (b' := b / m) (c' := c) (d' := d) (e' := e) (f' := f) hi
    refine ⟨hm0, wide_div (b := 200) (by omega) (by omega) (by omega) (by omega), q _ _ ?_ (.inl ?_) (kp2.trans (Kp.put hs)) ⟨_, _, _, _, _, _, _, _, S3⟩⟩
    · rw [Int.fmod_eq_emod_of_nonneg b (by omega)]
      exact Int.emod_nonneg _ hm0
    · rw [Int.fmod_eq_emod_of_nonneg b (by omega)]
      exact Int.emod_lt_of_pos _ (by omega)
  refine ⟨TakeB K s m H, ?_, ?_⟩
  · simp only [o1, hs, cx_K, decide_true, decide_false, reduceCtorEq, gTp, gCons, gNil, ca_0, ca_1, ca_2, ca_3, ca_4, ca_5, ca_6, ca_7, ca_8, ca_9, ca_10, ca_11, ca_12, ca_13, ca_14, ca_15, ca_16, ca_17, ca_18, ca_19, ca_20, ca_21, ca_22, ca_23, ca_24, ca_25, ca_26, ca_27, ca_28, ca_29, ca_30, not_true_eq_false, not_false_eq_true, Int.reduceEq, Nat.reduceEqDiff, Nat.reduceLeDiff, rGcd, V.ty.injEq, eq_self, List.not_mem_nil, beq_self_eq_true, HO.lst.injEq, HO.tup.injEq, tFor_eq, iRng1, iList, iTup, nat10, tSeq, rIxA, rSetA, rIsN, rIsT, tTp, tLs, itsO_tup, itsO_lst, tyO_tup, tyO_lst, tyO_dK, tyN_non, tyN_bl, tyN_int, tyN_str, tyN_ref, tyNs_lt, isB, upd_same, upd_upd, sizeLine_eq, List.mem_cons, String.reduceBEq, String.reduceEq, Bool.or_false, Bool.or_true, Bool.and_false, Bool.false_or, Bool.and_self, Bool.false_and, Bool.not_false, Bool.not_true, List.any_cons, List.any_nil, atI_0, setI_0, atI_1, setI_1, atI_2, setI_2, atI_3, setI_3, atI_4, setI_4, atI_5, setI_5, atI_6, setI_6, tAsg, gName, tOp, tUn, tVar, tC, tCons, L2.tNil, tRet, tIfS, tTest, tCB, tCall, rI, rI0, rU, tNext, tB, tAnd, tOr, tNot, tAndV, tOrV, tNotV, tDrop, tIf, tPar, gSub, rIxL, rIxT, rEq, rNe, rSetL, tBits,
    L2.start, List.map_cons, List.map_nil, List.cons_append, List.nil_append, List.append_nil, List.length_cons, List.length_nil, List.replicate, Nat.reduceAdd, Nat.reduceSub, Nat.zero_add, List.getElem?_cons_zero, List.getElem?_cons_succ, List.set_cons_zero, List.set_cons_succ,
    Option.some.injEq, exists_eq_left', exists_eq_left, V.int.injEq, V.bl.injEq, V.ref.injEq, V.str.injEq, List.cons.injEq, reduceCtorEq, and_true, true_and, false_and, and_false, exists_false, or_false, false_or, or_true, true_or, exists_const, CMul, CDiv, CPow, and_assoc, exists_and_left, exists_and_right, Int.reducePow, Int.reduceNeg, Int.reduceLT, Int.reduceLE, Nat.reducePow, Nat.reduceLT, Int.reduceToNat, gt_iff_lt, ge_iff_le, decide_eq_true_eq, Bool.not_eq_true', decide_eq_false_iff_not, scal, ↓reduceIte, Bool.false_eq_true]
    refine ite2 (fun he => ?_) (fun he => ?_)
    · have S3 := S2.put (i' := i) (b' := b) (c' := c) (d' := d) (e' := e - 1) (f' := f) hi
      have o3 := (ob_none ks).trans S3.1
      simp only [o3, cx_K, decide_true, decide_false, reduceCtorEq, gTp, gCons, gNil, ca_0, ca_1, ca_2, ca_3, ca_4, ca_5, ca_6, ca_7, ca_8, ca_9, ca_10, ca_11, ca_12, ca_13, ca_14, ca_15, ca_16, ca_17, ca_18, ca_19, ca_20, ca_21, ca_22, ca_23, ca_24, ca_25, ca_26, ca_27, ca_28, ca_29, ca_30, not_true_eq_false, not_false_eq_true, Int.reduceEq, Nat.reduceEqDiff, Nat.reduceLeDiff, rGcd, V.ty.injEq, eq_self, List.not_mem_nil, beq_self_eq_true, HO.lst.injEq, HO.tup.injEq, tFor_eq, iRng1, iList, iTup, nat10, tSeq, rIxA, rSetA, rIsN, rIsT, tTp, tLs, itsO_tup, itsO_lst, tyO_tup, tyO_lst, tyO_dK, tyN_non, tyN_bl, tyN_int, tyN_str, tyN_ref, tyNs_lt, isB, upd_same, upd_upd, sizeLine_eq, List.mem_cons, String.reduceBEq, String.reduceEq, Bool.or_false, Bool.or_true, Bool.and_false, Bool.false_or, Bool.and_self, Bool.false_and, Bool.not_false, Bool.not_true, List.any_cons, List.any_nil, atI_0, setI_0, atI_1, setI_1, atI_2, setI_2, atI_3, setI_3, atI_4, setI_4, atI_5, setI_5, atI_6, setI_6, tAsg, gName, tOp, tUn, tVar, tC, tCons, L2.tNil, tRet, tIfS, tTest, tCB, tCall, rI, rI0, rU, tNext, tB, tAnd, tOr, tNot, tAndV, tOrV, tNotV, tDrop, tIf, tPar, gSub, rIxL, rIxT, rEq, rNe, rSetL, tBits,
    L2.start, List.map_cons, List.map_nil, List.cons_append, List.nil_append, List.append_nil, List.length_cons, List.length_nil, List.replicate, Nat.reduceAdd, Nat.reduceSub, Nat.zero_add, List.getElem?_cons_zero, List.getElem?_cons_succ, List.set_cons_zero, List.set_cons_succ,
    Option.some.injEq, exists_eq_left', exists_eq_left, V.int.injEq, V.bl.injEq, V.ref.injEq, V.str.injEq, List.cons.injEq, reduceCtorEq, and_true, true_and, false_and, and_false, exists_false, or_false, false_or, or_true, true_or, exists_const, CMul, CDiv, CPow, and_assoc, exists_and_left, exists_and_right, Int.reducePow, Int.reduceNeg, Int.reduceLT, Int.reduceLE, Nat.reducePow, Nat.reduceLT, Int.reduceToNat, gt_iff_lt, ge_iff_le, decide_eq_true_eq, Bool.not_eq_true', decide_eq_false_iff_not, scal, ↓reduceIte, Bool.false_eq_true]
      exact ⟨_, _, rfl, kp2.trans (Kp.put hs), _, _, _, _, _, _, _, _, S3⟩
    · exact ⟨_, _, rfl, kp2, _, _, _, _, _, _, _, _, S2⟩
  rintro σ' H3 ⟨x, n, rfl, kp3, sc, ns, i, b, c, d, e, f, S3⟩
  obtain ⟨hs, hsc, hne, hi, ks, ksc⟩ := id S3
  have o1 := (ob_none ks).trans hs
  simp only [o1, hs, cx_K, decide_true, decide_false, reduceCtorEq, gTp, gCons, gNil, ca_0, ca_1, ca_2, ca_3, ca_4, ca_5, ca_6, ca_7, ca_8, ca_9, ca_10, ca_11, ca_12, ca_13, ca_14, ca_15, ca_16, ca_17, ca_18, ca_19, ca_20, ca_21, ca_22, ca_23, ca_24, ca_25, ca_26, ca_27, ca_28, ca_29, ca_30, not_true_eq_false, not_false_eq_true, Int.reduceEq, Nat.reduceEqDiff, Nat.reduceLeDiff, rGcd, V.ty.injEq, eq_self, List.not_mem_nil, beq_self_eq_true, HO.lst.injEq, HO.tup.injEq, tFor_eq, iRng1, iList, iTup, nat10, tSeq, rIxA, rSetA, rIsN, rIsT, tTp, tLs, itsO_tup, itsO_lst, tyO_tup, tyO_lst, tyO_dK, tyN_non, tyN_bl, tyN_int, tyN_str, tyN_ref, tyNs_lt, isB, upd_same, upd_upd, sizeLine_eq, List.mem_cons, String.reduceBEq, String.reduceEq, Bool.or_false, Bool.or_true, Bool.and_false, Bool.false_or, Bool.and_self, Bool.false_and, Bool.not_false, Bool.not_true, List.any_cons, List.any_nil, atI_0, setI_0, atI_1, setI_1, atI_2, setI_2, atI_3, setI_3, atI_4, setI_4, atI_5, setI_5, atI_6, setI_6, tAsg, gName, tOp, tUn, tVar, tC, tCons, L2.tNil, tRet, tIfS, tTest, tCB, tCall, rI, rI0, rU, tNext, tB, tAnd, tOr, tNot, tAndV, tOrV, tNotV, tDrop, tIf, tPar, gSub, rIxL, rIxT, rEq, rNe, rSetL, tBits,
    L2.start, List.map_cons, List.map_nil, List.cons_append, List.nil_append, List.append_nil, List.length_cons, List.length_nil, List.replicate, Nat.reduceAdd, Nat.reduceSub, Nat.zero_add, List.getElem?_cons_zero, List.getElem?_cons_succ, List.set_cons_zero, List.set_cons_succ,
    Option.some.injEq, exists_eq_left', exists_eq_left, V.int.injEq, V.bl.injEq, V.ref.injEq, V.str.injEq, List.cons.injEq, reduceCtorEq, and_true, true_and, false_and, and_false, exists_false, or_false, false_or, or_true, true_or, exists_const, CMul, CDiv, CPow, and_assoc, exists_and_left, exists_and_right, Int.reducePow, Int.reduceNeg, Int.reduceLT, Int.reduceLE, Nat.reducePow, Nat.reduceLT, Int.reduceToNat, gt_iff_lt, ge_iff_le, decide_eq_true_eq, Bool.not_eq_true', decide_eq_false_iff_not, scal, ↓reduceIte, Bool.false_eq_true]
  have hbits : Builtin.Int.intBits m ≤ 200 := bits_le (by omega)
  refine ⟨by omega, by omega, forI_range (TakeC s m x n H3) ⟨0, none, rfl, rfl⟩ ?_ ?_⟩
  · rintro k σ H' hk ⟨v, y, rfl, rfl⟩
    simp only [o1, hs, cx_K, decide_true, decide_false, reduceCtorEq, gTp, gCons, gNil, ca_0, ca_1, ca_2, ca_3, ca_4, ca_5, ca_6, ca_7, ca_8, ca_9, ca_10, ca_11, ca_12, ca_13, ca_14, ca_15, ca_16, ca_17, ca_18, ca_19, ca_20, ca_21, ca_22, ca_23, ca_24, ca_25, ca_26, ca_27, ca_28, ca_29, ca_30, not_true_eq_false, not_false_eq_true, Int.reduceEq, Nat.reduceEqDiff, Nat.reduceLeDiff, rGcd, V.ty.injEq, eq_self, List.not_mem_nil, beq_self_eq_true, HO.lst.injEq, HO.tup.injEq, tFor_eq, iRng1, iList, iTup, nat10, tSeq, rIxA, rSetA, rIsN, rIsT, tTp, tLs, itsO_tup, itsO_lst, tyO_tup, tyO_lst, tyO_dK, tyN_non, tyN_bl, tyN_int, tyN_str, tyN_ref, tyNs_lt, isB, upd_same, upd_upd, sizeLine_eq, List.mem_cons, String.reduceBEq, String.reduceEq, Bool.or_false, Bool.or_true, Bool.and_false, Bool.false_or, Bool.and_self, Bool.false_and, Bool.not_false, Bool.not_true, List.any_cons, List.any_nil, atI_0, setI_0, atI_1, setI_1, atI_2, setI_2, atI_3, setI_3, atI_4, setI_4, atI_5, setI_5, atI_6, setI_6, tAsg, gName, tOp, tUn, tVar, tC, tCons, L2.tNil, tRet, tIfS, tTest, tCB, tCall, rI, rI0, rU, tNext, tB, tAnd, tOr, tNot, tAndV, tOrV, tNotV, tDrop, tIf, tPar, gSub, rIxL, rIxT, rEq, rNe, rSetL, tBits,
    L2.start, List.map_cons, List.map_nil, List.cons_append, List.nil_append, List.append_nil, List.length_cons, List.length_nil, List.replicate, Nat.reduceAdd, Nat.reduceSub, Nat.zero_add, List.getElem?_cons_zero, List.getElem?_cons_succ, List.set_cons_zero, List.set_cons_succ,
    Option.some.injEq, exists_eq_left', exists_eq_left, V.int.injEq, V.bl.injEq, V.ref.injEq, V.str.injEq, List.cons.injEq, reduceCtorEq, and_true, true_and, false_and, and_false, exists_false, or_false, false_or, or_true, true_or, exists_const, CMul, CDiv, CPow, and_assoc, exists_and_left, exists_and_right, Int.reducePow, Int.reduceNeg, Int.reduceLT, Int.reduceLE, Nat.reducePow, Nat.reduceLT, Int.reduceToNat, gt_iff_lt, ge_iff_le, decide_eq_true_eq, Bool.not_eq_true', decide_eq_false_iff_not, scal, ↓reduceIte, Bool.false_eq_true]
    refine ⟨_, _, rfl, fun r => ?_⟩
    simp only [cx_K, decide_true, decide_false, reduceCtorEq, gTp, gCons, gNil, ca_0, ca_1, ca_2, ca_3, ca_4, ca_5, ca_6, ca_7, ca_8, ca_9, ca_10, ca_11, ca_12, ca_13, ca_14, ca_15, ca_16, ca_17, ca_18, ca_19, ca_20, ca_21, ca_22, ca_23, ca_24, ca_25, ca_26, ca_27, ca_28, ca_29, ca_30, not_true_eq_false, not_false_eq_true, Int.reduceEq, Nat.reduceEqDiff, Nat.reduceLeDiff, rGcd, V.ty.injEq, eq_self, List.not_mem_nil, beq_self_eq_true, HO.lst.injEq, HO.tup.injEq, tFor_eq, iRng1, iList, iTup, nat10, tSeq, rIxA, rSetA, rIsN, rIsT, tTp, tLs, itsO_tup, itsO_lst, tyO_tup, tyO_lst, tyO_dK, tyN_non, tyN_bl, tyN_int, tyN_str, tyN_ref, tyNs_lt, isB, upd_same, upd_upd, sizeLine_eq, List.mem_cons, String.reduceBEq, String.reduceEq, Bool.or_false, Bool.or_true, Bool.and_false, Bool.false_or, Bool.and_self, Bool.false_and, Bool.not_false, Bool.not_true, List.any_cons, List.any_nil, atI_0, setI_0, atI_1, setI_1, atI_2, setI_2, atI_3, setI_3, atI_4, setI_4, atI_5, setI_5, atI_6, setI_6, tAsg, gName, tOp, tUn, tVar, tC, tCons, L2.tNil, tRet, tIfS, tTest, tCB, tCall, rI, rI0, rU, tNext, tB, tAnd, tOr, tNot, tAndV, tOrV, tNotV, tDrop, tIf, tPar, gSub, rIxL, rIxT, rEq, rNe, rSetL, tBits,
    L2.start, List.map_cons, List.map_nil, List.cons_append, List.nil_append, List.append_nil, List.length_cons, List.length_nil, List.replicate, Nat.reduceAdd, Nat.reduceSub, Nat.zero_add, List.getElem?_cons_zero, List.getElem?_cons_succ, List.set_cons_zero, List.set_cons_succ,
    Option.some.injEq, exists_eq_left', exists_eq_left, V.int.injEq, V.bl.injEq, V.ref.injEq, V.str.injEq, List.cons.injEq, reduceCtorEq, and_true, true_and, false_and, and_false, exists_false, or_false, false_or, or_true, true_or, exists_const, CMul, CDiv, CPow, and_assoc, exists_and_left, exists_and_right, Int.reducePow, Int.reduceNeg, Int.reduceLT, Int.reduceLE, Nat.reducePow, Nat.reduceLT, Int.reduceToNat, gt_iff_lt, ge_iff_le, decide_eq_true_eq, Bool.not_eq_true', decide_eq_false_iff_not, scal, ↓reduceIte, Bool.false_eq_true]
    exact ⟨_, _, rfl, rfl⟩
  · rintro σ H' ⟨v, y, rfl, rfl⟩
    simp only [cx_K, decide_true, decide_false, reduceCtorEq, gTp, gCons, gNil, ca_0, ca_1, ca_2, ca_3, ca_4, ca_5, ca_6, ca_7, ca_8, ca_9, ca_10, ca_11, ca_12, ca_13, ca_14, ca_15, ca_16, ca_17, ca_18, ca_19, ca_20, ca_21, ca_22, ca_23, ca_24, ca_25, ca_26, ca_27, ca_28, ca_29, ca_30, not_true_eq_false, not_false_eq_true, Int.reduceEq, Nat.reduceEqDiff, Nat.reduceLeDiff, rGcd, V.ty.injEq, eq_self, List.not_mem_nil, beq_self_eq_true, HO.lst.injEq, HO.tup.injEq, tFor_eq, iRng1, iList, iTup, nat10, tSeq, rIxA, rSetA, rIsN, rIsT, tTp, tLs, itsO_tup, itsO_lst, tyO_tup, tyO_lst, tyO_dK, tyN_non, tyN_bl, tyN_int, tyN_str, tyN_ref, tyNs_lt, isB, upd_same, upd_upd, sizeLine_eq, List.mem_cons, String.reduceBEq, String.reduceEq, Bool.or_false, Bool.or_true, Bool.and_false, Bool.false_or, Bool.and_self, Bool.false_and, Bool.not_false, Bool.not_true, List.any_cons, List.any_nil, atI_0, setI_0, atI_1, setI_1, atI_2, setI_2, atI_3, setI_3, atI_4, setI_4, atI_5, setI_5, atI_6, setI_6, tAsg, gName, tOp, tUn, tVar, tC, tCons, L2.tNil, tRet, tIfS, tTest, tCB, tCall, rI, rI0, rU, tNext, tB, tAnd, tOr, tNot, tAndV, tOrV, tNotV, tDrop, tIf, tPar, gSub, rIxL, rIxT, rEq, rNe, rSetL, tBits,
    L2.start, List.map_cons, List.map_nil, List.cons_append, List.nil_append, List.append_nil, List.length_cons, List.length_nil, List.replicate, Nat.reduceAdd, Nat.reduceSub, Nat.zero_add, List.getElem?_cons_zero, List.getElem?_cons_succ, List.set_cons_zero, List.set_cons_succ,
    Option.some.injEq, exists_eq_left', exists_eq_left, V.int.injEq, V.bl.injEq, V.ref.injEq, V.str.injEq, List.cons.injEq, reduceCtorEq, and_true, true_and, false_and, and_false, exists_false, or_false, false_or, or_true, true_or, exists_const, CMul, CDiv, CPow, and_assoc, exists_and_left, exists_and_right, Int.reducePow, Int.reduceNeg, Int.reduceLT, Int.reduceLE, Nat.reducePow, Nat.reduceLT, Int.reduceToNat, gt_iff_lt, ge_iff_le, decide_eq_true_eq, Bool.not_eq_true', decide_eq_false_iff_not, scal, ↓reduceIte, Bool.false_eq_true]
    refine ⟨hm0, q _ _ ?_ (.inl ?_) kp3 ⟨_, _, _, _, _, _, _, _, S3⟩⟩
    · rw [Int.fmod_eq_emod_of_nonneg v (by omega)]
      exact Int.emod_nonneg _ hm0
    · rw [Int.fmod_eq_emod_of_nonneg v (by omega)]
      exact Int.emod_lt_of_pos _ (by omega)
end
end My

namespace My
open PySem PySem.Spec PyProof.Rows L2
section
variable {P : Program} {w : World} {K : PySem.W.Frag} {mg : Str → Option Value} {base : Heap}
theorem abs_if (n : Int) : (if n < 0 then -n else n) = (n.natAbs : Int) := by split <;> omega
def spGcd : Sp := fun vs H Q _ => ∃ a b : Int, vs = [.int a, .int b] ∧ Q (.int ((Int.gcd a b : Nat) : Int)) H
def GcdW (a b : Int) (H : Hp) (σ : L2.St) (H' : Hp) : Prop := ∃ l r : Int, σ = [some (.int l), some (.int r)] ∧ H' = H ∧ 0 ≤ l ∧ 0 ≤ r ∧ Int.gcd l r = Int.gcd a b
def GcdM (σ : L2.St) (_ : Hp) : Nat := match σ with
  | [_, some (.int r)] => r.toNat
  | _ => 0
abbrev sGcd : Stmt := topS 47
theorem scGcd : FnScope ["_law_left", "_law_right"] ["_law_left", "_law_right"] (defScope sGcd) := ⟨rfl, rfl, rfl, by decide +kernel, rfl, by decide +kernel, by decide +kernel⟩
theorem k_Gcd (T : Bt K mg) (D : Dfn K mg "_law_gcd" sGcd ["_law_left", "_law_right"]) : Kn P w K mg base 1 "_law_gcd" ["_law_left", "_law_right"] spGcd := by
  refine Kn.mk' D scGcd (fun vs H Q E h => ?_) (fun f cdv A outer s H vs Q E hr h => ?_)
  · obtain ⟨a, b, rfl, _⟩ := h
    rfl
  obtain ⟨a, b, rfl, q⟩ := h
  refine ⟨_, (pss_cons (ps_set (i := 0) scGcd.nd rfl (.inl rfl) (pe_callB call_abs (by rfl) T.b_abs (by decide +kernel) (pa_cons (pv 0) pa_nil)))
      (pss_cons (ps_set (i := 1) scGcd.nd rfl (.inl rfl) (pe_callB call_abs (by rfl) T.b_abs (by decide +kernel) (pa_cons (pv 1) pa_nil)))
      (pss_cons (ps_while PassesOwn.never (pt_cmpR op_gt (pv 1) pe_int (nomark _)) (pss_one (ps_par (i := 0) (j := 1) (by rfl) scGcd.nd rfl rfl (by decide) rfl rfl (pa_cons (pv 1) (pa_cons (pe_op op_modN (pe_callTy call_int1 (by rfl) T.b_int (by decide +kernel) (pa_cons (pv 0) pa_nil)) (pv 1)) pa_nil)) (by rfl))))
      (pss_one (ps_ret (pv 0)))))), ?_⟩
  simp only [abs_if, cx_K, decide_true, decide_false, reduceCtorEq, gTp, gCons, gNil, ca_0, ca_1, ca_2, ca_3, ca_4, ca_5, ca_6, ca_7, ca_8, ca_9, ca_10, ca_11, ca_12, ca_13, ca_14, ca_15, ca_16, ca_17, ca_18, ca_19, ca_20, ca_21, ca_22, ca_23, ca_24, ca_25, ca_26, ca_27, ca_28, ca_29, ca_30, not_true_eq_false, not_false_eq_true, Int.reduceEq, Nat.reduceEqDiff, Nat.reduceLeDiff, rGcd, V.ty.injEq, eq_self, List.not_mem_nil, beq_self_eq_true, HO.lst.injEq, HO.tup.injEq, tFor_eq, iRng1, iList, iTup, nat10, tSeq, rIxA, rSetA, rIsN, rIsT, tTp, tLs, itsO_tup, itsO_lst, tyO_tup, tyO_lst, tyO_dK, tyN_non, tyN_bl, tyN_int, tyN_str, tyN_ref, tyNs_lt, isB, upd_same, upd_upd, sizeLine_eq, List.mem_cons, String.reduceBEq, String.reduceEq, Bool.or_false, Bool.or_true, Bool.and_false, Bool.false_or, Bool.and_self, Bool.false_and, Bool.not_false, Bool.not_true, List.any_cons, List.any_nil, atI_0, setI_0, atI_1, setI_1, atI_2, setI_2, atI_3, setI_3, atI_4, setI_4, atI_5, setI_5, atI_6, setI_6, tAsg, gName, tOp, tUn, tVar, tC, tCons, L2.tNil, tRet, tIfS, tTest, tCB, tCall, rI, rI0, rU, tNext, tB, tAnd, tOr, tNot, tAndV, tOrV, tNotV, tDrop, tIf, tPar, gSub, rIxL, rIxT, rEq, rNe, rSetL, tBits,
    L2.start, List.map_cons, List.map_nil, List.cons_append, List.nil_append, List.append_nil, List.length_cons, List.length_nil, List.replicate, Nat.reduceAdd, Nat.reduceSub, Nat.zero_add, List.getElem?_cons_zero, List.getElem?_cons_succ, List.set_cons_zero, List.set_cons_succ,
    Option.some.injEq, exists_eq_left', exists_eq_left, V.int.injEq, V.bl.injEq, V.ref.injEq, V.str.injEq, List.cons.injEq, reduceCtorEq, and_true, true_and, false_and, and_false, exists_false, or_false, false_or, or_true, true_or, exists_const, CMul, CDiv, CPow, and_assoc, exists_and_left, exists_and_right, Int.reducePow, Int.reduceNeg, Int.reduceLT, Int.reduceLE, Nat.reducePow, Nat.reduceLT, Int.reduceToNat, gt_iff_lt, ge_iff_le, decide_eq_true_eq, Bool.not_eq_true', decide_eq_false_iff_not, scal, ↓reduceIte, Bool.false_eq_true]
  refine while_by (GcdW a b H) GcdM ⟨_, _, rfl, rfl, by omega, by omega, rfl⟩ ?_ ?_
  · rintro σ H' ⟨l, r, rfl, rfl, hl, hr, e⟩
    simp only [cx_K, decide_true, decide_false, reduceCtorEq, gTp, gCons, gNil, ca_0, ca_1, ca_2, ca_3, ca_4, ca_5, ca_6, ca_7, ca_8, ca_9, ca_10, ca_11, ca_12, ca_13, ca_14, ca_15, ca_16, ca_17, ca_18, ca_19, ca_20, ca_21, ca_22, ca_23, ca_24, ca_25, ca_26, ca_27, ca_28, ca_29, ca_30, not_true_eq_false, not_false_eq_true, Int.reduceEq, Nat.reduceEqDiff, Nat.reduceLeDiff, rGcd, V.ty.injEq, eq_self, List.not_mem_nil, beq_self_eq_true, HO.lst.injEq, HO.tup.injEq, tFor_eq, iRng1, iList, iTup, nat10, tSeq, rIxA, rSetA, rIsN, rIsT, tTp, tLs, itsO_tup, itsO_lst, tyO_tup, tyO_lst, tyO_dK, tyN_non, tyN_bl, tyN_int, tyN_str, tyN_ref, tyNs_lt, isB, upd_same, upd_upd, sizeLine_eq, List.mem_cons, String.reduceBEq, String.reduceEq, Bool.or_false, Bool.or_true, Bool.and_false, Bool.false_or, Bool.and_self, Bool.false_and, Bool.not_false, Bool.not_true, List.any_cons, List.any_nil, atI_0, setI_0, atI_1, setI_1, atI_2, setI_2, atI_3, setI_3, atI_4, setI_4, atI_5, setI_5, atI_6, setI_6, tAsg, gName, tOp, tUn, tVar, tC, tCons, L2.tNil, tRet, tIfS, tTest, tCB, tCall, rI, rI0, rU, tNext, tB, tAnd, tOr, tNot, tAndV, tOrV, tNotV, tDrop, tIf, tPar, gSub, rIxL, rIxT, rEq, rNe, rSetL, tBits,
    L2.start, List.map_cons, List.map_nil, List.cons_append, List.nil_append, List.append_nil, List.length_cons, List.length_nil, List.replicate, Nat.reduceAdd, Nat.reduceSub, Nat.zero_add, List.getElem?_cons_zero, List.getElem?_cons_succ, List.set_cons_zero, List.set_cons_succ,
    Option.some.injEq, exists_eq_left', exists_eq_left, V.int.injEq, V.bl.injEq, V.ref.injEq, V.str.injEq, List.cons.injEq, reduceCtorEq, and_true, true_and, false_and, and_false, exists_false, or_false, false_or, or_true, true_or, exists_const, CMul, CDiv, CPow, and_assoc, exists_and_left, exists_and_right, Int.reducePow, Int.reduceNeg, Int.reduceLT, Int.reduceLE, Nat.reducePow, Nat.reduceLT, Int.reduceToNat, gt_iff_lt, ge_iff_le, decide_eq_true_eq, Bool.not_eq_true', decide_eq_false_iff_not, scal, ↓reduceIte, Bool.false_eq_true]
    refine ite2 (fun h => ?_) (fun h => ?_)
    · refine ⟨by omega, ⟨_, _, rfl, rfl, hr, ?_, ?_⟩, ?_⟩
      · rw [Int.fmod_eq_emod_of_nonneg l hr]
        exact Int.emod_nonneg _ (by omega)
      · rw [Int.fmod_eq_emod_of_nonneg l hr, ← e]
        show Nat.gcd r.natAbs (l % r).natAbs = Nat.gcd l.natAbs r.natAbs
        rw [Int.natAbs_emod_of_nonneg hl, Nat.gcd_comm l.natAbs, Nat.gcd_rec r.natAbs l.natAbs, Nat.gcd_comm]
      · show (l.fmod r).toNat < r.toNat
        rw [Int.fmod_eq_emod_of_nonneg l hr]
        have := Int.emod_lt_of_pos l h
        omega
    · have hr0 : r = 0 := by omega
      subst hr0
      have e2 : l = ((Int.gcd a b : Nat) : Int) := by
        rw [← e, Int.gcd_zero_right]
        omega
      rw [e2]
      exact q
  · rintro σ H' Q' Q2 hq ⟨v, e, i, j, h1, h2, k, ek, h⟩
    exact ⟨v, e, i, j, h1, h2, k, ek, hq _ _ h⟩
/-- the law's own lowest terms; 0 beneath gives 0 -/
def Lw (q : Qt) (t b : Int) : Prop := (b = 0 → q = (0, 1)) ∧ (b ≠ 0 → Is q t b)
/-- hands back a fraction, all else as it was -/
def Gv (K : PySem.W.Frag) (H : Hp) (Q : VK) (q : Qt) : Prop := ∀ (p : Addr) (H' : Hp), Same H H' → ob K H' p = some (frt q) → Q (.ref p) H'
theorem Gv.new {K : PySem.W.Frag} {H : Hp} {Q : VK} {q : Qt} (h : Gv K H Q q) {p : Addr} (hp : H p = none) (kp : K.lookup p = none) : Q (.ref p) (upd H p (.tup [.int q.1, .int q.2])) := h p _ (Same.new hp _) (ob_new kp)
def spLowest (K : PySem.W.Frag) : Sp := fun vs H Q _ => ∃ t b : Int, vs = [.int t, .int b] ∧ b.natAbs < 2 ^ 8000 ∧ ∀ q, Lw q t b → Gv K H Q q
abbrev sLowest : Stmt := topS 48
theorem scLowest : FnScope ["_law_top", "_law_bottom", "_law_common"] ["_law_top", "_law_bottom"] (defScope sLowest) := ⟨rfl, rfl, rfl, by decide +kernel, rfl, by decide +kernel, by decide +kernel⟩
theorem k_Lowest (T : Bt K mg) (D : Dfn K mg "_law_lowest" sLowest ["_law_top", "_law_bottom"]) (d__law_gcd : Kn P w K mg base 1 "_law_gcd" ["_law_left", "_law_right"] spGcd) : Kn P w K mg base 2 "_law_lowest" ["_law_top", "_law_bottom"] (spLowest K) := by
  refine Kn.mk' D scLowest (fun vs H Q E h => ?_) (fun f cdv A outer s H vs Q E hr h => ?_)
  · obtain ⟨t, b, rfl, _⟩ := h
    rfl
  obtain ⟨t, b, rfl, hz, q⟩ := h
  refine ⟨_, (pss_cons (ps_if (pt_cmpR op_eq (pv 1) pe_int (nomark _)) (pss_one (ps_ret (pe_tp (pa_cons pe_int (pa_cons pe_int pa_nil))))) pss_nil)
      (pss_cons (ps_if (pt_cmpR op_lt (pv 1) pe_int (nomark _)) (pss_cons (ps_set (i := 0) scLowest.nd rfl (.inl rfl) (pe_un un_neg (pv 0)))
      (pss_one (ps_set (i := 1) scLowest.nd rfl (.inl rfl) (pe_un un_neg (pv 1))))) pss_nil)
      (pss_cons (ps_set (i := 2) scLowest.nd rfl (.inl rfl) (pe_kn d__law_gcd hr (by rfl) (pa_cons (pv 0) (pa_cons (pv 1) pa_nil))))
      (pss_one (ps_ret (pe_tp (pa_cons (pe_op op_fdivW (pv 0) (pv 2)) (pa_cons (pe_op op_fdivW (pv 1) (pv 2)) pa_nil)))))))), ?_⟩
  simp only [cx_K, decide_true, decide_false, reduceCtorEq, gTp, gCons, gNil, ca_0, ca_1, ca_2, ca_3, ca_4, ca_5, ca_6, ca_7, ca_8, ca_9, ca_10, ca_11, ca_12, ca_13, ca_14, ca_15, ca_16, ca_17, ca_18, ca_19, ca_20, ca_21, ca_22, ca_23, ca_24, ca_25, ca_26, ca_27, ca_28, ca_29, ca_30, not_true_eq_false, not_false_eq_true, Int.reduceEq, Nat.reduceEqDiff, Nat.reduceLeDiff, rGcd, V.ty.injEq, eq_self, List.not_mem_nil, beq_self_eq_true, HO.lst.injEq, HO.tup.injEq, tFor_eq, iRng1, iList, iTup, nat10, tSeq, rIxA, rSetA, rIsN, rIsT, tTp, tLs, itsO_tup, itsO_lst, tyO_tup, tyO_lst, tyO_dK, tyN_non, tyN_bl, tyN_int, tyN_str, tyN_ref, tyNs_lt, isB, upd_same, upd_upd, sizeLine_eq, List.mem_cons, String.reduceBEq, String.reduceEq, Bool.or_false, Bool.or_true, Bool.and_false, Bool.false_or, Bool.and_self, Bool.false_and, Bool.not_false, Bool.not_true, List.any_cons, List.any_nil, atI_0, setI_0, atI_1, setI_1, atI_2, setI_2, atI_3, setI_3, atI_4, setI_4, atI_5, setI_5, atI_6, setI_6, tAsg, gName, tOp, tUn, tVar, tC, tCons, L2.tNil, tRet, tIfS, tTest, tCB, tCall, rI, rI0, rU, tNext, tB, tAnd, tOr, tNot, tAndV, tOrV, tNotV, tDrop, tIf, tPar, gSub, rIxL, rIxT, rEq, rNe, rSetL, tBits,
    L2.start, List.map_cons, List.map_nil, List.cons_append, List.nil_append, List.append_nil, List.length_cons, List.length_nil, List.replicate, Nat.reduceAdd, Nat.reduceSub, Nat.zero_add, List.getElem?_cons_zero, List.getElem?_cons_succ, List.set_cons_zero, List.set_cons_succ,
    Option.some.injEq, exists_eq_left', exists_eq_left, V.int.injEq, V.bl.injEq, V.ref.injEq, V.str.injEq, List.cons.injEq, reduceCtorEq, and_true, true_and, false_and, and_false, exists_false, or_false, false_or, or_true, true_or, exists_const, CMul, CDiv, CPow, and_assoc, exists_and_left, exists_and_right, Int.reducePow, Int.reduceNeg, Int.reduceLT, Int.reduceLE, Nat.reducePow, Nat.reduceLT, Int.reduceToNat, gt_iff_lt, ge_iff_le, decide_eq_true_eq, Bool.not_eq_true', decide_eq_false_iff_not, scal, ↓reduceIte, Bool.false_eq_true]
  refine ite2 (fun h => ?_) (fun h => ?_)
  · exact fun p hp kp => (q (0, 1) ⟨fun _ => rfl, fun z => absurd h z⟩).new hp kp
  have key : ∀ t' b' : Int, 0 < b' → b'.natAbs < 2 ^ 8000 → (∀ q, Is q t' b' → Gv K H Q q) → CDivW t' ((Int.gcd t' b' : Nat) : Int) ∧ CDivW b' ((Int.gcd t' b' : Nat) : Int) ∧ ∀ p, H p = none → K.lookup p = none → Q (.ref p) (upd H p (.tup [.int (t' / ((Int.gcd t' b' : Nat) : Int)), .int (b' / ((Int.gcd t' b' : Nat) : Int))])) := fun t' b' h0 hz hq => by
    have g0 := gcd_pos (t := t') (b := b') (by omega)
    have g1 := gcd_le (t := t') (b := b') (by omega)
    have g2 : ((Int.gcd t' b' : Nat) : Int).natAbs < 2 ^ 8000 := by rw [Int.natAbs_natCast]; omega
    exact ⟨wide_div (b := 8000) (by omega) g2 (by omega) (by omega), wide_div (b := 8000) (by omega) g2 (by omega) (by omega), fun p hp kp => (hq _ (is_div h0)).new hp kp⟩
  refine ite2 (fun hb => ?_) (fun hb => ?_)
  · have k := key (-t) (-b) (by omega) (by rw [Int.natAbs_neg]; exact hz) fun z hz => q z ⟨fun e => absurd e h, fun _ => is_neg hz⟩
    refine ⟨_, _, rfl, ?_⟩
    simp only [cx_K, decide_true, decide_false, reduceCtorEq, gTp, gCons, gNil, ca_0, ca_1, ca_2, ca_3, ca_4, ca_5, ca_6, ca_7, ca_8, ca_9, ca_10, ca_11, ca_12, ca_13, ca_14, ca_15, ca_16, ca_17, ca_18, ca_19, ca_20, ca_21, ca_22, ca_23, ca_24, ca_25, ca_26, ca_27, ca_28, ca_29, ca_30, not_true_eq_false, not_false_eq_true, Int.reduceEq, Nat.reduceEqDiff, Nat.reduceLeDiff, rGcd, V.ty.injEq, eq_self, List.not_mem_nil, beq_self_eq_true, HO.lst.injEq, HO.tup.injEq, tFor_eq, iRng1, iList, iTup, nat10, tSeq, rIxA, rSetA, rIsN, rIsT, tTp, tLs, itsO_tup, itsO_lst, tyO_tup, tyO_lst, tyO_dK, tyN_non, tyN_bl, tyN_int, tyN_str, tyN_ref, tyNs_lt, isB, upd_same, upd_upd, sizeLine_eq, List.mem_cons, String.reduceBEq, String.reduceEq, Bool.or_false, Bool.or_true, Bool.and_false, Bool.false_or, Bool.and_self, Bool.false_and, Bool.not_false, Bool.not_true, List.any_cons, List.any_nil, atI_0, setI_0, atI_1, setI_1, atI_2, setI_2, atI_3, setI_3, atI_4, setI_4, atI_5, setI_5, atI_6, setI_6, tAsg, gName, tOp, tUn, tVar, tC, tCons, L2.tNil, tRet, tIfS, tTest, tCB, tCall, rI, rI0, rU, tNext, tB, tAnd, tOr, tNot, tAndV, tOrV, tNotV, tDrop, tIf, tPar, gSub, rIxL, rIxT, rEq, rNe, rSetL, tBits,
    L2.start, List.map_cons, List.map_nil, List.cons_append, List.nil_append, List.append_nil, List.length_cons, List.length_nil, List.replicate, Nat.reduceAdd, Nat.reduceSub, Nat.zero_add, List.getElem?_cons_zero, List.getElem?_cons_succ, List.set_cons_zero, List.set_cons_succ,
    Option.some.injEq, exists_eq_left', exists_eq_left, V.int.injEq, V.bl.injEq, V.ref.injEq, V.str.injEq, List.cons.injEq, reduceCtorEq, and_true, true_and, false_and, and_false, exists_false, or_false, false_or, or_true, true_or, exists_const, CMul, CDiv, CPow, and_assoc, exists_and_left, exists_and_right, Int.reducePow, Int.reduceNeg, Int.reduceLT, Int.reduceLE, Nat.reducePow, Nat.reduceLT, Int.reduceToNat, gt_iff_lt, ge_iff_le, decide_eq_true_eq, Bool.not_eq_true', decide_eq_false_iff_not, scal, ↓reduceIte, Bool.false_eq_true]
    exact k
  · have k := key t b (by omega) hz fun z hz => q z ⟨fun e => absurd e h, fun _ => hz⟩
    refine ⟨_, _, rfl, ?_⟩
    simp only [cx_K, decide_true, decide_false, reduceCtorEq, gTp, gCons, gNil, ca_0, ca_1, ca_2, ca_3, ca_4, ca_5, ca_6, ca_7, ca_8, ca_9, ca_10, ca_11, ca_12, ca_13, ca_14, ca_15, ca_16, ca_17, ca_18, ca_19, ca_20, ca_21, ca_22, ca_23, ca_24, ca_25, ca_26, ca_27, ca_28, ca_29, ca_30, not_true_eq_false, not_false_eq_true, Int.reduceEq, Nat.reduceEqDiff, Nat.reduceLeDiff, rGcd, V.ty.injEq, eq_self, List.not_mem_nil, beq_self_eq_true, HO.lst.injEq, HO.tup.injEq, tFor_eq, iRng1, iList, iTup, nat10, tSeq, rIxA, rSetA, rIsN, rIsT, tTp, tLs, itsO_tup, itsO_lst, tyO_tup, tyO_lst, tyO_dK, tyN_non, tyN_bl, tyN_int, tyN_str, tyN_ref, tyNs_lt, isB, upd_same, upd_upd, sizeLine_eq, List.mem_cons, String.reduceBEq, String.reduceEq, Bool.or_false, Bool.or_true, Bool.and_false, Bool.false_or, Bool.and_self, Bool.false_and, Bool.not_false, Bool.not_true, List.any_cons, List.any_nil, atI_0, setI_0, atI_1, setI_1, atI_2, setI_2, atI_3, setI_3, atI_4, setI_4, atI_5, setI_5, atI_6, setI_6, tAsg, gName, tOp, tUn, tVar, tC, tCons, L2.tNil, tRet, tIfS, tTest, tCB, tCall, rI, rI0, rU, tNext, tB, tAnd, tOr, tNot, tAndV, tOrV, tNotV, tDrop, tIf, tPar, gSub, rIxL, rIxT, rEq, rNe, rSetL, tBits,
    L2.start, List.map_cons, List.map_nil, List.cons_append, List.nil_append, List.append_nil, List.length_cons, List.length_nil, List.replicate, Nat.reduceAdd, Nat.reduceSub, Nat.zero_add, List.getElem?_cons_zero, List.getElem?_cons_succ, List.set_cons_zero, List.set_cons_succ,
    Option.some.injEq, exists_eq_left', exists_eq_left, V.int.injEq, V.bl.injEq, V.ref.injEq, V.str.injEq, List.cons.injEq, reduceCtorEq, and_true, true_and, false_and, and_false, exists_false, or_false, false_or, or_true, true_or, exists_const, CMul, CDiv, CPow, and_assoc, exists_and_left, exists_and_right, Int.reducePow, Int.reduceNeg, Int.reduceLT, Int.reduceLE, Nat.reducePow, Nat.reduceLT, Int.reduceToNat, gt_iff_lt, ge_iff_le, decide_eq_true_eq, Bool.not_eq_true', decide_eq_false_iff_not, scal, ↓reduceIte, Bool.false_eq_true]
    exact k
end
end My

namespace My
open PySem PySem.Spec PyProof.Rows L2
section
variable {P : Program} {w : World} {K : PySem.W.Frag} {mg : Str → Option Value} {base : Heap}
end
structure DfnD (K : PySem.W.Frag) (mg : Str → Option Value) (x : Str) (st : Stmt) (ps : List Str) : Prop where
  ex : ∃ f fd dvs, FunD K x x (defArgs st) (defBody st) (defScope st) dvs [] f fd ∧ mg x = some (.ref f) ∧ Binds K fd ps []
theorem Kn.mkD {P : Program} {w : World} {K : PySem.W.Frag} {mg : Str → Option Value} {base : Heap} {x : Str} {st : Stmt} {N ps : List Str} {k : Nat} {sp : Sp} (D : DfnD K mg x st ps) (S : FnScope N ps (defScope st)) (len : ∀ vs H Q E, sp vs H Q E → vs.length = ps.length)
    (hbody : ∀ (f : Addr) (cdv : Value) (A : Around) (outer : List Env) (s : Shared) (H : Hp) (vs : List V) (Q : VK) (E : XK), Room k (A.deeper (envOfC x (defScope st) s.heap.objs.size f cdv)) → sp vs H Q E →
      ∃ t, PSs (cxOf CX0 P w K mg base N x (defScope st) f cdv A outer s H E).nox (defBody st) t ∧ t { nx := fun _ H' => Q .non H', rt := Q } (start N vs) H) : Kn P w K mg base (k + 1) x ps sp := by
  obtain ⟨f, fd, dvs, F, m, b⟩ := D.ex
  exact ⟨f, fd, m, F.kp, b, F.ok S len fun cdv A outer s H vs Q E hr h => let ⟨t, a, c⟩ := hbody f cdv A outer s H vs Q E hr h; ⟨t, a.nox, c⟩⟩
section
variable {P : Program} {w : World} {K : PySem.W.Frag} {mg : Str → Option Value} {base : Heap}
def spRequire : Sp := fun vs H Q _ => ∃ x : V, vs = [.bl true, x] ∧ Q .non H
abbrev sRequire : Stmt := topS 15
theorem scRequire : FnScope ["well_formed", "what"] ["well_formed", "what"] (defScope sRequire) := ⟨rfl, rfl, rfl, by decide +kernel, rfl, by decide +kernel, by decide +kernel⟩
theorem k_Require (T : Bt K mg) (D : Dfn K mg "require" sRequire ["well_formed", "what"]) : Kn P w K mg base 1 "require" ["well_formed", "what"] spRequire := by
  refine Kn.mk' D scRequire (fun vs H Q E h => ?_) (fun f cdv A outer s H vs Q E hr h => ?_)
  · obtain ⟨x, rfl, _⟩ := h
    rfl
  obtain ⟨x, rfl, q⟩ := h
  refine ⟨_, (pss_one (ps_if (pt_not (pt_val (pv 0))) (pss_one ps_never) pss_nil)), ?_⟩
  simp only [cx_K, decide_true, decide_false, reduceCtorEq, gTp, gCons, gNil, ca_0, ca_1, ca_2, ca_3, ca_4, ca_5, ca_6, ca_7, ca_8, ca_9, ca_10, ca_11, ca_12, ca_13, ca_14, ca_15, ca_16, ca_17, ca_18, ca_19, ca_20, ca_21, ca_22, ca_23, ca_24, ca_25, ca_26, ca_27, ca_28, ca_29, ca_30, not_true_eq_false, not_false_eq_true, Int.reduceEq, Nat.reduceEqDiff, Nat.reduceLeDiff, rGcd, V.ty.injEq, eq_self, List.not_mem_nil, beq_self_eq_true, HO.lst.injEq, HO.tup.injEq, tFor_eq, iRng1, iList, iTup, nat10, tSeq, rIxA, rSetA, rIsN, rIsT, tTp, tLs, itsO_tup, itsO_lst, tyO_tup, tyO_lst, tyO_dK, tyN_non, tyN_bl, tyN_int, tyN_str, tyN_ref, tyNs_lt, isB, upd_same, upd_upd, sizeLine_eq, List.mem_cons, String.reduceBEq, String.reduceEq, Bool.or_false, Bool.or_true, Bool.and_false, Bool.false_or, Bool.and_self, Bool.false_and, Bool.not_false, Bool.not_true, List.any_cons, List.any_nil, atI_0, setI_0, atI_1, setI_1, atI_2, setI_2, atI_3, setI_3, atI_4, setI_4, atI_5, setI_5, atI_6, setI_6, tAsg, gName, tOp, tUn, tVar, tC, tCons, L2.tNil, tRet, tIfS, tTest, tCB, tCall, rI, rI0, rU, tNext, tB, tAnd, tOr, tNot, tAndV, tOrV, tNotV, tDrop, tIf, tPar, gSub, rIxL, rIxT, rEq, rNe, rSetL, tBits,
    L2.start, List.map_cons, List.map_nil, List.cons_append, List.nil_append, List.append_nil, List.length_cons, List.length_nil, List.replicate, Nat.reduceAdd, Nat.reduceSub, Nat.zero_add, List.getElem?_cons_zero, List.getElem?_cons_succ, List.set_cons_zero, List.set_cons_succ,
    Option.some.injEq, exists_eq_left', exists_eq_left, V.int.injEq, V.bl.injEq, V.ref.injEq, V.str.injEq, List.cons.injEq, reduceCtorEq, and_true, true_and, false_and, and_false, exists_false, or_false, false_or, or_true, true_or, exists_const, CMul, CDiv, CPow, and_assoc, exists_and_left, exists_and_right, Int.reducePow, Int.reduceNeg, Int.reduceLT, Int.reduceLE, Nat.reducePow, Nat.reduceLT, Int.reduceToNat, gt_iff_lt, ge_iff_le, decide_eq_true_eq, Bool.not_eq_true', decide_eq_false_iff_not, scal, ↓reduceIte, Bool.false_eq_true]
  exact q
def wholeV : V → Bool
  | .int _ => true
  | _ => false
theorem wholeV_ty {H : Hp} {v : V} {t : String} (h : tyN K H v = some t) : wholeV v = (t == "int") := by
  cases v with
  | ref a =>
    have h1 : tyO (ob K H a) = some t := h
    unfold tyO at h1
    split at h1 <;> first | (cases h1; rfl) | cases h1
  | _ => first | (cases h; rfl) | cases h
def spWhole (K : PySem.W.Frag) : Sp := fun vs H Q _ => ∃ v, vs = [v] ∧ (tyN K H v).isSome ∧ Q (.bl (wholeV v)) H
abbrev sWhole : Stmt := topS 16
theorem scWhole : FnScope ["value"] ["value"] (defScope sWhole) := ⟨rfl, rfl, rfl, by decide +kernel, rfl, by decide +kernel, by decide +kernel⟩
theorem k_Whole (T : Bt K mg) (D : Dfn K mg "is_whole" sWhole ["value"]) : Kn P w K mg base 1 "is_whole" ["value"] (spWhole K) := by
  refine Kn.mk' D scWhole (fun vs H Q E h => ?_) (fun f cdv A outer s H vs Q E hr h => ?_)
  · obtain ⟨v, rfl, _⟩ := h
    rfl
  obtain ⟨v, rfl, hv, q⟩ := h
  refine ⟨_, (pss_one (ps_ret (pe_and (pe_callB call_isN (by rfl) T.b_isinstance (by decide +kernel) (pa_cons (pv 0) (pa_cons (pe_bltn (v := .ty "int") (by rfl) T.b_int (by decide +kernel) rfl) pa_nil))) (pe_one (pe_not (pe_callB call_isN (by rfl) T.b_isinstance (by decide +kernel) (pa_cons (pv 0) (pa_cons (pe_bltn (v := .ty "bool") (by rfl) T.b_bool (by decide +kernel) rfl) pa_nil)))))))), ?_⟩
  obtain ⟨t, ht⟩ := Option.isSome_iff_exists.mp hv
  rw [wholeV_ty ht] at q
  have mt := tyN_mem ht
  simp only [List.mem_cons, List.not_mem_nil, or_false] at mt
  rcases mt with rfl | rfl | rfl | rfl | rfl | rfl | rfl <;> (simp only [ht, cx_K, decide_true, decide_false, reduceCtorEq, gTp, gCons, gNil, ca_0, ca_1, ca_2, ca_3, ca_4, ca_5, ca_6, ca_7, ca_8, ca_9, ca_10, ca_11, ca_12, ca_13, ca_14, ca_15, ca_16, ca_17, ca_18, ca_19, ca_20, ca_21, ca_22, ca_23, ca_24, ca_25, ca_26, ca_27, ca_28, ca_29, ca_30, not_true_eq_false, not_false_eq_true, Int.reduceEq, Nat.reduceEqDiff, Nat.reduceLeDiff, rGcd, V.ty.injEq, eq_self, List.not_mem_nil, beq_self_eq_true, HO.lst.injEq, HO.tup.injEq, tFor_eq, iRng1, iList, iTup, nat10, tSeq, rIxA, rSetA, rIsN, rIsT, tTp, tLs, itsO_tup, itsO_lst, tyO_tup, tyO_lst, tyO_dK, tyN_non, tyN_bl, tyN_int, tyN_str, tyN_ref, tyNs_lt, isB, upd_same, upd_upd, sizeLine_eq, List.mem_cons, String.reduceBEq, String.reduceEq, Bool.or_false, Bool.or_true, Bool.and_false, Bool.false_or, Bool.and_self, Bool.false_and, Bool.not_false, Bool.not_true, List.any_cons, List.any_nil, atI_0, setI_0, atI_1, setI_1, atI_2, setI_2, atI_3, setI_3, atI_4, setI_4, atI_5, setI_5, atI_6, setI_6, tAsg, gName, tOp, tUn, tVar, tC, tCons, L2.tNil, tRet, tIfS, tTest, tCB, tCall, rI, rI0, rU, tNext, tB, tAnd, tOr, tNot, tAndV, tOrV, tNotV, tDrop, tIf, tPar, gSub, rIxL, rIxT, rEq, rNe, rSetL, tBits,
    L2.start, List.map_cons, List.map_nil, List.cons_append, List.nil_append, List.append_nil, List.length_cons, List.length_nil, List.replicate, Nat.reduceAdd, Nat.reduceSub, Nat.zero_add, List.getElem?_cons_zero, List.getElem?_cons_succ, List.set_cons_zero, List.set_cons_succ,
    Option.some.injEq, exists_eq_left', exists_eq_left, V.int.injEq, V.bl.injEq, V.ref.injEq, V.str.injEq, List.cons.injEq, reduceCtorEq, and_true, true_and, false_and, and_false, exists_false, or_false, false_or, or_true, true_or, exists_const, CMul, CDiv, CPow, and_assoc, exists_and_left, exists_and_right, Int.reducePow, Int.reduceNeg, Int.reduceLT, Int.reduceLE, Nat.reducePow, Nat.reduceLT, Int.reduceToNat, gt_iff_lt, ge_iff_le, decide_eq_true_eq, Bool.not_eq_true', decide_eq_false_iff_not, scal, ↓reduceIte, Bool.false_eq_true]; simpa using q)
abbrev sLWhole : Stmt := topS 53
theorem scLWhole : FnScope ["_law_told_here"] ["_law_told_here"] (defScope sLWhole) := ⟨rfl, rfl, rfl, by decide +kernel, rfl, by decide +kernel, by decide +kernel⟩
theorem k_LWhole (T : Bt K mg) (D : Dfn K mg "_law_is_whole" sLWhole ["_law_told_here"]) : Kn P w K mg base 1 "_law_is_whole" ["_law_told_here"] (spWhole K) := by
  refine Kn.mk' D scLWhole (fun vs H Q E h => ?_) (fun f cdv A outer s H vs Q E hr h => ?_)
  · obtain ⟨v, rfl, _⟩ := h
    rfl
  obtain ⟨v, rfl, hv, q⟩ := h
  refine ⟨_, (pss_one (ps_ret (pe_and (pe_callB call_isN (by rfl) T.b_isinstance (by decide +kernel) (pa_cons (pv 0) (pa_cons (pe_bltn (v := .ty "int") (by rfl) T.b_int (by decide +kernel) rfl) pa_nil))) (pe_one (pe_not (pe_callB call_isN (by rfl) T.b_isinstance (by decide +kernel) (pa_cons (pv 0) (pa_cons (pe_bltn (v := .ty "bool") (by rfl) T.b_bool (by decide +kernel) rfl) pa_nil)))))))), ?_⟩
  obtain ⟨t, ht⟩ := Option.isSome_iff_exists.mp hv
  rw [wholeV_ty ht] at q
  have mt := tyN_mem ht
  simp only [List.mem_cons, List.not_mem_nil, or_false] at mt
  rcases mt with rfl | rfl | rfl | rfl | rfl | rfl | rfl <;> (simp only [ht, cx_K, decide_true, decide_false, reduceCtorEq, gTp, gCons, gNil, ca_0, ca_1, ca_2, ca_3, ca_4, ca_5, ca_6, ca_7, ca_8, ca_9, ca_10, ca_11, ca_12, ca_13, ca_14, ca_15, ca_16, ca_17, ca_18, ca_19, ca_20, ca_21, ca_22, ca_23, ca_24, ca_25, ca_26, ca_27, ca_28, ca_29, ca_30, not_true_eq_false, not_false_eq_true, Int.reduceEq, Nat.reduceEqDiff, Nat.reduceLeDiff, rGcd, V.ty.injEq, eq_self, List.not_mem_nil, beq_self_eq_true, HO.lst.injEq, HO.tup.injEq, tFor_eq, iRng1, iList, iTup, nat10, tSeq, rIxA, rSetA, rIsN, rIsT, tTp, tLs, itsO_tup, itsO_lst, tyO_tup, tyO_lst, tyO_dK, tyN_non, tyN_bl, tyN_int, tyN_str, tyN_ref, tyNs_lt, isB, upd_same, upd_upd, sizeLine_eq, List.mem_cons, String.reduceBEq, String.reduceEq, Bool.or_false, Bool.or_true, Bool.and_false, Bool.false_or, Bool.and_self, Bool.false_and, Bool.not_false, Bool.not_true, List.any_cons, List.any_nil, atI_0, setI_0, atI_1, setI_1, atI_2, setI_2, atI_3, setI_3, atI_4, setI_4, atI_5, setI_5, atI_6, setI_6, tAsg, gName, tOp, tUn, tVar, tC, tCons, L2.tNil, tRet, tIfS, tTest, tCB, tCall, rI, rI0, rU, tNext, tB, tAnd, tOr, tNot, tAndV, tOrV, tNotV, tDrop, tIf, tPar, gSub, rIxL, rIxT, rEq, rNe, rSetL, tBits,
    L2.start, List.map_cons, List.map_nil, List.cons_append, List.nil_append, List.append_nil, List.length_cons, List.length_nil, List.replicate, Nat.reduceAdd, Nat.reduceSub, Nat.zero_add, List.getElem?_cons_zero, List.getElem?_cons_succ, List.set_cons_zero, List.set_cons_succ,
    Option.some.injEq, exists_eq_left', exists_eq_left, V.int.injEq, V.bl.injEq, V.ref.injEq, V.str.injEq, List.cons.injEq, reduceCtorEq, and_true, true_and, false_and, and_false, exists_false, or_false, false_or, or_true, true_or, exists_const, CMul, CDiv, CPow, and_assoc, exists_and_left, exists_and_right, Int.reducePow, Int.reduceNeg, Int.reduceLT, Int.reduceLE, Nat.reducePow, Nat.reduceLT, Int.reduceToNat, gt_iff_lt, ge_iff_le, decide_eq_true_eq, Bool.not_eq_true', decide_eq_false_iff_not, scal, ↓reduceIte, Bool.false_eq_true]; simpa using q)
def spFraction (K : PySem.W.Frag) : Sp := fun vs H Q _ => ∃ n d : Int, vs = [.int n, .int d] ∧ d ≠ 0 ∧ d.natAbs < 2 ^ 8000 ∧ ∀ q, Is q n d → Gv K H Q q
theorem gcdX {n d : Int} (h0 : d ≠ 0) (hz : d.natAbs < 2 ^ 8000) (x : Int) : CDivX x (if d < 0 then -((Int.gcd n d : Nat) : Int) else (Int.gcd n d : Nat)) := by
  have g0 := gcd_pos (t := n) (b := d) h0
  have g1 := gcd_le (t := n) (b := d) h0
  have e : 2 ^ 8000 ≤ 2 ^ 8999 := Nat.pow_le_pow_right (by omega) (by omega)
  unfold CDivX
  split <;> refine ⟨by omega, by omega⟩
abbrev sFraction : Stmt := topS 19
theorem scFraction : FnScope ["numerator", "denominator", "divisor"] ["numerator", "denominator"] (defScope sFraction) := ⟨rfl, rfl, rfl, by decide +kernel, rfl, by decide +kernel, by decide +kernel⟩
theorem k_Fraction (T : Bt K mg) (D : DfnD K mg "fraction" sFraction ["numerator", "denominator"]) (d_require : Kn P w K mg base 1 "require" ["well_formed", "what"] spRequire) (d_is_whole : Kn P w K mg base 1 "is_whole" ["value"] (spWhole K)) : Kn P w K mg base 2 "fraction" ["numerator", "denominator"] (spFraction K) := by
  refine Kn.mkD D scFraction (fun vs H Q E h => ?_) (fun f cdv A outer s H vs Q E hr h => ?_)
  · obtain ⟨n, d, rfl, _⟩ := h
    rfl
  obtain ⟨n, d, rfl, h0, hz, q⟩ := h
  refine ⟨_, (pss_cons (ps_expr (pe_kn d_require hr (by rfl) (pa_cons (pe_kn d_is_whole hr (by rfl) (pa_cons (pv 0) pa_nil)) (pa_cons pe_str pa_nil))))
      (pss_cons (ps_expr (pe_kn d_require hr (by rfl) (pa_cons (pe_and (pe_kn d_is_whole hr (by rfl) (pa_cons (pv 1) pa_nil)) (pe_one (pe_cmpR op_ne (pv 1) pe_int (nomark _)))) (pa_cons pe_str pa_nil))))
      (pss_cons (ps_set (i := 2) scFraction.nd rfl (.inl rfl) (pe_callBfun cr_gcd (by rfl) T.g_gcd (pa_cons (pv 0) (pa_cons (pv 1) pa_nil))))
      (pss_cons (ps_if (pt_cmpR op_lt (pv 1) pe_int (nomark _)) (pss_one (ps_set (i := 2) scFraction.nd rfl (.inl rfl) (pe_un un_neg (pv 2)))) pss_nil)
      (pss_one (ps_ret (pe_tp (pa_cons (pe_op op_fdivX (pv 0) (pv 2)) (pa_cons (pe_op op_fdivX (pv 1) (pv 2)) pa_nil))))))))), ?_⟩
  simp only [cx_K, decide_true, decide_false, reduceCtorEq, gTp, gCons, gNil, ca_0, ca_1, ca_2, ca_3, ca_4, ca_5, ca_6, ca_7, ca_8, ca_9, ca_10, ca_11, ca_12, ca_13, ca_14, ca_15, ca_16, ca_17, ca_18, ca_19, ca_20, ca_21, ca_22, ca_23, ca_24, ca_25, ca_26, ca_27, ca_28, ca_29, ca_30, not_true_eq_false, not_false_eq_true, Int.reduceEq, Nat.reduceEqDiff, Nat.reduceLeDiff, rGcd, V.ty.injEq, eq_self, List.not_mem_nil, beq_self_eq_true, HO.lst.injEq, HO.tup.injEq, tFor_eq, iRng1, iList, iTup, nat10, tSeq, rIxA, rSetA, rIsN, rIsT, tTp, tLs, itsO_tup, itsO_lst, tyO_tup, tyO_lst, tyO_dK, tyN_non, tyN_bl, tyN_int, tyN_str, tyN_ref, tyNs_lt, isB, upd_same, upd_upd, sizeLine_eq, List.mem_cons, String.reduceBEq, String.reduceEq, Bool.or_false, Bool.or_true, Bool.and_false, Bool.false_or, Bool.and_self, Bool.false_and, Bool.not_false, Bool.not_true, List.any_cons, List.any_nil, atI_0, setI_0, atI_1, setI_1, atI_2, setI_2, atI_3, setI_3, atI_4, setI_4, atI_5, setI_5, atI_6, setI_6, tAsg, gName, tOp, tUn, tVar, tC, tCons, L2.tNil, tRet, tIfS, tTest, tCB, tCall, rI, rI0, rU, tNext, tB, tAnd, tOr, tNot, tAndV, tOrV, tNotV, tDrop, tIf, tPar, gSub, rIxL, rIxT, rEq, rNe, rSetL, tBits,
    L2.start, List.map_cons, List.map_nil, List.cons_append, List.nil_append, List.append_nil, List.length_cons, List.length_nil, List.replicate, Nat.reduceAdd, Nat.reduceSub, Nat.zero_add, List.getElem?_cons_zero, List.getElem?_cons_succ, List.set_cons_zero, List.set_cons_succ,
    Option.some.injEq, exists_eq_left', exists_eq_left, V.int.injEq, V.bl.injEq, V.ref.injEq, V.str.injEq, List.cons.injEq, reduceCtorEq, and_true, true_and, false_and, and_false, exists_false, or_false, false_or, or_true, true_or, exists_const, CMul, CDiv, CPow, and_assoc, exists_and_left, exists_and_right, Int.reducePow, Int.reduceNeg, Int.reduceLT, Int.reduceLE, Nat.reducePow, Nat.reduceLT, Int.reduceToNat, gt_iff_lt, ge_iff_le, decide_eq_true_eq, Bool.not_eq_true', decide_eq_false_iff_not, scal, ↓reduceIte, Bool.false_eq_true]
  refine ⟨_, rfl, rfl, ⟨_, rfl, ⟨_, rfl, rfl, ⟨true, rfl, ?_⟩⟩⟩⟩
  rw [if_pos rfl]
  refine ⟨_, by rw [decide_eq_false h0]; rfl, ?_⟩
  simp only [cx_K, decide_true, decide_false, reduceCtorEq, gTp, gCons, gNil, ca_0, ca_1, ca_2, ca_3, ca_4, ca_5, ca_6, ca_7, ca_8, ca_9, ca_10, ca_11, ca_12, ca_13, ca_14, ca_15, ca_16, ca_17, ca_18, ca_19, ca_20, ca_21, ca_22, ca_23, ca_24, ca_25, ca_26, ca_27, ca_28, ca_29, ca_30, not_true_eq_false, not_false_eq_true, Int.reduceEq, Nat.reduceEqDiff, Nat.reduceLeDiff, rGcd, V.ty.injEq, eq_self, List.not_mem_nil, beq_self_eq_true, HO.lst.injEq, HO.tup.injEq, tFor_eq, iRng1, iList, iTup, nat10, tSeq, rIxA, rSetA, rIsN, rIsT, tTp, tLs, itsO_tup, itsO_lst, tyO_tup, tyO_lst, tyO_dK, tyN_non, tyN_bl, tyN_int, tyN_str, tyN_ref, tyNs_lt, isB, upd_same, upd_upd, sizeLine_eq, List.mem_cons, String.reduceBEq, String.reduceEq, Bool.or_false, Bool.or_true, Bool.and_false, Bool.false_or, Bool.and_self, Bool.false_and, Bool.not_false, Bool.not_true, List.any_cons, List.any_nil, atI_0, setI_0, atI_1, setI_1, atI_2, setI_2, atI_3, setI_3, atI_4, setI_4, atI_5, setI_5, atI_6, setI_6, tAsg, gName, tOp, tUn, tVar, tC, tCons, L2.tNil, tRet, tIfS, tTest, tCB, tCall, rI, rI0, rU, tNext, tB, tAnd, tOr, tNot, tAndV, tOrV, tNotV, tDrop, tIf, tPar, gSub, rIxL, rIxT, rEq, rNe, rSetL, tBits,
    L2.start, List.map_cons, List.map_nil, List.cons_append, List.nil_append, List.append_nil, List.length_cons, List.length_nil, List.replicate, Nat.reduceAdd, Nat.reduceSub, Nat.zero_add, List.getElem?_cons_zero, List.getElem?_cons_succ, List.set_cons_zero, List.set_cons_succ,
    Option.some.injEq, exists_eq_left', exists_eq_left, V.int.injEq, V.bl.injEq, V.ref.injEq, V.str.injEq, List.cons.injEq, reduceCtorEq, and_true, true_and, false_and, and_false, exists_false, or_false, false_or, or_true, true_or, exists_const, CMul, CDiv, CPow, and_assoc, exists_and_left, exists_and_right, Int.reducePow, Int.reduceNeg, Int.reduceLT, Int.reduceLE, Nat.reducePow, Nat.reduceLT, Int.reduceToNat, gt_iff_lt, ge_iff_le, decide_eq_true_eq, Bool.not_eq_true', decide_eq_false_iff_not, scal, ↓reduceIte, Bool.false_eq_true]
  have k := gcdX (n := n) h0 hz
  have v := is_fdiv (t := n) h0
  refine ite2 (fun h => ?_) (fun h => ?_)
  · rw [if_pos h] at v
    simp only [if_pos h] at k
    exact ⟨k _, k _, fun p hp kp => (q _ v).new hp kp⟩
  · rw [if_neg h] at v
    simp only [if_neg h] at k
    exact ⟨k _, k _, fun p hp kp => (q _ v).new hp kp⟩
def frOk (K : PySem.W.Frag) (H : Hp) : V → Bool
  | .ref a => match ob K H a with
    | some (.tup [.int n, .int d]) => decide (1 ≤ d) && decide (Int.gcd n d = 1)
    | _ => false
  | _ => false
theorem frOk_fr {H : Hp} {a : Addr} {q : Qt} (h : ob K H a = some (frt q)) (hn : Nf q) : frOk K H (.ref a) = true := by
  simp only [frOk, h, frt]
  show (decide (1 ≤ q.2) && decide (Int.gcd q.1 q.2 = 1)) = true
  rw [decide_eq_true hn.1, decide_eq_true hn.2]
  rfl
/-- v and, if it is a tuple, its items are of known kinds -/
def Tyd (K : PySem.W.Frag) (H : Hp) (v : V) : Prop := (tyN K H v).isSome ∧ ∀ a xs, v = .ref a → ob K H a = some (.tup xs) → ∀ x ∈ xs, (tyN K H x).isSome
theorem Tyd.fr {H : Hp} {a : Addr} {q : Qt} (h : ob K H a = some (frt q)) : Tyd K H (.ref a) := by
  refine ⟨by rw [tyN_ref, h]; rfl, fun b xs e hx x hm => ?_⟩
  cases e
  rw [h] at hx
  cases hx
  simp only [List.mem_cons, List.not_mem_nil, or_false] at hm
  rcases hm with rfl | rfl <;> rfl
theorem tyN_tuple {H : Hp} {v : V} (h : tyN K H v = some "tuple") : ∃ a xs, v = .ref a ∧ ob K H a = some (.tup xs) := by
  cases v with
  | ref a =>
    have h1 : tyO (ob K H a) = some "tuple" := h
    unfold tyO at h1
    split at h1 <;> first | exact ⟨a, _, rfl, by assumption⟩ | (exfalso; revert h1; decide)
  | _ => exfalso; revert h; simp only [tyN]; decide
def spIsFraction (K : PySem.W.Frag) : Sp := fun vs H Q _ => ∃ v, vs = [v] ∧ Tyd K H v ∧ Q (.bl (frOk K H v)) H
abbrev sIsFraction : Stmt := topS 20
theorem scIsFraction : FnScope ["value", "numerator", "denominator"] ["value"] (defScope sIsFraction) := ⟨rfl, rfl, rfl, by decide +kernel, rfl, by decide +kernel, by decide +kernel⟩
theorem k_IsFraction (T : Bt K mg) (D : Dfn K mg "is_fraction" sIsFraction ["value"]) (d_is_whole : Kn P w K mg base 1 "is_whole" ["value"] (spWhole K)) : Kn P w K mg base 2 "is_fraction" ["value"] (spIsFraction K) := by
  refine Kn.mk' D scIsFraction (fun vs H Q E h => ?_) (fun f cdv A outer s H vs Q E hr h => ?_)
  · obtain ⟨v, rfl, _⟩ := h
    rfl
  obtain ⟨v, rfl, hv, q⟩ := h
  refine ⟨_, (pss_cons (ps_if (PW.pt (pw_or (pt_not (pt_val (pe_callB call_isN (by rfl) T.b_isinstance (by decide +kernel) (pa_cons (pv 0) (pa_cons (pe_bltn (v := .ty "tuple") (by rfl) T.b_tuple (by decide +kernel) rfl) pa_nil))))) (pw_or1 (pt_cmpR op_ne (pe_callB call_lenA (by rfl) T.b_len PySem.boot_len (pa_cons (pv 0) pa_nil)) pe_int (nomark _))))) (pss_one (ps_ret pe_bl)) pss_nil)
      (pss_cons (ps_asg (pv 0) (pg_tp 2 (by rfl) (pgs_cons (pg_name (i := 1) scIsFraction.nd rfl (.inl rfl)) (pgs_cons (pg_name (i := 2) scIsFraction.nd rfl (.inl rfl)) pgs_nil))))
      (pss_cons (ps_if (PW.pt (pw_or (pt_not (pt_val (pe_kn d_is_whole hr (by rfl) (pa_cons (pv 1) pa_nil)))) (pw_or1 (pt_not (pt_val (pe_kn d_is_whole hr (by rfl) (pa_cons (pv 2) pa_nil))))))) (pss_one (ps_ret pe_bl)) pss_nil)
      (pss_one (ps_ret (pe_and (pe_cmpR op_ge (pv 2) pe_int (nomark _)) (pe_one (pe_cmpR op_eq (pe_callBfun cr_gcd (by rfl) T.g_gcd (pa_cons (pv 1) (pa_cons (pv 2) pa_nil))) pe_int (nomark _))))))))), ?_⟩
  obtain ⟨t, ht⟩ := Option.isSome_iff_exists.mp hv.1
  by_cases e : t = "tuple"
  · subst e
    obtain ⟨a, xs, rfl, ha⟩ := tyN_tuple ht
    have hx := hv.2 a xs rfl ha
    match xs, ha, hx with
    | [], ha, hx =>
      have e : frOk K H (.ref a) = false := by simp only [frOk, ha]
      rw [e] at q
      simp only [ha, cx_K, decide_true, decide_false, reduceCtorEq, gTp, gCons, gNil, ca_0, ca_1, ca_2, ca_3, ca_4, ca_5, ca_6, ca_7, ca_8, ca_9, ca_10, ca_11, ca_12, ca_13, ca_14, ca_15, ca_16, ca_17, ca_18, ca_19, ca_20, ca_21, ca_22, ca_23, ca_24, ca_25, ca_26, ca_27, ca_28, ca_29, ca_30, not_true_eq_false, not_false_eq_true, Int.reduceEq, Nat.reduceEqDiff, Nat.reduceLeDiff, rGcd, V.ty.injEq, eq_self, List.not_mem_nil, beq_self_eq_true, HO.lst.injEq, HO.tup.injEq, tFor_eq, iRng1, iList, iTup, nat10, tSeq, rIxA, rSetA, rIsN, rIsT, tTp, tLs, itsO_tup, itsO_lst, tyO_tup, tyO_lst, tyO_dK, tyN_non, tyN_bl, tyN_int, tyN_str, tyN_ref, tyNs_lt, isB, upd_same, upd_upd, sizeLine_eq, List.mem_cons, String.reduceBEq, String.reduceEq, Bool.or_false, Bool.or_true, Bool.and_false, Bool.false_or, Bool.and_self, Bool.false_and, Bool.not_false, Bool.not_true, List.any_cons, List.any_nil, atI_0, setI_0, atI_1, setI_1, atI_2, setI_2, atI_3, setI_3, atI_4, setI_4, atI_5, setI_5, atI_6, setI_6, tAsg, gName, tOp, tUn, tVar, tC, tCons, L2.tNil, tRet, tIfS, tTest, tCB, tCall, rI, rI0, rU, tNext, tB, tAnd, tOr, tNot, tAndV, tOrV, tNotV, tDrop, tIf, tPar, gSub, rIxL, rIxT, rEq, rNe, rSetL, tBits,
    L2.start, List.map_cons, List.map_nil, List.cons_append, List.nil_append, List.append_nil, List.length_cons, List.length_nil, List.replicate, Nat.reduceAdd, Nat.reduceSub, Nat.zero_add, List.getElem?_cons_zero, List.getElem?_cons_succ, List.set_cons_zero, List.set_cons_succ,
    Option.some.injEq, exists_eq_left', exists_eq_left, V.int.injEq, V.bl.injEq, V.ref.injEq, V.str.injEq, List.cons.injEq, reduceCtorEq, and_true, true_and, false_and, and_false, exists_false, or_false, false_or, or_true, true_or, exists_const, CMul, CDiv, CPow, and_assoc, exists_and_left, exists_and_right, Int.reducePow, Int.reduceNeg, Int.reduceLT, Int.reduceLE, Nat.reducePow, Nat.reduceLT, Int.reduceToNat, gt_iff_lt, ge_iff_le, decide_eq_true_eq, Bool.not_eq_true', decide_eq_false_iff_not, scal, ↓reduceIte, Bool.false_eq_true]
      exact q
    | [x], ha, hx =>
      have e : frOk K H (.ref a) = false := by simp only [frOk, ha]
      rw [e] at q
      simp only [ha, cx_K, decide_true, decide_false, reduceCtorEq, gTp, gCons, gNil, ca_0, ca_1, ca_2, ca_3, ca_4, ca_5, ca_6, ca_7, ca_8, ca_9, ca_10, ca_11, ca_12, ca_13, ca_14, ca_15, ca_16, ca_17, ca_18, ca_19, ca_20, ca_21, ca_22, ca_23, ca_24, ca_25, ca_26, ca_27, ca_28, ca_29, ca_30, not_true_eq_false, not_false_eq_true, Int.reduceEq, Nat.reduceEqDiff, Nat.reduceLeDiff, rGcd, V.ty.injEq, eq_self, List.not_mem_nil, beq_self_eq_true, HO.lst.injEq, HO.tup.injEq, tFor_eq, iRng1, iList, iTup, nat10, tSeq, rIxA, rSetA, rIsN, rIsT, tTp, tLs, itsO_tup, itsO_lst, tyO_tup, tyO_lst, tyO_dK, tyN_non, tyN_bl, tyN_int, tyN_str, tyN_ref, tyNs_lt, isB, upd_same, upd_upd, sizeLine_eq, List.mem_cons, String.reduceBEq, String.reduceEq, Bool.or_false, Bool.or_true, Bool.and_false, Bool.false_or, Bool.and_self, Bool.false_and, Bool.not_false, Bool.not_true, List.any_cons, List.any_nil, atI_0, setI_0, atI_1, setI_1, atI_2, setI_2, atI_3, setI_3, atI_4, setI_4, atI_5, setI_5, atI_6, setI_6, tAsg, gName, tOp, tUn, tVar, tC, tCons, L2.tNil, tRet, tIfS, tTest, tCB, tCall, rI, rI0, rU, tNext, tB, tAnd, tOr, tNot, tAndV, tOrV, tNotV, tDrop, tIf, tPar, gSub, rIxL, rIxT, rEq, rNe, rSetL, tBits,
    L2.start, List.map_cons, List.map_nil, List.cons_append, List.nil_append, List.append_nil, List.length_cons, List.length_nil, List.replicate, Nat.reduceAdd, Nat.reduceSub, Nat.zero_add, List.getElem?_cons_zero, List.getElem?_cons_succ, List.set_cons_zero, List.set_cons_succ,
    Option.some.injEq, exists_eq_left', exists_eq_left, V.int.injEq, V.bl.injEq, V.ref.injEq, V.str.injEq, List.cons.injEq, reduceCtorEq, and_true, true_and, false_and, and_false, exists_false, or_false, false_or, or_true, true_or, exists_const, CMul, CDiv, CPow, and_assoc, exists_and_left, exists_and_right, Int.reducePow, Int.reduceNeg, Int.reduceLT, Int.reduceLE, Nat.reducePow, Nat.reduceLT, Int.reduceToNat, gt_iff_lt, ge_iff_le, decide_eq_true_eq, Bool.not_eq_true', decide_eq_false_iff_not, scal, ↓reduceIte, Bool.false_eq_true]
      exact q
    | [x, y], ha, hx =>
      have hx1 := hx x (by simp)
      have hx2 := hx y (by simp)
      simp only [ha, cx_K, decide_true, decide_false, reduceCtorEq, gTp, gCons, gNil, ca_0, ca_1, ca_2, ca_3, ca_4, ca_5, ca_6, ca_7, ca_8, ca_9, ca_10, ca_11, ca_12, ca_13, ca_14, ca_15, ca_16, ca_17, ca_18, ca_19, ca_20, ca_21, ca_22, ca_23, ca_24, ca_25, ca_26, ca_27, ca_28, ca_29, ca_30, not_true_eq_false, not_false_eq_true, Int.reduceEq, Nat.reduceEqDiff, Nat.reduceLeDiff, rGcd, V.ty.injEq, eq_self, List.not_mem_nil, beq_self_eq_true, HO.lst.injEq, HO.tup.injEq, tFor_eq, iRng1, iList, iTup, nat10, tSeq, rIxA, rSetA, rIsN, rIsT, tTp, tLs, itsO_tup, itsO_lst, tyO_tup, tyO_lst, tyO_dK, tyN_non, tyN_bl, tyN_int, tyN_str, tyN_ref, tyNs_lt, isB, upd_same, upd_upd, sizeLine_eq, List.mem_cons, String.reduceBEq, String.reduceEq, Bool.or_false, Bool.or_true, Bool.and_false, Bool.false_or, Bool.and_self, Bool.false_and, Bool.not_false, Bool.not_true, List.any_cons, List.any_nil, atI_0, setI_0, atI_1, setI_1, atI_2, setI_2, atI_3, setI_3, atI_4, setI_4, atI_5, setI_5, atI_6, setI_6, tAsg, gName, tOp, tUn, tVar, tC, tCons, L2.tNil, tRet, tIfS, tTest, tCB, tCall, rI, rI0, rU, tNext, tB, tAnd, tOr, tNot, tAndV, tOrV, tNotV, tDrop, tIf, tPar, gSub, rIxL, rIxT, rEq, rNe, rSetL, tBits,
    L2.start, List.map_cons, List.map_nil, List.cons_append, List.nil_append, List.append_nil, List.length_cons, List.length_nil, List.replicate, Nat.reduceAdd, Nat.reduceSub, Nat.zero_add, List.getElem?_cons_zero, List.getElem?_cons_succ, List.set_cons_zero, List.set_cons_succ,
    Option.some.injEq, exists_eq_left', exists_eq_left, V.int.injEq, V.bl.injEq, V.ref.injEq, V.str.injEq, List.cons.injEq, reduceCtorEq, and_true, true_and, false_and, and_false, exists_false, or_false, false_or, or_true, true_or, exists_const, CMul, CDiv, CPow, and_assoc, exists_and_left, exists_and_right, Int.reducePow, Int.reduceNeg, Int.reduceLT, Int.reduceLE, Nat.reducePow, Nat.reduceLT, Int.reduceToNat, gt_iff_lt, ge_iff_le, decide_eq_true_eq, Bool.not_eq_true', decide_eq_false_iff_not, scal, ↓reduceIte, Bool.false_eq_true]
      refine ⟨_, rfl, hx1, ?_⟩
      cases x with
      | int n =>
        refine ⟨true, rfl, ?_⟩
        rw [if_neg Bool.noConfusion]
        refine ⟨_, rfl, hx2, ?_⟩
        cases y with
        | int d =>
          refine ⟨true, rfl, ?_⟩
          rw [if_neg Bool.noConfusion]
          simp only [ha, cx_K, decide_true, decide_false, reduceCtorEq, gTp, gCons, gNil, ca_0, ca_1, ca_2, ca_3, ca_4, ca_5, ca_6, ca_7, ca_8, ca_9, ca_10, ca_11, ca_12, ca_13, ca_14, ca_15, ca_16, ca_17, ca_18, ca_19, ca_20, ca_21, ca_22, ca_23, ca_24, ca_25, ca_26, ca_27, ca_28, ca_29, ca_30, not_true_eq_false, not_false_eq_true, Int.reduceEq, Nat.reduceEqDiff, Nat.reduceLeDiff, rGcd, V.ty.injEq, eq_self, List.not_mem_nil, beq_self_eq_true, HO.lst.injEq, HO.tup.injEq, tFor_eq, iRng1, iList, iTup, nat10, tSeq, rIxA, rSetA, rIsN, rIsT, tTp, tLs, itsO_tup, itsO_lst, tyO_tup, tyO_lst, tyO_dK, tyN_non, tyN_bl, tyN_int, tyN_str, tyN_ref, tyNs_lt, isB, upd_same, upd_upd, sizeLine_eq, List.mem_cons, String.reduceBEq, String.reduceEq, Bool.or_false, Bool.or_true, Bool.and_false, Bool.false_or, Bool.and_self, Bool.false_and, Bool.not_false, Bool.not_true, List.any_cons, List.any_nil, atI_0, setI_0, atI_1, setI_1, atI_2, setI_2, atI_3, setI_3, atI_4, setI_4, atI_5, setI_5, atI_6, setI_6, tAsg, gName, tOp, tUn, tVar, tC, tCons, L2.tNil, tRet, tIfS, tTest, tCB, tCall, rI, rI0, rU, tNext, tB, tAnd, tOr, tNot, tAndV, tOrV, tNotV, tDrop, tIf, tPar, gSub, rIxL, rIxT, rEq, rNe, rSetL, tBits,
    L2.start, List.map_cons, List.map_nil, List.cons_append, List.nil_append, List.append_nil, List.length_cons, List.length_nil, List.replicate, Nat.reduceAdd, Nat.reduceSub, Nat.zero_add, List.getElem?_cons_zero, List.getElem?_cons_succ, List.set_cons_zero, List.set_cons_succ,
    Option.some.injEq, exists_eq_left', exists_eq_left, V.int.injEq, V.bl.injEq, V.ref.injEq, V.str.injEq, List.cons.injEq, reduceCtorEq, and_true, true_and, false_and, and_false, exists_false, or_false, false_or, or_true, true_or, exists_const, CMul, CDiv, CPow, and_assoc, exists_and_left, exists_and_right, Int.reducePow, Int.reduceNeg, Int.reduceLT, Int.reduceLE, Nat.reducePow, Nat.reduceLT, Int.reduceToNat, gt_iff_lt, ge_iff_le, decide_eq_true_eq, Bool.not_eq_true', decide_eq_false_iff_not, scal, ↓reduceIte, Bool.false_eq_true]
          refine ite2 (fun h => ?_) (fun h => ?_)
          · have e : frOk K H (.ref a) = decide (((n.natAbs.gcd d.natAbs : Nat) : Int) = 1) := by
              simp only [frOk, ha]
              rw [decide_eq_true h, Bool.true_and]
              show decide (Nat.gcd n.natAbs d.natAbs = 1) = _
              exact decide_eq_decide.mpr (by omega)
            rw [e] at q
            exact q
          · have e : frOk K H (.ref a) = false := by
              simp only [frOk, ha]
              rw [decide_eq_false h, Bool.false_and]
            rw [e] at q
            exact q
        | _ =>
          refine ⟨false, rfl, ?_⟩
          rw [if_pos rfl]
          have e : frOk K H (.ref a) = false := by simp only [frOk, ha]
          rw [e] at q
          exact q
      | _ =>
        refine ⟨false, rfl, ?_⟩
        rw [if_pos rfl]
        have e : frOk K H (.ref a) = false := by simp only [frOk, ha]
        rw [e] at q
        exact q
    | x :: y :: z :: r, ha, hx =>
      have e : frOk K H (.ref a) = false := by simp only [frOk, ha]
      rw [e] at q
      simp only [ha, cx_K, decide_true, decide_false, reduceCtorEq, gTp, gCons, gNil, ca_0, ca_1, ca_2, ca_3, ca_4, ca_5, ca_6, ca_7, ca_8, ca_9, ca_10, ca_11, ca_12, ca_13, ca_14, ca_15, ca_16, ca_17, ca_18, ca_19, ca_20, ca_21, ca_22, ca_23, ca_24, ca_25, ca_26, ca_27, ca_28, ca_29, ca_30, not_true_eq_false, not_false_eq_true, Int.reduceEq, Nat.reduceEqDiff, Nat.reduceLeDiff, rGcd, V.ty.injEq, eq_self, List.not_mem_nil, beq_self_eq_true, HO.lst.injEq, HO.tup.injEq, tFor_eq, iRng1, iList, iTup, nat10, tSeq, rIxA, rSetA, rIsN, rIsT, tTp, tLs, itsO_tup, itsO_lst, tyO_tup, tyO_lst, tyO_dK, tyN_non, tyN_bl, tyN_int, tyN_str, tyN_ref, tyNs_lt, isB, upd_same, upd_upd, sizeLine_eq, List.mem_cons, String.reduceBEq, String.reduceEq, Bool.or_false, Bool.or_true, Bool.and_false, Bool.false_or, Bool.and_self, Bool.false_and, Bool.not_false, Bool.not_true, List.any_cons, List.any_nil, atI_0, setI_0, atI_1, setI_1, atI_2, setI_2, atI_3, setI_3, atI_4, setI_4, atI_5, setI_5, atI_6, setI_6, tAsg, gName, tOp, tUn, tVar, tC, tCons, L2.tNil, tRet, tIfS, tTest, tCB, tCall, rI, rI0, rU, tNext, tB, tAnd, tOr, tNot, tAndV, tOrV, tNotV, tDrop, tIf, tPar, gSub, rIxL, rIxT, rEq, rNe, rSetL, tBits,
    L2.start, List.map_cons, List.map_nil, List.cons_append, List.nil_append, List.append_nil, List.length_cons, List.length_nil, List.replicate, Nat.reduceAdd, Nat.reduceSub, Nat.zero_add, List.getElem?_cons_zero, List.getElem?_cons_succ, List.set_cons_zero, List.set_cons_succ,
    Option.some.injEq, exists_eq_left', exists_eq_left, V.int.injEq, V.bl.injEq, V.ref.injEq, V.str.injEq, List.cons.injEq, reduceCtorEq, and_true, true_and, false_and, and_false, exists_false, or_false, false_or, or_true, true_or, exists_const, CMul, CDiv, CPow, and_assoc, exists_and_left, exists_and_right, Int.reducePow, Int.reduceNeg, Int.reduceLT, Int.reduceLE, Nat.reducePow, Nat.reduceLT, Int.reduceToNat, gt_iff_lt, ge_iff_le, decide_eq_true_eq, Bool.not_eq_true', decide_eq_false_iff_not, scal, ↓reduceIte, Bool.false_eq_true]
      refine ite2 (fun h => q) (fun h => ?_)
      exfalso
      omega
  · have e1 : frOk K H v = false := by
      cases v with
      | ref a =>
        have h1 : tyO (ob K H a) = some t := ht
        cases hz : ob K H a with
        | none => simp only [frOk, hz]
        | some z =>
          cases z with
          | tup xs =>
            rw [hz] at h1
            exact absurd (Option.some.inj h1).symm e
          | _ => simp only [frOk, hz]
      | _ => rfl
    rw [e1] at q
    have mt := tyN_mem ht
    simp only [List.mem_cons, List.not_mem_nil, or_false] at mt
    rcases mt with rfl | rfl | rfl | rfl | rfl | rfl | rfl <;> first | exact absurd rfl e | (simp only [ht, cx_K, decide_true, decide_false, reduceCtorEq, gTp, gCons, gNil, ca_0, ca_1, ca_2, ca_3, ca_4, ca_5, ca_6, ca_7, ca_8, ca_9, ca_10, ca_11, ca_12, ca_13, ca_14, ca_15, ca_16, ca_17, ca_18, ca_19, ca_20, ca_21, ca_22, ca_23, ca_24, ca_25, ca_26, ca_27, ca_28, ca_29, ca_30, not_true_eq_false, not_false_eq_true, Int.reduceEq, Nat.reduceEqDiff, Nat.reduceLeDiff, rGcd, V.ty.injEq, eq_self, List.not_mem_nil, beq_self_eq_true, HO.lst.injEq, HO.tup.injEq, tFor_eq, iRng1, iList, iTup, nat10, tSeq, rIxA, rSetA, rIsN, rIsT, tTp, tLs, itsO_tup, itsO_lst, tyO_tup, tyO_lst, tyO_dK, tyN_non, tyN_bl, tyN_int, tyN_str, tyN_ref, tyNs_lt, isB, upd_same, upd_upd, sizeLine_eq, List.mem_cons, String.reduceBEq, String.reduceEq, Bool.or_false, Bool.or_true, Bool.and_false, Bool.false_or, Bool.and_self, Bool.false_and, Bool.not_false, Bool.not_true, List.any_cons, List.any_nil, atI_0, setI_0, atI_1, setI_1, atI_2, setI_2, atI_3, setI_3, atI_4, setI_4, atI_5, setI_5, atI_6, setI_6, tAsg, gName, tOp, tUn, tVar, tC, tCons, L2.tNil, tRet, tIfS, tTest, tCB, tCall, rI, rI0, rU, tNext, tB, tAnd, tOr, tNot, tAndV, tOrV, tNotV, tDrop, tIf, tPar, gSub, rIxL, rIxT, rEq, rNe, rSetL, tBits,
    L2.start, List.map_cons, List.map_nil, List.cons_append, List.nil_append, List.append_nil, List.length_cons, List.length_nil, List.replicate, Nat.reduceAdd, Nat.reduceSub, Nat.zero_add, List.getElem?_cons_zero, List.getElem?_cons_succ, List.set_cons_zero, List.set_cons_succ,
    Option.some.injEq, exists_eq_left', exists_eq_left, V.int.injEq, V.bl.injEq, V.ref.injEq, V.str.injEq, List.cons.injEq, reduceCtorEq, and_true, true_and, false_and, and_false, exists_false, or_false, false_or, or_true, true_or, exists_const, CMul, CDiv, CPow, and_assoc, exists_and_left, exists_and_right, Int.reducePow, Int.reduceNeg, Int.reduceLT, Int.reduceLE, Nat.reducePow, Nat.reduceLT, Int.reduceToNat, gt_iff_lt, ge_iff_le, decide_eq_true_eq, Bool.not_eq_true', decide_eq_false_iff_not, scal, ↓reduceIte, Bool.false_eq_true]; exact q)
end
end My

namespace My
open PySem PySem.Spec PyProof.Rows L2
section
variable {P : Program} {w : World} {K : PySem.W.Frag} {mg : Str → Option Value} {base : Heap}
theorem nf_part {q : Qt} (h : Nf q) : Nf (q.1 % q.2, q.2) := by
  refine ⟨h.1, ?_⟩
  show Int.gcd (q.1 % q.2) q.2 = 1
  have e : q.1 % q.2 = q.1 + (-(q.1 / q.2)) * q.2 := by
    have := Int.emod_add_mul_ediv q.1 q.2
    rw [Int.neg_mul, Int.mul_comm]
    omega
  rw [e, Int.gcd_add_mul_right_left]
  exact h.2
theorem nf_abs {q : Qt} (h : Nf q) : Nf ((q.1.natAbs : Int), q.2) := ⟨h.1, by
  show Int.gcd (q.1.natAbs : Int) q.2 = 1
  rw [← h.2]
  rfl⟩
theorem nf_neg {q : Qt} (h : Nf q) : Nf (-q.1, q.2) := ⟨h.1, by
  show Int.gcd (-q.1) q.2 = 1
  rw [Int.neg_gcd]
  exact h.2⟩
def off (q : Qt) : Qt := (if q.2 < 2 * (q.1 % q.2) then q.1 % q.2 - q.2 else q.1 % q.2, q.2)
theorem nf_off {q : Qt} (h : Nf q) : Nf (off q) := by
  have k := nf_part h
  unfold off
  split
  · refine ⟨h.1, ?_⟩
    show Int.gcd (q.1 % q.2 - q.2) q.2 = 1
    rw [show q.1 % q.2 - q.2 = q.1 % q.2 + (-1) * q.2 by omega, Int.gcd_add_mul_right_left]
    exact k.2
  · exact k
theorem is_self {q : Qt} (h : Nf q) : Is q q.1 q.2 := ⟨h, rfl⟩
def sum2 (p q : Qt) (z : Qt) : Prop := Is z (p.1 * q.2 + q.1 * p.2) (p.2 * q.2)
theorem Nf.ne {q : Qt} (h : Nf q) : q.2 ≠ 0 := by have := h.1; omega
theorem mul_ne {a b : Int} (h1 : 1 ≤ a) (h2 : 1 ≤ b) : a * b ≠ 0 := Int.mul_ne_zero (by omega) (by omega)
theorem szPart {q : Qt} {k : Nat} (h : Nf q) (hz : Sz k q) : Sz k (q.1 % q.2, q.2) := by
  refine ⟨?_, hz.2⟩
  have h1 := Int.emod_nonneg q.1 h.ne
  have h2 := Int.emod_lt_of_pos q.1 (show 0 < q.2 by have := h.1; omega)
  have := hz.2
  show (q.1 % q.2).natAbs < 2 ^ k
  omega
theorem szOff {q : Qt} {k : Nat} (h : Nf q) (hz : Sz k q) : Sz k (off q) := by
  have h1 := Int.emod_nonneg q.1 h.ne
  have h2 := Int.emod_lt_of_pos q.1 (show 0 < q.2 by have := h.1; omega)
  have h3 := hz.2
  have h4 := h.1
  unfold off
  refine ⟨?_, h3⟩
  show (if q.2 < 2 * (q.1 % q.2) then q.1 % q.2 - q.2 else q.1 % q.2).natAbs < 2 ^ k
  split <;> omega
/-- a fraction at a, in lowest terms, of a bounded size -/
structure Fq (K : PySem.W.Frag) (H : Hp) (k : Nat) (a : Addr) (q : Qt) : Prop where
  o : ob K H a = some (.tup [.int q.1, .int q.2])
  nf : Nf q
  sz : Sz k q
theorem Fq.same {H H' : Hp} {k : Nat} {a : Addr} {q : Qt} (h : Fq K H k a q) (s : Same H H') : Fq K H' k a q := ⟨ob_same s h.o, h.nf, h.sz⟩
theorem Fq.kp {H H' : Hp} {k : Nat} {a s : Addr} {q : Qt} {ys : List V} (h : Fq K H k a q) (e : Kp s H H') (hs : H s = some (.lst ys)) : Fq K H' k a q := ⟨ob_kp e hs (fun _ z => by cases z) h.o, h.nf, h.sz⟩
theorem Fq.mono {H : Hp} {j k : Nat} {a : Addr} {q : Qt} (h : Fq K H j a q) (l : j ≤ k) : Fq K H k a q := ⟨h.o, h.nf, h.sz.mono l⟩
def spBin (K : PySem.W.Frag) (R : Qt → Qt → Qt → Prop) : Sp := fun vs H Q _ => ∃ (a b : Addr) (p q : Qt), vs = [.ref a, .ref b] ∧ Fq K H 3000 a p ∧ Fq K H 3000 b q ∧ ∀ z, R p q z → Gv K H Q z
def spUn (K : PySem.W.Frag) (g : Qt → Qt) : Sp := fun vs H Q _ => ∃ (a : Addr) (q : Qt), vs = [.ref a] ∧ Fq K H 8000 a q ∧ Gv K H Q (g q)
def spFloor (K : PySem.W.Frag) : Sp := fun vs H Q _ => ∃ (a : Addr) (q : Qt), vs = [.ref a] ∧ Fq K H 8000 a q ∧ Q (.int (q.1 / q.2)) H
abbrev sPlus : Stmt := topS 21
theorem scPlus : FnScope ["left", "right"] ["left", "right"] (defScope sPlus) := ⟨rfl, rfl, rfl, by decide +kernel, rfl, by decide +kernel, by decide +kernel⟩
theorem k_Plus (T : Bt K mg) (D : Dfn K mg "plus" sPlus ["left", "right"]) (d_require : Kn P w K mg base 1 "require" ["well_formed", "what"] spRequire) (d_is_fraction : Kn P w K mg base 2 "is_fraction" ["value"] (spIsFraction K)) (d_fraction : Kn P w K mg base 2 "fraction" ["numerator", "denominator"] (spFraction K)) : Kn P w K mg base 3 "plus" ["left", "right"] (spBin K sum2) := by
  refine Kn.mk' D scPlus (fun vs H Q E h => ?_) (fun f cdv A outer s H vs Q E hr h => ?_)
  · obtain ⟨a, b, p, q, rfl, _⟩ := h
    rfl
  obtain ⟨a, b, p, q, rfl, hp, hq, k⟩ := h
  refine ⟨_, (pss_cons (ps_expr (pe_kn d_require hr (by rfl) (pa_cons (pe_kn d_is_fraction hr (by rfl) (pa_cons (pv 0) pa_nil)) (pa_cons pe_str pa_nil))))
      (pss_cons (ps_expr (pe_kn d_require hr (by rfl) (pa_cons (pe_kn d_is_fraction hr (by rfl) (pa_cons (pv 1) pa_nil)) (pa_cons pe_str pa_nil))))
      (pss_one (ps_ret (pe_kn d_fraction hr (by rfl) (pa_cons (pe_op op_add (pe_op op_mulW (pe_ix ix_any (pv 0) pe_int (fun _ _ => rfl)) (pe_ix ix_any (pv 1) pe_int (fun _ _ => rfl))) (pe_op op_mulW (pe_ix ix_any (pv 1) pe_int (fun _ _ => rfl)) (pe_ix ix_any (pv 0) pe_int (fun _ _ => rfl)))) (pa_cons (pe_op op_mulW (pe_ix ix_any (pv 0) pe_int (fun _ _ => rfl)) (pe_ix ix_any (pv 1) pe_int (fun _ _ => rfl))) pa_nil))))))), ?_⟩
  simp only [cx_K, decide_true, decide_false, reduceCtorEq, gTp, gCons, gNil, ca_0, ca_1, ca_2, ca_3, ca_4, ca_5, ca_6, ca_7, ca_8, ca_9, ca_10, ca_11, ca_12, ca_13, ca_14, ca_15, ca_16, ca_17, ca_18, ca_19, ca_20, ca_21, ca_22, ca_23, ca_24, ca_25, ca_26, ca_27, ca_28, ca_29, ca_30, not_true_eq_false, not_false_eq_true, Int.reduceEq, Nat.reduceEqDiff, Nat.reduceLeDiff, rGcd, V.ty.injEq, eq_self, List.not_mem_nil, beq_self_eq_true, HO.lst.injEq, HO.tup.injEq, tFor_eq, iRng1, iList, iTup, nat10, tSeq, rIxA, rSetA, rIsN, rIsT, tTp, tLs, itsO_tup, itsO_lst, tyO_tup, tyO_lst, tyO_dK, tyN_non, tyN_bl, tyN_int, tyN_str, tyN_ref, tyNs_lt, isB, upd_same, upd_upd, sizeLine_eq, List.mem_cons, String.reduceBEq, String.reduceEq, Bool.or_false, Bool.or_true, Bool.and_false, Bool.false_or, Bool.and_self, Bool.false_and, Bool.not_false, Bool.not_true, List.any_cons, List.any_nil, atI_0, setI_0, atI_1, setI_1, atI_2, setI_2, atI_3, setI_3, atI_4, setI_4, atI_5, setI_5, atI_6, setI_6, tAsg, gName, tOp, tUn, tVar, tC, tCons, L2.tNil, tRet, tIfS, tTest, tCB, tCall, rI, rI0, rU, tNext, tB, tAnd, tOr, tNot, tAndV, tOrV, tNotV, tDrop, tIf, tPar, gSub, rIxL, rIxT, rEq, rNe, rSetL, tBits,
    L2.start, List.map_cons, List.map_nil, List.cons_append, List.nil_append, List.append_nil, List.length_cons, List.length_nil, List.replicate, Nat.reduceAdd, Nat.reduceSub, Nat.zero_add, List.getElem?_cons_zero, List.getElem?_cons_succ, List.set_cons_zero, List.set_cons_succ,
    Option.some.injEq, exists_eq_left', exists_eq_left, V.int.injEq, V.bl.injEq, V.ref.injEq, V.str.injEq, List.cons.injEq, reduceCtorEq, and_true, true_and, false_and, and_false, exists_false, or_false, false_or, or_true, true_or, exists_const, CMul, CDiv, CPow, and_assoc, exists_and_left, exists_and_right, Int.reducePow, Int.reduceNeg, Int.reduceLT, Int.reduceLE, Nat.reducePow, Nat.reduceLT, Int.reduceToNat, gt_iff_lt, ge_iff_le, decide_eq_true_eq, Bool.not_eq_true', decide_eq_false_iff_not, scal, ↓reduceIte, Bool.false_eq_true]
  refine ⟨_, rfl, Tyd.fr hp.o, _, by rw [frOk_fr hp.o hp.nf], _, rfl, Tyd.fr hq.o, _, by rw [frOk_fr hq.o hq.nf], ?_⟩
  simp only [hp.o, hq.o, cx_K, decide_true, decide_false, reduceCtorEq, gTp, gCons, gNil, ca_0, ca_1, ca_2, ca_3, ca_4, ca_5, ca_6, ca_7, ca_8, ca_9, ca_10, ca_11, ca_12, ca_13, ca_14, ca_15, ca_16, ca_17, ca_18, ca_19, ca_20, ca_21, ca_22, ca_23, ca_24, ca_25, ca_26, ca_27, ca_28, ca_29, ca_30, not_true_eq_false, not_false_eq_true, Int.reduceEq, Nat.reduceEqDiff, Nat.reduceLeDiff, rGcd, V.ty.injEq, eq_self, List.not_mem_nil, beq_self_eq_true, HO.lst.injEq, HO.tup.injEq, tFor_eq, iRng1, iList, iTup, nat10, tSeq, rIxA, rSetA, rIsN, rIsT, tTp, tLs, itsO_tup, itsO_lst, tyO_tup, tyO_lst, tyO_dK, tyN_non, tyN_bl, tyN_int, tyN_str, tyN_ref, tyNs_lt, isB, upd_same, upd_upd, sizeLine_eq, List.mem_cons, String.reduceBEq, String.reduceEq, Bool.or_false, Bool.or_true, Bool.and_false, Bool.false_or, Bool.and_self, Bool.false_and, Bool.not_false, Bool.not_true, List.any_cons, List.any_nil, atI_0, setI_0, atI_1, setI_1, atI_2, setI_2, atI_3, setI_3, atI_4, setI_4, atI_5, setI_5, atI_6, setI_6, tAsg, gName, tOp, tUn, tVar, tC, tCons, L2.tNil, tRet, tIfS, tTest, tCB, tCall, rI, rI0, rU, tNext, tB, tAnd, tOr, tNot, tAndV, tOrV, tNotV, tDrop, tIf, tPar, gSub, rIxL, rIxT, rEq, rNe, rSetL, tBits,
    L2.start, List.map_cons, List.map_nil, List.cons_append, List.nil_append, List.append_nil, List.length_cons, List.length_nil, List.replicate, Nat.reduceAdd, Nat.reduceSub, Nat.zero_add, List.getElem?_cons_zero, List.getElem?_cons_succ, List.set_cons_zero, List.set_cons_succ,
    Option.some.injEq, exists_eq_left', exists_eq_left, V.int.injEq, V.bl.injEq, V.ref.injEq, V.str.injEq, List.cons.injEq, reduceCtorEq, and_true, true_and, false_and, and_false, exists_false, or_false, false_or, or_true, true_or, exists_const, CMul, CDiv, CPow, and_assoc, exists_and_left, exists_and_right, Int.reducePow, Int.reduceNeg, Int.reduceLT, Int.reduceLE, Nat.reducePow, Nat.reduceLT, Int.reduceToNat, gt_iff_lt, ge_iff_le, decide_eq_true_eq, Bool.not_eq_true', decide_eq_false_iff_not, scal, ↓reduceIte, Bool.false_eq_true]
  exact ⟨mulW hp.sz.1 hq.sz.2 (by omega), mulW hq.sz.1 hp.sz.2 (by omega), mulW hp.sz.2 hq.sz.2 (by omega), _, _, rfl, mul_ne hp.nf.1 hq.nf.1, szMono (szMul hp.sz.2 hq.sz.2) (by omega), k⟩
def spLFrac (K : PySem.W.Frag) : Sp := fun vs H Q _ => ∃ (a : Addr) (q : Qt), vs = [.ref a] ∧ Fq K H 8000 a q ∧ Q (.bl true) H
abbrev sLFrac : Stmt := topS 54
theorem scLFrac : FnScope ["_law_told_here"] ["_law_told_here"] (defScope sLFrac) := ⟨rfl, rfl, rfl, by decide +kernel, rfl, by decide +kernel, by decide +kernel⟩
theorem k_LFrac (T : Bt K mg) (D : Dfn K mg "_law_is_frac" sLFrac ["_law_told_here"]) (d__law_is_whole : Kn P w K mg base 1 "_law_is_whole" ["_law_told_here"] (spWhole K)) (d__law_gcd : Kn P w K mg base 1 "_law_gcd" ["_law_left", "_law_right"] spGcd) : Kn P w K mg base 2 "_law_is_frac" ["_law_told_here"] (spLFrac K) := by
  refine Kn.mk' D scLFrac (fun vs H Q E h => ?_) (fun f cdv A outer s H vs Q E hr h => ?_)
  · obtain ⟨a, q, rfl, _⟩ := h
    rfl
  obtain ⟨a, q, rfl, hq, k⟩ := h
  refine ⟨_, (pss_cons (ps_if (PW.pt (pw_or (pt_not (pt_val (pe_callB call_isN (by rfl) T.b_isinstance (by decide +kernel) (pa_cons (pv 0) (pa_cons (pe_bltn (v := .ty "tuple") (by rfl) T.b_tuple (by decide +kernel) rfl) pa_nil))))) (pw_or1 (pt_cmpR op_ne (pe_callB call_lenA (by rfl) T.b_len PySem.boot_len (pa_cons (pv 0) pa_nil)) pe_int (nomark _))))) (pss_one (ps_ret pe_bl)) pss_nil)
      (pss_cons (ps_if (PW.pt (pw_or (pt_not (pt_val (pe_kn d__law_is_whole hr (by rfl) (pa_cons (pe_ix ix_any (pv 0) pe_int (fun _ _ => rfl)) pa_nil)))) (pw_or1 (pt_not (pt_val (pe_kn d__law_is_whole hr (by rfl) (pa_cons (pe_ix ix_any (pv 0) pe_int (fun _ _ => rfl)) pa_nil))))))) (pss_one (ps_ret pe_bl)) pss_nil)
      (pss_one (ps_ret (pe_and (pe_cmpR op_gt (pe_ix ix_any (pv 0) pe_int (fun _ _ => rfl)) pe_int (nomark _)) (pe_one (pe_cmpR op_eq (pe_kn d__law_gcd hr (by rfl) (pa_cons (pe_ix ix_any (pv 0) pe_int (fun _ _ => rfl)) (pa_cons (pe_ix ix_any (pv 0) pe_int (fun _ _ => rfl)) pa_nil))) pe_int (nomark _)))))))), ?_⟩
  simp only [hq.o, cx_K, decide_true, decide_false, reduceCtorEq, gTp, gCons, gNil, ca_0, ca_1, ca_2, ca_3, ca_4, ca_5, ca_6, ca_7, ca_8, ca_9, ca_10, ca_11, ca_12, ca_13, ca_14, ca_15, ca_16, ca_17, ca_18, ca_19, ca_20, ca_21, ca_22, ca_23, ca_24, ca_25, ca_26, ca_27, ca_28, ca_29, ca_30, not_true_eq_false, not_false_eq_true, Int.reduceEq, Nat.reduceEqDiff, Nat.reduceLeDiff, rGcd, V.ty.injEq, eq_self, List.not_mem_nil, beq_self_eq_true, HO.lst.injEq, HO.tup.injEq, tFor_eq, iRng1, iList, iTup, nat10, tSeq, rIxA, rSetA, rIsN, rIsT, tTp, tLs, itsO_tup, itsO_lst, tyO_tup, tyO_lst, tyO_dK, tyN_non, tyN_bl, tyN_int, tyN_str, tyN_ref, tyNs_lt, isB, upd_same, upd_upd, sizeLine_eq, List.mem_cons, String.reduceBEq, String.reduceEq, Bool.or_false, Bool.or_true, Bool.and_false, Bool.false_or, Bool.and_self, Bool.false_and, Bool.not_false, Bool.not_true, List.any_cons, List.any_nil, atI_0, setI_0, atI_1, setI_1, atI_2, setI_2, atI_3, setI_3, atI_4, setI_4, atI_5, setI_5, atI_6, setI_6, tAsg, gName, tOp, tUn, tVar, tC, tCons, L2.tNil, tRet, tIfS, tTest, tCB, tCall, rI, rI0, rU, tNext, tB, tAnd, tOr, tNot, tAndV, tOrV, tNotV, tDrop, tIf, tPar, gSub, rIxL, rIxT, rEq, rNe, rSetL, tBits,
    L2.start, List.map_cons, List.map_nil, List.cons_append, List.nil_append, List.append_nil, List.length_cons, List.length_nil, List.replicate, Nat.reduceAdd, Nat.reduceSub, Nat.zero_add, List.getElem?_cons_zero, List.getElem?_cons_succ, List.set_cons_zero, List.set_cons_succ,
    Option.some.injEq, exists_eq_left', exists_eq_left, V.int.injEq, V.bl.injEq, V.ref.injEq, V.str.injEq, List.cons.injEq, reduceCtorEq, and_true, true_and, false_and, and_false, exists_false, or_false, false_or, or_true, true_or, exists_const, CMul, CDiv, CPow, and_assoc, exists_and_left, exists_and_right, Int.reducePow, Int.reduceNeg, Int.reduceLT, Int.reduceLE, Nat.reducePow, Nat.reduceLT, Int.reduceToNat, gt_iff_lt, ge_iff_le, decide_eq_true_eq, Bool.not_eq_true', decide_eq_false_iff_not, scal, ↓reduceIte, Bool.false_eq_true]
  refine ⟨_, rfl, rfl, true, rfl, ?_⟩
  rw [if_neg Bool.noConfusion]
  simp only [hq.o, cx_K, decide_true, decide_false, reduceCtorEq, gTp, gCons, gNil, ca_0, ca_1, ca_2, ca_3, ca_4, ca_5, ca_6, ca_7, ca_8, ca_9, ca_10, ca_11, ca_12, ca_13, ca_14, ca_15, ca_16, ca_17, ca_18, ca_19, ca_20, ca_21, ca_22, ca_23, ca_24, ca_25, ca_26, ca_27, ca_28, ca_29, ca_30, not_true_eq_false, not_false_eq_true, Int.reduceEq, Nat.reduceEqDiff, Nat.reduceLeDiff, rGcd, V.ty.injEq, eq_self, List.not_mem_nil, beq_self_eq_true, HO.lst.injEq, HO.tup.injEq, tFor_eq, iRng1, iList, iTup, nat10, tSeq, rIxA, rSetA, rIsN, rIsT, tTp, tLs, itsO_tup, itsO_lst, tyO_tup, tyO_lst, tyO_dK, tyN_non, tyN_bl, tyN_int, tyN_str, tyN_ref, tyNs_lt, isB, upd_same, upd_upd, sizeLine_eq, List.mem_cons, String.reduceBEq, String.reduceEq, Bool.or_false, Bool.or_true, Bool.and_false, Bool.false_or, Bool.and_self, Bool.false_and, Bool.not_false, Bool.not_true, List.any_cons, List.any_nil, atI_0, setI_0, atI_1, setI_1, atI_2, setI_2, atI_3, setI_3, atI_4, setI_4, atI_5, setI_5, atI_6, setI_6, tAsg, gName, tOp, tUn, tVar, tC, tCons, L2.tNil, tRet, tIfS, tTest, tCB, tCall, rI, rI0, rU, tNext, tB, tAnd, tOr, tNot, tAndV, tOrV, tNotV, tDrop, tIf, tPar, gSub, rIxL, rIxT, rEq, rNe, rSetL, tBits,
    L2.start, List.map_cons, List.map_nil, List.cons_append, List.nil_append, List.append_nil, List.length_cons, List.length_nil, List.replicate, Nat.reduceAdd, Nat.reduceSub, Nat.zero_add, List.getElem?_cons_zero, List.getElem?_cons_succ, List.set_cons_zero, List.set_cons_succ,
    Option.some.injEq, exists_eq_left', exists_eq_left, V.int.injEq, V.bl.injEq, V.ref.injEq, V.str.injEq, List.cons.injEq, reduceCtorEq, and_true, true_and, false_and, and_false, exists_false, or_false, false_or, or_true, true_or, exists_const, CMul, CDiv, CPow, and_assoc, exists_and_left, exists_and_right, Int.reducePow, Int.reduceNeg, Int.reduceLT, Int.reduceLE, Nat.reducePow, Nat.reduceLT, Int.reduceToNat, gt_iff_lt, ge_iff_le, decide_eq_true_eq, Bool.not_eq_true', decide_eq_false_iff_not, scal, ↓reduceIte, Bool.false_eq_true]
  refine ⟨_, rfl, rfl, true, rfl, ?_⟩
  rw [if_neg Bool.noConfusion]
  simp only [hq.o, cx_K, decide_true, decide_false, reduceCtorEq, gTp, gCons, gNil, ca_0, ca_1, ca_2, ca_3, ca_4, ca_5, ca_6, ca_7, ca_8, ca_9, ca_10, ca_11, ca_12, ca_13, ca_14, ca_15, ca_16, ca_17, ca_18, ca_19, ca_20, ca_21, ca_22, ca_23, ca_24, ca_25, ca_26, ca_27, ca_28, ca_29, ca_30, not_true_eq_false, not_false_eq_true, Int.reduceEq, Nat.reduceEqDiff, Nat.reduceLeDiff, rGcd, V.ty.injEq, eq_self, List.not_mem_nil, beq_self_eq_true, HO.lst.injEq, HO.tup.injEq, tFor_eq, iRng1, iList, iTup, nat10, tSeq, rIxA, rSetA, rIsN, rIsT, tTp, tLs, itsO_tup, itsO_lst, tyO_tup, tyO_lst, tyO_dK, tyN_non, tyN_bl, tyN_int, tyN_str, tyN_ref, tyNs_lt, isB, upd_same, upd_upd, sizeLine_eq, List.mem_cons, String.reduceBEq, String.reduceEq, Bool.or_false, Bool.or_true, Bool.and_false, Bool.false_or, Bool.and_self, Bool.false_and, Bool.not_false, Bool.not_true, List.any_cons, List.any_nil, atI_0, setI_0, atI_1, setI_1, atI_2, setI_2, atI_3, setI_3, atI_4, setI_4, atI_5, setI_5, atI_6, setI_6, tAsg, gName, tOp, tUn, tVar, tC, tCons, L2.tNil, tRet, tIfS, tTest, tCB, tCall, rI, rI0, rU, tNext, tB, tAnd, tOr, tNot, tAndV, tOrV, tNotV, tDrop, tIf, tPar, gSub, rIxL, rIxT, rEq, rNe, rSetL, tBits,
    L2.start, List.map_cons, List.map_nil, List.cons_append, List.nil_append, List.append_nil, List.length_cons, List.length_nil, List.replicate, Nat.reduceAdd, Nat.reduceSub, Nat.zero_add, List.getElem?_cons_zero, List.getElem?_cons_succ, List.set_cons_zero, List.set_cons_succ,
    Option.some.injEq, exists_eq_left', exists_eq_left, V.int.injEq, V.bl.injEq, V.ref.injEq, V.str.injEq, List.cons.injEq, reduceCtorEq, and_true, true_and, false_and, and_false, exists_false, or_false, false_or, or_true, true_or, exists_const, CMul, CDiv, CPow, and_assoc, exists_and_left, exists_and_right, Int.reducePow, Int.reduceNeg, Int.reduceLT, Int.reduceLE, Nat.reducePow, Nat.reduceLT, Int.reduceToNat, gt_iff_lt, ge_iff_le, decide_eq_true_eq, Bool.not_eq_true', decide_eq_false_iff_not, scal, ↓reduceIte, Bool.false_eq_true]
  rw [if_pos (show 0 < q.2 by have := hq.nf.1; omega)]
  refine ⟨_, _, rfl, rfl, ?_⟩
  have e : decide (V.int ((Int.gcd q.1 q.2 : Nat) : Int) = V.int 1) = true := by rw [hq.nf.2]; rfl
  rw [e]
  exact k
def dif2 (p q : Qt) (z : Qt) : Prop := Is z (p.1 * q.2 - q.1 * p.2) (p.2 * q.2)
def pro2 (p q : Qt) (z : Qt) : Prop := Is z (p.1 * q.1) (p.2 * q.2)
def quo2 (p q : Qt) (z : Qt) : Prop := Is z (p.1 * q.2) (p.2 * q.1)
def cmp2 (p q : Qt) : Int := if p.1 * q.2 = q.1 * p.2 then 0 else if p.1 * q.2 < q.1 * p.2 then -1 else 1
def spQuo (K : PySem.W.Frag) : Sp := fun vs H Q _ => ∃ (a b : Addr) (p q : Qt), vs = [.ref a, .ref b] ∧ Fq K H 3000 a p ∧ Fq K H 3000 b q ∧ q.1 ≠ 0 ∧ ∀ z, quo2 p q z → Gv K H Q z
def spCmp (K : PySem.W.Frag) : Sp := fun vs H Q _ => ∃ (a b : Addr) (p q : Qt), vs = [.ref a, .ref b] ∧ Fq K H 3000 a p ∧ Fq K H 3000 b q ∧ Q (.int (cmp2 p q)) H
abbrev sMinus : Stmt := topS 22
theorem scMinus : FnScope ["left", "right"] ["left", "right"] (defScope sMinus) := ⟨rfl, rfl, rfl, by decide +kernel, rfl, by decide +kernel, by decide +kernel⟩
theorem k_Minus (T : Bt K mg) (D : Dfn K mg "minus" sMinus ["left", "right"]) (d_require : Kn P w K mg base 1 "require" ["well_formed", "what"] spRequire) (d_is_fraction : Kn P w K mg base 2 "is_fraction" ["value"] (spIsFraction K)) (d_fraction : Kn P w K mg base 2 "fraction" ["numerator", "denominator"] (spFraction K)) : Kn P w K mg base 3 "minus" ["left", "right"] (spBin K dif2) := by
  refine Kn.mk' D scMinus (fun vs H Q E h => ?_) (fun f cdv A outer s H vs Q E hr h => ?_)
  · obtain ⟨a, b, p, q, rfl, _⟩ := h
    rfl
  obtain ⟨a, b, p, q, rfl, hp, hq, k⟩ := h
  refine ⟨_, (pss_cons (ps_expr (pe_kn d_require hr (by rfl) (pa_cons (pe_kn d_is_fraction hr (by rfl) (pa_cons (pv 0) pa_nil)) (pa_cons pe_str pa_nil))))
      (pss_cons (ps_expr (pe_kn d_require hr (by rfl) (pa_cons (pe_kn d_is_fraction hr (by rfl) (pa_cons (pv 1) pa_nil)) (pa_cons pe_str pa_nil))))
      (pss_one (ps_ret (pe_kn d_fraction hr (by rfl) (pa_cons (pe_op op_sub (pe_op op_mulW (pe_ix ix_any (pv 0) pe_int (fun _ _ => rfl)) (pe_ix ix_any (pv 1) pe_int (fun _ _ => rfl))) (pe_op op_mulW (pe_ix ix_any (pv 1) pe_int (fun _ _ => rfl)) (pe_ix ix_any (pv 0) pe_int (fun _ _ => rfl)))) (pa_cons (pe_op op_mulW (pe_ix ix_any (pv 0) pe_int (fun _ _ => rfl)) (pe_ix ix_any (pv 1) pe_int (fun _ _ => rfl))) pa_nil))))))), ?_⟩
  simp only [cx_K, decide_true, decide_false, reduceCtorEq, gTp, gCons, gNil, ca_0, ca_1, ca_2, ca_3, ca_4, ca_5, ca_6, ca_7, ca_8, ca_9, ca_10, ca_11, ca_12, ca_13, ca_14, ca_15, ca_16, ca_17, ca_18, ca_19, ca_20, ca_21, ca_22, ca_23, ca_24, ca_25, ca_26, ca_27, ca_28, ca_29, ca_30, not_true_eq_false, not_false_eq_true, Int.reduceEq, Nat.reduceEqDiff, Nat.reduceLeDiff, rGcd, V.ty.injEq, eq_self, List.not_mem_nil, beq_self_eq_true, HO.lst.injEq, HO.tup.injEq, tFor_eq, iRng1, iList, iTup, nat10, tSeq, rIxA, rSetA, rIsN, rIsT, tTp, tLs, itsO_tup, itsO_lst, tyO_tup, tyO_lst, tyO_dK, tyN_non, tyN_bl, tyN_int, tyN_str, tyN_ref, tyNs_lt, isB, upd_same, upd_upd, sizeLine_eq, List.mem_cons, String.reduceBEq, String.reduceEq, Bool.or_false, Bool.or_true, Bool.and_false, Bool.false_or, Bool.and_self, Bool.false_and, Bool.not_false, Bool.not_true, List.any_cons, List.any_nil, atI_0, setI_0, atI_1, setI_1, atI_2, setI_2, atI_3, setI_3, atI_4, setI_4, atI_5, setI_5, atI_6, setI_6, tAsg, gName, tOp, tUn, tVar, tC, tCons, L2.tNil, tRet, tIfS, tTest, tCB, tCall, rI, rI0, rU, tNext, tB, tAnd, tOr, tNot, tAndV, tOrV, tNotV, tDrop, tIf, tPar, gSub, rIxL, rIxT, rEq, rNe, rSetL, tBits,
    L2.start, List.map_cons, List.map_nil, List.cons_append, List.nil_append, List.append_nil, List.length_cons, List.length_nil, List.replicate, Nat.reduceAdd, Nat.reduceSub, Nat.zero_add, List.getElem?_cons_zero, List.getElem?_cons_succ, List.set_cons_zero, List.set_cons_succ,
    Option.some.injEq, exists_eq_left', exists_eq_left, V.int.injEq, V.bl.injEq, V.ref.injEq, V.str.injEq, List.cons.injEq, reduceCtorEq, and_true, true_and, false_and, and_false, exists_false, or_false, false_or, or_true, true_or, exists_const, CMul, CDiv, CPow, and_assoc, exists_and_left, exists_and_right, Int.reducePow, Int.reduceNeg, Int.reduceLT, Int.reduceLE, Nat.reducePow, Nat.reduceLT, Int.reduceToNat, gt_iff_lt, ge_iff_le, decide_eq_true_eq, Bool.not_eq_true', decide_eq_false_iff_not, scal, ↓reduceIte, Bool.false_eq_true]
  refine ⟨_, rfl, Tyd.fr hp.o, _, by rw [frOk_fr hp.o hp.nf], _, rfl, Tyd.fr hq.o, _, by rw [frOk_fr hq.o hq.nf], ?_⟩
  simp only [hp.o, hq.o, cx_K, decide_true, decide_false, reduceCtorEq, gTp, gCons, gNil, ca_0, ca_1, ca_2, ca_3, ca_4, ca_5, ca_6, ca_7, ca_8, ca_9, ca_10, ca_11, ca_12, ca_13, ca_14, ca_15, ca_16, ca_17, ca_18, ca_19, ca_20, ca_21, ca_22, ca_23, ca_24, ca_25, ca_26, ca_27, ca_28, ca_29, ca_30, not_true_eq_false, not_false_eq_true, Int.reduceEq, Nat.reduceEqDiff, Nat.reduceLeDiff, rGcd, V.ty.injEq, eq_self, List.not_mem_nil, beq_self_eq_true, HO.lst.injEq, HO.tup.injEq, tFor_eq, iRng1, iList, iTup, nat10, tSeq, rIxA, rSetA, rIsN, rIsT, tTp, tLs, itsO_tup, itsO_lst, tyO_tup, tyO_lst, tyO_dK, tyN_non, tyN_bl, tyN_int, tyN_str, tyN_ref, tyNs_lt, isB, upd_same, upd_upd, sizeLine_eq, List.mem_cons, String.reduceBEq, String.reduceEq, Bool.or_false, Bool.or_true, Bool.and_false, Bool.false_or, Bool.and_self, Bool.false_and, Bool.not_false, Bool.not_true, List.any_cons, List.any_nil, atI_0, setI_0, atI_1, setI_1, atI_2, setI_2, atI_3, setI_3, atI_4, setI_4, atI_5, setI_5, atI_6, setI_6, tAsg, gName, tOp, tUn, tVar, tC, tCons, L2.tNil, tRet, tIfS, tTest, tCB, tCall, rI, rI0, rU, tNext, tB, tAnd, tOr, tNot, tAndV, tOrV, tNotV, tDrop, tIf, tPar, gSub, rIxL, rIxT, rEq, rNe, rSetL, tBits,
    L2.start, List.map_cons, List.map_nil, List.cons_append, List.nil_append, List.append_nil, List.length_cons, List.length_nil, List.replicate, Nat.reduceAdd, Nat.reduceSub, Nat.zero_add, List.getElem?_cons_zero, List.getElem?_cons_succ, List.set_cons_zero, List.set_cons_succ,
    Option.some.injEq, exists_eq_left', exists_eq_left, V.int.injEq, V.bl.injEq, V.ref.injEq, V.str.injEq, List.cons.injEq, reduceCtorEq, and_true, true_and, false_and, and_false, exists_false, or_false, false_or, or_true, true_or, exists_const, CMul, CDiv, CPow, and_assoc, exists_and_left, exists_and_right, Int.reducePow, Int.reduceNeg, Int.reduceLT, Int.reduceLE, Nat.reducePow, Nat.reduceLT, Int.reduceToNat, gt_iff_lt, ge_iff_le, decide_eq_true_eq, Bool.not_eq_true', decide_eq_false_iff_not, scal, ↓reduceIte, Bool.false_eq_true]
  exact ⟨mulW hp.sz.1 hq.sz.2 (by omega), mulW hq.sz.1 hp.sz.2 (by omega), mulW hp.sz.2 hq.sz.2 (by omega), _, _, rfl, mul_ne hp.nf.1 hq.nf.1, szMono (szMul hp.sz.2 hq.sz.2) (by omega), k⟩
abbrev sTimes : Stmt := topS 23
theorem scTimes : FnScope ["left", "right"] ["left", "right"] (defScope sTimes) := ⟨rfl, rfl, rfl, by decide +kernel, rfl, by decide +kernel, by decide +kernel⟩
theorem k_Times (T : Bt K mg) (D : Dfn K mg "times" sTimes ["left", "right"]) (d_require : Kn P w K mg base 1 "require" ["well_formed", "what"] spRequire) (d_is_fraction : Kn P w K mg base 2 "is_fraction" ["value"] (spIsFraction K)) (d_fraction : Kn P w K mg base 2 "fraction" ["numerator", "denominator"] (spFraction K)) : Kn P w K mg base 3 "times" ["left", "right"] (spBin K pro2) := by
  refine Kn.mk' D scTimes (fun vs H Q E h => ?_) (fun f cdv A outer s H vs Q E hr h => ?_)
  · obtain ⟨a, b, p, q, rfl, _⟩ := h
    rfl
  obtain ⟨a, b, p, q, rfl, hp, hq, k⟩ := h
  refine ⟨_, (pss_cons (ps_expr (pe_kn d_require hr (by rfl) (pa_cons (pe_kn d_is_fraction hr (by rfl) (pa_cons (pv 0) pa_nil)) (pa_cons pe_str pa_nil))))
      (pss_cons (ps_expr (pe_kn d_require hr (by rfl) (pa_cons (pe_kn d_is_fraction hr (by rfl) (pa_cons (pv 1) pa_nil)) (pa_cons pe_str pa_nil))))
      (pss_one (ps_ret (pe_kn d_fraction hr (by rfl) (pa_cons (pe_op op_mulW (pe_ix ix_any (pv 0) pe_int (fun _ _ => rfl)) (pe_ix ix_any (pv 1) pe_int (fun _ _ => rfl))) (pa_cons (pe_op op_mulW (pe_ix ix_any (pv 0) pe_int (fun _ _ => rfl)) (pe_ix ix_any (pv 1) pe_int (fun _ _ => rfl))) pa_nil))))))), ?_⟩
  simp only [cx_K, decide_true, decide_false, reduceCtorEq, gTp, gCons, gNil, ca_0, ca_1, ca_2, ca_3, ca_4, ca_5, ca_6, ca_7, ca_8, ca_9, ca_10, ca_11, ca_12, ca_13, ca_14, ca_15, ca_16, ca_17, ca_18, ca_19, ca_20, ca_21, ca_22, ca_23, ca_24, ca_25, ca_26, ca_27, ca_28, ca_29, ca_30, not_true_eq_false, not_false_eq_true, Int.reduceEq, Nat.reduceEqDiff, Nat.reduceLeDiff, rGcd, V.ty.injEq, eq_self, List.not_mem_nil, beq_self_eq_true, HO.lst.injEq, HO.tup.injEq, tFor_eq, iRng1, iList, iTup, nat10, tSeq, rIxA, rSetA, rIsN, rIsT, tTp, tLs, itsO_tup, itsO_lst, tyO_tup, tyO_lst, tyO_dK, tyN_non, tyN_bl, tyN_int, tyN_str, tyN_ref, tyNs_lt, isB, upd_same, upd_upd, sizeLine_eq, List.mem_cons, String.reduceBEq, String.reduceEq, Bool.or_false, Bool.or_true, Bool.and_false, Bool.false_or, Bool.and_self, Bool.false_and, Bool.not_false, Bool.not_true, List.any_cons, List.any_nil, atI_0, setI_0, atI_1, setI_1, atI_2, setI_2, atI_3, setI_3, atI_4, setI_4, atI_5, setI_5, atI_6, setI_6, tAsg, gName, tOp, tUn, tVar, tC, tCons, L2.tNil, tRet, tIfS, tTest, tCB, tCall, rI, rI0, rU, tNext, tB, tAnd, tOr, tNot, tAndV, tOrV, tNotV, tDrop, tIf, tPar, gSub, rIxL, rIxT, rEq, rNe, rSetL, tBits,
    L2.start, List.map_cons, List.map_nil, List.cons_append, List.nil_append, List.append_nil, List.length_cons, List.length_nil, List.replicate, Nat.reduceAdd, Nat.reduceSub, Nat.zero_add, List.getElem?_cons_zero, List.getElem?_cons_succ, List.set_cons_zero, List.set_cons_succ,
    Option.some.injEq, exists_eq_left', exists_eq_left, V.int.injEq, V.bl.injEq, V.ref.injEq, V.str.injEq, List.cons.injEq, reduceCtorEq, and_true, true_and, false_and, and_false, exists_false, or_false, false_or, or_true, true_or, exists_const, CMul, CDiv, CPow, and_assoc, exists_and_left, exists_and_right, Int.reducePow, Int.reduceNeg, Int.reduceLT, Int.reduceLE, Nat.reducePow, Nat.reduceLT, Int.reduceToNat, gt_iff_lt, ge_iff_le, decide_eq_true_eq, Bool.not_eq_true', decide_eq_false_iff_not, scal, ↓reduceIte, Bool.false_eq_true]
  refine ⟨_, rfl, Tyd.fr hp.o, _, by rw [frOk_fr hp.o hp.nf], _, rfl, Tyd.fr hq.o, _, by rw [frOk_fr hq.o hq.nf], ?_⟩
  simp only [hp.o, hq.o, cx_K, decide_true, decide_false, reduceCtorEq, gTp, gCons, gNil, ca_0, ca_1, ca_2, ca_3, ca_4, ca_5, ca_6, ca_7, ca_8, ca_9, ca_10, ca_11, ca_12, ca_13, ca_14, ca_15, ca_16, ca_17, ca_18, ca_19, ca_20, ca_21, ca_22, ca_23, ca_24, ca_25, ca_26, ca_27, ca_28, ca_29, ca_30, not_true_eq_false, not_false_eq_true, Int.reduceEq, Nat.reduceEqDiff, Nat.reduceLeDiff, rGcd, V.ty.injEq, eq_self, List.not_mem_nil, beq_self_eq_true, HO.lst.injEq, HO.tup.injEq, tFor_eq, iRng1, iList, iTup, nat10, tSeq, rIxA, rSetA, rIsN, rIsT, tTp, tLs, itsO_tup, itsO_lst, tyO_tup, tyO_lst, tyO_dK, tyN_non, tyN_bl, tyN_int, tyN_str, tyN_ref, tyNs_lt, isB, upd_same, upd_upd, sizeLine_eq, List.mem_cons, String.reduceBEq, String.reduceEq, Bool.or_false, Bool.or_true, Bool.and_false, Bool.false_or, Bool.and_self, Bool.false_and, Bool.not_false, Bool.not_true, List.any_cons, List.any_nil, atI_0, setI_0, atI_1, setI_1, atI_2, setI_2, atI_3, setI_3, atI_4, setI_4, atI_5, setI_5, atI_6, setI_6, tAsg, gName, tOp, tUn, tVar, tC, tCons, L2.tNil, tRet, tIfS, tTest, tCB, tCall, rI, rI0, rU, tNext, tB, tAnd, tOr, tNot, tAndV, tOrV, tNotV, tDrop, tIf, tPar, gSub, rIxL, rIxT, rEq, rNe, rSetL, tBits,
    L2.start, List.map_cons, List.map_nil, List.cons_append, List.nil_append, List.append_nil, List.length_cons, List.length_nil, List.replicate, Nat.reduceAdd, Nat.reduceSub, Nat.zero_add, List.getElem?_cons_zero, List.getElem?_cons_succ, List.set_cons_zero, List.set_cons_succ,
    Option.some.injEq, exists_eq_left', exists_eq_left, V.int.injEq, V.bl.injEq, V.ref.injEq, V.str.injEq, List.cons.injEq, reduceCtorEq, and_true, true_and, false_and, and_false, exists_false, or_false, false_or, or_true, true_or, exists_const, CMul, CDiv, CPow, and_assoc, exists_and_left, exists_and_right, Int.reducePow, Int.reduceNeg, Int.reduceLT, Int.reduceLE, Nat.reducePow, Nat.reduceLT, Int.reduceToNat, gt_iff_lt, ge_iff_le, decide_eq_true_eq, Bool.not_eq_true', decide_eq_false_iff_not, scal, ↓reduceIte, Bool.false_eq_true]
  exact ⟨mulW hp.sz.1 hq.sz.1 (by omega), mulW hp.sz.2 hq.sz.2 (by omega), _, _, rfl, mul_ne hp.nf.1 hq.nf.1, szMono (szMul hp.sz.2 hq.sz.2) (by omega), k⟩
abbrev sLOver : Stmt := topS 52
theorem scLOver : FnScope ["_law_left", "_law_right"] ["_law_left", "_law_right"] (defScope sLOver) := ⟨rfl, rfl, rfl, by decide +kernel, rfl, by decide +kernel, by decide +kernel⟩
theorem k_LOver (T : Bt K mg) (D : Dfn K mg "_law_over" sLOver ["_law_left", "_law_right"]) (d__law_lowest : Kn P w K mg base 2 "_law_lowest" ["_law_top", "_law_bottom"] (spLowest K)) : Kn P w K mg base 3 "_law_over" ["_law_left", "_law_right"] (spBin K fun p q z => Lw z (p.1 * q.2) (p.2 * q.1)) := by
  refine Kn.mk' D scLOver (fun vs H Q E h => ?_) (fun f cdv A outer s H vs Q E hr h => ?_)
  · obtain ⟨a, b, p, q, rfl, _⟩ := h
    rfl
  obtain ⟨a, b, p, q, rfl, hp, hq, k⟩ := h
  refine ⟨_, (pss_one (ps_ret (pe_kn d__law_lowest hr (by rfl) (pa_cons (pe_op op_mulW (pe_ix ix_any (pv 0) pe_int (fun _ _ => rfl)) (pe_ix ix_any (pv 1) pe_int (fun _ _ => rfl))) (pa_cons (pe_op op_mulW (pe_ix ix_any (pv 0) pe_int (fun _ _ => rfl)) (pe_ix ix_any (pv 1) pe_int (fun _ _ => rfl))) pa_nil))))), ?_⟩
  simp only [hp.o, hq.o, cx_K, decide_true, decide_false, reduceCtorEq, gTp, gCons, gNil, ca_0, ca_1, ca_2, ca_3, ca_4, ca_5, ca_6, ca_7, ca_8, ca_9, ca_10, ca_11, ca_12, ca_13, ca_14, ca_15, ca_16, ca_17, ca_18, ca_19, ca_20, ca_21, ca_22, ca_23, ca_24, ca_25, ca_26, ca_27, ca_28, ca_29, ca_30, not_true_eq_false, not_false_eq_true, Int.reduceEq, Nat.reduceEqDiff, Nat.reduceLeDiff, rGcd, V.ty.injEq, eq_self, List.not_mem_nil, beq_self_eq_true, HO.lst.injEq, HO.tup.injEq, tFor_eq, iRng1, iList, iTup, nat10, tSeq, rIxA, rSetA, rIsN, rIsT, tTp, tLs, itsO_tup, itsO_lst, tyO_tup, tyO_lst, tyO_dK, tyN_non, tyN_bl, tyN_int, tyN_str, tyN_ref, tyNs_lt, isB, upd_same, upd_upd, sizeLine_eq, List.mem_cons, String.reduceBEq, String.reduceEq, Bool.or_false, Bool.or_true, Bool.and_false, Bool.false_or, Bool.and_self, Bool.false_and, Bool.not_false, Bool.not_true, List.any_cons, List.any_nil, atI_0, setI_0, atI_1, setI_1, atI_2, setI_2, atI_3, setI_3, atI_4, setI_4, atI_5, setI_5, atI_6, setI_6, tAsg, gName, tOp, tUn, tVar, tC, tCons, L2.tNil, tRet, tIfS, tTest, tCB, tCall, rI, rI0, rU, tNext, tB, tAnd, tOr, tNot, tAndV, tOrV, tNotV, tDrop, tIf, tPar, gSub, rIxL, rIxT, rEq, rNe, rSetL, tBits,
    L2.start, List.map_cons, List.map_nil, List.cons_append, List.nil_append, List.append_nil, List.length_cons, List.length_nil, List.replicate, Nat.reduceAdd, Nat.reduceSub, Nat.zero_add, List.getElem?_cons_zero, List.getElem?_cons_succ, List.set_cons_zero, List.set_cons_succ,
    Option.some.injEq, exists_eq_left', exists_eq_left, V.int.injEq, V.bl.injEq, V.ref.injEq, V.str.injEq, List.cons.injEq, reduceCtorEq, and_true, true_and, false_and, and_false, exists_false, or_false, false_or, or_true, true_or, exists_const, CMul, CDiv, CPow, and_assoc, exists_and_left, exists_and_right, Int.reducePow, Int.reduceNeg, Int.reduceLT, Int.reduceLE, Nat.reducePow, Nat.reduceLT, Int.reduceToNat, gt_iff_lt, ge_iff_le, decide_eq_true_eq, Bool.not_eq_true', decide_eq_false_iff_not, scal, ↓reduceIte, Bool.false_eq_true]
  exact ⟨mulW hp.sz.1 hq.sz.2 (by omega), mulW hp.sz.2 hq.sz.1 (by omega), _, _, rfl, szMono (szMul hp.sz.2 hq.sz.1) (by omega), k⟩
def spQuot (K : PySem.W.Frag) : Sp := fun vs H Q _ => ∃ (a : Addr) (z : Qt) (t b : Int), vs = [.ref a, .int t, .int b] ∧ Fq K H 3000 a z ∧ Is z t b ∧ t.natAbs < 2 ^ 3000 ∧ b.natAbs < 2 ^ 3000 ∧ Q (.bl true) H
abbrev sLPlus : Stmt := topS 49
theorem scLPlus : FnScope ["_law_left", "_law_right"] ["_law_left", "_law_right"] (defScope sLPlus) := ⟨rfl, rfl, rfl, by decide +kernel, rfl, by decide +kernel, by decide +kernel⟩
theorem k_LPlus (T : Bt K mg) (D : Dfn K mg "_law_plus" sLPlus ["_law_left", "_law_right"]) (d__law_lowest : Kn P w K mg base 2 "_law_lowest" ["_law_top", "_law_bottom"] (spLowest K)) : Kn P w K mg base 3 "_law_plus" ["_law_left", "_law_right"] (spBin K sum2) := by
  refine Kn.mk' D scLPlus (fun vs H Q E h => ?_) (fun f cdv A outer s H vs Q E hr h => ?_)
  · obtain ⟨a, b, p, q, rfl, _⟩ := h
    rfl
  obtain ⟨a, b, p, q, rfl, hp, hq, k⟩ := h
  refine ⟨_, (pss_one (ps_ret (pe_kn d__law_lowest hr (by rfl) (pa_cons (pe_op op_add (pe_op op_mulW (pe_ix ix_any (pv 0) pe_int (fun _ _ => rfl)) (pe_ix ix_any (pv 1) pe_int (fun _ _ => rfl))) (pe_op op_mulW (pe_ix ix_any (pv 1) pe_int (fun _ _ => rfl)) (pe_ix ix_any (pv 0) pe_int (fun _ _ => rfl)))) (pa_cons (pe_op op_mulW (pe_ix ix_any (pv 0) pe_int (fun _ _ => rfl)) (pe_ix ix_any (pv 1) pe_int (fun _ _ => rfl))) pa_nil))))), ?_⟩
  simp only [hp.o, hq.o, cx_K, decide_true, decide_false, reduceCtorEq, gTp, gCons, gNil, ca_0, ca_1, ca_2, ca_3, ca_4, ca_5, ca_6, ca_7, ca_8, ca_9, ca_10, ca_11, ca_12, ca_13, ca_14, ca_15, ca_16, ca_17, ca_18, ca_19, ca_20, ca_21, ca_22, ca_23, ca_24, ca_25, ca_26, ca_27, ca_28, ca_29, ca_30, not_true_eq_false, not_false_eq_true, Int.reduceEq, Nat.reduceEqDiff, Nat.reduceLeDiff, rGcd, V.ty.injEq, eq_self, List.not_mem_nil, beq_self_eq_true, HO.lst.injEq, HO.tup.injEq, tFor_eq, iRng1, iList, iTup, nat10, tSeq, rIxA, rSetA, rIsN, rIsT, tTp, tLs, itsO_tup, itsO_lst, tyO_tup, tyO_lst, tyO_dK, tyN_non, tyN_bl, tyN_int, tyN_str, tyN_ref, tyNs_lt, isB, upd_same, upd_upd, sizeLine_eq, List.mem_cons, String.reduceBEq, String.reduceEq, Bool.or_false, Bool.or_true, Bool.and_false, Bool.false_or, Bool.and_self, Bool.false_and, Bool.not_false, Bool.not_true, List.any_cons, List.any_nil, atI_0, setI_0, atI_1, setI_1, atI_2, setI_2, atI_3, setI_3, atI_4, setI_4, atI_5, setI_5, atI_6, setI_6, tAsg, gName, tOp, tUn, tVar, tC, tCons, L2.tNil, tRet, tIfS, tTest, tCB, tCall, rI, rI0, rU, tNext, tB, tAnd, tOr, tNot, tAndV, tOrV, tNotV, tDrop, tIf, tPar, gSub, rIxL, rIxT, rEq, rNe, rSetL, tBits,
    L2.start, List.map_cons, List.map_nil, List.cons_append, List.nil_append, List.append_nil, List.length_cons, List.length_nil, List.replicate, Nat.reduceAdd, Nat.reduceSub, Nat.zero_add, List.getElem?_cons_zero, List.getElem?_cons_succ, List.set_cons_zero, List.set_cons_succ,
    Option.some.injEq, exists_eq_left', exists_eq_left, V.int.injEq, V.bl.injEq, V.ref.injEq, V.str.injEq, List.cons.injEq, reduceCtorEq, and_true, true_and, false_and, and_false, exists_false, or_false, false_or, or_true, true_or, exists_const, CMul, CDiv, CPow, and_assoc, exists_and_left, exists_and_right, Int.reducePow, Int.reduceNeg, Int.reduceLT, Int.reduceLE, Nat.reducePow, Nat.reduceLT, Int.reduceToNat, gt_iff_lt, ge_iff_le, decide_eq_true_eq, Bool.not_eq_true', decide_eq_false_iff_not, scal, ↓reduceIte, Bool.false_eq_true]
  exact ⟨mulW hp.sz.1 hq.sz.2 (by omega), mulW hq.sz.1 hp.sz.2 (by omega), mulW hp.sz.2 hq.sz.2 (by omega), _, _, rfl, szMono (szMul hp.sz.2 hq.sz.2) (by omega), fun z hz => k z (hz.2 (mul_ne hp.nf.1 hq.nf.1))⟩
abbrev sFloor : Stmt := topS 25
theorem scFloor : FnScope ["value"] ["value"] (defScope sFloor) := ⟨rfl, rfl, rfl, by decide +kernel, rfl, by decide +kernel, by decide +kernel⟩
theorem k_Floor (T : Bt K mg) (D : Dfn K mg "floor_of" sFloor ["value"]) (d_require : Kn P w K mg base 1 "require" ["well_formed", "what"] spRequire) (d_is_fraction : Kn P w K mg base 2 "is_fraction" ["value"] (spIsFraction K)) : Kn P w K mg base 3 "floor_of" ["value"] (spFloor K) := by
  refine Kn.mk' D scFloor (fun vs H Q E h => ?_) (fun f cdv A outer s H vs Q E hr h => ?_)
  · obtain ⟨a, q, rfl, _⟩ := h
    rfl
  obtain ⟨a, q, rfl, hq, k⟩ := h
  refine ⟨_, (pss_cons (ps_expr (pe_kn d_require hr (by rfl) (pa_cons (pe_kn d_is_fraction hr (by rfl) (pa_cons (pv 0) pa_nil)) (pa_cons pe_str pa_nil))))
      (pss_one (ps_ret (pe_op op_fdivW (pe_ix ix_any (pv 0) pe_int (fun _ _ => rfl)) (pe_ix ix_any (pv 0) pe_int (fun _ _ => rfl)))))), ?_⟩
  simp only [cx_K, decide_true, decide_false, reduceCtorEq, gTp, gCons, gNil, ca_0, ca_1, ca_2, ca_3, ca_4, ca_5, ca_6, ca_7, ca_8, ca_9, ca_10, ca_11, ca_12, ca_13, ca_14, ca_15, ca_16, ca_17, ca_18, ca_19, ca_20, ca_21, ca_22, ca_23, ca_24, ca_25, ca_26, ca_27, ca_28, ca_29, ca_30, not_true_eq_false, not_false_eq_true, Int.reduceEq, Nat.reduceEqDiff, Nat.reduceLeDiff, rGcd, V.ty.injEq, eq_self, List.not_mem_nil, beq_self_eq_true, HO.lst.injEq, HO.tup.injEq, tFor_eq, iRng1, iList, iTup, nat10, tSeq, rIxA, rSetA, rIsN, rIsT, tTp, tLs, itsO_tup, itsO_lst, tyO_tup, tyO_lst, tyO_dK, tyN_non, tyN_bl, tyN_int, tyN_str, tyN_ref, tyNs_lt, isB, upd_same, upd_upd, sizeLine_eq, List.mem_cons, String.reduceBEq, String.reduceEq, Bool.or_false, Bool.or_true, Bool.and_false, Bool.false_or, Bool.and_self, Bool.false_and, Bool.not_false, Bool.not_true, List.any_cons, List.any_nil, atI_0, setI_0, atI_1, setI_1, atI_2, setI_2, atI_3, setI_3, atI_4, setI_4, atI_5, setI_5, atI_6, setI_6, tAsg, gName, tOp, tUn, tVar, tC, tCons, L2.tNil, tRet, tIfS, tTest, tCB, tCall, rI, rI0, rU, tNext, tB, tAnd, tOr, tNot, tAndV, tOrV, tNotV, tDrop, tIf, tPar, gSub, rIxL, rIxT, rEq, rNe, rSetL, tBits,
    L2.start, List.map_cons, List.map_nil, List.cons_append, List.nil_append, List.append_nil, List.length_cons, List.length_nil, List.replicate, Nat.reduceAdd, Nat.reduceSub, Nat.zero_add, List.getElem?_cons_zero, List.getElem?_cons_succ, List.set_cons_zero, List.set_cons_succ,
    Option.some.injEq, exists_eq_left', exists_eq_left, V.int.injEq, V.bl.injEq, V.ref.injEq, V.str.injEq, List.cons.injEq, reduceCtorEq, and_true, true_and, false_and, and_false, exists_false, or_false, false_or, or_true, true_or, exists_const, CMul, CDiv, CPow, and_assoc, exists_and_left, exists_and_right, Int.reducePow, Int.reduceNeg, Int.reduceLT, Int.reduceLE, Nat.reducePow, Nat.reduceLT, Int.reduceToNat, gt_iff_lt, ge_iff_le, decide_eq_true_eq, Bool.not_eq_true', decide_eq_false_iff_not, scal, ↓reduceIte, Bool.false_eq_true]
  refine ⟨_, rfl, Tyd.fr hq.o, _, by rw [frOk_fr hq.o hq.nf], ?_⟩
  simp only [hq.o, cx_K, decide_true, decide_false, reduceCtorEq, gTp, gCons, gNil, ca_0, ca_1, ca_2, ca_3, ca_4, ca_5, ca_6, ca_7, ca_8, ca_9, ca_10, ca_11, ca_12, ca_13, ca_14, ca_15, ca_16, ca_17, ca_18, ca_19, ca_20, ca_21, ca_22, ca_23, ca_24, ca_25, ca_26, ca_27, ca_28, ca_29, ca_30, not_true_eq_false, not_false_eq_true, Int.reduceEq, Nat.reduceEqDiff, Nat.reduceLeDiff, rGcd, V.ty.injEq, eq_self, List.not_mem_nil, beq_self_eq_true, HO.lst.injEq, HO.tup.injEq, tFor_eq, iRng1, iList, iTup, nat10, tSeq, rIxA, rSetA, rIsN, rIsT, tTp, tLs, itsO_tup, itsO_lst, tyO_tup, tyO_lst, tyO_dK, tyN_non, tyN_bl, tyN_int, tyN_str, tyN_ref, tyNs_lt, isB, upd_same, upd_upd, sizeLine_eq, List.mem_cons, String.reduceBEq, String.reduceEq, Bool.or_false, Bool.or_true, Bool.and_false, Bool.false_or, Bool.and_self, Bool.false_and, Bool.not_false, Bool.not_true, List.any_cons, List.any_nil, atI_0, setI_0, atI_1, setI_1, atI_2, setI_2, atI_3, setI_3, atI_4, setI_4, atI_5, setI_5, atI_6, setI_6, tAsg, gName, tOp, tUn, tVar, tC, tCons, L2.tNil, tRet, tIfS, tTest, tCB, tCall, rI, rI0, rU, tNext, tB, tAnd, tOr, tNot, tAndV, tOrV, tNotV, tDrop, tIf, tPar, gSub, rIxL, rIxT, rEq, rNe, rSetL, tBits,
    L2.start, List.map_cons, List.map_nil, List.cons_append, List.nil_append, List.append_nil, List.length_cons, List.length_nil, List.replicate, Nat.reduceAdd, Nat.reduceSub, Nat.zero_add, List.getElem?_cons_zero, List.getElem?_cons_succ, List.set_cons_zero, List.set_cons_succ,
    Option.some.injEq, exists_eq_left', exists_eq_left, V.int.injEq, V.bl.injEq, V.ref.injEq, V.str.injEq, List.cons.injEq, reduceCtorEq, and_true, true_and, false_and, and_false, exists_false, or_false, false_or, or_true, true_or, exists_const, CMul, CDiv, CPow, and_assoc, exists_and_left, exists_and_right, Int.reducePow, Int.reduceNeg, Int.reduceLT, Int.reduceLE, Nat.reducePow, Nat.reduceLT, Int.reduceToNat, gt_iff_lt, ge_iff_le, decide_eq_true_eq, Bool.not_eq_true', decide_eq_false_iff_not, scal, ↓reduceIte, Bool.false_eq_true]
  exact ⟨wide_div (b := 8000) (by have := hq.nf.1; omega) hq.sz.2 (by omega) (by omega), k⟩
def spLFracs (K : PySem.W.Frag) : Sp := fun vs H Q _ => ∃ (l : Addr) (xs : List V), vs = [.ref l] ∧ H l = some (.lst xs) ∧ K.lookup l = none ∧ (∀ x ∈ xs, ∃ a q, x = .ref a ∧ Fq K H 8000 a q) ∧ Q (.bl true) H
def FracsI (l : Addr) (H : Hp) (_ : Nat) (σ : L2.St) (H' : Hp) : Prop := ∃ y, σ = [some (.ref l), y] ∧ H' = H
def spLeaves (K : PySem.W.Frag) : Sp := fun vs H Q _ => ∃ (a b : Addr) (p q : Qt), vs = [.ref a, .ref b] ∧ Fq K H 8000 a p ∧ Fq K H 8000 b q ∧ Q (.bl (decide (q.2 = p.2) && decide ((p.1 - q.1) % p.2 = 0))) H
abbrev sNegated : Stmt := topS 24
theorem scNegated : FnScope ["value"] ["value"] (defScope sNegated) := ⟨rfl, rfl, rfl, by decide +kernel, rfl, by decide +kernel, by decide +kernel⟩
theorem k_Negated (T : Bt K mg) (D : Dfn K mg "negated" sNegated ["value"]) (d_require : Kn P w K mg base 1 "require" ["well_formed", "what"] spRequire) (d_is_fraction : Kn P w K mg base 2 "is_fraction" ["value"] (spIsFraction K)) : Kn P w K mg base 3 "negated" ["value"] (spUn K fun q => (-q.1, q.2)) := by
  refine Kn.mk' D scNegated (fun vs H Q E h => ?_) (fun f cdv A outer s H vs Q E hr h => ?_)
  · obtain ⟨a, q, rfl, _⟩ := h
    rfl
  obtain ⟨a, q, rfl, hq, k⟩ := h
  refine ⟨_, (pss_cons (ps_expr (pe_kn d_require hr (by rfl) (pa_cons (pe_kn d_is_fraction hr (by rfl) (pa_cons (pv 0) pa_nil)) (pa_cons pe_str pa_nil))))
      (pss_one (ps_ret (pe_tp (pa_cons (pe_un un_neg (pe_ix ix_any (pv 0) pe_int (fun _ _ => rfl))) (pa_cons (pe_ix ix_any (pv 0) pe_int (fun _ _ => rfl)) pa_nil)))))), ?_⟩
  simp only [cx_K, decide_true, decide_false, reduceCtorEq, gTp, gCons, gNil, ca_0, ca_1, ca_2, ca_3, ca_4, ca_5, ca_6, ca_7, ca_8, ca_9, ca_10, ca_11, ca_12, ca_13, ca_14, ca_15, ca_16, ca_17, ca_18, ca_19, ca_20, ca_21, ca_22, ca_23, ca_24, ca_25, ca_26, ca_27, ca_28, ca_29, ca_30, not_true_eq_false, not_false_eq_true, Int.reduceEq, Nat.reduceEqDiff, Nat.reduceLeDiff, rGcd, V.ty.injEq, eq_self, List.not_mem_nil, beq_self_eq_true, HO.lst.injEq, HO.tup.injEq, tFor_eq, iRng1, iList, iTup, nat10, tSeq, rIxA, rSetA, rIsN, rIsT, tTp, tLs, itsO_tup, itsO_lst, tyO_tup, tyO_lst, tyO_dK, tyN_non, tyN_bl, tyN_int, tyN_str, tyN_ref, tyNs_lt, isB, upd_same, upd_upd, sizeLine_eq, List.mem_cons, String.reduceBEq, String.reduceEq, Bool.or_false, Bool.or_true, Bool.and_false, Bool.false_or, Bool.and_self, Bool.false_and, Bool.not_false, Bool.not_true, List.any_cons, List.any_nil, atI_0, setI_0, atI_1, setI_1, atI_2, setI_2, atI_3, setI_3, atI_4, setI_4, atI_5, setI_5, atI_6, setI_6, tAsg, gName, tOp, tUn, tVar, tC, tCons, L2.tNil, tRet, tIfS, tTest, tCB, tCall, rI, rI0, rU, tNext, tB, tAnd, tOr, tNot, tAndV, tOrV, tNotV, tDrop, tIf, tPar, gSub, rIxL, rIxT, rEq, rNe, rSetL, tBits,
    L2.start, List.map_cons, List.map_nil, List.cons_append, List.nil_append, List.append_nil, List.length_cons, List.length_nil, List.replicate, Nat.reduceAdd, Nat.reduceSub, Nat.zero_add, List.getElem?_cons_zero, List.getElem?_cons_succ, List.set_cons_zero, List.set_cons_succ,
    Option.some.injEq, exists_eq_left', exists_eq_left, V.int.injEq, V.bl.injEq, V.ref.injEq, V.str.injEq, List.cons.injEq, reduceCtorEq, and_true, true_and, false_and, and_false, exists_false, or_false, false_or, or_true, true_or, exists_const, CMul, CDiv, CPow, and_assoc, exists_and_left, exists_and_right, Int.reducePow, Int.reduceNeg, Int.reduceLT, Int.reduceLE, Nat.reducePow, Nat.reduceLT, Int.reduceToNat, gt_iff_lt, ge_iff_le, decide_eq_true_eq, Bool.not_eq_true', decide_eq_false_iff_not, scal, ↓reduceIte, Bool.false_eq_true]
  refine ⟨_, rfl, Tyd.fr hq.o, _, by rw [frOk_fr hq.o hq.nf], ?_⟩
  simp only [hq.o, cx_K, decide_true, decide_false, reduceCtorEq, gTp, gCons, gNil, ca_0, ca_1, ca_2, ca_3, ca_4, ca_5, ca_6, ca_7, ca_8, ca_9, ca_10, ca_11, ca_12, ca_13, ca_14, ca_15, ca_16, ca_17, ca_18, ca_19, ca_20, ca_21, ca_22, ca_23, ca_24, ca_25, ca_26, ca_27, ca_28, ca_29, ca_30, not_true_eq_false, not_false_eq_true, Int.reduceEq, Nat.reduceEqDiff, Nat.reduceLeDiff, rGcd, V.ty.injEq, eq_self, List.not_mem_nil, beq_self_eq_true, HO.lst.injEq, HO.tup.injEq, tFor_eq, iRng1, iList, iTup, nat10, tSeq, rIxA, rSetA, rIsN, rIsT, tTp, tLs, itsO_tup, itsO_lst, tyO_tup, tyO_lst, tyO_dK, tyN_non, tyN_bl, tyN_int, tyN_str, tyN_ref, tyNs_lt, isB, upd_same, upd_upd, sizeLine_eq, List.mem_cons, String.reduceBEq, String.reduceEq, Bool.or_false, Bool.or_true, Bool.and_false, Bool.false_or, Bool.and_self, Bool.false_and, Bool.not_false, Bool.not_true, List.any_cons, List.any_nil, atI_0, setI_0, atI_1, setI_1, atI_2, setI_2, atI_3, setI_3, atI_4, setI_4, atI_5, setI_5, atI_6, setI_6, tAsg, gName, tOp, tUn, tVar, tC, tCons, L2.tNil, tRet, tIfS, tTest, tCB, tCall, rI, rI0, rU, tNext, tB, tAnd, tOr, tNot, tAndV, tOrV, tNotV, tDrop, tIf, tPar, gSub, rIxL, rIxT, rEq, rNe, rSetL, tBits,
    L2.start, List.map_cons, List.map_nil, List.cons_append, List.nil_append, List.append_nil, List.length_cons, List.length_nil, List.replicate, Nat.reduceAdd, Nat.reduceSub, Nat.zero_add, List.getElem?_cons_zero, List.getElem?_cons_succ, List.set_cons_zero, List.set_cons_succ,
    Option.some.injEq, exists_eq_left', exists_eq_left, V.int.injEq, V.bl.injEq, V.ref.injEq, V.str.injEq, List.cons.injEq, reduceCtorEq, and_true, true_and, false_and, and_false, exists_false, or_false, false_or, or_true, true_or, exists_const, CMul, CDiv, CPow, and_assoc, exists_and_left, exists_and_right, Int.reducePow, Int.reduceNeg, Int.reduceLT, Int.reduceLE, Nat.reducePow, Nat.reduceLT, Int.reduceToNat, gt_iff_lt, ge_iff_le, decide_eq_true_eq, Bool.not_eq_true', decide_eq_false_iff_not, scal, ↓reduceIte, Bool.false_eq_true]
  exact fun p hp kp => k.new hp kp
abbrev sLMinus : Stmt := topS 50
theorem scLMinus : FnScope ["_law_left", "_law_right"] ["_law_left", "_law_right"] (defScope sLMinus) := ⟨rfl, rfl, rfl, by decide +kernel, rfl, by decide +kernel, by decide +kernel⟩
theorem k_LMinus (T : Bt K mg) (D : Dfn K mg "_law_minus" sLMinus ["_law_left", "_law_right"]) (d__law_lowest : Kn P w K mg base 2 "_law_lowest" ["_law_top", "_law_bottom"] (spLowest K)) : Kn P w K mg base 3 "_law_minus" ["_law_left", "_law_right"] (spBin K dif2) := by
  refine Kn.mk' D scLMinus (fun vs H Q E h => ?_) (fun f cdv A outer s H vs Q E hr h => ?_)
  · obtain ⟨a, b, p, q, rfl, _⟩ := h
    rfl
  obtain ⟨a, b, p, q, rfl, hp, hq, k⟩ := h
  refine ⟨_, (pss_one (ps_ret (pe_kn d__law_lowest hr (by rfl) (pa_cons (pe_op op_sub (pe_op op_mulW (pe_ix ix_any (pv 0) pe_int (fun _ _ => rfl)) (pe_ix ix_any (pv 1) pe_int (fun _ _ => rfl))) (pe_op op_mulW (pe_ix ix_any (pv 1) pe_int (fun _ _ => rfl)) (pe_ix ix_any (pv 0) pe_int (fun _ _ => rfl)))) (pa_cons (pe_op op_mulW (pe_ix ix_any (pv 0) pe_int (fun _ _ => rfl)) (pe_ix ix_any (pv 1) pe_int (fun _ _ => rfl))) pa_nil))))), ?_⟩
  simp only [hp.o, hq.o, cx_K, decide_true, decide_false, reduceCtorEq, gTp, gCons, gNil, ca_0, ca_1, ca_2, ca_3, ca_4, ca_5, ca_6, ca_7, ca_8, ca_9, ca_10, ca_11, ca_12, ca_13, ca_14, ca_15, ca_16, ca_17, ca_18, ca_19, ca_20, ca_21, ca_22, ca_23, ca_24, ca_25, ca_26, ca_27, ca_28, ca_29, ca_30, not_true_eq_false, not_false_eq_true, Int.reduceEq, Nat.reduceEqDiff, Nat.reduceLeDiff, rGcd, V.ty.injEq, eq_self, List.not_mem_nil, beq_self_eq_true, HO.lst.injEq, HO.tup.injEq, tFor_eq, iRng1, iList, iTup, nat10, tSeq, rIxA, rSetA, rIsN, rIsT, tTp, tLs, itsO_tup, itsO_lst, tyO_tup, tyO_lst, tyO_dK, tyN_non, tyN_bl, tyN_int, tyN_str, tyN_ref, tyNs_lt, isB, upd_same, upd_upd, sizeLine_eq, List.mem_cons, String.reduceBEq, String.reduceEq, Bool.or_false, Bool.or_true, Bool.and_false, Bool.false_or, Bool.and_self, Bool.false_and, Bool.not_false, Bool.not_true, List.any_cons, List.any_nil, atI_0, setI_0, atI_1, setI_1, atI_2, setI_2, atI_3, setI_3, atI_4, setI_4, atI_5, setI_5, atI_6, setI_6, tAsg, gName, tOp, tUn, tVar, tC, tCons, L2.tNil, tRet, tIfS, tTest, tCB, tCall, rI, rI0, rU, tNext, tB, tAnd, tOr, tNot, tAndV, tOrV, tNotV, tDrop, tIf, tPar, gSub, rIxL, rIxT, rEq, rNe, rSetL, tBits,
    L2.start, List.map_cons, List.map_nil, List.cons_append, List.nil_append, List.append_nil, List.length_cons, List.length_nil, List.replicate, Nat.reduceAdd, Nat.reduceSub, Nat.zero_add, List.getElem?_cons_zero, List.getElem?_cons_succ, List.set_cons_zero, List.set_cons_succ,
    Option.some.injEq, exists_eq_left', exists_eq_left, V.int.injEq, V.bl.injEq, V.ref.injEq, V.str.injEq, List.cons.injEq, reduceCtorEq, and_true, true_and, false_and, and_false, exists_false, or_false, false_or, or_true, true_or, exists_const, CMul, CDiv, CPow, and_assoc, exists_and_left, exists_and_right, Int.reducePow, Int.reduceNeg, Int.reduceLT, Int.reduceLE, Nat.reducePow, Nat.reduceLT, Int.reduceToNat, gt_iff_lt, ge_iff_le, decide_eq_true_eq, Bool.not_eq_true', decide_eq_false_iff_not, scal, ↓reduceIte, Bool.false_eq_true]
  exact ⟨mulW hp.sz.1 hq.sz.2 (by omega), mulW hq.sz.1 hp.sz.2 (by omega), mulW hp.sz.2 hq.sz.2 (by omega), _, _, rfl, szMono (szMul hp.sz.2 hq.sz.2) (by omega), fun z hz => k z (hz.2 (mul_ne hp.nf.1 hq.nf.1))⟩
abbrev sLTimes : Stmt := topS 51
theorem scLTimes : FnScope ["_law_left", "_law_right"] ["_law_left", "_law_right"] (defScope sLTimes) := ⟨rfl, rfl, rfl, by decide +kernel, rfl, by decide +kernel, by decide +kernel⟩
theorem k_LTimes (T : Bt K mg) (D : Dfn K mg "_law_times" sLTimes ["_law_left", "_law_right"]) (d__law_lowest : Kn P w K mg base 2 "_law_lowest" ["_law_top", "_law_bottom"] (spLowest K)) : Kn P w K mg base 3 "_law_times" ["_law_left", "_law_right"] (spBin K pro2) := by
  refine Kn.mk' D scLTimes (fun vs H Q E h => ?_) (fun f cdv A outer s H vs Q E hr h => ?_)
  · obtain ⟨a, b, p, q, rfl, _⟩ := h
    rfl
  obtain ⟨a, b, p, q, rfl, hp, hq, k⟩ := h
  refine ⟨_, (pss_one (ps_ret (pe_kn d__law_lowest hr (by rfl) (pa_cons (pe_op op_mulW (pe_ix ix_any (pv 0) pe_int (fun _ _ => rfl)) (pe_ix ix_any (pv 1) pe_int (fun _ _ => rfl))) (pa_cons (pe_op op_mulW (pe_ix ix_any (pv 0) pe_int (fun _ _ => rfl)) (pe_ix ix_any (pv 1) pe_int (fun _ _ => rfl))) pa_nil))))), ?_⟩
  simp only [hp.o, hq.o, cx_K, decide_true, decide_false, reduceCtorEq, gTp, gCons, gNil, ca_0, ca_1, ca_2, ca_3, ca_4, ca_5, ca_6, ca_7, ca_8, ca_9, ca_10, ca_11, ca_12, ca_13, ca_14, ca_15, ca_16, ca_17, ca_18, ca_19, ca_20, ca_21, ca_22, ca_23, ca_24, ca_25, ca_26, ca_27, ca_28, ca_29, ca_30, not_true_eq_false, not_false_eq_true, Int.reduceEq, Nat.reduceEqDiff, Nat.reduceLeDiff, rGcd, V.ty.injEq, eq_self, List.not_mem_nil, beq_self_eq_true, HO.lst.injEq, HO.tup.injEq, tFor_eq, iRng1, iList, iTup, nat10, tSeq, rIxA, rSetA, rIsN, rIsT, tTp, tLs, itsO_tup, itsO_lst, tyO_tup, tyO_lst, tyO_dK, tyN_non, tyN_bl, tyN_int, tyN_str, tyN_ref, tyNs_lt, isB, upd_same, upd_upd, sizeLine_eq, List.mem_cons, String.reduceBEq, String.reduceEq, Bool.or_false, Bool.or_true, Bool.and_false, Bool.false_or, Bool.and_self, Bool.false_and, Bool.not_false, Bool.not_true, List.any_cons, List.any_nil, atI_0, setI_0, atI_1, setI_1, atI_2, setI_2, atI_3, setI_3, atI_4, setI_4, atI_5, setI_5, atI_6, setI_6, tAsg, gName, tOp, tUn, tVar, tC, tCons, L2.tNil, tRet, tIfS, tTest, tCB, tCall, rI, rI0, rU, tNext, tB, tAnd, tOr, tNot, tAndV, tOrV, tNotV, tDrop, tIf, tPar, gSub, rIxL, rIxT, rEq, rNe, rSetL, tBits,
    L2.start, List.map_cons, List.map_nil, List.cons_append, List.nil_append, List.append_nil, List.length_cons, List.length_nil, List.replicate, Nat.reduceAdd, Nat.reduceSub, Nat.zero_add, List.getElem?_cons_zero, List.getElem?_cons_succ, List.set_cons_zero, List.set_cons_succ,
    Option.some.injEq, exists_eq_left', exists_eq_left, V.int.injEq, V.bl.injEq, V.ref.injEq, V.str.injEq, List.cons.injEq, reduceCtorEq, and_true, true_and, false_and, and_false, exists_false, or_false, false_or, or_true, true_or, exists_const, CMul, CDiv, CPow, and_assoc, exists_and_left, exists_and_right, Int.reducePow, Int.reduceNeg, Int.reduceLT, Int.reduceLE, Nat.reducePow, Nat.reduceLT, Int.reduceToNat, gt_iff_lt, ge_iff_le, decide_eq_true_eq, Bool.not_eq_true', decide_eq_false_iff_not, scal, ↓reduceIte, Bool.false_eq_true]
  exact ⟨mulW hp.sz.1 hq.sz.1 (by omega), mulW hp.sz.2 hq.sz.2 (by omega), _, _, rfl, szMono (szMul hp.sz.2 hq.sz.2) (by omega), fun z hz => k z (hz.2 (mul_ne hp.nf.1 hq.nf.1))⟩
theorem frOk_inv {H : Hp} {v : V} (h : frOk K H v = true) : ∃ a q, v = .ref a ∧ ob K H a = some (.tup [.int q.1, .int q.2]) ∧ Nf q := by
  cases v with
  | ref a =>
    simp only [frOk] at h
    split at h
    · rename_i n d hz
      simp only [Bool.and_eq_true, decide_eq_true_eq] at h
      exact ⟨_, (n, d), rfl, hz, h.1, h.2⟩
    · cases h
  | _ => cases h
/-- a place: a fraction of 0 or more, less than 1 -/
def plOk (K : PySem.W.Frag) (H : Hp) (v : V) : Bool := frOk K H v && match v with
  | .ref a => match ob K H a with
    | some (.tup [.int n, .int d]) => decide (0 ≤ n) && decide (n < d)
    | _ => false
  | _ => false
theorem plOk_no {H : Hp} {v : V} (h : frOk K H v = false) : plOk K H v = false := by unfold plOk; rw [h]; rfl
theorem plOk_fr {H : Hp} {a : Addr} {q : Qt} (h : ob K H a = some (.tup [.int q.1, .int q.2])) (hn : Nf q) : plOk K H (.ref a) = (decide (0 ≤ q.1) && decide (q.1 < q.2)) := by
  have e := frOk_fr (K := K) h hn
  unfold plOk
  rw [e]
  simp only [h, Bool.true_and]
def spIsPlace (K : PySem.W.Frag) : Sp := fun vs H Q _ => ∃ v, vs = [v] ∧ Tyd K H v ∧ Q (.bl (plOk K H v)) H
def spLPlace (K : PySem.W.Frag) : Sp := fun vs H Q _ => ∃ (a : Addr) (q : Qt), vs = [.ref a] ∧ Fq K H 8000 a q ∧ 0 ≤ q.1 ∧ q.1 < q.2 ∧ Q (.bl true) H
abbrev sLIsPlace : Stmt := topS 55
theorem scLIsPlace : FnScope ["_law_told_here"] ["_law_told_here"] (defScope sLIsPlace) := ⟨rfl, rfl, rfl, by decide +kernel, rfl, by decide +kernel, by decide +kernel⟩
theorem k_LIsPlace (T : Bt K mg) (D : Dfn K mg "_law_is_place" sLIsPlace ["_law_told_here"]) (d__law_is_frac : Kn P w K mg base 2 "_law_is_frac" ["_law_told_here"] (spLFrac K)) : Kn P w K mg base 3 "_law_is_place" ["_law_told_here"] (spLPlace K) := by
  refine Kn.mk' D scLIsPlace (fun vs H Q E h => ?_) (fun f cdv A outer s H vs Q E hr h => ?_)
  · obtain ⟨a, q, rfl, _⟩ := h
    rfl
  obtain ⟨a, q, rfl, hq, h0, h1, k⟩ := h
  refine ⟨_, (pss_one (ps_ret (pe_and (pe_kn d__law_is_frac hr (by rfl) (pa_cons (pv 0) pa_nil)) (pe_and (pe_cmpR op_le pe_int (pe_ix ix_any (pv 0) pe_int (fun _ _ => rfl)) (nomark _)) (pe_one (pe_cmpR op_lt (pe_ix ix_any (pv 0) pe_int (fun _ _ => rfl)) (pe_ix ix_any (pv 0) pe_int (fun _ _ => rfl)) (nomark _))))))), ?_⟩
  refine ⟨_, rfl, a, q, rfl, hq, true, rfl, ?_⟩
  simp only [hq.o, cx_K, decide_true, decide_false, reduceCtorEq, gTp, gCons, gNil, ca_0, ca_1, ca_2, ca_3, ca_4, ca_5, ca_6, ca_7, ca_8, ca_9, ca_10, ca_11, ca_12, ca_13, ca_14, ca_15, ca_16, ca_17, ca_18, ca_19, ca_20, ca_21, ca_22, ca_23, ca_24, ca_25, ca_26, ca_27, ca_28, ca_29, ca_30, not_true_eq_false, not_false_eq_true, Int.reduceEq, Nat.reduceEqDiff, Nat.reduceLeDiff, rGcd, V.ty.injEq, eq_self, List.not_mem_nil, beq_self_eq_true, HO.lst.injEq, HO.tup.injEq, tFor_eq, iRng1, iList, iTup, nat10, tSeq, rIxA, rSetA, rIsN, rIsT, tTp, tLs, itsO_tup, itsO_lst, tyO_tup, tyO_lst, tyO_dK, tyN_non, tyN_bl, tyN_int, tyN_str, tyN_ref, tyNs_lt, isB, upd_same, upd_upd, sizeLine_eq, List.mem_cons, String.reduceBEq, String.reduceEq, Bool.or_false, Bool.or_true, Bool.and_false, Bool.false_or, Bool.and_self, Bool.false_and, Bool.not_false, Bool.not_true, List.any_cons, List.any_nil, atI_0, setI_0, atI_1, setI_1, atI_2, setI_2, atI_3, setI_3, atI_4, setI_4, atI_5, setI_5, atI_6, setI_6, tAsg, gName, tOp, tUn, tVar, tC, tCons, L2.tNil, tRet, tIfS, tTest, tCB, tCall, rI, rI0, rU, tNext, tB, tAnd, tOr, tNot, tAndV, tOrV, tNotV, tDrop, tIf, tPar, gSub, rIxL, rIxT, rEq, rNe, rSetL, tBits,
    L2.start, List.map_cons, List.map_nil, List.cons_append, List.nil_append, List.append_nil, List.length_cons, List.length_nil, List.replicate, Nat.reduceAdd, Nat.reduceSub, Nat.zero_add, List.getElem?_cons_zero, List.getElem?_cons_succ, List.set_cons_zero, List.set_cons_succ,
    Option.some.injEq, exists_eq_left', exists_eq_left, V.int.injEq, V.bl.injEq, V.ref.injEq, V.str.injEq, List.cons.injEq, reduceCtorEq, and_true, true_and, false_and, and_false, exists_false, or_false, false_or, or_true, true_or, exists_const, CMul, CDiv, CPow, and_assoc, exists_and_left, exists_and_right, Int.reducePow, Int.reduceNeg, Int.reduceLT, Int.reduceLE, Nat.reducePow, Nat.reduceLT, Int.reduceToNat, gt_iff_lt, ge_iff_le, decide_eq_true_eq, Bool.not_eq_true', decide_eq_false_iff_not, scal, ↓reduceIte, Bool.false_eq_true]
  rw [if_pos h0, decide_eq_true h1]
  exact k
end
end My

namespace My
open PySem PySem.Spec PyProof.Rows L2
section
variable {P : Program} {w : World} {K : PySem.W.Frag} {mg : Str → Option Value} {base : Heap}
/-- an int that the draws gave; all but the store stands -/
def spPick (K : PySem.W.Frag) : Sp := fun vs H Q _ => ∃ (s r : Addr) (xs : List V), vs = [.ref s, .ref r] ∧ Sto K H s ∧ H r = some (.lst xs) ∧ s ≠ r ∧ 0 < xs.length ∧ xs.length < 1000 ∧ ∀ x H', x ∈ xs → Kp s H H' → Sto K H' s → Q x H'
theorem at_mem {α : Type} {xs : List α} {i : Int} (h0 : 0 ≤ i) (h : i < (xs.length : Int)) : ∃ v ∈ xs, atI xs i = some v := by
  have hk : i.toNat < xs.length := by omega
  have q : atI xs ((i.toNat : Nat) : Int) = some xs[i.toNat] := atI_nat (List.getElem?_eq_getElem hk)
  rw [show ((i.toNat : Nat) : Int) = i by omega] at q
  exact ⟨_, List.getElem_mem hk, q⟩
theorem Sto.at {H : Hp} {s : Addr} (h : Sto K H s) : ∃ ys, H s = some (.lst ys) := by
  obtain ⟨sc, ns, i, b, c, d, e, f, h⟩ := h
  exact ⟨_, h.1⟩
theorem Kp.at {s : Addr} {H H' : Hp} {r : Addr} {o : HO} (e : Kp s H H') (n : s ≠ r) (h : H r = some o) : H' r = some o := e _ _ (Ne.symm n) h
abbrev sPick : Stmt := topS 45
theorem scPick : FnScope ["_law_store_here", "_law_row"] ["_law_store_here", "_law_row"] (defScope sPick) := ⟨rfl, rfl, rfl, by decide +kernel, rfl, by decide +kernel, by decide +kernel⟩
theorem k_Pick (T : Bt K mg) (D : Dfn K mg "_law_pick" sPick ["_law_store_here", "_law_row"]) (d__law_take : Kn P w K mg base 2 "_law_take" ["_law_store_here", "_law_many"] (spTake K)) : Kn P w K mg base 3 "_law_pick" ["_law_store_here", "_law_row"] (spPick K) := by
  refine Kn.mk' D scPick (fun vs H Q E h => ?_) (fun f cdv A outer s H vs Q E hr h => ?_)
  · obtain ⟨s, r, xs, rfl, _⟩ := h
    rfl
  obtain ⟨s, r, xs, rfl, hS, hr', ne, hl0, hl1, k⟩ := h
  refine ⟨_, (pss_one (ps_ret (pe_ix ix_list (pv 1) (pe_kn d__law_take hr (by rfl) (pa_cons (pv 0) (pa_cons (pe_callB call_len_seq (by rfl) T.b_len PySem.boot_len (pa_cons (pv 1) pa_nil)) pa_nil))) (fun _ _ => rfl)))), ?_⟩
  simp only [cx_K, decide_true, decide_false, reduceCtorEq, gTp, gCons, gNil, ca_0, ca_1, ca_2, ca_3, ca_4, ca_5, ca_6, ca_7, ca_8, ca_9, ca_10, ca_11, ca_12, ca_13, ca_14, ca_15, ca_16, ca_17, ca_18, ca_19, ca_20, ca_21, ca_22, ca_23, ca_24, ca_25, ca_26, ca_27, ca_28, ca_29, ca_30, not_true_eq_false, not_false_eq_true, Int.reduceEq, Nat.reduceEqDiff, Nat.reduceLeDiff, rGcd, V.ty.injEq, eq_self, List.not_mem_nil, beq_self_eq_true, HO.lst.injEq, HO.tup.injEq, tFor_eq, iRng1, iList, iTup, nat10, tSeq, rIxA, rSetA, rIsN, rIsT, tTp, tLs, itsO_tup, itsO_lst, tyO_tup, tyO_lst, tyO_dK, tyN_non, tyN_bl, tyN_int, tyN_str, tyN_ref, tyNs_lt, isB, upd_same, upd_upd, sizeLine_eq, List.mem_cons, String.reduceBEq, String.reduceEq, Bool.or_false, Bool.or_true, Bool.and_false, Bool.false_or, Bool.and_self, Bool.false_and, Bool.not_false, Bool.not_true, List.any_cons, List.any_nil, atI_0, setI_0, atI_1, setI_1, atI_2, setI_2, atI_3, setI_3, atI_4, setI_4, atI_5, setI_5, atI_6, setI_6, tAsg, gName, tOp, tUn, tVar, tC, tCons, L2.tNil, tRet, tIfS, tTest, tCB, tCall, rI, rI0, rU, tNext, tB, tAnd, tOr, tNot, tAndV, tOrV, tNotV, tDrop, tIf, tPar, gSub, rIxL, rIxT, rEq, rNe, rSetL, tBits,
    L2.start, List.map_cons, List.map_nil, List.cons_append, List.nil_append, List.append_nil, List.length_cons, List.length_nil, List.replicate, Nat.reduceAdd, Nat.reduceSub, Nat.zero_add, List.getElem?_cons_zero, List.getElem?_cons_succ, List.set_cons_zero, List.set_cons_succ,
    Option.some.injEq, exists_eq_left', exists_eq_left, V.int.injEq, V.bl.injEq, V.ref.injEq, V.str.injEq, List.cons.injEq, reduceCtorEq, and_true, true_and, false_and, and_false, exists_false, or_false, false_or, or_true, true_or, exists_const, CMul, CDiv, CPow, and_assoc, exists_and_left, exists_and_right, Int.reducePow, Int.reduceNeg, Int.reduceLT, Int.reduceLE, Nat.reducePow, Nat.reduceLT, Int.reduceToNat, gt_iff_lt, ge_iff_le, decide_eq_true_eq, Bool.not_eq_true', decide_eq_false_iff_not, scal, ↓reduceIte, Bool.false_eq_true]
  refine ⟨xs, .inl (.of hr'), s, _, rfl, hS, by omega, fun i H' h0 h1 kp st => ?_⟩
  obtain ⟨v, hv, e⟩ := at_mem (xs := xs) (i := i) h0 (by omega)
  exact ⟨xs, i, rfl, .of (kp.at ne hr'), v, e, k v H' hv kp st⟩
def spInt (K : PySem.W.Frag) (R : Int → Prop) : Sp := fun vs H Q _ => ∃ (s : Addr), vs = [.ref s] ∧ Sto K H s ∧ ∀ n H', R n → Kp s H H' → Sto K H' s → Q (.int n) H'
def spLInt (K : PySem.W.Frag) : Sp := fun vs H Q _ => ∃ (s : Addr) (r : Int), vs = [.ref s, .int r] ∧ Sto K H s ∧ 1 ≤ r ∧ r < 2 ^ 190 ∧ ∀ n H', -r ≤ n → n ≤ r → Kp s H H' → Sto K H' s → Q (.int n) H'
theorem menu {xs : List V} {i : Int} {R : V → Prop} (h0 : 0 ≤ i) (h : i < (xs.length : Int)) (k : ∀ v ∈ xs, R v) : ∃ v, atI xs i = some v ∧ R v := by
  obtain ⟨v, hv, e⟩ := at_mem h0 h
  exact ⟨v, e, k v hv⟩
abbrev sLInt : Stmt := topS 57
theorem scLInt : FnScope ["_law_store_here", "_law_reach", "_law_spot"] ["_law_store_here", "_law_reach"] (defScope sLInt) := ⟨rfl, rfl, rfl, by decide +kernel, rfl, by decide +kernel, by decide +kernel⟩
theorem k_LInt (T : Bt K mg) (D : Dfn K mg "_law_whole" sLInt ["_law_store_here", "_law_reach"]) (d__law_take : Kn P w K mg base 2 "_law_take" ["_law_store_here", "_law_many"] (spTake K)) : Kn P w K mg base 3 "_law_whole" ["_law_store_here", "_law_reach"] (spLInt K) := by
  refine Kn.mk' D scLInt (fun vs H Q E h => ?_) (fun f cdv A outer s H vs Q E hr h => ?_)
  · obtain ⟨s, r, rfl, _⟩ := h
    rfl
  obtain ⟨s, r, rfl, hS, hr1, hr2, k⟩ := h
  refine ⟨_, (pss_cons (ps_set (i := 2) scLInt.nd rfl (.inl rfl) (pe_kn d__law_take hr (by rfl) (pa_cons (pv 0) (pa_cons pe_int pa_nil))))
      (pss_cons (ps_if (pt_cmpR op_lt (pv 2) pe_int (nomark _)) (pss_one (ps_ret (pe_ix ix_any (pe_ls (pa_cons pe_int (pa_cons (pe_callB (call_min2 rfl) (by rfl) T.b_min (by decide +kernel) (pa_cons pe_int (pa_cons (pv 1) pa_nil))) (pa_cons (pe_un un_neg (pe_callB (call_min2 rfl) (by rfl) T.b_min (by decide +kernel) (pa_cons pe_int (pa_cons (pv 1) pa_nil)))) (pa_cons (pv 1) (pa_cons (pe_un un_neg (pv 1)) pa_nil)))))) (pv 2) (fun _ _ => rfl)))) pss_nil)
      (pss_one (ps_ret (pe_op op_sub (pe_kn d__law_take hr (by rfl) (pa_cons (pv 0) (pa_cons (pe_op op_add (pe_op op_mul pe_int (pv 1)) pe_int) pa_nil))) (pv 1)))))), ?_⟩
  simp only [cx_K, decide_true, decide_false, reduceCtorEq, gTp, gCons, gNil, ca_0, ca_1, ca_2, ca_3, ca_4, ca_5, ca_6, ca_7, ca_8, ca_9, ca_10, ca_11, ca_12, ca_13, ca_14, ca_15, ca_16, ca_17, ca_18, ca_19, ca_20, ca_21, ca_22, ca_23, ca_24, ca_25, ca_26, ca_27, ca_28, ca_29, ca_30, not_true_eq_false, not_false_eq_true, Int.reduceEq, Nat.reduceEqDiff, Nat.reduceLeDiff, rGcd, V.ty.injEq, eq_self, List.not_mem_nil, beq_self_eq_true, HO.lst.injEq, HO.tup.injEq, tFor_eq, iRng1, iList, iTup, nat10, tSeq, rIxA, rSetA, rIsN, rIsT, tTp, tLs, itsO_tup, itsO_lst, tyO_tup, tyO_lst, tyO_dK, tyN_non, tyN_bl, tyN_int, tyN_str, tyN_ref, tyNs_lt, isB, upd_same, upd_upd, sizeLine_eq, List.mem_cons, String.reduceBEq, String.reduceEq, Bool.or_false, Bool.or_true, Bool.and_false, Bool.false_or, Bool.and_self, Bool.false_and, Bool.not_false, Bool.not_true, List.any_cons, List.any_nil, atI_0, setI_0, atI_1, setI_1, atI_2, setI_2, atI_3, setI_3, atI_4, setI_4, atI_5, setI_5, atI_6, setI_6, tAsg, gName, tOp, tUn, tVar, tC, tCons, L2.tNil, tRet, tIfS, tTest, tCB, tCall, rI, rI0, rU, tNext, tB, tAnd, tOr, tNot, tAndV, tOrV, tNotV, tDrop, tIf, tPar, gSub, rIxL, rIxT, rEq, rNe, rSetL, tBits,
    L2.start, List.map_cons, List.map_nil, List.cons_append, List.nil_append, List.append_nil, List.length_cons, List.length_nil, List.replicate, Nat.reduceAdd, Nat.reduceSub, Nat.zero_add, List.getElem?_cons_zero, List.getElem?_cons_succ, List.set_cons_zero, List.set_cons_succ,
    Option.some.injEq, exists_eq_left', exists_eq_left, V.int.injEq, V.bl.injEq, V.ref.injEq, V.str.injEq, List.cons.injEq, reduceCtorEq, and_true, true_and, false_and, and_false, exists_false, or_false, false_or, or_true, true_or, exists_const, CMul, CDiv, CPow, and_assoc, exists_and_left, exists_and_right, Int.reducePow, Int.reduceNeg, Int.reduceLT, Int.reduceLE, Nat.reducePow, Nat.reduceLT, Int.reduceToNat, gt_iff_lt, ge_iff_le, decide_eq_true_eq, Bool.not_eq_true', decide_eq_false_iff_not, scal, ↓reduceIte, Bool.false_eq_true]
  refine ⟨s, 12, rfl, hS, by omega, fun i H1 h0 h1 kp st => ?_⟩
  simp only [cx_K, decide_true, decide_false, reduceCtorEq, gTp, gCons, gNil, ca_0, ca_1, ca_2, ca_3, ca_4, ca_5, ca_6, ca_7, ca_8, ca_9, ca_10, ca_11, ca_12, ca_13, ca_14, ca_15, ca_16, ca_17, ca_18, ca_19, ca_20, ca_21, ca_22, ca_23, ca_24, ca_25, ca_26, ca_27, ca_28, ca_29, ca_30, not_true_eq_false, not_false_eq_true, Int.reduceEq, Nat.reduceEqDiff, Nat.reduceLeDiff, rGcd, V.ty.injEq, eq_self, List.not_mem_nil, beq_self_eq_true, HO.lst.injEq, HO.tup.injEq, tFor_eq, iRng1, iList, iTup, nat10, tSeq, rIxA, rSetA, rIsN, rIsT, tTp, tLs, itsO_tup, itsO_lst, tyO_tup, tyO_lst, tyO_dK, tyN_non, tyN_bl, tyN_int, tyN_str, tyN_ref, tyNs_lt, isB, upd_same, upd_upd, sizeLine_eq, List.mem_cons, String.reduceBEq, String.reduceEq, Bool.or_false, Bool.or_true, Bool.and_false, Bool.false_or, Bool.and_self, Bool.false_and, Bool.not_false, Bool.not_true, List.any_cons, List.any_nil, atI_0, setI_0, atI_1, setI_1, atI_2, setI_2, atI_3, setI_3, atI_4, setI_4, atI_5, setI_5, atI_6, setI_6, tAsg, gName, tOp, tUn, tVar, tC, tCons, L2.tNil, tRet, tIfS, tTest, tCB, tCall, rI, rI0, rU, tNext, tB, tAnd, tOr, tNot, tAndV, tOrV, tNotV, tDrop, tIf, tPar, gSub, rIxL, rIxT, rEq, rNe, rSetL, tBits,
    L2.start, List.map_cons, List.map_nil, List.cons_append, List.nil_append, List.append_nil, List.length_cons, List.length_nil, List.replicate, Nat.reduceAdd, Nat.reduceSub, Nat.zero_add, List.getElem?_cons_zero, List.getElem?_cons_succ, List.set_cons_zero, List.set_cons_succ,
    Option.some.injEq, exists_eq_left', exists_eq_left, V.int.injEq, V.bl.injEq, V.ref.injEq, V.str.injEq, List.cons.injEq, reduceCtorEq, and_true, true_and, false_and, and_false, exists_false, or_false, false_or, or_true, true_or, exists_const, CMul, CDiv, CPow, and_assoc, exists_and_left, exists_and_right, Int.reducePow, Int.reduceNeg, Int.reduceLT, Int.reduceLE, Nat.reducePow, Nat.reduceLT, Int.reduceToNat, gt_iff_lt, ge_iff_le, decide_eq_true_eq, Bool.not_eq_true', decide_eq_false_iff_not, scal, ↓reduceIte, Bool.false_eq_true]
  refine ite2 (fun h => ?_) (fun h => ?_)
  · intro p hp kp'
    rw [ob_new kp']
    simp only [cx_K, decide_true, decide_false, reduceCtorEq, gTp, gCons, gNil, ca_0, ca_1, ca_2, ca_3, ca_4, ca_5, ca_6, ca_7, ca_8, ca_9, ca_10, ca_11, ca_12, ca_13, ca_14, ca_15, ca_16, ca_17, ca_18, ca_19, ca_20, ca_21, ca_22, ca_23, ca_24, ca_25, ca_26, ca_27, ca_28, ca_29, ca_30, not_true_eq_false, not_false_eq_true, Int.reduceEq, Nat.reduceEqDiff, Nat.reduceLeDiff, rGcd, V.ty.injEq, eq_self, List.not_mem_nil, beq_self_eq_true, HO.lst.injEq, HO.tup.injEq, tFor_eq, iRng1, iList, iTup, nat10, tSeq, rIxA, rSetA, rIsN, rIsT, tTp, tLs, itsO_tup, itsO_lst, tyO_tup, tyO_lst, tyO_dK, tyN_non, tyN_bl, tyN_int, tyN_str, tyN_ref, tyNs_lt, isB, upd_same, upd_upd, sizeLine_eq, List.mem_cons, String.reduceBEq, String.reduceEq, Bool.or_false, Bool.or_true, Bool.and_false, Bool.false_or, Bool.and_self, Bool.false_and, Bool.not_false, Bool.not_true, List.any_cons, List.any_nil, atI_0, setI_0, atI_1, setI_1, atI_2, setI_2, atI_3, setI_3, atI_4, setI_4, atI_5, setI_5, atI_6, setI_6, tAsg, gName, tOp, tUn, tVar, tC, tCons, L2.tNil, tRet, tIfS, tTest, tCB, tCall, rI, rI0, rU, tNext, tB, tAnd, tOr, tNot, tAndV, tOrV, tNotV, tDrop, tIf, tPar, gSub, rIxL, rIxT, rEq, rNe, rSetL, tBits,
    L2.start, List.map_cons, List.map_nil, List.cons_append, List.nil_append, List.append_nil, List.length_cons, List.length_nil, List.replicate, Nat.reduceAdd, Nat.reduceSub, Nat.zero_add, List.getElem?_cons_zero, List.getElem?_cons_succ, List.set_cons_zero, List.set_cons_succ,
    Option.some.injEq, exists_eq_left', exists_eq_left, V.int.injEq, V.bl.injEq, V.ref.injEq, V.str.injEq, List.cons.injEq, reduceCtorEq, and_true, true_and, false_and, and_false, exists_false, or_false, false_or, or_true, true_or, exists_const, CMul, CDiv, CPow, and_assoc, exists_and_left, exists_and_right, Int.reducePow, Int.reduceNeg, Int.reduceLT, Int.reduceLE, Nat.reducePow, Nat.reduceLT, Int.reduceToNat, gt_iff_lt, ge_iff_le, decide_eq_true_eq, Bool.not_eq_true', decide_eq_false_iff_not, scal, ↓reduceIte, Bool.false_eq_true]
    refine menu h0 (by simpa using h) fun v hv => ?_
    rw [if_neg (show ¬ r < 1 by omega)] at hv ⊢
    simp only [List.mem_cons, List.not_mem_nil, or_false] at hv
    rcases hv with rfl | rfl | rfl | rfl | rfl <;> exact k _ _ (by omega) (by omega) (kp.trans (Kp.same (Same.new hp _))) (st.same (Same.new hp _))
  · refine ⟨s, _, rfl, st, by omega, fun j H2 h0' h1' kp2 st2 => ?_⟩
    simp only [cx_K, decide_true, decide_false, reduceCtorEq, gTp, gCons, gNil, ca_0, ca_1, ca_2, ca_3, ca_4, ca_5, ca_6, ca_7, ca_8, ca_9, ca_10, ca_11, ca_12, ca_13, ca_14, ca_15, ca_16, ca_17, ca_18, ca_19, ca_20, ca_21, ca_22, ca_23, ca_24, ca_25, ca_26, ca_27, ca_28, ca_29, ca_30, not_true_eq_false, not_false_eq_true, Int.reduceEq, Nat.reduceEqDiff, Nat.reduceLeDiff, rGcd, V.ty.injEq, eq_self, List.not_mem_nil, beq_self_eq_true, HO.lst.injEq, HO.tup.injEq, tFor_eq, iRng1, iList, iTup, nat10, tSeq, rIxA, rSetA, rIsN, rIsT, tTp, tLs, itsO_tup, itsO_lst, tyO_tup, tyO_lst, tyO_dK, tyN_non, tyN_bl, tyN_int, tyN_str, tyN_ref, tyNs_lt, isB, upd_same, upd_upd, sizeLine_eq, List.mem_cons, String.reduceBEq, String.reduceEq, Bool.or_false, Bool.or_true, Bool.and_false, Bool.false_or, Bool.and_self, Bool.false_and, Bool.not_false, Bool.not_true, List.any_cons, List.any_nil, atI_0, setI_0, atI_1, setI_1, atI_2, setI_2, atI_3, setI_3, atI_4, setI_4, atI_5, setI_5, atI_6, setI_6, tAsg, gName, tOp, tUn, tVar, tC, tCons, L2.tNil, tRet, tIfS, tTest, tCB, tCall, rI, rI0, rU, tNext, tB, tAnd, tOr, tNot, tAndV, tOrV, tNotV, tDrop, tIf, tPar, gSub, rIxL, rIxT, rEq, rNe, rSetL, tBits,
    L2.start, List.map_cons, List.map_nil, List.cons_append, List.nil_append, List.append_nil, List.length_cons, List.length_nil, List.replicate, Nat.reduceAdd, Nat.reduceSub, Nat.zero_add, List.getElem?_cons_zero, List.getElem?_cons_succ, List.set_cons_zero, List.set_cons_succ,
    Option.some.injEq, exists_eq_left', exists_eq_left, V.int.injEq, V.bl.injEq, V.ref.injEq, V.str.injEq, List.cons.injEq, reduceCtorEq, and_true, true_and, false_and, and_false, exists_false, or_false, false_or, or_true, true_or, exists_const, CMul, CDiv, CPow, and_assoc, exists_and_left, exists_and_right, Int.reducePow, Int.reduceNeg, Int.reduceLT, Int.reduceLE, Nat.reducePow, Nat.reduceLT, Int.reduceToNat, gt_iff_lt, ge_iff_le, decide_eq_true_eq, Bool.not_eq_true', decide_eq_false_iff_not, scal, ↓reduceIte, Bool.false_eq_true]
    exact k _ _ (by omega) (by omega) (kp.trans kp2) st2
def GreatI (s : Addr) (spot : Int) (H1 : Hp) (_ : Nat) (σ : L2.St) (H' : Hp) : Prop := ∃ v y, σ = [some (.ref s), some (.int spot), some (.int v), y] ∧ H' = H1 ∧ 0 ≤ v ∧ v < 2 ^ 133
abbrev sGreat : Stmt := topS 58
theorem scGreat : FnScope ["_law_store_here", "_law_spot", "_law_value_here", "_law_k"] ["_law_store_here"] (defScope sGreat) := ⟨rfl, rfl, rfl, by decide +kernel, rfl, by decide +kernel, by decide +kernel⟩
theorem k_Great (T : Bt K mg) (D : Dfn K mg "_law_great" sGreat ["_law_store_here"]) (d__law_take : Kn P w K mg base 2 "_law_take" ["_law_store_here", "_law_many"] (spTake K)) : Kn P w K mg base 3 "_law_great" ["_law_store_here"] (spInt K fun n => n.natAbs < 2 ^ 133) := by
  refine Kn.mk' D scGreat (fun vs H Q E h => ?_) (fun f cdv A outer s H vs Q E hr h => ?_)
  · obtain ⟨s, rfl, _⟩ := h
    rfl
  obtain ⟨s, rfl, hS, k⟩ := h
  refine ⟨_, (pss_cons (ps_set (i := 1) scGreat.nd rfl (.inl rfl) (pe_kn d__law_take hr (by rfl) (pa_cons (pv 0) (pa_cons pe_int pa_nil))))
      (pss_cons (ps_if (pt_cmpR op_lt (pv 1) pe_int (nomark _)) (pss_one (ps_ret (pe_ix ix_any (pe_ls (pa_cons (pe_op op_sub (pe_op op_pow pe_int pe_int) pe_int) (pa_cons (pe_op op_sub pe_int (pe_op op_pow pe_int pe_int)) (pa_cons (pe_op op_pow pe_int pe_int) (pa_cons pe_int pa_nil))))) (pv 1) (fun _ _ => rfl)))) pss_nil)
      (pss_cons (ps_set (i := 2) scGreat.nd rfl (.inl rfl) (pe_kn d__law_take hr (by rfl) (pa_cons (pv 0) (pa_cons (pe_op op_pow pe_int pe_int) pa_nil))))
      (pss_cons (ps_for PassesOwn.never rfl (pi_range1 (by rfl) T.b_range (pa_cons (pe_kn d__law_take hr (by rfl) (pa_cons (pv 0) (pa_cons pe_int pa_nil))) pa_nil)) (pg_name (i := 3) scGreat.nd rfl (.inl rfl)) (pss_one (ps_set (i := 2) scGreat.nd rfl (.inl rfl) (pe_op op_fdiv (pv 2) pe_int))))
      (pss_cons (ps_if (pt_cmpR op_eq (pe_op op_mod (pv 1) pe_int) pe_int (nomark _)) (pss_one (ps_ret (pe_un un_neg (pv 2)))) pss_nil)
      (pss_one (ps_ret (pv 2)))))))), ?_⟩
  simp only [cx_K, decide_true, decide_false, reduceCtorEq, gTp, gCons, gNil, ca_0, ca_1, ca_2, ca_3, ca_4, ca_5, ca_6, ca_7, ca_8, ca_9, ca_10, ca_11, ca_12, ca_13, ca_14, ca_15, ca_16, ca_17, ca_18, ca_19, ca_20, ca_21, ca_22, ca_23, ca_24, ca_25, ca_26, ca_27, ca_28, ca_29, ca_30, not_true_eq_false, not_false_eq_true, Int.reduceEq, Nat.reduceEqDiff, Nat.reduceLeDiff, rGcd, V.ty.injEq, eq_self, List.not_mem_nil, beq_self_eq_true, HO.lst.injEq, HO.tup.injEq, tFor_eq, iRng1, iList, iTup, nat10, tSeq, rIxA, rSetA, rIsN, rIsT, tTp, tLs, itsO_tup, itsO_lst, tyO_tup, tyO_lst, tyO_dK, tyN_non, tyN_bl, tyN_int, tyN_str, tyN_ref, tyNs_lt, isB, upd_same, upd_upd, sizeLine_eq, List.mem_cons, String.reduceBEq, String.reduceEq, Bool.or_false, Bool.or_true, Bool.and_false, Bool.false_or, Bool.and_self, Bool.false_and, Bool.not_false, Bool.not_true, List.any_cons, List.any_nil, atI_0, setI_0, atI_1, setI_1, atI_2, setI_2, atI_3, setI_3, atI_4, setI_4, atI_5, setI_5, atI_6, setI_6, tAsg, gName, tOp, tUn, tVar, tC, tCons, L2.tNil, tRet, tIfS, tTest, tCB, tCall, rI, rI0, rU, tNext, tB, tAnd, tOr, tNot, tAndV, tOrV, tNotV, tDrop, tIf, tPar, gSub, rIxL, rIxT, rEq, rNe, rSetL, tBits,
    L2.start, List.map_cons, List.map_nil, List.cons_append, List.nil_append, List.append_nil, List.length_cons, List.length_nil, List.replicate, Nat.reduceAdd, Nat.reduceSub, Nat.zero_add, List.getElem?_cons_zero, List.getElem?_cons_succ, List.set_cons_zero, List.set_cons_succ,
    Option.some.injEq, exists_eq_left', exists_eq_left, V.int.injEq, V.bl.injEq, V.ref.injEq, V.str.injEq, List.cons.injEq, reduceCtorEq, and_true, true_and, false_and, and_false, exists_false, or_false, false_or, or_true, true_or, exists_const, CMul, CDiv, CPow, and_assoc, exists_and_left, exists_and_right, Int.reducePow, Int.reduceNeg, Int.reduceLT, Int.reduceLE, Nat.reducePow, Nat.reduceLT, Int.reduceToNat, gt_iff_lt, ge_iff_le, decide_eq_true_eq, Bool.not_eq_true', decide_eq_false_iff_not, scal, ↓reduceIte, Bool.false_eq_true]
  refine ⟨s, 12, rfl, hS, by omega, fun i H1 h0 h1 kp st => ?_⟩
  simp only [cx_K, decide_true, decide_false, reduceCtorEq, gTp, gCons, gNil, ca_0, ca_1, ca_2, ca_3, ca_4, ca_5, ca_6, ca_7, ca_8, ca_9, ca_10, ca_11, ca_12, ca_13, ca_14, ca_15, ca_16, ca_17, ca_18, ca_19, ca_20, ca_21, ca_22, ca_23, ca_24, ca_25, ca_26, ca_27, ca_28, ca_29, ca_30, not_true_eq_false, not_false_eq_true, Int.reduceEq, Nat.reduceEqDiff, Nat.reduceLeDiff, rGcd, V.ty.injEq, eq_self, List.not_mem_nil, beq_self_eq_true, HO.lst.injEq, HO.tup.injEq, tFor_eq, iRng1, iList, iTup, nat10, tSeq, rIxA, rSetA, rIsN, rIsT, tTp, tLs, itsO_tup, itsO_lst, tyO_tup, tyO_lst, tyO_dK, tyN_non, tyN_bl, tyN_int, tyN_str, tyN_ref, tyNs_lt, isB, upd_same, upd_upd, sizeLine_eq, List.mem_cons, String.reduceBEq, String.reduceEq, Bool.or_false, Bool.or_true, Bool.and_false, Bool.false_or, Bool.and_self, Bool.false_and, Bool.not_false, Bool.not_true, List.any_cons, List.any_nil, atI_0, setI_0, atI_1, setI_1, atI_2, setI_2, atI_3, setI_3, atI_4, setI_4, atI_5, setI_5, atI_6, setI_6, tAsg, gName, tOp, tUn, tVar, tC, tCons, L2.tNil, tRet, tIfS, tTest, tCB, tCall, rI, rI0, rU, tNext, tB, tAnd, tOr, tNot, tAndV, tOrV, tNotV, tDrop, tIf, tPar, gSub, rIxL, rIxT, rEq, rNe, rSetL, tBits,
    L2.start, List.map_cons, List.map_nil, List.cons_append, List.nil_append, List.append_nil, List.length_cons, List.length_nil, List.replicate, Nat.reduceAdd, Nat.reduceSub, Nat.zero_add, List.getElem?_cons_zero, List.getElem?_cons_succ, List.set_cons_zero, List.set_cons_succ,
    Option.some.injEq, exists_eq_left', exists_eq_left, V.int.injEq, V.bl.injEq, V.ref.injEq, V.str.injEq, List.cons.injEq, reduceCtorEq, and_true, true_and, false_and, and_false, exists_false, or_false, false_or, or_true, true_or, exists_const, CMul, CDiv, CPow, and_assoc, exists_and_left, exists_and_right, Int.reducePow, Int.reduceNeg, Int.reduceLT, Int.reduceLE, Nat.reducePow, Nat.reduceLT, Int.reduceToNat, gt_iff_lt, ge_iff_le, decide_eq_true_eq, Bool.not_eq_true', decide_eq_false_iff_not, scal, ↓reduceIte, Bool.false_eq_true]
  refine ite2 (fun h => ?_) (fun h => ?_)
  · intro p hp kp'
    rw [ob_new kp']
    simp only [cx_K, decide_true, decide_false, reduceCtorEq, gTp, gCons, gNil, ca_0, ca_1, ca_2, ca_3, ca_4, ca_5, ca_6, ca_7, ca_8, ca_9, ca_10, ca_11, ca_12, ca_13, ca_14, ca_15, ca_16, ca_17, ca_18, ca_19, ca_20, ca_21, ca_22, ca_23, ca_24, ca_25, ca_26, ca_27, ca_28, ca_29, ca_30, not_true_eq_false, not_false_eq_true, Int.reduceEq, Nat.reduceEqDiff, Nat.reduceLeDiff, rGcd, V.ty.injEq, eq_self, List.not_mem_nil, beq_self_eq_true, HO.lst.injEq, HO.tup.injEq, tFor_eq, iRng1, iList, iTup, nat10, tSeq, rIxA, rSetA, rIsN, rIsT, tTp, tLs, itsO_tup, itsO_lst, tyO_tup, tyO_lst, tyO_dK, tyN_non, tyN_bl, tyN_int, tyN_str, tyN_ref, tyNs_lt, isB, upd_same, upd_upd, sizeLine_eq, List.mem_cons, String.reduceBEq, String.reduceEq, Bool.or_false, Bool.or_true, Bool.and_false, Bool.false_or, Bool.and_self, Bool.false_and, Bool.not_false, Bool.not_true, List.any_cons, List.any_nil, atI_0, setI_0, atI_1, setI_1, atI_2, setI_2, atI_3, setI_3, atI_4, setI_4, atI_5, setI_5, atI_6, setI_6, tAsg, gName, tOp, tUn, tVar, tC, tCons, L2.tNil, tRet, tIfS, tTest, tCB, tCall, rI, rI0, rU, tNext, tB, tAnd, tOr, tNot, tAndV, tOrV, tNotV, tDrop, tIf, tPar, gSub, rIxL, rIxT, rEq, rNe, rSetL, tBits,
    L2.start, List.map_cons, List.map_nil, List.cons_append, List.nil_append, List.append_nil, List.length_cons, List.length_nil, List.replicate, Nat.reduceAdd, Nat.reduceSub, Nat.zero_add, List.getElem?_cons_zero, List.getElem?_cons_succ, List.set_cons_zero, List.set_cons_succ,
    Option.some.injEq, exists_eq_left', exists_eq_left, V.int.injEq, V.bl.injEq, V.ref.injEq, V.str.injEq, List.cons.injEq, reduceCtorEq, and_true, true_and, false_and, and_false, exists_false, or_false, false_or, or_true, true_or, exists_const, CMul, CDiv, CPow, and_assoc, exists_and_left, exists_and_right, Int.reducePow, Int.reduceNeg, Int.reduceLT, Int.reduceLE, Nat.reducePow, Nat.reduceLT, Int.reduceToNat, gt_iff_lt, ge_iff_le, decide_eq_true_eq, Bool.not_eq_true', decide_eq_false_iff_not, scal, ↓reduceIte, Bool.false_eq_true]
    refine menu h0 (by simpa using h) fun v hv => ?_
    simp only [List.mem_cons, List.not_mem_nil, or_false] at hv
    rcases hv with rfl | rfl | rfl | rfl <;> exact k _ _ (by show Int.natAbs _ < _; omega) (kp.trans (Kp.same (Same.new hp _))) (st.same (Same.new hp _))
  · refine ⟨s, _, rfl, st, by omega, fun j H2 j0 j1 kp2 st2 => ⟨s, 40, rfl, st2, by omega, fun m H3 m0 m1 kp3 st3 => ?_⟩⟩
    simp only [cx_K, decide_true, decide_false, reduceCtorEq, gTp, gCons, gNil, ca_0, ca_1, ca_2, ca_3, ca_4, ca_5, ca_6, ca_7, ca_8, ca_9, ca_10, ca_11, ca_12, ca_13, ca_14, ca_15, ca_16, ca_17, ca_18, ca_19, ca_20, ca_21, ca_22, ca_23, ca_24, ca_25, ca_26, ca_27, ca_28, ca_29, ca_30, not_true_eq_false, not_false_eq_true, Int.reduceEq, Nat.reduceEqDiff, Nat.reduceLeDiff, rGcd, V.ty.injEq, eq_self, List.not_mem_nil, beq_self_eq_true, HO.lst.injEq, HO.tup.injEq, tFor_eq, iRng1, iList, iTup, nat10, tSeq, rIxA, rSetA, rIsN, rIsT, tTp, tLs, itsO_tup, itsO_lst, tyO_tup, tyO_lst, tyO_dK, tyN_non, tyN_bl, tyN_int, tyN_str, tyN_ref, tyNs_lt, isB, upd_same, upd_upd, sizeLine_eq, List.mem_cons, String.reduceBEq, String.reduceEq, Bool.or_false, Bool.or_true, Bool.and_false, Bool.false_or, Bool.and_self, Bool.false_and, Bool.not_false, Bool.not_true, List.any_cons, List.any_nil, atI_0, setI_0, atI_1, setI_1, atI_2, setI_2, atI_3, setI_3, atI_4, setI_4, atI_5, setI_5, atI_6, setI_6, tAsg, gName, tOp, tUn, tVar, tC, tCons, L2.tNil, tRet, tIfS, tTest, tCB, tCall, rI, rI0, rU, tNext, tB, tAnd, tOr, tNot, tAndV, tOrV, tNotV, tDrop, tIf, tPar, gSub, rIxL, rIxT, rEq, rNe, rSetL, tBits,
    L2.start, List.map_cons, List.map_nil, List.cons_append, List.nil_append, List.append_nil, List.length_cons, List.length_nil, List.replicate, Nat.reduceAdd, Nat.reduceSub, Nat.zero_add, List.getElem?_cons_zero, List.getElem?_cons_succ, List.set_cons_zero, List.set_cons_succ,
    Option.some.injEq, exists_eq_left', exists_eq_left, V.int.injEq, V.bl.injEq, V.ref.injEq, V.str.injEq, List.cons.injEq, reduceCtorEq, and_true, true_and, false_and, and_false, exists_false, or_false, false_or, or_true, true_or, exists_const, CMul, CDiv, CPow, and_assoc, exists_and_left, exists_and_right, Int.reducePow, Int.reduceNeg, Int.reduceLT, Int.reduceLE, Nat.reducePow, Nat.reduceLT, Int.reduceToNat, gt_iff_lt, ge_iff_le, decide_eq_true_eq, Bool.not_eq_true', decide_eq_false_iff_not, scal, ↓reduceIte, Bool.false_eq_true]
    refine ⟨by omega, by omega, forI_range (GreatI s i H3) ⟨j, none, rfl, rfl, j0, by omega⟩ ?_ ?_⟩
    · rintro t σ H' _ ⟨v, y, rfl, rfl, v0, v1⟩
      simp only [cx_K, decide_true, decide_false, reduceCtorEq, gTp, gCons, gNil, ca_0, ca_1, ca_2, ca_3, ca_4, ca_5, ca_6, ca_7, ca_8, ca_9, ca_10, ca_11, ca_12, ca_13, ca_14, ca_15, ca_16, ca_17, ca_18, ca_19, ca_20, ca_21, ca_22, ca_23, ca_24, ca_25, ca_26, ca_27, ca_28, ca_29, ca_30, not_true_eq_false, not_false_eq_true, Int.reduceEq, Nat.reduceEqDiff, Nat.reduceLeDiff, rGcd, V.ty.injEq, eq_self, List.not_mem_nil, beq_self_eq_true, HO.lst.injEq, HO.tup.injEq, tFor_eq, iRng1, iList, iTup, nat10, tSeq, rIxA, rSetA, rIsN, rIsT, tTp, tLs, itsO_tup, itsO_lst, tyO_tup, tyO_lst, tyO_dK, tyN_non, tyN_bl, tyN_int, tyN_str, tyN_ref, tyNs_lt, isB, upd_same, upd_upd, sizeLine_eq, List.mem_cons, String.reduceBEq, String.reduceEq, Bool.or_false, Bool.or_true, Bool.and_false, Bool.false_or, Bool.and_self, Bool.false_and, Bool.not_false, Bool.not_true, List.any_cons, List.any_nil, atI_0, setI_0, atI_1, setI_1, atI_2, setI_2, atI_3, setI_3, atI_4, setI_4, atI_5, setI_5, atI_6, setI_6, tAsg, gName, tOp, tUn, tVar, tC, tCons, L2.tNil, tRet, tIfS, tTest, tCB, tCall, rI, rI0, rU, tNext, tB, tAnd, tOr, tNot, tAndV, tOrV, tNotV, tDrop, tIf, tPar, gSub, rIxL, rIxT, rEq, rNe, rSetL, tBits,
    L2.start, List.map_cons, List.map_nil, List.cons_append, List.nil_append, List.append_nil, List.length_cons, List.length_nil, List.replicate, Nat.reduceAdd, Nat.reduceSub, Nat.zero_add, List.getElem?_cons_zero, List.getElem?_cons_succ, List.set_cons_zero, List.set_cons_succ,
    Option.some.injEq, exists_eq_left', exists_eq_left, V.int.injEq, V.bl.injEq, V.ref.injEq, V.str.injEq, List.cons.injEq, reduceCtorEq, and_true, true_and, false_and, and_false, exists_false, or_false, false_or, or_true, true_or, exists_const, CMul, CDiv, CPow, and_assoc, exists_and_left, exists_and_right, Int.reducePow, Int.reduceNeg, Int.reduceLT, Int.reduceLE, Nat.reducePow, Nat.reduceLT, Int.reduceToNat, gt_iff_lt, ge_iff_le, decide_eq_true_eq, Bool.not_eq_true', decide_eq_false_iff_not, scal, ↓reduceIte, Bool.false_eq_true]
      exact ⟨_, _, rfl, rfl, by omega, by omega⟩
    · rintro σ H' ⟨v, y, rfl, rfl, v0, v1⟩
      simp only [cx_K, decide_true, decide_false, reduceCtorEq, gTp, gCons, gNil, ca_0, ca_1, ca_2, ca_3, ca_4, ca_5, ca_6, ca_7, ca_8, ca_9, ca_10, ca_11, ca_12, ca_13, ca_14, ca_15, ca_16, ca_17, ca_18, ca_19, ca_20, ca_21, ca_22, ca_23, ca_24, ca_25, ca_26, ca_27, ca_28, ca_29, ca_30, not_true_eq_false, not_false_eq_true, Int.reduceEq, Nat.reduceEqDiff, Nat.reduceLeDiff, rGcd, V.ty.injEq, eq_self, List.not_mem_nil, beq_self_eq_true, HO.lst.injEq, HO.tup.injEq, tFor_eq, iRng1, iList, iTup, nat10, tSeq, rIxA, rSetA, rIsN, rIsT, tTp, tLs, itsO_tup, itsO_lst, tyO_tup, tyO_lst, tyO_dK, tyN_non, tyN_bl, tyN_int, tyN_str, tyN_ref, tyNs_lt, isB, upd_same, upd_upd, sizeLine_eq, List.mem_cons, String.reduceBEq, String.reduceEq, Bool.or_false, Bool.or_true, Bool.and_false, Bool.false_or, Bool.and_self, Bool.false_and, Bool.not_false, Bool.not_true, List.any_cons, List.any_nil, atI_0, setI_0, atI_1, setI_1, atI_2, setI_2, atI_3, setI_3, atI_4, setI_4, atI_5, setI_5, atI_6, setI_6, tAsg, gName, tOp, tUn, tVar, tC, tCons, L2.tNil, tRet, tIfS, tTest, tCB, tCall, rI, rI0, rU, tNext, tB, tAnd, tOr, tNot, tAndV, tOrV, tNotV, tDrop, tIf, tPar, gSub, rIxL, rIxT, rEq, rNe, rSetL, tBits,
    L2.start, List.map_cons, List.map_nil, List.cons_append, List.nil_append, List.append_nil, List.length_cons, List.length_nil, List.replicate, Nat.reduceAdd, Nat.reduceSub, Nat.zero_add, List.getElem?_cons_zero, List.getElem?_cons_succ, List.set_cons_zero, List.set_cons_succ,
    Option.some.injEq, exists_eq_left', exists_eq_left, V.int.injEq, V.bl.injEq, V.ref.injEq, V.str.injEq, List.cons.injEq, reduceCtorEq, and_true, true_and, false_and, and_false, exists_false, or_false, false_or, or_true, true_or, exists_const, CMul, CDiv, CPow, and_assoc, exists_and_left, exists_and_right, Int.reducePow, Int.reduceNeg, Int.reduceLT, Int.reduceLE, Nat.reducePow, Nat.reduceLT, Int.reduceToNat, gt_iff_lt, ge_iff_le, decide_eq_true_eq, Bool.not_eq_true', decide_eq_false_iff_not, scal, ↓reduceIte, Bool.false_eq_true]
      have kk := (kp.trans kp2).trans kp3
      exact ite2 (fun _ => k _ _ (by show Int.natAbs _ < _; omega) kk st3) (fun _ => k _ _ (by show Int.natAbs _ < _; omega) kk st3)
def spDFrac (K : PySem.W.Frag) (n : Nat) : Sp := fun vs H Q _ => ∃ (s : Addr), vs = [.ref s] ∧ Sto K H s ∧ ∀ a q H', Fq K H' n a q → Kp s H H' → Sto K H' s → Q (.ref a) H'
theorem nf01 : Nf (0, 1) := ⟨by decide, by decide⟩
theorem nf11 : Nf (1, 1) := ⟨by decide, by decide⟩
theorem nfm1 : Nf (-1, 1) := ⟨by decide, by decide⟩
theorem nf12 : Nf (1, 2) := ⟨by decide, by decide⟩
theorem nfm2 : Nf (-1, 2) := ⟨by decide, by decide⟩
theorem sz10 {x y : Int} (h1 : x.natAbs < 1024) (h2 : y.natAbs < 1024) : Sz 10 (x, y) := ⟨by show x.natAbs < _; omega, by show y.natAbs < _; omega⟩
abbrev sDFrac : Stmt := topS 59
theorem scDFrac : FnScope ["_law_store_here", "_law_spot", "_law_bottom"] ["_law_store_here"] (defScope sDFrac) := ⟨rfl, rfl, rfl, by decide +kernel, rfl, by decide +kernel, by decide +kernel⟩
theorem k_DFrac (T : Bt K mg) (D : Dfn K mg "_law_frac" sDFrac ["_law_store_here"]) (d__law_take : Kn P w K mg base 2 "_law_take" ["_law_store_here", "_law_many"] (spTake K)) (d__law_lowest : Kn P w K mg base 2 "_law_lowest" ["_law_top", "_law_bottom"] (spLowest K)) : Kn P w K mg base 3 "_law_frac" ["_law_store_here"] (spDFrac K 10) := by
  refine Kn.mk' D scDFrac (fun vs H Q E h => ?_) (fun f cdv A outer s H vs Q E hr h => ?_)
  · obtain ⟨s, rfl, _⟩ := h
    rfl
  obtain ⟨s, rfl, hS, k⟩ := h
  refine ⟨_, (pss_cons (ps_set (i := 1) scDFrac.nd rfl (.inl rfl) (pe_kn d__law_take hr (by rfl) (pa_cons (pv 0) (pa_cons pe_int pa_nil))))
      (pss_cons (ps_if (pt_cmpR op_lt (pv 1) pe_int (nomark _)) (pss_one (ps_ret (pe_ix ix_any (pe_ls (pa_cons (pe_tp (pa_cons pe_int (pa_cons pe_int pa_nil))) (pa_cons (pe_tp (pa_cons pe_int (pa_cons pe_int pa_nil))) (pa_cons (pe_tp (pa_cons (pe_un un_neg pe_int) (pa_cons pe_int pa_nil))) (pa_cons (pe_tp (pa_cons pe_int (pa_cons pe_int pa_nil))) (pa_cons (pe_tp (pa_cons (pe_un un_neg pe_int) (pa_cons pe_int pa_nil))) pa_nil)))))) (pv 1) (fun _ _ => rfl)))) pss_nil)
      (pss_cons (ps_set (i := 2) scDFrac.nd rfl (.inl rfl) (pe_op op_add pe_int (pe_kn d__law_take hr (by rfl) (pa_cons (pv 0) (pa_cons pe_int pa_nil)))))
      (pss_one (ps_ret (pe_kn d__law_lowest hr (by rfl) (pa_cons (pe_op op_sub (pe_kn d__law_take hr (by rfl) (pa_cons (pv 0) (pa_cons (pe_op op_add (pe_op op_mul pe_int (pv 2)) pe_int) pa_nil))) (pe_op op_mul pe_int (pv 2))) (pa_cons (pv 2) pa_nil)))))))), ?_⟩
  simp only [cx_K, decide_true, decide_false, reduceCtorEq, gTp, gCons, gNil, ca_0, ca_1, ca_2, ca_3, ca_4, ca_5, ca_6, ca_7, ca_8, ca_9, ca_10, ca_11, ca_12, ca_13, ca_14, ca_15, ca_16, ca_17, ca_18, ca_19, ca_20, ca_21, ca_22, ca_23, ca_24, ca_25, ca_26, ca_27, ca_28, ca_29, ca_30, not_true_eq_false, not_false_eq_true, Int.reduceEq, Nat.reduceEqDiff, Nat.reduceLeDiff, rGcd, V.ty.injEq, eq_self, List.not_mem_nil, beq_self_eq_true, HO.lst.injEq, HO.tup.injEq, tFor_eq, iRng1, iList, iTup, nat10, tSeq, rIxA, rSetA, rIsN, rIsT, tTp, tLs, itsO_tup, itsO_lst, tyO_tup, tyO_lst, tyO_dK, tyN_non, tyN_bl, tyN_int, tyN_str, tyN_ref, tyNs_lt, isB, upd_same, upd_upd, sizeLine_eq, List.mem_cons, String.reduceBEq, String.reduceEq, Bool.or_false, Bool.or_true, Bool.and_false, Bool.false_or, Bool.and_self, Bool.false_and, Bool.not_false, Bool.not_true, List.any_cons, List.any_nil, atI_0, setI_0, atI_1, setI_1, atI_2, setI_2, atI_3, setI_3, atI_4, setI_4, atI_5, setI_5, atI_6, setI_6, tAsg, gName, tOp, tUn, tVar, tC, tCons, L2.tNil, tRet, tIfS, tTest, tCB, tCall, rI, rI0, rU, tNext, tB, tAnd, tOr, tNot, tAndV, tOrV, tNotV, tDrop, tIf, tPar, gSub, rIxL, rIxT, rEq, rNe, rSetL, tBits,
    L2.start, List.map_cons, List.map_nil, List.cons_append, List.nil_append, List.append_nil, List.length_cons, List.length_nil, List.replicate, Nat.reduceAdd, Nat.reduceSub, Nat.zero_add, List.getElem?_cons_zero, List.getElem?_cons_succ, List.set_cons_zero, List.set_cons_succ,
    Option.some.injEq, exists_eq_left', exists_eq_left, V.int.injEq, V.bl.injEq, V.ref.injEq, V.str.injEq, List.cons.injEq, reduceCtorEq, and_true, true_and, false_and, and_false, exists_false, or_false, false_or, or_true, true_or, exists_const, CMul, CDiv, CPow, and_assoc, exists_and_left, exists_and_right, Int.reducePow, Int.reduceNeg, Int.reduceLT, Int.reduceLE, Nat.reducePow, Nat.reduceLT, Int.reduceToNat, gt_iff_lt, ge_iff_le, decide_eq_true_eq, Bool.not_eq_true', decide_eq_false_iff_not, scal, ↓reduceIte, Bool.false_eq_true]
  refine ⟨s, 12, rfl, hS, by omega, fun i H1 z0 z1 kp st => ?_⟩
  simp only [cx_K, decide_true, decide_false, reduceCtorEq, gTp, gCons, gNil, ca_0, ca_1, ca_2, ca_3, ca_4, ca_5, ca_6, ca_7, ca_8, ca_9, ca_10, ca_11, ca_12, ca_13, ca_14, ca_15, ca_16, ca_17, ca_18, ca_19, ca_20, ca_21, ca_22, ca_23, ca_24, ca_25, ca_26, ca_27, ca_28, ca_29, ca_30, not_true_eq_false, not_false_eq_true, Int.reduceEq, Nat.reduceEqDiff, Nat.reduceLeDiff, rGcd, V.ty.injEq, eq_self, List.not_mem_nil, beq_self_eq_true, HO.lst.injEq, HO.tup.injEq, tFor_eq, iRng1, iList, iTup, nat10, tSeq, rIxA, rSetA, rIsN, rIsT, tTp, tLs, itsO_tup, itsO_lst, tyO_tup, tyO_lst, tyO_dK, tyN_non, tyN_bl, tyN_int, tyN_str, tyN_ref, tyNs_lt, isB, upd_same, upd_upd, sizeLine_eq, List.mem_cons, String.reduceBEq, String.reduceEq, Bool.or_false, Bool.or_true, Bool.and_false, Bool.false_or, Bool.and_self, Bool.false_and, Bool.not_false, Bool.not_true, List.any_cons, List.any_nil, atI_0, setI_0, atI_1, setI_1, atI_2, setI_2, atI_3, setI_3, atI_4, setI_4, atI_5, setI_5, atI_6, setI_6, tAsg, gName, tOp, tUn, tVar, tC, tCons, L2.tNil, tRet, tIfS, tTest, tCB, tCall, rI, rI0, rU, tNext, tB, tAnd, tOr, tNot, tAndV, tOrV, tNotV, tDrop, tIf, tPar, gSub, rIxL, rIxT, rEq, rNe, rSetL, tBits,
    L2.start, List.map_cons, List.map_nil, List.cons_append, List.nil_append, List.append_nil, List.length_cons, List.length_nil, List.replicate, Nat.reduceAdd, Nat.reduceSub, Nat.zero_add, List.getElem?_cons_zero, List.getElem?_cons_succ, List.set_cons_zero, List.set_cons_succ,
    Option.some.injEq, exists_eq_left', exists_eq_left, V.int.injEq, V.bl.injEq, V.ref.injEq, V.str.injEq, List.cons.injEq, reduceCtorEq, and_true, true_and, false_and, and_false, exists_false, or_false, false_or, or_true, true_or, exists_const, CMul, CDiv, CPow, and_assoc, exists_and_left, exists_and_right, Int.reducePow, Int.reduceNeg, Int.reduceLT, Int.reduceLE, Nat.reducePow, Nat.reduceLT, Int.reduceToNat, gt_iff_lt, ge_iff_le, decide_eq_true_eq, Bool.not_eq_true', decide_eq_false_iff_not, scal, ↓reduceIte, Bool.false_eq_true]
  refine ite2 (fun h => ?_) (fun h => ?_)
  · intro p1 h1 k1 p2 h2 k2 p3 h3 k3 p4 h4 k4 p5 h5 k5 p6 h6 k6
    rw [ob_new k6]
    simp only [cx_K, decide_true, decide_false, reduceCtorEq, gTp, gCons, gNil, ca_0, ca_1, ca_2, ca_3, ca_4, ca_5, ca_6, ca_7, ca_8, ca_9, ca_10, ca_11, ca_12, ca_13, ca_14, ca_15, ca_16, ca_17, ca_18, ca_19, ca_20, ca_21, ca_22, ca_23, ca_24, ca_25, ca_26, ca_27, ca_28, ca_29, ca_30, not_true_eq_false, not_false_eq_true, Int.reduceEq, Nat.reduceEqDiff, Nat.reduceLeDiff, rGcd, V.ty.injEq, eq_self, List.not_mem_nil, beq_self_eq_true, HO.lst.injEq, HO.tup.injEq, tFor_eq, iRng1, iList, iTup, nat10, tSeq, rIxA, rSetA, rIsN, rIsT, tTp, tLs, itsO_tup, itsO_lst, tyO_tup, tyO_lst, tyO_dK, tyN_non, tyN_bl, tyN_int, tyN_str, tyN_ref, tyNs_lt, isB, upd_same, upd_upd, sizeLine_eq, List.mem_cons, String.reduceBEq, String.reduceEq, Bool.or_false, Bool.or_true, Bool.and_false, Bool.false_or, Bool.and_self, Bool.false_and, Bool.not_false, Bool.not_true, List.any_cons, List.any_nil, atI_0, setI_0, atI_1, setI_1, atI_2, setI_2, atI_3, setI_3, atI_4, setI_4, atI_5, setI_5, atI_6, setI_6, tAsg, gName, tOp, tUn, tVar, tC, tCons, L2.tNil, tRet, tIfS, tTest, tCB, tCall, rI, rI0, rU, tNext, tB, tAnd, tOr, tNot, tAndV, tOrV, tNotV, tDrop, tIf, tPar, gSub, rIxL, rIxT, rEq, rNe, rSetL, tBits,
    L2.start, List.map_cons, List.map_nil, List.cons_append, List.nil_append, List.append_nil, List.length_cons, List.length_nil, List.replicate, Nat.reduceAdd, Nat.reduceSub, Nat.zero_add, List.getElem?_cons_zero, List.getElem?_cons_succ, List.set_cons_zero, List.set_cons_succ,
    Option.some.injEq, exists_eq_left', exists_eq_left, V.int.injEq, V.bl.injEq, V.ref.injEq, V.str.injEq, List.cons.injEq, reduceCtorEq, and_true, true_and, false_and, and_false, exists_false, or_false, false_or, or_true, true_or, exists_const, CMul, CDiv, CPow, and_assoc, exists_and_left, exists_and_right, Int.reducePow, Int.reduceNeg, Int.reduceLT, Int.reduceLE, Nat.reducePow, Nat.reduceLT, Int.reduceToNat, gt_iff_lt, ge_iff_le, decide_eq_true_eq, Bool.not_eq_true', decide_eq_false_iff_not, scal, ↓reduceIte, Bool.false_eq_true]
    refine menu z0 (by simpa using h) fun v hv => ?_
    simp only [List.mem_cons, List.not_mem_nil, or_false] at hv
    rcases hv with rfl | rfl | rfl | rfl | rfl
    · exact k _ _ _ ⟨ob_same ((Same.new h2 _).trans ((Same.new h3 _).trans ((Same.new h4 _).trans ((Same.new h5 _).trans (Same.new h6 _))))) (ob_new k1), nf01, sz10 (by decide) (by decide)⟩ (kp.trans (Kp.same ((Same.new h1 _).trans ((Same.new h2 _).trans ((Same.new h3 _).trans ((Same.new h4 _).trans ((Same.new h5 _).trans (Same.new h6 _)))))))) (st.same ((Same.new h1 _).trans ((Same.new h2 _).trans ((Same.new h3 _).trans ((Same.new h4 _).trans ((Same.new h5 _).trans (Same.new h6 _)))))))
    · exact k _ _ _ ⟨ob_same ((Same.new h3 _).trans ((Same.new h4 _).trans ((Same.new h5 _).trans (Same.new h6 _)))) (ob_new k2), nf11, sz10 (by decide) (by decide)⟩ (kp.trans (Kp.same ((Same.new h1 _).trans ((Same.new h2 _).trans ((Same.new h3 _).trans ((Same.new h4 _).trans ((Same.new h5 _).trans (Same.new h6 _)))))))) (st.same ((Same.new h1 _).trans ((Same.new h2 _).trans ((Same.new h3 _).trans ((Same.new h4 _).trans ((Same.new h5 _).trans (Same.new h6 _)))))))
    · exact k _ _ _ ⟨ob_same ((Same.new h4 _).trans ((Same.new h5 _).trans (Same.new h6 _))) (ob_new k3), nfm1, sz10 (by decide) (by decide)⟩ (kp.trans (Kp.same ((Same.new h1 _).trans ((Same.new h2 _).trans ((Same.new h3 _).trans ((Same.new h4 _).trans ((Same.new h5 _).trans (Same.new h6 _)))))))) (st.same ((Same.new h1 _).trans ((Same.new h2 _).trans ((Same.new h3 _).trans ((Same.new h4 _).trans ((Same.new h5 _).trans (Same.new h6 _)))))))
    · exact k _ _ _ ⟨ob_same ((Same.new h5 _).trans (Same.new h6 _)) (ob_new k4), nf12, sz10 (by decide) (by decide)⟩ (kp.trans (Kp.same ((Same.new h1 _).trans ((Same.new h2 _).trans ((Same.new h3 _).trans ((Same.new h4 _).trans ((Same.new h5 _).trans (Same.new h6 _)))))))) (st.same ((Same.new h1 _).trans ((Same.new h2 _).trans ((Same.new h3 _).trans ((Same.new h4 _).trans ((Same.new h5 _).trans (Same.new h6 _)))))))
    · exact k _ _ _ ⟨ob_same (Same.new h6 _) (ob_new k5), nfm2, sz10 (by decide) (by decide)⟩ (kp.trans (Kp.same ((Same.new h1 _).trans ((Same.new h2 _).trans ((Same.new h3 _).trans ((Same.new h4 _).trans ((Same.new h5 _).trans (Same.new h6 _)))))))) (st.same ((Same.new h1 _).trans ((Same.new h2 _).trans ((Same.new h3 _).trans ((Same.new h4 _).trans ((Same.new h5 _).trans (Same.new h6 _)))))))
  · refine ⟨s, 12, rfl, st, by omega, fun j H2 j0 j1 kp2 st2 => ?_⟩
    simp only [cx_K, decide_true, decide_false, reduceCtorEq, gTp, gCons, gNil, ca_0, ca_1, ca_2, ca_3, ca_4, ca_5, ca_6, ca_7, ca_8, ca_9, ca_10, ca_11, ca_12, ca_13, ca_14, ca_15, ca_16, ca_17, ca_18, ca_19, ca_20, ca_21, ca_22, ca_23, ca_24, ca_25, ca_26, ca_27, ca_28, ca_29, ca_30, not_true_eq_false, not_false_eq_true, Int.reduceEq, Nat.reduceEqDiff, Nat.reduceLeDiff, rGcd, V.ty.injEq, eq_self, List.not_mem_nil, beq_self_eq_true, HO.lst.injEq, HO.tup.injEq, tFor_eq, iRng1, iList, iTup, nat10, tSeq, rIxA, rSetA, rIsN, rIsT, tTp, tLs, itsO_tup, itsO_lst, tyO_tup, tyO_lst, tyO_dK, tyN_non, tyN_bl, tyN_int, tyN_str, tyN_ref, tyNs_lt, isB, upd_same, upd_upd, sizeLine_eq, List.mem_cons, String.reduceBEq, String.reduceEq, Bool.or_false, Bool.or_true, Bool.and_false, Bool.false_or, Bool.and_self, Bool.false_and, Bool.not_false, Bool.not_true, List.any_cons, List.any_nil, atI_0, setI_0, atI_1, setI_1, atI_2, setI_2, atI_3, setI_3, atI_4, setI_4, atI_5, setI_5, atI_6, setI_6, tAsg, gName, tOp, tUn, tVar, tC, tCons, L2.tNil, tRet, tIfS, tTest, tCB, tCall, rI, rI0, rU, tNext, tB, tAnd, tOr, tNot, tAndV, tOrV, tNotV, tDrop, tIf, tPar, gSub, rIxL, rIxT, rEq, rNe, rSetL, tBits,
    L2.start, List.map_cons, List.map_nil, List.cons_append, List.nil_append, List.append_nil, List.length_cons, List.length_nil, List.replicate, Nat.reduceAdd, Nat.reduceSub, Nat.zero_add, List.getElem?_cons_zero, List.getElem?_cons_succ, List.set_cons_zero, List.set_cons_succ,
    Option.some.injEq, exists_eq_left', exists_eq_left, V.int.injEq, V.bl.injEq, V.ref.injEq, V.str.injEq, List.cons.injEq, reduceCtorEq, and_true, true_and, false_and, and_false, exists_false, or_false, false_or, or_true, true_or, exists_const, CMul, CDiv, CPow, and_assoc, exists_and_left, exists_and_right, Int.reducePow, Int.reduceNeg, Int.reduceLT, Int.reduceLE, Nat.reducePow, Nat.reduceLT, Int.reduceToNat, gt_iff_lt, ge_iff_le, decide_eq_true_eq, Bool.not_eq_true', decide_eq_false_iff_not, scal, ↓reduceIte, Bool.false_eq_true]
    refine ⟨s, _, rfl, st2, by omega, fun m H3 m0 m1 kp3 st3 => ?_⟩
    simp only [cx_K, decide_true, decide_false, reduceCtorEq, gTp, gCons, gNil, ca_0, ca_1, ca_2, ca_3, ca_4, ca_5, ca_6, ca_7, ca_8, ca_9, ca_10, ca_11, ca_12, ca_13, ca_14, ca_15, ca_16, ca_17, ca_18, ca_19, ca_20, ca_21, ca_22, ca_23, ca_24, ca_25, ca_26, ca_27, ca_28, ca_29, ca_30, not_true_eq_false, not_false_eq_true, Int.reduceEq, Nat.reduceEqDiff, Nat.reduceLeDiff, rGcd, V.ty.injEq, eq_self, List.not_mem_nil, beq_self_eq_true, HO.lst.injEq, HO.tup.injEq, tFor_eq, iRng1, iList, iTup, nat10, tSeq, rIxA, rSetA, rIsN, rIsT, tTp, tLs, itsO_tup, itsO_lst, tyO_tup, tyO_lst, tyO_dK, tyN_non, tyN_bl, tyN_int, tyN_str, tyN_ref, tyNs_lt, isB, upd_same, upd_upd, sizeLine_eq, List.mem_cons, String.reduceBEq, String.reduceEq, Bool.or_false, Bool.or_true, Bool.and_false, Bool.false_or, Bool.and_self, Bool.false_and, Bool.not_false, Bool.not_true, List.any_cons, List.any_nil, atI_0, setI_0, atI_1, setI_1, atI_2, setI_2, atI_3, setI_3, atI_4, setI_4, atI_5, setI_5, atI_6, setI_6, tAsg, gName, tOp, tUn, tVar, tC, tCons, L2.tNil, tRet, tIfS, tTest, tCB, tCall, rI, rI0, rU, tNext, tB, tAnd, tOr, tNot, tAndV, tOrV, tNotV, tDrop, tIf, tPar, gSub, rIxL, rIxT, rEq, rNe, rSetL, tBits,
    L2.start, List.map_cons, List.map_nil, List.cons_append, List.nil_append, List.append_nil, List.length_cons, List.length_nil, List.replicate, Nat.reduceAdd, Nat.reduceSub, Nat.zero_add, List.getElem?_cons_zero, List.getElem?_cons_succ, List.set_cons_zero, List.set_cons_succ,
    Option.some.injEq, exists_eq_left', exists_eq_left, V.int.injEq, V.bl.injEq, V.ref.injEq, V.str.injEq, List.cons.injEq, reduceCtorEq, and_true, true_and, false_and, and_false, exists_false, or_false, false_or, or_true, true_or, exists_const, CMul, CDiv, CPow, and_assoc, exists_and_left, exists_and_right, Int.reducePow, Int.reduceNeg, Int.reduceLT, Int.reduceLE, Nat.reducePow, Nat.reduceLT, Int.reduceToNat, gt_iff_lt, ge_iff_le, decide_eq_true_eq, Bool.not_eq_true', decide_eq_false_iff_not, scal, ↓reduceIte, Bool.false_eq_true]
    refine ⟨_, _, rfl, ?_, fun q hq p H4 s4 o4 => ?_⟩
    · have e : 2 ^ 10 ≤ 2 ^ 8000 := Nat.pow_le_pow_right (by omega) (by omega)
      omega
    · have hI := hq.2 (show 1 + j ≠ 0 by omega)
      exact k p q H4 ⟨o4, hI.1, is_sz (by omega) hI (by omega) (by omega)⟩ (((kp.trans kp2).trans kp3).trans (Kp.same s4)) (st3.same s4)
abbrev sDFracW : Stmt := topS 60
theorem scDFracW : FnScope ["_law_store_here", "_law_spot"] ["_law_store_here"] (defScope sDFracW) := ⟨rfl, rfl, rfl, by decide +kernel, rfl, by decide +kernel, by decide +kernel⟩
theorem k_DFracW (T : Bt K mg) (D : Dfn K mg "_law_frac_wide" sDFracW ["_law_store_here"]) (d__law_take : Kn P w K mg base 2 "_law_take" ["_law_store_here", "_law_many"] (spTake K)) (d__law_lowest : Kn P w K mg base 2 "_law_lowest" ["_law_top", "_law_bottom"] (spLowest K)) (d__law_great : Kn P w K mg base 3 "_law_great" ["_law_store_here"] (spInt K fun n => n.natAbs < 2 ^ 133)) (d__law_whole : Kn P w K mg base 3 "_law_whole" ["_law_store_here", "_law_reach"] (spLInt K)) (d__law_frac : Kn P w K mg base 3 "_law_frac" ["_law_store_here"] (spDFrac K 10)) : Kn P w K mg base 4 "_law_frac_wide" ["_law_store_here"] (spDFrac K 133) := by
  refine Kn.mk' D scDFracW (fun vs H Q E h => ?_) (fun f cdv A outer s H vs Q E hr h => ?_)
  · obtain ⟨s, rfl, _⟩ := h
    rfl
  obtain ⟨s, rfl, hS, k⟩ := h
  refine ⟨_, (pss_cons (ps_set (i := 1) scDFracW.nd rfl (.inl rfl) (pe_kn d__law_take hr (by rfl) (pa_cons (pv 0) (pa_cons pe_int pa_nil))))
      (pss_cons (ps_if (pt_cmpR op_eq (pv 1) pe_int (nomark _)) (pss_one (ps_ret (pe_kn d__law_lowest hr (by rfl) (pa_cons (pe_kn d__law_great hr (by rfl) (pa_cons (pv 0) pa_nil)) (pa_cons (pe_callB (call_max2 rfl) (by rfl) T.b_max (by decide +kernel) (pa_cons pe_int (pa_cons (pe_callB call_abs (by rfl) T.b_abs (by decide +kernel) (pa_cons (pe_kn d__law_great hr (by rfl) (pa_cons (pv 0) pa_nil)) pa_nil)) pa_nil))) pa_nil))))) pss_nil)
      (pss_cons (ps_if (pt_cmpR op_eq (pv 1) pe_int (nomark _)) (pss_one (ps_ret (pe_kn d__law_lowest hr (by rfl) (pa_cons (pe_kn d__law_whole hr (by rfl) (pa_cons (pv 0) (pa_cons (pe_op op_pow pe_int pe_int) pa_nil))) (pa_cons (pe_op op_add pe_int (pe_kn d__law_take hr (by rfl) (pa_cons (pv 0) (pa_cons pe_int pa_nil)))) pa_nil))))) pss_nil)
      (pss_one (ps_ret (pe_kn d__law_frac hr (by rfl) (pa_cons (pv 0) pa_nil))))))), ?_⟩
  simp only [cx_K, decide_true, decide_false, reduceCtorEq, gTp, gCons, gNil, ca_0, ca_1, ca_2, ca_3, ca_4, ca_5, ca_6, ca_7, ca_8, ca_9, ca_10, ca_11, ca_12, ca_13, ca_14, ca_15, ca_16, ca_17, ca_18, ca_19, ca_20, ca_21, ca_22, ca_23, ca_24, ca_25, ca_26, ca_27, ca_28, ca_29, ca_30, not_true_eq_false, not_false_eq_true, Int.reduceEq, Nat.reduceEqDiff, Nat.reduceLeDiff, rGcd, V.ty.injEq, eq_self, List.not_mem_nil, beq_self_eq_true, HO.lst.injEq, HO.tup.injEq, tFor_eq, iRng1, iList, iTup, nat10, tSeq, rIxA, rSetA, rIsN, rIsT, tTp, tLs, itsO_tup, itsO_lst, tyO_tup, tyO_lst, tyO_dK, tyN_non, tyN_bl, tyN_int, tyN_str, tyN_ref, tyNs_lt, isB, upd_same, upd_upd, sizeLine_eq, List.mem_cons, String.reduceBEq, String.reduceEq, Bool.or_false, Bool.or_true, Bool.and_false, Bool.false_or, Bool.and_self, Bool.false_and, Bool.not_false, Bool.not_true, List.any_cons, List.any_nil, atI_0, setI_0, atI_1, setI_1, atI_2, setI_2, atI_3, setI_3, atI_4, setI_4, atI_5, setI_5, atI_6, setI_6, tAsg, gName, tOp, tUn, tVar, tC, tCons, L2.tNil, tRet, tIfS, tTest, tCB, tCall, rI, rI0, rU, tNext, tB, tAnd, tOr, tNot, tAndV, tOrV, tNotV, tDrop, tIf, tPar, gSub, rIxL, rIxT, rEq, rNe, rSetL, tBits,
    L2.start, List.map_cons, List.map_nil, List.cons_append, List.nil_append, List.append_nil, List.length_cons, List.length_nil, List.replicate, Nat.reduceAdd, Nat.reduceSub, Nat.zero_add, List.getElem?_cons_zero, List.getElem?_cons_succ, List.set_cons_zero, List.set_cons_succ,
    Option.some.injEq, exists_eq_left', exists_eq_left, V.int.injEq, V.bl.injEq, V.ref.injEq, V.str.injEq, List.cons.injEq, reduceCtorEq, and_true, true_and, false_and, and_false, exists_false, or_false, false_or, or_true, true_or, exists_const, CMul, CDiv, CPow, and_assoc, exists_and_left, exists_and_right, Int.reducePow, Int.reduceNeg, Int.reduceLT, Int.reduceLE, Nat.reducePow, Nat.reduceLT, Int.reduceToNat, gt_iff_lt, ge_iff_le, decide_eq_true_eq, Bool.not_eq_true', decide_eq_false_iff_not, scal, ↓reduceIte, Bool.false_eq_true]
  refine ⟨s, 8, rfl, hS, by omega, fun i H1 z0 z1 kp st => ?_⟩
  simp only [cx_K, decide_true, decide_false, reduceCtorEq, gTp, gCons, gNil, ca_0, ca_1, ca_2, ca_3, ca_4, ca_5, ca_6, ca_7, ca_8, ca_9, ca_10, ca_11, ca_12, ca_13, ca_14, ca_15, ca_16, ca_17, ca_18, ca_19, ca_20, ca_21, ca_22, ca_23, ca_24, ca_25, ca_26, ca_27, ca_28, ca_29, ca_30, not_true_eq_false, not_false_eq_true, Int.reduceEq, Nat.reduceEqDiff, Nat.reduceLeDiff, rGcd, V.ty.injEq, eq_self, List.not_mem_nil, beq_self_eq_true, HO.lst.injEq, HO.tup.injEq, tFor_eq, iRng1, iList, iTup, nat10, tSeq, rIxA, rSetA, rIsN, rIsT, tTp, tLs, itsO_tup, itsO_lst, tyO_tup, tyO_lst, tyO_dK, tyN_non, tyN_bl, tyN_int, tyN_str, tyN_ref, tyNs_lt, isB, upd_same, upd_upd, sizeLine_eq, List.mem_cons, String.reduceBEq, String.reduceEq, Bool.or_false, Bool.or_true, Bool.and_false, Bool.false_or, Bool.and_self, Bool.false_and, Bool.not_false, Bool.not_true, List.any_cons, List.any_nil, atI_0, setI_0, atI_1, setI_1, atI_2, setI_2, atI_3, setI_3, atI_4, setI_4, atI_5, setI_5, atI_6, setI_6, tAsg, gName, tOp, tUn, tVar, tC, tCons, L2.tNil, tRet, tIfS, tTest, tCB, tCall, rI, rI0, rU, tNext, tB, tAnd, tOr, tNot, tAndV, tOrV, tNotV, tDrop, tIf, tPar, gSub, rIxL, rIxT, rEq, rNe, rSetL, tBits,
    L2.start, List.map_cons, List.map_nil, List.cons_append, List.nil_append, List.append_nil, List.length_cons, List.length_nil, List.replicate, Nat.reduceAdd, Nat.reduceSub, Nat.zero_add, List.getElem?_cons_zero, List.getElem?_cons_succ, List.set_cons_zero, List.set_cons_succ,
    Option.some.injEq, exists_eq_left', exists_eq_left, V.int.injEq, V.bl.injEq, V.ref.injEq, V.str.injEq, List.cons.injEq, reduceCtorEq, and_true, true_and, false_and, and_false, exists_false, or_false, false_or, or_true, true_or, exists_const, CMul, CDiv, CPow, and_assoc, exists_and_left, exists_and_right, Int.reducePow, Int.reduceNeg, Int.reduceLT, Int.reduceLE, Nat.reducePow, Nat.reduceLT, Int.reduceToNat, gt_iff_lt, ge_iff_le, decide_eq_true_eq, Bool.not_eq_true', decide_eq_false_iff_not, scal, ↓reduceIte, Bool.false_eq_true]
  have big : 2 ^ 133 ≤ 2 ^ 8000 := Nat.pow_le_pow_right (by omega) (by omega)
  refine ite2 (fun h => ?_) (fun h => ite2 (fun h' => ?_) (fun h' => ?_))
  · refine ⟨s, rfl, st, fun t H2 ht kp2 st2 => ⟨s, rfl, st2, fun b H3 hb kp3 st3 => ?_⟩⟩
    simp only [abs_if, cx_K, decide_true, decide_false, reduceCtorEq, gTp, gCons, gNil, ca_0, ca_1, ca_2, ca_3, ca_4, ca_5, ca_6, ca_7, ca_8, ca_9, ca_10, ca_11, ca_12, ca_13, ca_14, ca_15, ca_16, ca_17, ca_18, ca_19, ca_20, ca_21, ca_22, ca_23, ca_24, ca_25, ca_26, ca_27, ca_28, ca_29, ca_30, not_true_eq_false, not_false_eq_true, Int.reduceEq, Nat.reduceEqDiff, Nat.reduceLeDiff, rGcd, V.ty.injEq, eq_self, List.not_mem_nil, beq_self_eq_true, HO.lst.injEq, HO.tup.injEq, tFor_eq, iRng1, iList, iTup, nat10, tSeq, rIxA, rSetA, rIsN, rIsT, tTp, tLs, itsO_tup, itsO_lst, tyO_tup, tyO_lst, tyO_dK, tyN_non, tyN_bl, tyN_int, tyN_str, tyN_ref, tyNs_lt, isB, upd_same, upd_upd, sizeLine_eq, List.mem_cons, String.reduceBEq, String.reduceEq, Bool.or_false, Bool.or_true, Bool.and_false, Bool.false_or, Bool.and_self, Bool.false_and, Bool.not_false, Bool.not_true, List.any_cons, List.any_nil, atI_0, setI_0, atI_1, setI_1, atI_2, setI_2, atI_3, setI_3, atI_4, setI_4, atI_5, setI_5, atI_6, setI_6, tAsg, gName, tOp, tUn, tVar, tC, tCons, L2.tNil, tRet, tIfS, tTest, tCB, tCall, rI, rI0, rU, tNext, tB, tAnd, tOr, tNot, tAndV, tOrV, tNotV, tDrop, tIf, tPar, gSub, rIxL, rIxT, rEq, rNe, rSetL, tBits,
    L2.start, List.map_cons, List.map_nil, List.cons_append, List.nil_append, List.append_nil, List.length_cons, List.length_nil, List.replicate, Nat.reduceAdd, Nat.reduceSub, Nat.zero_add, List.getElem?_cons_zero, List.getElem?_cons_succ, List.set_cons_zero, List.set_cons_succ,
    Option.some.injEq, exists_eq_left', exists_eq_left, V.int.injEq, V.bl.injEq, V.ref.injEq, V.str.injEq, List.cons.injEq, reduceCtorEq, and_true, true_and, false_and, and_false, exists_false, or_false, false_or, or_true, true_or, exists_const, CMul, CDiv, CPow, and_assoc, exists_and_left, exists_and_right, Int.reducePow, Int.reduceNeg, Int.reduceLT, Int.reduceLE, Nat.reducePow, Nat.reduceLT, Int.reduceToNat, gt_iff_lt, ge_iff_le, decide_eq_true_eq, Bool.not_eq_true', decide_eq_false_iff_not, scal, ↓reduceIte, Bool.false_eq_true]
    have hd : (if 1 < (b.natAbs : Int) then (b.natAbs : Int) else 1) ≠ 0 ∧ (if 1 < (b.natAbs : Int) then (b.natAbs : Int) else 1).natAbs < 2 ^ 133 := by
      have hb' : b.natAbs < 2 ^ 133 := hb
      split <;> refine ⟨by omega, by omega⟩
    generalize (if 1 < (b.natAbs : Int) then (b.natAbs : Int) else 1) = d at hd ⊢
    refine ⟨_, _, rfl, by omega, fun q hq p H4 s4 o4 => ?_⟩
    have hI := hq.2 hd.1
    exact k p q H4 ⟨o4, hI.1, is_sz hd.1 hI ht hd.2⟩ (((kp.trans kp2).trans kp3).trans (Kp.same s4)) (st3.same s4)
  · refine ⟨s, _, rfl, st, by omega, by omega, fun t H2 t0 t1 kp2 st2 => ⟨s, 1000, rfl, st2, by omega, fun b H3 b0 b1 kp3 st3 => ?_⟩⟩
    simp only [cx_K, decide_true, decide_false, reduceCtorEq, gTp, gCons, gNil, ca_0, ca_1, ca_2, ca_3, ca_4, ca_5, ca_6, ca_7, ca_8, ca_9, ca_10, ca_11, ca_12, ca_13, ca_14, ca_15, ca_16, ca_17, ca_18, ca_19, ca_20, ca_21, ca_22, ca_23, ca_24, ca_25, ca_26, ca_27, ca_28, ca_29, ca_30, not_true_eq_false, not_false_eq_true, Int.reduceEq, Nat.reduceEqDiff, Nat.reduceLeDiff, rGcd, V.ty.injEq, eq_self, List.not_mem_nil, beq_self_eq_true, HO.lst.injEq, HO.tup.injEq, tFor_eq, iRng1, iList, iTup, nat10, tSeq, rIxA, rSetA, rIsN, rIsT, tTp, tLs, itsO_tup, itsO_lst, tyO_tup, tyO_lst, tyO_dK, tyN_non, tyN_bl, tyN_int, tyN_str, tyN_ref, tyNs_lt, isB, upd_same, upd_upd, sizeLine_eq, List.mem_cons, String.reduceBEq, String.reduceEq, Bool.or_false, Bool.or_true, Bool.and_false, Bool.false_or, Bool.and_self, Bool.false_and, Bool.not_false, Bool.not_true, List.any_cons, List.any_nil, atI_0, setI_0, atI_1, setI_1, atI_2, setI_2, atI_3, setI_3, atI_4, setI_4, atI_5, setI_5, atI_6, setI_6, tAsg, gName, tOp, tUn, tVar, tC, tCons, L2.tNil, tRet, tIfS, tTest, tCB, tCall, rI, rI0, rU, tNext, tB, tAnd, tOr, tNot, tAndV, tOrV, tNotV, tDrop, tIf, tPar, gSub, rIxL, rIxT, rEq, rNe, rSetL, tBits,
    L2.start, List.map_cons, List.map_nil, List.cons_append, List.nil_append, List.append_nil, List.length_cons, List.length_nil, List.replicate, Nat.reduceAdd, Nat.reduceSub, Nat.zero_add, List.getElem?_cons_zero, List.getElem?_cons_succ, List.set_cons_zero, List.set_cons_succ,
    Option.some.injEq, exists_eq_left', exists_eq_left, V.int.injEq, V.bl.injEq, V.ref.injEq, V.str.injEq, List.cons.injEq, reduceCtorEq, and_true, true_and, false_and, and_false, exists_false, or_false, false_or, or_true, true_or, exists_const, CMul, CDiv, CPow, and_assoc, exists_and_left, exists_and_right, Int.reducePow, Int.reduceNeg, Int.reduceLT, Int.reduceLE, Nat.reducePow, Nat.reduceLT, Int.reduceToNat, gt_iff_lt, ge_iff_le, decide_eq_true_eq, Bool.not_eq_true', decide_eq_false_iff_not, scal, ↓reduceIte, Bool.false_eq_true]
    refine ⟨_, _, rfl, by omega, fun q hq p H4 s4 o4 => ?_⟩
    have hI := hq.2 (show 1 + b ≠ 0 by omega)
    exact k p q H4 ⟨o4, hI.1, is_sz (by omega) hI (by omega) (by omega)⟩ (((kp.trans kp2).trans kp3).trans (Kp.same s4)) (st3.same s4)
  · exact ⟨s, rfl, st, fun a q H2 hq kp2 st2 => k a q H2 (hq.mono (by omega)) (kp.trans kp2) st2⟩
/-- the script, read alone -/
def spStore (K : PySem.W.Frag) : Sp := fun vs H Q _ => ∃ (a : Addr) (ns : List Int), vs = [.ref a] ∧ SqL K H a (ns.map V.int) ∧ ∀ s H', Same H H' → Sto K H' s → Q (.ref s) H'
def StoreI (a : Addr) (H : Hp) (_ : Nat) (σ : L2.St) (H' : Hp) : Prop := ∃ (v : Int) (y : Option V), σ = [some (.ref a), some (.int v), y] ∧ H' = H
abbrev sStore : Stmt := topS 43
theorem scStore : FnScope ["_law_script", "_law_seed", "_law_cell"] ["_law_script"] (defScope sStore) := ⟨rfl, rfl, rfl, by decide +kernel, rfl, by decide +kernel, by decide +kernel⟩
theorem k_Store (T : Bt K mg) (D : Dfn K mg "_law_store" sStore ["_law_script"]) : Kn P w K mg base 1 "_law_store" ["_law_script"] (spStore K) := by
  refine Kn.mk' D scStore (fun vs H Q E h => ?_) (fun f cdv A outer s H vs Q E hr h => ?_)
  · obtain ⟨a, ns, rfl, _⟩ := h
    rfl
  obtain ⟨a, ns, rfl, hS, k⟩ := h
  refine ⟨_, (pss_cons (ps_set (i := 1) scStore.nd rfl (.inl rfl) (pe_op op_add (pe_callB call_len_seq (by rfl) T.b_len PySem.boot_len (pa_cons (pv 0) pa_nil)) pe_int))
      (pss_cons (ps_for PassesOwn.never rfl (pi_list (pv 0)) (pg_name (i := 2) scStore.nd rfl (.inl rfl)) (pss_one (ps_set (i := 1) scStore.nd rfl (.inl rfl) (pe_op op_mod (pe_op op_add (pe_op op_add (pe_op op_mul (pv 1) pe_int) (pe_op op_mod (pe_callTy call_int1 (by rfl) T.b_int (by decide +kernel) (pa_cons (pv 2) pa_nil)) pe_int)) pe_int) pe_int))))
      (pss_one (ps_ret (pe_ls (pa_cons (pe_callTy call_listK (by rfl) T.b_list (by decide +kernel) (pa_cons (pv 0) pa_nil)) (pa_cons pe_int (pa_cons pe_int (pa_cons pe_int (pa_cons (pv 1) (pa_cons pe_int (pa_cons pe_int pa_nil)))))))))))), ?_⟩
  simp only [cx_K, decide_true, decide_false, reduceCtorEq, gTp, gCons, gNil, ca_0, ca_1, ca_2, ca_3, ca_4, ca_5, ca_6, ca_7, ca_8, ca_9, ca_10, ca_11, ca_12, ca_13, ca_14, ca_15, ca_16, ca_17, ca_18, ca_19, ca_20, ca_21, ca_22, ca_23, ca_24, ca_25, ca_26, ca_27, ca_28, ca_29, ca_30, not_true_eq_false, not_false_eq_true, Int.reduceEq, Nat.reduceEqDiff, Nat.reduceLeDiff, rGcd, V.ty.injEq, eq_self, List.not_mem_nil, beq_self_eq_true, HO.lst.injEq, HO.tup.injEq, tFor_eq, iRng1, iList, iTup, nat10, tSeq, rIxA, rSetA, rIsN, rIsT, tTp, tLs, itsO_tup, itsO_lst, tyO_tup, tyO_lst, tyO_dK, tyN_non, tyN_bl, tyN_int, tyN_str, tyN_ref, tyNs_lt, isB, upd_same, upd_upd, sizeLine_eq, List.mem_cons, String.reduceBEq, String.reduceEq, Bool.or_false, Bool.or_true, Bool.and_false, Bool.false_or, Bool.and_self, Bool.false_and, Bool.not_false, Bool.not_true, List.any_cons, List.any_nil, atI_0, setI_0, atI_1, setI_1, atI_2, setI_2, atI_3, setI_3, atI_4, setI_4, atI_5, setI_5, atI_6, setI_6, tAsg, gName, tOp, tUn, tVar, tC, tCons, L2.tNil, tRet, tIfS, tTest, tCB, tCall, rI, rI0, rU, tNext, tB, tAnd, tOr, tNot, tAndV, tOrV, tNotV, tDrop, tIf, tPar, gSub, rIxL, rIxT, rEq, rNe, rSetL, tBits,
    L2.start, List.map_cons, List.map_nil, List.cons_append, List.nil_append, List.append_nil, List.length_cons, List.length_nil, List.replicate, Nat.reduceAdd, Nat.reduceSub, Nat.zero_add, List.getElem?_cons_zero, List.getElem?_cons_succ, List.set_cons_zero, List.set_cons_succ,
    Option.some.injEq, exists_eq_left', exists_eq_left, V.int.injEq, V.bl.injEq, V.ref.injEq, V.str.injEq, List.cons.injEq, reduceCtorEq, and_true, true_and, false_and, and_false, exists_false, or_false, false_or, or_true, true_or, exists_const, CMul, CDiv, CPow, and_assoc, exists_and_left, exists_and_right, Int.reducePow, Int.reduceNeg, Int.reduceLT, Int.reduceLE, Nat.reducePow, Nat.reduceLT, Int.reduceToNat, gt_iff_lt, ge_iff_le, decide_eq_true_eq, Bool.not_eq_true', decide_eq_false_iff_not, scal, ↓reduceIte, Bool.false_eq_true]
  refine ⟨_, .inl hS, ⟨_, hS⟩, forI_list (xs := ns.map V.int) (StoreI a H) ⟨_, none, rfl, rfl⟩ ?_ ?_ ?_⟩
  · rintro i σ H' _ ⟨v, y, rfl, rfl⟩
    exact hS
  · rintro i x σ H' hi ⟨v, y, rfl, rfl⟩
    obtain ⟨z, rfl⟩ : ∃ z, x = V.int z := by
      rw [List.getElem?_map] at hi
      cases e : ns[i]? with
      | none => rw [e] at hi; cases hi
      | some z => rw [e] at hi; exact ⟨z, (Option.some.inj hi).symm⟩
    simp only [cx_K, decide_true, decide_false, reduceCtorEq, gTp, gCons, gNil, ca_0, ca_1, ca_2, ca_3, ca_4, ca_5, ca_6, ca_7, ca_8, ca_9, ca_10, ca_11, ca_12, ca_13, ca_14, ca_15, ca_16, ca_17, ca_18, ca_19, ca_20, ca_21, ca_22, ca_23, ca_24, ca_25, ca_26, ca_27, ca_28, ca_29, ca_30, not_true_eq_false, not_false_eq_true, Int.reduceEq, Nat.reduceEqDiff, Nat.reduceLeDiff, rGcd, V.ty.injEq, eq_self, List.not_mem_nil, beq_self_eq_true, HO.lst.injEq, HO.tup.injEq, tFor_eq, iRng1, iList, iTup, nat10, tSeq, rIxA, rSetA, rIsN, rIsT, tTp, tLs, itsO_tup, itsO_lst, tyO_tup, tyO_lst, tyO_dK, tyN_non, tyN_bl, tyN_int, tyN_str, tyN_ref, tyNs_lt, isB, upd_same, upd_upd, sizeLine_eq, List.mem_cons, String.reduceBEq, String.reduceEq, Bool.or_false, Bool.or_true, Bool.and_false, Bool.false_or, Bool.and_self, Bool.false_and, Bool.not_false, Bool.not_true, List.any_cons, List.any_nil, atI_0, setI_0, atI_1, setI_1, atI_2, setI_2, atI_3, setI_3, atI_4, setI_4, atI_5, setI_5, atI_6, setI_6, tAsg, gName, tOp, tUn, tVar, tC, tCons, L2.tNil, tRet, tIfS, tTest, tCB, tCall, rI, rI0, rU, tNext, tB, tAnd, tOr, tNot, tAndV, tOrV, tNotV, tDrop, tIf, tPar, gSub, rIxL, rIxT, rEq, rNe, rSetL, tBits,
    L2.start, List.map_cons, List.map_nil, List.cons_append, List.nil_append, List.append_nil, List.length_cons, List.length_nil, List.replicate, Nat.reduceAdd, Nat.reduceSub, Nat.zero_add, List.getElem?_cons_zero, List.getElem?_cons_succ, List.set_cons_zero, List.set_cons_succ,
    Option.some.injEq, exists_eq_left', exists_eq_left, V.int.injEq, V.bl.injEq, V.ref.injEq, V.str.injEq, List.cons.injEq, reduceCtorEq, and_true, true_and, false_and, and_false, exists_false, or_false, false_or, or_true, true_or, exists_const, CMul, CDiv, CPow, and_assoc, exists_and_left, exists_and_right, Int.reducePow, Int.reduceNeg, Int.reduceLT, Int.reduceLE, Nat.reducePow, Nat.reduceLT, Int.reduceToNat, gt_iff_lt, ge_iff_le, decide_eq_true_eq, Bool.not_eq_true', decide_eq_false_iff_not, scal, ↓reduceIte, Bool.false_eq_true]
    exact ⟨_, _, rfl, rfl⟩
  · rintro σ H' ⟨v, y, rfl, rfl⟩
    simp only [cx_K, decide_true, decide_false, reduceCtorEq, gTp, gCons, gNil, ca_0, ca_1, ca_2, ca_3, ca_4, ca_5, ca_6, ca_7, ca_8, ca_9, ca_10, ca_11, ca_12, ca_13, ca_14, ca_15, ca_16, ca_17, ca_18, ca_19, ca_20, ca_21, ca_22, ca_23, ca_24, ca_25, ca_26, ca_27, ca_28, ca_29, ca_30, not_true_eq_false, not_false_eq_true, Int.reduceEq, Nat.reduceEqDiff, Nat.reduceLeDiff, rGcd, V.ty.injEq, eq_self, List.not_mem_nil, beq_self_eq_true, HO.lst.injEq, HO.tup.injEq, tFor_eq, iRng1, iList, iTup, nat10, tSeq, rIxA, rSetA, rIsN, rIsT, tTp, tLs, itsO_tup, itsO_lst, tyO_tup, tyO_lst, tyO_dK, tyN_non, tyN_bl, tyN_int, tyN_str, tyN_ref, tyNs_lt, isB, upd_same, upd_upd, sizeLine_eq, List.mem_cons, String.reduceBEq, String.reduceEq, Bool.or_false, Bool.or_true, Bool.and_false, Bool.false_or, Bool.and_self, Bool.false_and, Bool.not_false, Bool.not_true, List.any_cons, List.any_nil, atI_0, setI_0, atI_1, setI_1, atI_2, setI_2, atI_3, setI_3, atI_4, setI_4, atI_5, setI_5, atI_6, setI_6, tAsg, gName, tOp, tUn, tVar, tC, tCons, L2.tNil, tRet, tIfS, tTest, tCB, tCall, rI, rI0, rU, tNext, tB, tAnd, tOr, tNot, tAndV, tOrV, tNotV, tDrop, tIf, tPar, gSub, rIxL, rIxT, rEq, rNe, rSetL, tBits,
    L2.start, List.map_cons, List.map_nil, List.cons_append, List.nil_append, List.append_nil, List.length_cons, List.length_nil, List.replicate, Nat.reduceAdd, Nat.reduceSub, Nat.zero_add, List.getElem?_cons_zero, List.getElem?_cons_succ, List.set_cons_zero, List.set_cons_succ,
    Option.some.injEq, exists_eq_left', exists_eq_left, V.int.injEq, V.bl.injEq, V.ref.injEq, V.str.injEq, List.cons.injEq, reduceCtorEq, and_true, true_and, false_and, and_false, exists_false, or_false, false_or, or_true, true_or, exists_const, CMul, CDiv, CPow, and_assoc, exists_and_left, exists_and_right, Int.reducePow, Int.reduceNeg, Int.reduceLT, Int.reduceLE, Nat.reducePow, Nat.reduceLT, Int.reduceToNat, gt_iff_lt, ge_iff_le, decide_eq_true_eq, Bool.not_eq_true', decide_eq_false_iff_not, scal, ↓reduceIte, Bool.false_eq_true]
    refine ⟨_, .inl hS, fun l hl kl => ?_⟩
    intro s hs ks
    have s1 := Same.new hl (.lst (ns.map V.int))
    have e1 : upd H' l (.lst (ns.map V.int)) l = some (.lst (ns.map V.int)) := upd_same
    have n1 : s ≠ l := by rintro rfl; rw [upd_same] at hs; cases hs
    exact k s _ (s1.trans (Same.new hs _)) ⟨l, ns, 0, 0, 0, v, 0, 0, upd_same, by rw [upd_ne (Ne.symm n1)]; exact e1, n1, Int.le_refl 0, ks, kl⟩
end
end My

namespace My
open PySem PySem.Spec PyProof.Rows L2
section
variable {P : Program} {w : World} {K : PySem.W.Frag} {mg : Str → Option Value} {base : Heap}
/-- the same data, n levels deep at most; a dict takes two -/
def scv : V → Bool
  | .non => true
  | .bl _ => true
  | .int _ => true
  | .str _ => true
  | _ => false
theorem scv_kV (k : Key) : scv (kV k) = true := by cases k <;> rfl
def EqP (K : PySem.W.Frag) (H : Hp) : Nat → (V → V → Prop) × (V → V → Prop)
  | 0 => (fun x y => x = y ∧ scv x = true, fun _ _ => False)
  | n + 1 => (fun x y => (x = y ∧ scv x = true) ∨ (∃ (a b : Addr) (xs ys : List V), x = .ref a ∧ y = .ref b ∧ ((ob K H a = some (.tup xs) ∧ ob K H b = some (.tup ys)) ∨ (ob K H a = some (.lst xs) ∧ ob K H b = some (.lst ys))) ∧ xs.length = ys.length ∧ ys.length ≤ 1000 ∧
      ∀ (i : Nat) x y, xs[i]? = some x → ys[i]? = some y → (EqP K H n).1 x y) ∨
      (1 ≤ n ∧ ∃ (a b : Addr) (ks ls : List (Key × V)), x = .ref a ∧ y = .ref b ∧ ob K H a = some (.dK ks) ∧ ob K H b = some (.dK ls) ∧ ks.map (·.1) = ls.map (·.1) ∧ ls.length ≤ 1000 ∧ ∀ (i : Nat) p q, ks[i]? = some p → ls[i]? = some q → (EqP K H n).2 p.2 q.2), (EqP K H n).1)
def Eqv (K : PySem.W.Frag) (H : Hp) (n : Nat) (x y : V) : Prop := (EqP K H n).1 x y
theorem Eqv.same {H H' : Hp} (e : Same H H') : ∀ {n : Nat} {x y : V}, Eqv K H n x y → Eqv K H' n x y
  | 0, _, _, h => h
  | n + 1, x, y, h => by
    rcases h with h | ⟨a, b, xs, ys, h1, h2, h3, h4, h5, h6⟩ | ⟨l, a, b, ks, ls, h1, h2, h3, h4, h5, h6, h7⟩
    · exact Or.inl h
    · exact Or.inr (Or.inl ⟨a, b, xs, ys, h1, h2, h3.imp (fun z => ⟨ob_same e z.1, ob_same e z.2⟩) (fun z => ⟨ob_same e z.1, ob_same e z.2⟩), h4, h5, fun i x y hx hy => Eqv.same e (h6 i x y hx hy)⟩)
    · match n, l with
      | m + 1, l => exact Or.inr (Or.inr ⟨l, a, b, ks, ls, h1, h2, ob_same e h3, ob_same e h4, h5, h6, fun i p q hp hq => Eqv.same (n := m) e (h7 i p q hp hq)⟩)
theorem Eqv.up {H : Hp} : ∀ {n : Nat} {x y : V}, Eqv K H n x y → Eqv K H (n + 1) x y
  | 0, _, _, h => Or.inl h
  | n + 1, x, y, h => by
    rcases h with h | ⟨a, b, xs, ys, h1, h2, h3, h4, h5, h6⟩ | ⟨l, a, b, ks, ls, h1, h2, h3, h4, h5, h6, h7⟩
    · exact Or.inl h
    · exact Or.inr (Or.inl ⟨a, b, xs, ys, h1, h2, h3, h4, h5, fun i x y hx hy => Eqv.up (h6 i x y hx hy)⟩)
    · match n, l with
      | m + 1, l => exact Or.inr (Or.inr ⟨Nat.le_succ_of_le l, a, b, ks, ls, h1, h2, h3, h4, h5, h6, fun i p q hp hq => Eqv.up (n := m) (h7 i p q hp hq)⟩)
theorem Eqv.le {H : Hp} {n m : Nat} {x y : V} (h : Eqv K H n x y) (l : n ≤ m) : Eqv K H m x y := by
  induction l with
  | refl => exact h
  | step _ ih => exact ih.up
def spSame (K : PySem.W.Frag) : Nat → Sp
  | 0 => fun _ _ _ _ => False
  | n + 1 => fun vs H Q _ => ∃ x y, vs = [x, y] ∧ Eqv K H n x y ∧ ∀ H', Same H H' → Q (.bl true) H'
theorem Eqv.split {H : Hp} {n : Nat} {x y : V} (h : Eqv K H n x y) : (x = y ∧ scv x = true) ∨ (∃ m, n = m + 1 ∧ ∃ (a b : Addr) (xs ys : List V), x = .ref a ∧ y = .ref b ∧ ((ob K H a = some (.tup xs) ∧ ob K H b = some (.tup ys)) ∨ (ob K H a = some (.lst xs) ∧ ob K H b = some (.lst ys))) ∧ xs.length = ys.length ∧ ys.length ≤ 1000 ∧
    ∀ (i : Nat) x y, xs[i]? = some x → ys[i]? = some y → Eqv K H m x y) ∨ (∃ m, n = m + 2 ∧ ∃ (a b : Addr) (ks ls : List (Key × V)), x = .ref a ∧ y = .ref b ∧ ob K H a = some (.dK ks) ∧ ob K H b = some (.dK ls) ∧ ks.map (·.1) = ls.map (·.1) ∧ ls.length ≤ 1000 ∧ ∀ (i : Nat) p q, ks[i]? = some p → ls[i]? = some q → Eqv K H m p.2 q.2) := by
  match n, h with
  | 0, h => exact Or.inl h
  | n + 1, h =>
    rcases h with h | h | ⟨l, h⟩
    · exact Or.inl h
    · exact .inr (.inl ⟨n, rfl, h⟩)
    · match n, l with
      | m + 1, l => exact .inr (.inr ⟨m, rfl, h⟩)
def SameI (H : Hp) (a b : Addr) (_ : Nat) (σ : L2.St) (H' : Hp) : Prop := ∃ z, σ = [some (.ref a), some (.ref b), z] ∧ Same H H'
theorem Kn.none {x : Str} {ps : List Str} {st : Stmt} (D : Dfn K mg x st ps) : Kn P w K mg base 0 x ps (fun _ _ _ _ => False) := by
  obtain ⟨f, fd, F, m, b⟩ := D.ex
  exact ⟨f, fd, m, F.kp, b, ⟨fun vs H Q E h => h.elim, fun A outer s H args us vs Q E _ _ _ _ h => h.elim⟩⟩
abbrev sSame : Stmt := topS 56
theorem scSame : FnScope ["_law_told_here", "_law_due", "_law_k"] ["_law_told_here", "_law_due"] (defScope sSame) := ⟨rfl, rfl, rfl, by decide +kernel, rfl, by decide +kernel, by decide +kernel⟩
theorem k_Same (n : Nat) (T : Bt K mg) (D : Dfn K mg "_law_same" sSame ["_law_told_here", "_law_due"]) (d__law_is_whole : Kn P w K mg base 1 "_law_is_whole" ["_law_told_here"] (spWhole K)) (d__law_same : Kn P w K mg base (n + 1) "_law_same" ["_law_told_here", "_law_due"] (spSame K n)) : Kn P w K mg base (n + 2) "_law_same" ["_law_told_here", "_law_due"] (spSame K (n + 1)) := by
  refine Kn.mk' D scSame (fun vs H Q E h => ?_) (fun f cdv A outer s H vs Q E hr h => ?_)
  · obtain ⟨x, y, rfl, _⟩ := h
    rfl
  obtain ⟨x, y, rfl, he, k⟩ := h
  refine ⟨_, (pss_cons (ps_if (pt_cmpR op_isN (pv 1) pe_non (nomark _)) (pss_one (ps_ret (pe_cmpR op_isN (pv 0) pe_non (nomark _)))) pss_nil)
      (pss_cons (ps_if (pt_val (pe_callB call_isN (by rfl) T.b_isinstance (by decide +kernel) (pa_cons (pv 1) (pa_cons (pe_bltn (v := .ty "bool") (by rfl) T.b_bool (by decide +kernel) rfl) pa_nil)))) (pss_one (ps_ret (pe_and (pe_callB call_isN (by rfl) T.b_isinstance (by decide +kernel) (pa_cons (pv 0) (pa_cons (pe_bltn (v := .ty "bool") (by rfl) T.b_bool (by decide +kernel) rfl) pa_nil))) (pe_one (pe_cmpR op_eq (pv 0) (pv 1) (nomark _)))))) pss_nil)
      (pss_cons (ps_if (pt_val (pe_callB call_isN (by rfl) T.b_isinstance (by decide +kernel) (pa_cons (pv 1) (pa_cons (pe_bltn (v := .ty "int") (by rfl) T.b_int (by decide +kernel) rfl) pa_nil)))) (pss_one (ps_ret (pe_and (pe_kn d__law_is_whole hr (by rfl) (pa_cons (pv 0) pa_nil)) (pe_one (pe_cmpR op_eq (pv 0) (pv 1) (nomark _)))))) pss_nil)
      (pss_cons (ps_if (pt_val (pe_callB call_isN (by rfl) T.b_isinstance (by decide +kernel) (pa_cons (pv 1) (pa_cons (pe_bltn (v := .ty "str") (by rfl) T.b_str (by decide +kernel) rfl) pa_nil)))) (pss_one (ps_ret (pe_and (pe_callB call_isN (by rfl) T.b_isinstance (by decide +kernel) (pa_cons (pv 0) (pa_cons (pe_bltn (v := .ty "str") (by rfl) T.b_str (by decide +kernel) rfl) pa_nil))) (pe_one (pe_cmpR op_eq (pv 0) (pv 1) (nomark _)))))) pss_nil)
      (pss_cons (ps_if (pt_val (pe_callB call_isN (by rfl) T.b_isinstance (by decide +kernel) (pa_cons (pv 1) (pa_cons (pe_bltn (v := .ty "dict") (by rfl) T.b_dict (by decide +kernel) rfl) pa_nil)))) (pss_cons (ps_if (PW.pt (pw_or (pt_not (pt_val (pe_callB call_isN (by rfl) T.b_isinstance (by decide +kernel) (pa_cons (pv 0) (pa_cons (pe_bltn (v := .ty "dict") (by rfl) T.b_dict (by decide +kernel) rfl) pa_nil))))) (pw_or1 (pt_not (pt_val (pe_kn d__law_same hr (by rfl) (pa_cons (pe_fr (pe_callTy (call_list_dK rfl) (by rfl) T.b_list (by decide +kernel) (pa_cons (pv 0) pa_nil))) (pa_cons (pe_fr (pe_callTy (call_list_dK rfl) (by rfl) T.b_list (by decide +kernel) (pa_cons (pv 1) pa_nil))) pa_nil)))))))) (pss_one (ps_ret pe_bl)) pss_nil)
      (pss_one (ps_ret (pe_kn d__law_same hr (by rfl) (pa_cons (pe_listVals rfl (by rfl) T.b_list (pv 0)) (pa_cons (pe_listVals rfl (by rfl) T.b_list (pv 1)) pa_nil)))))) pss_nil)
      (pss_cons (ps_if (PW.pt (pw_and (pt_val (pe_callB call_isN (by rfl) T.b_isinstance (by decide +kernel) (pa_cons (pv 1) (pa_cons (pe_bltn (v := .ty "list") (by rfl) T.b_list (by decide +kernel) rfl) pa_nil)))) (pw_and1 (pt_not (pt_val (pe_callB call_isN (by rfl) T.b_isinstance (by decide +kernel) (pa_cons (pv 0) (pa_cons (pe_bltn (v := .ty "list") (by rfl) T.b_list (by decide +kernel) rfl) pa_nil)))))))) (pss_one (ps_ret pe_bl)) pss_nil)
      (pss_cons (ps_if (PW.pt (pw_and (pt_val (pe_callB call_isN (by rfl) T.b_isinstance (by decide +kernel) (pa_cons (pv 1) (pa_cons (pe_bltn (v := .ty "tuple") (by rfl) T.b_tuple (by decide +kernel) rfl) pa_nil)))) (pw_and1 (pt_not (pt_val (pe_callB call_isN (by rfl) T.b_isinstance (by decide +kernel) (pa_cons (pv 0) (pa_cons (pe_bltn (v := .ty "tuple") (by rfl) T.b_tuple (by decide +kernel) rfl) pa_nil)))))))) (pss_one (ps_ret pe_bl)) pss_nil)
      (pss_cons (ps_if (PW.pt (pw_or (pt_not (pt_val (pe_callB call_isT (by rfl) T.b_isinstance (by decide +kernel) (pa_cons (pv 1) (pa_cons (pe_tp (pa_cons (pe_bltn (v := .ty "list") (by rfl) T.b_list (by decide +kernel) rfl) (pa_cons (pe_bltn (v := .ty "tuple") (by rfl) T.b_tuple (by decide +kernel) rfl) pa_nil))) pa_nil))))) (pw_or1 (pt_cmpR op_ne (pe_callB call_lenA (by rfl) T.b_len PySem.boot_len (pa_cons (pv 0) pa_nil)) (pe_callB call_lenA (by rfl) T.b_len PySem.boot_len (pa_cons (pv 1) pa_nil)) (nomark _))))) (pss_one (ps_ret pe_bl)) pss_nil)
      (pss_cons (ps_for PassesOwn.never rfl (pi_range1 (by rfl) T.b_range (pa_cons (pe_callB call_lenA (by rfl) T.b_len PySem.boot_len (pa_cons (pv 1) pa_nil)) pa_nil)) (pg_name (i := 2) scSame.nd rfl (.inl rfl)) (pss_one (ps_if (pt_not (pt_val (pe_kn d__law_same hr (by rfl) (pa_cons (pe_ix ix_any (pv 0) (pv 2) (fun _ _ => rfl)) (pa_cons (pe_ix ix_any (pv 1) (pv 2) (fun _ _ => rfl)) pa_nil))))) (pss_one (ps_ret pe_bl)) pss_nil)))
      (pss_one (ps_ret pe_bl))))))))))), ?_⟩
  rcases he.split with ⟨rfl, hsc⟩ | ⟨m, rfl, a, b, xs, ys, rfl, rfl, ho, hl, h1000, hi⟩ | ⟨m, rfl, a, b, ks, ls, rfl, rfl, oa, oc, ek, hl, hi⟩
  · cases x with
    | non =>
      simp only [cx_K, decide_true, decide_false, reduceCtorEq, gTp, gCons, gNil, ca_0, ca_1, ca_2, ca_3, ca_4, ca_5, ca_6, ca_7, ca_8, ca_9, ca_10, ca_11, ca_12, ca_13, ca_14, ca_15, ca_16, ca_17, ca_18, ca_19, ca_20, ca_21, ca_22, ca_23, ca_24, ca_25, ca_26, ca_27, ca_28, ca_29, ca_30, not_true_eq_false, not_false_eq_true, Int.reduceEq, Nat.reduceEqDiff, Nat.reduceLeDiff, rGcd, V.ty.injEq, eq_self, List.not_mem_nil, beq_self_eq_true, HO.lst.injEq, HO.tup.injEq, tFor_eq, iRng1, iList, iTup, nat10, tSeq, rIxA, rSetA, rIsN, rIsT, tTp, tLs, itsO_tup, itsO_lst, tyO_tup, tyO_lst, tyO_dK, tyN_non, tyN_bl, tyN_int, tyN_str, tyN_ref, tyNs_lt, isB, upd_same, upd_upd, sizeLine_eq, List.mem_cons, String.reduceBEq, String.reduceEq, Bool.or_false, Bool.or_true, Bool.and_false, Bool.false_or, Bool.and_self, Bool.false_and, Bool.not_false, Bool.not_true, List.any_cons, List.any_nil, atI_0, setI_0, atI_1, setI_1, atI_2, setI_2, atI_3, setI_3, atI_4, setI_4, atI_5, setI_5, atI_6, setI_6, tAsg, gName, tOp, tUn, tVar, tC, tCons, L2.tNil, tRet, tIfS, tTest, tCB, tCall, rI, rI0, rU, tNext, tB, tAnd, tOr, tNot, tAndV, tOrV, tNotV, tDrop, tIf, tPar, gSub, rIxL, rIxT, rEq, rNe, rSetL, tBits,
    L2.start, List.map_cons, List.map_nil, List.cons_append, List.nil_append, List.append_nil, List.length_cons, List.length_nil, List.replicate, Nat.reduceAdd, Nat.reduceSub, Nat.zero_add, List.getElem?_cons_zero, List.getElem?_cons_succ, List.set_cons_zero, List.set_cons_succ,
    Option.some.injEq, exists_eq_left', exists_eq_left, V.int.injEq, V.bl.injEq, V.ref.injEq, V.str.injEq, List.cons.injEq, reduceCtorEq, and_true, true_and, false_and, and_false, exists_false, or_false, false_or, or_true, true_or, exists_const, CMul, CDiv, CPow, and_assoc, exists_and_left, exists_and_right, Int.reducePow, Int.reduceNeg, Int.reduceLT, Int.reduceLE, Nat.reducePow, Nat.reduceLT, Int.reduceToNat, gt_iff_lt, ge_iff_le, decide_eq_true_eq, Bool.not_eq_true', decide_eq_false_iff_not, scal, ↓reduceIte, Bool.false_eq_true]
      exact k H (Same.refl H)
    | bl b =>
      simp only [cx_K, decide_true, decide_false, reduceCtorEq, gTp, gCons, gNil, ca_0, ca_1, ca_2, ca_3, ca_4, ca_5, ca_6, ca_7, ca_8, ca_9, ca_10, ca_11, ca_12, ca_13, ca_14, ca_15, ca_16, ca_17, ca_18, ca_19, ca_20, ca_21, ca_22, ca_23, ca_24, ca_25, ca_26, ca_27, ca_28, ca_29, ca_30, not_true_eq_false, not_false_eq_true, Int.reduceEq, Nat.reduceEqDiff, Nat.reduceLeDiff, rGcd, V.ty.injEq, eq_self, List.not_mem_nil, beq_self_eq_true, HO.lst.injEq, HO.tup.injEq, tFor_eq, iRng1, iList, iTup, nat10, tSeq, rIxA, rSetA, rIsN, rIsT, tTp, tLs, itsO_tup, itsO_lst, tyO_tup, tyO_lst, tyO_dK, tyN_non, tyN_bl, tyN_int, tyN_str, tyN_ref, tyNs_lt, isB, upd_same, upd_upd, sizeLine_eq, List.mem_cons, String.reduceBEq, String.reduceEq, Bool.or_false, Bool.or_true, Bool.and_false, Bool.false_or, Bool.and_self, Bool.false_and, Bool.not_false, Bool.not_true, List.any_cons, List.any_nil, atI_0, setI_0, atI_1, setI_1, atI_2, setI_2, atI_3, setI_3, atI_4, setI_4, atI_5, setI_5, atI_6, setI_6, tAsg, gName, tOp, tUn, tVar, tC, tCons, L2.tNil, tRet, tIfS, tTest, tCB, tCall, rI, rI0, rU, tNext, tB, tAnd, tOr, tNot, tAndV, tOrV, tNotV, tDrop, tIf, tPar, gSub, rIxL, rIxT, rEq, rNe, rSetL, tBits,
    L2.start, List.map_cons, List.map_nil, List.cons_append, List.nil_append, List.append_nil, List.length_cons, List.length_nil, List.replicate, Nat.reduceAdd, Nat.reduceSub, Nat.zero_add, List.getElem?_cons_zero, List.getElem?_cons_succ, List.set_cons_zero, List.set_cons_succ,
    Option.some.injEq, exists_eq_left', exists_eq_left, V.int.injEq, V.bl.injEq, V.ref.injEq, V.str.injEq, List.cons.injEq, reduceCtorEq, and_true, true_and, false_and, and_false, exists_false, or_false, false_or, or_true, true_or, exists_const, CMul, CDiv, CPow, and_assoc, exists_and_left, exists_and_right, Int.reducePow, Int.reduceNeg, Int.reduceLT, Int.reduceLE, Nat.reducePow, Nat.reduceLT, Int.reduceToNat, gt_iff_lt, ge_iff_le, decide_eq_true_eq, Bool.not_eq_true', decide_eq_false_iff_not, scal, ↓reduceIte, Bool.false_eq_true]
      exact k H (Same.refl H)
    | int i =>
      simp only [cx_K, decide_true, decide_false, reduceCtorEq, gTp, gCons, gNil, ca_0, ca_1, ca_2, ca_3, ca_4, ca_5, ca_6, ca_7, ca_8, ca_9, ca_10, ca_11, ca_12, ca_13, ca_14, ca_15, ca_16, ca_17, ca_18, ca_19, ca_20, ca_21, ca_22, ca_23, ca_24, ca_25, ca_26, ca_27, ca_28, ca_29, ca_30, not_true_eq_false, not_false_eq_true, Int.reduceEq, Nat.reduceEqDiff, Nat.reduceLeDiff, rGcd, V.ty.injEq, eq_self, List.not_mem_nil, beq_self_eq_true, HO.lst.injEq, HO.tup.injEq, tFor_eq, iRng1, iList, iTup, nat10, tSeq, rIxA, rSetA, rIsN, rIsT, tTp, tLs, itsO_tup, itsO_lst, tyO_tup, tyO_lst, tyO_dK, tyN_non, tyN_bl, tyN_int, tyN_str, tyN_ref, tyNs_lt, isB, upd_same, upd_upd, sizeLine_eq, List.mem_cons, String.reduceBEq, String.reduceEq, Bool.or_false, Bool.or_true, Bool.and_false, Bool.false_or, Bool.and_self, Bool.false_and, Bool.not_false, Bool.not_true, List.any_cons, List.any_nil, atI_0, setI_0, atI_1, setI_1, atI_2, setI_2, atI_3, setI_3, atI_4, setI_4, atI_5, setI_5, atI_6, setI_6, tAsg, gName, tOp, tUn, tVar, tC, tCons, L2.tNil, tRet, tIfS, tTest, tCB, tCall, rI, rI0, rU, tNext, tB, tAnd, tOr, tNot, tAndV, tOrV, tNotV, tDrop, tIf, tPar, gSub, rIxL, rIxT, rEq, rNe, rSetL, tBits,
    L2.start, List.map_cons, List.map_nil, List.cons_append, List.nil_append, List.append_nil, List.length_cons, List.length_nil, List.replicate, Nat.reduceAdd, Nat.reduceSub, Nat.zero_add, List.getElem?_cons_zero, List.getElem?_cons_succ, List.set_cons_zero, List.set_cons_succ,
    Option.some.injEq, exists_eq_left', exists_eq_left, V.int.injEq, V.bl.injEq, V.ref.injEq, V.str.injEq, List.cons.injEq, reduceCtorEq, and_true, true_and, false_and, and_false, exists_false, or_false, false_or, or_true, true_or, exists_const, CMul, CDiv, CPow, and_assoc, exists_and_left, exists_and_right, Int.reducePow, Int.reduceNeg, Int.reduceLT, Int.reduceLE, Nat.reducePow, Nat.reduceLT, Int.reduceToNat, gt_iff_lt, ge_iff_le, decide_eq_true_eq, Bool.not_eq_true', decide_eq_false_iff_not, scal, ↓reduceIte, Bool.false_eq_true]
      exact ⟨_, rfl, rfl, true, rfl, k H (Same.refl H)⟩
    | str z =>
      simp only [cx_K, decide_true, decide_false, reduceCtorEq, gTp, gCons, gNil, ca_0, ca_1, ca_2, ca_3, ca_4, ca_5, ca_6, ca_7, ca_8, ca_9, ca_10, ca_11, ca_12, ca_13, ca_14, ca_15, ca_16, ca_17, ca_18, ca_19, ca_20, ca_21, ca_22, ca_23, ca_24, ca_25, ca_26, ca_27, ca_28, ca_29, ca_30, not_true_eq_false, not_false_eq_true, Int.reduceEq, Nat.reduceEqDiff, Nat.reduceLeDiff, rGcd, V.ty.injEq, eq_self, List.not_mem_nil, beq_self_eq_true, HO.lst.injEq, HO.tup.injEq, tFor_eq, iRng1, iList, iTup, nat10, tSeq, rIxA, rSetA, rIsN, rIsT, tTp, tLs, itsO_tup, itsO_lst, tyO_tup, tyO_lst, tyO_dK, tyN_non, tyN_bl, tyN_int, tyN_str, tyN_ref, tyNs_lt, isB, upd_same, upd_upd, sizeLine_eq, List.mem_cons, String.reduceBEq, String.reduceEq, Bool.or_false, Bool.or_true, Bool.and_false, Bool.false_or, Bool.and_self, Bool.false_and, Bool.not_false, Bool.not_true, List.any_cons, List.any_nil, atI_0, setI_0, atI_1, setI_1, atI_2, setI_2, atI_3, setI_3, atI_4, setI_4, atI_5, setI_5, atI_6, setI_6, tAsg, gName, tOp, tUn, tVar, tC, tCons, L2.tNil, tRet, tIfS, tTest, tCB, tCall, rI, rI0, rU, tNext, tB, tAnd, tOr, tNot, tAndV, tOrV, tNotV, tDrop, tIf, tPar, gSub, rIxL, rIxT, rEq, rNe, rSetL, tBits,
    L2.start, List.map_cons, List.map_nil, List.cons_append, List.nil_append, List.append_nil, List.length_cons, List.length_nil, List.replicate, Nat.reduceAdd, Nat.reduceSub, Nat.zero_add, List.getElem?_cons_zero, List.getElem?_cons_succ, List.set_cons_zero, List.set_cons_succ,
    Option.some.injEq, exists_eq_left', exists_eq_left, V.int.injEq, V.bl.injEq, V.ref.injEq, V.str.injEq, List.cons.injEq, reduceCtorEq, and_true, true_and, false_and, and_false, exists_false, or_false, false_or, or_true, true_or, exists_const, CMul, CDiv, CPow, and_assoc, exists_and_left, exists_and_right, Int.reducePow, Int.reduceNeg, Int.reduceLT, Int.reduceLE, Nat.reducePow, Nat.reduceLT, Int.reduceToNat, gt_iff_lt, ge_iff_le, decide_eq_true_eq, Bool.not_eq_true', decide_eq_false_iff_not, scal, ↓reduceIte, Bool.false_eq_true]
      exact k H (Same.refl H)
    | _ => cases hsc
  rcases ho with ⟨oa, oc⟩ | ⟨oa, oc⟩
  · simp only [oa, oc, cx_K, decide_true, decide_false, reduceCtorEq, gTp, gCons, gNil, ca_0, ca_1, ca_2, ca_3, ca_4, ca_5, ca_6, ca_7, ca_8, ca_9, ca_10, ca_11, ca_12, ca_13, ca_14, ca_15, ca_16, ca_17, ca_18, ca_19, ca_20, ca_21, ca_22, ca_23, ca_24, ca_25, ca_26, ca_27, ca_28, ca_29, ca_30, not_true_eq_false, not_false_eq_true, Int.reduceEq, Nat.reduceEqDiff, Nat.reduceLeDiff, rGcd, V.ty.injEq, eq_self, List.not_mem_nil, beq_self_eq_true, HO.lst.injEq, HO.tup.injEq, tFor_eq, iRng1, iList, iTup, nat10, tSeq, rIxA, rSetA, rIsN, rIsT, tTp, tLs, itsO_tup, itsO_lst, tyO_tup, tyO_lst, tyO_dK, tyN_non, tyN_bl, tyN_int, tyN_str, tyN_ref, tyNs_lt, isB, upd_same, upd_upd, sizeLine_eq, List.mem_cons, String.reduceBEq, String.reduceEq, Bool.or_false, Bool.or_true, Bool.and_false, Bool.false_or, Bool.and_self, Bool.false_and, Bool.not_false, Bool.not_true, List.any_cons, List.any_nil, atI_0, setI_0, atI_1, setI_1, atI_2, setI_2, atI_3, setI_3, atI_4, setI_4, atI_5, setI_5, atI_6, setI_6, tAsg, gName, tOp, tUn, tVar, tC, tCons, L2.tNil, tRet, tIfS, tTest, tCB, tCall, rI, rI0, rU, tNext, tB, tAnd, tOr, tNot, tAndV, tOrV, tNotV, tDrop, tIf, tPar, gSub, rIxL, rIxT, rEq, rNe, rSetL, tBits,
    L2.start, List.map_cons, List.map_nil, List.cons_append, List.nil_append, List.append_nil, List.length_cons, List.length_nil, List.replicate, Nat.reduceAdd, Nat.reduceSub, Nat.zero_add, List.getElem?_cons_zero, List.getElem?_cons_succ, List.set_cons_zero, List.set_cons_succ,
    Option.some.injEq, exists_eq_left', exists_eq_left, V.int.injEq, V.bl.injEq, V.ref.injEq, V.str.injEq, List.cons.injEq, reduceCtorEq, and_true, true_and, false_and, and_false, exists_false, or_false, false_or, or_true, true_or, exists_const, CMul, CDiv, CPow, and_assoc, exists_and_left, exists_and_right, Int.reducePow, Int.reduceNeg, Int.reduceLT, Int.reduceLE, Nat.reducePow, Nat.reduceLT, Int.reduceToNat, gt_iff_lt, ge_iff_le, decide_eq_true_eq, Bool.not_eq_true', decide_eq_false_iff_not, scal, ↓reduceIte, Bool.false_eq_true]
    intro p hp kp
    have s1 := Same.new hp (.tup [V.ty "list", V.ty "tuple"])
    generalize upd H p (.tup [V.ty "list", V.ty "tuple"]) = H1 at s1 ⊢
    have oa1 := ob_same s1 oa
    have oc1 := ob_same s1 oc
    simp only [oa1, oc1, cx_K, decide_true, decide_false, reduceCtorEq, gTp, gCons, gNil, ca_0, ca_1, ca_2, ca_3, ca_4, ca_5, ca_6, ca_7, ca_8, ca_9, ca_10, ca_11, ca_12, ca_13, ca_14, ca_15, ca_16, ca_17, ca_18, ca_19, ca_20, ca_21, ca_22, ca_23, ca_24, ca_25, ca_26, ca_27, ca_28, ca_29, ca_30, not_true_eq_false, not_false_eq_true, Int.reduceEq, Nat.reduceEqDiff, Nat.reduceLeDiff, rGcd, V.ty.injEq, eq_self, List.not_mem_nil, beq_self_eq_true, HO.lst.injEq, HO.tup.injEq, tFor_eq, iRng1, iList, iTup, nat10, tSeq, rIxA, rSetA, rIsN, rIsT, tTp, tLs, itsO_tup, itsO_lst, tyO_tup, tyO_lst, tyO_dK, tyN_non, tyN_bl, tyN_int, tyN_str, tyN_ref, tyNs_lt, isB, upd_same, upd_upd, sizeLine_eq, List.mem_cons, String.reduceBEq, String.reduceEq, Bool.or_false, Bool.or_true, Bool.and_false, Bool.false_or, Bool.and_self, Bool.false_and, Bool.not_false, Bool.not_true, List.any_cons, List.any_nil, atI_0, setI_0, atI_1, setI_1, atI_2, setI_2, atI_3, setI_3, atI_4, setI_4, atI_5, setI_5, atI_6, setI_6, tAsg, gName, tOp, tUn, tVar, tC, tCons, L2.tNil, tRet, tIfS, tTest, tCB, tCall, rI, rI0, rU, tNext, tB, tAnd, tOr, tNot, tAndV, tOrV, tNotV, tDrop, tIf, tPar, gSub, rIxL, rIxT, rEq, rNe, rSetL, tBits,
    L2.start, List.map_cons, List.map_nil, List.cons_append, List.nil_append, List.append_nil, List.length_cons, List.length_nil, List.replicate, Nat.reduceAdd, Nat.reduceSub, Nat.zero_add, List.getElem?_cons_zero, List.getElem?_cons_succ, List.set_cons_zero, List.set_cons_succ,
    Option.some.injEq, exists_eq_left', exists_eq_left, V.int.injEq, V.bl.injEq, V.ref.injEq, V.str.injEq, List.cons.injEq, reduceCtorEq, and_true, true_and, false_and, and_false, exists_false, or_false, false_or, or_true, true_or, exists_const, CMul, CDiv, CPow, and_assoc, exists_and_left, exists_and_right, Int.reducePow, Int.reduceNeg, Int.reduceLT, Int.reduceLE, Nat.reducePow, Nat.reduceLT, Int.reduceToNat, gt_iff_lt, ge_iff_le, decide_eq_true_eq, Bool.not_eq_true', decide_eq_false_iff_not, scal, ↓reduceIte, Bool.false_eq_true]
    rw [if_neg (show ¬ ¬ ((xs.length : Int) = (ys.length : Int)) by omega)]
    refine ⟨by omega, by omega, forI_range (SameI H a b) ⟨none, rfl, s1⟩ ?_ ?_⟩
    · rintro i σ H' hlt ⟨z, rfl, s2⟩
      have hx : i < xs.length := by omega
      have hy : i < ys.length := by omega
      have oa2 := ob_same s2 oa
      have oc2 := ob_same s2 oc
      have ex : atI xs (0 + (i : Int)) = some xs[i] := by rw [Int.zero_add]; exact atI_nat (List.getElem?_eq_getElem hx)
      have ey : atI ys (0 + (i : Int)) = some ys[i] := by rw [Int.zero_add]; exact atI_nat (List.getElem?_eq_getElem hy)
      simp only [oa2, oc2, ex, ey, cx_K, decide_true, decide_false, reduceCtorEq, gTp, gCons, gNil, ca_0, ca_1, ca_2, ca_3, ca_4, ca_5, ca_6, ca_7, ca_8, ca_9, ca_10, ca_11, ca_12, ca_13, ca_14, ca_15, ca_16, ca_17, ca_18, ca_19, ca_20, ca_21, ca_22, ca_23, ca_24, ca_25, ca_26, ca_27, ca_28, ca_29, ca_30, not_true_eq_false, not_false_eq_true, Int.reduceEq, Nat.reduceEqDiff, Nat.reduceLeDiff, rGcd, V.ty.injEq, eq_self, List.not_mem_nil, beq_self_eq_true, HO.lst.injEq, HO.tup.injEq, tFor_eq, iRng1, iList, iTup, nat10, tSeq, rIxA, rSetA, rIsN, rIsT, tTp, tLs, itsO_tup, itsO_lst, tyO_tup, tyO_lst, tyO_dK, tyN_non, tyN_bl, tyN_int, tyN_str, tyN_ref, tyNs_lt, isB, upd_same, upd_upd, sizeLine_eq, List.mem_cons, String.reduceBEq, String.reduceEq, Bool.or_false, Bool.or_true, Bool.and_false, Bool.false_or, Bool.and_self, Bool.false_and, Bool.not_false, Bool.not_true, List.any_cons, List.any_nil, atI_0, setI_0, atI_1, setI_1, atI_2, setI_2, atI_3, setI_3, atI_4, setI_4, atI_5, setI_5, atI_6, setI_6, tAsg, gName, tOp, tUn, tVar, tC, tCons, L2.tNil, tRet, tIfS, tTest, tCB, tCall, rI, rI0, rU, tNext, tB, tAnd, tOr, tNot, tAndV, tOrV, tNotV, tDrop, tIf, tPar, gSub, rIxL, rIxT, rEq, rNe, rSetL, tBits,
    L2.start, List.map_cons, List.map_nil, List.cons_append, List.nil_append, List.append_nil, List.length_cons, List.length_nil, List.replicate, Nat.reduceAdd, Nat.reduceSub, Nat.zero_add, List.getElem?_cons_zero, List.getElem?_cons_succ, List.set_cons_zero, List.set_cons_succ,
    Option.some.injEq, exists_eq_left', exists_eq_left, V.int.injEq, V.bl.injEq, V.ref.injEq, V.str.injEq, List.cons.injEq, reduceCtorEq, and_true, true_and, false_and, and_false, exists_false, or_false, false_or, or_true, true_or, exists_const, CMul, CDiv, CPow, and_assoc, exists_and_left, exists_and_right, Int.reducePow, Int.reduceNeg, Int.reduceLT, Int.reduceLE, Nat.reducePow, Nat.reduceLT, Int.reduceToNat, gt_iff_lt, ge_iff_le, decide_eq_true_eq, Bool.not_eq_true', decide_eq_false_iff_not, scal, ↓reduceIte, Bool.false_eq_true]
      refine ⟨_, _, rfl, (hi i _ _ (List.getElem?_eq_getElem hx) (List.getElem?_eq_getElem hy)).same s2, fun H2 s3 => ⟨true, rfl, ?_⟩⟩
      rw [if_neg Bool.noConfusion]
      exact ⟨_, rfl, s2.trans s3⟩
    · rintro σ H' ⟨z, rfl, s2⟩
      simp only [cx_K, decide_true, decide_false, reduceCtorEq, gTp, gCons, gNil, ca_0, ca_1, ca_2, ca_3, ca_4, ca_5, ca_6, ca_7, ca_8, ca_9, ca_10, ca_11, ca_12, ca_13, ca_14, ca_15, ca_16, ca_17, ca_18, ca_19, ca_20, ca_21, ca_22, ca_23, ca_24, ca_25, ca_26, ca_27, ca_28, ca_29, ca_30, not_true_eq_false, not_false_eq_true, Int.reduceEq, Nat.reduceEqDiff, Nat.reduceLeDiff, rGcd, V.ty.injEq, eq_self, List.not_mem_nil, beq_self_eq_true, HO.lst.injEq, HO.tup.injEq, tFor_eq, iRng1, iList, iTup, nat10, tSeq, rIxA, rSetA, rIsN, rIsT, tTp, tLs, itsO_tup, itsO_lst, tyO_tup, tyO_lst, tyO_dK, tyN_non, tyN_bl, tyN_int, tyN_str, tyN_ref, tyNs_lt, isB, upd_same, upd_upd, sizeLine_eq, List.mem_cons, String.reduceBEq, String.reduceEq, Bool.or_false, Bool.or_true, Bool.and_false, Bool.false_or, Bool.and_self, Bool.false_and, Bool.not_false, Bool.not_true, List.any_cons, List.any_nil, atI_0, setI_0, atI_1, setI_1, atI_2, setI_2, atI_3, setI_3, atI_4, setI_4, atI_5, setI_5, atI_6, setI_6, tAsg, gName, tOp, tUn, tVar, tC, tCons, L2.tNil, tRet, tIfS, tTest, tCB, tCall, rI, rI0, rU, tNext, tB, tAnd, tOr, tNot, tAndV, tOrV, tNotV, tDrop, tIf, tPar, gSub, rIxL, rIxT, rEq, rNe, rSetL, tBits,
    L2.start, List.map_cons, List.map_nil, List.cons_append, List.nil_append, List.append_nil, List.length_cons, List.length_nil, List.replicate, Nat.reduceAdd, Nat.reduceSub, Nat.zero_add, List.getElem?_cons_zero, List.getElem?_cons_succ, List.set_cons_zero, List.set_cons_succ,
    Option.some.injEq, exists_eq_left', exists_eq_left, V.int.injEq, V.bl.injEq, V.ref.injEq, V.str.injEq, List.cons.injEq, reduceCtorEq, and_true, true_and, false_and, and_false, exists_false, or_false, false_or, or_true, true_or, exists_const, CMul, CDiv, CPow, and_assoc, exists_and_left, exists_and_right, Int.reducePow, Int.reduceNeg, Int.reduceLT, Int.reduceLE, Nat.reducePow, Nat.reduceLT, Int.reduceToNat, gt_iff_lt, ge_iff_le, decide_eq_true_eq, Bool.not_eq_true', decide_eq_false_iff_not, scal, ↓reduceIte, Bool.false_eq_true]
      exact k H' s2
  · simp only [oa, oc, cx_K, decide_true, decide_false, reduceCtorEq, gTp, gCons, gNil, ca_0, ca_1, ca_2, ca_3, ca_4, ca_5, ca_6, ca_7, ca_8, ca_9, ca_10, ca_11, ca_12, ca_13, ca_14, ca_15, ca_16, ca_17, ca_18, ca_19, ca_20, ca_21, ca_22, ca_23, ca_24, ca_25, ca_26, ca_27, ca_28, ca_29, ca_30, not_true_eq_false, not_false_eq_true, Int.reduceEq, Nat.reduceEqDiff, Nat.reduceLeDiff, rGcd, V.ty.injEq, eq_self, List.not_mem_nil, beq_self_eq_true, HO.lst.injEq, HO.tup.injEq, tFor_eq, iRng1, iList, iTup, nat10, tSeq, rIxA, rSetA, rIsN, rIsT, tTp, tLs, itsO_tup, itsO_lst, tyO_tup, tyO_lst, tyO_dK, tyN_non, tyN_bl, tyN_int, tyN_str, tyN_ref, tyNs_lt, isB, upd_same, upd_upd, sizeLine_eq, List.mem_cons, String.reduceBEq, String.reduceEq, Bool.or_false, Bool.or_true, Bool.and_false, Bool.false_or, Bool.and_self, Bool.false_and, Bool.not_false, Bool.not_true, List.any_cons, List.any_nil, atI_0, setI_0, atI_1, setI_1, atI_2, setI_2, atI_3, setI_3, atI_4, setI_4, atI_5, setI_5, atI_6, setI_6, tAsg, gName, tOp, tUn, tVar, tC, tCons, L2.tNil, tRet, tIfS, tTest, tCB, tCall, rI, rI0, rU, tNext, tB, tAnd, tOr, tNot, tAndV, tOrV, tNotV, tDrop, tIf, tPar, gSub, rIxL, rIxT, rEq, rNe, rSetL, tBits,
    L2.start, List.map_cons, List.map_nil, List.cons_append, List.nil_append, List.append_nil, List.length_cons, List.length_nil, List.replicate, Nat.reduceAdd, Nat.reduceSub, Nat.zero_add, List.getElem?_cons_zero, List.getElem?_cons_succ, List.set_cons_zero, List.set_cons_succ,
    Option.some.injEq, exists_eq_left', exists_eq_left, V.int.injEq, V.bl.injEq, V.ref.injEq, V.str.injEq, List.cons.injEq, reduceCtorEq, and_true, true_and, false_and, and_false, exists_false, or_false, false_or, or_true, true_or, exists_const, CMul, CDiv, CPow, and_assoc, exists_and_left, exists_and_right, Int.reducePow, Int.reduceNeg, Int.reduceLT, Int.reduceLE, Nat.reducePow, Nat.reduceLT, Int.reduceToNat, gt_iff_lt, ge_iff_le, decide_eq_true_eq, Bool.not_eq_true', decide_eq_false_iff_not, scal, ↓reduceIte, Bool.false_eq_true]
    intro p hp kp
    have s1 := Same.new hp (.tup [V.ty "list", V.ty "tuple"])
    generalize upd H p (.tup [V.ty "list", V.ty "tuple"]) = H1 at s1 ⊢
    have oa1 := ob_same s1 oa
    have oc1 := ob_same s1 oc
    simp only [oa1, oc1, cx_K, decide_true, decide_false, reduceCtorEq, gTp, gCons, gNil, ca_0, ca_1, ca_2, ca_3, ca_4, ca_5, ca_6, ca_7, ca_8, ca_9, ca_10, ca_11, ca_12, ca_13, ca_14, ca_15, ca_16, ca_17, ca_18, ca_19, ca_20, ca_21, ca_22, ca_23, ca_24, ca_25, ca_26, ca_27, ca_28, ca_29, ca_30, not_true_eq_false, not_false_eq_true, Int.reduceEq, Nat.reduceEqDiff, Nat.reduceLeDiff, rGcd, V.ty.injEq, eq_self, List.not_mem_nil, beq_self_eq_true, HO.lst.injEq, HO.tup.injEq, tFor_eq, iRng1, iList, iTup, nat10, tSeq, rIxA, rSetA, rIsN, rIsT, tTp, tLs, itsO_tup, itsO_lst, tyO_tup, tyO_lst, tyO_dK, tyN_non, tyN_bl, tyN_int, tyN_str, tyN_ref, tyNs_lt, isB, upd_same, upd_upd, sizeLine_eq, List.mem_cons, String.reduceBEq, String.reduceEq, Bool.or_false, Bool.or_true, Bool.and_false, Bool.false_or, Bool.and_self, Bool.false_and, Bool.not_false, Bool.not_true, List.any_cons, List.any_nil, atI_0, setI_0, atI_1, setI_1, atI_2, setI_2, atI_3, setI_3, atI_4, setI_4, atI_5, setI_5, atI_6, setI_6, tAsg, gName, tOp, tUn, tVar, tC, tCons, L2.tNil, tRet, tIfS, tTest, tCB, tCall, rI, rI0, rU, tNext, tB, tAnd, tOr, tNot, tAndV, tOrV, tNotV, tDrop, tIf, tPar, gSub, rIxL, rIxT, rEq, rNe, rSetL, tBits,
    L2.start, List.map_cons, List.map_nil, List.cons_append, List.nil_append, List.append_nil, List.length_cons, List.length_nil, List.replicate, Nat.reduceAdd, Nat.reduceSub, Nat.zero_add, List.getElem?_cons_zero, List.getElem?_cons_succ, List.set_cons_zero, List.set_cons_succ,
    Option.some.injEq, exists_eq_left', exists_eq_left, V.int.injEq, V.bl.injEq, V.ref.injEq, V.str.injEq, List.cons.injEq, reduceCtorEq, and_true, true_and, false_and, and_false, exists_false, or_false, false_or, or_true, true_or, exists_const, CMul, CDiv, CPow, and_assoc, exists_and_left, exists_and_right, Int.reducePow, Int.reduceNeg, Int.reduceLT, Int.reduceLE, Nat.reducePow, Nat.reduceLT, Int.reduceToNat, gt_iff_lt, ge_iff_le, decide_eq_true_eq, Bool.not_eq_true', decide_eq_false_iff_not, scal, ↓reduceIte, Bool.false_eq_true]
    rw [if_neg (show ¬ ¬ ((xs.length : Int) = (ys.length : Int)) by omega)]
    refine ⟨by omega, by omega, forI_range (SameI H a b) ⟨none, rfl, s1⟩ ?_ ?_⟩
    · rintro i σ H' hlt ⟨z, rfl, s2⟩
      have hx : i < xs.length := by omega
      have hy : i < ys.length := by omega
      have oa2 := ob_same s2 oa
      have oc2 := ob_same s2 oc
      have ex : atI xs (0 + (i : Int)) = some xs[i] := by rw [Int.zero_add]; exact atI_nat (List.getElem?_eq_getElem hx)
      have ey : atI ys (0 + (i : Int)) = some ys[i] := by rw [Int.zero_add]; exact atI_nat (List.getElem?_eq_getElem hy)
      simp only [oa2, oc2, ex, ey, cx_K, decide_true, decide_false, reduceCtorEq, gTp, gCons, gNil, ca_0, ca_1, ca_2, ca_3, ca_4, ca_5, ca_6, ca_7, ca_8, ca_9, ca_10, ca_11, ca_12, ca_13, ca_14, ca_15, ca_16, ca_17, ca_18, ca_19, ca_20, ca_21, ca_22, ca_23, ca_24, ca_25, ca_26, ca_27, ca_28, ca_29, ca_30, not_true_eq_false, not_false_eq_true, Int.reduceEq, Nat.reduceEqDiff, Nat.reduceLeDiff, rGcd, V.ty.injEq, eq_self, List.not_mem_nil, beq_self_eq_true, HO.lst.injEq, HO.tup.injEq, tFor_eq, iRng1, iList, iTup, nat10, tSeq, rIxA, rSetA, rIsN, rIsT, tTp, tLs, itsO_tup, itsO_lst, tyO_tup, tyO_lst, tyO_dK, tyN_non, tyN_bl, tyN_int, tyN_str, tyN_ref, tyNs_lt, isB, upd_same, upd_upd, sizeLine_eq, List.mem_cons, String.reduceBEq, String.reduceEq, Bool.or_false, Bool.or_true, Bool.and_false, Bool.false_or, Bool.and_self, Bool.false_and, Bool.not_false, Bool.not_true, List.any_cons, List.any_nil, atI_0, setI_0, atI_1, setI_1, atI_2, setI_2, atI_3, setI_3, atI_4, setI_4, atI_5, setI_5, atI_6, setI_6, tAsg, gName, tOp, tUn, tVar, tC, tCons, L2.tNil, tRet, tIfS, tTest, tCB, tCall, rI, rI0, rU, tNext, tB, tAnd, tOr, tNot, tAndV, tOrV, tNotV, tDrop, tIf, tPar, gSub, rIxL, rIxT, rEq, rNe, rSetL, tBits,
    L2.start, List.map_cons, List.map_nil, List.cons_append, List.nil_append, List.append_nil, List.length_cons, List.length_nil, List.replicate, Nat.reduceAdd, Nat.reduceSub, Nat.zero_add, List.getElem?_cons_zero, List.getElem?_cons_succ, List.set_cons_zero, List.set_cons_succ,
    Option.some.injEq, exists_eq_left', exists_eq_left, V.int.injEq, V.bl.injEq, V.ref.injEq, V.str.injEq, List.cons.injEq, reduceCtorEq, and_true, true_and, false_and, and_false, exists_false, or_false, false_or, or_true, true_or, exists_const, CMul, CDiv, CPow, and_assoc, exists_and_left, exists_and_right, Int.reducePow, Int.reduceNeg, Int.reduceLT, Int.reduceLE, Nat.reducePow, Nat.reduceLT, Int.reduceToNat, gt_iff_lt, ge_iff_le, decide_eq_true_eq, Bool.not_eq_true', decide_eq_false_iff_not, scal, ↓reduceIte, Bool.false_eq_true]
      refine ⟨_, _, rfl, (hi i _ _ (List.getElem?_eq_getElem hx) (List.getElem?_eq_getElem hy)).same s2, fun H2 s3 => ⟨true, rfl, ?_⟩⟩
      rw [if_neg Bool.noConfusion]
      exact ⟨_, rfl, s2.trans s3⟩
    · rintro σ H' ⟨z, rfl, s2⟩
      simp only [cx_K, decide_true, decide_false, reduceCtorEq, gTp, gCons, gNil, ca_0, ca_1, ca_2, ca_3, ca_4, ca_5, ca_6, ca_7, ca_8, ca_9, ca_10, ca_11, ca_12, ca_13, ca_14, ca_15, ca_16, ca_17, ca_18, ca_19, ca_20, ca_21, ca_22, ca_23, ca_24, ca_25, ca_26, ca_27, ca_28, ca_29, ca_30, not_true_eq_false, not_false_eq_true, Int.reduceEq, Nat.reduceEqDiff, Nat.reduceLeDiff, rGcd, V.ty.injEq, eq_self, List.not_mem_nil, beq_self_eq_true, HO.lst.injEq, HO.tup.injEq, tFor_eq, iRng1, iList, iTup, nat10, tSeq, rIxA, rSetA, rIsN, rIsT, tTp, tLs, itsO_tup, itsO_lst, tyO_tup, tyO_lst, tyO_dK, tyN_non, tyN_bl, tyN_int, tyN_str, tyN_ref, tyNs_lt, isB, upd_same, upd_upd, sizeLine_eq, List.mem_cons, String.reduceBEq, String.reduceEq, Bool.or_false, Bool.or_true, Bool.and_false, Bool.false_or, Bool.and_self, Bool.false_and, Bool.not_false, Bool.not_true, List.any_cons, List.any_nil, atI_0, setI_0, atI_1, setI_1, atI_2, setI_2, atI_3, setI_3, atI_4, setI_4, atI_5, setI_5, atI_6, setI_6, tAsg, gName, tOp, tUn, tVar, tC, tCons, L2.tNil, tRet, tIfS, tTest, tCB, tCall, rI, rI0, rU, tNext, tB, tAnd, tOr, tNot, tAndV, tOrV, tNotV, tDrop, tIf, tPar, gSub, rIxL, rIxT, rEq, rNe, rSetL, tBits,
    L2.start, List.map_cons, List.map_nil, List.cons_append, List.nil_append, List.append_nil, List.length_cons, List.length_nil, List.replicate, Nat.reduceAdd, Nat.reduceSub, Nat.zero_add, List.getElem?_cons_zero, List.getElem?_cons_succ, List.set_cons_zero, List.set_cons_succ,
    Option.some.injEq, exists_eq_left', exists_eq_left, V.int.injEq, V.bl.injEq, V.ref.injEq, V.str.injEq, List.cons.injEq, reduceCtorEq, and_true, true_and, false_and, and_false, exists_false, or_false, false_or, or_true, true_or, exists_const, CMul, CDiv, CPow, and_assoc, exists_and_left, exists_and_right, Int.reducePow, Int.reduceNeg, Int.reduceLT, Int.reduceLE, Nat.reducePow, Nat.reduceLT, Int.reduceToNat, gt_iff_lt, ge_iff_le, decide_eq_true_eq, Bool.not_eq_true', decide_eq_false_iff_not, scal, ↓reduceIte, Bool.false_eq_true]
      exact k H' s2
  · have kl : ks.length = ls.length := by rw [← List.length_map (f := (·.1)), ek, List.length_map]
    simp only [oa, oc, cx_K, decide_true, decide_false, reduceCtorEq, gTp, gCons, gNil, ca_0, ca_1, ca_2, ca_3, ca_4, ca_5, ca_6, ca_7, ca_8, ca_9, ca_10, ca_11, ca_12, ca_13, ca_14, ca_15, ca_16, ca_17, ca_18, ca_19, ca_20, ca_21, ca_22, ca_23, ca_24, ca_25, ca_26, ca_27, ca_28, ca_29, ca_30, not_true_eq_false, not_false_eq_true, Int.reduceEq, Nat.reduceEqDiff, Nat.reduceLeDiff, rGcd, V.ty.injEq, eq_self, List.not_mem_nil, beq_self_eq_true, HO.lst.injEq, HO.tup.injEq, tFor_eq, iRng1, iList, iTup, nat10, tSeq, rIxA, rSetA, rIsN, rIsT, tTp, tLs, itsO_tup, itsO_lst, tyO_tup, tyO_lst, tyO_dK, tyN_non, tyN_bl, tyN_int, tyN_str, tyN_ref, tyNs_lt, isB, upd_same, upd_upd, sizeLine_eq, List.mem_cons, String.reduceBEq, String.reduceEq, Bool.or_false, Bool.or_true, Bool.and_false, Bool.false_or, Bool.and_self, Bool.false_and, Bool.not_false, Bool.not_true, List.any_cons, List.any_nil, atI_0, setI_0, atI_1, setI_1, atI_2, setI_2, atI_3, setI_3, atI_4, setI_4, atI_5, setI_5, atI_6, setI_6, tAsg, gName, tOp, tUn, tVar, tC, tCons, L2.tNil, tRet, tIfS, tTest, tCB, tCall, rI, rI0, rU, tNext, tB, tAnd, tOr, tNot, tAndV, tOrV, tNotV, tDrop, tIf, tPar, gSub, rIxL, rIxT, rEq, rNe, rSetL, tBits,
    L2.start, List.map_cons, List.map_nil, List.cons_append, List.nil_append, List.append_nil, List.length_cons, List.length_nil, List.replicate, Nat.reduceAdd, Nat.reduceSub, Nat.zero_add, List.getElem?_cons_zero, List.getElem?_cons_succ, List.set_cons_zero, List.set_cons_succ,
    Option.some.injEq, exists_eq_left', exists_eq_left, V.int.injEq, V.bl.injEq, V.ref.injEq, V.str.injEq, List.cons.injEq, reduceCtorEq, and_true, true_and, false_and, and_false, exists_false, or_false, false_or, or_true, true_or, exists_const, CMul, CDiv, CPow, and_assoc, exists_and_left, exists_and_right, Int.reducePow, Int.reduceNeg, Int.reduceLT, Int.reduceLE, Nat.reducePow, Nat.reduceLT, Int.reduceToNat, gt_iff_lt, ge_iff_le, decide_eq_true_eq, Bool.not_eq_true', decide_eq_false_iff_not, scal, ↓reduceIte, Bool.false_eq_true]
    refine ⟨_, rfl, a, ks, rfl, (ob_H oa fun _ z => by cases z).1, fun l1 hl1 fr1 => ?_⟩
    have s1 := Same.new hl1 (.lst (ks.map fun kv => kV kv.1))
    have o1 := ob_new (H := H) (o := .lst (ks.map fun kv => kV kv.1)) (fr1 l1 (by rw [upd_same]; simp))
    have hb1 := s1 _ _ (ob_H oc fun _ z => by cases z).1
    have oa1 := ob_same s1 oa
    have oc1 := ob_same s1 oc
    generalize upd H l1 (.lst (ks.map fun kv => kV kv.1)) = H1 at s1 o1 hb1 oa1 oc1 ⊢
    refine ⟨_, rfl, b, ls, rfl, hb1, fun l2 hl2 fr2 => ?_⟩
    have s2 : Same H1 (upd H1 l2 (.lst (ls.map fun kv => kV kv.1))) := Same.new hl2 _
    have o2 := ob_new (H := H1) (o := .lst (ls.map fun kv => kV kv.1)) (fr2 l2 (by rw [upd_same]; simp))
    have e1 : Eqv K (upd H1 l2 (.lst (ls.map fun kv => kV kv.1))) (m + 1) (.ref l1) (.ref l2) := Or.inr (Or.inl ⟨l1, l2, _, _, rfl, rfl, .inr ⟨ob_same s2 o1, o2⟩, by simp only [List.length_map, kl], by rw [List.length_map]; exact hl, fun i x y hx hy => ?_⟩)
    · refine ⟨_, _, rfl, e1, fun H3 s3 => ⟨true, rfl, ?_⟩⟩
      rw [if_neg Bool.noConfusion]
      have s13 := s2.trans s3
      have oa3 := ob_same s13 oa1
      have oc3 := ob_same s13 oc1
      refine ⟨_, rfl, a, ks, rfl, (ob_H oa3 fun _ z => by cases z).1, fun l3 hl3 kl3 => ?_⟩
      have s4 := Same.new hl3 (.lst (ks.map (·.2)))
      have o3 := ob_new (H := H3) (o := .lst (ks.map (·.2))) kl3
      have oc4 := ob_same s4 oc3
      generalize upd H3 l3 (.lst (ks.map (·.2))) = H4 at s4 o3 oc4 ⊢
      refine ⟨_, rfl, b, ls, rfl, (ob_H oc4 fun _ z => by cases z).1, fun l4 hl4 kl4 => ?_⟩
      have s5 := Same.new hl4 (.lst (ls.map (·.2)))
      have o4 := ob_new (H := H4) (o := .lst (ls.map (·.2))) kl4
      have s15 := s1.trans (s13.trans (s4.trans s5))
      have e2 : Eqv K (upd H4 l4 (.lst (ls.map (·.2)))) (m + 1) (.ref l3) (.ref l4) := Or.inr (Or.inl ⟨l3, l4, _, _, rfl, rfl, .inr ⟨ob_same s5 o3, o4⟩, by simp only [List.length_map, kl], by rw [List.length_map]; exact hl, fun i x y hx hy => ?_⟩)
      · exact ⟨_, _, rfl, e2, fun H5 s6 => k H5 (s15.trans s6)⟩
      · rw [List.getElem?_map] at hx hy
        obtain ⟨p, hp, rfl⟩ := Option.map_eq_some_iff.mp hx
        obtain ⟨r, hr, rfl⟩ := Option.map_eq_some_iff.mp hy
        exact (hi i p r hp hr).same s15
    · have ek2 : (ks.map fun kv => kV kv.1) = ls.map fun kv => kV kv.1 := by
        have := congrArg (List.map kV) ek
        rw [List.map_map, List.map_map] at this
        exact this
      rw [ek2, hy] at hx
      cases hx
      rw [List.getElem?_map] at hy
      obtain ⟨r, _, rfl⟩ := Option.map_eq_some_iff.mp hy
      cases m with
      | zero => exact ⟨rfl, scv_kV _⟩
      | succ m => exact Or.inl ⟨rfl, scv_kV _⟩
theorem k_same (T : Bt K mg) (D : Dfn K mg "_law_same" sSame ["_law_told_here", "_law_due"]) (d : Kn P w K mg base 1 "_law_is_whole" ["_law_told_here"] (spWhole K)) : ∀ n : Nat, Kn P w K mg base (n + 1) "_law_same" ["_law_told_here", "_law_due"] (spSame K n)
  | 0 => by
    obtain ⟨f, fd, m, kp, b, G⟩ := (Kn.none (P := P) (w := w) (base := base) D).ex
    exact ⟨f, fd, m, kp, b, (G.mono (Nat.zero_le _)).imp fun vs H Q E h => h.elim⟩
  | n + 1 => k_Same n T D d (k_same T D d n)
end
end My

namespace My
open PySem PySem.Spec PyProof.Rows L2
section
variable {P : Program} {w : World} {K : PySem.W.Frag} {mg : Str → Option Value} {base : Heap}
/-! ### what is no fraction -/
def fr2 : List V → Bool
  | [.int n, .int d] => decide (1 ≤ d) && decide (Int.gcd n d = 1)
  | _ => false
theorem frOk_tup {H : Hp} {a : Addr} {xs : List V} (o : ob K H a = some (.tup xs)) : frOk K H (.ref a) = fr2 xs := by
  simp only [frOk, o]
  unfold fr2
  split <;> simp_all
theorem tyN_same {H H' : Hp} {v : V} {t : String} (e : Same H H') (h : tyN K H v = some t) : tyN K H' v = some t := by
  cases v with
  | ref a =>
    have h1 : tyO (ob K H a) = some t := h
    show tyO (ob K H' a) = some t
    cases hz : ob K H a with
    | none => rw [hz] at h1; cases h1
    | some z => rw [ob_same e hz, ← hz]; exact h1
  | _ => exact h
theorem tyS_same {H H' : Hp} {v : V} (e : Same H H') (h : (tyN K H v).isSome) : (tyN K H' v).isSome := by
  obtain ⟨t, ht⟩ := Option.isSome_iff_exists.mp h
  rw [tyN_same e ht]
  rfl
theorem ob_back {H H' : Hp} {a : Addr} {z : HO} (e : Same H H') (h : (tyN K H (.ref a)).isSome) (o : ob K H' a = some z) : ob K H a = some z := by
  cases hz : ob K H a with
  | none =>
    rw [tyN_ref, hz] at h
    cases h
  | some y =>
    rw [← o, ob_same e hz]
structure Gd (K : PySem.W.Frag) (H : Hp) (v : V) : Prop where
  ty : Tyd K H v
  no : frOk K H v = false
theorem Gd.same {H H' : Hp} {v : V} (e : Same H H') (h : Gd K H v) : Gd K H' v := by
  refine ⟨⟨tyS_same e h.ty.1, fun a xs ev o x hx => ?_⟩, ?_⟩
  · subst ev
    exact tyS_same e (h.ty.2 a xs rfl (ob_back e h.ty.1 o) x hx)
  · cases v with
    | ref a =>
      cases hz : ob K H a with
      | none =>
        have := h.ty.1
        rw [tyN_ref, hz] at this
        cases this
      | some z =>
        have e2 : frOk K H' (.ref a) = frOk K H (.ref a) := by simp only [frOk, hz, ob_same e hz]
        rw [e2]
        exact h.no
    | _ => rfl
theorem gd_sc {H : Hp} {v : V} (h : scv v = true) : Gd K H v := by
  refine ⟨⟨?_, fun a xs e => ?_⟩, ?_⟩
  · cases v <;> first | rfl | cases h
  · subst e; cases h
  · cases v <;> first | rfl | cases h
theorem gd_tup {H : Hp} {a : Addr} {xs : List V} (o : ob K H a = some (.tup xs)) (hx : ∀ x ∈ xs, (tyN K H x).isSome) (f : fr2 xs = false) : Gd K H (.ref a) := by
  refine ⟨⟨by rw [tyN_ref, o]; rfl, fun b ys e o' => ?_⟩, by rw [frOk_tup o]; exact f⟩
  cases e
  rw [o] at o'
  cases o'
  exact hx
theorem gd_lst {H : Hp} {a : Addr} {xs : List V} (o : ob K H a = some (.lst xs)) : Gd K H (.ref a) := by
  refine ⟨⟨by rw [tyN_ref, o]; rfl, fun b ys e o' => ?_⟩, by simp only [frOk, o]⟩
  cases e
  rw [o] at o'
  cases o'
theorem gd_dict {H : Hp} {a : Addr} {xs : List (Key × V)} (o : ob K H a = some (.dK xs)) : Gd K H (.ref a) := by
  refine ⟨⟨by rw [tyN_ref, o]; rfl, fun b ys e o' => ?_⟩, by simp only [frOk, o]⟩
  cases e
  rw [o] at o'
  cases o'
/-! ### displays that only make -/
def Mk (R : Hp → V → Prop) (te : TE) : Prop := ∀ σ H Q, (∀ v H', Same H H' → R H' v → Q v H') → te σ H Q
def MkL (R : Hp → V → Prop) (n : Nat) (ta : TA) : Prop := ∀ σ H Q, (∀ vs H', Same H H' → vs.length = n → (∀ v ∈ vs, R H' v) → Q vs H') → ta σ H Q
theorem mkL_nil {R : Hp → V → Prop} : MkL R 0 L2.tNil := fun σ H Q k => k [] H (Same.refl H) rfl fun _ z => absurd z (by simp)
theorem mkL_cons {R : Hp → V → Prop} {n : Nat} {te : TE} {ta : TA} (mono : ∀ (H H' : Hp) (v : V), Same H H' → R H v → R H' v) (h1 : Mk R te) (h2 : MkL R n ta) : MkL R (n + 1) (tCons te ta) := fun σ H Q k =>
  h1 σ H _ fun v H1 s1 r1 => h2 σ H1 _ fun vs H2 s2 hn hr => k (v :: vs) H2 (s1.trans s2) (by rw [List.length_cons, hn]) fun x hx => by
    rcases List.mem_cons.mp hx with e | e
    · subst e; exact mono _ _ _ s2 r1
    · exact hr x e
theorem mk_c {v : V} (h : scv v = true) : Mk (Gd K) (tC v) := fun σ H Q k => k v H (Same.refl H) (gd_sc h)
theorem mk_tc {ta : TA} (xs : List V) (e : ∀ σ H Q, Q xs H → ta σ H Q) (hs : xs.all scv = true) (hf : fr2 xs = false) (hl : xs.length ≤ 100 := by decide) : Mk (Gd K) (tTp K ta) := fun σ H Q k => by
  refine e σ H _ ⟨by rw [sizeLine_eq]; omega, fun p hp kp => k _ _ (Same.new hp _) (gd_tup (ob_new kp) (fun x hx => ?_) hf)⟩
  exact (gd_sc (K := K) (H := upd H p (.tup xs)) (List.all_eq_true.mp hs x hx)).ty.1
theorem mk_ls {ta : TA} {n : Nat} {R : Hp → V → Prop} (h : MkL R n ta) (hl : n ≤ 100 := by decide) : Mk (Gd K) (tLs K ta) := fun σ H Q k =>
  h σ H _ fun vs H1 s1 hn _ => ⟨by rw [sizeLine_eq]; omega, fun p hp kp => k _ _ (s1.trans (Same.new hp _)) (gd_lst (ob_new kp))⟩
theorem mk_dn : Mk (Gd K) (tDn K) := fun σ H Q k p hp kp => k _ _ (Same.new hp _) (gd_dict (ob_new kp))
theorem mk_any {R : Hp → V → Prop} {te : TE} (h : Mk R te) : Mk (fun _ _ => True) te := fun σ H Q k => h σ H Q fun v H' s _ => k v H' s True.intro
theorem mk_tup {ta : TA} {n : Nat} {R : Hp → V → Prop} (h : MkL R n ta) (hl : n ≤ 100 := by decide) : Mk (fun _ _ => True) (tTp K ta) := fun σ H Q k =>
  h σ H _ fun vs H1 s1 hn _ => ⟨by rw [sizeLine_eq]; omega, fun p hp kp => k _ _ (s1.trans (Same.new hp _)) True.intro⟩
/-! the same where names are read -/
def MkA (σ : L2.St) (H0 : Hp) (R : Hp → V → Prop) (te : TE) : Prop := ∀ H, Same H0 H → ∀ Q, (∀ v H', Same H H' → R H' v → Q v H') → te σ H Q
def MkAL (σ : L2.St) (H0 : Hp) (R : Hp → V → Prop) (n : Nat) (ta : TA) : Prop := ∀ H, Same H0 H → ∀ Q, (∀ vs H', Same H H' → vs.length = n → (∀ v ∈ vs, R H' v) → Q vs H') → ta σ H Q
theorem mkA_nil {σ : L2.St} {H0 : Hp} {R : Hp → V → Prop} : MkAL σ H0 R 0 L2.tNil := fun H _ Q k => k [] H (Same.refl H) rfl fun _ z => absurd z (by simp)
theorem mkA_cons {σ : L2.St} {H0 : Hp} {R : Hp → V → Prop} {n : Nat} {te : TE} {ta : TA} (mono : ∀ (H H' : Hp) (v : V), Same H H' → R H v → R H' v) (h1 : MkA σ H0 R te) (h2 : MkAL σ H0 R n ta) : MkAL σ H0 R (n + 1) (tCons te ta) := fun H s Q k =>
  h1 H s _ fun v H1 s1 r1 => h2 H1 (s.trans s1) _ fun vs H2 s2 hn hr => k (v :: vs) H2 (s1.trans s2) (by rw [List.length_cons, hn]) fun x hx => by
    rcases List.mem_cons.mp hx with e | e
    · subst e; exact mono _ _ _ s2 r1
    · exact hr x e
theorem mkA_tc {σ : L2.St} {H0 : Hp} {ta : TA} (xs : List V) (e : ∀ H, Same H0 H → ∀ Q, Q xs H → ta σ H Q) (hs : ∀ x ∈ xs, (tyN K H0 x).isSome) (hf : fr2 xs = false) (hl : xs.length ≤ 100) : MkA σ H0 (Gd K) (tTp K ta) := fun H s Q k => by
  refine e H s _ ⟨by rw [sizeLine_eq]; omega, fun p hp kp => k _ _ (Same.new hp _) (gd_tup (ob_new kp) (fun x hx => ?_) hf)⟩
  exact tyS_same (s.trans (Same.new hp _)) (hs x hx)
theorem mkA_lc {σ : L2.St} {H0 : Hp} {ta : TA} (xs : List V) (e : ∀ H, Same H0 H → ∀ Q, Q xs H → ta σ H Q) (hl : xs.length ≤ 100) : MkA σ H0 (Gd K) (tLs K ta) := fun H s Q k => by
  exact e H s _ ⟨by rw [sizeLine_eq]; omega, fun p hp kp => k _ _ (Same.new hp _) (gd_lst (ob_new kp))⟩
theorem lsA {ta : TA} {n : Nat} {R : Hp → V → Prop} {σ : L2.St} {H : Hp} {Q : VK} (mono : ∀ (H H' : Hp) (v : V), Same H H' → R H v → R H' v) (h : MkAL σ H R n ta) (hl : n ≤ 100)
    (k : ∀ vs p H', Same H H' → H p = none → K.lookup p = none → vs.length = n → (∀ v ∈ vs, R H' v) → H' p = some (.lst vs) → Q (.ref p) H') : tLs K ta σ H Q :=
  h H (Same.refl H) _ fun vs H1 s1 hn hr => ⟨by rw [sizeLine_eq]; omega, fun p hp kp => k vs p _ (s1.trans (Same.new hp _)) (s1.free hp) kp hn (fun v hv => mono _ _ _ (Same.new hp _) (hr v hv)) upd_same⟩
/-! what is no fraction stays so while the draws go on -/
theorem ob_kp2 {H H' : Hp} {s a : Addr} {z : HO} (e : Kp s H H') (n : a ≠ s) (h : ob K H a = some z) : ob K H' a = some z := by
  unfold ob at h ⊢
  split
  · rename_i o q
    rw [q] at h
    exact h
  · rename_i q
    rw [q] at h
    exact e _ _ n h
theorem Sto.ob {H : Hp} {s : Addr} (h : Sto K H s) : ∃ ys, My.ob K H s = some (.lst ys) := by
  obtain ⟨sc, ns, i, b, c, d, e, f, h⟩ := h
  exact ⟨_, (ob_none h.2.2.2.2.1).trans h.1⟩
theorem tyS_kp {H H' : Hp} {s : Addr} {v : V} (e : Kp s H H') (t : Sto K H' s) (h : (tyN K H v).isSome) : (tyN K H' v).isSome := by
  cases v with
  | ref a =>
    by_cases ha : a = s
    · subst ha
      obtain ⟨ys, hy⟩ := t.ob
      rw [tyN_ref, hy]
      rfl
    · cases hz : ob K H a with
      | none => rw [tyN_ref, hz] at h; cases h
      | some z =>
        rw [tyN_ref, ob_kp2 e ha hz, ← hz]
        exact h
  | _ => exact h
theorem Gd.kp {H H' : Hp} {s : Addr} {v : V} (e : Kp s H H') (t : Sto K H' s) (h : Gd K H v) : Gd K H' v := by
  cases v with
  | ref a =>
    by_cases ha : a = s
    · subst ha
      obtain ⟨ys, hy⟩ := t.ob
      exact gd_lst hy
    · cases hz : ob K H a with
      | none =>
        have := h.ty.1
        rw [tyN_ref, hz] at this
        cases this
      | some z =>
        have hz' := ob_kp2 e ha hz
        refine ⟨⟨tyS_kp e t h.ty.1, fun b xs ev o x hx => ?_⟩, ?_⟩
        · cases ev
          rw [hz'] at o
          exact tyS_kp e t (h.ty.2 a xs rfl (hz.trans o) x hx)
        · have e2 : frOk K H' (.ref a) = frOk K H (.ref a) := by simp only [frOk, hz, hz']
          rw [e2]
          exact h.no
  | _ => exact ⟨⟨h.ty.1, fun _ _ e => by cases e⟩, h.no⟩
/-- a list display of such things -/
theorem lsX {ta : TA} {n : Nat} {R : Hp → V → Prop} {σ : L2.St} {H : Hp} {Q : VK} (mono : ∀ (H H' : Hp) (v : V), Same H H' → R H v → R H' v) (h : MkL R n ta) (hl : n ≤ 100)
    (k : ∀ vs p H', Same H H' → H p = none → K.lookup p = none → vs.length = n → (∀ v ∈ vs, R H' v) → H' p = some (.lst vs) → Q (.ref p) H') : tLs K ta σ H Q :=
  h σ H _ fun vs H1 s1 hn hr => ⟨by rw [sizeLine_eq]; omega, fun p hp kp => k vs p _ (s1.trans (Same.new hp _)) (s1.free hp) kp hn (fun v hv => mono _ _ _ (Same.new hp _) (hr v hv)) upd_same⟩
theorem fr2_mul {q : Qt} {k : Int} (hk : 2 ≤ k) : fr2 [.int (q.1 * k), .int (q.2 * k)] = false := by
  show (decide (1 ≤ q.2 * k) && decide (Int.gcd (q.1 * k) (q.2 * k) = 1)) = false
  rw [Int.gcd_mul_right]
  have : Int.gcd q.1 q.2 * k.natAbs ≠ 1 := fun e => by
    have := Nat.eq_one_of_mul_eq_one_left e
    omega
  rw [decide_eq_false this, Bool.and_false]
theorem fr2_neg {n d : Int} (h : d < 1) : fr2 [.int n, .int d] = false := by
  show (decide (1 ≤ d) && decide (Int.gcd n d = 1)) = false
  rw [decide_eq_false (by omega), Bool.false_and]
def spBadFrac (K : PySem.W.Frag) : Sp := fun vs H Q _ => ∃ s : Addr, vs = [.ref s] ∧ Sto K H s ∧ ∀ v H', Gd K H' v → Kp s H H' → Sto K H' s → Q v H'
abbrev sBadFrac : Stmt := topS 66
theorem scBadFrac : FnScope ["_law_store_here", "_law_value_here", "_law_more", "_law_bent", "_law_bad"] ["_law_store_here"] (defScope sBadFrac) := ⟨rfl, rfl, rfl, by decide +kernel, rfl, by decide +kernel, by decide +kernel⟩
theorem k_BadFrac (T : Bt K mg) (D : Dfn K mg "_law_bad_frac" sBadFrac ["_law_store_here"]) (d__law_take : Kn P w K mg base 2 "_law_take" ["_law_store_here", "_law_many"] (spTake K)) (d__law_frac : Kn P w K mg base 3 "_law_frac" ["_law_store_here"] (spDFrac K 10)) (d__law_pick : Kn P w K mg base 3 "_law_pick" ["_law_store_here", "_law_row"] (spPick K)) : Kn P w K mg base 4 "_law_bad_frac" ["_law_store_here"] (spBadFrac K) := by
  refine Kn.mk' D scBadFrac (fun vs H Q E h => ?_) (fun f cdv A outer s H vs Q E hr h => ?_)
  · obtain ⟨s, rfl, _⟩ := h
    rfl
  obtain ⟨s, rfl, hS, k⟩ := h
  refine ⟨_, (pss_cons (ps_if (pt_cmpR op_eq (pe_kn d__law_take hr (by rfl) (pa_cons (pv 0) (pa_cons pe_int pa_nil))) pe_int (nomark _)) (pss_cons (ps_set (i := 1) scBadFrac.nd rfl (.inl rfl) (pe_kn d__law_frac hr (by rfl) (pa_cons (pv 0) pa_nil)))
      (pss_cons (ps_set (i := 2) scBadFrac.nd rfl (.inl rfl) (pe_op op_add pe_int (pe_kn d__law_take hr (by rfl) (pa_cons (pv 0) (pa_cons pe_int pa_nil)))))
      (pss_cons (ps_set (i := 3) scBadFrac.nd rfl (.inl rfl) (pe_ls (pa_cons (pe_ls (pa_cons (pe_ix ix_any (pv 1) pe_int (fun _ _ => rfl)) (pa_cons (pe_ix ix_any (pv 1) pe_int (fun _ _ => rfl)) pa_nil))) (pa_cons (pe_tp (pa_cons (pe_op op_mulW (pe_ix ix_any (pv 1) pe_int (fun _ _ => rfl)) (pv 2)) (pa_cons (pe_op op_mulW (pe_ix ix_any (pv 1) pe_int (fun _ _ => rfl)) (pv 2)) pa_nil))) (pa_cons (pe_tp (pa_cons (pe_un un_neg (pe_ix ix_any (pv 1) pe_int (fun _ _ => rfl))) (pa_cons (pe_un un_neg (pe_ix ix_any (pv 1) pe_int (fun _ _ => rfl))) pa_nil))) pa_nil)))))
      (pss_one (ps_ret (pe_kn d__law_pick hr (by rfl) (pa_cons (pv 0) (pa_cons (pe_op op_cat (pv 3) (pe_ls (pa_cons (pe_tp (pa_cons (pe_ix ix_any (pv 1) pe_int (fun _ _ => rfl)) pa_nil)) (pa_cons (pe_tp (pa_cons (pe_ix ix_any (pv 1) pe_int (fun _ _ => rfl)) (pa_cons (pe_ix ix_any (pv 1) pe_int (fun _ _ => rfl)) (pa_cons pe_int pa_nil)))) (pa_cons (pe_tp (pa_cons (pv 1) (pa_cons (pv 1) pa_nil))) (pa_cons (pe_tp (pa_cons (pe_ix ix_any (pv 1) pe_int (fun _ _ => rfl)) (pa_cons pe_int pa_nil))) pa_nil)))))) pa_nil)))))))) pss_nil)
      (pss_cons (ps_set (i := 4) scBadFrac.nd rfl (.inl rfl) (pe_ls (pa_cons (pe_tp (pa_cons pe_int (pa_cons pe_int pa_nil))) (pa_cons (pe_tp (pa_cons pe_int (pa_cons pe_int pa_nil))) (pa_cons (pe_tp (pa_cons pe_int (pa_cons pe_int pa_nil))) (pa_cons (pe_tp (pa_cons pe_int (pa_cons pe_int pa_nil))) (pa_cons (pe_tp (pa_cons pe_int (pa_cons (pe_un un_neg pe_int) pa_nil))) (pa_cons (pe_tp (pa_cons pe_int (pa_cons (pe_un un_neg pe_int) pa_nil))) (pa_cons (pe_tp (pa_cons pe_bl (pa_cons pe_int pa_nil))) (pa_cons (pe_tp (pa_cons pe_bl (pa_cons pe_int pa_nil))) (pa_cons (pe_tp (pa_cons pe_int (pa_cons pe_bl pa_nil))) (pa_cons (pe_tp (pa_cons pe_bl (pa_cons pe_int pa_nil))) (pa_cons (pe_tp (pa_cons pe_int (pa_cons pe_non pa_nil))) pa_nil)))))))))))))
      (pss_cons (ps_set (i := 4) scBadFrac.nd rfl (.inl rfl) (pe_op op_cat (pv 4) (pe_ls (pa_cons (pe_tp (pa_cons pe_str (pa_cons pe_int pa_nil))) (pa_cons (pe_ls (pa_cons pe_int (pa_cons pe_int pa_nil))) (pa_cons (pe_tp pa_nil) (pa_cons (pe_tp (pa_cons pe_int pa_nil)) (pa_cons (pe_tp (pa_cons pe_int (pa_cons pe_int (pa_cons pe_int pa_nil)))) (pa_cons (pe_ls (pa_cons (pe_tp (pa_cons pe_int (pa_cons pe_int pa_nil))) pa_nil)) pa_nil)))))))))
      (pss_one (ps_ret (pe_kn d__law_pick hr (by rfl) (pa_cons (pv 0) (pa_cons (pe_op op_cat (pv 4) (pe_ls (pa_cons pe_int (pa_cons pe_int (pa_cons pe_bl (pa_cons pe_bl (pa_cons pe_non (pa_cons pe_str (pa_cons pe_str (pa_cons pe_dn pa_nil)))))))))) pa_nil)))))))), ?_⟩
  refine ⟨_, rfl, s, 3, rfl, hS, by omega, fun i H1 z0 z1 kp st => ⟨rfl, _, rfl, ite2 (fun h => ?_) (fun h => ?_)⟩⟩
  · refine ⟨_, rfl, s, rfl, st, fun a q H2 hq kp2 st2 => ⟨_, rfl, s, 3, rfl, st2, by omega, fun m H3 m0 m1 kp3 st3 => ⟨_, _, rfl, rfl, ?_⟩⟩⟩
    obtain ⟨ys2, hys2⟩ := st2.at
    have hq3 := hq.kp kp3 hys2
    simp only [cx_K, tNext, tSeq, tAsg, gName, L2.start, List.map_cons, List.map_nil, List.cons_append, List.nil_append, List.length_cons, List.length_nil, List.replicate, Nat.reduceAdd, Nat.reduceSub, List.set_cons_zero, List.set_cons_succ]
    have k10 : (2 + m).natAbs < 2 ^ 10 := by omega
    have ty3 : (tyN K H3 (.ref a)).isSome := by rw [tyN_ref, hq3.o]; rfl
    refine lsA (R := Gd K) (fun _ _ _ s h => Gd.same s h) (mkA_cons (R := Gd K) (fun _ _ _ s h => Gd.same s h) (mkA_lc [.int q.1, .int q.2] (fun H' s' Q' h' => by
        have o := ob_same s' hq3.o
        simp only [o, cx_K, decide_true, decide_false, reduceCtorEq, gTp, gCons, gNil, ca_0, ca_1, ca_2, ca_3, ca_4, ca_5, ca_6, ca_7, ca_8, ca_9, ca_10, ca_11, ca_12, ca_13, ca_14, ca_15, ca_16, ca_17, ca_18, ca_19, ca_20, ca_21, ca_22, ca_23, ca_24, ca_25, ca_26, ca_27, ca_28, ca_29, ca_30, not_true_eq_false, not_false_eq_true, Int.reduceEq, Nat.reduceEqDiff, Nat.reduceLeDiff, rGcd, V.ty.injEq, eq_self, List.not_mem_nil, beq_self_eq_true, HO.lst.injEq, HO.tup.injEq, tFor_eq, iRng1, iList, iTup, nat10, tSeq, rIxA, rSetA, rIsN, rIsT, tTp, tLs, itsO_tup, itsO_lst, tyO_tup, tyO_lst, tyO_dK, tyN_non, tyN_bl, tyN_int, tyN_str, tyN_ref, tyNs_lt, isB, upd_same, upd_upd, sizeLine_eq, List.mem_cons, String.reduceBEq, String.reduceEq, Bool.or_false, Bool.or_true, Bool.and_false, Bool.false_or, Bool.and_self, Bool.false_and, Bool.not_false, Bool.not_true, List.any_cons, List.any_nil, atI_0, setI_0, atI_1, setI_1, atI_2, setI_2, atI_3, setI_3, atI_4, setI_4, atI_5, setI_5, atI_6, setI_6, tAsg, gName, tOp, tUn, tVar, tC, tCons, L2.tNil, tRet, tIfS, tTest, tCB, tCall, rI, rI0, rU, tNext, tB, tAnd, tOr, tNot, tAndV, tOrV, tNotV, tDrop, tIf, tPar, gSub, rIxL, rIxT, rEq, rNe, rSetL, tBits,
    L2.start, List.map_cons, List.map_nil, List.cons_append, List.nil_append, List.append_nil, List.length_cons, List.length_nil, List.replicate, Nat.reduceAdd, Nat.reduceSub, Nat.zero_add, List.getElem?_cons_zero, List.getElem?_cons_succ, List.set_cons_zero, List.set_cons_succ,
    Option.some.injEq, exists_eq_left', exists_eq_left, V.int.injEq, V.bl.injEq, V.ref.injEq, V.str.injEq, List.cons.injEq, reduceCtorEq, and_true, true_and, false_and, and_false, exists_false, or_false, false_or, or_true, true_or, exists_const, CMul, CDiv, CPow, and_assoc, exists_and_left, exists_and_right, Int.reducePow, Int.reduceNeg, Int.reduceLT, Int.reduceLE, Nat.reducePow, Nat.reduceLT, Int.reduceToNat, gt_iff_lt, ge_iff_le, decide_eq_true_eq, Bool.not_eq_true', decide_eq_false_iff_not, scal, ↓reduceIte, Bool.false_eq_true]
        exact h') (by simp))
      (mkA_cons (R := Gd K) (fun _ _ _ s h => Gd.same s h) (mkA_tc [.int (q.1 * (2 + m)), .int (q.2 * (2 + m))] (fun H' s' Q' h' => by
        have o := ob_same s' hq3.o
        simp only [o, cx_K, decide_true, decide_false, reduceCtorEq, gTp, gCons, gNil, ca_0, ca_1, ca_2, ca_3, ca_4, ca_5, ca_6, ca_7, ca_8, ca_9, ca_10, ca_11, ca_12, ca_13, ca_14, ca_15, ca_16, ca_17, ca_18, ca_19, ca_20, ca_21, ca_22, ca_23, ca_24, ca_25, ca_26, ca_27, ca_28, ca_29, ca_30, not_true_eq_false, not_false_eq_true, Int.reduceEq, Nat.reduceEqDiff, Nat.reduceLeDiff, rGcd, V.ty.injEq, eq_self, List.not_mem_nil, beq_self_eq_true, HO.lst.injEq, HO.tup.injEq, tFor_eq, iRng1, iList, iTup, nat10, tSeq, rIxA, rSetA, rIsN, rIsT, tTp, tLs, itsO_tup, itsO_lst, tyO_tup, tyO_lst, tyO_dK, tyN_non, tyN_bl, tyN_int, tyN_str, tyN_ref, tyNs_lt, isB, upd_same, upd_upd, sizeLine_eq, List.mem_cons, String.reduceBEq, String.reduceEq, Bool.or_false, Bool.or_true, Bool.and_false, Bool.false_or, Bool.and_self, Bool.false_and, Bool.not_false, Bool.not_true, List.any_cons, List.any_nil, atI_0, setI_0, atI_1, setI_1, atI_2, setI_2, atI_3, setI_3, atI_4, setI_4, atI_5, setI_5, atI_6, setI_6, tAsg, gName, tOp, tUn, tVar, tC, tCons, L2.tNil, tRet, tIfS, tTest, tCB, tCall, rI, rI0, rU, tNext, tB, tAnd, tOr, tNot, tAndV, tOrV, tNotV, tDrop, tIf, tPar, gSub, rIxL, rIxT, rEq, rNe, rSetL, tBits,
    L2.start, List.map_cons, List.map_nil, List.cons_append, List.nil_append, List.append_nil, List.length_cons, List.length_nil, List.replicate, Nat.reduceAdd, Nat.reduceSub, Nat.zero_add, List.getElem?_cons_zero, List.getElem?_cons_succ, List.set_cons_zero, List.set_cons_succ,
    Option.some.injEq, exists_eq_left', exists_eq_left, V.int.injEq, V.bl.injEq, V.ref.injEq, V.str.injEq, List.cons.injEq, reduceCtorEq, and_true, true_and, false_and, and_false, exists_false, or_false, false_or, or_true, true_or, exists_const, CMul, CDiv, CPow, and_assoc, exists_and_left, exists_and_right, Int.reducePow, Int.reduceNeg, Int.reduceLT, Int.reduceLE, Nat.reducePow, Nat.reduceLT, Int.reduceToNat, gt_iff_lt, ge_iff_le, decide_eq_true_eq, Bool.not_eq_true', decide_eq_false_iff_not, scal, ↓reduceIte, Bool.false_eq_true]
        exact ⟨mulW hq3.sz.1 k10 (by omega), mulW hq3.sz.2 k10 (by omega), h'⟩) (by simp [tyN]) (fr2_mul (by omega)) (by simp))
      (mkA_cons (R := Gd K) (fun _ _ _ s h => Gd.same s h) (mkA_tc [.int (-q.1), .int (-q.2)] (fun H' s' Q' h' => by
        have o := ob_same s' hq3.o
        simp only [o, cx_K, decide_true, decide_false, reduceCtorEq, gTp, gCons, gNil, ca_0, ca_1, ca_2, ca_3, ca_4, ca_5, ca_6, ca_7, ca_8, ca_9, ca_10, ca_11, ca_12, ca_13, ca_14, ca_15, ca_16, ca_17, ca_18, ca_19, ca_20, ca_21, ca_22, ca_23, ca_24, ca_25, ca_26, ca_27, ca_28, ca_29, ca_30, not_true_eq_false, not_false_eq_true, Int.reduceEq, Nat.reduceEqDiff, Nat.reduceLeDiff, rGcd, V.ty.injEq, eq_self, List.not_mem_nil, beq_self_eq_true, HO.lst.injEq, HO.tup.injEq, tFor_eq, iRng1, iList, iTup, nat10, tSeq, rIxA, rSetA, rIsN, rIsT, tTp, tLs, itsO_tup, itsO_lst, tyO_tup, tyO_lst, tyO_dK, tyN_non, tyN_bl, tyN_int, tyN_str, tyN_ref, tyNs_lt, isB, upd_same, upd_upd, sizeLine_eq, List.mem_cons, String.reduceBEq, String.reduceEq, Bool.or_false, Bool.or_true, Bool.and_false, Bool.false_or, Bool.and_self, Bool.false_and, Bool.not_false, Bool.not_true, List.any_cons, List.any_nil, atI_0, setI_0, atI_1, setI_1, atI_2, setI_2, atI_3, setI_3, atI_4, setI_4, atI_5, setI_5, atI_6, setI_6, tAsg, gName, tOp, tUn, tVar, tC, tCons, L2.tNil, tRet, tIfS, tTest, tCB, tCall, rI, rI0, rU, tNext, tB, tAnd, tOr, tNot, tAndV, tOrV, tNotV, tDrop, tIf, tPar, gSub, rIxL, rIxT, rEq, rNe, rSetL, tBits,
    L2.start, List.map_cons, List.map_nil, List.cons_append, List.nil_append, List.append_nil, List.length_cons, List.length_nil, List.replicate, Nat.reduceAdd, Nat.reduceSub, Nat.zero_add, List.getElem?_cons_zero, List.getElem?_cons_succ, List.set_cons_zero, List.set_cons_succ,
    Option.some.injEq, exists_eq_left', exists_eq_left, V.int.injEq, V.bl.injEq, V.ref.injEq, V.str.injEq, List.cons.injEq, reduceCtorEq, and_true, true_and, false_and, and_false, exists_false, or_false, false_or, or_true, true_or, exists_const, CMul, CDiv, CPow, and_assoc, exists_and_left, exists_and_right, Int.reducePow, Int.reduceNeg, Int.reduceLT, Int.reduceLE, Nat.reducePow, Nat.reduceLT, Int.reduceToNat, gt_iff_lt, ge_iff_le, decide_eq_true_eq, Bool.not_eq_true', decide_eq_false_iff_not, scal, ↓reduceIte, Bool.false_eq_true]
        exact h') (by simp [tyN]) (fr2_neg (by have := hq3.nf.1; omega)) (by simp)) mkA_nil))) (by decide) fun vs p H4 s4 hp kp4 hn hv hl => ?_
    refine ⟨_, rfl, _, rfl, ?_⟩
    have hq4 := hq3.same s4
    refine lsA (R := Gd K) (fun _ _ _ s h => Gd.same s h) (mkA_cons (R := Gd K) (fun _ _ _ s h => Gd.same s h) (mkA_tc [.int q.1] (fun H' s' Q' h' => by
        have o := ob_same s' hq4.o
        simp only [o, cx_K, decide_true, decide_false, reduceCtorEq, gTp, gCons, gNil, ca_0, ca_1, ca_2, ca_3, ca_4, ca_5, ca_6, ca_7, ca_8, ca_9, ca_10, ca_11, ca_12, ca_13, ca_14, ca_15, ca_16, ca_17, ca_18, ca_19, ca_20, ca_21, ca_22, ca_23, ca_24, ca_25, ca_26, ca_27, ca_28, ca_29, ca_30, not_true_eq_false, not_false_eq_true, Int.reduceEq, Nat.reduceEqDiff, Nat.reduceLeDiff, rGcd, V.ty.injEq, eq_self, List.not_mem_nil, beq_self_eq_true, HO.lst.injEq, HO.tup.injEq, tFor_eq, iRng1, iList, iTup, nat10, tSeq, rIxA, rSetA, rIsN, rIsT, tTp, tLs, itsO_tup, itsO_lst, tyO_tup, tyO_lst, tyO_dK, tyN_non, tyN_bl, tyN_int, tyN_str, tyN_ref, tyNs_lt, isB, upd_same, upd_upd, sizeLine_eq, List.mem_cons, String.reduceBEq, String.reduceEq, Bool.or_false, Bool.or_true, Bool.and_false, Bool.false_or, Bool.and_self, Bool.false_and, Bool.not_false, Bool.not_true, List.any_cons, List.any_nil, atI_0, setI_0, atI_1, setI_1, atI_2, setI_2, atI_3, setI_3, atI_4, setI_4, atI_5, setI_5, atI_6, setI_6, tAsg, gName, tOp, tUn, tVar, tC, tCons, L2.tNil, tRet, tIfS, tTest, tCB, tCall, rI, rI0, rU, tNext, tB, tAnd, tOr, tNot, tAndV, tOrV, tNotV, tDrop, tIf, tPar, gSub, rIxL, rIxT, rEq, rNe, rSetL, tBits,
    L2.start, List.map_cons, List.map_nil, List.cons_append, List.nil_append, List.append_nil, List.length_cons, List.length_nil, List.replicate, Nat.reduceAdd, Nat.reduceSub, Nat.zero_add, List.getElem?_cons_zero, List.getElem?_cons_succ, List.set_cons_zero, List.set_cons_succ,
    Option.some.injEq, exists_eq_left', exists_eq_left, V.int.injEq, V.bl.injEq, V.ref.injEq, V.str.injEq, List.cons.injEq, reduceCtorEq, and_true, true_and, false_and, and_false, exists_false, or_false, false_or, or_true, true_or, exists_const, CMul, CDiv, CPow, and_assoc, exists_and_left, exists_and_right, Int.reducePow, Int.reduceNeg, Int.reduceLT, Int.reduceLE, Nat.reducePow, Nat.reduceLT, Int.reduceToNat, gt_iff_lt, ge_iff_le, decide_eq_true_eq, Bool.not_eq_true', decide_eq_false_iff_not, scal, ↓reduceIte, Bool.false_eq_true]
        exact h') (by simp [tyN]) rfl (by simp))
      (mkA_cons (R := Gd K) (fun _ _ _ s h => Gd.same s h) (mkA_tc [.int q.1, .int q.2, .int 1] (fun H' s' Q' h' => by
        have o := ob_same s' hq4.o
        simp only [o, cx_K, decide_true, decide_false, reduceCtorEq, gTp, gCons, gNil, ca_0, ca_1, ca_2, ca_3, ca_4, ca_5, ca_6, ca_7, ca_8, ca_9, ca_10, ca_11, ca_12, ca_13, ca_14, ca_15, ca_16, ca_17, ca_18, ca_19, ca_20, ca_21, ca_22, ca_23, ca_24, ca_25, ca_26, ca_27, ca_28, ca_29, ca_30, not_true_eq_false, not_false_eq_true, Int.reduceEq, Nat.reduceEqDiff, Nat.reduceLeDiff, rGcd, V.ty.injEq, eq_self, List.not_mem_nil, beq_self_eq_true, HO.lst.injEq, HO.tup.injEq, tFor_eq, iRng1, iList, iTup, nat10, tSeq, rIxA, rSetA, rIsN, rIsT, tTp, tLs, itsO_tup, itsO_lst, tyO_tup, tyO_lst, tyO_dK, tyN_non, tyN_bl, tyN_int, tyN_str, tyN_ref, tyNs_lt, isB, upd_same, upd_upd, sizeLine_eq, List.mem_cons, String.reduceBEq, String.reduceEq, Bool.or_false, Bool.or_true, Bool.and_false, Bool.false_or, Bool.and_self, Bool.false_and, Bool.not_false, Bool.not_true, List.any_cons, List.any_nil, atI_0, setI_0, atI_1, setI_1, atI_2, setI_2, atI_3, setI_3, atI_4, setI_4, atI_5, setI_5, atI_6, setI_6, tAsg, gName, tOp, tUn, tVar, tC, tCons, L2.tNil, tRet, tIfS, tTest, tCB, tCall, rI, rI0, rU, tNext, tB, tAnd, tOr, tNot, tAndV, tOrV, tNotV, tDrop, tIf, tPar, gSub, rIxL, rIxT, rEq, rNe, rSetL, tBits,
    L2.start, List.map_cons, List.map_nil, List.cons_append, List.nil_append, List.append_nil, List.length_cons, List.length_nil, List.replicate, Nat.reduceAdd, Nat.reduceSub, Nat.zero_add, List.getElem?_cons_zero, List.getElem?_cons_succ, List.set_cons_zero, List.set_cons_succ,
    Option.some.injEq, exists_eq_left', exists_eq_left, V.int.injEq, V.bl.injEq, V.ref.injEq, V.str.injEq, List.cons.injEq, reduceCtorEq, and_true, true_and, false_and, and_false, exists_false, or_false, false_or, or_true, true_or, exists_const, CMul, CDiv, CPow, and_assoc, exists_and_left, exists_and_right, Int.reducePow, Int.reduceNeg, Int.reduceLT, Int.reduceLE, Nat.reducePow, Nat.reduceLT, Int.reduceToNat, gt_iff_lt, ge_iff_le, decide_eq_true_eq, Bool.not_eq_true', decide_eq_false_iff_not, scal, ↓reduceIte, Bool.false_eq_true]
        exact h') (by simp [tyN]) rfl (by simp))
      (mkA_cons (R := Gd K) (fun _ _ _ s h => Gd.same s h) (mkA_tc [.ref a, .ref a] (fun H' s' Q' h' => ⟨_, rfl, _, rfl, h'⟩) (by
        have := tyS_same s4 ty3
        simpa using this) rfl (by simp))
      (mkA_cons (R := Gd K) (fun _ _ _ s h => Gd.same s h) (mkA_tc [.int q.1, .int 0] (fun H' s' Q' h' => by
        have o := ob_same s' hq4.o
        simp only [o, cx_K, decide_true, decide_false, reduceCtorEq, gTp, gCons, gNil, ca_0, ca_1, ca_2, ca_3, ca_4, ca_5, ca_6, ca_7, ca_8, ca_9, ca_10, ca_11, ca_12, ca_13, ca_14, ca_15, ca_16, ca_17, ca_18, ca_19, ca_20, ca_21, ca_22, ca_23, ca_24, ca_25, ca_26, ca_27, ca_28, ca_29, ca_30, not_true_eq_false, not_false_eq_true, Int.reduceEq, Nat.reduceEqDiff, Nat.reduceLeDiff, rGcd, V.ty.injEq, eq_self, List.not_mem_nil, beq_self_eq_true, HO.lst.injEq, HO.tup.injEq, tFor_eq, iRng1, iList, iTup, nat10, tSeq, rIxA, rSetA, rIsN, rIsT, tTp, tLs, itsO_tup, itsO_lst, tyO_tup, tyO_lst, tyO_dK, tyN_non, tyN_bl, tyN_int, tyN_str, tyN_ref, tyNs_lt, isB, upd_same, upd_upd, sizeLine_eq, List.mem_cons, String.reduceBEq, String.reduceEq, Bool.or_false, Bool.or_true, Bool.and_false, Bool.false_or, Bool.and_self, Bool.false_and, Bool.not_false, Bool.not_true, List.any_cons, List.any_nil, atI_0, setI_0, atI_1, setI_1, atI_2, setI_2, atI_3, setI_3, atI_4, setI_4, atI_5, setI_5, atI_6, setI_6, tAsg, gName, tOp, tUn, tVar, tC, tCons, L2.tNil, tRet, tIfS, tTest, tCB, tCall, rI, rI0, rU, tNext, tB, tAnd, tOr, tNot, tAndV, tOrV, tNotV, tDrop, tIf, tPar, gSub, rIxL, rIxT, rEq, rNe, rSetL, tBits,
    L2.start, List.map_cons, List.map_nil, List.cons_append, List.nil_append, List.append_nil, List.length_cons, List.length_nil, List.replicate, Nat.reduceAdd, Nat.reduceSub, Nat.zero_add, List.getElem?_cons_zero, List.getElem?_cons_succ, List.set_cons_zero, List.set_cons_succ,
    Option.some.injEq, exists_eq_left', exists_eq_left, V.int.injEq, V.bl.injEq, V.ref.injEq, V.str.injEq, List.cons.injEq, reduceCtorEq, and_true, true_and, false_and, and_false, exists_false, or_false, false_or, or_true, true_or, exists_const, CMul, CDiv, CPow, and_assoc, exists_and_left, exists_and_right, Int.reducePow, Int.reduceNeg, Int.reduceLT, Int.reduceLE, Nat.reducePow, Nat.reduceLT, Int.reduceToNat, gt_iff_lt, ge_iff_le, decide_eq_true_eq, Bool.not_eq_true', decide_eq_false_iff_not, scal, ↓reduceIte, Bool.false_eq_true]
        exact h') (by simp [tyN]) (fr2_neg (by omega)) (by simp)) mkA_nil)))) (by decide) fun ws p2 H5 s5 hp2 kp5 hn5 hv5 hl5 => ?_
    refine ⟨p, p2, vs, ws, rfl, rfl, s5 _ _ hl, hl5, by rw [hn, hn5, sizeLine_eq]; omega, fun p3 h3 => ?_⟩
    have s6 : Same H3 (upd H5 p3 (.lst (vs ++ ws))) := s4.trans (s5.trans (Same.new h3 _))
    have st6 := st3.same s6
    obtain ⟨ys, hys⟩ := (st3.same (s4.trans s5)).at
    refine ⟨s, p3, vs ++ ws, rfl, st6, upd_same, ne_of_none hys h3, by rw [List.length_append, hn, hn5]; omega, by rw [List.length_append, hn, hn5]; omega, fun v H' hm kp' st' => k v H' (Gd.kp kp' st' ?_) (kp.trans (kp2.trans (kp3.trans ((Kp.same s6).trans kp')))) st'⟩
    rw [List.mem_append] at hm
    rcases hm with hm | hm
    · exact (hv v hm).same (s5.trans (Same.new h3 _))
    · exact (hv5 v hm).same (Same.new h3 _)
  · simp only [cx_K, tNext, tSeq, tAsg, gName]
    refine lsX (R := Gd K) (fun _ _ _ s h => Gd.same s h) (mkL_cons (R := Gd K) (fun _ _ _ s h => Gd.same s h) (mk_tc (K := K) [.int (2), .int (4)] (fun σ H Q h => h) rfl rfl) (mkL_cons (R := Gd K) (fun _ _ _ s h => Gd.same s h) (mk_tc (K := K) [.int (0), .int (2)] (fun σ H Q h => h) rfl rfl) (mkL_cons (R := Gd K) (fun _ _ _ s h => Gd.same s h) (mk_tc (K := K) [.int (0), .int (0)] (fun σ H Q h => h) rfl rfl) (mkL_cons (R := Gd K) (fun _ _ _ s h => Gd.same s h) (mk_tc (K := K) [.int (1), .int (0)] (fun σ H Q h => h) rfl rfl) (mkL_cons (R := Gd K) (fun _ _ _ s h => Gd.same s h) (mk_tc (K := K) [.int (1), .int (-2)] (fun σ H Q h => ⟨2, rfl, h⟩) rfl rfl) (mkL_cons (R := Gd K) (fun _ _ _ s h => Gd.same s h) (mk_tc (K := K) [.int (0), .int (-1)] (fun σ H Q h => ⟨1, rfl, h⟩) rfl rfl) (mkL_cons (R := Gd K) (fun _ _ _ s h => Gd.same s h) (mk_tc (K := K) [.bl true, .int (1)] (fun σ H Q h => h) rfl rfl) (mkL_cons (R := Gd K) (fun _ _ _ s h => Gd.same s h) (mk_tc (K := K) [.bl false, .int (1)] (fun σ H Q h => h) rfl rfl) (mkL_cons (R := Gd K) (fun _ _ _ s h => Gd.same s h) (mk_tc (K := K) [.int (1), .bl true] (fun σ H Q h => h) rfl rfl) (mkL_cons (R := Gd K) (fun _ _ _ s h => Gd.same s h) (mk_tc (K := K) [.bl true, .int (2)] (fun σ H Q h => h) rfl rfl) (mkL_cons (R := Gd K) (fun _ _ _ s h => Gd.same s h) (mk_tc (K := K) [.int (1), .non] (fun σ H Q h => h) rfl rfl) mkL_nil))))))))))) (by decide) fun vs p H2 s2 hp kp2 hn hv hl => ?_
    simp only [tOp, tVar, L2.start, List.map_cons, List.map_nil, List.cons_append, List.nil_append, List.length_cons, List.length_nil, List.replicate, Nat.reduceAdd, Nat.reduceSub, List.set_cons_zero, List.set_cons_succ, List.getElem?_cons_zero, List.getElem?_cons_succ, Option.some.injEq, exists_eq_left']
    refine lsX (R := Gd K) (fun _ _ _ s h => Gd.same s h) (mkL_cons (R := Gd K) (fun _ _ _ s h => Gd.same s h) (mk_tc (K := K) [.str "1", .int (2)] (fun σ H Q h => h) rfl rfl) (mkL_cons (R := Gd K) (fun _ _ _ s h => Gd.same s h) (mk_ls (K := K) (mkL_cons (R := fun _ _ => True) (fun _ _ _ _ _ => True.intro) (mk_any (mk_c (K := K) rfl)) (mkL_cons (R := fun _ _ => True) (fun _ _ _ _ _ => True.intro) (mk_any (mk_c (K := K) rfl)) mkL_nil))) (mkL_cons (R := Gd K) (fun _ _ _ s h => Gd.same s h) (mk_tc (K := K) [] (fun σ H Q h => h) rfl rfl) (mkL_cons (R := Gd K) (fun _ _ _ s h => Gd.same s h) (mk_tc (K := K) [.int (1)] (fun σ H Q h => h) rfl rfl) (mkL_cons (R := Gd K) (fun _ _ _ s h => Gd.same s h) (mk_tc (K := K) [.int (1), .int (2), .int (1)] (fun σ H Q h => h) rfl rfl) (mkL_cons (R := Gd K) (fun _ _ _ s h => Gd.same s h) (mk_ls (K := K) (mkL_cons (R := fun _ _ => True) (fun _ _ _ _ _ => True.intro) (mk_tup (mkL_cons (R := fun _ _ => True) (fun _ _ _ _ _ => True.intro) (mk_any (mk_c (K := K) rfl)) (mkL_cons (R := fun _ _ => True) (fun _ _ _ _ _ => True.intro) (mk_any (mk_c (K := K) rfl)) mkL_nil))) mkL_nil)) mkL_nil)))))) (by decide) fun ws p' H3 s3 hp' kp3 hn' hv' hl' => ?_
    refine ⟨p, p', vs, ws, rfl, rfl, s3 _ _ hl, hl', by rw [hn, hn', sizeLine_eq]; omega, fun p3 h3 => ⟨_, rfl, _, rfl, ?_⟩⟩
    refine lsX (R := Gd K) (fun _ _ _ s h => Gd.same s h) (mkL_cons (R := Gd K) (fun _ _ _ s h => Gd.same s h) (mk_c (K := K) rfl) (mkL_cons (R := Gd K) (fun _ _ _ s h => Gd.same s h) (mk_c (K := K) rfl) (mkL_cons (R := Gd K) (fun _ _ _ s h => Gd.same s h) (mk_c (K := K) rfl) (mkL_cons (R := Gd K) (fun _ _ _ s h => Gd.same s h) (mk_c (K := K) rfl) (mkL_cons (R := Gd K) (fun _ _ _ s h => Gd.same s h) (mk_c (K := K) rfl) (mkL_cons (R := Gd K) (fun _ _ _ s h => Gd.same s h) (mk_c (K := K) rfl) (mkL_cons (R := Gd K) (fun _ _ _ s h => Gd.same s h) (mk_c (K := K) rfl) (mkL_cons (R := Gd K) (fun _ _ _ s h => Gd.same s h) (mk_dn (K := K)) mkL_nil)))))))) (by decide) fun us p4 H4 s4 hp4 kp4 hn4 hv4 hl4 => ?_
    refine ⟨p3, p4, vs ++ ws, us, rfl, rfl, s4 _ _ upd_same, hl4, by rw [List.length_append, hn, hn', hn4, sizeLine_eq]; omega, fun p5 h5 => ?_⟩
    have s5 : Same H1 (upd H4 p5 (.lst (vs ++ ws ++ us))) := s2.trans (s3.trans ((Same.new h3 _).trans (s4.trans (Same.new h5 _))))
    have st5 := st.same s5
    obtain ⟨ys, hys⟩ := (st.same (s2.trans (s3.trans ((Same.new h3 _).trans s4)))).at
    refine ⟨s, p5, vs ++ ws ++ us, rfl, st5, upd_same, ne_of_none hys h5, by rw [List.length_append, List.length_append, hn, hn', hn4]; omega, by rw [List.length_append, List.length_append, hn, hn', hn4]; omega, fun v H' hm kp' st' => k v H' (Gd.kp kp' st' ?_) (kp.trans ((Kp.same s5).trans kp')) st'⟩
    rw [List.mem_append, List.mem_append] at hm
    rcases hm with (hm | hm) | hm
    · exact (hv v hm).same (s3.trans ((Same.new h3 _).trans (s4.trans (Same.new h5 _))))
    · exact (hv' v hm).same ((Same.new h3 _).trans (s4.trans (Same.new h5 _)))
    · exact (hv4 v hm).same (Same.new h5 _)
end
end My

namespace My
open PySem PySem.Spec PyProof.Rows L2
section
variable {P : Program} {w : World} {K : PySem.W.Frag} {mg : Str → Option Value} {base : Heap}
end
/-! ### a call that leaves the last parameter away -/
structure DfnD1 (K : PySem.W.Frag) (mg : Str → Option Value) (x : Str) (st : Stmt) (ps : List Str) (dv : V) : Prop where
  ex : ∃ f fd dvs ds, FunD K x x (defArgs st) (defBody st) (defScope st) dvs [] f fd ∧ mg x = some (.ref f) ∧ Vals [dv] ds ∧ Binds K fd ps ds
structure Kn1 (P : Program) (w : World) (K : PySem.W.Frag) (mg : Str → Option Value) (base : Heap) (k : Nat) (x : Str) (ps : List Str) (sp : Sp) (dv : V) : Prop where
  ex : ∃ f fd ds, mg x = some (.ref f) ∧ PySem.W.keepIn K (.ref f) = true ∧ Vals [dv] ds ∧ Binds K fd ps ds ∧ FnOk P w K mg base CX0 k f fd ps sp
theorem Kn1.mkD {P : Program} {w : World} {K : PySem.W.Frag} {mg : Str → Option Value} {base : Heap} {x : Str} {st : Stmt} {N ps : List Str} {k : Nat} {sp : Sp} {dv : V} (D : DfnD1 K mg x st ps dv) (S : FnScope N ps (defScope st)) (len : ∀ vs H Q E, sp vs H Q E → vs.length = ps.length)
    (hbody : ∀ (f : Addr) (cdv : Value) (A : Around) (outer : List Env) (s : Shared) (H : Hp) (vs : List V) (Q : VK) (E : XK), Room k (A.deeper (envOfC x (defScope st) s.heap.objs.size f cdv)) → sp vs H Q E →
      ∃ t, PSs (cxOf CX0 P w K mg base N x (defScope st) f cdv A outer s H E).nox (defBody st) t ∧ t { nx := fun _ H' => Q .non H', rt := Q } (start N vs) H) : Kn1 P w K mg base (k + 1) x ps sp dv := by
  obtain ⟨f, fd, dvs, ds, F, m, v, b⟩ := D.ex
  exact ⟨f, fd, ds, m, F.kp, v, b, F.ok S len fun cdv A outer s H vs Q E hr h => let ⟨t, a, c⟩ := hbody f cdv A outer s H vs Q E hr h; ⟨t, a.nox, c⟩⟩
section
variable {X : Cx}
theorem pe_kn1 {j k : Nat} {x : Str} {ps : List Str} {sp : Sp} {dv : V} {p pos : Pos} {e : Expr} {es : List Expr} {t : TA} (F : Kn1 X.prog X.w X.K X.mg X.base k x ps sp dv) (hr : Room j X.A) (hg : Gl X x) (ha : PA X (e :: es) t) (hj : k ≤ j := by omega)
    (hdb : (x == ("__debug__" : Str)) = false := by decide) (he : starEach (e :: es) X.env = (false, eval e X.env) :: starEach es X.env := by rfl) (hpl : (backTo pos (starEach es X.env)).any (·.1) = false := by rfl) :
    PE X (.Call (.Name x p) (e :: es) [] pos) (tCall sp [dv] E0 t) := by
  obtain ⟨f, fd, ds, m, kp, v, b, G⟩ := F.ex
  exact pe_call G (hr.mono hj) hg m kp b v pass0 ha hdb he hpl
end
section
variable {P : Program} {w : World} {K : PySem.W.Frag} {mg : Str → Option Value} {base : Heap}
theorem lt1 {u : Nat} (h : u + 64 < cLine) : u + 1 < cLine := by omega
theorem itsO_of {H : Hp} {a : Addr} {xs : List V} (h : ob K H a = some (.tup xs)) : itsO (ob K H a) = some xs := by rw [h]; rfl
theorem itsO_ofL {H : Hp} {a : Addr} {xs : List V} (h : ob K H a = some (.lst xs)) : itsO (ob K H a) = some xs := by rw [h]; rfl
theorem sz2 {n : Nat} (h : n ≤ 100) : n ≤ sizeLine := by rw [sizeLine_eq]; omega
theorem if_no {c : Bool} {A B : Prop} (e : c = false) (h : B) : if c = true then A else B := by
  rw [e, if_neg Bool.noConfusion]
  exact h
theorem if_yes {c : Bool} {A B : Prop} (e : c = true) (h : A) : if c = true then A else B := by
  rw [e, if_pos rfl]
  exact h
/-! ### data of some depth, and copies of it; a dict takes two levels -/
/-- its lists and dicts stand where N says -/
def ShpP (K : PySem.W.Frag) (N : Addr → Prop) (H : Hp) : Nat → (V → Prop) × (V → Prop)
  | 0 => (fun v => scv v = true, fun _ => False)
  | n + 1 => (fun v => scv v = true ∨ (∃ (a : Addr) (xs : List V), v = .ref a ∧ (ob K H a = some (.tup xs) ∨ (N a ∧ ob K H a = some (.lst xs))) ∧ xs.length ≤ 1000 ∧ ∀ x ∈ xs, (ShpP K N H n).1 x) ∨
      (1 ≤ n ∧ ∃ (a : Addr) (ks : List (Key × V)), v = .ref a ∧ N a ∧ ob K H a = some (.dK ks) ∧ ks.length ≤ 1000 ∧ (ks.map (·.1)).Nodup ∧ ∀ p ∈ ks, (ShpP K N H n).2 p.2), (ShpP K N H n).1)
def Shp (K : PySem.W.Frag) (N : Addr → Prop) (H : Hp) (n : Nat) (v : V) : Prop := (ShpP K N H n).1 v
def CpyP (K : PySem.W.Frag) (F : Addr → Prop) (H0 H : Hp) : Nat → (V → V → Prop) × (V → V → Prop)
  | 0 => (fun v w => v = w ∧ scv v = true, fun _ _ => False)
  | n + 1 => (fun v w => (v = w ∧ scv v = true) ∨ (∃ (a b : Addr) (xs ys : List V), v = .ref a ∧ w = .ref b ∧ F b ∧ K.lookup b = none ∧ ((ob K H0 a = some (.tup xs) ∧ H b = some (.tup ys)) ∨ (ob K H0 a = some (.lst xs) ∧ H b = some (.lst ys))) ∧ xs.length = ys.length ∧ ys.length ≤ 1000 ∧ ∀ (i : Nat) x y, xs[i]? = some x → ys[i]? = some y → (CpyP K F H0 H n).1 x y) ∨
      (1 ≤ n ∧ ∃ (a b : Addr) (ks ls : List (Key × V)), v = .ref a ∧ w = .ref b ∧ F b ∧ K.lookup b = none ∧ ob K H0 a = some (.dK ks) ∧ H b = some (.dK ls) ∧ ks.map (·.1) = ls.map (·.1) ∧ ls.length ≤ 1000 ∧ ∀ (i : Nat) p q, ks[i]? = some p → ls[i]? = some q → (CpyP K F H0 H n).2 p.2 q.2), (CpyP K F H0 H n).1)
def Cpy (K : PySem.W.Frag) (F : Addr → Prop) (H0 H : Hp) (n : Nat) (v w : V) : Prop := (CpyP K F H0 H n).1 v w
/-- the three kinds -/
theorem Shp.split {N : Addr → Prop} {H : Hp} {n : Nat} {v : V} (h : Shp K N H n v) : scv v = true ∨ (∃ m, n = m + 1 ∧ ∃ (a : Addr) (xs : List V), v = .ref a ∧ (ob K H a = some (.tup xs) ∨ (N a ∧ ob K H a = some (.lst xs))) ∧ xs.length ≤ 1000 ∧ ∀ x ∈ xs, Shp K N H m x) ∨
    ∃ m, n = m + 2 ∧ ∃ (a : Addr) (ks : List (Key × V)), v = .ref a ∧ N a ∧ ob K H a = some (.dK ks) ∧ ks.length ≤ 1000 ∧ (ks.map (·.1)).Nodup ∧ ∀ p ∈ ks, Shp K N H m p.2 := by
  match n, h with
  | 0, h => exact Or.inl h
  | n + 1, h =>
    rcases h with h | h | ⟨l, h⟩
    · exact Or.inl h
    · exact Or.inr (Or.inl ⟨n, rfl, h⟩)
    · match n, l with
      | m + 1, l => exact Or.inr (Or.inr ⟨m, rfl, h⟩)
theorem Shp.sc {N : Addr → Prop} {H : Hp} {n : Nat} {v : V} (h : scv v = true) : Shp K N H n v := by
  cases n with
  | zero => exact h
  | succ n => exact Or.inl h
theorem Shp.sq {N : Addr → Prop} {H : Hp} {n : Nat} {a : Addr} {xs : List V} (o : ob K H a = some (.tup xs) ∨ (N a ∧ ob K H a = some (.lst xs))) (l : xs.length ≤ 1000) (h : ∀ x ∈ xs, Shp K N H n x) : Shp K N H (n + 1) (.ref a) := Or.inr (Or.inl ⟨a, xs, rfl, o, l, h⟩)
theorem Shp.dk {N : Addr → Prop} {H : Hp} {n : Nat} {a : Addr} {ks : List (Key × V)} (na : N a) (o : ob K H a = some (.dK ks)) (l : ks.length ≤ 1000) (nd : (ks.map (·.1)).Nodup) (h : ∀ p ∈ ks, Shp K N H n p.2) : Shp K N H (n + 2) (.ref a) := Or.inr (Or.inr ⟨by omega, a, ks, rfl, na, o, l, nd, h⟩)
theorem Shp.map {N N' : Addr → Prop} {H H' : Hp} (f : ∀ a, N a → N' a) (e : ∀ (a : Addr) (z : HO), ((∃ xs, z = .tup xs) ∨ N a) → ob K H a = some z → (∀ ps, z ≠ .tbl ps) → ob K H' a = some z) : ∀ {n : Nat} {v : V}, Shp K N H n v → Shp K N' H' n v
  | n, v, h => by
    rcases h.split with h | ⟨m, rfl, a, xs, rfl, o, l, h⟩ | ⟨m, rfl, a, ks, rfl, na, o, l, nd, h⟩
    · exact Shp.sc h
    · exact Shp.sq (o.imp (fun z => e _ _ (.inl ⟨_, rfl⟩) z (fun _ z => by cases z)) (fun z => ⟨f _ z.1, e _ _ (.inr z.1) z.2 (fun _ z => by cases z)⟩)) l fun x hx => Shp.map f e (h x hx)
    · exact Shp.dk (f _ na) (e _ _ (.inr na) o (fun _ z => by cases z)) l nd fun p hp => Shp.map f e (h p hp)
theorem Shp.same {N : Addr → Prop} {H H' : Hp} (e : Same H H') {n : Nat} {v : V} (h : Shp K N H n v) : Shp K N H' n v := Shp.map (fun _ z => z) (fun _ _ _ o _ => ob_same e o) h
theorem Shp.weak {N N' : Addr → Prop} {H : Hp} (f : ∀ a, N a → N' a) {n : Nat} {v : V} (h : Shp K N H n v) : Shp K N' H n v := Shp.map f (fun _ _ _ o _ => o) h
theorem tup_ne {H : Hp} {s a : Addr} {xs : List V} (st : Sto K H s) (o : ob K H a = some (.tup xs)) : a ≠ s := by
  rintro rfl
  obtain ⟨ys, hy⟩ := st.ob
  rw [hy] at o
  cases o
theorem Shp.kp {N : Addr → Prop} {s : Addr} {H H' : Hp} (e : Kp s H H') (st : Sto K H s) (f : ∀ a, N a → a ≠ s) {n : Nat} {v : V} (h : Shp K N H n v) : Shp K N H' n v := Shp.map (fun _ z => z) (fun a z k o _ => ob_kp2 e (by
  rcases k with ⟨xs, rfl⟩ | k
  · exact tup_ne st o
  · exact f a k) o) h
theorem Shp.up {N : Addr → Prop} {H : Hp} : ∀ {n : Nat} {v : V}, Shp K N H n v → Shp K N H (n + 1) v
  | n, v, h => by
    rcases h.split with h | ⟨m, rfl, a, xs, rfl, o, l, h⟩ | ⟨m, rfl, a, ks, rfl, na, o, l, nd, h⟩
    · exact Shp.sc h
    · exact Shp.sq o l fun x hx => Shp.up (h x hx)
    · exact Shp.dk na o l nd fun p hp => Shp.up (h p hp)
theorem Shp.le {N : Addr → Prop} {H : Hp} {n m : Nat} {v : V} (h : Shp K N H n v) (l : n ≤ m) : Shp K N H m v := by
  induction l with
  | refl => exact h
  | step _ ih => exact ih.up
theorem Shp.ty {N : Addr → Prop} {H : Hp} {n : Nat} {v : V} (h : Shp K N H n v) : (tyN K H v).isSome := by
  rcases h.split with h | ⟨m, rfl, a, xs, rfl, o | ⟨_, o⟩, _⟩ | ⟨m, rfl, a, ks, rfl, na, o, _⟩
  · cases v <;> first | rfl | cases h
  · rw [tyN_ref, o]; rfl
  · rw [tyN_ref, o]; rfl
  · rw [tyN_ref, o]; rfl
theorem Shp.tyd {N : Addr → Prop} {H : Hp} {n : Nat} {v : V} (h : Shp K N H n v) : Tyd K H v := by
  refine ⟨h.ty, fun b ys e oy x hx => ?_⟩
  subst e
  rcases h.split with h | ⟨m, rfl, a, xs, e, o | ⟨_, o⟩, l, hs⟩ | ⟨m, rfl, a, ks, e, na, o, _⟩
  · cases h
  · cases e
    rw [o] at oy
    cases oy
    exact (hs x hx).ty
  · cases e
    rw [o] at oy
    cases oy
  · cases e
    rw [o] at oy
    cases oy
/-- a fraction, or any tuple of plain things -/
theorem Shp.tupsc {N : Addr → Prop} {H : Hp} {n : Nat} {a : Addr} {xs : List V} (o : ob K H a = some (.tup xs)) (l : xs.length ≤ 1000) (h : ∀ x ∈ xs, scv x = true) : Shp K N H (n + 1) (.ref a) := Shp.sq (.inl o) l fun x hx => Shp.sc (h x hx)
theorem Cpy.sc {F : Addr → Prop} {H0 H : Hp} {n : Nat} {v : V} (h : scv v = true) : Cpy K F H0 H n v v := by
  cases n with
  | zero => exact ⟨rfl, h⟩
  | succ n => exact Or.inl ⟨rfl, h⟩
theorem Cpy.split {F : Addr → Prop} {H0 H : Hp} {n : Nat} {v w : V} (h : Cpy K F H0 H n v w) : (v = w ∧ scv v = true) ∨ (∃ m, n = m + 1 ∧ ∃ (a b : Addr) (xs ys : List V), v = .ref a ∧ w = .ref b ∧ F b ∧ K.lookup b = none ∧ ((ob K H0 a = some (.tup xs) ∧ H b = some (.tup ys)) ∨ (ob K H0 a = some (.lst xs) ∧ H b = some (.lst ys))) ∧ xs.length = ys.length ∧ ys.length ≤ 1000 ∧ ∀ (i : Nat) x y, xs[i]? = some x → ys[i]? = some y → Cpy K F H0 H m x y) ∨
    ∃ m, n = m + 2 ∧ ∃ (a b : Addr) (ks ls : List (Key × V)), v = .ref a ∧ w = .ref b ∧ F b ∧ K.lookup b = none ∧ ob K H0 a = some (.dK ks) ∧ H b = some (.dK ls) ∧ ks.map (·.1) = ls.map (·.1) ∧ ls.length ≤ 1000 ∧ ∀ (i : Nat) p q, ks[i]? = some p → ls[i]? = some q → Cpy K F H0 H m p.2 q.2 := by
  match n, h with
  | 0, h => exact Or.inl h
  | n + 1, h =>
    rcases h with h | h | ⟨l, h⟩
    · exact Or.inl h
    · exact Or.inr (Or.inl ⟨n, rfl, h⟩)
    · match n, l with
      | m + 1, l => exact Or.inr (Or.inr ⟨m, rfl, h⟩)
theorem Cpy.sq {F : Addr → Prop} {H0 H : Hp} {n : Nat} {a b : Addr} {xs ys : List V} (f : F b) (kb : K.lookup b = none) (o : (ob K H0 a = some (.tup xs) ∧ H b = some (.tup ys)) ∨ (ob K H0 a = some (.lst xs) ∧ H b = some (.lst ys))) (l : xs.length = ys.length) (l2 : ys.length ≤ 1000) (h : ∀ (i : Nat) x y, xs[i]? = some x → ys[i]? = some y → Cpy K F H0 H n x y) : Cpy K F H0 H (n + 1) (.ref a) (.ref b) := Or.inr (Or.inl ⟨a, b, xs, ys, rfl, rfl, f, kb, o, l, l2, h⟩)
theorem Cpy.dk {F : Addr → Prop} {H0 H : Hp} {n : Nat} {a b : Addr} {ks ls : List (Key × V)} (f : F b) (kb : K.lookup b = none) (o : ob K H0 a = some (.dK ks)) (o2 : H b = some (.dK ls)) (l : ks.map (·.1) = ls.map (·.1)) (l2 : ls.length ≤ 1000) (h : ∀ (i : Nat) p q, ks[i]? = some p → ls[i]? = some q → Cpy K F H0 H n p.2 q.2) : Cpy K F H0 H (n + 2) (.ref a) (.ref b) := Or.inr (Or.inr ⟨by omega, a, b, ks, ls, rfl, rfl, f, kb, o, o2, l, l2, h⟩)
/-- the copy was made of what stood already -/
theorem Cpy.back {N : Addr → Prop} {F : Addr → Prop} {H H' H2 : Hp} (e : Same H H') : ∀ {n : Nat} {v w : V}, Shp K N H n v → Cpy K F H' H2 n v w → Cpy K F H H2 n v w
  | n, v, w, sh, c => by
    rcases c.split with ⟨rfl, h⟩ | ⟨m, rfl, a, b, xs, ys, rfl, rfl, f, kb, o, l, l2, h⟩ | ⟨m, rfl, a, b, ks, ls, rfl, rfl, f, kb, o, o2, l, l2, h⟩
    · exact Cpy.sc h
    · rcases sh.split with z | ⟨m', e', a', xs', ea, o', _, hs⟩ | ⟨m', e', a', ks', ea, na, o', _⟩
      · cases z
      · cases ea
        obtain rfl : m = m' := by omega
        have o' := o'.imp id And.right
        have ex : xs = xs' := by rcases o with o | o <;> rcases o' with o' | o' <;> (have z := (ob_same e o').symm.trans o.1; cases z <;> rfl)
        subst ex
        exact Cpy.sq f kb (by rcases o with o | o <;> rcases o' with o' | o' <;> first | exact Or.inl ⟨o', o.2⟩ | exact Or.inr ⟨o', o.2⟩ | (have z := (ob_same e o').symm.trans o.1; cases z)) l l2 fun i x y hx hy => Cpy.back e (hs x (List.mem_of_getElem? hx)) (h i x y hx hy)
      · cases ea
        rcases o with o | o <;> (have z := (ob_same e o').symm.trans o.1; cases z)
    · rcases sh.split with z | ⟨m', e', a', xs', ea, o', _, hs⟩ | ⟨m', e', a', ks', ea, na, o', _, _, hs⟩
      · cases z
      · cases ea
        rcases o' with o' | ⟨_, o'⟩ <;> (have z := (ob_same e o').symm.trans o; cases z)
      · cases ea
        obtain rfl : m = m' := by omega
        have z := (ob_same e o').symm.trans o
        cases z
        exact Cpy.dk f kb o' o2 l l2 fun i p q hp hq => Cpy.back e (hs p (List.mem_of_getElem? hp)) (h i p q hp hq)
/-- the copy's own objects stay -/
theorem Cpy.imp {F F' : Addr → Prop} {H0 H H' : Hp} (f : ∀ b, F b → F' b) (e : ∀ b o, F b → H b = some o → H' b = some o) : ∀ {n : Nat} {v w : V}, Cpy K F H0 H n v w → Cpy K F' H0 H' n v w
  | n, v, w, c => by
    rcases c.split with ⟨rfl, h⟩ | ⟨m, rfl, a, b, xs, ys, rfl, rfl, fb, kb, o, l, l2, h⟩ | ⟨m, rfl, a, b, ks, ls, rfl, rfl, fb, kb, o, o2, l, l2, h⟩
    · exact Cpy.sc h
    · exact Cpy.sq (f _ fb) kb (o.imp (fun z => ⟨z.1, e _ _ fb z.2⟩) (fun z => ⟨z.1, e _ _ fb z.2⟩)) l l2 fun i x y hx hy => Cpy.imp f e (h i x y hx hy)
    · exact Cpy.dk (f _ fb) kb o (e _ _ fb o2) l l2 fun i p q hp hq => Cpy.imp f e (h i p q hp hq)
theorem Cpy.eqv {F : Addr → Prop} {H0 H : Hp} (e : Same H0 H) : ∀ {n : Nat} {v w : V}, Cpy K F H0 H n v w → Eqv K H n v w
  | n, v, w, c => by
    rcases c.split with ⟨rfl, h⟩ | ⟨m, rfl, a, b, xs, ys, rfl, rfl, fb, kb, o, l, l2, h⟩ | ⟨m, rfl, a, b, ks, ls, rfl, rfl, fb, kb, o, o2, l, l2, h⟩
    · cases n with
      | zero => exact ⟨rfl, h⟩
      | succ n => exact Or.inl ⟨rfl, h⟩
    · exact Or.inr (Or.inl ⟨a, b, xs, ys, rfl, rfl, o.imp (fun z => ⟨ob_same e z.1, (ob_none kb).trans z.2⟩) (fun z => ⟨ob_same e z.1, (ob_none kb).trans z.2⟩), l, l2, fun i x y hx hy => Cpy.eqv e (h i x y hx hy)⟩)
    · exact Or.inr (Or.inr ⟨by omega, a, b, ks, ls, rfl, rfl, ob_same e o, (ob_none kb).trans o2, l, l2, fun i p q hp hq => Cpy.eqv e (h i p q hp hq)⟩)
def Dq (K : PySem.W.Frag) (H : Hp) : Nat → V → Prop
  | 0, v => scv v = true
  | q + 1, v => scv v = true ∨ (∃ (a : Addr) (xs : List V), v = .ref a ∧ (ob K H a = some (.tup xs) ∨ ob K H a = some (.lst xs)) ∧ ∀ x ∈ xs, Dq K H q x) ∨ ∃ (a : Addr) (ks : List (Key × V)), v = .ref a ∧ ob K H a = some (.dK ks) ∧ ∀ p ∈ ks, Dq K H q p.2
theorem Dq.sc {H : Hp} {v : V} (h : scv v = true) : ∀ q : Nat, Dq K H q v
  | 0 => h
  | _ + 1 => .inl h
theorem Dq.map {H H' : Hp} (e : ∀ (a : Addr) (z : HO), ob K H a = some z → (tyO (some z)).isSome → ob K H' a = some z) : ∀ {q : Nat} {v : V}, Dq K H q v → Dq K H' q v
  | 0, _, h => h
  | q + 1, _, .inl h => .inl h
  | q + 1, _, .inr (.inl ⟨a, xs, rfl, o, hx⟩) => .inr (.inl ⟨a, xs, rfl, o.imp (fun o => e a _ o rfl) (fun o => e a _ o rfl), fun x hx' => (hx x hx').map e⟩)
  | q + 1, _, .inr (.inr ⟨a, ks, rfl, o, hx⟩) => .inr (.inr ⟨a, ks, rfl, e a _ o rfl, fun p hp => (hx p hp).map e⟩)
theorem Dq.same {H H' : Hp} {q : Nat} {v : V} (h : Dq K H q v) (e : Same H H') : Dq K H' q v := h.map fun _ _ o _ => ob_same e o
theorem Dq.items {H : Hp} {q : Nat} {a : Addr} {xs : List V} (h : Dq K H q (.ref a)) (o : ob K H a = some (.tup xs) ∨ ob K H a = some (.lst xs)) : ∃ q', q = q' + 1 ∧ ∀ x ∈ xs, Dq K H q' x := by
  match q, h with
  | 0, h => cases h
  | q + 1, .inl h => cases h
  | q + 1, .inr (.inl ⟨b, ys, e, o', hx⟩) =>
    cases e
    refine ⟨q, rfl, ?_⟩
    rcases o with o | o <;> rcases o' with o' | o' <;> rw [o] at o' <;> cases o' <;> exact hx
  | q + 1, .inr (.inr ⟨b, ks, e, o', hx⟩) =>
    cases e
    rcases o with o | o <;> rw [o] at o' <;> cases o'
theorem Dq.vals {H : Hp} {q : Nat} {a : Addr} {ks : List (Key × V)} (h : Dq K H q (.ref a)) (o : ob K H a = some (.dK ks)) : ∃ q', q = q' + 1 ∧ ∀ p ∈ ks, Dq K H q' p.2 := by
  match q, h with
  | 0, h => cases h
  | q + 1, .inl h => cases h
  | q + 1, .inr (.inl ⟨b, ys, e, o', hx⟩) =>
    cases e
    rcases o' with o' | o' <;> rw [o] at o' <;> cases o'
  | q + 1, .inr (.inr ⟨b, ls, e, o', hx⟩) =>
    cases e
    rw [o] at o'
    cases o'
    exact ⟨q, rfl, hx⟩
def spK (K : PySem.W.Frag) (n : Nat) : Sp := fun vs H Q _ => ∃ (N : Addr → Prop) (v : V) (d : Int) (m q : Nat), vs = [v, .int d] ∧ m < n ∧ Shp K N H m v ∧ Dq K H q v ∧ (q : Int) < d ∧ ∀ w H', Same H H' → Cpy K (fun b => H b = none) H H' m v w → Q w H'
theorem valV_nd : ∀ {ks : List (Key × V)} {i : Nat} {r : Key × V}, (ks.map (·.1)).Nodup → ks[i]? = some r → valV ks r.1 = some r.2
  | [], i, r, _, h => by simp at h
  | p :: ks, 0, r, _, h => by
    cases h
    exact valV_pos rfl
  | p :: ks, i + 1, r, nd, h => by
    rw [List.map_cons, List.nodup_cons] at nd
    have h' : ks[i]? = some r := h
    rw [valV_neg (fun e => nd.1 (by rw [e]; exact List.mem_map.mpr ⟨r, List.mem_of_getElem? h', rfl⟩))]
    exact valV_nd nd.2 h'
theorem putK_new {acc : List (Key × V)} {k : Key} {v : V} (h : k ∉ acc.map (·.1)) : putK acc k v = acc ++ [(k, v)] := by
  unfold putK
  rw [if_neg]
  intro z
  obtain ⟨p, hp, e⟩ := List.any_eq_true.mp z
  exact h (List.mem_map.mpr ⟨p, hp, of_decide_eq_true e⟩)
theorem nd_take : ∀ {l : List Key} {i : Nat} {k : Key}, l.Nodup → l[i]? = some k → k ∉ l.take i
  | l, i, k, nd, h, hm => by
    obtain ⟨j, hj⟩ := List.mem_iff_getElem?.mp hm
    rw [List.getElem?_take] at hj
    split at hj
    · rename_i hlt
      have := (List.getElem?_inj (List.getElem?_eq_some_iff.mp hj).1 nd).mp (hj.trans h.symm)
      omega
    · cases hj
def KcI (K : PySem.W.Frag) (D : Addr) (xs : List V) (n : Nat) (H0 : Hp) (i : Nat) (H' : Hp) : Prop := ∃ acc : List V, acc.length = i ∧ H' D = some (.lst acc) ∧ Same H0 H' ∧ ∀ (j : Nat) x y, xs[j]? = some x → acc[j]? = some y → Cpy K (fun b => H0 b = none ∧ b ≠ D) H0 H' n x y
/-- the copied part of a dict -/
def KdI (K : PySem.W.Frag) (a p : Addr) (l : Addr) (d : Int) (ks : List (Key × V)) (n : Nat) (H0 : Hp) (i : Nat) (σ : L2.St) (H' : Hp) : Prop := ∃ (kv : Option V) (acc : List (Key × V)), σ = [some (.ref a), some (.int d), some (.ref p), kv, none] ∧ acc.map (·.1) = (ks.take i).map (·.1) ∧ H' p = some (.dK acc) ∧ H' l = some (.lst (ks.map fun kv => kV kv.1)) ∧ Same H0 H' ∧ ∀ (j : Nat) x y, ks[j]? = some x → acc[j]? = some y → Cpy K (fun b => H0 b = none ∧ b ≠ p) H0 H' n x.2 y.2
end
end My

namespace My
open PySem PySem.Spec PyProof.Rows L2
section
variable {P : Program} {w : World} {K : PySem.W.Frag} {mg : Str → Option Value} {base : Heap}
end
end My

namespace My
open PySem PySem.Spec PyProof.Rows L2
section
variable {P : Program} {w : World} {K : PySem.W.Frag} {mg : Str → Option Value} {base : Heap}
/-! ### displays of data, names read -/
theorem Shp.mono {N : Addr → Prop} {n : Nat} (H H' : Hp) (v : V) (e : Same H H') (h : Shp K N H n v) : Shp K N H' n v := h.same e
section
variable {N : Addr → Prop} {σ : L2.St} {H0 : Hp} {n m : Nat} {ta : TA} {te : TE}
theorem mkS_c {v : V} (h : scv v = true) : MkA σ H0 (fun H v => Shp K N H n v) (tC v) := fun H e Q k => k v H (Same.refl H) (Shp.sc h)
theorem mkS_v {i : Nat} {v : V} (hi : σ[i]? = some (some v)) (h : Shp K N H0 n v) : MkA σ H0 (fun H v => Shp K N H n v) (tVar i) := fun H e Q k => ⟨v, hi, k v H (Same.refl H) (h.same e)⟩
theorem mkS_i (e : ∀ H, Same H0 H → ∀ Q : VK, (∀ i : Int, Q (.int i) H) → te σ H Q) : MkA σ H0 (fun H v => Shp K N H n v) te := fun H s' Q k => e H s' Q fun i => k (.int i) H (Same.refl H) (Shp.sc rfl)
theorem mkS_x (e : ∀ H, Same H0 H → ∀ Q : VK, (∀ v : V, scv v = true → Q v H) → te σ H Q) : MkA σ H0 (fun H v => Shp K N H n v) te := fun H s' Q k => e H s' Q fun v hv => k v H (Same.refl H) (Shp.sc hv)
theorem mkS_t (h : MkAL σ H0 (fun H v => Shp K N H n v) m ta) (hl : m ≤ 100 := by decide) : MkA σ H0 (fun H v => Shp K N H (n + 1) v) (tTp K ta) := fun H e Q k =>
  h H e _ fun vs H1 s1 hn hv => ⟨by rw [sizeLine_eq]; omega, fun p hp kp => k _ _ (s1.trans (Same.new hp _)) (Shp.sq (.inl (ob_new kp)) (by omega) fun x hx => (hv x hx).same (Same.new hp _))⟩
theorem mkS_l (hs : ∀ p, H0 p = none → N p) (h : MkAL σ H0 (fun H v => Shp K N H n v) m ta) (hl : m ≤ 100 := by decide) : MkA σ H0 (fun H v => Shp K N H (n + 1) v) (tLs K ta) := fun H e Q k =>
  h H e _ fun vs H1 s1 hn hv => ⟨by rw [sizeLine_eq]; omega, fun p hp kp => k _ _ (s1.trans (Same.new hp _)) (Shp.sq (.inr ⟨hs p ((e.trans s1).free hp), ob_new kp⟩) (by omega) fun x hx => (hv x hx).same (Same.new hp _))⟩
theorem mkS_d (hs : ∀ p, H0 p = none → N p) : MkA σ H0 (fun H v => Shp K N H (n + 2) v) (tDn K) := fun H e Q k p hp kp => k _ _ (Same.new hp _) (Shp.dk (hs p (e.free hp)) (ob_new kp) (Nat.zero_le _) List.nodup_nil fun p hp => nomatch hp)
/-- a list display, read: its items -/
theorem lsS {Q : VK} (h : MkAL σ H0 (fun H v => Shp K N H n v) m ta) (hl : m ≤ 100)
    (k : ∀ vs p H', Same H0 H' → H0 p = none → K.lookup p = none → vs.length = m → (∀ v ∈ vs, Shp K N H' n v) → H' p = some (.lst vs) → Q (.ref p) H') : tLs K ta σ H0 Q :=
  lsA (R := fun H v => Shp K N H n v) Shp.mono h hl fun vs p H' e hp kp hn hv ho => k vs p H' e hp kp hn hv ho
end
theorem Sto.some {H : Hp} {s : Addr} (st : Sto K H s) : H s ≠ none := by
  obtain ⟨ys, hy⟩ := st.at
  rw [hy]
  exact fun e => by cases e
theorem Sto.ne0 {H : Hp} {s l : Addr} (st : Sto K H s) (hl : H l = none) : l ≠ s := by
  rintro rfl
  exact st.some hl
/-- the store, while -/
theorem Kp.free0 {H H' : Hp} {s p : Addr} (kp : Kp s H H') (st : Sto K H' s) (hp : H' p = none) : H p = none := by
  have ne := st.ne0 hp
  cases e : H p with
  | none => rfl
  | some o =>
    have := kp.1 p o ne e
    rw [hp] at this
    cases this
def spBadS (K : PySem.W.Frag) : Sp := fun vs H Q _ => ∃ s : Addr, vs = [.ref s] ∧ Sto K H s ∧ ∀ v H', Shp K (fun a => H a = none) H' 2 v → Kp s H H' → Sto K H' s → Q v H'
theorem Sto.ne' {H : Hp} {s l : Addr} (st : Sto K H s) (hl : H l = none) : l ≠ s := by
  rintro rfl
  obtain ⟨ys, hy⟩ := st.at
  rw [hy] at hl
  cases hl
theorem Kp.free {H H' : Hp} {s p : Addr} (kp : Kp s H H') (st : Sto K H' s) (hp : H' p = none) : H p = none := by
  have ne := st.ne' hp
  cases e : H p with
  | none => rfl
  | some o =>
    have := kp.1 p o ne e
    rw [hp] at this
    cases this
theorem Sto.ne {H : Hp} {s l : Addr} (st : Sto K H s) (hl : H l = none) : l ≠ s := by
  rintro rfl
  obtain ⟨ys, hy⟩ := st.at
  rw [hy] at hl
  cases hl
theorem Sto.mut {H0 H' : Hp} {s l : Addr} {o : HO} (st0 : Sto K H0 s) (hl : H0 l = none) (kp : Kp s H0 H') (st : Sto K H' s) : Sto K (upd H' l o) s ∧ Kp s H0 (upd H' l o) := by
  obtain ⟨sc0, ns0, i0, b0, c0, d0, e0, f0, g1, g2, g3⟩ := st0
  obtain ⟨sc, ns, i, b, c, d, e, f, h1, h2, h3⟩ := st
  obtain ⟨r', hr⟩ := kp.2 _ _ g1
  rw [h1] at hr
  cases hr
  have n1 : s ≠ l := by rintro rfl; rw [g1] at hl; cases hl
  have n2 : sc0 ≠ l := by rintro rfl; rw [g2] at hl; cases hl
  refine ⟨⟨sc0, ns, i, b, c, d, e, f, by rw [upd_ne n1]; exact h1, by rw [upd_ne n2]; exact h2, h3⟩, fun b o n e => ?_, fun x r e => ?_⟩
  · rw [upd_ne (ne_of_none e hl)]
    exact kp.1 b o n e
  · obtain ⟨r2, hr2⟩ := kp.2 x r e
    exact ⟨r2, by rw [upd_ne n1]; exact hr2⟩
theorem ob_upd {H : Hp} {D a : Addr} {o z : HO} {xs : List V} (hD : H D = some (.lst xs)) (h : ob K H a = some z) (n : a ≠ D ∨ ∃ ys, z = .tup ys) : ob K (upd H D o) a = some z := by
  unfold ob at h ⊢
  split
  · rename_i q
    rw [q] at h
    exact h
  · rename_i q
    rw [q] at h
    have h : H a = some z := h
    have na : a ≠ D := by
      rcases n with n | ⟨ys, rfl⟩
      · exact n
      · rintro rfl
        rw [hD] at h
        cases h
    exact (upd_ne na).trans h
end
end My

namespace My
open PySem PySem.Spec PyProof.Rows L2
section
variable {P : Program} {w : World} {K : PySem.W.Frag} {mg : Str → Option Value} {base : Heap}
theorem nf_int (w : Int) : Nf (w, 1) := ⟨by show (1 : Int) ≤ 1; omega, by show Int.gcd w 1 = 1; exact Int.gcd_one_right _⟩
theorem sz_of {x y : Int} {k : Nat} (h1 : x.natAbs < 2 ^ k) (h2 : y.natAbs < 2 ^ k) : Sz k (x, y) := ⟨h1, h2⟩
theorem ne_new {H : Hp} {s p : Addr} {ys : List V} (h : H s = some (.lst ys)) (hp : H p = none) : s ≠ p := ne_of_none h hp
/-- a place at a -/
structure Pq (K : PySem.W.Frag) (H : Hp) (n : Nat) (a : Addr) (q : Qt) : Prop where
  f : Fq K H n a q
  lo : 0 ≤ q.1
  hi : q.1 < q.2
theorem Pq.mono {H : Hp} {j n : Nat} {a : Addr} {q : Qt} (h : Pq K H j a q) (l : j ≤ n) : Pq K H n a q := ⟨h.f.mono l, h.lo, h.hi⟩
theorem Pq.same {H H' : Hp} {n : Nat} {a : Addr} {q : Qt} (h : Pq K H n a q) (s : Same H H') : Pq K H' n a q := ⟨h.f.same s, h.lo, h.hi⟩
theorem Pq.kp {H H' : Hp} {n : Nat} {a s : Addr} {q : Qt} {ys : List V} (h : Pq K H n a q) (e : Kp s H H') (hs : H s = some (.lst ys)) : Pq K H' n a q := ⟨h.f.kp e hs, h.lo, h.hi⟩
theorem is_in {q : Qt} {t b : Int} (h : Is q t b) (h0 : 0 ≤ t) (h1 : t < b) : 0 ≤ q.1 ∧ q.1 < q.2 := by
  have e := h.2
  have n := h.1.1
  have b0 : 0 < b := by omega
  refine ⟨Int.not_lt.mp fun c => ?_, Int.not_le.mp fun c => ?_⟩
  · have z1 : q.1 * b < 0 := Int.mul_neg_of_neg_of_pos c b0
    have z2 : 0 ≤ t * q.2 := Int.mul_nonneg h0 (by omega)
    omega
  · have z1 : q.2 * b ≤ q.1 * b := Int.mul_le_mul_of_nonneg_right c (by omega)
    have z2 : t * q.2 < b * q.2 := Int.mul_lt_mul_of_pos_right h1 (by omega)
    have z3 : q.2 * b = b * q.2 := Int.mul_comm _ _
    omega
def spDPlace (K : PySem.W.Frag) (n : Nat) : Sp := fun vs H Q _ => ∃ (s : Addr), vs = [.ref s] ∧ Sto K H s ∧ ∀ a q H', Pq K H' n a q → Kp s H H' → Sto K H' s → Q (.ref a) H'
theorem nf1112 : Nf (11, 12) := ⟨by decide, by decide⟩
theorem nf21 : Nf (2, 1) := ⟨by decide, by decide⟩
theorem nf112 : Nf (1, 12) := ⟨by decide, by decide⟩
abbrev sDPlace : Stmt := topS 61
theorem scDPlace : FnScope ["_law_store_here", "_law_spot", "_law_bottom"] ["_law_store_here"] (defScope sDPlace) := ⟨rfl, rfl, rfl, by decide +kernel, rfl, by decide +kernel, by decide +kernel⟩
theorem k_DPlace (T : Bt K mg) (D : Dfn K mg "_law_place" sDPlace ["_law_store_here"]) (d__law_take : Kn P w K mg base 2 "_law_take" ["_law_store_here", "_law_many"] (spTake K)) (d__law_lowest : Kn P w K mg base 2 "_law_lowest" ["_law_top", "_law_bottom"] (spLowest K)) : Kn P w K mg base 3 "_law_place" ["_law_store_here"] (spDPlace K 10) := by
  refine Kn.mk' D scDPlace (fun vs H Q E h => ?_) (fun f cdv A outer s H vs Q E hr h => ?_)
  · obtain ⟨s, rfl, _⟩ := h
    rfl
  obtain ⟨s, rfl, hS, k⟩ := h
  refine ⟨_, (pss_cons (ps_set (i := 1) scDPlace.nd rfl (.inl rfl) (pe_kn d__law_take hr (by rfl) (pa_cons (pv 0) (pa_cons pe_int pa_nil))))
      (pss_cons (ps_if (pt_cmpR op_lt (pv 1) pe_int (nomark _)) (pss_one (ps_ret (pe_ix ix_any (pe_ls (pa_cons (pe_tp (pa_cons pe_int (pa_cons pe_int pa_nil))) (pa_cons (pe_tp (pa_cons pe_int (pa_cons pe_int pa_nil))) (pa_cons (pe_tp (pa_cons pe_int (pa_cons pe_int pa_nil))) pa_nil)))) (pv 1) (fun _ _ => rfl)))) pss_nil)
      (pss_cons (ps_set (i := 2) scDPlace.nd rfl (.inl rfl) (pe_op op_add pe_int (pe_kn d__law_take hr (by rfl) (pa_cons (pv 0) (pa_cons pe_int pa_nil)))))
      (pss_one (ps_ret (pe_kn d__law_lowest hr (by rfl) (pa_cons (pe_kn d__law_take hr (by rfl) (pa_cons (pv 0) (pa_cons (pv 2) pa_nil))) (pa_cons (pv 2) pa_nil)))))))), ?_⟩
  simp only [cx_K, decide_true, decide_false, reduceCtorEq, gTp, gCons, gNil, ca_0, ca_1, ca_2, ca_3, ca_4, ca_5, ca_6, ca_7, ca_8, ca_9, ca_10, ca_11, ca_12, ca_13, ca_14, ca_15, ca_16, ca_17, ca_18, ca_19, ca_20, ca_21, ca_22, ca_23, ca_24, ca_25, ca_26, ca_27, ca_28, ca_29, ca_30, not_true_eq_false, not_false_eq_true, Int.reduceEq, Nat.reduceEqDiff, Nat.reduceLeDiff, rGcd, V.ty.injEq, eq_self, List.not_mem_nil, beq_self_eq_true, HO.lst.injEq, HO.tup.injEq, tFor_eq, iRng1, iList, iTup, nat10, tSeq, rIxA, rSetA, rIsN, rIsT, tTp, tLs, itsO_tup, itsO_lst, tyO_tup, tyO_lst, tyO_dK, tyN_non, tyN_bl, tyN_int, tyN_str, tyN_ref, tyNs_lt, isB, upd_same, upd_upd, sizeLine_eq, List.mem_cons, String.reduceBEq, String.reduceEq, Bool.or_false, Bool.or_true, Bool.and_false, Bool.false_or, Bool.and_self, Bool.false_and, Bool.not_false, Bool.not_true, List.any_cons, List.any_nil, atI_0, setI_0, atI_1, setI_1, atI_2, setI_2, atI_3, setI_3, atI_4, setI_4, atI_5, setI_5, atI_6, setI_6, tAsg, gName, tOp, tUn, tVar, tC, tCons, L2.tNil, tRet, tIfS, tTest, tCB, tCall, rI, rI0, rU, tNext, tB, tAnd, tOr, tNot, tAndV, tOrV, tNotV, tDrop, tIf, tPar, gSub, rIxL, rIxT, rEq, rNe, rSetL, tBits,
    L2.start, List.map_cons, List.map_nil, List.cons_append, List.nil_append, List.append_nil, List.length_cons, List.length_nil, List.replicate, Nat.reduceAdd, Nat.reduceSub, Nat.zero_add, List.getElem?_cons_zero, List.getElem?_cons_succ, List.set_cons_zero, List.set_cons_succ,
    Option.some.injEq, exists_eq_left', exists_eq_left, V.int.injEq, V.bl.injEq, V.ref.injEq, V.str.injEq, List.cons.injEq, reduceCtorEq, and_true, true_and, false_and, and_false, exists_false, or_false, false_or, or_true, true_or, exists_const, CMul, CDiv, CPow, and_assoc, exists_and_left, exists_and_right, Int.reducePow, Int.reduceNeg, Int.reduceLT, Int.reduceLE, Nat.reducePow, Nat.reduceLT, Int.reduceToNat, gt_iff_lt, ge_iff_le, decide_eq_true_eq, Bool.not_eq_true', decide_eq_false_iff_not, scal, ↓reduceIte, Bool.false_eq_true]
  refine ⟨s, 12, rfl, hS, by omega, fun i H1 z0 z1 kp st => ?_⟩
  simp only [cx_K, decide_true, decide_false, reduceCtorEq, gTp, gCons, gNil, ca_0, ca_1, ca_2, ca_3, ca_4, ca_5, ca_6, ca_7, ca_8, ca_9, ca_10, ca_11, ca_12, ca_13, ca_14, ca_15, ca_16, ca_17, ca_18, ca_19, ca_20, ca_21, ca_22, ca_23, ca_24, ca_25, ca_26, ca_27, ca_28, ca_29, ca_30, not_true_eq_false, not_false_eq_true, Int.reduceEq, Nat.reduceEqDiff, Nat.reduceLeDiff, rGcd, V.ty.injEq, eq_self, List.not_mem_nil, beq_self_eq_true, HO.lst.injEq, HO.tup.injEq, tFor_eq, iRng1, iList, iTup, nat10, tSeq, rIxA, rSetA, rIsN, rIsT, tTp, tLs, itsO_tup, itsO_lst, tyO_tup, tyO_lst, tyO_dK, tyN_non, tyN_bl, tyN_int, tyN_str, tyN_ref, tyNs_lt, isB, upd_same, upd_upd, sizeLine_eq, List.mem_cons, String.reduceBEq, String.reduceEq, Bool.or_false, Bool.or_true, Bool.and_false, Bool.false_or, Bool.and_self, Bool.false_and, Bool.not_false, Bool.not_true, List.any_cons, List.any_nil, atI_0, setI_0, atI_1, setI_1, atI_2, setI_2, atI_3, setI_3, atI_4, setI_4, atI_5, setI_5, atI_6, setI_6, tAsg, gName, tOp, tUn, tVar, tC, tCons, L2.tNil, tRet, tIfS, tTest, tCB, tCall, rI, rI0, rU, tNext, tB, tAnd, tOr, tNot, tAndV, tOrV, tNotV, tDrop, tIf, tPar, gSub, rIxL, rIxT, rEq, rNe, rSetL, tBits,
    L2.start, List.map_cons, List.map_nil, List.cons_append, List.nil_append, List.append_nil, List.length_cons, List.length_nil, List.replicate, Nat.reduceAdd, Nat.reduceSub, Nat.zero_add, List.getElem?_cons_zero, List.getElem?_cons_succ, List.set_cons_zero, List.set_cons_succ,
    Option.some.injEq, exists_eq_left', exists_eq_left, V.int.injEq, V.bl.injEq, V.ref.injEq, V.str.injEq, List.cons.injEq, reduceCtorEq, and_true, true_and, false_and, and_false, exists_false, or_false, false_or, or_true, true_or, exists_const, CMul, CDiv, CPow, and_assoc, exists_and_left, exists_and_right, Int.reducePow, Int.reduceNeg, Int.reduceLT, Int.reduceLE, Nat.reducePow, Nat.reduceLT, Int.reduceToNat, gt_iff_lt, ge_iff_le, decide_eq_true_eq, Bool.not_eq_true', decide_eq_false_iff_not, scal, ↓reduceIte, Bool.false_eq_true]
  refine ite2 (fun h => ?_) (fun h => ?_)
  · intro p1 h1 k1 p2 h2 k2 p3 h3 k3 p4 h4 k4
    rw [ob_new k4]
    simp only [cx_K, decide_true, decide_false, reduceCtorEq, gTp, gCons, gNil, ca_0, ca_1, ca_2, ca_3, ca_4, ca_5, ca_6, ca_7, ca_8, ca_9, ca_10, ca_11, ca_12, ca_13, ca_14, ca_15, ca_16, ca_17, ca_18, ca_19, ca_20, ca_21, ca_22, ca_23, ca_24, ca_25, ca_26, ca_27, ca_28, ca_29, ca_30, not_true_eq_false, not_false_eq_true, Int.reduceEq, Nat.reduceEqDiff, Nat.reduceLeDiff, rGcd, V.ty.injEq, eq_self, List.not_mem_nil, beq_self_eq_true, HO.lst.injEq, HO.tup.injEq, tFor_eq, iRng1, iList, iTup, nat10, tSeq, rIxA, rSetA, rIsN, rIsT, tTp, tLs, itsO_tup, itsO_lst, tyO_tup, tyO_lst, tyO_dK, tyN_non, tyN_bl, tyN_int, tyN_str, tyN_ref, tyNs_lt, isB, upd_same, upd_upd, sizeLine_eq, List.mem_cons, String.reduceBEq, String.reduceEq, Bool.or_false, Bool.or_true, Bool.and_false, Bool.false_or, Bool.and_self, Bool.false_and, Bool.not_false, Bool.not_true, List.any_cons, List.any_nil, atI_0, setI_0, atI_1, setI_1, atI_2, setI_2, atI_3, setI_3, atI_4, setI_4, atI_5, setI_5, atI_6, setI_6, tAsg, gName, tOp, tUn, tVar, tC, tCons, L2.tNil, tRet, tIfS, tTest, tCB, tCall, rI, rI0, rU, tNext, tB, tAnd, tOr, tNot, tAndV, tOrV, tNotV, tDrop, tIf, tPar, gSub, rIxL, rIxT, rEq, rNe, rSetL, tBits,
    L2.start, List.map_cons, List.map_nil, List.cons_append, List.nil_append, List.append_nil, List.length_cons, List.length_nil, List.replicate, Nat.reduceAdd, Nat.reduceSub, Nat.zero_add, List.getElem?_cons_zero, List.getElem?_cons_succ, List.set_cons_zero, List.set_cons_succ,
    Option.some.injEq, exists_eq_left', exists_eq_left, V.int.injEq, V.bl.injEq, V.ref.injEq, V.str.injEq, List.cons.injEq, reduceCtorEq, and_true, true_and, false_and, and_false, exists_false, or_false, false_or, or_true, true_or, exists_const, CMul, CDiv, CPow, and_assoc, exists_and_left, exists_and_right, Int.reducePow, Int.reduceNeg, Int.reduceLT, Int.reduceLE, Nat.reducePow, Nat.reduceLT, Int.reduceToNat, gt_iff_lt, ge_iff_le, decide_eq_true_eq, Bool.not_eq_true', decide_eq_false_iff_not, scal, ↓reduceIte, Bool.false_eq_true]
    refine menu z0 (by show i < 3; omega) fun v hv => ?_
    simp only [List.mem_cons, List.not_mem_nil, or_false] at hv
    rcases hv with rfl | rfl | rfl
    · exact k _ _ _ ⟨⟨ob_same ((Same.new h2 _).trans ((Same.new h3 _).trans (Same.new h4 _))) (ob_new k1), nf01, sz10 (by decide) (by decide)⟩, by decide, by decide⟩ (kp.trans (Kp.same ((Same.new h1 _).trans ((Same.new h2 _).trans ((Same.new h3 _).trans (Same.new h4 _)))))) (st.same ((Same.new h1 _).trans ((Same.new h2 _).trans ((Same.new h3 _).trans (Same.new h4 _)))))
    · exact k _ _ _ ⟨⟨ob_same ((Same.new h3 _).trans (Same.new h4 _)) (ob_new k2), nf12, sz10 (by decide) (by decide)⟩, by decide, by decide⟩ (kp.trans (Kp.same ((Same.new h1 _).trans ((Same.new h2 _).trans ((Same.new h3 _).trans (Same.new h4 _)))))) (st.same ((Same.new h1 _).trans ((Same.new h2 _).trans ((Same.new h3 _).trans (Same.new h4 _)))))
    · exact k _ _ _ ⟨⟨ob_same (Same.new h4 _) (ob_new k3), nf1112, sz10 (by decide) (by decide)⟩, by decide, by decide⟩ (kp.trans (Kp.same ((Same.new h1 _).trans ((Same.new h2 _).trans ((Same.new h3 _).trans (Same.new h4 _)))))) (st.same ((Same.new h1 _).trans ((Same.new h2 _).trans ((Same.new h3 _).trans (Same.new h4 _)))))
  · refine ⟨s, 12, rfl, st, by omega, fun j H2 j0 j1 kp2 st2 => ?_⟩
    simp only [cx_K, decide_true, decide_false, reduceCtorEq, gTp, gCons, gNil, ca_0, ca_1, ca_2, ca_3, ca_4, ca_5, ca_6, ca_7, ca_8, ca_9, ca_10, ca_11, ca_12, ca_13, ca_14, ca_15, ca_16, ca_17, ca_18, ca_19, ca_20, ca_21, ca_22, ca_23, ca_24, ca_25, ca_26, ca_27, ca_28, ca_29, ca_30, not_true_eq_false, not_false_eq_true, Int.reduceEq, Nat.reduceEqDiff, Nat.reduceLeDiff, rGcd, V.ty.injEq, eq_self, List.not_mem_nil, beq_self_eq_true, HO.lst.injEq, HO.tup.injEq, tFor_eq, iRng1, iList, iTup, nat10, tSeq, rIxA, rSetA, rIsN, rIsT, tTp, tLs, itsO_tup, itsO_lst, tyO_tup, tyO_lst, tyO_dK, tyN_non, tyN_bl, tyN_int, tyN_str, tyN_ref, tyNs_lt, isB, upd_same, upd_upd, sizeLine_eq, List.mem_cons, String.reduceBEq, String.reduceEq, Bool.or_false, Bool.or_true, Bool.and_false, Bool.false_or, Bool.and_self, Bool.false_and, Bool.not_false, Bool.not_true, List.any_cons, List.any_nil, atI_0, setI_0, atI_1, setI_1, atI_2, setI_2, atI_3, setI_3, atI_4, setI_4, atI_5, setI_5, atI_6, setI_6, tAsg, gName, tOp, tUn, tVar, tC, tCons, L2.tNil, tRet, tIfS, tTest, tCB, tCall, rI, rI0, rU, tNext, tB, tAnd, tOr, tNot, tAndV, tOrV, tNotV, tDrop, tIf, tPar, gSub, rIxL, rIxT, rEq, rNe, rSetL, tBits,
    L2.start, List.map_cons, List.map_nil, List.cons_append, List.nil_append, List.append_nil, List.length_cons, List.length_nil, List.replicate, Nat.reduceAdd, Nat.reduceSub, Nat.zero_add, List.getElem?_cons_zero, List.getElem?_cons_succ, List.set_cons_zero, List.set_cons_succ,
    Option.some.injEq, exists_eq_left', exists_eq_left, V.int.injEq, V.bl.injEq, V.ref.injEq, V.str.injEq, List.cons.injEq, reduceCtorEq, and_true, true_and, false_and, and_false, exists_false, or_false, false_or, or_true, true_or, exists_const, CMul, CDiv, CPow, and_assoc, exists_and_left, exists_and_right, Int.reducePow, Int.reduceNeg, Int.reduceLT, Int.reduceLE, Nat.reducePow, Nat.reduceLT, Int.reduceToNat, gt_iff_lt, ge_iff_le, decide_eq_true_eq, Bool.not_eq_true', decide_eq_false_iff_not, scal, ↓reduceIte, Bool.false_eq_true]
    refine ⟨s, _, rfl, st2, by omega, fun m H3 m0 m1 kp3 st3 => ?_⟩
    simp only [cx_K, decide_true, decide_false, reduceCtorEq, gTp, gCons, gNil, ca_0, ca_1, ca_2, ca_3, ca_4, ca_5, ca_6, ca_7, ca_8, ca_9, ca_10, ca_11, ca_12, ca_13, ca_14, ca_15, ca_16, ca_17, ca_18, ca_19, ca_20, ca_21, ca_22, ca_23, ca_24, ca_25, ca_26, ca_27, ca_28, ca_29, ca_30, not_true_eq_false, not_false_eq_true, Int.reduceEq, Nat.reduceEqDiff, Nat.reduceLeDiff, rGcd, V.ty.injEq, eq_self, List.not_mem_nil, beq_self_eq_true, HO.lst.injEq, HO.tup.injEq, tFor_eq, iRng1, iList, iTup, nat10, tSeq, rIxA, rSetA, rIsN, rIsT, tTp, tLs, itsO_tup, itsO_lst, tyO_tup, tyO_lst, tyO_dK, tyN_non, tyN_bl, tyN_int, tyN_str, tyN_ref, tyNs_lt, isB, upd_same, upd_upd, sizeLine_eq, List.mem_cons, String.reduceBEq, String.reduceEq, Bool.or_false, Bool.or_true, Bool.and_false, Bool.false_or, Bool.and_self, Bool.false_and, Bool.not_false, Bool.not_true, List.any_cons, List.any_nil, atI_0, setI_0, atI_1, setI_1, atI_2, setI_2, atI_3, setI_3, atI_4, setI_4, atI_5, setI_5, atI_6, setI_6, tAsg, gName, tOp, tUn, tVar, tC, tCons, L2.tNil, tRet, tIfS, tTest, tCB, tCall, rI, rI0, rU, tNext, tB, tAnd, tOr, tNot, tAndV, tOrV, tNotV, tDrop, tIf, tPar, gSub, rIxL, rIxT, rEq, rNe, rSetL, tBits,
    L2.start, List.map_cons, List.map_nil, List.cons_append, List.nil_append, List.append_nil, List.length_cons, List.length_nil, List.replicate, Nat.reduceAdd, Nat.reduceSub, Nat.zero_add, List.getElem?_cons_zero, List.getElem?_cons_succ, List.set_cons_zero, List.set_cons_succ,
    Option.some.injEq, exists_eq_left', exists_eq_left, V.int.injEq, V.bl.injEq, V.ref.injEq, V.str.injEq, List.cons.injEq, reduceCtorEq, and_true, true_and, false_and, and_false, exists_false, or_false, false_or, or_true, true_or, exists_const, CMul, CDiv, CPow, and_assoc, exists_and_left, exists_and_right, Int.reducePow, Int.reduceNeg, Int.reduceLT, Int.reduceLE, Nat.reducePow, Nat.reduceLT, Int.reduceToNat, gt_iff_lt, ge_iff_le, decide_eq_true_eq, Bool.not_eq_true', decide_eq_false_iff_not, scal, ↓reduceIte, Bool.false_eq_true]
    refine ⟨_, _, rfl, ?_, fun q hq p H4 s4 o4 => ?_⟩
    · have e : 2 ^ 10 ≤ 2 ^ 8000 := Nat.pow_le_pow_right (by omega) (by omega)
      omega
    · have hI := hq.2 (show 1 + j ≠ 0 by omega)
      have hz := is_in hI m0 (by omega)
      exact k p q H4 ⟨⟨o4, hI.1, is_sz (by omega) hI (by omega) (by omega)⟩, hz.1, hz.2⟩ (((kp.trans kp2).trans kp3).trans (Kp.same s4)) (st3.same s4)
def spDPos (K : PySem.W.Frag) : Sp := fun vs H Q _ => ∃ (s : Addr), vs = [.ref s] ∧ Sto K H s ∧ ∀ a q H', (Fq K H' 10 a q ∧ 0 < q.1) → Kp s H H' → Sto K H' s → Q (.ref a) H'
def spDNz (K : PySem.W.Frag) : Sp := fun vs H Q _ => ∃ (s : Addr), vs = [.ref s] ∧ Sto K H s ∧ ∀ a q H', Fq K H' 10 a q → q.1 ≠ 0 → Kp s H H' → Sto K H' s → Q (.ref a) H'
theorem is_pos {q : Qt} {t b : Int} (h : Is q t b) (h0 : 0 < t) (h1 : 0 < b) : 0 < q.1 := by
  have e := h.2
  have n := h.1.1
  refine Int.not_le.mp fun c => ?_
  have z1 : 0 < t * q.2 := Int.mul_pos h0 (by omega)
  have z2 : q.1 * b ≤ 0 := Int.mul_nonpos_of_nonpos_of_nonneg c (by omega)
  omega
def spMoment (K : PySem.W.Frag) : Sp := fun vs H Q _ => ∃ (s : Addr) (r : Int), vs = [.ref s, .int r] ∧ Sto K H s ∧ 1 ≤ r ∧ r < 2 ^ 60 ∧ ∀ a q H', Fq K H' 70 a q → Kp s H H' → Sto K H' s → Q (.ref a) H'
end
end My

namespace My
open PySem PySem.Spec PyProof.Rows L2
/-- a comprehension over zip of two lists, the second one not the longer -/
theorem lc_zip {K : PySem.W.Frag} {a b : Addr} {xs ys : List V} {g : TG} {tt : TT} {te : TE} {vs : List Nat} {σ : L2.St} {H1 : Hp} {D : Addr} {Qd : Hp → Prop} (hle : ys.length ≤ xs.length) (Pv : Nat → Hp → Prop) (h0 : Pv 0 (upd H1 D (.lst []))) (hl : ∀ i H, i ≤ ys.length → Pv i H → SqL K H a xs ∧ SqL K H b ys)
    (hs : ∀ (i : Nat) (x y : V) (T : Addr) (H : Hp), xs[i]? = some x → ys[i]? = some y → Pv i H → H T = none → g (.ref T) (wipe σ vs) (upd H T (.tup [x, y])) fun σ2 H2 => wipe σ2 vs = wipe σ vs ∧ tt σ2 H2 fun b H3 =>
      if b = true then te σ2 H3 fun y H4 => ∃ acc, H4 D = some (.lst acc) ∧ acc.length < sizeLine ∧ Pv (i + 1) (upd H4 D (.lst (acc ++ [y]))) else Pv (i + 1) H3) (hd : ∀ H, Pv ys.length H → Qd H) :
    ∃ W : Nat → Nat → Hp → Prop, (∃ m, W 0 m (upd H1 D (.lst []))) ∧ ∀ i m H, W i m H →
      ((Itz K a b).stop i H ∧ Qd H) ∨ ((Itz K a b).go i H ∧ ∃ Nx : Hp → Prop, (∀ H', Nx H' → ∃ m', m' < m ∧ W (i + 1) m' H') ∧ ∀ x H', (Itz K a b).yld i H x H' → g x (wipe σ vs) H' fun σ2 H2 => wipe σ2 vs = wipe σ vs ∧ tt σ2 H2 fun b H3 =>
        if b = true then te σ2 H3 fun y H4 => ∃ acc, H4 D = some (.lst acc) ∧ acc.length < sizeLine ∧ Nx (upd H4 D (.lst (acc ++ [y]))) else Nx H3) := by
  refine ⟨fun i m H => m = ys.length - i ∧ i ≤ ys.length ∧ Pv i H, ⟨ys.length, by simp, Nat.zero_le _, h0⟩, ?_⟩
  rintro i m H ⟨rfl, hi, p⟩
  obtain ⟨qx, qy⟩ := hl i H hi p
  by_cases hlt : i < ys.length
  · have hx : xs[i]? = some xs[i] := List.getElem?_eq_getElem (by omega)
    have hy : ys[i]? = some ys[i] := List.getElem?_eq_getElem hlt
    refine .inr ⟨⟨xs, ys, _, _, qx, qy, hx, hy⟩, Pv (i + 1), fun H' p' => ⟨ys.length - (i + 1), by omega, rfl, hlt, p'⟩, fun v H' y => ?_⟩
    obtain ⟨T, x', y', rfl, hT, rfl, f1, f2⟩ := y
    exact hs i x' y' T H (f1 xs qx) (f2 ys qy) p hT
  · have e : i = ys.length := by omega
    subst e
    exact .inl ⟨⟨xs, ys, qx, qy, Or.inr (Nat.le_refl _)⟩, hd H p⟩
end My

namespace MyZ
open PySem PySem.Calls PyProof.Rows RZ
section
variable {prog : Program} {w : World} {A : Around} {E : Value → Shared → Prop} {s : Shared}
theorem zip_no_len : typeLookup (.type "zip") "__len__" = pure none := am_miss_of_fast (by decide +kernel)
theorem zip_no_hint : typeLookup (.type "zip") "__length_hint__" = pure none := am_miss_of_fast (by decide +kernel)
/-- the next pair of two tuples, while the pair before is held -/
theorem next_item {z TI TO T i1 i2 l1 l2 : Addr} {f : Bool} {oT : Obj} {k1 k2 : Nat} {xs ys : Array Value} {x y : Value} {Q : Option Value → Shared → Prop} (D : ZipApart z TI TO i1 i2 l1 l2)
    (hz : IsZipHeld s.heap z TI TO T f) (hT : s.heap.get? T = some oT) (hTI : IsPair s.heap TI (.ref i1) (.ref i2))
    (h1 : s.heap.IsTupleIter i1 l1 k1) (h2 : s.heap.IsTupleIter i2 l2 k2) (hl1 : s.heap.IsTuple l1 xs) (hl2 : s.heap.IsTuple l2 ys) (hx : xs[k1]? = some x) (hy : ys[k2]? = some y)
    (hQ : ∀ h', IsZipHeld h' z TI TO T true → h'.IsTupleIter i1 l1 (k1 + 1) → h'.IsTupleIter i2 l2 (k2 + 1) → IsPair h' s.heap.objs.size x y → h'.objs.size = s.heap.objs.size + 1 →
      (∀ c o, c ≠ z → c ≠ i1 → c ≠ i2 → s.heap.get? c = some o → h'.get? c = some o) → Q (some (.ref s.heap.objs.size)) { s with heap := h' }) :
    wpAny (model prog w) A (pyNext (.ref z)) Q E s := by
  have hTy : s.TypeIs (.ref z) "zip" := ⟨_, hz, rfl⟩
  unfold pyNext
  refine wpAny_bind (wpAny_attempt (wpAny_callSpecial?_slot (name := Str.ofString "__next__") hTy F.slot_zip_next
    (wpAny_call_entry F.slot_zip_next hTy F.entry_zip_next ?_ (F.args_zip_next_1 _))))
  show wpAny _ _ (field (.ref z) 2 >>= _) _ _ _
  refine wpAny_bind (wpAny_field hz rfl (x := .bool false) rfl ?_)
  show wpAny _ _ (field (.ref z) 3 >>= _) _ _ _
  refine wpAny_bind (wpAny_field hz rfl (x := .ref TI) rfl ?_)
  refine wpAny_bind (wpAny_seqItems hTI rfl ?_)
  show wpAny _ _ (Builtin.SmallTypes.ownedTupleIsFree (.ref z) >>= _) _ _ _
  refine wpAny_bind (wpAny_tupleHeld_zip hz hT fun g1 z1 b1 => ?_)
  simp only [Bool.false_eq_true, if_false]
  refine wpAny_bind ?_
  rw [← Array.forIn_toList]
  simp only [List.forIn_cons, List.forIn_nil]
  refine wpAny_bind (wpAny_bind (wpAny_holding ?_))
  show wpAny _ _ (Builtin.SmallTypes.nextOf (.ref i1) >>= _) _ _ _
  refine wpAny_bind (nextOf_tuple_item (s := { s with heap := g1 }) (h1.extBut b1.extBut D.i1z) (hl1.extBut b1.extBut D.l1z) hx fun g2 n1 b2 => wpAny_pure ?_)
  refine wpAny_pure ?_
  refine wpAny_bind (wpAny_bind (wpAny_holding ?_))
  show wpAny _ _ (Builtin.SmallTypes.nextOf (.ref i2) >>= _) _ _ _
  refine wpAny_bind (nextOf_tuple_item (s := { s with heap := g2 }) ((h2.extBut b1.extBut D.i2z).extBut b2.extBut D.i12.symm) ((hl2.extBut b1.extBut D.l2z).extBut b2.extBut D.l2i1) hy fun g3 n2 b3 => wpAny_pure ?_)
  refine wpAny_pure (wpAny_pure ?_)
  show wpAny _ _ (newTuple [x, y] >>= _) _ _ _
  refine wpAny_bind (wpAny_newTuple ?_)
  have hsz : g3.objs.size = s.heap.objs.size := by rw [b3.1, b2.1, b1.1]
  have z3 : IsZipHeld g3 z TI TO T true := b3.extBut _ _ D.i2z.symm (b2.extBut _ _ D.i1z.symm z1)
  have hk : ∀ c o, c ≠ z → c ≠ i1 → c ≠ i2 → s.heap.get? c = some o → g3.get? c = some o := fun c o c1 c2 c3 e => b3.extBut _ _ c3 (b2.extBut _ _ c2 (b1.extBut _ _ c1 e))
  have m1 : g3.IsTupleIter i1 l1 (k1 + 1) := n1.extBut b3.extBut D.i12
  refine wpAny_pure ⟨_, rfl, wpAny_pure ?_⟩
  show Q (some (.ref g3.objs.size)) _
  have hp : IsPair (g3.push { cls := .type "tuple", data := .seq #[x, y] }) g3.objs.size x y := Heap.get?_push_size _ rfl
  have z4 : (g3.push { cls := .type "tuple", data := .seq #[x, y] }).objs.size = g3.objs.size + 1 := Heap.size_push ..
  rw [hsz] at hp z4 ⊢
  exact hQ _ (Heap.get?_push_of_some _ z3) (m1.at fun o e => Heap.get?_push_of_some _ e) (n2.at fun o e => Heap.get?_push_of_some _ e) hp z4 fun c o c1 c2 c3 e => Heap.get?_push_of_some _ (hk c o c1 c2 c3 e)
theorem next_end {z TI TO T i1 i2 l1 l2 : Addr} {f : Bool} {oT : Obj} {k1 k2 : Nat} {xs ys : Array Value} {Q : Option Value → Shared → Prop} (hh : A.handled = none) (D : ZipApart z TI TO i1 i2 l1 l2)
    (hz : IsZipHeld s.heap z TI TO T f) (hT : s.heap.get? T = some oT) (hTI : IsPair s.heap TI (.ref i1) (.ref i2))
    (h1 : s.heap.IsTupleIter i1 l1 k1) (hl1 : s.heap.IsTuple l1 xs) (hend : xs[k1]? = none)
    (hQ : ∀ h', (∀ c o, c ≠ z → c ≠ i1 → c ≠ i2 → s.heap.get? c = some o → h'.get? c = some o) → Q none { s with heap := h' }) :
    wpAny (model prog w) A (pyNext (.ref z)) Q E s := by
  have hTy : s.TypeIs (.ref z) "zip" := ⟨_, hz, rfl⟩
  unfold pyNext
  refine wpAny_bind (wpAny_attempt (wpAny_callSpecial?_slot (name := Str.ofString "__next__") hTy F.slot_zip_next
    (wpAny_call_entry F.slot_zip_next hTy F.entry_zip_next ?_ (F.args_zip_next_1 _))))
  show wpAny _ _ (field (.ref z) 2 >>= _) _ _ _
  refine wpAny_bind (wpAny_field hz rfl (x := .bool false) rfl ?_)
  show wpAny _ _ (field (.ref z) 3 >>= _) _ _ _
  refine wpAny_bind (wpAny_field hz rfl (x := .ref TI) rfl ?_)
  refine wpAny_bind (wpAny_seqItems hTI rfl ?_)
  show wpAny _ _ (Builtin.SmallTypes.ownedTupleIsFree (.ref z) >>= _) _ _ _
  refine wpAny_bind (wpAny_tupleHeld_zip hz hT fun g1 z1 b1 => ?_)
  simp only [Bool.false_eq_true, if_false]
  refine wpAny_bind ?_
  rw [← Array.forIn_toList]
  simp only [List.forIn_cons, List.forIn_nil]
  refine wpAny_bind (wpAny_bind (wpAny_holding ?_))
  show wpAny _ _ (Builtin.SmallTypes.nextOf (.ref i1) >>= _) _ _ _
  refine wpAny_bind (nextOf_tuple_end (s := { s with heap := g1 }) hh (h1.extBut b1.extBut D.i1z) (hl1.extBut b1.extBut D.l1z) hend fun g2 e b2 he => ?_)
  obtain ⟨o, ho, hc⟩ := he
  refine wpAny_bind (wpAny_isInstance (T := "StopIteration") (b := true) ⟨o, ho, hc⟩ isSubtype_stop ?_)
  exact wpAny_pure (hQ _ fun c o c1 c2 _ x => b2 _ _ c2 (b1.extBut _ _ c1 x))
end
end MyZ

namespace MyZ
open PySem PySem.Calls PyProof.Rows RZ
/-- the pairs that have been given out -/
structure PS (n0 : Nat) (xs ys : Array Value) (i : Nat) (acc : List Addr) (h : Heap) : Prop where
  len : acc.length = i
  asc : acc.Pairwise (· < ·)
  lo : ∀ T ∈ acc, n0 ≤ T
  lt : ∀ T ∈ acc, T < h.objs.size
  prs : ∀ (j : Nat) T u v, acc[j]? = some T → xs[j]? = some u → ys[j]? = some v → IsPair h T u v
theorem PS.keep {n0 : Nat} {xs ys : Array Value} {i : Nat} {acc : List Addr} {h h' : Heap} (p : PS n0 xs ys i acc h) (hs : h.objs.size ≤ h'.objs.size) (k : ∀ b o, n0 ≤ b → h.get? b = some o → h'.get? b = some o) : PS n0 xs ys i acc h' :=
  ⟨p.len, p.asc, p.lo, fun T hT => Nat.lt_of_lt_of_le (p.lt T hT) hs, fun j T u v a b c => k T _ (p.lo T (List.mem_of_getElem? a)) (p.prs j T u v a b c)⟩
theorem PS.snoc {n0 : Nat} {xs ys : Array Value} {i T : Nat} {u v : Value} {acc : List Addr} {h : Heap} (p : PS n0 xs ys i acc h) (hT : ∀ x ∈ acc, x < T) (h0 : n0 ≤ T) (h1 : T < h.objs.size) (hx : xs[i]? = some u) (hy : ys[i]? = some v) (hp : IsPair h T u v) : PS n0 xs ys (i + 1) (acc ++ [T]) h := by
  refine ⟨by rw [List.length_append, p.len]; rfl, ?_, ?_, ?_, ?_⟩
  · rw [List.pairwise_append]
    refine ⟨p.asc, List.pairwise_singleton _ _, fun a ha b hb => ?_⟩
    rw [List.mem_singleton] at hb
    subst hb
    exact hT a ha
  · intro x hx
    rcases List.mem_append.mp hx with hx | hx
    · exact p.lo x hx
    · rw [List.mem_singleton] at hx
      subst hx
      exact h0
  · intro x hx
    rcases List.mem_append.mp hx with hx | hx
    · exact p.lt x hx
    · rw [List.mem_singleton] at hx
      subst hx
      exact h1
  · intro j T' a b e1 e2 e3
    rcases Nat.lt_or_ge j acc.length with z | z
    · rw [List.getElem?_append_left z] at e1
      exact p.prs j T' a b e1 e2 e3
    · rw [List.getElem?_append_right z] at e1
      have l := (List.getElem?_eq_some_iff.mp e1).1
      rw [List.length_singleton] at l
      have ej : j = i := by
        rw [p.len] at l z
        omega
      rw [ej, p.len, Nat.sub_self] at e1
      cases e1
      rw [ej, hx] at e2
      rw [ej, hy] at e3
      cases e2
      cases e3
      exact hp
/-- the zip of two tuples, i pairs given out -/
structure ZS (n0 : Nat) (z TI TO i1 i2 l1 l2 : Addr) (xs ys : Array Value) (i : Nat) (acc : List Addr) (h : Heap) : Prop where
  ti : IsPair h TI (.ref i1) (.ref i2)
  a1 : h.IsTupleIter i1 l1 i
  a2 : h.IsTupleIter i2 l2 i
  b1 : h.IsTuple l1 xs
  b2 : h.IsTuple l2 ys
  zz : (IsZip h z TI TO .none ∧ ∃ a b, IsPair h TO a b) ∨ ∃ T f oT, IsZipHeld h z TI TO T f ∧ h.get? T = some oT ∧ n0 ≤ T
  ps : PS n0 xs ys i acc h
structure Low (n0 : Nat) (z TI TO i1 i2 l1 l2 S : Addr) : Prop where
  lz : z < n0
  lTI : TI < n0
  lTO : TO < n0
  li1 : i1 < n0
  li2 : i2 < n0
  ll1 : l1 < n0
  ll2 : l2 < n0
  lS : S < n0
  Sz : S ≠ z
  STI : S ≠ TI
  STO : S ≠ TO
  Si1 : S ≠ i1
  Si2 : S ≠ i2
  Sl1 : S ≠ l1
  Sl2 : S ≠ l2
section
variable {prog : Program} {w : World} {A : Around} {R : Result → Shared → Prop} {n0 : Nat} {z TI TO i1 i2 l1 l2 S : Addr} {xs ys : Array Value} {n : Nat}
theorem zs_step {i : Nat} {acc : List Addr} {s : Shared} {x y : Value} {Q : Option Value → Shared → Prop} {E : Value → Shared → Prop} (D : ZipApart z TI TO i1 i2 l1 l2) (L : Low n0 z TI TO i1 i2 l1 l2 S) (st : ZS n0 z TI TO i1 i2 l1 l2 xs ys i acc s.heap) (h0 : n0 ≤ s.heap.objs.size) (hx : xs[i]? = some x) (hy : ys[i]? = some y)
    (hQ : ∀ h', ZS n0 z TI TO i1 i2 l1 l2 xs ys (i + 1) (acc ++ [s.heap.objs.size]) h' → h'.objs.size = s.heap.objs.size + 1 → (∀ c o, c ≠ z → c ≠ TO → c ≠ i1 → c ≠ i2 → s.heap.get? c = some o → h'.get? c = some o) → Q (some (.ref s.heap.objs.size)) { s with heap := h' }) :
    wpAny (model prog w) A (pyNext (.ref z)) Q E s := by
  have nz : ∀ b, n0 ≤ b → b ≠ z ∧ b ≠ TO ∧ b ≠ i1 ∧ b ≠ i2 := fun b hb => ⟨Nat.ne_of_gt (Nat.lt_of_lt_of_le L.lz hb), Nat.ne_of_gt (Nat.lt_of_lt_of_le L.lTO hb), Nat.ne_of_gt (Nat.lt_of_lt_of_le L.li1 hb), Nat.ne_of_gt (Nat.lt_of_lt_of_le L.li2 hb)⟩
  have fin : ∀ h', (IsZip h' z TI TO .none ∧ ∃ a b, IsPair h' TO a b) ∨ (∃ T f oT, IsZipHeld h' z TI TO T f ∧ h'.get? T = some oT ∧ n0 ≤ T) → h'.IsTupleIter i1 l1 (i + 1) → h'.IsTupleIter i2 l2 (i + 1) → IsPair h' s.heap.objs.size x y → h'.objs.size = s.heap.objs.size + 1 →
      (∀ c o, c ≠ z → c ≠ TO → c ≠ i1 → c ≠ i2 → s.heap.get? c = some o → h'.get? c = some o) → Q (some (.ref s.heap.objs.size)) { s with heap := h' } := fun h' c1 c2 c3 c4 c5 c6 => by
    refine hQ h' ⟨c6 _ _ D.TIz D.TITO D.TIi1 D.TIi2 st.ti, c2, c3, st.b1.at fun o e => c6 _ _ D.l1z D.l1TO D.l1i1 D.l1i2 e, st.b2.at fun o e => c6 _ _ D.l2z D.l2TO D.l2i1 D.l2i2 e, c1, ?_⟩ c5 c6
    refine (st.ps.keep (by omega) fun b o hb e => ?_).snoc st.ps.lt h0 (by omega) hx hy c4
    obtain ⟨d1, d2, d3, d4⟩ := nz b hb
    exact c6 b o d1 d2 d3 d4 e
  rcases st.zz with ⟨hz, a, b, hTO⟩ | ⟨T, f, oT, hz, hT, nT⟩
  · refine pyNext_zipT_item D hz st.ti hTO st.a1 st.a2 st.b1 st.b2 hx hy fun h' c1 c2 c3 c4 c5 c6 c7 => ?_
    exact fin h' (.inr ⟨s.heap.objs.size, false, _, c1, c5, h0⟩) c3 c4 c5 c6 c7
  · refine next_item D hz hT st.ti st.a1 st.a2 st.b1 st.b2 hx hy fun h' c1 c2 c3 c4 c5 c6 => ?_
    obtain ⟨d1, d2, d3, d4⟩ := nz T nT
    exact fin h' (.inr ⟨T, true, oT, c1, c6 T oT d1 d3 d4 hT, nT⟩) c2 c3 c4 c5 fun c o e1 _ e3 e4 e => c6 c o e1 e3 e4 e
theorem zs_end {acc : List Addr} {s : Shared} {Q : Option Value → Shared → Prop} {E : Value → Shared → Prop} (hh : A.handled = none) (D : ZipApart z TI TO i1 i2 l1 l2) (L : Low n0 z TI TO i1 i2 l1 l2 S) (st : ZS n0 z TI TO i1 i2 l1 l2 xs ys n acc s.heap) (hx : xs.size = n)
    (hQ : ∀ h', (∀ c o, c ≠ z → c ≠ TO → c ≠ i1 → c ≠ i2 → s.heap.get? c = some o → h'.get? c = some o) → Q none { s with heap := h' }) :
    wpAny (model prog w) A (pyNext (.ref z)) Q E s := by
  have he : xs[n]? = none := by rw [Array.getElem?_eq_none (by omega)]
  rcases st.zz with ⟨hz, a, b, hTO⟩ | ⟨T, f, oT, hz, hT, nT⟩
  · exact pyNext_zipT_end hh D hz st.ti hTO st.a1 st.a2 st.b1 st.b2 (.inl he) hQ
  · exact next_end (k2 := n) (ys := ys) hh D hz hT st.ti st.a1 st.b1 he fun h' c => hQ h' fun c' o e1 _ e3 e4 e => c c' o e1 e3 e4 e
end
end MyZ

namespace MyZ
open PySem PySem.Calls PyProof.Rows RZ
/-- a plain list's object -/
abbrev lsO (acc : List Addr) (c : Nat) : Obj := { cls := .type "list", dict := none, data := .seq (acc.map Value.ref).toArray c, slots := #[] }
def FK (z TO i1 i2 S : Addr) (h h' : Heap) : Prop := ∀ b o, b ≠ S → b ≠ z → b ≠ TO → b ≠ i1 → b ≠ i2 → h.get? b = some o → h'.get? b = some o
section
variable {prog : Program} {w : World} {A : Around} {R : Result → Shared → Prop} {n0 : Nat} {z TI TO i1 i2 l1 l2 S : Addr} {xs ys : Array Value} {n : Nat}
theorem ZS.keep {i : Nat} {acc : List Addr} {h h' : Heap} (L : Low n0 z TI TO i1 i2 l1 l2 S) (st : ZS n0 z TI TO i1 i2 l1 l2 xs ys i acc h) (hs : h.objs.size ≤ h'.objs.size) (k : ∀ b o, b ≠ S → h.get? b = some o → h'.get? b = some o) : ZS n0 z TI TO i1 i2 l1 l2 xs ys i acc h' := by
  have hi : ∀ b, n0 ≤ b → b ≠ S := fun b hb => Nat.ne_of_gt (Nat.lt_of_lt_of_le L.lS hb)
  refine ⟨k _ _ L.STI.symm st.ti, st.a1.at fun o e => k _ _ L.Si1.symm e, st.a2.at fun o e => k _ _ L.Si2.symm e, st.b1.at fun o e => k _ _ L.Sl1.symm e, st.b2.at fun o e => k _ _ L.Sl2.symm e, ?_, st.ps.keep hs fun b o hb e => k b o (hi b hb) e⟩
  rcases st.zz with ⟨hz, a, b, hTO⟩ | ⟨T, f, oT, hz, hT, nT⟩
  · exact .inl ⟨k _ _ L.Sz.symm hz, a, b, k _ _ L.STO.symm hTO⟩
  · exact .inr ⟨T, f, oT, k _ _ L.Sz.symm hz, k _ _ (hi T nT) hT, nT⟩
theorem zs_loop (hh : A.in1.handled = none) (D : ZipApart z TI TO i1 i2 l1 l2) (L : Low n0 z TI TO i1 i2 l1 l2 S) (hxs : xs.size = n) (hys : ys.size = n) (hn : n ≤ sizeLine) (res : Value) :
    ∀ (k i : Nat) (s : Shared) (acc : List Addr) (c : Nat), n - i = k → i ≤ n → ZS n0 z TI TO i1 i2 l1 l2 xs ys i acc s.heap → n0 ≤ s.heap.objs.size → s.heap.get? S = some (lsO acc c) →
    (∀ h' acc' c', FK z TO i1 i2 S s.heap h' → PS n0 xs ys n acc' h' → h'.get? S = some (lsO acc' c') → R (.ok (.ret res)) { s with heap := h' }) →
    codeAny (model prog w) A (.builtin "list.extend.loop" ⟨[.ref S, .ref z, res], []⟩) R s := by
  intro k
  induction k with
  | zero =>
    intro i s acc c hk hi st h0 hS hR
    have hin : i = n := by omega
    subst hin
    refine codeAny_builtin F.entry_extend_loop ?_
    rw [Around.under_plainId F.plain_extend_loop _]
    show wpAny _ A.in1 (pyNext (.ref z) >>= _) _ _ s
    refine wpAny_bind (zs_end hh D L st hxs fun h' hk => ?_)
    have hi : ∀ b, n0 ≤ b → b ≠ z ∧ b ≠ TO ∧ b ≠ i1 ∧ b ≠ i2 := fun b hb => ⟨Nat.ne_of_gt (Nat.lt_of_lt_of_le L.lz hb), Nat.ne_of_gt (Nat.lt_of_lt_of_le L.lTO hb), Nat.ne_of_gt (Nat.lt_of_lt_of_le L.li1 hb), Nat.ne_of_gt (Nat.lt_of_lt_of_le L.li2 hb)⟩
    have pk : PS n0 xs ys i acc h' := by
      refine ⟨st.ps.len, st.ps.asc, st.ps.lo, fun T hT => ?_, fun j T u v a b c => ?_⟩
      · obtain ⟨j, hj, e⟩ := List.getElem_of_mem hT
        have e1 : acc[j]? = some T := by rw [List.getElem?_eq_getElem hj, e]
        have lj : j < i := by rw [← st.ps.len]; exact hj
        have e2 : xs[j]? = some xs[j] := Array.getElem?_eq_getElem (by omega)
        have e3 : ys[j]? = some ys[j] := Array.getElem?_eq_getElem (by omega)
        have hp := st.ps.prs j T _ _ e1 e2 e3
        obtain ⟨d1, d2, d3, d4⟩ := hi T (st.ps.lo T hT)
        exact Heap.lt_size (hk T _ d1 d2 d3 d4 hp)
      · obtain ⟨d1, d2, d3, d4⟩ := hi T (st.ps.lo T (List.mem_of_getElem? a))
        exact hk T _ d1 d2 d3 d4 (st.ps.prs j T u v a b c)
    exact wpAny_pure (hR h' acc c (fun b o _ c1 c2 c3 c4 e => hk b o c1 c2 c3 c4 e) pk (hk S _ L.Sz L.STO L.Si1 L.Si2 hS))
  | succ k ih =>
    intro i s acc c hk hi st h0 hS hR
    have hlt : i < n := by omega
    refine codeAny_builtin F.entry_extend_loop ?_
    rw [Around.under_plainId F.plain_extend_loop _]
    show wpAny _ A.in1 (pyNext (.ref z) >>= _) _ _ s
    have e2 : xs[i]? = some xs[i] := Array.getElem?_eq_getElem (by omega)
    have e3 : ys[i]? = some ys[i] := Array.getElem?_eq_getElem (by omega)
    refine wpAny_bind (zs_step D L st h0 e2 e3 fun h1 st1 sz1 fk1 => ?_)
    have hS1 := fk1 S _ L.Sz L.STO L.Si1 L.Si2 hS
    show wpAny _ A.in1 (updateSeq S (·.push (.ref s.heap.objs.size)) >>= _) _ _ _
    refine wpAny_bind ?_
    have la := st.ps.len
    have hU := Heap.get?_update_self (Obj.mapSeq (·.push (Value.ref s.heap.objs.size))) hS1 rfl
    have eU : Obj.mapSeq (·.push (Value.ref s.heap.objs.size)) (lsO acc c) = lsO (acc ++ [s.heap.objs.size]) (if ((acc.map Value.ref).toArray.push (Value.ref s.heap.objs.size)).size == (acc.map Value.ref).toArray.size then c else c + 1) := by
      simp only [Obj.mapSeq, lsO, List.map_append, List.map_cons, List.map_nil, List.push_toArray]
    rw [eU] at hU
    refine wpAny_updateSeq hS1 rfl (wpAny_pure ⟨plainId_quiet F.plain_extend_loop _, ih (i + 1) _ (acc ++ [s.heap.objs.size]) _ (by omega) hlt (ZS.keep L st1 (by show h1.objs.size ≤ (h1.update S _).objs.size; rw [Heap.size_update]; exact Nat.le_refl _) fun b o hb e => ?_) (by show n0 ≤ (h1.update S _).objs.size; rw [Heap.size_update]; omega) hU fun h' acc' c' fk ps' hS' => ?_⟩)
      (by rw [List.size_toArray, List.length_map]; omega) (by simp only [Array.size_push, List.size_toArray, List.length_map]; omega)
    · exact (Heap.get?_update_other _ _ (Ne.symm hb)).trans e
    · refine hR h' acc' c' (fun b o c0 c1 c2 c3 c4 e => fk b o c0 c1 c2 c3 c4 ?_) ps' hS'
      exact (Heap.get?_update_other _ _ (Ne.symm c0)).trans (fk1 b o c1 c2 c3 c4 e)
end
end MyZ

namespace MyZ
open PySem PySem.Calls PyProof.Rows RZ
section
variable {prog : Program} {w : World} {A : Around} {R : Result → Shared → Prop} {n0 : Nat} {z TI TO i1 i2 l1 l2 S : Addr} {xs ys : Array Value} {n : Nat} {s : Shared}
theorem zs_extend (hh : A.in1.handled = none) (D : ZipApart z TI TO i1 i2 l1 l2) (L : Low n0 z TI TO i1 i2 l1 l2 S) (hxs : xs.size = n) (hys : ys.size = n) (hn : n ≤ sizeLine) (res : Value) (c : Nat)
    (hz : IsZip s.heap z TI TO .none) (st : ZS n0 z TI TO i1 i2 l1 l2 xs ys 0 [] s.heap) (h0 : n0 ≤ s.heap.objs.size) (hS : s.heap.get? S = some (lsO [] c))
    (hR : ∀ h' acc' c', FK z TO i1 i2 S s.heap h' → PS n0 xs ys n acc' h' → h'.get? S = some (lsO acc' c') → R (.ok (.ret res)) { s with heap := h' }) :
    wpAny (model prog w) A.in1 (Builtin.List.listExtendWith (.ref S) (.ref z) res)
      (fun fin s' => match fin with | .done f => R (.ok f) s' | .again c' => c'.quiet = true ∧ codeAny (model prog w) A c' R s') (fun e s' => R (.error e) s') s := by
  have hT : s.TypeIs (.ref z) "zip" := ⟨_, hz, rfl⟩
  unfold Builtin.List.listExtendWith
  refine wpAny_bind (wpAny_typeOf hT ?_)
  have t1 : Builtin.List.listSameRef (.ref S) (.ref z) = false := by simp [Builtin.List.listSameRef, L.Sz]
  have t2 : (Value.type "zip" == Value.type "list") = false := by decide
  have t3 : (Value.type "zip" == Value.type "tuple") = false := by decide
  simp only [t1, t2, t3, Bool.or_false, Bool.false_eq_true, if_false]
  refine wpAny_bind (wpAny_pyIter_zip hz ?_)
  refine wpAny_bind (wpAny_holding ?_)
  unfold Builtin.List.listLengthHint
  refine wpAny_bind (wpAny_specialOf hT zip_no_len ?_)
  show wpAny _ A.in1 (specialOf (Value.ref z) (Str.ofString "__length_hint__") >>= _) _ _ _
  refine wpAny_bind (wpAny_specialOf hT zip_no_hint ?_)
  refine wpAny_pure ?_
  show wpAny _ A.in1 (rule "list.extend.makes-room" >>= fun _ => Builtin.List.listTouch (.ref S) >>= fun _ =>
    again (.builtin "list.extend.loop" ⟨[.ref S, .ref z, res], []⟩)) _ _ _
  refine wpAny_bind (wpAny_rule ?_)
  refine wpAny_bind ?_
  show wpAny _ A.in1 (updateSeq S (·.push .none) >>= fun _ => updateSeq S (·.pop)) _ _ _
  refine wpAny_bind (wpAny_updateSeq (hz := by seq_fits) hS rfl ?_)
  have hS2 := Heap.get?_update_self (Obj.mapSeq (·.push Value.none)) hS rfl
  refine wpAny_updateSeq (hz := by seq_fits) hS2 rfl ?_
  have hS3 := Heap.get?_update_self (Obj.mapSeq (·.pop)) hS2 rfl
  have oth : ∀ b o, b ≠ S → s.heap.get? b = some o → ((s.heap.update S (Obj.mapSeq (·.push Value.none))).update S (Obj.mapSeq (·.pop))).get? b = some o :=
    fun b o hb e => (Heap.get?_update_other _ _ (Ne.symm hb)).trans ((Heap.get?_update_other _ _ (Ne.symm hb)).trans e)
  refine wpAny_pure ⟨plainId_quiet F.plain_extend_loop _, zs_loop hh D L hxs hys hn res n 0 _ [] (c + 1 + 1) rfl (Nat.zero_le _) (ZS.keep L st ?_ oth) ?_ hS3 fun h' acc' c' fk ps' hS' => ?_⟩
  · show s.heap.objs.size ≤ ((s.heap.update S _).update S _).objs.size
    rw [Heap.size_update, Heap.size_update]
    exact Nat.le_refl _
  · show n0 ≤ ((s.heap.update S _).update S _).objs.size
    rw [Heap.size_update, Heap.size_update]
    exact h0
  · exact hR h' acc' c' (fun b o c0 c1 c2 c3 c4 e => fk b o c0 c1 c2 c3 c4 (oth b o c0 e)) ps' hS'
theorem zs_init (hh : A.in1.handled = none) (D : ZipApart z TI TO i1 i2 l1 l2) (L : Low n0 z TI TO i1 i2 l1 l2 S) (hxs : xs.size = n) (hys : ys.size = n) (hn : n ≤ sizeLine)
    (hz : IsZip s.heap z TI TO .none) (st : ZS n0 z TI TO i1 i2 l1 l2 xs ys 0 [] s.heap) (h0 : n0 ≤ s.heap.objs.size) (hS : s.heap.get? S = some { cls := .type "list", data := .seq #[] })
    (hR : ∀ h' acc' c', FK z TO i1 i2 S s.heap h' → PS n0 xs ys n acc' h' → h'.get? S = some (lsO acc' c') → R (.ok (.ret .none)) { s with heap := h' }) :
    wpAny (model prog w) A.in1 (Builtin.«list.__init__» ⟨[.ref S, .ref z], []⟩)
      (fun fin s' => match fin with | .done f => R (.ok f) s' | .again c' => c'.quiet = true ∧ codeAny (model prog w) A c' R s') (fun e s' => R (.error e) s') s := by
  show wpAny _ A.in1 (do let old ← Builtin.List.listItems (.ref S); Builtin.List.listUpdate (.ref S) (fun _ => #[]); letGo old.toList.reverse; Builtin.List.listExtendWith (.ref S) (.ref z) .none) _ _ s
  refine wpAny_bind ?_
  unfold Builtin.List.listItems
  refine wpAny_bind (wpAny_seqItems hS rfl (wpAny_pure ?_))
  show wpAny _ A.in1 (updateSeq S (fun _ => #[]) >>= fun _ => letGo (#[] : Array Value).toList.reverse >>= fun _ => Builtin.List.listExtendWith (.ref S) (.ref z) .none) _ _ s
  refine wpAny_bind (wpAny_updateSeq hS rfl ?_)
  have hS2 := Heap.get?_update_self (Obj.mapSeq (fun _ => (#[] : Array Value))) hS rfl
  have oth : ∀ b o, b ≠ S → s.heap.get? b = some o → (s.heap.update S (Obj.mapSeq (fun _ => (#[] : Array Value)))).get? b = some o :=
    fun b o hb e => (Heap.get?_update_other _ _ (Ne.symm hb)).trans e
  refine wpAny_bind (wpAny_letGo ?_)
  refine zs_extend hh D L hxs hys hn .none 0 (oth _ _ L.Sz.symm hz) (ZS.keep L st ?_ oth) ?_ hS2 fun h' acc' c' fk ps' hS' => ?_
  · show s.heap.objs.size ≤ (s.heap.update S _).objs.size
    rw [Heap.size_update]
    exact Nat.le_refl _
  · show n0 ≤ (s.heap.update S _).objs.size
    rw [Heap.size_update]
    exact h0
  · exact hR h' acc' c' (fun b o c0 c1 c2 c3 c4 e => fk b o c0 c1 c2 c3 c4 (oth b o c0 e)) ps' hS'
end
/-- list(z), z a zip of two tuples of one length -/
theorem call_listZip {prog : Program} {w : World} {A : Around} {E : Value → Shared → Prop} {s : Shared} {z TI TO i1 i2 l1 l2 : Addr} {xs ys : Array Value} {n : Nat} {Q : Value → Shared → Prop} (hh : A.handled = none) (D : ZipApart z TI TO i1 i2 l1 l2) (hxs : xs.size = n) (hys : ys.size = n) (hn : n ≤ sizeLine)
    (hz : IsZip s.heap z TI TO .none) (hTI : IsPair s.heap TI (.ref i1) (.ref i2)) {a b : Value} (hTO : IsPair s.heap TO a b) (a1 : s.heap.IsTupleIter i1 l1 0) (a2 : s.heap.IsTupleIter i2 l2 0) (b1 : s.heap.IsTuple l1 xs) (b2 : s.heap.IsTuple l2 ys)
    (hQ : ∀ h' acc c', (∀ b o, b ≠ z → b ≠ TO → b ≠ i1 → b ≠ i2 → s.heap.get? b = some o → h'.get? b = some o) → PS (s.heap.objs.size + 1) xs ys n acc h' → h'.get? s.heap.objs.size = some (lsO acc c') → Q (.ref s.heap.objs.size) { s with heap := h' }) :
    wpAny (model prog w) A (call (.type "list") [.ref z]) Q E s := by
  refine callType_codes (Q₁ := fun obj s₁ => obj = .ref s.heap.objs.size ∧ s₁ = { s with heap := s.heap.push { cls := .type "list", data := .seq #[] } }) PySem.F.called_list (PySem.F.typeCall_list_1 _) PySem.F.entry_list_init
    (code_list_new _ ⟨rfl, rfl⟩) fun obj s₁ h₁ => ?_
  obtain ⟨rfl, rfl⟩ := h₁
  have hS : (s.heap.push { cls := .type "list", data := .seq #[] }).get? s.heap.objs.size = some { cls := .type "list", data := .seq #[] } := Heap.get?_push_size _ rfl
  have up : ∀ b o, s.heap.get? b = some o → (s.heap.push { cls := .type "list", data := .seq #[] }).get? b = some o := fun b o e => Heap.get?_push_of_some _ e
  have g1 := Heap.lt_size hz
  have g2 := Heap.lt_size hTI
  have g3 := Heap.lt_size hTO
  have g4 : i1 < s.heap.objs.size := by obtain ⟨_, e, _⟩ := a1; exact Heap.lt_size e
  have g5 : i2 < s.heap.objs.size := by obtain ⟨_, e, _⟩ := a2; exact Heap.lt_size e
  have g6 : l1 < s.heap.objs.size := by obtain ⟨_, e, _⟩ := b1; exact Heap.lt_size e
  have g7 : l2 < s.heap.objs.size := by obtain ⟨_, e, _⟩ := b2; exact Heap.lt_size e
  have sz := Heap.size_push s.heap { cls := .type "list", data := .seq #[] }
  have L : Low (s.heap.objs.size + 1) z TI TO i1 i2 l1 l2 s.heap.objs.size := ⟨Nat.lt_succ_of_lt g1, Nat.lt_succ_of_lt g2, Nat.lt_succ_of_lt g3, Nat.lt_succ_of_lt g4, Nat.lt_succ_of_lt g5, Nat.lt_succ_of_lt g6, Nat.lt_succ_of_lt g7, Nat.lt_succ_self _,
    Nat.ne_of_gt g1, Nat.ne_of_gt g2, Nat.ne_of_gt g3, Nat.ne_of_gt g4, Nat.ne_of_gt g5, Nat.ne_of_gt g6, Nat.ne_of_gt g7⟩
  refine ⟨⟨_, hS, rfl⟩, PySem.F.args_list_init_2 _ _, zs_init (A := A.in1) hh D L hxs hys hn (up _ _ hz)
    ⟨up _ _ hTI, a1.at fun o e => up _ _ e, a2.at fun o e => up _ _ e, b1.at fun o e => up _ _ e, b2.at fun o e => up _ _ e, .inl ⟨up _ _ hz, a, b, up _ _ hTO⟩, ⟨rfl, List.Pairwise.nil, fun T h => (by cases h), fun T h => (by cases h), fun j T u v h => (by simp at h)⟩⟩ (Nat.le_of_eq sz.symm) hS fun h' acc' c' fk ps' hS' => ?_⟩
  exact ⟨rfl, hQ h' acc' c' (fun b o c1 c2 c3 c4 e => fk b o (Nat.ne_of_lt (Heap.lt_size e)) c1 c2 c3 c4 (up b o e)) ps' hS'⟩
end MyZ

namespace My
open PySem PySem.Spec PyProof.Rows L2 RZ
/-- the heap with the pairs and their list -/
def zipH (H : Hp) (S : Addr) (acc : List Addr) (xs ys : List V) : Hp := fun b =>
  if b = S then some (.lst (acc.map V.ref)) else if b ∈ acc then some (.tup [xs.getD (acc.idxOf b) .non, ys.getD (acc.idxOf b) .non]) else H b
theorem zipH_S {H : Hp} {S : Addr} {acc : List Addr} {xs ys : List V} : zipH H S acc xs ys S = some (.lst (acc.map V.ref)) := if_pos rfl
theorem zipH_old {H : Hp} {S b n : Addr} {acc : List Addr} {xs ys : List V} (hb : b < n) (hS : n ≤ S) (ha : ∀ T ∈ acc, n ≤ T) : zipH H S acc xs ys b = H b := by
  unfold zipH
  rw [if_neg (fun e => absurd hb (by rw [e]; exact Nat.not_lt.mpr hS)), if_neg (fun e => absurd hb (Nat.not_lt.mpr (ha b e)))]
theorem idx_asc {acc : List Addr} (h : acc.Pairwise (· < ·)) {i : Nat} {T : Addr} (e : acc[i]? = some T) : acc.idxOf T = i := by
  have nd : acc.Nodup := h.imp fun h => Nat.ne_of_lt h
  obtain ⟨hi, e⟩ := List.getElem?_eq_some_iff.mp e
  subst e
  exact nd.idxOf_getElem i hi
theorem zipH_T {H : Hp} {S T : Addr} {acc : List Addr} {xs ys : List V} {i : Nat} {x y : V} (h : acc.Pairwise (· < ·)) (e : acc[i]? = some T) (n : T ≠ S) (hx : xs[i]? = some x) (hy : ys[i]? = some y) : zipH H S acc xs ys T = some (.tup [x, y]) := by
  unfold zipH
  rw [if_neg n, if_pos (List.mem_of_getElem? e), idx_asc h e]
  simp [List.getD, hx, hy]
theorem vals_refs : ∀ acc : List Addr, Vals (acc.map V.ref) (acc.map Value.ref)
  | [] => .nil
  | a :: r => .cons rfl (vals_refs r)
def tListZip (K : PySem.W.Frag) (ta : TA) : TE := fun σ H Q => ta σ H fun vs H1 => ∃ a b xs ys, vs = [V.ref a, .ref b] ∧ SqT K H1 a xs ∧ SqT K H1 b ys ∧ xs.length = ys.length ∧
  ∀ S (ts : List Addr) H', H1 S = none → Same H1 H' → H' S = some (.lst (ts.map V.ref)) → ts.length = xs.length → (∀ (i : Nat) T x y, ts[i]? = some T → xs[i]? = some x → ys[i]? = some y → H' T = some (.tup [x, y])) → Q (.ref S) H'
section
variable {X : Cx} {e e2 : Expr} {ta : TA} {p p2 pos qos : Pos}
theorem pe_listZip (hc : X.calm = true) (hg : Gl X "list") (hm : X.mg "list" = none) (hg2 : Gl X "zip") (hm2 : X.mg "zip" = none) (ha : PA X [e, e2] ta)
    (hs : starEach [e, e2] X.env = (false, eval e X.env) :: starEach [e2] X.env := by rfl) (hpl : (backTo qos (starEach [e2] X.env)).any (·.1) = false := by rfl)
    (hse : starEach [Expr.Call (.Name "zip" p2) [e, e2] [] qos] X.env = [(false, eval (Expr.Call (.Name "zip" p2) [e, e2] [] qos) X.env)] := by rfl) :
    PE X (.Call (.Name "list" p) [.Call (.Name "zip" p2) [e, e2] [] qos] [] pos) (tListZip X.K ta) := by
  refine ⟨fun pins s σ H Q I h => ?_⟩
  refine wpAny_Call_Name_kw (ld_blt I hg hm (u := .type "list") (by first | rfl | decide +kernel) ?_ (by first | decide +kernel | decide) (by first | decide +kernel | decide))
  rw [hse]
  refine PySem.callWith_type1 ?_
  refine Call_ (ld_blt I hg2 hm2 PyProof.Rows.boot_zip (PyProof.Rows.callWith_type1 (thn (ha.run qos pins s σ H _ I h) fun us s1 ⟨vs, H1, I1, r1, q1⟩ => ?_) hs hpl))
  obtain ⟨a, b, xs, ys, ex, hqx, hqy, hl, q⟩ := q1
  subst ex
  cases r1 with
  | cons r rr =>
    cases rr with
    | cons r' rr =>
      cases rr
      cases r
      cases r'
      obtain ⟨its, rv, b1, z1⟩ := I1.tuple hqx
      obtain ⟨its2, rv2, b2, z2⟩ := I1.tuple hqy
      have l1 := rv.length
      have l2 := rv2.length
      refine RZ.call_zipT b1 b2 fun h1 hz hTI hTO a1 a2 hsz hk => ?_
      have g4 : a < s1.heap.objs.size := by obtain ⟨_, e, _⟩ := b1; exact Heap.lt_size e
      have g5 : b < s1.heap.objs.size := by obtain ⟨_, e, _⟩ := b2; exact Heap.lt_size e
      have a1' : h1.IsTuple a its.toArray := let ⟨o, e, r⟩ := b1; ⟨o, hk _ _ e, r⟩
      have b2' : h1.IsTuple b its2.toArray := let ⟨o, e, r⟩ := b2; ⟨o, hk _ _ e, r⟩
      refine MyZ.call_listZip (s := { s1 with heap := h1 }) (n := xs.length) (I1.ok.hd hc) (PySem.W.ktu_apart s1.heap.objs.size a b g4 g5) (by rw [List.size_toArray]; omega) (by rw [List.size_toArray]; omega) z1 hz hTI hTO a1 a2 a1' b2' fun h2 acc c' fk ps hS => ?_
      have n5 : h1.objs.size = s1.heap.objs.size + 5 := hsz
      have k : ∀ c o, s1.heap.get? c = some o → h2.get? c = some o := fun c o ec => by
        have lc := Heap.lt_size ec
        exact fk c o (fun z => by rw [z] at lc; exact absurd lc (Nat.not_lt.mpr (Nat.le_add_right _ _))) (fun z => by rw [z] at lc; exact absurd lc (Nat.not_lt.mpr (Nat.le_add_right _ _))) (fun z => by rw [z] at lc; exact absurd lc (Nat.lt_irrefl _)) (fun z => by rw [z] at lc; exact absurd lc (Nat.not_lt.mpr (Nat.le_add_right _ _))) (hk c o ec)
      have lS : s1.heap.objs.size ≤ h1.objs.size := by omega
      have lT : ∀ T ∈ acc, s1.heap.objs.size ≤ T := fun T hT => Nat.le_trans (by show s1.heap.objs.size ≤ h1.objs.size + 1; omega) (ps.lo T hT)
      have nT : ∀ T ∈ acc, T ≠ h1.objs.size := fun T hT => Nat.ne_of_gt (ps.lo T hT)
      have old : ∀ c, c < s1.heap.objs.size → zipH H1 h1.objs.size acc xs ys c = H1 c := fun c lc => zipH_old lc lS lT
      have el : ∀ (i : Nat) T, acc[i]? = some T → ∃ x y u v, xs[i]? = some x ∧ ys[i]? = some y ∧ RelV x u ∧ RelV y v ∧ IsPair h2 T u v := fun i T eT => by
        have hi := (List.getElem?_eq_some_iff.mp eT).1
        have la := ps.len
        have hx : xs[i]? = some xs[i] := List.getElem?_eq_getElem (by omega)
        have hy : ys[i]? = some ys[i] := List.getElem?_eq_getElem (by omega)
        obtain ⟨u, hu, ru⟩ := rv.get hx
        obtain ⟨v, hv, rv'⟩ := rv2.get hy
        exact ⟨_, _, u, v, hx, hy, ru, rv', ps.prs i T u v eT (by simpa using hu) (by simpa using hv)⟩
      have un : Un X.fs [] H1 (zipH H1 h1.objs.size acc xs ys) s1.heap h2 := ⟨fun c o ec _ _ _ => k c o ec, fun c o ec _ _ _ => ⟨o.slots, k c o ec⟩, fun c o ec n _ => (old c (Heap.lt_size ec)).trans n, fun c o ec _ => ⟨o, k c o ec⟩,
        fun c zs ec => (old c (I1.hok.lt ec)).trans ec, fun c o u ec => (old c (I1.hok.lt ec)).trans ec, fun c pz ec => ⟨#[], by rw [old c (I1.hok.lt ec), ec]; simp⟩⟩
      have hok : HOk X.prog X.w (zipH H1 h1.objs.size acc xs ys) h2 := fun c o ec => by
        by_cases lc : c < s1.heap.objs.size
        · rw [old c lc] at ec
          exact (I1.hok c o ec).stay (fun b u _ q => k b u q) (fun b q => (old b (I1.hok.lt q)).trans q) fun b zs q => (old b (I1.hok.lt q)).trans q
        · by_cases cS : c = h1.objs.size
          · rw [cS, zipH_S] at ec
            cases ec
            rw [cS]
            exact ⟨by rw [List.length_map, ps.len]; exact z1, acc.map Value.ref, c', vals_refs acc, hS⟩
          · by_cases cm : c ∈ acc
            · obtain ⟨i, hi, ei⟩ := List.getElem_of_mem cm
              have eT : acc[i]? = some c := by rw [List.getElem?_eq_getElem hi, ei]
              obtain ⟨x, y, u, v, hx, hy, ru, rv', pr⟩ := el i c eT
              rw [zipH_T ps.asc eT cS hx hy] at ec
              cases ec
              exact ⟨by show 2 ≤ sizeLine; decide, [u, v], .cons ru (.cons rv' .nil), ⟨_, pr, rfl, _, rfl⟩⟩
            · exfalso
              unfold zipH at ec
              rw [if_neg cS, if_neg cm] at ec
              exact lc (I1.hok.lt ec)
      exact ⟨.ref h1.objs.size, _, I1.un (t' := s1.toks) un hok, rfl, q h1.objs.size acc _ (I1.hok.fresh lS) (fun c o ec => (old c (I1.hok.lt ec)).trans ec) zipH_S (by rw [ps.len]) fun i T x y eT hx hy => zipH_T ps.asc eT (nT T (List.mem_of_getElem? eT)) hx hy⟩
end
end My

namespace MyRT
open PySem PyProof.Rows HT
section
variable {prog : Program} {w : World} {A : Around} {E : Value → Shared → Prop} {s : Shared}
theorem adjust_rev (n : Nat) : Builtin.Slice.sliceAdjust none none (-1) (n : Int) = ((n : Int) - 1, -1) := rfl
theorem places_rev (n : Nat) : Builtin.Slice.slicePlaces ((n : Int) - 1) (-1) (-1) = n := by
  unfold Builtin.Slice.slicePlaces
  rw [if_neg (by decide)]
  have e : (- (-1 : Int)) = 1 := by decide
  rw [e, Int.ediv_one]
  split <;> omega
theorem applied_rev {sl : Addr} {vl vu vs : Value} {n : Nat} {Q : Int × Int × Nat → Shared → Prop} (hs : s.heap.IsSliceOf sl vl vu vs) (pl : IsPart vl none) (pu : IsPart vu none) (ps : IsPart vs (some (-1)))
    (h : Q ((n : Int) - 1, -1, n) s) : wpAny (model prog w) A (Builtin.Slice.sliceApplied (.ref sl) (pure (n : Int))) Q E s := by
  obtain ⟨os, hos, hcs, hds⟩ := id hs
  unfold Builtin.Slice.sliceApplied Builtin.Slice.sliceFields
  refine wpAny_bind (wpAny_bind (wpAny_field hos hds (x := vl) rfl (wpAny_bind (wpAny_field hos hds (x := vu) rfl (wpAny_bind (wpAny_field hos hds (x := vs) rfl (wpAny_pure ?_)))))))
  refine wpAny_bind (slicePart_ ps ?_)
  show wpAny _ _ (if ((-1 : Int) == 0) = true then _ else _) _ _ s
  rw [if_neg (by decide)]
  refine wpAny_bind (slicePart_ pl (wpAny_bind (slicePart_ pu (wpAny_bind (wpAny_pure ?_)))))
  show wpAny _ _ (match Builtin.Slice.sliceAdjust none none (-1) (n : Int) with | (lo, hi) => pure (lo, (-1 : Int), Builtin.Slice.slicePlaces lo hi (-1))) _ _ s
  rw [adjust_rev]
  show wpAny _ _ (pure ((n : Int) - 1, (-1 : Int), Builtin.Slice.slicePlaces ((n : Int) - 1) (-1) (-1))) _ _ s
  rw [places_rev]
  exact wpAny_pure h
theorem fm_congr2 {α β : Type} {f g : α → Option β} : ∀ {l : List α}, (∀ x ∈ l, f x = g x) → l.filterMap f = l.filterMap g
  | [], _ => rfl
  | x :: l, h => by
    rw [List.filterMap_cons, List.filterMap_cons, h x List.mem_cons_self, fm_congr2 (l := l) fun y hy => h y (List.mem_cons_of_mem _ hy)]
theorem pick_rev (xs : Array Value) : ((List.range xs.size).filterMap fun (k : Nat) => xs[((xs.size : Int) - 1 + (k : Int) * (-1)).toNat]?).toArray = xs.toList.reverse.toArray := by
  have e : ((List.range xs.size).filterMap fun (k : Nat) => xs[((xs.size : Int) - 1 + (k : Int) * (-1)).toNat]?) = ((List.range xs.size).map (fun k => xs.size - 1 - k)).filterMap (xs[·]?) := by
    rw [List.filterMap_map]
    refine fm_congr2 fun k hk => ?_
    have := List.mem_range.mp hk
    have e2 : ((xs.size : Int) - 1 + (k : Int) * (-1)).toNat = xs.size - 1 - k := by omega
    rw [e2]
    rfl
  rw [e, PySem.W.krv_range, List.filterMap_reverse]
  have := PySem.W.krv_all xs
  rw [this]
theorem getItem_rev {t sl : Addr} {items : Array Value} {vl vu vs : Value} {Q : Value → Shared → Prop} (ht : IsTup s.heap t items) (hs : s.heap.IsSliceOf sl vl vu vs) (pl : IsPart vl none) (pu : IsPart vu none) (ps : IsPart vs (some (-1)))
    (h : Q (.ref s.heap.objs.size) { s with heap := s.heap.push { cls := .type "tuple", data := .seq items.toList.reverse.toArray } })
    (hsz : items.size ≤ sizeLine) : wpAny (model prog w) A (getItem (.ref t) (.ref sl)) Q E s := by
  have htake : sizeOk (.seq items.toList.reverse.toArray) := by
    show items.toList.reverse.toArray.size ≤ sizeLine
    rw [List.size_toArray, List.length_reverse, Array.length_toList]
    exact hsz
  obtain ⟨os, hos, hcs, hds⟩ := id hs
  have hTs : s.TypeIs (.ref sl) "slice" := ⟨os, hos, hcs⟩
  unfold getItem
  try with_reducible refine wpAny_holding ?_
  first | refine wpAny_bind (wpAny_pure ?_) | skip
  refine wpAny_bind (wpAny_sequenceKey ht.typeIs (by decide) ?_)
  refine wpAny_bind (wpAny_callSpecial?_slot (name := Str.ofString "__getitem__") ht.typeIs PyProof.Rows.slot_tuple_getitem
    (wpAny_call_entry PyProof.Rows.slot_tuple_getitem ht.typeIs entry_tuple_getitem ?_ (args_tuple_getitem _ _)))
  show wpAny _ _ (Builtin.Tuple.tupleItemsOf (.ref t) >>= _) _ _ s
  refine wpAny_bind (tupleItemsOf_ ht ?_)
  refine wpAny_bind (wpAny_typeOf hTs ?_)
  rw [if_pos (by decide)]
  refine wpAny_bind (applied_rev hs pl pu ps ?_)
  have hno : ¬ ((((items.size : Int) - 1) == 0 && (-1 : Int) == 1 && items.size == items.size) = true) := by
    intro q
    rw [Bool.and_eq_true, Bool.and_eq_true] at q
    exact absurd (eq_of_beq q.1.2) (by decide)
  show wpAny _ _ (if (((items.size : Int) - 1) == 0 && (-1 : Int) == 1 && items.size == items.size) = true then _ else _) _ _ s
  rw [if_neg hno, pick_rev]
  first
    | exact wpAny_bind (m := Builtin.Tuple.tupleExact _) (wpAny_newObj_type (wpAny_pure ⟨_, rfl, wpAny_pure h⟩) htake)
    | exact wpAny_bind (m := Builtin.Tuple.tupleExact _) (wpAny_newObj_type (wpAny_bind (wpAny_pure (wpAny_pure ⟨_, rfl, wpAny_pure h⟩))) htake)
    | exact wpAny_bind (wpAny_bind (m := Builtin.Tuple.tupleExact _) (wpAny_newObj_type (wpAny_pure (wpAny_pure ⟨_, rfl, wpAny_pure h⟩)) htake))
    | exact wpAny_bind (wpAny_bind (m := Builtin.Tuple.tupleExact _) (wpAny_newObj_type (wpAny_pure ⟨_, rfl, wpAny_pure h⟩) htake))
end
end MyRT
namespace L2
open PySem PySem.Spec PyProof.Rows
/-! ### t[::-1] -/
def tRevT (K : PySem.W.Frag) (te : TE) : TE := fun σ H Q => te σ H fun x H1 => ∃ a xs, x = .ref a ∧ SqT K H1 a xs ∧ ∀ p, H1 p = none → Q (.ref p) (upd H1 p (.tup xs.reverse))
theorem pe_revT {X : Cx} {e : Expr} {te : TE} {k : Nat} {p1 p2 p3 pos : Pos} (he : PE X e te) : PE X (.Subscript e (.Slice none none (some (.UnaryOp .USub (.Constant (.int 1) k p1) p2)) p3) pos) (tRevT X.K te) := by
  refine ⟨fun pins s σ H Q I h => ?_⟩
  refine Subscript_ (thn (he.run pins s σ H _ I h) fun v s1 ⟨x, H1, I1, r1, q1⟩ => ?_)
  obtain ⟨a, xs, ex, hx, q⟩ := q1
  subst ex
  cases r1
  have hst : PO X (some (.UnaryOp .USub (.Constant (.int 1) k p1) p2)) (tPart (tUn (rU fun i => .int (-i)) (tC (.int 1)))) := po_some (pe_un un_neg pe_int)
  refine wpAny_Slice (thn (po_none.run pins s1 σ H1 (fun o H2 => o = none ∧ H2 = H1) I1 ⟨rfl, rfl⟩) fun vl s2 ⟨l, H2, I2, pl, el, e2⟩ => ?_)
  subst el e2
  refine thn (po_none.run pins s2 σ H2 (fun o H3 => o = none ∧ H3 = H2) I2 ⟨rfl, rfl⟩) fun vu s3 ⟨u, H3, I3, pu, eu, e3⟩ => ?_
  subst eu e3
  refine thn (hst.run pins s3 σ H3 (fun o H4 => o = some (-1) ∧ H4 = H3) I3 ⟨1, rfl, -1, rfl, rfl, rfl⟩) fun vs s4 ⟨o, H4, I4, ps, eo, e4⟩ => ?_
  subst eo e4
  have I5 : Inv X pins σ H4 { s4 with heap := s4.heap.push { cls := .type "slice", data := .fields #[vl, vu, vs] } } := I4.kept (t' := s4.toks) fun b ob q => Heap.get?_push_of_some _ q
  obtain ⟨its, r, ht, hz⟩ := I5.tuple hx
  have hlen := r.length
  show wpAny (model X.prog X.w) X.A (subscriptTail e (.Slice none none (some (.UnaryOp .USub (.Constant (.int 1) k p1) p2)) p3) (.ref a) (.ref s4.heap.objs.size)) (EP X pins σ Q) X.xe { s4 with heap := s4.heap.push { cls := .type "slice", data := .fields #[vl, vu, vs] } }
  refine tail_any (ops := [.ref a, .ref s4.heap.objs.size]) ht.typeIs (PyProof.Rows.slot_tuple_getitem.lookup) ?_ (by with_unfolding_all rfl)
  refine MyRT.getItem_rev ht (Heap.IsSliceOf.new _ vl vu vs) pl pu ps ?_ (by rw [List.size_toArray]; omega)
  refine ⟨.ref _, _, I5.laid (t' := s4.toks) (o := .tup xs.reverse) (fun b ob q => Heap.get?_push_of_some _ q) (Nat.le_refl _) ?_, rfl, q _ (I5.hok.fresh (Nat.le_refl _))⟩
  exact ⟨by rw [List.length_reverse]; exact hz, _, r.reverse, ⟨_, Heap.get?_push_size _ rfl, rfl, 0, rfl⟩⟩
end L2

namespace My
open PySem PySem.Spec PyProof.Rows L2
/-! ### what kind a value is of -/
/-- its kind answers to the built-in types as f says -/
def Kd (K : PySem.W.Frag) (H : Hp) (v : V) (f : String → Bool) : Prop := ∃ t, TyX K H v t ∧ ∀ n ∈ ["int", "bool", "str", "list", "tuple", "dict"], PySem.W.kitOne K t (.type n) = some (f n)
def rIsD (K : PySem.W.Frag) : List V → Hp → VK → Prop := fun xs H Q => ∃ x n, xs = [x, .ty n] ∧ n ∈ ["int", "bool", "str", "list", "tuple", "dict"] ∧ ∃ f, Kd K H x f ∧ Q (.bl (f n)) H
theorem call_isD {X : Cx} : CallR X (.builtin "isinstance") (rIsD X.K) := fun pins s σ H xs us Q I r h => by
  obtain ⟨x, n, rfl, hn, f, ⟨t, ty, hk⟩, q⟩ := h
  exact call_isi pins s σ H _ us Q I r ⟨x, .ty n, t, .type n, f n, rfl, .ty n, ty, hk n hn, q⟩
section
variable {P : Program} {w : World} {K : PySem.W.Frag} {mg : Str → Option Value} {base : Heap}
theorem Kd.ty {H : Hp} {v : V} {t : String} (h : tyN K H v = some t) : Kd K H v (isB t) := ⟨.type t, tyN_X h, fun n hn => kit_ty (kit_all t (tyN_mem h) n hn)⟩
/-- a value whose being a whole number is told by itself -/
def Wh (K : PySem.W.Frag) (H : Hp) (v : V) : Prop := ∃ f, Kd K H v f ∧ (f "int" && !f "bool") = wholeV v
theorem Wh.ty {H : Hp} {v : V} {t : String} (h : tyN K H v = some t) : Wh K H v := ⟨_, Kd.ty h, by
  rw [wholeV_ty h]
  have mt := tyN_mem h
  simp only [List.mem_cons, List.not_mem_nil, or_false] at mt
  rcases mt with rfl | rfl | rfl | rfl | rfl | rfl | rfl <;> rfl⟩
theorem Wh.int {H : Hp} (n : Int) : Wh K H (.int n) := Wh.ty (t := "int") rfl
theorem tyX_same {H H' : Hp} {x : V} {t : Value} (s : Same H H') (h : TyX K H x t) : TyX K H' x t := by
  cases h with
  | base b =>
    cases b with
    | non => exact .base .non
    | bl y => exact .base (.bl y)
    | int y => exact .base (.int y)
    | str y => exact .base (.str y)
    | flt y => exact .base (.flt y)
    | lst e => exact .base (.lst (s _ _ e))
    | frz e => exact .base (.frz (s _ _ e))
    | tup e => exact .base (.tup (s _ _ e))
    | dK e => exact .base (.dK (s _ _ e))
    | dT e => exact .base (.dT (s _ _ e))
    | ins e a b c d f => exact .base (.ins (s _ _ e) a b c d f)
  | byt b => exact .byt b
  | set e => exact .set (s _ _ e)
  | kList e c => exact .kList e c
  | kTuple e c => exact .kTuple e c
  | kDict e c => exact .kDict e c
  | fTuple e => exact .fTuple (s _ _ e)
  | fDict e => exact .fDict (s _ _ e)
theorem Kd.same {H H' : Hp} {v : V} {f : String → Bool} (h : Kd K H v f) (s : Same H H') : Kd K H' v f := by
  obtain ⟨t, a, b⟩ := h
  exact ⟨t, tyX_same s a, b⟩
theorem Wh.same {H H' : Hp} {v : V} (h : Wh K H v) (s : Same H H') : Wh K H' v := by
  obtain ⟨f, a, b⟩ := h
  exact ⟨f, a.same s, b⟩
def inB (a b : Int) : V → Bool
  | .int n => decide (a ≤ n) && decide (n ≤ b)
  | _ => false
theorem whole_or (v : V) : wholeV v = false ∨ ∃ n, v = .int n := by
  cases v with
  | int n => exact .inr ⟨n, rfl⟩
  | _ => exact .inl rfl
theorem inB_no {a b : Int} {v : V} (h : wholeV v = false) : inB a b v = false := by
  cases v with
  | int n => cases h
  | _ => rfl
def spWholeU (K : PySem.W.Frag) : Sp := fun vs H Q _ => ∃ v, vs = [v] ∧ Wh K H v ∧ Q (.bl (wholeV v)) H
def spWithin (K : PySem.W.Frag) : Sp := fun vs H Q _ => ∃ (v : V) (a b : Int), vs = [v, .int a, .int b] ∧ Wh K H v ∧ Q (.bl (inB a b v)) H
abbrev sWholeU : Stmt := topS 16
theorem scWholeU : FnScope ["value"] ["value"] (defScope sWholeU) := ⟨rfl, rfl, rfl, by decide +kernel, rfl, by decide +kernel, by decide +kernel⟩
theorem k_WholeU (T : Bt K mg) (D : Dfn K mg "is_whole" sWholeU ["value"]) : Kn P w K mg base 1 "is_whole" ["value"] (spWholeU K) := by
  refine Kn.mk' D scWholeU (fun vs H Q E h => ?_) (fun f cdv A outer s H vs Q E hr h => ?_)
  · obtain ⟨v, rfl, _⟩ := h
    rfl
  obtain ⟨v, rfl, hv, q⟩ := h
  refine ⟨_, (pss_one (ps_ret (pe_and (pe_callB call_isD (by rfl) T.b_isinstance (by decide +kernel) (pa_cons (pv 0) (pa_cons (pe_bltn (v := .ty "int") (by rfl) T.b_int (by decide +kernel) rfl) pa_nil))) (pe_one (pe_not (pe_callB call_isD (by rfl) T.b_isinstance (by decide +kernel) (pa_cons (pv 0) (pa_cons (pe_bltn (v := .ty "bool") (by rfl) T.b_bool (by decide +kernel) rfl) pa_nil)))))))), ?_⟩
  obtain ⟨f, hf, e⟩ := hv
  refine ⟨_, rfl, v, "int", rfl, by decide, f, hf, f "int", rfl, ?_⟩
  rw [← e] at q
  cases hi : f "int" with
  | false =>
    rw [hi] at q
    exact if_no rfl q
  | true =>
    rw [hi] at q
    refine if_yes rfl ⟨_, rfl, v, "bool", rfl, by decide, f, hf, f "bool", rfl, ?_⟩
    exact q
abbrev sWithin : Stmt := topS 17
theorem scWithin : FnScope ["value", "least", "most"] ["value", "least", "most"] (defScope sWithin) := ⟨rfl, rfl, rfl, by decide +kernel, rfl, by decide +kernel, by decide +kernel⟩
theorem k_Within (T : Bt K mg) (D : Dfn K mg "is_whole_within" sWithin ["value", "least", "most"]) (d_is_whole : Kn P w K mg base 1 "is_whole" ["value"] (spWholeU K)) : Kn P w K mg base 2 "is_whole_within" ["value", "least", "most"] (spWithin K) := by
  refine Kn.mk' D scWithin (fun vs H Q E h => ?_) (fun f cdv A outer s H vs Q E hr h => ?_)
  · obtain ⟨v, a, b, rfl, _⟩ := h
    rfl
  obtain ⟨v, a, b, rfl, hv, k⟩ := h
  refine ⟨_, (pss_one (ps_ret (pe_and (pe_kn d_is_whole hr (by rfl) (pa_cons (pv 0) pa_nil)) (pe_one (pe_chain op_le op_le (pv 1) (pv 0) (pv 2)))))), ?_⟩
  rcases whole_or v with hw | ⟨n, rfl⟩
  · refine ⟨_, rfl, v, rfl, hv, _, rfl, ?_⟩
    rw [hw, if_neg Bool.noConfusion]
    rw [inB_no hw] at k
    exact k
  have k : Q (.bl (decide (a ≤ n) && decide (n ≤ b))) H := k
  refine ⟨_, rfl, .int n, rfl, hv, true, rfl, ?_⟩
  rw [if_pos rfl]
  simp only [tChain, cx_K, decide_true, decide_false, reduceCtorEq, gTp, gCons, gNil, ca_0, ca_1, ca_2, ca_3, ca_4, ca_5, ca_6, ca_7, ca_8, ca_9, ca_10, ca_11, ca_12, ca_13, ca_14, ca_15, ca_16, ca_17, ca_18, ca_19, ca_20, ca_21, ca_22, ca_23, ca_24, ca_25, ca_26, ca_27, ca_28, ca_29, ca_30, not_true_eq_false, not_false_eq_true, Int.reduceEq, Nat.reduceEqDiff, Nat.reduceLeDiff, rGcd, V.ty.injEq, eq_self, List.not_mem_nil, beq_self_eq_true, HO.lst.injEq, HO.tup.injEq, tFor_eq, iRng1, iList, iTup, nat10, tSeq, rIxA, rSetA, rIsN, rIsT, tTp, tLs, itsO_tup, itsO_lst, tyO_tup, tyO_lst, tyO_dK, tyN_non, tyN_bl, tyN_int, tyN_str, tyN_ref, tyNs_lt, isB, upd_same, upd_upd, sizeLine_eq, List.mem_cons, String.reduceBEq, String.reduceEq, Bool.or_false, Bool.or_true, Bool.and_false, Bool.false_or, Bool.and_self, Bool.false_and, Bool.not_false, Bool.not_true, List.any_cons, List.any_nil, atI_0, setI_0, atI_1, setI_1, atI_2, setI_2, atI_3, setI_3, atI_4, setI_4, atI_5, setI_5, atI_6, setI_6, tAsg, gName, tOp, tUn, tVar, tC, tCons, L2.tNil, tRet, tIfS, tTest, tCB, tCall, rI, rI0, rU, tNext, tB, tAnd, tOr, tNot, tAndV, tOrV, tNotV, tDrop, tIf, tPar, gSub, rIxL, rIxT, rEq, rNe, rSetL, tBits,
    L2.start, List.map_cons, List.map_nil, List.cons_append, List.nil_append, List.append_nil, List.length_cons, List.length_nil, List.replicate, Nat.reduceAdd, Nat.reduceSub, Nat.zero_add, List.getElem?_cons_zero, List.getElem?_cons_succ, List.set_cons_zero, List.set_cons_succ,
    Option.some.injEq, exists_eq_left', exists_eq_left, V.int.injEq, V.bl.injEq, V.ref.injEq, V.str.injEq, List.cons.injEq, reduceCtorEq, and_true, true_and, false_and, and_false, exists_false, or_false, false_or, or_true, true_or, exists_const, CMul, CDiv, CPow, and_assoc, exists_and_left, exists_and_right, Int.reducePow, Int.reduceNeg, Int.reduceLT, Int.reduceLE, Nat.reducePow, Nat.reduceLT, Int.reduceToNat, gt_iff_lt, ge_iff_le, decide_eq_true_eq, Bool.not_eq_true', decide_eq_false_iff_not, scal, ↓reduceIte, Bool.false_eq_true]
  refine ite2 (fun h => ?_) (fun h => ?_)
  · rw [decide_eq_true h, Bool.true_and] at k
    exact k
  · rw [decide_eq_false h, Bool.false_and] at k
    exact k
end
end My

namespace My
open PySem PySem.Spec PyProof.Rows L2
section
variable {P : Program} {w : World} {K : PySem.W.Frag} {mg : Str → Option Value} {base : Heap}
end
/-! ### what a def that raises keeps -/
structure KnX (P : Program) (w : World) (K : PySem.W.Frag) (mg : Str → Option Value) (base : Heap) (k : Nat) (x : Str) (ps : List Str) (sp : Sp) : Prop where
  ex : ∃ f fd, mg x = some (.ref f) ∧ PySem.W.keepIn K (.ref f) = true ∧ Binds K fd ps [] ∧ FnOk P w K mg base (L2.CX P w) k f fd ps sp
theorem KnX.mk' {P : Program} {w : World} {K : PySem.W.Frag} {mg : Str → Option Value} {base : Heap} {x : Str} {st : Stmt} {N ps : List Str} {k : Nat} {sp : Sp} (D : Dfn K mg x st ps) (S : FnScope N ps (defScope st)) (len : ∀ vs H Q E, sp vs H Q E → vs.length = ps.length)
    (hbody : ∀ (f : Addr) (cdv : Value) (A : Around) (outer : List Env) (s : Shared) (H : Hp) (vs : List V) (Q : VK) (E : XK), Room k (A.deeper (envOfC x (defScope st) s.heap.objs.size f cdv)) → sp vs H Q E →
      ∃ t, PSs (cxOf (L2.CX P w) P w K mg base N x (defScope st) f cdv A outer s H E) (defBody st) t ∧ t { nx := fun _ H' => Q .non H', rt := Q } (start N vs) H) : KnX P w K mg base (k + 1) x ps sp := by
  obtain ⟨f, fd, F, m, b⟩ := D.ex
  exact ⟨f, fd, m, F.kp, b, F.okX S len (hbody f)⟩
section
variable {X : Cx}
theorem pe_knX {j k : Nat} {x : Str} {ps : List Str} {sp : Sp} {p pos : Pos} {e : Expr} {es : List Expr} {t : TA} {W : WX} (E : XK) (F : KnX X.prog X.w X.K X.mg X.base k x ps sp) (hr : Room j X.A) (hg : Gl X x) (tk : Takes X W) (hW : ∀ cls d σ H, E cls d H → W cls d σ H) (ha : PA X (e :: es) t) (hj : k ≤ j := by omega)
    (hdb : (x == ("__debug__" : Str)) = false := by decide) (he : starEach (e :: es) X.env = (false, eval e X.env) :: starEach es X.env := by rfl) (hpl : (backTo pos (starEach es X.env)).any (·.1) = false := by rfl) :
    PE X (.Call (.Name x p) (e :: es) [] pos) (tCall sp [] E t) := by
  obtain ⟨f, fd, m, kp, b, G⟩ := F.ex
  exact pe_call G (hr.mono hj) hg m kp b .nil (passes_call tk hW) ha hdb he hpl
end
/-! ### BadValue -/
structure BvT (K : PySem.W.Frag) (mg : Str → Option Value) (C : Addr) : Prop where
  g : mg "BadValue" = some (.ref C)
  ox : OexC K C
  no : PySem.W.findIn K (.ref C) "what" = some none
  ini : ∃ fI fd, PySem.W.findIn K (.ref C) "__init__" = some (some (.ref fI)) ∧ PySem.W.typeIn K (.ref fI) = some (.type "function") ∧ Fun K "__init__" "BadValue.__init__" (inClass (topS 3) 0) fI fd ∧ Binds K fd ["self", "what"] []
def spInit (C : Addr) : Sp := fun vs H Q _ => ∃ (a : Addr) (y : V), vs = [.ref a, y] ∧ H a = some (exo a C none) ∧ ∀ dx, H dx = none → dx ≠ a → Q .non (upd (upd H dx (exd dx [("what", y)])) a (exo a C (some dx)))
/-- an error of BadValue: its own dict d, what it names -/
def Bv (K : PySem.W.Frag) (C : Addr) (H : Hp) (E : XK) (y : V) : Prop := ∀ (d : Addr) (H' : Hp), Same H H' → H' d = some (.xd [("what", y)]) → E (.ref C) (some d) H'
def spRequireX (K : PySem.W.Frag) (C : Addr) : Sp := fun vs H _ E => ∃ y : V, vs = [.bl false, y] ∧ Bv K C H E y
section
variable {P : Program} {w : World} {K : PySem.W.Frag} {mg : Str → Option Value} {base : Heap}
abbrev sInitB : Stmt := inClass (topS 3) 0
theorem scInitB : FnScope ["self", "what"] ["self", "what"] (defScope sInitB) := ⟨rfl, rfl, rfl, by decide +kernel, rfl, by decide +kernel, by decide +kernel⟩
theorem ok_initB {C fI : Addr} {fd : FuncData} (B : BvT K mg C) (F : Fun K "__init__" "BadValue.__init__" sInitB fI fd) : FnOk P w K mg base CX0 1 fI fd ["self", "what"] (spInit C) := by
  refine F.ok scInitB (fun vs H Q E h => ?_) (fun cdv A outer s H vs Q E hr h => ?_)
  · obtain ⟨a, y, rfl, _⟩ := h
    rfl
  obtain ⟨a, y, rfl, ha, k⟩ := h
  refine ⟨_, pss_one (ps_ost (pv 0) (pv 1)), ?_⟩
  exact ⟨_, rfl, _, rfl, a, C, rfl, B.ox, B.no, .inl ⟨ha, k⟩⟩
theorem kx_Require {C : Addr} (B : BvT K mg C) (D : Dfn K mg "require" sRequire ["well_formed", "what"]) : KnX P w K mg base 3 "require" ["well_formed", "what"] (spRequireX K C) := by
  refine KnX.mk' D scRequire (fun vs H Q E h => ?_) (fun f cdv A outer s H vs Q E hr h => ?_)
  · obtain ⟨y, rfl, _⟩ := h
    rfl
  obtain ⟨y, rfl, k⟩ := h
  obtain ⟨fI, fd, iC, tI, F, b⟩ := B.ini
  refine ⟨_, (pss_one (ps_if (pt_not (pt_val (pv 0))) (pss_one (ps_raise rfl (takes_of rfl rfl rfl rfl) (pmk_oex B.ox iC tI (ok_initB B F) hr b .nil pass0 (by rfl) B.g (pa_cons (pv 1) pa_nil)))) pss_nil)), ?_⟩
  refine ⟨_, rfl, _, rfl, iteT ?_⟩
  refine ⟨_, rfl, by show 1 ≤ 1000; decide, fun a na => ⟨a, y, rfl, upd_same, fun dx ndx ne => ⟨rfl, dx, [("what", y)], upd_same, ?_, ?_, ?_⟩⟩⟩
  · rw [upd_ne ne, upd_same]
  · rw [upd_ne ne] at ndx
    exact ndx
  · rw [upd_ne ne] at ndx
    refine k dx _ (fun b o e => ?_) upd_same
    rw [upd_ne (ne_of_none e ndx), del_ne (ne_of_none e na), upd_ne (ne_of_none e na), upd_ne (ne_of_none e ndx), upd_ne (ne_of_none e na)]
    exact e
end
/-- X(), X an own exception class without own __init__ -/
theorem pmk_own0 {X : Cx} {C : Addr} {bmB : List Value} {B newId initId : String} {x : Str} {p pos : Pos} (F : ExcBaseFacts B newId initId bmB) (q : PySem.W.excIn X.K C bmB newId = true) (gC : X.mg x = some (.ref C)) (kC : PySem.W.keepIn X.K (.ref C) = true) (r : Raises X (.ref C)) (hg : Gl X x)
    (hdb : (x == ("__debug__" : Str)) = false := by decide) : PMk X (.Call (.Name x p) [] [] pos) (fun _ H Q => Q (.ref C) none H) := by
  intro pins s σ H Q I h
  refine wpAny_Call_Name_kw (ld_glob I hg gC ?_ hdb)
  refine PySem.W.callWith_K0 I.kIn kC ?_
  show wpAny _ _ (call (.ref C) []) _ _ _
  obtain ⟨bm, N, nm, qn, bs, hdct, sn, sub, ab, col, dd, k0, k1, k2, k3, k5, mN, hC, hN, hni, T⟩ := exc_obj I.kIn q
  refine wpAny_call_exc_subT F T hC hN hni (fun h' e hm => ?_) (by show 0 ≤ sizeLine; rw [sizeLine_eq]; omega)
  exact mk_of I hm r h (I.hok.gone hm.new)
/-- what the written part says of Mismatch -/
structure MiT (K : PySem.W.Frag) (mg : Str → Option Value) (M : Addr) : Prop where
  g : mg "Mismatch" = some (.ref M)
  kp : PySem.W.keepIn K (.ref M) = true
  ex : ∃ B newId initId bmB, ExcBaseFacts B newId initId bmB ∧ PySem.W.excIn K M bmB newId = true
  sb : PySem.W.subIn K (.ref M) (.type "BaseException") = some true
  ty : PySem.W.typeIn K (.ref M) = some (.type "type")
section
variable {P : Program} {w : World} {K : PySem.W.Frag} {mg : Str → Option Value} {base : Heap}
theorem Bv.same {C : Addr} {H H' : Hp} {E : XK} {y : V} (h : Bv K C H E y) (s : Same H H') : Bv K C H' E y := fun d H'' s2 hd => h d H'' (s.trans s2) hd
theorem inB_yes {a b n : Int} (h0 : a ≤ n) (h1 : n ≤ b) : inB a b (.int n) = true := by
  show (decide (a ≤ n) && decide (n ≤ b)) = true
  rw [decide_eq_true h0, decide_eq_true h1]
  rfl
end
end My

namespace My
open PySem PySem.Spec PyProof.Rows L2
section
variable {P : Program} {w : World} {K : PySem.W.Frag} {mg : Str → Option Value} {base : Heap}
end
/-- what the written part says of the errors' classes: C is BadValue, S SkyError, A the eleven by name -/
structure AskT (K : PySem.W.Frag) (mg : Str → Option Value) (C S : Addr) (A : String → Addr) : Prop where
  sky : mg "SkyError" = some (.ref S)
  exm : PySem.W.exmOne K (.ref C) (.ref S) = some true
  g : ∀ n ∈ ["BadValue", "Mismatch", "Still", "Endless", "TooMany", "NoName", "Taken", "Locked", "Looped", "Broken", "ReadError"], mg (Str.ofString n) = some (.ref (A n))
  k : ∀ n ∈ ["BadValue", "Mismatch", "Still", "Endless", "TooMany", "NoName", "Taken", "Locked", "Looped", "Broken", "ReadError"], PySem.W.kitOne K (.ref C) (.ref (A n)) = some (n == "BadValue")
  ve : PySem.W.kitOne K (.ref C) (.type "ValueError") = some true
  b_VE : mg "ValueError" = none
  hcl : (PySem.W.clsIn K C).isSome = true
  hga : PySem.W.findIn K (.ref C) "__getattribute__" = some (some (.builtin "BaseException.__getattribute__"))
  hgt : PySem.W.findIn K (.ref C) "__getattr__" = some none
  hsub : PySem.W.subIn K (.ref C) (.type "BaseException") = some true
  ha : PySem.W.findIn K (.ref C) "__class__" = some (some (.builtin "object.__class__"))
  hn : PySem.W.specialIn K (.builtin "object.__class__") "__get__" = some (some (.builtin "getset_descriptor.__get__"))
  htk : PySem.W.takesIn K (.builtin "object.__class__") = some true
  hm : PySem.W.mroIn K C (.type "object") = some true
  xf : XfC K C
/-- isinstance of a caught error that has its dict -/
def kitV (K : PySem.W.Frag) (C : Addr) : V → Option Bool
  | .ref D => PySem.W.kitOne K (.ref C) (.ref D)
  | .ty n => PySem.W.kitOne K (.ref C) (.type n)
  | _ => none
def rIsX (K : PySem.W.Frag) (C a : Addr) (cls : Value) (d : Option Addr) : List V → Hp → VK → Prop := fun xs H Q => ∃ c, xs = [.ref a, c] ∧ cls = .ref C ∧ ∃ dd, d = some dd ∧ (∃ fs, H dd = some (.xd fs)) ∧ ∃ b, kitV K C c = some b ∧ Q (.bl b) H
theorem call_isX {X : Cx} {C S a : Addr} {A : String → Addr} {oe : Obj} {cls : Value} {d : Option Addr} {pn : List (Addr × Obj)} (T : AskT X.K X.mg C S A) (hz : Zc cls d oe) (hf : ∃ vs, oe.data = .fields vs) : CallR (X.suite a ((a, oe) :: pn)) (.builtin "isinstance") (rIsX X.K C a cls d) := fun pins s σ H xs us Q I r h => by
  obtain ⟨c, rfl, rfl, dd, rfl, ⟨fs, hfs⟩, b, hb, q⟩ := h
  obtain ⟨u1, u2, rfl, r1, r2⟩ := vals2 r
  cases r1
  obtain ⟨hget, _⟩ := I.pin (a, oe) (List.mem_append.mpr (.inl List.mem_cons_self))
  obtain ⟨vs, hv⟩ := hf
  obtain ⟨mA, ⟨od, es, ep, ho, hr0⟩, hr⟩ := (show ObjOk X.prog X.w H s.heap dd (.xd fs) from I.hok dd _ hfs)
  have J : PySem.W.InstAt s.heap a oe C (some od) := ⟨hget, hz.1, by unfold PySem.W.notCls; rw [hv] <;> rfl, by rw [hz.2]; exact ho⟩
  have Z := PySem.W.kitx_exc (K := X.K) (C := C) (x := a) (ox := oe) (od := some od) T.hcl T.hga T.hgt T.hsub T.ha T.hn T.htk T.hm
  cases c with
  | ref D =>
    obtain rfl : u2 = Value.ref D := r2
    exact PySem.W.kia_one Z I.kIn J hb (fun z => nomatch z) fun tk => ⟨.bl b, H, I.kept (t' := tk) fun _ _ z => z, rfl, q⟩
  | ty n =>
    obtain rfl : u2 = Value.type n := r2
    exact PySem.W.kia_one Z I.kIn J hb (fun z => nomatch z) fun tk => ⟨.bl b, H, I.kept (t' := tk) fun _ _ z => z, rfl, q⟩
  | _ => cases hb
def rLenA (K : PySem.W.Frag) : List V → Hp → VK → Prop := fun xs H Q => ∃ p, xs = [.ref p] ∧ ∃ ys, itsO (ob K H p) = some ys ∧ Q (.int ys.length) H
/-- a wish of the right number of slots is wish enough -/
theorem takes_len {X : Cx} {W : WX} (t : Takes X W) : Takes X (fun cls d σ H => σ.length = X.N.length → W cls d σ H) := fun u s' ⟨a, B, sI, pins, σ, H, cls, d, e, I, nb, up, sky, na, os, ag, w⟩ =>
  t u s' ⟨a, B, sI, pins, σ, H, cls, d, e, I, nb, up, sky, na, os, ag, w I.len⟩
/-- what the law's asking makes of a call: told, or BadValue and what it names -/
def TAsk (K : PySem.W.Frag) (C : Addr) : (XK → Hp → VK → Prop) → Hp → VK → Prop := fun tl H Q =>
  tl (fun cls d H' => cls = .ref C ∧ ∃ dd y, d = some dd ∧ H' dd = some (.xd [("what", y)]) ∧ ∀ p H'', Same H' H'' → ob K H'' p = some (.tup [.str "BadValue", y]) → Q (.ref p) H'') H
    (fun v H1 => ([V.str "told", v] : List V).length ≤ sizeLine ∧ ∀ p, H1 p = none → K.lookup p = none → Q (.ref p) (upd H1 p (.tup [.str "told", v])))
abbrev sAsked : Stmt := topS 68
theorem scAsked : FnScope ["_law_call", "e", "_law_kinds"] ["_law_call"] (defScope sAsked) := ⟨rfl, rfl, rfl, by decide +kernel, rfl, by decide +kernel, by decide +kernel⟩

theorem asked_gives {X : Cx} {C S : Addr} {A : String → Addr} {g : Addr} {cdg : Value} {q : Str} (Z : Bt X.K X.mg) (B : BvT X.K X.mg C) (T : AskT X.K X.mg C S A) : LamX.GivesTo X ["_law_call", "e", "_law_kinds"] "_law_asked" (defScope sAsked) g cdg (defBody sAsked) "_law_call" q (TAsk X.K C) := by
  intro f c' s H Q tl act hc h
  refine ⟨_, pss_one (ps_try_as (X := (cxOf C8.CX0 X.prog X.w X.K X.mg X.base ["_law_call", "e", "_law_kinds"] "_law_asked" (defScope sAsked) g cdg X.A X.stack s H C8.E0).nox) (i := 1) (c := .ref S)
      (tb := fun W D σ H => ∃ Ech : XK, (∀ cls d σ' H', Ech cls d H' → σ'.length = 3 → W cls d σ' H') ∧ tRet (tTp X.K (tCons (tC (.str "told")) (tCons (fun σZ HZ Q => σZ[0]? = some (some (.ref f)) ∧ HZ c' = some (LamX.CodeO c' q) ∧ tl Ech HZ Q) L2.tNil))) D σ H)
      rfl rfl scAsked.nd rfl rfl ⟨rfl, by decide, .inl T.sky⟩ takes0 (fun W pn xe tk _ => ?_) (fun a oe cls d pn hz hf => (pss_cons (ps_set (i := 2) scAsked.nd rfl (.inl rfl) (show PE (Cx.suite (cxOf C8.CX0 X.prog X.w X.K X.mg X.base ["_law_call", "e", "_law_kinds"] "_law_asked" (defScope sAsked) g cdg X.A X.stack s H C8.E0).nox a ((a, oe) :: pn)) _ (tLs X.K L2.tNil) from pe_ls pa_nil))
      (pss_cons (ps_if (pt_val (pe_callB (call_isX (X := (cxOf C8.CX0 X.prog X.w X.K X.mg X.base ["_law_call", "e", "_law_kinds"] "_law_asked" (defScope sAsked) g cdg X.A X.stack s H C8.E0).nox) (a := a) (pn := pn) T hz hf) (by rfl) Z.b_isinstance (by decide +kernel) (pa_cons (pv 1) (pa_cons (pe_glob (v := .ref (A "BadValue")) (by rfl) (T.g "BadValue" (by decide)) rfl) pa_nil)))) (pss_one (ps_expr (show PE (Cx.suite (cxOf C8.CX0 X.prog X.w X.K X.mg X.base ["_law_call", "e", "_law_kinds"] "_law_asked" (defScope sAsked) g cdg X.A X.stack s H C8.E0).nox a ((a, oe) :: pn)) _ (tBM X.K "list" rAppend (tVar 2) (tCons (tTp X.K (tCons (tC (.str "BadValue")) (tCons (tXf a cls d C "what" (tVar 1)) L2.tNil))) L2.tNil)) from pe_bm PySem.F.plainAttrs_list PySem.F.slot_list_append PySem.F.type_list_append mt_append (pv 2) (pa_cons (pe_tp (pa_cons pe_str (pa_cons (pe_xf (X := (cxOf C8.CX0 X.prog X.w X.K X.mg X.base ["_law_call", "e", "_law_kinds"] "_law_asked" (defScope sAsked) g cdg X.A X.stack s H C8.E0).nox) (a := a) (pn := pn) T.xf B.no hz hf (pv 1)) pa_nil))) pa_nil)))) pss_nil)
      (pss_cons (ps_if (pt_val (pe_callB (call_isX (X := (cxOf C8.CX0 X.prog X.w X.K X.mg X.base ["_law_call", "e", "_law_kinds"] "_law_asked" (defScope sAsked) g cdg X.A X.stack s H C8.E0).nox) (a := a) (pn := pn) T hz hf) (by rfl) Z.b_isinstance (by decide +kernel) (pa_cons (pv 1) (pa_cons (pe_glob (v := .ref (A "Mismatch")) (by rfl) (T.g "Mismatch" (by decide)) rfl) pa_nil)))) (pss_one ps_never) pss_nil)
      (pss_cons (ps_if (pt_val (pe_callB (call_isX (X := (cxOf C8.CX0 X.prog X.w X.K X.mg X.base ["_law_call", "e", "_law_kinds"] "_law_asked" (defScope sAsked) g cdg X.A X.stack s H C8.E0).nox) (a := a) (pn := pn) T hz hf) (by rfl) Z.b_isinstance (by decide +kernel) (pa_cons (pv 1) (pa_cons (pe_glob (v := .ref (A "Still")) (by rfl) (T.g "Still" (by decide)) rfl) pa_nil)))) (pss_one ps_never) pss_nil)
      (pss_cons (ps_if (pt_val (pe_callB (call_isX (X := (cxOf C8.CX0 X.prog X.w X.K X.mg X.base ["_law_call", "e", "_law_kinds"] "_law_asked" (defScope sAsked) g cdg X.A X.stack s H C8.E0).nox) (a := a) (pn := pn) T hz hf) (by rfl) Z.b_isinstance (by decide +kernel) (pa_cons (pv 1) (pa_cons (pe_glob (v := .ref (A "Endless")) (by rfl) (T.g "Endless" (by decide)) rfl) pa_nil)))) (pss_one ps_never) pss_nil)
      (pss_cons (ps_if (pt_val (pe_callB (call_isX (X := (cxOf C8.CX0 X.prog X.w X.K X.mg X.base ["_law_call", "e", "_law_kinds"] "_law_asked" (defScope sAsked) g cdg X.A X.stack s H C8.E0).nox) (a := a) (pn := pn) T hz hf) (by rfl) Z.b_isinstance (by decide +kernel) (pa_cons (pv 1) (pa_cons (pe_glob (v := .ref (A "TooMany")) (by rfl) (T.g "TooMany" (by decide)) rfl) pa_nil)))) (pss_one ps_never) pss_nil)
      (pss_cons (ps_if (pt_val (pe_callB (call_isX (X := (cxOf C8.CX0 X.prog X.w X.K X.mg X.base ["_law_call", "e", "_law_kinds"] "_law_asked" (defScope sAsked) g cdg X.A X.stack s H C8.E0).nox) (a := a) (pn := pn) T hz hf) (by rfl) Z.b_isinstance (by decide +kernel) (pa_cons (pv 1) (pa_cons (pe_glob (v := .ref (A "NoName")) (by rfl) (T.g "NoName" (by decide)) rfl) pa_nil)))) (pss_one ps_never) pss_nil)
      (pss_cons (ps_if (pt_val (pe_callB (call_isX (X := (cxOf C8.CX0 X.prog X.w X.K X.mg X.base ["_law_call", "e", "_law_kinds"] "_law_asked" (defScope sAsked) g cdg X.A X.stack s H C8.E0).nox) (a := a) (pn := pn) T hz hf) (by rfl) Z.b_isinstance (by decide +kernel) (pa_cons (pv 1) (pa_cons (pe_glob (v := .ref (A "Taken")) (by rfl) (T.g "Taken" (by decide)) rfl) pa_nil)))) (pss_one ps_never) pss_nil)
      (pss_cons (ps_if (pt_val (pe_callB (call_isX (X := (cxOf C8.CX0 X.prog X.w X.K X.mg X.base ["_law_call", "e", "_law_kinds"] "_law_asked" (defScope sAsked) g cdg X.A X.stack s H C8.E0).nox) (a := a) (pn := pn) T hz hf) (by rfl) Z.b_isinstance (by decide +kernel) (pa_cons (pv 1) (pa_cons (pe_glob (v := .ref (A "Locked")) (by rfl) (T.g "Locked" (by decide)) rfl) pa_nil)))) (pss_one ps_never) pss_nil)
      (pss_cons (ps_if (pt_val (pe_callB (call_isX (X := (cxOf C8.CX0 X.prog X.w X.K X.mg X.base ["_law_call", "e", "_law_kinds"] "_law_asked" (defScope sAsked) g cdg X.A X.stack s H C8.E0).nox) (a := a) (pn := pn) T hz hf) (by rfl) Z.b_isinstance (by decide +kernel) (pa_cons (pv 1) (pa_cons (pe_glob (v := .ref (A "Looped")) (by rfl) (T.g "Looped" (by decide)) rfl) pa_nil)))) (pss_one ps_never) pss_nil)
      (pss_cons (ps_if (pt_val (pe_callB (call_isX (X := (cxOf C8.CX0 X.prog X.w X.K X.mg X.base ["_law_call", "e", "_law_kinds"] "_law_asked" (defScope sAsked) g cdg X.A X.stack s H C8.E0).nox) (a := a) (pn := pn) T hz hf) (by rfl) Z.b_isinstance (by decide +kernel) (pa_cons (pv 1) (pa_cons (pe_glob (v := .ref (A "Broken")) (by rfl) (T.g "Broken" (by decide)) rfl) pa_nil)))) (pss_one ps_never) pss_nil)
      (pss_cons (ps_if (pt_val (pe_callB (call_isX (X := (cxOf C8.CX0 X.prog X.w X.K X.mg X.base ["_law_call", "e", "_law_kinds"] "_law_asked" (defScope sAsked) g cdg X.A X.stack s H C8.E0).nox) (a := a) (pn := pn) T hz hf) (by rfl) Z.b_isinstance (by decide +kernel) (pa_cons (pv 1) (pa_cons (pe_glob (v := .ref (A "ReadError")) (by rfl) (T.g "ReadError" (by decide)) rfl) pa_nil)))) (pss_one ps_never) pss_nil)
      (pss_cons (ps_if (PW.pt (pw_or (pt_cmpR op_ne (pe_callB (show CallR (Cx.suite (cxOf C8.CX0 X.prog X.w X.K X.mg X.base ["_law_call", "e", "_law_kinds"] "_law_asked" (defScope sAsked) g cdg X.A X.stack s H C8.E0).nox a ((a, oe) :: pn)) (.builtin "len") (rLenA X.K) from call_lenA) (by rfl) Z.b_len PySem.boot_len (pa_cons (pv 2) pa_nil)) pe_int (nomark _)) (pw_or1 (pt_not (pt_val (pe_callB (call_isX (X := (cxOf C8.CX0 X.prog X.w X.K X.mg X.base ["_law_call", "e", "_law_kinds"] "_law_asked" (defScope sAsked) g cdg X.A X.stack s H C8.E0).nox) (a := a) (pn := pn) T hz hf) (by rfl) Z.b_isinstance (by decide +kernel) (pa_cons (pv 1) (pa_cons (pe_bltn (v := .ty "ValueError") (by rfl) T.b_VE (by decide +kernel) rfl) pa_nil)))))))) (pss_one ps_never) pss_nil)
      (pss_one (ps_ret (pe_ix (show IxR (Cx.suite (cxOf C8.CX0 X.prog X.w X.K X.mg X.base ["_law_call", "e", "_law_kinds"] "_law_asked" (defScope sAsked) g cdg X.A X.stack s H C8.E0).nox a ((a, oe) :: pn)) (rIxA X.K) from ix_any) (pv 2) pe_int (fun _ _ => rfl))))))))))))))))))), ?_⟩
  · refine ⟨fun pins s' σ H' D I h' => ?_⟩
    obtain ⟨Ech, hW, h2⟩ := h'
    exact (pss_one (ps_ret (pe_tp (pa_cons pe_str (pa_cons (act _ pn xe Ech _ _ (takes_len tk) (fun cls d σ' H' e l => hW cls d σ' H' e l)) pa_nil))))).run pins s' σ H' D I h2
  · refine ⟨fun cls d H' => cls = .ref C ∧ ∃ dd y, d = some dd ∧ H' dd = some (.xd [("what", y)]) ∧ ∀ p H'', Same H' H'' → ob X.K H'' p = some (.tup [.str "BadValue", y]) → Q (.ref p) H'', fun cls d σ' H' e l => ?_, rfl, hc, h⟩
    obtain ⟨rfl, dd, y, rfl, hd, k⟩ := e
    obtain ⟨x0, x1, x2, rfl⟩ : ∃ x0 x1 x2, σ' = [x0, x1, x2] := by
      match σ', l with
      | [x0, x1, x2], _ => exact ⟨x0, x1, x2, rfl⟩
    refine ⟨true, T.exm, fun _ a ha => ?_, fun z => nomatch z⟩
    refine ⟨Nat.zero_le _, fun l hl kl => ?_⟩
    have nl : dd ≠ l := ne_of_none hd hl
    have hd1 : upd H' l (.lst []) dd = some (.xd [("what", y)]) := by rw [upd_ne nl]; exact hd
    refine ⟨_, rfl, .ref (A "BadValue"), rfl, rfl, dd, rfl, ⟨_, hd1⟩, true, (T.k "BadValue" (by decide)).trans rfl, true, rfl, iteT ?_⟩
    refine ⟨_, rfl, .inl ⟨rfl, _, .of upd_same⟩, _, rfl, rfl, rfl, dd, _, y, rfl, hd1, rfl, by rw [sizeLine_eq]; show 2 ≤ 16777216; decide, fun p hp kp => ?_⟩
    have npl : p ≠ l := by rintro rfl; rw [upd_same] at hp; cases hp
    have npd : dd ≠ p := ne_of_none hd1 hp
    refine ⟨l, [], .ref p, rfl, rfl, by rw [upd_ne (Ne.symm npl), upd_same], by rw [sizeLine_eq]; decide, ?_⟩
    have hp0 : H' p = none := by rw [upd_ne npl] at hp; exact hp
    have hd3 : upd (upd (upd H' l (.lst [])) p (.tup [.str "BadValue", y])) l (.lst ([] ++ [.ref p])) dd = some (.xd [("what", y)]) := by rw [upd_ne nl, upd_ne npd]; exact hd1
    have s3 : Same H' (upd (upd (upd H' l (.lst [])) p (.tup [.str "BadValue", y])) l (.lst ([] ++ [.ref p]))) := fun b o e => by
      rw [upd_ne (ne_of_none e hl), upd_ne (ne_of_none e hp0), upd_ne (ne_of_none e hl)]
      exact e
    have ol : ob X.K (upd (upd (upd H' l (.lst [])) p (.tup [.str "BadValue", y])) l (.lst ([] ++ [.ref p]))) l = some (.lst [.ref p]) := ob_new kl
    have op : ob X.K (upd (upd (upd H' l (.lst [])) p (.tup [.str "BadValue", y])) l (.lst ([] ++ [.ref p]))) p = some (.tup [.str "BadValue", y]) := by rw [ob_none kp, upd_ne npl, upd_same]
    generalize upd (upd (upd H' l (.lst [])) p (.tup [.str "BadValue", y])) l (.lst ([] ++ [.ref p])) = H3 at hd3 s3 ol op ⊢
    refine ⟨_, rfl, .ref (A "Mismatch"), rfl, rfl, dd, rfl, ⟨_, hd3⟩, false, (T.k "Mismatch" (by decide)).trans rfl, false, rfl, iteF ?_⟩
    refine ⟨_, rfl, .ref (A "Still"), rfl, rfl, dd, rfl, ⟨_, hd3⟩, false, (T.k "Still" (by decide)).trans rfl, false, rfl, iteF ?_⟩
    refine ⟨_, rfl, .ref (A "Endless"), rfl, rfl, dd, rfl, ⟨_, hd3⟩, false, (T.k "Endless" (by decide)).trans rfl, false, rfl, iteF ?_⟩
    refine ⟨_, rfl, .ref (A "TooMany"), rfl, rfl, dd, rfl, ⟨_, hd3⟩, false, (T.k "TooMany" (by decide)).trans rfl, false, rfl, iteF ?_⟩
    refine ⟨_, rfl, .ref (A "NoName"), rfl, rfl, dd, rfl, ⟨_, hd3⟩, false, (T.k "NoName" (by decide)).trans rfl, false, rfl, iteF ?_⟩
    refine ⟨_, rfl, .ref (A "Taken"), rfl, rfl, dd, rfl, ⟨_, hd3⟩, false, (T.k "Taken" (by decide)).trans rfl, false, rfl, iteF ?_⟩
    refine ⟨_, rfl, .ref (A "Locked"), rfl, rfl, dd, rfl, ⟨_, hd3⟩, false, (T.k "Locked" (by decide)).trans rfl, false, rfl, iteF ?_⟩
    refine ⟨_, rfl, .ref (A "Looped"), rfl, rfl, dd, rfl, ⟨_, hd3⟩, false, (T.k "Looped" (by decide)).trans rfl, false, rfl, iteF ?_⟩
    refine ⟨_, rfl, .ref (A "Broken"), rfl, rfl, dd, rfl, ⟨_, hd3⟩, false, (T.k "Broken" (by decide)).trans rfl, false, rfl, iteF ?_⟩
    refine ⟨_, rfl, .ref (A "ReadError"), rfl, rfl, dd, rfl, ⟨_, hd3⟩, false, (T.k "ReadError" (by decide)).trans rfl, false, rfl, iteF ?_⟩
    refine ⟨_, rfl, l, rfl, _, (by rw [ol]; rfl), rfl, false, rfl, iteF ?_⟩
    refine ⟨_, rfl, .ty "ValueError", rfl, rfl, dd, rfl, ⟨_, hd3⟩, true, T.ve, true, rfl, iteF ?_⟩
    exact ⟨_, rfl, l, 0, rfl, rfl, [.ref p], (by rw [ol]; rfl), .ref p, rfl, k p H3 s3 op⟩
end My

namespace My
open PySem PySem.Spec PyProof.Rows L2
section
variable {P : Program} {w : World} {K : PySem.W.Frag} {mg : Str → Option Value} {base : Heap}
end
/-- what the written part says of a caught Mismatch, that has no dict -/
structure AskM (K : PySem.W.Frag) (M S : Addr) (A : String → Addr) : Prop where
  exm : PySem.W.exmOne K (.ref M) (.ref S) = some true
  k : ∀ n ∈ ["BadValue", "Mismatch", "Still", "Endless", "TooMany", "NoName", "Taken", "Locked", "Looped", "Broken", "ReadError"], PySem.W.kitOne K (.ref M) (.ref (A n)) = some (n == "Mismatch")
  ve : PySem.W.kitOne K (.ref M) (.type "ValueError") = some true
  e : ExcC K M
def rIsX2 (K : PySem.W.Frag) (C M a : Addr) (cls : Value) (d : Option Addr) : List V → Hp → VK → Prop := fun xs H Q => rIsX K C a cls d xs H Q ∨ (cls = .ref M ∧ d = none ∧ ∃ c b, xs = [.ref a, c] ∧ kitV K M c = some b ∧ Q (.bl b) H)
theorem call_isX2 {X : Cx} {C M S a : Addr} {A : String → Addr} {oe : Obj} {cls : Value} {d : Option Addr} {pn : List (Addr × Obj)} (T : AskT X.K X.mg C S A) (TM : AskM X.K M S A) (hz : Zc cls d oe) (hf : ∃ vs, oe.data = .fields vs) : CallR (X.suite a ((a, oe) :: pn)) (.builtin "isinstance") (rIsX2 X.K C M a cls d) := fun pins s σ H xs us Q I r h => by
  rcases h with h | ⟨rfl, rfl, c, b, rfl, hb, q⟩
  · exact call_isX T hz hf pins s σ H xs us Q I r h
  · refine call_isE TM.e hz hf pins s σ H _ us Q I r ?_
    cases c with
    | ref D => exact ⟨_, .ref D, b, rfl, fun u hu => hu, hb, q⟩
    | ty n => exact ⟨_, .type n, b, rfl, fun u hu => hu, hb, q⟩
    | _ => cases hb
/-- what the asking makes of a call: told, BadValue and what it names, or Mismatch -/
def TAsk2 (K : PySem.W.Frag) (C M : Addr) : (XK → Hp → VK → Prop) → Hp → VK → Prop := fun tl H Q =>
  tl (fun cls d H' => (cls = .ref C ∧ ∃ dd y, d = some dd ∧ H' dd = some (.xd [("what", y)]) ∧ ∀ p H'', Same H' H'' → ob K H'' p = some (.tup [.str "BadValue", y]) → Q (.ref p) H'') ∨ (cls = .ref M ∧ d = none ∧ ∀ p H'', Same H' H'' → ob K H'' p = some (.tup [.str "Mismatch", .non]) → Q (.ref p) H'')) H
    (fun v H1 => ([V.str "told", v] : List V).length ≤ sizeLine ∧ ∀ p, H1 p = none → K.lookup p = none → Q (.ref p) (upd H1 p (.tup [.str "told", v])))

theorem asked_gives2 {X : Cx} {C M S : Addr} {A : String → Addr} {g : Addr} {cdg : Value} {q : Str} (Z : Bt X.K X.mg) (B : BvT X.K X.mg C) (T : AskT X.K X.mg C S A) (TM : AskM X.K M S A) : LamX.GivesTo X ["_law_call", "e", "_law_kinds"] "_law_asked" (defScope sAsked) g cdg (defBody sAsked) "_law_call" q (TAsk2 X.K C M) := by
  intro f c' s H Q tl act hc h
  refine ⟨_, pss_one (ps_try_as (X := (cxOf C8.CX0 X.prog X.w X.K X.mg X.base ["_law_call", "e", "_law_kinds"] "_law_asked" (defScope sAsked) g cdg X.A X.stack s H C8.E0).nox) (i := 1) (c := .ref S)
      (tb := fun W D σ H => ∃ Ech : XK, (∀ cls d σ' H', Ech cls d H' → σ'.length = 3 → W cls d σ' H') ∧ tRet (tTp X.K (tCons (tC (.str "told")) (tCons (fun σZ HZ Q => σZ[0]? = some (some (.ref f)) ∧ HZ c' = some (LamX.CodeO c' q) ∧ tl Ech HZ Q) L2.tNil))) D σ H)
      rfl rfl scAsked.nd rfl rfl ⟨rfl, by decide, .inl T.sky⟩ takes0 (fun W pn xe tk _ => ?_) (fun a oe cls d pn hz hf => (pss_cons (ps_set (i := 2) scAsked.nd rfl (.inl rfl) (show PE (Cx.suite (cxOf C8.CX0 X.prog X.w X.K X.mg X.base ["_law_call", "e", "_law_kinds"] "_law_asked" (defScope sAsked) g cdg X.A X.stack s H C8.E0).nox a ((a, oe) :: pn)) _ (tLs X.K L2.tNil) from pe_ls pa_nil))
      (pss_cons (ps_if (pt_val (pe_callB (call_isX2 (X := (cxOf C8.CX0 X.prog X.w X.K X.mg X.base ["_law_call", "e", "_law_kinds"] "_law_asked" (defScope sAsked) g cdg X.A X.stack s H C8.E0).nox) (a := a) (pn := pn) T TM hz hf) (by rfl) Z.b_isinstance (by decide +kernel) (pa_cons (pv 1) (pa_cons (pe_glob (v := .ref (A "BadValue")) (by rfl) (T.g "BadValue" (by decide)) rfl) pa_nil)))) (pss_one (ps_expr (show PE (Cx.suite (cxOf C8.CX0 X.prog X.w X.K X.mg X.base ["_law_call", "e", "_law_kinds"] "_law_asked" (defScope sAsked) g cdg X.A X.stack s H C8.E0).nox a ((a, oe) :: pn)) _ (tBM X.K "list" rAppend (tVar 2) (tCons (tTp X.K (tCons (tC (.str "BadValue")) (tCons (tXf a cls d C "what" (tVar 1)) L2.tNil))) L2.tNil)) from pe_bm PySem.F.plainAttrs_list PySem.F.slot_list_append PySem.F.type_list_append mt_append (pv 2) (pa_cons (pe_tp (pa_cons pe_str (pa_cons (pe_xf (X := (cxOf C8.CX0 X.prog X.w X.K X.mg X.base ["_law_call", "e", "_law_kinds"] "_law_asked" (defScope sAsked) g cdg X.A X.stack s H C8.E0).nox) (a := a) (pn := pn) T.xf B.no hz hf (pv 1)) pa_nil))) pa_nil)))) pss_nil)
      (pss_cons (ps_if (pt_val (pe_callB (call_isX2 (X := (cxOf C8.CX0 X.prog X.w X.K X.mg X.base ["_law_call", "e", "_law_kinds"] "_law_asked" (defScope sAsked) g cdg X.A X.stack s H C8.E0).nox) (a := a) (pn := pn) T TM hz hf) (by rfl) Z.b_isinstance (by decide +kernel) (pa_cons (pv 1) (pa_cons (pe_glob (v := .ref (A "Mismatch")) (by rfl) (T.g "Mismatch" (by decide)) rfl) pa_nil)))) (pss_one (ps_expr (show PE (Cx.suite (cxOf C8.CX0 X.prog X.w X.K X.mg X.base ["_law_call", "e", "_law_kinds"] "_law_asked" (defScope sAsked) g cdg X.A X.stack s H C8.E0).nox a ((a, oe) :: pn)) _ (tBM X.K "list" rAppend (tVar 2) (tCons (tTp X.K (tCons (tC (.str "Mismatch")) (tCons (tC .non) L2.tNil))) L2.tNil)) from pe_bm PySem.F.plainAttrs_list PySem.F.slot_list_append PySem.F.type_list_append mt_append (pv 2) (pa_cons (pe_tp (pa_cons pe_str (pa_cons pe_non pa_nil))) pa_nil)))) pss_nil)
      (pss_cons (ps_if (pt_val (pe_callB (call_isX2 (X := (cxOf C8.CX0 X.prog X.w X.K X.mg X.base ["_law_call", "e", "_law_kinds"] "_law_asked" (defScope sAsked) g cdg X.A X.stack s H C8.E0).nox) (a := a) (pn := pn) T TM hz hf) (by rfl) Z.b_isinstance (by decide +kernel) (pa_cons (pv 1) (pa_cons (pe_glob (v := .ref (A "Still")) (by rfl) (T.g "Still" (by decide)) rfl) pa_nil)))) (pss_one ps_never) pss_nil)
      (pss_cons (ps_if (pt_val (pe_callB (call_isX2 (X := (cxOf C8.CX0 X.prog X.w X.K X.mg X.base ["_law_call", "e", "_law_kinds"] "_law_asked" (defScope sAsked) g cdg X.A X.stack s H C8.E0).nox) (a := a) (pn := pn) T TM hz hf) (by rfl) Z.b_isinstance (by decide +kernel) (pa_cons (pv 1) (pa_cons (pe_glob (v := .ref (A "Endless")) (by rfl) (T.g "Endless" (by decide)) rfl) pa_nil)))) (pss_one ps_never) pss_nil)
      (pss_cons (ps_if (pt_val (pe_callB (call_isX2 (X := (cxOf C8.CX0 X.prog X.w X.K X.mg X.base ["_law_call", "e", "_law_kinds"] "_law_asked" (defScope sAsked) g cdg X.A X.stack s H C8.E0).nox) (a := a) (pn := pn) T TM hz hf) (by rfl) Z.b_isinstance (by decide +kernel) (pa_cons (pv 1) (pa_cons (pe_glob (v := .ref (A "TooMany")) (by rfl) (T.g "TooMany" (by decide)) rfl) pa_nil)))) (pss_one ps_never) pss_nil)
      (pss_cons (ps_if (pt_val (pe_callB (call_isX2 (X := (cxOf C8.CX0 X.prog X.w X.K X.mg X.base ["_law_call", "e", "_law_kinds"] "_law_asked" (defScope sAsked) g cdg X.A X.stack s H C8.E0).nox) (a := a) (pn := pn) T TM hz hf) (by rfl) Z.b_isinstance (by decide +kernel) (pa_cons (pv 1) (pa_cons (pe_glob (v := .ref (A "NoName")) (by rfl) (T.g "NoName" (by decide)) rfl) pa_nil)))) (pss_one ps_never) pss_nil)
      (pss_cons (ps_if (pt_val (pe_callB (call_isX2 (X := (cxOf C8.CX0 X.prog X.w X.K X.mg X.base ["_law_call", "e", "_law_kinds"] "_law_asked" (defScope sAsked) g cdg X.A X.stack s H C8.E0).nox) (a := a) (pn := pn) T TM hz hf) (by rfl) Z.b_isinstance (by decide +kernel) (pa_cons (pv 1) (pa_cons (pe_glob (v := .ref (A "Taken")) (by rfl) (T.g "Taken" (by decide)) rfl) pa_nil)))) (pss_one ps_never) pss_nil)
      (pss_cons (ps_if (pt_val (pe_callB (call_isX2 (X := (cxOf C8.CX0 X.prog X.w X.K X.mg X.base ["_law_call", "e", "_law_kinds"] "_law_asked" (defScope sAsked) g cdg X.A X.stack s H C8.E0).nox) (a := a) (pn := pn) T TM hz hf) (by rfl) Z.b_isinstance (by decide +kernel) (pa_cons (pv 1) (pa_cons (pe_glob (v := .ref (A "Locked")) (by rfl) (T.g "Locked" (by decide)) rfl) pa_nil)))) (pss_one ps_never) pss_nil)
      (pss_cons (ps_if (pt_val (pe_callB (call_isX2 (X := (cxOf C8.CX0 X.prog X.w X.K X.mg X.base ["_law_call", "e", "_law_kinds"] "_law_asked" (defScope sAsked) g cdg X.A X.stack s H C8.E0).nox) (a := a) (pn := pn) T TM hz hf) (by rfl) Z.b_isinstance (by decide +kernel) (pa_cons (pv 1) (pa_cons (pe_glob (v := .ref (A "Looped")) (by rfl) (T.g "Looped" (by decide)) rfl) pa_nil)))) (pss_one ps_never) pss_nil)
      (pss_cons (ps_if (pt_val (pe_callB (call_isX2 (X := (cxOf C8.CX0 X.prog X.w X.K X.mg X.base ["_law_call", "e", "_law_kinds"] "_law_asked" (defScope sAsked) g cdg X.A X.stack s H C8.E0).nox) (a := a) (pn := pn) T TM hz hf) (by rfl) Z.b_isinstance (by decide +kernel) (pa_cons (pv 1) (pa_cons (pe_glob (v := .ref (A "Broken")) (by rfl) (T.g "Broken" (by decide)) rfl) pa_nil)))) (pss_one ps_never) pss_nil)
      (pss_cons (ps_if (pt_val (pe_callB (call_isX2 (X := (cxOf C8.CX0 X.prog X.w X.K X.mg X.base ["_law_call", "e", "_law_kinds"] "_law_asked" (defScope sAsked) g cdg X.A X.stack s H C8.E0).nox) (a := a) (pn := pn) T TM hz hf) (by rfl) Z.b_isinstance (by decide +kernel) (pa_cons (pv 1) (pa_cons (pe_glob (v := .ref (A "ReadError")) (by rfl) (T.g "ReadError" (by decide)) rfl) pa_nil)))) (pss_one ps_never) pss_nil)
      (pss_cons (ps_if (PW.pt (pw_or (pt_cmpR op_ne (pe_callB (show CallR (Cx.suite (cxOf C8.CX0 X.prog X.w X.K X.mg X.base ["_law_call", "e", "_law_kinds"] "_law_asked" (defScope sAsked) g cdg X.A X.stack s H C8.E0).nox a ((a, oe) :: pn)) (.builtin "len") (rLenA X.K) from call_lenA) (by rfl) Z.b_len PySem.boot_len (pa_cons (pv 2) pa_nil)) pe_int (nomark _)) (pw_or1 (pt_not (pt_val (pe_callB (call_isX2 (X := (cxOf C8.CX0 X.prog X.w X.K X.mg X.base ["_law_call", "e", "_law_kinds"] "_law_asked" (defScope sAsked) g cdg X.A X.stack s H C8.E0).nox) (a := a) (pn := pn) T TM hz hf) (by rfl) Z.b_isinstance (by decide +kernel) (pa_cons (pv 1) (pa_cons (pe_bltn (v := .ty "ValueError") (by rfl) T.b_VE (by decide +kernel) rfl) pa_nil)))))))) (pss_one ps_never) pss_nil)
      (pss_one (ps_ret (pe_ix (show IxR (Cx.suite (cxOf C8.CX0 X.prog X.w X.K X.mg X.base ["_law_call", "e", "_law_kinds"] "_law_asked" (defScope sAsked) g cdg X.A X.stack s H C8.E0).nox a ((a, oe) :: pn)) (rIxA X.K) from ix_any) (pv 2) pe_int (fun _ _ => rfl))))))))))))))))))), ?_⟩
  · refine ⟨fun pins s' σ H' D I h' => ?_⟩
    obtain ⟨Ech, hW, h2⟩ := h'
    exact (pss_one (ps_ret (pe_tp (pa_cons pe_str (pa_cons (act _ pn xe Ech _ _ (takes_len tk) (fun cls d σ' H' e l => hW cls d σ' H' e l)) pa_nil))))).run pins s' σ H' D I h2
  · refine ⟨fun cls d H' => (cls = .ref C ∧ ∃ dd y, d = some dd ∧ H' dd = some (.xd [("what", y)]) ∧ ∀ p H'', Same H' H'' → ob X.K H'' p = some (.tup [.str "BadValue", y]) → Q (.ref p) H'') ∨ (cls = .ref M ∧ d = none ∧ ∀ p H'', Same H' H'' → ob X.K H'' p = some (.tup [.str "Mismatch", .non]) → Q (.ref p) H''), fun cls d σ' H' e l => ?_, rfl, hc, h⟩
    obtain ⟨x0, x1, x2, rfl⟩ : ∃ x0 x1 x2, σ' = [x0, x1, x2] := by
      match σ', l with
      | [x0, x1, x2], _ => exact ⟨x0, x1, x2, rfl⟩
    rcases e with ⟨rfl, dd, y, rfl, hd, k⟩ | ⟨rfl, rfl, k⟩
    · refine ⟨true, T.exm, fun _ a ha => ?_, fun z => nomatch z⟩
      refine ⟨Nat.zero_le _, fun l hl kl => ?_⟩
      have nl : dd ≠ l := ne_of_none hd hl
      have hd1 : upd H' l (.lst []) dd = some (.xd [("what", y)]) := by rw [upd_ne nl]; exact hd
      refine ⟨_, rfl, .inl ⟨.ref (A "BadValue"), rfl, rfl, dd, rfl, ⟨_, hd1⟩, true, (T.k "BadValue" (by decide)).trans rfl, true, rfl, iteT ?_⟩⟩
      refine ⟨_, rfl, .inl ⟨rfl, _, .of upd_same⟩, _, rfl, rfl, rfl, dd, _, y, rfl, hd1, rfl, by rw [sizeLine_eq]; show 2 ≤ 16777216; decide, fun p hp kp => ?_⟩
      have npd : dd ≠ p := ne_of_none hd1 hp
      have npl : p ≠ l := by rintro rfl; rw [upd_same] at hp; cases hp
      refine ⟨l, [], .ref p, rfl, rfl, by rw [upd_ne (Ne.symm npl), upd_same], by rw [sizeLine_eq]; decide, ?_⟩
      have hp0 : H' p = none := by rw [upd_ne npl] at hp; exact hp
      have s3 : Same H' (upd (upd (upd H' l (.lst [])) p (.tup [.str "BadValue", y])) l (.lst ([] ++ [.ref p]))) := fun b o e => by
        rw [upd_ne (ne_of_none e hl), upd_ne (ne_of_none e hp0), upd_ne (ne_of_none e hl)]
        exact e
      have ol : ob X.K (upd (upd (upd H' l (.lst [])) p (.tup [.str "BadValue", y])) l (.lst ([] ++ [.ref p]))) l = some (.lst [.ref p]) := ob_new kl
      have op : ob X.K (upd (upd (upd H' l (.lst [])) p (.tup [.str "BadValue", y])) l (.lst ([] ++ [.ref p]))) p = some (.tup [.str "BadValue", y]) := by rw [ob_none kp, upd_ne npl, upd_same]
      have hd3 : upd (upd (upd H' l (.lst [])) p (.tup [.str "BadValue", y])) l (.lst ([] ++ [.ref p])) dd = some (.xd [("what", y)]) := by rw [upd_ne nl, upd_ne npd]; exact hd1
      generalize upd (upd (upd H' l (.lst [])) p (.tup [.str "BadValue", y])) l (.lst ([] ++ [.ref p])) = H3 at hd3 s3 ol op ⊢
      refine ⟨_, rfl, .inl ⟨.ref (A "Mismatch"), rfl, rfl, dd, rfl, ⟨_, hd3⟩, false, (T.k "Mismatch" (by decide)).trans rfl, false, rfl, iteF ?_⟩⟩
      refine ⟨_, rfl, .inl ⟨.ref (A "Still"), rfl, rfl, dd, rfl, ⟨_, hd3⟩, false, (T.k "Still" (by decide)).trans rfl, false, rfl, iteF ?_⟩⟩
      refine ⟨_, rfl, .inl ⟨.ref (A "Endless"), rfl, rfl, dd, rfl, ⟨_, hd3⟩, false, (T.k "Endless" (by decide)).trans rfl, false, rfl, iteF ?_⟩⟩
      refine ⟨_, rfl, .inl ⟨.ref (A "TooMany"), rfl, rfl, dd, rfl, ⟨_, hd3⟩, false, (T.k "TooMany" (by decide)).trans rfl, false, rfl, iteF ?_⟩⟩
      refine ⟨_, rfl, .inl ⟨.ref (A "NoName"), rfl, rfl, dd, rfl, ⟨_, hd3⟩, false, (T.k "NoName" (by decide)).trans rfl, false, rfl, iteF ?_⟩⟩
      refine ⟨_, rfl, .inl ⟨.ref (A "Taken"), rfl, rfl, dd, rfl, ⟨_, hd3⟩, false, (T.k "Taken" (by decide)).trans rfl, false, rfl, iteF ?_⟩⟩
      refine ⟨_, rfl, .inl ⟨.ref (A "Locked"), rfl, rfl, dd, rfl, ⟨_, hd3⟩, false, (T.k "Locked" (by decide)).trans rfl, false, rfl, iteF ?_⟩⟩
      refine ⟨_, rfl, .inl ⟨.ref (A "Looped"), rfl, rfl, dd, rfl, ⟨_, hd3⟩, false, (T.k "Looped" (by decide)).trans rfl, false, rfl, iteF ?_⟩⟩
      refine ⟨_, rfl, .inl ⟨.ref (A "Broken"), rfl, rfl, dd, rfl, ⟨_, hd3⟩, false, (T.k "Broken" (by decide)).trans rfl, false, rfl, iteF ?_⟩⟩
      refine ⟨_, rfl, .inl ⟨.ref (A "ReadError"), rfl, rfl, dd, rfl, ⟨_, hd3⟩, false, (T.k "ReadError" (by decide)).trans rfl, false, rfl, iteF ?_⟩⟩
      refine ⟨_, rfl, l, rfl, _, (by rw [ol]; rfl), rfl, false, rfl, iteF ?_⟩
      refine ⟨_, rfl, .inl ⟨.ty "ValueError", rfl, rfl, dd, rfl, ⟨_, hd3⟩, true, T.ve, true, rfl, iteF ?_⟩⟩
      exact ⟨_, rfl, l, 0, rfl, rfl, [.ref p], (by rw [ol]; rfl), .ref p, rfl, k p H3 s3 op⟩
    · refine ⟨true, TM.exm, fun _ a ha => ?_, fun z => nomatch z⟩
      refine ⟨Nat.zero_le _, fun l hl kl => ?_⟩
      refine ⟨_, rfl, .inr ⟨rfl, rfl, .ref (A "BadValue"), false, rfl, (TM.k "BadValue" (by decide)).trans rfl, false, rfl, iteF ?_⟩⟩
      refine ⟨_, rfl, .inr ⟨rfl, rfl, .ref (A "Mismatch"), true, rfl, (TM.k "Mismatch" (by decide)).trans rfl, true, rfl, iteT ?_⟩⟩
      refine ⟨_, rfl, .inl ⟨rfl, _, .of upd_same⟩, sz2 (by show 2 ≤ 100; decide), fun p hp kp => ?_⟩
      have npl : p ≠ l := by rintro rfl; rw [upd_same] at hp; cases hp
      refine ⟨l, [], .ref p, rfl, rfl, by rw [upd_ne (Ne.symm npl), upd_same], by rw [sizeLine_eq]; decide, ?_⟩
      have hp0 : H' p = none := by rw [upd_ne npl] at hp; exact hp
      have s3 : Same H' (upd (upd (upd H' l (.lst [])) p (.tup [.str "Mismatch", .non])) l (.lst ([] ++ [.ref p]))) := fun b o e => by
        rw [upd_ne (ne_of_none e hl), upd_ne (ne_of_none e hp0), upd_ne (ne_of_none e hl)]
        exact e
      have ol : ob X.K (upd (upd (upd H' l (.lst [])) p (.tup [.str "Mismatch", .non])) l (.lst ([] ++ [.ref p]))) l = some (.lst [.ref p]) := ob_new kl
      have op : ob X.K (upd (upd (upd H' l (.lst [])) p (.tup [.str "Mismatch", .non])) l (.lst ([] ++ [.ref p]))) p = some (.tup [.str "Mismatch", .non]) := by rw [ob_none kp, upd_ne npl, upd_same]
      generalize upd (upd (upd H' l (.lst [])) p (.tup [.str "Mismatch", .non])) l (.lst ([] ++ [.ref p])) = H3 at s3 ol op ⊢
      refine ⟨_, rfl, .inr ⟨rfl, rfl, .ref (A "Still"), false, rfl, (TM.k "Still" (by decide)).trans rfl, false, rfl, iteF ?_⟩⟩
      refine ⟨_, rfl, .inr ⟨rfl, rfl, .ref (A "Endless"), false, rfl, (TM.k "Endless" (by decide)).trans rfl, false, rfl, iteF ?_⟩⟩
      refine ⟨_, rfl, .inr ⟨rfl, rfl, .ref (A "TooMany"), false, rfl, (TM.k "TooMany" (by decide)).trans rfl, false, rfl, iteF ?_⟩⟩
      refine ⟨_, rfl, .inr ⟨rfl, rfl, .ref (A "NoName"), false, rfl, (TM.k "NoName" (by decide)).trans rfl, false, rfl, iteF ?_⟩⟩
      refine ⟨_, rfl, .inr ⟨rfl, rfl, .ref (A "Taken"), false, rfl, (TM.k "Taken" (by decide)).trans rfl, false, rfl, iteF ?_⟩⟩
      refine ⟨_, rfl, .inr ⟨rfl, rfl, .ref (A "Locked"), false, rfl, (TM.k "Locked" (by decide)).trans rfl, false, rfl, iteF ?_⟩⟩
      refine ⟨_, rfl, .inr ⟨rfl, rfl, .ref (A "Looped"), false, rfl, (TM.k "Looped" (by decide)).trans rfl, false, rfl, iteF ?_⟩⟩
      refine ⟨_, rfl, .inr ⟨rfl, rfl, .ref (A "Broken"), false, rfl, (TM.k "Broken" (by decide)).trans rfl, false, rfl, iteF ?_⟩⟩
      refine ⟨_, rfl, .inr ⟨rfl, rfl, .ref (A "ReadError"), false, rfl, (TM.k "ReadError" (by decide)).trans rfl, false, rfl, iteF ?_⟩⟩
      refine ⟨_, rfl, l, rfl, _, (by rw [ol]; rfl), rfl, false, rfl, iteF ?_⟩
      refine ⟨_, rfl, .inr ⟨rfl, rfl, .ty "ValueError", true, rfl, TM.ve, true, rfl, iteF ?_⟩⟩
      exact ⟨_, rfl, l, 0, rfl, rfl, [.ref p], (by rw [ol]; rfl), .ref p, rfl, k p H3 s3 op⟩
end My

namespace My
open PySem PySem.Spec PyProof.Rows L2
section
variable {P : Program} {w : World} {K : PySem.W.Frag} {mg : Str → Option Value} {base : Heap}
/-! ### the tables, while the draws go on -/
theorem tabs_kp {T : List (Addr × Str)} {H H' : Hp} {s : Addr} {ys : List V} (e : Kp s H H') (hs : H s = some (.lst ys)) (t : LamX.Tabs T H) : LamX.Tabs T H' := fun p hp => by
  obtain ⟨ps, h1, h2, h3⟩ := t p hp
  refine ⟨ps, e _ _ (by rintro z; rw [z, hs] at h1; cases h1) h1, h2, fun pos cv hc => ?_⟩
  obtain ⟨c, e1, e2⟩ := h3 pos cv hc
  exact ⟨c, e1, e _ _ (by rintro z; rw [z, hs] at e2; unfold LamX.CodeO at e2; cases e2) e2⟩
theorem tabs_same {T : List (Addr × Str)} {H H' : Hp} (e : Same H H') (t : LamX.Tabs T H) : LamX.Tabs T H' := t.ext e
/-- all but the store and the tables stands -/
def Bg (s : Addr) (H H' : Hp) : Prop := ∀ b o, b ≠ s → (∀ ps, o ≠ .tbl ps) → H b = some o → H' b = some o
theorem Bg.refl (s : Addr) (H : Hp) : Bg s H H := fun _ _ _ _ h => h
theorem Bg.trans {s : Addr} {H H1 H2 : Hp} (a : Bg s H H1) (b : Bg s H1 H2) : Bg s H H2 := fun c o n m h => b c o n m (a c o n m h)
theorem Bg.kp {s : Addr} {H H1 : Hp} (a : Kp s H H1) : Bg s H H1 := fun c o n _ h => a c o n h
theorem Bg.same {s : Addr} {H H1 : Hp} (a : Same H H1) : Bg s H H1 := fun c o _ _ h => a c o h
theorem Bg.ext {s : Addr} {H H1 : Hp} (a : LamX.ExtN H H1) : Bg s H H1 := fun c o _ m h => a c o h m
theorem ob_bg {H H' : Hp} {s a : Addr} {ys xs : List V} (e : Bg s H H') (hs : H s = some (.lst ys)) (h : ob K H a = some (.tup xs)) : ob K H' a = some (.tup xs) := by
  unfold ob at h ⊢
  split
  · rename_i o q
    rw [q] at h
    exact h
  · rename_i q
    rw [q] at h
    exact e _ _ (by rintro rfl; rw [hs] at h; cases h) (fun ps z => by cases z) h
theorem Fq.bg {H H' : Hp} {s a : Addr} {n : Nat} {ys : List V} {q : Qt} (h : Fq K H n a q) (e : Bg s H H') (hs : H s = some (.lst ys)) : Fq K H' n a q := ⟨ob_bg e hs h.o, h.nf, h.sz⟩
theorem Sto.ext {H H' : Hp} {s : Addr} (h : Sto K H s) (e : LamX.ExtN H H') : Sto K H' s := by
  obtain ⟨sc, ns, i, b, c, d, x, f, h1, h2, h3⟩ := h
  exact ⟨sc, ns, i, b, c, d, x, f, e _ _ h1 (fun ps z => by cases z), e _ _ h2 (fun ps z => by cases z), h3⟩
theorem ob_ext {H H' : Hp} {a : Addr} {z : HO} (e : LamX.ExtN H H') (n : ∀ ps, z ≠ .tbl ps) (h : ob K H a = some z) : ob K H' a = some z := by
  unfold ob at h ⊢
  split
  · rename_i o q
    rw [q] at h
    exact h
  · rename_i q
    rw [q] at h
    exact e _ _ h n
theorem tyO_ntbl {z : HO} (h : (tyO (some z)).isSome) : ∀ ps, z ≠ .tbl ps := fun ps e => by subst e; cases h
theorem tyS_ext {H H' : Hp} {v : V} (e : LamX.ExtN H H') (h : (tyN K H v).isSome) : (tyN K H' v).isSome := by
  cases v with
  | ref a =>
    cases hz : ob K H a with
    | none => rw [tyN_ref, hz] at h; cases h
    | some z =>
      rw [tyN_ref, hz] at h
      rw [tyN_ref, ob_ext e (tyO_ntbl h) hz]
      exact h
  | _ => exact h
theorem Gd.ext {H H' : Hp} {v : V} (e : LamX.ExtN H H') (h : Gd K H v) : Gd K H' v := by
  cases v with
  | ref a =>
    cases hz : ob K H a with
    | none =>
      have := h.ty.1
      rw [tyN_ref, hz] at this
      cases this
    | some z =>
      have nz : ∀ ps, z ≠ .tbl ps := tyO_ntbl (by have := h.ty.1; rw [tyN_ref, hz] at this; exact this)
      have hz' := ob_ext e nz hz
      refine ⟨⟨tyS_ext e h.ty.1, fun b xs ev o x hx => ?_⟩, ?_⟩
      · cases ev
        rw [hz'] at o
        exact tyS_ext e (h.ty.2 a xs rfl (hz.trans o) x hx)
      · have e2 : frOk K H' (.ref a) = frOk K H (.ref a) := by simp only [frOk, hz, hz']
        rw [e2]
        exact h.no
  | _ => exact ⟨⟨h.ty.1, fun _ _ e => by cases e⟩, h.no⟩
structure LawS (K : PySem.W.Frag) (T : List (Addr × Str)) (H : Hp) (s : Addr) : Prop where
  st : Sto K H s
  tb : LamX.Tabs T H
theorem LawS.same {T : List (Addr × Str)} {H H' : Hp} {s : Addr} (h : LawS K T H s) (e : Same H H') : LawS K T H' s := ⟨h.st.same e, tabs_same e h.tb⟩
theorem LawS.kp {T : List (Addr × Str)} {H H' : Hp} {s : Addr} (h : LawS K T H s) (e : Kp s H H') (st : Sto K H' s) : LawS K T H' s := by
  obtain ⟨ys, hy⟩ := h.st.at
  exact ⟨st, tabs_kp e hy h.tb⟩
end
section
variable {P : Program} {w : World} {K : PySem.W.Frag} {mg : Str → Option Value} {base : Heap}
theorem eqv_tup {H : Hp} {a b : Addr} {xs : List V} (oa : ob K H a = some (.tup xs)) (ob' : ob K H b = some (.tup xs)) (hs : xs.all scv = true) (hl : xs.length ≤ 1000) : Eqv K H 1 (.ref a) (.ref b) := by
  refine Or.inr (Or.inl ⟨a, b, xs, xs, rfl, rfl, .inl ⟨oa, ob'⟩, rfl, hl, fun i x y hx hy => ?_⟩)
  rw [hx] at hy
  cases hy
  exact ⟨rfl, List.all_eq_true.mp hs x (List.mem_of_getElem? hx)⟩
theorem eqv_sc {H : Hp} {v : V} (h : scv v = true) : ∀ n, Eqv K H n v v
  | 0 => ⟨rfl, h⟩
  | n + 1 => Or.inl ⟨rfl, h⟩
theorem tyN_ext {H H' : Hp} {v : V} {t : String} (e : LamX.ExtN H H') (h : tyN K H v = some t) : tyN K H' v = some t := by
  cases v with
  | ref a =>
    have h1 : tyO (ob K H a) = some t := h
    show tyO (ob K H' a) = some t
    cases hz : ob K H a with
    | none => rw [hz] at h1; cases h1
    | some z =>
      rw [hz] at h1
      rw [ob_ext e (fun ps ez => by rw [ez] at h1; cases h1) hz]
      exact h1
  | _ => exact h
theorem Eqv.ext {H H' : Hp} (e : LamX.ExtN H H') : ∀ {n : Nat} {x y : V}, Eqv K H n x y → Eqv K H' n x y
  | 0, _, _, h => h
  | n + 1, x, y, h => by
    rcases h with h | ⟨a, b, xs, ys, h1, h2, h3, h4, h5, h6⟩ | ⟨l, a, b, ks, ls, h1, h2, h3, h4, h5, h6, h7⟩
    · exact Or.inl h
    · exact Or.inr (Or.inl ⟨a, b, xs, ys, h1, h2, h3.imp (fun z => ⟨ob_ext e (fun _ q => by cases q) z.1, ob_ext e (fun _ q => by cases q) z.2⟩) (fun z => ⟨ob_ext e (fun _ q => by cases q) z.1, ob_ext e (fun _ q => by cases q) z.2⟩), h4, h5, fun i x y hx hy => Eqv.ext e (h6 i x y hx hy)⟩)
    · match n, l with
      | m + 1, l => exact Or.inr (Or.inr ⟨l, a, b, ks, ls, h1, h2, ob_ext e (fun _ q => by cases q) h3, ob_ext e (fun _ q => by cases q) h4, h5, h6, fun i p q hp hq => Eqv.ext (n := m) e (h7 i p q hp hq)⟩)
/-! ### what stays while the addresses of F are written -/
def Kx (F : Addr → Prop) (H H' : Hp) : Prop := ∀ b o, ¬F b → (∀ ps, o ≠ HO.tbl ps) → H b = some o → H' b = some o
theorem Kx.refl (F : Addr → Prop) (H : Hp) : Kx F H H := fun _ _ _ _ h => h
theorem Kx.trans {F : Addr → Prop} {H H1 H2 : Hp} (a : Kx F H H1) (b : Kx F H1 H2) : Kx F H H2 := fun c o n m h => b c o n m (a c o n m h)
theorem Kx.same {F : Addr → Prop} {H H' : Hp} (e : Same H H') : Kx F H H' := fun c o _ _ h => e c o h
theorem Kx.ext {F : Addr → Prop} {H H' : Hp} (e : LamX.ExtN H H') : Kx F H H' := fun c o _ m h => e c o h m
theorem Kx.kp {F : Addr → Prop} {H H' : Hp} {s : Addr} (hF : F s) (e : Kp s H H') : Kx F H H' := fun c o n _ h => e c o (by rintro rfl; exact n hF) h
theorem Kx.put {F : Addr → Prop} {H : Hp} {D : Addr} {o : HO} (hF : F D) : Kx F H (upd H D o) := fun c u n _ h => by rw [upd_ne (by rintro rfl; exact n hF)]; exact h
/-- the store, and the list that is told -/
def Fz (s D : Addr) : Addr → Prop := fun a => a = s ∨ a = D
theorem Kx.weak {s D : Addr} {H H' : Hp} (hD : H D = none) (e : Kx (Fz s D) H H') : Kx (Fz s s) H H' := fun c o n m h => e c o (fun z => z.elim (fun z => n (.inl z)) (ne_of_none h hD)) m h
theorem ob_kx {F : Addr → Prop} {H H' : Hp} {a : Addr} {z : HO} (e : Kx F H H') (n : ¬F a) (t : ∀ ps, z ≠ HO.tbl ps) (h : ob K H a = some z) : ob K H' a = some z := by
  unfold ob at h ⊢
  split
  · rename_i o q
    rw [q] at h
    exact h
  · rename_i q
    rw [q] at h
    exact e _ _ n t h
/-- the addresses of F hold lists -/
def Fl (F : Addr → Prop) (H : Hp) : Prop := ∀ a, F a → ∃ ys, H a = some (.lst ys)
theorem tup_kx {F : Addr → Prop} {H H' : Hp} {a : Addr} {xs : List V} (fl : Fl F H) (e : Kx F H H') (h : ob K H a = some (.tup xs)) : ob K H' a = some (.tup xs) := by
  unfold ob at h ⊢
  split
  · rename_i o q
    rw [q] at h
    exact h
  · rename_i q
    rw [q] at h
    refine e _ _ (fun z => ?_) (fun ps z => by cases z) h
    obtain ⟨ys, hy⟩ := fl _ z
    rw [hy] at h
    cases h
/-- no integer from lo to hi, whatever comes -/
def SbI (K : PySem.W.Frag) (F : Addr → Prop) (lo hi : Int) (H : Hp) (v : V) : Prop := ∀ H', Kx F H H' → Wh K H' v ∧ inB lo hi v = false
theorem SbI.kx {F : Addr → Prop} {lo hi : Int} {H H' : Hp} {v : V} (h : SbI K F lo hi H v) (e : Kx F H H') : SbI K F lo hi H' v := fun G g => h G (e.trans g)
theorem SbI.now {F : Addr → Prop} {lo hi : Int} {H : Hp} {v : V} (h : SbI K F lo hi H v) : Wh K H v ∧ inB lo hi v = false := h H (Kx.refl F H)
theorem sbI_sc {F : Addr → Prop} {lo hi : Int} {H : Hp} {v : V} {t : String} (h : ∀ G, tyN K G v = some t) (n : inB lo hi v = false) : SbI K F lo hi H v := fun G _ => ⟨Wh.ty (h G), n⟩
theorem sbI_tup {F : Addr → Prop} {lo hi : Int} {H : Hp} {a : Addr} {xs : List V} (n : ¬F a) (h : ob K H a = some (.tup xs)) : SbI K F lo hi H (.ref a) := fun G g => ⟨Wh.ty (t := "tuple") (by rw [tyN_ref, ob_kx g n (fun _ z => by cases z) h]; rfl), rfl⟩
theorem sbI_lst {F : Addr → Prop} {lo hi : Int} {H : Hp} {a : Addr} {xs : List V} (n : ¬F a) (h : ob K H a = some (.lst xs)) : SbI K F lo hi H (.ref a) := fun G g => ⟨Wh.ty (t := "list") (by rw [tyN_ref, ob_kx g n (fun _ z => by cases z) h]; rfl), rfl⟩
/-- a Cycle, or any object whose class is none of the plain kinds -/
theorem LawS.nf {T : List (Addr × Str)} {H : Hp} {s a : Addr} (h : LawS K T H s) (n : H a = none) : ¬Fz s s a := fun z => by
  have z : a = s := z.elim id id
  exact h.st.ne n z
theorem LawS.nt {T : List (Addr × Str)} {H : Hp} {s a : Addr} {xs : List V} (h : LawS K T H s) (o : ob K H a = some (.tup xs)) : ¬Fz s s a := fun z => by
  have z : a = s := z.elim id id
  exact tup_ne h.st o z
structure AskD (K : PySem.W.Frag) (mg : Str → Option Value) (g : Addr) (oc : Value) (od : Option Addr) (dV kV doc pm : Value) (an : Option Addr) (cdv ct : Value) (osl : Array (Option Value)) : Prop where
  m : mg "_law_asked" = some (.ref g)
  kp : PySem.W.keepIn K (.ref g) = true
  lk : K.lookup g = some ⟨oc, od, .func (PySem.W.fnOf "_law_asked" "_law_asked" (defArgs sAsked) (defBody sAsked) (defScope sAsked) dV kV doc pm an cdv ct), osl⟩
  cd : PySem.W.codeIn K cdv "_law_asked" = true
  b : Binds K (PySem.W.fnOf "_law_asked" "_law_asked" (defArgs sAsked) (defBody sAsked) (defScope sAsked) dV kV doc pm an cdv ct) ["_law_call"] []
/-- data the store is no part of, that is no integer from lo to hi -/
theorem sbI_shp {s : Addr} {lo hi : Int} {H : Hp} {n : Nat} {v : V} (st : Sto K H s) (h : Shp K (fun a => a ≠ s) H n v) (w : inB lo hi v = false) : SbI K (Fz s s) lo hi H v := by
  rcases Shp.split h with c | ⟨m, rfl, a, xs, rfl, o, l, hx⟩ | ⟨m, rfl, a, ks, rfl, na, o, _⟩
  · cases v with
    | non => exact sbI_sc (t := "NoneType") (fun _ => rfl) w
    | bl b => exact sbI_sc (t := "bool") (fun _ => rfl) w
    | int b => exact sbI_sc (t := "int") (fun _ => rfl) w
    | str b => exact sbI_sc (t := "str") (fun _ => rfl) w
    | _ => cases c
  · rcases o with o | ⟨na, o⟩
    · exact sbI_tup (fun z => tup_ne st o (z.elim id id)) o
    · exact sbI_lst (fun z => na (z.elim id id)) o
  · exact fun G g => ⟨Wh.ty (t := "dict") (by rw [tyN_ref, ob_kx g (fun z => na (z.elim id id)) (fun _ z => by cases z) o]; rfl), rfl⟩
end
end My

namespace My
open PySem PySem.Spec PyProof.Rows L2
section
variable {P : Program} {w : World} {K : PySem.W.Frag} {mg : Str → Option Value} {base : Heap}
def Wd (K : PySem.W.Frag) (H : Hp) (a : Addr) (w : List Int) : Prop := ob K H a = some (.tup (w.map V.int))
theorem Wd.same {H H' : Hp} {a : Addr} {w : List Int} (h : Wd K H a w) (s : Same H H') : Wd K H' a w := ob_same s h
def prodL : List Int → Int
  | [] => 1
  | x :: r => x * prodL r
theorem prodL_app (x : Int) : ∀ l : List Int, prodL (l ++ [x]) = prodL l * x
  | [] => by show x * 1 = 1 * x; omega
  | y :: r => by
    show y * prodL (r ++ [x]) = y * prodL r * x
    rw [prodL_app x r, Int.mul_assoc]
/-- sizes of parts -/
def Rdx (l : List Int) : Prop := l.length ≤ 4 ∧ ∀ x ∈ l, 2 ≤ x ∧ x ≤ 1000
theorem prodL_bd {l : List Int} (h : ∀ x ∈ l, 2 ≤ x ∧ x ≤ 1000) : 1 ≤ prodL l ∧ prodL l ≤ 1000 ^ l.length := by
  induction l with
  | nil => exact ⟨by decide, by decide⟩
  | cons x r ih =>
    obtain ⟨a, b⟩ := ih fun y hy => h y (List.mem_cons_of_mem _ hy)
    obtain ⟨c, d⟩ := h x List.mem_cons_self
    refine ⟨?_, ?_⟩
    · have := Int.mul_le_mul (show 1 ≤ x by omega) a (by omega) (by omega)
      show 1 ≤ x * prodL r
      omega
    · show x * prodL r ≤ 1000 ^ (r.length + 1)
      rw [Int.pow_succ, Int.mul_comm]
      exact Int.mul_le_mul b d (by omega) (Int.le_trans (by omega) b)
theorem pow_le4 {n : Nat} (h : n ≤ 4) : (1000 : Int) ^ n ≤ 1000000000000 := by
  match n, h with
  | 0, _ => decide
  | 1, _ => decide
  | 2, _ => decide
  | 3, _ => decide
  | 4, _ => decide
theorem Rdx.take {l : List Int} (h : Rdx l) (i : Nat) : Rdx (l.take i) := ⟨by rw [List.length_take]; have := h.1; omega, fun x hx => h.2 x (List.mem_of_mem_take hx)⟩
theorem Rdx.prod {l : List Int} (h : Rdx l) : 1 ≤ prodL l ∧ prodL l ≤ 1000000000000 := ⟨(prodL_bd h.2).1, Int.le_trans (prodL_bd h.2).2 (pow_le4 h.1)⟩
/-- parts of these sizes -/
def Fits : List Int → List Int → Prop
  | [], [] => True
  | p :: ps, r :: rs => (0 ≤ p ∧ p < r) ∧ Fits ps rs
  | _, _ => False
/-- whole units and parts, in least units -/
def hor : Int → List Int → List Int → Int
  | w, p :: ps, r :: rs => hor (w * r + p) ps rs
  | w, _, _ => w
theorem Fits.len : ∀ {ps rs : List Int}, Fits ps rs → ps.length = rs.length
  | [], [], _ => rfl
  | _ :: _, _ :: _, h => congrArg Nat.succ h.2.len
  | [], _ :: _, h => h.elim
  | _ :: _, [], h => h.elim
theorem Fits.get : ∀ {ps rs : List Int}, Fits ps rs → ∀ {i : Nat} {p r : Int}, ps[i]? = some p → rs[i]? = some r → 0 ≤ p ∧ p < r
  | _ :: _, _ :: _, h, 0, p, r, hp, hr => by
    rw [List.getElem?_cons_zero] at hp hr
    cases hp
    cases hr
    exact h.1
  | _ :: _, _ :: _, h, i + 1, p, r, hp, hr => h.2.get (i := i) (by simpa using hp) (by simpa using hr)
  | [], [], _, _, _, _, hp, _ => by simp at hp
  | [], _ :: _, h, _, _, _, _, _ => h.elim
  | _ :: _, [], h, _, _, _, _, _ => h.elim
theorem Fits.pos {ps rs : List Int} (h : Fits ps rs) : ∀ x ∈ ps, 0 ≤ x := fun x hx => by
  obtain ⟨i, hi⟩ := List.mem_iff_getElem?.mp hx
  have hl := h.len
  have li := (List.getElem?_eq_some_iff.mp hi).1
  exact (h.get hi (List.getElem?_eq_getElem (show i < rs.length by omega))).1
theorem hor_snoc : ∀ {w : Int} {ps rs : List Int} {p r : Int}, ps.length = rs.length → hor w (ps ++ [p]) (rs ++ [r]) = hor w ps rs * r + p
  | w, [], [], p, r, _ => rfl
  | w, x :: ps, y :: rs, p, r, h => by
    show hor (w * y + x) (ps ++ [p]) (rs ++ [r]) = hor (w * y + x) ps rs * r + p
    exact hor_snoc (Nat.succ.inj h)
  | _, [], _ :: _, _, _, h => by cases h
  | _, _ :: _, [], _, _, h => by cases h
/-- between whole units -/
theorem hor_bd : ∀ {w : Int} {ps rs : List Int}, Fits ps rs → (∀ x ∈ rs, 2 ≤ x ∧ x ≤ 1000) → w * prodL rs ≤ hor w ps rs ∧ hor w ps rs < (w + 1) * prodL rs
  | w, [], [], _, _ => by
    show w * 1 ≤ w ∧ w < (w + 1) * 1
    omega
  | w, p :: ps, r :: rs, h, hr => by
    obtain ⟨a, b⟩ := hor_bd (w := w * r + p) h.2 fun x hx => hr x (List.mem_cons_of_mem _ hx)
    obtain ⟨p0, p1⟩ := h.1
    have pb := (prodL_bd fun x hx => hr x (List.mem_cons_of_mem _ hx)).1
    show w * (r * prodL rs) ≤ hor (w * r + p) ps rs ∧ hor (w * r + p) ps rs < (w + 1) * (r * prodL rs)
    rw [← Int.mul_assoc, ← Int.mul_assoc]
    refine ⟨Int.le_trans (Int.mul_le_mul_of_nonneg_right (show w * r ≤ w * r + p by omega) (by omega)) a, Int.lt_of_lt_of_le b (Int.mul_le_mul_of_nonneg_right ?_ (by omega))⟩
    rw [Int.add_mul]
    omega
  | _, [], _ :: _, h, _ => h.elim
  | _, _ :: _, [], h, _ => h.elim
theorem Fits.take : ∀ {ps rs : List Int}, Fits ps rs → ∀ i : Nat, Fits (ps.take i) (rs.take i)
  | _, _, _, 0 => True.intro
  | [], [], _, i + 1 => True.intro
  | _ :: _, _ :: _, h, i + 1 => ⟨h.1, h.2.take i⟩
  | [], _ :: _, h, _ + 1 => h.elim
  | _ :: _, [], h, _ + 1 => h.elim
theorem hor_sz {w : Int} {ps rs : List Int} {n : Nat} (h : Fits ps rs) (hr : Rdx rs) (hw : w.natAbs < 2 ^ n) : (hor w ps rs).natAbs < 2 ^ (n + 41) := by
  obtain ⟨a, b⟩ := hor_bd (w := w) h hr.2
  obtain ⟨c, d⟩ := hr.prod
  have e : (2 : Nat) ^ (n + 41) = 2 ^ n * 2199023255552 := by rw [Nat.pow_add]
  generalize (2 : Nat) ^ n = N at hw e
  have hN : (0 : Int) < N := by omega
  have u1 : (w + 1) * prodL rs ≤ (N : Int) * 1000000000000 := Int.le_trans (Int.mul_le_mul_of_nonneg_right (show w + 1 ≤ N by omega) (by omega)) (Int.mul_le_mul_of_nonneg_left d (by omega))
  have u2 : -((N : Int) * 1000000000000) ≤ w * prodL rs := by
    have q1 : (-(N : Int)) * prodL rs ≤ w * prodL rs := Int.mul_le_mul_of_nonneg_right (show -(N : Int) ≤ w by omega) (by omega)
    have q2 : (N : Int) * prodL rs ≤ (N : Int) * 1000000000000 := Int.mul_le_mul_of_nonneg_left d (by omega)
    rw [Int.neg_mul] at q1
    omega
  rw [e]
  omega
def spArP (K : PySem.W.Frag) : Sp := fun vs H Q _ => ∃ a ps, vs = [.ref a] ∧ Wd K H a ps ∧ ps.length ≤ 4 ∧ (∀ x ∈ ps, 0 ≤ x) ∧ ∀ H', Same H H' → Q (.bl true) H'
/-- a value that is judged as sizes -/
def RdJ (K : PySem.W.Frag) (H : Hp) (v : V) (b : Bool) : Prop := (∃ f, Kd K H v f ∧ f "tuple" = false ∧ b = false) ∨ ∃ a xs, v = .ref a ∧ ob K H a = some (.tup xs) ∧ ((4 < xs.length ∧ b = false) ∨ (xs.length ≤ 4 ∧ (∀ x ∈ xs, Wh K H x) ∧ b = xs.all (inB 2 1000)))
def spArR (K : PySem.W.Frag) : Sp := fun vs H Q _ => ∃ v b, vs = [v] ∧ RdJ K H v b ∧ ∀ H', Same H H' → Q (.bl b) H'
theorem rd_judge {H : Hp} {a : Addr} {l : List Int} (h : Wd K H a l) (hl : Rdx l) : RdJ K H (.ref a) true := by
  refine .inr ⟨a, _, rfl, h, .inr ⟨by rw [List.length_map]; exact hl.1, fun x hx => ?_, ?_⟩⟩
  · obtain ⟨n, _, rfl⟩ := List.mem_map.mp hx
    exact Wh.int n
  · refine (List.all_eq_true.mpr fun x hx => ?_).symm
    obtain ⟨n, hn, rfl⟩ := List.mem_map.mp hx
    exact inB_yes (hl.2 n hn).1 (hl.2 n hn).2
/-- a comprehension over zip of two tuples of one length -/
theorem lc_zipT {a b : Addr} {xs ys : List V} {g : TG} {tt : TT} {te : TE} {vs : List Nat} {σ : L2.St} {H1 : Hp} {D : Addr} {Qd : Hp → Prop} (hle : xs.length = ys.length) (Pv : Nat → Hp → Prop) (h0 : Pv 0 (upd H1 D (.lst []))) (hl : ∀ i H, i ≤ ys.length → Pv i H → SqT K H a xs ∧ SqT K H b ys)
    (hs : ∀ (i : Nat) (x y : V) (T : Addr) (H : Hp), xs[i]? = some x → ys[i]? = some y → Pv i H → H T = none → g (.ref T) (wipe σ vs) (upd H T (.tup [x, y])) fun σ2 H2 => wipe σ2 vs = wipe σ vs ∧ tt σ2 H2 fun b H3 =>
      if b = true then te σ2 H3 fun y H4 => ∃ acc, H4 D = some (.lst acc) ∧ acc.length < sizeLine ∧ Pv (i + 1) (upd H4 D (.lst (acc ++ [y]))) else Pv (i + 1) H3) (hd : ∀ H, Pv ys.length H → Qd H) :
    ∃ W : Nat → Nat → Hp → Prop, (∃ m, W 0 m (upd H1 D (.lst []))) ∧ ∀ i m H, W i m H →
      ((RZ.ItzT K a b).stop i H ∧ Qd H) ∨ ((RZ.ItzT K a b).go i H ∧ ∃ Nx : Hp → Prop, (∀ H', Nx H' → ∃ m', m' < m ∧ W (i + 1) m' H') ∧ ∀ x H', (RZ.ItzT K a b).yld i H x H' → g x (wipe σ vs) H' fun σ2 H2 => wipe σ2 vs = wipe σ vs ∧ tt σ2 H2 fun b H3 =>
        if b = true then te σ2 H3 fun y H4 => ∃ acc, H4 D = some (.lst acc) ∧ acc.length < sizeLine ∧ Nx (upd H4 D (.lst (acc ++ [y]))) else Nx H3) := by
  refine ⟨fun i m H => m = ys.length - i ∧ i ≤ ys.length ∧ Pv i H, ⟨ys.length, by simp, Nat.zero_le _, h0⟩, ?_⟩
  rintro i m H ⟨rfl, hi, p⟩
  obtain ⟨qx, qy⟩ := hl i H hi p
  by_cases hlt : i < ys.length
  · have hx : xs[i]? = some xs[i] := List.getElem?_eq_getElem (by omega)
    have hy : ys[i]? = some ys[i] := List.getElem?_eq_getElem hlt
    refine .inr ⟨⟨xs, ys, _, _, qx, qy, hx, hy⟩, Pv (i + 1), fun H' p' => ⟨ys.length - (i + 1), by omega, rfl, hlt, p'⟩, fun v H' y => ?_⟩
    obtain ⟨T, x', y', rfl, hT, rfl, f1, f2⟩ := y
    exact hs i x' y' T H (f1 xs qx) (f2 ys qy) p hT
  · have e : i = ys.length := by omega
    subst e
    exact .inl ⟨⟨xs, ys, qx, qy, Or.inr (Nat.le_refl _)⟩, hd H p⟩
def spFit (K : PySem.W.Frag) : Sp := fun vs H Q _ => ∃ a b ps rs, vs = [.ref a, .ref b] ∧ Wd K H a ps ∧ Wd K H b rs ∧ rs.length ≤ 4 ∧ Fits ps rs ∧ ∀ H', Same H H' → Q (.bl true) H'
def spLeast (K : PySem.W.Frag) : Sp := fun vs H Q _ => ∃ b rs, vs = [.ref b] ∧ Wd K H b rs ∧ Rdx rs ∧ Q (.int (prodL rs)) H
def spWorth (K : PySem.W.Frag) : Sp := fun vs H Q _ => ∃ (a b : Addr) (u : Int) (ps rs : List Int), vs = [.int u, .ref a, .ref b] ∧ Wd K H a ps ∧ Wd K H b rs ∧ Rdx rs ∧ Fits ps rs ∧ u.natAbs < 2 ^ 2000 ∧ ∀ z, Is z (hor u ps rs) (prodL rs) → Gv K H Q z
abbrev sArP : Stmt := topS 34
theorem scArP : FnScope ["value", "part"] ["value"] (defScope sArP) := ⟨rfl, rfl, rfl, by decide +kernel, rfl, by decide +kernel, by decide +kernel⟩
theorem blk_scArP_0 : BlkOk ["value", "part"] (defScope sArP) { kind := .function, names := [(".0", .local), ("part", .local), ("is_whole", .globalImplicit)], isGenerator := false, isCoroutine := false, more := [] } [("part", 1)] := ⟨rfl, by decide +kernel, by decide +kernel, by decide +kernel, by decide +kernel⟩
theorem k_ArP {tkP : Tok} (gMP : mg "MOST_PARTS" = some (.int 4 tkP)) (zA : mg "all" = none) (T : Bt K mg) (D : Dfn K mg "_are_parts" sArP ["value"]) (d_is_whole : Kn P w K mg base 1 "is_whole" ["value"] (spWholeU K)) : Kn P w K mg base 3 "_are_parts" ["value"] (spArP K) := by
  refine Kn.mk' D scArP (fun vs H Q E h => ?_) (fun f cdv A outer s H vs Q E hr h => ?_)
  · obtain ⟨a, ps, rfl, _⟩ := h
    rfl
  obtain ⟨a, ps, rfl, hw, hl, h0, k⟩ := h
  refine ⟨_, (pss_cons (ps_if (PW.pt (pw_or (pt_not (pt_val (pe_callB call_isD (by rfl) T.b_isinstance (by decide +kernel) (pa_cons (pv 0) (pa_cons (pe_bltn (v := .ty "tuple") (by rfl) T.b_tuple (by decide +kernel) rfl) pa_nil))))) (pw_or1 (pt_cmpR op_gt (pe_callB call_lenA (by rfl) T.b_len PySem.boot_len (pa_cons (pv 0) pa_nil)) (pe_glob (v := .int 4) (by rfl) gMP ⟨_, rfl⟩) (nomark _))))) (pss_one (ps_ret pe_bl)) pss_nil)
      (pss_one (ps_ret (pe_callB (cr_all rfl) (by rfl) zA (by decide +kernel) (pa_cons (pe_fr (pe_lc (own := [("part", 1)]) (g := gName 1) (te := (tAndV (tCall (spWholeU K) [] E0 (tCons (tVar 1) L2.tNil)) (tOp (rI0 fun i j => V.bl (decide (j ≤ i))) (tVar 1) (tC (.int 0))))) rfl scArP.nd (pi_tup (pv 0)) blk_scArP_0 (fun _ _ _ _ _ => by exact pg_name (i := 1) scArP.nd rfl (.inl rfl)) (fun _ _ _ _ _ => pts_nil) (fun _ _ _ _ _ => by exact (pe_and (pe_kn d_is_whole hr (by rfl) (pa_cons (pv 1) pa_nil)) (pe_one (pe_cmpR op_ge (pv 1) pe_int (nomark _))))))) pa_nil))))), ?_⟩
  have o : ob K H a = some (.tup (ps.map V.int)) := hw
  have ty : tyN K H (.ref a) = some "tuple" := by rw [tyN_ref, o]; rfl
  have hl' : (ps.map V.int).length ≤ 4 := by rw [List.length_map]; exact hl
  refine ⟨_, rfl, .ref a, "tuple", rfl, by decide, _, Kd.ty ty, _, rfl, if_no rfl ?_⟩
  refine ⟨_, rfl, a, rfl, _, itsO_of o, _, _, rfl, rfl, _, rfl, if_no (decide_eq_false (by omega)) ?_⟩
  refine ⟨_, rfl, a, rfl, ⟨_, ob_tup o⟩, fun D hD => lc_tup (xs := ps.map V.int) (fun i H' => H' D = some (.lst (((ps.take i).map fun _ => true).map V.bl)) ∧ Same H H') ⟨upd_same, Same.new hD _⟩ (fun i H' _ h => ob_tup (ob_same h.2 o)) ?_ ?_⟩
  · rintro i x H' hi ⟨e1, s1⟩
    refine ⟨rfl, ?_⟩
    simp only [tYes, if_true]
    rw [List.getElem?_map] at hi
    obtain ⟨n, hn, rfl⟩ := Option.map_eq_some_iff.mp hi
    have li := (List.getElem?_eq_some_iff.mp hn).1
    refine ⟨_, rfl, .int n, rfl, Wh.int n, true, rfl, if_yes rfl ⟨_, rfl, _, _, rfl, rfl, _, e1, by rw [List.length_map, List.length_map, List.length_take, sizeLine_eq]; omega, ?_, fun b o e => ?_⟩⟩
    · rw [upd_same, List.take_succ, hn, List.map_append, List.map_append]
      show some (HO.lst (_ ++ [V.bl (decide (0 ≤ n))])) = _
      rw [decide_eq_true (h0 n (List.mem_of_getElem? hn))]
      rfl
    · rw [upd_ne (ne_of_none e hD)]
      exact s1 _ _ e
  · rintro H1 ⟨e1, s1⟩ fr
    rw [List.length_map, List.take_length] at e1
    refine ⟨D, ps.map fun _ => true, rfl, .of e1, ?_⟩
    rw [show ((ps.map fun _ => true).all id) = true by simp]
    exact k H1 s1

abbrev sArR : Stmt := topS 35
theorem scArR : FnScope ["value", "radix"] ["value"] (defScope sArR) := ⟨rfl, rfl, rfl, by decide +kernel, rfl, by decide +kernel, by decide +kernel⟩
theorem blk_scArR_0 : BlkOk ["value", "radix"] (defScope sArR) { kind := .function, names := [(".0", .local), ("radix", .local), ("is_whole_within", .globalImplicit), ("LEAST_RADIX", .globalImplicit), ("MOST_RADIX", .globalImplicit)], isGenerator := false, isCoroutine := false, more := [] } [("radix", 1)] := ⟨rfl, by decide +kernel, by decide +kernel, by decide +kernel, by decide +kernel⟩
theorem k_ArR {tkP : Tok} (gMP : mg "MOST_PARTS" = some (.int 4 tkP)) {tkL tkM : Tok} (gLR : mg "LEAST_RADIX" = some (.int 2 tkL)) (gMR : mg "MOST_RADIX" = some (.int 1000 tkM)) (zA : mg "all" = none) (T : Bt K mg) (D : Dfn K mg "_are_radices" sArR ["value"]) (d_is_whole_within : Kn P w K mg base 2 "is_whole_within" ["value", "least", "most"] (spWithin K)) : Kn P w K mg base 3 "_are_radices" ["value"] (spArR K) := by
  refine Kn.mk' D scArR (fun vs H Q E h => ?_) (fun f cdv A outer s H vs Q E hr h => ?_)
  · obtain ⟨v, b, rfl, _⟩ := h
    rfl
  obtain ⟨v, b, rfl, h, k⟩ := h
  refine ⟨_, (pss_cons (ps_if (PW.pt (pw_or (pt_not (pt_val (pe_callB call_isD (by rfl) T.b_isinstance (by decide +kernel) (pa_cons (pv 0) (pa_cons (pe_bltn (v := .ty "tuple") (by rfl) T.b_tuple (by decide +kernel) rfl) pa_nil))))) (pw_or1 (pt_cmpR op_gt (pe_callB call_lenA (by rfl) T.b_len PySem.boot_len (pa_cons (pv 0) pa_nil)) (pe_glob (v := .int 4) (by rfl) gMP ⟨_, rfl⟩) (nomark _))))) (pss_one (ps_ret pe_bl)) pss_nil)
      (pss_one (ps_ret (pe_callB (cr_all rfl) (by rfl) zA (by decide +kernel) (pa_cons (pe_fr (pe_lc (own := [("radix", 1)]) (g := gName 1) (te := (tCall (spWithin K) [] E0 (tCons (tVar 1) (tCons (tC (.int 2)) (tCons (tC (.int 1000)) L2.tNil))))) rfl scArR.nd (pi_tup (pv 0)) blk_scArR_0 (fun _ _ _ _ _ => by exact pg_name (i := 1) scArR.nd rfl (.inl rfl)) (fun _ _ _ _ _ => pts_nil) (fun _ _ _ _ _ => by exact (pe_kn d_is_whole_within hr (by rfl) (pa_cons (pv 1) (pa_cons (pe_glob (v := .int 2) (by rfl) gLR ⟨_, rfl⟩) (pa_cons (pe_glob (v := .int 1000) (by rfl) gMR ⟨_, rfl⟩) pa_nil))))))) pa_nil))))), ?_⟩
  rcases h with ⟨f, hf, ft, rfl⟩ | ⟨a, xs, rfl, o, h⟩
  · refine ⟨_, rfl, v, "tuple", rfl, by decide, f, hf, _, rfl, ?_⟩
    rw [ft]
    exact if_yes rfl (k H (Same.refl H))
  · have ty : tyN K H (.ref a) = some "tuple" := by rw [tyN_ref, o]; rfl
    refine ⟨_, rfl, .ref a, "tuple", rfl, by decide, _, Kd.ty ty, _, rfl, if_no rfl ?_⟩
    have oi := itsO_of o
    refine ⟨_, rfl, a, rfl, xs, oi, _, _, rfl, rfl, _, rfl, ite2 (fun h4 => ?_) (fun h4 => ?_)⟩
    · rcases h with ⟨hl, rfl⟩ | ⟨h2, hx, rfl⟩
      · exact k H (Same.refl H)
      · exact absurd (of_decide_eq_true h4) (by omega)
    · rcases h with ⟨hl, rfl⟩ | ⟨h2, hx, rfl⟩
      · exact absurd (decide_eq_true (by omega)) h4
      refine ⟨_, rfl, a, rfl, ⟨xs, ob_tup o⟩, fun D hD => lc_tup (xs := xs) (fun i H' => H' D = some (.lst (((xs.take i).map (inB 2 1000)).map V.bl)) ∧ Same H H') ⟨upd_same, Same.new hD _⟩ (fun i H' _ h => ob_tup (ob_same h.2 o)) ?_ ?_⟩
      · rintro i x H' hi ⟨e1, s1⟩
        refine ⟨rfl, ?_⟩
        simp only [tYes, if_true]
        have li := (List.getElem?_eq_some_iff.mp hi).1
        refine ⟨_, rfl, x, 2, 1000, rfl, (hx x (List.mem_of_getElem? hi)).same s1, _, e1, by rw [List.length_map, List.length_map, List.length_take, sizeLine_eq]; omega, ?_, fun b o e => ?_⟩
        · rw [upd_same, List.take_succ, hi, List.map_append, List.map_append]
          rfl
        · rw [upd_ne (ne_of_none e hD)]
          exact s1 _ _ e
      · rintro H1 ⟨e1, s1⟩ fr
        rw [List.take_length] at e1
        refine ⟨D, xs.map (inB 2 1000), rfl, .of e1, ?_⟩
        rw [List.all_map]
        exact k H1 s1

abbrev sFit : Stmt := topS 36
theorem scFit : FnScope ["parts", "radices", "part", "radix"] ["parts", "radices"] (defScope sFit) := ⟨rfl, rfl, rfl, by decide +kernel, rfl, by decide +kernel, by decide +kernel⟩
theorem blk_scFit_0 : BlkOk ["parts", "radices", "part", "radix"] (defScope sFit) { kind := .function, names := [(".0", .local), ("part", .local), ("radix", .local)], isGenerator := false, isCoroutine := false, more := [] } [("part", 2), ("radix", 3)] := ⟨rfl, by decide +kernel, by decide +kernel, by decide +kernel, by decide +kernel⟩
theorem k_Fit (zA : mg "all" = none) (zZ : mg "zip" = none) (T : Bt K mg) (D : Dfn K mg "_fit" sFit ["parts", "radices"]) : Kn P w K mg base 1 "_fit" ["parts", "radices"] (spFit K) := by
  refine Kn.mk' D scFit (fun vs H Q E h => ?_) (fun f cdv A outer s H vs Q E hr h => ?_)
  · obtain ⟨a, b, ps, rs, rfl, _⟩ := h
    rfl
  obtain ⟨a, b, ps, rs, rfl, ha, hb, hl, hf, k⟩ := h
  refine ⟨_, (pss_cons (ps_if (pt_cmpR op_ne (pe_callB call_lenA (by rfl) T.b_len PySem.boot_len (pa_cons (pv 0) pa_nil)) (pe_callB call_lenA (by rfl) T.b_len PySem.boot_len (pa_cons (pv 1) pa_nil)) (nomark _)) (pss_one (ps_ret pe_bl)) pss_nil)
      (pss_one (ps_ret (pe_callB (cr_all rfl) (by rfl) zA (by decide +kernel) (pa_cons (pe_fr (pe_lc (own := [("part", 2), ("radix", 3)]) (g := gTup K 2 (gCons (gName 2) (gCons (gName 3) gNil))) (te := (tOp (rI0 fun i j => V.bl (decide (i < j))) (tVar 2) (tVar 3))) rfl scFit.nd (RZ.pi_zipA (by rfl) zZ (pa_cons (pv 0) (pa_cons (pv 1) pa_nil))) blk_scFit_0 (fun _ _ _ _ _ => by exact pg_tup rfl (pgs_cons (pg_name (i := 2) scFit.nd rfl (.inl rfl)) (pgs_cons (pg_name (i := 3) scFit.nd rfl (.inl rfl)) pgs_nil))) (fun _ _ _ _ _ => pts_nil) (fun _ _ _ _ _ => by exact (pe_cmpR op_lt (pv 2) (pv 3) (nomark _))))) pa_nil))))), ?_⟩
  have oa : ob K H a = some (.tup (ps.map V.int)) := ha
  have o2 : ob K H b = some (.tup (rs.map V.int)) := hb
  have e : (ps.map V.int).length = (rs.map V.int).length := by rw [List.length_map, List.length_map]; exact hf.len
  refine ⟨_, rfl, a, rfl, _, itsO_of oa, _, rfl, b, rfl, _, itsO_of o2, rfl, _, rfl, if_no (by rw [e]; simp) ?_⟩
  refine ⟨_, rfl, _, rfl, a, b, _, _, rfl, .inr ⟨ob_tup oa, ob_tup o2, fun D hD => ?_⟩⟩
  refine lc_zipT e (fun i H' => H' D = some (.lst (((rs.take i).map fun _ => true).map V.bl)) ∧ Same H H') ⟨upd_same, Same.new hD _⟩ (fun i H' _ h => ⟨ob_tup (ob_same h.2 oa), ob_tup (ob_same h.2 o2)⟩) ?_ ?_
  · intro i x y T H' hx hy ⟨e1, s1⟩ hT
    rw [List.getElem?_map] at hx hy
    obtain ⟨p, hp, rfl⟩ := Option.map_eq_some_iff.mp hx
    obtain ⟨r, hr', rfl⟩ := Option.map_eq_some_iff.mp hy
    have sT := Same.new hT (.tup [V.int p, V.int r])
    refine ⟨T, _, rfl, .inl (.inl upd_same), rfl, _, _, rfl, _, _, rfl, rfl, rfl, ?_⟩
    simp only [tYes, if_true]
    refine ⟨_, rfl, _, rfl, _, _, rfl, rfl, _, by rw [upd_ne (ne_of_none e1 hT)]; exact e1, by rw [List.length_map, List.length_map, List.length_take, sizeLine_eq]; omega, ?_, fun b o e => ?_⟩
    · rw [upd_same, List.take_succ, hr', List.map_append, List.map_append]
      show some (HO.lst (_ ++ [V.bl (decide (p < r))])) = _
      rw [decide_eq_true (hf.get hp hr').2]
      rfl
    · rw [upd_ne (ne_of_none e hD)]
      exact sT _ _ (s1 _ _ e)
  · rintro H1 ⟨e1, s1⟩ fr
    rw [List.length_map, List.take_length] at e1
    refine ⟨D, rs.map fun _ => true, rfl, .of e1, ?_⟩
    rw [show ((rs.map fun _ => true).all id) = true by simp]
    exact k H1 s1

abbrev sLeast : Stmt := topS 37
theorem scLeast : FnScope ["radices", "units", "radix"] ["radices"] (defScope sLeast) := ⟨rfl, rfl, rfl, by decide +kernel, rfl, by decide +kernel, by decide +kernel⟩
theorem k_Least (T : Bt K mg) (D : Dfn K mg "_least_units" sLeast ["radices"]) : Kn P w K mg base 1 "_least_units" ["radices"] (spLeast K) := by
  refine Kn.mk' D scLeast (fun vs H Q E h => ?_) (fun f cdv A outer s H vs Q E hr h => ?_)
  · obtain ⟨b, rs, rfl, _⟩ := h
    rfl
  obtain ⟨b, rs, rfl, hb, rx, k⟩ := h
  refine ⟨_, (pss_cons (ps_set (i := 1) scLeast.nd rfl (.inl rfl) pe_int)
      (pss_cons (ps_for PassesOwn.never rfl (pi_tup (pv 0)) (pg_name (i := 2) scLeast.nd rfl (.inl rfl)) (pss_one (ps_set (i := 1) scLeast.nd rfl (.inl rfl) (pe_op op_mulW (pv 1) (pv 2)))))
      (pss_one (ps_ret (pv 1))))), ?_⟩
  have o : ob K H b = some (.tup (rs.map V.int)) := hb
  refine ⟨_, rfl, b, rfl, ⟨_, ob_tup o⟩, forI_tup (xs := rs.map V.int) (fun i σ H' => ∃ x2, σ = [some (V.ref b), some (.int (prodL (rs.take i))), x2] ∧ H' = H) ⟨none, rfl, rfl⟩ (fun i σ H' _ h => by obtain ⟨_, _, rfl⟩ := h; exact ob_tup o) ?_ ?_⟩
  · rintro i x σ H' hi ⟨x2, rfl, rfl⟩
    rw [List.getElem?_map] at hi
    obtain ⟨n, hn, rfl⟩ := Option.map_eq_some_iff.mp hi
    obtain ⟨p0, p1⟩ := (rx.take i).prod
    have nb := rx.2 n (List.mem_of_getElem? hn)
    refine ⟨_, rfl, _, rfl, _, _, rfl, rfl, mulW (a := 40) (b := 10) (by omega) (by omega) (by omega), ?_⟩
    refine ⟨some (.int n), ?_, rfl⟩
    rw [List.take_succ, hn]
    show _ = [_, some (V.int (prodL (rs.take i ++ [n]))), _]
    rw [prodL_app]
    rfl
  · rintro σ H' ⟨x2, rfl, rfl⟩
    rw [List.length_map, List.take_length]
    exact ⟨_, rfl, k⟩

abbrev sWorth : Stmt := topS 38
theorem scWorth : FnScope ["whole", "parts", "radices", "units", "part", "radix"] ["whole", "parts", "radices"] (defScope sWorth) := ⟨rfl, rfl, rfl, by decide +kernel, rfl, by decide +kernel, by decide +kernel⟩
theorem k_Worth (zZ : mg "zip" = none) (T : Bt K mg) (D : Dfn K mg "_worth" sWorth ["whole", "parts", "radices"]) (d__least_units : Kn P w K mg base 1 "_least_units" ["radices"] (spLeast K)) (d_fraction : Kn P w K mg base 2 "fraction" ["numerator", "denominator"] (spFraction K)) : Kn P w K mg base 3 "_worth" ["whole", "parts", "radices"] (spWorth K) := by
  refine Kn.mk' D scWorth (fun vs H Q E h => ?_) (fun f cdv A outer s H vs Q E hr h => ?_)
  · obtain ⟨a, b, u, ps, rs, rfl, _⟩ := h
    rfl
  obtain ⟨a, b, u, ps, rs, rfl, ha, hb, rx, hf, hw, k⟩ := h
  refine ⟨_, (pss_cons (ps_set (i := 3) scWorth.nd rfl (.inl rfl) (pv 0))
      (pss_cons (ps_for PassesOwn.never rfl (RZ.pi_zipA (by rfl) zZ (pa_cons (pv 1) (pa_cons (pv 2) pa_nil))) (pg_tup (n := 2) (by rfl) (pgs_cons (pg_name (i := 4) scWorth.nd rfl (.inl rfl)) (pgs_cons (pg_name (i := 5) scWorth.nd rfl (.inl rfl)) pgs_nil)) (by rfl) (by rfl)) (pss_one (ps_set (i := 3) scWorth.nd rfl (.inl rfl) (pe_op op_add (pe_op op_mulW (pv 3) (pv 5)) (pv 4)))))
      (pss_one (ps_ret (pe_kn d_fraction hr (by rfl) (pa_cons (pv 3) (pa_cons (pe_kn d__least_units hr (by rfl) (pa_cons (pv 2) pa_nil)) pa_nil))))))), ?_⟩
  have oa : ob K H a = some (.tup (ps.map V.int)) := ha
  have o2 : ob K H b = some (.tup (rs.map V.int)) := hb
  have e : (ps.map V.int).length = (rs.map V.int).length := by rw [List.length_map, List.length_map]; exact hf.len
  refine ⟨_, rfl, _, rfl, _, rfl, a, b, _, _, rfl, .inr ⟨ob_tup oa, ob_tup o2, ?_⟩⟩
  refine RZ.for_zipT e (fun i σ H' => ∃ x4 x5, σ = [some (V.int u), some (.ref a), some (.ref b), some (.int (hor u (ps.take i) (rs.take i))), x4, x5] ∧ Same H H') ⟨none, none, rfl, Same.refl H⟩ (fun i σ H' h => by obtain ⟨_, _, _, s⟩ := h; exact ⟨ob_tup (ob_same s oa), ob_tup (ob_same s o2)⟩) ?_ ?_
  · rintro i x y T σ H' hx hy ⟨x4, x5, rfl, s1⟩ hT
    rw [List.getElem?_map] at hx hy
    obtain ⟨p, hp, rfl⟩ := Option.map_eq_some_iff.mp hx
    obtain ⟨r, hr', rfl⟩ := Option.map_eq_some_iff.mp hy
    have sT := Same.new hT (.tup [V.int p, V.int r])
    have hz : (hor u (ps.take i) (rs.take i)).natAbs < 2 ^ 2041 := hor_sz (hf.take i) (rx.take i) hw
    have nb := rx.2 r (List.mem_of_getElem? hr')
    refine ⟨T, _, rfl, .inl (.inl upd_same), rfl, _, _, rfl, _, _, rfl, rfl, ?_⟩
    refine ⟨_, rfl, _, rfl, _, _, rfl, rfl, mulW (a := 2041) (b := 10) hz (by omega) (by omega), _, rfl, _, _, rfl, rfl, ?_⟩
    refine ⟨some (.int p), some (.int r), ?_, s1.trans sT⟩
    rw [List.take_succ, hp, List.take_succ, hr']
    show _ = [_, _, _, some (V.int (hor u (ps.take i ++ [p]) (rs.take i ++ [r]))), _, _]
    rw [hor_snoc (hf.take i).len]
    rfl
  · rintro σ H1 ⟨x4, x5, rfl, s1⟩
    rw [List.length_map, List.take_length, hf.len, List.take_length]
    have pb := rx.prod
    refine ⟨_, rfl, _, rfl, b, rs, rfl, hb.same s1, rx, _, _, rfl, by omega, ?_, fun z hz => ?_⟩
    · have : (prodL rs).natAbs < 2 ^ 41 := by omega
      exact Nat.lt_of_lt_of_le this (Nat.pow_le_pow_right (by decide) (by decide))
    · exact fun p H2 s2 o2 => k z hz p H2 (s1.trans s2) o2

end
end My

namespace My
open PySem PySem.Spec PyProof.Rows L2
section
variable {P : Program} {w : World} {K : PySem.W.Frag} {mg : Str → Option Value} {base : Heap}
/-- what the text says of the class Mixed -/
structure MxC (K : PySem.W.Frag) (mg : Str → Option Value) (C : Addr) : Prop where
  cl : Cls K C
  nW : NoAttr K C "whole"
  nP : NoAttr K C "parts"
  nR : NoAttr K C "radices"
  nZ : NoAttr K C "worth"
  g : mg "Mixed" = some (.ref C)
def mxF (u : Int) (t r z : Addr) : List (Str × V) := [("whole", .int u), ("parts", .ref t), ("radices", .ref r), ("worth", .ref z)]
/-- a Mixed at c of whole units, parts, sizes and worth -/
def MxAt (K : PySem.W.Frag) (C : Addr) (H : Hp) (c : Addr) (u : Int) (ps rs : List Int) : Prop := ∃ dx t r z q, H c = some (.ins C dx (mxF u t r z)) ∧ Wd K H t ps ∧ Wd K H r rs ∧ ob K H z = some (frt q) ∧ Is q (hor u ps rs) (prodL rs)
theorem MxAt.same {C : Addr} {H H' : Hp} {c : Addr} {u : Int} {ps rs : List Int} (h : MxAt K C H c u ps rs) (s : Same H H') : MxAt K C H' c u ps rs := by
  obtain ⟨dx, t, r, z, q, a, b, d, e, f⟩ := h
  exact ⟨dx, t, r, z, q, s _ _ a, b.same s, d.same s, ob_same s e, f⟩
theorem mx_put2 (x y : V) : putF "parts" y [(("whole" : Str), x)] = [(("whole" : Str), x), (("parts" : Str), y)] := by
  show (if ("whole" : Str) = "parts" then _ else _) = _
  rw [if_neg (by decide +kernel)]
  rfl
theorem mx_put3 (x y z : V) : putF "radices" z [(("whole" : Str), x), (("parts" : Str), y)] = [(("whole" : Str), x), (("parts" : Str), y), (("radices" : Str), z)] := by
  show (if ("whole" : Str) = "radices" then _ else (("whole" : Str), x) :: (if ("parts" : Str) = "radices" then _ else _)) = _
  rw [if_neg (by decide +kernel), if_neg (by decide +kernel)]
  rfl
theorem mx_put4 (x y z v : V) : putF "worth" v [(("whole" : Str), x), (("parts" : Str), y), (("radices" : Str), z)] = [(("whole" : Str), x), (("parts" : Str), y), (("radices" : Str), z), (("worth" : Str), v)] := by
  show (if ("whole" : Str) = "worth" then _ else (("whole" : Str), x) :: (if ("parts" : Str) = "worth" then _ else (("parts" : Str), y) :: (if ("radices" : Str) = "worth" then _ else _))) = _
  rw [if_neg (by decide +kernel), if_neg (by decide +kernel), if_neg (by decide +kernel)]
  rfl
theorem mx_l1 (u : Int) (t r z : Addr) : (mxF u t r z).lookup ("whole" : Str) = some (.int u) := rfl
theorem mx_l2 (u : Int) (t r z : Addr) : (mxF u t r z).lookup ("parts" : Str) = some (.ref t) := rfl
theorem mx_l3 (u : Int) (t r z : Addr) : (mxF u t r z).lookup ("radices" : Str) = some (.ref r) := rfl
theorem mx_l4 (u : Int) (t r z : Addr) : (mxF u t r z).lookup ("worth" : Str) = some (.ref z) := rfl
theorem ob_put {H : Hp} {c a C dx : Addr} {fs : List (Str × V)} {o : HO} {xs : List V} (hc : H c = some (.ins C dx fs)) (h : ob K H a = some (.tup xs)) : ob K (upd H c o) a = some (.tup xs) := by
  unfold ob at h ⊢
  split
  · rename_i z hz
    rw [hz] at h
    exact h
  · rename_i hz
    rw [hz] at h
    rw [upd_ne (by rintro rfl; rw [hc] at h; cases h)]
    exact h
theorem same_put {H0 H : Hp} {c : Addr} {o : HO} (s : Same H0 H) (n : H0 c = none) : Same H0 (upd H c o) := fun b u e => by
  rw [upd_ne (ne_of_none e n)]
  exact s b u e
theorem same_make {H : Hp} {c dx C : Addr} (h1 : H c = none) (h2 : H dx = none) : Same H (upd (upd H dx (.own c)) c (.ins C dx [])) := fun b o e => by
  rw [upd_ne (ne_of_none e h1), upd_ne (ne_of_none e h2)]
  exact e
def spMxInit (K : PySem.W.Frag) (C : Addr) : Sp := fun vs H Q _ => ∃ (H0 : Hp) (c dx a b : Addr) (u : Int) (ps rs : List Int), vs = [.ref c, .int u, .ref a, .ref b] ∧ Same H0 H ∧ H0 c = none ∧ H c = some (.ins C dx []) ∧ Wd K H0 a ps ∧ Wd K H0 b rs ∧ Rdx rs ∧ Fits ps rs ∧ u.natAbs < 2 ^ 2000 ∧ ∀ H', Same H0 H' → MxAt K C H' c u ps rs → Q .non H'
abbrev sMxInit : Stmt := inClass (topS 31) 0
theorem scMxInit : FnScope ["self", "whole", "parts", "radices"] ["self", "whole", "parts", "radices"] (defScope sMxInit) := ⟨rfl, rfl, rfl, by decide +kernel, rfl, by decide +kernel, by decide +kernel⟩
theorem ok_MxInit {C f : Addr} {fd : FuncData} (T : Bt K mg) (Y : MxC K mg C) (d_require : Kn P w K mg base 1 "require" ["well_formed", "what"] spRequire) (d_is_whole : Kn P w K mg base 1 "is_whole" ["value"] (spWholeU K)) (d__are_parts : Kn P w K mg base 3 "_are_parts" ["value"] (spArP K)) (d__are_radices : Kn P w K mg base 3 "_are_radices" ["value"] (spArR K)) (d__fit : Kn P w K mg base 1 "_fit" ["parts", "radices"] (spFit K)) (d__worth : Kn P w K mg base 3 "_worth" ["whole", "parts", "radices"] (spWorth K)) {dvs : List V} {kws : List (Str × V)} (F : FunD K "__init__" "Mixed.__init__" (defArgs sMxInit) (defBody sMxInit) (defScope sMxInit) dvs kws f fd) : FnOk P w K mg base CX0 4 f fd ["self", "whole", "parts", "radices"] (spMxInit K C) := by
  refine F.ok scMxInit (fun vs H Q E h => ?_) (fun cdv A outer s H vs Q E hr h => ?_)
  · obtain ⟨H0, c, dx, a, b, u, ps, rs, rfl, _⟩ := h
    rfl
  obtain ⟨H0, c, dx, a, b, u, ps, rs, rfl, s0, c0, hc, ha, hb, rx, hf, hu, k⟩ := h
  refine ⟨_, (pss_cons (ps_expr (pe_kn d_require hr (by rfl) (pa_cons (pe_kn d_is_whole hr (by rfl) (pa_cons (pv 1) pa_nil)) (pa_cons pe_str pa_nil))))
      (pss_cons (ps_expr (pe_kn d_require hr (by rfl) (pa_cons (pe_kn d__are_parts hr (by rfl) (pa_cons (pv 2) pa_nil)) (pa_cons pe_str pa_nil))))
      (pss_cons (ps_expr (pe_kn d_require hr (by rfl) (pa_cons (pe_kn d__are_radices hr (by rfl) (pa_cons (pv 3) pa_nil)) (pa_cons pe_str pa_nil))))
      (pss_cons (ps_if (pt_not (pt_val (pe_kn d__fit hr (by rfl) (pa_cons (pv 2) (pa_cons (pv 3) pa_nil))))) (pss_one ps_never) pss_nil)
      (pss_cons (ps_fld (pv 0) (pv 1) rfl)
      (pss_cons (ps_fld (pv 0) (pv 2) rfl)
      (pss_cons (ps_fld (pv 0) (pv 3) rfl)
      (pss_one (ps_fld (pv 0) (pe_kn d__worth hr (by rfl) (pa_cons (pv 1) (pa_cons (pv 2) (pa_cons (pv 3) pa_nil)))) rfl))))))))), ?_⟩
  have ha1 := ha.same s0
  have hb1 := hb.same s0
  have h4 : rs.length ≤ 4 := rx.1
  refine ⟨_, rfl, .int u, rfl, Wh.int u, _, rfl, ?_⟩
  refine ⟨_, rfl, a, ps, rfl, ha1, by rw [hf.len]; exact h4, hf.pos, fun H1 s1 => ⟨_, rfl, ?_⟩⟩
  refine ⟨_, rfl, .ref b, true, rfl, rd_judge (hb1.same s1) rx, fun H2 s2 => ⟨_, rfl, ?_⟩⟩
  have s02 := s1.trans s2
  refine ⟨_, rfl, _, rfl, a, b, ps, rs, rfl, ha1.same s02, hb1.same s02, h4, hf, fun H3 s3 => ⟨_, rfl, if_no rfl ?_⟩⟩
  have s03 := s02.trans s3
  have s03' := s0.trans s03
  have hc3 := s03 _ _ hc
  refine ⟨_, rfl, _, rfl, c, C, dx, [], rfl, hc3, Y.cl, Y.nW, (by show 0 < 1000; decide), _, rfl, _, rfl, c, C, dx, _, rfl, upd_same, Y.cl, Y.nP, (by show 1 < 1000; decide), _, rfl, _, rfl, c, C, dx, _, rfl, upd_same, Y.cl, Y.nR, (by rw [show putF "whole" (V.int u) [] = [(("whole" : Str), V.int u)] from rfl, mx_put2]; show 2 < 1000; decide), ?_⟩
  have s4 : Same H0 (upd (upd (upd H3 c (.ins C dx (putF "whole" (.int u) []))) c (.ins C dx (putF "parts" (.ref a) (putF "whole" (.int u) [])))) c (.ins C dx (putF "radices" (.ref b) (putF "parts" (.ref a) (putF "whole" (.int u) []))))) := same_put (same_put (same_put s03' c0) c0) c0
  have h5 := upd_same (H := upd (upd H3 c (.ins C dx (putF "whole" (.int u) []))) c (.ins C dx (putF "parts" (.ref a) (putF "whole" (.int u) [])))) (a := c) (o := .ins C dx (putF "radices" (.ref b) (putF "parts" (.ref a) (putF "whole" (.int u) []))))
  generalize upd (upd (upd H3 c (.ins C dx (putF "whole" (.int u) []))) c (.ins C dx (putF "parts" (.ref a) (putF "whole" (.int u) [])))) c (.ins C dx (putF "radices" (.ref b) (putF "parts" (.ref a) (putF "whole" (.int u) [])))) = H5 at s4 h5 ⊢
  rw [show putF "whole" (V.int u) [] = [(("whole" : Str), V.int u)] from rfl, mx_put2, mx_put3] at h5
  refine ⟨_, rfl, _, rfl, _, rfl, a, b, u, ps, rs, rfl, ha.same s4, hb.same s4, rx, hf, hu, fun q hq z H6 s6 oz => ?_⟩
  refine ⟨_, rfl, c, C, dx, _, rfl, s6 _ _ h5, Y.cl, Y.nZ, (by show 3 < 1000; decide), ?_⟩
  have s7 := s4.trans s6
  have s8 : Same H0 (upd H6 c (.ins C dx (putF "worth" (.ref z) [(("whole" : Str), V.int u), (("parts" : Str), .ref a), (("radices" : Str), .ref b)]))) := same_put s7 c0
  rw [mx_put4] at s8 ⊢
  exact k _ s8 ⟨dx, a, b, z, q, upd_same, ha.same s8, hb.same s8, ob_put (s6 _ _ h5) oz, hq⟩

def mxG {α : Type} (us : List α) (_ : List α) (ws : List α) : List α := us ++ ws
theorem mx_kb {f : Addr} {fd : FuncData} {dvs : List V} {kws : List (Str × V)} (hd : dvs ≠ []) (hl : dvs.length = 1) (F : FunD K "__init__" "Mixed.__init__" (defArgs sMxInit) (defBody sMxInit) (defScope sMxInit) dvs kws f fd) : ∃ its : List Value, KBn K fd ["self", "whole", "parts", "radices"] 3 ["radices"] (fun us ws => mxG us its ws) (fun vs zs => mxG vs dvs zs) := by
  refine FunD.kbindsD F 3 ["radices"] (fun us its ws => mxG us its ws) hd (fun h1 _ h2 => h1.append h2) (fun T kV doc pm an cdv ct us its ws l1 l2 l3 => ?_)
  match us, ws, l1, l3 with
  | [u0, u1, u2], [w0], _, _ =>
    match its, l2.trans hl with
    | [i0], _ => exact ⟨_, rfl, rfl⟩
end
end My

namespace My
open PySem PySem.Spec PyProof.Rows L2
section
variable {P : Program} {w : World} {K : PySem.W.Frag} {mg : Str → Option Value} {base : Heap}
end
/-- divmod by any number above 0 of a bounded size -/
theorem call_divmodK {X : Cx} : CallR X (.builtin "divmod") (fun xs H Q => ∃ i j, xs = [.int i, .int j] ∧ (0 < j ∧ j.natAbs < 2 ^ 8000) ∧ ∀ p, H p = none → X.K.lookup p = none → Q (.ref p) (upd H p (.tup [.int (i / j), .int (i % j)]))) := by
  intro pins s σ H xs us Q I r h
  obtain ⟨i, j, rfl, ⟨h1, h2⟩, q⟩ := h
  obtain ⟨u, w', rfl, ⟨t, rfl⟩, ⟨t', rfl⟩⟩ := vals2 r
  refine divmod_int (by omega) ?_ (.inl (PyProof.noPylong_of_log2 (Nat.lt_of_lt_of_le (PySem.Flt.log2_lt_of (by omega) h2) (by omega))))
  rw [Int.fdiv_eq_ediv_of_nonneg i (by omega), Int.fmod_eq_emod_of_nonneg i (by omega)]
  have hn : H s.heap.objs.size = none := I.hok.fresh (Nat.le_refl _)
  refine ⟨.ref s.heap.objs.size, _, ?_, rfl, q _ hn (new_K I)⟩
  refine I.laid (fun b o e => Heap.get?_push_of_some _ e) (Nat.le_refl _) ⟨by simp only [List.length_cons, List.length_nil]; rw [sizeLine_eq]; decide, [.int (i / j) s.toks, .int (i % j) (s.toks + 1)], .cons ⟨_, rfl⟩ (.cons ⟨_, rfl⟩ .nil), ?_⟩
  exact ⟨_, Heap.get?_push_size s.heap rfl, rfl, 0, rfl⟩
/-! ### a parameter by keyword -/
def kw2 {α : Type} (us ws : List α) : List α := match us, ws with
  | [u], [w] => [u, w]
  | _, _ => []
theorem kw2_rel {vs : List V} {us : List Value} {zs : List V} {ws : List Value} (h : Vals vs us) (g : Vals zs ws) : Vals (kw2 vs zs) (kw2 us ws) := by
  cases h with
  | nil => exact .nil
  | cons a b =>
    cases b with
    | nil =>
      cases g with
      | nil => exact .nil
      | cons c d =>
        cases d with
        | nil => exact .cons a (.cons c .nil)
        | cons _ _ => exact .nil
    | cons _ _ => exact .nil
theorem kb2 {K : PySem.W.Frag} {fd : FuncData} {x y : Str} (h : ∀ (s : Shared) (u w : Value), BindsTo s fd ⟨[u], [(y, w)]⟩ [(x, u), (y, w)]) : KBinds K fd [x, y] [y] kw2 kw2 where
  to := fun s us ws _ hl => by
    match us, ws, hl with
    | [u], [w], _ => exact h s u w
    | [], _, hl => cases hl
    | [u], [], hl => cases hl
    | [u], _ :: _ :: _, hl => cases hl
    | _ :: _ :: _, _, hl => cases hl
  rel := fun h g => kw2_rel h g
structure DfnK (K : PySem.W.Frag) (mg : Str → Option Value) (x : Str) (st : Stmt) (ps ks : List Str) : Prop where
  ex : ∃ f fd, Fun K x x st f fd ∧ mg x = some (.ref f) ∧ KBinds K fd ps ks kw2 kw2
structure KnK (P : Program) (w : World) (K : PySem.W.Frag) (mg : Str → Option Value) (base : Heap) (k : Nat) (x : Str) (ps ks : List Str) (sp : Sp) : Prop where
  ex : ∃ f fd, mg x = some (.ref f) ∧ PySem.W.keepIn K (.ref f) = true ∧ KBinds K fd ps ks kw2 kw2 ∧ FnOk P w K mg base CX0 k f fd ps sp
theorem KnK.mk' {P : Program} {w : World} {K : PySem.W.Frag} {mg : Str → Option Value} {base : Heap} {x : Str} {st : Stmt} {N ps ks : List Str} {k : Nat} {sp : Sp} (D : DfnK K mg x st ps ks) (S : FnScope N ps (defScope st)) (len : ∀ vs H Q E, sp vs H Q E → vs.length = ps.length)
    (hbody : ∀ (f : Addr) (cdv : Value) (A : Around) (outer : List Env) (s : Shared) (H : Hp) (vs : List V) (Q : VK) (E : XK), Room k (A.deeper (envOfC x (defScope st) s.heap.objs.size f cdv)) → sp vs H Q E →
      ∃ t, PSs (cxOf CX0 P w K mg base N x (defScope st) f cdv A outer s H E).nox (defBody st) t ∧ t { nx := fun _ H' => Q .non H', rt := Q } (start N vs) H) : KnK P w K mg base (k + 1) x ps ks sp := by
  obtain ⟨f, fd, F, m, b⟩ := D.ex
  exact ⟨f, fd, m, F.kp, b, F.ok S len (hbody f)⟩
section
variable {X : Cx}
theorem pe_knK {j k : Nat} {x : Str} {ps ks : List Str} {sp : Sp} {p pos : Pos} {e : Expr} {es : List Expr} {kws : List Keyword} {t tk : TA} (F : KnK X.prog X.w X.K X.mg X.base k x ps ks sp) (hr : Room j X.A) (hg : Gl X x) (ha : PA X (e :: es) t) (hkw : PK X kws tk) (hj : k ≤ j := by omega)
    (hall : (backToKw pos (keywordEach kws X.env)).all (·.1.isSome) = true := by rfl) (hks : (backToKw pos (keywordEach kws X.env)).filterMap (·.1) = ks := by rfl)
    (hdb : (x == ("__debug__" : Str)) = false := by decide) (he : starEach (e :: es) X.env = (false, eval e X.env) :: starEach es X.env := by rfl)
    (hpl : ((backTo pos (starEach (e :: es) X.env)).any (·.1) || (backToKw pos (keywordEach kws X.env)).any (·.1.isNone)) = false := by rfl) :
    PE X (.Call (.Name x p) (e :: es) kws pos) (tCallK sp kw2 E0 t tk) := by
  obtain ⟨f, fd, m, kp, b, G⟩ := F.ex
  exact pe_callK G (hr.mono hj) hg m kp b pass0 ha hkw hall hks hdb he hpl
end
theorem walk_revT {K : PySem.W.Frag} {a : Addr} {xs : List V} : Walk (RT.ItvT K a xs.length) xs.length (fun H => SqT K H a xs) (YAt xs.reverse) := by
  refine ⟨fun i H hi q => ⟨hi, xs, xs[xs.length - 1 - i]'(by omega), q, List.getElem?_eq_getElem (by omega)⟩, fun H q => Nat.le_refl _, fun i H x H' hi q y => ⟨y.1, ?_⟩⟩
  rw [List.getElem?_reverse hi]
  exact y.2 xs q
section
variable {X : Cx}
/-- the maker of Mixed: two values and radices by keyword -/
structure MxMk (P : Program) (w : World) (K : PySem.W.Frag) (mg : Str → Option Value) (base : Heap) (C : Addr) : Prop where
  ex : ∃ f fd g gV, L2.Mk K C f ∧ mg "Mixed" = some (.ref C) ∧ KBn K fd ["self", "whole", "parts", "radices"] 3 ["radices"] g gV ∧ (∀ vs zs, gV vs zs = vs ++ zs) ∧ FnOk P w K mg base CX0 4 f fd ["self", "whole", "parts", "radices"] (spMxInit K C)
def tMx (C : Addr) (sp : Sp) (t tk : TA) : TE := fun σ H Q => t σ H fun vs H1 => tk σ H1 fun zs H2 => vs.length = 2 ∧ zs.length = 1 ∧ ∀ x dx, H2 x = none → H2 dx = none → dx ≠ x → sp (.ref x :: vs ++ zs) (upd (upd H2 dx (.own x)) x (.ins C dx [])) (fun v H3 => v = .non ∧ Q (.ref x) H3) E0
theorem pe_mx {C : Addr} {j : Nat} {p pos : Pos} {e : Expr} {es : List Expr} {kws : List Keyword} {t tk : TA} (m : MxMk X.prog X.w X.K X.mg X.base C) (hr : Room j X.A) (hj : 5 ≤ j) (hg : Gl X "Mixed") (ha : PA X (e :: es) t) (hkw : PK X kws tk)
    (hall : (backToKw pos (keywordEach kws X.env)).all (·.1.isSome) = true := by rfl) (hks : (backToKw pos (keywordEach kws X.env)).filterMap (·.1) = (["radices"] : List Str) := by rfl)
    (he : starEach (e :: es) X.env = (false, eval e X.env) :: starEach es X.env := by rfl) (hpl : ((backTo pos (starEach (e :: es) X.env)).any (·.1) || (backToKw pos (keywordEach kws X.env)).any (·.1.isNone)) = false := by rfl) :
    PE X (.Call (.Name "Mixed" p) (e :: es) kws pos) (tMx C (spMxInit X.K C) t tk) := by
  obtain ⟨f, fd, g, gV, M, hm, hb, hg', F⟩ := m.ex
  obtain rfl : gV = fun vs zs => vs ++ zs := funext fun vs => funext fun zs => hg' vs zs
  exact pe_makeN M F (hr.mono hj) hg hm hb pass0 ha hkw hall hks (by decide) he hpl
end
section
variable {P : Program} {w : World} {K : PySem.W.Frag} {mg : Str → Option Value} {base : Heap}
theorem k_Fraction1 (T : Bt K mg) (D : DfnD1 K mg "fraction" sFraction ["numerator", "denominator"] (.int 1)) (d_require : Kn P w K mg base 1 "require" ["well_formed", "what"] spRequire) (d_is_whole : Kn P w K mg base 1 "is_whole" ["value"] (spWhole K)) : Kn1 P w K mg base 2 "fraction" ["numerator", "denominator"] (spFraction K) (.int 1) := by
  refine Kn1.mkD D scFraction (fun vs H Q E h => ?_) (fun f cdv A outer s H vs Q E hr h => ?_)
  · obtain ⟨n, d, rfl, _⟩ := h
    rfl
  obtain ⟨n, d, rfl, h0, hz, q⟩ := h
  refine ⟨_, (pss_cons (ps_expr (pe_kn d_require hr (by rfl) (pa_cons (pe_kn d_is_whole hr (by rfl) (pa_cons (pv 0) pa_nil)) (pa_cons pe_str pa_nil))))
      (pss_cons (ps_expr (pe_kn d_require hr (by rfl) (pa_cons (pe_and (pe_kn d_is_whole hr (by rfl) (pa_cons (pv 1) pa_nil)) (pe_one (pe_cmpR op_ne (pv 1) pe_int (nomark _)))) (pa_cons pe_str pa_nil))))
      (pss_cons (ps_set (i := 2) scFraction.nd rfl (.inl rfl) (pe_callBfun cr_gcd (by rfl) T.g_gcd (pa_cons (pv 0) (pa_cons (pv 1) pa_nil))))
      (pss_cons (ps_if (pt_cmpR op_lt (pv 1) pe_int (nomark _)) (pss_one (ps_set (i := 2) scFraction.nd rfl (.inl rfl) (pe_un un_neg (pv 2)))) pss_nil)
      (pss_one (ps_ret (pe_tp (pa_cons (pe_op op_fdivX (pv 0) (pv 2)) (pa_cons (pe_op op_fdivX (pv 1) (pv 2)) pa_nil))))))))), ?_⟩
  simp only [cx_K, decide_true, decide_false, reduceCtorEq, gTp, gCons, gNil, ca_0, ca_1, ca_2, ca_3, ca_4, ca_5, ca_6, ca_7, ca_8, ca_9, ca_10, ca_11, ca_12, ca_13, ca_14, ca_15, ca_16, ca_17, ca_18, ca_19, ca_20, ca_21, ca_22, ca_23, ca_24, ca_25, ca_26, ca_27, ca_28, ca_29, ca_30, not_true_eq_false, not_false_eq_true, Int.reduceEq, Nat.reduceEqDiff, Nat.reduceLeDiff, rGcd, V.ty.injEq, eq_self, List.not_mem_nil, beq_self_eq_true, HO.lst.injEq, HO.tup.injEq, tFor_eq, iRng1, iList, iTup, nat10, tSeq, rIxA, rSetA, rIsN, rIsT, tTp, tLs, itsO_tup, itsO_lst, tyO_tup, tyO_lst, tyO_dK, tyN_non, tyN_bl, tyN_int, tyN_str, tyN_ref, tyNs_lt, isB, upd_same, upd_upd, sizeLine_eq, List.mem_cons, String.reduceBEq, String.reduceEq, Bool.or_false, Bool.or_true, Bool.and_false, Bool.false_or, Bool.and_self, Bool.false_and, Bool.not_false, Bool.not_true, List.any_cons, List.any_nil, atI_0, setI_0, atI_1, setI_1, atI_2, setI_2, atI_3, setI_3, atI_4, setI_4, atI_5, setI_5, atI_6, setI_6, tAsg, gName, tOp, tUn, tVar, tC, tCons, L2.tNil, tRet, tIfS, tTest, tCB, tCall, rI, rI0, rU, tNext, tB, tAnd, tOr, tNot, tAndV, tOrV, tNotV, tDrop, tIf, tPar, gSub, rIxL, rIxT, rEq, rNe, rSetL, tBits,
    L2.start, List.map_cons, List.map_nil, List.cons_append, List.nil_append, List.append_nil, List.length_cons, List.length_nil, List.replicate, Nat.reduceAdd, Nat.reduceSub, Nat.zero_add, List.getElem?_cons_zero, List.getElem?_cons_succ, List.set_cons_zero, List.set_cons_succ,
    Option.some.injEq, exists_eq_left', exists_eq_left, V.int.injEq, V.bl.injEq, V.ref.injEq, V.str.injEq, List.cons.injEq, reduceCtorEq, and_true, true_and, false_and, and_false, exists_false, or_false, false_or, or_true, true_or, exists_const, CMul, CDiv, CPow, and_assoc, exists_and_left, exists_and_right, Int.reducePow, Int.reduceNeg, Int.reduceLT, Int.reduceLE, Nat.reducePow, Nat.reduceLT, Int.reduceToNat, gt_iff_lt, ge_iff_le, decide_eq_true_eq, Bool.not_eq_true', decide_eq_false_iff_not, scal, ↓reduceIte, Bool.false_eq_true]
  refine ⟨_, rfl, rfl, ⟨_, rfl, ⟨_, rfl, rfl, ⟨true, rfl, ?_⟩⟩⟩⟩
  rw [if_pos rfl]
  refine ⟨_, by rw [decide_eq_false h0]; rfl, ?_⟩
  simp only [cx_K, decide_true, decide_false, reduceCtorEq, gTp, gCons, gNil, ca_0, ca_1, ca_2, ca_3, ca_4, ca_5, ca_6, ca_7, ca_8, ca_9, ca_10, ca_11, ca_12, ca_13, ca_14, ca_15, ca_16, ca_17, ca_18, ca_19, ca_20, ca_21, ca_22, ca_23, ca_24, ca_25, ca_26, ca_27, ca_28, ca_29, ca_30, not_true_eq_false, not_false_eq_true, Int.reduceEq, Nat.reduceEqDiff, Nat.reduceLeDiff, rGcd, V.ty.injEq, eq_self, List.not_mem_nil, beq_self_eq_true, HO.lst.injEq, HO.tup.injEq, tFor_eq, iRng1, iList, iTup, nat10, tSeq, rIxA, rSetA, rIsN, rIsT, tTp, tLs, itsO_tup, itsO_lst, tyO_tup, tyO_lst, tyO_dK, tyN_non, tyN_bl, tyN_int, tyN_str, tyN_ref, tyNs_lt, isB, upd_same, upd_upd, sizeLine_eq, List.mem_cons, String.reduceBEq, String.reduceEq, Bool.or_false, Bool.or_true, Bool.and_false, Bool.false_or, Bool.and_self, Bool.false_and, Bool.not_false, Bool.not_true, List.any_cons, List.any_nil, atI_0, setI_0, atI_1, setI_1, atI_2, setI_2, atI_3, setI_3, atI_4, setI_4, atI_5, setI_5, atI_6, setI_6, tAsg, gName, tOp, tUn, tVar, tC, tCons, L2.tNil, tRet, tIfS, tTest, tCB, tCall, rI, rI0, rU, tNext, tB, tAnd, tOr, tNot, tAndV, tOrV, tNotV, tDrop, tIf, tPar, gSub, rIxL, rIxT, rEq, rNe, rSetL, tBits,
    L2.start, List.map_cons, List.map_nil, List.cons_append, List.nil_append, List.append_nil, List.length_cons, List.length_nil, List.replicate, Nat.reduceAdd, Nat.reduceSub, Nat.zero_add, List.getElem?_cons_zero, List.getElem?_cons_succ, List.set_cons_zero, List.set_cons_succ,
    Option.some.injEq, exists_eq_left', exists_eq_left, V.int.injEq, V.bl.injEq, V.ref.injEq, V.str.injEq, List.cons.injEq, reduceCtorEq, and_true, true_and, false_and, and_false, exists_false, or_false, false_or, or_true, true_or, exists_const, CMul, CDiv, CPow, and_assoc, exists_and_left, exists_and_right, Int.reducePow, Int.reduceNeg, Int.reduceLT, Int.reduceLE, Nat.reducePow, Nat.reduceLT, Int.reduceToNat, gt_iff_lt, ge_iff_le, decide_eq_true_eq, Bool.not_eq_true', decide_eq_false_iff_not, scal, ↓reduceIte, Bool.false_eq_true]
  have k := gcdX (n := n) h0 hz
  have v := is_fdiv (t := n) h0
  refine ite2 (fun h => ?_) (fun h => ?_)
  · rw [if_pos h] at v
    simp only [if_pos h] at k
    exact ⟨k _, k _, fun p hp kp => (q _ v).new hp kp⟩
  · rw [if_neg h] at v
    simp only [if_neg h] at k
    exact ⟨k _, k _, fun p hp kp => (q _ v).new hp kp⟩
theorem cat_get {a b : Addr} {xs ys : List V} {H : Hp} {Q : VK} (o : ob K H a = some (.tup xs)) (o' : ob K H b = some (.tup ys)) (hz : xs.length + ys.length ≤ 1000) (k : ∀ p H', Same H H' → ob K H' p = some (.tup (xs ++ ys)) → Q (.ref p) H') : rCatA K (.ref a) (.ref b) H fun v H' => (∀ x, H' x ≠ none → K.lookup x = none) → Q v H' :=
  ⟨a, b, xs, ys, rfl, rfl, ob_tup o, ob_tup o', by rw [sizeLine_eq]; omega, fun h _ => k b H (Same.refl H) (by rw [h]; exact o'), fun _ h _ => k a H (Same.refl H) (by rw [h, List.append_nil]; exact o), fun _ _ p hp fr => k p _ (Same.new hp _) ((ob_none (fr p (by rw [upd_same]; simp))).trans upd_same)⟩
theorem is_floor {z : Qt} {t b : Int} (hb : 0 < b) (h : Is z t b) : z.1 / z.2 = t / b := by
  have z2 := h.1.1
  have e := h.2
  refine Int.le_antisymm ?_ ?_
  · refine (Int.le_ediv_iff_mul_le hb).mpr ?_
    have h1 : z.1 / z.2 * z.2 ≤ z.1 := Int.ediv_mul_le z.1 (by omega)
    have h2 : (z.1 / z.2 * z.2) * b ≤ z.1 * b := Int.mul_le_mul_of_nonneg_right h1 (by omega)
    have h3 : (z.1 / z.2 * b) * z.2 ≤ t * z.2 := by rw [← e]; grind
    exact Int.le_of_mul_le_mul_right h3 (by omega)
  · refine (Int.le_ediv_iff_mul_le (by omega)).mpr ?_
    have h1 : t / b * b ≤ t := Int.ediv_mul_le t (by omega)
    have h2 : (t / b * b) * z.2 ≤ t * z.2 := Int.mul_le_mul_of_nonneg_right h1 (by omega)
    have h3 : (t / b * z.2) * b ≤ z.1 * b := by rw [e]; grind
    exact Int.le_of_mul_le_mul_right h3 hb
def spFrom (K : PySem.W.Frag) (C : Addr) : Sp := fun vs H Q _ => ∃ (b : Addr) (u : Int) (rs : List Int), vs = [.int u, .ref b] ∧ Wd K H b rs ∧ Rdx rs ∧ u.natAbs < 2 ^ 2000 ∧ ∀ c wv ps H', Same H H' → MxAt K C H' c wv ps rs → Fits ps rs → hor wv ps rs = u → Q (.ref c) H'
abbrev sFrom : Stmt := topS 40
theorem scFrom : FnScope ["units", "radices", "whole", "parts", "radix", "part"] ["units", "radices"] (defScope sFrom) := ⟨rfl, rfl, rfl, by decide +kernel, rfl, by decide +kernel, by decide +kernel⟩
theorem k_From {C : Addr} (zD : mg "divmod" = none) (zR : mg "reversed" = none) (mk : MxMk P w K mg base C) (T : Bt K mg) (D : Dfn K mg "_mixed_from" sFrom ["units", "radices"]) : Kn P w K mg base 6 "_mixed_from" ["units", "radices"] (spFrom K C) := by
  refine Kn.mk' D scFrom (fun vs H Q E h => ?_) (fun f cdv A outer s H vs Q E hr h => ?_)
  · obtain ⟨b, u, rs, rfl, _⟩ := h
    rfl
  obtain ⟨b, u, rs, rfl, hb, rx, hu, k⟩ := h
  refine ⟨_, (pss_cons (ps_set (i := 2) scFrom.nd rfl (.inl rfl) (pv 0))
      (pss_cons (ps_set (i := 3) scFrom.nd rfl (.inl rfl) (pe_tp pa_nil))
      (pss_cons (ps_for PassesOwn.never rfl (RT.pi_revA (by rfl) zR (pv 1)) (pg_name (i := 4) scFrom.nd rfl (.inl rfl)) (pss_cons (ps_asg (pe_callB call_divmodK (by rfl) zD (by decide +kernel) (pa_cons (pv 2) (pa_cons (pv 4) pa_nil))) (pg_tp 2 (by rfl) (pgs_cons (pg_name (i := 2) scFrom.nd rfl (.inl rfl)) (pgs_cons (pg_name (i := 5) scFrom.nd rfl (.inl rfl)) pgs_nil))))
      (pss_one (ps_set (i := 3) scFrom.nd rfl (.inl rfl) (pe_fr (pe_op op_catA (pe_tp (pa_cons (pv 5) pa_nil)) (pv 3)))))))
      (pss_one (ps_ret (pe_mx mk hr (by omega) (by rfl) (pa_cons (pv 2) (pa_cons (pv 3) pa_nil)) (pk_cons (pv 1) pk_nil))))))), ?_⟩
  have o : ob K H b = some (.tup (rs.map V.int)) := hb
  have h4 := rx.1
  refine ⟨_, rfl, by decide, fun p0 hp0 kp0 => ?_⟩
  have s0 := Same.new hp0 (.tup [])
  refine ⟨_, rfl, b, _, rfl, .inr ⟨ob_tup (ob_same s0 o), ?_⟩⟩
  refine for_it walk_revT (fun i σ H' => ∃ (wv : Int) (ps : List Int) (pa : Addr) (x4 x5 : Option V), σ = [some (.int u), some (.ref b), some (.int wv), some (.ref pa), x4, x5] ∧ Wd K H' pa ps ∧ Fits ps (rs.drop (rs.length - i)) ∧ hor wv ps (rs.drop (rs.length - i)) = u ∧ wv.natAbs ≤ u.natAbs ∧ Same H H') ⟨u, [], p0, none, none, rfl, ob_new kp0, ?_, ?_, Nat.le_refl _, s0⟩ (fun i σ H' _ h => by obtain ⟨_, _, _, _, _, _, _, _, _, _, s⟩ := h; exact ob_tup (ob_same s o)) ?_ ?_
  · rw [Nat.sub_zero, List.drop_length]
    exact True.intro
  · rw [Nat.sub_zero, List.drop_length]
    rfl
  · rintro i x σ H' H2 hi ⟨wv, ps, pa, x4, x5, rfl, hpa, hf, hh, hn, s1⟩ ⟨rfl, hx⟩
    rw [List.length_map] at hi
    rw [List.getElem?_reverse (by rw [List.length_map]; exact hi), List.length_map, List.getElem?_map] at hx
    obtain ⟨r, hr', rfl⟩ := Option.map_eq_some_iff.mp hx
    have li := (List.getElem?_eq_some_iff.mp hr').1
    have er := (List.getElem?_eq_some_iff.mp hr').2
    have nb := rx.2 r (List.mem_of_getElem? hr')
    have ed : rs.drop (rs.length - (i + 1)) = r :: rs.drop (rs.length - i) := by
      have e1 : rs.length - (i + 1) = rs.length - 1 - i := by omega
      have e2 : rs.length - 1 - i + 1 = rs.length - i := by omega
      rw [e1, List.drop_eq_getElem_cons li, er, e2]
    refine ⟨_, rfl, _, rfl, _, _, rfl, ⟨by omega, by omega⟩, fun q hq kq => ?_⟩
    have s2 := Same.new hq (.tup [V.int (wv / r), V.int (wv % r)])
    refine ⟨q, rfl, [V.int (wv / r), V.int (wv % r)], ob_new kq, rfl, ?_⟩
    refine ⟨_, _, rfl, _, _, rfl, rfl, ?_⟩
    refine ⟨_, rfl, sz2 (by show 1 ≤ 100; decide), fun t ht kt => ⟨_, rfl, ?_⟩⟩
    have s3 := s2.trans (Same.new ht (.tup [V.int (wv % r)]))
    refine cat_get (ob_new kt) (ob_same s3 hpa) (by rw [List.length_map, hf.len, List.length_drop]; simp only [List.length_cons, List.length_nil]; omega) fun p J s4 op => ?_
    have e1 := Int.ediv_mul_add_emod wv r
    have m0 := Int.emod_nonneg wv (show r ≠ 0 by omega)
    have m1 := Int.emod_lt_of_pos wv (show 0 < r by omega)
    refine ⟨wv / r, (wv % r) :: ps, p, some (.int r), some (.int (wv % r)), rfl, op, ?_, ?_, Nat.le_trans (Int.natAbs_ediv_le_natAbs wv r) hn, (s1.trans s3).trans s4⟩
    · rw [ed]
      exact ⟨⟨m0, m1⟩, hf⟩
    · rw [ed]
      show hor (wv / r * r + wv % r) ps (rs.drop (rs.length - i)) = u
      rw [e1]
      exact hh
  · rintro σ H' ⟨wv, ps, pa, x4, x5, rfl, hpa, hf, hh, hn, s1⟩
    rw [List.length_map, Nat.sub_self, List.drop_zero] at hf hh
    refine ⟨_, rfl, _, rfl, _, rfl, rfl, rfl, fun x dx hx hdx hne => ?_⟩
    have sm := same_make (C := C) hx hdx
    exact ⟨H', x, dx, pa, b, wv, ps, rs, rfl, sm, hx, upd_same, hpa, ob_same s1 o, rx, hf, Nat.lt_of_le_of_lt hn hu, fun H3 s3 hm => ⟨rfl, k x wv ps H3 (s1.trans s3) hm hf hh⟩⟩

end
end My

namespace My
open PySem PySem.Spec PyProof.Rows L2
section
variable {P : Program} {w : World} {K : PySem.W.Frag} {mg : Str → Option Value} {base : Heap}
theorem sum_sz {p q z : Qt} {i j k : Nat} (h : sum2 p q z) (hp : Nf p) (hq : Nf q) (sp : Sz i p) (sq : Sz j q) (l : i + j < k) : Sz k z :=
  is_sz (mul_ne hp.1 hq.1) h (szAdd (szMul sp.1 sq.2) (szMul sq.1 sp.2) (by omega) (by omega)) (szMono (szMul sp.2 sq.2) (by omega))
theorem dif_sz {p q z : Qt} {i j k : Nat} (h : dif2 p q z) (hp : Nf p) (hq : Nf q) (sp : Sz i p) (sq : Sz j q) (l : i + j < k) : Sz k z :=
  is_sz (mul_ne hp.1 hq.1) h (szSub (szMul sp.1 sq.2) (szMul sq.1 sp.2) (by omega) (by omega)) (szMono (szMul sp.2 sq.2) (by omega))
theorem pro_sz {p q z : Qt} {i j k : Nat} (h : pro2 p q z) (hp : Nf p) (hq : Nf q) (sp : Sz i p) (sq : Sz j q) (l : i + j < k) : Sz k z :=
  is_sz (mul_ne hp.1 hq.1) h (szMono (szMul sp.1 sq.1) (by omega)) (szMono (szMul sp.2 sq.2) (by omega))
theorem quo_sz {p q z : Qt} {i j k : Nat} (h : quo2 p q z) (hp : Nf p) (h0 : q.1 ≠ 0) (sp : Sz i p) (sq : Sz j q) (l : i + j < k) : Sz k z :=
  is_sz (Int.mul_ne_zero hp.ne h0) h (szMono (szMul sp.1 sq.2) (by omega)) (szMono (szMul sp.2 sq.1) (by omega))
theorem is_part {q z y : Qt} {l u : Int} (hz : pro2 q (l, 1) z) (hu : u = q.1 * l / q.2) (hy : dif2 z (u, 1) y) : Is y (q.1 * l % q.2) q.2 := by
  have e1 : z.1 * (q.2 * 1) = q.1 * l * z.2 := hz.2
  have e2 : y.1 * (z.2 * 1) = (z.1 * 1 - u * z.2) * y.2 := hy.2
  have z2 := hz.1.1
  refine ⟨hy.1, ?_⟩
  have e3 : q.1 * l % q.2 = q.1 * l - q.2 * u := by
    rw [hu]
    exact Int.emod_def _ _
  rw [e3]
  have e4 : z.2 * (y.1 * q.2) = z.2 * ((q.1 * l - q.2 * u) * y.2) := by grind
  exact Int.eq_of_mul_eq_mul_left (by omega) e4
theorem is_half {q z y : Qt} {l : Int} (hz : pro2 q (l, 1) z) (hy : sum2 z (1, 2) y) : Is y (2 * (q.1 * l) + q.2) (2 * q.2) := by
  have e1 : z.1 * (q.2 * 1) = q.1 * l * z.2 := hz.2
  have e2 : y.1 * (z.2 * 2) = (z.1 * 2 + 1 * z.2) * y.2 := hy.2
  have z2 := hz.1.1
  refine ⟨hy.1, ?_⟩
  have e4 : z.2 * (y.1 * (2 * q.2)) = z.2 * ((2 * (q.1 * l) + q.2) * y.2) := by grind
  exact Int.eq_of_mul_eq_mul_left (by omega) e4
theorem is_int {z : Qt} {l : Int} (h : Is z l 1) : z = (l, 1) := by
  refine is_unique (t := l) (b := 1) (by decide) h ⟨nf_int l, rfl⟩
/-- the program names one half -/
structure HalfT (K : PySem.W.Frag) (mg : Str → Option Value) (hf : Addr) : Prop where
  g_HALF : mg "HALF" = some (.ref hf)
  oh : ∀ H, ob K H hf = some (.tup [.int 1, .int 2])
def spMO (K : PySem.W.Frag) (C : Addr) : Sp := fun vs H Q _ => ∃ (a b : Addr) (q : Qt) (rs : List Int), vs = [.ref a, .ref b] ∧ Fq K H 1500 a q ∧ Wd K H b rs ∧ Rdx rs ∧ ∀ c m p y u ps H', Same H H' → ob K H' c = some (.tup [.ref m, .ref p]) → MxAt K C H' m u ps rs → Fits ps rs → hor u ps rs = q.1 * prodL rs / q.2 → ob K H' p = some (frt y) → Is y (q.1 * prodL rs % q.2) q.2 → Q (.ref c) H'
def spNM (K : PySem.W.Frag) (C : Addr) : Sp := fun vs H Q _ => ∃ (a b : Addr) (q : Qt) (rs : List Int), vs = [.ref a, .ref b] ∧ Fq K H 1500 a q ∧ Wd K H b rs ∧ Rdx rs ∧ ∀ m u ps H', Same H H' → MxAt K C H' m u ps rs → Fits ps rs → hor u ps rs = (2 * (q.1 * prodL rs) + q.2) / (2 * q.2) → Q (.ref m) H'
abbrev sMO : Stmt := topS 32
theorem scMO : FnScope ["value", "radices", "counted", "units"] ["value", "radices"] (defScope sMO) := ⟨rfl, rfl, rfl, by decide +kernel, rfl, by decide +kernel, by decide +kernel⟩
theorem k_MO {C : Addr} (d1_fraction : Kn1 P w K mg base 2 "fraction" ["numerator", "denominator"] (spFraction K) (.int 1)) (T : Bt K mg) (D : DfnK K mg "mixed_of" sMO ["value", "radices"] ["radices"]) (d_require : Kn P w K mg base 1 "require" ["well_formed", "what"] spRequire) (d_is_fraction : Kn P w K mg base 2 "is_fraction" ["value"] (spIsFraction K)) (d__are_radices : Kn P w K mg base 3 "_are_radices" ["value"] (spArR K)) (d_times : Kn P w K mg base 3 "times" ["left", "right"] (spBin K pro2)) (d__least_units : Kn P w K mg base 1 "_least_units" ["radices"] (spLeast K)) (d_floor_of : Kn P w K mg base 3 "floor_of" ["value"] (spFloor K)) (d__mixed_from : Kn P w K mg base 6 "_mixed_from" ["units", "radices"] (spFrom K C)) (d_minus : Kn P w K mg base 3 "minus" ["left", "right"] (spBin K dif2)) : KnK P w K mg base 7 "mixed_of" ["value", "radices"] ["radices"] (spMO K C) := by
  refine KnK.mk' D scMO (fun vs H Q E h => ?_) (fun f cdv A outer s H vs Q E hr h => ?_)
  · obtain ⟨a, b, v, rs, rfl, _⟩ := h
    rfl
  obtain ⟨a, b, v, rs, rfl, hv, hb, rx, k⟩ := h
  refine ⟨_, (pss_cons (ps_expr (pe_kn d_require hr (by rfl) (pa_cons (pe_kn d_is_fraction hr (by rfl) (pa_cons (pv 0) pa_nil)) (pa_cons pe_str pa_nil))))
      (pss_cons (ps_expr (pe_kn d_require hr (by rfl) (pa_cons (pe_kn d__are_radices hr (by rfl) (pa_cons (pv 1) pa_nil)) (pa_cons pe_str pa_nil))))
      (pss_cons (ps_set (i := 2) scMO.nd rfl (.inl rfl) (pe_kn d_times hr (by rfl) (pa_cons (pv 0) (pa_cons (pe_kn1 d1_fraction hr (by rfl) (pa_cons (pe_kn d__least_units hr (by rfl) (pa_cons (pv 1) pa_nil)) pa_nil)) pa_nil))))
      (pss_cons (ps_set (i := 3) scMO.nd rfl (.inl rfl) (pe_kn d_floor_of hr (by rfl) (pa_cons (pv 2) pa_nil)))
      (pss_one (ps_ret (pe_tp (pa_cons (pe_kn d__mixed_from hr (by rfl) (pa_cons (pv 3) (pa_cons (pv 1) pa_nil))) (pa_cons (pe_kn d_minus hr (by rfl) (pa_cons (pv 2) (pa_cons (pe_kn1 d1_fraction hr (by rfl) (pa_cons (pv 3) pa_nil)) pa_nil))) pa_nil))))))))), ?_⟩
  have pb := rx.prod
  refine ⟨_, rfl, _, rfl, Tyd.fr hv.o, _, by rw [frOk_fr hv.o hv.nf]; rfl, ?_⟩
  refine ⟨_, rfl, .ref b, true, rfl, rd_judge hb rx, fun H1 s1 => ⟨_, rfl, ?_⟩⟩
  have one : (1 : Int).natAbs < 2 ^ 8000 := Nat.one_lt_two_pow (by decide)
  refine ⟨_, rfl, _, rfl, b, rs, rfl, hb.same s1, rx, _, 1, rfl, by decide, one, fun z1 hz1 f H2 s2 o2 => ?_⟩
  obtain rfl := is_int hz1
  have sL : Sz 41 (prodL rs, 1) := ⟨by show (prodL rs).natAbs < 2 ^ 41; omega, by show (1 : Int).natAbs < 2 ^ 41; decide⟩
  have s12 := s1.trans s2
  refine ⟨a, f, v, (prodL rs, 1), rfl, (hv.same s12).mono (by omega), ⟨o2, hz1.1, sL.mono (by omega)⟩, fun z hz c1 H3 s3 o3 => ?_⟩
  have szz : Sz 1600 z := pro_sz hz hv.nf hz1.1 hv.sz sL (by omega)
  have s13 := s12.trans s3
  refine ⟨_, rfl, c1, z, rfl, ⟨o3, hz.1, szz.mono (by omega)⟩, ?_⟩
  have v2 := hv.nf.1
  have hu : z.1 / z.2 = v.1 * prodL rs / v.2 := by
    have hz' : Is z (v.1 * prodL rs) (v.2 * 1) := hz
    rw [Int.mul_one] at hz'
    exact is_floor (by omega) hz'
  have nu : (z.1 / z.2).natAbs < 2 ^ 1600 := Nat.lt_of_le_of_lt (Int.natAbs_ediv_le_natAbs _ _) szz.1
  generalize z.1 / z.2 = u at hu nu ⊢
  have p12 : (2 : Nat) ^ 1600 ≤ 2 ^ 2000 := Nat.pow_le_pow_right (by decide) (by decide)
  refine ⟨_, rfl, _, rfl, b, u, rs, rfl, hb.same s13, rx, Nat.lt_of_lt_of_le nu p12, fun m wv ps H4 s4 hm hf hh => ?_⟩
  refine ⟨_, rfl, _, rfl, _, 1, rfl, by decide, one, fun z2 hz2 f2 H5 s5 o5 => ?_⟩
  obtain rfl := is_int hz2
  have s45 := s4.trans s5
  have su : Sz 1600 (u, 1) := ⟨nu, Nat.one_lt_two_pow (by decide)⟩
  refine ⟨c1, f2, z, (u, 1), rfl, ⟨ob_same s45 o3, hz.1, szz.mono (by omega)⟩, ⟨o5, hz2.1, su.mono (by omega)⟩, fun y hy d H6 s6 o6 => ⟨sz2 (by show 2 ≤ 100; decide), fun t ht kt => ?_⟩⟩
  have s7 := Same.new ht (.tup [V.ref m, .ref d])
  exact k t m d y wv ps _ (((s13.trans s45).trans s6).trans s7) (ob_new kt) (((hm.same s5).same s6).same s7) hf (hh.trans hu) (ob_same s7 o6) (is_part hz hu hy)

abbrev sNM : Stmt := topS 33
theorem scNM : FnScope ["value", "radices", "counted"] ["value", "radices"] (defScope sNM) := ⟨rfl, rfl, rfl, by decide +kernel, rfl, by decide +kernel, by decide +kernel⟩
theorem k_NM {C : Addr} (d1_fraction : Kn1 P w K mg base 2 "fraction" ["numerator", "denominator"] (spFraction K) (.int 1)) {hf : Addr} (HF : HalfT K mg hf) (T : Bt K mg) (D : DfnK K mg "nearest_mixed" sNM ["value", "radices"] ["radices"]) (d_require : Kn P w K mg base 1 "require" ["well_formed", "what"] spRequire) (d_is_fraction : Kn P w K mg base 2 "is_fraction" ["value"] (spIsFraction K)) (d__are_radices : Kn P w K mg base 3 "_are_radices" ["value"] (spArR K)) (d_times : Kn P w K mg base 3 "times" ["left", "right"] (spBin K pro2)) (d__least_units : Kn P w K mg base 1 "_least_units" ["radices"] (spLeast K)) (d_floor_of : Kn P w K mg base 3 "floor_of" ["value"] (spFloor K)) (d__mixed_from : Kn P w K mg base 6 "_mixed_from" ["units", "radices"] (spFrom K C)) (d_plus : Kn P w K mg base 3 "plus" ["left", "right"] (spBin K sum2)) : KnK P w K mg base 7 "nearest_mixed" ["value", "radices"] ["radices"] (spNM K C) := by
  refine KnK.mk' D scNM (fun vs H Q E h => ?_) (fun f cdv A outer s H vs Q E hr h => ?_)
  · obtain ⟨a, b, v, rs, rfl, _⟩ := h
    rfl
  obtain ⟨a, b, v, rs, rfl, hv, hb, rx, k⟩ := h
  refine ⟨_, (pss_cons (ps_expr (pe_kn d_require hr (by rfl) (pa_cons (pe_kn d_is_fraction hr (by rfl) (pa_cons (pv 0) pa_nil)) (pa_cons pe_str pa_nil))))
      (pss_cons (ps_expr (pe_kn d_require hr (by rfl) (pa_cons (pe_kn d__are_radices hr (by rfl) (pa_cons (pv 1) pa_nil)) (pa_cons pe_str pa_nil))))
      (pss_cons (ps_set (i := 2) scNM.nd rfl (.inl rfl) (pe_kn d_times hr (by rfl) (pa_cons (pv 0) (pa_cons (pe_kn1 d1_fraction hr (by rfl) (pa_cons (pe_kn d__least_units hr (by rfl) (pa_cons (pv 1) pa_nil)) pa_nil)) pa_nil))))
      (pss_one (ps_ret (pe_kn d__mixed_from hr (by rfl) (pa_cons (pe_kn d_floor_of hr (by rfl) (pa_cons (pe_kn d_plus hr (by rfl) (pa_cons (pv 2) (pa_cons (pe_glob (v := .ref hf) (by rfl) HF.g_HALF rfl) pa_nil))) pa_nil)) (pa_cons (pv 1) pa_nil)))))))), ?_⟩
  have pb := rx.prod
  refine ⟨_, rfl, _, rfl, Tyd.fr hv.o, _, by rw [frOk_fr hv.o hv.nf]; rfl, ?_⟩
  refine ⟨_, rfl, .ref b, true, rfl, rd_judge hb rx, fun H1 s1 => ⟨_, rfl, ?_⟩⟩
  have one : (1 : Int).natAbs < 2 ^ 8000 := Nat.one_lt_two_pow (by decide)
  refine ⟨_, rfl, _, rfl, b, rs, rfl, hb.same s1, rx, _, 1, rfl, by decide, one, fun z1 hz1 f H2 s2 o2 => ?_⟩
  obtain rfl := is_int hz1
  have sL : Sz 41 (prodL rs, 1) := ⟨by show (prodL rs).natAbs < 2 ^ 41; omega, by show (1 : Int).natAbs < 2 ^ 41; decide⟩
  have s12 := s1.trans s2
  refine ⟨a, f, v, (prodL rs, 1), rfl, (hv.same s12).mono (by omega), ⟨o2, hz1.1, sL.mono (by omega)⟩, fun z hz c1 H3 s3 o3 => ?_⟩
  have szz : Sz 1600 z := pro_sz hz hv.nf hz1.1 hv.sz sL (by omega)
  have s13 := s12.trans s3
  have s2h : Sz 2 (1, 2) := ⟨by decide, by decide⟩
  refine ⟨_, rfl, c1, hf, z, (1, 2), rfl, ⟨o3, hz.1, szz.mono (by omega)⟩, ⟨HF.oh _, nf12, s2h.mono (by omega)⟩, fun y hy c2 H4 s4 o4 => ?_⟩
  have szy : Sz 1700 y := sum_sz hy hz.1 nf12 szz s2h (by omega)
  have v2 := hv.nf.1
  refine ⟨c2, y, rfl, ⟨o4, hy.1, szy.mono (by omega)⟩, ?_⟩
  have hu := is_floor (show 0 < 2 * v.2 by omega) (is_half hz hy)
  have nu : (y.1 / y.2).natAbs < 2 ^ 1700 := Nat.lt_of_le_of_lt (Int.natAbs_ediv_le_natAbs _ _) szy.1
  generalize y.1 / y.2 = u at hu nu ⊢
  have p12 : (2 : Nat) ^ 1700 ≤ 2 ^ 2000 := Nat.pow_le_pow_right (by decide) (by decide)
  exact ⟨_, rfl, b, u, rs, rfl, hb.same (s13.trans s4), rx, Nat.lt_of_lt_of_le nu p12, fun m wv ps H5 s5 hm hf' hh => k m wv ps H5 ((s13.trans s4).trans s5) hm hf' (hh.trans hu)⟩

end
end My

namespace My
open PySem PySem.Spec PyProof.Rows L2
section
variable {P : Program} {w : World} {K : PySem.W.Frag} {mg : Str → Option Value} {base : Heap}
theorem lay_ints : ∀ ns : List Int, PyData.canLayAll0 (ns.map PyData.int) = true
  | [] => rfl
  | n :: r => by
    show (true && PyData.canLayAll0 (r.map PyData.int)) = true
    rw [lay_ints r]
    rfl
theorem depth_ints : ∀ ns : List Int, PyData.depthAll (ns.map PyData.int) = 0
  | [] => rfl
  | n :: r => by
    show max 0 (PyData.depthAll (r.map PyData.int)) = 0
    rw [depth_ints r]
    rfl
theorem dpAll_ints {H : Hp} : ∀ ns : List Int, DpAll K H (ns.map V.int) (ns.map PyData.int)
  | [] => .nil
  | n :: r => .cons (.int n) (dpAll_ints r)
theorem shaped_intsT (ns : List Int) : SeqAt.shaped (.tuple (ns.map PyData.int)) = true := by
  unfold SeqAt.shaped
  rw [show PyData.canLay0 (.tuple (ns.map PyData.int)) = PyData.canLayAll0 (ns.map PyData.int) from rfl, lay_ints, show PyData.depth (.tuple (ns.map PyData.int)) = PyData.depthAll (ns.map PyData.int) + 1 from rfl, depth_ints]
  rfl
theorem eqv_ints : ∀ (ks rs : List Int), PyData.eqvAll (ks.map PyData.int) (rs.map PyData.int) = decide (ks = rs)
  | [], [] => rfl
  | k :: ks, r :: rs => by
    show ((k == r) && PyData.eqvAll (ks.map PyData.int) (rs.map PyData.int)) = _
    rw [eqv_ints ks rs]
    by_cases h : k = r
    · subst h
      simp
    · simp [h]
  | [], r :: rs => by simp [PyData.eqvAll]
  | k :: ks, [] => by simp [PyData.eqvAll]
end
/-! ### own == and != with a right side of any known kind -/
theorem looks_X {X : Cx} {pins : List (Addr × Obj)} {σ : L2.St} {H : Hp} {s : Shared} {x : V} {u t : Value} (I : Inv X pins σ H s) (rx : RelV x u) (ty : TyX X.K H x t) : PySem.W.Looks (model X.prog X.w) s.heap (typeOf u) t := by
  obtain ⟨P, Z, p, _⟩ := kit_of I rx ty
  exact Z.ty _ _ I.kIn p
def rOwnA (K : PySem.W.Frag) (C : Addr) (sp : Sp) (E : XK) : R2 := fun x y H Q => ∃ a dx fs t, x = .ref a ∧ H a = some (.ins C dx fs) ∧ TyX K H y t ∧ PySem.W.notFirst K C t = true ∧ sp [x, y] H Q E
theorem op_ownA {X : Cx} {CX : CXT} {n : Nat} {C g : Addr} {fd : FuncData} {ps : List Str} {sp : Sp} {E : XK} {op : CmpOp} (hop : ∀ a b, compareOp op a b = richCompare op a b) (hs : PySem.W.findIn X.K (.ref C) (cmpInfo op).2.1 = some (some (.ref g))) (hf : PySem.W.isFn X.K (.ref g) = true) (F : FnOk X.prog X.w X.K X.mg X.base CX n g fd ps sp) (hb : Binds X.K fd ps [])
    (hr : Room n X.A) (hx : Passes CX X E) : OpR X (compareOp op) (rOwnA X.K C sp E) := by
  intro pins s σ H x y v u Q I rx ry h
  obtain ⟨a, dx, fs, t, rfl, ha, ty, hn, q⟩ := h
  cases (show v = Value.ref a from rx)
  obtain ⟨mA, J, _⟩ := ins_get I.hok ha
  obtain ⟨od, J, _⟩ := J.look
  obtain ⟨m, hF⟩ := I.fr
  rw [hop]
  refine PySem.W.cmp_K (op := op) (tb := t) hr.units0 hF I.ok.mod.kin J (looks_X I ry ty) hn hs hf ?_
  refine wpAny_mono (run_fn (us := [.ref a, u]) (vs := [.ref a, y]) F hr hb .nil hx I (.cons rfl (.cons ry .nil)) q) (fun w s' z => ?_) fun _ _ x => x
  obtain ⟨z', H', I', rz, qz⟩ := z
  exact SlX.cmpback rz ⟨z', H', I', rz, qz⟩
section
variable {K : PySem.W.Frag}
/-- == of two words -/
def rEqW (K : PySem.W.Frag) : R2 := fun x y H Q => ∃ (a b : Addr) (w u : List Int), x = .ref a ∧ y = .ref b ∧ Wd K H a w ∧ Wd K H b u ∧ Q (.bl (decide (w = u))) H
theorem op_eqW {X : Cx} {j : Nat} (hr : Room j X.A) : OpR X (compareOp .Eq) (rEqW X.K) := fun pins s σ H x y v u Q I rx ry h => by
  obtain ⟨a, b, w, z, ex, ey, oa, ob', k⟩ := h
  subst ex ey
  refine op_eqD (by have := hr.un; omega) pins s σ H _ _ v u Q I rx ry ⟨.tuple (w.map .int), .tuple (z.map .int), .tup (ob_tup oa) (dpAll_ints w), .tup (ob_tup ob') (dpAll_ints z), shaped_intsT w, shaped_intsT z, ?_⟩
  rw [show PyData.eqv (.tuple (w.map .int)) (.tuple (z.map .int)) = PyData.eqvAll (w.map PyData.int) (z.map PyData.int) from rfl, eqv_ints]
  exact k
end
section
variable {P : Program} {w : World} {K : PySem.W.Frag} {mg : Str → Option Value} {base : Heap}
theorem nf_self {C : Addr} : PySem.W.notFirst K C (.ref C) = true := by
  unfold PySem.W.notFirst
  simp
theorem hor_inj : ∀ {u v : Int} {ps qs rs : List Int}, Fits ps rs → Fits qs rs → hor u ps rs = hor v qs rs → u = v ∧ ps = qs
  | u, v, [], [], [], _, _, h => ⟨h, rfl⟩
  | u, v, p :: ps, q :: qs, r :: rs, f, g, h => by
    obtain ⟨e, e2⟩ := hor_inj (u := u * r + p) (v := v * r + q) f.2 g.2 h
    obtain ⟨p0, p1⟩ := f.1
    obtain ⟨q0, q1⟩ := g.1
    have d1 : (u * r + p) / r = u := by rw [Int.add_comm, Int.add_mul_ediv_right _ _ (by omega), Int.ediv_eq_zero_of_lt p0 p1, Int.zero_add]
    have d2 : (v * r + q) / r = v := by rw [Int.add_comm, Int.add_mul_ediv_right _ _ (by omega), Int.ediv_eq_zero_of_lt q0 q1, Int.zero_add]
    have e3 : u = v := by rw [← d1, ← d2, e]
    subst e3
    exact ⟨rfl, by rw [e2, show p = q by omega]⟩
  | _, _, [], _ :: _, [], _, g, _ => g.elim
  | _, _, _ :: _, _, [], f, _, _ => f.elim
  | _, _, [], _, _ :: _, f, _, _ => f.elim
  | _, _, _ :: _, [], _ :: _, _, g, _ => g.elim
def spMxEq (K : PySem.W.Frag) (C : Addr) : Sp := fun vs H Q _ => ∃ (c d : Addr) (u : Int) (ps rs : List Int), vs = [.ref c, .ref d] ∧ MxAt K C H c u ps rs ∧ MxAt K C H d u ps rs ∧ Q (.bl true) H
abbrev sMxEq : Stmt := inClass (topS 31) 1
theorem scMxEq : FnScope ["self", "other"] ["self", "other"] (defScope sMxEq) := ⟨rfl, rfl, rfl, by decide +kernel, rfl, by decide +kernel, by decide +kernel⟩
theorem ok_MxEq {C f : Addr} {fd : FuncData} (T : Bt K mg) (Y : MxC K mg C) (IC : C8.InsC K C) (F : Fun K "__eq__" "Mixed.__eq__" sMxEq f fd) : FnOk P w K mg base CX0 5 f fd ["self", "other"] (spMxEq K C) := by
  refine F.ok scMxEq (fun vs H Q E h => ?_) (fun cdv A outer s H vs Q E hr h => ?_)
  · obtain ⟨c, d, u, ps, rs, rfl, _⟩ := h
    rfl
  obtain ⟨c, d, u, ps, rs, rfl, hc, hd, k⟩ := h
  refine ⟨_, (pss_one (ps_ret (pe_and (pe_callB (C8.call_isC IC) (by rfl) T.b_isinstance (by decide +kernel) (pa_cons (pv 1) (pa_cons (pe_glob (v := .ref C) (by rfl) Y.g rfl) pa_nil))) (pe_and (pe_cmpR op_eq (pe_fld (pv 0) rfl) (pe_fld (pv 1) rfl) (nomark _)) (pe_and (pe_cmpR (op_eqW hr) (pe_fld (pv 0) rfl) (pe_fld (pv 1) rfl) (nomark _)) (pe_one (pe_cmpR (op_eqW hr) (pe_fld (pv 0) rfl) (pe_fld (pv 1) rfl) (nomark _)))))))), ?_⟩
  obtain ⟨dx, t, r, z, q, hi, ht, hr1, hz, hq⟩ := id hc
  obtain ⟨dx', t', r', z', q', hi', ht', hr2, hz', hq'⟩ := id hd
  refine ⟨_, rfl, d, dx', _, rfl, hi', true, rfl, if_yes rfl ?_⟩
  refine ⟨_, rfl, c, C, dx, _, _, rfl, hi, Y.cl, Y.nW, mx_l1 _ _ _ _, _, rfl, d, C, dx', _, _, rfl, hi', Y.cl, Y.nW, mx_l1 _ _ _ _, rfl, true, by simp, if_yes rfl ?_⟩
  refine ⟨_, rfl, c, C, dx, _, _, rfl, hi, Y.cl, Y.nP, mx_l2 _ _ _ _, _, rfl, d, C, dx', _, _, rfl, hi', Y.cl, Y.nP, mx_l2 _ _ _ _, t, t', ps, ps, rfl, rfl, ht, ht', true, by simp, if_yes rfl ?_⟩
  refine ⟨_, rfl, c, C, dx, _, _, rfl, hi, Y.cl, Y.nR, mx_l3 _ _ _ _, _, rfl, d, C, dx', _, _, rfl, hi', Y.cl, Y.nR, mx_l3 _ _ _ _, r, r', rs, rs, rfl, rfl, hr1, hr2, ?_⟩
  rw [decide_eq_true rfl]
  exact k

/-- == of two of the class -/
structure EqMx (P : Program) (w : World) (K : PySem.W.Frag) (mg : Str → Option Value) (base : Heap) (C : Addr) : Prop where
  ex : ∃ (g : Addr) (fd : FuncData) (ps : List Str), PySem.W.findIn K (.ref C) "__eq__" = some (some (.ref g)) ∧ PySem.W.isFn K (.ref g) = true ∧ FnOk P w K mg base CX0 5 g fd ps (spMxEq K C) ∧ Binds K fd ps []
end
section
variable {X : Cx} {C : Addr} {j : Nat}
theorem op_eqM (c : EqMx X.prog X.w X.K X.mg X.base C) (hr : Room j X.A) (hk : 5 ≤ j) : OpR X (compareOp .Eq) (rOwnA X.K C (spMxEq X.K C) E0) := by
  obtain ⟨g, fd, ps, h1, h2, F, b⟩ := c.ex
  exact op_ownA (fun _ _ => rfl) h1 h2 F b (hr.mono hk) pass0
end
section
variable {P : Program} {w : World} {K : PySem.W.Frag} {mg : Str → Option Value} {base : Heap}
theorem mx_ty {C : Addr} {H : Hp} {c : Addr} {u : Int} {ps rs : List Int} (I : C8.InsC K C) (h : MxAt K C H c u ps rs) : TyX K H (.ref c) (.ref C) := by
  obtain ⟨dx, t, r, z, q, hi, _⟩ := h
  exact .base (.ins hi I.cl I.ha I.hn I.htk I.hm)
theorem mEq {C : Addr} {H : Hp} {c d : Addr} {u : Int} {ps rs : List Int} {Q : VK} (I : C8.InsC K C) (hc : MxAt K C H c u ps rs) (hd : MxAt K C H d u ps rs) (h : Q (.bl true) H) : rOwnA K C (spMxEq K C) E0 (.ref c) (.ref d) H Q := by
  obtain ⟨dx, t, r, z, q, hi, _⟩ := id hc
  exact ⟨c, dx, _, .ref C, rfl, hi, mx_ty I hd, nf_self, c, d, u, ps, rs, rfl, hc, hd, h⟩
end
end My

namespace My
open PySem PySem.Spec PyProof.Rows L2
section
variable {P : Program} {w : World} {K : PySem.W.Frag} {mg : Str → Option Value} {base : Heap}
def spRange (K : PySem.W.Frag) : Sp := fun vs H Q _ => ∃ (s : Addr) (lo hi : Int), vs = [.ref s, .int lo, .int hi] ∧ Sto K H s ∧ 0 ≤ lo ∧ hi < 2 ^ 100 ∧ ∀ r H', lo ≤ r → (r ≤ hi ∨ (hi ≤ lo ∧ r = lo)) → (hi ≤ lo → r = lo) → Kp s H H' → Sto K H' s → Q (.int r) H'
abbrev sRange : Stmt := topS 46
theorem scRange : FnScope ["_law_store_here", "_law_low", "_law_high", "_law_spot"] ["_law_store_here", "_law_low", "_law_high"] (defScope sRange) := ⟨rfl, rfl, rfl, by decide +kernel, rfl, by decide +kernel, by decide +kernel⟩
theorem k_Range (T : Bt K mg) (D : Dfn K mg "_law_range" sRange ["_law_store_here", "_law_low", "_law_high"]) (d__law_take : Kn P w K mg base 2 "_law_take" ["_law_store_here", "_law_many"] (spTake K)) : Kn P w K mg base 3 "_law_range" ["_law_store_here", "_law_low", "_law_high"] (spRange K) := by
  refine Kn.mk' D scRange (fun vs H Q E h => ?_) (fun f cdv A outer s H vs Q E hr h => ?_)
  · obtain ⟨s, lo, hi, rfl, _⟩ := h
    rfl
  obtain ⟨s, lo, hi, rfl, hS, l0, h1, k⟩ := h
  refine ⟨_, (pss_cons (ps_set (i := 3) scRange.nd rfl (.inl rfl) (pe_kn d__law_take hr (by rfl) (pa_cons (pv 0) (pa_cons pe_int pa_nil))))
      (pss_cons (ps_if (PW.pt (pw_or (pt_cmpR op_eq (pv 3) pe_int (nomark _)) (pw_or1 (pt_cmpR op_le (pv 2) (pv 1) (nomark _))))) (pss_one (ps_ret (pv 1))) pss_nil)
      (pss_cons (ps_if (pt_cmpR op_eq (pv 3) pe_int (nomark _)) (pss_one (ps_ret (pv 2))) pss_nil)
      (pss_one (ps_ret (pe_op op_add (pv 1) (pe_kn d__law_take hr (by rfl) (pa_cons (pv 0) (pa_cons (pe_op op_add (pe_op op_sub (pv 2) (pv 1)) pe_int) pa_nil))))))))), ?_⟩
  refine ⟨_, rfl, s, 6, rfl, hS, by omega, fun i H1 i0 i1 kp st => ?_⟩
  refine ⟨_, rfl, rfl, _, rfl, ite2 (fun h => ?_) (fun h => ?_)⟩
  · exact ⟨_, rfl, k lo H1 (Int.le_refl _) (by omega) (fun _ => rfl) kp st⟩
  refine ⟨_, rfl, _, rfl, _, _, rfl, rfl, _, rfl, ite2 (fun h2 => ?_) (fun h2 => ?_)⟩
  · exact ⟨_, rfl, k lo H1 (Int.le_refl _) (.inr ⟨of_decide_eq_true h2, rfl⟩) (fun _ => rfl) kp st⟩
  have h2 : ¬ hi ≤ lo := fun z => h2 (decide_eq_true z)
  refine ⟨_, rfl, rfl, _, rfl, ite2 (fun h => ?_) (fun h => ?_)⟩
  · exact ⟨_, rfl, k hi H1 (by omega) (by omega) (fun z => absurd z h2) kp st⟩
  refine ⟨_, rfl, _, rfl, _, rfl, _, rfl, _, _, rfl, rfl, _, _, rfl, rfl, s, _, rfl, st, by omega, fun j H2 j0 j1 kp2 st2 => ⟨_, _, rfl, rfl, ?_⟩⟩
  exact k (lo + j) H2 (by omega) (by omega) (fun z => absurd z h2) (kp.trans kp2) st2
def spLRx (K : PySem.W.Frag) : Sp := fun vs H Q _ => ∃ (s : Addr), vs = [.ref s] ∧ Sto K H s ∧ ∀ a rs H', Wd K H' a rs → Rdx rs → Kp s H H' → Sto K H' s → Q (.ref a) H'
def spPof (K : PySem.W.Frag) : Sp := fun vs H Q _ => ∃ (s b : Addr) (rs : List Int), vs = [.ref s, .ref b] ∧ Sto K H s ∧ Wd K H b rs ∧ Rdx rs ∧ ∀ a ps H', Wd K H' a ps → Fits ps rs → Kp s H H' → Sto K H' s → Q (.ref a) H'
theorem Wd.kp {H H' : Hp} {a s : Addr} {l : List Int} (h : Wd K H a l) (e : Kp s H H') (st : Sto K H s) : Wd K H' a l := by
  obtain ⟨ys, hy⟩ := st.at
  exact ob_kp e hy (fun _ z => by cases z) h
theorem Fits.snoc : ∀ {ps rs : List Int} {p r : Int}, Fits ps rs → 0 ≤ p → p < r → Fits (ps ++ [p]) (rs ++ [r])
  | [], [], _, _, _, h0, h1 => ⟨⟨h0, h1⟩, True.intro⟩
  | _ :: _, _ :: _, _, _, h, h0, h1 => ⟨h.1, h.2.snoc h0 h1⟩
  | [], _ :: _, _, _, h, _, _ => h.elim
  | _ :: _, [], _, _, h, _, _ => h.elim
abbrev sLRx : Stmt := topS 62
theorem scLRx : FnScope ["_law_store_here", "_law_many", "_law_k"] ["_law_store_here"] (defScope sLRx) := ⟨rfl, rfl, rfl, by decide +kernel, rfl, by decide +kernel, by decide +kernel⟩
theorem blk_scLRx_0 : BlkOk ["_law_store_here", "_law_many", "_law_k"] (defScope sLRx) { kind := .function, names := [(".0", .local), ("_law_k", .local), ("_law_pick", .globalImplicit), ("_law_take", .globalImplicit), ("_law_store_here", .free)], isGenerator := false, isCoroutine := false, more := [] } [("_law_k", 2)] := ⟨rfl, by decide +kernel, by decide +kernel, by decide +kernel, by decide +kernel⟩
theorem k_LRx (T : Bt K mg) (D : Dfn K mg "_law_radices" sLRx ["_law_store_here"]) (d__law_take : Kn P w K mg base 2 "_law_take" ["_law_store_here", "_law_many"] (spTake K)) (d__law_pick : Kn P w K mg base 3 "_law_pick" ["_law_store_here", "_law_row"] (spPick K)) : Kn P w K mg base 4 "_law_radices" ["_law_store_here"] (spLRx K) := by
  refine Kn.mk' D scLRx (fun vs H Q E h => ?_) (fun f cdv A outer s H vs Q E hr h => ?_)
  · obtain ⟨s, rfl, _⟩ := h
    rfl
  obtain ⟨s, rfl, hS, k⟩ := h
  refine ⟨_, (pss_cons (ps_set (i := 1) scLRx.nd rfl (.inl rfl) (pe_kn d__law_take hr (by rfl) (pa_cons (pv 0) (pa_cons pe_int pa_nil))))
      (pss_one (ps_ret (pe_fr (pe_callTy call_tuple_of (by rfl) T.b_tuple (by decide +kernel) (pa_cons (pe_fr (pe_lc (own := [("_law_k", 2)]) (g := gName 2) (te := (tCall (spPick K) [] E0 (tCons (tVar 0) (tCons (tLs K (tCons (tC (.int 2)) (tCons (tC (.int 1000)) (tCons (tC (.int 24)) (tCons (tC (.int 60)) (tCons (tOp (rI0 fun i j => V.int (i + j)) (tC (.int 2)) (tCall (spTake K) [] E0 (tCons (tVar 0) (tCons (tC (.int 999)) L2.tNil)))) L2.tNil)))))) L2.tNil)))) rfl scLRx.nd (pi_range1 (by rfl) T.b_range (pa_cons (pv 1) pa_nil)) blk_scLRx_0 (fun _ _ _ _ _ => by exact pg_name (i := 2) scLRx.nd rfl (.inl rfl)) (fun _ _ _ _ _ => pts_nil) (fun _ _ _ _ _ => by exact (pe_kn d__law_pick hr (by rfl) (pa_cons (pv 0) (pa_cons (pe_ls (pa_cons pe_int (pa_cons pe_int (pa_cons pe_int (pa_cons pe_int (pa_cons (pe_op op_add pe_int (pe_kn d__law_take hr (by rfl) (pa_cons (pv 0) (pa_cons pe_int pa_nil)))) pa_nil)))))) pa_nil)))))) pa_nil)))))), ?_⟩
  refine ⟨_, rfl, s, 5, rfl, hS, by decide, fun n H1 n0 n1 kp1 st1 => ?_⟩
  refine ⟨_, rfl, _, rfl, by omega, by omega, fun D hD => lc_range (lo := 0) (n := n.toNat) (fun i H' => ∃ ws : List Int, ws.length = i ∧ (∀ x ∈ ws, 2 ≤ x ∧ x ≤ 1000) ∧ H' D = some (.lst (ws.map V.int)) ∧ Kp s H1 H' ∧ Sto K H' s) ⟨[], rfl, (fun x hx => by cases hx), upd_same, (st1.mut hD (Kp.refl _ _) st1).2, (st1.mut hD (Kp.refl _ _) st1).1⟩ ?_ ?_⟩
  · rintro i H' hi ⟨ws, lw', w01, e1, kp, st⟩
    refine ⟨rfl, ?_⟩
    simp only [tYes, if_true]
    have nD := st1.ne hD
    refine ⟨_, rfl, _, rfl, s, 999, rfl, st, by decide, fun m H4 m0 m1 kp4 st4 => ⟨_, _, rfl, rfl, sz2 (by show 5 ≤ 100; decide), fun p hp kp' => ?_⟩⟩
    have s5 := Same.new hp (.lst [V.int 2, .int 1000, .int 24, .int 60, .int (2 + m)])
    refine ⟨s, p, _, rfl, st4.same s5, upd_same, Ne.symm (st4.ne hp), by show 0 < 5; decide, by show 5 < 1000; decide, fun v H6 hv kp6 st6 => ?_⟩
    have kpA := (kp4.trans (Kp.same s5)).trans kp6
    have fin : ∀ q : Int, 2 ≤ q → q ≤ 1000 → ∃ acc, H6 D = some (HO.lst acc) ∧ acc.length < sizeLine ∧ ∃ ws : List Int, ws.length = i + 1 ∧ (∀ x ∈ ws, 2 ≤ x ∧ x ≤ 1000) ∧ upd H6 D (HO.lst (acc ++ [V.int q])) D = some (HO.lst (ws.map V.int)) ∧ Kp s H1 (upd H6 D (HO.lst (acc ++ [V.int q]))) ∧ Sto K (upd H6 D (HO.lst (acc ++ [V.int q]))) s := fun q q0 q1 => by
      refine ⟨_, kpA _ _ nD e1, by rw [List.length_map, sizeLine_eq]; omega, ws ++ [q], by rw [List.length_append, lw']; rfl, fun x hx => ?_, ?_, ?_⟩
      · rcases List.mem_append.mp hx with z | z
        · exact w01 x z
        · rw [List.mem_singleton] at z
          omega
      · rw [upd_same, List.map_append]
        rfl
      · obtain ⟨m1, m2⟩ := st1.mut (o := .lst (ws.map V.int ++ [.int q])) hD (kp.trans kpA) st6
        exact ⟨m2, m1⟩
    simp only [List.mem_cons, List.not_mem_nil, or_false] at hv
    rcases hv with rfl | rfl | rfl | rfl | rfl
    · exact fin 2 (by omega) (by omega)
    · exact fin 1000 (by omega) (by omega)
    · exact fin 24 (by omega) (by omega)
    · exact fin 60 (by omega) (by omega)
    · exact fin _ (by omega) (by omega)
  · rintro H3 ⟨ws, lw', w01, e1, kp, st⟩ fr
    refine ⟨D, _, rfl, .inl ⟨.of e1, fun a ha fr6 => ?_⟩⟩
    have ka : K.lookup a = none := fr6 a (by rw [upd_same]; simp)
    have s3 := Same.new ha (.tup (ws.map V.int))
    exact k a ws _ ((ob_none ka).trans upd_same) ⟨by omega, w01⟩ ((kp1.trans kp).trans (Kp.same s3)) (st.same s3)

abbrev sPof : Stmt := topS 69
theorem scPof : FnScope ["_law_store_here", "_law_sizes", "_law_size"] ["_law_store_here", "_law_sizes"] (defScope sPof) := ⟨rfl, rfl, rfl, by decide +kernel, rfl, by decide +kernel, by decide +kernel⟩
theorem blk_scPof_0 : BlkOk ["_law_store_here", "_law_sizes", "_law_size"] (defScope sPof) { kind := .function, names := [(".0", .local), ("_law_size", .local), ("_law_range", .globalImplicit), ("_law_store_here", .free)], isGenerator := false, isCoroutine := false, more := [] } [("_law_size", 2)] := ⟨rfl, by decide +kernel, by decide +kernel, by decide +kernel, by decide +kernel⟩
theorem k_Pof (T : Bt K mg) (D : Dfn K mg "_law_parts_of" sPof ["_law_store_here", "_law_sizes"]) (d__law_range : Kn P w K mg base 3 "_law_range" ["_law_store_here", "_law_low", "_law_high"] (spRange K)) : Kn P w K mg base 4 "_law_parts_of" ["_law_store_here", "_law_sizes"] (spPof K) := by
  refine Kn.mk' D scPof (fun vs H Q E h => ?_) (fun f cdv A outer s H vs Q E hr h => ?_)
  · obtain ⟨s, b, rs, rfl, _⟩ := h
    rfl
  obtain ⟨s, b, rs, rfl, hS, hb, rx, k⟩ := h
  refine ⟨_, (pss_one (ps_ret (pe_fr (pe_callTy call_tuple_of (by rfl) T.b_tuple (by decide +kernel) (pa_cons (pe_fr (pe_lc (own := [("_law_size", 2)]) (g := gName 2) (te := (tCall (spRange K) [] E0 (tCons (tVar 0) (tCons (tC (.int 0)) (tCons (tOp (rI0 fun i j => V.int (i - j)) (tVar 2) (tC (.int 1))) L2.tNil))))) rfl scPof.nd (pi_tup (pv 1)) blk_scPof_0 (fun _ _ _ _ _ => by exact pg_name (i := 2) scPof.nd rfl (.inl rfl)) (fun _ _ _ _ _ => pts_nil) (fun _ _ _ _ _ => by exact (pe_kn d__law_range hr (by rfl) (pa_cons (pv 0) (pa_cons pe_int (pa_cons (pe_op op_sub (pv 2) pe_int) pa_nil))))))) pa_nil))))), ?_⟩
  have h4 := rx.1
  refine ⟨_, rfl, b, rfl, ⟨_, ob_tup hb⟩, fun D hD => lc_tup (xs := rs.map V.int) (fun i H' => ∃ ws : List Int, Fits ws (rs.take i) ∧ H' D = some (.lst (ws.map V.int)) ∧ Kp s H H' ∧ Sto K H' s) ⟨[], True.intro, upd_same, (hS.mut hD (Kp.refl _ _) hS).2, (hS.mut hD (Kp.refl _ _) hS).1⟩ (fun i H' _ h => by obtain ⟨_, _, _, kp, _⟩ := h; exact ob_tup (hb.kp kp hS)) ?_ ?_⟩
  · rintro i x H' hi ⟨ws, hf, e1, kp, st⟩
    refine ⟨rfl, ?_⟩
    simp only [tYes, if_true]
    rw [List.getElem?_map] at hi
    obtain ⟨r, hr', rfl⟩ := Option.map_eq_some_iff.mp hi
    have nb := rx.2 r (List.mem_of_getElem? hr')
    have nD := hS.ne hD
    refine ⟨_, rfl, _, rfl, _, _, rfl, rfl, s, 0, r - 1, rfl, st, by omega, by omega, fun q H4 q0 q1 _ kp4 st4 => ?_⟩
    refine ⟨_, kp4 _ _ nD e1, by rw [List.length_map, hf.len, List.length_take, sizeLine_eq]; omega, ws ++ [q], ?_, ?_, ?_⟩
    · rw [List.take_succ, hr']
      exact hf.snoc q0 (by omega)
    · rw [upd_same, List.map_append]
      rfl
    · obtain ⟨m1, m2⟩ := hS.mut (o := .lst (ws.map V.int ++ [.int q])) hD (kp.trans kp4) st4
      exact ⟨m2, m1⟩
  · rintro H3 ⟨ws, hf, e1, kp, st⟩ fr
    rw [List.length_map, List.take_length] at hf
    refine ⟨D, _, rfl, .inl ⟨.of e1, fun a ha fr6 => ?_⟩⟩
    have ka : K.lookup a = none := fr6 a (by rw [upd_same]; simp)
    have s3 := Same.new ha (.tup (ws.map V.int))
    exact k a ws _ ((ob_none ka).trans upd_same) hf (kp.trans (Kp.same s3)) (st.same s3)

end
end My

namespace My
open PySem PySem.Spec PyProof.Rows L2
section
variable {P : Program} {w : World} {K : PySem.W.Frag} {mg : Str → Option Value} {base : Heap}
def SbR (K : PySem.W.Frag) (F : Addr → Prop) (H : Hp) (v : V) : Prop := ∀ H', Kx F H H' → RdJ K H' v false
theorem SbR.kx {F : Addr → Prop} {H H' : Hp} {v : V} (h : SbR K F H v) (e : Kx F H H') : SbR K F H' v := fun G g => h G (e.trans g)
theorem SbR.now {F : Addr → Prop} {H : Hp} {v : V} (h : SbR K F H v) : RdJ K H v false := h H (Kx.refl F H)
theorem sbR_ty {F : Addr → Prop} {H : Hp} {v : V} {t : String} (h : ∀ G, Kx F H G → tyN K G v = some t) (n : isB t "tuple" = false) : SbR K F H v := fun G g => .inl ⟨_, Kd.ty (h G g), n, rfl⟩
theorem sbR_lst {F : Addr → Prop} {H : Hp} {a : Addr} {xs : List V} (n : ¬F a) (h : ob K H a = some (.lst xs)) : SbR K F H (.ref a) := sbR_ty (t := "list") (fun G g => by rw [tyN_ref, ob_kx g n (fun _ z => by cases z) h]; rfl) rfl
theorem sbR_dK {F : Addr → Prop} {H : Hp} {a : Addr} {ks : List (Key × V)} (n : ¬F a) (h : ob K H a = some (.dK ks)) : SbR K F H (.ref a) := sbR_ty (t := "dict") (fun G g => by rw [tyN_ref, ob_kx g n (fun _ z => by cases z) h]; rfl) rfl
theorem sbR_len {F : Addr → Prop} {H : Hp} {a : Addr} {xs : List V} (n : ¬F a) (h : ob K H a = some (.tup xs)) (l : 4 < xs.length) : SbR K F H (.ref a) := fun G g => .inr ⟨a, xs, rfl, ob_kx g n (fun _ z => by cases z) h, .inl ⟨l, rfl⟩⟩
theorem sbR_item {F : Addr → Prop} {H : Hp} {a : Addr} {us ws : List Int} {v : V} (n : ¬F a) (h : ob K H a = some (.tup (us.map V.int ++ v :: ws.map V.int))) (hv : SbI K F 2 1000 H v) (l : us.length + ws.length < 4) : SbR K F H (.ref a) := fun G g => by
  refine .inr ⟨a, _, rfl, ob_kx g n (fun _ z => by cases z) h, .inr ⟨by simp only [List.length_append, List.length_map, List.length_cons, List.length_nil]; omega, fun x hx => ?_, ?_⟩⟩
  · simp only [List.mem_append, List.mem_map, List.mem_cons] at hx
    rcases hx with ⟨m, _, rfl⟩ | rfl | ⟨m, _, rfl⟩
    · exact Wh.int m
    · exact (hv G g).1
    · exact Wh.int m
  · refine (List.all_eq_false.mpr ⟨v, by simp, ?_⟩).symm
    rw [(hv G g).2]
    exact Bool.false_ne_true
def spWith (K : PySem.W.Frag) : Sp := fun vs H Q _ => ∃ (s a : Addr) (xs : List V) (y : V), vs = [.ref s, .ref a, y] ∧ Sto K H s ∧ H a = some (.lst xs) ∧ K.lookup a = none ∧ a ≠ s ∧ 1 ≤ xs.length ∧ xs.length ≤ 1000 ∧ ∀ c j H', j < xs.length → Kp s H H' → Sto K H' s → H' c = some (.lst (xs.take j ++ y :: xs.drop (j + 1))) → H c = none → K.lookup c = none → Q (.ref c) H'
abbrev sWith : Stmt := topS 63
theorem scWith : FnScope ["_law_store_here", "_law_row", "_law_item", "_law_spot"] ["_law_store_here", "_law_row", "_law_item"] (defScope sWith) := ⟨rfl, rfl, rfl, by decide +kernel, rfl, by decide +kernel, by decide +kernel⟩
theorem k_With (T : Bt K mg) (D : Dfn K mg "_law_with" sWith ["_law_store_here", "_law_row", "_law_item"]) (d__law_take : Kn P w K mg base 2 "_law_take" ["_law_store_here", "_law_many"] (spTake K)) : Kn P w K mg base 3 "_law_with" ["_law_store_here", "_law_row", "_law_item"] (spWith K) := by
  refine Kn.mk' D scWith (fun vs H Q E h => ?_) (fun f cdv A outer s H vs Q E hr h => ?_)
  · obtain ⟨s, a, xs, y, rfl, _⟩ := h
    rfl
  obtain ⟨s, a, xs, y, rfl, hS, ha, ka, na, l1, l2, k⟩ := h
  refine ⟨_, (pss_cons (ps_set (i := 3) scWith.nd rfl (.inl rfl) (pe_kn d__law_take hr (by rfl) (pa_cons (pv 0) (pa_cons (pe_callB call_lenA (by rfl) T.b_len PySem.boot_len (pa_cons (pv 1) pa_nil)) pa_nil))))
      (pss_one (ps_ret (pe_fr (pe_op op_cat (pe_fr (pe_op op_cat (pe_fr (pe_slice sl_list (pv 1) po_none (po_some (pv 3)))) (pe_ls (pa_cons (pv 2) pa_nil)))) (pe_fr (pe_slice sl_list (pv 1) (po_some (pe_op op_add (pv 3) pe_int)) po_none))))))), ?_⟩
  have oa := (ob_none ka).trans ha
  refine ⟨_, rfl, _, rfl, a, rfl, _, itsO_ofL oa, s, _, rfl, hS, by omega, fun i H1 i0 i1 kp st => ?_⟩
  obtain ⟨j, rfl⟩ : ∃ j : Nat, i = (j : Int) := ⟨i.toNat, by omega⟩
  have hj : j < xs.length := by omega
  have ha1 := kp _ _ na ha
  refine ⟨_, rfl, _, rfl, _, rfl, a, xs, rfl, .of ha1, ?_⟩
  rw [cut_to xs j (by omega)]
  refine fun p1 hp1 fr1 => ?_
  have s1 := Same.new hp1 (.lst (xs.take j))
  have c1 : upd H1 p1 (.lst (xs.take j)) p1 = some (.lst (xs.take j)) := upd_same
  have ha2 := s1 _ _ ha1
  generalize upd H1 p1 (.lst (xs.take j)) = H2 at s1 c1 ha2 ⊢
  refine ⟨_, rfl, sz2 (by show 1 ≤ 100; decide), fun p2 hp2 kp2 => ?_⟩
  have s2 := Same.new hp2 (.lst [y])
  have c2 : upd H2 p2 (.lst [y]) p2 = some (.lst [y]) := upd_same
  have c1 := s2 _ _ c1
  have ha3 := s2 _ _ ha2
  generalize upd H2 p2 (.lst [y]) = H3 at s2 c1 c2 ha3 ⊢
  refine ⟨p1, p2, _, _, rfl, rfl, c1, c2, by rw [List.length_take, List.length_singleton, sizeLine_eq]; omega, fun p3 hp3 fr3 => ?_⟩
  have s3 := Same.new hp3 (.lst (xs.take j ++ [y]))
  have c3 : upd H3 p3 (.lst (xs.take j ++ [y])) p3 = some (.lst (xs.take j ++ [y])) := upd_same
  have ha4 := s3 _ _ ha3
  generalize upd H3 p3 (.lst (xs.take j ++ [y])) = H4 at s3 c3 ha4 ⊢
  have ec : cutV xs (some ((j : Int) + 1)) none = xs.drop (j + 1) := by
    rw [show ((j : Int) + 1) = ((j + 1 : Nat) : Int) by omega]
    exact cut_from xs (j + 1) (by omega)
  refine ⟨_, rfl, _, rfl, _, _, rfl, rfl, _, rfl, a, xs, rfl, .of ha4, fun p4 hp4 fr4 => ?_⟩
  have s4 := Same.new hp4 (.lst (cutV xs (some ((j : Int) + 1)) none))
  have c4 : upd H4 p4 (.lst (cutV xs (some ((j : Int) + 1)) none)) p4 = some (.lst (xs.drop (j + 1))) := by rw [ec]; exact upd_same
  have c3 := s4 _ _ c3
  have hp4' : upd H4 p4 (.lst (cutV xs (some ((j : Int) + 1)) none)) = upd H4 p4 (.lst (cutV xs (some ((fun i j => i + j) (j : Int) 1)) none)) := rfl
  refine ⟨p3, p4, _, _, rfl, rfl, c3, c4, by rw [List.length_append, List.length_take, List.length_singleton, List.length_drop, sizeLine_eq]; omega, fun p5 hp5 fr5 => ?_⟩
  have s5 := Same.new hp5 (.lst (xs.take j ++ [y] ++ xs.drop (j + 1)))
  have sA := s1.trans (s2.trans (s3.trans (s4.trans s5)))
  have sB := s1.trans (s2.trans (s3.trans s4))
  exact k p5 j _ hj (kp.trans (Kp.same sA)) (st.same sA) (by rw [upd_same, List.append_assoc]; rfl) (Kp.free (kp.trans (Kp.same sB)) (st.same sB) hp5) (fr5 p5 (by rw [upd_same]; simp))
theorem shp_tup {N : Addr → Prop} {p : Addr} {H : Hp} {xs : List V} (o : ob K H p = some (.tup xs)) (_ : N p) (l : xs.length ≤ 1000) (h : ∀ x ∈ xs, scv x = true) : Shp K N H 2 (.ref p) := Shp.sq (.inl o) l fun x hx => Shp.sc (h x hx)
theorem shp_lst {N : Addr → Prop} {p : Addr} {H : Hp} {xs : List V} (o : ob K H p = some (.lst xs)) (n : N p) (l : xs.length ≤ 1000) (h : ∀ x ∈ xs, scv x = true) : Shp K N H 2 (.ref p) := Shp.sq (.inr ⟨n, o⟩) l fun x hx => Shp.sc (h x hx)
theorem shp_dn {N : Addr → Prop} {p : Addr} {H : Hp} (o : ob K H p = some (.dK [])) (n : N p) : Shp K N H 2 (.ref p) := Shp.dk n o (Nat.zero_le _) List.nodup_nil fun p hp => nomatch hp
theorem shp_sc {N : Addr → Prop} {H : Hp} {v : V} (h : scv v = true) : Shp K N H 2 v := Shp.sc h
theorem sc_ints {ns : List Int} : ∀ x ∈ ns.map V.int, scv x = true := fun x hx => by
  obtain ⟨u, _, rfl⟩ := List.mem_map.mp hx
  rfl
def spBW (K : PySem.W.Frag) : Sp := fun vs H Q _ => ∃ s : Addr, vs = [.ref s] ∧ Sto K H s ∧ ∀ v H', (tyN K H' v).isSome → wholeV v = false → Shp K (fun a => H a = none) H' 2 v → Kp s H H' → Sto K H' s → Q v H'
abbrev sBW : Stmt := topS 64
theorem scBW : FnScope ["_law_store_here"] ["_law_store_here"] (defScope sBW) := ⟨rfl, rfl, rfl, by decide +kernel, rfl, by decide +kernel, by decide +kernel⟩
theorem k_BW (T : Bt K mg) (D : Dfn K mg "_law_bad_whole" sBW ["_law_store_here"]) (d__law_pick : Kn P w K mg base 3 "_law_pick" ["_law_store_here", "_law_row"] (spPick K)) : Kn P w K mg base 4 "_law_bad_whole" ["_law_store_here"] (spBW K) := by
  refine Kn.mk' D scBW (fun vs H Q E h => ?_) (fun f cdv A outer s H vs Q E hr h => ?_)
  · obtain ⟨s, rfl, _⟩ := h
    rfl
  obtain ⟨s, rfl, hS, k⟩ := h
  refine ⟨_, (pss_one (ps_ret (pe_kn d__law_pick hr (by rfl) (pa_cons (pv 0) (pa_cons (pe_ls (pa_cons pe_non (pa_cons pe_bl (pa_cons pe_bl (pa_cons pe_str (pa_cons pe_str (pa_cons (pe_tp (pa_cons pe_int (pa_cons pe_int pa_nil))) (pa_cons (pe_tp (pa_cons pe_int pa_nil)) (pa_cons (pe_ls (pa_cons pe_int pa_nil)) (pa_cons pe_dn pa_nil)))))))))) pa_nil))))), ?_⟩
  refine ⟨_, rfl, sz2 (by show 2 ≤ 100; decide), fun p1 hp1 kp1 => ?_⟩
  have n1 : H p1 = none := hp1
  have s1 := Same.new hp1 (.tup [.int 1, .int 1])
  have o1 := ob_new (H := H) (o := .tup [.int 1, .int 1]) kp1
  have st1 := hS.same s1
  generalize upd H p1 (.tup [.int 1, .int 1]) = H1 at s1 o1 st1 ⊢
  refine ⟨sz2 (by show 1 ≤ 100; decide), fun p2 hp2 kp2 => ?_⟩
  have n2 : H p2 = none := s1.free hp2
  have s2 := Same.new hp2 (.tup [.int 1])
  have o2 := ob_new (H := H1) (o := .tup [.int 1]) kp2
  have st2 := st1.same s2
  have o1 := ob_same s2 o1
  generalize upd H1 p2 (.tup [.int 1]) = H2 at s2 o1 o2 st2 ⊢
  refine ⟨sz2 (by show 1 ≤ 100; decide), fun p3 hp3 kp3 => ?_⟩
  have n3 : H p3 = none := (s1.trans s2).free hp3
  have s3 := Same.new hp3 (.lst [.int 1])
  have o3 := ob_new (H := H2) (o := .lst [.int 1]) kp3
  have st3 := st2.same s3
  have o1 := ob_same s3 o1
  have o2 := ob_same s3 o2
  generalize upd H2 p3 (.lst [.int 1]) = H3 at s3 o1 o2 o3 st3 ⊢
  refine fun p4 hp4 kp4 => ?_
  have n4 : H p4 = none := (s1.trans (s2.trans s3)).free hp4
  have s4 := Same.new hp4 (.dK [])
  have o4 := ob_new (H := H3) (o := .dK []) kp4
  have st4 := st3.same s4
  have o1 := ob_same s4 o1
  have o2 := ob_same s4 o2
  have o3 := ob_same s4 o3
  generalize upd H3 p4 (.dK []) = H4 at s4 o1 o2 o3 o4 st4 ⊢
  refine ⟨sz2 (by show 9 ≤ 100; decide), fun p5 hp5 kp5 => ?_⟩
  have s5 := Same.new hp5 (.lst [.non, .bl true, .bl false, .str "1", .str "", .ref p1, .ref p2, .ref p3, .ref p4])
  have st5 := st4.same s5
  have sA := s1.trans (s2.trans (s3.trans (s4.trans s5)))
  refine ⟨s, p5, _, rfl, st5, upd_same, Ne.symm (st4.ne hp5), by show 0 < 9; decide, by show 9 < 1000; decide, fun v H6 hv kp6 st6 => ?_⟩
  have kpA := (Kp.same sA).trans kp6
  have fin : ∀ (p : Addr) (z : HO), ob K H4 p = some z → H p = none → (tyO (some z)).isSome → Shp K (fun a => H a = none) H4 2 (.ref p) → Q (.ref p) H6 := fun p z o n ty sh => by
    have o6 := ob_kp2 kp6 (hS.ne0 n) (ob_same s5 o)
    exact k (.ref p) H6 (by rw [tyN_ref, o6]; exact ty) rfl ((sh.same s5).kp kp6 st5 fun a ha => hS.ne0 ha) kpA st6
  simp only [List.mem_cons, List.not_mem_nil, or_false] at hv
  rcases hv with rfl | rfl | rfl | rfl | rfl | rfl | rfl | rfl | rfl
  · exact k _ H6 rfl rfl (shp_sc rfl) kpA st6
  · exact k _ H6 rfl rfl (shp_sc rfl) kpA st6
  · exact k _ H6 rfl rfl (shp_sc rfl) kpA st6
  · exact k _ H6 rfl rfl (shp_sc rfl) kpA st6
  · exact k _ H6 rfl rfl (shp_sc rfl) kpA st6
  · exact fin p1 _ o1 n1 rfl (shp_tup o1 n1 (by decide) (fun x hx => by simp only [List.mem_cons, List.not_mem_nil, or_false] at hx; rcases hx with rfl | rfl <;> rfl))
  · exact fin p2 _ o2 n2 rfl (shp_tup o2 n2 (by decide) (fun x hx => by simp only [List.mem_cons, List.not_mem_nil, or_false] at hx; rw [hx]; rfl))
  · exact fin p3 _ o3 n3 rfl (shp_lst o3 n3 (by decide) (fun x hx => by simp only [List.mem_cons, List.not_mem_nil, or_false] at hx; rw [hx]; rfl))
  · exact fin p4 _ o4 n4 rfl (shp_dn o4 n4)

theorem inB_out {a b u : Int} (h : u < a ∨ b < u) : inB a b (.int u) = false := by
  show (decide (a ≤ u) && decide (u ≤ b)) = false
  rcases h with h | h
  · rw [decide_eq_false (by omega)]
    rfl
  · rw [decide_eq_false (show ¬ u ≤ b by omega), Bool.and_false]
/-- a value that is no integer from lo to hi -/
def spBy (K : PySem.W.Frag) : Sp := fun vs H Q _ => ∃ (s : Addr) (lo hi : Int), vs = [.ref s, .int lo, .int hi] ∧ Sto K H s ∧ 0 ≤ lo ∧ lo ≤ hi ∧ 1 ≤ hi ∧ hi ≤ 1000 ∧ ∀ v H', SbI K (Fz s s) lo hi H' v → Kp s H H' → Sto K H' s → Q v H'
abbrev sBy : Stmt := topS 65
theorem scBy : FnScope ["_law_store_here", "_law_low", "_law_high"] ["_law_store_here", "_law_low", "_law_high"] (defScope sBy) := ⟨rfl, rfl, rfl, by decide +kernel, rfl, by decide +kernel, by decide +kernel⟩
theorem k_By (T : Bt K mg) (D : Dfn K mg "_law_beyond" sBy ["_law_store_here", "_law_low", "_law_high"]) (d__law_take : Kn P w K mg base 2 "_law_take" ["_law_store_here", "_law_many"] (spTake K)) (d__law_pick : Kn P w K mg base 3 "_law_pick" ["_law_store_here", "_law_row"] (spPick K)) (d__law_bad_whole : Kn P w K mg base 4 "_law_bad_whole" ["_law_store_here"] (spBW K)) : Kn P w K mg base 5 "_law_beyond" ["_law_store_here", "_law_low", "_law_high"] (spBy K) := by
  refine Kn.mk' D scBy (fun vs H Q E h => ?_) (fun f cdv A outer s H vs Q E hr h => ?_)
  · obtain ⟨s, lo, hi, rfl, _⟩ := h
    rfl
  obtain ⟨s, lo, hi, rfl, hS, h0, h1, h2, h3, k⟩ := h
  refine ⟨_, (pss_cons (ps_if (pt_cmpR op_eq (pe_kn d__law_take hr (by rfl) (pa_cons (pv 0) (pa_cons pe_int pa_nil))) pe_int (nomark _)) (pss_one (ps_ret (pe_kn d__law_bad_whole hr (by rfl) (pa_cons (pv 0) pa_nil)))) pss_nil)
      (pss_one (ps_ret (pe_kn d__law_pick hr (by rfl) (pa_cons (pv 0) (pa_cons (pe_ls (pa_cons (pe_op op_sub (pv 1) pe_int) (pa_cons (pe_op op_add (pv 2) pe_int) (pa_cons (pe_op op_sub (pe_un un_neg pe_int) (pv 2)) (pa_cons (pe_op op_add (pe_op op_mul pe_int (pv 2)) pe_int) (pa_cons (pe_un un_neg (pe_op op_pow pe_int pe_int)) (pa_cons (pe_op op_pow pe_int pe_int) pa_nil))))))) pa_nil)))))), ?_⟩
  have c39 : CPow 10 39 := by unfold CPow; decide
  refine ⟨_, rfl, s, 3, rfl, hS, by omega, fun i H1 i0 i1 kp1 st1 => ⟨rfl, _, rfl, ite2 (fun h => ?_) (fun h => ?_)⟩⟩
  · refine ⟨_, rfl, s, rfl, st1, fun v H2 ty w sh kp2 st2 => ?_⟩
    exact k v H2 (sbI_shp st2 (Shp.weak (fun a ha => st1.ne ha) sh) (inB_no w)) (kp1.trans kp2) st2
  refine ⟨_, rfl, _, rfl, _, _, rfl, rfl, _, rfl, _, _, rfl, rfl, _, rfl, _, rfl, _, _, rfl, rfl, _, rfl, _, _, rfl, rfl, by unfold CMul; omega, _, _, rfl, rfl, _, _, rfl, rfl, c39, _, rfl, _, _, rfl, rfl, c39, sz2 (by show 6 ≤ 100; decide), fun p hp kp => ?_⟩
  have s2 := Same.new hp (.lst [V.int (lo - 1), .int (hi + 1), .int (-1 - hi), .int (2 * hi + 1), .int (-(10 ^ (39 : Int).toNat)), .int (10 ^ (39 : Int).toNat)])
  refine ⟨s, p, _, rfl, st1.same s2, upd_same, Ne.symm (st1.ne hp), by show 0 < 6; decide, by show 6 < 1000; decide, fun v H3 hv kp3 st3 => ?_⟩
  have kpA := (kp1.trans (Kp.same s2)).trans kp3
  have e39 : (10 : Int) ^ (39 : Int).toNat = 1000000000000000000000000000000000000000 := by decide
  have go : ∀ u : Int, (u < lo ∨ hi < u) → SbI K (Fz s s) lo hi H3 (.int u) := fun u h => sbI_sc (t := "int") (fun _ => rfl) (inB_out h)
  simp only [List.mem_cons, List.not_mem_nil, or_false] at hv
  rcases hv with rfl | rfl | rfl | rfl | rfl | rfl
  · exact k _ H3 (go _ (.inl (by omega))) kpA st3
  · exact k _ H3 (go _ (.inr (by omega))) kpA st3
  · exact k _ H3 (go _ (.inl (by omega))) kpA st3
  · exact k _ H3 (go _ (.inr (by omega))) kpA st3
  · exact k _ H3 (go _ (.inl (by rw [e39]; omega))) kpA st3
  · exact k _ H3 (go _ (.inr (by rw [e39]; omega))) kpA st3

def spBT (K : PySem.W.Frag) : Sp := fun vs H Q _ => ∃ (s a : Addr) (rs : List Int), vs = [.ref s, .ref a] ∧ Sto K H s ∧ Wd K H a rs ∧ rs.length ≤ 4 ∧ ∀ v H', SbR K (Fz s s) H' v → Kp s H H' → Sto K H' s → Q v H'
abbrev sBT : Stmt := topS 67
theorem scBT : FnScope ["_law_store_here", "_law_row"] ["_law_store_here", "_law_row"] (defScope sBT) := ⟨rfl, rfl, rfl, by decide +kernel, rfl, by decide +kernel, by decide +kernel⟩
theorem k_BT (T : Bt K mg) (D : Dfn K mg "_law_bad_tuple" sBT ["_law_store_here", "_law_row"]) (d__law_pick : Kn P w K mg base 3 "_law_pick" ["_law_store_here", "_law_row"] (spPick K)) : Kn P w K mg base 4 "_law_bad_tuple" ["_law_store_here", "_law_row"] (spBT K) := by
  refine Kn.mk' D scBT (fun vs H Q E h => ?_) (fun f cdv A outer s H vs Q E hr h => ?_)
  · obtain ⟨s, a, rs, rfl, _⟩ := h
    rfl
  obtain ⟨s, a, rs, rfl, hS, ha, h4, k⟩ := h
  refine ⟨_, (pss_one (ps_ret (pe_kn d__law_pick hr (by rfl) (pa_cons (pv 0) (pa_cons (pe_ls (pa_cons (pe_fr (pe_callTy call_list_of (by rfl) T.b_list (by decide +kernel) (pa_cons (pv 1) pa_nil))) (pa_cons (pe_fr (pe_callTy call_list_of (by rfl) T.b_list (by decide +kernel) (pa_cons (pv 1) pa_nil))) (pa_cons pe_non (pa_cons pe_int (pa_cons pe_bl (pa_cons pe_str (pa_cons pe_dn (pa_cons (pe_ls pa_nil) pa_nil))))))))) pa_nil))))), ?_⟩
  refine ⟨_, rfl, _, rfl, a, _, rfl, .inr (ob_tup ha), fun l1 hl1 fr1 => ?_⟩
  have k1 : K.lookup l1 = none := fr1 l1 (by rw [upd_same]; simp)
  have s1 := Same.new hl1 (.lst (rs.map V.int))
  refine ⟨_, rfl, a, _, rfl, .inr (ob_tup (ob_same s1 ha)), fun l2 hl2 fr2 => ?_⟩
  have k2 : K.lookup l2 = none := fr2 l2 (by rw [upd_same]; simp)
  have s2 := Same.new hl2 (.lst (rs.map V.int))
  refine fun d hd kd => ⟨sz2 (by show 0 ≤ 100; decide), fun e he ke => ⟨sz2 (by show 8 ≤ 100; decide), fun p hp kp => ?_⟩⟩
  have s3 := Same.new hd (.dK [])
  have s4 := Same.new he (.lst [])
  have s5 := Same.new hp (.lst [V.ref l1, .ref l2, .non, .int 0, .bl true, .str "", .ref d, .ref e])
  have sA := s1.trans (s2.trans (s3.trans (s4.trans s5)))
  have st1 := hS.same s1
  have st2 := st1.same s2
  have st3 := st2.same s3
  have st4 := st3.same s4
  have st5 := st4.same s5
  have o1 := ob_same (s2.trans (s3.trans (s4.trans s5))) (ob_new (H := H) (o := .lst (rs.map V.int)) k1)
  have o2 := ob_same (s3.trans (s4.trans s5)) (ob_new (H := upd H l1 (.lst (rs.map V.int))) (o := .lst (rs.map V.int)) k2)
  have o3 := ob_same (s4.trans s5) (ob_new (H := upd (upd H l1 (.lst (rs.map V.int))) l2 (.lst (rs.map V.int))) (o := .dK []) kd)
  have o4 := ob_same s5 (ob_new (H := upd (upd (upd H l1 (.lst (rs.map V.int))) l2 (.lst (rs.map V.int))) d (.dK [])) (o := .lst []) ke)
  have all : ∀ v ∈ ([V.ref l1, .ref l2, .non, .int 0, .bl true, .str "", .ref d, .ref e] : List V), SbR K (Fz s s) _ v := fun v hv => by
    simp only [List.mem_cons, List.not_mem_nil, or_false] at hv
    rcases hv with rfl | rfl | rfl | rfl | rfl | rfl | rfl | rfl
    · exact sbR_lst (fun z => hS.ne hl1 (z.elim id id)) o1
    · exact sbR_lst (fun z => st1.ne hl2 (z.elim id id)) o2
    · exact sbR_ty (t := "NoneType") (fun _ _ => rfl) rfl
    · exact sbR_ty (t := "int") (fun _ _ => rfl) rfl
    · exact sbR_ty (t := "bool") (fun _ _ => rfl) rfl
    · exact sbR_ty (t := "str") (fun _ _ => rfl) rfl
    · exact sbR_dK (fun z => st2.ne hd (z.elim id id)) o3
    · exact sbR_lst (fun z => st3.ne he (z.elim id id)) o4
  refine ⟨s, p, _, rfl, st5, upd_same, Ne.symm (st4.ne hp), by show 0 < 8; decide, by show 8 < 1000; decide, fun v H6 hv kp6 st6 => ?_⟩
  exact k v H6 ((all v hv).kx (Kx.kp (.inl rfl) kp6)) ((Kp.same sA).trans kp6) st6

end
end My

namespace My
open PySem PySem.Spec PyProof.Rows L2
section
variable {P : Program} {w : World} {K : PySem.W.Frag} {mg : Str → Option Value} {base : Heap}
def spBSz (K : PySem.W.Frag) : Sp := fun vs H Q _ => ∃ (s a : Addr) (rs : List Int), vs = [.ref s, .ref a] ∧ Sto K H s ∧ Wd K H a rs ∧ Rdx rs ∧ ∀ v H', SbR K (Fz s s) H' v → Kp s H H' → Sto K H' s → Q v H'
abbrev sBSz : Stmt := topS 72
theorem scBSz : FnScope ["_law_store_here", "_law_sizes", "_law_item", "_law_rows"] ["_law_store_here", "_law_sizes"] (defScope sBSz) := ⟨rfl, rfl, rfl, by decide +kernel, rfl, by decide +kernel, by decide +kernel⟩
theorem k_BSz (T : Bt K mg) (D : Dfn K mg "_law_bad_sizes" sBSz ["_law_store_here", "_law_sizes"]) (d__law_beyond : Kn P w K mg base 5 "_law_beyond" ["_law_store_here", "_law_low", "_law_high"] (spBy K)) (d__law_take : Kn P w K mg base 2 "_law_take" ["_law_store_here", "_law_many"] (spTake K)) (d__law_pick : Kn P w K mg base 3 "_law_pick" ["_law_store_here", "_law_row"] (spPick K)) (d__law_bad_tuple : Kn P w K mg base 4 "_law_bad_tuple" ["_law_store_here", "_law_row"] (spBT K)) (d__law_with : Kn P w K mg base 3 "_law_with" ["_law_store_here", "_law_row", "_law_item"] (spWith K)) : Kn P w K mg base 6 "_law_bad_sizes" ["_law_store_here", "_law_sizes"] (spBSz K) := by
  refine Kn.mk' D scBSz (fun vs H Q E h => ?_) (fun f cdv A outer s H vs Q E hr h => ?_)
  · obtain ⟨s, a, rs, rfl, _⟩ := h
    rfl
  obtain ⟨s, a, rs, rfl, hS, ha, rx, k⟩ := h
  refine ⟨_, (pss_cons (ps_set (i := 2) scBSz.nd rfl (.inl rfl) (pe_kn d__law_beyond hr (by rfl) (pa_cons (pv 0) (pa_cons pe_int (pa_cons pe_int pa_nil)))))
      (C8.pss_cut (ps_if (pt_cmpR op_eq (pe_kn d__law_take hr (by rfl) (pa_cons (pv 0) (pa_cons pe_int pa_nil))) pe_int (nomark _)) (pss_one (ps_set (i := 2) scBSz.nd rfl (.inl rfl) (pe_kn d__law_pick hr (by rfl) (pa_cons (pv 0) (pa_cons (pe_ls (pa_cons pe_int (pa_cons (pe_un un_neg pe_int) (pa_cons (pe_un un_neg pe_int) (pa_cons (pe_un un_neg pe_int) (pa_cons (pe_un un_neg pe_int) (pa_cons (pe_op op_sub (pe_un un_neg pe_int) (pe_kn d__law_take hr (by rfl) (pa_cons (pv 0) (pa_cons pe_int pa_nil)))) (pa_cons (pe_op op_add pe_int (pe_kn d__law_take hr (by rfl) (pa_cons (pv 0) (pa_cons (pe_op op_pow pe_int pe_int) pa_nil)))) pa_nil)))))))) pa_nil))))) pss_nil)
      (pss_cons (ps_set (i := 3) scBSz.nd rfl (.inl rfl) (pe_ls (pa_cons (pe_tp (pa_cons (pv 2) pa_nil)) (pa_cons (pe_fr (pe_op op_repT (pe_tp (pa_cons pe_int pa_nil)) (pe_op op_add pe_int (pe_kn d__law_take hr (by rfl) (pa_cons (pv 0) (pa_cons pe_int pa_nil)))))) (pa_cons (pe_kn d__law_bad_tuple hr (by rfl) (pa_cons (pv 0) (pa_cons (pv 1) pa_nil))) (pa_cons (pe_kn d__law_bad_tuple hr (by rfl) (pa_cons (pv 0) (pa_cons (pv 1) pa_nil))) pa_nil))))))
      (C8.pss_cut (ps_if (pt_truth (pv 1) (fun _ => rfl)) (pss_one (ps_set (i := 3) scBSz.nd rfl (.inl rfl) (pe_fr (pe_op op_cat (pv 3) (pe_fr (pe_op op_rep (pe_ls (pa_cons (pe_fr (pe_callTy call_tuple_of (by rfl) T.b_tuple (by decide +kernel) (pa_cons (pe_kn d__law_with hr (by rfl) (pa_cons (pv 0) (pa_cons (pe_fr (pe_callTy call_list_of (by rfl) T.b_list (by decide +kernel) (pa_cons (pv 1) pa_nil))) (pa_cons (pv 2) pa_nil)))) pa_nil))) pa_nil)) pe_int)))))) pss_nil)
      (pss_one (ps_ret (pe_kn d__law_pick hr (by rfl) (pa_cons (pv 0) (pa_cons (pv 3) pa_nil))))))))), ?_⟩
  have h4 := rx.1
  refine ⟨_, rfl, s, 2, 1000, rfl, hS, by decide, by decide, by decide, by decide, fun v H1 hv kp1 st1 => ?_⟩
  refine ⟨fun σ H' => ∃ it, σ = [some (.ref s), some (.ref a), some it, none] ∧ SbI K (Fz s s) 2 1000 H' it ∧ Kp s H H' ∧ Sto K H' s, ?_, ?_⟩
  · refine ⟨_, rfl, s, 2, rfl, st1, by decide, fun m H2 m0 m1 kp2 st2 => ⟨rfl, _, rfl, ite2 (fun h => ?_) (fun h => ?_)⟩⟩
    · have c6 : CPow 10 6 := by unfold CPow; decide
      refine ⟨_, rfl, _, rfl, _, rfl, _, rfl, _, rfl, _, rfl, _, rfl, s, 999, rfl, st2, by decide, fun x H3 x0 x1 kp3 st3 => ⟨_, _, rfl, rfl, ?_⟩⟩
      refine ⟨_, rfl, _, _, rfl, rfl, c6, s, _, rfl, st3, by decide, fun y H4 y0 y1 kp4 st4 => ⟨_, _, rfl, rfl, sz2 (by show 7 ≤ 100; decide), fun p hp kp' => ?_⟩⟩
      have s5 := Same.new hp (.lst [V.int 0, .int (-1), .int (-2), .int (-60), .int (-1000), .int (-2 - x), .int (1001 + y)])
      refine ⟨s, p, _, rfl, st4.same s5, upd_same, Ne.symm (st4.ne hp), by show 0 < 7; decide, by show 7 < 1000; decide, fun it H6 hit kp6 st6 => ?_⟩
      have go : ∀ u : Int, (u < 2 ∨ 1000 < u) → SbI K (Fz s s) 2 1000 H6 (.int u) := fun u h => sbI_sc (t := "int") (fun _ => rfl) (inB_out h)
      refine ⟨it, rfl, ?_, ((((kp1.trans kp2).trans kp3).trans kp4).trans (Kp.same s5)).trans kp6, st6⟩
      simp only [List.mem_cons, List.not_mem_nil, or_false] at hit
      rcases hit with rfl | rfl | rfl | rfl | rfl | rfl | rfl
      · exact go _ (.inl (by omega))
      · exact go _ (.inl (by omega))
      · exact go _ (.inl (by omega))
      · exact go _ (.inl (by omega))
      · exact go _ (.inl (by omega))
      · exact go _ (.inl (by omega))
      · exact go _ (.inr (by omega))
    · exact ⟨v, rfl, hv.kx (Kx.kp (.inl rfl) kp2), kp1.trans kp2, st2⟩
  · rintro σ H2 ⟨it, rfl, hi, kp2, st2⟩
    have ha2 := ha.kp kp2 hS
    refine ⟨_, rfl, sz2 (by show 1 ≤ 100; decide), fun t ht kt => ?_⟩
    have s1 := Same.new ht (.tup [it])
    have ot := ob_new (H := H2) (o := .tup [it]) kt
    have st3 := st2.same s1
    generalize upd H2 t (.tup [it]) = H3 at s1 ot st3 ⊢
    refine ⟨sz2 (by show 1 ≤ 100; decide), fun u hu ku => ?_⟩
    have s2 := Same.new hu (.tup [V.int 24])
    have ou := ob_new (H := H3) (o := .tup [V.int 24]) ku
    have st4 := st3.same s2
    generalize upd H3 u (.tup [V.int 24]) = H4 at s2 ou st4 ⊢
    refine ⟨_, rfl, s, 20, rfl, st4, by decide, fun n H5 n0 n1 kp5 st5 => ⟨_, _, rfl, rfl, u, _, _, rfl, rfl, ob_tup (ob_kp2 kp5 (tup_ne st4 ou) ou), by decide, by omega, by omega, by decide, fun g hg frg => ?_⟩⟩
    have kg : K.lookup g = none := frg g (by rw [upd_same]; simp)
    have s6 := Same.new hg (.tup (List.replicate (5 + n).toNat [V.int 24]).flatten)
    have og := ob_new (H := H5) (o := .tup (List.replicate (5 + n).toNat [V.int 24]).flatten) kg
    have lg : 4 < ((List.replicate (5 + n).toNat [V.int 24]).flatten).length := by simp; omega
    have st6 := st5.same s6
    generalize (List.replicate (5 + n).toNat [V.int 24]).flatten = gs at s6 og lg st6 ⊢
    generalize upd H5 g (.tup gs) = H6 at s6 og st6 ⊢
    have kp26 : Kp s H2 H6 := (((Kp.same s1).trans (Kp.same s2)).trans kp5).trans (Kp.same s6)
    refine ⟨_, rfl, _, rfl, s, a, rs, rfl, st6, ha2.kp kp26 st2, h4, fun v1 H7 b1 kp7 st7 => ?_⟩
    refine ⟨_, rfl, _, rfl, s, a, rs, rfl, st7, ha2.kp (kp26.trans kp7) st2, h4, fun v2 H8 b2 kp8 st8 => ⟨sz2 (by show 4 ≤ 100; decide), fun L hL kL => ?_⟩⟩
    have s9 := Same.new hL (.lst [V.ref t, .ref g, v1, v2])
    have kp29 : Kp s H2 (upd H8 L (.lst [V.ref t, .ref g, v1, v2])) := ((kp26.trans kp7).trans kp8).trans (Kp.same s9)
    have kp39 : Kp s H3 (upd H8 L (.lst [V.ref t, .ref g, v1, v2])) := (((((Kp.same s2).trans kp5).trans (Kp.same s6)).trans kp7).trans kp8).trans (Kp.same s9)
    have kp69 : Kp s H6 (upd H8 L (.lst [V.ref t, .ref g, v1, v2])) := (kp7.trans kp8).trans (Kp.same s9)
    have st9 := st8.same s9
    have nL := st8.ne hL
    have ot9 := ob_kp2 kp39 (tup_ne st3 ot) ot
    have og9 := ob_kp2 kp69 (tup_ne st6 og) og
    have hi9 := hi.kx (Kx.kp (.inl rfl) kp29)
    have ha9 := ha2.kp kp29 st2
    have all : ∀ v ∈ ([V.ref t, .ref g, v1, v2] : List V), SbR K (Fz s s) (upd H8 L (.lst [V.ref t, .ref g, v1, v2])) v := fun v hv => by
      simp only [List.mem_cons, List.not_mem_nil, or_false] at hv
      rcases hv with rfl | rfl | rfl | rfl
      · exact sbR_item (us := []) (ws := []) (fun z => tup_ne st9 ot9 (z.elim id id)) ot9 hi9 (by decide)
      · exact sbR_len (fun z => tup_ne st9 og9 (z.elim id id)) og9 lg
      · exact b1.kx (Kx.kp (.inl rfl) (kp8.trans (Kp.same s9)))
      · exact b2.kx (Kx.kp (.inl rfl) (Kp.same s9))
    have eL : upd H8 L (.lst [V.ref t, .ref g, v1, v2]) L = some (.lst [V.ref t, .ref g, v1, v2]) := upd_same
    generalize upd H8 L (.lst [V.ref t, .ref g, v1, v2]) = H9 at s9 kp29 kp39 kp69 st9 ot9 og9 hi9 ha9 all eL ⊢
    refine ⟨fun σ H' => ∃ (R : Addr) (ys : List V), σ = [some (V.ref s), some (.ref a), some it, some (.ref R)] ∧ H' R = some (.lst ys) ∧ s ≠ R ∧ 0 < ys.length ∧ ys.length < 1000 ∧ (∀ v ∈ ys, SbR K (Fz s s) H' v) ∧ Kp s H9 H' ∧ Sto K H' s, ?_, ?_⟩
    · refine ⟨_, rfl, _, .inr (.inl ⟨_, ob_tup ha9, rfl⟩), ite2 (fun hne => ?_) (fun hne => ?_)⟩
      · have rne : rs ≠ [] := by
          intro z
          rw [z] at hne
          exact absurd hne (by decide)
        have rl : 1 ≤ rs.length := List.length_pos_iff.mpr rne
        refine ⟨_, rfl, _, rfl, _, rfl, a, _, rfl, .inr (ob_tup ha9), fun l1 hl1 fr1 => ?_⟩
        have k1 : K.lookup l1 = none := fr1 l1 (by rw [upd_same]; simp)
        have sA := Same.new hl1 (.lst (rs.map V.int))
        have stA := st9.same sA
        refine ⟨_, rfl, s, l1, _, it, rfl, stA, upd_same, k1, st9.ne hl1, by rw [List.length_map]; exact rl, by rw [List.length_map]; omega, fun c j Hc hj kpc stc hc hc0 kc => ?_⟩
        rw [List.length_map] at hj
        refine ⟨c, _, rfl, .inl ⟨.of hc, fun p hp frp => ?_⟩⟩
        have kp' : K.lookup p = none := frp p (by rw [upd_same]; simp)
        have sB := Same.new hp (.tup ((rs.map V.int).take j ++ it :: (rs.map V.int).drop (j + 1)))
        have op := ob_new (H := Hc) (o := .tup ((rs.map V.int).take j ++ it :: (rs.map V.int).drop (j + 1))) kp'
        rw [← List.map_take, ← List.map_drop] at op sB ⊢
        have stB := stc.same sB
        generalize upd Hc p (.tup ((rs.take j).map V.int ++ it :: (rs.drop (j + 1)).map V.int)) = H11 at op sB stB ⊢
        refine ⟨sz2 (by show 1 ≤ 100; decide), fun q hq kq => ?_⟩
        have sC := Same.new hq (.lst [V.ref p])
        refine ⟨q, 3, _, rfl, rfl, upd_same, by decide, by decide, by rw [sizeLine_eq]; show 1 * 3 ≤ 16777216; decide, fun x hx frx => ?_⟩
        have sD := Same.new hx (.lst (List.replicate (3 : Int).toNat [V.ref p]).flatten)
        have ex : (List.replicate (3 : Int).toNat [V.ref p]).flatten = [V.ref p, .ref p, .ref p] := rfl
        rw [ex] at sD ⊢
        have kpE : Kp s H9 (upd (upd H11 q (.lst [V.ref p])) x (.lst [V.ref p, .ref p, .ref p])) := (((Kp.same sA).trans kpc).trans (Kp.same sB)).trans (Kp.same (sC.trans sD))
        have eL2 := kpE _ _ nL eL
        refine ⟨L, x, _, _, rfl, rfl, eL2, upd_same, by rw [sizeLine_eq]; show 4 + 3 ≤ 16777216; decide, fun r hr frr => ?_⟩
        have sE := Same.new hr (.lst ([V.ref t, .ref g, v1, v2] ++ [V.ref p, .ref p, .ref p]))
        have stE := (stB.same (sC.trans sD)).same sE
        have kpF := kpE.trans (Kp.same sE)
        have opE := ob_same (sC.trans (sD.trans sE)) op
        have hiE := hi9.kx (Kx.kp (.inl rfl) kpF)
        refine ⟨r, _, rfl, upd_same, ((stB.same (sC.trans sD)).ne hr).symm, by show 0 < 7; decide, by show 7 < 1000; decide, fun v hv => ?_, kpF, stE⟩
        rcases List.mem_append.mp hv with hv | hv
        · exact (all v hv).kx (Kx.kp (.inl rfl) kpF)
        · have ev : v = .ref p := by simpa using hv
          subst ev
          exact sbR_item (fun z => tup_ne stE opE (z.elim id id)) opE hiE (by rw [List.length_take, List.length_drop]; omega)
      · exact ⟨L, _, rfl, eL, nL.symm, by show 0 < 4; decide, by show 4 < 1000; decide, all, Kp.refl _ _, st9⟩
    · rintro σ H' ⟨R, ys, rfl, hR, nR, y0, y1, ally, kp', st'⟩
      exact ⟨_, rfl, _, rfl, s, R, ys, rfl, st', hR, nR, y0, y1, fun v Hz hv kpz stz => k v Hz ((ally v hv).kx (Kx.kp (.inl rfl) kpz)) (((kp2.trans kp29).trans kp').trans kpz) stz⟩

end
end My

namespace My
open PySem PySem.Spec PyProof.Rows L2
section
variable {P : Program} {w : World} {K : PySem.W.Frag} {mg : Str → Option Value} {base : Heap}
theorem nf_unit {l : Int} (h : 1 ≤ l) : Nf (1, l) := ⟨h, by show Int.gcd 1 l = 1; exact Int.one_gcd⟩
def spUnit (K : PySem.W.Frag) : Sp := fun vs H Q _ => ∃ b rs, vs = [.ref b] ∧ Wd K H b rs ∧ Rdx rs ∧ Gv K H Q (1, prodL rs)
def spWof (K : PySem.W.Frag) : Sp := fun vs H Q _ => ∃ (a b : Addr) (u : Int) (ps rs : List Int), vs = [.int u, .ref a, .ref b] ∧ Wd K H a ps ∧ Wd K H b rs ∧ Rdx rs ∧ Fits ps rs ∧ u.natAbs < 2 ^ 2000 ∧ ∀ z, Is z (hor u ps rs) (prodL rs) → Gv K H Q z
def spTold (K : PySem.W.Frag) (C : Addr) : Sp := fun vs H Q _ => ∃ (c b : Addr) (u : Int) (ps rs : List Int), vs = [.ref c, .ref b] ∧ MxAt K C H c u ps rs ∧ Wd K H b rs ∧ Rdx rs ∧ Fits ps rs ∧ u.natAbs < 2 ^ 2000 ∧ ∀ z, Is z (hor u ps rs) (prodL rs) → Gv K H Q z
abbrev sUnit : Stmt := topS 74
theorem scUnit : FnScope ["_law_sizes", "_law_product", "_law_size"] ["_law_sizes"] (defScope sUnit) := ⟨rfl, rfl, rfl, by decide +kernel, rfl, by decide +kernel, by decide +kernel⟩
theorem k_Unit (T : Bt K mg) (D : Dfn K mg "_law_unit_of" sUnit ["_law_sizes"]) : Kn P w K mg base 1 "_law_unit_of" ["_law_sizes"] (spUnit K) := by
  refine Kn.mk' D scUnit (fun vs H Q E h => ?_) (fun f cdv A outer s H vs Q E hr h => ?_)
  · obtain ⟨b, rs, rfl, _⟩ := h
    rfl
  obtain ⟨b, rs, rfl, hb, rx, k⟩ := h
  refine ⟨_, (pss_cons (ps_set (i := 1) scUnit.nd rfl (.inl rfl) pe_int)
      (pss_cons (ps_for PassesOwn.never rfl (pi_tup (pv 0)) (pg_name (i := 2) scUnit.nd rfl (.inl rfl)) (pss_one (ps_set (i := 1) scUnit.nd rfl (.inl rfl) (pe_op op_mulW (pv 1) (pv 2)))))
      (pss_one (ps_ret (pe_tp (pa_cons pe_int (pa_cons (pv 1) pa_nil))))))), ?_⟩
  have o : ob K H b = some (.tup (rs.map V.int)) := hb
  refine ⟨_, rfl, b, rfl, ⟨_, ob_tup o⟩, forI_tup (xs := rs.map V.int) (fun i σ H' => ∃ x2, σ = [some (V.ref b), some (.int (prodL (rs.take i))), x2] ∧ H' = H) ⟨none, rfl, rfl⟩ (fun i σ H' _ h => by obtain ⟨_, _, rfl⟩ := h; exact ob_tup o) ?_ ?_⟩
  · rintro i x σ H' hi ⟨x2, rfl, rfl⟩
    rw [List.getElem?_map] at hi
    obtain ⟨n, hn, rfl⟩ := Option.map_eq_some_iff.mp hi
    obtain ⟨p0, p1⟩ := (rx.take i).prod
    have nb := rx.2 n (List.mem_of_getElem? hn)
    refine ⟨_, rfl, _, rfl, _, _, rfl, rfl, mulW (a := 40) (b := 10) (by omega) (by omega) (by omega), ?_⟩
    refine ⟨some (.int n), ?_, rfl⟩
    rw [List.take_succ, hn]
    show _ = [_, some (V.int (prodL (rs.take i ++ [n]))), _]
    rw [prodL_app]
    rfl
  · rintro σ H' ⟨x2, rfl, rfl⟩
    rw [List.length_map, List.take_length]
    refine ⟨_, rfl, sz2 (by show 2 ≤ 100; decide), fun p hp kp => ?_⟩
    exact k.new hp kp

abbrev sWof : Stmt := topS 70
theorem scWof : FnScope ["_law_whole_here", "_law_parts", "_law_sizes", "_law_total", "_law_unit", "_law_k"] ["_law_whole_here", "_law_parts", "_law_sizes"] (defScope sWof) := ⟨rfl, rfl, rfl, by decide +kernel, rfl, by decide +kernel, by decide +kernel⟩
theorem k_Wof (T : Bt K mg) (D : Dfn K mg "_law_worth_of" sWof ["_law_whole_here", "_law_parts", "_law_sizes"]) (d__law_lowest : Kn P w K mg base 2 "_law_lowest" ["_law_top", "_law_bottom"] (spLowest K)) : Kn P w K mg base 3 "_law_worth_of" ["_law_whole_here", "_law_parts", "_law_sizes"] (spWof K) := by
  refine Kn.mk' D scWof (fun vs H Q E h => ?_) (fun f cdv A outer s H vs Q E hr h => ?_)
  · obtain ⟨a, b, u, ps, rs, rfl, _⟩ := h
    rfl
  obtain ⟨a, b, u, ps, rs, rfl, ha, hb, rx, hf, hu, k⟩ := h
  refine ⟨_, (pss_cons (ps_set (i := 3) scWof.nd rfl (.inl rfl) (pv 0))
      (pss_cons (ps_set (i := 4) scWof.nd rfl (.inl rfl) pe_int)
      (pss_cons (ps_for PassesOwn.never rfl (pi_range1 (by rfl) T.b_range (pa_cons (pe_callB call_lenA (by rfl) T.b_len PySem.boot_len (pa_cons (pv 2) pa_nil)) pa_nil)) (pg_name (i := 5) scWof.nd rfl (.inl rfl)) (pss_cons (ps_set (i := 3) scWof.nd rfl (.inl rfl) (pe_op op_add (pe_op op_mulW (pv 3) (pe_ix ix_any (pv 2) (pv 5) (fun _ _ => rfl))) (pe_ix ix_any (pv 1) (pv 5) (fun _ _ => rfl))))
      (pss_one (ps_set (i := 4) scWof.nd rfl (.inl rfl) (pe_op op_mulW (pv 4) (pe_ix ix_any (pv 2) (pv 5) (fun _ _ => rfl)))))))
      (pss_one (ps_ret (pe_kn d__law_lowest hr (by rfl) (pa_cons (pv 3) (pa_cons (pv 4) pa_nil)))))))), ?_⟩
  have oa : ob K H a = some (.tup (ps.map V.int)) := ha
  have o : ob K H b = some (.tup (rs.map V.int)) := hb
  have h4 := rx.1
  refine ⟨_, rfl, _, rfl, b, rfl, _, itsO_of o, _, rfl, by rw [List.length_map]; omega, by rw [List.length_map]; omega, ?_⟩
  rw [List.length_map]
  refine forI_range (lo := 0) (n := rs.length) (fun i σ H' => ∃ x5, σ = [some (V.int u), some (.ref a), some (.ref b), some (.int (hor u (ps.take i) (rs.take i))), some (.int (prodL (rs.take i))), x5] ∧ H' = H) ⟨none, rfl, rfl⟩ ?_ ?_
  · rintro i σ H' hi ⟨x5, rfl, rfl⟩
    have hl := hf.len
    obtain ⟨r, hr'⟩ : ∃ r, rs[i]? = some r := ⟨_, List.getElem?_eq_getElem hi⟩
    obtain ⟨p, hp⟩ : ∃ p, ps[i]? = some p := ⟨_, List.getElem?_eq_getElem (by omega)⟩
    have hat : atI (rs.map V.int) (0 + (i : Int)) = some (.int r) := by rw [Int.zero_add]; exact atI_nat (by rw [List.getElem?_map, hr']; rfl)
    have hap : atI (ps.map V.int) (0 + (i : Int)) = some (.int p) := by rw [Int.zero_add]; exact atI_nat (by rw [List.getElem?_map, hp]; rfl)
    have hz : (hor u (ps.take i) (rs.take i)).natAbs < 2 ^ 2041 := hor_sz (hf.take i) (rx.take i) hu
    have nb := rx.2 r (List.mem_of_getElem? hr')
    obtain ⟨p0, p1⟩ := (rx.take i).prod
    refine ⟨_, rfl, _, rfl, _, rfl, b, _, rfl, rfl, _, itsO_of o, _, hat, _, _, rfl, rfl, mulW (a := 2041) (b := 10) hz (by omega) (by omega), ?_⟩
    refine ⟨_, rfl, _, rfl, a, _, rfl, rfl, _, itsO_of oa, _, hap, _, _, rfl, rfl, ?_⟩
    refine ⟨_, rfl, _, rfl, _, rfl, b, _, rfl, rfl, _, itsO_of o, _, hat, _, _, rfl, rfl, mulW (a := 40) (b := 10) (by omega) (by omega) (by omega), ?_⟩
    refine ⟨some (.int (0 + (i : Int))), ?_, rfl⟩
    rw [List.take_succ, hp, List.take_succ, hr']
    show _ = [_, _, _, some (V.int (hor u (ps.take i ++ [p]) (rs.take i ++ [r]))), some (V.int (prodL (rs.take i ++ [r]))), _]
    rw [hor_snoc (hf.take i).len, prodL_app]
    rfl
  · rintro σ H' ⟨x5, rfl, rfl⟩
    rw [show ps.take rs.length = ps by rw [← hf.len, List.take_length], List.take_length]
    have pb := rx.prod
    refine ⟨_, rfl, _, rfl, _, _, rfl, ?_, fun z hz => k z (hz.2 (by omega))⟩
    have : (prodL rs).natAbs < 2 ^ 41 := by omega
    exact Nat.lt_of_lt_of_le this (Nat.pow_le_pow_right (by decide) (by decide))

abbrev sTold : Stmt := topS 73
theorem scTold : FnScope ["_law_mixed_here", "_law_sizes", "_law_k", "_law_worth"] ["_law_mixed_here", "_law_sizes"] (defScope sTold) := ⟨rfl, rfl, rfl, by decide +kernel, rfl, by decide +kernel, by decide +kernel⟩
theorem k_Told {C : Addr} (Y : MxC K mg C) (IC : C8.InsC K C) (T : Bt K mg) (D : Dfn K mg "_law_told" sTold ["_law_mixed_here", "_law_sizes"]) (d__law_is_whole : Kn P w K mg base 1 "_law_is_whole" ["_law_told_here"] (spWhole K)) (d__law_same : Kn P w K mg base 4 "_law_same" ["_law_told_here", "_law_due"] (spSame K 3)) (d__law_worth_of : Kn P w K mg base 3 "_law_worth_of" ["_law_whole_here", "_law_parts", "_law_sizes"] (spWof K)) : Kn P w K mg base 5 "_law_told" ["_law_mixed_here", "_law_sizes"] (spTold K C) := by
  refine Kn.mk' D scTold (fun vs H Q E h => ?_) (fun f cdv A outer s H vs Q E hr h => ?_)
  · obtain ⟨c, b, u, ps, rs, rfl, _⟩ := h
    rfl
  obtain ⟨c, b, u, ps, rs, rfl, hc, hb, rx, hf, hu, k⟩ := h
  refine ⟨_, (C8.pss_cut (ps_if (PW.pt (pw_or (pt_not (pt_val (pe_callB (C8.call_isC IC) (by rfl) T.b_isinstance (by decide +kernel) (pa_cons (pv 0) (pa_cons (pe_glob (v := .ref C) (by rfl) Y.g rfl) pa_nil))))) (pw_or (pt_not (pt_val (pe_kn d__law_is_whole hr (by rfl) (pa_cons (pe_fld (pv 0) rfl) pa_nil)))) (pw_or1 (pt_not (pt_val (pe_kn d__law_same hr (by rfl) (pa_cons (pe_fld (pv 0) rfl) (pa_cons (pv 1) pa_nil))))))))) (pss_one (ps_ret pe_non)) pss_nil)
      (C8.pss_cut (ps_if (PW.pt (pw_or (pt_not (pt_val (pe_callB call_isD (by rfl) T.b_isinstance (by decide +kernel) (pa_cons (pe_fld (pv 0) rfl) (pa_cons (pe_bltn (v := .ty "tuple") (by rfl) T.b_tuple (by decide +kernel) rfl) pa_nil))))) (pw_or1 (pt_cmpR op_ne (pe_callB call_lenA (by rfl) T.b_len PySem.boot_len (pa_cons (pe_fld (pv 0) rfl) pa_nil)) (pe_callB call_lenA (by rfl) T.b_len PySem.boot_len (pa_cons (pv 1) pa_nil)) (nomark _))))) (pss_one (ps_ret pe_non)) pss_nil)
      (C8.pss_cut (ps_for PassesOwn.never rfl (pi_range1 (by rfl) T.b_range (pa_cons (pe_callB call_lenA (by rfl) T.b_len PySem.boot_len (pa_cons (pv 1) pa_nil)) pa_nil)) (pg_name (i := 2) scTold.nd rfl (.inl rfl)) (pss_one (ps_if (PW.pt (pw_or (pt_not (pt_val (pe_kn d__law_is_whole hr (by rfl) (pa_cons (pe_ix ix_any (pe_fld (pv 0) rfl) (pv 2) (fun _ _ => rfl)) pa_nil)))) (pw_or (pt_cmpR op_lt (pe_ix ix_any (pe_fld (pv 0) rfl) (pv 2) (fun _ _ => rfl)) pe_int (nomark _)) (pw_or1 (pt_cmpR op_ge (pe_ix ix_any (pe_fld (pv 0) rfl) (pv 2) (fun _ _ => rfl)) (pe_ix ix_any (pv 1) (pv 2) (fun _ _ => rfl)) (nomark _)))))) (pss_one (ps_ret pe_non)) pss_nil)))
      (pss_cons (ps_set (i := 3) scTold.nd rfl (.inl rfl) (pe_kn d__law_worth_of hr (by rfl) (pa_cons (pe_fld (pv 0) rfl) (pa_cons (pe_fld (pv 0) rfl) (pa_cons (pv 1) pa_nil)))))
      (pss_cons (ps_if (pt_not (pt_val (pe_kn d__law_same hr (by rfl) (pa_cons (pe_fld (pv 0) rfl) (pa_cons (pv 3) pa_nil))))) (pss_one (ps_ret pe_non)) pss_nil)
      (pss_one (ps_ret (pv 3)))))))), ?_⟩
  have h4 := rx.1
  have hl := hf.len
  obtain ⟨dx, t, r, z, q, hi, ht, hr1, hz, hq⟩ := id hc
  have scI : ∀ l : List Int, (l.map V.int).all scv = true := fun l => List.all_eq_true.mpr fun x hx => by
    obtain ⟨n, _, rfl⟩ := List.mem_map.mp hx
    rfl
  refine ⟨fun σ H' => σ = [some (.ref c), some (.ref b), none, none] ∧ Same H H', ?_, ?_⟩
  · refine ⟨_, rfl, c, dx, _, rfl, hi, _, rfl, if_no rfl ?_⟩
    refine ⟨_, rfl, c, C, dx, _, _, rfl, hi, Y.cl, Y.nW, mx_l1 _ _ _ _, _, rfl, rfl, _, rfl, if_no rfl ?_⟩
    refine ⟨_, rfl, c, C, dx, _, _, rfl, hi, Y.cl, Y.nR, mx_l3 _ _ _ _, _, rfl, _, _, rfl, (eqv_tup hr1 hb (scI rs) (by rw [List.length_map]; omega)).up, fun H1 s1 => ⟨_, rfl, if_no rfl ⟨rfl, s1⟩⟩⟩
  rintro σ H1 ⟨rfl, s1⟩
  have hi1 := s1 _ _ hi
  have ht1 : ob K H1 t = some (.tup (ps.map V.int)) := ht.same s1
  have hb1 : ob K H1 b = some (.tup (rs.map V.int)) := hb.same s1
  have hz1 := ob_same s1 hz
  have hr1' := hr1.same s1
  clear hi ht hr1 hz
  refine ⟨fun σ H' => σ = [some (.ref c), some (.ref b), none, none] ∧ H' = H1, ?_, ?_⟩
  · have ty : tyN K H1 (.ref t) = some "tuple" := by rw [tyN_ref, ht1]; rfl
    refine ⟨_, rfl, c, C, dx, _, _, rfl, hi1, Y.cl, Y.nP, mx_l2 _ _ _ _, _, "tuple", rfl, by decide, _, Kd.ty ty, _, rfl, if_no rfl ?_⟩
    refine ⟨_, rfl, c, C, dx, _, _, rfl, hi1, Y.cl, Y.nP, mx_l2 _ _ _ _, t, rfl, _, itsO_of ht1, _, rfl, b, rfl, _, itsO_of hb1, rfl, _, rfl, if_no (by rw [List.length_map, List.length_map, hl]; simp) ⟨rfl, rfl⟩⟩
  rintro σ H2 ⟨rfl, rfl⟩
  refine ⟨fun σ H' => ∃ xk, σ = [some (.ref c), some (.ref b), xk, none] ∧ H' = H2, ?_, ?_⟩
  · refine ⟨_, rfl, b, rfl, _, itsO_of hb1, _, rfl, by rw [List.length_map]; omega, by rw [List.length_map]; omega, ?_⟩
    rw [List.length_map]
    refine forI_range (lo := 0) (n := rs.length) (fun i σ H' => ∃ xk, σ = [some (.ref c), some (.ref b), xk, none] ∧ H' = H2) ⟨none, rfl, rfl⟩ ?_ ?_
    · rintro i σ H' hi ⟨xk, rfl, rfl⟩
      obtain ⟨r', hr'⟩ : ∃ r, rs[i]? = some r := ⟨_, List.getElem?_eq_getElem hi⟩
      obtain ⟨p, hp⟩ : ∃ p, ps[i]? = some p := ⟨_, List.getElem?_eq_getElem (by omega)⟩
      have hat : atI (rs.map V.int) (0 + (i : Int)) = some (.int r') := by rw [Int.zero_add]; exact atI_nat (by rw [List.getElem?_map, hr']; rfl)
      have hap : atI (ps.map V.int) (0 + (i : Int)) = some (.int p) := by rw [Int.zero_add]; exact atI_nat (by rw [List.getElem?_map, hp]; rfl)
      obtain ⟨p0, p1⟩ := hf.get hp hr'
      refine ⟨_, rfl, c, C, dx, _, _, rfl, hi1, Y.cl, Y.nP, mx_l2 _ _ _ _, _, rfl, t, _, rfl, rfl, _, itsO_of ht1, _, hap, _, rfl, rfl, _, rfl, if_no rfl ?_⟩
      refine ⟨_, rfl, c, C, dx, _, _, rfl, hi1, Y.cl, Y.nP, mx_l2 _ _ _ _, _, rfl, t, _, rfl, rfl, _, itsO_of ht1, _, hap, _, _, rfl, rfl, _, rfl, if_no (decide_eq_false (by omega)) ?_⟩
      refine ⟨_, rfl, c, C, dx, _, _, rfl, hi1, Y.cl, Y.nP, mx_l2 _ _ _ _, _, rfl, t, _, rfl, rfl, _, itsO_of ht1, _, hap, _, rfl, _, rfl, b, _, rfl, rfl, _, itsO_of hb1, _, hat, _, _, rfl, rfl, _, rfl, if_no (decide_eq_false (by omega)) ⟨_, rfl, rfl⟩⟩
    · rintro σ H' ⟨xk, rfl, rfl⟩
      exact ⟨xk, rfl, rfl⟩
  rintro σ H3 ⟨xk, rfl, rfl⟩
  refine ⟨_, rfl, c, C, dx, _, _, rfl, hi1, Y.cl, Y.nW, mx_l1 _ _ _ _, _, rfl, c, C, dx, _, _, rfl, hi1, Y.cl, Y.nP, mx_l2 _ _ _ _, _, rfl, t, b, u, ps, rs, rfl, ht1, hb1, rx, hf, hu, fun w' hw' p H4 s4 o4 => ?_⟩
  obtain rfl : q = w' := is_unique (by have := rx.prod; omega) hq hw'
  refine ⟨_, rfl, c, C, dx, _, _, rfl, s4 _ _ hi1, Y.cl, Y.nZ, mx_l4 _ _ _ _, _, rfl, _, _, rfl, (eqv_tup (ob_same s4 hz1) o4 rfl (by show 2 ≤ 1000; decide)).up, fun H5 s5 => ⟨_, rfl, if_no rfl ?_⟩⟩
  exact ⟨_, rfl, k q hq p H5 ((s1.trans s4).trans s5) (ob_same s5 o4)⟩

end
end My

namespace My
open PySem PySem.Spec PyProof.Rows L2
section
variable {P : Program} {w : World} {K : PySem.W.Frag} {mg : Str → Option Value} {base : Heap}
theorem hor_abs {u : Int} {ps rs : List Int} (h : Fits ps rs) (hr : Rdx rs) : u.natAbs ≤ (hor u ps rs).natAbs := by
  obtain ⟨a, b⟩ := hor_bd (w := u) h hr.2
  obtain ⟨c, d⟩ := hr.prod
  rcases Int.lt_or_le u 0 with h0 | h0
  · have h1 : (u + 1) * prodL rs ≤ (u + 1) * 1 := Int.mul_le_mul_of_nonpos_left (show u + 1 ≤ 0 by omega) c
    omega
  · have h1 : u * 1 ≤ u * prodL rs := Int.mul_le_mul_of_nonneg_left c h0
    omega
theorem place_of {y : Qt} {t b : Int} (hb : 0 < b) (h : Is y t b) (t0 : 0 ≤ t) (t1 : t < b) : 0 ≤ y.1 ∧ y.1 < y.2 := by
  have e := h.2
  have y2 := h.1.1
  refine ⟨?_, ?_⟩
  · have h1 : 0 * b ≤ y.1 * b := by
      rw [e, Int.zero_mul]
      exact Int.mul_nonneg t0 (by omega)
    exact Int.le_of_mul_le_mul_right h1 hb
  · have h1 : y.1 * b < y.2 * b := by
      rw [e, Int.mul_comm y.2 b]
      exact Int.mul_lt_mul_of_pos_right t1 (by omega)
    exact Int.lt_of_mul_lt_mul_right h1 (by omega)
/-- the whole and the rest are the value -/
theorem back_sum {q w y t z : Qt} {U R l : Int} (hq : Nf q) (hl : 1 ≤ l) (hd : q.1 * l = U * q.2 + R) (hw : Is w U l) (hy : Is y R q.2) (ht : pro2 y (1, l) t) (hz : sum2 w t z) : z = q := by
  have e1 : w.1 * l = U * w.2 := hw.2
  have e2 : y.1 * q.2 = R * y.2 := hy.2
  have e3 : t.1 * (y.2 * l) = y.1 * 1 * t.2 := ht.2
  have e4 : z.1 * (w.2 * t.2) = (w.1 * t.2 + t.1 * w.2) * z.2 := hz.2
  have w2 := hw.1.1
  have y2 := hy.1.1
  have t2 := ht.1.1
  have q2 := hq.1
  refine nf_unique hz.1 hq ?_
  have n : w.2 * t.2 * (l * y.2) ≠ 0 := Int.mul_ne_zero (Int.mul_ne_zero (by omega) (by omega)) (Int.mul_ne_zero (by omega) (by omega))
  refine Int.eq_of_mul_eq_mul_left n ?_
  have a1 : w.2 * t.2 * (l * y.2) * (z.1 * q.2) = (z.1 * (w.2 * t.2)) * (l * y.2 * q.2) := by grind
  have a2 : (w.1 * t.2 + t.1 * w.2) * z.2 * (l * y.2 * q.2) = z.2 * (w.1 * l) * t.2 * y.2 * q.2 + z.2 * w.2 * q.2 * (t.1 * (y.2 * l)) := by grind
  have a3 : z.2 * (U * w.2) * t.2 * y.2 * q.2 + z.2 * w.2 * q.2 * (y.1 * 1 * t.2) = z.2 * w.2 * t.2 * (U * q.2 * y.2 + y.1 * q.2) := by grind
  rw [a1, e4, a2, e1, e3, a3, e2, show U * q.2 * y.2 + R * y.2 = (U * q.2 + R) * y.2 by grind, ← hd]
  grind
/-- how far the nearest one lies -/
theorem gap_of {q o d g : Qt} {N l : Int} (hq : Nf q) (hl : 1 ≤ l) (ho : Is o N l) (hd : dif2 o q d) (hg : Is g (d.1 * l) (d.2 * 1)) : g.1 * q.2 = (N * q.2 - q.1 * l) * g.2 := by
  have e1 : o.1 * l = N * o.2 := ho.2
  have e2 : d.1 * (o.2 * q.2) = (o.1 * q.2 - q.1 * o.2) * d.2 := hd.2
  have e3 : g.1 * (d.2 * 1) = d.1 * l * g.2 := hg.2
  have o2 := ho.1.1
  have d2 := hd.1.1
  have n : o.2 * d.2 ≠ 0 := Int.mul_ne_zero (by omega) (by omega)
  refine Int.eq_of_mul_eq_mul_left n ?_
  have a1 : o.2 * d.2 * (g.1 * q.2) = (g.1 * (d.2 * 1)) * (o.2 * q.2) := by grind
  have a2 : d.1 * l * g.2 * (o.2 * q.2) = (d.1 * (o.2 * q.2)) * (l * g.2) := by grind
  have a3 : (o.1 * q.2 - q.1 * o.2) * d.2 * (l * g.2) = ((o.1 * l) * q.2 - q.1 * o.2 * l) * d.2 * g.2 := by grind
  rw [a1, e3, a2, e2, a3, e1]
  grind
theorem gap_bd {q g : Qt} {N T : Int} (hq : Nf q) (hg : Nf g) (hN : N = (2 * T + q.2) / (2 * q.2)) (e : g.1 * q.2 = (N * q.2 - T) * g.2) : -g.2 < 2 * g.1 ∧ 2 * g.1 ≤ g.2 := by
  have q2 := hq.1
  have g2 := hg.1
  have d0 := Int.emod_nonneg (2 * T + q.2) (show 2 * q.2 ≠ 0 by omega)
  have d1 := Int.emod_lt_of_pos (2 * T + q.2) (show 0 < 2 * q.2 by omega)
  have d2 := Int.mul_ediv_add_emod (2 * T + q.2) (2 * q.2)
  rw [← hN] at d2
  generalize (2 * T + q.2) % (2 * q.2) = R at d0 d1 d2
  have e2 : 2 * (N * q.2 - T) = q.2 - R := by
    have : 2 * q.2 * N = 2 * (N * q.2) := by grind
    omega
  have e3 : (2 * g.1) * q.2 = (q.2 - R) * g.2 := by
    rw [← e2, Int.mul_assoc, e, Int.mul_assoc]
  refine ⟨?_, ?_⟩
  · have h1 : (-g.2) * q.2 < (2 * g.1) * q.2 := by
      rw [e3, show (-g.2) * q.2 = (-q.2) * g.2 by grind]
      exact Int.mul_lt_mul_of_pos_right (by omega) (by omega)
    exact Int.lt_of_mul_lt_mul_right h1 (by omega)
  · have h1 : (2 * g.1) * q.2 ≤ g.2 * q.2 := by
      rw [e3, Int.mul_comm g.2]
      exact Int.mul_le_mul_of_nonneg_right (by omega) (by omega)
    exact Int.le_of_mul_le_mul_right h1 (by omega)
def spVal (K : PySem.W.Frag) : Sp := fun vs H Q _ => ∃ (s b : Addr) (rs : List Int), vs = [.ref s, .ref b] ∧ Sto K H s ∧ Wd K H b rs ∧ Rdx rs ∧ ∀ a q H', Fq K H' 300 a q → Kp s H H' → Sto K H' s → Q (.ref a) H'
abbrev sVal : Stmt := topS 71
theorem scVal : FnScope ["_law_store_here", "_law_sizes", "_law_kind", "_law_whole_here", "_law_worth", "_law_shift"] ["_law_store_here", "_law_sizes"] (defScope sVal) := ⟨rfl, rfl, rfl, by decide +kernel, rfl, by decide +kernel, by decide +kernel⟩
theorem k_Val (T : Bt K mg) (D : Dfn K mg "_law_value" sVal ["_law_store_here", "_law_sizes"]) (d__law_take : Kn P w K mg base 2 "_law_take" ["_law_store_here", "_law_many"] (spTake K)) (d__law_pick : Kn P w K mg base 3 "_law_pick" ["_law_store_here", "_law_row"] (spPick K)) (d__law_whole : Kn P w K mg base 3 "_law_whole" ["_law_store_here", "_law_reach"] (spLInt K)) (d__law_worth_of : Kn P w K mg base 3 "_law_worth_of" ["_law_whole_here", "_law_parts", "_law_sizes"] (spWof K)) (d__law_parts_of : Kn P w K mg base 4 "_law_parts_of" ["_law_store_here", "_law_sizes"] (spPof K)) (d__law_place : Kn P w K mg base 3 "_law_place" ["_law_store_here"] (spDPlace K 10)) (d__law_plus : Kn P w K mg base 3 "_law_plus" ["_law_left", "_law_right"] (spBin K sum2)) (d__law_times : Kn P w K mg base 3 "_law_times" ["_law_left", "_law_right"] (spBin K pro2)) (d__law_unit_of : Kn P w K mg base 1 "_law_unit_of" ["_law_sizes"] (spUnit K)) (d__law_frac_wide : Kn P w K mg base 4 "_law_frac_wide" ["_law_store_here"] (spDFrac K 133)) : Kn P w K mg base 6 "_law_value" ["_law_store_here", "_law_sizes"] (spVal K) := by
  refine Kn.mk' D scVal (fun vs H Q E h => ?_) (fun f cdv A outer s H vs Q E hr h => ?_)
  · obtain ⟨s, b, rs, rfl, _⟩ := h
    rfl
  obtain ⟨s, b, rs, rfl, hS, hb, rx, k⟩ := h
  refine ⟨_, (pss_cons (ps_set (i := 2) scVal.nd rfl (.inl rfl) (pe_kn d__law_take hr (by rfl) (pa_cons (pv 0) (pa_cons pe_int pa_nil))))
      (pss_cons (ps_set (i := 3) scVal.nd rfl (.inl rfl) (pe_kn d__law_pick hr (by rfl) (pa_cons (pv 0) (pa_cons (pe_ls (pa_cons (pe_kn d__law_whole hr (by rfl) (pa_cons (pv 0) (pa_cons pe_int pa_nil))) (pa_cons (pe_kn d__law_whole hr (by rfl) (pa_cons (pv 0) (pa_cons (pe_op op_pow pe_int pe_int) pa_nil))) pa_nil))) pa_nil))))
      (pss_cons (ps_set (i := 4) scVal.nd rfl (.inl rfl) (pe_kn d__law_worth_of hr (by rfl) (pa_cons (pv 3) (pa_cons (pe_kn d__law_parts_of hr (by rfl) (pa_cons (pv 0) (pa_cons (pv 1) pa_nil))) (pa_cons (pv 1) pa_nil)))))
      (pss_cons (ps_set (i := 5) scVal.nd rfl (.inl rfl) (pe_kn d__law_pick hr (by rfl) (pa_cons (pv 0) (pa_cons (pe_ls (pa_cons (pe_tp (pa_cons pe_int (pa_cons pe_int pa_nil))) (pa_cons (pe_tp (pa_cons pe_int (pa_cons pe_int pa_nil))) (pa_cons (pe_tp (pa_cons pe_int (pa_cons pe_int pa_nil))) (pa_cons (pe_kn d__law_place hr (by rfl) (pa_cons (pv 0) pa_nil)) pa_nil))))) pa_nil))))
      (C8.pss_cut (ps_if (pt_cmpR op_lt (pv 2) pe_int (nomark _)) (pss_one (ps_set (i := 5) scVal.nd rfl (.inl rfl) (pe_kn d__law_plus hr (by rfl) (pa_cons (pv 5) (pa_cons (pe_tp (pa_cons (pe_kn d__law_pick hr (by rfl) (pa_cons (pv 0) (pa_cons (pe_ls (pa_cons pe_int (pa_cons (pe_un un_neg pe_int) pa_nil))) pa_nil))) (pa_cons (pe_op op_add pe_int (pe_kn d__law_take hr (by rfl) (pa_cons (pv 0) (pa_cons (pe_op op_pow pe_int pe_int) pa_nil)))) pa_nil))) pa_nil))))) pss_nil)
      (pss_cons (ps_if (pt_cmpR op_eq (pv 2) pe_int (nomark _)) (pss_one (ps_ret (pe_kn d__law_frac_wide hr (by rfl) (pa_cons (pv 0) pa_nil)))) pss_nil)
      (pss_one (ps_ret (pe_kn d__law_plus hr (by rfl) (pa_cons (pv 4) (pa_cons (pe_kn d__law_times hr (by rfl) (pa_cons (pv 5) (pa_cons (pe_kn d__law_unit_of hr (by rfl) (pa_cons (pv 1) pa_nil)) pa_nil))) pa_nil))))))))))), ?_⟩
  have c12 : CPow 10 12 := by unfold CPow; decide
  have c6 : CPow 10 6 := by unfold CPow; decide
  have pb := rx.prod
  refine ⟨_, rfl, s, 6, rfl, hS, by decide, fun kd H1 k0 k1 kp1 st1 => ?_⟩
  refine ⟨_, rfl, _, rfl, s, 12, rfl, st1, by decide, by decide, fun a1 H2 a2 a3 kp2 st2 => ?_⟩
  refine ⟨_, rfl, _, _, rfl, rfl, c12, s, _, rfl, st2, by decide, by decide, fun b1 H3 b2 b3 kp3 st3 => ⟨sz2 (by show 2 ≤ 100; decide), fun p hp kp => ?_⟩⟩
  have e12 : (10 : Int) ^ (12 : Int).toNat = 1000000000000 := by decide
  rw [e12] at b2 b3
  have s4 := Same.new hp (.lst [V.int a1, .int b1])
  refine ⟨s, p, _, rfl, st3.same s4, upd_same, Ne.symm (st3.ne hp), by show 0 < 2; decide, by show 2 < 1000; decide, fun x H4 hx kp4 st4 => ?_⟩
  obtain ⟨u, rfl, u0⟩ : ∃ u : Int, x = .int u ∧ u.natAbs < 2 ^ 41 := by
    simp only [List.mem_cons, List.not_mem_nil, or_false] at hx
    rcases hx with rfl | rfl
    · exact ⟨_, rfl, by omega⟩
    · exact ⟨_, rfl, by omega⟩
  have kpA := (((kp1.trans kp2).trans kp3).trans (Kp.same s4)).trans kp4
  have hbA := hb.kp kpA hS
  refine ⟨_, rfl, _, rfl, _, rfl, s, b, rs, rfl, st4, hbA, rx, fun a ps H5 ha hf kp5 st5 => ?_⟩
  have hb5 := hbA.kp kp5 st4
  refine ⟨_, rfl, a, b, u, ps, rs, rfl, ha, hb5, rx, hf, Nat.lt_of_lt_of_le u0 (Nat.pow_le_pow_right (by decide) (by decide)), fun z hz c H6 s6 oz => ?_⟩
  have szh : (hor u ps rs).natAbs < 2 ^ 82 := hor_sz hf rx u0
  have szz : Sz 82 z := is_sz (by omega) hz szh (by have : (prodL rs).natAbs < 2 ^ 41 := by omega
                                                    exact Nat.lt_of_lt_of_le this (Nat.pow_le_pow_right (by decide) (by decide)))
  have st6 := st5.same s6
  have fz : Fq K H6 82 c z := ⟨oz, hz.1, szz⟩
  have hb6 := hb5.same s6
  have kpB := (kpA.trans kp5).trans (Kp.same s6)
  clear hx oz szz szh hz s6 ha hf kp5 st5 hb5 kp4 st4 hbA s4 hp kp st3 st2
  refine ⟨_, rfl, sz2 (by show 2 ≤ 100; decide), fun p1 hp1 kq1 => ?_⟩
  have t1 := Same.new hp1 (.tup [V.int 0, .int 1])
  have o1 := ob_new (H := H6) (o := .tup [V.int 0, .int 1]) kq1
  generalize upd H6 p1 (.tup [V.int 0, .int 1]) = J1 at t1 o1 ⊢
  refine ⟨sz2 (by show 2 ≤ 100; decide), fun p2 hp2 kq2 => ?_⟩
  have t2 := Same.new hp2 (.tup [V.int 1, .int 2])
  have o2 := ob_new (H := J1) (o := .tup [V.int 1, .int 2]) kq2
  generalize upd J1 p2 (.tup [V.int 1, .int 2]) = J2 at t2 o2 ⊢
  refine ⟨sz2 (by show 2 ≤ 100; decide), fun p3 hp3 kq3 => ?_⟩
  have t3 := Same.new hp3 (.tup [V.int 1, .int 2])
  have o3 := ob_new (H := J2) (o := .tup [V.int 1, .int 2]) kq3
  generalize upd J2 p3 (.tup [V.int 1, .int 2]) = J3 at t3 o3 ⊢
  have t13 := t1.trans (t2.trans t3)
  have stJ := st6.same t13
  refine ⟨_, rfl, s, rfl, stJ, fun d qd H7 hd kp7 st7 => ⟨sz2 (by show 4 ≤ 100; decide), fun l hl kl => ?_⟩⟩
  have s8 := Same.new hl (.lst [V.ref p1, .ref p2, .ref p3, .ref d])
  refine ⟨s, l, _, rfl, st7.same s8, upd_same, Ne.symm (st7.ne hl), by show 0 < 4; decide, by show 4 < 1000; decide, fun x H9 hx kp9 st9 => ?_⟩
  have kp79 : Kp s J3 H9 := (kp7.trans (Kp.same s8)).trans kp9
  obtain ⟨yJ, hyJ⟩ := stJ.at
  obtain ⟨y7, hy7⟩ := (st7.same s8).at
  have sz3 : Sz 10 (1, 2) := sz10 (by decide) (by decide)
  obtain ⟨sh, qs, rfl, fs⟩ : ∃ sh q, x = .ref sh ∧ Fq K H9 10 sh q := by
    simp only [List.mem_cons, List.not_mem_nil, or_false] at hx
    rcases hx with rfl | rfl | rfl | rfl
    · exact ⟨_, (0, 1), rfl, (show Fq K J3 10 p1 (0, 1) from ⟨ob_same (t2.trans t3) o1, nf01, sz10 (by decide) (by decide)⟩).kp kp79 hyJ⟩
    · exact ⟨_, (1, 2), rfl, (show Fq K J3 10 p2 (1, 2) from ⟨ob_same t3 o2, nf12, sz3⟩).kp kp79 hyJ⟩
    · exact ⟨_, (1, 2), rfl, (show Fq K J3 10 p3 (1, 2) from ⟨o3, nf12, sz3⟩).kp kp79 hyJ⟩
    · exact ⟨_, qd, rfl, (hd.f.same s8).kp kp9 hy7⟩
  have kp69 : Kp s H6 H9 := (Kp.same t13).trans kp79
  refine ⟨fun σ H' => ∃ sh q, σ = [some (V.ref s), some (.ref b), some (.int kd), some (.int u), some (.ref c), some (.ref sh)] ∧ Fq K H' 60 sh q ∧ Kp s H9 H' ∧ Sto K H' s, ?_, ?_⟩
  · refine ⟨_, rfl, _, _, rfl, rfl, _, rfl, ite2 (fun h => ?_) (fun h => ?_)⟩
    · refine ⟨_, rfl, _, rfl, _, rfl, sz2 (by show 2 ≤ 100; decide), fun g hg kg => ?_⟩
      have s10 := Same.new hg (.lst [V.int 1, .int (-1)])
      refine ⟨s, g, _, rfl, st9.same s10, upd_same, Ne.symm (st9.ne hg), by show 0 < 2; decide, by show 2 < 1000; decide, fun x H11 hx' kp11 st11 => ?_⟩
      obtain ⟨e, rfl, he⟩ : ∃ e : Int, x = .int e ∧ (e = 1 ∨ e = -1) := by
        simp only [List.mem_cons, List.not_mem_nil, or_false] at hx'
        rcases hx' with rfl | rfl
        · exact ⟨_, rfl, .inl rfl⟩
        · exact ⟨_, rfl, .inr rfl⟩
      have e6 : (10 : Int) ^ (6 : Int).toNat = 1000000 := by decide
      refine ⟨_, rfl, _, _, rfl, rfl, c6, s, _, rfl, st11, by decide, fun n H12 n0 n1 kp12 st12 => ⟨_, _, rfl, rfl, sz2 (by show 2 ≤ 100; decide), fun t ht kt => ?_⟩⟩
      rw [e6] at n1
      have s13 := Same.new ht (.tup [V.int e, .int (1 + n)])
      have kpC : Kp s H9 (upd H12 t (.tup [V.int e, .int (1 + n)])) := (((Kp.same s10).trans kp11).trans kp12).trans (Kp.same s13)
      have ot := ob_new (H := H12) (o := .tup [V.int e, .int (1 + n)]) kt
      have st13 := st12.same s13
      generalize upd H12 t (.tup [V.int e, .int (1 + n)]) = H13 at kpC ot st13 ⊢
      have nf : Nf (e, 1 + n) := ⟨by show 1 ≤ 1 + n; omega, by
        show Nat.gcd e.natAbs (1 + n).natAbs = 1
        rcases he with rfl | rfl <;> exact Nat.gcd_one_left _⟩
      have sz : Sz 21 (e, 1 + n) := ⟨by show e.natAbs < 2 ^ 21; omega, by show (1 + n).natAbs < 2 ^ 21; omega⟩
      obtain ⟨y9, hy9⟩ := st9.at
      refine ⟨sh, t, qs, (e, 1 + n), rfl, (fs.kp kpC hy9).mono (by omega), ⟨ot, nf, sz.mono (by omega)⟩, fun z2 hz2 c2 H14 s14 o14 => ?_⟩
      exact ⟨c2, z2, rfl, ⟨o14, hz2.1, sum_sz hz2 fs.nf nf fs.sz sz (by omega)⟩, kpC.trans (Kp.same s14), st13.same s14⟩
    · exact ⟨sh, qs, rfl, fs.mono (by omega), Kp.refl _ _, st9⟩
  · rintro σ H10 ⟨sh', q', rfl, fq, kp10, st10⟩
    have kpD := kpB.trans (kp69.trans kp10)
    have hb10 := hb6.kp (kp69.trans kp10) st6
    obtain ⟨y6, hy6⟩ := st6.at
    have fz10 := fz.kp (kp69.trans kp10) hy6
    refine ⟨_, rfl, rfl, _, rfl, ite2 (fun h => ?_) (fun h => ?_)⟩
    · exact ⟨_, rfl, s, rfl, st10, fun f v H11 fv kp11 st11 => k f v H11 (fv.mono (by omega)) (kpD.trans kp11) st11⟩
    · refine ⟨_, rfl, _, rfl, _, rfl, b, rs, rfl, hb10, rx, fun un H11 s11 ou => ?_⟩
      have sL : Sz 41 (1, prodL rs) := ⟨by show (1 : Int).natAbs < 2 ^ 41; decide, by show (prodL rs).natAbs < 2 ^ 41; omega⟩
      have nL : Nf (1, prodL rs) := nf_unit pb.1
      refine ⟨sh', un, q', (1, prodL rs), rfl, (fq.same s11).mono (by omega), ⟨ou, nL, sL.mono (by omega)⟩, fun m hm cm H12 s12 om => ?_⟩
      have sm : Sz 102 m := pro_sz hm fq.nf nL fq.sz sL (by omega)
      have s1112 := s11.trans s12
      refine ⟨c, cm, z, m, rfl, (fz10.same s1112).mono (by omega), ⟨om, hm.1, sm.mono (by omega)⟩, fun v hv f H13 s13 of => ?_⟩
      exact k f v H13 ⟨of, hv.1, (sum_sz (k := 200) hv fz.nf hm.1 fz.sz sm (by omega)).mono (by omega)⟩ (kpD.trans (Kp.same (s1112.trans s13))) (st10.same (s1112.trans s13))

end
end My

namespace My
open PySem PySem.Spec PyProof.Rows L2
section
variable {P : Program} {w : World} {K : PySem.W.Frag} {mg : Str → Option Value} {base : Heap}
def spHolds (K : PySem.W.Frag) : Sp := fun vs H Q _ => ∃ (a b : Addr) (q : Qt) (rs : List Int), vs = [.ref a, .ref b] ∧ Fq K H 900 a q ∧ Wd K H b rs ∧ Rdx rs ∧ ∀ H', Same H H' → Q (.bl true) H'
abbrev sHolds : Stmt := topS 75
theorem scHolds : FnScope ["_law_value_here", "_law_sizes", "_law_unit", "_law_told_here", "_law_worth", "_law_near", "_law_other", "_law_gap", "_law_exact"] ["_law_value_here", "_law_sizes"] (defScope sHolds) := ⟨rfl, rfl, rfl, by decide +kernel, rfl, by decide +kernel, by decide +kernel⟩
theorem k_Holds {C : Addr} (Y : MxC K mg C) (IC : C8.InsC K C) (eqm : EqMx P w K mg base C) (T : Bt K mg) (D : Dfn K mg "_law_holds" sHolds ["_law_value_here", "_law_sizes"]) (d__law_unit_of : Kn P w K mg base 1 "_law_unit_of" ["_law_sizes"] (spUnit K)) (d_mixed_of : KnK P w K mg base 7 "mixed_of" ["value", "radices"] ["radices"] (spMO K C)) (d_nearest_mixed : KnK P w K mg base 7 "nearest_mixed" ["value", "radices"] ["radices"] (spNM K C)) (d__law_is_place : Kn P w K mg base 3 "_law_is_place" ["_law_told_here"] (spLPlace K)) (d__law_told : Kn P w K mg base 5 "_law_told" ["_law_mixed_here", "_law_sizes"] (spTold K C)) (d__law_same : Kn P w K mg base 4 "_law_same" ["_law_told_here", "_law_due"] (spSame K 3)) (d__law_plus : Kn P w K mg base 3 "_law_plus" ["_law_left", "_law_right"] (spBin K sum2)) (d__law_times : Kn P w K mg base 3 "_law_times" ["_law_left", "_law_right"] (spBin K pro2)) (d__law_minus : Kn P w K mg base 3 "_law_minus" ["_law_left", "_law_right"] (spBin K dif2)) (d__law_over : Kn P w K mg base 3 "_law_over" ["_law_left", "_law_right"] (spBin K fun p q z => Lw z (p.1 * q.2) (p.2 * q.1))) : Kn P w K mg base 8 "_law_holds" ["_law_value_here", "_law_sizes"] (spHolds K) := by
  refine Kn.mk' D scHolds (fun vs H Q E h => ?_) (fun f cdv A outer s H vs Q E hr h => ?_)
  · obtain ⟨a, b, v, rs, rfl, _⟩ := h
    rfl
  obtain ⟨a, b, v, rs, rfl, hv, hb, rx, k⟩ := h
  refine ⟨_, (pss_cons (ps_set (i := 2) scHolds.nd rfl (.inl rfl) (pe_kn d__law_unit_of hr (by rfl) (pa_cons (pv 1) pa_nil)))
      (pss_cons (ps_set (i := 3) scHolds.nd rfl (.inl rfl) (pe_knK d_mixed_of hr (by rfl) (pa_cons (pv 0) pa_nil) (pk_cons (pv 1) pk_nil)))
      (pss_cons (ps_if (PW.pt (pw_or (pt_not (pt_val (pe_callB call_isD (by rfl) T.b_isinstance (by decide +kernel) (pa_cons (pv 3) (pa_cons (pe_bltn (v := .ty "tuple") (by rfl) T.b_tuple (by decide +kernel) rfl) pa_nil))))) (pw_or (pt_cmpR op_ne (pe_callB call_lenA (by rfl) T.b_len PySem.boot_len (pa_cons (pv 3) pa_nil)) pe_int (nomark _)) (pw_or1 (pt_not (pt_val (pe_kn d__law_is_place hr (by rfl) (pa_cons (pe_ix ix_any (pv 3) pe_int (fun _ _ => rfl)) pa_nil)))))))) (pss_one (ps_ret pe_bl)) pss_nil)
      (pss_cons (ps_set (i := 4) scHolds.nd rfl (.inl rfl) (pe_kn d__law_told hr (by rfl) (pa_cons (pe_ix ix_any (pv 3) pe_int (fun _ _ => rfl)) (pa_cons (pv 1) pa_nil))))
      (pss_cons (ps_if (PW.pt (pw_or (pt_cmpR op_isN (pv 4) pe_non (nomark _)) (pw_or1 (pt_not (pt_val (pe_kn d__law_same hr (by rfl) (pa_cons (pe_kn d__law_plus hr (by rfl) (pa_cons (pv 4) (pa_cons (pe_kn d__law_times hr (by rfl) (pa_cons (pe_ix ix_any (pv 3) pe_int (fun _ _ => rfl)) (pa_cons (pv 2) pa_nil))) pa_nil))) (pa_cons (pv 0) pa_nil)))))))) (pss_one (ps_ret pe_bl)) pss_nil)
      (pss_cons (ps_set (i := 5) scHolds.nd rfl (.inl rfl) (pe_knK d_nearest_mixed hr (by rfl) (pa_cons (pv 0) pa_nil) (pk_cons (pv 1) pk_nil)))
      (pss_cons (ps_set (i := 6) scHolds.nd rfl (.inl rfl) (pe_kn d__law_told hr (by rfl) (pa_cons (pv 5) (pa_cons (pv 1) pa_nil))))
      (pss_cons (ps_if (pt_cmpR op_isN (pv 6) pe_non (nomark _)) (pss_one (ps_ret pe_bl)) pss_nil)
      (pss_cons (ps_set (i := 7) scHolds.nd rfl (.inl rfl) (pe_kn d__law_over hr (by rfl) (pa_cons (pe_kn d__law_minus hr (by rfl) (pa_cons (pv 6) (pa_cons (pv 0) pa_nil))) (pa_cons (pv 2) pa_nil))))
      (pss_cons (ps_if (PW.pt (pw_or (pt_cmpR op_le (pe_op op_mulW pe_int (pe_ix ix_any (pv 7) pe_int (fun _ _ => rfl))) (pe_un un_neg (pe_ix ix_any (pv 7) pe_int (fun _ _ => rfl))) (nomark _)) (pw_or1 (pt_cmpR op_gt (pe_op op_mulW pe_int (pe_ix ix_any (pv 7) pe_int (fun _ _ => rfl))) (pe_ix ix_any (pv 7) pe_int (fun _ _ => rfl)) (nomark _))))) (pss_one (ps_ret pe_bl)) pss_nil)
      (pss_cons (ps_set (i := 8) scHolds.nd rfl (.inl rfl) (pe_knK d_mixed_of hr (by rfl) (pa_cons (pe_fld (pv 5) rfl) pa_nil) (pk_cons (pv 1) pk_nil)))
      (pss_one (ps_ret (pe_and (pe_cmpR op_is_bl (pe_cmpR (op_eqM eqm hr (by omega)) (pe_ix ix_any (pv 8) pe_int (fun _ _ => rfl)) (pv 5) (nomark _)) pe_bl (nomark _)) (pe_one (pe_kn d__law_same hr (by rfl) (pa_cons (pe_ix ix_any (pv 8) pe_int (fun _ _ => rfl)) (pa_cons (pe_tp (pa_cons pe_int (pa_cons pe_int pa_nil))) pa_nil)))))))))))))))))), ?_⟩
  have pb := rx.prod
  have v2 := hv.nf.1
  have nL : Nf (1, prodL rs) := nf_unit pb.1
  have sL : Sz 41 (1, prodL rs) := ⟨by show (1 : Int).natAbs < 2 ^ 41; decide, by show (prodL rs).natAbs < 2 ^ 41; omega⟩
  have hd := Int.mul_ediv_add_emod (v.1 * prodL rs) v.2
  have r0 := Int.emod_nonneg (v.1 * prodL rs) (show v.2 ≠ 0 by omega)
  have r1 := Int.emod_lt_of_pos (v.1 * prodL rs) (show 0 < v.2 by omega)
  have sv := hv.sz
  have pL : (prodL rs).natAbs < 2 ^ 950 := Nat.lt_of_lt_of_le sL.2 (Nat.pow_le_pow_right (by decide) (by decide))
  have szT : (v.1 * prodL rs).natAbs < 2 ^ 941 := szMono (szMul sv.1 sL.2) (by omega)
  have uU : (v.1 * prodL rs / v.2).natAbs < 2 ^ 941 := Nat.lt_of_le_of_lt (Int.natAbs_ediv_le_natAbs _ _) szT
  refine ⟨_, rfl, b, rs, rfl, hb, rx, fun un H1 s1 ou => ?_⟩
  refine ⟨_, rfl, _, rfl, a, b, v, rs, rfl, (hv.same s1).mono (by omega), hb.same s1, rx, fun c m p y u ps H2 s2 oc hm hf hh op hy => ?_⟩
  have s02 := s1.trans s2
  have y01 := place_of (by omega) hy r0 r1
  have syy : Sz 900 y := is_sz (by omega) hy (by have := sv.2; omega) sv.2
  have uu : u.natAbs < 2 ^ 2000 := Nat.lt_of_le_of_lt (hor_abs hf rx) (by rw [hh]; exact Nat.lt_of_lt_of_le uU (Nat.pow_le_pow_right (by decide) (by decide)))
  have ty : tyN K H2 (.ref c) = some "tuple" := by rw [tyN_ref, oc]; rfl
  refine ⟨_, rfl, .ref c, "tuple", rfl, by decide, _, Kd.ty ty, _, rfl, if_no rfl ?_⟩
  refine ⟨_, rfl, c, rfl, _, itsO_of oc, rfl, _, rfl, if_no rfl ?_⟩
  refine ⟨_, rfl, c, 1, rfl, rfl, _, itsO_of oc, _, atI_1 _ _ _, p, y, rfl, ⟨op, hy.1, syy.mono (by omega)⟩, y01.1, y01.2, _, rfl, if_no rfl ?_⟩
  refine ⟨_, rfl, c, 0, rfl, rfl, _, itsO_of oc, _, atI_0 _ _, _, rfl, m, b, u, ps, rs, rfl, hm, hb.same s02, rx, hf, uu, fun w' hw' pw H3 s3 ow => ?_⟩
  rw [hh] at hw'
  have sw : Sz 950 w' := is_sz (by omega) hw' (Nat.lt_of_lt_of_le uU (Nat.pow_le_pow_right (by decide) (by decide))) pL
  refine ⟨_, rfl, rfl, _, rfl, if_no rfl ?_⟩
  refine ⟨_, rfl, _, rfl, c, 1, rfl, rfl, _, itsO_of (ob_same s3 oc), _, atI_1 _ _ _, _, rfl, p, un, y, (1, prodL rs), rfl, ⟨ob_same s3 op, hy.1, syy.mono (by omega)⟩, ⟨ob_same (s2.trans s3) ou, nL, sL.mono (by omega)⟩, fun t ht pt H4 s4 ot => ?_⟩
  have stt : Sz 942 t := pro_sz ht hy.1 nL syy sL (by omega)
  refine ⟨pw, pt, w', t, rfl, ⟨ob_same s4 ow, hw'.1, sw.mono (by omega)⟩, ⟨ot, ht.1, stt.mono (by omega)⟩, fun z hz pz H5 s5 oz => ?_⟩
  have s05 := ((s02.trans s3).trans s4).trans s5
  have ez : z = v := back_sum (U := v.1 * prodL rs / v.2) hv.nf pb.1 (by rw [Int.mul_comm (v.1 * prodL rs / v.2)]; exact hd.symm) hw' hy ht hz
  subst ez
  refine ⟨_, rfl, _, _, rfl, (eqv_tup oz (hv.same s05).o rfl (by show 2 ≤ 1000; decide)).up, fun H6 s6 => ⟨_, rfl, if_no rfl ?_⟩⟩
  have s06 := s05.trans s6
  refine ⟨_, rfl, _, rfl, a, b, z, rs, rfl, (hv.same s06).mono (by omega), hb.same s06, rx, fun m2 u2 ps2 H7 s7 hm2 hf2 hh2 => ?_⟩
  have s07 := s06.trans s7
  have szN : ((2 * (z.1 * prodL rs) + z.2) / (2 * z.2)).natAbs < 2 ^ 945 := Nat.lt_of_le_of_lt (Int.natAbs_ediv_le_natAbs _ _) (by
    have h2 : z.2.natAbs < 2 ^ 941 := Nat.lt_of_lt_of_le sv.2 (Nat.pow_le_pow_right (by decide) (by decide))
    have e : (2 : Nat) ^ 945 = 2 ^ 941 * 16 := by rw [← Nat.pow_add 2 941 4]
    generalize (2 : Nat) ^ 941 = M at szT h2 e
    omega)
  have uu2 : u2.natAbs < 2 ^ 2000 := Nat.lt_of_le_of_lt (hor_abs hf2 rx) (by rw [hh2]; exact Nat.lt_of_lt_of_le szN (Nat.pow_le_pow_right (by decide) (by decide)))
  refine ⟨_, rfl, _, rfl, m2, b, u2, ps2, rs, rfl, hm2, hb.same s07, rx, hf2, uu2, fun o ho po H8 s8 oo => ?_⟩
  have ho' := ho
  rw [hh2] at ho
  have so : Sz 950 o := is_sz (by omega) ho (Nat.lt_of_lt_of_le szN (Nat.pow_le_pow_right (by decide) (by decide))) pL
  have s08 := s07.trans s8
  refine ⟨_, rfl, rfl, _, rfl, if_no rfl ?_⟩
  refine ⟨_, rfl, _, rfl, po, a, o, z, rfl, ⟨oo, ho.1, so.mono (by omega)⟩, (hv.same s08).mono (by omega), fun d hd' pd H9 s9 od => ?_⟩
  have sd : Sz 1860 d := dif_sz hd' ho.1 hv.nf so sv (by omega)
  refine ⟨_, rfl, pd, un, d, (1, prodL rs), rfl, ⟨od, hd'.1, sd.mono (by omega)⟩, ⟨ob_same ((((((s2.trans s3).trans s4).trans s5).trans s6).trans s7).trans (s8.trans s9)) ou, nL, sL.mono (by omega)⟩, fun g hg pg H10 s10 og => ?_⟩
  have d2 := hd'.1.1
  have hg' : Is g (d.1 * prodL rs) (d.2 * 1) := hg.2 (by show d.2 * 1 ≠ 0; omega)
  have sg : Sz 1902 g := is_sz (by omega) hg' (szMono (szMul sd.1 sL.2) (by omega)) (szMono (szMul sd.2 sL.1) (by omega))
  obtain ⟨b0, b1⟩ := gap_bd hv.nf hg'.1 rfl (gap_of hv.nf pb.1 ho hd' hg')
  have mw : CMulW 2 g.1 := mulW (a := 2) (b := 1902) (by decide) sg.1 (by omega)
  refine ⟨_, rfl, pg, 0, rfl, rfl, _, itsO_of og, _, atI_0 _ _, _, _, rfl, rfl, mw, _, rfl, pg, 1, rfl, rfl, _, itsO_of og, _, atI_1 _ _ _, _, rfl, _, _, rfl, rfl, _, rfl, if_no (decide_eq_false (by omega)) ?_⟩
  refine ⟨_, rfl, pg, 0, rfl, rfl, _, itsO_of og, _, atI_0 _ _, _, _, rfl, rfl, mw, _, rfl, pg, 1, rfl, rfl, _, itsO_of og, _, atI_1 _ _ _, _, _, rfl, rfl, _, rfl, if_no (decide_eq_false (by omega)) ?_⟩
  have s710 := (s8.trans s9).trans s10
  have hm210 := hm2.same s710
  obtain ⟨dx, t', r', zz, qz, hi, ht', hr', hz', hq'⟩ := id hm210
  have eqz : o = qz := is_unique (by omega) ho' hq'
  subst eqz
  have o2 := ho.1.1
  have eN : o.1 * prodL rs = hor u2 ps2 rs * o.2 := ho'.2
  have s010 := s07.trans s710
  refine ⟨_, rfl, m2, C, dx, _, _, rfl, hi, Y.cl, Y.nZ, mx_l4 _ _ _ _, _, rfl, zz, b, o, rs, rfl, ⟨hz', ho.1, so.mono (by omega)⟩, hb.same s010, rx, fun c3 m3 p3 y3 u3 ps3 H11 s11 oc3 hm3 hf3 hh3 op3 hy3 => ?_⟩
  rw [eN, Int.mul_ediv_cancel _ (show o.2 ≠ 0 by omega)] at hh3
  rw [eN, Int.mul_emod_left] at hy3
  obtain ⟨e1, e2⟩ := hor_inj hf3 hf2 hh3
  subst e1 e2
  have ey : y3 = (0, 1) := is_unique (t := 0) (b := o.2) (by omega) hy3 ⟨nf01, by show (0 : Int) * o.2 = 0 * 1; omega⟩
  subst ey
  refine ⟨_, rfl, c3, 0, rfl, rfl, _, itsO_of oc3, _, atI_0 _ _, _, rfl, mEq IC hm3 (hm210.same s11) ⟨true, true, rfl, rfl, _, rfl, if_yes rfl ?_⟩⟩
  refine ⟨_, rfl, c3, 1, rfl, rfl, _, itsO_of oc3, _, atI_1 _ _ _, sz2 (by show 2 ≤ 100; decide), fun e he ke => ⟨_, _, rfl, (eqv_tup (ob_same (Same.new he _) op3) (ob_new ke) rfl (by show 2 ≤ 1000; decide)).up, fun H12 s12 => ?_⟩⟩
  exact k H12 ((s010.trans s11).trans ((Same.new he _).trans s12))

end
end My

namespace My
open PySem PySem.Spec PyProof.Rows L2
section
variable {P : Program} {w : World} {K : PySem.W.Frag} {mg : Str → Option Value} {base : Heap}
end
/-- a def with a keyword-only parameter, called by place and by name, that raises -/
structure KnKX (P : Program) (w : World) (K : PySem.W.Frag) (mg : Str → Option Value) (base : Heap) (k : Nat) (x : Str) (ps ks : List Str) (sp : Sp) : Prop where
  ex : ∃ f fd, mg x = some (.ref f) ∧ PySem.W.keepIn K (.ref f) = true ∧ KBinds K fd ps ks kw2 kw2 ∧ FnOk P w K mg base (L2.CX P w) k f fd ps sp
theorem KnKX.mk' {P : Program} {w : World} {K : PySem.W.Frag} {mg : Str → Option Value} {base : Heap} {x : Str} {st : Stmt} {N ps ks : List Str} {k : Nat} {sp : Sp} (D : DfnK K mg x st ps ks) (S : FnScope N ps (defScope st)) (len : ∀ vs H Q E, sp vs H Q E → vs.length = ps.length)
    (hbody : ∀ (f : Addr) (cdv : Value) (A : Around) (outer : List Env) (s : Shared) (H : Hp) (vs : List V) (Q : VK) (E : XK), Room k (A.deeper (envOfC x (defScope st) s.heap.objs.size f cdv)) → sp vs H Q E →
      ∃ t, PSs (cxOf (L2.CX P w) P w K mg base N x (defScope st) f cdv A outer s H E) (defBody st) t ∧ t { nx := fun _ H' => Q .non H', rt := Q } (start N vs) H) : KnKX P w K mg base (k + 1) x ps ks sp := by
  obtain ⟨f, fd, F, m, b⟩ := D.ex
  exact ⟨f, fd, m, F.kp, b, F.okX S len (hbody f)⟩
def tCallXK (i : Nat) (S : Addr → Prop) (sp : Sp) (E : XK) (t tk : TA) : TE := fun σ H Q => ∃ f, σ[i]? = some (some (.ref f)) ∧ S f ∧ t σ H fun vs H1 => tk σ H1 fun zs H2 => sp (kw2 vs zs) H2 Q E
section
variable {X : Cx}
/-- a captured name that holds a def, called with a keyword -/
theorem pe_callXK {k i : Nat} {S : Addr → Prop} {sp : Sp} {x : Str} {ks : List Str} {p pos : Pos} {e : Expr} {es : List Expr} {kws : List Keyword} {t tk' : TA} {W : WX} (E : XK) (A : ∀ f, S f → ∃ fd ps, FnOk X.prog X.w X.K X.mg X.base (L2.CX X.prog X.w) k f fd ps sp ∧ PySem.W.keepIn X.K (.ref f) = true ∧ KBinds X.K fd ps ks kw2 kw2) (hr : Room k X.A) (hN : X.N[i]? = some x) (hv : Vis X.env.scope x)
    (tk : Takes X W) (hW : ∀ cls d σ H, E cls d H → W cls d σ H) (ha : PA X (e :: es) t) (hkw : PK X kws tk') (hall : (backToKw pos (keywordEach kws X.env)).all (·.1.isSome) = true := by rfl) (hks : (backToKw pos (keywordEach kws X.env)).filterMap (·.1) = ks := by rfl)
    (hdb : (x == ("__debug__" : Str)) = false := by decide) (hcd : (x == ("__classdict__" : Str)) = false := by decide) (he : starEach (e :: es) X.env = (false, eval e X.env) :: starEach es X.env := by rfl)
    (hpl : ((backTo pos (starEach (e :: es) X.env)).any (·.1) || (backToKw pos (keywordEach kws X.env)).any (·.1.isNone)) = false := by rfl) : PE X (.Call (.Name x p) (e :: es) kws pos) (tCallXK i S sp E t tk') := ⟨fun pins s σ H Q I h => by
  obtain ⟨f, hs, hS, ht⟩ := h
  obtain ⟨fd, ps, F, hk, hb⟩ := A f hS
  refine wpAny_Call_Name_kw (thn ((pe_var (pos := p) hN hv hdb hcd).run pins s σ H (fun v H1 => v = .ref f ∧ H1 = H) I ⟨.ref f, hs, rfl, rfl⟩) fun u s1 ⟨v, H1, I1, r1, q1⟩ => ?_)
  obtain ⟨rfl, rfl⟩ := q1
  cases r1
  refine PySem.W.callWith_KW (h₀ := X.base) I1.ok.mod.kin hk hall (thn (ha.run pos pins s1 σ _ _ I1 ht) fun us s2 ⟨vs, H2, I2, r, q⟩ => ?_) hpl he
  refine thn (hkw.run pos pins s2 σ H2 _ I2 q) fun ws s3 ⟨zs, H3, I3, rz, q2⟩ => ⟨I3.kIn, ?_⟩
  rw [hks]
  exact run_fnk F hr hb (passes_call tk hW) I3 r rz q2⟩
end
section
variable {P : Program} {w : World} {K : PySem.W.Frag} {mg : Str → Option Value} {base : Heap}
theorem Bv.mono {C : Addr} {H H1 : Hp} {E : XK} {y : V} (h : Bv K C H E y) (s : Same H H1) : Bv K C H1 E y := fun d H' s2 hd => h d H' (s.trans s2) hd
def spMX (K : PySem.W.Frag) (C : Addr) : Sp := fun vs H _ E => (∃ v u, vs = [v, u] ∧ Gd K H v ∧ Bv K C H E (.str "value")) ∨ (∃ a q u, vs = [.ref a, u] ∧ Fq K H 1500 a q ∧ RdJ K H u false ∧ Bv K C H E (.str "radices"))
theorem kx_MO {C : Addr} (Z : Bt K mg) (D : DfnK K mg "mixed_of" sMO ["value", "radices"] ["radices"]) (d_x : KnX P w K mg base 3 "require" ["well_formed", "what"] (spRequireX K C)) (d_require : Kn P w K mg base 1 "require" ["well_formed", "what"] spRequire) (d_is_fraction : Kn P w K mg base 2 "is_fraction" ["value"] (spIsFraction K)) (d__are_radices : Kn P w K mg base 3 "_are_radices" ["value"] (spArR K)) : KnKX P w K mg base 4 "mixed_of" ["value", "radices"] ["radices"] (spMX K C) := by
  refine KnKX.mk' D scMO (fun vs H Q E h => ?_) (fun f cdv A outer s H vs Q E hr h => ?_)
  · rcases h with ⟨v, u, rfl, _⟩ | ⟨a, q, u, rfl, _⟩ <;> rfl
  rcases h with ⟨v, u, rfl, hv, k⟩ | ⟨a, q, u, rfl, hq, hu, k⟩
  · refine ⟨_, (pss_cons (ps_expr (pe_knX E d_x hr (by rfl) (takes_of rfl rfl rfl rfl) (fun _ _ _ _ h => h) (pa_cons (pe_kn d_is_fraction hr (by rfl) (pa_cons (pv 0) pa_nil)) (pa_cons pe_str pa_nil)))) (pss_cons ps_never (pss_cons ps_never (pss_cons ps_never (pss_one ps_never))))), ?_⟩
    refine ⟨_, rfl, v, rfl, hv.ty, ?_⟩
    rw [hv.no]
    exact ⟨_, rfl, k⟩
  · refine ⟨_, (pss_cons (ps_expr (pe_kn d_require hr (by rfl) (pa_cons (pe_kn d_is_fraction hr (by rfl) (pa_cons (pv 0) pa_nil)) (pa_cons pe_str pa_nil)))) (pss_cons (ps_expr (pe_knX E d_x hr (by rfl) (takes_of rfl rfl rfl rfl) (fun _ _ _ _ h => h) (pa_cons (pe_kn d__are_radices hr (by rfl) (pa_cons (pv 1) pa_nil)) (pa_cons pe_str pa_nil)))) (pss_cons ps_never (pss_cons ps_never (pss_one ps_never))))), ?_⟩
    refine ⟨_, rfl, _, rfl, Tyd.fr hq.o, _, by rw [frOk_fr hq.o hq.nf]; rfl, ?_⟩
    exact ⟨_, rfl, u, false, rfl, hu, fun H1 s1 => ⟨_, rfl, k.mono s1⟩⟩
theorem kx_NM {C : Addr} (Z : Bt K mg) (D : DfnK K mg "nearest_mixed" sNM ["value", "radices"] ["radices"]) (d_x : KnX P w K mg base 3 "require" ["well_formed", "what"] (spRequireX K C)) (d_require : Kn P w K mg base 1 "require" ["well_formed", "what"] spRequire) (d_is_fraction : Kn P w K mg base 2 "is_fraction" ["value"] (spIsFraction K)) (d__are_radices : Kn P w K mg base 3 "_are_radices" ["value"] (spArR K)) : KnKX P w K mg base 4 "nearest_mixed" ["value", "radices"] ["radices"] (spMX K C) := by
  refine KnKX.mk' D scNM (fun vs H Q E h => ?_) (fun f cdv A outer s H vs Q E hr h => ?_)
  · rcases h with ⟨v, u, rfl, _⟩ | ⟨a, q, u, rfl, _⟩ <;> rfl
  rcases h with ⟨v, u, rfl, hv, k⟩ | ⟨a, q, u, rfl, hq, hu, k⟩
  · refine ⟨_, (pss_cons (ps_expr (pe_knX E d_x hr (by rfl) (takes_of rfl rfl rfl rfl) (fun _ _ _ _ h => h) (pa_cons (pe_kn d_is_fraction hr (by rfl) (pa_cons (pv 0) pa_nil)) (pa_cons pe_str pa_nil)))) (pss_cons ps_never (pss_cons ps_never (pss_one ps_never)))), ?_⟩
    refine ⟨_, rfl, v, rfl, hv.ty, ?_⟩
    rw [hv.no]
    exact ⟨_, rfl, k⟩
  · refine ⟨_, (pss_cons (ps_expr (pe_kn d_require hr (by rfl) (pa_cons (pe_kn d_is_fraction hr (by rfl) (pa_cons (pv 0) pa_nil)) (pa_cons pe_str pa_nil)))) (pss_cons (ps_expr (pe_knX E d_x hr (by rfl) (takes_of rfl rfl rfl rfl) (fun _ _ _ _ h => h) (pa_cons (pe_kn d__are_radices hr (by rfl) (pa_cons (pv 1) pa_nil)) (pa_cons pe_str pa_nil)))) (pss_cons ps_never (pss_one ps_never)))), ?_⟩
    refine ⟨_, rfl, _, rfl, Tyd.fr hq.o, _, by rw [frOk_fr hq.o hq.nf]; rfl, ?_⟩
    exact ⟨_, rfl, u, false, rfl, hu, fun H1 s1 => ⟨_, rfl, k.mono s1⟩⟩
end
end My

namespace My
open PySem PySem.Spec PyProof.Rows L2
section
variable {P : Program} {w : World} {K : PySem.W.Frag} {mg : Str → Option Value} {base : Heap}
abbrev sRfz : Stmt := topS 76
theorem scRfz : FnScope ["_law_store_here", "_law_value_here", "_law_sizes", "_law_bad", "_law_call", "_law_strange"] ["_law_store_here", "_law_value_here", "_law_sizes"] (defScope sRfz) := ⟨rfl, rfl, rfl, by decide +kernel, rfl, by decide +kernel, by decide +kernel⟩
theorem Gd.extN {H H' : Hp} {v : V} (h : Gd K H v) (e : LamX.ExtN H H') : Gd K H' v := h.ext e
theorem Fq.ext {H H' : Hp} {n : Nat} {a : Addr} {q : Qt} (h : Fq K H n a q) (e : LamX.ExtN H H') : Fq K H' n a q := ⟨ob_ext e (fun ps z => by cases z) h.o, h.nf, h.sz⟩
theorem Wd.ext {H H' : Hp} {a : Addr} {l : List Int} (h : Wd K H a l) (e : LamX.ExtN H H') : Wd K H' a l := ob_ext e (fun ps z => by cases z) h
theorem Wd.bg {H H' : Hp} {s a : Addr} {ys : List V} {l : List Int} (h : Wd K H a l) (e : Bg s H H') (hs : H s = some (.lst ys)) : Wd K H' a l := ob_bg e hs h
def qLam : Str := ("_law_refuses" ++ ".<locals>.") ++ "<lambda>"
def isTwo (mg : Str → Option Value) (f : Addr) : Prop := ∃ n ∈ (["mixed_of", "nearest_mixed"] : List Str), mg n = some (.ref f)
structure TwoM (mg : Str → Option Value) (f1 f2 : Addr) : Prop where
  m1 : mg "mixed_of" = some (.ref f1)
  m2 : mg "nearest_mixed" = some (.ref f2)
def spRz (K : PySem.W.Frag) (Pt : Addr) : Sp := fun vs H Q _ => ∃ (sr a b : Addr) (q : Qt) (rs : List Int), vs = [.ref sr, .ref a, .ref b] ∧ LawS K [(Pt, qLam)] H sr ∧ Fq K H 900 a q ∧ Wd K H b rs ∧ Rdx rs ∧ ∀ H', Bg sr H H' → LawS K [(Pt, qLam)] H' sr → Q (.bl true) H'
def RzI (K : PySem.W.Frag) (T : List (Addr × Str)) (sr a b : Addr) (v u : V) (H1 : Hp) (_ : Nat) (σ : L2.St) (H' : Hp) : Prop := ∃ x5, σ = [some (.ref sr), some (.ref a), some (.ref b), some v, x5, some u] ∧ LawS K T H' sr ∧ Bg sr H1 H' ∧ Gd K H' v ∧ SbR K (Fz sr sr) H' u
theorem ok_Rfz {CB MM S fa g c Pt f1 f2 : Addr} {A : String → Addr} {oc dV kV doc pm cdv ct oc' dV' kV' doc' pm' ct' : Value} {od an od' an' : Option Addr} {osl osl' : Array (Option Value)} (T : Bt K mg) (B : BvT K mg CB) (AT : AskT K mg CB S A) (AM : AskM K MM S A) (AS : AskD K mg g oc od dV kV doc pm an cdv ct osl) (F2 : TwoM mg f1 f2)
    (lkR : K.lookup fa = some ⟨oc', od', .func (PySem.W.fnOf "_law_refuses" "_law_refuses" (defArgs sRfz) (defBody sRfz) (defScope sRfz) dV' kV' doc' pm' an' (.ref c) ct'), osl'⟩) (cdR : PySem.W.codeIn K (.ref c) "_law_refuses" = true) (TB : LamX.TabB base mg c Pt)
    (HX : ∀ f, isTwo mg f → ∃ fd ps, FnOk P w K mg base (L2.CX P w) 4 f fd ps (spMX K CB) ∧ PySem.W.keepIn K (.ref f) = true ∧ KBinds K fd ps ["radices"] kw2 kw2)
    (d__law_same : Kn P w K mg base 4 "_law_same" ["_law_told_here", "_law_due"] (spSame K 3)) (d__law_bad_frac : Kn P w K mg base 4 "_law_bad_frac" ["_law_store_here"] (spBadFrac K)) (d__law_bad_sizes : Kn P w K mg base 6 "_law_bad_sizes" ["_law_store_here", "_law_sizes"] (spBSz K)) : FnOk P w K mg base CX0 7 fa (PySem.W.fnOf "_law_refuses" "_law_refuses" (defArgs sRfz) (defBody sRfz) (defScope sRfz) dV' kV' doc' pm' an' (.ref c) ct') ["_law_store_here", "_law_value_here", "_law_sizes"] (spRz K Pt) := by
  refine fn_of lkR cdR scRfz (fun vs H Q E h => ?_) fun A outer s H vs Q E hr h => ?_
  · obtain ⟨sr, a, b, q, rs, rfl, _⟩ := h
    rfl
  obtain ⟨sr, a, b, q, rs, rfl, LS0, ha, hb, rx, k⟩ := h
  refine ⟨_, PSs.nox (pss_cons (ps_set (i := 3) scRfz.nd rfl (.inr rfl) (pe_kn d__law_bad_frac hr (by rfl) (pa_cons (pv 0) pa_nil)))
      (pss_cons (ps_set (i := 5) scRfz.nd rfl (.inr rfl) (pe_kn d__law_bad_sizes hr (by rfl) (pa_cons (pv 0) (pa_cons (pv 2) pa_nil))))
      (pss_cons (ps_for PassesOwn.never rfl (pi_list (pe_ls (pa_cons (pe_glob (v := .ref f1) (by rfl) F2.m1 rfl) (pa_cons (pe_glob (v := .ref f2) (by rfl) F2.m2 rfl) pa_nil)))) (pg_name (i := 4) scRfz.nd rfl (.inr rfl)) (pss_cons (ps_if (pt_not (pt_val (pe_kn d__law_same hr (by rfl) (pa_cons (LamX.pe_lamcall (T := [(Pt, qLam)]) (TT := TAsk2 K CB MM) (t := fun E => tCallXK 4 (isTwo mg) (spMX K CB) E (tCons (tVar 3) L2.tNil) (tCons (tVar 2) L2.tNil)) (by rfl) AS.m AS.kp AS.lk AS.cd AS.b scAsked rfl (.inl rfl) (asked_gives2 T B AT AM) TB rfl (List.mem_cons_self ..) (fun p hp _ => by simp only [List.mem_cons, List.not_mem_nil, or_false] at hp; subst hp; rfl) hr (LamX.lamS_by (by show LamX.lamSB (defScope sRfz) _ = true; decide +kernel)) rfl (fun _ _ _ _ _ => rfl) (fun A outer s H E f c' hr' => pe_callXK E (fun f hf => HX f hf) hr' (by rfl) (.inr (.inr rfl)) (takes_of rfl rfl rfl rfl) (fun _ _ _ _ h => h) (pa_cons (pv 3) pa_nil) (pk_cons (pv 2) pk_nil))) (pa_cons (pe_tp (pa_cons pe_str (pa_cons pe_str pa_nil))) pa_nil))))) (pss_one (ps_ret pe_bl)) pss_nil)
      (pss_cons (ps_if (pt_not (pt_val (pe_kn d__law_same hr (by rfl) (pa_cons (LamX.pe_lamcall (T := [(Pt, qLam)]) (TT := TAsk2 K CB MM) (t := fun E => tCallXK 4 (isTwo mg) (spMX K CB) E (tCons (tVar 3) L2.tNil) (tCons (tVar 5) L2.tNil)) (by rfl) AS.m AS.kp AS.lk AS.cd AS.b scAsked rfl (.inl rfl) (asked_gives2 T B AT AM) TB rfl (List.mem_cons_self ..) (fun p hp _ => by simp only [List.mem_cons, List.not_mem_nil, or_false] at hp; subst hp; rfl) hr (LamX.lamS_by (by show LamX.lamSB (defScope sRfz) _ = true; decide +kernel)) rfl (fun _ _ _ _ _ => rfl) (fun A outer s H E f c' hr' => pe_callXK E (fun f hf => HX f hf) hr' (by rfl) (.inr (.inr rfl)) (takes_of rfl rfl rfl rfl) (fun _ _ _ _ h => h) (pa_cons (pv 3) pa_nil) (pk_cons (pv 5) pk_nil))) (pa_cons (pe_tp (pa_cons pe_str (pa_cons pe_str pa_nil))) pa_nil))))) (pss_one (ps_ret pe_bl)) pss_nil)
      (pss_one (ps_if (pt_not (pt_val (pe_kn d__law_same hr (by rfl) (pa_cons (LamX.pe_lamcall (T := [(Pt, qLam)]) (TT := TAsk2 K CB MM) (t := fun E => tCallXK 4 (isTwo mg) (spMX K CB) E (tCons (tVar 1) L2.tNil) (tCons (tVar 5) L2.tNil)) (by rfl) AS.m AS.kp AS.lk AS.cd AS.b scAsked rfl (.inl rfl) (asked_gives2 T B AT AM) TB rfl (List.mem_cons_self ..) (fun p hp _ => by simp only [List.mem_cons, List.not_mem_nil, or_false] at hp; subst hp; rfl) hr (LamX.lamS_by (by show LamX.lamSB (defScope sRfz) _ = true; decide +kernel)) rfl (fun _ _ _ _ _ => rfl) (fun A outer s H E f c' hr' => pe_callXK E (fun f hf => HX f hf) hr' (by rfl) (.inr (.inr rfl)) (takes_of rfl rfl rfl rfl) (fun _ _ _ _ h => h) (pa_cons (pv 1) pa_nil) (pk_cons (pv 5) pk_nil))) (pa_cons (pe_tp (pa_cons pe_str (pa_cons pe_str pa_nil))) pa_nil))))) (pss_one (ps_ret pe_bl)) pss_nil)))))
      (pss_one (ps_ret pe_bl))))), ?_⟩
  simp only [cx_K]
  refine ⟨_, rfl, sr, rfl, LS0.st, fun v H1 hv kp1 st1 => ?_⟩
  obtain ⟨ys0, hys0⟩ := LS0.st.at
  have LS1 := LS0.kp kp1 st1
  have ha1 := ha.kp kp1 hys0
  have hb1 := hb.kp kp1 LS0.st
  obtain ⟨ys1, hys1⟩ := st1.at
  refine ⟨_, rfl, _, rfl, sr, b, rs, rfl, st1, hb1, rx, fun u H2 hu kp2 st2 => ?_⟩
  have LS2 := LS1.kp kp2 st2
  have ha2 := ha1.kp kp2 hys1
  have hb2 := hb1.kp kp2 st1
  have hv2 := Gd.kp kp2 st2 hv
  refine ⟨sz2 (by show 2 ≤ 100; decide), fun l2 hl2 kl2 => ?_⟩
  obtain ⟨ys2, hys2⟩ := st2.at
  have n2 : l2 ≠ sr := (ne_new hys2 hl2).symm
  have s3 := Same.new hl2 (.lst [.ref f1, .ref f2])
  have LS3 := LS2.same s3
  have hys3 := s3 _ _ hys2
  have ha3 := ha2.same s3
  have hb3 := hb2.same s3
  have hv3 := hv2.same s3
  have hu3 := hu.kx (Kx.same s3)
  have hl1 := upd_same (H := H2) (a := l2) (o := .lst [.ref f1, .ref f2])
  have k1 : ∀ H', Bg sr (upd H2 l2 (.lst [.ref f1, .ref f2])) H' → LawS K [(Pt, qLam)] H' sr → Q (.bl true) H' := fun H' e => k H' (((Bg.kp kp1).trans (Bg.kp kp2)).trans ((Bg.same s3).trans e))
  generalize upd H2 l2 (.lst [.ref f1, .ref f2]) = H3 at s3 LS3 hys3 ha3 hb3 hv3 hu3 hl1 k1 ⊢
  clear LS0 LS1 LS2 ha ha1 ha2 hb hb1 hb2 hv hv2 hu k kp1 kp2 st1 st2 s3 hl2 hys0 hys1 hys2
  refine ⟨l2, rfl, ⟨_, .of hl1⟩, forI_list (xs := [.ref f1, .ref f2]) (RzI K [(Pt, qLam)] sr a b v u H3) ⟨none, rfl, LS3, Bg.refl _ _, hv3, hu3⟩ ?_ ?_ ?_⟩
  · rintro i σ H' _ ⟨x5, rfl, LS, bg, hv, hu⟩
    exact .of (bg _ _ n2 (fun _ z => by cases z) hl1)
  · rintro i x σ H' hi ⟨x5, rfl, LS, bg, hv, hu⟩
    obtain ⟨f, rfl, hf⟩ : ∃ f, x = .ref f ∧ isTwo mg f := by
      have hy := List.mem_of_getElem? hi
      simp only [List.mem_cons, List.not_mem_nil, or_false] at hy
      rcases hy with rfl | rfl
      · exact ⟨_, rfl, _, by simp, F2.m1⟩
      · exact ⟨_, rfl, _, by simp, F2.m2⟩
    have ha := ha3.bg bg hys3
    have hb := hb3.bg bg hys3
    clear hi
    refine ⟨LS.tb, fun Ha ea tt => ?_⟩
    have LS : LawS K [(Pt, qLam)] Ha sr := ⟨LS.st.ext ea, tt⟩
    have bg := bg.trans (Bg.ext ea)
    have hv := hv.extN ea
    have hu := hu.kx (Kx.ext ea)
    have ha := ha.ext ea
    have hb := hb.ext ea
    refine ⟨f, rfl, hf, _, rfl, _, rfl, .inl ⟨v, _, rfl, hv, fun dd Hb sb hb' => .inl ⟨rfl, dd, _, rfl, hb', fun c2 Hc sc oc => ?_⟩⟩⟩
    refine ⟨sz2 (by show 2 ≤ 100; decide), fun p hp kp => ?_⟩
    have sd := Same.new hp (.tup [.str "BadValue", .str "value"])
    refine ⟨_, _, rfl, (eqv_tup (ob_same sd oc) (ob_new kp) rfl (by show 2 ≤ 1000; decide)).up, fun He se => ⟨true, rfl, if_no rfl ?_⟩⟩
    have sY := (sb.trans sc).trans (sd.trans se)
    have LS := LS.same sY
    have bg := bg.trans (Bg.same sY)
    have hv := hv.same sY
    have hu := hu.kx (Kx.same sY)
    have ha := ha.same sY
    have hb := hb.same sY
    clear ea tt sb hb' sc oc sd se sY hp kp
    refine ⟨LS.tb, fun Ha ea tt => ?_⟩
    have LS : LawS K [(Pt, qLam)] Ha sr := ⟨LS.st.ext ea, tt⟩
    have bg := bg.trans (Bg.ext ea)
    have hv := hv.extN ea
    have hu := hu.kx (Kx.ext ea)
    have ha := ha.ext ea
    have hb := hb.ext ea
    refine ⟨f, rfl, hf, _, rfl, _, rfl, .inl ⟨v, _, rfl, hv, fun dd Hb sb hb' => .inl ⟨rfl, dd, _, rfl, hb', fun c2 Hc sc oc => ?_⟩⟩⟩
    refine ⟨sz2 (by show 2 ≤ 100; decide), fun p hp kp => ?_⟩
    have sd := Same.new hp (.tup [.str "BadValue", .str "value"])
    refine ⟨_, _, rfl, (eqv_tup (ob_same sd oc) (ob_new kp) rfl (by show 2 ≤ 1000; decide)).up, fun He se => ⟨true, rfl, if_no rfl ?_⟩⟩
    have sY := (sb.trans sc).trans (sd.trans se)
    have LS := LS.same sY
    have bg := bg.trans (Bg.same sY)
    have hv := hv.same sY
    have hu := hu.kx (Kx.same sY)
    have ha := ha.same sY
    have hb := hb.same sY
    clear ea tt sb hb' sc oc sd se sY hp kp
    refine ⟨LS.tb, fun Ha ea tt => ?_⟩
    have LS : LawS K [(Pt, qLam)] Ha sr := ⟨LS.st.ext ea, tt⟩
    have bg := bg.trans (Bg.ext ea)
    have hv := hv.extN ea
    have hu := hu.kx (Kx.ext ea)
    have ha := ha.ext ea
    have hb := hb.ext ea
    refine ⟨f, rfl, hf, _, rfl, _, rfl, .inr ⟨a, q, u, rfl, ha.mono (by omega), hu.now, fun dd Hb sb hb' => .inl ⟨rfl, dd, _, rfl, hb', fun c2 Hc sc oc => ?_⟩⟩⟩
    refine ⟨sz2 (by show 2 ≤ 100; decide), fun p hp kp => ?_⟩
    have sd := Same.new hp (.tup [.str "BadValue", .str "radices"])
    refine ⟨_, _, rfl, (eqv_tup (ob_same sd oc) (ob_new kp) rfl (by show 2 ≤ 1000; decide)).up, fun He se => ⟨true, rfl, if_no rfl ?_⟩⟩
    have sY := (sb.trans sc).trans (sd.trans se)
    have LS := LS.same sY
    have bg := bg.trans (Bg.same sY)
    have hv := hv.same sY
    have hu := hu.kx (Kx.same sY)
    have ha := ha.same sY
    have hb := hb.same sY
    exact ⟨_, rfl, LS, bg, hv, hu⟩
  rintro σ H' ⟨x5, rfl, LS, bg, hv, hu⟩
  exact k1 H' bg LS
end
end My

namespace My
open PySem PySem.Spec PyProof.Rows L2
section
variable {P : Program} {w : World} {K : PySem.W.Frag} {mg : Str → Option Value} {base : Heap}
abbrev sLaw : Stmt := topS 77
theorem scLaw : FnScope ["_law_script", "_law_store_here", "_law_sizes", "_law_other", "_law_value_here", "_law_step", "_law_deep", "_law_rows", "_law_row"] ["_law_script"] (defScope sLaw) := ⟨rfl, rfl, rfl, by decide +kernel, rfl, by decide +kernel, by decide +kernel⟩
def spLaw (K : PySem.W.Frag) (Pt : Addr) : Sp := fun vs H Q _ => ∃ (a : Addr) (ns : List Int), vs = [.ref a] ∧ SqL K H a (ns.map V.int) ∧ H Pt = some (.tbl #[]) ∧ ∀ H', Q (.bl true) H'
def RowOk (K : PySem.W.Frag) (H : Hp) (v : V) : Prop := ∃ t a b q rs, v = .ref t ∧ ob K H t = some (.tup [.ref a, .ref b]) ∧ Fq K H 900 a q ∧ Wd K H b rs ∧ Rdx rs
theorem RowOk.same {H H' : Hp} {v : V} (h : RowOk K H v) (e : Same H H') : RowOk K H' v := by
  obtain ⟨t, a, b, q, rs, r, o, f, g, x⟩ := h
  exact ⟨t, a, b, q, rs, r, ob_same e o, f.same e, g.same e, x⟩
theorem RowOk.bg {H H' : Hp} {s : Addr} {ys : List V} {v : V} (h : RowOk K H v) (e : Bg s H H') (hs : H s = some (.lst ys)) : RowOk K H' v := by
  obtain ⟨t, a, b, q, rs, r, o, f, g, x⟩ := h
  exact ⟨t, a, b, q, rs, r, ob_bg e hs o, f.bg e hs, g.bg e hs, x⟩
def LawI (K : PySem.W.Frag) (T : List (Addr × Str)) (sr : Addr) (H1 : Hp) (σ0 : List (Option V)) (_ : Nat) (σ : L2.St) (H' : Hp) : Prop := ∃ x8, σ = σ0 ++ [x8] ∧ LawS K T H' sr ∧ Bg sr H1 H'
theorem ok_law {fa Pt : Addr} {fd : FuncData} (F : Fun K "law" "law" sLaw fa fd) (T : Bt K mg) (d__law_store : Kn P w K mg base 1 "_law_store" ["_law_script"] (spStore K)) (d__law_radices : Kn P w K mg base 4 "_law_radices" ["_law_store_here"] (spLRx K)) (d__law_take : Kn P w K mg base 2 "_law_take" ["_law_store_here", "_law_many"] (spTake K)) (d__law_pick : Kn P w K mg base 3 "_law_pick" ["_law_store_here", "_law_row"] (spPick K)) (d__law_value : Kn P w K mg base 6 "_law_value" ["_law_store_here", "_law_sizes"] (spVal K)) (d_plus : Kn P w K mg base 3 "plus" ["left", "right"] (spBin K sum2)) (d__law_plus : Kn P w K mg base 3 "_law_plus" ["_law_left", "_law_right"] (spBin K sum2)) (d__law_holds : Kn P w K mg base 8 "_law_holds" ["_law_value_here", "_law_sizes"] (spHolds K)) (d__law_refuses : Kn P w K mg base 7 "_law_refuses" ["_law_store_here", "_law_value_here", "_law_sizes"] (spRz K Pt)) (d__law_same : Kn P w K mg base 4 "_law_same" ["_law_told_here", "_law_due"] (spSame K 3)) : FnOk P w K mg base CX0 9 fa fd ["_law_script"] (spLaw K Pt) := by
  refine F.ok scLaw (fun vs H Q E h => ?_) (fun cdv A outer s H vs Q E hr h => ?_)
  · obtain ⟨a, ns, rfl, _⟩ := h
    rfl
  obtain ⟨sa, ns, rfl, hS, hP, k⟩ := h
  refine ⟨_, (pss_cons (ps_set (i := 1) scLaw.nd rfl (.inl rfl) (pe_kn d__law_store hr (by rfl) (pa_cons (pv 0) pa_nil)))
      (pss_cons (ps_set (i := 2) scLaw.nd rfl (.inl rfl) (pe_kn d__law_radices hr (by rfl) (pa_cons (pv 1) pa_nil)))
      (pss_cons (ps_set (i := 3) scLaw.nd rfl (.inl rfl) (pe_kn d__law_pick hr (by rfl) (pa_cons (pv 1) (pa_cons (pe_ls (pa_cons (pe_kn d__law_radices hr (by rfl) (pa_cons (pv 1) pa_nil)) (pa_cons (pe_fr (pe_revT (pv 2))) pa_nil))) pa_nil))))
      (pss_cons (ps_set (i := 4) scLaw.nd rfl (.inl rfl) (pe_kn d__law_value hr (by rfl) (pa_cons (pv 1) (pa_cons (pv 2) pa_nil))))
      (pss_cons (ps_set (i := 5) scLaw.nd rfl (.inl rfl) (pe_tp (pa_cons pe_int (pa_cons (pe_op op_add (pe_op op_add (pe_op op_pow pe_int pe_int) pe_int) (pe_kn d__law_take hr (by rfl) (pa_cons (pv 1) (pa_cons pe_int pa_nil)))) pa_nil))))
      (pss_cons (ps_set (i := 6) scLaw.nd rfl (.inl rfl) (pe_kn d_plus hr (by rfl) (pa_cons (pe_kn d_plus hr (by rfl) (pa_cons (pv 4) (pa_cons (pe_tp (pa_cons pe_int (pa_cons (pe_op op_pow pe_int pe_int) pa_nil))) pa_nil))) (pa_cons (pv 5) pa_nil))))
      (pss_cons (ps_set (i := 7) scLaw.nd rfl (.inl rfl) (pe_ls (pa_cons (pe_tp (pa_cons (pv 4) (pa_cons (pv 2) pa_nil))) (pa_cons (pe_tp (pa_cons (pe_kn d__law_value hr (by rfl) (pa_cons (pv 1) (pa_cons (pv 3) pa_nil))) (pa_cons (pv 3) pa_nil))) (pa_cons (pe_tp (pa_cons (pv 6) (pa_cons (pv 2) pa_nil))) pa_nil)))))
      (pss_cons (ps_for PassesOwn.never rfl (pi_list (pe_op op_cat (pv 7) (pe_ls (pa_cons (pe_tp (pa_cons (pv 4) (pa_cons (pv 3) pa_nil))) (pa_cons (pe_tp (pa_cons (pv 4) (pa_cons (pe_tp pa_nil) pa_nil))) (pa_cons (pe_tp (pa_cons (pv 4) (pa_cons (pv 2) pa_nil))) pa_nil)))))) (pg_name (i := 8) scLaw.nd rfl (.inl rfl)) (pss_one (ps_if (PW.pt (pw_or (pt_not (pt_val (pe_kn d__law_holds hr (by rfl) (pa_cons (pe_ix ix_any (pv 8) pe_int (fun _ _ => rfl)) (pa_cons (pe_ix ix_any (pv 8) pe_int (fun _ _ => rfl)) pa_nil))))) (pw_or1 (pt_not (pt_val (pe_kn d__law_refuses hr (by rfl) (pa_cons (pv 1) (pa_cons (pe_ix ix_any (pv 8) pe_int (fun _ _ => rfl)) (pa_cons (pe_ix ix_any (pv 8) pe_int (fun _ _ => rfl)) pa_nil))))))))) (pss_one (ps_ret pe_bl)) pss_nil)))
      (pss_one (ps_ret (pe_kn d__law_same hr (by rfl) (pa_cons (pv 6) (pa_cons (pe_kn d__law_plus hr (by rfl) (pa_cons (pe_kn d__law_plus hr (by rfl) (pa_cons (pv 4) (pa_cons (pe_tp (pa_cons pe_int (pa_cons (pe_op op_pow pe_int pe_int) pa_nil))) pa_nil))) (pa_cons (pv 5) pa_nil))) pa_nil))))))))))))), ?_⟩
  have TBL : ∀ H1, Same H H1 → LamX.Tabs [(Pt, qLam)] H1 := fun H1 s1 p hp => by
    simp only [List.mem_cons, List.not_mem_nil, or_false] at hp
    subst hp
    exact LamX.TabS.nil (s1 _ _ hP)
  simp only [cx_K]
  refine ⟨_, rfl, sa, ns, rfl, hS, fun sr H1 s1 st1 => ?_⟩
  have LS1 : LawS K [(Pt, qLam)] H1 sr := ⟨st1, TBL H1 s1⟩
  clear TBL hP hS s1
  refine ⟨_, rfl, sr, rfl, st1, fun b1 rs1 H2 w1 x1 kp2 st2 => ?_⟩
  have LS2 := LS1.kp kp2 st2
  refine ⟨_, rfl, _, rfl, sr, rfl, st2, fun b2 rs2 H3 w2 x2 kp3 st3 => ?_⟩
  have w1 := w1.kp kp3 st2
  have LS3 := LS2.kp kp3 st3
  clear LS1 LS2 kp2 kp3 st1 st2
  refine ⟨_, rfl, b1, _, rfl, ob_tup w1, fun p hp frp => ?_⟩
  have kpp : K.lookup p = none := frp p (by rw [upd_same]; simp)
  clear frp
  have sP := Same.new hp (.tup (rs1.map V.int).reverse)
  have wp : Wd K (upd H3 p (.tup (rs1.map V.int).reverse)) p rs1.reverse := by
    show ob K _ p = _
    rw [List.map_reverse]
    exact ob_new kpp
  have xp : Rdx rs1.reverse := ⟨by rw [List.length_reverse]; exact x1.1, fun x hx => x1.2 x (List.mem_reverse.mp hx)⟩
  have w1 := w1.same sP
  have w2 := w2.same sP
  have LS4 := LS3.same sP
  generalize upd H3 p (.tup (rs1.map V.int).reverse) = H4 at wp w1 w2 LS4 ⊢
  clear sP hp LS3 st3
  refine ⟨sz2 (by show 2 ≤ 100; decide), fun l hl kl => ?_⟩
  have sL := Same.new hl (.lst [V.ref b2, .ref p])
  have stL := LS4.st.same sL
  have LS5 := LS4.same sL
  refine ⟨sr, l, _, rfl, stL, upd_same, Ne.symm (LS4.st.ne hl), by show 0 < 2; decide, by show 2 < 1000; decide, fun x H6 hx kp6 st6 => ?_⟩
  have LS6 := LS5.kp kp6 st6
  have w1 := (w1.same sL).kp kp6 stL
  obtain ⟨b3, rs3, rfl, w3, x3⟩ : ∃ b rs, x = .ref b ∧ Wd K H6 b rs ∧ Rdx rs := by
    simp only [List.mem_cons, List.not_mem_nil, or_false] at hx
    rcases hx with rfl | rfl
    · exact ⟨_, _, rfl, (w2.same sL).kp kp6 stL, x2⟩
    · exact ⟨_, _, rfl, (wp.same sL).kp kp6 stL, xp⟩
  clear hx kp6 stL LS5 LS4 sL wp w2 xp x2 hl kl
  refine ⟨_, rfl, _, rfl, sr, b1, rs1, rfl, st6, w1, x1, fun a q H7 fa kp7 st7 => ?_⟩
  have LS7 := LS6.kp kp7 st7
  have w1 := w1.kp kp7 st6
  have w3 := w3.kp kp7 st6
  clear LS6 kp7 st6
  have c39 : CPow 10 39 := by unfold CPow; decide
  have e39 : (10 : Int) ^ (39 : Int).toNat = 1000000000000000000000000000000000000000 := by decide
  refine ⟨_, _, rfl, rfl, c39, _, _, rfl, rfl, _, rfl, sr, 12, rfl, st7, by decide, fun n H8 n0 n1 kp8 st8 => ⟨_, _, rfl, rfl, sz2 (by show 2 ≤ 100; decide), fun t ht kt => ?_⟩⟩
  obtain ⟨y7, hy7⟩ := st7.at
  have LS8 := LS7.kp kp8 st8
  have w1 := w1.kp kp8 st7
  have w3 := w3.kp kp8 st7
  have fa := fa.kp kp8 hy7
  rw [show upd H8 t (HO.tup [V.int 1, (fun (i j : Int) => V.int (i + j)) ((10 : Int) ^ (39 : Int).toNat + 1) n]) = upd H8 t (HO.tup [V.int 1, V.int ((10 : Int) ^ (39 : Int).toNat + 1 + n)]) from rfl]
  have sT := Same.new ht (.tup [V.int 1, .int ((10 : Int) ^ (39 : Int).toNat + 1 + n)])
  have ot := ob_new (H := H8) (o := .tup [V.int 1, .int ((10 : Int) ^ (39 : Int).toNat + 1 + n)]) kt
  have nD : Nf (1, (10 : Int) ^ (39 : Int).toNat + 1 + n) := nf_unit (by rw [e39]; omega)
  have sD : Sz 131 (1, (10 : Int) ^ (39 : Int).toNat + 1 + n) := ⟨by show (1 : Int).natAbs < 2 ^ 131; decide, by show ((10 : Int) ^ (39 : Int).toNat + 1 + n).natAbs < 2 ^ 131; rw [e39]; omega⟩
  have nE : Nf (1, (10 : Int) ^ (39 : Int).toNat) := nf_unit (by rw [e39]; omega)
  have sE : Sz 131 (1, (10 : Int) ^ (39 : Int).toNat) := ⟨by show (1 : Int).natAbs < 2 ^ 131; decide, by show ((10 : Int) ^ (39 : Int).toNat).natAbs < 2 ^ 131; rw [e39]; decide⟩
  generalize (10 : Int) ^ (39 : Int).toNat + 1 + n = D at sT ot nD sD ⊢
  have w1 := w1.same sT
  have w3 := w3.same sT
  have fa := fa.same sT
  have LS9 := LS8.same sT
  generalize upd H8 t (.tup [V.int 1, .int D]) = H9 at ot w1 w3 fa LS9 ⊢
  clear LS7 LS8 kp8 st7 st8 sT ht hy7
  refine ⟨_, rfl, _, _, rfl, rfl, c39, sz2 (by show 2 ≤ 100; decide), fun u hu ku => ?_⟩
  have sU := Same.new hu (.tup [V.int 1, .int ((10 : Int) ^ (39 : Int).toNat)])
  refine ⟨a, u, q, (1, (10 : Int) ^ (39 : Int).toNat), rfl, (fa.same sU).mono (by omega), ⟨ob_new ku, nE, sE.mono (by omega)⟩, fun z hz c H10 s10 oz => ?_⟩
  have szz : Sz 440 z := sum_sz hz fa.nf nE fa.sz sE (by omega)
  have sU10 := sU.trans s10
  refine ⟨_, rfl, c, t, z, (1, D), rfl, ⟨oz, hz.1, szz.mono (by omega)⟩, ⟨ob_same sU10 ot, nD, sD.mono (by omega)⟩, fun y hy d H11 s11 oy => ?_⟩
  have szy : Sz 600 y := sum_sz hy hz.1 nD szz sD (by omega)
  have s911 := sU10.trans s11
  have fy : Fq K H11 600 d y := ⟨oy, hy.1, szy⟩
  have w1 := w1.same s911
  have w3 := w3.same s911
  have fa := fa.same s911
  have ot := ob_same s911 ot
  have LSb := LS9.same s911
  clear LS9 oz sU10 s10 s11 s911 sU hu ku oy
  refine ⟨_, rfl, _, rfl, sz2 (by show 2 ≤ 100; decide), fun t1 ht1 kt1 => ?_⟩
  have u1 := Same.new ht1 (.tup [V.ref a, .ref b1])
  have o1 := ob_new (H := H11) (o := .tup [V.ref a, .ref b1]) kt1
  have w1 := w1.same u1
  have w3 := w3.same u1
  have fa := fa.same u1
  have fy := fy.same u1
  have ot := ob_same u1 ot
  have LSc := LSb.same u1
  generalize upd H11 t1 (.tup [V.ref a, .ref b1]) = H12 at o1 w1 w3 fa fy ot LSc ⊢
  clear u1 LSb ht1
  refine ⟨_, rfl, _, rfl, sr, b3, rs3, rfl, LSc.st, w3, x3, fun a2 q2 H13 fa2 kp13 st13 => ?_⟩
  obtain ⟨yc, hyc⟩ := LSc.st.at
  have w1 := w1.kp kp13 LSc.st
  have w3 := w3.kp kp13 LSc.st
  have o1 := ob_kp2 kp13 (tup_ne LSc.st o1) o1
  have ot := ob_kp2 kp13 (tup_ne LSc.st ot) ot
  have fa := fa.kp kp13 hyc
  have fy := fy.kp kp13 hyc
  have LSd := LSc.kp kp13 st13
  clear LSc kp13 hyc
  refine ⟨_, rfl, sz2 (by show 2 ≤ 100; decide), fun t2 ht2 kt2 => ?_⟩
  have u2 := Same.new ht2 (.tup [V.ref a2, .ref b3])
  have o2 := ob_new (H := H13) (o := .tup [V.ref a2, .ref b3]) kt2
  generalize upd H13 t2 (.tup [V.ref a2, .ref b3]) = H14 at u2 o2 ⊢
  refine ⟨_, rfl, _, rfl, sz2 (by show 2 ≤ 100; decide), fun t3 ht3 kt3 => ?_⟩
  have u3 := Same.new ht3 (.tup [V.ref d, .ref b1])
  have o3 := ob_new (H := H14) (o := .tup [V.ref d, .ref b1]) kt3
  generalize upd H14 t3 (.tup [V.ref d, .ref b1]) = H15 at u3 o3 ⊢
  refine ⟨sz2 (by show 3 ≤ 100; decide), fun L hL kL => ?_⟩
  have u4 := Same.new hL (.lst [V.ref t1, .ref t2, .ref t3])
  have eL : upd H15 L (.lst [V.ref t1, .ref t2, .ref t3]) L = some (.lst [V.ref t1, .ref t2, .ref t3]) := upd_same
  generalize upd H15 L (.lst [V.ref t1, .ref t2, .ref t3]) = H16 at u4 eL ⊢
  refine ⟨_, rfl, _, rfl, _, rfl, sz2 (by show 2 ≤ 100; decide), fun t4 ht4 kt4 => ?_⟩
  have u5 := Same.new ht4 (.tup [V.ref a, .ref b3])
  have o4 := ob_new (H := H16) (o := .tup [V.ref a, .ref b3]) kt4
  generalize upd H16 t4 (.tup [V.ref a, .ref b3]) = H17 at u5 o4 ⊢
  refine ⟨_, rfl, sz2 (by show 0 ≤ 100; decide), fun e he ke => ?_⟩
  have u6 := Same.new he (.tup [])
  have oe := ob_new (H := H17) (o := .tup []) ke
  generalize upd H17 e (.tup []) = H18 at u6 oe ⊢
  refine ⟨sz2 (by show 2 ≤ 100; decide), fun t5 ht5 kt5 => ?_⟩
  have u7 := Same.new ht5 (.tup [V.ref a, .ref e])
  have o5 := ob_new (H := H18) (o := .tup [V.ref a, .ref e]) kt5
  generalize upd H18 t5 (.tup [V.ref a, .ref e]) = H19 at u7 o5 ⊢
  refine ⟨_, rfl, _, rfl, sz2 (by show 2 ≤ 100; decide), fun t6 ht6 kt6 => ?_⟩
  have u8 := Same.new ht6 (.tup [V.ref a, .ref b1])
  have o6 := ob_new (H := H19) (o := .tup [V.ref a, .ref b1]) kt6
  generalize upd H19 t6 (.tup [V.ref a, .ref b1]) = H20 at u8 o6 ⊢
  refine ⟨sz2 (by show 3 ≤ 100; decide), fun L2 hL2 kL2 => ?_⟩
  have u9 := Same.new hL2 (.lst [V.ref t4, .ref t5, .ref t6])
  have eL2 : upd H20 L2 (.lst [V.ref t4, .ref t5, .ref t6]) L2 = some (.lst [V.ref t4, .ref t5, .ref t6]) := upd_same
  generalize upd H20 L2 (.lst [V.ref t4, .ref t5, .ref t6]) = H21 at u9 eL2 ⊢
  refine ⟨L, L2, _, _, rfl, rfl, (u5.trans (u6.trans (u7.trans (u8.trans u9)))) _ _ eL, eL2, by rw [sizeLine_eq]; show 3 + 3 ≤ 16777216; decide, fun M hM => ?_⟩
  have uM := Same.new hM (.lst ([V.ref t1, .ref t2, .ref t3] ++ [V.ref t4, .ref t5, .ref t6]))
  have eM : upd H21 M (.lst ([V.ref t1, .ref t2, .ref t3] ++ [V.ref t4, .ref t5, .ref t6])) M = some (.lst [V.ref t1, .ref t2, .ref t3, .ref t4, .ref t5, .ref t6]) := upd_same
  have v9 := u9.trans uM
  have v8 := u8.trans v9
  have v7 := u7.trans v8
  have v6 := u6.trans v7
  have v5 := u5.trans v6
  have v4 := u4.trans v5
  have v3 := u3.trans v4
  have v2 := u2.trans v3
  have LSe := LSd.same v2
  have nM : M ≠ sr := LSd.st.same (u2.trans (u3.trans (u4.trans (u5.trans (u6.trans (u7.trans (u8.trans u9))))))) |>.ne hM
  have w1 := w1.same v2
  have w3 := w3.same v2
  have fa := fa.same v2
  have fy := fy.same v2
  have fa2 := fa2.same v2
  have ot := ob_same v2 ot
  have o1 := ob_same v2 o1
  have o2 := ob_same v3 o2
  have o3 := ob_same v4 o3
  have o4 := ob_same v6 o4
  have oe := ob_same v7 oe
  have o5 := ob_same v8 o5
  have o6 := ob_same v9 o6
  generalize upd H21 M (.lst ([V.ref t1, .ref t2, .ref t3] ++ [V.ref t4, .ref t5, .ref t6])) = H22 at eM LSe w1 w3 fa fy fa2 ot o1 o2 o3 o4 oe o5 o6 ⊢
  clear v2 v3 v4 v5 v6 v7 v8 v9 u2 u3 u4 u5 u6 u7 u8 u9 uM eL eL2 hM hL hL2 LSd st13 ht2 ht3 ht4 ht5 ht6 he
  have xe : Rdx [] := ⟨by decide, fun x hx => nomatch hx⟩
  have all : ∀ x ∈ ([V.ref t1, .ref t2, .ref t3, .ref t4, .ref t5, .ref t6] : List V), RowOk K H22 x := fun x hx => by
    simp only [List.mem_cons, List.not_mem_nil, or_false] at hx
    rcases hx with rfl | rfl | rfl | rfl | rfl | rfl
    · exact ⟨t1, a, b1, q, rs1, rfl, o1, fa.mono (by omega), w1, x1⟩
    · exact ⟨t2, a2, b3, q2, rs3, rfl, o2, fa2.mono (by omega), w3, x3⟩
    · exact ⟨t3, d, b1, y, rs1, rfl, o3, fy.mono (by omega), w1, x1⟩
    · exact ⟨t4, a, b3, q, rs3, rfl, o4, fa.mono (by omega), w3, x3⟩
    · exact ⟨t5, a, e, q, [], rfl, o5, fa.mono (by omega), oe, xe⟩
    · exact ⟨t6, a, b1, q, rs1, rfl, o6, fa.mono (by omega), w1, x1⟩
  obtain ⟨yE, hyE⟩ := LSe.st.at
  refine ⟨M, rfl, ⟨_, .of eM⟩, forI_list (xs := [V.ref t1, .ref t2, .ref t3, .ref t4, .ref t5, .ref t6]) (LawI K [(Pt, qLam)] sr H22 [some (.ref sa), some (.ref sr), some (.ref b1), some (.ref b3), some (.ref a), some (.ref t), some (.ref d), some (.ref L)]) ⟨none, rfl, LSe, Bg.refl _ _⟩ ?_ ?_ ?_⟩
  · rintro i σ H' _ ⟨x8, rfl, LS, bg⟩
    exact .of (bg _ _ nM (fun _ z => by cases z) eM)
  · rintro i x σ H' hi ⟨x8, rfl, LS, bg⟩
    obtain ⟨tr, ar, br, qr, rr, rfl, ort, far, wr, xr⟩ := (all x (List.mem_of_getElem? hi)).bg bg hyE
    refine ⟨_, rfl, tr, 0, rfl, rfl, _, itsO_of ort, _, atI_0 _ _, _, rfl, tr, 1, rfl, rfl, _, itsO_of ort, _, atI_1 _ _ _, ar, br, qr, rr, rfl, far, wr, xr, fun Ha sa => ⟨_, rfl, if_no rfl ?_⟩⟩
    have ort := ob_same sa ort
    exact ⟨_, rfl, _, rfl, tr, 0, rfl, rfl, _, itsO_of ort, _, atI_0 _ _, _, rfl, tr, 1, rfl, rfl, _, itsO_of ort, _, atI_1 _ _ _, sr, ar, br, qr, rr, rfl, LS.same sa, far.same sa, wr.same sa, xr, fun Hb bgb LSb => ⟨_, rfl, if_no rfl ⟨_, rfl, LSb, (bg.trans (Bg.same sa)).trans bgb⟩⟩⟩
  rintro σ H' ⟨x8, rfl, LS, bg⟩
  have fa := fa.bg bg hyE
  have fy := fy.bg bg hyE
  have ot := ob_bg bg hyE ot
  refine ⟨_, rfl, _, rfl, _, _, rfl, rfl, c39, sz2 (by show 2 ≤ 100; decide), fun u hu ku => ?_⟩
  have sU := Same.new hu (.tup [V.int 1, .int ((10 : Int) ^ (39 : Int).toNat)])
  refine ⟨a, u, q, (1, (10 : Int) ^ (39 : Int).toNat), rfl, (fa.same sU).mono (by omega), ⟨ob_new ku, nE, sE.mono (by omega)⟩, fun z' hz' c' H10' s10 oz => ?_⟩
  have ez : z' = z := is_unique (mul_ne fa.nf.1 nE.1) hz' hz
  subst ez
  have sU10 := sU.trans s10
  refine ⟨_, rfl, c', t, z', (1, D), rfl, ⟨oz, hz.1, szz.mono (by omega)⟩, ⟨ob_same sU10 ot, nD, sD.mono (by omega)⟩, fun y' hy' d' H11' s11 oy => ?_⟩
  have ey : y' = y := is_unique (mul_ne hz.1.1 nD.1) hy' hy
  subst ey
  exact ⟨_, _, rfl, (eqv_tup (ob_same (sU10.trans s11) fy.o) oy rfl (by show 2 ≤ 1000; decide)).up, fun Hz sz => k Hz⟩
end
end My

namespace My
open PySem PySem.Spec PyProof.Rows L2
theorem ob_con {K : PySem.W.Frag} {z : Addr} {dd : Option Addr} {x y : Int} {t0 t1 : Tok} {n : Nat} {sl : Array (Option Value)} (h : K.lookup z = some ⟨.type "tuple", dd, .seq #[.int x t0, .int y t1] n, sl⟩) (H : Hp) : ob K H z = some (.tup [.int x, .int y]) := by
  unfold ob obK
  rw [h]
  show (if 2 ≤ sizeLine then _ else _) = _
  rw [if_pos (by rw [sizeLine_eq]; omega)]
  rfl
/-! ### the end: what the top has written -/
theorem dfn_mk {K : PySem.W.Frag} {h : Heap} {mg : Str → Option Value} {x : Str} {st : Stmt} {ps : List Str} {f : Addr} {oc kV doc pm cd ct : Value} {od an : Option Addr} {sl : Array (Option Value)} (X : K.In h) (G : h.Ns mainGlobals mg)
    (a : PySem.W.nsIn K mainGlobals x = some (some (.ref f))) (l : K.lookup f = some ⟨oc, od, .func (PySem.W.fnOf x x (defArgs st) (defBody st) (defScope st) .none kV doc pm an cd ct), sl⟩) (c : PySem.W.codeIn K cd x = true) (k : PySem.W.keepIn K (.ref f) = true)
    (hb : ∀ (kV doc pm : Value) (an : Option Addr) (cdv ct : Value) (us : List Value), us.length = ps.length → bindArgs (PySem.W.fnOf x x (defArgs st) (defBody st) (defScope st) .none kV doc pm an cdv ct) ⟨us, []⟩ = pure (ps.zip us)) : Dfn K mg x st ps :=
  ⟨f, _, fun_mk l c k, PySem.W.mg_of X G a, (fun_mk l c k).binds hb⟩
theorem all_mk {P : Program} {w : World} {K : PySem.W.Frag} {h : Heap} {mg : Str → Option Value} {fa : Addr} (X : K.In h) (G : h.Ns mainGlobals mg) (hfa : mg "law" = some (.ref fa)) {C S fI : Addr} {nm qn : Str} {N0 : Addr} {bs bm : List Value} {sn : List Str} {sub : List Value} {ab : Bool} {col : Option Bool} {dd : Option Addr} {m0 m1 m2 m3 m5 : Option Value} {ocI kVI dcI pmI cdI ctI : Value} {odI anI : Option Addr} {slI : Array (Option Value)} {C_Mismatch : Addr} {C_Still : Addr} {C_Endless : Addr} {C_TooMany : Addr} {C_NoName : Addr} {C_Taken : Addr} {C_Locked : Addr} {C_Looped : Addr} {C_Broken : Addr} {C_ReadError : Addr} {f_A : Addr} {oc_A kV_A dc_A pm_A cd_A ct_A : Value} {od_A an_A : Option Addr} {sl_A : Array (Option Value)} {f_R1 c_R1 : Addr} {oc_R1 kV_R1 dc_R1 pm_R1 ct_R1 : Value} {od_R1 an_R1 : Option Addr} {sl_R1 : Array (Option Value)} {fL : Addr} {ocL kVL dcL pmL cdvL ctL : Value} {odL anL : Option Addr} {slL : Array (Option Value)} {hf : Addr} {ddH : Option Addr} {taH tbH : Tok} {nnH : Nat} {ssH : Array (Option Value)} {MC : Addr} {tY zi : Addr} {ocTY : Value} {odTY : Option Addr} {slTY : Array (Option Value)} {nTY : Nat} {fIN : Addr} {ocIN kVIN dcIN pmIN cdIN ctIN : Value} {odIN anIN : Option Addr} {slIN : Array (Option Value)} {fEQ : Addr} {ocEQ kVEQ dcEQ pmEQ cdEQ ctEQ : Value} {odEQ anEQ : Option Addr} {slEQ : Array (Option Value)} {f0Store : Addr} {oc0Store kV0Store dc0Store pm0Store cd0Store ct0Store : Value} {od0Store an0Store : Option Addr} {sl0Store : Array (Option Value)} {f0LRx : Addr} {oc0LRx kV0LRx dc0LRx pm0LRx cd0LRx ct0LRx : Value} {od0LRx an0LRx : Option Addr} {sl0LRx : Array (Option Value)} {f0Take : Addr} {oc0Take kV0Take dc0Take pm0Take cd0Take ct0Take : Value} {od0Take an0Take : Option Addr} {sl0Take : Array (Option Value)} {f0Mixed : Addr} {oc0Mixed kV0Mixed dc0Mixed pm0Mixed cd0Mixed ct0Mixed : Value} {od0Mixed an0Mixed : Option Addr} {sl0Mixed : Array (Option Value)} {f0Pick : Addr} {oc0Pick kV0Pick dc0Pick pm0Pick cd0Pick ct0Pick : Value} {od0Pick an0Pick : Option Addr} {sl0Pick : Array (Option Value)} {f0Val : Addr} {oc0Val kV0Val dc0Val pm0Val cd0Val ct0Val : Value} {od0Val an0Val : Option Addr} {sl0Val : Array (Option Value)} {f0LInt : Addr} {oc0LInt kV0LInt dc0LInt pm0LInt cd0LInt ct0LInt : Value} {od0LInt an0LInt : Option Addr} {sl0LInt : Array (Option Value)} {f0Wof : Addr} {oc0Wof kV0Wof dc0Wof pm0Wof cd0Wof ct0Wof : Value} {od0Wof an0Wof : Option Addr} {sl0Wof : Array (Option Value)} {f0Lowest : Addr} {oc0Lowest kV0Lowest dc0Lowest pm0Lowest cd0Lowest ct0Lowest : Value} {od0Lowest an0Lowest : Option Addr} {sl0Lowest : Array (Option Value)} {f0Gcd : Addr} {oc0Gcd kV0Gcd dc0Gcd pm0Gcd cd0Gcd ct0Gcd : Value} {od0Gcd an0Gcd : Option Addr} {sl0Gcd : Array (Option Value)} {f0Pof : Addr} {oc0Pof kV0Pof dc0Pof pm0Pof cd0Pof ct0Pof : Value} {od0Pof an0Pof : Option Addr} {sl0Pof : Array (Option Value)} {f0Range : Addr} {oc0Range kV0Range dc0Range pm0Range cd0Range ct0Range : Value} {od0Range an0Range : Option Addr} {sl0Range : Array (Option Value)} {f0DPlace : Addr} {oc0DPlace kV0DPlace dc0DPlace pm0DPlace cd0DPlace ct0DPlace : Value} {od0DPlace an0DPlace : Option Addr} {sl0DPlace : Array (Option Value)} {f0LPlus : Addr} {oc0LPlus kV0LPlus dc0LPlus pm0LPlus cd0LPlus ct0LPlus : Value} {od0LPlus an0LPlus : Option Addr} {sl0LPlus : Array (Option Value)} {f0LTimes : Addr} {oc0LTimes kV0LTimes dc0LTimes pm0LTimes cd0LTimes ct0LTimes : Value} {od0LTimes an0LTimes : Option Addr} {sl0LTimes : Array (Option Value)} {f0Unit : Addr} {oc0Unit kV0Unit dc0Unit pm0Unit cd0Unit ct0Unit : Value} {od0Unit an0Unit : Option Addr} {sl0Unit : Array (Option Value)} {f0DFracW : Addr} {oc0DFracW kV0DFracW dc0DFracW pm0DFracW cd0DFracW ct0DFracW : Value} {od0DFracW an0DFracW : Option Addr} {sl0DFracW : Array (Option Value)} {f0Great : Addr} {oc0Great kV0Great dc0Great pm0Great cd0Great ct0Great : Value} {od0Great an0Great : Option Addr} {sl0Great : Array (Option Value)} {f0DFrac : Addr} {oc0DFrac kV0DFrac dc0DFrac pm0DFrac cd0DFrac ct0DFrac : Value} {od0DFrac an0DFrac : Option Addr} {sl0DFrac : Array (Option Value)} {f0Plus : Addr} {oc0Plus kV0Plus dc0Plus pm0Plus cd0Plus ct0Plus : Value} {od0Plus an0Plus : Option Addr} {sl0Plus : Array (Option Value)} {f0Require : Addr} {oc0Require kV0Require dc0Require pm0Require cd0Require ct0Require : Value} {od0Require an0Require : Option Addr} {sl0Require : Array (Option Value)} {f0IsFraction : Addr} {oc0IsFraction kV0IsFraction dc0IsFraction pm0IsFraction cd0IsFraction ct0IsFraction : Value} {od0IsFraction an0IsFraction : Option Addr} {sl0IsFraction : Array (Option Value)} {f0Whole : Addr} {oc0Whole kV0Whole dc0Whole pm0Whole cd0Whole ct0Whole : Value} {od0Whole an0Whole : Option Addr} {sl0Whole : Array (Option Value)} {t0Fraction : Addr} {ocT0Fraction : Value} {odT0Fraction : Option Addr} {slT0Fraction : Array (Option Value)} {tk0Fraction : Tok} {nT0Fraction : Nat} {f0Fraction : Addr} {oc0Fraction kV0Fraction dc0Fraction pm0Fraction cd0Fraction ct0Fraction : Value} {od0Fraction an0Fraction : Option Addr} {sl0Fraction : Array (Option Value)} {f0Holds : Addr} {oc0Holds kV0Holds dc0Holds pm0Holds cd0Holds ct0Holds : Value} {od0Holds an0Holds : Option Addr} {sl0Holds : Array (Option Value)} {f0MO : Addr} {oc0MO kV0MO dc0MO pm0MO cd0MO ct0MO : Value} {od0MO an0MO : Option Addr} {sl0MO : Array (Option Value)} {tkMOST_PARTS : Tok} {tkLEAST_RADIX : Tok} {tkMOST_RADIX : Tok} {f0ArR : Addr} {oc0ArR kV0ArR dc0ArR pm0ArR cd0ArR ct0ArR : Value} {od0ArR an0ArR : Option Addr} {sl0ArR : Array (Option Value)} {f0Within : Addr} {oc0Within kV0Within dc0Within pm0Within cd0Within ct0Within : Value} {od0Within an0Within : Option Addr} {sl0Within : Array (Option Value)} {f0WholeU : Addr} {oc0WholeU kV0WholeU dc0WholeU pm0WholeU cd0WholeU ct0WholeU : Value} {od0WholeU an0WholeU : Option Addr} {sl0WholeU : Array (Option Value)} {f0Times : Addr} {oc0Times kV0Times dc0Times pm0Times cd0Times ct0Times : Value} {od0Times an0Times : Option Addr} {sl0Times : Array (Option Value)} {f0Least : Addr} {oc0Least kV0Least dc0Least pm0Least cd0Least ct0Least : Value} {od0Least an0Least : Option Addr} {sl0Least : Array (Option Value)} {f0Floor : Addr} {oc0Floor kV0Floor dc0Floor pm0Floor cd0Floor ct0Floor : Value} {od0Floor an0Floor : Option Addr} {sl0Floor : Array (Option Value)} {f0ArP : Addr} {oc0ArP kV0ArP dc0ArP pm0ArP cd0ArP ct0ArP : Value} {od0ArP an0ArP : Option Addr} {sl0ArP : Array (Option Value)} {f0Fit : Addr} {oc0Fit kV0Fit dc0Fit pm0Fit cd0Fit ct0Fit : Value} {od0Fit an0Fit : Option Addr} {sl0Fit : Array (Option Value)} {f0Worth : Addr} {oc0Worth kV0Worth dc0Worth pm0Worth cd0Worth ct0Worth : Value} {od0Worth an0Worth : Option Addr} {sl0Worth : Array (Option Value)} {f0From : Addr} {oc0From kV0From dc0From pm0From cd0From ct0From : Value} {od0From an0From : Option Addr} {sl0From : Array (Option Value)} {f0Minus : Addr} {oc0Minus kV0Minus dc0Minus pm0Minus cd0Minus ct0Minus : Value} {od0Minus an0Minus : Option Addr} {sl0Minus : Array (Option Value)} {f0NM : Addr} {oc0NM kV0NM dc0NM pm0NM cd0NM ct0NM : Value} {od0NM an0NM : Option Addr} {sl0NM : Array (Option Value)} {f0LIsPlace : Addr} {oc0LIsPlace kV0LIsPlace dc0LIsPlace pm0LIsPlace cd0LIsPlace ct0LIsPlace : Value} {od0LIsPlace an0LIsPlace : Option Addr} {sl0LIsPlace : Array (Option Value)} {f0LFrac : Addr} {oc0LFrac kV0LFrac dc0LFrac pm0LFrac cd0LFrac ct0LFrac : Value} {od0LFrac an0LFrac : Option Addr} {sl0LFrac : Array (Option Value)} {f0LWhole : Addr} {oc0LWhole kV0LWhole dc0LWhole pm0LWhole cd0LWhole ct0LWhole : Value} {od0LWhole an0LWhole : Option Addr} {sl0LWhole : Array (Option Value)} {f0Told : Addr} {oc0Told kV0Told dc0Told pm0Told cd0Told ct0Told : Value} {od0Told an0Told : Option Addr} {sl0Told : Array (Option Value)} {f0Same : Addr} {oc0Same kV0Same dc0Same pm0Same cd0Same ct0Same : Value} {od0Same an0Same : Option Addr} {sl0Same : Array (Option Value)} {f0LMinus : Addr} {oc0LMinus kV0LMinus dc0LMinus pm0LMinus cd0LMinus ct0LMinus : Value} {od0LMinus an0LMinus : Option Addr} {sl0LMinus : Array (Option Value)} {f0LOver : Addr} {oc0LOver kV0LOver dc0LOver pm0LOver cd0LOver ct0LOver : Value} {od0LOver an0LOver : Option Addr} {sl0LOver : Array (Option Value)} {f0BadFrac : Addr} {oc0BadFrac kV0BadFrac dc0BadFrac pm0BadFrac cd0BadFrac ct0BadFrac : Value} {od0BadFrac an0BadFrac : Option Addr} {sl0BadFrac : Array (Option Value)} {f0BSz : Addr} {oc0BSz kV0BSz dc0BSz pm0BSz cd0BSz ct0BSz : Value} {od0BSz an0BSz : Option Addr} {sl0BSz : Array (Option Value)} {f0By : Addr} {oc0By kV0By dc0By pm0By cd0By ct0By : Value} {od0By an0By : Option Addr} {sl0By : Array (Option Value)} {f0BW : Addr} {oc0BW kV0BW dc0BW pm0BW cd0BW ct0BW : Value} {od0BW an0BW : Option Addr} {sl0BW : Array (Option Value)} {f0BT : Addr} {oc0BT kV0BT dc0BT pm0BT cd0BT ct0BT : Value} {od0BT an0BT : Option Addr} {sl0BT : Array (Option Value)} {f0With : Addr} {oc0With kV0With dc0With pm0With cd0With ct0With : Value} {od0With an0With : Option Addr} {sl0With : Array (Option Value)}
    (z_int : PySem.W.nsIn K mainGlobals "int" = some none)
    (z_len : PySem.W.nsIn K mainGlobals "len" = some none)
    (z_list : PySem.W.nsIn K mainGlobals "list" = some none)
    (z_abs : PySem.W.nsIn K mainGlobals "abs" = some none)
    (z_range : PySem.W.nsIn K mainGlobals "range" = some none)
    (z_min : PySem.W.nsIn K mainGlobals "min" = some none)
    (z_max : PySem.W.nsIn K mainGlobals "max" = some none)
    (z_isinstance : PySem.W.nsIn K mainGlobals "isinstance" = some none)
    (z_bool : PySem.W.nsIn K mainGlobals "bool" = some none)
    (z_str : PySem.W.nsIn K mainGlobals "str" = some none)
    (z_dict : PySem.W.nsIn K mainGlobals "dict" = some none)
    (z_tuple : PySem.W.nsIn K mainGlobals "tuple" = some none)
    (z_gcd : PySem.W.nsIn K mainGlobals "gcd" = some (some (.builtin "math.gcd")))
    (z_VE : PySem.W.nsIn K mainGlobals "ValueError" = some none)
    (aC : PySem.W.nsIn K mainGlobals "BadValue" = some (some (.ref C)))
    (aS : PySem.W.nsIn K mainGlobals "SkyError" = some (some (.ref S)))
    (xL : K.lookup C = some (excClassObj nm qn C N0 bs bm true sn sub ab col dd m0 m1 m2 m3 m5 "ValueError.__new__"))
    (hbm : PySem.HandSPX.refsVE bm = true)
    (sa : PySem.W.findIn K (.ref C) "__setattr__" = some (some (.builtin "object.__setattr__")))
    (ga : PySem.W.findIn K (.ref C) "__getattribute__" = some (some (.builtin "BaseException.__getattribute__")))
    (gg : PySem.W.findIn K (.ref C) "__getattr__" = some none)
    (gc : PySem.W.findIn K (.ref C) "__class__" = some (some (.builtin "object.__class__")))
    (nw : PySem.W.findIn K (.ref C) "what" = some none)
    (aI : PySem.W.findIn K (.ref C) "__init__" = some (some (.ref fI)))
    (tI : PySem.W.typeIn K (.ref fI) = some (.type "function"))
    (lI : K.lookup fI = some ⟨ocI, odI, .func (PySem.W.fnOf "__init__" "BadValue.__init__" (defArgs sInitB) (defBody sInitB) (defScope sInitB) .none kVI dcI pmI anI cdI ctI), slI⟩)
    (cI : PySem.W.codeIn K cdI "BadValue.__init__" = true)
    (kI : PySem.W.keepIn K (.ref fI) = true)
    (kC : PySem.W.keepIn K (.ref C) = true)
    (eC : PySem.W.subIn K (.ref C) (.type "BaseException") = some true)
    (tC : PySem.W.typeIn K (.ref C) = some (.type "type"))
    (hC : PySem.W.hasDictIn K C = true)
    (mC : PySem.W.mroIn K C (.type "object") = some true)
    (vC : PySem.W.subIn K (.ref C) (.type "ValueError") = some true)
    (spc : PySem.W.specialIn K (.builtin "object.__class__") "__get__" = some (some (.builtin "getset_descriptor.__get__")))
    (tkc : PySem.W.takesIn K (.builtin "object.__class__") = some true)
    (eS : PySem.W.subIn K (.ref S) (.type "BaseException") = some true)
    (hS : PySem.W.hasDictIn K S = true)
    (tS : PySem.W.typeIn K (.ref S) = some (.type "type"))
    (cS : PySem.W.subIn K (.ref C) (.ref S) = some true)
    (a_Mismatch : PySem.W.nsIn K mainGlobals "Mismatch" = some (some (.ref C_Mismatch)))
    (t_Mismatch : PySem.W.typeIn K (.ref C_Mismatch) = some (.type "type"))
    (h_Mismatch : PySem.W.hasDictIn K C_Mismatch = true)
    (s_Mismatch : PySem.W.subIn K (.ref C) (.ref C_Mismatch) = some false)
    (n_Mismatch : (Value.ref C == Value.ref C_Mismatch) = false)
    (a_Still : PySem.W.nsIn K mainGlobals "Still" = some (some (.ref C_Still)))
    (t_Still : PySem.W.typeIn K (.ref C_Still) = some (.type "type"))
    (h_Still : PySem.W.hasDictIn K C_Still = true)
    (s_Still : PySem.W.subIn K (.ref C) (.ref C_Still) = some false)
    (n_Still : (Value.ref C == Value.ref C_Still) = false)
    (a_Endless : PySem.W.nsIn K mainGlobals "Endless" = some (some (.ref C_Endless)))
    (t_Endless : PySem.W.typeIn K (.ref C_Endless) = some (.type "type"))
    (h_Endless : PySem.W.hasDictIn K C_Endless = true)
    (s_Endless : PySem.W.subIn K (.ref C) (.ref C_Endless) = some false)
    (n_Endless : (Value.ref C == Value.ref C_Endless) = false)
    (a_TooMany : PySem.W.nsIn K mainGlobals "TooMany" = some (some (.ref C_TooMany)))
    (t_TooMany : PySem.W.typeIn K (.ref C_TooMany) = some (.type "type"))
    (h_TooMany : PySem.W.hasDictIn K C_TooMany = true)
    (s_TooMany : PySem.W.subIn K (.ref C) (.ref C_TooMany) = some false)
    (n_TooMany : (Value.ref C == Value.ref C_TooMany) = false)
    (a_NoName : PySem.W.nsIn K mainGlobals "NoName" = some (some (.ref C_NoName)))
    (t_NoName : PySem.W.typeIn K (.ref C_NoName) = some (.type "type"))
    (h_NoName : PySem.W.hasDictIn K C_NoName = true)
    (s_NoName : PySem.W.subIn K (.ref C) (.ref C_NoName) = some false)
    (n_NoName : (Value.ref C == Value.ref C_NoName) = false)
    (a_Taken : PySem.W.nsIn K mainGlobals "Taken" = some (some (.ref C_Taken)))
    (t_Taken : PySem.W.typeIn K (.ref C_Taken) = some (.type "type"))
    (h_Taken : PySem.W.hasDictIn K C_Taken = true)
    (s_Taken : PySem.W.subIn K (.ref C) (.ref C_Taken) = some false)
    (n_Taken : (Value.ref C == Value.ref C_Taken) = false)
    (a_Locked : PySem.W.nsIn K mainGlobals "Locked" = some (some (.ref C_Locked)))
    (t_Locked : PySem.W.typeIn K (.ref C_Locked) = some (.type "type"))
    (h_Locked : PySem.W.hasDictIn K C_Locked = true)
    (s_Locked : PySem.W.subIn K (.ref C) (.ref C_Locked) = some false)
    (n_Locked : (Value.ref C == Value.ref C_Locked) = false)
    (a_Looped : PySem.W.nsIn K mainGlobals "Looped" = some (some (.ref C_Looped)))
    (t_Looped : PySem.W.typeIn K (.ref C_Looped) = some (.type "type"))
    (h_Looped : PySem.W.hasDictIn K C_Looped = true)
    (s_Looped : PySem.W.subIn K (.ref C) (.ref C_Looped) = some false)
    (n_Looped : (Value.ref C == Value.ref C_Looped) = false)
    (a_Broken : PySem.W.nsIn K mainGlobals "Broken" = some (some (.ref C_Broken)))
    (t_Broken : PySem.W.typeIn K (.ref C_Broken) = some (.type "type"))
    (h_Broken : PySem.W.hasDictIn K C_Broken = true)
    (s_Broken : PySem.W.subIn K (.ref C) (.ref C_Broken) = some false)
    (n_Broken : (Value.ref C == Value.ref C_Broken) = false)
    (a_ReadError : PySem.W.nsIn K mainGlobals "ReadError" = some (some (.ref C_ReadError)))
    (t_ReadError : PySem.W.typeIn K (.ref C_ReadError) = some (.type "type"))
    (h_ReadError : PySem.W.hasDictIn K C_ReadError = true)
    (s_ReadError : PySem.W.subIn K (.ref C) (.ref C_ReadError) = some false)
    (n_ReadError : (Value.ref C == Value.ref C_ReadError) = false)
    (a_A : PySem.W.nsIn K mainGlobals "_law_asked" = some (some (.ref f_A)))
    (l_A : K.lookup f_A = some ⟨oc_A, od_A, .func (PySem.W.fnOf "_law_asked" "_law_asked" (defArgs sAsked) (defBody sAsked) (defScope sAsked) .none kV_A dc_A pm_A an_A cd_A ct_A), sl_A⟩)
    (c_A : PySem.W.codeIn K cd_A "_law_asked" = true)
    (k_A : PySem.W.keepIn K (.ref f_A) = true)
    (a_R1 : PySem.W.nsIn K mainGlobals "_law_refuses" = some (some (.ref f_R1)))
    (l_R1 : K.lookup f_R1 = some ⟨oc_R1, od_R1, .func (PySem.W.fnOf "_law_refuses" "_law_refuses" (defArgs sRfz) (defBody sRfz) (defScope sRfz) .none kV_R1 dc_R1 pm_R1 an_R1 (.ref c_R1) ct_R1), sl_R1⟩)
    (cd_R1 : PySem.W.codeIn K (.ref c_R1) "_law_refuses" = true)
    (k_R1 : PySem.W.keepIn K (.ref f_R1) = true)
    (aL : PySem.W.nsIn K mainGlobals "law" = some (some (.ref fL)))
    (lL : K.lookup fL = some ⟨ocL, odL, .func (PySem.W.fnOf "law" "law" (defArgs sLaw) (defBody sLaw) (defScope sLaw) .none kVL dcL pmL anL cdvL ctL), slL⟩)
    (cL : PySem.W.codeIn K cdvL "law" = true)
    (kL : PySem.W.keepIn K (.ref fL) = true)
    (aHF : PySem.W.nsIn K mainGlobals "HALF" = some (some (.ref hf)))
    (o_H : K.lookup hf = some ⟨.type "tuple", ddH, .seq #[.int 1 taH, .int 2 tbH] nnH, ssH⟩)
    (aMC : PySem.W.nsIn K mainGlobals "Mixed" = some (some (.ref MC)))
    (ypg : PySem.W.plainGet K MC Str.empty = true)
    (yhd : PySem.W.hasDictIn K MC = true)
    (ypo : PySem.W.plainOver K MC = true)
    (ysa : PySem.W.findIn K (.ref MC) "__setattr__" = some (some (.builtin "object.__setattr__")))
    (yn_whole : PySem.W.findIn K (.ref MC) "whole" = some none)
    (yn_parts : PySem.W.findIn K (.ref MC) "parts" = some none)
    (yn_radices : PySem.W.findIn K (.ref MC) "radices" = some none)
    (yn_worth : PySem.W.findIn K (.ref MC) "worth" = some none)
    (ymk : PySem.W.makesIn K MC = true)
    (ykp : PySem.W.keepIn K (.ref MC) = true)
    (yca : PySem.W.findIn K (.ref MC) "__class__" = some (some (.builtin "object.__class__")))
    (yro : PySem.W.mroIn K MC (.type "object") = some true)
    (y1IN : PySem.W.findIn K (.ref MC) "__init__" = some (some (.ref fIN)))
    (y2IN : PySem.W.isFn K (.ref fIN) = true)
    (lIN : K.lookup fIN = some ⟨ocIN, odIN, .func (PySem.W.fnOf "__init__" "Mixed.__init__" (defArgs sMxInit) (defBody sMxInit) (defScope sMxInit) (.ref tY) kVIN dcIN pmIN anIN cdIN ctIN), slIN⟩)
    (cIN : PySem.W.codeIn K cdIN "Mixed.__init__" = true)
    (kIN : PySem.W.keepIn K (.ref fIN) = true)
    (lTY : K.lookup tY = some ⟨ocTY, odTY, .seq #[.ref zi] nTY, slTY⟩)
    (y1EQ : PySem.W.findIn K (.ref MC) "__eq__" = some (some (.ref fEQ)))
    (y2EQ : PySem.W.isFn K (.ref fEQ) = true)
    (lEQ : K.lookup fEQ = some ⟨ocEQ, odEQ, .func (PySem.W.fnOf "__eq__" "Mixed.__eq__" (defArgs sMxEq) (defBody sMxEq) (defScope sMxEq) .none kVEQ dcEQ pmEQ anEQ cdEQ ctEQ), slEQ⟩)
    (cEQ : PySem.W.codeIn K cdEQ "Mixed.__eq__" = true)
    (kEQ : PySem.W.keepIn K (.ref fEQ) = true)
    (a0Store : PySem.W.nsIn K mainGlobals "_law_store" = some (some (.ref f0Store)))
    (l0Store : K.lookup f0Store = some ⟨oc0Store, od0Store, .func (PySem.W.fnOf "_law_store" "_law_store" (defArgs sStore) (defBody sStore) (defScope sStore) .none kV0Store dc0Store pm0Store an0Store cd0Store ct0Store), sl0Store⟩)
    (c0Store : PySem.W.codeIn K cd0Store "_law_store" = true)
    (k0Store : PySem.W.keepIn K (.ref f0Store) = true)
    (a0LRx : PySem.W.nsIn K mainGlobals "_law_radices" = some (some (.ref f0LRx)))
    (l0LRx : K.lookup f0LRx = some ⟨oc0LRx, od0LRx, .func (PySem.W.fnOf "_law_radices" "_law_radices" (defArgs sLRx) (defBody sLRx) (defScope sLRx) .none kV0LRx dc0LRx pm0LRx an0LRx cd0LRx ct0LRx), sl0LRx⟩)
    (c0LRx : PySem.W.codeIn K cd0LRx "_law_radices" = true)
    (k0LRx : PySem.W.keepIn K (.ref f0LRx) = true)
    (a0Take : PySem.W.nsIn K mainGlobals "_law_take" = some (some (.ref f0Take)))
    (l0Take : K.lookup f0Take = some ⟨oc0Take, od0Take, .func (PySem.W.fnOf "_law_take" "_law_take" (defArgs sTake) (defBody sTake) (defScope sTake) .none kV0Take dc0Take pm0Take an0Take cd0Take ct0Take), sl0Take⟩)
    (c0Take : PySem.W.codeIn K cd0Take "_law_take" = true)
    (k0Take : PySem.W.keepIn K (.ref f0Take) = true)
    (a0Mixed : PySem.W.nsIn K mainGlobals "_law_mixed" = some (some (.ref f0Mixed)))
    (l0Mixed : K.lookup f0Mixed = some ⟨oc0Mixed, od0Mixed, .func (PySem.W.fnOf "_law_mixed" "_law_mixed" (defArgs sMixed) (defBody sMixed) (defScope sMixed) .none kV0Mixed dc0Mixed pm0Mixed an0Mixed cd0Mixed ct0Mixed), sl0Mixed⟩)
    (c0Mixed : PySem.W.codeIn K cd0Mixed "_law_mixed" = true)
    (k0Mixed : PySem.W.keepIn K (.ref f0Mixed) = true)
    (a0Pick : PySem.W.nsIn K mainGlobals "_law_pick" = some (some (.ref f0Pick)))
    (l0Pick : K.lookup f0Pick = some ⟨oc0Pick, od0Pick, .func (PySem.W.fnOf "_law_pick" "_law_pick" (defArgs sPick) (defBody sPick) (defScope sPick) .none kV0Pick dc0Pick pm0Pick an0Pick cd0Pick ct0Pick), sl0Pick⟩)
    (c0Pick : PySem.W.codeIn K cd0Pick "_law_pick" = true)
    (k0Pick : PySem.W.keepIn K (.ref f0Pick) = true)
    (a0Val : PySem.W.nsIn K mainGlobals "_law_value" = some (some (.ref f0Val)))
    (l0Val : K.lookup f0Val = some ⟨oc0Val, od0Val, .func (PySem.W.fnOf "_law_value" "_law_value" (defArgs sVal) (defBody sVal) (defScope sVal) .none kV0Val dc0Val pm0Val an0Val cd0Val ct0Val), sl0Val⟩)
    (c0Val : PySem.W.codeIn K cd0Val "_law_value" = true)
    (k0Val : PySem.W.keepIn K (.ref f0Val) = true)
    (a0LInt : PySem.W.nsIn K mainGlobals "_law_whole" = some (some (.ref f0LInt)))
    (l0LInt : K.lookup f0LInt = some ⟨oc0LInt, od0LInt, .func (PySem.W.fnOf "_law_whole" "_law_whole" (defArgs sLInt) (defBody sLInt) (defScope sLInt) .none kV0LInt dc0LInt pm0LInt an0LInt cd0LInt ct0LInt), sl0LInt⟩)
    (c0LInt : PySem.W.codeIn K cd0LInt "_law_whole" = true)
    (k0LInt : PySem.W.keepIn K (.ref f0LInt) = true)
    (a0Wof : PySem.W.nsIn K mainGlobals "_law_worth_of" = some (some (.ref f0Wof)))
    (l0Wof : K.lookup f0Wof = some ⟨oc0Wof, od0Wof, .func (PySem.W.fnOf "_law_worth_of" "_law_worth_of" (defArgs sWof) (defBody sWof) (defScope sWof) .none kV0Wof dc0Wof pm0Wof an0Wof cd0Wof ct0Wof), sl0Wof⟩)
    (c0Wof : PySem.W.codeIn K cd0Wof "_law_worth_of" = true)
    (k0Wof : PySem.W.keepIn K (.ref f0Wof) = true)
    (a0Lowest : PySem.W.nsIn K mainGlobals "_law_lowest" = some (some (.ref f0Lowest)))
    (l0Lowest : K.lookup f0Lowest = some ⟨oc0Lowest, od0Lowest, .func (PySem.W.fnOf "_law_lowest" "_law_lowest" (defArgs sLowest) (defBody sLowest) (defScope sLowest) .none kV0Lowest dc0Lowest pm0Lowest an0Lowest cd0Lowest ct0Lowest), sl0Lowest⟩)
    (c0Lowest : PySem.W.codeIn K cd0Lowest "_law_lowest" = true)
    (k0Lowest : PySem.W.keepIn K (.ref f0Lowest) = true)
    (a0Gcd : PySem.W.nsIn K mainGlobals "_law_gcd" = some (some (.ref f0Gcd)))
    (l0Gcd : K.lookup f0Gcd = some ⟨oc0Gcd, od0Gcd, .func (PySem.W.fnOf "_law_gcd" "_law_gcd" (defArgs sGcd) (defBody sGcd) (defScope sGcd) .none kV0Gcd dc0Gcd pm0Gcd an0Gcd cd0Gcd ct0Gcd), sl0Gcd⟩)
    (c0Gcd : PySem.W.codeIn K cd0Gcd "_law_gcd" = true)
    (k0Gcd : PySem.W.keepIn K (.ref f0Gcd) = true)
    (a0Pof : PySem.W.nsIn K mainGlobals "_law_parts_of" = some (some (.ref f0Pof)))
    (l0Pof : K.lookup f0Pof = some ⟨oc0Pof, od0Pof, .func (PySem.W.fnOf "_law_parts_of" "_law_parts_of" (defArgs sPof) (defBody sPof) (defScope sPof) .none kV0Pof dc0Pof pm0Pof an0Pof cd0Pof ct0Pof), sl0Pof⟩)
    (c0Pof : PySem.W.codeIn K cd0Pof "_law_parts_of" = true)
    (k0Pof : PySem.W.keepIn K (.ref f0Pof) = true)
    (a0Range : PySem.W.nsIn K mainGlobals "_law_range" = some (some (.ref f0Range)))
    (l0Range : K.lookup f0Range = some ⟨oc0Range, od0Range, .func (PySem.W.fnOf "_law_range" "_law_range" (defArgs sRange) (defBody sRange) (defScope sRange) .none kV0Range dc0Range pm0Range an0Range cd0Range ct0Range), sl0Range⟩)
    (c0Range : PySem.W.codeIn K cd0Range "_law_range" = true)
    (k0Range : PySem.W.keepIn K (.ref f0Range) = true)
    (a0DPlace : PySem.W.nsIn K mainGlobals "_law_place" = some (some (.ref f0DPlace)))
    (l0DPlace : K.lookup f0DPlace = some ⟨oc0DPlace, od0DPlace, .func (PySem.W.fnOf "_law_place" "_law_place" (defArgs sDPlace) (defBody sDPlace) (defScope sDPlace) .none kV0DPlace dc0DPlace pm0DPlace an0DPlace cd0DPlace ct0DPlace), sl0DPlace⟩)
    (c0DPlace : PySem.W.codeIn K cd0DPlace "_law_place" = true)
    (k0DPlace : PySem.W.keepIn K (.ref f0DPlace) = true)
    (a0LPlus : PySem.W.nsIn K mainGlobals "_law_plus" = some (some (.ref f0LPlus)))
    (l0LPlus : K.lookup f0LPlus = some ⟨oc0LPlus, od0LPlus, .func (PySem.W.fnOf "_law_plus" "_law_plus" (defArgs sLPlus) (defBody sLPlus) (defScope sLPlus) .none kV0LPlus dc0LPlus pm0LPlus an0LPlus cd0LPlus ct0LPlus), sl0LPlus⟩)
    (c0LPlus : PySem.W.codeIn K cd0LPlus "_law_plus" = true)
    (k0LPlus : PySem.W.keepIn K (.ref f0LPlus) = true)
    (a0LTimes : PySem.W.nsIn K mainGlobals "_law_times" = some (some (.ref f0LTimes)))
    (l0LTimes : K.lookup f0LTimes = some ⟨oc0LTimes, od0LTimes, .func (PySem.W.fnOf "_law_times" "_law_times" (defArgs sLTimes) (defBody sLTimes) (defScope sLTimes) .none kV0LTimes dc0LTimes pm0LTimes an0LTimes cd0LTimes ct0LTimes), sl0LTimes⟩)
    (c0LTimes : PySem.W.codeIn K cd0LTimes "_law_times" = true)
    (k0LTimes : PySem.W.keepIn K (.ref f0LTimes) = true)
    (a0Unit : PySem.W.nsIn K mainGlobals "_law_unit_of" = some (some (.ref f0Unit)))
    (l0Unit : K.lookup f0Unit = some ⟨oc0Unit, od0Unit, .func (PySem.W.fnOf "_law_unit_of" "_law_unit_of" (defArgs sUnit) (defBody sUnit) (defScope sUnit) .none kV0Unit dc0Unit pm0Unit an0Unit cd0Unit ct0Unit), sl0Unit⟩)
    (c0Unit : PySem.W.codeIn K cd0Unit "_law_unit_of" = true)
    (k0Unit : PySem.W.keepIn K (.ref f0Unit) = true)
    (a0DFracW : PySem.W.nsIn K mainGlobals "_law_frac_wide" = some (some (.ref f0DFracW)))
    (l0DFracW : K.lookup f0DFracW = some ⟨oc0DFracW, od0DFracW, .func (PySem.W.fnOf "_law_frac_wide" "_law_frac_wide" (defArgs sDFracW) (defBody sDFracW) (defScope sDFracW) .none kV0DFracW dc0DFracW pm0DFracW an0DFracW cd0DFracW ct0DFracW), sl0DFracW⟩)
    (c0DFracW : PySem.W.codeIn K cd0DFracW "_law_frac_wide" = true)
    (k0DFracW : PySem.W.keepIn K (.ref f0DFracW) = true)
    (a0Great : PySem.W.nsIn K mainGlobals "_law_great" = some (some (.ref f0Great)))
    (l0Great : K.lookup f0Great = some ⟨oc0Great, od0Great, .func (PySem.W.fnOf "_law_great" "_law_great" (defArgs sGreat) (defBody sGreat) (defScope sGreat) .none kV0Great dc0Great pm0Great an0Great cd0Great ct0Great), sl0Great⟩)
    (c0Great : PySem.W.codeIn K cd0Great "_law_great" = true)
    (k0Great : PySem.W.keepIn K (.ref f0Great) = true)
    (a0DFrac : PySem.W.nsIn K mainGlobals "_law_frac" = some (some (.ref f0DFrac)))
    (l0DFrac : K.lookup f0DFrac = some ⟨oc0DFrac, od0DFrac, .func (PySem.W.fnOf "_law_frac" "_law_frac" (defArgs sDFrac) (defBody sDFrac) (defScope sDFrac) .none kV0DFrac dc0DFrac pm0DFrac an0DFrac cd0DFrac ct0DFrac), sl0DFrac⟩)
    (c0DFrac : PySem.W.codeIn K cd0DFrac "_law_frac" = true)
    (k0DFrac : PySem.W.keepIn K (.ref f0DFrac) = true)
    (a0Plus : PySem.W.nsIn K mainGlobals "plus" = some (some (.ref f0Plus)))
    (l0Plus : K.lookup f0Plus = some ⟨oc0Plus, od0Plus, .func (PySem.W.fnOf "plus" "plus" (defArgs sPlus) (defBody sPlus) (defScope sPlus) .none kV0Plus dc0Plus pm0Plus an0Plus cd0Plus ct0Plus), sl0Plus⟩)
    (c0Plus : PySem.W.codeIn K cd0Plus "plus" = true)
    (k0Plus : PySem.W.keepIn K (.ref f0Plus) = true)
    (a0Require : PySem.W.nsIn K mainGlobals "require" = some (some (.ref f0Require)))
    (l0Require : K.lookup f0Require = some ⟨oc0Require, od0Require, .func (PySem.W.fnOf "require" "require" (defArgs sRequire) (defBody sRequire) (defScope sRequire) .none kV0Require dc0Require pm0Require an0Require cd0Require ct0Require), sl0Require⟩)
    (c0Require : PySem.W.codeIn K cd0Require "require" = true)
    (k0Require : PySem.W.keepIn K (.ref f0Require) = true)
    (a0IsFraction : PySem.W.nsIn K mainGlobals "is_fraction" = some (some (.ref f0IsFraction)))
    (l0IsFraction : K.lookup f0IsFraction = some ⟨oc0IsFraction, od0IsFraction, .func (PySem.W.fnOf "is_fraction" "is_fraction" (defArgs sIsFraction) (defBody sIsFraction) (defScope sIsFraction) .none kV0IsFraction dc0IsFraction pm0IsFraction an0IsFraction cd0IsFraction ct0IsFraction), sl0IsFraction⟩)
    (c0IsFraction : PySem.W.codeIn K cd0IsFraction "is_fraction" = true)
    (k0IsFraction : PySem.W.keepIn K (.ref f0IsFraction) = true)
    (a0Whole : PySem.W.nsIn K mainGlobals "is_whole" = some (some (.ref f0Whole)))
    (l0Whole : K.lookup f0Whole = some ⟨oc0Whole, od0Whole, .func (PySem.W.fnOf "is_whole" "is_whole" (defArgs sWhole) (defBody sWhole) (defScope sWhole) .none kV0Whole dc0Whole pm0Whole an0Whole cd0Whole ct0Whole), sl0Whole⟩)
    (c0Whole : PySem.W.codeIn K cd0Whole "is_whole" = true)
    (k0Whole : PySem.W.keepIn K (.ref f0Whole) = true)
    (a0Fraction : PySem.W.nsIn K mainGlobals "fraction" = some (some (.ref f0Fraction)))
    (l0Fraction : K.lookup f0Fraction = some ⟨oc0Fraction, od0Fraction, .func (PySem.W.fnOf "fraction" "fraction" (defArgs sFraction) (defBody sFraction) (defScope sFraction) (.ref t0Fraction) kV0Fraction dc0Fraction pm0Fraction an0Fraction cd0Fraction ct0Fraction), sl0Fraction⟩)
    (c0Fraction : PySem.W.codeIn K cd0Fraction "fraction" = true)
    (k0Fraction : PySem.W.keepIn K (.ref f0Fraction) = true)
    (lT0Fraction : K.lookup t0Fraction = some ⟨ocT0Fraction, odT0Fraction, .seq #[.int 1 tk0Fraction] nT0Fraction, slT0Fraction⟩)
    (a0Holds : PySem.W.nsIn K mainGlobals "_law_holds" = some (some (.ref f0Holds)))
    (l0Holds : K.lookup f0Holds = some ⟨oc0Holds, od0Holds, .func (PySem.W.fnOf "_law_holds" "_law_holds" (defArgs sHolds) (defBody sHolds) (defScope sHolds) .none kV0Holds dc0Holds pm0Holds an0Holds cd0Holds ct0Holds), sl0Holds⟩)
    (c0Holds : PySem.W.codeIn K cd0Holds "_law_holds" = true)
    (k0Holds : PySem.W.keepIn K (.ref f0Holds) = true)
    (a0MO : PySem.W.nsIn K mainGlobals "mixed_of" = some (some (.ref f0MO)))
    (l0MO : K.lookup f0MO = some ⟨oc0MO, od0MO, .func (PySem.W.fnOf "mixed_of" "mixed_of" (defArgs sMO) (defBody sMO) (defScope sMO) .none kV0MO dc0MO pm0MO an0MO cd0MO ct0MO), sl0MO⟩)
    (c0MO : PySem.W.codeIn K cd0MO "mixed_of" = true)
    (k0MO : PySem.W.keepIn K (.ref f0MO) = true)
    (g_MOST_PARTS : PySem.W.nsIn K mainGlobals "MOST_PARTS" = some (some (.int 4 tkMOST_PARTS)))
    (g_LEAST_RADIX : PySem.W.nsIn K mainGlobals "LEAST_RADIX" = some (some (.int 2 tkLEAST_RADIX)))
    (g_MOST_RADIX : PySem.W.nsIn K mainGlobals "MOST_RADIX" = some (some (.int 1000 tkMOST_RADIX)))
    (z_all : PySem.W.nsIn K mainGlobals "all" = some none)
    (a0ArR : PySem.W.nsIn K mainGlobals "_are_radices" = some (some (.ref f0ArR)))
    (l0ArR : K.lookup f0ArR = some ⟨oc0ArR, od0ArR, .func (PySem.W.fnOf "_are_radices" "_are_radices" (defArgs sArR) (defBody sArR) (defScope sArR) .none kV0ArR dc0ArR pm0ArR an0ArR cd0ArR ct0ArR), sl0ArR⟩)
    (c0ArR : PySem.W.codeIn K cd0ArR "_are_radices" = true)
    (k0ArR : PySem.W.keepIn K (.ref f0ArR) = true)
    (a0Within : PySem.W.nsIn K mainGlobals "is_whole_within" = some (some (.ref f0Within)))
    (l0Within : K.lookup f0Within = some ⟨oc0Within, od0Within, .func (PySem.W.fnOf "is_whole_within" "is_whole_within" (defArgs sWithin) (defBody sWithin) (defScope sWithin) .none kV0Within dc0Within pm0Within an0Within cd0Within ct0Within), sl0Within⟩)
    (c0Within : PySem.W.codeIn K cd0Within "is_whole_within" = true)
    (k0Within : PySem.W.keepIn K (.ref f0Within) = true)
    (a0WholeU : PySem.W.nsIn K mainGlobals "is_whole" = some (some (.ref f0WholeU)))
    (l0WholeU : K.lookup f0WholeU = some ⟨oc0WholeU, od0WholeU, .func (PySem.W.fnOf "is_whole" "is_whole" (defArgs sWholeU) (defBody sWholeU) (defScope sWholeU) .none kV0WholeU dc0WholeU pm0WholeU an0WholeU cd0WholeU ct0WholeU), sl0WholeU⟩)
    (c0WholeU : PySem.W.codeIn K cd0WholeU "is_whole" = true)
    (k0WholeU : PySem.W.keepIn K (.ref f0WholeU) = true)
    (a0Times : PySem.W.nsIn K mainGlobals "times" = some (some (.ref f0Times)))
    (l0Times : K.lookup f0Times = some ⟨oc0Times, od0Times, .func (PySem.W.fnOf "times" "times" (defArgs sTimes) (defBody sTimes) (defScope sTimes) .none kV0Times dc0Times pm0Times an0Times cd0Times ct0Times), sl0Times⟩)
    (c0Times : PySem.W.codeIn K cd0Times "times" = true)
    (k0Times : PySem.W.keepIn K (.ref f0Times) = true)
    (a0Least : PySem.W.nsIn K mainGlobals "_least_units" = some (some (.ref f0Least)))
    (l0Least : K.lookup f0Least = some ⟨oc0Least, od0Least, .func (PySem.W.fnOf "_least_units" "_least_units" (defArgs sLeast) (defBody sLeast) (defScope sLeast) .none kV0Least dc0Least pm0Least an0Least cd0Least ct0Least), sl0Least⟩)
    (c0Least : PySem.W.codeIn K cd0Least "_least_units" = true)
    (k0Least : PySem.W.keepIn K (.ref f0Least) = true)
    (a0Floor : PySem.W.nsIn K mainGlobals "floor_of" = some (some (.ref f0Floor)))
    (l0Floor : K.lookup f0Floor = some ⟨oc0Floor, od0Floor, .func (PySem.W.fnOf "floor_of" "floor_of" (defArgs sFloor) (defBody sFloor) (defScope sFloor) .none kV0Floor dc0Floor pm0Floor an0Floor cd0Floor ct0Floor), sl0Floor⟩)
    (c0Floor : PySem.W.codeIn K cd0Floor "floor_of" = true)
    (k0Floor : PySem.W.keepIn K (.ref f0Floor) = true)
    (z_divmod : PySem.W.nsIn K mainGlobals "divmod" = some none)
    (z_reversed : PySem.W.nsIn K mainGlobals "reversed" = some none)
    (a0ArP : PySem.W.nsIn K mainGlobals "_are_parts" = some (some (.ref f0ArP)))
    (l0ArP : K.lookup f0ArP = some ⟨oc0ArP, od0ArP, .func (PySem.W.fnOf "_are_parts" "_are_parts" (defArgs sArP) (defBody sArP) (defScope sArP) .none kV0ArP dc0ArP pm0ArP an0ArP cd0ArP ct0ArP), sl0ArP⟩)
    (c0ArP : PySem.W.codeIn K cd0ArP "_are_parts" = true)
    (k0ArP : PySem.W.keepIn K (.ref f0ArP) = true)
    (z_zip : PySem.W.nsIn K mainGlobals "zip" = some none)
    (a0Fit : PySem.W.nsIn K mainGlobals "_fit" = some (some (.ref f0Fit)))
    (l0Fit : K.lookup f0Fit = some ⟨oc0Fit, od0Fit, .func (PySem.W.fnOf "_fit" "_fit" (defArgs sFit) (defBody sFit) (defScope sFit) .none kV0Fit dc0Fit pm0Fit an0Fit cd0Fit ct0Fit), sl0Fit⟩)
    (c0Fit : PySem.W.codeIn K cd0Fit "_fit" = true)
    (k0Fit : PySem.W.keepIn K (.ref f0Fit) = true)
    (a0Worth : PySem.W.nsIn K mainGlobals "_worth" = some (some (.ref f0Worth)))
    (l0Worth : K.lookup f0Worth = some ⟨oc0Worth, od0Worth, .func (PySem.W.fnOf "_worth" "_worth" (defArgs sWorth) (defBody sWorth) (defScope sWorth) .none kV0Worth dc0Worth pm0Worth an0Worth cd0Worth ct0Worth), sl0Worth⟩)
    (c0Worth : PySem.W.codeIn K cd0Worth "_worth" = true)
    (k0Worth : PySem.W.keepIn K (.ref f0Worth) = true)
    (a0From : PySem.W.nsIn K mainGlobals "_mixed_from" = some (some (.ref f0From)))
    (l0From : K.lookup f0From = some ⟨oc0From, od0From, .func (PySem.W.fnOf "_mixed_from" "_mixed_from" (defArgs sFrom) (defBody sFrom) (defScope sFrom) .none kV0From dc0From pm0From an0From cd0From ct0From), sl0From⟩)
    (c0From : PySem.W.codeIn K cd0From "_mixed_from" = true)
    (k0From : PySem.W.keepIn K (.ref f0From) = true)
    (a0Minus : PySem.W.nsIn K mainGlobals "minus" = some (some (.ref f0Minus)))
    (l0Minus : K.lookup f0Minus = some ⟨oc0Minus, od0Minus, .func (PySem.W.fnOf "minus" "minus" (defArgs sMinus) (defBody sMinus) (defScope sMinus) .none kV0Minus dc0Minus pm0Minus an0Minus cd0Minus ct0Minus), sl0Minus⟩)
    (c0Minus : PySem.W.codeIn K cd0Minus "minus" = true)
    (k0Minus : PySem.W.keepIn K (.ref f0Minus) = true)
    (a0NM : PySem.W.nsIn K mainGlobals "nearest_mixed" = some (some (.ref f0NM)))
    (l0NM : K.lookup f0NM = some ⟨oc0NM, od0NM, .func (PySem.W.fnOf "nearest_mixed" "nearest_mixed" (defArgs sNM) (defBody sNM) (defScope sNM) .none kV0NM dc0NM pm0NM an0NM cd0NM ct0NM), sl0NM⟩)
    (c0NM : PySem.W.codeIn K cd0NM "nearest_mixed" = true)
    (k0NM : PySem.W.keepIn K (.ref f0NM) = true)
    (a0LIsPlace : PySem.W.nsIn K mainGlobals "_law_is_place" = some (some (.ref f0LIsPlace)))
    (l0LIsPlace : K.lookup f0LIsPlace = some ⟨oc0LIsPlace, od0LIsPlace, .func (PySem.W.fnOf "_law_is_place" "_law_is_place" (defArgs sLIsPlace) (defBody sLIsPlace) (defScope sLIsPlace) .none kV0LIsPlace dc0LIsPlace pm0LIsPlace an0LIsPlace cd0LIsPlace ct0LIsPlace), sl0LIsPlace⟩)
    (c0LIsPlace : PySem.W.codeIn K cd0LIsPlace "_law_is_place" = true)
    (k0LIsPlace : PySem.W.keepIn K (.ref f0LIsPlace) = true)
    (a0LFrac : PySem.W.nsIn K mainGlobals "_law_is_frac" = some (some (.ref f0LFrac)))
    (l0LFrac : K.lookup f0LFrac = some ⟨oc0LFrac, od0LFrac, .func (PySem.W.fnOf "_law_is_frac" "_law_is_frac" (defArgs sLFrac) (defBody sLFrac) (defScope sLFrac) .none kV0LFrac dc0LFrac pm0LFrac an0LFrac cd0LFrac ct0LFrac), sl0LFrac⟩)
    (c0LFrac : PySem.W.codeIn K cd0LFrac "_law_is_frac" = true)
    (k0LFrac : PySem.W.keepIn K (.ref f0LFrac) = true)
    (a0LWhole : PySem.W.nsIn K mainGlobals "_law_is_whole" = some (some (.ref f0LWhole)))
    (l0LWhole : K.lookup f0LWhole = some ⟨oc0LWhole, od0LWhole, .func (PySem.W.fnOf "_law_is_whole" "_law_is_whole" (defArgs sLWhole) (defBody sLWhole) (defScope sLWhole) .none kV0LWhole dc0LWhole pm0LWhole an0LWhole cd0LWhole ct0LWhole), sl0LWhole⟩)
    (c0LWhole : PySem.W.codeIn K cd0LWhole "_law_is_whole" = true)
    (k0LWhole : PySem.W.keepIn K (.ref f0LWhole) = true)
    (a0Told : PySem.W.nsIn K mainGlobals "_law_told" = some (some (.ref f0Told)))
    (l0Told : K.lookup f0Told = some ⟨oc0Told, od0Told, .func (PySem.W.fnOf "_law_told" "_law_told" (defArgs sTold) (defBody sTold) (defScope sTold) .none kV0Told dc0Told pm0Told an0Told cd0Told ct0Told), sl0Told⟩)
    (c0Told : PySem.W.codeIn K cd0Told "_law_told" = true)
    (k0Told : PySem.W.keepIn K (.ref f0Told) = true)
    (a0Same : PySem.W.nsIn K mainGlobals "_law_same" = some (some (.ref f0Same)))
    (l0Same : K.lookup f0Same = some ⟨oc0Same, od0Same, .func (PySem.W.fnOf "_law_same" "_law_same" (defArgs sSame) (defBody sSame) (defScope sSame) .none kV0Same dc0Same pm0Same an0Same cd0Same ct0Same), sl0Same⟩)
    (c0Same : PySem.W.codeIn K cd0Same "_law_same" = true)
    (k0Same : PySem.W.keepIn K (.ref f0Same) = true)
    (a0LMinus : PySem.W.nsIn K mainGlobals "_law_minus" = some (some (.ref f0LMinus)))
    (l0LMinus : K.lookup f0LMinus = some ⟨oc0LMinus, od0LMinus, .func (PySem.W.fnOf "_law_minus" "_law_minus" (defArgs sLMinus) (defBody sLMinus) (defScope sLMinus) .none kV0LMinus dc0LMinus pm0LMinus an0LMinus cd0LMinus ct0LMinus), sl0LMinus⟩)
    (c0LMinus : PySem.W.codeIn K cd0LMinus "_law_minus" = true)
    (k0LMinus : PySem.W.keepIn K (.ref f0LMinus) = true)
    (a0LOver : PySem.W.nsIn K mainGlobals "_law_over" = some (some (.ref f0LOver)))
    (l0LOver : K.lookup f0LOver = some ⟨oc0LOver, od0LOver, .func (PySem.W.fnOf "_law_over" "_law_over" (defArgs sLOver) (defBody sLOver) (defScope sLOver) .none kV0LOver dc0LOver pm0LOver an0LOver cd0LOver ct0LOver), sl0LOver⟩)
    (c0LOver : PySem.W.codeIn K cd0LOver "_law_over" = true)
    (k0LOver : PySem.W.keepIn K (.ref f0LOver) = true)
    (mm_k : PySem.W.keepIn K (.ref C_Mismatch) = true)
    (mm_x : PySem.W.excIn K C_Mismatch [.type "ValueError", .type "Exception", .type "BaseException", .type "object"] "ValueError.__new__" = true)
    (mm_s : PySem.W.subIn K (.ref C_Mismatch) (.type "BaseException") = some true)
    (mm_v : PySem.W.subIn K (.ref C_Mismatch) (.type "ValueError") = some true)
    (mm_y : PySem.W.subIn K (.ref C_Mismatch) (.ref S) = some true)
    (mm_g : PySem.W.findIn K (.ref C_Mismatch) "__getattribute__" = some (some (.builtin "BaseException.__getattribute__")))
    (mm_t : PySem.W.findIn K (.ref C_Mismatch) "__getattr__" = some none)
    (mm_c : PySem.W.findIn K (.ref C_Mismatch) "__class__" = some (some (.builtin "object.__class__")))
    (mm_o : PySem.W.mroIn K C_Mismatch (.type "object") = some true)
    (ms_BadValue : PySem.W.subIn K (.ref C_Mismatch) (.ref C) = some false)
    (n_mBadValue : (Value.ref C_Mismatch == Value.ref C) = false)
    (ms_Still : PySem.W.subIn K (.ref C_Mismatch) (.ref C_Still) = some false)
    (n_mStill : (Value.ref C_Mismatch == Value.ref C_Still) = false)
    (ms_Endless : PySem.W.subIn K (.ref C_Mismatch) (.ref C_Endless) = some false)
    (n_mEndless : (Value.ref C_Mismatch == Value.ref C_Endless) = false)
    (ms_TooMany : PySem.W.subIn K (.ref C_Mismatch) (.ref C_TooMany) = some false)
    (n_mTooMany : (Value.ref C_Mismatch == Value.ref C_TooMany) = false)
    (ms_NoName : PySem.W.subIn K (.ref C_Mismatch) (.ref C_NoName) = some false)
    (n_mNoName : (Value.ref C_Mismatch == Value.ref C_NoName) = false)
    (ms_Taken : PySem.W.subIn K (.ref C_Mismatch) (.ref C_Taken) = some false)
    (n_mTaken : (Value.ref C_Mismatch == Value.ref C_Taken) = false)
    (ms_Locked : PySem.W.subIn K (.ref C_Mismatch) (.ref C_Locked) = some false)
    (n_mLocked : (Value.ref C_Mismatch == Value.ref C_Locked) = false)
    (ms_Looped : PySem.W.subIn K (.ref C_Mismatch) (.ref C_Looped) = some false)
    (n_mLooped : (Value.ref C_Mismatch == Value.ref C_Looped) = false)
    (ms_Broken : PySem.W.subIn K (.ref C_Mismatch) (.ref C_Broken) = some false)
    (n_mBroken : (Value.ref C_Mismatch == Value.ref C_Broken) = false)
    (ms_ReadError : PySem.W.subIn K (.ref C_Mismatch) (.ref C_ReadError) = some false)
    (n_mReadError : (Value.ref C_Mismatch == Value.ref C_ReadError) = false)
    (a0BadFrac : PySem.W.nsIn K mainGlobals "_law_bad_frac" = some (some (.ref f0BadFrac)))
    (l0BadFrac : K.lookup f0BadFrac = some ⟨oc0BadFrac, od0BadFrac, .func (PySem.W.fnOf "_law_bad_frac" "_law_bad_frac" (defArgs sBadFrac) (defBody sBadFrac) (defScope sBadFrac) .none kV0BadFrac dc0BadFrac pm0BadFrac an0BadFrac cd0BadFrac ct0BadFrac), sl0BadFrac⟩)
    (c0BadFrac : PySem.W.codeIn K cd0BadFrac "_law_bad_frac" = true)
    (k0BadFrac : PySem.W.keepIn K (.ref f0BadFrac) = true)
    (a0BSz : PySem.W.nsIn K mainGlobals "_law_bad_sizes" = some (some (.ref f0BSz)))
    (l0BSz : K.lookup f0BSz = some ⟨oc0BSz, od0BSz, .func (PySem.W.fnOf "_law_bad_sizes" "_law_bad_sizes" (defArgs sBSz) (defBody sBSz) (defScope sBSz) .none kV0BSz dc0BSz pm0BSz an0BSz cd0BSz ct0BSz), sl0BSz⟩)
    (c0BSz : PySem.W.codeIn K cd0BSz "_law_bad_sizes" = true)
    (k0BSz : PySem.W.keepIn K (.ref f0BSz) = true)
    (a0By : PySem.W.nsIn K mainGlobals "_law_beyond" = some (some (.ref f0By)))
    (l0By : K.lookup f0By = some ⟨oc0By, od0By, .func (PySem.W.fnOf "_law_beyond" "_law_beyond" (defArgs sBy) (defBody sBy) (defScope sBy) .none kV0By dc0By pm0By an0By cd0By ct0By), sl0By⟩)
    (c0By : PySem.W.codeIn K cd0By "_law_beyond" = true)
    (k0By : PySem.W.keepIn K (.ref f0By) = true)
    (a0BW : PySem.W.nsIn K mainGlobals "_law_bad_whole" = some (some (.ref f0BW)))
    (l0BW : K.lookup f0BW = some ⟨oc0BW, od0BW, .func (PySem.W.fnOf "_law_bad_whole" "_law_bad_whole" (defArgs sBW) (defBody sBW) (defScope sBW) .none kV0BW dc0BW pm0BW an0BW cd0BW ct0BW), sl0BW⟩)
    (c0BW : PySem.W.codeIn K cd0BW "_law_bad_whole" = true)
    (k0BW : PySem.W.keepIn K (.ref f0BW) = true)
    (a0BT : PySem.W.nsIn K mainGlobals "_law_bad_tuple" = some (some (.ref f0BT)))
    (l0BT : K.lookup f0BT = some ⟨oc0BT, od0BT, .func (PySem.W.fnOf "_law_bad_tuple" "_law_bad_tuple" (defArgs sBT) (defBody sBT) (defScope sBT) .none kV0BT dc0BT pm0BT an0BT cd0BT ct0BT), sl0BT⟩)
    (c0BT : PySem.W.codeIn K cd0BT "_law_bad_tuple" = true)
    (k0BT : PySem.W.keepIn K (.ref f0BT) = true)
    (a0With : PySem.W.nsIn K mainGlobals "_law_with" = some (some (.ref f0With)))
    (l0With : K.lookup f0With = some ⟨oc0With, od0With, .func (PySem.W.fnOf "_law_with" "_law_with" (defArgs sWith) (defBody sWith) (defScope sWith) .none kV0With dc0With pm0With an0With cd0With ct0With), sl0With⟩)
    (c0With : PySem.W.codeIn K cd0With "_law_with" = true)
    (k0With : PySem.W.keepIn K (.ref f0With) = true) :
    ∃ fd : FuncData, (∀ (s : Shared) (v : Value), BindsTo s fd ⟨[v], []⟩ [("_law_script", v)]) ∧ ∀ base : Heap, K.In base → base.Ns mainGlobals mg → ∀ P1 : Addr, LamX.TabB base mg c_R1 P1 → FnOk P w K mg base CX0 9 fa fd ["_law_script"] (spLaw K P1) := by
  have T : Bt K mg := ⟨PySem.W.mg_none_of X G z_int, PySem.W.mg_none_of X G z_len, PySem.W.mg_none_of X G z_list, PySem.W.mg_none_of X G z_abs, PySem.W.mg_none_of X G z_range, PySem.W.mg_none_of X G z_min, PySem.W.mg_none_of X G z_max, PySem.W.mg_none_of X G z_isinstance, PySem.W.mg_none_of X G z_bool, PySem.W.mg_none_of X G z_str, PySem.W.mg_none_of X G z_dict, PySem.W.mg_none_of X G z_tuple, PySem.W.mg_of X G z_gcd⟩
  have FI := fun_mk (st := sInitB) lI cI kI
  have bI := FI.binds (ps := ["self", "what"]) fun _ _ _ _ _ _ us hl => match us, hl with | [_, _], _ => rfl
  have B : BvT K mg C := ⟨PySem.W.mg_of X G aC, ⟨⟨nm, qn, N0, bs, bm, sn, sub, ab, col, dd, m0, m1, m2, m3, m5, xL, hbm⟩, sa, eC, tC, kC⟩, nw, fI, _, aI, tI, FI, bI⟩
  have icC : (PySem.W.clsIn K C).isSome = true := by
    obtain ⟨cd, hc, _⟩ := PySem.W.any_some hC
    rw [hc]; rfl
  let A : String → Addr := fun n => if n = "Mismatch" then C_Mismatch else if n = "Still" then C_Still else if n = "Endless" then C_Endless else if n = "TooMany" then C_TooMany else if n = "NoName" then C_NoName else if n = "Taken" then C_Taken else if n = "Locked" then C_Locked else if n = "Looped" then C_Looped else if n = "Broken" then C_Broken else if n = "ReadError" then C_ReadError else C
  have kit : ∀ D : Addr, PySem.W.typeIn K (.ref D) = some (.type "type") → PySem.W.hasDictIn K D = true → PySem.W.subIn K (.ref C) (.ref D) = some false → (Value.ref C == Value.ref D) = false → PySem.W.kitOne K (.ref C) (.ref D) = some false := fun D h1 h2 h3 h4 => by
    obtain ⟨cd, hc, _⟩ := PySem.W.any_some h2
    unfold PySem.W.kitOne PySem.W.kitCls
    rw [h4, if_neg Bool.false_ne_true]
    show (if ((PySem.W.clsIn K D).isSome && PySem.W.typeIn K (.ref D) == some (.type "type")) = true then PySem.W.subIn K (.ref C) (.ref D) else none) = some false
    rw [hc, h1, if_pos (by rfl)]
    exact h3
  have AT : AskT K mg C S A := {
    sky := PySem.W.mg_of X G aS
    exm := PySem.W.exm_ref eS hS tS cS
    g := fun n hn => by
      simp only [List.mem_cons, List.not_mem_nil, or_false] at hn
      rcases hn with rfl | rfl | rfl | rfl | rfl | rfl | rfl | rfl | rfl | rfl | rfl
      · exact PySem.W.mg_of X G aC
      · exact PySem.W.mg_of X G a_Mismatch
      · exact PySem.W.mg_of X G a_Still
      · exact PySem.W.mg_of X G a_Endless
      · exact PySem.W.mg_of X G a_TooMany
      · exact PySem.W.mg_of X G a_NoName
      · exact PySem.W.mg_of X G a_Taken
      · exact PySem.W.mg_of X G a_Locked
      · exact PySem.W.mg_of X G a_Looped
      · exact PySem.W.mg_of X G a_Broken
      · exact PySem.W.mg_of X G a_ReadError
    k := fun n hn => by
      simp only [List.mem_cons, List.not_mem_nil, or_false] at hn
      rcases hn with rfl | rfl | rfl | rfl | rfl | rfl | rfl | rfl | rfl | rfl | rfl
      · show PySem.W.kitOne K (.ref C) (.ref C) = some true
        unfold PySem.W.kitOne
        rw [if_pos (by simp)]
      · exact kit C_Mismatch t_Mismatch h_Mismatch s_Mismatch n_Mismatch
      · exact kit C_Still t_Still h_Still s_Still n_Still
      · exact kit C_Endless t_Endless h_Endless s_Endless n_Endless
      · exact kit C_TooMany t_TooMany h_TooMany s_TooMany n_TooMany
      · exact kit C_NoName t_NoName h_NoName s_NoName n_NoName
      · exact kit C_Taken t_Taken h_Taken s_Taken n_Taken
      · exact kit C_Locked t_Locked h_Locked s_Locked n_Locked
      · exact kit C_Looped t_Looped h_Looped s_Looped n_Looped
      · exact kit C_Broken t_Broken h_Broken s_Broken n_Broken
      · exact kit C_ReadError t_ReadError h_ReadError s_ReadError n_ReadError
    ve := by
      unfold PySem.W.kitOne PySem.W.kitCls
      rw [if_neg (by simp)]
      show (if PySem.W.kitMeta "ValueError" = true then PySem.W.subIn K (.ref C) (.type "ValueError") else none) = some true
      rw [if_pos (by decide +kernel)]
      exact vC
    b_VE := PySem.W.mg_none_of X G z_VE
    hcl := icC
    hga := ga
    hgt := gg
    hsub := eC
    ha := gc
    hn := spc
    htk := tkc
    hm := mC
    xf := ⟨ga, gg, eC, hC⟩ }
  have FA := fun_mk (st := sAsked) l_A c_A k_A
  have AS : AskD K mg f_A oc_A od_A .none kV_A dc_A pm_A an_A cd_A ct_A sl_A := ⟨PySem.W.mg_of X G a_A, k_A, l_A, c_A, FA.binds (ps := ["_law_call"]) fun _ _ _ _ _ _ us hl => match us, hl with | [_], _ => rfl⟩
  have F_R1 := fun_mk (st := sRfz) l_R1 cd_R1 k_R1
  have b_R1 := F_R1.binds (ps := ["_law_store_here", "_law_value_here", "_law_sizes"]) fun _ _ _ _ _ _ us hl => match us, hl with | [_, _, _], _ => rfl
  have HF : HalfT K mg hf := ⟨PySem.W.mg_of X G aHF, ob_con o_H⟩
  have yC : Cls K MC := ⟨ypg, yhd, ypo, ysa⟩
  have yI : C8.InsC K MC := ⟨yC, yca, spc, tkc, yro, by
    unfold PySem.W.kitOne
    rw [if_pos (by simp)]⟩
  have Y : MxC K mg MC := ⟨yC, yn_whole, yn_parts, yn_radices, yn_worth, PySem.W.mg_of X G aMC⟩
  have YM : L2.Mk K MC fIN := ⟨ymk, y1IN, y2IN, ykp⟩
  have FIN : FunD K "__init__" "Mixed.__init__" (defArgs sMxInit) (defBody sMxInit) (defScope sMxInit) [.ref zi] [] fIN _ := ⟨⟨ocIN, odIN, _, kVIN, dcIN, pmIN, anIN, cdIN, ctIN, slIN, rfl, lIN, cIN, .inr ⟨by simp, tY, _, [.ref zi], nTY, rfl, lTY, rfl, .cons rfl .nil⟩, .inl rfl⟩, kIN⟩
  have FEQ := fun_mk (st := sMxEq) lEQ cEQ kEQ
  have bEQ := FEQ.binds (ps := ["self", "other"]) fun _ _ _ _ _ _ us hl => match us, hl with | [_, _], _ => rfl
  have DStore : Dfn K mg "_law_store" sStore ["_law_script"] := dfn_mk X G a0Store l0Store c0Store k0Store fun _ _ _ _ _ _ us hl => match us, hl with | [_], _ => rfl
  have DLRx : Dfn K mg "_law_radices" sLRx ["_law_store_here"] := dfn_mk X G a0LRx l0LRx c0LRx k0LRx fun _ _ _ _ _ _ us hl => match us, hl with | [_], _ => rfl
  have DTake : Dfn K mg "_law_take" sTake ["_law_store_here", "_law_many"] := dfn_mk X G a0Take l0Take c0Take k0Take fun _ _ _ _ _ _ us hl => match us, hl with | [_, _], _ => rfl
  have DMixed : Dfn K mg "_law_mixed" sMixed ["_law_number", "_law_turn"] := dfn_mk X G a0Mixed l0Mixed c0Mixed k0Mixed fun _ _ _ _ _ _ us hl => match us, hl with | [_, _], _ => rfl
  have DPick : Dfn K mg "_law_pick" sPick ["_law_store_here", "_law_row"] := dfn_mk X G a0Pick l0Pick c0Pick k0Pick fun _ _ _ _ _ _ us hl => match us, hl with | [_, _], _ => rfl
  have DVal : Dfn K mg "_law_value" sVal ["_law_store_here", "_law_sizes"] := dfn_mk X G a0Val l0Val c0Val k0Val fun _ _ _ _ _ _ us hl => match us, hl with | [_, _], _ => rfl
  have DLInt : Dfn K mg "_law_whole" sLInt ["_law_store_here", "_law_reach"] := dfn_mk X G a0LInt l0LInt c0LInt k0LInt fun _ _ _ _ _ _ us hl => match us, hl with | [_, _], _ => rfl
  have DWof : Dfn K mg "_law_worth_of" sWof ["_law_whole_here", "_law_parts", "_law_sizes"] := dfn_mk X G a0Wof l0Wof c0Wof k0Wof fun _ _ _ _ _ _ us hl => match us, hl with | [_, _, _], _ => rfl
  have DLowest : Dfn K mg "_law_lowest" sLowest ["_law_top", "_law_bottom"] := dfn_mk X G a0Lowest l0Lowest c0Lowest k0Lowest fun _ _ _ _ _ _ us hl => match us, hl with | [_, _], _ => rfl
  have DGcd : Dfn K mg "_law_gcd" sGcd ["_law_left", "_law_right"] := dfn_mk X G a0Gcd l0Gcd c0Gcd k0Gcd fun _ _ _ _ _ _ us hl => match us, hl with | [_, _], _ => rfl
  have DPof : Dfn K mg "_law_parts_of" sPof ["_law_store_here", "_law_sizes"] := dfn_mk X G a0Pof l0Pof c0Pof k0Pof fun _ _ _ _ _ _ us hl => match us, hl with | [_, _], _ => rfl
  have DRange : Dfn K mg "_law_range" sRange ["_law_store_here", "_law_low", "_law_high"] := dfn_mk X G a0Range l0Range c0Range k0Range fun _ _ _ _ _ _ us hl => match us, hl with | [_, _, _], _ => rfl
  have DDPlace : Dfn K mg "_law_place" sDPlace ["_law_store_here"] := dfn_mk X G a0DPlace l0DPlace c0DPlace k0DPlace fun _ _ _ _ _ _ us hl => match us, hl with | [_], _ => rfl
  have DLPlus : Dfn K mg "_law_plus" sLPlus ["_law_left", "_law_right"] := dfn_mk X G a0LPlus l0LPlus c0LPlus k0LPlus fun _ _ _ _ _ _ us hl => match us, hl with | [_, _], _ => rfl
  have DLTimes : Dfn K mg "_law_times" sLTimes ["_law_left", "_law_right"] := dfn_mk X G a0LTimes l0LTimes c0LTimes k0LTimes fun _ _ _ _ _ _ us hl => match us, hl with | [_, _], _ => rfl
  have DUnit : Dfn K mg "_law_unit_of" sUnit ["_law_sizes"] := dfn_mk X G a0Unit l0Unit c0Unit k0Unit fun _ _ _ _ _ _ us hl => match us, hl with | [_], _ => rfl
  have DDFracW : Dfn K mg "_law_frac_wide" sDFracW ["_law_store_here"] := dfn_mk X G a0DFracW l0DFracW c0DFracW k0DFracW fun _ _ _ _ _ _ us hl => match us, hl with | [_], _ => rfl
  have DGreat : Dfn K mg "_law_great" sGreat ["_law_store_here"] := dfn_mk X G a0Great l0Great c0Great k0Great fun _ _ _ _ _ _ us hl => match us, hl with | [_], _ => rfl
  have DDFrac : Dfn K mg "_law_frac" sDFrac ["_law_store_here"] := dfn_mk X G a0DFrac l0DFrac c0DFrac k0DFrac fun _ _ _ _ _ _ us hl => match us, hl with | [_], _ => rfl
  have DPlus : Dfn K mg "plus" sPlus ["left", "right"] := dfn_mk X G a0Plus l0Plus c0Plus k0Plus fun _ _ _ _ _ _ us hl => match us, hl with | [_, _], _ => rfl
  have DRequire : Dfn K mg "require" sRequire ["well_formed", "what"] := dfn_mk X G a0Require l0Require c0Require k0Require fun _ _ _ _ _ _ us hl => match us, hl with | [_, _], _ => rfl
  have DIsFraction : Dfn K mg "is_fraction" sIsFraction ["value"] := dfn_mk X G a0IsFraction l0IsFraction c0IsFraction k0IsFraction fun _ _ _ _ _ _ us hl => match us, hl with | [_], _ => rfl
  have DWhole : Dfn K mg "is_whole" sWhole ["value"] := dfn_mk X G a0Whole l0Whole c0Whole k0Whole fun _ _ _ _ _ _ us hl => match us, hl with | [_], _ => rfl
  have FDFraction : FunD K "fraction" "fraction" (defArgs sFraction) (defBody sFraction) (defScope sFraction) [.int 1] [] f0Fraction _ := ⟨⟨oc0Fraction, od0Fraction, _, kV0Fraction, dc0Fraction, pm0Fraction, an0Fraction, cd0Fraction, ct0Fraction, sl0Fraction, rfl, l0Fraction, c0Fraction, .inr ⟨by simp, t0Fraction, _, [.int 1 tk0Fraction], nT0Fraction, rfl, lT0Fraction, rfl, .cons ⟨tk0Fraction, rfl⟩ .nil⟩, .inl rfl⟩, k0Fraction⟩
  have DFraction : DfnD K mg "fraction" sFraction ["numerator", "denominator"] := by
    obtain ⟨ds, hv, hb⟩ := FDFraction.binds1 (ps := ["numerator", "denominator"]) 2 1 (by simp) rfl fun T kV doc pm an cdv ct us its hu hi => match us, its, hu, hi with
      | [u0, u1], [i1], _, _ => ⟨_, rfl, rfl⟩
    cases hv
    exact ⟨f0Fraction, _, _, FDFraction, PySem.W.mg_of X G a0Fraction, hb⟩
  have DHolds : Dfn K mg "_law_holds" sHolds ["_law_value_here", "_law_sizes"] := dfn_mk X G a0Holds l0Holds c0Holds k0Holds fun _ _ _ _ _ _ us hl => match us, hl with | [_, _], _ => rfl
  have D1Fraction : DfnD1 K mg "fraction" sFraction ["numerator", "denominator"] (.int 1) := by
    obtain ⟨ds, hv, hb⟩ := FDFraction.binds1 (ps := ["numerator", "denominator"]) 1 0 (by simp) rfl fun T kV doc pm an cdv ct us its hu hi => match us, its, hu, hi with
      | [u0], [i1], _, _ => ⟨_, rfl, rfl⟩
    exact ⟨f0Fraction, _, _, ds, FDFraction, PySem.W.mg_of X G a0Fraction, hv, hb⟩
  have DMO : DfnK K mg "mixed_of" sMO ["value", "radices"] ["radices"] := ⟨f0MO, _, fun_mk l0MO c0MO k0MO, PySem.W.mg_of X G a0MO, kb2 fun s u w => .of_eq rfl⟩
  have DArR : Dfn K mg "_are_radices" sArR ["value"] := dfn_mk X G a0ArR l0ArR c0ArR k0ArR fun _ _ _ _ _ _ us hl => match us, hl with | [_], _ => rfl
  have DWithin : Dfn K mg "is_whole_within" sWithin ["value", "least", "most"] := dfn_mk X G a0Within l0Within c0Within k0Within fun _ _ _ _ _ _ us hl => match us, hl with | [_, _, _], _ => rfl
  have DWholeU : Dfn K mg "is_whole" sWholeU ["value"] := dfn_mk X G a0WholeU l0WholeU c0WholeU k0WholeU fun _ _ _ _ _ _ us hl => match us, hl with | [_], _ => rfl
  have DTimes : Dfn K mg "times" sTimes ["left", "right"] := dfn_mk X G a0Times l0Times c0Times k0Times fun _ _ _ _ _ _ us hl => match us, hl with | [_, _], _ => rfl
  have DLeast : Dfn K mg "_least_units" sLeast ["radices"] := dfn_mk X G a0Least l0Least c0Least k0Least fun _ _ _ _ _ _ us hl => match us, hl with | [_], _ => rfl
  have DFloor : Dfn K mg "floor_of" sFloor ["value"] := dfn_mk X G a0Floor l0Floor c0Floor k0Floor fun _ _ _ _ _ _ us hl => match us, hl with | [_], _ => rfl
  have DArP : Dfn K mg "_are_parts" sArP ["value"] := dfn_mk X G a0ArP l0ArP c0ArP k0ArP fun _ _ _ _ _ _ us hl => match us, hl with | [_], _ => rfl
  have DFit : Dfn K mg "_fit" sFit ["parts", "radices"] := dfn_mk X G a0Fit l0Fit c0Fit k0Fit fun _ _ _ _ _ _ us hl => match us, hl with | [_, _], _ => rfl
  have DWorth : Dfn K mg "_worth" sWorth ["whole", "parts", "radices"] := dfn_mk X G a0Worth l0Worth c0Worth k0Worth fun _ _ _ _ _ _ us hl => match us, hl with | [_, _, _], _ => rfl
  have DFrom : Dfn K mg "_mixed_from" sFrom ["units", "radices"] := dfn_mk X G a0From l0From c0From k0From fun _ _ _ _ _ _ us hl => match us, hl with | [_, _], _ => rfl
  have DMinus : Dfn K mg "minus" sMinus ["left", "right"] := dfn_mk X G a0Minus l0Minus c0Minus k0Minus fun _ _ _ _ _ _ us hl => match us, hl with | [_, _], _ => rfl
  have DNM : DfnK K mg "nearest_mixed" sNM ["value", "radices"] ["radices"] := ⟨f0NM, _, fun_mk l0NM c0NM k0NM, PySem.W.mg_of X G a0NM, kb2 fun s u w => .of_eq rfl⟩
  have DLIsPlace : Dfn K mg "_law_is_place" sLIsPlace ["_law_told_here"] := dfn_mk X G a0LIsPlace l0LIsPlace c0LIsPlace k0LIsPlace fun _ _ _ _ _ _ us hl => match us, hl with | [_], _ => rfl
  have DLFrac : Dfn K mg "_law_is_frac" sLFrac ["_law_told_here"] := dfn_mk X G a0LFrac l0LFrac c0LFrac k0LFrac fun _ _ _ _ _ _ us hl => match us, hl with | [_], _ => rfl
  have DLWhole : Dfn K mg "_law_is_whole" sLWhole ["_law_told_here"] := dfn_mk X G a0LWhole l0LWhole c0LWhole k0LWhole fun _ _ _ _ _ _ us hl => match us, hl with | [_], _ => rfl
  have DTold : Dfn K mg "_law_told" sTold ["_law_mixed_here", "_law_sizes"] := dfn_mk X G a0Told l0Told c0Told k0Told fun _ _ _ _ _ _ us hl => match us, hl with | [_, _], _ => rfl
  have DSame : Dfn K mg "_law_same" sSame ["_law_told_here", "_law_due"] := dfn_mk X G a0Same l0Same c0Same k0Same fun _ _ _ _ _ _ us hl => match us, hl with | [_, _], _ => rfl
  have DLMinus : Dfn K mg "_law_minus" sLMinus ["_law_left", "_law_right"] := dfn_mk X G a0LMinus l0LMinus c0LMinus k0LMinus fun _ _ _ _ _ _ us hl => match us, hl with | [_, _], _ => rfl
  have DLOver : Dfn K mg "_law_over" sLOver ["_law_left", "_law_right"] := dfn_mk X G a0LOver l0LOver c0LOver k0LOver fun _ _ _ _ _ _ us hl => match us, hl with | [_, _], _ => rfl
  have Mi : MiT K mg C_Mismatch := ⟨PySem.W.mg_of X G a_Mismatch, mm_k, ⟨_, _, _, _, PySem.F.excBase_ValueError, mm_x⟩, mm_s, t_Mismatch⟩
  have kitM : ∀ D : Addr, PySem.W.typeIn K (.ref D) = some (.type "type") → PySem.W.hasDictIn K D = true → PySem.W.subIn K (.ref C_Mismatch) (.ref D) = some false → (Value.ref C_Mismatch == Value.ref D) = false → PySem.W.kitOne K (.ref C_Mismatch) (.ref D) = some false := fun D h1 h2 h3 h4 => by
    obtain ⟨cd, hc, _⟩ := PySem.W.any_some h2
    unfold PySem.W.kitOne PySem.W.kitCls
    rw [h4, if_neg Bool.false_ne_true]
    show (if ((PySem.W.clsIn K D).isSome && PySem.W.typeIn K (.ref D) == some (.type "type")) = true then PySem.W.subIn K (.ref C_Mismatch) (.ref D) else none) = some false
    rw [hc, h1, if_pos (by rfl)]
    exact h3
  have AM : AskM K C_Mismatch S A := {
    exm := PySem.W.exm_ref eS hS tS mm_y
    k := fun n hn => by
      simp only [List.mem_cons, List.not_mem_nil, or_false] at hn
      rcases hn with rfl | rfl | rfl | rfl | rfl | rfl | rfl | rfl | rfl | rfl | rfl
      · exact kitM C tC hC ms_BadValue n_mBadValue
      · show PySem.W.kitOne K (.ref C_Mismatch) (.ref C_Mismatch) = some true
        unfold PySem.W.kitOne
        rw [if_pos (by simp)]
      · exact kitM C_Still t_Still h_Still ms_Still n_mStill
      · exact kitM C_Endless t_Endless h_Endless ms_Endless n_mEndless
      · exact kitM C_TooMany t_TooMany h_TooMany ms_TooMany n_mTooMany
      · exact kitM C_NoName t_NoName h_NoName ms_NoName n_mNoName
      · exact kitM C_Taken t_Taken h_Taken ms_Taken n_mTaken
      · exact kitM C_Locked t_Locked h_Locked ms_Locked n_mLocked
      · exact kitM C_Looped t_Looped h_Looped ms_Looped n_mLooped
      · exact kitM C_Broken t_Broken h_Broken ms_Broken n_mBroken
      · exact kitM C_ReadError t_ReadError h_ReadError ms_ReadError n_mReadError
    ve := by
      unfold PySem.W.kitOne PySem.W.kitCls
      rw [if_neg (by simp)]
      show (if PySem.W.kitMeta "ValueError" = true then PySem.W.subIn K (.ref C_Mismatch) (.type "ValueError") else none) = some true
      rw [if_pos (by decide +kernel)]
      exact mm_v
    e := ⟨mm_g, mm_t, mm_s, h_Mismatch, mm_c, spc, tkc, mm_o⟩ }
  have DBadFrac : Dfn K mg "_law_bad_frac" sBadFrac ["_law_store_here"] := dfn_mk X G a0BadFrac l0BadFrac c0BadFrac k0BadFrac fun _ _ _ _ _ _ us hl => match us, hl with | [_], _ => rfl
  have DBSz : Dfn K mg "_law_bad_sizes" sBSz ["_law_store_here", "_law_sizes"] := dfn_mk X G a0BSz l0BSz c0BSz k0BSz fun _ _ _ _ _ _ us hl => match us, hl with | [_, _], _ => rfl
  have DBy : Dfn K mg "_law_beyond" sBy ["_law_store_here", "_law_low", "_law_high"] := dfn_mk X G a0By l0By c0By k0By fun _ _ _ _ _ _ us hl => match us, hl with | [_, _, _], _ => rfl
  have DBW : Dfn K mg "_law_bad_whole" sBW ["_law_store_here"] := dfn_mk X G a0BW l0BW c0BW k0BW fun _ _ _ _ _ _ us hl => match us, hl with | [_], _ => rfl
  have DBT : Dfn K mg "_law_bad_tuple" sBT ["_law_store_here", "_law_row"] := dfn_mk X G a0BT l0BT c0BT k0BT fun _ _ _ _ _ _ us hl => match us, hl with | [_, _], _ => rfl
  have DWith : Dfn K mg "_law_with" sWith ["_law_store_here", "_law_row", "_law_item"] := dfn_mk X G a0With l0With c0With k0With fun _ _ _ _ _ _ us hl => match us, hl with | [_, _, _], _ => rfl
  have FL := fun_mk (st := sLaw) lL cL kL
  refine ⟨PySem.W.fnOf "law" "law" (defArgs sLaw) (defBody sLaw) (defScope sLaw) .none kVL dcL pmL anL cdvL ctL, fun s v => .of_eq rfl, fun base _ _ P1 TB1 => ?_⟩
  have e := hfa.symm.trans (PySem.W.mg_of X G aL)
  cases e
  have kStore := k_Store (P := P) (w := w) (base := base) T DStore
  have kMixed := k_Mixed (P := P) (w := w) (base := base) T DMixed
  have kTake := k_Take (P := P) (w := w) (base := base) T DTake kMixed
  have kPick := k_Pick (P := P) (w := w) (base := base) T DPick kTake
  have kLRx := k_LRx (P := P) (w := w) (base := base) T DLRx kTake kPick
  have kLInt := k_LInt (P := P) (w := w) (base := base) T DLInt kTake
  have kGcd := k_Gcd (P := P) (w := w) (base := base) T DGcd
  have kLowest := k_Lowest (P := P) (w := w) (base := base) T DLowest kGcd
  have kWof := k_Wof (P := P) (w := w) (base := base) T DWof kLowest
  have kRange := k_Range (P := P) (w := w) (base := base) T DRange kTake
  have kPof := k_Pof (P := P) (w := w) (base := base) T DPof kRange
  have kDPlace := k_DPlace (P := P) (w := w) (base := base) T DDPlace kTake kLowest
  have kLPlus := k_LPlus (P := P) (w := w) (base := base) T DLPlus kLowest
  have kLTimes := k_LTimes (P := P) (w := w) (base := base) T DLTimes kLowest
  have kUnit := k_Unit (P := P) (w := w) (base := base) T DUnit
  have kGreat := k_Great (P := P) (w := w) (base := base) T DGreat kTake
  have kDFrac := k_DFrac (P := P) (w := w) (base := base) T DDFrac kTake kLowest
  have kDFracW := k_DFracW (P := P) (w := w) (base := base) T DDFracW kTake kLowest kGreat kLInt kDFrac
  have kVal := k_Val (P := P) (w := w) (base := base) T DVal kTake kPick kLInt kWof kPof kDPlace kLPlus kLTimes kUnit kDFracW
  have kRequire := k_Require (P := P) (w := w) (base := base) T DRequire
  have kWhole := k_Whole (P := P) (w := w) (base := base) T DWhole
  have kIsFraction := k_IsFraction (P := P) (w := w) (base := base) T DIsFraction kWhole
  have kFraction := k_Fraction (P := P) (w := w) (base := base) T DFraction kRequire kWhole
  have kPlus := k_Plus (P := P) (w := w) (base := base) T DPlus kRequire kIsFraction kFraction
  have oQ : EqMx P w K mg base MC := ⟨fEQ, _, _, y1EQ, y2EQ, ok_MxEq T Y yI FEQ, bEQ⟩
  have kFraction1 := k_Fraction1 (P := P) (w := w) (base := base) T D1Fraction kRequire kWhole
  have kWholeU := k_WholeU (P := P) (w := w) (base := base) T DWholeU
  have kWithin := k_Within (P := P) (w := w) (base := base) T DWithin kWholeU
  have kArR := k_ArR (P := P) (w := w) (base := base) (PySem.W.mg_of X G g_MOST_PARTS) (PySem.W.mg_of X G g_LEAST_RADIX) (PySem.W.mg_of X G g_MOST_RADIX) (PySem.W.mg_none_of X G z_all) T DArR kWithin
  have kTimes := k_Times (P := P) (w := w) (base := base) T DTimes kRequire kIsFraction kFraction
  have kLeast := k_Least (P := P) (w := w) (base := base) T DLeast
  have kFloor := k_Floor (P := P) (w := w) (base := base) T DFloor kRequire kIsFraction
  have kArP := k_ArP (P := P) (w := w) (base := base) (PySem.W.mg_of X G g_MOST_PARTS) (PySem.W.mg_none_of X G z_all) T DArP kWholeU
  have kFit := k_Fit (P := P) (w := w) (base := base) (PySem.W.mg_none_of X G z_all) (PySem.W.mg_none_of X G z_zip) T DFit
  have kWorth := k_Worth (P := P) (w := w) (base := base) (PySem.W.mg_none_of X G z_zip) T DWorth kLeast kFraction
  have mkM : MxMk P w K mg base MC := by
    obtain ⟨its, hk⟩ := mx_kb (by simp) rfl FIN
    exact ⟨fIN, _, _, _, YM, Y.g, hk, fun _ _ => rfl, ok_MxInit T Y kRequire kWholeU kArP kArR kFit kWorth FIN⟩
  have kFrom := k_From (P := P) (w := w) (base := base) (PySem.W.mg_none_of X G z_divmod) (PySem.W.mg_none_of X G z_reversed) mkM T DFrom
  have kMinus := k_Minus (P := P) (w := w) (base := base) T DMinus kRequire kIsFraction kFraction
  have kMO := k_MO (P := P) (w := w) (base := base) kFraction1 T DMO kRequire kIsFraction kArR kTimes kLeast kFloor kFrom kMinus
  have kNM := k_NM (P := P) (w := w) (base := base) kFraction1 HF T DNM kRequire kIsFraction kArR kTimes kLeast kFloor kFrom kPlus
  have kLWhole := k_LWhole (P := P) (w := w) (base := base) T DLWhole
  have kLFrac := k_LFrac (P := P) (w := w) (base := base) T DLFrac kLWhole kGcd
  have kLIsPlace := k_LIsPlace (P := P) (w := w) (base := base) T DLIsPlace kLFrac
  have kSame3 := k_same (P := P) (w := w) (base := base) T DSame kLWhole 3
  have kTold := k_Told (P := P) (w := w) (base := base) Y yI T DTold kLWhole kSame3 kWof
  have kLMinus := k_LMinus (P := P) (w := w) (base := base) T DLMinus kLowest
  have kLOver := k_LOver (P := P) (w := w) (base := base) T DLOver kLowest
  have kHolds := k_Holds (P := P) (w := w) (base := base) Y yI oQ T DHolds kUnit kMO kNM kLIsPlace kTold kSame3 kLPlus kLTimes kLMinus kLOver
  have kxRequire := kx_Require (P := P) (w := w) (base := base) B DRequire
  have kxMO := kx_MO (P := P) (w := w) (base := base) T DMO kxRequire kRequire kIsFraction kArR
  have kxNM := kx_NM (P := P) (w := w) (base := base) T DNM kxRequire kRequire kIsFraction kArR
  have HX : ∀ f, isTwo mg f → ∃ fd ps, FnOk P w K mg base (L2.CX P w) 4 f fd ps (spMX K C) ∧ PySem.W.keepIn K (.ref f) = true ∧ KBinds K fd ps ["radices"] kw2 kw2 := by
    rintro f ⟨n, hn, hm⟩
    simp only [List.mem_cons, List.not_mem_nil, or_false] at hn
    rcases hn with rfl | rfl
    · obtain ⟨f0, fd, hm0, hk, hb, F⟩ := (kxMO).ex
      have e := hm.symm.trans hm0
      cases e
      exact ⟨fd, _, F, hk, hb⟩
    · obtain ⟨f0, fd, hm0, hk, hb, F⟩ := (kxNM).ex
      have e := hm.symm.trans hm0
      cases e
      exact ⟨fd, _, F, hk, hb⟩
  have kBadFrac := k_BadFrac (P := P) (w := w) (base := base) T DBadFrac kTake kDFrac kPick
  have kBW := k_BW (P := P) (w := w) (base := base) T DBW kPick
  have kBy := k_By (P := P) (w := w) (base := base) T DBy kTake kPick kBW
  have kBT := k_BT (P := P) (w := w) (base := base) T DBT kPick
  have kWith := k_With (P := P) (w := w) (base := base) T DWith kTake
  have kBSz := k_BSz (P := P) (w := w) (base := base) T DBSz kBy kTake kPick kBT kWith
  have kR1 : Kn P w K mg base 7 "_law_refuses" ["_law_store_here", "_law_value_here", "_law_sizes"] (spRz K P1) := ⟨f_R1, _, PySem.W.mg_of X G a_R1, k_R1, b_R1, ok_Rfz T B AT AM AS (⟨PySem.W.mg_of X G a0MO, PySem.W.mg_of X G a0NM⟩ : TwoM mg f0MO f0NM) l_R1 cd_R1 TB1 HX kSame3 kBadFrac kBSz⟩
  exact ok_law FL T kStore kLRx kTake kPick kVal kPlus kLPlus kHolds kR1 kSame3
end My

namespace My
open PySem PySem.Spec PyProof.Rows L2
/-- the end as the head asks for it -/
theorem law_at {l : PySem.W.OpenLaw} {w : World} {K : PySem.W.Frag} {h : Heap} {mg : Str → Option Value} {fa c1 P1 : Addr} (hT1 : h.get? P1 = some { cls := .none, data := .fields #[] }) (nP1 : K.lookup P1 = none)
    (C1 : PySem.W.CodeHd h c1 P1) 
    (R : ∃ fd : FuncData, (∀ (s : Shared) (v : Value), BindsTo s fd ⟨[v], []⟩ [("_law_script", v)]) ∧ ∀ base : Heap, K.In base → base.Ns mainGlobals mg → ∀ P1 : Addr, LamX.TabB base mg c1 P1 → FnOk l.prog w K mg base CX0 9 fa fd ["_law_script"] (spLaw K P1)) :
    LamX.LawAtS l w K CX0 9 63 "_law_script" mg fa h := by
  obtain ⟨fd, hb, F⟩ := R
  have m1 : (c1, P1) ∈ [(c1, P1)] := List.mem_cons_self ..
  have all : ∀ {p : Addr × Addr} {q : Addr × Addr → Prop}, q (c1, P1) → p ∈ [(c1, P1)] → q p := fun {p q} h1 hp => by
    simp only [List.mem_cons, List.not_mem_nil, or_false] at hp
    rcases hp with rfl
    exact h1
  refine ⟨fd, [(c1, P1)], spLaw K P1, fun p hp => all (q := fun p => h.get? p.2 = _) hT1 hp, fun p hp => all (q := fun p => K.lookup p.2 = none) nP1 hp, fun p hp => all (q := fun p => PySem.W.CodeHd h p.1 p.2) C1 hp, hb, fun H a ns hl hbits hH hS => ?_, fun base X G TB => F base X G P1 (TB _ m1) ⟩
  exact ⟨a, ns, rfl, hS, hH _ m1, fun _ => rfl⟩
theorem walk_mk {l : PySem.W.OpenLaw} {q : Program} {loose : List Str} {XP : (Str → Option Value) → Heap → Prop} {YP : World → Heap → Prop} {d : DefRec} {K : Params → PySem.W.Frag} (hn : l.most = some 63) (hdf : d.params.defaults = [])
    (hY : ∀ (w : World) (h : Heap), YP w h → (K w.params).In h)
    (F : ∀ (w : World) (mg : Str → Option Value) (fa : Addr) (h : Heap), YP w h → (K w.params).In h → h.Ns mainGlobals mg → mg d.name = some (.ref fa) → LamX.LawAtS l w (K w.params) CX0 9 63 "_law_script" mg fa h) :
    PySem.W.WalkO q loose XP YP l.row.toRowW d [] (fun f vs => PySem.call f vs) :=
  LamX.walk_ofTs (CX := fun _ => CX0) hn (by decide) hdf ⟨rfl, by decide, by decide⟩ hY F fun _ _ _ _ _ z => z
end My
open PySem PySem.W PyProof.Rows
set_option maxRecDepth 100000 in
set_option maxHeartbeats 0 in
theorem PySem.Challenge.cw_wheelsky_k06_mixed_of_values_holds : PySem.Challenge.rw_wheelsky_k06_mixed_of_values.Holds := by
  w_on; o_law; k_head; (case hw => w_witness2)
  k_fill
  refine My.walk_mk (l := PySem.Challenge.rw_wheelsky_k06_mixed_of_values) rfl rfl (fun w h Y => km_in_of Y) ?F
  case F =>
    intro w mg fa h Y KX G hmg
    refine' My.law_at (km_tabs_of Y _ (List.mem_cons_self ..)) ?nP1 ?cH1  (My.all_mk KX G hmg ?z_int ?z_len ?z_list ?z_abs ?z_range ?z_min ?z_max ?z_isinstance ?z_bool ?z_str ?z_dict ?z_tuple ?z_gcd ?z_VE ?aC ?aS ?xL ?hbm ?sa ?ga ?gg ?gc ?nw ?aI ?tI ?lI ?cI ?kI ?kC ?eC ?tC ?hC ?mC ?vC ?spc ?tkc ?eS ?hS ?tS ?cS ?a_Mismatch ?t_Mismatch ?h_Mismatch ?s_Mismatch ?n_Mismatch ?a_Still ?t_Still ?h_Still ?s_Still ?n_Still ?a_Endless ?t_Endless ?h_Endless ?s_Endless ?n_Endless ?a_TooMany ?t_TooMany ?h_TooMany ?s_TooMany ?n_TooMany ?a_NoName ?t_NoName ?h_NoName ?s_NoName ?n_NoName ?a_Taken ?t_Taken ?h_Taken ?s_Taken ?n_Taken ?a_Locked ?t_Locked ?h_Locked ?s_Locked ?n_Locked ?a_Looped ?t_Looped ?h_Looped ?s_Looped ?n_Looped ?a_Broken ?t_Broken ?h_Broken ?s_Broken ?n_Broken ?a_ReadError ?t_ReadError ?h_ReadError ?s_ReadError ?n_ReadError ?a_A ?l_A ?c_A ?k_A ?a_R1 ?l_R1 ?cd_R1 ?k_R1 ?aL ?lL ?cL ?kL ?aHF ?o_H ?aMC ?ypg ?yhd ?ypo ?ysa ?yn_whole ?yn_parts ?yn_radices ?yn_worth ?ymk ?ykp ?yca ?yro ?y1IN ?y2IN ?lIN ?cIN ?kIN ?lTY ?y1EQ ?y2EQ ?lEQ ?cEQ ?kEQ ?a0Store ?l0Store ?c0Store ?k0Store ?a0LRx ?l0LRx ?c0LRx ?k0LRx ?a0Take ?l0Take ?c0Take ?k0Take ?a0Mixed ?l0Mixed ?c0Mixed ?k0Mixed ?a0Pick ?l0Pick ?c0Pick ?k0Pick ?a0Val ?l0Val ?c0Val ?k0Val ?a0LInt ?l0LInt ?c0LInt ?k0LInt ?a0Wof ?l0Wof ?c0Wof ?k0Wof ?a0Lowest ?l0Lowest ?c0Lowest ?k0Lowest ?a0Gcd ?l0Gcd ?c0Gcd ?k0Gcd ?a0Pof ?l0Pof ?c0Pof ?k0Pof ?a0Range ?l0Range ?c0Range ?k0Range ?a0DPlace ?l0DPlace ?c0DPlace ?k0DPlace ?a0LPlus ?l0LPlus ?c0LPlus ?k0LPlus ?a0LTimes ?l0LTimes ?c0LTimes ?k0LTimes ?a0Unit ?l0Unit ?c0Unit ?k0Unit ?a0DFracW ?l0DFracW ?c0DFracW ?k0DFracW ?a0Great ?l0Great ?c0Great ?k0Great ?a0DFrac ?l0DFrac ?c0DFrac ?k0DFrac ?a0Plus ?l0Plus ?c0Plus ?k0Plus ?a0Require ?l0Require ?c0Require ?k0Require ?a0IsFraction ?l0IsFraction ?c0IsFraction ?k0IsFraction ?a0Whole ?l0Whole ?c0Whole ?k0Whole ?a0Fraction ?l0Fraction ?c0Fraction ?k0Fraction ?lT0Fraction ?a0Holds ?l0Holds ?c0Holds ?k0Holds ?a0MO ?l0MO ?c0MO ?k0MO ?g_MOST_PARTS ?g_LEAST_RADIX ?g_MOST_RADIX ?z_all ?a0ArR ?l0ArR ?c0ArR ?k0ArR ?a0Within ?l0Within ?c0Within ?k0Within ?a0WholeU ?l0WholeU ?c0WholeU ?k0WholeU ?a0Times ?l0Times ?c0Times ?k0Times ?a0Least ?l0Least ?c0Least ?k0Least ?a0Floor ?l0Floor ?c0Floor ?k0Floor ?z_divmod ?z_reversed ?a0ArP ?l0ArP ?c0ArP ?k0ArP ?z_zip ?a0Fit ?l0Fit ?c0Fit ?k0Fit ?a0Worth ?l0Worth ?c0Worth ?k0Worth ?a0From ?l0From ?c0From ?k0From ?a0Minus ?l0Minus ?c0Minus ?k0Minus ?a0NM ?l0NM ?c0NM ?k0NM ?a0LIsPlace ?l0LIsPlace ?c0LIsPlace ?k0LIsPlace ?a0LFrac ?l0LFrac ?c0LFrac ?k0LFrac ?a0LWhole ?l0LWhole ?c0LWhole ?k0LWhole ?a0Told ?l0Told ?c0Told ?k0Told ?a0Same ?l0Same ?c0Same ?k0Same ?a0LMinus ?l0LMinus ?c0LMinus ?k0LMinus ?a0LOver ?l0LOver ?c0LOver ?k0LOver ?mm_k ?mm_x ?mm_s ?mm_v ?mm_y ?mm_g ?mm_t ?mm_c ?mm_o ?ms_BadValue ?n_mBadValue ?ms_Still ?n_mStill ?ms_Endless ?n_mEndless ?ms_TooMany ?n_mTooMany ?ms_NoName ?n_mNoName ?ms_Taken ?n_mTaken ?ms_Locked ?n_mLocked ?ms_Looped ?n_mLooped ?ms_Broken ?n_mBroken ?ms_ReadError ?n_mReadError ?a0BadFrac ?l0BadFrac ?c0BadFrac ?k0BadFrac ?a0BSz ?l0BSz ?c0BSz ?k0BSz ?a0By ?l0By ?c0By ?k0By ?a0BW ?l0BW ?c0BW ?k0BW ?a0BT ?l0BT ?c0BT ?k0BT ?a0With ?l0With ?c0With ?k0With)
    (case z_int => k_is); (case z_len => k_is); (case z_list => k_is); (case z_abs => k_is); (case z_range => k_is); (case z_min => k_is); (case z_max => k_is); (case z_isinstance => k_is)
    (case z_bool => k_is); (case z_str => k_is); (case z_dict => k_is); (case z_tuple => k_is); (case z_gcd => k_is); (case z_VE => k_is); (case aC => k_is); (case aS => k_is)
    (case xL => k_is); (case hbm => decide +kernel); (case sa => k_is); (case ga => k_is); (case gg => k_is); (case gc => k_is); (case nw => k_is); (case aI => k_is)
    (case tI => k_is); (case lI => k_is); (case cI => k_is); (case kI => k_is); (case kC => k_is); (case eC => k_is); (case tC => k_is); (case hC => k_is)
    (case mC => k_is); (case vC => k_is); (case spc => k_is); (case tkc => k_is); (case eS => k_is); (case hS => k_is); (case tS => k_is); (case cS => k_is)
    (case a_Mismatch => k_is); (case t_Mismatch => k_is); (case h_Mismatch => k_is); (case s_Mismatch => k_is); (case n_Mismatch => decide +kernel); (case a_Still => k_is); (case t_Still => k_is); (case h_Still => k_is)
    (case s_Still => k_is); (case n_Still => decide +kernel); (case a_Endless => k_is); (case t_Endless => k_is); (case h_Endless => k_is); (case s_Endless => k_is); (case n_Endless => decide +kernel); (case a_TooMany => k_is)
    (case t_TooMany => k_is); (case h_TooMany => k_is); (case s_TooMany => k_is); (case n_TooMany => decide +kernel); (case a_NoName => k_is); (case t_NoName => k_is); (case h_NoName => k_is); (case s_NoName => k_is)
    (case n_NoName => decide +kernel); (case a_Taken => k_is); (case t_Taken => k_is); (case h_Taken => k_is); (case s_Taken => k_is); (case n_Taken => decide +kernel); (case a_Locked => k_is); (case t_Locked => k_is)
    (case h_Locked => k_is); (case s_Locked => k_is); (case n_Locked => decide +kernel); (case a_Looped => k_is); (case t_Looped => k_is); (case h_Looped => k_is); (case s_Looped => k_is); (case n_Looped => decide +kernel)
    (case a_Broken => k_is); (case t_Broken => k_is); (case h_Broken => k_is); (case s_Broken => k_is); (case n_Broken => decide +kernel); (case a_ReadError => k_is); (case t_ReadError => k_is); (case h_ReadError => k_is)
    (case s_ReadError => k_is); (case n_ReadError => decide +kernel); (case a_A => k_is); (case l_A => k_is); (case c_A => k_is); (case k_A => k_is); (case a_R1 => k_is); (case l_R1 => k_is)
    (case cd_R1 => k_is); (case k_R1 => k_is); (case aL => k_is); (case lL => k_is); (case cL => k_is); (case kL => k_is); (case aHF => k_is); (case o_H => k_is)
    (case aMC => k_is); (case ypg => k_is); (case yhd => k_is); (case ypo => k_is); (case ysa => k_is); (case yn_whole => k_is); (case yn_parts => k_is); (case yn_radices => k_is)
    (case yn_worth => k_is); (case ymk => k_is); (case ykp => k_is); (case yca => k_is); (case yro => k_is); (case y1IN => k_is); (case y2IN => k_is); (case lIN => k_is)
    (case cIN => k_is); (case kIN => k_is); (case lTY => k_is); (case y1EQ => k_is); (case y2EQ => k_is); (case lEQ => k_is); (case cEQ => k_is); (case kEQ => k_is)
    (case a0Store => k_is); (case l0Store => k_is); (case c0Store => k_is); (case k0Store => k_is); (case a0LRx => k_is); (case l0LRx => k_is); (case c0LRx => k_is); (case k0LRx => k_is)
    (case a0Take => k_is); (case l0Take => k_is); (case c0Take => k_is); (case k0Take => k_is); (case a0Mixed => k_is); (case l0Mixed => k_is); (case c0Mixed => k_is); (case k0Mixed => k_is)
    (case a0Pick => k_is); (case l0Pick => k_is); (case c0Pick => k_is); (case k0Pick => k_is); (case a0Val => k_is); (case l0Val => k_is); (case c0Val => k_is); (case k0Val => k_is)
    (case a0LInt => k_is); (case l0LInt => k_is); (case c0LInt => k_is); (case k0LInt => k_is); (case a0Wof => k_is); (case l0Wof => k_is); (case c0Wof => k_is); (case k0Wof => k_is)
    (case a0Lowest => k_is); (case l0Lowest => k_is); (case c0Lowest => k_is); (case k0Lowest => k_is); (case a0Gcd => k_is); (case l0Gcd => k_is); (case c0Gcd => k_is); (case k0Gcd => k_is)
    (case a0Pof => k_is); (case l0Pof => k_is); (case c0Pof => k_is); (case k0Pof => k_is); (case a0Range => k_is); (case l0Range => k_is); (case c0Range => k_is); (case k0Range => k_is)
    (case a0DPlace => k_is); (case l0DPlace => k_is); (case c0DPlace => k_is); (case k0DPlace => k_is); (case a0LPlus => k_is); (case l0LPlus => k_is); (case c0LPlus => k_is); (case k0LPlus => k_is)
    (case a0LTimes => k_is); (case l0LTimes => k_is); (case c0LTimes => k_is); (case k0LTimes => k_is); (case a0Unit => k_is); (case l0Unit => k_is); (case c0Unit => k_is); (case k0Unit => k_is)
    (case a0DFracW => k_is); (case l0DFracW => k_is); (case c0DFracW => k_is); (case k0DFracW => k_is); (case a0Great => k_is); (case l0Great => k_is); (case c0Great => k_is); (case k0Great => k_is)
    (case a0DFrac => k_is); (case l0DFrac => k_is); (case c0DFrac => k_is); (case k0DFrac => k_is); (case a0Plus => k_is); (case l0Plus => k_is); (case c0Plus => k_is); (case k0Plus => k_is)
    (case a0Require => k_is); (case l0Require => k_is); (case c0Require => k_is); (case k0Require => k_is); (case a0IsFraction => k_is); (case l0IsFraction => k_is); (case c0IsFraction => k_is); (case k0IsFraction => k_is)
    (case a0Whole => k_is); (case l0Whole => k_is); (case c0Whole => k_is); (case k0Whole => k_is); (case a0Fraction => k_is); (case l0Fraction => k_is); (case c0Fraction => k_is); (case k0Fraction => k_is)
    (case lT0Fraction => k_is); (case a0Holds => k_is); (case l0Holds => k_is); (case c0Holds => k_is); (case k0Holds => k_is); (case a0MO => k_is); (case l0MO => k_is); (case c0MO => k_is)
    (case k0MO => k_is); (case g_MOST_PARTS => k_is); (case g_LEAST_RADIX => k_is); (case g_MOST_RADIX => k_is); (case z_all => k_is); (case a0ArR => k_is); (case l0ArR => k_is); (case c0ArR => k_is)
    (case k0ArR => k_is); (case a0Within => k_is); (case l0Within => k_is); (case c0Within => k_is); (case k0Within => k_is); (case a0WholeU => k_is); (case l0WholeU => k_is); (case c0WholeU => k_is)
    (case k0WholeU => k_is); (case a0Times => k_is); (case l0Times => k_is); (case c0Times => k_is); (case k0Times => k_is); (case a0Least => k_is); (case l0Least => k_is); (case c0Least => k_is)
    (case k0Least => k_is); (case a0Floor => k_is); (case l0Floor => k_is); (case c0Floor => k_is); (case k0Floor => k_is); (case z_divmod => k_is); (case z_reversed => k_is); (case a0ArP => k_is)
    (case l0ArP => k_is); (case c0ArP => k_is); (case k0ArP => k_is); (case z_zip => k_is); (case a0Fit => k_is); (case l0Fit => k_is); (case c0Fit => k_is); (case k0Fit => k_is)
    (case a0Worth => k_is); (case l0Worth => k_is); (case c0Worth => k_is); (case k0Worth => k_is); (case a0From => k_is); (case l0From => k_is); (case c0From => k_is); (case k0From => k_is)
    (case a0Minus => k_is); (case l0Minus => k_is); (case c0Minus => k_is); (case k0Minus => k_is); (case a0NM => k_is); (case l0NM => k_is); (case c0NM => k_is); (case k0NM => k_is)
    (case a0LIsPlace => k_is); (case l0LIsPlace => k_is); (case c0LIsPlace => k_is); (case k0LIsPlace => k_is); (case a0LFrac => k_is); (case l0LFrac => k_is); (case c0LFrac => k_is); (case k0LFrac => k_is)
    (case a0LWhole => k_is); (case l0LWhole => k_is); (case c0LWhole => k_is); (case k0LWhole => k_is); (case a0Told => k_is); (case l0Told => k_is); (case c0Told => k_is); (case k0Told => k_is)
    (case a0Same => k_is); (case l0Same => k_is); (case c0Same => k_is); (case k0Same => k_is); (case a0LMinus => k_is); (case l0LMinus => k_is); (case c0LMinus => k_is); (case k0LMinus => k_is)
    (case a0LOver => k_is); (case l0LOver => k_is); (case c0LOver => k_is); (case k0LOver => k_is); (case mm_k => k_is); (case mm_x => k_exc); (case mm_s => k_is); (case mm_v => k_is)
    (case mm_y => k_is); (case mm_g => k_is); (case mm_t => k_is); (case mm_c => k_is); (case mm_o => k_is); (case ms_BadValue => k_is); (case n_mBadValue => decide +kernel); (case ms_Still => k_is)
    (case n_mStill => decide +kernel); (case ms_Endless => k_is); (case n_mEndless => decide +kernel); (case ms_TooMany => k_is); (case n_mTooMany => decide +kernel); (case ms_NoName => k_is); (case n_mNoName => decide +kernel); (case ms_Taken => k_is)
    (case n_mTaken => decide +kernel); (case ms_Locked => k_is); (case n_mLocked => decide +kernel); (case ms_Looped => k_is); (case n_mLooped => decide +kernel); (case ms_Broken => k_is); (case n_mBroken => decide +kernel); (case ms_ReadError => k_is)
    (case n_mReadError => decide +kernel); (case a0BadFrac => k_is); (case l0BadFrac => k_is); (case c0BadFrac => k_is); (case k0BadFrac => k_is); (case a0BSz => k_is); (case l0BSz => k_is); (case c0BSz => k_is)
    (case k0BSz => k_is); (case a0By => k_is); (case l0By => k_is); (case c0By => k_is); (case k0By => k_is); (case a0BW => k_is); (case l0BW => k_is); (case c0BW => k_is)
    (case k0BW => k_is); (case a0BT => k_is); (case l0BT => k_is); (case c0BT => k_is); (case k0BT => k_is); (case a0With => k_is); (case l0With => k_is); (case c0With => k_is)
    (case k0With => k_is)
    (case cH1 => exact codeHd_of_K KX (by kernel_rfl))
    (case nP1 => kernel_rfl)
