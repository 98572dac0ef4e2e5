import PyProof.Rows.All
import Wide.All
import OpenK.AllK
import Wide.FinOn
import HandS.ForMost
import HandS.Exc
import HandS.Codes
import HandS.Wide
import HandS.WideBits
import HandS.Gcd
import HandS.IsInst
import HandS.Defaults
import HandS.Conv
import HandS.Sort
import HandS.List
import KE.KDictList
import HandS.Zip
import HandS.Iter
import HandS.Flow
import HandS.More
import HandS.ForExc
import HandS.ExcInit
import HandS.ExcField
import HandS.ExcIs
import KE.KExcIs
import HandS.Lambda
import HandS.CallLocal
import HandS.EndTab
import PySem.Challenge.RW_wheelsky_k56_differences_and_degree
set_option Elab.async false
set_option linter.all false
set_option maxRecDepth 100000
set_option maxHeartbeats 4000000
namespace My
open PySem PySem.Spec PyProof.Rows L2
def topS (i : Nat) : Stmt := PySem.Challenge.pw_wheelsky_k56_differences_and_degree.main.body.getD i (.Pass ⟨0, 0, 0, 0⟩)
/-! ### a def of the top, and what it is known to keep -/
structure Dfn (K : PySem.W.Frag) (mg : Str → Option Value) (x : Str) (st : Stmt) (ps : List Str) : Prop where
  ex : ∃ f fd, Fun K x x st f fd ∧ mg x = some (.ref f) ∧ Binds K fd ps []
structure Kn (P : Program) (w : World) (K : PySem.W.Frag) (mg : Str → Option Value) (base : Heap) (k : Nat) (x : Str) (ps : List Str) (sp : Sp) : Prop where
  ex : ∃ f fd, mg x = some (.ref f) ∧ PySem.W.keepIn K (.ref f) = true ∧ Binds K fd ps [] ∧ FnOk P w K mg base CX0 k f fd ps sp
theorem Kn.mk' {P : Program} {w : World} {K : PySem.W.Frag} {mg : Str → Option Value} {base : Heap} {x : Str} {st : Stmt} {N ps : List Str} {k : Nat} {sp : Sp} (D : Dfn K mg x st ps) (S : FnScope N ps (defScope st)) (len : ∀ vs H Q E, sp vs H Q E → vs.length = ps.length)
    (hbody : ∀ (f : Addr) (cdv : Value) (A : Around) (outer : List Env) (s : Shared) (H : Hp) (vs : List V) (Q : VK) (E : XK), Room k (A.deeper (envOfC x (defScope st) s.heap.objs.size f cdv)) → sp vs H Q E →
      ∃ t, PSs (cxOf CX0 P w K mg base N x (defScope st) f cdv A outer s H E).nox (defBody st) t ∧ t { nx := fun _ H' => Q .non H', rt := Q } (start N vs) H) : Kn P w K mg base (k + 1) x ps sp := by
  obtain ⟨f, fd, F, m, b⟩ := D.ex
  exact ⟨f, fd, m, F.kp, b, F.ok S len (hbody f)⟩
section
variable {X : Cx}
theorem pe_kn {j k : Nat} {x : Str} {ps : List Str} {sp : Sp} {p pos : Pos} {e : Expr} {es : List Expr} {t : TA} (F : Kn X.prog X.w X.K X.mg X.base k x ps sp) (hr : Room j X.A) (hg : Gl X x) (ha : PA X (e :: es) t) (hj : k ≤ j := by omega)
    (hdb : (x == ("__debug__" : Str)) = false := by decide) (he : starEach (e :: es) X.env = (false, eval e X.env) :: starEach es X.env := by rfl) (hpl : (backTo pos (starEach es X.env)).any (·.1) = false := by rfl) :
    PE X (.Call (.Name x p) (e :: es) [] pos) (tCall sp [] E0 t) := by
  obtain ⟨f, fd, m, kp, b, G⟩ := F.ex
  exact pe_call G (hr.mono hj) hg m kp b .nil pass0 ha hdb he hpl
end
/-! ### heaps -/
/-- all but s stands -/
def Kp (s : Addr) (H H' : Hp) : Prop := (∀ b o, b ≠ s → H b = some o → H' b = some o) ∧ ∀ x r, H s = some (.lst (x :: r)) → ∃ r', H' s = some (.lst (x :: r'))
instance {s : Addr} {H H' : Hp} : CoeFun (Kp s H H') (fun _ => ∀ b o, b ≠ s → H b = some o → H' b = some o) := ⟨fun h => h.1⟩
theorem Kp.refl (s : Addr) (H : Hp) : Kp s H H := ⟨fun _ _ _ e => e, fun _ r e => ⟨r, e⟩⟩
theorem Kp.trans {s : Addr} {H H1 H2 : Hp} (a : Kp s H H1) (b : Kp s H1 H2) : Kp s H H2 := ⟨fun c o n e => b.1 c o n (a.1 c o n e), fun x r e => by
  obtain ⟨r', e'⟩ := a.2 x r e
  exact b.2 x r' e'⟩
theorem Kp.same {s : Addr} {H H1 : Hp} (a : Same H H1) : Kp s H H1 := ⟨fun b o _ e => a b o e, fun x r e => ⟨r, a _ _ e⟩⟩
theorem Same.new {H : Hp} {p : Addr} (h : H p = none) (o : HO) : Same H (upd H p o) := fun b u q => by rw [upd_ne (ne_of_none q h)]; exact q
theorem Kp.put {s : Addr} {H : Hp} {x : V} {r r' : List V} (h : H s = some (.lst (x :: r))) : Kp s H (upd H s (.lst (x :: r'))) := ⟨fun b u n e => by rw [upd_ne n]; exact e, fun y q e => by
  rw [h] at e
  cases e
  exact ⟨r', upd_same⟩⟩
/-- the store of the draws at s -/
def Sr (K : PySem.W.Frag) (H : Hp) (s : Addr) (sc : Addr) (ns : List Int) (i b c d e f : Int) : Prop :=
  H s = some (.lst [.ref sc, .int i, .int b, .int c, .int d, .int e, .int f]) ∧ H sc = some (.lst (ns.map V.int)) ∧ s ≠ sc ∧ 0 ≤ i ∧ K.lookup s = none ∧ K.lookup sc = none
def Sto (K : PySem.W.Frag) (H : Hp) (s : Addr) : Prop := ∃ sc ns i b c d e f, Sr K H s sc ns i b c d e f
theorem Sr.same {K : PySem.W.Frag} {H H1 : Hp} {s sc : Addr} {ns : List Int} {i b c d e f : Int} (h : Sr K H s sc ns i b c d e f) (a : Same H H1) : Sr K H1 s sc ns i b c d e f := ⟨a _ _ h.1, a _ _ h.2.1, h.2.2⟩
theorem Sto.same {K : PySem.W.Frag} {H H1 : Hp} {s : Addr} (h : Sto K H s) (a : Same H H1) : Sto K H1 s := by
  obtain ⟨sc, ns, i, b, c, d, e, f, h⟩ := h
  exact ⟨sc, ns, i, b, c, d, e, f, h.same a⟩
theorem Sr.put {K : PySem.W.Frag} {H : Hp} {s sc : Addr} {ns : List Int} {i b c d e f i' b' c' d' e' f' : Int} (h : Sr K H s sc ns i b c d e f) (hi : 0 ≤ i') :
    Sr K (upd H s (.lst [.ref sc, .int i', .int b', .int c', .int d', .int e', .int f'])) s sc ns i' b' c' d' e' f' :=
  ⟨upd_same, by rw [upd_ne (Ne.symm h.2.2.1)]; exact h.2.1, h.2.2.1, hi, h.2.2.2.2⟩
theorem Kp.seqT {s : Addr} {K : PySem.W.Frag} {H H' : Hp} {a : Addr} {xs ys : List V} (e : Kp s H H') (hs : H s = some (.lst ys)) (h : SqT K H a xs) : SqT K H' a xs := by
  rcases h with (h | ⟨o, h⟩) | h
  · exact .inl (.inl (e _ _ (by rintro rfl; rw [hs] at h; cases h) h))
  · exact .inl (.inr ⟨o, e _ _ (by rintro rfl; rw [hs] at h; cases h) h⟩)
  · exact .inr h
theorem Same.seqT {K : PySem.W.Frag} {H H' : Hp} {a : Addr} {xs : List V} (e : Same H H') (h : SqT K H a xs) : SqT K H' a xs := by
  rcases h with (h | ⟨o, h⟩) | h
  · exact .inl (.inl (e _ _ h))
  · exact .inl (.inr ⟨o, e _ _ h⟩)
  · exact .inr h
/-- the built-ins' names, unbound -/
structure Bt (K : PySem.W.Frag) (mg : Str → Option Value) : Prop where
  b_int : mg "int" = none
  b_len : mg "len" = none
  b_list : mg "list" = none
  b_abs : mg "abs" = none
  b_range : mg "range" = none
  b_min : mg "min" = none
  b_max : mg "max" = none
  b_isinstance : mg "isinstance" = none
  b_bool : mg "bool" = none
  b_str : mg "str" = none
  b_dict : mg "dict" = none
  b_tuple : mg "tuple" = none
end My

namespace My
open PySem PySem.Spec PyProof.Rows L2
theorem cx_K {CX : CXT} {P : Program} {w : World} {K : PySem.W.Frag} {mg : Str → Option Value} {base : Heap} {N : List Str} {qual : Str} {scope : Scope} {f : Addr} {cd : Value} {A : Around} {outer : List Env} {s : Shared} {H : Hp} {E : XK} : (cxOf CX P w K mg base N qual scope f cd A outer s H E).K = K := rfl
/-! ### what stands at an address, the written part first -/
def obK (o : Obj) : Option HO := match o.cls, o.data with
  | .type "tuple", .seq its _ => if its.size ≤ sizeLine then (its.toList.mapM absV).map HO.tup else none
  | _, _ => none
def ob (K : PySem.W.Frag) (H : Hp) (a : Addr) : Option HO := match K.lookup a with
  | some o => obK o
  | none => H a
theorem absV_rel {u : Value} {x : V} (h : absV u = some x) : RelV x u := by
  cases u <;> simp only [absV, Option.some.injEq, reduceCtorEq] at h <;> subst h
  all_goals first | exact rfl | exact ⟨_, rfl⟩
theorem absV_all : ∀ {us : List Value} {xs : List V}, us.mapM absV = some xs → Vals xs us
  | [], xs, h => by
    simp at h
    subst h
    exact .nil
  | u :: us, xs, h => by
    rw [List.mapM_cons] at h
    cases e1 : absV u with
    | none => simp [e1] at h
    | some x =>
      cases e2 : us.mapM absV with
      | none => simp [e1, e2] at h
      | some r =>
        simp [e1, e2] at h
        subst h
        exact .cons (absV_rel e1) (absV_all e2)
theorem obK_tup {o : Obj} {z : HO} (h : obK o = some z) : ∃ xs its n, z = .tup xs ∧ o.cls = .type "tuple" ∧ o.data = .seq its n ∧ its.size ≤ sizeLine ∧ Vals xs its.toList := by
  unfold obK at h
  split at h
  · rename_i its n e1 e2
    split at h
    · rename_i hz
      cases e : its.toList.mapM absV with
      | none => rw [e] at h; cases h
      | some xs =>
        rw [e] at h
        exact ⟨xs, its, n, (Option.some.inj h).symm, e1, e2, hz, absV_all e⟩
    · cases h
  · cases h
theorem ob_none {K : PySem.W.Frag} {H : Hp} {a : Addr} (h : K.lookup a = none) : ob K H a = H a := by unfold ob; rw [h]
theorem ob_tup {K : PySem.W.Frag} {H : Hp} {a : Addr} {xs : List V} (h : ob K H a = some (.tup xs)) : SqT K H a xs := by
  unfold ob at h
  split at h
  · rename_i o e
    obtain ⟨ys, its, n, z, h1, h2, h3, h4⟩ := obK_tup h
    cases z
    exact .inr ⟨o, its, n, e, h1, h2, h3, h4⟩
  · exact .inl (.inl h)
theorem ob_H {K : PySem.W.Frag} {H : Hp} {a : Addr} {z : HO} (h : ob K H a = some z) (n : ∀ xs, z ≠ .tup xs) : H a = some z ∧ K.lookup a = none := by
  unfold ob at h
  split at h
  · obtain ⟨ys, its, n', z', _⟩ := obK_tup h
    exact absurd z' (n ys)
  · rename_i e
    exact ⟨h, e⟩
theorem ob_lst {K : PySem.W.Frag} {H : Hp} {a : Addr} {xs : List V} (h : ob K H a = some (.lst xs)) : SqL K H a xs := .of (ob_H h (fun _ z => by cases z)).1
theorem ob_same {K : PySem.W.Frag} {H H' : Hp} {a : Addr} {z : HO} (e : Same H H') (h : ob K H a = some z) : ob K H' a = some z := by
  unfold ob at h ⊢
  split
  · rename_i o q
    rw [q] at h
    exact h
  · rename_i q
    rw [q] at h
    exact e _ _ h
theorem ob_kp {K : PySem.W.Frag} {H H' : Hp} {s a : Addr} {ys : List V} {z : HO} (e : Kp s H H') (hs : H s = some (.lst ys)) (n : ∀ ys, z ≠ .lst ys) (h : ob K H a = some z) : ob K H' a = some z := by
  unfold ob at h ⊢
  split
  · rename_i o q
    rw [q] at h
    exact h
  · rename_i q
    rw [q] at h
    exact e _ _ (by rintro rfl; rw [hs] at h; exact n _ (Option.some.inj h).symm) h
theorem ob_new {K : PySem.W.Frag} {H : Hp} {p : Addr} {o : HO} (k : K.lookup p = none) : ob K (upd H p o) p = some o := by rw [ob_none k, upd_same]
/-- a built-in type's name, of what stands somewhere -/
def tyO : Option HO → Option String
  | some (.tup _) => some "tuple"
  | some (.lst _) => some "list"
  | some (.dK _) => some "dict"
  | _ => none
def tyN (K : PySem.W.Frag) (H : Hp) : V → Option String
  | .non => some "NoneType"
  | .bl _ => some "bool"
  | .int _ => some "int"
  | .str _ => some "str"
  | .ref a => tyO (ob K H a)
  | _ => none
theorem tyO_tup (xs : List V) : tyO (some (.tup xs)) = some "tuple" := rfl
theorem tyO_lst (xs : List V) : tyO (some (.lst xs)) = some "list" := rfl
theorem tyO_dK (xs : List (Key × V)) : tyO (some (.dK xs)) = some "dict" := rfl
theorem tyN_non {K : PySem.W.Frag} {H : Hp} : tyN K H .non = some "NoneType" := rfl
theorem tyN_bl {K : PySem.W.Frag} {H : Hp} (b : Bool) : tyN K H (.bl b) = some "bool" := rfl
theorem tyN_int {K : PySem.W.Frag} {H : Hp} (b : Int) : tyN K H (.int b) = some "int" := rfl
theorem tyN_str {K : PySem.W.Frag} {H : Hp} (b : Str) : tyN K H (.str b) = some "str" := rfl
theorem tyN_ref {K : PySem.W.Frag} {H : Hp} (a : Addr) : tyN K H (.ref a) = tyO (ob K H a) := rfl
theorem tyN_X {K : PySem.W.Frag} {H : Hp} {x : V} {t : String} (h : tyN K H x = some t) : TyX K H x (.type t) := by
  cases x with
  | non => cases h; exact .base .non
  | bl b => cases h; exact .base (.bl b)
  | int i => cases h; exact .base (.int i)
  | str z => cases h; exact .base (.str z)
  | byt _ => cases h
  | flt _ => cases h
  | ty _ => cases h
  | ref a =>
    have h1 : tyO (ob K H a) = some t := h
    cases e : ob K H a with
    | none => rw [e] at h1; cases h1
    | some z =>
      rw [e] at h1
      cases z with
      | tup xs =>
        cases h1
        unfold ob at e
        split at e
        · rename_i o q
          obtain ⟨_, _, _, _, c, _⟩ := obK_tup e
          exact .kTuple q c
        · exact .base (.tup e)
      | lst xs => cases h1; exact .base (.lst (ob_H e (fun _ z => by cases z)).1)
      | dK kvs => cases h1; exact .base (.dK (ob_H e (fun _ z => by cases z)).1)
      | _ => cases h1
/-- isinstance(x, T) by names -/
def isB (a b : String) : Bool := a == b || (a == "bool" && b == "int")
def rIsN (K : PySem.W.Frag) : List V → Hp → VK → Prop := fun xs H Q => ∃ x n, xs = [x, .ty n] ∧ n ∈ ["int", "bool", "str", "list", "tuple", "dict"] ∧ ∃ t, tyN K H x = some t ∧ Q (.bl (isB t n)) H
theorem tyN_mem {K : PySem.W.Frag} {H : Hp} {x : V} {t : String} (h : tyN K H x = some t) : t ∈ ["NoneType", "bool", "int", "str", "tuple", "list", "dict"] := by
  cases x with
  | non => cases h; decide
  | bl b => cases h; decide
  | int i => cases h; decide
  | str z => cases h; decide
  | byt _ => cases h
  | flt _ => cases h
  | ty _ => cases h
  | ref a =>
    have h1 : tyO (ob K H a) = some t := h
    unfold tyO at h1
    split at h1 <;> first | (cases h1; decide) | cases h1
theorem kit_all : ∀ t ∈ ["NoneType", "bool", "int", "str", "tuple", "list", "dict"], ∀ n ∈ ["int", "bool", "str", "list", "tuple", "dict"], kitB t n = some (isB t n) := by decide +kernel
/-- isinstance(x, (T, ..)) -/
def tyNs : List V → Option (List String)
  | [] => some []
  | .ty n :: r => if n ∈ ["int", "bool", "str", "list", "tuple", "dict"] then (tyNs r).map (n :: ·) else none
  | _ :: _ => none
theorem tyNs_of : ∀ {cs : List V} {ns : List String}, tyNs cs = some ns → cs = ns.map V.ty ∧ ∀ n ∈ ns, n ∈ ["int", "bool", "str", "list", "tuple", "dict"]
  | [], ns, h => by cases h; exact ⟨rfl, fun _ z => absurd z (by simp)⟩
  | c :: r, ns, h => by
    cases c with
    | ty n =>
      unfold tyNs at h
      split at h
      · rename_i hn
        cases e : tyNs r with
        | none => rw [e] at h; cases h
        | some ms =>
          rw [e] at h
          cases h
          obtain ⟨h1, h2⟩ := tyNs_of e
          refine ⟨by rw [h1]; rfl, fun m hm => ?_⟩
          rcases List.mem_cons.mp hm with z | z
          · rw [z]; exact hn
          · exact h2 m z
      · cases h
    | _ => cases h
theorem tyNs_lt : tyNs [.ty "list", .ty "tuple"] = some ["list", "tuple"] := by decide
def rIsT (K : PySem.W.Frag) : List V → Hp → VK → Prop := fun xs H Q => ∃ x tp, xs = [x, .ref tp] ∧ ∃ cs, H tp = some (.tup cs) ∧ ∃ ns, tyNs cs = some ns ∧ ∃ t, tyN K H x = some t ∧ Q (.bl (ns.any (isB t))) H
section
variable {X : Cx}
theorem call_isN : CallR X (.builtin "isinstance") (rIsN X.K) := fun pins s σ H xs us Q I r h => by
  obtain ⟨x, n, rfl, hn, t, ht, q⟩ := h
  exact call_isi pins s σ H _ us Q I r ⟨x, .ty n, .type t, .type n, isB t n, rfl, .ty n, tyN_X ht, kit_ty (kit_all t (tyN_mem ht) n hn), q⟩
theorem kitAny_of {K : PySem.W.Frag} {t : String} (ht : t ∈ ["NoneType", "bool", "int", "str", "tuple", "list", "dict"]) : ∀ {ns : List String}, (∀ n ∈ ns, n ∈ ["int", "bool", "str", "list", "tuple", "dict"]) → PySem.W.kitAny K (.type t) (ns.map Value.type) = some (ns.any (isB t))
  | [], _ => rfl
  | n :: ns, h => by
    have e1 : PySem.W.kitOne K (.type t) (.type n) = some (isB t n) := kit_ty (kit_all t ht n (h n List.mem_cons_self))
    have e2 := kitAny_of (K := K) ht (ns := ns) fun m hm => h m (List.mem_cons_of_mem _ hm)
    rw [List.map_cons, List.any_cons]
    unfold PySem.W.kitAny
    rw [e1]
    cases isB t n
    · simpa using e2
    · rfl
theorem clsV_all : ∀ ns : List String, Paired ClsV (ns.map V.ty) (ns.map Value.type)
  | [] => .nil
  | n :: ns => .cons (.ty n) (clsV_all ns)
theorem call_isT : CallR X (.builtin "isinstance") (rIsT X.K) := fun pins s σ H xs us Q I r h => by
  obtain ⟨x, tp, rfl, cs, hT, ns, hns, t, ht, q⟩ := h
  obtain ⟨rfl, hn⟩ := tyNs_of hns
  exact call_isiT pins s σ H _ us Q I r ⟨x, tp, _, .type t, _, _, rfl, hT, clsV_all ns, tyN_X ht, kitAny_of (tyN_mem ht) hn, q⟩
/-- xs[i], t[i] -/
def itsO : Option HO → Option (List V)
  | some (.tup xs) => some xs
  | some (.lst xs) => some xs
  | _ => none
theorem itsO_tup (xs : List V) : itsO (some (.tup xs)) = some xs := rfl
theorem itsO_lst (xs : List V) : itsO (some (.lst xs)) = some xs := rfl
theorem itsO_or {K : PySem.W.Frag} {H : Hp} {a : Addr} {xs : List V} (h : itsO (ob K H a) = some xs) : SqL K H a xs ∨ SqT K H a xs := by
  cases e : ob K H a with
  | none => rw [e] at h; cases h
  | some z =>
    rw [e] at h
    cases z with
    | tup ys => cases h; exact .inr (ob_tup e)
    | lst ys => cases h; exact .inl (ob_lst e)
    | _ => cases h
def rIxA (K : PySem.W.Frag) : R2 := fun x y H Q => ∃ p i, x = .ref p ∧ y = .int i ∧ ∃ xs, itsO (ob K H p) = some xs ∧ ∃ v, atI xs i = some v ∧ Q v H
theorem ix_any : IxR X (rIxA X.K) := fun value slice pins s σ H x y v u Q I rx ry h hs => by
  obtain ⟨p, i, rfl, rfl, xs, hx, w, hw, q⟩ := h
  rcases itsO_or hx with z | z
  · exact ix_list value slice pins s σ H _ _ v u Q I rx ry ⟨p, xs, i, w, rfl, rfl, z, hw, q⟩ hs
  · exact ix_tup value slice pins s σ H _ _ v u Q I rx ry ⟨p, xs, i, w, rfl, rfl, z, hw, q⟩ hs
theorem call_lenA : CallR X (.builtin "len") (fun xs H Q => ∃ p, xs = [.ref p] ∧ ∃ ys, itsO (ob X.K H p) = some ys ∧ Q (.int ys.length) H) := fun pins s σ H xs us Q I r h => by
  obtain ⟨p, rfl, ys, hy, q⟩ := h
  exact call_len_seq pins s σ H _ us Q I r ⟨p, ys, rfl, itsO_or hy, q⟩
/-! new tuples and lists, away from the written part -/
variable {es : List Expr} {t : TA} {pos : Pos}
def tTp (K : PySem.W.Frag) (t : TA) : TE := fun σ H Q => t σ H fun xs H1 => xs.length ≤ sizeLine ∧ ∀ p, H1 p = none → K.lookup p = none → Q (.ref p) (upd H1 p (.tup xs))
def tLs (K : PySem.W.Frag) (t : TA) : TE := fun σ H Q => t σ H fun xs H1 => xs.length ≤ sizeLine ∧ ∀ p, H1 p = none → K.lookup p = none → Q (.ref p) (upd H1 p (.lst xs))
theorem new_K {pins : List (Addr × Obj)} {σ : L2.St} {H : Hp} {s : Shared} (I : Inv X pins σ H s) : X.K.lookup s.heap.objs.size = none := by
  cases e : X.K.lookup s.heap.objs.size with
  | none => rfl
  | some o => exact absurd (Heap.lt_size (I.kIn _ _ e)) (Nat.lt_irrefl _)
theorem pe_tp {x1} (h : PA X es t) : PE X (.Tuple es x1 pos) (tTp X.K t) := by
  refine ⟨fun pins s σ H Q I hq => ?_⟩
  refine wpAny_Tuple_spliced (thn (h.run pos pins s σ H _ I hq) fun us s1 ⟨xs, H1, I1, r, z, q⟩ => ⟨by rw [← r.length]; exact z, ?_⟩)
  have hf : H1 s1.heap.objs.size = none := I1.hok.fresh (Nat.le_refl _)
  refine ⟨.ref s1.heap.objs.size, upd H1 s1.heap.objs.size (.tup xs), I1.laid (t' := s1.toks) (fun b u e => Heap.get?_push_of_some _ e) (Nat.le_refl _) ?_, rfl, q _ hf (new_K I1)⟩
  exact ⟨z, us, r, ⟨_, Heap.get?_push_size _ rfl, rfl, _, rfl⟩⟩
theorem pe_ls (h : PA X es t) : PE X (.List es pos) (tLs X.K t) := by
  refine ⟨fun pins s σ H Q I hq => ?_⟩
  refine wpAny_List_spliced (thn (h.run pos pins s σ H _ I hq) fun us s1 ⟨xs, H1, I1, r, z, q⟩ => ⟨by rw [← r.length]; exact z, ?_⟩)
  have hf : H1 s1.heap.objs.size = none := I1.hok.fresh (Nat.le_refl _)
  refine ⟨.ref s1.heap.objs.size, upd H1 s1.heap.objs.size (.lst xs), I1.laid (t' := s1.toks) (fun b u e => Heap.get?_push_of_some _ e) (Nat.le_refl _) ?_, rfl, q _ hf (new_K I1)⟩
  exact ⟨z, us, 0, r, Heap.get?_push_size _ rfl⟩
end
/-- a, b = t -/
def gTp (K : PySem.W.Frag) (n : Nat) (t : TGs) : TG := fun v σ H Q => ∃ a, v = .ref a ∧ ∃ xs, ob K H a = some (.tup xs) ∧ xs.length = n ∧ t xs σ H Q
theorem pg_tp {X : Cx} {pos : Pos} {es : List Expr} {k : Nat} {t : TGs} (n : Nat) (hc : X.calm = true) (h : PGs X es t) (hn : (assignEach es X.env).length = n := by rfl) (hst : (assignEach es X.env).findIdx? (·.1) = none := by rfl) : PG X (.Tuple es k pos) (gTp X.K n t) :=
  ⟨fun pins s σ H v u Q I r hw => by
    obtain ⟨a, e, xs, hx, hl, q⟩ := hw
    exact (pg_tup (n := n) hc h hn hst).run pins s σ H v u Q I r ⟨a, xs, e, ob_tup hx, hl, q⟩⟩
/-- {} -/
def tDn (K : PySem.W.Frag) : TE := fun _ H Q => ∀ p, H p = none → K.lookup p = none → Q (.ref p) (upd H p (.dK []))
theorem pe_dn {X : Cx} {pos : Pos} : PE X (.Dict [] [] pos) (tDn X.K) := ⟨fun pins s σ H Q I h => by
  refine wpAny_Dict_empty ⟨.ref s.heap.objs.size, upd H s.heap.objs.size (.dK []), ?_, rfl, h _ (I.hok.fresh (Nat.le_refl _)) (new_K I)⟩
  exact I.laid (t' := s.toks) (fun _ _ e => Heap.get?_push_of_some _ e) (Nat.le_refl _) (dk_empty s.heap I.big)⟩
/-! ### loops -/
def ForI (J : It) (g : TG) (tb : TS) (D : Ends) (σ : L2.St) (H : Hp) : Prop := ∃ W : Nat → Nat → L2.St → Hp → Prop, (∃ m, W 0 m σ H) ∧ ∀ i m σ H, W i m σ H →
  (J.stop i H ∧ D.nx σ H) ∨ (J.go i H ∧ ∃ N : L2.St → Hp → Prop, (∀ σ' H', N σ' H' → ∃ m', m' < m ∧ W (i + 1) m' σ' H') ∧ ∀ x H', J.yld i H x H' → g x σ H' fun σ2 H2 => tb { D with nx := N, ct := N, bk := D.nx } σ2 H2)
theorem tFor_eq (wi : TI) (g : TG) (tb : TS) (D : Ends) (σ : L2.St) (H : Hp) : tFor wi g tb D σ H = wi σ H fun J H1 => ForI J g tb D σ H1 := rfl
section
variable {g : TG} {tb : TS} {D : Ends} {σ : L2.St} {H : Hp}
theorem forI_range {lo : Int} {n : Nat} (Pv : Nat → L2.St → Hp → Prop) (h0 : Pv 0 σ H)
    (hs : ∀ i σ H, i < n → Pv i σ H → g (.int (lo + i)) σ H fun σ2 H2 => tb { D with nx := Pv (i + 1), ct := Pv (i + 1), bk := D.nx } σ2 H2) (hd : ∀ σ H, Pv n σ H → D.nx σ H) : ForI (Itr lo n) g tb D σ H := for_range Pv h0 hs hd
theorem forI_list {K : PySem.W.Frag} {a : Addr} {xs : List V} (Pv : Nat → L2.St → Hp → Prop) (h0 : Pv 0 σ H) (hl : ∀ i σ H, i ≤ xs.length → Pv i σ H → SqL K H a xs)
    (hs : ∀ i x σ H, xs[i]? = some x → Pv i σ H → g x σ H fun σ2 H2 => tb { D with nx := Pv (i + 1), ct := Pv (i + 1), bk := D.nx } σ2 H2) (hd : ∀ σ H, Pv xs.length σ H → D.nx σ H) : ForI (Itl K a) g tb D σ H := for_list Pv h0 hl hs hd
theorem forI_tup {K : PySem.W.Frag} {a : Addr} {xs : List V} (Pv : Nat → L2.St → Hp → Prop) (h0 : Pv 0 σ H) (hl : ∀ i σ H, i ≤ xs.length → Pv i σ H → SqT K H a xs)
    (hs : ∀ i x σ H, xs[i]? = some x → Pv i σ H → g x σ H fun σ2 H2 => tb { D with nx := Pv (i + 1), ct := Pv (i + 1), bk := D.nx } σ2 H2) (hd : ∀ σ H, Pv xs.length σ H → D.nx σ H) : ForI (Itt K a) g tb D σ H := for_tup Pv h0 hl hs hd
end
theorem ca_0 : ((0 : Nat) : Int) = 0 := rfl
theorem ca_1 : ((1 : Nat) : Int) = 1 := rfl
theorem ca_2 : ((2 : Nat) : Int) = 2 := rfl
theorem ca_3 : ((3 : Nat) : Int) = 3 := rfl
theorem ca_4 : ((4 : Nat) : Int) = 4 := rfl
theorem ca_5 : ((5 : Nat) : Int) = 5 := rfl
theorem ca_6 : ((6 : Nat) : Int) = 6 := rfl
theorem ca_7 : ((7 : Nat) : Int) = 7 := rfl
theorem ca_8 : ((8 : Nat) : Int) = 8 := rfl
theorem ca_9 : ((9 : Nat) : Int) = 9 := rfl
theorem ca_10 : ((10 : Nat) : Int) = 10 := rfl
theorem ca_11 : ((11 : Nat) : Int) = 11 := rfl
theorem ca_12 : ((12 : Nat) : Int) = 12 := rfl
theorem ca_13 : ((13 : Nat) : Int) = 13 := rfl
theorem ca_14 : ((14 : Nat) : Int) = 14 := rfl
theorem ca_15 : ((15 : Nat) : Int) = 15 := rfl
theorem ca_16 : ((16 : Nat) : Int) = 16 := rfl
theorem ca_17 : ((17 : Nat) : Int) = 17 := rfl
theorem ca_18 : ((18 : Nat) : Int) = 18 := rfl
theorem ca_19 : ((19 : Nat) : Int) = 19 := rfl
theorem ca_20 : ((20 : Nat) : Int) = 20 := rfl
theorem ca_21 : ((21 : Nat) : Int) = 21 := rfl
theorem ca_22 : ((22 : Nat) : Int) = 22 := rfl
theorem ca_23 : ((23 : Nat) : Int) = 23 := rfl
theorem ca_24 : ((24 : Nat) : Int) = 24 := rfl
theorem ca_25 : ((25 : Nat) : Int) = 25 := rfl
theorem ca_26 : ((26 : Nat) : Int) = 26 := rfl
theorem ca_27 : ((27 : Nat) : Int) = 27 := rfl
theorem ca_28 : ((28 : Nat) : Int) = 28 := rfl
theorem ca_29 : ((29 : Nat) : Int) = 29 := rfl
theorem ca_30 : ((30 : Nat) : Int) = 30 := rfl
theorem nat10 : (10 : Int).natAbs = 10 := rfl
/-- list(xs), away from the written part -/
theorem call_listK {X : Cx} : CallR X (.type "list") (fun xs H Q => ∃ p, xs = [.ref p] ∧ ∃ ys, (SqL X.K H p ys ∨ SqT X.K H p ys) ∧ ∀ l, H l = none → X.K.lookup l = none → Q (.ref l) (upd H l (.lst ys))) := fun pins s σ H xs us Q I r h => by
  obtain ⟨p, e0, ys, hy, k⟩ := h
  subst e0
  obtain ⟨u, e1, ru⟩ := vals1 r
  subst e1
  cases ru
  have laid (its : List Value) (rv : Vals ys its) (hz : ys.length ≤ sizeLine) (hh : Heap) (cap : Nat) (kp : ∀ b o, s.heap.get? b = some o → hh.get? b = some o)
      (e : hh.get? s.heap.objs.size = some { cls := .type "list", dict := none, data := .seq its.toArray cap, slots := #[] }) : EP X pins σ Q (.ref s.heap.objs.size) { s with heap := hh } := by
    have ok : ObjOk X.prog X.w (upd H s.heap.objs.size (.lst ys)) hh s.heap.objs.size (.lst ys) := ⟨hz, its, cap, rv, e⟩
    exact ⟨.ref s.heap.objs.size, _, I.laid (t' := s.toks) kp (Nat.le_refl _) ok, rfl, k _ (I.hok.fresh (Nat.le_refl _)) (new_K I)⟩
  cases hy with
  | inl hy =>
    obtain ⟨its, rv, pl, hz⟩ := I.list hy
    obtain ⟨o, ho, hc, n, hd⟩ := pl.isList
    have hl := rv.length
    exact call_list_seq p (.inl rfl) ho hc hd (laid its rv hz) (by simp only [List.size_toArray]; omega)
  | inr hy =>
    obtain ⟨its, rv, pl, hz⟩ := I.tuple hy
    obtain ⟨o, ho, hc, n, hd⟩ := pl
    have hl := rv.length
    exact call_list_seq p (.inr rfl) ho hc hd (laid its rv hz) (by simp only [List.size_toArray]; omega)
/-- xs[i] = v -/
def setI (xs : List V) (i : Int) (v : V) : Option (List V) := (ixN xs.length i).map fun j => xs.set j v
theorem setI_nat {xs ys : List V} {j : Nat} {v : V} (h : j < xs.length) (e : xs.set j v = ys) : setI xs (j : Int) v = some ys := by
  have e1 : ixN xs.length (j : Int) = some j := by
    unfold ixN
    rw [if_pos (by omega), if_pos (by omega)]
    simp
  unfold setI
  rw [e1, ← e]
  rfl
def rSetA : V → V → V → Hp → (Hp → Prop) → Prop := fun o i v H Q => ∃ p k, o = .ref p ∧ i = .int k ∧ ∃ xs, H p = some (.lst xs) ∧ ∃ ys, setI xs k v = some ys ∧ Q (upd H p (.lst ys))
section
variable {X : Cx}
theorem set_any : PSet X rSetA := by
  intro pins s σ H o i v uo ui uv Q I ro ri rv h
  obtain ⟨p, k, rfl, rfl, xs, hx, ys, hy, q⟩ := h
  unfold setI at hy
  cases e : ixN xs.length k with
  | none => rw [e] at hy; cases hy
  | some j =>
    rw [e] at hy
    cases hy
    exact set_list pins s σ H _ _ _ uo ui uv Q I ro ri rv ⟨p, xs, k, j, rfl, rfl, hx, e, q⟩
end
theorem atI_0 {α : Type} (x0 : α) (l : List α) : atI (x0 :: l) 0 = some x0 := atI_nat (j := 0) rfl
theorem setI_0 (x0 v : V) (l : List V) : setI (x0 :: l) 0 v = some (v :: l) := setI_nat (j := 0) (by simp) (by rfl)
theorem atI_1 {α : Type} (x0 x1 : α) (l : List α) : atI (x0 :: x1 :: l) 1 = some x1 := atI_nat (j := 1) rfl
theorem setI_1 (x0 x1 v : V) (l : List V) : setI (x0 :: x1 :: l) 1 v = some (x0 :: v :: l) := setI_nat (j := 1) (by simp) (by rfl)
theorem atI_2 {α : Type} (x0 x1 x2 : α) (l : List α) : atI (x0 :: x1 :: x2 :: l) 2 = some x2 := atI_nat (j := 2) rfl
theorem setI_2 (x0 x1 x2 v : V) (l : List V) : setI (x0 :: x1 :: x2 :: l) 2 v = some (x0 :: x1 :: v :: l) := setI_nat (j := 2) (by simp) (by rfl)
theorem atI_3 {α : Type} (x0 x1 x2 x3 : α) (l : List α) : atI (x0 :: x1 :: x2 :: x3 :: l) 3 = some x3 := atI_nat (j := 3) rfl
theorem setI_3 (x0 x1 x2 x3 v : V) (l : List V) : setI (x0 :: x1 :: x2 :: x3 :: l) 3 v = some (x0 :: x1 :: x2 :: v :: l) := setI_nat (j := 3) (by simp) (by rfl)
theorem atI_4 {α : Type} (x0 x1 x2 x3 x4 : α) (l : List α) : atI (x0 :: x1 :: x2 :: x3 :: x4 :: l) 4 = some x4 := atI_nat (j := 4) rfl
theorem setI_4 (x0 x1 x2 x3 x4 v : V) (l : List V) : setI (x0 :: x1 :: x2 :: x3 :: x4 :: l) 4 v = some (x0 :: x1 :: x2 :: x3 :: v :: l) := setI_nat (j := 4) (by simp) (by rfl)
theorem atI_5 {α : Type} (x0 x1 x2 x3 x4 x5 : α) (l : List α) : atI (x0 :: x1 :: x2 :: x3 :: x4 :: x5 :: l) 5 = some x5 := atI_nat (j := 5) rfl
theorem setI_5 (x0 x1 x2 x3 x4 x5 v : V) (l : List V) : setI (x0 :: x1 :: x2 :: x3 :: x4 :: x5 :: l) 5 v = some (x0 :: x1 :: x2 :: x3 :: x4 :: v :: l) := setI_nat (j := 5) (by simp) (by rfl)
theorem atI_6 {α : Type} (x0 x1 x2 x3 x4 x5 x6 : α) (l : List α) : atI (x0 :: x1 :: x2 :: x3 :: x4 :: x5 :: x6 :: l) 6 = some x6 := atI_nat (j := 6) rfl
theorem setI_6 (x0 x1 x2 x3 x4 x5 x6 v : V) (l : List V) : setI (x0 :: x1 :: x2 :: x3 :: x4 :: x5 :: x6 :: l) 6 v = some (x0 :: x1 :: x2 :: x3 :: x4 :: x5 :: v :: l) := setI_nat (j := 6) (by simp) (by rfl)
end My

namespace My
open PySem PySem.Spec PyProof.Rows L2
section
variable {X : Cx}
/-- any(xs), a list of ints -/
def rAnyI (K : PySem.W.Frag) : List V → Hp → VK → Prop := fun vs H Q => ∃ (a : Addr) (ns : List Int), vs = [V.ref a] ∧ SqL K H a (ns.map V.int) ∧ Q (.bl (ns.any fun n => decide (n ≠ 0))) H
theorem vals_int_at : ∀ {ns : List Int} {us : List Value} {i : Nat} {v : Value}, Vals (ns.map V.int) us → us[i]? = some v → ∃ (n : Int) (t : Tok), ns[i]? = some n ∧ v = .int n t
  | [], us, i, v, h, e => by
    cases h
    cases e
  | n :: ns, us, i, v, h, e => by
    cases h with
    | cons a b =>
      cases i with
      | zero =>
        cases e
        obtain ⟨t, et⟩ := a
        exact ⟨n, t, rfl, et⟩
      | succ i => exact vals_int_at (ns := ns) (i := i) b e
theorem any_rangeI : ∀ ns : List Int, (List.range ns.length).any (fun i => decide (ns.getD i 0 ≠ 0)) = ns.any fun n => decide (n ≠ 0)
  | [] => rfl
  | n :: ns => by
    rw [List.length_cons, List.range_succ_eq_map, List.any_cons, List.any_map, List.any_cons, ← any_rangeI ns]
    all_goals rfl
theorem cr_anyI (hc : X.calm = true) : CallR X (.builtin "any") (rAnyI X.K) := by
  intro pins s σ H vs us Q I r h
  obtain ⟨a, ns, rfl, hs, q⟩ := h
  obtain ⟨its, rv, hl, _⟩ := I.list hs
  rw [Vals.ref1 r]
  have hlen := rv.length
  rw [List.length_map] at hlen
  refine call_any_walk (iter_any hl.isList fun s₂ e2 st hne => ?_)
  subst e2
  refine ⟨_, _, _, _, _, _, _, rfl, Walks.list (A := X.A.in1) (I.ok.hd hc) _ a hne its.toArray, st, (fun i v s Q E hv hq => ?_ : TruthOf X.prog X.w X.A.in1 (fun i v => its.toArray[i]? = some v) (fun i => decide (ns.getD i 0 ≠ 0))), fun h' tk hk => ?_⟩
  · have hv' : its[i]? = some v := by simpa using hv
    obtain ⟨n, t, hn, rfl⟩ := vals_int_at rv hv'
    have hg : ns.getD i 0 = n := by rw [List.getD_eq_getElem?_getD, hn] <;> rfl
    have hq' : Q (decide (ns.getD i 0 ≠ 0)) s := hq
    rw [hg, show decide (n ≠ 0) = (n != 0) from by by_cases h : n = 0 <;> simp [h]] at hq'
    exact PySem.P.truthy_int hq'
  · refine ⟨.bl _, H, I.kept fun b o eo => hk b o (fun hmem => ?_) (Heap.get?_push_of_some _ eo), ?_, q⟩
    · rcases List.mem_cons.mp hmem with e1 | hmem
      · exact absurd (e1 ▸ Heap.lt_size eo) (Nat.lt_irrefl _)
      · cases hmem
    · show Value.bool _ = Value.bool _
      rw [← any_rangeI, List.size_toArray, ← hlen]
/-- list(o.values()) -/
def tListVals (K : PySem.W.Frag) (td : TE) : TE := fun σ H Q => td σ H fun x H1 => ∃ a kvs, x = V.ref a ∧ H1 a = some (.dK kvs) ∧ ∀ p, H1 p = none → K.lookup p = none → Q (.ref p) (upd H1 p (.lst (kvs.map (·.2))))
variable {o : Expr} {p pos apos mpos : Pos} {td : TE}
theorem pe_listVals (hc : X.calm = true) (hg : Gl X "list") (hm : X.mg "list" = none) (hd : PE X o td) (hbase : attributeBase o "values" X.env (eval o X.env) = eval o X.env := by rfl) (hline : (apos.endLine == mpos.line) = true := by rfl)
    (hse : starEach [Expr.Call (.Attribute o "values" apos) [] [] mpos] X.env = [(false, eval (Expr.Call (.Attribute o "values" apos) [] [] mpos) X.env)] := by rfl) :
    PE X (.Call (.Name "list" p) [.Call (.Attribute o "values" apos) [] [] mpos] [] pos) (tListVals X.K td) := by
  refine ⟨fun pins s σ H Q I h => ?_⟩
  refine wpAny_Call_Name_kw (ld_blt I hg hm (u := .type "list") (by first | rfl | decide +kernel) ?_ (by first | decide +kernel | decide) (by first | decide +kernel | decide))
  rw [hse]
  refine PySem.callWith_type1 (wpAny_Call_method0_late hbase hline (thn (hd.run pins s σ H _ I h) fun v s1 ⟨x, H1, I1, r1, a, kvs, ex, ha, q⟩ => ?_))
  subst ex
  obtain rfl : v = Value.ref a := r1
  obtain ⟨_, hsys, vs, rel, dof⟩ := dk_of I1.hok ha
  obtain ⟨z, _, _, _, _⟩ := (show ObjOk X.prog X.w H1 s1.heap a (.dK kvs) from I1.hok a _ ha)
  obtain ⟨ep, dat⟩ := dof.dictAt
  have dat' := dat
  obtain ⟨ob, es, ho, ex, hdat, hko, hpr, hnd⟩ := dat'
  refine ⟨"dict", "dict.values", F.plainAttrs_dict, F.slot_dict_values, F.type_dict_values, ⟨ob, ho, ex.1⟩, fun b e => ?_, Calls.callWith_builtin rfl (PySem.evalArgs_none ?_)⟩
  · cases e
    exact ⟨ob, ho, ex.2.1⟩
  refine call_meetsIn F.slot_dict_values ⟨ob, ho, ex.1⟩ F.entry_dict_values (F.args_dict_values_1 _) (meets_dict_values (mixKind X.prog X.w) a hsys) ⟨⟨vs, dof⟩, ?_⟩
  have k1 : ∀ b u, s1.heap.get? b = some u → (s1.heap.push { cls := .type "dict_values", data := .fields #[.ref a] }).get? b = some u := fun b u e => Heap.get?_push_of_some _ e
  have dat1 : (s1.heap.push { cls := .type "dict_values", data := .fields #[.ref a] }).DictAt (mixKind X.prog X.w) a vs ep := dat.keep k1
  have hl : kvs.length = vs.length := Paired.length rel
  have I2 : Inv X pins σ H1 { s1 with heap := s1.heap.push { cls := .type "dict_values", data := .fields #[.ref a] } } := I1.kept (t' := s1.toks) fun b u e => Heap.get?_push_of_some _ e
  refine PySem.W.kdl_call (PySem.W.kdl_values (knd := mixKind X.prog X.w) (kvs := vs) (ep := ep) (r := s1.heap.objs.size) (d := a)) (I.ok.hd hc) ⟨⟨_, Heap.get?_push_size _ rfl, rfl, rfl⟩, dat1⟩ (by rw [← hl]; exact z) fun h' tk acc' c' hkeep hS hacc => ?_
  have hsz : (s1.heap.push { cls := .type "dict_values", data := .fields #[.ref a] }).objs.size = s1.heap.objs.size + 1 := Heap.size_push _ _
  have fr := I2.hok.fresh (a := (s1.heap.push { cls := .type "dict_values", data := .fields #[.ref a] }).objs.size) (Nat.le_refl _)
  refine ⟨.ref (s1.heap.push { cls := .type "dict_values", data := .fields #[.ref a] }).objs.size, upd H1 (s1.heap.push { cls := .type "dict_values", data := .fields #[.ref a] }).objs.size (.lst (kvs.map (·.2))), I2.laid hkeep (Nat.le_refl _) (show ObjOk X.prog X.w _ _ _ (.lst (kvs.map (·.2))) from ⟨by rw [List.length_map]; exact z, acc'.toList, c', ?_, ?_⟩), rfl, q _ fr (new_K I2)⟩
  · have el : acc'.toList.length = acc'.size := by simp
    refine vals_of_at (by rw [List.length_map, el, hacc.1, hl]) fun j x w h1 h2 => ?_
    obtain ⟨k, hky⟩ := hacc.2 j w (by rw [← Array.getElem?_toList]; exact h2)
    obtain ⟨y, e1, e2⟩ := KV.at' rel hky
    rw [List.getElem?_map, e1] at h1
    cases h1
    exact e2
  · exact hS
end
section
variable {X : Cx}
/-- what is tracked is none of the written part's -/
def tFr (K : PySem.W.Frag) (t : TE) : TE := fun σ H Q => t σ H fun v H' => (∀ a, H' a ≠ none → K.lookup a = none) → Q v H'
theorem pe_fr {e : Expr} {t : TE} (h : PE X e t) : PE X e (tFr X.K t) := ⟨fun pins s σ H Q I hw => thn (h.run pins s σ H _ I hw) fun u s1 ⟨v, H1, I1, r, q⟩ => ⟨v, H1, I1, r, q fun a ha => by
  cases z : X.K.lookup a with
  | none => rfl
  | some o => exact absurd (I1.bs a o (I1.ok.mod.kin a o z)).2 ha⟩⟩
end
/-- name = [..] on one line; what is tracked is none of the written part's -/
theorem ps_setLcF {X : Cx} {i : Nat} {y : Str} {py : Pos} {elt tg iter : Expr} {ifs : List Expr} {scope : Scope} {own : List (Str × Nat)} {pos spos : Pos} {wi : TI} {g : TG} {tt : TT} {te : TE} (hc : X.calm = true) (hN : X.N.Nodup) (hy : X.N[i]? = some y) (hyl : X.env.scope.names.lookup y = some .local)
    (hsw : swapsWith (.ListComp elt [⟨tg, iter, ifs, 0⟩] scope pos) (some (.Name y py)) spos.line X.env = pure true) (hi : PI X tg iter wi) (ok : BlkOk X.N X.env.scope scope own)
    (hg : ∀ (s : Shared) (H : Hp) (C : Addr) (cl : List (Str × Addr)) (fp : List Addr), PG (X.blk s H scope (compEnvC scope cl C X.env) fp) tg g) (ht : ∀ (s : Shared) (H : Hp) (C : Addr) (cl : List (Str × Addr)) (fp : List Addr), PTs (X.blk s H scope (compEnvC scope cl C X.env) fp) ifs tt)
    (he : ∀ (s : Shared) (H : Hp) (C : Addr) (cl : List (Str × Addr)) (fp : List Addr), PE (X.blk s H scope (compEnvC scope cl C X.env) fp) elt te) (hs : ∀ x, foldedSetIterable iter X.env x = pure x := by intro _; rfl) :
    PS X (.Assign [.Name y py] (.ListComp elt [⟨tg, iter, ifs, 0⟩] scope pos) spos) (tAsg (tFr X.K (tLc wi g tt te (own.map (·.2)))) (gName i)) := by
  refine ⟨fun pins s σ H D I h => ?_⟩
  rw [exec_Assign_Name_used _ _ _ _ hsw]
  refine wpAny_bind (wpAny_standAt (wpAny_bind ?_))
  show wpAny _ X.A (do let _ ← comprehension (.ListComp elt [⟨tg, iter, ifs, 0⟩] scope pos) scope X.env (firstIterPos [⟨tg, iter, ifs, 0⟩] pos) (newList []) false (eval iter X.env) (some (assign (.Name y py) X.env))) _ _ s
  have h : tLc wi g tt te (own.map (·.2)) σ H (fun x H1 => (∀ a, H1 a ≠ none → X.K.lookup a = none) → gName i x σ H1 D.nx) := h
  refine wpAny_bind (thn (lc_core (Qf := fun _ s' => SP X pins D .next s') hc hN I hi ok hg ht he hs h fun L C s' m H' I' q hn f => ?_) fun _ s' hq => wpAny_pure (wpAny_pure hq))
  have fr : ∀ a, H' a ≠ none → X.K.lookup a = none := fun a ha => by
    cases z : X.K.lookup a with
    | none => rfl
    | some o => exact absurd (I'.bs a o (I'.ok.mod.kin a o z)).2 ha
  show wpAny _ _ (assign (.Name y py) X.env (.ref L)) _ _ _
  refine wpAny_assign_Name (store_ok2 (v := V.ref L) I' hN hy (.inl hyl) rfl (fun s2 I2 ⟨a, sb, ha⟩ => ?_) (.inr hyl))
  obtain ⟨f0, f1, f2, f3, f4, f5⟩ := f
  have haC : C ≠ a := by
    rcases ha with z | z
    · rw [z]; exact f1
    · exact fun e => f4 y a z e.symm
  refine ⟨m, hn.sameBut sb haC, fun h3 sb3 => ?_⟩
  exact ⟨_, H', I2.turned (t' := s2.toks) (fun b o hb e => (sb3.2 b hb).trans e) f0 f1 f3 f4 f5, q fr⟩
theorem cut_to (xs : List V) (j : Nat) (hj : j ≤ xs.length) : cutV xs none (some (j : Int)) = xs.take j := by
  have e := HT.sIx_nat xs.length xs.length j
  unfold cutV
  rw [e, HT.sIx_none, List.drop_zero, Nat.sub_zero, Nat.min_eq_left hj]
theorem cut_from (xs : List V) (j : Nat) (hj : j ≤ xs.length) : cutV xs (some (j : Int)) none = xs.drop j := by
  have e := HT.sIx_nat xs.length 0 j
  unfold cutV
  rw [e, HT.sIx_none, Nat.min_eq_left hj, List.take_of_length_le (by rw [List.length_drop]; omega)]
end My

namespace My
open PySem PySem.Spec PyProof.Rows L2
/-! ### numbers: fractions in lowest terms -/
abbrev Qt := Int × Int
def Nf (q : Qt) : Prop := 1 ≤ q.2 ∧ Int.gcd q.1 q.2 = 1
/-- q is t / b in lowest terms -/
def Is (q : Qt) (t b : Int) : Prop := Nf q ∧ q.1 * b = t * q.2
def Sz (k : Nat) (q : Qt) : Prop := q.1.natAbs < 2 ^ k ∧ q.2.natAbs < 2 ^ k
theorem nf_cop {q : Qt} (h : Nf q) : Nat.Coprime q.1.natAbs q.2.natAbs := h.2
theorem nf_unique {p q : Qt} (hp : Nf p) (hq : Nf q) (h : p.1 * q.2 = q.1 * p.2) : p = q := by
  have h1 : p.1.natAbs * q.2.natAbs = q.1.natAbs * p.2.natAbs := by rw [← Int.natAbs_mul, ← Int.natAbs_mul, h]
  have d1 : p.2.natAbs ∣ q.2.natAbs := (nf_cop hp).symm.dvd_of_dvd_mul_left (n := q.2.natAbs) (m := p.1.natAbs) (by rw [h1]; exact Nat.dvd_mul_left _ _)
  have d2 : q.2.natAbs ∣ p.2.natAbs := (nf_cop hq).symm.dvd_of_dvd_mul_left (n := p.2.natAbs) (m := q.1.natAbs) (by rw [← h1]; exact Nat.dvd_mul_left _ _)
  have e := Nat.dvd_antisymm d1 d2
  have a1 := hp.1
  have a2 := hq.1
  have e2 : p.2 = q.2 := by omega
  rw [e2] at h
  have e1 : p.1 = q.1 := Int.eq_of_mul_eq_mul_right (show q.2 ≠ 0 by omega) h
  exact Prod.ext e1 e2
theorem is_unique {p q : Qt} {t b : Int} (hb : b ≠ 0) (hp : Is p t b) (hq : Is q t b) : p = q := by
  refine nf_unique hp.1 hq.1 ?_
  have h1 := hp.2
  have h2 := hq.2
  have h3 : b * (p.1 * q.2) = b * (q.1 * p.2) := by
    have e1 : b * (p.1 * q.2) = (p.1 * b) * q.2 := by rw [Int.mul_comm p.1 b, Int.mul_assoc]
    have e2 : b * (q.1 * p.2) = (q.1 * b) * p.2 := by rw [Int.mul_comm q.1 b, Int.mul_assoc]
    rw [e1, e2, h1, h2, Int.mul_assoc, Int.mul_assoc, Int.mul_comm p.2 q.2]
  exact Int.eq_of_mul_eq_mul_left hb h3
theorem is_le {q : Qt} {t b : Int} (hb : b ≠ 0) (h : Is q t b) : q.1.natAbs ≤ t.natAbs ∧ q.2.natAbs ≤ b.natAbs := by
  have h1 : q.1.natAbs * b.natAbs = t.natAbs * q.2.natAbs := by rw [← Int.natAbs_mul, ← Int.natAbs_mul, h.2]
  have d : q.2.natAbs ∣ b.natAbs := (nf_cop h.1).symm.dvd_of_dvd_mul_left (n := b.natAbs) (m := q.1.natAbs) (by rw [h1]; exact Nat.dvd_mul_left _ _)
  have hb' : 0 < b.natAbs := by omega
  have le2 := Nat.le_of_dvd hb' d
  refine ⟨?_, le2⟩
  have q2 : 0 < q.2.natAbs := by have := h.1.1; omega
  have h2 : q.1.natAbs * q.2.natAbs ≤ t.natAbs * q.2.natAbs := by rw [← h1]; exact Nat.mul_le_mul_left _ le2
  exact Nat.le_of_mul_le_mul_right h2 q2
theorem is_sz {q : Qt} {t b : Int} {k : Nat} (hb : b ≠ 0) (h : Is q t b) (ht : t.natAbs < 2 ^ k) (hk : b.natAbs < 2 ^ k) : Sz k q :=
  ⟨Nat.lt_of_le_of_lt (is_le hb h).1 ht, Nat.lt_of_le_of_lt (is_le hb h).2 hk⟩
/-- exact division by the greatest common divisor -/
theorem gcd_pos {t b : Int} (hb : b ≠ 0) : 0 < Int.gcd t b := Nat.gcd_pos_of_pos_right _ (by omega)
theorem gcd_le {t b : Int} (hb : b ≠ 0) : Int.gcd t b ≤ b.natAbs := Nat.le_of_dvd (by omega) (Nat.gcd_dvd_right _ _)
theorem is_div {t b : Int} (hb : 0 < b) : Is (t / (Int.gcd t b : Nat), b / (Int.gcd t b : Nat)) t b := by
  have hg := gcd_pos (t := t) (b := b) (by omega)
  obtain ⟨x, hx⟩ := Int.gcd_dvd_left (a := t) (b := b)
  obtain ⟨y, hy⟩ := Int.gcd_dvd_right (a := t) (b := b)
  have hg' : ((Int.gcd t b : Nat) : Int) ≠ 0 := by omega
  have e1 : t / (Int.gcd t b : Nat) = x := by conv => lhs; lhs; rw [hx]
                                              exact Int.mul_ediv_cancel_left _ hg'
  have e2 : b / (Int.gcd t b : Nat) = y := by conv => lhs; lhs; rw [hy]
                                              exact Int.mul_ediv_cancel_left _ hg'
  rw [e1, e2]
  have hy0 : 0 < y := by
    rcases Int.lt_trichotomy y 0 with z | z | z
    · have := Int.mul_neg_of_pos_of_neg (show (0 : Int) < (Int.gcd t b : Nat) by omega) z
      omega
    · rw [z, Int.mul_zero] at hy
      omega
    · exact z
  refine ⟨⟨by show 1 ≤ y; omega, ?_⟩, ?_⟩
  · show Int.gcd x y = 1
    have h : Int.gcd t b = Int.gcd t b * Int.gcd x y := by
      have k : Int.gcd (((Int.gcd t b : Nat) : Int) * x) (((Int.gcd t b : Nat) : Int) * y) = Int.gcd t b * Int.gcd x y := by rw [Int.gcd_mul_left, Int.natAbs_natCast]
      rwa [← hx, ← hy] at k
    exact Nat.eq_of_mul_eq_mul_left hg (by rw [← h, Nat.mul_one])
  · show x * b = t * y
    conv => lhs; rw [hy]
    conv => rhs; rw [hx]
    rw [← Int.mul_assoc, Int.mul_comm x]
theorem is_neg {q : Qt} {t b : Int} (h : Is q (-t) (-b)) : Is q t b := ⟨h.1, by have := h.2; rw [Int.mul_neg, Int.neg_mul] at this; omega⟩
theorem gcd_neg2 (t b : Int) : Int.gcd (-t) (-b) = Int.gcd t b := by rw [Int.gcd_neg, Int.neg_gcd]
/-- what fraction hands back -/
theorem is_fdiv {t b : Int} (hb : b ≠ 0) : Is (t.fdiv (if b < 0 then -((Int.gcd t b : Nat) : Int) else (Int.gcd t b : Nat)), b.fdiv (if b < 0 then -((Int.gcd t b : Nat) : Int) else (Int.gcd t b : Nat))) t b := by
  by_cases h : b < 0
  · rw [if_pos h]
    have e := is_div (t := -t) (b := -b) (by omega)
    rw [gcd_neg2] at e
    have k : ∀ x : Int, x.fdiv (-((Int.gcd t b : Nat) : Int)) = (-x) / ((Int.gcd t b : Nat) : Int) := fun x => by
      rw [← Int.fdiv_eq_ediv_of_nonneg _ (by omega), ← Int.neg_fdiv_neg (-x), Int.neg_neg]
    rw [k, k]
    exact is_neg e
  · rw [if_neg h, Int.fdiv_eq_ediv_of_nonneg _ (by omega), Int.fdiv_eq_ediv_of_nonneg _ (by omega)]
    exact is_div (by omega)
theorem mulW {i j : Int} {a b : Nat} (ha : i.natAbs < 2 ^ a) (hb : j.natAbs < 2 ^ b) (h : a + b ≤ 900000) : CMulW i j := by
  refine wide_mul (a := a + 1) (b := b + 1) (Nat.lt_of_lt_of_le ha (Nat.pow_le_pow_right (by omega) (by omega))) (Nat.lt_of_lt_of_le hb (Nat.pow_le_pow_right (by omega) (by omega))) (by omega) (by omega) (by omega)
theorem szMul {i j : Int} {a b : Nat} (ha : i.natAbs < 2 ^ a) (hb : j.natAbs < 2 ^ b) : (i * j).natAbs < 2 ^ (a + b) := wide_lt ha hb
theorem szAdd {i j : Int} {a b c : Nat} (ha : i.natAbs < 2 ^ a) (hb : j.natAbs < 2 ^ b) (h1 : a + 1 ≤ c) (h2 : b + 1 ≤ c) : (i + j).natAbs < 2 ^ c := by
  have e1 : 2 ^ (a + 1) ≤ 2 ^ c := Nat.pow_le_pow_right (by omega) h1
  have e2 : 2 ^ (b + 1) ≤ 2 ^ c := Nat.pow_le_pow_right (by omega) h2
  rw [Nat.pow_succ] at e1 e2
  have := Int.natAbs_add_le i j
  omega
theorem szSub {i j : Int} {a b c : Nat} (ha : i.natAbs < 2 ^ a) (hb : j.natAbs < 2 ^ b) (h1 : a + 1 ≤ c) (h2 : b + 1 ≤ c) : (i - j).natAbs < 2 ^ c := by
  rw [Int.sub_eq_add_neg]
  exact szAdd ha (by rw [Int.natAbs_neg]; exact hb) h1 h2
theorem szMono {i : Int} {a b : Nat} (ha : i.natAbs < 2 ^ a) (h : a ≤ b) : i.natAbs < 2 ^ b := Nat.lt_of_lt_of_le ha (Nat.pow_le_pow_right (by omega) h)
theorem Sz.mono {q : Qt} {a b : Nat} (ha : Sz a q) (h : a ≤ b) : Sz b q := ⟨szMono ha.1 h, szMono ha.2 h⟩
/-- // by any number of a bounded size -/
def CDivX (_ j : Int) : Prop := j ≠ 0 ∧ j.natAbs < 2 ^ 8999
theorem op_fdivX {X : Cx} : OpR X (binaryOp .FloorDiv) (rI CDivX fun i j => .int (i.fdiv j)) := by
  intro pins s σ H x y v u Q I rx ry h
  obtain ⟨i, j, rfl, rfl, hc, q⟩ := h
  obtain ⟨t, rfl⟩ := rx
  obtain ⟨t', rfl⟩ := ry
  exact floordiv_int hc.1 ⟨.int _, H, I.tok _, ⟨_, rfl⟩, q⟩ (.inl (PyProof.noPylong_of_log2 (Nat.lt_of_lt_of_le (PySem.Flt.log2_lt_of (by omega) hc.2) (by omega))))
/-! ### fractions as values -/
def frt (q : Qt) : HO := .tup [.int q.1, .int q.2]
end My

namespace My
open PySem PySem.Spec PyProof.Rows L2
section
variable {P : Program} {w : World} {K : PySem.W.Frag} {mg : Str → Option Value} {base : Heap}
def spMixed : Sp := fun vs H Q _ => ∃ a b : Int, vs = [.int a, .int b] ∧ ∀ r : Int, Q (.int r) H
theorem mulW_mod {i : Int} {n : Int} (h0 : 0 < n) (h : n < 2 ^ 64) : CMulW (i % n) (i % n) := by
  have h1 := Int.emod_nonneg i (show n ≠ 0 by omega)
  have h2 := Int.emod_lt_of_pos i h0
  exact wide_mul (a := 64) (b := 64) (by omega) (by omega) (by omega) (by omega) (by omega)
abbrev sMixed : Stmt := topS 24
theorem scMixed : FnScope ["_law_number", "_law_turn", "_law_value"] ["_law_number", "_law_turn"] (defScope sMixed) := ⟨rfl, rfl, rfl, by decide +kernel, rfl, by decide +kernel, by decide +kernel⟩
theorem k_Mixed (T : Bt K mg) (D : Dfn K mg "_law_mixed" sMixed ["_law_number", "_law_turn"]) : Kn P w K mg base 1 "_law_mixed" ["_law_number", "_law_turn"] spMixed := by
  refine Kn.mk' D scMixed (fun vs H Q E h => ?_) (fun f cdv A outer s H vs Q E hr h => ?_)
  · obtain ⟨a, b, rfl, _⟩ := h
    rfl
  obtain ⟨a, b, rfl, q⟩ := h
  refine ⟨_, (pss_cons (ps_set (i := 2) scMixed.nd rfl (.inl rfl) (pe_op op_mod (pe_op op_add (pe_op op_add (pe_op op_mul (pe_op op_mod (pe_callTy call_int1 (by rfl) T.b_int (by decide +kernel) (pa_cons (pv 0) pa_nil)) pe_int) pe_int) (pe_op op_mul (pv 1) pe_int)) pe_int) pe_int))
      (pss_cons (ps_set (i := 2) scMixed.nd rfl (.inl rfl) (pe_op op_mod (pe_op op_add (pe_op op_add (pe_op op_add (pe_op op_mulW (pv 2) (pv 2)) (pe_op op_mul (pv 2) pe_int)) (pe_op op_mul (pv 1) pe_int)) pe_int) pe_int))
      (pss_cons (ps_set (i := 2) scMixed.nd rfl (.inl rfl) (pe_op op_mod (pe_op op_add (pe_op op_add (pe_op op_mul (pv 2) pe_int) (pe_op op_fdiv (pv 2) pe_int)) pe_int) pe_int))
      (pss_cons (ps_set (i := 2) scMixed.nd rfl (.inl rfl) (pe_op op_mod (pe_op op_add (pe_op op_mulW (pv 2) (pv 2)) (pv 1)) pe_int))
      (pss_one (ps_ret (pe_op op_fdiv (pv 2) pe_int))))))), ?_⟩
  simp only [cx_K, decide_true, decide_false, reduceCtorEq, gTp, gCons, gNil, ca_0, ca_1, ca_2, ca_3, ca_4, ca_5, ca_6, ca_7, ca_8, ca_9, ca_10, ca_11, ca_12, ca_13, ca_14, ca_15, ca_16, ca_17, ca_18, ca_19, ca_20, ca_21, ca_22, ca_23, ca_24, ca_25, ca_26, ca_27, ca_28, ca_29, ca_30, not_true_eq_false, not_false_eq_true, Int.reduceEq, Nat.reduceEqDiff, Nat.reduceLeDiff, rGcd, V.ty.injEq, eq_self, List.not_mem_nil, beq_self_eq_true, HO.lst.injEq, HO.tup.injEq, tFor_eq, iRng1, iList, iTup, nat10, tSeq, rIxA, rSetA, rIsN, rIsT, tTp, tLs, itsO_tup, itsO_lst, tyO_tup, tyO_lst, tyO_dK, tyN_non, tyN_bl, tyN_int, tyN_str, tyN_ref, tyNs_lt, isB, upd_same, upd_upd, sizeLine_eq, List.mem_cons, String.reduceBEq, String.reduceEq, Bool.or_false, Bool.or_true, Bool.and_false, Bool.false_or, Bool.and_self, Bool.false_and, Bool.not_false, Bool.not_true, List.any_cons, List.any_nil, atI_0, setI_0, atI_1, setI_1, atI_2, setI_2, atI_3, setI_3, atI_4, setI_4, atI_5, setI_5, atI_6, setI_6, tAsg, gName, tOp, tUn, tVar, tC, tCons, L2.tNil, tRet, tIfS, tTest, tCB, tCall, rI, rI0, rU, tNext, tB, tAnd, tOr, tNot, tAndV, tOrV, tNotV, tDrop, tIf, tPar, gSub, rIxL, rIxT, rEq, rNe, rSetL, tBits,
    L2.start, List.map_cons, List.map_nil, List.cons_append, List.nil_append, List.append_nil, List.length_cons, List.length_nil, List.replicate, Nat.reduceAdd, Nat.reduceSub, Nat.zero_add, List.getElem?_cons_zero, List.getElem?_cons_succ, List.set_cons_zero, List.set_cons_succ,
    Option.some.injEq, exists_eq_left', exists_eq_left, V.int.injEq, V.bl.injEq, V.ref.injEq, V.str.injEq, List.cons.injEq, reduceCtorEq, and_true, true_and, false_and, and_false, exists_false, or_false, false_or, or_true, true_or, exists_const, CMul, CDiv, CPow, and_assoc, exists_and_left, exists_and_right, Int.reducePow, Int.reduceNeg, Int.reduceLT, Int.reduceLE, Nat.reducePow, Nat.reduceLT, Int.reduceToNat, gt_iff_lt, ge_iff_le, decide_eq_true_eq, Bool.not_eq_true', decide_eq_false_iff_not, scal, ↓reduceIte, Bool.false_eq_true]
  exact ⟨mulW_mod (by omega) (by omega), mulW_mod (by omega) (by omega), q _⟩
theorem at_ints {ns : List Int} {i : Int} (h0 : 0 ≤ i) (h : i < (ns.length : Int)) : ∃ z, atI (ns.map V.int) i = some (.int z) := by
  have hk : i.toNat < ns.length := by omega
  have q : atI (ns.map V.int) ((i.toNat : Nat) : Int) = some (.int ns[i.toNat]) := atI_nat (by rw [List.getElem?_map, List.getElem?_eq_getElem hk] <;> rfl)
  rw [show ((i.toNat : Nat) : Int) = i by omega] at q
  exact ⟨_, q⟩
theorem bits_le {m : Int} (h : m.natAbs < 2 ^ 200) : Builtin.Int.intBits m ≤ 200 := by
  unfold Builtin.Int.intBits
  split
  · omega
  · have := PySem.Flt.log2_lt_of (show 0 < 200 by omega) h
    omega
def TakeA (K : PySem.W.Frag) (s : Addr) (m : Int) (H : Hp) (σ' : L2.St) (H' : Hp) : Prop := ∃ x, σ' = [some (.ref s), some (.int m), x, none, none, none, none] ∧ Kp s H H' ∧ Sto K H' s
def TakeB (K : PySem.W.Frag) (s : Addr) (m : Int) (H : Hp) (σ' : L2.St) (H' : Hp) : Prop := ∃ x n, σ' = [some (.ref s), some (.int m), x, none, some (.int n), none, none] ∧ Kp s H H' ∧ Sto K H' s
def TakeC (s : Addr) (m : Int) (x : Option V) (n : Int) (H3 : Hp) (k : Nat) (σ : L2.St) (H' : Hp) : Prop := ∃ v y, σ = [some (.ref s), some (.int m), x, none, some (.int n), some (.int v), y] ∧ H' = H3
def spTake (K : PySem.W.Frag) : Sp := fun vs H Q _ => ∃ (s : Addr) (m : Int), vs = [.ref s, .int m] ∧ Sto K H s ∧ m < 2 ^ 200 ∧ ∀ r H', 0 ≤ r → (r < m ∨ r = 0) → Kp s H H' → Sto K H' s → Q (.int r) H'
abbrev sTake : Stmt := topS 26
theorem scTake : FnScope ["_law_store_here", "_law_many", "_law_cell", "_law_digit", "_law_number", "_law_value", "_law_k"] ["_law_store_here", "_law_many"] (defScope sTake) := ⟨rfl, rfl, rfl, by decide +kernel, rfl, by decide +kernel, by decide +kernel⟩
theorem k_Take (T : Bt K mg) (D : Dfn K mg "_law_take" sTake ["_law_store_here", "_law_many"]) (d__law_mixed : Kn P w K mg base 1 "_law_mixed" ["_law_number", "_law_turn"] spMixed) : Kn P w K mg base 2 "_law_take" ["_law_store_here", "_law_many"] (spTake K) := by
  refine Kn.mk' D scTake (fun vs H Q E h => ?_) (fun f cdv A outer s H vs Q E hr h => ?_)
  · obtain ⟨a, m, rfl, _⟩ := h
    rfl
  obtain ⟨s, m, rfl, hS, hm, q⟩ := h
  refine ⟨_, (pss_cons (ps_if (pt_cmpR op_lt (pv 1) pe_int (nomark _)) (pss_one (ps_ret pe_int)) pss_nil)
      (pss_cons (ps_asg (pe_op op_add (pe_ix ix_any (pv 0) pe_int (fun _ _ => rfl)) pe_int) (pg_sub (pv 0) pe_int set_any))
      (C8.pss_cut (ps_if (PW.pt (pw_and (pt_cmpR op_lt (pe_ix ix_any (pv 0) pe_int (fun _ _ => rfl)) pe_int (nomark _)) (pw_and (pt_cmpR op_lt (pe_ix ix_any (pv 0) pe_int (fun _ _ => rfl)) pe_int (nomark _)) (pw_and1 (pt_cmpR op_lt (pe_ix ix_any (pv 0) pe_int (fun _ _ => rfl)) (pe_callB call_lenA (by rfl) T.b_len PySem.boot_len (pa_cons (pe_ix ix_any (pv 0) pe_int (fun _ _ => rfl)) pa_nil)) (nomark _)))))) (pss_cons (ps_set (i := 2) scTake.nd rfl (.inl rfl) (pe_callTy call_int1 (by rfl) T.b_int (by decide +kernel) (pa_cons (pe_ix ix_any (pe_ix ix_any (pv 0) pe_int (fun _ _ => rfl)) (pe_ix ix_any (pv 0) pe_int (fun _ _ => rfl)) (fun _ _ => rfl)) pa_nil)))
      (pss_cons (ps_asg (pe_op op_add (pe_ix ix_any (pv 0) pe_int (fun _ _ => rfl)) pe_int) (pg_sub (pv 0) pe_int set_any))
      (pss_one (ps_if (pt_cmpR op_lt (pe_callB call_abs (by rfl) T.b_abs (by decide +kernel) (pa_cons (pv 2) pa_nil)) (pe_op op_pow pe_int pe_int) (nomark _)) (pss_cons (ps_asg pe_int (pg_sub (pv 0) pe_int set_any))
      (pss_one (ps_asg (pv 2) (pg_sub (pv 0) pe_int set_any)))) (pss_one (ps_asg (pe_callB call_abs (by rfl) T.b_abs (by decide +kernel) (pa_cons (pv 2) pa_nil)) (pg_sub (pv 0) pe_int set_any))))))) pss_nil)
      (pss_cons (ps_if (pt_cmpR op_gt (pe_ix ix_any (pv 0) pe_int (fun _ _ => rfl)) pe_int (nomark _)) (pss_cons (ps_set (i := 3) scTake.nd rfl (.inl rfl) (pe_op op_modN (pe_callTy call_int1 (by rfl) T.b_int (by decide +kernel) (pa_cons (pe_ix ix_any (pv 0) pe_int (fun _ _ => rfl)) pa_nil)) (pv 1)))
      (pss_cons (ps_asg (pe_op op_fdivW (pe_ix ix_any (pv 0) pe_int (fun _ _ => rfl)) (pv 1)) (pg_sub (pv 0) pe_int set_any))
      (pss_one (ps_ret (pv 3))))) pss_nil)
      (pss_cons (ps_set (i := 4) scTake.nd rfl (.inl rfl) (pe_ix ix_any (pv 0) pe_int (fun _ _ => rfl)))
      (C8.pss_cut (ps_if (pt_cmpR op_gt (pe_ix ix_any (pv 0) pe_int (fun _ _ => rfl)) pe_int (nomark _)) (pss_cons (ps_asg (pe_op op_sub (pe_ix ix_any (pv 0) pe_int (fun _ _ => rfl)) pe_int) (pg_sub (pv 0) pe_int set_any))
      (pss_one (ps_set (i := 4) scTake.nd rfl (.inl rfl) (pe_ix ix_any (pv 0) pe_int (fun _ _ => rfl))))) pss_nil)
      (pss_cons (ps_set (i := 5) scTake.nd rfl (.inl rfl) pe_int)
      (pss_cons (ps_for PassesOwn.never rfl (pi_range1 (by rfl) T.b_range (pa_cons (pe_op op_add pe_int (pe_op op_fdiv (pe_bits (pv 1)) pe_int)) pa_nil)) (pg_name (i := 6) scTake.nd rfl (.inl rfl)) (pss_one (ps_set (i := 5) scTake.nd rfl (.inl rfl) (pe_op op_add (pe_op op_mul (pv 5) pe_int) (pe_kn d__law_mixed hr (by rfl) (pa_cons (pv 4) (pa_cons (pe_op op_add (pe_op op_mul (pe_ix ix_any (pv 0) pe_int (fun _ _ => rfl)) pe_int) (pv 6)) pa_nil)))))))
      (pss_one (ps_ret (pe_op op_modN (pv 5) (pv 1)))))))))))), ?_⟩
  obtain ⟨sc, ns, i, b, c, d, e, f, hs, hsc, hne, hi, ks, ksc⟩ := hS
  have o1 := (ob_none ks).trans hs
  simp only [o1, hs, cx_K, decide_true, decide_false, reduceCtorEq, gTp, gCons, gNil, ca_0, ca_1, ca_2, ca_3, ca_4, ca_5, ca_6, ca_7, ca_8, ca_9, ca_10, ca_11, ca_12, ca_13, ca_14, ca_15, ca_16, ca_17, ca_18, ca_19, ca_20, ca_21, ca_22, ca_23, ca_24, ca_25, ca_26, ca_27, ca_28, ca_29, ca_30, not_true_eq_false, not_false_eq_true, Int.reduceEq, Nat.reduceEqDiff, Nat.reduceLeDiff, rGcd, V.ty.injEq, eq_self, List.not_mem_nil, beq_self_eq_true, HO.lst.injEq, HO.tup.injEq, tFor_eq, iRng1, iList, iTup, nat10, tSeq, rIxA, rSetA, rIsN, rIsT, tTp, tLs, itsO_tup, itsO_lst, tyO_tup, tyO_lst, tyO_dK, tyN_non, tyN_bl, tyN_int, tyN_str, tyN_ref, tyNs_lt, isB, upd_same, upd_upd, sizeLine_eq, List.mem_cons, String.reduceBEq, String.reduceEq, Bool.or_false, Bool.or_true, Bool.and_false, Bool.false_or, Bool.and_self, Bool.false_and, Bool.not_false, Bool.not_true, List.any_cons, List.any_nil, atI_0, setI_0, atI_1, setI_1, atI_2, setI_2, atI_3, setI_3, atI_4, setI_4, atI_5, setI_5, atI_6, setI_6, tAsg, gName, tOp, tUn, tVar, tC, tCons, L2.tNil, tRet, tIfS, tTest, tCB, tCall, rI, rI0, rU, tNext, tB, tAnd, tOr, tNot, tAndV, tOrV, tNotV, tDrop, tIf, tPar, gSub, rIxL, rIxT, rEq, rNe, rSetL, tBits,
    L2.start, List.map_cons, List.map_nil, List.cons_append, List.nil_append, List.append_nil, List.length_cons, List.length_nil, List.replicate, Nat.reduceAdd, Nat.reduceSub, Nat.zero_add, List.getElem?_cons_zero, List.getElem?_cons_succ, List.set_cons_zero, List.set_cons_succ,
    Option.some.injEq, exists_eq_left', exists_eq_left, V.int.injEq, V.bl.injEq, V.ref.injEq, V.str.injEq, List.cons.injEq, reduceCtorEq, and_true, true_and, false_and, and_false, exists_false, or_false, false_or, or_true, true_or, exists_const, CMul, CDiv, CPow, and_assoc, exists_and_left, exists_and_right, Int.reducePow, Int.reduceNeg, Int.reduceLT, Int.reduceLE, Nat.reducePow, Nat.reduceLT, Int.reduceToNat, gt_iff_lt, ge_iff_le, decide_eq_true_eq, Bool.not_eq_true', decide_eq_false_iff_not, scal, ↓reduceIte, Bool.false_eq_true]
  refine ite2 (fun h2 => ?_) (fun h2 => ?_)
  · exact q 0 H (Int.le_refl 0) (.inr rfl) (Kp.refl _ _) ⟨sc, ns, i, b, c, d, e, f, hs, hsc, hne, hi, ks, ksc⟩
  have S1 := Sr.put (i' := i) (b' := b) (c' := c + 1) (d' := d) (e' := e) (f' := f) (⟨hs, hsc, hne, hi, ks, ksc⟩ : Sr K H s sc ns i b c d e f) hi
  have kp1 : Kp s H (upd H s (.lst [.ref sc, .int i, .int b, .int (c + 1), .int d, .int e, .int f])) := Kp.put hs
  generalize upd H s (.lst [.ref sc, .int i, .int b, .int (c + 1), .int d, .int e, .int f]) = H1 at S1 kp1 ⊢
  refine ⟨TakeA K s m H, ?_, ?_⟩
  · obtain ⟨hs, hsc, hne, hi, ks, ksc⟩ := id S1
    have o1 := (ob_none ks).trans hs
    have o2 := (ob_none ksc).trans hsc
    have no : TakeA K s m H [some (.ref s), some (.int m), none, none, none, none, none] H1 := ⟨none, rfl, kp1, _, _, _, _, _, _, _, _, S1⟩
    simp only [o1, o2, hs, List.length_map, cx_K, decide_true, decide_false, reduceCtorEq, gTp, gCons, gNil, ca_0, ca_1, ca_2, ca_3, ca_4, ca_5, ca_6, ca_7, ca_8, ca_9, ca_10, ca_11, ca_12, ca_13, ca_14, ca_15, ca_16, ca_17, ca_18, ca_19, ca_20, ca_21, ca_22, ca_23, ca_24, ca_25, ca_26, ca_27, ca_28, ca_29, ca_30, not_true_eq_false, not_false_eq_true, Int.reduceEq, Nat.reduceEqDiff, Nat.reduceLeDiff, rGcd, V.ty.injEq, eq_self, List.not_mem_nil, beq_self_eq_true, HO.lst.injEq, HO.tup.injEq, tFor_eq, iRng1, iList, iTup, nat10, tSeq, rIxA, rSetA, rIsN, rIsT, tTp, tLs, itsO_tup, itsO_lst, tyO_tup, tyO_lst, tyO_dK, tyN_non, tyN_bl, tyN_int, tyN_str, tyN_ref, tyNs_lt, isB, upd_same, upd_upd, sizeLine_eq, List.mem_cons, String.reduceBEq, String.reduceEq, Bool.or_false, Bool.or_true, Bool.and_false, Bool.false_or, Bool.and_self, Bool.false_and, Bool.not_false, Bool.not_true, List.any_cons, List.any_nil, atI_0, setI_0, atI_1, setI_1, atI_2, setI_2, atI_3, setI_3, atI_4, setI_4, atI_5, setI_5, atI_6, setI_6, tAsg, gName, tOp, tUn, tVar, tC, tCons, L2.tNil, tRet, tIfS, tTest, tCB, tCall, rI, rI0, rU, tNext, tB, tAnd, tOr, tNot, tAndV, tOrV, tNotV, tDrop, tIf, tPar, gSub, rIxL, rIxT, rEq, rNe, rSetL, tBits,
    L2.start, List.map_cons, List.map_nil, List.cons_append, List.nil_append, List.append_nil, List.length_cons, List.length_nil, List.replicate, Nat.reduceAdd, Nat.reduceSub, Nat.zero_add, List.getElem?_cons_zero, List.getElem?_cons_succ, List.set_cons_zero, List.set_cons_succ,
    Option.some.injEq, exists_eq_left', exists_eq_left, V.int.injEq, V.bl.injEq, V.ref.injEq, V.str.injEq, List.cons.injEq, reduceCtorEq, and_true, true_and, false_and, and_false, exists_false, or_false, false_or, or_true, true_or, exists_const, CMul, CDiv, CPow, and_assoc, exists_and_left, exists_and_right, Int.reducePow, Int.reduceNeg, Int.reduceLT, Int.reduceLE, Nat.reducePow, Nat.reduceLT, Int.reduceToNat, gt_iff_lt, ge_iff_le, decide_eq_true_eq, Bool.not_eq_true', decide_eq_false_iff_not, scal, ↓reduceIte, Bool.false_eq_true]
    refine ite2 (fun _ => ?_) (fun _ => no)
    refine ite2 (fun _ => ?_) (fun _ => no)
    refine ite2 (fun hlt => ?_) (fun _ => no)
    obtain ⟨z, hz⟩ := at_ints hi hlt
    simp only [hz, cx_K, decide_true, decide_false, reduceCtorEq, gTp, gCons, gNil, ca_0, ca_1, ca_2, ca_3, ca_4, ca_5, ca_6, ca_7, ca_8, ca_9, ca_10, ca_11, ca_12, ca_13, ca_14, ca_15, ca_16, ca_17, ca_18, ca_19, ca_20, ca_21, ca_22, ca_23, ca_24, ca_25, ca_26, ca_27, ca_28, ca_29, ca_30, not_true_eq_false, not_false_eq_true, Int.reduceEq, Nat.reduceEqDiff, Nat.reduceLeDiff, rGcd, V.ty.injEq, eq_self, List.not_mem_nil, beq_self_eq_true, HO.lst.injEq, HO.tup.injEq, tFor_eq, iRng1, iList, iTup, nat10, tSeq, rIxA, rSetA, rIsN, rIsT, tTp, tLs, itsO_tup, itsO_lst, tyO_tup, tyO_lst, tyO_dK, tyN_non, tyN_bl, tyN_int, tyN_str, tyN_ref, tyNs_lt, isB, upd_same, upd_upd, sizeLine_eq, List.mem_cons, String.reduceBEq, String.reduceEq, Bool.or_false, Bool.or_true, Bool.and_false, Bool.false_or, Bool.and_self, Bool.false_and, Bool.not_false, Bool.not_true, List.any_cons, List.any_nil, atI_0, setI_0, atI_1, setI_1, atI_2, setI_2, atI_3, setI_3, atI_4, setI_4, atI_5, setI_5, atI_6, setI_6, tAsg, gName, tOp, tUn, tVar, tC, tCons, L2.tNil, tRet, tIfS, tTest, tCB, tCall, rI, rI0, rU, tNext, tB, tAnd, tOr, tNot, tAndV, tOrV, tNotV, tDrop, tIf, tPar, gSub, rIxL, rIxT, rEq, rNe, rSetL, tBits,
    L2.start, List.map_cons, List.map_nil, List.cons_append, List.nil_append, List.append_nil, List.length_cons, List.length_nil, List.replicate, Nat.reduceAdd, Nat.reduceSub, Nat.zero_add, List.getElem?_cons_zero, List.getElem?_cons_succ, List.set_cons_zero, List.set_cons_succ,
    Option.some.injEq, exists_eq_left', exists_eq_left, V.int.injEq, V.bl.injEq, V.ref.injEq, V.str.injEq, List.cons.injEq, reduceCtorEq, and_true, true_and, false_and, and_false, exists_false, or_false, false_or, or_true, true_or, exists_const, CMul, CDiv, CPow, and_assoc, exists_and_left, exists_and_right, Int.reducePow, Int.reduceNeg, Int.reduceLT, Int.reduceLE, Nat.reducePow, Nat.reduceLT, Int.reduceToNat, gt_iff_lt, ge_iff_le, decide_eq_true_eq, Bool.not_eq_true', decide_eq_false_iff_not, scal, ↓reduceIte, Bool.false_eq_true]
    refine ite2 (fun _ => ?_) (fun _ => ?_)
    · have S2 := S1.put (i' := i + 1) (b' := b) (c' := c + 1) (d' := d) (e' := 2) (f' := z) (by omega)
      exact ⟨_, rfl, kp1.trans (Kp.put hs), _, _, _, _, _, _, _, _, S2⟩
    · have S2 := S1.put (i' := i + 1) (b' := if z < 0 then -z else z) (c' := c + 1) (d' := d) (e' := e) (f' := f) (by omega)
      exact ⟨_, rfl, kp1.trans (Kp.put hs), _, _, _, _, _, _, _, _, S2⟩
  rintro σ' H2 ⟨x, rfl, kp2, sc, ns, i, b, c, d, e, f, S2⟩
  obtain ⟨hs, hsc, hne, hi, ks, ksc⟩ := id S2
  have o1 := (ob_none ks).trans hs
  simp only [o1, hs, cx_K, decide_true, decide_false, reduceCtorEq, gTp, gCons, gNil, ca_0, ca_1, ca_2, ca_3, ca_4, ca_5, ca_6, ca_7, ca_8, ca_9, ca_10, ca_11, ca_12, ca_13, ca_14, ca_15, ca_16, ca_17, ca_18, ca_19, ca_20, ca_21, ca_22, ca_23, ca_24, ca_25, ca_26, ca_27, ca_28, ca_29, ca_30, not_true_eq_false, not_false_eq_true, Int.reduceEq, Nat.reduceEqDiff, Nat.reduceLeDiff, rGcd, V.ty.injEq, eq_self, List.not_mem_nil, beq_self_eq_true, HO.lst.injEq, HO.tup.injEq, tFor_eq, iRng1, iList, iTup, nat10, tSeq, rIxA, rSetA, rIsN, rIsT, tTp, tLs, itsO_tup, itsO_lst, tyO_tup, tyO_lst, tyO_dK, tyN_non, tyN_bl, tyN_int, tyN_str, tyN_ref, tyNs_lt, isB, upd_same, upd_upd, sizeLine_eq, List.mem_cons, String.reduceBEq, String.reduceEq, Bool.or_false, Bool.or_true, Bool.and_false, Bool.false_or, Bool.and_self, Bool.false_and, Bool.not_false, Bool.not_true, List.any_cons, List.any_nil, atI_0, setI_0, atI_1, setI_1, atI_2, setI_2, atI_3, setI_3, atI_4, setI_4, atI_5, setI_5, atI_6, setI_6, tAsg, gName, tOp, tUn, tVar, tC, tCons, L2.tNil, tRet, tIfS, tTest, tCB, tCall, rI, rI0, rU, tNext, tB, tAnd, tOr, tNot, tAndV, tOrV, tNotV, tDrop, tIf, tPar, gSub, rIxL, rIxT, rEq, rNe, rSetL, tBits,
    L2.start, List.map_cons, List.map_nil, List.cons_append, List.nil_append, List.append_nil, List.length_cons, List.length_nil, List.replicate, Nat.reduceAdd, Nat.reduceSub, Nat.zero_add, List.getElem?_cons_zero, List.getElem?_cons_succ, List.set_cons_zero, List.set_cons_succ,
    Option.some.injEq, exists_eq_left', exists_eq_left, V.int.injEq, V.bl.injEq, V.ref.injEq, V.str.injEq, List.cons.injEq, reduceCtorEq, and_true, true_and, false_and, and_false, exists_false, or_false, false_or, or_true, true_or, exists_const, CMul, CDiv, CPow, and_assoc, exists_and_left, exists_and_right, Int.reducePow, Int.reduceNeg, Int.reduceLT, Int.reduceLE, Nat.reducePow, Nat.reduceLT, Int.reduceToNat, gt_iff_lt, ge_iff_le, decide_eq_true_eq, Bool.not_eq_true', decide_eq_false_iff_not, scal, ↓reduceIte, Bool.false_eq_true]
  have hm0 : m ≠ 0 := by omega
  refine ite2 (fun hb => ?_) (fun hb => ?_)
  · have S3 := S2.put (i' := i) (b' := b / m) (c' := c) (d' := d) (e' := e) (f' := f) hi
    refine ⟨hm0, wide_div (b := 200) (by omega) (by omega) (by omega) (by omega), q _ _ ?_ (.inl ?_) (kp2.trans (Kp.put hs)) ⟨_, _, _, _, _, _, _, _, S3⟩⟩
    · rw [Int.fmod_eq_emod_of_nonneg b (by omega)]
      exact Int.emod_nonneg _ hm0
    · rw [Int.fmod_eq_emod_of_nonneg b (by omega)]
      exact Int.emod_lt_of_pos _ (by omega)
  refine ⟨TakeB K s m H, ?_, ?_⟩
  · simp only [o1, hs, cx_K, decide_true, decide_false, reduceCtorEq, gTp, gCons, gNil, ca_0, ca_1, ca_2, ca_3, ca_4, ca_5, ca_6, ca_7, ca_8, ca_9, ca_10, ca_11, ca_12, ca_13, ca_14, ca_15, ca_16, ca_17, ca_18, ca_19, ca_20, ca_21, ca_22, ca_23, ca_24, ca_25, ca_26, ca_27, ca_28, ca_29, ca_30, not_true_eq_false, not_false_eq_true, Int.reduceEq, Nat.reduceEqDiff, Nat.reduceLeDiff, rGcd, V.ty.injEq, eq_self, List.not_mem_nil, beq_self_eq_true, HO.lst.injEq, HO.tup.injEq, tFor_eq, iRng1, iList, iTup, nat10, tSeq, rIxA, rSetA, rIsN, rIsT, tTp, tLs, itsO_tup, itsO_lst, tyO_tup, tyO_lst, tyO_dK, tyN_non, tyN_bl, tyN_int, tyN_str, tyN_ref, tyNs_lt, isB, upd_same, upd_upd, sizeLine_eq, List.mem_cons, String.reduceBEq, String.reduceEq, Bool.or_false, Bool.or_true, Bool.and_false, Bool.false_or, Bool.and_self, Bool.false_and, Bool.not_false, Bool.not_true, List.any_cons, List.any_nil, atI_0, setI_0, atI_1, setI_1, atI_2, setI_2, atI_3, setI_3, atI_4, setI_4, atI_5, setI_5, atI_6, setI_6, tAsg, gName, tOp, tUn, tVar, tC, tCons, L2.tNil, tRet, tIfS, tTest, tCB, tCall, rI, rI0, rU, tNext, tB, tAnd, tOr, tNot, tAndV, tOrV, tNotV, tDrop, tIf, tPar, gSub, rIxL, rIxT, rEq, rNe, rSetL, tBits,
    L2.start, List.map_cons, List.map_nil, List.cons_append, List.nil_append, List.append_nil, List.length_cons, List.length_nil, List.replicate, Nat.reduceAdd, Nat.reduceSub, Nat.zero_add, List.getElem?_cons_zero, List.getElem?_cons_succ, List.set_cons_zero, List.set_cons_succ,
    Option.some.injEq, exists_eq_left', exists_eq_left, V.int.injEq, V.bl.injEq, V.ref.injEq, V.str.injEq, List.cons.injEq, reduceCtorEq, and_true, true_and, false_and, and_false, exists_false, or_false, false_or, or_true, true_or, exists_const, CMul, CDiv, CPow, and_assoc, exists_and_left, exists_and_right, Int.reducePow, Int.reduceNeg, Int.reduceLT, Int.reduceLE, Nat.reducePow, Nat.reduceLT, Int.reduceToNat, gt_iff_lt, ge_iff_le, decide_eq_true_eq, Bool.not_eq_true', decide_eq_false_iff_not, scal, ↓reduceIte, Bool.false_eq_true]
    refine ite2 (fun he => ?_) (fun he => ?_)
    · have S3 := S2.put (i' := i) (b' := b) (c' := c) (d' := d) (e' := e - 1) (f' := f) hi
      have o3 := (ob_none ks).trans S3.1
      simp only [o3, cx_K, decide_true, decide_false, reduceCtorEq, gTp, gCons, gNil, ca_0, ca_1, ca_2, ca_3, ca_4, ca_5, ca_6, ca_7, ca_8, ca_9, ca_10, ca_11, ca_12, ca_13, ca_14, ca_15, ca_16, ca_17, ca_18, ca_19, ca_20, ca_21, ca_22, ca_23, ca_24, ca_25, ca_26, ca_27, ca_28, ca_29, ca_30, not_true_eq_false, not_false_eq_true, Int.reduceEq, Nat.reduceEqDiff, Nat.reduceLeDiff, rGcd, V.ty.injEq, eq_self, List.not_mem_nil, beq_self_eq_true, HO.lst.injEq, HO.tup.injEq, tFor_eq, iRng1, iList, iTup, nat10, tSeq, rIxA, rSetA, rIsN, rIsT, tTp, tLs, itsO_tup, itsO_lst, tyO_tup, tyO_lst, tyO_dK, tyN_non, tyN_bl, tyN_int, tyN_str, tyN_ref, tyNs_lt, isB, upd_same, upd_upd, sizeLine_eq, List.mem_cons, String.reduceBEq, String.reduceEq, Bool.or_false, Bool.or_true, Bool.and_false, Bool.false_or, Bool.and_self, Bool.false_and, Bool.not_false, Bool.not_true, List.any_cons, List.any_nil, atI_0, setI_0, atI_1, setI_1, atI_2, setI_2, atI_3, setI_3, atI_4, setI_4, atI_5, setI_5, atI_6, setI_6, tAsg, gName, tOp, tUn, tVar, tC, tCons, L2.tNil, tRet, tIfS, tTest, tCB, tCall, rI, rI0, rU, tNext, tB, tAnd, tOr, tNot, tAndV, tOrV, tNotV, tDrop, tIf, tPar, gSub, rIxL, rIxT, rEq, rNe, rSetL, tBits,
    L2.start, List.map_cons, List.map_nil, List.cons_append, List.nil_append, List.append_nil, List.length_cons, List.length_nil, List.replicate, Nat.reduceAdd, Nat.reduceSub, Nat.zero_add, List.getElem?_cons_zero, List.getElem?_cons_succ, List.set_cons_zero, List.set_cons_succ,
    Option.some.injEq, exists_eq_left', exists_eq_left, V.int.injEq, V.bl.injEq, V.ref.injEq, V.str.injEq, List.cons.injEq, reduceCtorEq, and_true, true_and, false_and, and_false, exists_false, or_false, false_or, or_true, true_or, exists_const, CMul, CDiv, CPow, and_assoc, exists_and_left, exists_and_right, Int.reducePow, Int.reduceNeg, Int.reduceLT, Int.reduceLE, Nat.reducePow, Nat.reduceLT, Int.reduceToNat, gt_iff_lt, ge_iff_le, decide_eq_true_eq, Bool.not_eq_true', decide_eq_false_iff_not, scal, ↓reduceIte, Bool.false_eq_true]
      exact ⟨_, _, rfl, kp2.trans (Kp.put hs), _, _, _, _, _, _, _, _, S3⟩
    · exact ⟨_, _, rfl, kp2, _, _, _, _, _, _, _, _, S2⟩
  rintro σ' H3 ⟨x, n, rfl, kp3, sc, ns, i, b, c, d, e, f, S3⟩
  obtain ⟨hs, hsc, hne, hi, ks, ksc⟩ := id S3
  have o1 := (ob_none ks).trans hs
  simp only [o1, hs, cx_K, decide_true, decide_false, reduceCtorEq, gTp, gCons, gNil, ca_0, ca_1, ca_2, ca_3, ca_4, ca_5, ca_6, ca_7, ca_8, ca_9, ca_10, ca_11, ca_12, ca_13, ca_14, ca_15, ca_16, ca_17, ca_18, ca_19, ca_20, ca_21, ca_22, ca_23, ca_24, ca_25, ca_26, ca_27, ca_28, ca_29, ca_30, not_true_eq_false, not_false_eq_true, Int.reduceEq, Nat.reduceEqDiff, Nat.reduceLeDiff, rGcd, V.ty.injEq, eq_self, List.not_mem_nil, beq_self_eq_true, HO.lst.injEq, HO.tup.injEq, tFor_eq, iRng1, iList, iTup, nat10, tSeq, rIxA, rSetA, rIsN, rIsT, tTp, tLs, itsO_tup, itsO_lst, tyO_tup, tyO_lst, tyO_dK, tyN_non, tyN_bl, tyN_int, tyN_str, tyN_ref, tyNs_lt, isB, upd_same, upd_upd, sizeLine_eq, List.mem_cons, String.reduceBEq, String.reduceEq, Bool.or_false, Bool.or_true, Bool.and_false, Bool.false_or, Bool.and_self, Bool.false_and, Bool.not_false, Bool.not_true, List.any_cons, List.any_nil, atI_0, setI_0, atI_1, setI_1, atI_2, setI_2, atI_3, setI_3, atI_4, setI_4, atI_5, setI_5, atI_6, setI_6, tAsg, gName, tOp, tUn, tVar, tC, tCons, L2.tNil, tRet, tIfS, tTest, tCB, tCall, rI, rI0, rU, tNext, tB, tAnd, tOr, tNot, tAndV, tOrV, tNotV, tDrop, tIf, tPar, gSub, rIxL, rIxT, rEq, rNe, rSetL, tBits,
    L2.start, List.map_cons, List.map_nil, List.cons_append, List.nil_append, List.append_nil, List.length_cons, List.length_nil, List.replicate, Nat.reduceAdd, Nat.reduceSub, Nat.zero_add, List.getElem?_cons_zero, List.getElem?_cons_succ, List.set_cons_zero, List.set_cons_succ,
    Option.some.injEq, exists_eq_left', exists_eq_left, V.int.injEq, V.bl.injEq, V.ref.injEq, V.str.injEq, List.cons.injEq, reduceCtorEq, and_true, true_and, false_and, and_false, exists_false, or_false, false_or, or_true, true_or, exists_const, CMul, CDiv, CPow, and_assoc, exists_and_left, exists_and_right, Int.reducePow, Int.reduceNeg, Int.reduceLT, Int.reduceLE, Nat.reducePow, Nat.reduceLT, Int.reduceToNat, gt_iff_lt, ge_iff_le, decide_eq_true_eq, Bool.not_eq_true', decide_eq_false_iff_not, scal, ↓reduceIte, Bool.false_eq_true]
  have hbits : Builtin.Int.intBits m ≤ 200 := bits_le (by omega)
  refine ⟨by omega, by omega, forI_range (TakeC s m x n H3) ⟨0, none, rfl, rfl⟩ ?_ ?_⟩
  · rintro k σ H' hk ⟨v, y, rfl, rfl⟩
    simp only [o1, hs, cx_K, decide_true, decide_false, reduceCtorEq, gTp, gCons, gNil, ca_0, ca_1, ca_2, ca_3, ca_4, ca_5, ca_6, ca_7, ca_8, ca_9, ca_10, ca_11, ca_12, ca_13, ca_14, ca_15, ca_16, ca_17, ca_18, ca_19, ca_20, ca_21, ca_22, ca_23, ca_24, ca_25, ca_26, ca_27, ca_28, ca_29, ca_30, not_true_eq_false, not_false_eq_true, Int.reduceEq, Nat.reduceEqDiff, Nat.reduceLeDiff, rGcd, V.ty.injEq, eq_self, List.not_mem_nil, beq_self_eq_true, HO.lst.injEq, HO.tup.injEq, tFor_eq, iRng1, iList, iTup, nat10, tSeq, rIxA, rSetA, rIsN, rIsT, tTp, tLs, itsO_tup, itsO_lst, tyO_tup, tyO_lst, tyO_dK, tyN_non, tyN_bl, tyN_int, tyN_str, tyN_ref, tyNs_lt, isB, upd_same, upd_upd, sizeLine_eq, List.mem_cons, String.reduceBEq, String.reduceEq, Bool.or_false, Bool.or_true, Bool.and_false, Bool.false_or, Bool.and_self, Bool.false_and, Bool.not_false, Bool.not_true, List.any_cons, List.any_nil, atI_0, setI_0, atI_1, setI_1, atI_2, setI_2, atI_3, setI_3, atI_4, setI_4, atI_5, setI_5, atI_6, setI_6, tAsg, gName, tOp, tUn, tVar, tC, tCons, L2.tNil, tRet, tIfS, tTest, tCB, tCall, rI, rI0, rU, tNext, tB, tAnd, tOr, tNot, tAndV, tOrV, tNotV, tDrop, tIf, tPar, gSub, rIxL, rIxT, rEq, rNe, rSetL, tBits,
    L2.start, List.map_cons, List.map_nil, List.cons_append, List.nil_append, List.append_nil, List.length_cons, List.length_nil, List.replicate, Nat.reduceAdd, Nat.reduceSub, Nat.zero_add, List.getElem?_cons_zero, List.getElem?_cons_succ, List.set_cons_zero, List.set_cons_succ,
    Option.some.injEq, exists_eq_left', exists_eq_left, V.int.injEq, V.bl.injEq, V.ref.injEq, V.str.injEq, List.cons.injEq, reduceCtorEq, and_true, true_and, false_and, and_false, exists_false, or_false, false_or, or_true, true_or, exists_const, CMul, CDiv, CPow, and_assoc, exists_and_left, exists_and_right, Int.reducePow, Int.reduceNeg, Int.reduceLT, Int.reduceLE, Nat.reducePow, Nat.reduceLT, Int.reduceToNat, gt_iff_lt, ge_iff_le, decide_eq_true_eq, Bool.not_eq_true', decide_eq_false_iff_not, scal, ↓reduceIte, Bool.false_eq_true]
    refine ⟨_, _, rfl, fun r => ?_⟩
    simp only [cx_K, decide_true, decide_false, reduceCtorEq, gTp, gCons, gNil, ca_0, ca_1, ca_2, ca_3, ca_4, ca_5, ca_6, ca_7, ca_8, ca_9, ca_10, ca_11, ca_12, ca_13, ca_14, ca_15, ca_16, ca_17, ca_18, ca_19, ca_20, ca_21, ca_22, ca_23, ca_24, ca_25, ca_26, ca_27, ca_28, ca_29, ca_30, not_true_eq_false, not_false_eq_true, Int.reduceEq, Nat.reduceEqDiff, Nat.reduceLeDiff, rGcd, V.ty.injEq, eq_self, List.not_mem_nil, beq_self_eq_true, HO.lst.injEq, HO.tup.injEq, tFor_eq, iRng1, iList, iTup, nat10, tSeq, rIxA, rSetA, rIsN, rIsT, tTp, tLs, itsO_tup, itsO_lst, tyO_tup, tyO_lst, tyO_dK, tyN_non, tyN_bl, tyN_int, tyN_str, tyN_ref, tyNs_lt, isB, upd_same, upd_upd, sizeLine_eq, List.mem_cons, String.reduceBEq, String.reduceEq, Bool.or_false, Bool.or_true, Bool.and_false, Bool.false_or, Bool.and_self, Bool.false_and, Bool.not_false, Bool.not_true, List.any_cons, List.any_nil, atI_0, setI_0, atI_1, setI_1, atI_2, setI_2, atI_3, setI_3, atI_4, setI_4, atI_5, setI_5, atI_6, setI_6, tAsg, gName, tOp, tUn, tVar, tC, tCons, L2.tNil, tRet, tIfS, tTest, tCB, tCall, rI, rI0, rU, tNext, tB, tAnd, tOr, tNot, tAndV, tOrV, tNotV, tDrop, tIf, tPar, gSub, rIxL, rIxT, rEq, rNe, rSetL, tBits,
    L2.start, List.map_cons, List.map_nil, List.cons_append, List.nil_append, List.append_nil, List.length_cons, List.length_nil, List.replicate, Nat.reduceAdd, Nat.reduceSub, Nat.zero_add, List.getElem?_cons_zero, List.getElem?_cons_succ, List.set_cons_zero, List.set_cons_succ,
    Option.some.injEq, exists_eq_left', exists_eq_left, V.int.injEq, V.bl.injEq, V.ref.injEq, V.str.injEq, List.cons.injEq, reduceCtorEq, and_true, true_and, false_and, and_false, exists_false, or_false, false_or, or_true, true_or, exists_const, CMul, CDiv, CPow, and_assoc, exists_and_left, exists_and_right, Int.reducePow, Int.reduceNeg, Int.reduceLT, Int.reduceLE, Nat.reducePow, Nat.reduceLT, Int.reduceToNat, gt_iff_lt, ge_iff_le, decide_eq_true_eq, Bool.not_eq_true', decide_eq_false_iff_not, scal, ↓reduceIte, Bool.false_eq_true]
    exact ⟨_, _, rfl, rfl⟩
  · rintro σ H' ⟨v, y, rfl, rfl⟩
    simp only [cx_K, decide_true, decide_false, reduceCtorEq, gTp, gCons, gNil, ca_0, ca_1, ca_2, ca_3, ca_4, ca_5, ca_6, ca_7, ca_8, ca_9, ca_10, ca_11, ca_12, ca_13, ca_14, ca_15, ca_16, ca_17, ca_18, ca_19, ca_20, ca_21, ca_22, ca_23, ca_24, ca_25, ca_26, ca_27, ca_28, ca_29, ca_30, not_true_eq_false, not_false_eq_true, Int.reduceEq, Nat.reduceEqDiff, Nat.reduceLeDiff, rGcd, V.ty.injEq, eq_self, List.not_mem_nil, beq_self_eq_true, HO.lst.injEq, HO.tup.injEq, tFor_eq, iRng1, iList, iTup, nat10, tSeq, rIxA, rSetA, rIsN, rIsT, tTp, tLs, itsO_tup, itsO_lst, tyO_tup, tyO_lst, tyO_dK, tyN_non, tyN_bl, tyN_int, tyN_str, tyN_ref, tyNs_lt, isB, upd_same, upd_upd, sizeLine_eq, List.mem_cons, String.reduceBEq, String.reduceEq, Bool.or_false, Bool.or_true, Bool.and_false, Bool.false_or, Bool.and_self, Bool.false_and, Bool.not_false, Bool.not_true, List.any_cons, List.any_nil, atI_0, setI_0, atI_1, setI_1, atI_2, setI_2, atI_3, setI_3, atI_4, setI_4, atI_5, setI_5, atI_6, setI_6, tAsg, gName, tOp, tUn, tVar, tC, tCons, L2.tNil, tRet, tIfS, tTest, tCB, tCall, rI, rI0, rU, tNext, tB, tAnd, tOr, tNot, tAndV, tOrV, tNotV, tDrop, tIf, tPar, gSub, rIxL, rIxT, rEq, rNe, rSetL, tBits,
    L2.start, List.map_cons, List.map_nil, List.cons_append, List.nil_append, List.append_nil, List.length_cons, List.length_nil, List.replicate, Nat.reduceAdd, Nat.reduceSub, Nat.zero_add, List.getElem?_cons_zero, List.getElem?_cons_succ, List.set_cons_zero, List.set_cons_succ,
    Option.some.injEq, exists_eq_left', exists_eq_left, V.int.injEq, V.bl.injEq, V.ref.injEq, V.str.injEq, List.cons.injEq, reduceCtorEq, and_true, true_and, false_and, and_false, exists_false, or_false, false_or, or_true, true_or, exists_const, CMul, CDiv, CPow, and_assoc, exists_and_left, exists_and_right, Int.reducePow, Int.reduceNeg, Int.reduceLT, Int.reduceLE, Nat.reducePow, Nat.reduceLT, Int.reduceToNat, gt_iff_lt, ge_iff_le, decide_eq_true_eq, Bool.not_eq_true', decide_eq_false_iff_not, scal, ↓reduceIte, Bool.false_eq_true]
    refine ⟨hm0, q _ _ ?_ (.inl ?_) kp3 ⟨_, _, _, _, _, _, _, _, S3⟩⟩
    · rw [Int.fmod_eq_emod_of_nonneg v (by omega)]
      exact Int.emod_nonneg _ hm0
    · rw [Int.fmod_eq_emod_of_nonneg v (by omega)]
      exact Int.emod_lt_of_pos _ (by omega)
end
end My

namespace My
open PySem PySem.Spec PyProof.Rows L2
section
variable {P : Program} {w : World} {K : PySem.W.Frag} {mg : Str → Option Value} {base : Heap}
theorem abs_if (n : Int) : (if n < 0 then -n else n) = (n.natAbs : Int) := by split <;> omega
def spGcd : Sp := fun vs H Q _ => ∃ a b : Int, vs = [.int a, .int b] ∧ Q (.int ((Int.gcd a b : Nat) : Int)) H
def GcdW (a b : Int) (H : Hp) (σ : L2.St) (H' : Hp) : Prop := ∃ l r : Int, σ = [some (.int l), some (.int r)] ∧ H' = H ∧ 0 ≤ l ∧ 0 ≤ r ∧ Int.gcd l r = Int.gcd a b
def GcdM (σ : L2.St) (_ : Hp) : Nat := match σ with
  | [_, some (.int r)] => r.toNat
  | _ => 0
/-- the law's own lowest terms; 0 beneath gives 0 -/
def Lw (q : Qt) (t b : Int) : Prop := (b = 0 → q = (0, 1)) ∧ (b ≠ 0 → Is q t b)
/-- hands back a fraction, all else as it was -/
def Gv (K : PySem.W.Frag) (H : Hp) (Q : VK) (q : Qt) : Prop := ∀ (p : Addr) (H' : Hp), Same H H' → ob K H' p = some (frt q) → Q (.ref p) H'
theorem Gv.new {K : PySem.W.Frag} {H : Hp} {Q : VK} {q : Qt} (h : Gv K H Q q) {p : Addr} (hp : H p = none) (kp : K.lookup p = none) : Q (.ref p) (upd H p (.tup [.int q.1, .int q.2])) := h p _ (Same.new hp _) (ob_new kp)
def spLowest (K : PySem.W.Frag) : Sp := fun vs H Q _ => ∃ t b : Int, vs = [.int t, .int b] ∧ b.natAbs < 2 ^ 8000 ∧ ∀ q, Lw q t b → Gv K H Q q
end
end My

namespace My
open PySem PySem.Spec PyProof.Rows L2
section
variable {P : Program} {w : World} {K : PySem.W.Frag} {mg : Str → Option Value} {base : Heap}
end
structure DfnD (K : PySem.W.Frag) (mg : Str → Option Value) (x : Str) (st : Stmt) (ps : List Str) : Prop where
  ex : ∃ f fd dvs, FunD K x x (defArgs st) (defBody st) (defScope st) dvs [] f fd ∧ mg x = some (.ref f) ∧ Binds K fd ps []
theorem Kn.mkD {P : Program} {w : World} {K : PySem.W.Frag} {mg : Str → Option Value} {base : Heap} {x : Str} {st : Stmt} {N ps : List Str} {k : Nat} {sp : Sp} (D : DfnD K mg x st ps) (S : FnScope N ps (defScope st)) (len : ∀ vs H Q E, sp vs H Q E → vs.length = ps.length)
    (hbody : ∀ (f : Addr) (cdv : Value) (A : Around) (outer : List Env) (s : Shared) (H : Hp) (vs : List V) (Q : VK) (E : XK), Room k (A.deeper (envOfC x (defScope st) s.heap.objs.size f cdv)) → sp vs H Q E →
      ∃ t, PSs (cxOf CX0 P w K mg base N x (defScope st) f cdv A outer s H E).nox (defBody st) t ∧ t { nx := fun _ H' => Q .non H', rt := Q } (start N vs) H) : Kn P w K mg base (k + 1) x ps sp := by
  obtain ⟨f, fd, dvs, F, m, b⟩ := D.ex
  exact ⟨f, fd, m, F.kp, b, F.ok S len fun cdv A outer s H vs Q E hr h => let ⟨t, a, c⟩ := hbody f cdv A outer s H vs Q E hr h; ⟨t, a.nox, c⟩⟩
section
variable {P : Program} {w : World} {K : PySem.W.Frag} {mg : Str → Option Value} {base : Heap}
def spRequire : Sp := fun vs H Q _ => ∃ x : V, vs = [.bl true, x] ∧ Q .non H
abbrev sRequire : Stmt := topS 14
theorem scRequire : FnScope ["well_formed", "what"] ["well_formed", "what"] (defScope sRequire) := ⟨rfl, rfl, rfl, by decide +kernel, rfl, by decide +kernel, by decide +kernel⟩
theorem k_Require (T : Bt K mg) (D : Dfn K mg "require" sRequire ["well_formed", "what"]) : Kn P w K mg base 1 "require" ["well_formed", "what"] spRequire := by
  refine Kn.mk' D scRequire (fun vs H Q E h => ?_) (fun f cdv A outer s H vs Q E hr h => ?_)
  · obtain ⟨x, rfl, _⟩ := h
    rfl
  obtain ⟨x, rfl, q⟩ := h
  refine ⟨_, (pss_one (ps_if (pt_not (pt_val (pv 0))) (pss_one ps_never) pss_nil)), ?_⟩
  simp only [cx_K, decide_true, decide_false, reduceCtorEq, gTp, gCons, gNil, ca_0, ca_1, ca_2, ca_3, ca_4, ca_5, ca_6, ca_7, ca_8, ca_9, ca_10, ca_11, ca_12, ca_13, ca_14, ca_15, ca_16, ca_17, ca_18, ca_19, ca_20, ca_21, ca_22, ca_23, ca_24, ca_25, ca_26, ca_27, ca_28, ca_29, ca_30, not_true_eq_false, not_false_eq_true, Int.reduceEq, Nat.reduceEqDiff, Nat.reduceLeDiff, rGcd, V.ty.injEq, eq_self, List.not_mem_nil, beq_self_eq_true, HO.lst.injEq, HO.tup.injEq, tFor_eq, iRng1, iList, iTup, nat10, tSeq, rIxA, rSetA, rIsN, rIsT, tTp, tLs, itsO_tup, itsO_lst, tyO_tup, tyO_lst, tyO_dK, tyN_non, tyN_bl, tyN_int, tyN_str, tyN_ref, tyNs_lt, isB, upd_same, upd_upd, sizeLine_eq, List.mem_cons, String.reduceBEq, String.reduceEq, Bool.or_false, Bool.or_true, Bool.and_false, Bool.false_or, Bool.and_self, Bool.false_and, Bool.not_false, Bool.not_true, List.any_cons, List.any_nil, atI_0, setI_0, atI_1, setI_1, atI_2, setI_2, atI_3, setI_3, atI_4, setI_4, atI_5, setI_5, atI_6, setI_6, tAsg, gName, tOp, tUn, tVar, tC, tCons, L2.tNil, tRet, tIfS, tTest, tCB, tCall, rI, rI0, rU, tNext, tB, tAnd, tOr, tNot, tAndV, tOrV, tNotV, tDrop, tIf, tPar, gSub, rIxL, rIxT, rEq, rNe, rSetL, tBits,
    L2.start, List.map_cons, List.map_nil, List.cons_append, List.nil_append, List.append_nil, List.length_cons, List.length_nil, List.replicate, Nat.reduceAdd, Nat.reduceSub, Nat.zero_add, List.getElem?_cons_zero, List.getElem?_cons_succ, List.set_cons_zero, List.set_cons_succ,
    Option.some.injEq, exists_eq_left', exists_eq_left, V.int.injEq, V.bl.injEq, V.ref.injEq, V.str.injEq, List.cons.injEq, reduceCtorEq, and_true, true_and, false_and, and_false, exists_false, or_false, false_or, or_true, true_or, exists_const, CMul, CDiv, CPow, and_assoc, exists_and_left, exists_and_right, Int.reducePow, Int.reduceNeg, Int.reduceLT, Int.reduceLE, Nat.reducePow, Nat.reduceLT, Int.reduceToNat, gt_iff_lt, ge_iff_le, decide_eq_true_eq, Bool.not_eq_true', decide_eq_false_iff_not, scal, ↓reduceIte, Bool.false_eq_true]
  exact q
def wholeV : V → Bool
  | .int _ => true
  | _ => false
theorem wholeV_ty {H : Hp} {v : V} {t : String} (h : tyN K H v = some t) : wholeV v = (t == "int") := by
  cases v with
  | ref a =>
    have h1 : tyO (ob K H a) = some t := h
    unfold tyO at h1
    split at h1 <;> first | (cases h1; rfl) | cases h1
  | _ => first | (cases h; rfl) | cases h
def spWhole (K : PySem.W.Frag) : Sp := fun vs H Q _ => ∃ v, vs = [v] ∧ (tyN K H v).isSome ∧ Q (.bl (wholeV v)) H
abbrev sWhole : Stmt := topS 15
theorem scWhole : FnScope ["value"] ["value"] (defScope sWhole) := ⟨rfl, rfl, rfl, by decide +kernel, rfl, by decide +kernel, by decide +kernel⟩
theorem k_Whole (T : Bt K mg) (D : Dfn K mg "is_whole" sWhole ["value"]) : Kn P w K mg base 1 "is_whole" ["value"] (spWhole K) := by
  refine Kn.mk' D scWhole (fun vs H Q E h => ?_) (fun f cdv A outer s H vs Q E hr h => ?_)
  · obtain ⟨v, rfl, _⟩ := h
    rfl
  obtain ⟨v, rfl, hv, q⟩ := h
  refine ⟨_, (pss_one (ps_ret (pe_and (pe_callB call_isN (by rfl) T.b_isinstance (by decide +kernel) (pa_cons (pv 0) (pa_cons (pe_bltn (v := .ty "int") (by rfl) T.b_int (by decide +kernel) rfl) pa_nil))) (pe_one (pe_not (pe_callB call_isN (by rfl) T.b_isinstance (by decide +kernel) (pa_cons (pv 0) (pa_cons (pe_bltn (v := .ty "bool") (by rfl) T.b_bool (by decide +kernel) rfl) pa_nil)))))))), ?_⟩
  obtain ⟨t, ht⟩ := Option.isSome_iff_exists.mp hv
  rw [wholeV_ty ht] at q
  have mt := tyN_mem ht
  simp only [List.mem_cons, List.not_mem_nil, or_false] at mt
  rcases mt with rfl | rfl | rfl | rfl | rfl | rfl | rfl <;> (simp only [ht, cx_K, decide_true, decide_false, reduceCtorEq, gTp, gCons, gNil, ca_0, ca_1, ca_2, ca_3, ca_4, ca_5, ca_6, ca_7, ca_8, ca_9, ca_10, ca_11, ca_12, ca_13, ca_14, ca_15, ca_16, ca_17, ca_18, ca_19, ca_20, ca_21, ca_22, ca_23, ca_24, ca_25, ca_26, ca_27, ca_28, ca_29, ca_30, not_true_eq_false, not_false_eq_true, Int.reduceEq, Nat.reduceEqDiff, Nat.reduceLeDiff, rGcd, V.ty.injEq, eq_self, List.not_mem_nil, beq_self_eq_true, HO.lst.injEq, HO.tup.injEq, tFor_eq, iRng1, iList, iTup, nat10, tSeq, rIxA, rSetA, rIsN, rIsT, tTp, tLs, itsO_tup, itsO_lst, tyO_tup, tyO_lst, tyO_dK, tyN_non, tyN_bl, tyN_int, tyN_str, tyN_ref, tyNs_lt, isB, upd_same, upd_upd, sizeLine_eq, List.mem_cons, String.reduceBEq, String.reduceEq, Bool.or_false, Bool.or_true, Bool.and_false, Bool.false_or, Bool.and_self, Bool.false_and, Bool.not_false, Bool.not_true, List.any_cons, List.any_nil, atI_0, setI_0, atI_1, setI_1, atI_2, setI_2, atI_3, setI_3, atI_4, setI_4, atI_5, setI_5, atI_6, setI_6, tAsg, gName, tOp, tUn, tVar, tC, tCons, L2.tNil, tRet, tIfS, tTest, tCB, tCall, rI, rI0, rU, tNext, tB, tAnd, tOr, tNot, tAndV, tOrV, tNotV, tDrop, tIf, tPar, gSub, rIxL, rIxT, rEq, rNe, rSetL, tBits,
    L2.start, List.map_cons, List.map_nil, List.cons_append, List.nil_append, List.append_nil, List.length_cons, List.length_nil, List.replicate, Nat.reduceAdd, Nat.reduceSub, Nat.zero_add, List.getElem?_cons_zero, List.getElem?_cons_succ, List.set_cons_zero, List.set_cons_succ,
    Option.some.injEq, exists_eq_left', exists_eq_left, V.int.injEq, V.bl.injEq, V.ref.injEq, V.str.injEq, List.cons.injEq, reduceCtorEq, and_true, true_and, false_and, and_false, exists_false, or_false, false_or, or_true, true_or, exists_const, CMul, CDiv, CPow, and_assoc, exists_and_left, exists_and_right, Int.reducePow, Int.reduceNeg, Int.reduceLT, Int.reduceLE, Nat.reducePow, Nat.reduceLT, Int.reduceToNat, gt_iff_lt, ge_iff_le, decide_eq_true_eq, Bool.not_eq_true', decide_eq_false_iff_not, scal, ↓reduceIte, Bool.false_eq_true]; simpa using q)
abbrev sLWhole : Stmt := topS 29
theorem scLWhole : FnScope ["_law_told"] ["_law_told"] (defScope sLWhole) := ⟨rfl, rfl, rfl, by decide +kernel, rfl, by decide +kernel, by decide +kernel⟩
theorem k_LWhole (T : Bt K mg) (D : Dfn K mg "_law_is_whole" sLWhole ["_law_told"]) : Kn P w K mg base 1 "_law_is_whole" ["_law_told"] (spWhole K) := by
  refine Kn.mk' D scLWhole (fun vs H Q E h => ?_) (fun f cdv A outer s H vs Q E hr h => ?_)
  · obtain ⟨v, rfl, _⟩ := h
    rfl
  obtain ⟨v, rfl, hv, q⟩ := h
  refine ⟨_, (pss_one (ps_ret (pe_and (pe_callB call_isN (by rfl) T.b_isinstance (by decide +kernel) (pa_cons (pv 0) (pa_cons (pe_bltn (v := .ty "int") (by rfl) T.b_int (by decide +kernel) rfl) pa_nil))) (pe_one (pe_not (pe_callB call_isN (by rfl) T.b_isinstance (by decide +kernel) (pa_cons (pv 0) (pa_cons (pe_bltn (v := .ty "bool") (by rfl) T.b_bool (by decide +kernel) rfl) pa_nil)))))))), ?_⟩
  obtain ⟨t, ht⟩ := Option.isSome_iff_exists.mp hv
  rw [wholeV_ty ht] at q
  have mt := tyN_mem ht
  simp only [List.mem_cons, List.not_mem_nil, or_false] at mt
  rcases mt with rfl | rfl | rfl | rfl | rfl | rfl | rfl <;> (simp only [ht, cx_K, decide_true, decide_false, reduceCtorEq, gTp, gCons, gNil, ca_0, ca_1, ca_2, ca_3, ca_4, ca_5, ca_6, ca_7, ca_8, ca_9, ca_10, ca_11, ca_12, ca_13, ca_14, ca_15, ca_16, ca_17, ca_18, ca_19, ca_20, ca_21, ca_22, ca_23, ca_24, ca_25, ca_26, ca_27, ca_28, ca_29, ca_30, not_true_eq_false, not_false_eq_true, Int.reduceEq, Nat.reduceEqDiff, Nat.reduceLeDiff, rGcd, V.ty.injEq, eq_self, List.not_mem_nil, beq_self_eq_true, HO.lst.injEq, HO.tup.injEq, tFor_eq, iRng1, iList, iTup, nat10, tSeq, rIxA, rSetA, rIsN, rIsT, tTp, tLs, itsO_tup, itsO_lst, tyO_tup, tyO_lst, tyO_dK, tyN_non, tyN_bl, tyN_int, tyN_str, tyN_ref, tyNs_lt, isB, upd_same, upd_upd, sizeLine_eq, List.mem_cons, String.reduceBEq, String.reduceEq, Bool.or_false, Bool.or_true, Bool.and_false, Bool.false_or, Bool.and_self, Bool.false_and, Bool.not_false, Bool.not_true, List.any_cons, List.any_nil, atI_0, setI_0, atI_1, setI_1, atI_2, setI_2, atI_3, setI_3, atI_4, setI_4, atI_5, setI_5, atI_6, setI_6, tAsg, gName, tOp, tUn, tVar, tC, tCons, L2.tNil, tRet, tIfS, tTest, tCB, tCall, rI, rI0, rU, tNext, tB, tAnd, tOr, tNot, tAndV, tOrV, tNotV, tDrop, tIf, tPar, gSub, rIxL, rIxT, rEq, rNe, rSetL, tBits,
    L2.start, List.map_cons, List.map_nil, List.cons_append, List.nil_append, List.append_nil, List.length_cons, List.length_nil, List.replicate, Nat.reduceAdd, Nat.reduceSub, Nat.zero_add, List.getElem?_cons_zero, List.getElem?_cons_succ, List.set_cons_zero, List.set_cons_succ,
    Option.some.injEq, exists_eq_left', exists_eq_left, V.int.injEq, V.bl.injEq, V.ref.injEq, V.str.injEq, List.cons.injEq, reduceCtorEq, and_true, true_and, false_and, and_false, exists_false, or_false, false_or, or_true, true_or, exists_const, CMul, CDiv, CPow, and_assoc, exists_and_left, exists_and_right, Int.reducePow, Int.reduceNeg, Int.reduceLT, Int.reduceLE, Nat.reducePow, Nat.reduceLT, Int.reduceToNat, gt_iff_lt, ge_iff_le, decide_eq_true_eq, Bool.not_eq_true', decide_eq_false_iff_not, scal, ↓reduceIte, Bool.false_eq_true]; simpa using q)
def spFraction (K : PySem.W.Frag) : Sp := fun vs H Q _ => ∃ n d : Int, vs = [.int n, .int d] ∧ d ≠ 0 ∧ d.natAbs < 2 ^ 8000 ∧ ∀ q, Is q n d → Gv K H Q q
theorem gcdX {n d : Int} (h0 : d ≠ 0) (hz : d.natAbs < 2 ^ 8000) (x : Int) : CDivX x (if d < 0 then -((Int.gcd n d : Nat) : Int) else (Int.gcd n d : Nat)) := by
  have g0 := gcd_pos (t := n) (b := d) h0
  have g1 := gcd_le (t := n) (b := d) h0
  have e : 2 ^ 8000 ≤ 2 ^ 8999 := Nat.pow_le_pow_right (by omega) (by omega)
  unfold CDivX
  split <;> refine ⟨by omega, by omega⟩
def frOk (K : PySem.W.Frag) (H : Hp) : V → Bool
  | .ref a => match ob K H a with
    | some (.tup [.int n, .int d]) => decide (1 ≤ d) && decide (Int.gcd n d = 1)
    | _ => false
  | _ => false
theorem frOk_fr {H : Hp} {a : Addr} {q : Qt} (h : ob K H a = some (frt q)) (hn : Nf q) : frOk K H (.ref a) = true := by
  simp only [frOk, h, frt]
  show (decide (1 ≤ q.2) && decide (Int.gcd q.1 q.2 = 1)) = true
  rw [decide_eq_true hn.1, decide_eq_true hn.2]
  rfl
/-- v and, if it is a tuple, its items are of known kinds -/
def Tyd (K : PySem.W.Frag) (H : Hp) (v : V) : Prop := (tyN K H v).isSome ∧ ∀ a xs, v = .ref a → ob K H a = some (.tup xs) → ∀ x ∈ xs, (tyN K H x).isSome
theorem Tyd.fr {H : Hp} {a : Addr} {q : Qt} (h : ob K H a = some (frt q)) : Tyd K H (.ref a) := by
  refine ⟨by rw [tyN_ref, h]; rfl, fun b xs e hx x hm => ?_⟩
  cases e
  rw [h] at hx
  cases hx
  simp only [List.mem_cons, List.not_mem_nil, or_false] at hm
  rcases hm with rfl | rfl <;> rfl
theorem tyN_tuple {H : Hp} {v : V} (h : tyN K H v = some "tuple") : ∃ a xs, v = .ref a ∧ ob K H a = some (.tup xs) := by
  cases v with
  | ref a =>
    have h1 : tyO (ob K H a) = some "tuple" := h
    unfold tyO at h1
    split at h1 <;> first | exact ⟨a, _, rfl, by assumption⟩ | (exfalso; revert h1; decide)
  | _ => exfalso; revert h; simp only [tyN]; decide
def spIsFraction (K : PySem.W.Frag) : Sp := fun vs H Q _ => ∃ v, vs = [v] ∧ Tyd K H v ∧ Q (.bl (frOk K H v)) H
end
end My

namespace My
open PySem PySem.Spec PyProof.Rows L2
section
variable {P : Program} {w : World} {K : PySem.W.Frag} {mg : Str → Option Value} {base : Heap}
theorem nf_part {q : Qt} (h : Nf q) : Nf (q.1 % q.2, q.2) := by
  refine ⟨h.1, ?_⟩
  show Int.gcd (q.1 % q.2) q.2 = 1
  have e : q.1 % q.2 = q.1 + (-(q.1 / q.2)) * q.2 := by
    have := Int.emod_add_mul_ediv q.1 q.2
    rw [Int.neg_mul, Int.mul_comm]
    omega
  rw [e, Int.gcd_add_mul_right_left]
  exact h.2
theorem nf_abs {q : Qt} (h : Nf q) : Nf ((q.1.natAbs : Int), q.2) := ⟨h.1, by
  show Int.gcd (q.1.natAbs : Int) q.2 = 1
  rw [← h.2]
  rfl⟩
theorem nf_neg {q : Qt} (h : Nf q) : Nf (-q.1, q.2) := ⟨h.1, by
  show Int.gcd (-q.1) q.2 = 1
  rw [Int.neg_gcd]
  exact h.2⟩
def off (q : Qt) : Qt := (if q.2 < 2 * (q.1 % q.2) then q.1 % q.2 - q.2 else q.1 % q.2, q.2)
theorem nf_off {q : Qt} (h : Nf q) : Nf (off q) := by
  have k := nf_part h
  unfold off
  split
  · refine ⟨h.1, ?_⟩
    show Int.gcd (q.1 % q.2 - q.2) q.2 = 1
    rw [show q.1 % q.2 - q.2 = q.1 % q.2 + (-1) * q.2 by omega, Int.gcd_add_mul_right_left]
    exact k.2
  · exact k
theorem is_self {q : Qt} (h : Nf q) : Is q q.1 q.2 := ⟨h, rfl⟩
def sum2 (p q : Qt) (z : Qt) : Prop := Is z (p.1 * q.2 + q.1 * p.2) (p.2 * q.2)
theorem Nf.ne {q : Qt} (h : Nf q) : q.2 ≠ 0 := by have := h.1; omega
theorem mul_ne {a b : Int} (h1 : 1 ≤ a) (h2 : 1 ≤ b) : a * b ≠ 0 := Int.mul_ne_zero (by omega) (by omega)
theorem szPart {q : Qt} {k : Nat} (h : Nf q) (hz : Sz k q) : Sz k (q.1 % q.2, q.2) := by
  refine ⟨?_, hz.2⟩
  have h1 := Int.emod_nonneg q.1 h.ne
  have h2 := Int.emod_lt_of_pos q.1 (show 0 < q.2 by have := h.1; omega)
  have := hz.2
  show (q.1 % q.2).natAbs < 2 ^ k
  omega
theorem szOff {q : Qt} {k : Nat} (h : Nf q) (hz : Sz k q) : Sz k (off q) := by
  have h1 := Int.emod_nonneg q.1 h.ne
  have h2 := Int.emod_lt_of_pos q.1 (show 0 < q.2 by have := h.1; omega)
  have h3 := hz.2
  have h4 := h.1
  unfold off
  refine ⟨?_, h3⟩
  show (if q.2 < 2 * (q.1 % q.2) then q.1 % q.2 - q.2 else q.1 % q.2).natAbs < 2 ^ k
  split <;> omega
/-- a fraction at a, in lowest terms, of a bounded size -/
structure Fq (K : PySem.W.Frag) (H : Hp) (k : Nat) (a : Addr) (q : Qt) : Prop where
  o : ob K H a = some (.tup [.int q.1, .int q.2])
  nf : Nf q
  sz : Sz k q
theorem Fq.same {H H' : Hp} {k : Nat} {a : Addr} {q : Qt} (h : Fq K H k a q) (s : Same H H') : Fq K H' k a q := ⟨ob_same s h.o, h.nf, h.sz⟩
theorem Fq.kp {H H' : Hp} {k : Nat} {a s : Addr} {q : Qt} {ys : List V} (h : Fq K H k a q) (e : Kp s H H') (hs : H s = some (.lst ys)) : Fq K H' k a q := ⟨ob_kp e hs (fun _ z => by cases z) h.o, h.nf, h.sz⟩
theorem Fq.mono {H : Hp} {j k : Nat} {a : Addr} {q : Qt} (h : Fq K H j a q) (l : j ≤ k) : Fq K H k a q := ⟨h.o, h.nf, h.sz.mono l⟩
def spBin (K : PySem.W.Frag) (R : Qt → Qt → Qt → Prop) : Sp := fun vs H Q _ => ∃ (a b : Addr) (p q : Qt), vs = [.ref a, .ref b] ∧ Fq K H 3000 a p ∧ Fq K H 3000 b q ∧ ∀ z, R p q z → Gv K H Q z
def spUn (K : PySem.W.Frag) (g : Qt → Qt) : Sp := fun vs H Q _ => ∃ (a : Addr) (q : Qt), vs = [.ref a] ∧ Fq K H 8000 a q ∧ Gv K H Q (g q)
def spFloor (K : PySem.W.Frag) : Sp := fun vs H Q _ => ∃ (a : Addr) (q : Qt), vs = [.ref a] ∧ Fq K H 8000 a q ∧ Q (.int (q.1 / q.2)) H
def spLFrac (K : PySem.W.Frag) : Sp := fun vs H Q _ => ∃ (a : Addr) (q : Qt), vs = [.ref a] ∧ Fq K H 8000 a q ∧ Q (.bl true) H
def dif2 (p q : Qt) (z : Qt) : Prop := Is z (p.1 * q.2 - q.1 * p.2) (p.2 * q.2)
def pro2 (p q : Qt) (z : Qt) : Prop := Is z (p.1 * q.1) (p.2 * q.2)
def quo2 (p q : Qt) (z : Qt) : Prop := Is z (p.1 * q.2) (p.2 * q.1)
def cmp2 (p q : Qt) : Int := if p.1 * q.2 = q.1 * p.2 then 0 else if p.1 * q.2 < q.1 * p.2 then -1 else 1
def spQuo (K : PySem.W.Frag) : Sp := fun vs H Q _ => ∃ (a b : Addr) (p q : Qt), vs = [.ref a, .ref b] ∧ Fq K H 3000 a p ∧ Fq K H 3000 b q ∧ q.1 ≠ 0 ∧ ∀ z, quo2 p q z → Gv K H Q z
def spCmp (K : PySem.W.Frag) : Sp := fun vs H Q _ => ∃ (a b : Addr) (p q : Qt), vs = [.ref a, .ref b] ∧ Fq K H 3000 a p ∧ Fq K H 3000 b q ∧ Q (.int (cmp2 p q)) H
def spQuot (K : PySem.W.Frag) : Sp := fun vs H Q _ => ∃ (a : Addr) (z : Qt) (t b : Int), vs = [.ref a, .int t, .int b] ∧ Fq K H 3000 a z ∧ Is z t b ∧ t.natAbs < 2 ^ 3000 ∧ b.natAbs < 2 ^ 3000 ∧ Q (.bl true) H
def spLFracs (K : PySem.W.Frag) : Sp := fun vs H Q _ => ∃ (l : Addr) (xs : List V), vs = [.ref l] ∧ H l = some (.lst xs) ∧ K.lookup l = none ∧ (∀ x ∈ xs, ∃ a q, x = .ref a ∧ Fq K H 8000 a q) ∧ Q (.bl true) H
def FracsI (l : Addr) (H : Hp) (_ : Nat) (σ : L2.St) (H' : Hp) : Prop := ∃ y, σ = [some (.ref l), y] ∧ H' = H
def spLeaves (K : PySem.W.Frag) : Sp := fun vs H Q _ => ∃ (a b : Addr) (p q : Qt), vs = [.ref a, .ref b] ∧ Fq K H 8000 a p ∧ Fq K H 8000 b q ∧ Q (.bl (decide (q.2 = p.2) && decide ((p.1 - q.1) % p.2 = 0))) H
theorem frOk_inv {H : Hp} {v : V} (h : frOk K H v = true) : ∃ a q, v = .ref a ∧ ob K H a = some (.tup [.int q.1, .int q.2]) ∧ Nf q := by
  cases v with
  | ref a =>
    simp only [frOk] at h
    split at h
    · rename_i n d hz
      simp only [Bool.and_eq_true, decide_eq_true_eq] at h
      exact ⟨_, (n, d), rfl, hz, h.1, h.2⟩
    · cases h
  | _ => cases h
/-- a place: a fraction of 0 or more, less than 1 -/
def plOk (K : PySem.W.Frag) (H : Hp) (v : V) : Bool := frOk K H v && match v with
  | .ref a => match ob K H a with
    | some (.tup [.int n, .int d]) => decide (0 ≤ n) && decide (n < d)
    | _ => false
  | _ => false
theorem plOk_no {H : Hp} {v : V} (h : frOk K H v = false) : plOk K H v = false := by unfold plOk; rw [h]; rfl
theorem plOk_fr {H : Hp} {a : Addr} {q : Qt} (h : ob K H a = some (.tup [.int q.1, .int q.2])) (hn : Nf q) : plOk K H (.ref a) = (decide (0 ≤ q.1) && decide (q.1 < q.2)) := by
  have e := frOk_fr (K := K) h hn
  unfold plOk
  rw [e]
  simp only [h, Bool.true_and]
def spIsPlace (K : PySem.W.Frag) : Sp := fun vs H Q _ => ∃ v, vs = [v] ∧ Tyd K H v ∧ Q (.bl (plOk K H v)) H
def spLPlace (K : PySem.W.Frag) : Sp := fun vs H Q _ => ∃ (a : Addr) (q : Qt), vs = [.ref a] ∧ Fq K H 8000 a q ∧ 0 ≤ q.1 ∧ q.1 < q.2 ∧ Q (.bl true) H
end
end My

namespace My
open PySem PySem.Spec PyProof.Rows L2
section
variable {P : Program} {w : World} {K : PySem.W.Frag} {mg : Str → Option Value} {base : Heap}
/-- an int that the draws gave; all but the store stands -/
def spPick (K : PySem.W.Frag) : Sp := fun vs H Q _ => ∃ (s r : Addr) (xs : List V), vs = [.ref s, .ref r] ∧ Sto K H s ∧ H r = some (.lst xs) ∧ s ≠ r ∧ 0 < xs.length ∧ xs.length < 1000 ∧ ∀ x H', x ∈ xs → Kp s H H' → Sto K H' s → Q x H'
theorem at_mem {α : Type} {xs : List α} {i : Int} (h0 : 0 ≤ i) (h : i < (xs.length : Int)) : ∃ v ∈ xs, atI xs i = some v := by
  have hk : i.toNat < xs.length := by omega
  have q : atI xs ((i.toNat : Nat) : Int) = some xs[i.toNat] := atI_nat (List.getElem?_eq_getElem hk)
  rw [show ((i.toNat : Nat) : Int) = i by omega] at q
  exact ⟨_, List.getElem_mem hk, q⟩
theorem Sto.at {H : Hp} {s : Addr} (h : Sto K H s) : ∃ ys, H s = some (.lst ys) := by
  obtain ⟨sc, ns, i, b, c, d, e, f, h⟩ := h
  exact ⟨_, h.1⟩
theorem Kp.at {s : Addr} {H H' : Hp} {r : Addr} {o : HO} (e : Kp s H H') (n : s ≠ r) (h : H r = some o) : H' r = some o := e _ _ (Ne.symm n) h
abbrev sPick : Stmt := topS 27
theorem scPick : FnScope ["_law_store_here", "_law_row"] ["_law_store_here", "_law_row"] (defScope sPick) := ⟨rfl, rfl, rfl, by decide +kernel, rfl, by decide +kernel, by decide +kernel⟩
theorem k_Pick (T : Bt K mg) (D : Dfn K mg "_law_pick" sPick ["_law_store_here", "_law_row"]) (d__law_take : Kn P w K mg base 2 "_law_take" ["_law_store_here", "_law_many"] (spTake K)) : Kn P w K mg base 3 "_law_pick" ["_law_store_here", "_law_row"] (spPick K) := by
  refine Kn.mk' D scPick (fun vs H Q E h => ?_) (fun f cdv A outer s H vs Q E hr h => ?_)
  · obtain ⟨s, r, xs, rfl, _⟩ := h
    rfl
  obtain ⟨s, r, xs, rfl, hS, hr', ne, hl0, hl1, k⟩ := h
  refine ⟨_, (pss_one (ps_ret (pe_ix ix_list (pv 1) (pe_kn d__law_take hr (by rfl) (pa_cons (pv 0) (pa_cons (pe_callB call_len_seq (by rfl) T.b_len PySem.boot_len (pa_cons (pv 1) pa_nil)) pa_nil))) (fun _ _ => rfl)))), ?_⟩
  simp only [cx_K, decide_true, decide_false, reduceCtorEq, gTp, gCons, gNil, ca_0, ca_1, ca_2, ca_3, ca_4, ca_5, ca_6, ca_7, ca_8, ca_9, ca_10, ca_11, ca_12, ca_13, ca_14, ca_15, ca_16, ca_17, ca_18, ca_19, ca_20, ca_21, ca_22, ca_23, ca_24, ca_25, ca_26, ca_27, ca_28, ca_29, ca_30, not_true_eq_false, not_false_eq_true, Int.reduceEq, Nat.reduceEqDiff, Nat.reduceLeDiff, rGcd, V.ty.injEq, eq_self, List.not_mem_nil, beq_self_eq_true, HO.lst.injEq, HO.tup.injEq, tFor_eq, iRng1, iList, iTup, nat10, tSeq, rIxA, rSetA, rIsN, rIsT, tTp, tLs, itsO_tup, itsO_lst, tyO_tup, tyO_lst, tyO_dK, tyN_non, tyN_bl, tyN_int, tyN_str, tyN_ref, tyNs_lt, isB, upd_same, upd_upd, sizeLine_eq, List.mem_cons, String.reduceBEq, String.reduceEq, Bool.or_false, Bool.or_true, Bool.and_false, Bool.false_or, Bool.and_self, Bool.false_and, Bool.not_false, Bool.not_true, List.any_cons, List.any_nil, atI_0, setI_0, atI_1, setI_1, atI_2, setI_2, atI_3, setI_3, atI_4, setI_4, atI_5, setI_5, atI_6, setI_6, tAsg, gName, tOp, tUn, tVar, tC, tCons, L2.tNil, tRet, tIfS, tTest, tCB, tCall, rI, rI0, rU, tNext, tB, tAnd, tOr, tNot, tAndV, tOrV, tNotV, tDrop, tIf, tPar, gSub, rIxL, rIxT, rEq, rNe, rSetL, tBits,
    L2.start, List.map_cons, List.map_nil, List.cons_append, List.nil_append, List.append_nil, List.length_cons, List.length_nil, List.replicate, Nat.reduceAdd, Nat.reduceSub, Nat.zero_add, List.getElem?_cons_zero, List.getElem?_cons_succ, List.set_cons_zero, List.set_cons_succ,
    Option.some.injEq, exists_eq_left', exists_eq_left, V.int.injEq, V.bl.injEq, V.ref.injEq, V.str.injEq, List.cons.injEq, reduceCtorEq, and_true, true_and, false_and, and_false, exists_false, or_false, false_or, or_true, true_or, exists_const, CMul, CDiv, CPow, and_assoc, exists_and_left, exists_and_right, Int.reducePow, Int.reduceNeg, Int.reduceLT, Int.reduceLE, Nat.reducePow, Nat.reduceLT, Int.reduceToNat, gt_iff_lt, ge_iff_le, decide_eq_true_eq, Bool.not_eq_true', decide_eq_false_iff_not, scal, ↓reduceIte, Bool.false_eq_true]
  refine ⟨xs, .inl (.of hr'), s, _, rfl, hS, by omega, fun i H' h0 h1 kp st => ?_⟩
  obtain ⟨v, hv, e⟩ := at_mem (xs := xs) (i := i) h0 (by omega)
  exact ⟨xs, i, rfl, .of (kp.at ne hr'), v, e, k v H' hv kp st⟩
def spInt (K : PySem.W.Frag) (R : Int → Prop) : Sp := fun vs H Q _ => ∃ (s : Addr), vs = [.ref s] ∧ Sto K H s ∧ ∀ n H', R n → Kp s H H' → Sto K H' s → Q (.int n) H'
def spLInt (K : PySem.W.Frag) : Sp := fun vs H Q _ => ∃ (s : Addr) (r : Int), vs = [.ref s, .int r] ∧ Sto K H s ∧ 1 ≤ r ∧ r < 2 ^ 190 ∧ ∀ n H', -r ≤ n → n ≤ r → Kp s H H' → Sto K H' s → Q (.int n) H'
theorem menu {xs : List V} {i : Int} {R : V → Prop} (h0 : 0 ≤ i) (h : i < (xs.length : Int)) (k : ∀ v ∈ xs, R v) : ∃ v, atI xs i = some v ∧ R v := by
  obtain ⟨v, hv, e⟩ := at_mem h0 h
  exact ⟨v, e, k v hv⟩
abbrev sLInt : Stmt := topS 32
theorem scLInt : FnScope ["_law_store_here", "_law_reach", "_law_spot"] ["_law_store_here", "_law_reach"] (defScope sLInt) := ⟨rfl, rfl, rfl, by decide +kernel, rfl, by decide +kernel, by decide +kernel⟩
theorem k_LInt (T : Bt K mg) (D : Dfn K mg "_law_whole" sLInt ["_law_store_here", "_law_reach"]) (d__law_take : Kn P w K mg base 2 "_law_take" ["_law_store_here", "_law_many"] (spTake K)) : Kn P w K mg base 3 "_law_whole" ["_law_store_here", "_law_reach"] (spLInt K) := by
  refine Kn.mk' D scLInt (fun vs H Q E h => ?_) (fun f cdv A outer s H vs Q E hr h => ?_)
  · obtain ⟨s, r, rfl, _⟩ := h
    rfl
  obtain ⟨s, r, rfl, hS, hr1, hr2, k⟩ := h
  refine ⟨_, (pss_cons (ps_set (i := 2) scLInt.nd rfl (.inl rfl) (pe_kn d__law_take hr (by rfl) (pa_cons (pv 0) (pa_cons pe_int pa_nil))))
      (pss_cons (ps_if (pt_cmpR op_lt (pv 2) pe_int (nomark _)) (pss_one (ps_ret (pe_ix ix_any (pe_ls (pa_cons pe_int (pa_cons (pe_callB (call_min2 rfl) (by rfl) T.b_min (by decide +kernel) (pa_cons pe_int (pa_cons (pv 1) pa_nil))) (pa_cons (pe_un un_neg (pe_callB (call_min2 rfl) (by rfl) T.b_min (by decide +kernel) (pa_cons pe_int (pa_cons (pv 1) pa_nil)))) (pa_cons (pv 1) (pa_cons (pe_un un_neg (pv 1)) pa_nil)))))) (pv 2) (fun _ _ => rfl)))) pss_nil)
      (pss_one (ps_ret (pe_op op_sub (pe_kn d__law_take hr (by rfl) (pa_cons (pv 0) (pa_cons (pe_op op_add (pe_op op_mul pe_int (pv 1)) pe_int) pa_nil))) (pv 1)))))), ?_⟩
  simp only [cx_K, decide_true, decide_false, reduceCtorEq, gTp, gCons, gNil, ca_0, ca_1, ca_2, ca_3, ca_4, ca_5, ca_6, ca_7, ca_8, ca_9, ca_10, ca_11, ca_12, ca_13, ca_14, ca_15, ca_16, ca_17, ca_18, ca_19, ca_20, ca_21, ca_22, ca_23, ca_24, ca_25, ca_26, ca_27, ca_28, ca_29, ca_30, not_true_eq_false, not_false_eq_true, Int.reduceEq, Nat.reduceEqDiff, Nat.reduceLeDiff, rGcd, V.ty.injEq, eq_self, List.not_mem_nil, beq_self_eq_true, HO.lst.injEq, HO.tup.injEq, tFor_eq, iRng1, iList, iTup, nat10, tSeq, rIxA, rSetA, rIsN, rIsT, tTp, tLs, itsO_tup, itsO_lst, tyO_tup, tyO_lst, tyO_dK, tyN_non, tyN_bl, tyN_int, tyN_str, tyN_ref, tyNs_lt, isB, upd_same, upd_upd, sizeLine_eq, List.mem_cons, String.reduceBEq, String.reduceEq, Bool.or_false, Bool.or_true, Bool.and_false, Bool.false_or, Bool.and_self, Bool.false_and, Bool.not_false, Bool.not_true, List.any_cons, List.any_nil, atI_0, setI_0, atI_1, setI_1, atI_2, setI_2, atI_3, setI_3, atI_4, setI_4, atI_5, setI_5, atI_6, setI_6, tAsg, gName, tOp, tUn, tVar, tC, tCons, L2.tNil, tRet, tIfS, tTest, tCB, tCall, rI, rI0, rU, tNext, tB, tAnd, tOr, tNot, tAndV, tOrV, tNotV, tDrop, tIf, tPar, gSub, rIxL, rIxT, rEq, rNe, rSetL, tBits,
    L2.start, List.map_cons, List.map_nil, List.cons_append, List.nil_append, List.append_nil, List.length_cons, List.length_nil, List.replicate, Nat.reduceAdd, Nat.reduceSub, Nat.zero_add, List.getElem?_cons_zero, List.getElem?_cons_succ, List.set_cons_zero, List.set_cons_succ,
    Option.some.injEq, exists_eq_left', exists_eq_left, V.int.injEq, V.bl.injEq, V.ref.injEq, V.str.injEq, List.cons.injEq, reduceCtorEq, and_true, true_and, false_and, and_false, exists_false, or_false, false_or, or_true, true_or, exists_const, CMul, CDiv, CPow, and_assoc, exists_and_left, exists_and_right, Int.reducePow, Int.reduceNeg, Int.reduceLT, Int.reduceLE, Nat.reducePow, Nat.reduceLT, Int.reduceToNat, gt_iff_lt, ge_iff_le, decide_eq_true_eq, Bool.not_eq_true', decide_eq_false_iff_not, scal, ↓reduceIte, Bool.false_eq_true]
  refine ⟨s, 12, rfl, hS, by omega, fun i H1 h0 h1 kp st => ?_⟩
  simp only [cx_K, decide_true, decide_false, reduceCtorEq, gTp, gCons, gNil, ca_0, ca_1, ca_2, ca_3, ca_4, ca_5, ca_6, ca_7, ca_8, ca_9, ca_10, ca_11, ca_12, ca_13, ca_14, ca_15, ca_16, ca_17, ca_18, ca_19, ca_20, ca_21, ca_22, ca_23, ca_24, ca_25, ca_26, ca_27, ca_28, ca_29, ca_30, not_true_eq_false, not_false_eq_true, Int.reduceEq, Nat.reduceEqDiff, Nat.reduceLeDiff, rGcd, V.ty.injEq, eq_self, List.not_mem_nil, beq_self_eq_true, HO.lst.injEq, HO.tup.injEq, tFor_eq, iRng1, iList, iTup, nat10, tSeq, rIxA, rSetA, rIsN, rIsT, tTp, tLs, itsO_tup, itsO_lst, tyO_tup, tyO_lst, tyO_dK, tyN_non, tyN_bl, tyN_int, tyN_str, tyN_ref, tyNs_lt, isB, upd_same, upd_upd, sizeLine_eq, List.mem_cons, String.reduceBEq, String.reduceEq, Bool.or_false, Bool.or_true, Bool.and_false, Bool.false_or, Bool.and_self, Bool.false_and, Bool.not_false, Bool.not_true, List.any_cons, List.any_nil, atI_0, setI_0, atI_1, setI_1, atI_2, setI_2, atI_3, setI_3, atI_4, setI_4, atI_5, setI_5, atI_6, setI_6, tAsg, gName, tOp, tUn, tVar, tC, tCons, L2.tNil, tRet, tIfS, tTest, tCB, tCall, rI, rI0, rU, tNext, tB, tAnd, tOr, tNot, tAndV, tOrV, tNotV, tDrop, tIf, tPar, gSub, rIxL, rIxT, rEq, rNe, rSetL, tBits,
    L2.start, List.map_cons, List.map_nil, List.cons_append, List.nil_append, List.append_nil, List.length_cons, List.length_nil, List.replicate, Nat.reduceAdd, Nat.reduceSub, Nat.zero_add, List.getElem?_cons_zero, List.getElem?_cons_succ, List.set_cons_zero, List.set_cons_succ,
    Option.some.injEq, exists_eq_left', exists_eq_left, V.int.injEq, V.bl.injEq, V.ref.injEq, V.str.injEq, List.cons.injEq, reduceCtorEq, and_true, true_and, false_and, and_false, exists_false, or_false, false_or, or_true, true_or, exists_const, CMul, CDiv, CPow, and_assoc, exists_and_left, exists_and_right, Int.reducePow, Int.reduceNeg, Int.reduceLT, Int.reduceLE, Nat.reducePow, Nat.reduceLT, Int.reduceToNat, gt_iff_lt, ge_iff_le, decide_eq_true_eq, Bool.not_eq_true', decide_eq_false_iff_not, scal, ↓reduceIte, Bool.false_eq_true]
  refine ite2 (fun h => ?_) (fun h => ?_)
  · intro p hp kp'
    rw [ob_new kp']
    simp only [cx_K, decide_true, decide_false, reduceCtorEq, gTp, gCons, gNil, ca_0, ca_1, ca_2, ca_3, ca_4, ca_5, ca_6, ca_7, ca_8, ca_9, ca_10, ca_11, ca_12, ca_13, ca_14, ca_15, ca_16, ca_17, ca_18, ca_19, ca_20, ca_21, ca_22, ca_23, ca_24, ca_25, ca_26, ca_27, ca_28, ca_29, ca_30, not_true_eq_false, not_false_eq_true, Int.reduceEq, Nat.reduceEqDiff, Nat.reduceLeDiff, rGcd, V.ty.injEq, eq_self, List.not_mem_nil, beq_self_eq_true, HO.lst.injEq, HO.tup.injEq, tFor_eq, iRng1, iList, iTup, nat10, tSeq, rIxA, rSetA, rIsN, rIsT, tTp, tLs, itsO_tup, itsO_lst, tyO_tup, tyO_lst, tyO_dK, tyN_non, tyN_bl, tyN_int, tyN_str, tyN_ref, tyNs_lt, isB, upd_same, upd_upd, sizeLine_eq, List.mem_cons, String.reduceBEq, String.reduceEq, Bool.or_false, Bool.or_true, Bool.and_false, Bool.false_or, Bool.and_self, Bool.false_and, Bool.not_false, Bool.not_true, List.any_cons, List.any_nil, atI_0, setI_0, atI_1, setI_1, atI_2, setI_2, atI_3, setI_3, atI_4, setI_4, atI_5, setI_5, atI_6, setI_6, tAsg, gName, tOp, tUn, tVar, tC, tCons, L2.tNil, tRet, tIfS, tTest, tCB, tCall, rI, rI0, rU, tNext, tB, tAnd, tOr, tNot, tAndV, tOrV, tNotV, tDrop, tIf, tPar, gSub, rIxL, rIxT, rEq, rNe, rSetL, tBits,
    L2.start, List.map_cons, List.map_nil, List.cons_append, List.nil_append, List.append_nil, List.length_cons, List.length_nil, List.replicate, Nat.reduceAdd, Nat.reduceSub, Nat.zero_add, List.getElem?_cons_zero, List.getElem?_cons_succ, List.set_cons_zero, List.set_cons_succ,
    Option.some.injEq, exists_eq_left', exists_eq_left, V.int.injEq, V.bl.injEq, V.ref.injEq, V.str.injEq, List.cons.injEq, reduceCtorEq, and_true, true_and, false_and, and_false, exists_false, or_false, false_or, or_true, true_or, exists_const, CMul, CDiv, CPow, and_assoc, exists_and_left, exists_and_right, Int.reducePow, Int.reduceNeg, Int.reduceLT, Int.reduceLE, Nat.reducePow, Nat.reduceLT, Int.reduceToNat, gt_iff_lt, ge_iff_le, decide_eq_true_eq, Bool.not_eq_true', decide_eq_false_iff_not, scal, ↓reduceIte, Bool.false_eq_true]
    refine menu h0 (by simpa using h) fun v hv => ?_
    rw [if_neg (show ¬ r < 1 by omega)] at hv ⊢
    simp only [List.mem_cons, List.not_mem_nil, or_false] at hv
    rcases hv with rfl | rfl | rfl | rfl | rfl <;> exact k _ _ (by omega) (by omega) (kp.trans (Kp.same (Same.new hp _))) (st.same (Same.new hp _))
  · refine ⟨s, _, rfl, st, by omega, fun j H2 h0' h1' kp2 st2 => ?_⟩
    simp only [cx_K, decide_true, decide_false, reduceCtorEq, gTp, gCons, gNil, ca_0, ca_1, ca_2, ca_3, ca_4, ca_5, ca_6, ca_7, ca_8, ca_9, ca_10, ca_11, ca_12, ca_13, ca_14, ca_15, ca_16, ca_17, ca_18, ca_19, ca_20, ca_21, ca_22, ca_23, ca_24, ca_25, ca_26, ca_27, ca_28, ca_29, ca_30, not_true_eq_false, not_false_eq_true, Int.reduceEq, Nat.reduceEqDiff, Nat.reduceLeDiff, rGcd, V.ty.injEq, eq_self, List.not_mem_nil, beq_self_eq_true, HO.lst.injEq, HO.tup.injEq, tFor_eq, iRng1, iList, iTup, nat10, tSeq, rIxA, rSetA, rIsN, rIsT, tTp, tLs, itsO_tup, itsO_lst, tyO_tup, tyO_lst, tyO_dK, tyN_non, tyN_bl, tyN_int, tyN_str, tyN_ref, tyNs_lt, isB, upd_same, upd_upd, sizeLine_eq, List.mem_cons, String.reduceBEq, String.reduceEq, Bool.or_false, Bool.or_true, Bool.and_false, Bool.false_or, Bool.and_self, Bool.false_and, Bool.not_false, Bool.not_true, List.any_cons, List.any_nil, atI_0, setI_0, atI_1, setI_1, atI_2, setI_2, atI_3, setI_3, atI_4, setI_4, atI_5, setI_5, atI_6, setI_6, tAsg, gName, tOp, tUn, tVar, tC, tCons, L2.tNil, tRet, tIfS, tTest, tCB, tCall, rI, rI0, rU, tNext, tB, tAnd, tOr, tNot, tAndV, tOrV, tNotV, tDrop, tIf, tPar, gSub, rIxL, rIxT, rEq, rNe, rSetL, tBits,
    L2.start, List.map_cons, List.map_nil, List.cons_append, List.nil_append, List.append_nil, List.length_cons, List.length_nil, List.replicate, Nat.reduceAdd, Nat.reduceSub, Nat.zero_add, List.getElem?_cons_zero, List.getElem?_cons_succ, List.set_cons_zero, List.set_cons_succ,
    Option.some.injEq, exists_eq_left', exists_eq_left, V.int.injEq, V.bl.injEq, V.ref.injEq, V.str.injEq, List.cons.injEq, reduceCtorEq, and_true, true_and, false_and, and_false, exists_false, or_false, false_or, or_true, true_or, exists_const, CMul, CDiv, CPow, and_assoc, exists_and_left, exists_and_right, Int.reducePow, Int.reduceNeg, Int.reduceLT, Int.reduceLE, Nat.reducePow, Nat.reduceLT, Int.reduceToNat, gt_iff_lt, ge_iff_le, decide_eq_true_eq, Bool.not_eq_true', decide_eq_false_iff_not, scal, ↓reduceIte, Bool.false_eq_true]
    exact k _ _ (by omega) (by omega) (kp.trans kp2) st2
def GreatI (s : Addr) (spot : Int) (H1 : Hp) (_ : Nat) (σ : L2.St) (H' : Hp) : Prop := ∃ v y, σ = [some (.ref s), some (.int spot), some (.int v), y] ∧ H' = H1 ∧ 0 ≤ v ∧ v < 2 ^ 133
abbrev sGreat : Stmt := topS 33
theorem scGreat : FnScope ["_law_store_here", "_law_spot", "_law_value", "_law_k"] ["_law_store_here"] (defScope sGreat) := ⟨rfl, rfl, rfl, by decide +kernel, rfl, by decide +kernel, by decide +kernel⟩
theorem k_Great (T : Bt K mg) (D : Dfn K mg "_law_great" sGreat ["_law_store_here"]) (d__law_take : Kn P w K mg base 2 "_law_take" ["_law_store_here", "_law_many"] (spTake K)) : Kn P w K mg base 3 "_law_great" ["_law_store_here"] (spInt K fun n => n.natAbs < 2 ^ 133) := by
  refine Kn.mk' D scGreat (fun vs H Q E h => ?_) (fun f cdv A outer s H vs Q E hr h => ?_)
  · obtain ⟨s, rfl, _⟩ := h
    rfl
  obtain ⟨s, rfl, hS, k⟩ := h
  refine ⟨_, (pss_cons (ps_set (i := 1) scGreat.nd rfl (.inl rfl) (pe_kn d__law_take hr (by rfl) (pa_cons (pv 0) (pa_cons pe_int pa_nil))))
      (pss_cons (ps_if (pt_cmpR op_lt (pv 1) pe_int (nomark _)) (pss_one (ps_ret (pe_ix ix_any (pe_ls (pa_cons (pe_op op_sub (pe_op op_pow pe_int pe_int) pe_int) (pa_cons (pe_op op_sub pe_int (pe_op op_pow pe_int pe_int)) (pa_cons (pe_op op_pow pe_int pe_int) (pa_cons pe_int pa_nil))))) (pv 1) (fun _ _ => rfl)))) pss_nil)
      (pss_cons (ps_set (i := 2) scGreat.nd rfl (.inl rfl) (pe_kn d__law_take hr (by rfl) (pa_cons (pv 0) (pa_cons (pe_op op_pow pe_int pe_int) pa_nil))))
      (pss_cons (ps_for PassesOwn.never rfl (pi_range1 (by rfl) T.b_range (pa_cons (pe_kn d__law_take hr (by rfl) (pa_cons (pv 0) (pa_cons pe_int pa_nil))) pa_nil)) (pg_name (i := 3) scGreat.nd rfl (.inl rfl)) (pss_one (ps_set (i := 2) scGreat.nd rfl (.inl rfl) (pe_op op_fdiv (pv 2) pe_int))))
      (pss_cons (ps_if (pt_cmpR op_eq (pe_op op_mod (pv 1) pe_int) pe_int (nomark _)) (pss_one (ps_ret (pe_un un_neg (pv 2)))) pss_nil)
      (pss_one (ps_ret (pv 2)))))))), ?_⟩
  simp only [cx_K, decide_true, decide_false, reduceCtorEq, gTp, gCons, gNil, ca_0, ca_1, ca_2, ca_3, ca_4, ca_5, ca_6, ca_7, ca_8, ca_9, ca_10, ca_11, ca_12, ca_13, ca_14, ca_15, ca_16, ca_17, ca_18, ca_19, ca_20, ca_21, ca_22, ca_23, ca_24, ca_25, ca_26, ca_27, ca_28, ca_29, ca_30, not_true_eq_false, not_false_eq_true, Int.reduceEq, Nat.reduceEqDiff, Nat.reduceLeDiff, rGcd, V.ty.injEq, eq_self, List.not_mem_nil, beq_self_eq_true, HO.lst.injEq, HO.tup.injEq, tFor_eq, iRng1, iList, iTup, nat10, tSeq, rIxA, rSetA, rIsN, rIsT, tTp, tLs, itsO_tup, itsO_lst, tyO_tup, tyO_lst, tyO_dK, tyN_non, tyN_bl, tyN_int, tyN_str, tyN_ref, tyNs_lt, isB, upd_same, upd_upd, sizeLine_eq, List.mem_cons, String.reduceBEq, String.reduceEq, Bool.or_false, Bool.or_true, Bool.and_false, Bool.false_or, Bool.and_self, Bool.false_and, Bool.not_false, Bool.not_true, List.any_cons, List.any_nil, atI_0, setI_0, atI_1, setI_1, atI_2, setI_2, atI_3, setI_3, atI_4, setI_4, atI_5, setI_5, atI_6, setI_6, tAsg, gName, tOp, tUn, tVar, tC, tCons, L2.tNil, tRet, tIfS, tTest, tCB, tCall, rI, rI0, rU, tNext, tB, tAnd, tOr, tNot, tAndV, tOrV, tNotV, tDrop, tIf, tPar, gSub, rIxL, rIxT, rEq, rNe, rSetL, tBits,
    L2.start, List.map_cons, List.map_nil, List.cons_append, List.nil_append, List.append_nil, List.length_cons, List.length_nil, List.replicate, Nat.reduceAdd, Nat.reduceSub, Nat.zero_add, List.getElem?_cons_zero, List.getElem?_cons_succ, List.set_cons_zero, List.set_cons_succ,
    Option.some.injEq, exists_eq_left', exists_eq_left, V.int.injEq, V.bl.injEq, V.ref.injEq, V.str.injEq, List.cons.injEq, reduceCtorEq, and_true, true_and, false_and, and_false, exists_false, or_false, false_or, or_true, true_or, exists_const, CMul, CDiv, CPow, and_assoc, exists_and_left, exists_and_right, Int.reducePow, Int.reduceNeg, Int.reduceLT, Int.reduceLE, Nat.reducePow, Nat.reduceLT, Int.reduceToNat, gt_iff_lt, ge_iff_le, decide_eq_true_eq, Bool.not_eq_true', decide_eq_false_iff_not, scal, ↓reduceIte, Bool.false_eq_true]
  refine ⟨s, 12, rfl, hS, by omega, fun i H1 h0 h1 kp st => ?_⟩
  simp only [cx_K, decide_true, decide_false, reduceCtorEq, gTp, gCons, gNil, ca_0, ca_1, ca_2, ca_3, ca_4, ca_5, ca_6, ca_7, ca_8, ca_9, ca_10, ca_11, ca_12, ca_13, ca_14, ca_15, ca_16, ca_17, ca_18, ca_19, ca_20, ca_21, ca_22, ca_23, ca_24, ca_25, ca_26, ca_27, ca_28, ca_29, ca_30, not_true_eq_false, not_false_eq_true, Int.reduceEq, Nat.reduceEqDiff, Nat.reduceLeDiff, rGcd, V.ty.injEq, eq_self, List.not_mem_nil, beq_self_eq_true, HO.lst.injEq, HO.tup.injEq, tFor_eq, iRng1, iList, iTup, nat10, tSeq, rIxA, rSetA, rIsN, rIsT, tTp, tLs, itsO_tup, itsO_lst, tyO_tup, tyO_lst, tyO_dK, tyN_non, tyN_bl, tyN_int, tyN_str, tyN_ref, tyNs_lt, isB, upd_same, upd_upd, sizeLine_eq, List.mem_cons, String.reduceBEq, String.reduceEq, Bool.or_false, Bool.or_true, Bool.and_false, Bool.false_or, Bool.and_self, Bool.false_and, Bool.not_false, Bool.not_true, List.any_cons, List.any_nil, atI_0, setI_0, atI_1, setI_1, atI_2, setI_2, atI_3, setI_3, atI_4, setI_4, atI_5, setI_5, atI_6, setI_6, tAsg, gName, tOp, tUn, tVar, tC, tCons, L2.tNil, tRet, tIfS, tTest, tCB, tCall, rI, rI0, rU, tNext, tB, tAnd, tOr, tNot, tAndV, tOrV, tNotV, tDrop, tIf, tPar, gSub, rIxL, rIxT, rEq, rNe, rSetL, tBits,
    L2.start, List.map_cons, List.map_nil, List.cons_append, List.nil_append, List.append_nil, List.length_cons, List.length_nil, List.replicate, Nat.reduceAdd, Nat.reduceSub, Nat.zero_add, List.getElem?_cons_zero, List.getElem?_cons_succ, List.set_cons_zero, List.set_cons_succ,
    Option.some.injEq, exists_eq_left', exists_eq_left, V.int.injEq, V.bl.injEq, V.ref.injEq, V.str.injEq, List.cons.injEq, reduceCtorEq, and_true, true_and, false_and, and_false, exists_false, or_false, false_or, or_true, true_or, exists_const, CMul, CDiv, CPow, and_assoc, exists_and_left, exists_and_right, Int.reducePow, Int.reduceNeg, Int.reduceLT, Int.reduceLE, Nat.reducePow, Nat.reduceLT, Int.reduceToNat, gt_iff_lt, ge_iff_le, decide_eq_true_eq, Bool.not_eq_true', decide_eq_false_iff_not, scal, ↓reduceIte, Bool.false_eq_true]
  refine ite2 (fun h => ?_) (fun h => ?_)
  · intro p hp kp'
    rw [ob_new kp']
    simp only [cx_K, decide_true, decide_false, reduceCtorEq, gTp, gCons, gNil, ca_0, ca_1, ca_2, ca_3, ca_4, ca_5, ca_6, ca_7, ca_8, ca_9, ca_10, ca_11, ca_12, ca_13, ca_14, ca_15, ca_16, ca_17, ca_18, ca_19, ca_20, ca_21, ca_22, ca_23, ca_24, ca_25, ca_26, ca_27, ca_28, ca_29, ca_30, not_true_eq_false, not_false_eq_true, Int.reduceEq, Nat.reduceEqDiff, Nat.reduceLeDiff, rGcd, V.ty.injEq, eq_self, List.not_mem_nil, beq_self_eq_true, HO.lst.injEq, HO.tup.injEq, tFor_eq, iRng1, iList, iTup, nat10, tSeq, rIxA, rSetA, rIsN, rIsT, tTp, tLs, itsO_tup, itsO_lst, tyO_tup, tyO_lst, tyO_dK, tyN_non, tyN_bl, tyN_int, tyN_str, tyN_ref, tyNs_lt, isB, upd_same, upd_upd, sizeLine_eq, List.mem_cons, String.reduceBEq, String.reduceEq, Bool.or_false, Bool.or_true, Bool.and_false, Bool.false_or, Bool.and_self, Bool.false_and, Bool.not_false, Bool.not_true, List.any_cons, List.any_nil, atI_0, setI_0, atI_1, setI_1, atI_2, setI_2, atI_3, setI_3, atI_4, setI_4, atI_5, setI_5, atI_6, setI_6, tAsg, gName, tOp, tUn, tVar, tC, tCons, L2.tNil, tRet, tIfS, tTest, tCB, tCall, rI, rI0, rU, tNext, tB, tAnd, tOr, tNot, tAndV, tOrV, tNotV, tDrop, tIf, tPar, gSub, rIxL, rIxT, rEq, rNe, rSetL, tBits,
    L2.start, List.map_cons, List.map_nil, List.cons_append, List.nil_append, List.append_nil, List.length_cons, List.length_nil, List.replicate, Nat.reduceAdd, Nat.reduceSub, Nat.zero_add, List.getElem?_cons_zero, List.getElem?_cons_succ, List.set_cons_zero, List.set_cons_succ,
    Option.some.injEq, exists_eq_left', exists_eq_left, V.int.injEq, V.bl.injEq, V.ref.injEq, V.str.injEq, List.cons.injEq, reduceCtorEq, and_true, true_and, false_and, and_false, exists_false, or_false, false_or, or_true, true_or, exists_const, CMul, CDiv, CPow, and_assoc, exists_and_left, exists_and_right, Int.reducePow, Int.reduceNeg, Int.reduceLT, Int.reduceLE, Nat.reducePow, Nat.reduceLT, Int.reduceToNat, gt_iff_lt, ge_iff_le, decide_eq_true_eq, Bool.not_eq_true', decide_eq_false_iff_not, scal, ↓reduceIte, Bool.false_eq_true]
    refine menu h0 (by simpa using h) fun v hv => ?_
    simp only [List.mem_cons, List.not_mem_nil, or_false] at hv
    rcases hv with rfl | rfl | rfl | rfl <;> exact k _ _ (by show Int.natAbs _ < _; omega) (kp.trans (Kp.same (Same.new hp _))) (st.same (Same.new hp _))
  · refine ⟨s, _, rfl, st, by omega, fun j H2 j0 j1 kp2 st2 => ⟨s, 40, rfl, st2, by omega, fun m H3 m0 m1 kp3 st3 => ?_⟩⟩
    simp only [cx_K, decide_true, decide_false, reduceCtorEq, gTp, gCons, gNil, ca_0, ca_1, ca_2, ca_3, ca_4, ca_5, ca_6, ca_7, ca_8, ca_9, ca_10, ca_11, ca_12, ca_13, ca_14, ca_15, ca_16, ca_17, ca_18, ca_19, ca_20, ca_21, ca_22, ca_23, ca_24, ca_25, ca_26, ca_27, ca_28, ca_29, ca_30, not_true_eq_false, not_false_eq_true, Int.reduceEq, Nat.reduceEqDiff, Nat.reduceLeDiff, rGcd, V.ty.injEq, eq_self, List.not_mem_nil, beq_self_eq_true, HO.lst.injEq, HO.tup.injEq, tFor_eq, iRng1, iList, iTup, nat10, tSeq, rIxA, rSetA, rIsN, rIsT, tTp, tLs, itsO_tup, itsO_lst, tyO_tup, tyO_lst, tyO_dK, tyN_non, tyN_bl, tyN_int, tyN_str, tyN_ref, tyNs_lt, isB, upd_same, upd_upd, sizeLine_eq, List.mem_cons, String.reduceBEq, String.reduceEq, Bool.or_false, Bool.or_true, Bool.and_false, Bool.false_or, Bool.and_self, Bool.false_and, Bool.not_false, Bool.not_true, List.any_cons, List.any_nil, atI_0, setI_0, atI_1, setI_1, atI_2, setI_2, atI_3, setI_3, atI_4, setI_4, atI_5, setI_5, atI_6, setI_6, tAsg, gName, tOp, tUn, tVar, tC, tCons, L2.tNil, tRet, tIfS, tTest, tCB, tCall, rI, rI0, rU, tNext, tB, tAnd, tOr, tNot, tAndV, tOrV, tNotV, tDrop, tIf, tPar, gSub, rIxL, rIxT, rEq, rNe, rSetL, tBits,
    L2.start, List.map_cons, List.map_nil, List.cons_append, List.nil_append, List.append_nil, List.length_cons, List.length_nil, List.replicate, Nat.reduceAdd, Nat.reduceSub, Nat.zero_add, List.getElem?_cons_zero, List.getElem?_cons_succ, List.set_cons_zero, List.set_cons_succ,
    Option.some.injEq, exists_eq_left', exists_eq_left, V.int.injEq, V.bl.injEq, V.ref.injEq, V.str.injEq, List.cons.injEq, reduceCtorEq, and_true, true_and, false_and, and_false, exists_false, or_false, false_or, or_true, true_or, exists_const, CMul, CDiv, CPow, and_assoc, exists_and_left, exists_and_right, Int.reducePow, Int.reduceNeg, Int.reduceLT, Int.reduceLE, Nat.reducePow, Nat.reduceLT, Int.reduceToNat, gt_iff_lt, ge_iff_le, decide_eq_true_eq, Bool.not_eq_true', decide_eq_false_iff_not, scal, ↓reduceIte, Bool.false_eq_true]
    refine ⟨by omega, by omega, forI_range (GreatI s i H3) ⟨j, none, rfl, rfl, j0, by omega⟩ ?_ ?_⟩
    · rintro t σ H' _ ⟨v, y, rfl, rfl, v0, v1⟩
      simp only [cx_K, decide_true, decide_false, reduceCtorEq, gTp, gCons, gNil, ca_0, ca_1, ca_2, ca_3, ca_4, ca_5, ca_6, ca_7, ca_8, ca_9, ca_10, ca_11, ca_12, ca_13, ca_14, ca_15, ca_16, ca_17, ca_18, ca_19, ca_20, ca_21, ca_22, ca_23, ca_24, ca_25, ca_26, ca_27, ca_28, ca_29, ca_30, not_true_eq_false, not_false_eq_true, Int.reduceEq, Nat.reduceEqDiff, Nat.reduceLeDiff, rGcd, V.ty.injEq, eq_self, List.not_mem_nil, beq_self_eq_true, HO.lst.injEq, HO.tup.injEq, tFor_eq, iRng1, iList, iTup, nat10, tSeq, rIxA, rSetA, rIsN, rIsT, tTp, tLs, itsO_tup, itsO_lst, tyO_tup, tyO_lst, tyO_dK, tyN_non, tyN_bl, tyN_int, tyN_str, tyN_ref, tyNs_lt, isB, upd_same, upd_upd, sizeLine_eq, List.mem_cons, String.reduceBEq, String.reduceEq, Bool.or_false, Bool.or_true, Bool.and_false, Bool.false_or, Bool.and_self, Bool.false_and, Bool.not_false, Bool.not_true, List.any_cons, List.any_nil, atI_0, setI_0, atI_1, setI_1, atI_2, setI_2, atI_3, setI_3, atI_4, setI_4, atI_5, setI_5, atI_6, setI_6, tAsg, gName, tOp, tUn, tVar, tC, tCons, L2.tNil, tRet, tIfS, tTest, tCB, tCall, rI, rI0, rU, tNext, tB, tAnd, tOr, tNot, tAndV, tOrV, tNotV, tDrop, tIf, tPar, gSub, rIxL, rIxT, rEq, rNe, rSetL, tBits,
    L2.start, List.map_cons, List.map_nil, List.cons_append, List.nil_append, List.append_nil, List.length_cons, List.length_nil, List.replicate, Nat.reduceAdd, Nat.reduceSub, Nat.zero_add, List.getElem?_cons_zero, List.getElem?_cons_succ, List.set_cons_zero, List.set_cons_succ,
    Option.some.injEq, exists_eq_left', exists_eq_left, V.int.injEq, V.bl.injEq, V.ref.injEq, V.str.injEq, List.cons.injEq, reduceCtorEq, and_true, true_and, false_and, and_false, exists_false, or_false, false_or, or_true, true_or, exists_const, CMul, CDiv, CPow, and_assoc, exists_and_left, exists_and_right, Int.reducePow, Int.reduceNeg, Int.reduceLT, Int.reduceLE, Nat.reducePow, Nat.reduceLT, Int.reduceToNat, gt_iff_lt, ge_iff_le, decide_eq_true_eq, Bool.not_eq_true', decide_eq_false_iff_not, scal, ↓reduceIte, Bool.false_eq_true]
      exact ⟨_, _, rfl, rfl, by omega, by omega⟩
    · rintro σ H' ⟨v, y, rfl, rfl, v0, v1⟩
      simp only [cx_K, decide_true, decide_false, reduceCtorEq, gTp, gCons, gNil, ca_0, ca_1, ca_2, ca_3, ca_4, ca_5, ca_6, ca_7, ca_8, ca_9, ca_10, ca_11, ca_12, ca_13, ca_14, ca_15, ca_16, ca_17, ca_18, ca_19, ca_20, ca_21, ca_22, ca_23, ca_24, ca_25, ca_26, ca_27, ca_28, ca_29, ca_30, not_true_eq_false, not_false_eq_true, Int.reduceEq, Nat.reduceEqDiff, Nat.reduceLeDiff, rGcd, V.ty.injEq, eq_self, List.not_mem_nil, beq_self_eq_true, HO.lst.injEq, HO.tup.injEq, tFor_eq, iRng1, iList, iTup, nat10, tSeq, rIxA, rSetA, rIsN, rIsT, tTp, tLs, itsO_tup, itsO_lst, tyO_tup, tyO_lst, tyO_dK, tyN_non, tyN_bl, tyN_int, tyN_str, tyN_ref, tyNs_lt, isB, upd_same, upd_upd, sizeLine_eq, List.mem_cons, String.reduceBEq, String.reduceEq, Bool.or_false, Bool.or_true, Bool.and_false, Bool.false_or, Bool.and_self, Bool.false_and, Bool.not_false, Bool.not_true, List.any_cons, List.any_nil, atI_0, setI_0, atI_1, setI_1, atI_2, setI_2, atI_3, setI_3, atI_4, setI_4, atI_5, setI_5, atI_6, setI_6, tAsg, gName, tOp, tUn, tVar, tC, tCons, L2.tNil, tRet, tIfS, tTest, tCB, tCall, rI, rI0, rU, tNext, tB, tAnd, tOr, tNot, tAndV, tOrV, tNotV, tDrop, tIf, tPar, gSub, rIxL, rIxT, rEq, rNe, rSetL, tBits,
    L2.start, List.map_cons, List.map_nil, List.cons_append, List.nil_append, List.append_nil, List.length_cons, List.length_nil, List.replicate, Nat.reduceAdd, Nat.reduceSub, Nat.zero_add, List.getElem?_cons_zero, List.getElem?_cons_succ, List.set_cons_zero, List.set_cons_succ,
    Option.some.injEq, exists_eq_left', exists_eq_left, V.int.injEq, V.bl.injEq, V.ref.injEq, V.str.injEq, List.cons.injEq, reduceCtorEq, and_true, true_and, false_and, and_false, exists_false, or_false, false_or, or_true, true_or, exists_const, CMul, CDiv, CPow, and_assoc, exists_and_left, exists_and_right, Int.reducePow, Int.reduceNeg, Int.reduceLT, Int.reduceLE, Nat.reducePow, Nat.reduceLT, Int.reduceToNat, gt_iff_lt, ge_iff_le, decide_eq_true_eq, Bool.not_eq_true', decide_eq_false_iff_not, scal, ↓reduceIte, Bool.false_eq_true]
      have kk := (kp.trans kp2).trans kp3
      exact ite2 (fun _ => k _ _ (by show Int.natAbs _ < _; omega) kk st3) (fun _ => k _ _ (by show Int.natAbs _ < _; omega) kk st3)
def spDFrac (K : PySem.W.Frag) (n : Nat) : Sp := fun vs H Q _ => ∃ (s : Addr), vs = [.ref s] ∧ Sto K H s ∧ ∀ a q H', Fq K H' n a q → Kp s H H' → Sto K H' s → Q (.ref a) H'
theorem nf01 : Nf (0, 1) := ⟨by decide, by decide⟩
theorem nf11 : Nf (1, 1) := ⟨by decide, by decide⟩
theorem nfm1 : Nf (-1, 1) := ⟨by decide, by decide⟩
theorem nf12 : Nf (1, 2) := ⟨by decide, by decide⟩
theorem nfm2 : Nf (-1, 2) := ⟨by decide, by decide⟩
theorem sz10 {x y : Int} (h1 : x.natAbs < 1024) (h2 : y.natAbs < 1024) : Sz 10 (x, y) := ⟨by show x.natAbs < _; omega, by show y.natAbs < _; omega⟩
/-- the script, read alone -/
def spStore (K : PySem.W.Frag) : Sp := fun vs H Q _ => ∃ (a : Addr) (ns : List Int), vs = [.ref a] ∧ SqL K H a (ns.map V.int) ∧ ∀ s H', Same H H' → Sto K H' s → Q (.ref s) H'
def StoreI (a : Addr) (H : Hp) (_ : Nat) (σ : L2.St) (H' : Hp) : Prop := ∃ (v : Int) (y : Option V), σ = [some (.ref a), some (.int v), y] ∧ H' = H
abbrev sStore : Stmt := topS 25
theorem scStore : FnScope ["_law_script", "_law_seed", "_law_cell"] ["_law_script"] (defScope sStore) := ⟨rfl, rfl, rfl, by decide +kernel, rfl, by decide +kernel, by decide +kernel⟩
theorem k_Store (T : Bt K mg) (D : Dfn K mg "_law_store" sStore ["_law_script"]) : Kn P w K mg base 1 "_law_store" ["_law_script"] (spStore K) := by
  refine Kn.mk' D scStore (fun vs H Q E h => ?_) (fun f cdv A outer s H vs Q E hr h => ?_)
  · obtain ⟨a, ns, rfl, _⟩ := h
    rfl
  obtain ⟨a, ns, rfl, hS, k⟩ := h
  refine ⟨_, (pss_cons (ps_set (i := 1) scStore.nd rfl (.inl rfl) (pe_op op_add (pe_callB call_len_seq (by rfl) T.b_len PySem.boot_len (pa_cons (pv 0) pa_nil)) pe_int))
      (pss_cons (ps_for PassesOwn.never rfl (pi_list (pv 0)) (pg_name (i := 2) scStore.nd rfl (.inl rfl)) (pss_one (ps_set (i := 1) scStore.nd rfl (.inl rfl) (pe_op op_mod (pe_op op_add (pe_op op_add (pe_op op_mul (pv 1) pe_int) (pe_op op_mod (pe_callTy call_int1 (by rfl) T.b_int (by decide +kernel) (pa_cons (pv 2) pa_nil)) pe_int)) pe_int) pe_int))))
      (pss_one (ps_ret (pe_ls (pa_cons (pe_callTy call_listK (by rfl) T.b_list (by decide +kernel) (pa_cons (pv 0) pa_nil)) (pa_cons pe_int (pa_cons pe_int (pa_cons pe_int (pa_cons (pv 1) (pa_cons pe_int (pa_cons pe_int pa_nil)))))))))))), ?_⟩
  simp only [cx_K, decide_true, decide_false, reduceCtorEq, gTp, gCons, gNil, ca_0, ca_1, ca_2, ca_3, ca_4, ca_5, ca_6, ca_7, ca_8, ca_9, ca_10, ca_11, ca_12, ca_13, ca_14, ca_15, ca_16, ca_17, ca_18, ca_19, ca_20, ca_21, ca_22, ca_23, ca_24, ca_25, ca_26, ca_27, ca_28, ca_29, ca_30, not_true_eq_false, not_false_eq_true, Int.reduceEq, Nat.reduceEqDiff, Nat.reduceLeDiff, rGcd, V.ty.injEq, eq_self, List.not_mem_nil, beq_self_eq_true, HO.lst.injEq, HO.tup.injEq, tFor_eq, iRng1, iList, iTup, nat10, tSeq, rIxA, rSetA, rIsN, rIsT, tTp, tLs, itsO_tup, itsO_lst, tyO_tup, tyO_lst, tyO_dK, tyN_non, tyN_bl, tyN_int, tyN_str, tyN_ref, tyNs_lt, isB, upd_same, upd_upd, sizeLine_eq, List.mem_cons, String.reduceBEq, String.reduceEq, Bool.or_false, Bool.or_true, Bool.and_false, Bool.false_or, Bool.and_self, Bool.false_and, Bool.not_false, Bool.not_true, List.any_cons, List.any_nil, atI_0, setI_0, atI_1, setI_1, atI_2, setI_2, atI_3, setI_3, atI_4, setI_4, atI_5, setI_5, atI_6, setI_6, tAsg, gName, tOp, tUn, tVar, tC, tCons, L2.tNil, tRet, tIfS, tTest, tCB, tCall, rI, rI0, rU, tNext, tB, tAnd, tOr, tNot, tAndV, tOrV, tNotV, tDrop, tIf, tPar, gSub, rIxL, rIxT, rEq, rNe, rSetL, tBits,
    L2.start, List.map_cons, List.map_nil, List.cons_append, List.nil_append, List.append_nil, List.length_cons, List.length_nil, List.replicate, Nat.reduceAdd, Nat.reduceSub, Nat.zero_add, List.getElem?_cons_zero, List.getElem?_cons_succ, List.set_cons_zero, List.set_cons_succ,
    Option.some.injEq, exists_eq_left', exists_eq_left, V.int.injEq, V.bl.injEq, V.ref.injEq, V.str.injEq, List.cons.injEq, reduceCtorEq, and_true, true_and, false_and, and_false, exists_false, or_false, false_or, or_true, true_or, exists_const, CMul, CDiv, CPow, and_assoc, exists_and_left, exists_and_right, Int.reducePow, Int.reduceNeg, Int.reduceLT, Int.reduceLE, Nat.reducePow, Nat.reduceLT, Int.reduceToNat, gt_iff_lt, ge_iff_le, decide_eq_true_eq, Bool.not_eq_true', decide_eq_false_iff_not, scal, ↓reduceIte, Bool.false_eq_true]
  refine ⟨_, .inl hS, ⟨_, hS⟩, forI_list (xs := ns.map V.int) (StoreI a H) ⟨_, none, rfl, rfl⟩ ?_ ?_ ?_⟩
  · rintro i σ H' _ ⟨v, y, rfl, rfl⟩
    exact hS
  · rintro i x σ H' hi ⟨v, y, rfl, rfl⟩
    obtain ⟨z, rfl⟩ : ∃ z, x = V.int z := by
      rw [List.getElem?_map] at hi
      cases e : ns[i]? with
      | none => rw [e] at hi; cases hi
      | some z => rw [e] at hi; exact ⟨z, (Option.some.inj hi).symm⟩
    simp only [cx_K, decide_true, decide_false, reduceCtorEq, gTp, gCons, gNil, ca_0, ca_1, ca_2, ca_3, ca_4, ca_5, ca_6, ca_7, ca_8, ca_9, ca_10, ca_11, ca_12, ca_13, ca_14, ca_15, ca_16, ca_17, ca_18, ca_19, ca_20, ca_21, ca_22, ca_23, ca_24, ca_25, ca_26, ca_27, ca_28, ca_29, ca_30, not_true_eq_false, not_false_eq_true, Int.reduceEq, Nat.reduceEqDiff, Nat.reduceLeDiff, rGcd, V.ty.injEq, eq_self, List.not_mem_nil, beq_self_eq_true, HO.lst.injEq, HO.tup.injEq, tFor_eq, iRng1, iList, iTup, nat10, tSeq, rIxA, rSetA, rIsN, rIsT, tTp, tLs, itsO_tup, itsO_lst, tyO_tup, tyO_lst, tyO_dK, tyN_non, tyN_bl, tyN_int, tyN_str, tyN_ref, tyNs_lt, isB, upd_same, upd_upd, sizeLine_eq, List.mem_cons, String.reduceBEq, String.reduceEq, Bool.or_false, Bool.or_true, Bool.and_false, Bool.false_or, Bool.and_self, Bool.false_and, Bool.not_false, Bool.not_true, List.any_cons, List.any_nil, atI_0, setI_0, atI_1, setI_1, atI_2, setI_2, atI_3, setI_3, atI_4, setI_4, atI_5, setI_5, atI_6, setI_6, tAsg, gName, tOp, tUn, tVar, tC, tCons, L2.tNil, tRet, tIfS, tTest, tCB, tCall, rI, rI0, rU, tNext, tB, tAnd, tOr, tNot, tAndV, tOrV, tNotV, tDrop, tIf, tPar, gSub, rIxL, rIxT, rEq, rNe, rSetL, tBits,
    L2.start, List.map_cons, List.map_nil, List.cons_append, List.nil_append, List.append_nil, List.length_cons, List.length_nil, List.replicate, Nat.reduceAdd, Nat.reduceSub, Nat.zero_add, List.getElem?_cons_zero, List.getElem?_cons_succ, List.set_cons_zero, List.set_cons_succ,
    Option.some.injEq, exists_eq_left', exists_eq_left, V.int.injEq, V.bl.injEq, V.ref.injEq, V.str.injEq, List.cons.injEq, reduceCtorEq, and_true, true_and, false_and, and_false, exists_false, or_false, false_or, or_true, true_or, exists_const, CMul, CDiv, CPow, and_assoc, exists_and_left, exists_and_right, Int.reducePow, Int.reduceNeg, Int.reduceLT, Int.reduceLE, Nat.reducePow, Nat.reduceLT, Int.reduceToNat, gt_iff_lt, ge_iff_le, decide_eq_true_eq, Bool.not_eq_true', decide_eq_false_iff_not, scal, ↓reduceIte, Bool.false_eq_true]
    exact ⟨_, _, rfl, rfl⟩
  · rintro σ H' ⟨v, y, rfl, rfl⟩
    simp only [cx_K, decide_true, decide_false, reduceCtorEq, gTp, gCons, gNil, ca_0, ca_1, ca_2, ca_3, ca_4, ca_5, ca_6, ca_7, ca_8, ca_9, ca_10, ca_11, ca_12, ca_13, ca_14, ca_15, ca_16, ca_17, ca_18, ca_19, ca_20, ca_21, ca_22, ca_23, ca_24, ca_25, ca_26, ca_27, ca_28, ca_29, ca_30, not_true_eq_false, not_false_eq_true, Int.reduceEq, Nat.reduceEqDiff, Nat.reduceLeDiff, rGcd, V.ty.injEq, eq_self, List.not_mem_nil, beq_self_eq_true, HO.lst.injEq, HO.tup.injEq, tFor_eq, iRng1, iList, iTup, nat10, tSeq, rIxA, rSetA, rIsN, rIsT, tTp, tLs, itsO_tup, itsO_lst, tyO_tup, tyO_lst, tyO_dK, tyN_non, tyN_bl, tyN_int, tyN_str, tyN_ref, tyNs_lt, isB, upd_same, upd_upd, sizeLine_eq, List.mem_cons, String.reduceBEq, String.reduceEq, Bool.or_false, Bool.or_true, Bool.and_false, Bool.false_or, Bool.and_self, Bool.false_and, Bool.not_false, Bool.not_true, List.any_cons, List.any_nil, atI_0, setI_0, atI_1, setI_1, atI_2, setI_2, atI_3, setI_3, atI_4, setI_4, atI_5, setI_5, atI_6, setI_6, tAsg, gName, tOp, tUn, tVar, tC, tCons, L2.tNil, tRet, tIfS, tTest, tCB, tCall, rI, rI0, rU, tNext, tB, tAnd, tOr, tNot, tAndV, tOrV, tNotV, tDrop, tIf, tPar, gSub, rIxL, rIxT, rEq, rNe, rSetL, tBits,
    L2.start, List.map_cons, List.map_nil, List.cons_append, List.nil_append, List.append_nil, List.length_cons, List.length_nil, List.replicate, Nat.reduceAdd, Nat.reduceSub, Nat.zero_add, List.getElem?_cons_zero, List.getElem?_cons_succ, List.set_cons_zero, List.set_cons_succ,
    Option.some.injEq, exists_eq_left', exists_eq_left, V.int.injEq, V.bl.injEq, V.ref.injEq, V.str.injEq, List.cons.injEq, reduceCtorEq, and_true, true_and, false_and, and_false, exists_false, or_false, false_or, or_true, true_or, exists_const, CMul, CDiv, CPow, and_assoc, exists_and_left, exists_and_right, Int.reducePow, Int.reduceNeg, Int.reduceLT, Int.reduceLE, Nat.reducePow, Nat.reduceLT, Int.reduceToNat, gt_iff_lt, ge_iff_le, decide_eq_true_eq, Bool.not_eq_true', decide_eq_false_iff_not, scal, ↓reduceIte, Bool.false_eq_true]
    refine ⟨_, .inl hS, fun l hl kl => ?_⟩
    intro s hs ks
    have s1 := Same.new hl (.lst (ns.map V.int))
    have e1 : upd H' l (.lst (ns.map V.int)) l = some (.lst (ns.map V.int)) := upd_same
    have n1 : s ≠ l := by rintro rfl; rw [upd_same] at hs; cases hs
    exact k s _ (s1.trans (Same.new hs _)) ⟨l, ns, 0, 0, 0, v, 0, 0, upd_same, by rw [upd_ne (Ne.symm n1)]; exact e1, n1, Int.le_refl 0, ks, kl⟩
end
end My

namespace My
open PySem PySem.Spec PyProof.Rows L2
section
variable {P : Program} {w : World} {K : PySem.W.Frag} {mg : Str → Option Value} {base : Heap}
/-- the same data, n levels deep at most -/
def scv : V → Bool
  | .non => true
  | .bl _ => true
  | .int _ => true
  | .str _ => true
  | _ => false
def Eqv (K : PySem.W.Frag) (H : Hp) : Nat → V → V → Prop
  | 0, x, y => x = y ∧ scv x = true
  | n + 1, x, y => (x = y ∧ scv x = true) ∨ (∃ (a b : Addr) (xs ys : List V), x = .ref a ∧ y = .ref b ∧ ((ob K H a = some (.tup xs) ∧ ob K H b = some (.tup ys)) ∨ (ob K H a = some (.lst xs) ∧ ob K H b = some (.lst ys))) ∧ xs.length = ys.length ∧ ys.length ≤ 1000 ∧
      ∀ (i : Nat) x y, xs[i]? = some x → ys[i]? = some y → Eqv K H n x y) ∨ (1 ≤ n ∧ ∃ a b : Addr, x = .ref a ∧ y = .ref b ∧ ob K H a = some (.dK []) ∧ ob K H b = some (.dK []))
theorem Eqv.same {H H' : Hp} (e : Same H H') : ∀ {n : Nat} {x y : V}, Eqv K H n x y → Eqv K H' n x y
  | 0, _, _, h => h
  | n + 1, x, y, .inl h => .inl h
  | n + 1, x, y, .inr (.inl ⟨a, b, xs, ys, h1, h2, h3, h4, h5, h6⟩) =>
    .inr (.inl ⟨a, b, xs, ys, h1, h2, h3.imp (fun z => ⟨ob_same e z.1, ob_same e z.2⟩) (fun z => ⟨ob_same e z.1, ob_same e z.2⟩), h4, h5, fun i x y hx hy => (h6 i x y hx hy).same e⟩)
  | n + 1, x, y, .inr (.inr ⟨l, a, b, h1, h2, h3, h4⟩) => .inr (.inr ⟨l, a, b, h1, h2, ob_same e h3, ob_same e h4⟩)
theorem Eqv.up {H : Hp} : ∀ {n : Nat} {x y : V}, Eqv K H n x y → Eqv K H (n + 1) x y
  | 0, _, _, h => .inl h
  | n + 1, x, y, .inl h => .inl h
  | n + 1, x, y, .inr (.inl ⟨a, b, xs, ys, h1, h2, h3, h4, h5, h6⟩) => .inr (.inl ⟨a, b, xs, ys, h1, h2, h3, h4, h5, fun i x y hx hy => (h6 i x y hx hy).up⟩)
  | n + 1, x, y, .inr (.inr ⟨l, a, b, h1, h2, h3, h4⟩) => .inr (.inr ⟨Nat.le_succ_of_le l, a, b, h1, h2, h3, h4⟩)
def spSame (K : PySem.W.Frag) : Nat → Sp
  | 0 => fun _ _ _ _ => False
  | n + 1 => fun vs H Q _ => ∃ x y, vs = [x, y] ∧ Eqv K H n x y ∧ ∀ H', Same H H' → Q (.bl true) H'
theorem Eqv.split {H : Hp} {n : Nat} {x y : V} (h : Eqv K H n x y) : (x = y ∧ scv x = true) ∨ (∃ m, n = m + 1 ∧ ∃ (a b : Addr) (xs ys : List V), x = .ref a ∧ y = .ref b ∧ ((ob K H a = some (.tup xs) ∧ ob K H b = some (.tup ys)) ∨ (ob K H a = some (.lst xs) ∧ ob K H b = some (.lst ys))) ∧ xs.length = ys.length ∧ ys.length ≤ 1000 ∧
    ∀ (i : Nat) x y, xs[i]? = some x → ys[i]? = some y → Eqv K H m x y) ∨ (∃ m, n = m + 2 ∧ ∃ a b : Addr, x = .ref a ∧ y = .ref b ∧ ob K H a = some (.dK []) ∧ ob K H b = some (.dK [])) := by
  cases n with
  | zero => exact .inl h
  | succ m =>
    rcases h with h | h | ⟨l, h⟩
    · exact .inl h
    · exact .inr (.inl ⟨m, rfl, h⟩)
    · exact .inr (.inr ⟨m - 1, by omega, h⟩)
def SameI (H : Hp) (a b : Addr) (_ : Nat) (σ : L2.St) (H' : Hp) : Prop := ∃ z, σ = [some (.ref a), some (.ref b), z] ∧ Same H H'
theorem Kn.none {x : Str} {ps : List Str} {st : Stmt} (D : Dfn K mg x st ps) : Kn P w K mg base 0 x ps (fun _ _ _ _ => False) := by
  obtain ⟨f, fd, F, m, b⟩ := D.ex
  exact ⟨f, fd, m, F.kp, b, ⟨fun vs H Q E h => h.elim, fun A outer s H args us vs Q E _ _ _ _ h => h.elim⟩⟩
abbrev sSame : Stmt := topS 30
theorem scSame : FnScope ["_law_told", "_law_due", "_law_k"] ["_law_told", "_law_due"] (defScope sSame) := ⟨rfl, rfl, rfl, by decide +kernel, rfl, by decide +kernel, by decide +kernel⟩
theorem k_Same (n : Nat) (T : Bt K mg) (D : Dfn K mg "_law_same" sSame ["_law_told", "_law_due"]) (d__law_is_whole : Kn P w K mg base 1 "_law_is_whole" ["_law_told"] (spWhole K)) (d__law_same : Kn P w K mg base (n + 1) "_law_same" ["_law_told", "_law_due"] (spSame K n)) : Kn P w K mg base (n + 2) "_law_same" ["_law_told", "_law_due"] (spSame K (n + 1)) := by
  refine Kn.mk' D scSame (fun vs H Q E h => ?_) (fun f cdv A outer s H vs Q E hr h => ?_)
  · obtain ⟨x, y, rfl, _⟩ := h
    rfl
  obtain ⟨x, y, rfl, he, k⟩ := h
  refine ⟨_, (pss_cons (ps_if (pt_cmpR op_isN (pv 1) pe_non (nomark _)) (pss_one (ps_ret (pe_cmpR op_isN (pv 0) pe_non (nomark _)))) pss_nil)
      (pss_cons (ps_if (pt_val (pe_callB call_isN (by rfl) T.b_isinstance (by decide +kernel) (pa_cons (pv 1) (pa_cons (pe_bltn (v := .ty "bool") (by rfl) T.b_bool (by decide +kernel) rfl) pa_nil)))) (pss_one (ps_ret (pe_and (pe_callB call_isN (by rfl) T.b_isinstance (by decide +kernel) (pa_cons (pv 0) (pa_cons (pe_bltn (v := .ty "bool") (by rfl) T.b_bool (by decide +kernel) rfl) pa_nil))) (pe_one (pe_cmpR op_eq (pv 0) (pv 1) (nomark _)))))) pss_nil)
      (pss_cons (ps_if (pt_val (pe_callB call_isN (by rfl) T.b_isinstance (by decide +kernel) (pa_cons (pv 1) (pa_cons (pe_bltn (v := .ty "int") (by rfl) T.b_int (by decide +kernel) rfl) pa_nil)))) (pss_one (ps_ret (pe_and (pe_kn d__law_is_whole hr (by rfl) (pa_cons (pv 0) pa_nil)) (pe_one (pe_cmpR op_eq (pv 0) (pv 1) (nomark _)))))) pss_nil)
      (pss_cons (ps_if (pt_val (pe_callB call_isN (by rfl) T.b_isinstance (by decide +kernel) (pa_cons (pv 1) (pa_cons (pe_bltn (v := .ty "str") (by rfl) T.b_str (by decide +kernel) rfl) pa_nil)))) (pss_one (ps_ret (pe_and (pe_callB call_isN (by rfl) T.b_isinstance (by decide +kernel) (pa_cons (pv 0) (pa_cons (pe_bltn (v := .ty "str") (by rfl) T.b_str (by decide +kernel) rfl) pa_nil))) (pe_one (pe_cmpR op_eq (pv 0) (pv 1) (nomark _)))))) pss_nil)
      (pss_cons (ps_if (pt_val (pe_callB call_isN (by rfl) T.b_isinstance (by decide +kernel) (pa_cons (pv 1) (pa_cons (pe_bltn (v := .ty "dict") (by rfl) T.b_dict (by decide +kernel) rfl) pa_nil)))) (pss_cons (ps_if (PW.pt (pw_or (pt_not (pt_val (pe_callB call_isN (by rfl) T.b_isinstance (by decide +kernel) (pa_cons (pv 0) (pa_cons (pe_bltn (v := .ty "dict") (by rfl) T.b_dict (by decide +kernel) rfl) pa_nil))))) (pw_or1 (pt_not (pt_val (pe_kn d__law_same hr (by rfl) (pa_cons (pe_fr (pe_callTy (call_list_dK rfl) (by rfl) T.b_list (by decide +kernel) (pa_cons (pv 0) pa_nil))) (pa_cons (pe_fr (pe_callTy (call_list_dK rfl) (by rfl) T.b_list (by decide +kernel) (pa_cons (pv 1) pa_nil))) pa_nil)))))))) (pss_one (ps_ret pe_bl)) pss_nil)
      (pss_one (ps_ret (pe_kn d__law_same hr (by rfl) (pa_cons (pe_listVals rfl (by rfl) T.b_list (pv 0)) (pa_cons (pe_listVals rfl (by rfl) T.b_list (pv 1)) pa_nil)))))) pss_nil)
      (pss_cons (ps_if (PW.pt (pw_and (pt_val (pe_callB call_isN (by rfl) T.b_isinstance (by decide +kernel) (pa_cons (pv 1) (pa_cons (pe_bltn (v := .ty "list") (by rfl) T.b_list (by decide +kernel) rfl) pa_nil)))) (pw_and1 (pt_not (pt_val (pe_callB call_isN (by rfl) T.b_isinstance (by decide +kernel) (pa_cons (pv 0) (pa_cons (pe_bltn (v := .ty "list") (by rfl) T.b_list (by decide +kernel) rfl) pa_nil)))))))) (pss_one (ps_ret pe_bl)) pss_nil)
      (pss_cons (ps_if (PW.pt (pw_and (pt_val (pe_callB call_isN (by rfl) T.b_isinstance (by decide +kernel) (pa_cons (pv 1) (pa_cons (pe_bltn (v := .ty "tuple") (by rfl) T.b_tuple (by decide +kernel) rfl) pa_nil)))) (pw_and1 (pt_not (pt_val (pe_callB call_isN (by rfl) T.b_isinstance (by decide +kernel) (pa_cons (pv 0) (pa_cons (pe_bltn (v := .ty "tuple") (by rfl) T.b_tuple (by decide +kernel) rfl) pa_nil)))))))) (pss_one (ps_ret pe_bl)) pss_nil)
      (pss_cons (ps_if (PW.pt (pw_or (pt_not (pt_val (pe_callB call_isT (by rfl) T.b_isinstance (by decide +kernel) (pa_cons (pv 1) (pa_cons (pe_tp (pa_cons (pe_bltn (v := .ty "list") (by rfl) T.b_list (by decide +kernel) rfl) (pa_cons (pe_bltn (v := .ty "tuple") (by rfl) T.b_tuple (by decide +kernel) rfl) pa_nil))) pa_nil))))) (pw_or1 (pt_cmpR op_ne (pe_callB call_lenA (by rfl) T.b_len PySem.boot_len (pa_cons (pv 0) pa_nil)) (pe_callB call_lenA (by rfl) T.b_len PySem.boot_len (pa_cons (pv 1) pa_nil)) (nomark _))))) (pss_one (ps_ret pe_bl)) pss_nil)
      (pss_cons (ps_for PassesOwn.never rfl (pi_range1 (by rfl) T.b_range (pa_cons (pe_callB call_lenA (by rfl) T.b_len PySem.boot_len (pa_cons (pv 1) pa_nil)) pa_nil)) (pg_name (i := 2) scSame.nd rfl (.inl rfl)) (pss_one (ps_if (pt_not (pt_val (pe_kn d__law_same hr (by rfl) (pa_cons (pe_ix ix_any (pv 0) (pv 2) (fun _ _ => rfl)) (pa_cons (pe_ix ix_any (pv 1) (pv 2) (fun _ _ => rfl)) pa_nil))))) (pss_one (ps_ret pe_bl)) pss_nil)))
      (pss_one (ps_ret pe_bl))))))))))), ?_⟩
  rcases he.split with ⟨rfl, hsc⟩ | ⟨m, rfl, a, b, xs, ys, rfl, rfl, ho, hl, h1000, hi⟩ | ⟨m, rfl, a, b, rfl, rfl, oa, oc⟩
  · cases x with
    | non =>
      simp only [cx_K, decide_true, decide_false, reduceCtorEq, gTp, gCons, gNil, ca_0, ca_1, ca_2, ca_3, ca_4, ca_5, ca_6, ca_7, ca_8, ca_9, ca_10, ca_11, ca_12, ca_13, ca_14, ca_15, ca_16, ca_17, ca_18, ca_19, ca_20, ca_21, ca_22, ca_23, ca_24, ca_25, ca_26, ca_27, ca_28, ca_29, ca_30, not_true_eq_false, not_false_eq_true, Int.reduceEq, Nat.reduceEqDiff, Nat.reduceLeDiff, rGcd, V.ty.injEq, eq_self, List.not_mem_nil, beq_self_eq_true, HO.lst.injEq, HO.tup.injEq, tFor_eq, iRng1, iList, iTup, nat10, tSeq, rIxA, rSetA, rIsN, rIsT, tTp, tLs, itsO_tup, itsO_lst, tyO_tup, tyO_lst, tyO_dK, tyN_non, tyN_bl, tyN_int, tyN_str, tyN_ref, tyNs_lt, isB, upd_same, upd_upd, sizeLine_eq, List.mem_cons, String.reduceBEq, String.reduceEq, Bool.or_false, Bool.or_true, Bool.and_false, Bool.false_or, Bool.and_self, Bool.false_and, Bool.not_false, Bool.not_true, List.any_cons, List.any_nil, atI_0, setI_0, atI_1, setI_1, atI_2, setI_2, atI_3, setI_3, atI_4, setI_4, atI_5, setI_5, atI_6, setI_6, tAsg, gName, tOp, tUn, tVar, tC, tCons, L2.tNil, tRet, tIfS, tTest, tCB, tCall, rI, rI0, rU, tNext, tB, tAnd, tOr, tNot, tAndV, tOrV, tNotV, tDrop, tIf, tPar, gSub, rIxL, rIxT, rEq, rNe, rSetL, tBits,
    L2.start, List.map_cons, List.map_nil, List.cons_append, List.nil_append, List.append_nil, List.length_cons, List.length_nil, List.replicate, Nat.reduceAdd, Nat.reduceSub, Nat.zero_add, List.getElem?_cons_zero, List.getElem?_cons_succ, List.set_cons_zero, List.set_cons_succ,
    Option.some.injEq, exists_eq_left', exists_eq_left, V.int.injEq, V.bl.injEq, V.ref.injEq, V.str.injEq, List.cons.injEq, reduceCtorEq, and_true, true_and, false_and, and_false, exists_false, or_false, false_or, or_true, true_or, exists_const, CMul, CDiv, CPow, and_assoc, exists_and_left, exists_and_right, Int.reducePow, Int.reduceNeg, Int.reduceLT, Int.reduceLE, Nat.reducePow, Nat.reduceLT, Int.reduceToNat, gt_iff_lt, ge_iff_le, decide_eq_true_eq, Bool.not_eq_true', decide_eq_false_iff_not, scal, ↓reduceIte, Bool.false_eq_true]
      exact k H (Same.refl H)
    | bl b =>
      simp only [cx_K, decide_true, decide_false, reduceCtorEq, gTp, gCons, gNil, ca_0, ca_1, ca_2, ca_3, ca_4, ca_5, ca_6, ca_7, ca_8, ca_9, ca_10, ca_11, ca_12, ca_13, ca_14, ca_15, ca_16, ca_17, ca_18, ca_19, ca_20, ca_21, ca_22, ca_23, ca_24, ca_25, ca_26, ca_27, ca_28, ca_29, ca_30, not_true_eq_false, not_false_eq_true, Int.reduceEq, Nat.reduceEqDiff, Nat.reduceLeDiff, rGcd, V.ty.injEq, eq_self, List.not_mem_nil, beq_self_eq_true, HO.lst.injEq, HO.tup.injEq, tFor_eq, iRng1, iList, iTup, nat10, tSeq, rIxA, rSetA, rIsN, rIsT, tTp, tLs, itsO_tup, itsO_lst, tyO_tup, tyO_lst, tyO_dK, tyN_non, tyN_bl, tyN_int, tyN_str, tyN_ref, tyNs_lt, isB, upd_same, upd_upd, sizeLine_eq, List.mem_cons, String.reduceBEq, String.reduceEq, Bool.or_false, Bool.or_true, Bool.and_false, Bool.false_or, Bool.and_self, Bool.false_and, Bool.not_false, Bool.not_true, List.any_cons, List.any_nil, atI_0, setI_0, atI_1, setI_1, atI_2, setI_2, atI_3, setI_3, atI_4, setI_4, atI_5, setI_5, atI_6, setI_6, tAsg, gName, tOp, tUn, tVar, tC, tCons, L2.tNil, tRet, tIfS, tTest, tCB, tCall, rI, rI0, rU, tNext, tB, tAnd, tOr, tNot, tAndV, tOrV, tNotV, tDrop, tIf, tPar, gSub, rIxL, rIxT, rEq, rNe, rSetL, tBits,
    L2.start, List.map_cons, List.map_nil, List.cons_append, List.nil_append, List.append_nil, List.length_cons, List.length_nil, List.replicate, Nat.reduceAdd, Nat.reduceSub, Nat.zero_add, List.getElem?_cons_zero, List.getElem?_cons_succ, List.set_cons_zero, List.set_cons_succ,
    Option.some.injEq, exists_eq_left', exists_eq_left, V.int.injEq, V.bl.injEq, V.ref.injEq, V.str.injEq, List.cons.injEq, reduceCtorEq, and_true, true_and, false_and, and_false, exists_false, or_false, false_or, or_true, true_or, exists_const, CMul, CDiv, CPow, and_assoc, exists_and_left, exists_and_right, Int.reducePow, Int.reduceNeg, Int.reduceLT, Int.reduceLE, Nat.reducePow, Nat.reduceLT, Int.reduceToNat, gt_iff_lt, ge_iff_le, decide_eq_true_eq, Bool.not_eq_true', decide_eq_false_iff_not, scal, ↓reduceIte, Bool.false_eq_true]
      exact k H (Same.refl H)
    | int i =>
      simp only [cx_K, decide_true, decide_false, reduceCtorEq, gTp, gCons, gNil, ca_0, ca_1, ca_2, ca_3, ca_4, ca_5, ca_6, ca_7, ca_8, ca_9, ca_10, ca_11, ca_12, ca_13, ca_14, ca_15, ca_16, ca_17, ca_18, ca_19, ca_20, ca_21, ca_22, ca_23, ca_24, ca_25, ca_26, ca_27, ca_28, ca_29, ca_30, not_true_eq_false, not_false_eq_true, Int.reduceEq, Nat.reduceEqDiff, Nat.reduceLeDiff, rGcd, V.ty.injEq, eq_self, List.not_mem_nil, beq_self_eq_true, HO.lst.injEq, HO.tup.injEq, tFor_eq, iRng1, iList, iTup, nat10, tSeq, rIxA, rSetA, rIsN, rIsT, tTp, tLs, itsO_tup, itsO_lst, tyO_tup, tyO_lst, tyO_dK, tyN_non, tyN_bl, tyN_int, tyN_str, tyN_ref, tyNs_lt, isB, upd_same, upd_upd, sizeLine_eq, List.mem_cons, String.reduceBEq, String.reduceEq, Bool.or_false, Bool.or_true, Bool.and_false, Bool.false_or, Bool.and_self, Bool.false_and, Bool.not_false, Bool.not_true, List.any_cons, List.any_nil, atI_0, setI_0, atI_1, setI_1, atI_2, setI_2, atI_3, setI_3, atI_4, setI_4, atI_5, setI_5, atI_6, setI_6, tAsg, gName, tOp, tUn, tVar, tC, tCons, L2.tNil, tRet, tIfS, tTest, tCB, tCall, rI, rI0, rU, tNext, tB, tAnd, tOr, tNot, tAndV, tOrV, tNotV, tDrop, tIf, tPar, gSub, rIxL, rIxT, rEq, rNe, rSetL, tBits,
    L2.start, List.map_cons, List.map_nil, List.cons_append, List.nil_append, List.append_nil, List.length_cons, List.length_nil, List.replicate, Nat.reduceAdd, Nat.reduceSub, Nat.zero_add, List.getElem?_cons_zero, List.getElem?_cons_succ, List.set_cons_zero, List.set_cons_succ,
    Option.some.injEq, exists_eq_left', exists_eq_left, V.int.injEq, V.bl.injEq, V.ref.injEq, V.str.injEq, List.cons.injEq, reduceCtorEq, and_true, true_and, false_and, and_false, exists_false, or_false, false_or, or_true, true_or, exists_const, CMul, CDiv, CPow, and_assoc, exists_and_left, exists_and_right, Int.reducePow, Int.reduceNeg, Int.reduceLT, Int.reduceLE, Nat.reducePow, Nat.reduceLT, Int.reduceToNat, gt_iff_lt, ge_iff_le, decide_eq_true_eq, Bool.not_eq_true', decide_eq_false_iff_not, scal, ↓reduceIte, Bool.false_eq_true]
      exact ⟨_, rfl, rfl, true, rfl, k H (Same.refl H)⟩
    | str z =>
      simp only [cx_K, decide_true, decide_false, reduceCtorEq, gTp, gCons, gNil, ca_0, ca_1, ca_2, ca_3, ca_4, ca_5, ca_6, ca_7, ca_8, ca_9, ca_10, ca_11, ca_12, ca_13, ca_14, ca_15, ca_16, ca_17, ca_18, ca_19, ca_20, ca_21, ca_22, ca_23, ca_24, ca_25, ca_26, ca_27, ca_28, ca_29, ca_30, not_true_eq_false, not_false_eq_true, Int.reduceEq, Nat.reduceEqDiff, Nat.reduceLeDiff, rGcd, V.ty.injEq, eq_self, List.not_mem_nil, beq_self_eq_true, HO.lst.injEq, HO.tup.injEq, tFor_eq, iRng1, iList, iTup, nat10, tSeq, rIxA, rSetA, rIsN, rIsT, tTp, tLs, itsO_tup, itsO_lst, tyO_tup, tyO_lst, tyO_dK, tyN_non, tyN_bl, tyN_int, tyN_str, tyN_ref, tyNs_lt, isB, upd_same, upd_upd, sizeLine_eq, List.mem_cons, String.reduceBEq, String.reduceEq, Bool.or_false, Bool.or_true, Bool.and_false, Bool.false_or, Bool.and_self, Bool.false_and, Bool.not_false, Bool.not_true, List.any_cons, List.any_nil, atI_0, setI_0, atI_1, setI_1, atI_2, setI_2, atI_3, setI_3, atI_4, setI_4, atI_5, setI_5, atI_6, setI_6, tAsg, gName, tOp, tUn, tVar, tC, tCons, L2.tNil, tRet, tIfS, tTest, tCB, tCall, rI, rI0, rU, tNext, tB, tAnd, tOr, tNot, tAndV, tOrV, tNotV, tDrop, tIf, tPar, gSub, rIxL, rIxT, rEq, rNe, rSetL, tBits,
    L2.start, List.map_cons, List.map_nil, List.cons_append, List.nil_append, List.append_nil, List.length_cons, List.length_nil, List.replicate, Nat.reduceAdd, Nat.reduceSub, Nat.zero_add, List.getElem?_cons_zero, List.getElem?_cons_succ, List.set_cons_zero, List.set_cons_succ,
    Option.some.injEq, exists_eq_left', exists_eq_left, V.int.injEq, V.bl.injEq, V.ref.injEq, V.str.injEq, List.cons.injEq, reduceCtorEq, and_true, true_and, false_and, and_false, exists_false, or_false, false_or, or_true, true_or, exists_const, CMul, CDiv, CPow, and_assoc, exists_and_left, exists_and_right, Int.reducePow, Int.reduceNeg, Int.reduceLT, Int.reduceLE, Nat.reducePow, Nat.reduceLT, Int.reduceToNat, gt_iff_lt, ge_iff_le, decide_eq_true_eq, Bool.not_eq_true', decide_eq_false_iff_not, scal, ↓reduceIte, Bool.false_eq_true]
      exact k H (Same.refl H)
    | _ => cases hsc
  rcases ho with ⟨oa, oc⟩ | ⟨oa, oc⟩
  · simp only [oa, oc, cx_K, decide_true, decide_false, reduceCtorEq, gTp, gCons, gNil, ca_0, ca_1, ca_2, ca_3, ca_4, ca_5, ca_6, ca_7, ca_8, ca_9, ca_10, ca_11, ca_12, ca_13, ca_14, ca_15, ca_16, ca_17, ca_18, ca_19, ca_20, ca_21, ca_22, ca_23, ca_24, ca_25, ca_26, ca_27, ca_28, ca_29, ca_30, not_true_eq_false, not_false_eq_true, Int.reduceEq, Nat.reduceEqDiff, Nat.reduceLeDiff, rGcd, V.ty.injEq, eq_self, List.not_mem_nil, beq_self_eq_true, HO.lst.injEq, HO.tup.injEq, tFor_eq, iRng1, iList, iTup, nat10, tSeq, rIxA, rSetA, rIsN, rIsT, tTp, tLs, itsO_tup, itsO_lst, tyO_tup, tyO_lst, tyO_dK, tyN_non, tyN_bl, tyN_int, tyN_str, tyN_ref, tyNs_lt, isB, upd_same, upd_upd, sizeLine_eq, List.mem_cons, String.reduceBEq, String.reduceEq, Bool.or_false, Bool.or_true, Bool.and_false, Bool.false_or, Bool.and_self, Bool.false_and, Bool.not_false, Bool.not_true, List.any_cons, List.any_nil, atI_0, setI_0, atI_1, setI_1, atI_2, setI_2, atI_3, setI_3, atI_4, setI_4, atI_5, setI_5, atI_6, setI_6, tAsg, gName, tOp, tUn, tVar, tC, tCons, L2.tNil, tRet, tIfS, tTest, tCB, tCall, rI, rI0, rU, tNext, tB, tAnd, tOr, tNot, tAndV, tOrV, tNotV, tDrop, tIf, tPar, gSub, rIxL, rIxT, rEq, rNe, rSetL, tBits,
    L2.start, List.map_cons, List.map_nil, List.cons_append, List.nil_append, List.append_nil, List.length_cons, List.length_nil, List.replicate, Nat.reduceAdd, Nat.reduceSub, Nat.zero_add, List.getElem?_cons_zero, List.getElem?_cons_succ, List.set_cons_zero, List.set_cons_succ,
    Option.some.injEq, exists_eq_left', exists_eq_left, V.int.injEq, V.bl.injEq, V.ref.injEq, V.str.injEq, List.cons.injEq, reduceCtorEq, and_true, true_and, false_and, and_false, exists_false, or_false, false_or, or_true, true_or, exists_const, CMul, CDiv, CPow, and_assoc, exists_and_left, exists_and_right, Int.reducePow, Int.reduceNeg, Int.reduceLT, Int.reduceLE, Nat.reducePow, Nat.reduceLT, Int.reduceToNat, gt_iff_lt, ge_iff_le, decide_eq_true_eq, Bool.not_eq_true', decide_eq_false_iff_not, scal, ↓reduceIte, Bool.false_eq_true]
    intro p hp kp
    have s1 := Same.new hp (.tup [V.ty "list", V.ty "tuple"])
    generalize upd H p (.tup [V.ty "list", V.ty "tuple"]) = H1 at s1 ⊢
    have oa1 := ob_same s1 oa
    have oc1 := ob_same s1 oc
    simp only [oa1, oc1, cx_K, decide_true, decide_false, reduceCtorEq, gTp, gCons, gNil, ca_0, ca_1, ca_2, ca_3, ca_4, ca_5, ca_6, ca_7, ca_8, ca_9, ca_10, ca_11, ca_12, ca_13, ca_14, ca_15, ca_16, ca_17, ca_18, ca_19, ca_20, ca_21, ca_22, ca_23, ca_24, ca_25, ca_26, ca_27, ca_28, ca_29, ca_30, not_true_eq_false, not_false_eq_true, Int.reduceEq, Nat.reduceEqDiff, Nat.reduceLeDiff, rGcd, V.ty.injEq, eq_self, List.not_mem_nil, beq_self_eq_true, HO.lst.injEq, HO.tup.injEq, tFor_eq, iRng1, iList, iTup, nat10, tSeq, rIxA, rSetA, rIsN, rIsT, tTp, tLs, itsO_tup, itsO_lst, tyO_tup, tyO_lst, tyO_dK, tyN_non, tyN_bl, tyN_int, tyN_str, tyN_ref, tyNs_lt, isB, upd_same, upd_upd, sizeLine_eq, List.mem_cons, String.reduceBEq, String.reduceEq, Bool.or_false, Bool.or_true, Bool.and_false, Bool.false_or, Bool.and_self, Bool.false_and, Bool.not_false, Bool.not_true, List.any_cons, List.any_nil, atI_0, setI_0, atI_1, setI_1, atI_2, setI_2, atI_3, setI_3, atI_4, setI_4, atI_5, setI_5, atI_6, setI_6, tAsg, gName, tOp, tUn, tVar, tC, tCons, L2.tNil, tRet, tIfS, tTest, tCB, tCall, rI, rI0, rU, tNext, tB, tAnd, tOr, tNot, tAndV, tOrV, tNotV, tDrop, tIf, tPar, gSub, rIxL, rIxT, rEq, rNe, rSetL, tBits,
    L2.start, List.map_cons, List.map_nil, List.cons_append, List.nil_append, List.append_nil, List.length_cons, List.length_nil, List.replicate, Nat.reduceAdd, Nat.reduceSub, Nat.zero_add, List.getElem?_cons_zero, List.getElem?_cons_succ, List.set_cons_zero, List.set_cons_succ,
    Option.some.injEq, exists_eq_left', exists_eq_left, V.int.injEq, V.bl.injEq, V.ref.injEq, V.str.injEq, List.cons.injEq, reduceCtorEq, and_true, true_and, false_and, and_false, exists_false, or_false, false_or, or_true, true_or, exists_const, CMul, CDiv, CPow, and_assoc, exists_and_left, exists_and_right, Int.reducePow, Int.reduceNeg, Int.reduceLT, Int.reduceLE, Nat.reducePow, Nat.reduceLT, Int.reduceToNat, gt_iff_lt, ge_iff_le, decide_eq_true_eq, Bool.not_eq_true', decide_eq_false_iff_not, scal, ↓reduceIte, Bool.false_eq_true]
    rw [if_neg (show ¬ ¬ ((xs.length : Int) = (ys.length : Int)) by omega)]
    refine ⟨by omega, by omega, forI_range (SameI H a b) ⟨none, rfl, s1⟩ ?_ ?_⟩
    · rintro i σ H' hlt ⟨z, rfl, s2⟩
      have hx : i < xs.length := by omega
      have hy : i < ys.length := by omega
      have oa2 := ob_same s2 oa
      have oc2 := ob_same s2 oc
      have ex : atI xs (0 + (i : Int)) = some xs[i] := by rw [Int.zero_add]; exact atI_nat (List.getElem?_eq_getElem hx)
      have ey : atI ys (0 + (i : Int)) = some ys[i] := by rw [Int.zero_add]; exact atI_nat (List.getElem?_eq_getElem hy)
      simp only [oa2, oc2, ex, ey, cx_K, decide_true, decide_false, reduceCtorEq, gTp, gCons, gNil, ca_0, ca_1, ca_2, ca_3, ca_4, ca_5, ca_6, ca_7, ca_8, ca_9, ca_10, ca_11, ca_12, ca_13, ca_14, ca_15, ca_16, ca_17, ca_18, ca_19, ca_20, ca_21, ca_22, ca_23, ca_24, ca_25, ca_26, ca_27, ca_28, ca_29, ca_30, not_true_eq_false, not_false_eq_true, Int.reduceEq, Nat.reduceEqDiff, Nat.reduceLeDiff, rGcd, V.ty.injEq, eq_self, List.not_mem_nil, beq_self_eq_true, HO.lst.injEq, HO.tup.injEq, tFor_eq, iRng1, iList, iTup, nat10, tSeq, rIxA, rSetA, rIsN, rIsT, tTp, tLs, itsO_tup, itsO_lst, tyO_tup, tyO_lst, tyO_dK, tyN_non, tyN_bl, tyN_int, tyN_str, tyN_ref, tyNs_lt, isB, upd_same, upd_upd, sizeLine_eq, List.mem_cons, String.reduceBEq, String.reduceEq, Bool.or_false, Bool.or_true, Bool.and_false, Bool.false_or, Bool.and_self, Bool.false_and, Bool.not_false, Bool.not_true, List.any_cons, List.any_nil, atI_0, setI_0, atI_1, setI_1, atI_2, setI_2, atI_3, setI_3, atI_4, setI_4, atI_5, setI_5, atI_6, setI_6, tAsg, gName, tOp, tUn, tVar, tC, tCons, L2.tNil, tRet, tIfS, tTest, tCB, tCall, rI, rI0, rU, tNext, tB, tAnd, tOr, tNot, tAndV, tOrV, tNotV, tDrop, tIf, tPar, gSub, rIxL, rIxT, rEq, rNe, rSetL, tBits,
    L2.start, List.map_cons, List.map_nil, List.cons_append, List.nil_append, List.append_nil, List.length_cons, List.length_nil, List.replicate, Nat.reduceAdd, Nat.reduceSub, Nat.zero_add, List.getElem?_cons_zero, List.getElem?_cons_succ, List.set_cons_zero, List.set_cons_succ,
    Option.some.injEq, exists_eq_left', exists_eq_left, V.int.injEq, V.bl.injEq, V.ref.injEq, V.str.injEq, List.cons.injEq, reduceCtorEq, and_true, true_and, false_and, and_false, exists_false, or_false, false_or, or_true, true_or, exists_const, CMul, CDiv, CPow, and_assoc, exists_and_left, exists_and_right, Int.reducePow, Int.reduceNeg, Int.reduceLT, Int.reduceLE, Nat.reducePow, Nat.reduceLT, Int.reduceToNat, gt_iff_lt, ge_iff_le, decide_eq_true_eq, Bool.not_eq_true', decide_eq_false_iff_not, scal, ↓reduceIte, Bool.false_eq_true]
      refine ⟨_, _, rfl, (hi i _ _ (List.getElem?_eq_getElem hx) (List.getElem?_eq_getElem hy)).same s2, fun H2 s3 => ⟨true, rfl, ?_⟩⟩
      rw [if_neg Bool.noConfusion]
      exact ⟨_, rfl, s2.trans s3⟩
    · rintro σ H' ⟨z, rfl, s2⟩
      simp only [cx_K, decide_true, decide_false, reduceCtorEq, gTp, gCons, gNil, ca_0, ca_1, ca_2, ca_3, ca_4, ca_5, ca_6, ca_7, ca_8, ca_9, ca_10, ca_11, ca_12, ca_13, ca_14, ca_15, ca_16, ca_17, ca_18, ca_19, ca_20, ca_21, ca_22, ca_23, ca_24, ca_25, ca_26, ca_27, ca_28, ca_29, ca_30, not_true_eq_false, not_false_eq_true, Int.reduceEq, Nat.reduceEqDiff, Nat.reduceLeDiff, rGcd, V.ty.injEq, eq_self, List.not_mem_nil, beq_self_eq_true, HO.lst.injEq, HO.tup.injEq, tFor_eq, iRng1, iList, iTup, nat10, tSeq, rIxA, rSetA, rIsN, rIsT, tTp, tLs, itsO_tup, itsO_lst, tyO_tup, tyO_lst, tyO_dK, tyN_non, tyN_bl, tyN_int, tyN_str, tyN_ref, tyNs_lt, isB, upd_same, upd_upd, sizeLine_eq, List.mem_cons, String.reduceBEq, String.reduceEq, Bool.or_false, Bool.or_true, Bool.and_false, Bool.false_or, Bool.and_self, Bool.false_and, Bool.not_false, Bool.not_true, List.any_cons, List.any_nil, atI_0, setI_0, atI_1, setI_1, atI_2, setI_2, atI_3, setI_3, atI_4, setI_4, atI_5, setI_5, atI_6, setI_6, tAsg, gName, tOp, tUn, tVar, tC, tCons, L2.tNil, tRet, tIfS, tTest, tCB, tCall, rI, rI0, rU, tNext, tB, tAnd, tOr, tNot, tAndV, tOrV, tNotV, tDrop, tIf, tPar, gSub, rIxL, rIxT, rEq, rNe, rSetL, tBits,
    L2.start, List.map_cons, List.map_nil, List.cons_append, List.nil_append, List.append_nil, List.length_cons, List.length_nil, List.replicate, Nat.reduceAdd, Nat.reduceSub, Nat.zero_add, List.getElem?_cons_zero, List.getElem?_cons_succ, List.set_cons_zero, List.set_cons_succ,
    Option.some.injEq, exists_eq_left', exists_eq_left, V.int.injEq, V.bl.injEq, V.ref.injEq, V.str.injEq, List.cons.injEq, reduceCtorEq, and_true, true_and, false_and, and_false, exists_false, or_false, false_or, or_true, true_or, exists_const, CMul, CDiv, CPow, and_assoc, exists_and_left, exists_and_right, Int.reducePow, Int.reduceNeg, Int.reduceLT, Int.reduceLE, Nat.reducePow, Nat.reduceLT, Int.reduceToNat, gt_iff_lt, ge_iff_le, decide_eq_true_eq, Bool.not_eq_true', decide_eq_false_iff_not, scal, ↓reduceIte, Bool.false_eq_true]
      exact k H' s2
  · simp only [oa, oc, cx_K, decide_true, decide_false, reduceCtorEq, gTp, gCons, gNil, ca_0, ca_1, ca_2, ca_3, ca_4, ca_5, ca_6, ca_7, ca_8, ca_9, ca_10, ca_11, ca_12, ca_13, ca_14, ca_15, ca_16, ca_17, ca_18, ca_19, ca_20, ca_21, ca_22, ca_23, ca_24, ca_25, ca_26, ca_27, ca_28, ca_29, ca_30, not_true_eq_false, not_false_eq_true, Int.reduceEq, Nat.reduceEqDiff, Nat.reduceLeDiff, rGcd, V.ty.injEq, eq_self, List.not_mem_nil, beq_self_eq_true, HO.lst.injEq, HO.tup.injEq, tFor_eq, iRng1, iList, iTup, nat10, tSeq, rIxA, rSetA, rIsN, rIsT, tTp, tLs, itsO_tup, itsO_lst, tyO_tup, tyO_lst, tyO_dK, tyN_non, tyN_bl, tyN_int, tyN_str, tyN_ref, tyNs_lt, isB, upd_same, upd_upd, sizeLine_eq, List.mem_cons, String.reduceBEq, String.reduceEq, Bool.or_false, Bool.or_true, Bool.and_false, Bool.false_or, Bool.and_self, Bool.false_and, Bool.not_false, Bool.not_true, List.any_cons, List.any_nil, atI_0, setI_0, atI_1, setI_1, atI_2, setI_2, atI_3, setI_3, atI_4, setI_4, atI_5, setI_5, atI_6, setI_6, tAsg, gName, tOp, tUn, tVar, tC, tCons, L2.tNil, tRet, tIfS, tTest, tCB, tCall, rI, rI0, rU, tNext, tB, tAnd, tOr, tNot, tAndV, tOrV, tNotV, tDrop, tIf, tPar, gSub, rIxL, rIxT, rEq, rNe, rSetL, tBits,
    L2.start, List.map_cons, List.map_nil, List.cons_append, List.nil_append, List.append_nil, List.length_cons, List.length_nil, List.replicate, Nat.reduceAdd, Nat.reduceSub, Nat.zero_add, List.getElem?_cons_zero, List.getElem?_cons_succ, List.set_cons_zero, List.set_cons_succ,
    Option.some.injEq, exists_eq_left', exists_eq_left, V.int.injEq, V.bl.injEq, V.ref.injEq, V.str.injEq, List.cons.injEq, reduceCtorEq, and_true, true_and, false_and, and_false, exists_false, or_false, false_or, or_true, true_or, exists_const, CMul, CDiv, CPow, and_assoc, exists_and_left, exists_and_right, Int.reducePow, Int.reduceNeg, Int.reduceLT, Int.reduceLE, Nat.reducePow, Nat.reduceLT, Int.reduceToNat, gt_iff_lt, ge_iff_le, decide_eq_true_eq, Bool.not_eq_true', decide_eq_false_iff_not, scal, ↓reduceIte, Bool.false_eq_true]
    intro p hp kp
    have s1 := Same.new hp (.tup [V.ty "list", V.ty "tuple"])
    generalize upd H p (.tup [V.ty "list", V.ty "tuple"]) = H1 at s1 ⊢
    have oa1 := ob_same s1 oa
    have oc1 := ob_same s1 oc
    simp only [oa1, oc1, cx_K, decide_true, decide_false, reduceCtorEq, gTp, gCons, gNil, ca_0, ca_1, ca_2, ca_3, ca_4, ca_5, ca_6, ca_7, ca_8, ca_9, ca_10, ca_11, ca_12, ca_13, ca_14, ca_15, ca_16, ca_17, ca_18, ca_19, ca_20, ca_21, ca_22, ca_23, ca_24, ca_25, ca_26, ca_27, ca_28, ca_29, ca_30, not_true_eq_false, not_false_eq_true, Int.reduceEq, Nat.reduceEqDiff, Nat.reduceLeDiff, rGcd, V.ty.injEq, eq_self, List.not_mem_nil, beq_self_eq_true, HO.lst.injEq, HO.tup.injEq, tFor_eq, iRng1, iList, iTup, nat10, tSeq, rIxA, rSetA, rIsN, rIsT, tTp, tLs, itsO_tup, itsO_lst, tyO_tup, tyO_lst, tyO_dK, tyN_non, tyN_bl, tyN_int, tyN_str, tyN_ref, tyNs_lt, isB, upd_same, upd_upd, sizeLine_eq, List.mem_cons, String.reduceBEq, String.reduceEq, Bool.or_false, Bool.or_true, Bool.and_false, Bool.false_or, Bool.and_self, Bool.false_and, Bool.not_false, Bool.not_true, List.any_cons, List.any_nil, atI_0, setI_0, atI_1, setI_1, atI_2, setI_2, atI_3, setI_3, atI_4, setI_4, atI_5, setI_5, atI_6, setI_6, tAsg, gName, tOp, tUn, tVar, tC, tCons, L2.tNil, tRet, tIfS, tTest, tCB, tCall, rI, rI0, rU, tNext, tB, tAnd, tOr, tNot, tAndV, tOrV, tNotV, tDrop, tIf, tPar, gSub, rIxL, rIxT, rEq, rNe, rSetL, tBits,
    L2.start, List.map_cons, List.map_nil, List.cons_append, List.nil_append, List.append_nil, List.length_cons, List.length_nil, List.replicate, Nat.reduceAdd, Nat.reduceSub, Nat.zero_add, List.getElem?_cons_zero, List.getElem?_cons_succ, List.set_cons_zero, List.set_cons_succ,
    Option.some.injEq, exists_eq_left', exists_eq_left, V.int.injEq, V.bl.injEq, V.ref.injEq, V.str.injEq, List.cons.injEq, reduceCtorEq, and_true, true_and, false_and, and_false, exists_false, or_false, false_or, or_true, true_or, exists_const, CMul, CDiv, CPow, and_assoc, exists_and_left, exists_and_right, Int.reducePow, Int.reduceNeg, Int.reduceLT, Int.reduceLE, Nat.reducePow, Nat.reduceLT, Int.reduceToNat, gt_iff_lt, ge_iff_le, decide_eq_true_eq, Bool.not_eq_true', decide_eq_false_iff_not, scal, ↓reduceIte, Bool.false_eq_true]
    rw [if_neg (show ¬ ¬ ((xs.length : Int) = (ys.length : Int)) by omega)]
    refine ⟨by omega, by omega, forI_range (SameI H a b) ⟨none, rfl, s1⟩ ?_ ?_⟩
    · rintro i σ H' hlt ⟨z, rfl, s2⟩
      have hx : i < xs.length := by omega
      have hy : i < ys.length := by omega
      have oa2 := ob_same s2 oa
      have oc2 := ob_same s2 oc
      have ex : atI xs (0 + (i : Int)) = some xs[i] := by rw [Int.zero_add]; exact atI_nat (List.getElem?_eq_getElem hx)
      have ey : atI ys (0 + (i : Int)) = some ys[i] := by rw [Int.zero_add]; exact atI_nat (List.getElem?_eq_getElem hy)
      simp only [oa2, oc2, ex, ey, cx_K, decide_true, decide_false, reduceCtorEq, gTp, gCons, gNil, ca_0, ca_1, ca_2, ca_3, ca_4, ca_5, ca_6, ca_7, ca_8, ca_9, ca_10, ca_11, ca_12, ca_13, ca_14, ca_15, ca_16, ca_17, ca_18, ca_19, ca_20, ca_21, ca_22, ca_23, ca_24, ca_25, ca_26, ca_27, ca_28, ca_29, ca_30, not_true_eq_false, not_false_eq_true, Int.reduceEq, Nat.reduceEqDiff, Nat.reduceLeDiff, rGcd, V.ty.injEq, eq_self, List.not_mem_nil, beq_self_eq_true, HO.lst.injEq, HO.tup.injEq, tFor_eq, iRng1, iList, iTup, nat10, tSeq, rIxA, rSetA, rIsN, rIsT, tTp, tLs, itsO_tup, itsO_lst, tyO_tup, tyO_lst, tyO_dK, tyN_non, tyN_bl, tyN_int, tyN_str, tyN_ref, tyNs_lt, isB, upd_same, upd_upd, sizeLine_eq, List.mem_cons, String.reduceBEq, String.reduceEq, Bool.or_false, Bool.or_true, Bool.and_false, Bool.false_or, Bool.and_self, Bool.false_and, Bool.not_false, Bool.not_true, List.any_cons, List.any_nil, atI_0, setI_0, atI_1, setI_1, atI_2, setI_2, atI_3, setI_3, atI_4, setI_4, atI_5, setI_5, atI_6, setI_6, tAsg, gName, tOp, tUn, tVar, tC, tCons, L2.tNil, tRet, tIfS, tTest, tCB, tCall, rI, rI0, rU, tNext, tB, tAnd, tOr, tNot, tAndV, tOrV, tNotV, tDrop, tIf, tPar, gSub, rIxL, rIxT, rEq, rNe, rSetL, tBits,
    L2.start, List.map_cons, List.map_nil, List.cons_append, List.nil_append, List.append_nil, List.length_cons, List.length_nil, List.replicate, Nat.reduceAdd, Nat.reduceSub, Nat.zero_add, List.getElem?_cons_zero, List.getElem?_cons_succ, List.set_cons_zero, List.set_cons_succ,
    Option.some.injEq, exists_eq_left', exists_eq_left, V.int.injEq, V.bl.injEq, V.ref.injEq, V.str.injEq, List.cons.injEq, reduceCtorEq, and_true, true_and, false_and, and_false, exists_false, or_false, false_or, or_true, true_or, exists_const, CMul, CDiv, CPow, and_assoc, exists_and_left, exists_and_right, Int.reducePow, Int.reduceNeg, Int.reduceLT, Int.reduceLE, Nat.reducePow, Nat.reduceLT, Int.reduceToNat, gt_iff_lt, ge_iff_le, decide_eq_true_eq, Bool.not_eq_true', decide_eq_false_iff_not, scal, ↓reduceIte, Bool.false_eq_true]
      refine ⟨_, _, rfl, (hi i _ _ (List.getElem?_eq_getElem hx) (List.getElem?_eq_getElem hy)).same s2, fun H2 s3 => ⟨true, rfl, ?_⟩⟩
      rw [if_neg Bool.noConfusion]
      exact ⟨_, rfl, s2.trans s3⟩
    · rintro σ H' ⟨z, rfl, s2⟩
      simp only [cx_K, decide_true, decide_false, reduceCtorEq, gTp, gCons, gNil, ca_0, ca_1, ca_2, ca_3, ca_4, ca_5, ca_6, ca_7, ca_8, ca_9, ca_10, ca_11, ca_12, ca_13, ca_14, ca_15, ca_16, ca_17, ca_18, ca_19, ca_20, ca_21, ca_22, ca_23, ca_24, ca_25, ca_26, ca_27, ca_28, ca_29, ca_30, not_true_eq_false, not_false_eq_true, Int.reduceEq, Nat.reduceEqDiff, Nat.reduceLeDiff, rGcd, V.ty.injEq, eq_self, List.not_mem_nil, beq_self_eq_true, HO.lst.injEq, HO.tup.injEq, tFor_eq, iRng1, iList, iTup, nat10, tSeq, rIxA, rSetA, rIsN, rIsT, tTp, tLs, itsO_tup, itsO_lst, tyO_tup, tyO_lst, tyO_dK, tyN_non, tyN_bl, tyN_int, tyN_str, tyN_ref, tyNs_lt, isB, upd_same, upd_upd, sizeLine_eq, List.mem_cons, String.reduceBEq, String.reduceEq, Bool.or_false, Bool.or_true, Bool.and_false, Bool.false_or, Bool.and_self, Bool.false_and, Bool.not_false, Bool.not_true, List.any_cons, List.any_nil, atI_0, setI_0, atI_1, setI_1, atI_2, setI_2, atI_3, setI_3, atI_4, setI_4, atI_5, setI_5, atI_6, setI_6, tAsg, gName, tOp, tUn, tVar, tC, tCons, L2.tNil, tRet, tIfS, tTest, tCB, tCall, rI, rI0, rU, tNext, tB, tAnd, tOr, tNot, tAndV, tOrV, tNotV, tDrop, tIf, tPar, gSub, rIxL, rIxT, rEq, rNe, rSetL, tBits,
    L2.start, List.map_cons, List.map_nil, List.cons_append, List.nil_append, List.append_nil, List.length_cons, List.length_nil, List.replicate, Nat.reduceAdd, Nat.reduceSub, Nat.zero_add, List.getElem?_cons_zero, List.getElem?_cons_succ, List.set_cons_zero, List.set_cons_succ,
    Option.some.injEq, exists_eq_left', exists_eq_left, V.int.injEq, V.bl.injEq, V.ref.injEq, V.str.injEq, List.cons.injEq, reduceCtorEq, and_true, true_and, false_and, and_false, exists_false, or_false, false_or, or_true, true_or, exists_const, CMul, CDiv, CPow, and_assoc, exists_and_left, exists_and_right, Int.reducePow, Int.reduceNeg, Int.reduceLT, Int.reduceLE, Nat.reducePow, Nat.reduceLT, Int.reduceToNat, gt_iff_lt, ge_iff_le, decide_eq_true_eq, Bool.not_eq_true', decide_eq_false_iff_not, scal, ↓reduceIte, Bool.false_eq_true]
      exact k H' s2
  · simp only [oa, oc, cx_K, decide_true, decide_false, reduceCtorEq, gTp, gCons, gNil, ca_0, ca_1, ca_2, ca_3, ca_4, ca_5, ca_6, ca_7, ca_8, ca_9, ca_10, ca_11, ca_12, ca_13, ca_14, ca_15, ca_16, ca_17, ca_18, ca_19, ca_20, ca_21, ca_22, ca_23, ca_24, ca_25, ca_26, ca_27, ca_28, ca_29, ca_30, not_true_eq_false, not_false_eq_true, Int.reduceEq, Nat.reduceEqDiff, Nat.reduceLeDiff, rGcd, V.ty.injEq, eq_self, List.not_mem_nil, beq_self_eq_true, HO.lst.injEq, HO.tup.injEq, tFor_eq, iRng1, iList, iTup, nat10, tSeq, rIxA, rSetA, rIsN, rIsT, tTp, tLs, itsO_tup, itsO_lst, tyO_tup, tyO_lst, tyO_dK, tyN_non, tyN_bl, tyN_int, tyN_str, tyN_ref, tyNs_lt, isB, upd_same, upd_upd, sizeLine_eq, List.mem_cons, String.reduceBEq, String.reduceEq, Bool.or_false, Bool.or_true, Bool.and_false, Bool.false_or, Bool.and_self, Bool.false_and, Bool.not_false, Bool.not_true, List.any_cons, List.any_nil, atI_0, setI_0, atI_1, setI_1, atI_2, setI_2, atI_3, setI_3, atI_4, setI_4, atI_5, setI_5, atI_6, setI_6, tAsg, gName, tOp, tUn, tVar, tC, tCons, L2.tNil, tRet, tIfS, tTest, tCB, tCall, rI, rI0, rU, tNext, tB, tAnd, tOr, tNot, tAndV, tOrV, tNotV, tDrop, tIf, tPar, gSub, rIxL, rIxT, rEq, rNe, rSetL, tBits,
    L2.start, List.map_cons, List.map_nil, List.cons_append, List.nil_append, List.append_nil, List.length_cons, List.length_nil, List.replicate, Nat.reduceAdd, Nat.reduceSub, Nat.zero_add, List.getElem?_cons_zero, List.getElem?_cons_succ, List.set_cons_zero, List.set_cons_succ,
    Option.some.injEq, exists_eq_left', exists_eq_left, V.int.injEq, V.bl.injEq, V.ref.injEq, V.str.injEq, List.cons.injEq, reduceCtorEq, and_true, true_and, false_and, and_false, exists_false, or_false, false_or, or_true, true_or, exists_const, CMul, CDiv, CPow, and_assoc, exists_and_left, exists_and_right, Int.reducePow, Int.reduceNeg, Int.reduceLT, Int.reduceLE, Nat.reducePow, Nat.reduceLT, Int.reduceToNat, gt_iff_lt, ge_iff_le, decide_eq_true_eq, Bool.not_eq_true', decide_eq_false_iff_not, scal, ↓reduceIte, Bool.false_eq_true]
    refine ⟨_, rfl, a, [], rfl, (ob_H oa fun _ z => by cases z).1, fun l1 hl1 fr1 => ?_⟩
    have s1 := Same.new hl1 (.lst [])
    have o1 := ob_new (H := H) (o := .lst []) (fr1 l1 (by rw [upd_same]; simp))
    have hb1 := s1 _ _ (ob_H oc fun _ z => by cases z).1
    have oa1 := ob_same s1 oa
    have oc1 := ob_same s1 oc
    refine ⟨_, rfl, b, [], rfl, hb1, fun l2 hl2 fr2 => ?_⟩
    have s2 : Same (upd H l1 (.lst [])) (upd (upd H l1 (.lst [])) l2 (.lst [])) := Same.new hl2 (.lst [])
    have o2 := ob_new (H := upd H l1 (.lst [])) (o := .lst []) (fr2 l2 (by rw [upd_same]; simp))
    have e1 : Eqv K (upd (upd H l1 (.lst [])) l2 (.lst [])) (m + 1) (.ref l1) (.ref l2) := .inr (.inl ⟨l1, l2, [], [], rfl, rfl, .inr ⟨ob_same s2 o1, o2⟩, rfl, by show 0 ≤ 1000; omega, fun i x y hx _ => by simp at hx⟩)
    refine ⟨_, _, rfl, e1, fun H3 s3 => ⟨true, rfl, ?_⟩⟩
    rw [if_neg Bool.noConfusion]
    have s13 := s2.trans s3
    have oa3 := ob_same s13 oa1
    have oc3 := ob_same s13 oc1
    refine ⟨_, rfl, a, [], rfl, (ob_H oa3 fun _ z => by cases z).1, fun l3 hl3 kl3 => ?_⟩
    have s4 := Same.new hl3 (.lst [])
    have o3 := ob_new (H := H3) (o := .lst []) kl3
    refine ⟨_, rfl, b, [], rfl, s4 _ _ (ob_H oc3 fun _ z => by cases z).1, fun l4 hl4 kl4 => ?_⟩
    have s5 := Same.new hl4 (.lst [])
    have o4 := ob_new (H := upd H3 l3 (.lst [])) (o := .lst []) kl4
    have e2 : Eqv K (upd (upd H3 l3 (.lst [])) l4 (.lst [])) (m + 1) (.ref l3) (.ref l4) := .inr (.inl ⟨l3, l4, [], [], rfl, rfl, .inr ⟨ob_same s5 o3, o4⟩, rfl, by show 0 ≤ 1000; omega, fun i x y hx _ => by simp at hx⟩)
    exact ⟨_, _, rfl, e2, fun H5 s6 => k H5 (s1.trans (s13.trans (s4.trans (s5.trans s6))))⟩
theorem k_same (T : Bt K mg) (D : Dfn K mg "_law_same" sSame ["_law_told", "_law_due"]) (d : Kn P w K mg base 1 "_law_is_whole" ["_law_told"] (spWhole K)) : ∀ n : Nat, Kn P w K mg base (n + 1) "_law_same" ["_law_told", "_law_due"] (spSame K n)
  | 0 => by
    obtain ⟨f, fd, m, kp, b, G⟩ := (Kn.none (P := P) (w := w) (base := base) D).ex
    exact ⟨f, fd, m, kp, b, (G.mono (Nat.zero_le _)).imp fun vs H Q E h => h.elim⟩
  | n + 1 => k_Same n T D d (k_same T D d n)
end
end My

namespace My
open PySem PySem.Spec PyProof.Rows L2
section
variable {P : Program} {w : World} {K : PySem.W.Frag} {mg : Str → Option Value} {base : Heap}
/-! ### what is no fraction -/
def fr2 : List V → Bool
  | [.int n, .int d] => decide (1 ≤ d) && decide (Int.gcd n d = 1)
  | _ => false
theorem frOk_tup {H : Hp} {a : Addr} {xs : List V} (o : ob K H a = some (.tup xs)) : frOk K H (.ref a) = fr2 xs := by
  simp only [frOk, o]
  unfold fr2
  split <;> simp_all
theorem tyN_same {H H' : Hp} {v : V} {t : String} (e : Same H H') (h : tyN K H v = some t) : tyN K H' v = some t := by
  cases v with
  | ref a =>
    have h1 : tyO (ob K H a) = some t := h
    show tyO (ob K H' a) = some t
    cases hz : ob K H a with
    | none => rw [hz] at h1; cases h1
    | some z => rw [ob_same e hz, ← hz]; exact h1
  | _ => exact h
theorem tyS_same {H H' : Hp} {v : V} (e : Same H H') (h : (tyN K H v).isSome) : (tyN K H' v).isSome := by
  obtain ⟨t, ht⟩ := Option.isSome_iff_exists.mp h
  rw [tyN_same e ht]
  rfl
theorem ob_back {H H' : Hp} {a : Addr} {z : HO} (e : Same H H') (h : (tyN K H (.ref a)).isSome) (o : ob K H' a = some z) : ob K H a = some z := by
  cases hz : ob K H a with
  | none =>
    rw [tyN_ref, hz] at h
    cases h
  | some y =>
    rw [← o, ob_same e hz]
structure Gd (K : PySem.W.Frag) (H : Hp) (v : V) : Prop where
  ty : Tyd K H v
  no : frOk K H v = false
theorem Gd.same {H H' : Hp} {v : V} (e : Same H H') (h : Gd K H v) : Gd K H' v := by
  refine ⟨⟨tyS_same e h.ty.1, fun a xs ev o x hx => ?_⟩, ?_⟩
  · subst ev
    exact tyS_same e (h.ty.2 a xs rfl (ob_back e h.ty.1 o) x hx)
  · cases v with
    | ref a =>
      cases hz : ob K H a with
      | none =>
        have := h.ty.1
        rw [tyN_ref, hz] at this
        cases this
      | some z =>
        have e2 : frOk K H' (.ref a) = frOk K H (.ref a) := by simp only [frOk, hz, ob_same e hz]
        rw [e2]
        exact h.no
    | _ => rfl
theorem gd_sc {H : Hp} {v : V} (h : scv v = true) : Gd K H v := by
  refine ⟨⟨?_, fun a xs e => ?_⟩, ?_⟩
  · cases v <;> first | rfl | cases h
  · subst e; cases h
  · cases v <;> first | rfl | cases h
theorem gd_tup {H : Hp} {a : Addr} {xs : List V} (o : ob K H a = some (.tup xs)) (hx : ∀ x ∈ xs, (tyN K H x).isSome) (f : fr2 xs = false) : Gd K H (.ref a) := by
  refine ⟨⟨by rw [tyN_ref, o]; rfl, fun b ys e o' => ?_⟩, by rw [frOk_tup o]; exact f⟩
  cases e
  rw [o] at o'
  cases o'
  exact hx
theorem gd_lst {H : Hp} {a : Addr} {xs : List V} (o : ob K H a = some (.lst xs)) : Gd K H (.ref a) := by
  refine ⟨⟨by rw [tyN_ref, o]; rfl, fun b ys e o' => ?_⟩, by simp only [frOk, o]⟩
  cases e
  rw [o] at o'
  cases o'
theorem gd_dict {H : Hp} {a : Addr} {xs : List (Key × V)} (o : ob K H a = some (.dK xs)) : Gd K H (.ref a) := by
  refine ⟨⟨by rw [tyN_ref, o]; rfl, fun b ys e o' => ?_⟩, by simp only [frOk, o]⟩
  cases e
  rw [o] at o'
  cases o'
/-! ### displays that only make -/
def Mk (R : Hp → V → Prop) (te : TE) : Prop := ∀ σ H Q, (∀ v H', Same H H' → R H' v → Q v H') → te σ H Q
def MkL (R : Hp → V → Prop) (n : Nat) (ta : TA) : Prop := ∀ σ H Q, (∀ vs H', Same H H' → vs.length = n → (∀ v ∈ vs, R H' v) → Q vs H') → ta σ H Q
theorem mkL_nil {R : Hp → V → Prop} : MkL R 0 L2.tNil := fun σ H Q k => k [] H (Same.refl H) rfl fun _ z => absurd z (by simp)
theorem mkL_cons {R : Hp → V → Prop} {n : Nat} {te : TE} {ta : TA} (mono : ∀ (H H' : Hp) (v : V), Same H H' → R H v → R H' v) (h1 : Mk R te) (h2 : MkL R n ta) : MkL R (n + 1) (tCons te ta) := fun σ H Q k =>
  h1 σ H _ fun v H1 s1 r1 => h2 σ H1 _ fun vs H2 s2 hn hr => k (v :: vs) H2 (s1.trans s2) (by rw [List.length_cons, hn]) fun x hx => by
    rcases List.mem_cons.mp hx with e | e
    · subst e; exact mono _ _ _ s2 r1
    · exact hr x e
theorem mk_c {v : V} (h : scv v = true) : Mk (Gd K) (tC v) := fun σ H Q k => k v H (Same.refl H) (gd_sc h)
theorem mk_tc {ta : TA} (xs : List V) (e : ∀ σ H Q, Q xs H → ta σ H Q) (hs : xs.all scv = true) (hf : fr2 xs = false) (hl : xs.length ≤ 100 := by decide) : Mk (Gd K) (tTp K ta) := fun σ H Q k => by
  refine e σ H _ ⟨by rw [sizeLine_eq]; omega, fun p hp kp => k _ _ (Same.new hp _) (gd_tup (ob_new kp) (fun x hx => ?_) hf)⟩
  exact (gd_sc (K := K) (H := upd H p (.tup xs)) (List.all_eq_true.mp hs x hx)).ty.1
theorem mk_ls {ta : TA} {n : Nat} {R : Hp → V → Prop} (h : MkL R n ta) (hl : n ≤ 100 := by decide) : Mk (Gd K) (tLs K ta) := fun σ H Q k =>
  h σ H _ fun vs H1 s1 hn _ => ⟨by rw [sizeLine_eq]; omega, fun p hp kp => k _ _ (s1.trans (Same.new hp _)) (gd_lst (ob_new kp))⟩
theorem mk_dn : Mk (Gd K) (tDn K) := fun σ H Q k p hp kp => k _ _ (Same.new hp _) (gd_dict (ob_new kp))
theorem mk_any {R : Hp → V → Prop} {te : TE} (h : Mk R te) : Mk (fun _ _ => True) te := fun σ H Q k => h σ H Q fun v H' s _ => k v H' s True.intro
theorem mk_tup {ta : TA} {n : Nat} {R : Hp → V → Prop} (h : MkL R n ta) (hl : n ≤ 100 := by decide) : Mk (fun _ _ => True) (tTp K ta) := fun σ H Q k =>
  h σ H _ fun vs H1 s1 hn _ => ⟨by rw [sizeLine_eq]; omega, fun p hp kp => k _ _ (s1.trans (Same.new hp _)) True.intro⟩
/-! the same where names are read -/
def MkA (σ : L2.St) (H0 : Hp) (R : Hp → V → Prop) (te : TE) : Prop := ∀ H, Same H0 H → ∀ Q, (∀ v H', Same H H' → R H' v → Q v H') → te σ H Q
def MkAL (σ : L2.St) (H0 : Hp) (R : Hp → V → Prop) (n : Nat) (ta : TA) : Prop := ∀ H, Same H0 H → ∀ Q, (∀ vs H', Same H H' → vs.length = n → (∀ v ∈ vs, R H' v) → Q vs H') → ta σ H Q
theorem mkA_nil {σ : L2.St} {H0 : Hp} {R : Hp → V → Prop} : MkAL σ H0 R 0 L2.tNil := fun H _ Q k => k [] H (Same.refl H) rfl fun _ z => absurd z (by simp)
theorem mkA_cons {σ : L2.St} {H0 : Hp} {R : Hp → V → Prop} {n : Nat} {te : TE} {ta : TA} (mono : ∀ (H H' : Hp) (v : V), Same H H' → R H v → R H' v) (h1 : MkA σ H0 R te) (h2 : MkAL σ H0 R n ta) : MkAL σ H0 R (n + 1) (tCons te ta) := fun H s Q k =>
  h1 H s _ fun v H1 s1 r1 => h2 H1 (s.trans s1) _ fun vs H2 s2 hn hr => k (v :: vs) H2 (s1.trans s2) (by rw [List.length_cons, hn]) fun x hx => by
    rcases List.mem_cons.mp hx with e | e
    · subst e; exact mono _ _ _ s2 r1
    · exact hr x e
theorem mkA_tc {σ : L2.St} {H0 : Hp} {ta : TA} (xs : List V) (e : ∀ H, Same H0 H → ∀ Q, Q xs H → ta σ H Q) (hs : ∀ x ∈ xs, (tyN K H0 x).isSome) (hf : fr2 xs = false) (hl : xs.length ≤ 100) : MkA σ H0 (Gd K) (tTp K ta) := fun H s Q k => by
  refine e H s _ ⟨by rw [sizeLine_eq]; omega, fun p hp kp => k _ _ (Same.new hp _) (gd_tup (ob_new kp) (fun x hx => ?_) hf)⟩
  exact tyS_same (s.trans (Same.new hp _)) (hs x hx)
theorem mkA_lc {σ : L2.St} {H0 : Hp} {ta : TA} (xs : List V) (e : ∀ H, Same H0 H → ∀ Q, Q xs H → ta σ H Q) (hl : xs.length ≤ 100) : MkA σ H0 (Gd K) (tLs K ta) := fun H s Q k => by
  exact e H s _ ⟨by rw [sizeLine_eq]; omega, fun p hp kp => k _ _ (Same.new hp _) (gd_lst (ob_new kp))⟩
theorem lsA {ta : TA} {n : Nat} {R : Hp → V → Prop} {σ : L2.St} {H : Hp} {Q : VK} (mono : ∀ (H H' : Hp) (v : V), Same H H' → R H v → R H' v) (h : MkAL σ H R n ta) (hl : n ≤ 100)
    (k : ∀ vs p H', Same H H' → H p = none → K.lookup p = none → vs.length = n → (∀ v ∈ vs, R H' v) → H' p = some (.lst vs) → Q (.ref p) H') : tLs K ta σ H Q :=
  h H (Same.refl H) _ fun vs H1 s1 hn hr => ⟨by rw [sizeLine_eq]; omega, fun p hp kp => k vs p _ (s1.trans (Same.new hp _)) (s1.free hp) kp hn (fun v hv => mono _ _ _ (Same.new hp _) (hr v hv)) upd_same⟩
/-! what is no fraction stays so while the draws go on -/
theorem ob_kp2 {H H' : Hp} {s a : Addr} {z : HO} (e : Kp s H H') (n : a ≠ s) (h : ob K H a = some z) : ob K H' a = some z := by
  unfold ob at h ⊢
  split
  · rename_i o q
    rw [q] at h
    exact h
  · rename_i q
    rw [q] at h
    exact e _ _ n h
theorem Sto.ob {H : Hp} {s : Addr} (h : Sto K H s) : ∃ ys, My.ob K H s = some (.lst ys) := by
  obtain ⟨sc, ns, i, b, c, d, e, f, h⟩ := h
  exact ⟨_, (ob_none h.2.2.2.2.1).trans h.1⟩
theorem tyS_kp {H H' : Hp} {s : Addr} {v : V} (e : Kp s H H') (t : Sto K H' s) (h : (tyN K H v).isSome) : (tyN K H' v).isSome := by
  cases v with
  | ref a =>
    by_cases ha : a = s
    · subst ha
      obtain ⟨ys, hy⟩ := t.ob
      rw [tyN_ref, hy]
      rfl
    · cases hz : ob K H a with
      | none => rw [tyN_ref, hz] at h; cases h
      | some z =>
        rw [tyN_ref, ob_kp2 e ha hz, ← hz]
        exact h
  | _ => exact h
theorem Gd.kp {H H' : Hp} {s : Addr} {v : V} (e : Kp s H H') (t : Sto K H' s) (h : Gd K H v) : Gd K H' v := by
  cases v with
  | ref a =>
    by_cases ha : a = s
    · subst ha
      obtain ⟨ys, hy⟩ := t.ob
      exact gd_lst hy
    · cases hz : ob K H a with
      | none =>
        have := h.ty.1
        rw [tyN_ref, hz] at this
        cases this
      | some z =>
        have hz' := ob_kp2 e ha hz
        refine ⟨⟨tyS_kp e t h.ty.1, fun b xs ev o x hx => ?_⟩, ?_⟩
        · cases ev
          rw [hz'] at o
          exact tyS_kp e t (h.ty.2 a xs rfl (hz.trans o) x hx)
        · have e2 : frOk K H' (.ref a) = frOk K H (.ref a) := by simp only [frOk, hz, hz']
          rw [e2]
          exact h.no
  | _ => exact ⟨⟨h.ty.1, fun _ _ e => by cases e⟩, h.no⟩
/-- a list display of such things -/
theorem lsX {ta : TA} {n : Nat} {R : Hp → V → Prop} {σ : L2.St} {H : Hp} {Q : VK} (mono : ∀ (H H' : Hp) (v : V), Same H H' → R H v → R H' v) (h : MkL R n ta) (hl : n ≤ 100)
    (k : ∀ vs p H', Same H H' → H p = none → K.lookup p = none → vs.length = n → (∀ v ∈ vs, R H' v) → H' p = some (.lst vs) → Q (.ref p) H') : tLs K ta σ H Q :=
  h σ H _ fun vs H1 s1 hn hr => ⟨by rw [sizeLine_eq]; omega, fun p hp kp => k vs p _ (s1.trans (Same.new hp _)) (s1.free hp) kp hn (fun v hv => mono _ _ _ (Same.new hp _) (hr v hv)) upd_same⟩
end
end My

namespace My
open PySem PySem.Spec PyProof.Rows L2
/-- a comprehension over zip of two lists, the second one not the longer -/
theorem lc_zip {K : PySem.W.Frag} {a b : Addr} {xs ys : List V} {g : TG} {tt : TT} {te : TE} {vs : List Nat} {σ : L2.St} {H1 : Hp} {D : Addr} {Qd : Hp → Prop} (hle : ys.length ≤ xs.length) (Pv : Nat → Hp → Prop) (h0 : Pv 0 (upd H1 D (.lst []))) (hl : ∀ i H, i ≤ ys.length → Pv i H → SqL K H a xs ∧ SqL K H b ys)
    (hs : ∀ (i : Nat) (x y : V) (T : Addr) (H : Hp), xs[i]? = some x → ys[i]? = some y → Pv i H → H T = none → g (.ref T) (wipe σ vs) (upd H T (.tup [x, y])) fun σ2 H2 => wipe σ2 vs = wipe σ vs ∧ tt σ2 H2 fun b H3 =>
      if b = true then te σ2 H3 fun y H4 => ∃ acc, H4 D = some (.lst acc) ∧ acc.length < sizeLine ∧ Pv (i + 1) (upd H4 D (.lst (acc ++ [y]))) else Pv (i + 1) H3) (hd : ∀ H, Pv ys.length H → Qd H) :
    ∃ W : Nat → Nat → Hp → Prop, (∃ m, W 0 m (upd H1 D (.lst []))) ∧ ∀ i m H, W i m H →
      ((Itz K a b).stop i H ∧ Qd H) ∨ ((Itz K a b).go i H ∧ ∃ Nx : Hp → Prop, (∀ H', Nx H' → ∃ m', m' < m ∧ W (i + 1) m' H') ∧ ∀ x H', (Itz K a b).yld i H x H' → g x (wipe σ vs) H' fun σ2 H2 => wipe σ2 vs = wipe σ vs ∧ tt σ2 H2 fun b H3 =>
        if b = true then te σ2 H3 fun y H4 => ∃ acc, H4 D = some (.lst acc) ∧ acc.length < sizeLine ∧ Nx (upd H4 D (.lst (acc ++ [y]))) else Nx H3) := by
  refine ⟨fun i m H => m = ys.length - i ∧ i ≤ ys.length ∧ Pv i H, ⟨ys.length, by simp, Nat.zero_le _, h0⟩, ?_⟩
  rintro i m H ⟨rfl, hi, p⟩
  obtain ⟨qx, qy⟩ := hl i H hi p
  by_cases hlt : i < ys.length
  · have hx : xs[i]? = some xs[i] := List.getElem?_eq_getElem (by omega)
    have hy : ys[i]? = some ys[i] := List.getElem?_eq_getElem hlt
    refine .inr ⟨⟨xs, ys, _, _, qx, qy, hx, hy⟩, Pv (i + 1), fun H' p' => ⟨ys.length - (i + 1), by omega, rfl, hlt, p'⟩, fun v H' y => ?_⟩
    obtain ⟨T, x', y', rfl, hT, rfl, f1, f2⟩ := y
    exact hs i x' y' T H (f1 xs qx) (f2 ys qy) p hT
  · have e : i = ys.length := by omega
    subst e
    exact .inl ⟨⟨xs, ys, qx, qy, Or.inr (Nat.le_refl _)⟩, hd H p⟩
/-! ### differences -/
def dif : List Int → List Int
  | x :: y :: r => (y - x) :: dif (y :: r)
  | _ => []
theorem dif_len : ∀ ns : List Int, (dif ns).length = ns.length - 1
  | [] => rfl
  | [_] => rfl
  | x :: y :: r => by
    show (dif (y :: r)).length + 1 = r.length + 1 + 1 - 1
    rw [dif_len (y :: r), List.length_cons]
    omega
theorem dif_at : ∀ {ns : List Int} {i : Nat} {a b : Int}, ns[i]? = some a → ns[i + 1]? = some b → (dif ns)[i]? = some (b - a)
  | [], i, a, b, h, _ => by simp at h
  | [x], i, a, b, _, h => by simp at h
  | x :: y :: r, 0, a, b, h1, h2 => by
    cases h1
    cases h2
    rfl
  | x :: y :: r, i + 1, a, b, h1, h2 => by
    show (dif (y :: r))[i]? = _
    exact dif_at (ns := y :: r) (i := i) h1 h2
theorem dif_take {ns : List Int} {i : Nat} {a b : Int} (h1 : ns[i]? = some a) (h2 : ns[i + 1]? = some b) : (dif ns).take (i + 1) = (dif ns).take i ++ [b - a] := by
  rw [List.take_add_one, dif_at h1 h2]
  rfl
def itd : Nat → List Int → List Int
  | 0, ns => ns
  | k + 1, ns => dif (itd k ns)
theorem itd_len (ns : List Int) : ∀ k : Nat, (itd k ns).length = ns.length - k
  | 0 => rfl
  | k + 1 => by
    show (dif (itd k ns)).length = _
    rw [dif_len, itd_len ns k]
    omega
theorem dif_zero : ∀ {ns : List Int}, (∀ x ∈ ns, x = 0) → ∀ x ∈ dif ns, x = 0
  | [], _, x, h => by cases h
  | [_], _, x, h => by cases h
  | y :: z :: r, hz, x, h => by
    rcases List.mem_cons.mp h with h | h
    · have a := hz y List.mem_cons_self
      have b := hz z (List.mem_cons_of_mem _ List.mem_cons_self)
      omega
    · exact dif_zero (ns := z :: r) (fun w hw => hz w (List.mem_cons_of_mem _ hw)) x h
/-- a row of zeros stays so -/
def zr (ns : List Int) (k : Nat) : Prop := ∀ x ∈ itd k ns, x = 0
theorem zr_next {ns : List Int} {k : Nat} (h : zr ns k) : zr ns (k + 1) := dif_zero h
theorem zr_mono {ns : List Int} {k : Nat} (h : zr ns k) : ∀ m : Nat, k ≤ m → zr ns m
  | 0, l => by
    rw [show k = 0 by omega] at h
    exact h
  | m + 1, l => by
    rcases Nat.lt_or_ge m k with z | z
    · rw [show k = m + 1 by omega] at h
      exact h
    · exact zr_next (zr_mono h m z)
/-- not all are zero -/
def nz (ns : List Int) : Bool := ns.any fun n => decide (n ≠ 0)
theorem nz_false {ns : List Int} : nz ns = false ↔ ∀ x ∈ ns, x = 0 := by
  unfold nz
  rw [List.any_eq_false]
  constructor
  · intro h x hx
    have := h x hx
    simpa using this
  · intro h x hx
    have := h x hx
    simp [this]
/-- the degree: the rows 1, 2, .. that are not all zero, counted -/
def dgU (ns : List Int) : Nat → Nat
  | 0 => 0
  | m + 1 => dgU ns m + (if nz (itd (m + 1) ns) = true then 1 else 0)
theorem dgU_le (ns : List Int) : ∀ m, dgU ns m ≤ m
  | 0 => Nat.le_refl _
  | m + 1 => by
    have := dgU_le ns m
    show dgU ns m + (if nz (itd (m + 1) ns) = true then 1 else 0) ≤ m + 1
    split <;> omega
/-- up to the count they are not all zero, behind it they are -/
theorem dgU_spec (ns : List Int) : ∀ m, (∀ k, 1 ≤ k → k ≤ dgU ns m → nz (itd k ns) = true) ∧ ∀ k, dgU ns m < k → k ≤ m → nz (itd k ns) = false
  | 0 => ⟨fun k h1 h2 => absurd h2 (by show ¬ k ≤ 0; omega), fun k h1 h2 => absurd h1 (by show ¬ 0 < k; omega)⟩
  | m + 1 => by
    obtain ⟨a, b⟩ := dgU_spec ns m
    have le := dgU_le ns m
    by_cases h : nz (itd (m + 1) ns) = true
    · have e : dgU ns (m + 1) = dgU ns m + 1 := by
        show dgU ns m + (if _ then 1 else 0) = _
        rw [if_pos h]
      have em : dgU ns m = m := by
        rcases Nat.lt_or_ge (dgU ns m) m with z | z
        · exfalso
          have b1 := b m z (Nat.le_refl _)
          have := zr_next (ns := ns) (k := m) (nz_false.mp b1)
          have := nz_false.mpr this
          rw [h] at this
          cases this
        · omega
      rw [e, em]
      refine ⟨fun k h1 h2 => ?_, fun k h1 h2 => absurd h1 (by omega)⟩
      rcases Nat.lt_or_ge m k with z | z
      · rw [show k = m + 1 by omega]
        exact h
      · exact a k h1 (by omega)
    · have h : nz (itd (m + 1) ns) = false := by
        cases e : nz (itd (m + 1) ns) with
        | true => exact absurd e h
        | false => rfl
      have e : dgU ns (m + 1) = dgU ns m := by
        show dgU ns m + (if nz (itd (m + 1) ns) = true then 1 else 0) = _
        rw [h, if_neg Bool.noConfusion, Nat.add_zero]
      rw [e]
      refine ⟨a, fun k h1 h2 => ?_⟩
      rcases Nat.lt_or_ge m k with z | z
      · rw [show k = m + 1 by omega]
        exact h
      · exact b k h1 z
end My

namespace My
open PySem PySem.Spec PyProof.Rows L2
section
variable {P : Program} {w : World} {K : PySem.W.Frag} {mg : Str → Option Value} {base : Heap}
end
/-! ### a call that leaves the last parameter away -/
structure DfnD1 (K : PySem.W.Frag) (mg : Str → Option Value) (x : Str) (st : Stmt) (ps : List Str) (dv : V) : Prop where
  ex : ∃ f fd dvs ds, FunD K x x (defArgs st) (defBody st) (defScope st) dvs [] f fd ∧ mg x = some (.ref f) ∧ Vals [dv] ds ∧ Binds K fd ps ds
structure Kn1 (P : Program) (w : World) (K : PySem.W.Frag) (mg : Str → Option Value) (base : Heap) (k : Nat) (x : Str) (ps : List Str) (sp : Sp) (dv : V) : Prop where
  ex : ∃ f fd ds, mg x = some (.ref f) ∧ PySem.W.keepIn K (.ref f) = true ∧ Vals [dv] ds ∧ Binds K fd ps ds ∧ FnOk P w K mg base CX0 k f fd ps sp
theorem Kn1.mkD {P : Program} {w : World} {K : PySem.W.Frag} {mg : Str → Option Value} {base : Heap} {x : Str} {st : Stmt} {N ps : List Str} {k : Nat} {sp : Sp} {dv : V} (D : DfnD1 K mg x st ps dv) (S : FnScope N ps (defScope st)) (len : ∀ vs H Q E, sp vs H Q E → vs.length = ps.length)
    (hbody : ∀ (f : Addr) (cdv : Value) (A : Around) (outer : List Env) (s : Shared) (H : Hp) (vs : List V) (Q : VK) (E : XK), Room k (A.deeper (envOfC x (defScope st) s.heap.objs.size f cdv)) → sp vs H Q E →
      ∃ t, PSs (cxOf CX0 P w K mg base N x (defScope st) f cdv A outer s H E).nox (defBody st) t ∧ t { nx := fun _ H' => Q .non H', rt := Q } (start N vs) H) : Kn1 P w K mg base (k + 1) x ps sp dv := by
  obtain ⟨f, fd, dvs, ds, F, m, v, b⟩ := D.ex
  exact ⟨f, fd, ds, m, F.kp, v, b, F.ok S len fun cdv A outer s H vs Q E hr h => let ⟨t, a, c⟩ := hbody f cdv A outer s H vs Q E hr h; ⟨t, a.nox, c⟩⟩
section
variable {X : Cx}
theorem pe_kn1 {j k : Nat} {x : Str} {ps : List Str} {sp : Sp} {dv : V} {p pos : Pos} {e : Expr} {es : List Expr} {t : TA} (F : Kn1 X.prog X.w X.K X.mg X.base k x ps sp dv) (hr : Room j X.A) (hg : Gl X x) (ha : PA X (e :: es) t) (hj : k ≤ j := by omega)
    (hdb : (x == ("__debug__" : Str)) = false := by decide) (he : starEach (e :: es) X.env = (false, eval e X.env) :: starEach es X.env := by rfl) (hpl : (backTo pos (starEach es X.env)).any (·.1) = false := by rfl) :
    PE X (.Call (.Name x p) (e :: es) [] pos) (tCall sp [dv] E0 t) := by
  obtain ⟨f, fd, ds, m, kp, v, b, G⟩ := F.ex
  exact pe_call G (hr.mono hj) hg m kp b v pass0 ha hdb he hpl
end
section
variable {P : Program} {w : World} {K : PySem.W.Frag} {mg : Str → Option Value} {base : Heap}
theorem itsO_of {H : Hp} {a : Addr} {xs : List V} (h : ob K H a = some (.tup xs)) : itsO (ob K H a) = some xs := by rw [h]; rfl
theorem itsO_ofL {H : Hp} {a : Addr} {xs : List V} (h : ob K H a = some (.lst xs)) : itsO (ob K H a) = some xs := by rw [h]; rfl
theorem sz2 {n : Nat} (h : n ≤ 100) : n ≤ sizeLine := by rw [sizeLine_eq]; omega
theorem if_no {c : Bool} {A B : Prop} (e : c = false) (h : B) : if c = true then A else B := by
  rw [e, if_neg Bool.noConfusion]
  exact h
theorem if_yes {c : Bool} {A B : Prop} (e : c = true) (h : A) : if c = true then A else B := by
  rw [e, if_pos rfl]
  exact h
/-! ### data of some depth, and copies of it -/
def Shp (K : PySem.W.Frag) (s : Addr) (H : Hp) : Nat → V → Prop
  | 0, v => scv v = true
  | n + 1, v => scv v = true ∨ (∃ (a : Addr) (xs : List V), v = .ref a ∧ a ≠ s ∧ (ob K H a = some (.tup xs) ∨ ob K H a = some (.lst xs)) ∧ xs.length ≤ 1000 ∧ ∀ x ∈ xs, Shp K s H n x) ∨ (1 ≤ n ∧ ∃ a : Addr, v = .ref a ∧ a ≠ s ∧ ob K H a = some (.dK []))
def Cpy (K : PySem.W.Frag) (F : Addr → Prop) (H0 H : Hp) : Nat → V → V → Prop
  | 0, v, w => v = w ∧ scv v = true
  | n + 1, v, w => (v = w ∧ scv v = true) ∨ (∃ (a b : Addr) (xs ys : List V), v = .ref a ∧ w = .ref b ∧ F b ∧ K.lookup b = none ∧ ((ob K H0 a = some (.tup xs) ∧ H b = some (.tup ys)) ∨ (ob K H0 a = some (.lst xs) ∧ H b = some (.lst ys))) ∧ xs.length = ys.length ∧ ys.length ≤ 1000 ∧ ∀ (i : Nat) x y, xs[i]? = some x → ys[i]? = some y → Cpy K F H0 H n x y) ∨ (1 ≤ n ∧ ∃ a b : Addr, v = .ref a ∧ w = .ref b ∧ F b ∧ K.lookup b = none ∧ ob K H0 a = some (.dK []) ∧ H b = some (.dK []))
theorem Shp.up {s : Addr} {H : Hp} : ∀ {n : Nat} {v : V}, Shp K s H n v → Shp K s H (n + 1) v
  | 0, _, h => .inl h
  | n + 1, _, .inl h => .inl h
  | n + 1, _, .inr (.inl ⟨a, xs, h1, h2, h3, h4, h5⟩) => .inr (.inl ⟨a, xs, h1, h2, h3, h4, fun x hx => (h5 x hx).up⟩)
  | n + 1, _, .inr (.inr ⟨l, h⟩) => .inr (.inr ⟨Nat.le_succ_of_le l, h⟩)
theorem Shp.same {s : Addr} {H H' : Hp} (e : Same H H') : ∀ {n : Nat} {v : V}, Shp K s H n v → Shp K s H' n v
  | 0, _, h => h
  | n + 1, _, .inl h => .inl h
  | n + 1, _, .inr (.inl ⟨a, xs, h1, h2, h3, h4, h5⟩) => .inr (.inl ⟨a, xs, h1, h2, h3.imp (ob_same e) (ob_same e), h4, fun x hx => (h5 x hx).same e⟩)
  | n + 1, _, .inr (.inr ⟨l, a, h1, h2, h3⟩) => .inr (.inr ⟨l, a, h1, h2, ob_same e h3⟩)
theorem Shp.kp {s : Addr} {H H' : Hp} (e : Kp s H H') : ∀ {n : Nat} {v : V}, Shp K s H n v → Shp K s H' n v
  | 0, _, h => h
  | n + 1, _, .inl h => .inl h
  | n + 1, _, .inr (.inl ⟨a, xs, h1, h2, h3, h4, h5⟩) => .inr (.inl ⟨a, xs, h1, h2, h3.imp (ob_kp2 e h2) (ob_kp2 e h2), h4, fun x hx => (h5 x hx).kp e⟩)
  | n + 1, _, .inr (.inr ⟨l, a, h1, h2, h3⟩) => .inr (.inr ⟨l, a, h1, h2, ob_kp2 e h2 h3⟩)
theorem ob_back2 {H H' : Hp} {a : Addr} {z z' : HO} (e : Same H H') (h : ob K H a = some z) (o : ob K H' a = some z') : z = z' := by
  rw [ob_same e h] at o
  exact Option.some.inj o
theorem Cpy.back {s : Addr} {F : Addr → Prop} {H H' H2 : Hp} (e : Same H H') : ∀ {n : Nat} {v w : V}, Shp K s H n v → Cpy K F H' H2 n v w → Cpy K F H H2 n v w
  | 0, _, _, _, h => h
  | n + 1, v, w, sh, .inl h => .inl h
  | n + 1, v, w, sh, .inr (.inl ⟨a, b, xs, ys, h1, h2, h3, h4, h5, h6, h7, h8⟩) => by
    subst h1
    rcases sh with sh | ⟨a', xs', e1, _, o, _, hs⟩ | ⟨_, a', e1, _, o⟩
    · cases sh
    · cases e1
      rcases h5 with ⟨z1, z2⟩ | ⟨z1, z2⟩
      · rcases o with o | o
        · cases ob_back2 e o z1
          exact .inr (.inl ⟨a, b, xs, ys, rfl, h2, h3, h4, .inl ⟨o, z2⟩, h6, h7, fun i x y hx hy => Cpy.back e (hs x (List.mem_of_getElem? hx)) (h8 i x y hx hy)⟩)
        · cases ob_back2 e o z1
      · rcases o with o | o
        · cases ob_back2 e o z1
        · cases ob_back2 e o z1
          exact .inr (.inl ⟨a, b, xs, ys, rfl, h2, h3, h4, .inr ⟨o, z2⟩, h6, h7, fun i x y hx hy => Cpy.back e (hs x (List.mem_of_getElem? hx)) (h8 i x y hx hy)⟩)
    · cases e1
      rcases h5 with ⟨z1, _⟩ | ⟨z1, _⟩ <;> cases ob_back2 e o z1
  | n + 1, v, w, sh, .inr (.inr ⟨l, a, b, h1, h2, h3, h4, h5, h6⟩) => by
    subst h1
    rcases sh with sh | ⟨a', xs', e1, _, o, _, hs⟩ | ⟨_, a', e1, _, o⟩
    · cases sh
    · cases e1
      rcases o with o | o <;> cases ob_back2 e o h5
    · cases e1
      exact .inr (.inr ⟨l, a, b, rfl, h2, h3, h4, o, h6⟩)
/-- the copy's own objects stay -/
theorem Cpy.imp {F F' : Addr → Prop} {H0 H H' : Hp} (f : ∀ b, F b → F' b) (e : ∀ b o, F b → H b = some o → H' b = some o) : ∀ {n : Nat} {v w : V}, Cpy K F H0 H n v w → Cpy K F' H0 H' n v w
  | 0, _, _, h => h
  | n + 1, _, _, .inl h => .inl h
  | n + 1, _, _, .inr (.inl ⟨a, b, xs, ys, h1, h2, h3, h4, h5, h6, h7, h8⟩) => .inr (.inl ⟨a, b, xs, ys, h1, h2, f b h3, h4, h5.imp (fun z => ⟨z.1, e _ _ h3 z.2⟩) (fun z => ⟨z.1, e _ _ h3 z.2⟩), h6, h7, fun i x y hx hy => (h8 i x y hx hy).imp f e⟩)
  | n + 1, _, _, .inr (.inr ⟨l, a, b, h1, h2, h3, h4, h5, h6⟩) => .inr (.inr ⟨l, a, b, h1, h2, f b h3, h4, h5, e _ _ h3 h6⟩)
theorem Cpy.eqv {F : Addr → Prop} {H0 H : Hp} (e : Same H0 H) : ∀ {n : Nat} {v w : V}, Cpy K F H0 H n v w → Eqv K H n v w
  | 0, _, _, h => h
  | n + 1, _, _, .inl h => .inl h
  | n + 1, _, _, .inr (.inl ⟨a, b, xs, ys, h1, h2, h3, h4, h5, h6, h7, h8⟩) => .inr (.inl ⟨a, b, xs, ys, h1, h2, h5.imp (fun z => ⟨ob_same e z.1, (ob_none h4).trans z.2⟩) (fun z => ⟨ob_same e z.1, (ob_none h4).trans z.2⟩), h6, h7, fun i x y hx hy => (h8 i x y hx hy).eqv e⟩)
  | n + 1, _, _, .inr (.inr ⟨l, a, b, h1, h2, h3, h4, h5, h6⟩) => .inr (.inr ⟨l, a, b, h1, h2, ob_same e h5, (ob_none h4).trans h6⟩)
def spK (K : PySem.W.Frag) : Nat → Sp
  | 0 => fun _ _ _ _ => False
  | n + 1 => fun vs H Q _ => ∃ (s : Addr) (v : V) (d : Int), vs = [v, .int d] ∧ Shp K s H n v ∧ (n : Int) < d ∧ ∀ w H', Same H H' → Cpy K (fun b => H b = none) H H' n v w → Q w H'
def KcI (K : PySem.W.Frag) (D : Addr) (xs : List V) (n : Nat) (H0 : Hp) (i : Nat) (H' : Hp) : Prop := ∃ acc : List V, acc.length = i ∧ H' D = some (.lst acc) ∧ Same H0 H' ∧ ∀ (j : Nat) x y, xs[j]? = some x → acc[j]? = some y → Cpy K (fun b => H0 b = none ∧ b ≠ D) H0 H' n x y
abbrev sKept : Stmt := topS 31
theorem scKept : FnScope ["_law_thing", "_law_deep", "_law_out", "_law_key", "_law_item"] ["_law_thing", "_law_deep"] (defScope sKept) := ⟨rfl, rfl, rfl, by decide +kernel, rfl, by decide +kernel, by decide +kernel⟩
theorem blk_scKept_0 : BlkOk ["_law_thing", "_law_deep", "_law_out", "_law_key", "_law_item"] (defScope sKept) { kind := .function, names := [(".0", .local), ("_law_item", .local), ("_law_kept", .globalImplicit), ("_law_deep", .free)], isGenerator := false, isCoroutine := false, more := [] } [("_law_item", 4)] := ⟨rfl, by decide +kernel, by decide +kernel, by decide +kernel, by decide +kernel⟩
theorem blk_scKept_1 : BlkOk ["_law_thing", "_law_deep", "_law_out", "_law_key", "_law_item"] (defScope sKept) { kind := .function, names := [(".0", .local), ("_law_item", .local), ("_law_kept", .globalImplicit), ("_law_deep", .free)], isGenerator := false, isCoroutine := false, more := [] } [("_law_item", 4)] := ⟨rfl, by decide +kernel, by decide +kernel, by decide +kernel, by decide +kernel⟩
theorem k_Kept (n : Nat) (T : Bt K mg) (D : DfnD K mg "_law_kept" sKept ["_law_thing", "_law_deep"]) (d__law_kept : Kn P w K mg base (n + 1) "_law_kept" ["_law_thing", "_law_deep"] (spK K n)) : Kn P w K mg base (n + 2) "_law_kept" ["_law_thing", "_law_deep"] (spK K (n + 1)) := by
  refine Kn.mkD D scKept (fun vs H Q E h => ?_) (fun f cdv A outer s H vs Q E hr h => ?_)
  · obtain ⟨s, v, d, rfl, _⟩ := h
    rfl
  obtain ⟨s, v, d, rfl, hv, hd, k⟩ := h
  refine ⟨_, (pss_cons (ps_if (pt_cmpR op_eq (pv 1) pe_int (nomark _)) (pss_one (ps_ret (pv 0))) pss_nil)
      (pss_cons (ps_if (pt_val (pe_callB call_isN (by rfl) T.b_isinstance (by decide +kernel) (pa_cons (pv 0) (pa_cons (pe_bltn (v := .ty "list") (by rfl) T.b_list (by decide +kernel) rfl) pa_nil)))) (pss_one (ps_ret (pe_fr (pe_lc (own := [("_law_item", 4)]) (g := gName 4) (te := (tCall (spK K n) [] E0 (tCons (tVar 4) (tCons (tOp (rI0 fun i j => V.int (i - j)) (tVar 1) (tC (.int 1))) L2.tNil)))) rfl scKept.nd (pi_list (pv 0)) blk_scKept_0 (fun _ _ _ _ _ => by exact pg_name (i := 4) scKept.nd rfl (.inl rfl)) (fun _ _ _ _ _ => pts_nil) (fun _ _ _ _ _ => by exact (pe_kn d__law_kept hr (by rfl) (pa_cons (pv 4) (pa_cons (pe_op op_sub (pv 1) pe_int) pa_nil)))))))) pss_nil)
      (pss_cons (ps_if (pt_val (pe_callB call_isN (by rfl) T.b_isinstance (by decide +kernel) (pa_cons (pv 0) (pa_cons (pe_bltn (v := .ty "tuple") (by rfl) T.b_tuple (by decide +kernel) rfl) pa_nil)))) (pss_one (ps_ret (pe_fr (pe_callTy call_tuple_of (by rfl) T.b_tuple (by decide +kernel) (pa_cons (pe_fr (pe_lc (own := [("_law_item", 4)]) (g := gName 4) (te := (tCall (spK K n) [] E0 (tCons (tVar 4) (tCons (tOp (rI0 fun i j => V.int (i - j)) (tVar 1) (tC (.int 1))) L2.tNil)))) rfl scKept.nd (pi_tup (pv 0)) blk_scKept_1 (fun _ _ _ _ _ => by exact pg_name (i := 4) scKept.nd rfl (.inl rfl)) (fun _ _ _ _ _ => pts_nil) (fun _ _ _ _ _ => by exact (pe_kn d__law_kept hr (by rfl) (pa_cons (pv 4) (pa_cons (pe_op op_sub (pv 1) pe_int) pa_nil)))))) pa_nil))))) pss_nil)
      (pss_cons (ps_if (pt_val (pe_callB call_isN (by rfl) T.b_isinstance (by decide +kernel) (pa_cons (pv 0) (pa_cons (pe_bltn (v := .ty "dict") (by rfl) T.b_dict (by decide +kernel) rfl) pa_nil)))) (pss_cons (ps_set (i := 2) scKept.nd rfl (.inl rfl) pe_dn)
      (pss_cons (ps_for PassesOwn.never rfl (pi_list (pe_fr (pe_callTy (call_list_dK rfl) (by rfl) T.b_list (by decide +kernel) (pa_cons (pv 0) pa_nil)))) (pg_name (i := 3) scKept.nd rfl (.inl rfl)) (pss_one ps_never))
      (pss_one (ps_ret (pv 2))))) pss_nil)
      (pss_one (ps_ret (pv 0))))))), ?_⟩
  have hd0 : d ≠ 0 := by omega
  refine ⟨_, rfl, rfl, _, rfl, if_no (decide_eq_false fun z => hd0 (V.int.inj z)) ?_⟩
  have sc : ∀ t, tyN K H v = some t → t ≠ "list" → t ≠ "tuple" → t ≠ "dict" → scv v = true → (isB t "list" = false ∧ isB t "tuple" = false ∧ isB t "dict" = false) → Cpy K (fun b => H b = none) H H n v v := fun t _ _ _ _ h _ => by
    cases n with
    | zero => exact ⟨rfl, h⟩
    | succ n => exact .inl ⟨rfl, h⟩
  have cs : scv v = true → Cpy K (fun b => H b = none) H H n v v := fun h => by
    cases n with
    | zero => exact ⟨rfl, h⟩
    | succ n => exact .inl ⟨rfl, h⟩
  have hv' : scv v = true ∨ ∃ m, n = m + 1 ∧ ((∃ (a : Addr) (xs : List V), v = .ref a ∧ a ≠ s ∧ (ob K H a = some (.tup xs) ∨ ob K H a = some (.lst xs)) ∧ xs.length ≤ 1000 ∧ ∀ x ∈ xs, Shp K s H m x) ∨ (1 ≤ m ∧ ∃ a : Addr, v = .ref a ∧ a ≠ s ∧ ob K H a = some (.dK []))) := by
    cases n with
    | zero => exact .inl hv
    | succ m =>
      rcases hv with h | h
      · exact .inl h
      · exact .inr ⟨m, rfl, h⟩
  clear sc
  rcases hv' with hs | ⟨m, rfl, ⟨a, xs, rfl, na, ho, hl, hx⟩ | ⟨hm, a, rfl, na, oa⟩⟩
  · have c := cs hs
    have ty : ∃ t, tyN K H v = some t ∧ isB t "list" = false ∧ isB t "tuple" = false ∧ isB t "dict" = false := by
      cases v with
      | non => exact ⟨_, rfl, rfl, rfl, rfl⟩
      | bl b => exact ⟨_, rfl, rfl, rfl, rfl⟩
      | int i => exact ⟨_, rfl, rfl, rfl, rfl⟩
      | str z => exact ⟨_, rfl, rfl, rfl, rfl⟩
      | _ => cases hs
    obtain ⟨t, ht, t1, t2, t3⟩ := ty
    refine ⟨_, rfl, _, _, rfl, by decide, _, ht, _, rfl, if_no t1 ⟨_, rfl, _, _, rfl, by decide, _, ht, _, rfl, if_no t2 ⟨_, rfl, _, _, rfl, by decide, _, ht, _, rfl, if_no t3 ⟨_, rfl, k v H (Same.refl H) c⟩⟩⟩⟩
  · rcases ho with oa | oa
    · have ty : tyN K H (.ref a) = some "tuple" := by rw [tyN_ref, oa]; rfl
      refine ⟨_, rfl, _, _, rfl, by decide, _, ty, _, rfl, if_no rfl ⟨_, rfl, _, _, rfl, by decide, _, ty, _, rfl, if_yes rfl ?_⟩⟩
      have hsq := ob_tup oa
      refine ⟨_, rfl, a, rfl, ⟨xs, hsq⟩, fun D hD => lc_tup (xs := xs) (KcI K D xs m H) ⟨[], rfl, upd_same, Same.new hD _, fun j x y _ hy => by simp at hy⟩ (fun i H' _ h => ?_) ?_ ?_⟩
      · obtain ⟨_, _, _, s2, _⟩ := h
        exact Same.seqT s2 hsq
      · rintro i x H' hi ⟨acc, al, hacc, s2, hc⟩
        refine ⟨rfl, ?_⟩
        simp only [tYes, if_true]
        have il := (List.getElem?_eq_some_iff.mp hi).1
        have hxm := hx x (List.mem_of_getElem? hi)
        refine ⟨_, rfl, _, rfl, _, _, rfl, rfl, s, x, d - 1, rfl, hxm.same s2, by omega, fun w H3 s3 cp => ?_⟩
        refine ⟨acc, s3 _ _ hacc, by rw [al, sizeLine_eq]; omega, acc ++ [w], by rw [List.length_append, al]; rfl, upd_same, fun c o e => by rw [upd_ne (ne_of_none e hD)]; exact s3 _ _ (s2 _ _ e), fun j x' y hj hy => ?_⟩
        rcases Nat.lt_or_ge j acc.length with hlt | hge
        · rw [List.getElem?_append_left hlt] at hy
          exact (hc j x' y hj hy).imp (fun b h => h) fun b o h e => by rw [upd_ne h.2]; exact s3 _ _ e
        · rw [List.getElem?_append_right hge] at hy
          have : j - acc.length = 0 := by
            have := (List.getElem?_eq_some_iff.mp hy).1
            rw [List.length_singleton] at this
            omega
          rw [this] at hy
          cases hy
          have ej : j = i := by omega
          subst ej
          rw [hi] at hj
          cases hj
          exact (Cpy.back s2 hxm cp).imp (fun b h => ⟨s2.free h, fun e => by rw [e, hacc] at h; cases h⟩) fun b o h e => by rw [upd_ne (fun z => by rw [z, hacc] at h; cases h)]; exact e
      · rintro H' ⟨acc, al, hacc, s2, hc⟩ fr1
        refine ⟨D, acc, rfl, .inl ⟨.of hacc, fun p hp fr2 => ?_⟩⟩
        have sp := Same.new hp (.tup acc)
        refine k (.ref p) _ (s2.trans sp) (.inr (.inl ⟨a, p, xs, acc, rfl, rfl, s2.free hp, fr2 p (by rw [upd_same]; simp), .inl ⟨oa, upd_same⟩, al.symm, by omega, fun i x y hxi hyi => (hc i x y hxi hyi).imp (fun b h => h.1) fun b o _ e => sp _ _ e⟩))
    · have ty : tyN K H (.ref a) = some "list" := by rw [tyN_ref, oa]; rfl
      refine ⟨_, rfl, _, _, rfl, by decide, _, ty, _, rfl, if_yes rfl ?_⟩
      have hsq := ob_lst oa
      obtain ⟨ha, ka⟩ := ob_H oa fun _ z => by cases z
      refine ⟨_, rfl, a, rfl, ⟨xs, hsq⟩, fun D hD => lc_list (xs := xs) (KcI K D xs m H) ⟨[], rfl, upd_same, Same.new hD _, fun j x y _ hy => by simp at hy⟩ (fun i H' _ h => ?_) ?_ ?_⟩
      · obtain ⟨_, _, _, s2, _⟩ := h
        exact .of (s2 _ _ ha)
      · rintro i x H' hi ⟨acc, al, hacc, s2, hc⟩
        refine ⟨rfl, ?_⟩
        simp only [tYes, if_true]
        have il := (List.getElem?_eq_some_iff.mp hi).1
        have hxm := hx x (List.mem_of_getElem? hi)
        refine ⟨_, rfl, _, rfl, _, _, rfl, rfl, s, x, d - 1, rfl, hxm.same s2, by omega, fun w H3 s3 cp => ?_⟩
        refine ⟨acc, s3 _ _ hacc, by rw [al, sizeLine_eq]; omega, acc ++ [w], by rw [List.length_append, al]; rfl, upd_same, fun c o e => by rw [upd_ne (ne_of_none e hD)]; exact s3 _ _ (s2 _ _ e), fun j x' y hj hy => ?_⟩
        rcases Nat.lt_or_ge j acc.length with hlt | hge
        · rw [List.getElem?_append_left hlt] at hy
          exact (hc j x' y hj hy).imp (fun b h => h) fun b o h e => by rw [upd_ne h.2]; exact s3 _ _ e
        · rw [List.getElem?_append_right hge] at hy
          have : j - acc.length = 0 := by
            have := (List.getElem?_eq_some_iff.mp hy).1
            rw [List.length_singleton] at this
            omega
          rw [this] at hy
          cases hy
          have ej : j = i := by omega
          subst ej
          rw [hi] at hj
          cases hj
          exact (Cpy.back s2 hxm cp).imp (fun b h => ⟨s2.free h, fun e => by rw [e, hacc] at h; cases h⟩) fun b o h e => by rw [upd_ne (fun z => by rw [z, hacc] at h; cases h)]; exact e
      · rintro H' ⟨acc, al, hacc, s2, hc⟩ fr1
        exact k (.ref D) H' s2 (.inr (.inl ⟨a, D, xs, acc, rfl, rfl, hD, fr1 D (by rw [hacc]; simp), .inr ⟨oa, hacc⟩, al.symm, by omega, fun i x y hxi hyi => (hc i x y hxi hyi).imp (fun b h => h.1) fun b o _ e => e⟩))
  · have ty : tyN K H (.ref a) = some "dict" := by rw [tyN_ref, oa]; rfl
    obtain ⟨ha, ka⟩ := ob_H oa fun _ z => by cases z
    refine ⟨_, rfl, _, _, rfl, by decide, _, ty, _, rfl, if_no rfl ⟨_, rfl, _, _, rfl, by decide, _, ty, _, rfl, if_no rfl ⟨_, rfl, _, _, rfl, by decide, _, ty, _, rfl, if_yes rfl ?_⟩⟩⟩
    refine fun p hp kp => ?_
    have s1 := Same.new hp (.dK [])
    refine ⟨_, rfl, a, [], rfl, s1 _ _ ha, fun l hl fr => ?_⟩
    have s2 := Same.new hl (.lst [])
    refine ⟨l, rfl, ⟨[], .of upd_same⟩, forI_list (xs := []) (fun _ σ' H' => σ' = [some (.ref a), some (.int d), some (.ref p), none, none] ∧ H' = upd (upd H p (.dK [])) l (.lst [])) ⟨rfl, rfl⟩ (fun i σ H' _ h => ?_) ?_ ?_⟩
    · rw [h.2]
      exact .of upd_same
    · rintro i x σ H' hi
      simp at hi
    · rintro σ H' ⟨rfl, rfl⟩
      exact ⟨_, rfl, k (.ref p) _ (s1.trans s2) (.inr (.inr ⟨hm, a, p, rfl, rfl, hp, kp, oa, s2 _ _ upd_same⟩))⟩

theorem k_Kept1 (n : Nat) (T : Bt K mg) (D : DfnD1 K mg "_law_kept" sKept ["_law_thing", "_law_deep"] (.int 24)) (d__law_kept : Kn P w K mg base (n + 1) "_law_kept" ["_law_thing", "_law_deep"] (spK K n)) : Kn1 P w K mg base (n + 2) "_law_kept" ["_law_thing", "_law_deep"] (spK K (n + 1)) (.int 24) := by
  refine Kn1.mkD D scKept (fun vs H Q E h => ?_) (fun f cdv A outer s H vs Q E hr h => ?_)
  · obtain ⟨s, v, d, rfl, _⟩ := h
    rfl
  obtain ⟨s, v, d, rfl, hv, hd, k⟩ := h
  refine ⟨_, (pss_cons (ps_if (pt_cmpR op_eq (pv 1) pe_int (nomark _)) (pss_one (ps_ret (pv 0))) pss_nil)
      (pss_cons (ps_if (pt_val (pe_callB call_isN (by rfl) T.b_isinstance (by decide +kernel) (pa_cons (pv 0) (pa_cons (pe_bltn (v := .ty "list") (by rfl) T.b_list (by decide +kernel) rfl) pa_nil)))) (pss_one (ps_ret (pe_fr (pe_lc (own := [("_law_item", 4)]) (g := gName 4) (te := (tCall (spK K n) [] E0 (tCons (tVar 4) (tCons (tOp (rI0 fun i j => V.int (i - j)) (tVar 1) (tC (.int 1))) L2.tNil)))) rfl scKept.nd (pi_list (pv 0)) blk_scKept_0 (fun _ _ _ _ _ => by exact pg_name (i := 4) scKept.nd rfl (.inl rfl)) (fun _ _ _ _ _ => pts_nil) (fun _ _ _ _ _ => by exact (pe_kn d__law_kept hr (by rfl) (pa_cons (pv 4) (pa_cons (pe_op op_sub (pv 1) pe_int) pa_nil)))))))) pss_nil)
      (pss_cons (ps_if (pt_val (pe_callB call_isN (by rfl) T.b_isinstance (by decide +kernel) (pa_cons (pv 0) (pa_cons (pe_bltn (v := .ty "tuple") (by rfl) T.b_tuple (by decide +kernel) rfl) pa_nil)))) (pss_one (ps_ret (pe_fr (pe_callTy call_tuple_of (by rfl) T.b_tuple (by decide +kernel) (pa_cons (pe_fr (pe_lc (own := [("_law_item", 4)]) (g := gName 4) (te := (tCall (spK K n) [] E0 (tCons (tVar 4) (tCons (tOp (rI0 fun i j => V.int (i - j)) (tVar 1) (tC (.int 1))) L2.tNil)))) rfl scKept.nd (pi_tup (pv 0)) blk_scKept_1 (fun _ _ _ _ _ => by exact pg_name (i := 4) scKept.nd rfl (.inl rfl)) (fun _ _ _ _ _ => pts_nil) (fun _ _ _ _ _ => by exact (pe_kn d__law_kept hr (by rfl) (pa_cons (pv 4) (pa_cons (pe_op op_sub (pv 1) pe_int) pa_nil)))))) pa_nil))))) pss_nil)
      (pss_cons (ps_if (pt_val (pe_callB call_isN (by rfl) T.b_isinstance (by decide +kernel) (pa_cons (pv 0) (pa_cons (pe_bltn (v := .ty "dict") (by rfl) T.b_dict (by decide +kernel) rfl) pa_nil)))) (pss_cons (ps_set (i := 2) scKept.nd rfl (.inl rfl) pe_dn)
      (pss_cons (ps_for PassesOwn.never rfl (pi_list (pe_fr (pe_callTy (call_list_dK rfl) (by rfl) T.b_list (by decide +kernel) (pa_cons (pv 0) pa_nil)))) (pg_name (i := 3) scKept.nd rfl (.inl rfl)) (pss_one ps_never))
      (pss_one (ps_ret (pv 2))))) pss_nil)
      (pss_one (ps_ret (pv 0))))))), ?_⟩
  have hd0 : d ≠ 0 := by omega
  refine ⟨_, rfl, rfl, _, rfl, if_no (decide_eq_false fun z => hd0 (V.int.inj z)) ?_⟩
  have sc : ∀ t, tyN K H v = some t → t ≠ "list" → t ≠ "tuple" → t ≠ "dict" → scv v = true → (isB t "list" = false ∧ isB t "tuple" = false ∧ isB t "dict" = false) → Cpy K (fun b => H b = none) H H n v v := fun t _ _ _ _ h _ => by
    cases n with
    | zero => exact ⟨rfl, h⟩
    | succ n => exact .inl ⟨rfl, h⟩
  have cs : scv v = true → Cpy K (fun b => H b = none) H H n v v := fun h => by
    cases n with
    | zero => exact ⟨rfl, h⟩
    | succ n => exact .inl ⟨rfl, h⟩
  have hv' : scv v = true ∨ ∃ m, n = m + 1 ∧ ((∃ (a : Addr) (xs : List V), v = .ref a ∧ a ≠ s ∧ (ob K H a = some (.tup xs) ∨ ob K H a = some (.lst xs)) ∧ xs.length ≤ 1000 ∧ ∀ x ∈ xs, Shp K s H m x) ∨ (1 ≤ m ∧ ∃ a : Addr, v = .ref a ∧ a ≠ s ∧ ob K H a = some (.dK []))) := by
    cases n with
    | zero => exact .inl hv
    | succ m =>
      rcases hv with h | h
      · exact .inl h
      · exact .inr ⟨m, rfl, h⟩
  clear sc
  rcases hv' with hs | ⟨m, rfl, ⟨a, xs, rfl, na, ho, hl, hx⟩ | ⟨hm, a, rfl, na, oa⟩⟩
  · have c := cs hs
    have ty : ∃ t, tyN K H v = some t ∧ isB t "list" = false ∧ isB t "tuple" = false ∧ isB t "dict" = false := by
      cases v with
      | non => exact ⟨_, rfl, rfl, rfl, rfl⟩
      | bl b => exact ⟨_, rfl, rfl, rfl, rfl⟩
      | int i => exact ⟨_, rfl, rfl, rfl, rfl⟩
      | str z => exact ⟨_, rfl, rfl, rfl, rfl⟩
      | _ => cases hs
    obtain ⟨t, ht, t1, t2, t3⟩ := ty
    refine ⟨_, rfl, _, _, rfl, by decide, _, ht, _, rfl, if_no t1 ⟨_, rfl, _, _, rfl, by decide, _, ht, _, rfl, if_no t2 ⟨_, rfl, _, _, rfl, by decide, _, ht, _, rfl, if_no t3 ⟨_, rfl, k v H (Same.refl H) c⟩⟩⟩⟩
  · rcases ho with oa | oa
    · have ty : tyN K H (.ref a) = some "tuple" := by rw [tyN_ref, oa]; rfl
      refine ⟨_, rfl, _, _, rfl, by decide, _, ty, _, rfl, if_no rfl ⟨_, rfl, _, _, rfl, by decide, _, ty, _, rfl, if_yes rfl ?_⟩⟩
      have hsq := ob_tup oa
      refine ⟨_, rfl, a, rfl, ⟨xs, hsq⟩, fun D hD => lc_tup (xs := xs) (KcI K D xs m H) ⟨[], rfl, upd_same, Same.new hD _, fun j x y _ hy => by simp at hy⟩ (fun i H' _ h => ?_) ?_ ?_⟩
      · obtain ⟨_, _, _, s2, _⟩ := h
        exact Same.seqT s2 hsq
      · rintro i x H' hi ⟨acc, al, hacc, s2, hc⟩
        refine ⟨rfl, ?_⟩
        simp only [tYes, if_true]
        have il := (List.getElem?_eq_some_iff.mp hi).1
        have hxm := hx x (List.mem_of_getElem? hi)
        refine ⟨_, rfl, _, rfl, _, _, rfl, rfl, s, x, d - 1, rfl, hxm.same s2, by omega, fun w H3 s3 cp => ?_⟩
        refine ⟨acc, s3 _ _ hacc, by rw [al, sizeLine_eq]; omega, acc ++ [w], by rw [List.length_append, al]; rfl, upd_same, fun c o e => by rw [upd_ne (ne_of_none e hD)]; exact s3 _ _ (s2 _ _ e), fun j x' y hj hy => ?_⟩
        rcases Nat.lt_or_ge j acc.length with hlt | hge
        · rw [List.getElem?_append_left hlt] at hy
          exact (hc j x' y hj hy).imp (fun b h => h) fun b o h e => by rw [upd_ne h.2]; exact s3 _ _ e
        · rw [List.getElem?_append_right hge] at hy
          have : j - acc.length = 0 := by
            have := (List.getElem?_eq_some_iff.mp hy).1
            rw [List.length_singleton] at this
            omega
          rw [this] at hy
          cases hy
          have ej : j = i := by omega
          subst ej
          rw [hi] at hj
          cases hj
          exact (Cpy.back s2 hxm cp).imp (fun b h => ⟨s2.free h, fun e => by rw [e, hacc] at h; cases h⟩) fun b o h e => by rw [upd_ne (fun z => by rw [z, hacc] at h; cases h)]; exact e
      · rintro H' ⟨acc, al, hacc, s2, hc⟩ fr1
        refine ⟨D, acc, rfl, .inl ⟨.of hacc, fun p hp fr2 => ?_⟩⟩
        have sp := Same.new hp (.tup acc)
        refine k (.ref p) _ (s2.trans sp) (.inr (.inl ⟨a, p, xs, acc, rfl, rfl, s2.free hp, fr2 p (by rw [upd_same]; simp), .inl ⟨oa, upd_same⟩, al.symm, by omega, fun i x y hxi hyi => (hc i x y hxi hyi).imp (fun b h => h.1) fun b o _ e => sp _ _ e⟩))
    · have ty : tyN K H (.ref a) = some "list" := by rw [tyN_ref, oa]; rfl
      refine ⟨_, rfl, _, _, rfl, by decide, _, ty, _, rfl, if_yes rfl ?_⟩
      have hsq := ob_lst oa
      obtain ⟨ha, ka⟩ := ob_H oa fun _ z => by cases z
      refine ⟨_, rfl, a, rfl, ⟨xs, hsq⟩, fun D hD => lc_list (xs := xs) (KcI K D xs m H) ⟨[], rfl, upd_same, Same.new hD _, fun j x y _ hy => by simp at hy⟩ (fun i H' _ h => ?_) ?_ ?_⟩
      · obtain ⟨_, _, _, s2, _⟩ := h
        exact .of (s2 _ _ ha)
      · rintro i x H' hi ⟨acc, al, hacc, s2, hc⟩
        refine ⟨rfl, ?_⟩
        simp only [tYes, if_true]
        have il := (List.getElem?_eq_some_iff.mp hi).1
        have hxm := hx x (List.mem_of_getElem? hi)
        refine ⟨_, rfl, _, rfl, _, _, rfl, rfl, s, x, d - 1, rfl, hxm.same s2, by omega, fun w H3 s3 cp => ?_⟩
        refine ⟨acc, s3 _ _ hacc, by rw [al, sizeLine_eq]; omega, acc ++ [w], by rw [List.length_append, al]; rfl, upd_same, fun c o e => by rw [upd_ne (ne_of_none e hD)]; exact s3 _ _ (s2 _ _ e), fun j x' y hj hy => ?_⟩
        rcases Nat.lt_or_ge j acc.length with hlt | hge
        · rw [List.getElem?_append_left hlt] at hy
          exact (hc j x' y hj hy).imp (fun b h => h) fun b o h e => by rw [upd_ne h.2]; exact s3 _ _ e
        · rw [List.getElem?_append_right hge] at hy
          have : j - acc.length = 0 := by
            have := (List.getElem?_eq_some_iff.mp hy).1
            rw [List.length_singleton] at this
            omega
          rw [this] at hy
          cases hy
          have ej : j = i := by omega
          subst ej
          rw [hi] at hj
          cases hj
          exact (Cpy.back s2 hxm cp).imp (fun b h => ⟨s2.free h, fun e => by rw [e, hacc] at h; cases h⟩) fun b o h e => by rw [upd_ne (fun z => by rw [z, hacc] at h; cases h)]; exact e
      · rintro H' ⟨acc, al, hacc, s2, hc⟩ fr1
        exact k (.ref D) H' s2 (.inr (.inl ⟨a, D, xs, acc, rfl, rfl, hD, fr1 D (by rw [hacc]; simp), .inr ⟨oa, hacc⟩, al.symm, by omega, fun i x y hxi hyi => (hc i x y hxi hyi).imp (fun b h => h.1) fun b o _ e => e⟩))
  · have ty : tyN K H (.ref a) = some "dict" := by rw [tyN_ref, oa]; rfl
    obtain ⟨ha, ka⟩ := ob_H oa fun _ z => by cases z
    refine ⟨_, rfl, _, _, rfl, by decide, _, ty, _, rfl, if_no rfl ⟨_, rfl, _, _, rfl, by decide, _, ty, _, rfl, if_no rfl ⟨_, rfl, _, _, rfl, by decide, _, ty, _, rfl, if_yes rfl ?_⟩⟩⟩
    refine fun p hp kp => ?_
    have s1 := Same.new hp (.dK [])
    refine ⟨_, rfl, a, [], rfl, s1 _ _ ha, fun l hl fr => ?_⟩
    have s2 := Same.new hl (.lst [])
    refine ⟨l, rfl, ⟨[], .of upd_same⟩, forI_list (xs := []) (fun _ σ' H' => σ' = [some (.ref a), some (.int d), some (.ref p), none, none] ∧ H' = upd (upd H p (.dK [])) l (.lst [])) ⟨rfl, rfl⟩ (fun i σ H' _ h => ?_) ?_ ?_⟩
    · rw [h.2]
      exact .of upd_same
    · rintro i x σ H' hi
      simp at hi
    · rintro σ H' ⟨rfl, rfl⟩
      exact ⟨_, rfl, k (.ref p) _ (s1.trans s2) (.inr (.inr ⟨hm, a, p, rfl, rfl, hp, kp, oa, s2 _ _ upd_same⟩))⟩

theorem k_kept (T : Bt K mg) (D0 : Kn P w K mg base 0 "_law_kept" ["_law_thing", "_law_deep"] (fun _ _ _ _ => False)) (D : DfnD K mg "_law_kept" sKept ["_law_thing", "_law_deep"]) : ∀ n : Nat, Kn P w K mg base (n + 1) "_law_kept" ["_law_thing", "_law_deep"] (spK K n)
  | 0 => by
    obtain ⟨f, fd, m, kp, b, G⟩ := D0.ex
    exact ⟨f, fd, m, kp, b, (G.mono (Nat.zero_le _)).imp fun vs H Q E h => h.elim⟩
  | n + 1 => k_Kept n T D (k_kept T D0 D n)
theorem DfnD.none {x : Str} {ps : List Str} {st : Stmt} (D : DfnD K mg x st ps) : Kn P w K mg base 0 x ps (fun _ _ _ _ => False) := by
  obtain ⟨f, fd, dvs, F, m, b⟩ := D.ex
  exact ⟨f, fd, m, F.kp, b, ⟨fun vs H Q E h => h.elim, fun A outer s H args us vs Q E _ _ _ _ h => h.elim⟩⟩
end
end My

namespace My
open PySem PySem.Spec PyProof.Rows L2
section
variable {P : Program} {w : World} {K : PySem.W.Frag} {mg : Str → Option Value} {base : Heap}
theorem atI_m1 {α : Type} {xs : List α} (h : xs ≠ []) : atI xs (-1) = xs[xs.length - 1]? := by
  have hl : 0 < xs.length := by
    cases xs with
    | nil => exact absurd rfl h
    | cons a r => simp
  unfold atI ixN
  rw [if_neg (by omega), if_pos (by omega)]
  show xs[((-1 : Int) + (xs.length : Int)).toNat]? = _
  rw [show ((-1 : Int) + (xs.length : Int)).toNat = xs.length - 1 by omega]
theorem at_last (xs : List V) (x : V) : atI (xs ++ [x]) (-1) = some x := by
  rw [atI_m1 (by simp), List.length_append, List.length_singleton, Nat.add_sub_cancel, List.getElem?_append_right (Nat.le_refl _), Nat.sub_self]
  rfl
theorem Kn.weak {k : Nat} {x : Str} {ps : List Str} {sp sp' : Sp} (h : Kn P w K mg base k x ps sp) (wk : ∀ vs H Q E, sp' vs H Q E → sp vs H Q E) : Kn P w K mg base k x ps sp' := by
  obtain ⟨f, fd, m, kp, b, F⟩ := h.ex
  exact ⟨f, fd, m, kp, b, ⟨fun vs H Q E q => F.len vs H Q E (wk vs H Q E q), fun A outer s H args us vs Q E hr e hb r q => F.run A outer s H args us vs Q E hr e hb r (wk vs H Q E q)⟩⟩
def spListA (K : PySem.W.Frag) : Sp := fun vs H Q _ => ∃ (v : V) (lo hi : Int), vs = [v, .int lo, .int hi] ∧ ((∃ (a : Addr) (xs : List V), v = .ref a ∧ ob K H a = some (.lst xs) ∧ Q (.bl (decide (lo ≤ (xs.length : Int)) && decide ((xs.length : Int) ≤ hi))) H) ∨ ∃ t, tyN K H v = some t ∧ t ≠ "list" ∧ Q (.bl false) H)
abbrev sListA : Stmt := topS 16
theorem scListA : FnScope ["value", "least", "most"] ["value", "least", "most"] (defScope sListA) := ⟨rfl, rfl, rfl, by decide +kernel, rfl, by decide +kernel, by decide +kernel⟩
theorem k_ListA (T : Bt K mg) (D : Dfn K mg "is_list_within" sListA ["value", "least", "most"]) : Kn P w K mg base 1 "is_list_within" ["value", "least", "most"] (spListA K) := by
  refine Kn.mk' D scListA (fun vs H Q E h => ?_) (fun f cdv A outer s H vs Q E hr h => ?_)
  · obtain ⟨v, lo, hi, rfl, _⟩ := h
    rfl
  obtain ⟨v, lo, hi, rfl, h⟩ := h
  refine ⟨_, (pss_one (ps_ret (pe_and (pe_callB call_isN (by rfl) T.b_isinstance (by decide +kernel) (pa_cons (pv 0) (pa_cons (pe_bltn (v := .ty "list") (by rfl) T.b_list (by decide +kernel) rfl) pa_nil))) (pe_one (pe_chain op_le op_le (pv 1) (pe_callB call_lenA (by rfl) T.b_len PySem.boot_len (pa_cons (pv 0) pa_nil)) (pv 2)))))), ?_⟩
  rcases h with ⟨a, xs, rfl, o, k⟩ | ⟨t, ht, nt, k⟩
  · have ty : tyN K H (.ref a) = some "list" := by rw [tyN_ref, o]; rfl
    have oi := itsO_ofL o
    refine ⟨_, rfl, _, _, rfl, by decide, _, ty, _, rfl, if_yes rfl ?_⟩
    simp only [tChain, oi, cx_K, decide_true, decide_false, reduceCtorEq, gTp, gCons, gNil, ca_0, ca_1, ca_2, ca_3, ca_4, ca_5, ca_6, ca_7, ca_8, ca_9, ca_10, ca_11, ca_12, ca_13, ca_14, ca_15, ca_16, ca_17, ca_18, ca_19, ca_20, ca_21, ca_22, ca_23, ca_24, ca_25, ca_26, ca_27, ca_28, ca_29, ca_30, not_true_eq_false, not_false_eq_true, Int.reduceEq, Nat.reduceEqDiff, Nat.reduceLeDiff, rGcd, V.ty.injEq, eq_self, List.not_mem_nil, beq_self_eq_true, HO.lst.injEq, HO.tup.injEq, tFor_eq, iRng1, iList, iTup, nat10, tSeq, rIxA, rSetA, rIsN, rIsT, tTp, tLs, itsO_tup, itsO_lst, tyO_tup, tyO_lst, tyO_dK, tyN_non, tyN_bl, tyN_int, tyN_str, tyN_ref, tyNs_lt, isB, upd_same, upd_upd, sizeLine_eq, List.mem_cons, String.reduceBEq, String.reduceEq, Bool.or_false, Bool.or_true, Bool.and_false, Bool.false_or, Bool.and_self, Bool.false_and, Bool.not_false, Bool.not_true, List.any_cons, List.any_nil, atI_0, setI_0, atI_1, setI_1, atI_2, setI_2, atI_3, setI_3, atI_4, setI_4, atI_5, setI_5, atI_6, setI_6, tAsg, gName, tOp, tUn, tVar, tC, tCons, L2.tNil, tRet, tIfS, tTest, tCB, tCall, rI, rI0, rU, tNext, tB, tAnd, tOr, tNot, tAndV, tOrV, tNotV, tDrop, tIf, tPar, gSub, rIxL, rIxT, rEq, rNe, rSetL, tBits,
    L2.start, List.map_cons, List.map_nil, List.cons_append, List.nil_append, List.append_nil, List.length_cons, List.length_nil, List.replicate, Nat.reduceAdd, Nat.reduceSub, Nat.zero_add, List.getElem?_cons_zero, List.getElem?_cons_succ, List.set_cons_zero, List.set_cons_succ,
    Option.some.injEq, exists_eq_left', exists_eq_left, V.int.injEq, V.bl.injEq, V.ref.injEq, V.str.injEq, List.cons.injEq, reduceCtorEq, and_true, true_and, false_and, and_false, exists_false, or_false, false_or, or_true, true_or, exists_const, CMul, CDiv, CPow, and_assoc, exists_and_left, exists_and_right, Int.reducePow, Int.reduceNeg, Int.reduceLT, Int.reduceLE, Nat.reducePow, Nat.reduceLT, Int.reduceToNat, gt_iff_lt, ge_iff_le, decide_eq_true_eq, Bool.not_eq_true', decide_eq_false_iff_not, scal, ↓reduceIte, Bool.false_eq_true]
    refine ite2 (fun h => ?_) (fun h => ?_)
    · rw [decide_eq_true h, Bool.true_and] at k
      exact k
    · rw [decide_eq_false h, Bool.false_and] at k
      exact k
  · refine ⟨_, rfl, _, _, rfl, by decide, _, ht, _, rfl, if_no ?_ k⟩
    have mt := tyN_mem ht
    simp only [List.mem_cons, List.not_mem_nil, or_false] at mt
    rcases mt with rfl | rfl | rfl | rfl | rfl | rfl | rfl <;> first | rfl | exact absurd rfl nt
def TbA (K : PySem.W.Frag) (H : Hp) (v : V) (Q : VK) : Prop := (∃ t, tyN K H v = some t ∧ t ≠ "list" ∧ Q (.bl false) H) ∨ ∃ (a : Addr) (xs : List V), v = .ref a ∧ ob K H a = some (.lst xs) ∧ (((xs.length = 0 ∨ 60 < xs.length) ∧ Q (.bl false) H) ∨ (1 ≤ xs.length ∧ xs.length ≤ 60 ∧ (∀ x ∈ xs, (tyN K H x).isSome) ∧ ∀ H', Same H H' → Q (.bl (xs.all wholeV)) H'))
def spTb (K : PySem.W.Frag) : Sp := fun vs H Q _ => ∃ v, vs = [v] ∧ TbA K H v Q
def TbI (D : Addr) (xs : List V) (H0 : Hp) (i : Nat) (H' : Hp) : Prop := H' D = some (.lst (((xs.take i).map wholeV).map V.bl)) ∧ Same H0 H'
abbrev sTb : Stmt := topS 21
theorem scTb : FnScope ["value", "row"] ["value"] (defScope sTb) := ⟨rfl, rfl, rfl, by decide +kernel, rfl, by decide +kernel, by decide +kernel⟩
theorem blk_scTb_0 : BlkOk ["value", "row"] (defScope sTb) { kind := .function, names := [(".0", .local), ("row", .local), ("is_whole", .globalImplicit)], isGenerator := false, isCoroutine := false, more := [] } [("row", 1)] := ⟨rfl, by decide +kernel, by decide +kernel, by decide +kernel, by decide +kernel⟩
theorem k_Tb {tkM : Tok} (zA : mg "all" = none) (gMR : mg "MOST_ROWS" = some (.int 60 tkM)) (T : Bt K mg) (D : Dfn K mg "is_table" sTb ["value"]) (d_is_list_within : Kn P w K mg base 1 "is_list_within" ["value", "least", "most"] (spListA K)) (d_is_whole : Kn P w K mg base 1 "is_whole" ["value"] (spWhole K)) : Kn P w K mg base 2 "is_table" ["value"] (spTb K) := by
  refine Kn.mk' D scTb (fun vs H Q E h => ?_) (fun f cdv A outer s H vs Q E hr h => ?_)
  · obtain ⟨v, rfl, _⟩ := h
    rfl
  obtain ⟨v, rfl, h⟩ := h
  refine ⟨_, (pss_one (ps_ret (pe_and (pe_kn d_is_list_within hr (by rfl) (pa_cons (pv 0) (pa_cons pe_int (pa_cons (pe_glob (v := .int 60) (by rfl) gMR ⟨_, rfl⟩) pa_nil)))) (pe_one (pe_callB (cr_all rfl) (by rfl) zA (by decide +kernel) (pa_cons (pe_fr (pe_lc (own := [("row", 1)]) (g := gName 1) (te := (tCall (spWhole K) [] E0 (tCons (tVar 1) L2.tNil))) rfl scTb.nd (pi_list (pv 0)) blk_scTb_0 (fun _ _ _ _ _ => by exact pg_name (i := 1) scTb.nd rfl (.inl rfl)) (fun _ _ _ _ _ => pts_nil) (fun _ _ _ _ _ => by exact (pe_kn d_is_whole hr (by rfl) (pa_cons (pv 1) pa_nil))))) pa_nil)))))), ?_⟩
  rcases h with ⟨t, ht, nt, k⟩ | ⟨a, xs, rfl, o, h⟩
  · exact ⟨_, rfl, v, _, _, rfl, .inr ⟨t, ht, nt, _, rfl, if_no rfl k⟩⟩
  obtain ⟨ha, ka⟩ := ob_H o (fun _ z => by cases z)
  rcases h with ⟨hx, k⟩ | ⟨h1, h2, ty, k⟩
  · refine ⟨_, rfl, _, _, _, rfl, .inl ⟨a, xs, rfl, o, _, rfl, if_no ?_ k⟩⟩
    rcases hx with hx | hx
    · rw [decide_eq_false (show ¬ (1 : Int) ≤ (xs.length : Int) by omega)]
      rfl
    · rw [decide_eq_false (show ¬ ((xs.length : Int) ≤ 60) by omega), Bool.and_false]
  refine ⟨_, rfl, _, _, _, rfl, .inl ⟨a, xs, rfl, o, _, rfl, if_yes (by rw [decide_eq_true (show (1 : Int) ≤ (xs.length : Int) by omega), decide_eq_true (show ((xs.length : Int) ≤ 60) by omega)]; rfl) ?_⟩⟩
  refine ⟨_, rfl, a, rfl, ⟨xs, .of ha⟩, fun D hD => lc_list (xs := xs) (TbI D xs H) ⟨upd_same, Same.new hD _⟩ (fun i H' _ h => .of (h.2 _ _ ha)) ?_ ?_⟩
  · rintro i x H' hi ⟨h, s2⟩
    refine ⟨rfl, ?_⟩
    simp only [tYes, if_true]
    have tx := ty x (List.mem_of_getElem? hi)
    refine ⟨_, rfl, x, rfl, tyS_same s2 tx, ?_⟩
    refine ⟨_, h, by rw [List.length_map, List.length_map, List.length_take, sizeLine_eq]; omega, ?_, fun c o e => ?_⟩
    · rw [upd_same, List.take_add_one, hi, List.map_append, List.map_append]
      rfl
    · rw [upd_ne (ne_of_none e hD)]
      exact s2 _ _ e
  · rintro H' ⟨h, s2⟩ fr
    rw [List.take_length] at h
    refine ⟨D, xs.map wholeV, rfl, .of h, ?_⟩
    have e : (xs.map wholeV).all id = xs.all wholeV := by rw [List.all_map]; rfl
    rw [e]
    exact k H' s2

/-- a list of rows of ints -/
def LR (K : PySem.W.Frag) (F : Addr → Prop) (H : Hp) (xs : List V) (f : Nat → List Int) (m : Nat) : Prop := xs.length = m ∧ ∀ (i : Nat) x, xs[i]? = some x → ∃ a, x = .ref a ∧ F a ∧ K.lookup a = none ∧ H a = some (.lst ((f i).map V.int))
theorem LR.imp {F F' : Addr → Prop} {H H' : Hp} {xs : List V} {f : Nat → List Int} {m : Nat} (h : LR K F H xs f m) (g : ∀ a, F a → F' a) (e : ∀ a o, F a → H a = some o → H' a = some o) : LR K F' H' xs f m := ⟨h.1, fun i x hx => by
  obtain ⟨a, e1, fa, kl, ha⟩ := h.2 i x hx
  exact ⟨a, e1, g a fa, kl, e a _ fa ha⟩⟩
theorem LR.same {F : Addr → Prop} {H H' : Hp} {xs : List V} {f : Nat → List Int} {m : Nat} (h : LR K F H xs f m) (e : Same H H') : LR K F H' xs f m := h.imp (fun _ z => z) fun a o _ => e a o
theorem LR.snoc {F : Addr → Prop} {H : Hp} {xs : List V} {f : Nat → List Int} {m : Nat} {a : Addr} (h : LR K F H xs f m) (fa : F a) (kl : K.lookup a = none) (ha : H a = some (.lst ((f m).map V.int))) : LR K F H (xs ++ [.ref a]) f (m + 1) := ⟨by rw [List.length_append, h.1]; rfl, fun i x hx => by
  rcases Nat.lt_or_ge i xs.length with z | z
  · rw [List.getElem?_append_left z] at hx
    exact h.2 i x hx
  · rw [List.getElem?_append_right z] at hx
    have l := h.1
    have : i - xs.length = 0 := by
      have := (List.getElem?_eq_some_iff.mp hx).1
      rw [List.length_singleton] at this
      omega
    rw [this] at hx
    cases hx
    rw [show i = m by omega]
    exact ⟨a, rfl, fa, kl, ha⟩⟩
theorem LR.at {F : Addr → Prop} {H : Hp} {xs : List V} {f : Nat → List Int} {m i : Nat} (h : LR K F H xs f m) (hi : i < m) : ∃ a, xs[i]? = some (.ref a) ∧ F a ∧ K.lookup a = none ∧ H a = some (.lst ((f i).map V.int)) := by
  have l : i < xs.length := by rw [h.1]; exact hi
  obtain ⟨a, e1, r⟩ := h.2 i xs[i] (List.getElem?_eq_getElem l)
  exact ⟨a, by rw [List.getElem?_eq_getElem l, e1], r⟩
theorem LR.last {F : Addr → Prop} {H : Hp} {xs : List V} {f : Nat → List Int} {m : Nat} (h : LR K F H xs f (m + 1)) : ∃ a, atI xs (-1) = some (.ref a) ∧ F a ∧ K.lookup a = none ∧ H a = some (.lst ((f m).map V.int)) := by
  obtain ⟨a, e1, r⟩ := h.at (i := m) (by omega)
  refine ⟨a, ?_, r⟩
  rw [atI_m1 (fun z => by have := h.1; rw [z] at this; simp at this), h.1, Nat.add_sub_cancel]
  exact e1
def spDf (K : PySem.W.Frag) : Sp := fun vs H Q _ => ∃ (a : Addr) (ns : List Int), vs = [.ref a] ∧ H a = some (.lst (ns.map V.int)) ∧ 1 ≤ ns.length ∧ ns.length ≤ 100 ∧ ∀ p xs H', Same H H' → H p = none → K.lookup p = none → H' p = some (.lst xs) → LR K (fun b => H b = none ∧ b ≠ p) H' xs (fun k => itd k ns) ns.length → Q (.ref p) H'
def DfW (K : PySem.W.Frag) (a p : Addr) (ns : List Int) (H : Hp) (σ : L2.St) (H' : Hp) : Prop := ∃ (k : Nat) (xs : List V), σ = [some (.ref a), some (.ref p), none, none] ∧ k + 1 ≤ ns.length ∧ Same H H' ∧ H' p = some (.lst xs) ∧ LR K (fun b => H b = none ∧ b ≠ p) H' xs (fun k => itd k ns) (k + 1)
def DfM (p : Addr) (n : Nat) (_ : L2.St) (H' : Hp) : Nat := match H' p with
  | some (.lst xs) => n - xs.length
  | _ => 0
def DcI (D : Addr) (ms : List Int) (H0 : Hp) (i : Nat) (H' : Hp) : Prop := H' D = some (.lst (((dif ms).take i).map V.int)) ∧ Same H0 H'
abbrev sDfs : Stmt := topS 22
theorem scDfs : FnScope ["values", "rows", "row", "after"] ["values"] (defScope sDfs) := ⟨rfl, rfl, rfl, by decide +kernel, rfl, by decide +kernel, by decide +kernel⟩
theorem blk_scDfs_0 : BlkOk ["values", "rows", "row", "after"] (defScope sDfs) { kind := .function, names := [(".0", .local), ("row", .local), ("after", .local)], isGenerator := false, isCoroutine := false, more := [] } [("row", 2), ("after", 3)] := ⟨rfl, by decide +kernel, by decide +kernel, by decide +kernel, by decide +kernel⟩
theorem k_Dfs (zZ : mg "zip" = none) (T : Bt K mg) (D : Dfn K mg "_differences" sDfs ["values"]) : Kn P w K mg base 1 "_differences" ["values"] (spDf K) := by
  refine Kn.mk' D scDfs (fun vs H Q E h => ?_) (fun f cdv A outer s H vs Q E hr h => ?_)
  · obtain ⟨a, ns, rfl, _⟩ := h
    rfl
  obtain ⟨a, ns, rfl, ha, l1, l100, k⟩ := h
  refine ⟨_, (pss_cons (ps_set (i := 1) scDfs.nd rfl (.inl rfl) (pe_ls (pa_cons (pe_fr (pe_callTy call_list_of (by rfl) T.b_list (by decide +kernel) (pa_cons (pv 0) pa_nil))) pa_nil)))
      (pss_cons (ps_while PassesOwn.never (pt_cmpR op_gt (pe_callB call_lenA (by rfl) T.b_len PySem.boot_len (pa_cons (pe_ix ix_any (pv 1) (pe_un un_neg pe_int) (fun _ _ => rfl)) pa_nil)) pe_int (nomark _)) (pss_one (ps_expr (pe_bm PySem.F.plainAttrs_list PySem.F.slot_list_append PySem.F.type_list_append mt_append (pv 1) (pa_cons (pe_fr (pe_lc (own := [("row", 2), ("after", 3)]) (g := gTup K 2 (gCons (gName 2) (gCons (gName 3) gNil))) (te := (tOp (rI0 fun i j => V.int (i - j)) (tVar 3) (tVar 2))) rfl scDfs.nd (pi_zip (by rfl) zZ (pa_cons (pe_ix ix_any (pv 1) (pe_un un_neg pe_int) (fun _ _ => rfl)) (pa_cons (pe_fr (pe_slice sl_list (pe_ix ix_any (pv 1) (pe_un un_neg pe_int) (fun _ _ => rfl)) (po_some pe_int) po_none)) pa_nil))) blk_scDfs_0 (fun _ _ _ _ _ => by exact pg_tup rfl (pgs_cons (pg_name (i := 2) scDfs.nd rfl (.inl rfl)) (pgs_cons (pg_name (i := 3) scDfs.nd rfl (.inl rfl)) pgs_nil))) (fun _ _ _ _ _ => pts_nil) (fun _ _ _ _ _ => by exact (pe_op op_sub (pv 3) (pv 2))))) pa_nil)))))
      (pss_one (ps_ret (pv 1))))), ?_⟩
  refine ⟨_, rfl, a, _, rfl, .inl (.of ha), fun l0 hl0 fr0 => ?_⟩
  have s1 := Same.new hl0 (.lst (ns.map V.int))
  have k0 : K.lookup l0 = none := fr0 l0 (by rw [upd_same]; simp)
  have h0 : upd H l0 (.lst (ns.map V.int)) l0 = some (.lst (ns.map V.int)) := upd_same
  generalize upd H l0 (.lst (ns.map V.int)) = H1 at s1 h0 ⊢
  refine ⟨sz2 (by show 1 ≤ 100; decide), fun p hp kp => ?_⟩
  have kp : K.lookup p = none := kp
  have hp0 : H p = none := s1.free hp
  have s2 := Same.new hp (.lst [.ref l0])
  have np : l0 ≠ p := ne_of_none h0 hp
  refine while_by (DfW K a p ns H) (DfM p ns.length) ⟨0, [.ref l0], rfl, l1, s1.trans s2, upd_same, rfl, fun i x hx => ?_⟩ ?_ ?_
  · have : i = 0 := by
      have := (List.getElem?_eq_some_iff.mp hx).1
      rw [List.length_singleton] at this
      omega
    subst this
    cases hx
    exact ⟨l0, rfl, ⟨hl0, np⟩, k0, s2 _ _ h0⟩
  · rintro σ H' ⟨kk, xs, rfl, hk, sH, hpx, lr⟩
    obtain ⟨r, er, fr, kr, hr'⟩ := lr.last
    have op : ob K H' p = some (.lst xs) := (ob_none kp).trans hpx
    have or : ob K H' r = some (.lst ((itd kk ns).map V.int)) := (ob_none kr).trans hr'
    have il := itd_len ns kk
    refine ⟨_, rfl, _, rfl, p, -1, rfl, rfl, _, itsO_ofL op, _, er, r, rfl, _, itsO_ofL or, _, _, rfl, rfl, _, rfl, ite2 (fun h => ?_) (fun h => ?_)⟩
    · have h : (1 : Int) < ((itd kk ns).map V.int).length := of_decide_eq_true h
      rw [List.length_map, il] at h
      have hk2 : kk + 2 ≤ ns.length := by omega
      refine ⟨_, rfl, .inl ⟨rfl, _, .of hpx⟩, _, rfl, _, rfl, p, -1, rfl, rfl, _, itsO_ofL op, _, er, _, rfl, _, rfl, p, -1, rfl, rfl, _, itsO_ofL op, _, er, _, rfl, r, _, rfl, .of hr', ?_⟩
      have ec : cutV ((itd kk ns).map V.int) (some ((fun i => i) 1)) none = ((itd kk ns).map V.int).drop 1 := cut_from _ 1 (by rw [List.length_map, il]; omega)
      rw [show cutV ((itd kk ns).map V.int) (some 1) none = ((itd kk ns).map V.int).drop 1 from ec]
      refine fun l2 hl2 fr2 => ?_
      have s3 := Same.new hl2 (.lst (((itd kk ns).map V.int).drop 1))
      have hr3 := s3 _ _ hr'
      have hl3 : upd H' l2 (.lst (((itd kk ns).map V.int).drop 1)) l2 = some (.lst (((itd kk ns).map V.int).drop 1)) := upd_same
      have hp3 := s3 _ _ hpx
      have lr3 := lr.same s3
      have sH3 := sH.trans s3
      generalize upd H' l2 (.lst (((itd kk ns).map V.int).drop 1)) = H3 at s3 hr3 hl3 hp3 lr3 sH3 ⊢
      have yl : (((itd kk ns).map V.int).drop 1).length = ns.length - kk - 1 := by rw [List.length_drop, List.length_map, il]
      refine ⟨r, l2, _, _, rfl, .of hr3, .of hl3, fun D hD => lc_zip (xs := (itd kk ns).map V.int) (ys := ((itd kk ns).map V.int).drop 1) (by rw [yl, List.length_map, il]; omega) (DcI D (itd kk ns) H3) ⟨upd_same, Same.new hD _⟩ (fun i H5 _ h => ⟨.of (h.2 _ _ hr3), .of (h.2 _ _ hl3)⟩) ?_ ?_⟩
      · rintro i x y T H5 hx hy ⟨h5, s5⟩ hT
        rw [List.getElem?_map] at hx
        rw [List.getElem?_drop, List.getElem?_map, Nat.add_comm] at hy
        obtain ⟨x1, ex, rfl⟩ := Option.map_eq_some_iff.mp hx
        obtain ⟨y1, ey, rfl⟩ := Option.map_eq_some_iff.mp hy
        have sT := Same.new hT (.tup [V.int x1, V.int y1])
        refine ⟨T, _, rfl, .inl (.inl upd_same), rfl, _, _, rfl, _, _, rfl, rfl, rfl, ?_⟩
        simp only [tYes, if_true]
        have xl := (List.getElem?_eq_some_iff.mp ex).1
        refine ⟨_, rfl, _, rfl, _, _, rfl, rfl, _, sT _ _ h5, by rw [List.length_map, List.length_take, sizeLine_eq]; omega, ?_, fun c o e => ?_⟩
        · rw [upd_same, dif_take ex ey, List.map_append]
          rfl
        · rw [upd_ne (ne_of_none e hD)]
          exact sT _ _ (s5 _ _ e)
      · rintro H5 ⟨h5, s5⟩ fr5
        rw [yl, List.take_of_length_le (by rw [dif_len, il]; omega)] at h5
        have hp5 := s5 _ _ hp3
        have lr5 := lr3.same s5
        have nD : D ≠ p := Ne.symm (ne_of_none hp3 hD)
        refine ⟨p, xs, _, rfl, rfl, hp5, by have := lr.1; rw [sizeLine_eq]; omega, ⟨kk + 1, xs ++ [.ref D], rfl, by omega, fun b o e => ?_, upd_same, ?_⟩, ?_⟩
        · rw [upd_ne (ne_of_none e hp0)]
          exact s5 _ _ (sH3 _ _ e)
        · refine (LR.snoc lr5 ⟨sH3.free hD, nD⟩ (fr5 D (by rw [h5]; simp)) h5).imp (fun _ z => z) fun b o fb e => ?_
          rw [upd_ne fb.2]
          exact e
        · unfold DfM
          rw [upd_same, hpx]
          show ns.length - (xs ++ [V.ref D]).length < ns.length - xs.length
          have := lr.1
          rw [List.length_append, List.length_singleton]
          omega
    · have h : ¬ (1 : Int) < ((itd kk ns).map V.int).length := fun z => h (decide_eq_true z)
      rw [List.length_map, il] at h
      have ek : kk + 1 = ns.length := by omega
      rw [ek] at lr
      exact ⟨_, rfl, k p xs H' sH hp0 kp hpx lr⟩
  · rintro σ H' Q' Q2 hq h
    obtain ⟨a1, a2, a3, a4, a5, a6, a7, a8, a9, b1, b2, b3, b4, b5, b6, b7, b8, b9, c1, c2, c3, c4, h⟩ := h
    exact ⟨a1, a2, a3, a4, a5, a6, a7, a8, a9, b1, b2, b3, b4, b5, b6, b7, b8, b9, c1, c2, c3, c4, hq _ _ h⟩

end
end My

namespace My
open PySem PySem.Spec PyProof.Rows L2
section
variable {P : Program} {w : World} {K : PySem.W.Frag} {mg : Str → Option Value} {base : Heap}
theorem ints_of : ∀ {xs : List V}, (∀ x ∈ xs, ∃ n : Int, x = .int n) → ∃ ns : List Int, xs = ns.map V.int
  | [], _ => ⟨[], rfl⟩
  | x :: r, h => by
    obtain ⟨n, rfl⟩ := h x List.mem_cons_self
    obtain ⟨ns, rfl⟩ := ints_of (xs := r) fun y hy => h y (List.mem_cons_of_mem _ hy)
    exact ⟨n :: ns, rfl⟩
theorem ap_tbG {H : Hp} {Q : VK} {a : Addr} {ns : List Int} (ha : H a = some (.lst (ns.map V.int))) (ka : K.lookup a = none) (l1 : 1 ≤ ns.length) (l2 : ns.length ≤ 60) (k : ∀ H', Same H H' → Q (.bl true) H') : TbA K H (.ref a) Q := by
  refine .inr ⟨a, _, rfl, (ob_none ka).trans ha, .inr ⟨by rw [List.length_map]; exact l1, by rw [List.length_map]; exact l2, fun x hx => ?_, fun H' s => ?_⟩⟩
  · obtain ⟨u, _, rfl⟩ := List.mem_map.mp hx
    rfl
  · rw [show (ns.map V.int).all wholeV = true from List.all_eq_true.mpr fun x hx => by
      obtain ⟨u, _, rfl⟩ := List.mem_map.mp hx
      rfl]
    exact k H' s
def spDfP (K : PySem.W.Frag) : Sp := fun vs H Q _ => ∃ (a : Addr) (ns : List Int), vs = [.ref a] ∧ H a = some (.lst (ns.map V.int)) ∧ K.lookup a = none ∧ 1 ≤ ns.length ∧ ns.length ≤ 60 ∧ ∀ p xs H', Same H H' → H p = none → K.lookup p = none → H' p = some (.lst xs) → LR K (fun b => H b = none ∧ b ≠ p) H' xs (fun k => itd k ns) ns.length → Q (.ref p) H'
def spDg (K : PySem.W.Frag) : Sp := fun vs H Q _ => ∃ (a : Addr) (ns : List Int), vs = [.ref a] ∧ H a = some (.lst (ns.map V.int)) ∧ K.lookup a = none ∧ 1 ≤ ns.length ∧ ns.length ≤ 60 ∧ ∀ H', Same H H' → Q (.int (dgU ns (ns.length - 1) : Nat)) H'
def DgI (D : Addr) (ns : List Int) (H0 : Hp) (i : Nat) (H' : Hp) : Prop := ∃ acc, H' D = some (.lst acc) ∧ acc.length = dgU ns i ∧ Same H0 H'
abbrev sDif : Stmt := topS 19
theorem scDif : FnScope ["values"] ["values"] (defScope sDif) := ⟨rfl, rfl, rfl, by decide +kernel, rfl, by decide +kernel, by decide +kernel⟩
theorem k_Dif (T : Bt K mg) (D : Dfn K mg "differences" sDif ["values"]) (d_require : Kn P w K mg base 1 "require" ["well_formed", "what"] spRequire) (d_is_table : Kn P w K mg base 2 "is_table" ["value"] (spTb K)) (d__differences : Kn P w K mg base 1 "_differences" ["values"] (spDf K)) : Kn P w K mg base 3 "differences" ["values"] (spDfP K) := by
  refine Kn.mk' D scDif (fun vs H Q E h => ?_) (fun f cdv A outer s H vs Q E hr h => ?_)
  · obtain ⟨a, ns, rfl, _⟩ := h
    rfl
  obtain ⟨a, ns, rfl, ha, ka, l1, l2, k⟩ := h
  refine ⟨_, (pss_cons (ps_expr (pe_kn d_require hr (by rfl) (pa_cons (pe_kn d_is_table hr (by rfl) (pa_cons (pv 0) pa_nil)) (pa_cons pe_str pa_nil))))
      (pss_one (ps_ret (pe_kn d__differences hr (by rfl) (pa_cons (pv 0) pa_nil))))), ?_⟩
  refine ⟨_, rfl, _, rfl, ap_tbG ha ka l1 l2 fun H1 s1 => ⟨_, rfl, ?_⟩⟩
  refine ⟨_, rfl, a, ns, rfl, s1 _ _ ha, l1, by omega, fun p xs H2 s2 hp kp hx lr => ?_⟩
  exact k p xs H2 (s1.trans s2) (s1.free hp) kp hx (lr.imp (fun b z => ⟨s1.free z.1, z.2⟩) fun _ _ _ e => e)
abbrev sDeg : Stmt := topS 20
theorem scDeg : FnScope ["values", "row"] ["values"] (defScope sDeg) := ⟨rfl, rfl, rfl, by decide +kernel, rfl, by decide +kernel, by decide +kernel⟩
theorem blk_scDeg_0 : BlkOk ["values", "row"] (defScope sDeg) { kind := .function, names := [(".0", .local), ("row", .local), ("any", .globalImplicit)], isGenerator := false, isCoroutine := false, more := [] } [("row", 1)] := ⟨rfl, by decide +kernel, by decide +kernel, by decide +kernel, by decide +kernel⟩
theorem k_Deg (zY : mg "any" = none) (T : Bt K mg) (D : Dfn K mg "degree_of" sDeg ["values"]) (d_require : Kn P w K mg base 1 "require" ["well_formed", "what"] spRequire) (d_is_table : Kn P w K mg base 2 "is_table" ["value"] (spTb K)) (d__differences : Kn P w K mg base 1 "_differences" ["values"] (spDf K)) : Kn P w K mg base 3 "degree_of" ["values"] (spDg K) := by
  refine Kn.mk' D scDeg (fun vs H Q E h => ?_) (fun f cdv A outer s H vs Q E hr h => ?_)
  · obtain ⟨a, ns, rfl, _⟩ := h
    rfl
  obtain ⟨a, ns, rfl, ha, ka, l1, l2, k⟩ := h
  refine ⟨_, (pss_cons (ps_expr (pe_kn d_require hr (by rfl) (pa_cons (pe_kn d_is_table hr (by rfl) (pa_cons (pv 0) pa_nil)) (pa_cons pe_str pa_nil))))
      (pss_one (ps_ret (pe_callB call_lenA (by rfl) T.b_len PySem.boot_len (pa_cons (pe_fr (pe_lc (own := [("row", 1)]) (g := gName 1) (tt := (tTest (tCB (rAnyI K) (tCons (tVar 1) L2.tNil)))) (te := (tVar 1)) rfl scDeg.nd (pi_list (pe_fr (pe_slice sl_list (pe_kn d__differences hr (by rfl) (pa_cons (pv 0) pa_nil)) (po_some pe_int) po_none))) blk_scDeg_0 (fun _ _ _ _ _ => by exact pg_name (i := 1) scDeg.nd rfl (.inl rfl)) (fun _ _ _ _ _ => by exact (pts_one (pt_val (pe_callB (cr_anyI rfl) (by rfl) zY (by decide +kernel) (pa_cons (pv 1) pa_nil))))) (fun _ _ _ _ _ => by exact (pv 1)))) pa_nil))))), ?_⟩
  refine ⟨_, rfl, _, rfl, ap_tbG ha ka l1 l2 fun H1 s1 => ⟨_, rfl, ?_⟩⟩
  refine ⟨_, rfl, a, ns, rfl, s1 _ _ ha, l1, by omega, fun p xs H2 s2 hp kp hx lr => ⟨_, rfl, p, xs, rfl, .of hx, ?_⟩⟩
  have xl := lr.1
  rw [show cutV xs (some 1) none = xs.drop 1 from cut_from xs 1 (by omega)]
  refine fun q hq frq => ?_
  have s3 := Same.new hq (.lst (xs.drop 1))
  have hq3 : upd H2 q (.lst (xs.drop 1)) q = some (.lst (xs.drop 1)) := upd_same
  have lr3 := lr.same s3
  have s13 := s1.trans (s2.trans s3)
  generalize upd H2 q (.lst (xs.drop 1)) = H3 at hq3 lr3 s13 ⊢
  refine ⟨q, rfl, ⟨_, .of hq3⟩, fun D hD => lc_list (xs := xs.drop 1) (DgI D ns H3) ⟨[], upd_same, rfl, Same.new hD _⟩ (fun i H' _ h => ?_) ?_ ?_⟩
  · obtain ⟨_, _, _, s4⟩ := h
    exact .of (s4 _ _ hq3)
  · rintro i x H' hi ⟨acc, hd, al, s4⟩
    rw [List.getElem?_drop, Nat.add_comm] at hi
    obtain ⟨b, rfl, _, kb, hb⟩ := lr3.2 (i + 1) x hi
    have hb4 := s4 _ _ hb
    have dl := dgU_le ns i
    have il := (List.getElem?_eq_some_iff.mp hi).1
    refine ⟨rfl, ?_⟩
    refine ⟨_, rfl, b, itd (i + 1) ns, rfl, .of hb4, _, rfl, ite2 (fun h => ?_) (fun h => ?_)⟩
    · refine ⟨_, rfl, acc, hd, by rw [al, sizeLine_eq]; omega, acc ++ [.ref b], upd_same, ?_, fun c o e => by rw [upd_ne (ne_of_none e hD)]; exact s4 _ _ e⟩
      rw [List.length_append, al]
      show dgU ns i + 1 = dgU ns i + (if nz (itd (i + 1) ns) = true then 1 else 0)
      rw [if_pos (show nz (itd (i + 1) ns) = true from h)]
    · refine ⟨acc, hd, ?_, s4⟩
      rw [al]
      show dgU ns i = dgU ns i + (if nz (itd (i + 1) ns) = true then 1 else 0)
      rw [if_neg (show ¬ nz (itd (i + 1) ns) = true from h), Nat.add_zero]
  · rintro H' ⟨acc, hd, al, s4⟩ fr
    refine ⟨D, rfl, acc, itsO_ofL ((ob_none (fr D (by rw [hd]; simp))).trans hd), ?_⟩
    rw [al, List.length_drop, xl]
    exact k H' (s13.trans s4)

/-- the store, while a list is written that is newer than it -/
theorem Sto.mut {H0 H' : Hp} {s l : Addr} {o : HO} (st0 : Sto K H0 s) (hl : H0 l = none) (kp : Kp s H0 H') (st : Sto K H' s) : Sto K (upd H' l o) s ∧ Kp s H0 (upd H' l o) := by
  obtain ⟨sc0, ns0, i0, b0, c0, d0, e0, f0, g1, g2, g3⟩ := st0
  obtain ⟨sc, ns, i, b, c, d, e, f, h1, h2, h3⟩ := st
  obtain ⟨r', hr⟩ := kp.2 _ _ g1
  rw [h1] at hr
  cases hr
  have n1 : s ≠ l := by rintro rfl; rw [g1] at hl; cases hl
  have n2 : sc0 ≠ l := by rintro rfl; rw [g2] at hl; cases hl
  refine ⟨⟨sc0, ns, i, b, c, d, e, f, by rw [upd_ne n1]; exact h1, by rw [upd_ne n2]; exact h2, h3⟩, fun b o n e => ?_, fun x r e => ?_⟩
  · rw [upd_ne (ne_of_none e hl)]
    exact kp.1 b o n e
  · obtain ⟨r2, hr2⟩ := kp.2 x r e
    exact ⟨r2, by rw [upd_ne n1]; exact hr2⟩
theorem Sto.ne' {H : Hp} {s l : Addr} (st : Sto K H s) (hl : H l = none) : l ≠ s := by
  rintro rfl
  obtain ⟨ys, hy⟩ := st.at
  rw [hy] at hl
  cases hl
theorem Kp.free {H H' : Hp} {s p : Addr} (kp : Kp s H H') (st : Sto K H' s) (hp : H' p = none) : H p = none := by
  have ne := st.ne' hp
  cases e : H p with
  | none => rfl
  | some o =>
    have := kp.1 p o ne e
    rw [hp] at this
    cases this
theorem Sto.ne {H : Hp} {s l : Addr} (st : Sto K H s) (hl : H l = none) : l ≠ s := by
  rintro rfl
  obtain ⟨ys, hy⟩ := st.at
  rw [hy] at hl
  cases hl
def spSize (K : PySem.W.Frag) : Sp := fun vs H Q _ => ∃ (s : Addr) (top : Int), vs = [.ref s, .int top] ∧ Sto K H s ∧ 0 ≤ top ∧ top < 2 ^ 60 ∧ ∀ r H', 0 ≤ r → r ≤ top → Kp s H H' → Sto K H' s → Q (.int r) H'
abbrev sSize : Stmt := topS 28
theorem scSize : FnScope ["_law_store_here", "_law_top", "_law_spot"] ["_law_store_here", "_law_top"] (defScope sSize) := ⟨rfl, rfl, rfl, by decide +kernel, rfl, by decide +kernel, by decide +kernel⟩
theorem k_Size (T : Bt K mg) (D : Dfn K mg "_law_size" sSize ["_law_store_here", "_law_top"]) (d__law_take : Kn P w K mg base 2 "_law_take" ["_law_store_here", "_law_many"] (spTake K)) : Kn P w K mg base 3 "_law_size" ["_law_store_here", "_law_top"] (spSize K) := by
  refine Kn.mk' D scSize (fun vs H Q E h => ?_) (fun f cdv A outer s H vs Q E hr h => ?_)
  · obtain ⟨s, top, rfl, _⟩ := h
    rfl
  obtain ⟨s, top, rfl, hS, t0, t1, k⟩ := h
  refine ⟨_, (pss_cons (ps_set (i := 2) scSize.nd rfl (.inl rfl) (pe_kn d__law_take hr (by rfl) (pa_cons (pv 0) (pa_cons pe_int pa_nil))))
      (pss_cons (ps_if (pt_cmpR op_lt (pv 2) pe_int (nomark _)) (pss_one (ps_ret (pe_callB (call_min2 rfl) (by rfl) T.b_min (by decide +kernel) (pa_cons (pv 2) (pa_cons (pv 1) pa_nil))))) pss_nil)
      (pss_cons (ps_if (PW.pt (pw_and (pt_cmpR op_eq (pv 2) pe_int (nomark _)) (pw_and1 (PW.pt (pw_or (pt_cmpR op_lt (pv 1) pe_int (nomark _)) (pw_or1 (pt_cmpR op_eq (pe_kn d__law_take hr (by rfl) (pa_cons (pv 0) (pa_cons pe_int pa_nil))) pe_int (nomark _)))))))) (pss_one (ps_ret (pv 1))) pss_nil)
      (pss_one (ps_ret (pe_kn d__law_take hr (by rfl) (pa_cons (pv 0) (pa_cons (pe_op op_add (pe_callB (call_min2 rfl) (by rfl) T.b_min (by decide +kernel) (pa_cons (pv 1) (pa_cons pe_int pa_nil))) pe_int) pa_nil)))))))), ?_⟩
  refine ⟨_, rfl, s, 12, rfl, hS, by omega, fun i H1 i0 i1 kp st => ?_⟩
  simp only [cx_K, decide_true, decide_false, reduceCtorEq, gTp, gCons, gNil, ca_0, ca_1, ca_2, ca_3, ca_4, ca_5, ca_6, ca_7, ca_8, ca_9, ca_10, ca_11, ca_12, ca_13, ca_14, ca_15, ca_16, ca_17, ca_18, ca_19, ca_20, ca_21, ca_22, ca_23, ca_24, ca_25, ca_26, ca_27, ca_28, ca_29, ca_30, not_true_eq_false, not_false_eq_true, Int.reduceEq, Nat.reduceEqDiff, Nat.reduceLeDiff, rGcd, V.ty.injEq, eq_self, List.not_mem_nil, beq_self_eq_true, HO.lst.injEq, HO.tup.injEq, tFor_eq, iRng1, iList, iTup, nat10, tSeq, rIxA, rSetA, rIsN, rIsT, tTp, tLs, itsO_tup, itsO_lst, tyO_tup, tyO_lst, tyO_dK, tyN_non, tyN_bl, tyN_int, tyN_str, tyN_ref, tyNs_lt, isB, upd_same, upd_upd, sizeLine_eq, List.mem_cons, String.reduceBEq, String.reduceEq, Bool.or_false, Bool.or_true, Bool.and_false, Bool.false_or, Bool.and_self, Bool.false_and, Bool.not_false, Bool.not_true, List.any_cons, List.any_nil, atI_0, setI_0, atI_1, setI_1, atI_2, setI_2, atI_3, setI_3, atI_4, setI_4, atI_5, setI_5, atI_6, setI_6, tAsg, gName, tOp, tUn, tVar, tC, tCons, L2.tNil, tRet, tIfS, tTest, tCB, tCall, rI, rI0, rU, tNext, tB, tAnd, tOr, tNot, tAndV, tOrV, tNotV, tDrop, tIf, tPar, gSub, rIxL, rIxT, rEq, rNe, rSetL, tBits,
    L2.start, List.map_cons, List.map_nil, List.cons_append, List.nil_append, List.append_nil, List.length_cons, List.length_nil, List.replicate, Nat.reduceAdd, Nat.reduceSub, Nat.zero_add, List.getElem?_cons_zero, List.getElem?_cons_succ, List.set_cons_zero, List.set_cons_succ,
    Option.some.injEq, exists_eq_left', exists_eq_left, V.int.injEq, V.bl.injEq, V.ref.injEq, V.str.injEq, List.cons.injEq, reduceCtorEq, and_true, true_and, false_and, and_false, exists_false, or_false, false_or, or_true, true_or, exists_const, CMul, CDiv, CPow, and_assoc, exists_and_left, exists_and_right, Int.reducePow, Int.reduceNeg, Int.reduceLT, Int.reduceLE, Nat.reducePow, Nat.reduceLT, Int.reduceToNat, gt_iff_lt, ge_iff_le, decide_eq_true_eq, Bool.not_eq_true', decide_eq_false_iff_not, scal, ↓reduceIte, Bool.false_eq_true]
  refine ite2 (fun h => ?_) (fun h => ?_)
  · refine k _ H1 ?_ ?_ kp st <;> split <;> omega
  have fin : ∀ H2, Kp s H1 H2 → Sto K H2 s → spTake K [.ref s, .int ((if 6 < top then 6 else top) + 1)] H2 Q C8.E0 := fun H2 kp2 st2 =>
    ⟨s, _, rfl, st2, by split <;> omega, fun j H3 j0 j1 kp3 st3 => k j H3 j0 (by split at j1 <;> omega) ((kp.trans kp2).trans kp3) st3⟩
  refine ite2 (fun _ => ite2 (fun _ => k top H1 t0 (Int.le_refl _) kp st) (fun _ => ⟨s, 3, rfl, st, by omega, fun j H2 j0 j1 kp2 st2 => ⟨rfl, ite2 (fun _ => k top H2 t0 (Int.le_refl _) (kp.trans kp2) st2) (fun _ => fin H2 kp2 st2)⟩⟩)) (fun _ => fin H1 (Kp.refl _ _) st)
def spWith (K : PySem.W.Frag) : Sp := fun vs H Q _ => ∃ (s a : Addr) (xs : List V) (y : V), vs = [.ref s, .ref a, y] ∧ Sto K H s ∧ H a = some (.lst xs) ∧ K.lookup a = none ∧ a ≠ s ∧ 1 ≤ xs.length ∧ xs.length ≤ 1000 ∧ ∀ c j H', j < xs.length → Kp s H H' → Sto K H' s → H' c = some (.lst (xs.take j ++ y :: xs.drop (j + 1))) → H c = none → K.lookup c = none → Q (.ref c) H'
abbrev sWith : Stmt := topS 34
theorem scWith : FnScope ["_law_store_here", "_law_row", "_law_item", "_law_spot"] ["_law_store_here", "_law_row", "_law_item"] (defScope sWith) := ⟨rfl, rfl, rfl, by decide +kernel, rfl, by decide +kernel, by decide +kernel⟩
theorem k_With (T : Bt K mg) (D : Dfn K mg "_law_with" sWith ["_law_store_here", "_law_row", "_law_item"]) (d__law_take : Kn P w K mg base 2 "_law_take" ["_law_store_here", "_law_many"] (spTake K)) : Kn P w K mg base 3 "_law_with" ["_law_store_here", "_law_row", "_law_item"] (spWith K) := by
  refine Kn.mk' D scWith (fun vs H Q E h => ?_) (fun f cdv A outer s H vs Q E hr h => ?_)
  · obtain ⟨s, a, xs, y, rfl, _⟩ := h
    rfl
  obtain ⟨s, a, xs, y, rfl, hS, ha, ka, na, l1, l2, k⟩ := h
  refine ⟨_, (pss_cons (ps_set (i := 3) scWith.nd rfl (.inl rfl) (pe_kn d__law_take hr (by rfl) (pa_cons (pv 0) (pa_cons (pe_callB call_lenA (by rfl) T.b_len PySem.boot_len (pa_cons (pv 1) pa_nil)) pa_nil))))
      (pss_one (ps_ret (pe_fr (pe_op op_cat (pe_fr (pe_op op_cat (pe_fr (pe_slice sl_list (pv 1) po_none (po_some (pv 3)))) (pe_ls (pa_cons (pv 2) pa_nil)))) (pe_fr (pe_slice sl_list (pv 1) (po_some (pe_op op_add (pv 3) pe_int)) po_none))))))), ?_⟩
  have oa := (ob_none ka).trans ha
  refine ⟨_, rfl, _, rfl, a, rfl, _, itsO_ofL oa, s, _, rfl, hS, by omega, fun i H1 i0 i1 kp st => ?_⟩
  obtain ⟨j, rfl⟩ : ∃ j : Nat, i = (j : Int) := ⟨i.toNat, by omega⟩
  have hj : j < xs.length := by omega
  have ha1 := kp _ _ na ha
  refine ⟨_, rfl, _, rfl, _, rfl, a, xs, rfl, .of ha1, ?_⟩
  rw [cut_to xs j (by omega)]
  refine fun p1 hp1 fr1 => ?_
  have s1 := Same.new hp1 (.lst (xs.take j))
  have c1 : upd H1 p1 (.lst (xs.take j)) p1 = some (.lst (xs.take j)) := upd_same
  have ha2 := s1 _ _ ha1
  generalize upd H1 p1 (.lst (xs.take j)) = H2 at s1 c1 ha2 ⊢
  refine ⟨_, rfl, sz2 (by show 1 ≤ 100; decide), fun p2 hp2 kp2 => ?_⟩
  have s2 := Same.new hp2 (.lst [y])
  have c2 : upd H2 p2 (.lst [y]) p2 = some (.lst [y]) := upd_same
  have c1 := s2 _ _ c1
  have ha3 := s2 _ _ ha2
  generalize upd H2 p2 (.lst [y]) = H3 at s2 c1 c2 ha3 ⊢
  refine ⟨p1, p2, _, _, rfl, rfl, c1, c2, by rw [List.length_take, List.length_singleton, sizeLine_eq]; omega, fun p3 hp3 fr3 => ?_⟩
  have s3 := Same.new hp3 (.lst (xs.take j ++ [y]))
  have c3 : upd H3 p3 (.lst (xs.take j ++ [y])) p3 = some (.lst (xs.take j ++ [y])) := upd_same
  have ha4 := s3 _ _ ha3
  generalize upd H3 p3 (.lst (xs.take j ++ [y])) = H4 at s3 c3 ha4 ⊢
  have ec : cutV xs (some ((j : Int) + 1)) none = xs.drop (j + 1) := by
    rw [show ((j : Int) + 1) = ((j + 1 : Nat) : Int) by omega]
    exact cut_from xs (j + 1) (by omega)
  refine ⟨_, rfl, _, rfl, _, _, rfl, rfl, _, rfl, a, xs, rfl, .of ha4, fun p4 hp4 fr4 => ?_⟩
  have s4 := Same.new hp4 (.lst (cutV xs (some ((j : Int) + 1)) none))
  have c4 : upd H4 p4 (.lst (cutV xs (some ((j : Int) + 1)) none)) p4 = some (.lst (xs.drop (j + 1))) := by rw [ec]; exact upd_same
  have c3 := s4 _ _ c3
  have hp4' : upd H4 p4 (.lst (cutV xs (some ((j : Int) + 1)) none)) = upd H4 p4 (.lst (cutV xs (some ((fun i j => i + j) (j : Int) 1)) none)) := rfl
  refine ⟨p3, p4, _, _, rfl, rfl, c3, c4, by rw [List.length_append, List.length_take, List.length_singleton, List.length_drop, sizeLine_eq]; omega, fun p5 hp5 fr5 => ?_⟩
  have s5 := Same.new hp5 (.lst (xs.take j ++ [y] ++ xs.drop (j + 1)))
  have sA := s1.trans (s2.trans (s3.trans (s4.trans s5)))
  have sB := s1.trans (s2.trans (s3.trans s4))
  exact k p5 j _ hj (kp.trans (Kp.same sA)) (st.same sA) (by rw [upd_same, List.append_assoc]; rfl) (Kp.free (kp.trans (Kp.same sB)) (st.same sB) hp5) (fr5 p5 (by rw [upd_same]; simp))
/-- a list that grows by draws, its items of any kind that stays -/
structure Stb (K : PySem.W.Frag) (s : Addr) (R : Hp → V → Prop) : Prop where
  kp : ∀ H H' x, R H x → Kp s H H' → Sto K H s → R H' x
  put : ∀ H D xs o x, R H x → H D = some (.lst xs) → R (upd H D o) x
def PvG (K : PySem.W.Frag) (R : Hp → V → Prop) (s D : Addr) (H1 : Hp) (i : Nat) (H' : Hp) : Prop := ∃ acc : List V, acc.length = i ∧ H' D = some (.lst acc) ∧ Kp s H1 H' ∧ Sto K H' s ∧ ∀ x ∈ acc, R H' x
theorem pvg_0 {R : Hp → V → Prop} {s D : Addr} {H1 : Hp} (st : Sto K H1 s) (hD : H1 D = none) : PvG K R s D H1 0 (upd H1 D (.lst [])) := ⟨[], rfl, upd_same, (st.mut hD (Kp.refl _ _) st).2, (st.mut hD (Kp.refl _ _) st).1, fun x hx => nomatch hx⟩
theorem pvg_step {R : Hp → V → Prop} {i : Nat} {s D : Addr} {H1 H' H2 : Hp} {y : V} (S : Stb K s R) (st1 : Sto K H1 s) (hD : H1 D = none) (h : PvG K R s D H1 i H') (kp : Kp s H' H2) (st : Sto K H2 s) (hy : R H2 y) (hi : i < 1000) : ∃ acc, H2 D = some (.lst acc) ∧ acc.length < sizeLine ∧ PvG K R s D H1 (i + 1) (upd H2 D (.lst (acc ++ [y]))) := by
  obtain ⟨acc, l, hd, kp0, st0, hx⟩ := h
  have nD : D ≠ s := st1.ne hD
  have hd2 := kp D _ nD hd
  obtain ⟨m1, m2⟩ := st1.mut (o := .lst (acc ++ [y])) hD (kp0.trans kp) st
  refine ⟨acc, hd2, by rw [l, sizeLine_eq]; omega, acc ++ [y], by rw [List.length_append, l]; rfl, upd_same, m2, m1, fun x hm => ?_⟩
  rcases List.mem_append.mp hm with hm | hm
  · exact S.put _ _ _ _ _ (S.kp _ _ _ (hx x hm) kp st0) hd2
  · rw [List.mem_singleton] at hm
    subst hm
    exact S.put _ _ _ _ _ hy hd2
def GI (K : PySem.W.Frag) (s : Addr) (H : Hp) (lo hi : Nat) (Q : VK) : Prop := ∀ l (ns : List Int) H', lo ≤ ns.length → ns.length ≤ hi → H l = none → K.lookup l = none → H' l = some (.lst (ns.map V.int)) → Kp s H H' → Sto K H' s → Q (.ref l) H'
def isI : Hp → V → Prop := fun _ v => ∃ n : Int, v = .int n
theorem stb_i {s : Addr} : Stb K s isI := ⟨fun _ _ _ h _ _ => h, fun _ _ _ _ _ h _ => h⟩
/-- the list is done -/
theorem gi_fin {s D : Addr} {H H1 Hn : Hp} {n lo hi : Nat} {Q : VK} (k : GI K s H lo hi Q) (kp : Kp s H H1) (st : Sto K H1 s) (hD : H1 D = none) (h : PvG K isI s D H1 n Hn) (h1 : lo ≤ n) (h2 : n ≤ hi) (fr : ∀ a, Hn a ≠ none → K.lookup a = none) : Q (.ref D) Hn := by
  obtain ⟨acc, al, hd, kp2, st2, hx⟩ := h
  obtain ⟨ns, rfl⟩ := ints_of hx
  rw [List.length_map] at al
  exact k D ns Hn (by omega) (by omega) (kp.free st hD) (fr D (by rw [hd]; simp)) hd (kp.trans kp2) st2
def spHd (K : PySem.W.Frag) : Sp := fun vs H Q _ => ∃ (s : Addr) (m : Int), vs = [.ref s, .int m] ∧ Sto K H s ∧ 1 ≤ m ∧ m ≤ 10 ∧ GI K s H m.toNat m.toNat Q
abbrev sHd : Stmt := topS 38
theorem scHd : FnScope ["_law_store_here", "_law_many", "_law_k"] ["_law_store_here", "_law_many"] (defScope sHd) := ⟨rfl, rfl, rfl, by decide +kernel, rfl, by decide +kernel, by decide +kernel⟩
theorem blk_scHd_0 : BlkOk ["_law_store_here", "_law_many", "_law_k"] (defScope sHd) { kind := .function, names := [(".0", .local), ("_law_k", .local), ("_law_whole", .globalImplicit), ("_law_store_here", .free)], isGenerator := false, isCoroutine := false, more := [] } [("_law_k", 2)] := ⟨rfl, by decide +kernel, by decide +kernel, by decide +kernel, by decide +kernel⟩
theorem blk_scHd_1 : BlkOk ["_law_store_here", "_law_many", "_law_k"] (defScope sHd) { kind := .function, names := [(".0", .local), ("_law_k", .local), ("_law_whole", .globalImplicit), ("_law_store_here", .free)], isGenerator := false, isCoroutine := false, more := [] } [("_law_k", 2)] := ⟨rfl, by decide +kernel, by decide +kernel, by decide +kernel, by decide +kernel⟩
theorem k_Hd (T : Bt K mg) (D : Dfn K mg "_law_heads" sHd ["_law_store_here", "_law_many"]) (d__law_take : Kn P w K mg base 2 "_law_take" ["_law_store_here", "_law_many"] (spTake K)) (d__law_whole : Kn P w K mg base 3 "_law_whole" ["_law_store_here", "_law_reach"] (spLInt K)) : Kn P w K mg base 4 "_law_heads" ["_law_store_here", "_law_many"] (spHd K) := by
  refine Kn.mk' D scHd (fun vs H Q E h => ?_) (fun f cdv A outer s H vs Q E hr h => ?_)
  · obtain ⟨s, m, rfl, _⟩ := h
    rfl
  obtain ⟨s, m, rfl, hS, m1, m2, k⟩ := h
  refine ⟨_, (pss_cons (ps_if (pt_cmpR op_eq (pe_kn d__law_take hr (by rfl) (pa_cons (pv 0) (pa_cons pe_int pa_nil))) pe_int (nomark _)) (pss_one (ps_ret (pe_fr (pe_lc (own := [("_law_k", 2)]) (g := gName 2) (te := (tCall (spLInt K) [] E0 (tCons (tVar 0) (tCons (tOp (rI CPow fun i j => V.int (i ^ j.toNat)) (tC (.int 10)) (tC (.int 20))) L2.tNil)))) rfl scHd.nd (pi_range1 (by rfl) T.b_range (pa_cons (pv 1) pa_nil)) blk_scHd_0 (fun _ _ _ _ _ => by exact pg_name (i := 2) scHd.nd rfl (.inl rfl)) (fun _ _ _ _ _ => pts_nil) (fun _ _ _ _ _ => by exact (pe_kn d__law_whole hr (by rfl) (pa_cons (pv 0) (pa_cons (pe_op op_pow pe_int pe_int) pa_nil)))))))) pss_nil)
      (pss_one (ps_ret (pe_fr (pe_lc (own := [("_law_k", 2)]) (g := gName 2) (te := (tCall (spLInt K) [] E0 (tCons (tVar 0) (tCons (tC (.int 12)) L2.tNil)))) rfl scHd.nd (pi_range1 (by rfl) T.b_range (pa_cons (pv 1) pa_nil)) blk_scHd_1 (fun _ _ _ _ _ => by exact pg_name (i := 2) scHd.nd rfl (.inl rfl)) (fun _ _ _ _ _ => pts_nil) (fun _ _ _ _ _ => by exact (pe_kn d__law_whole hr (by rfl) (pa_cons (pv 0) (pa_cons pe_int pa_nil))))))))), ?_⟩
  have e20 : (10 : Int) ^ (20 : Int).toNat = 100000000000000000000 := by decide
  refine ⟨_, rfl, s, 8, rfl, hS, by omega, fun i H1 i0 i1 kp1 st1 => ⟨rfl, _, rfl, ite2 (fun h => ?_) (fun h => ?_)⟩⟩
  · refine ⟨_, rfl, _, rfl, by omega, by omega, fun D hD => lc_range (lo := 0) (n := m.toNat) (PvG K isI s D H1) (pvg_0 st1 hD) ?_ (fun Hn hP fr => gi_fin k kp1 st1 hD hP (Nat.le_refl _) (Nat.le_refl _) fr)⟩
    rintro i H' hi hP
    refine ⟨rfl, ?_⟩
    simp only [tYes, if_true]
    obtain ⟨_, _, _, kpP, stP, _⟩ := id hP
    exact ⟨_, rfl, _, _, rfl, rfl, by unfold CPow; decide, s, _, rfl, stP, by rw [e20]; decide, by rw [e20]; decide, fun n H3 _ _ kp3 st3 => pvg_step stb_i st1 hD hP kp3 st3 ⟨n, rfl⟩ (by omega)⟩
  · refine ⟨_, rfl, _, rfl, by omega, by omega, fun D hD => lc_range (lo := 0) (n := m.toNat) (PvG K isI s D H1) (pvg_0 st1 hD) ?_ (fun Hn hP fr => gi_fin k kp1 st1 hD hP (Nat.le_refl _) (Nat.le_refl _) fr)⟩
    rintro i H' hi hP
    refine ⟨rfl, ?_⟩
    simp only [tYes, if_true]
    obtain ⟨_, _, _, kpP, stP, _⟩ := id hP
    exact ⟨_, rfl, s, _, rfl, stP, by omega, by omega, fun n H3 _ _ kp3 st3 => pvg_step stb_i st1 hD hP kp3 st3 ⟨n, rfl⟩ (by omega)⟩
def spRo (K : PySem.W.Frag) : Sp := fun vs H Q _ => ∃ (a : Addr) (ns : List Int) (m : Int), vs = [.ref a, .int m] ∧ H a = some (.lst (ns.map V.int)) ∧ K.lookup a = none ∧ 1 ≤ ns.length ∧ ns.length ≤ 20 ∧ 0 ≤ m ∧ m ≤ 100 ∧ ∀ l (zs : List Int) H', zs.length = m.toNat → H l = none → K.lookup l = none → H' l = some (.lst (zs.map V.int)) → Same H H' → Q (.ref l) H'
def RoI (K : PySem.W.Frag) (a o : Addr) (m : Int) (n : Nat) (H : Hp) (i : Nat) (σ : L2.St) (H' : Hp) : Prop := ∃ (r : Addr) (ms zs : List Int) (x4 : Option V), σ = [some (.ref a), some (.int m), some (.ref r), some (.ref o), x4, none] ∧ Same H H' ∧ H' r = some (.lst (ms.map V.int)) ∧ K.lookup r = none ∧ r ≠ o ∧ ms.length = n ∧ H' o = some (.lst (zs.map V.int)) ∧ zs.length = i
def RcI (D : Addr) (H0 : Hp) (i : Nat) (H' : Hp) : Prop := ∃ zs : List Int, H' D = some (.lst (zs.map V.int)) ∧ zs.length = i ∧ Same H0 H'
abbrev sRo : Stmt := topS 39
theorem scRo : FnScope ["_law_heads_here", "_law_many", "_law_row", "_law_out", "_law_k", "_law_j"] ["_law_heads_here", "_law_many"] (defScope sRo) := ⟨rfl, rfl, rfl, by decide +kernel, rfl, by decide +kernel, by decide +kernel⟩
theorem blk_scRo_0 : BlkOk ["_law_heads_here", "_law_many", "_law_row", "_law_out", "_law_k", "_law_j"] (defScope sRo) { kind := .function, names := [(".0", .local), ("_law_j", .local), ("len", .globalImplicit), ("_law_row", .free)], isGenerator := false, isCoroutine := false, more := [] } [("_law_j", 5)] := ⟨rfl, by decide +kernel, by decide +kernel, by decide +kernel, by decide +kernel⟩
theorem k_Ro (T : Bt K mg) (D : Dfn K mg "_law_rows_of" sRo ["_law_heads_here", "_law_many"]) : Kn P w K mg base 1 "_law_rows_of" ["_law_heads_here", "_law_many"] (spRo K) := by
  refine Kn.mk' D scRo (fun vs H Q E h => ?_) (fun f cdv A outer s H vs Q E hr h => ?_)
  · obtain ⟨a, ns, m, rfl, _⟩ := h
    rfl
  obtain ⟨a, ns, m, rfl, ha, ka, l1, l2, m0, m1, k⟩ := h
  refine ⟨_, (pss_cons (ps_set (i := 2) scRo.nd rfl (.inr rfl) (pe_fr (pe_callTy call_list_of (by rfl) T.b_list (by decide +kernel) (pa_cons (pv 0) pa_nil))))
      (pss_cons (ps_set (i := 3) scRo.nd rfl (.inl rfl) (pe_ls pa_nil))
      (pss_cons (ps_for PassesOwn.never rfl (pi_range1 (by rfl) T.b_range (pa_cons (pv 1) pa_nil)) (pg_name (i := 4) scRo.nd rfl (.inl rfl)) (pss_cons (ps_expr (pe_bm PySem.F.plainAttrs_list PySem.F.slot_list_append PySem.F.type_list_append mt_append (pv 3) (pa_cons (pe_ix ix_any (pv 2) pe_int (fun _ _ => rfl)) pa_nil)))
      (pss_one (ps_set (i := 2) scRo.nd rfl (.inr rfl) (pe_fr (pe_lc (own := [("_law_j", 5)]) (g := gName 5) (te := (tOp (rI0 fun i j => V.int (i + j)) (tOp (rIxA K) (tVar 2) (tVar 5)) (tIf (tTest (tOp (rI0 fun i j => V.bl (decide (i < j))) (tOp (rI0 fun i j => V.int (i + j)) (tVar 5) (tC (.int 1))) (tCB (fun xs H Q => ∃ p, xs = [V.ref p] ∧ ∃ ys, itsO (ob K H p) = some ys ∧ Q (V.int (ys.length : Int)) H) (tCons (tVar 2) L2.tNil)))) (tOp (rIxA K) (tVar 2) (tOp (rI0 fun i j => V.int (i + j)) (tVar 5) (tC (.int 1)))) (tC (.int 0))))) rfl scRo.nd (pi_range1 (by rfl) T.b_range (pa_cons (pe_callB call_lenA (by rfl) T.b_len PySem.boot_len (pa_cons (pv 2) pa_nil)) pa_nil)) blk_scRo_0 (fun _ _ _ _ _ => by exact pg_name (i := 5) scRo.nd rfl (.inl rfl)) (fun _ _ _ _ _ => pts_nil) (fun _ _ _ _ _ => by exact (pe_op op_add (pe_ix ix_any (pv 2) (pv 5) (fun _ _ => rfl)) (pe_ifExp (pt_cmpR op_lt (pe_op op_add (pv 5) pe_int) (pe_callB call_lenA (by rfl) T.b_len PySem.boot_len (pa_cons (pv 2) pa_nil)) (nomark _)) (pe_ix ix_any (pv 2) (pe_op op_add (pv 5) pe_int) (fun _ _ => rfl)) pe_int)))))))))
      (pss_one (ps_ret (pv 3)))))), ?_⟩
  refine ⟨_, rfl, a, _, rfl, .inl (.of ha), fun l0 hl0 fr0 => ?_⟩
  have s1 := Same.new hl0 (.lst (ns.map V.int))
  have k0 : K.lookup l0 = none := fr0 l0 (by rw [upd_same]; simp)
  have h0 : upd H l0 (.lst (ns.map V.int)) l0 = some (.lst (ns.map V.int)) := upd_same
  generalize upd H l0 (.lst (ns.map V.int)) = H1 at s1 h0 ⊢
  refine ⟨sz2 (by show 0 ≤ 100; decide), fun o ho ko => ?_⟩
  have ko : K.lookup o = none := ko
  have s2 := Same.new ho (.lst [])
  have ho0 : H o = none := s1.free ho
  refine ⟨_, rfl, _, rfl, by omega, by omega, forI_range (lo := 0) (n := m.toNat) (RoI K a o m ns.length H) ⟨l0, ns, [], none, rfl, s1.trans s2, s2 _ _ h0, k0, ne_of_none h0 ho, rfl, upd_same, rfl⟩ ?_ ?_⟩
  · rintro i σ H' hi ⟨r, ms, zs, x4, rfl, s3, hr', kr, nr, ml, hz, zl⟩
    obtain ⟨m0', mr, rfl⟩ : ∃ x y, ms = x :: y := by
      cases ms with
      | nil => simp at ml; omega
      | cons x y => exact ⟨x, y, rfl⟩
    have or : ob K H' r = some (.lst ((m0' :: mr).map V.int)) := (ob_none kr).trans hr'
    refine ⟨_, rfl, .inl ⟨rfl, _, .of hz⟩, _, rfl, r, 0, rfl, rfl, _, itsO_ofL or, .int m0', atI_0 _ _, o, _, _, rfl, rfl, hz, by rw [List.length_map, zl, sizeLine_eq]; omega, ?_⟩
    have hr4 : upd H' o (.lst (zs.map V.int ++ [V.int m0'])) r = some (.lst ((m0' :: mr).map V.int)) := by rw [upd_ne nr]; exact hr'
    have ho4 : upd H' o (.lst (zs.map V.int ++ [V.int m0'])) o = some (.lst ((zs ++ [m0']).map V.int)) := by rw [upd_same, List.map_append]; rfl
    have s4 : Same H (upd H' o (.lst (zs.map V.int ++ [V.int m0']))) := fun b u e => by rw [upd_ne (ne_of_none e ho0)]; exact s3 _ _ e
    generalize upd H' o (.lst (zs.map V.int ++ [V.int m0'])) = H4 at hr4 ho4 s4 ⊢
    have or4 : ob K H4 r = some (.lst ((m0' :: mr).map V.int)) := (ob_none kr).trans hr4
    generalize m0' :: mr = ms at ml hr4 or4
    have mml : (ms.map V.int).length = ns.length := by rw [List.length_map, ml]
    refine ⟨_, rfl, r, rfl, _, itsO_ofL or4, _, rfl, by omega, by omega, fun D hD => lc_range (lo := 0) (n := (ms.map V.int).length) (RcI D H4) ⟨[], upd_same, rfl, Same.new hD _⟩ ?_ ?_⟩
    · rintro j H5 hj ⟨ws, hd, wl, s5⟩
      refine ⟨rfl, ?_⟩
      simp only [tYes, if_true]
      have or5 : ob K H5 r = some (.lst (ms.map V.int)) := ob_same s5 or4
      have jl : j < ms.length := by rw [List.length_map] at hj; exact hj
      have e1 : atI (ms.map V.int) (0 + (j : Int)) = some (.int ms[j]) := by
        rw [Int.zero_add]
        exact atI_nat (by rw [List.getElem?_map, List.getElem?_eq_getElem jl]; rfl)
      have fin : ∀ z : Int, ∃ acc, H5 D = some (.lst acc) ∧ acc.length < sizeLine ∧ RcI D H4 (j + 1) (upd H5 D (.lst (acc ++ [V.int z]))) := fun z => by
        refine ⟨_, hd, by rw [List.length_map, wl, sizeLine_eq]; omega, ws ++ [z], by rw [upd_same, List.map_append]; rfl, by rw [List.length_append, wl]; rfl, fun c u e => by rw [upd_ne (ne_of_none e hD)]; exact s5 _ _ e⟩
      refine ⟨_, rfl, _, rfl, r, _, rfl, rfl, _, itsO_ofL or5, _, e1, _, rfl, _, _, rfl, rfl, _, rfl, r, rfl, _, itsO_ofL or5, _, _, rfl, rfl, _, rfl, ite2 (fun h => ?_) (fun h => ?_)⟩
      · have h : 0 + (j : Int) + 1 < ((ms.map V.int).length : Int) := of_decide_eq_true h
        have jl2 : j + 1 < ms.length := by rw [List.length_map] at h; omega
        have e2 : atI (ms.map V.int) (0 + (j : Int) + 1) = some (.int ms[j + 1]) := by
          rw [show 0 + (j : Int) + 1 = ((j + 1 : Nat) : Int) by omega]
          exact atI_nat (by rw [List.getElem?_map, List.getElem?_eq_getElem jl2]; rfl)
        exact ⟨_, rfl, _, rfl, _, _, rfl, rfl, r, _, rfl, rfl, _, itsO_ofL or5, _, e2, _, _, rfl, rfl, fin _⟩
      · exact ⟨_, _, rfl, rfl, fin _⟩
    · rintro H5 ⟨ws, hd, wl, s5⟩ fr5
      exact ⟨D, ws, zs ++ [m0'], _, rfl, fun b u e => s5 _ _ (s4 _ _ e), hd, fr5 D (by rw [hd]; simp), Ne.symm (ne_of_none ho4 hD), by rw [wl, mml], s5 _ _ ho4, by rw [List.length_append, zl]; rfl⟩
  · rintro σ H' ⟨r, ms, zs, x4, rfl, s3, hr', kr, nr, ml, hz, zl⟩
    exact ⟨_, rfl, k o zs H' zl ho0 ko hz s3⟩

end
end My

namespace My
open PySem PySem.Spec PyProof.Rows L2
section
variable {P : Program} {w : World} {K : PySem.W.Frag} {mg : Str → Option Value} {base : Heap}
def TabQ (K : PySem.W.Frag) (s : Addr) (H : Hp) (Q : VK) : Prop := ∀ c l (ns : List Int) (d : Int) H', ob K H' c = some (.tup [.ref l, .int d]) → 1 ≤ ns.length → ns.length ≤ 60 → 0 ≤ d → d ≤ 8 → H l = none → K.lookup l = none → H' l = some (.lst (ns.map V.int)) → Kp s H H' → Sto K H' s → Q (.ref c) H'
def spTab (K : PySem.W.Frag) : Sp := fun vs H Q _ => ∃ s : Addr, vs = [.ref s] ∧ Sto K H s ∧ TabQ K s H Q
abbrev sTab : Stmt := topS 40
theorem scTab : FnScope ["_law_store_here", "_law_degree", "_law_many", "_law_kind", "_law_heads_here", "_law_k"] ["_law_store_here"] (defScope sTab) := ⟨rfl, rfl, rfl, by decide +kernel, rfl, by decide +kernel, by decide +kernel⟩
theorem blk_scTab_0 : BlkOk ["_law_store_here", "_law_degree", "_law_many", "_law_kind", "_law_heads_here", "_law_k"] (defScope sTab) { kind := .function, names := [(".0", .local), ("_law_k", .local), ("_law_great", .globalImplicit), ("_law_store_here", .free)], isGenerator := false, isCoroutine := false, more := [] } [("_law_k", 5)] := ⟨rfl, by decide +kernel, by decide +kernel, by decide +kernel, by decide +kernel⟩
theorem blk_scTab_1 : BlkOk ["_law_store_here", "_law_degree", "_law_many", "_law_kind", "_law_heads_here", "_law_k"] (defScope sTab) { kind := .function, names := [(".0", .local), ("_law_k", .local), ("_law_whole", .globalImplicit), ("_law_store_here", .free)], isGenerator := false, isCoroutine := false, more := [] } [("_law_k", 5)] := ⟨rfl, by decide +kernel, by decide +kernel, by decide +kernel, by decide +kernel⟩
theorem k_Tab (T : Bt K mg) (D : Dfn K mg "_law_table" sTab ["_law_store_here"]) (d__law_take : Kn P w K mg base 2 "_law_take" ["_law_store_here", "_law_many"] (spTake K)) (d__law_pick : Kn P w K mg base 3 "_law_pick" ["_law_store_here", "_law_row"] (spPick K)) (d__law_size : Kn P w K mg base 3 "_law_size" ["_law_store_here", "_law_top"] (spSize K)) (d__law_great : Kn P w K mg base 3 "_law_great" ["_law_store_here"] (spInt K fun n => n.natAbs < 2 ^ 133)) (d__law_whole : Kn P w K mg base 3 "_law_whole" ["_law_store_here", "_law_reach"] (spLInt K)) (d__law_heads : Kn P w K mg base 4 "_law_heads" ["_law_store_here", "_law_many"] (spHd K)) (d__law_rows_of : Kn P w K mg base 1 "_law_rows_of" ["_law_heads_here", "_law_many"] (spRo K)) : Kn P w K mg base 5 "_law_table" ["_law_store_here"] (spTab K) := by
  refine Kn.mk' D scTab (fun vs H Q E h => ?_) (fun f cdv A outer s H vs Q E hr h => ?_)
  · obtain ⟨s, rfl, _⟩ := h
    rfl
  obtain ⟨s, rfl, hS, k⟩ := h
  refine ⟨_, (pss_cons (ps_set (i := 1) scTab.nd rfl (.inl rfl) (pe_kn d__law_pick hr (by rfl) (pa_cons (pv 0) (pa_cons (pe_ls (pa_cons pe_int (pa_cons pe_int (pa_cons pe_int (pa_cons pe_int (pa_cons pe_int (pa_cons (pe_kn d__law_take hr (by rfl) (pa_cons (pv 0) (pa_cons pe_int pa_nil))) pa_nil))))))) pa_nil))))
      (pss_cons (ps_set (i := 2) scTab.nd rfl (.inl rfl) (pe_op op_add pe_int (pe_kn d__law_size hr (by rfl) (pa_cons (pv 0) (pa_cons pe_int pa_nil)))))
      (pss_cons (ps_set (i := 3) scTab.nd rfl (.inl rfl) (pe_kn d__law_take hr (by rfl) (pa_cons (pv 0) (pa_cons pe_int pa_nil))))
      (pss_cons (ps_if (pt_cmpR op_eq (pv 3) pe_int (nomark _)) (pss_one (ps_ret (pe_tp (pa_cons (pe_fr (pe_lc (own := [("_law_k", 5)]) (g := gName 5) (te := (tCall (spInt K fun n => n.natAbs < 2 ^ 133) [] E0 (tCons (tVar 0) L2.tNil))) rfl scTab.nd (pi_range1 (by rfl) T.b_range (pa_cons (pe_callB (call_min2 rfl) (by rfl) T.b_min (by decide +kernel) (pa_cons (pv 2) (pa_cons pe_int pa_nil))) pa_nil)) blk_scTab_0 (fun _ _ _ _ _ => by exact pg_name (i := 5) scTab.nd rfl (.inl rfl)) (fun _ _ _ _ _ => pts_nil) (fun _ _ _ _ _ => by exact (pe_kn d__law_great hr (by rfl) (pa_cons (pv 0) pa_nil))))) (pa_cons (pv 1) pa_nil))))) pss_nil)
      (pss_cons (ps_if (pt_cmpR op_lt (pv 3) pe_int (nomark _)) (pss_one (ps_ret (pe_tp (pa_cons (pe_fr (pe_lc (own := [("_law_k", 5)]) (g := gName 5) (te := (tCall (spLInt K) [] E0 (tCons (tVar 0) (tCons (tC (.int 12)) L2.tNil)))) rfl scTab.nd (pi_range1 (by rfl) T.b_range (pa_cons (pv 2) pa_nil)) blk_scTab_1 (fun _ _ _ _ _ => by exact pg_name (i := 5) scTab.nd rfl (.inl rfl)) (fun _ _ _ _ _ => pts_nil) (fun _ _ _ _ _ => by exact (pe_kn d__law_whole hr (by rfl) (pa_cons (pv 0) (pa_cons pe_int pa_nil)))))) (pa_cons (pv 1) pa_nil))))) pss_nil)
      (pss_cons (ps_set (i := 4) scTab.nd rfl (.inl rfl) (pe_kn d__law_heads hr (by rfl) (pa_cons (pv 0) (pa_cons (pe_op op_add (pv 1) pe_int) pa_nil))))
      (pss_cons (ps_if (pt_cmpR op_eq (pv 3) pe_int (nomark _)) (pss_one (ps_ret (pe_tp (pa_cons (pe_kn d__law_rows_of hr (by rfl) (pa_cons (pv 4) (pa_cons (pv 2) pa_nil))) (pa_cons (pv 1) pa_nil))))) pss_nil)
      (pss_one (ps_ret (pe_tp (pa_cons (pe_kn d__law_rows_of hr (by rfl) (pa_cons (pv 4) (pa_cons (pe_callB (call_min2 rfl) (by rfl) T.b_min (by decide +kernel) (pa_cons pe_int (pa_cons (pe_op op_add (pv 1) (pv 2)) pa_nil))) pa_nil))) (pa_cons (pv 1) pa_nil)))))))))))), ?_⟩
  refine ⟨_, rfl, _, rfl, s, 9, rfl, hS, by omega, fun r9 H1 r90 r91 kp1 st1 => ⟨sz2 (by show 6 ≤ 100; decide), fun p hp kp => ?_⟩⟩
  have s2 := Same.new hp (.lst [V.int 0, .int 1, .int 2, .int 3, .int 8, .int r9])
  have st2 := st1.same s2
  refine ⟨s, p, _, rfl, st2, upd_same, Ne.symm (st1.ne hp), by show 0 < 6; decide, by show 6 < 1000; decide, fun x H3 hx kp3 st3 => ?_⟩
  obtain ⟨d, rfl, d0, d8⟩ : ∃ d : Int, x = .int d ∧ 0 ≤ d ∧ d ≤ 8 := by
    simp only [List.mem_cons, List.not_mem_nil, or_false] at hx
    rcases hx with rfl | rfl | rfl | rfl | rfl | rfl
    · exact ⟨0, rfl, by omega, by omega⟩
    · exact ⟨1, rfl, by omega, by omega⟩
    · exact ⟨2, rfl, by omega, by omega⟩
    · exact ⟨3, rfl, by omega, by omega⟩
    · exact ⟨8, rfl, by omega, by omega⟩
    · exact ⟨r9, rfl, by omega, by omega⟩
  have kpA := (kp1.trans (Kp.same s2)).trans kp3
  clear hx s2 st2 hp kp
  refine ⟨_, rfl, s, 59, rfl, st3, by omega, by omega, fun r H4 r0 r1 kp4 st4 => ⟨_, _, rfl, rfl, ?_⟩⟩
  refine ⟨_, rfl, s, 8, rfl, st4, by omega, fun kd H5 k0 k1 kp5 st5 => ?_⟩
  have kpB := kpA.trans (kp4.trans kp5)
  clear kpA kp1 st1 kp3 st3 kp4 st4 kp5
  have fin : ∀ (H6 : Hp) (D : Addr) (ns : List Int), Kp s H H6 → Sto K H6 s → H D = none → K.lookup D = none → H6 D = some (.lst (ns.map V.int)) → 1 ≤ ns.length → ns.length ≤ 60 → (∃ v, some (some (V.int d)) = some (some v) ∧ [V.ref D, v].length ≤ sizeLine ∧ ∀ c, H6 c = none → K.lookup c = none → Q (.ref c) (upd H6 c (.tup [V.ref D, v]))) := fun H6 D ns kp6 st6 fD kD hD l1 l2 => ⟨_, rfl, sz2 (by show 2 ≤ 100; decide), fun c hc kc => k c D ns d _ (ob_new kc) l1 l2 d0 d8 fD kD (Same.new hc _ _ _ hD) (kp6.trans (Kp.same (Same.new hc _))) (st6.same (Same.new hc _))⟩
  have lc : ∀ (H6 : Hp) (D : Addr) (n : Nat), 1 ≤ n → n ≤ 60 → H5 D = none → PvG K isI s D H5 n H6 → (∀ a, H6 a ≠ none → K.lookup a = none) → (∃ v, some (some (V.int d)) = some (some v) ∧ [V.ref D, v].length ≤ sizeLine ∧ ∀ c, H6 c = none → K.lookup c = none → Q (.ref c) (upd H6 c (.tup [V.ref D, v]))) := fun H6 D n n1 n2 hD hP fr => by
    obtain ⟨acc, al, hd, kp6, st6, hx⟩ := hP
    obtain ⟨ns, rfl⟩ := ints_of hx
    rw [List.length_map] at al
    exact fin H6 D ns (kpB.trans kp6) st6 (kpB.free st5 hD) (fr D (by rw [hd]; simp)) hd (by omega) (by omega)
  refine ⟨_, rfl, rfl, _, rfl, ite2 (fun h => ?_) (fun h => ?_)⟩
  · refine ⟨_, rfl, _, _, rfl, _, rfl, by split <;> omega, by split <;> omega, fun D hD => lc_range (lo := 0) (n := (if 12 < 1 + r then (12 : Int) else 1 + r).toNat) (PvG K isI s D H5) (pvg_0 st5 hD) ?_ (fun Hn hP fr => lc Hn D _ (by split <;> omega) (by split <;> omega) hD hP fr)⟩
    rintro i H' hi hP
    refine ⟨rfl, ?_⟩
    simp only [tYes, if_true]
    obtain ⟨_, _, _, kpP, stP, _⟩ := id hP
    exact ⟨_, rfl, s, rfl, stP, fun n H6 _ kp6 st6 => pvg_step stb_i st5 hD hP kp6 st6 ⟨n, rfl⟩ (by split at hi <;> omega)⟩
  refine ⟨_, rfl, _, _, rfl, rfl, _, rfl, ite2 (fun h => ?_) (fun h => ?_)⟩
  · refine ⟨_, rfl, _, rfl, by omega, by omega, fun D hD => lc_range (lo := 0) (n := (1 + r).toNat) (PvG K isI s D H5) (pvg_0 st5 hD) ?_ (fun Hn hP fr => lc Hn D _ (by omega) (by omega) hD hP fr)⟩
    rintro i H' hi hP
    refine ⟨rfl, ?_⟩
    simp only [tYes, if_true]
    obtain ⟨_, _, _, kpP, stP, _⟩ := id hP
    exact ⟨_, rfl, s, _, rfl, stP, by omega, by omega, fun n H6 _ _ kp6 st6 => pvg_step stb_i st5 hD hP kp6 st6 ⟨n, rfl⟩ (by omega)⟩
  refine ⟨_, rfl, _, rfl, _, _, rfl, rfl, s, d + 1, rfl, st5, by omega, by omega, fun l ns H6 n1 n2 fl kl hl kp6 st6 => ?_⟩
  have nd : (d + 1).toNat ≤ 9 := by omega
  have nd1 : 1 ≤ (d + 1).toNat := by omega
  have kpC := kpB.trans kp6
  refine ⟨_, rfl, rfl, _, rfl, ite2 (fun h => ?_) (fun h => ?_)⟩
  · refine ⟨_, rfl, _, rfl, l, ns, _, rfl, hl, kl, by omega, by omega, by omega, by omega, fun o zs H7 zl fo ko ho s7 => ?_⟩
    exact fin H7 o zs (kpC.trans (Kp.same s7)) (st6.same s7) (kpC.free st6 fo) ko ho (by omega) (by omega)
  · refine ⟨_, rfl, _, rfl, _, rfl, _, _, rfl, rfl, _, _, rfl, l, ns, _, rfl, hl, kl, by omega, by omega, by split <;> omega, by split <;> omega, fun o zs H7 zl fo ko ho s7 => ?_⟩
    exact fin H7 o zs (kpC.trans (Kp.same s7)) (st6.same s7) (kpC.free st6 fo) ko ho (by rw [zl]; split <;> omega) (by rw [zl]; split <;> omega)
abbrev sATab : Stmt := topS 41
theorem scATab : FnScope ["_law_store_here", "_law_values", "_law_degree"] ["_law_store_here"] (defScope sATab) := ⟨rfl, rfl, rfl, by decide +kernel, rfl, by decide +kernel, by decide +kernel⟩
theorem k_ATab (T : Bt K mg) (D : Dfn K mg "_law_any_table" sATab ["_law_store_here"]) (d__law_take : Kn P w K mg base 2 "_law_take" ["_law_store_here", "_law_many"] (spTake K)) (d__law_heads : Kn P w K mg base 4 "_law_heads" ["_law_store_here", "_law_many"] (spHd K)) (d__law_rows_of : Kn P w K mg base 1 "_law_rows_of" ["_law_heads_here", "_law_many"] (spRo K)) (d__law_table : Kn P w K mg base 5 "_law_table" ["_law_store_here"] (spTab K)) : Kn P w K mg base 6 "_law_any_table" ["_law_store_here"] (spTab K) := by
  refine Kn.mk' D scATab (fun vs H Q E h => ?_) (fun f cdv A outer s H vs Q E hr h => ?_)
  · obtain ⟨s, rfl, _⟩ := h
    rfl
  obtain ⟨s, rfl, hS, k⟩ := h
  refine ⟨_, (pss_cons (ps_asg (pe_kn d__law_table hr (by rfl) (pa_cons (pv 0) pa_nil)) (pg_tp 2 (by rfl) (pgs_cons (pg_name (i := 1) scATab.nd rfl (.inl rfl)) (pgs_cons (pg_name (i := 2) scATab.nd rfl (.inl rfl)) pgs_nil))))
      (pss_cons (ps_if (pt_cmpR op_gt (pe_kn d__law_take hr (by rfl) (pa_cons (pv 0) (pa_cons pe_int pa_nil))) pe_int (nomark _)) (pss_one (ps_ret (pe_tp (pa_cons (pv 1) (pa_cons (pv 2) pa_nil))))) pss_nil)
      (pss_one (ps_ret (pe_tp (pa_cons (pe_kn d__law_rows_of hr (by rfl) (pa_cons (pe_kn d__law_heads hr (by rfl) (pa_cons (pv 0) (pa_cons (pe_op op_add (pv 2) pe_int) pa_nil))) (pa_cons (pe_op op_add pe_int (pe_kn d__law_take hr (by rfl) (pa_cons (pv 0) (pa_cons pe_int pa_nil)))) pa_nil))) (pa_cons (pv 2) pa_nil))))))), ?_⟩
  refine ⟨_, rfl, s, rfl, hS, fun c l ns d H1 oc l1 l2 d0 d8 fl kl hl kp1 st1 => ⟨c, rfl, _, oc, rfl, _, _, rfl, _, _, rfl, rfl, ?_⟩⟩
  refine ⟨_, rfl, s, 4, rfl, st1, by omega, fun r H2 r0 r1 kp2 st2 => ⟨_, _, rfl, rfl, _, rfl, ite2 (fun h => ?_) (fun h => ?_)⟩⟩
  · have nl : l ≠ s := fun e => by
      obtain ⟨ys, hy⟩ := hS.at
      rw [e, hy] at fl
      cases fl
    refine ⟨_, rfl, _, rfl, sz2 (by show 2 ≤ 100; decide), fun c2 hc kc => ?_⟩
    have s3 := Same.new hc (.tup [.ref l, .int d])
    exact k c2 l ns d _ (ob_new kc) l1 l2 d0 d8 fl kl (s3 _ _ (kp2 _ _ nl hl)) ((kp1.trans kp2).trans (Kp.same s3)) (st2.same s3)
  · have kpA := kp1.trans kp2
    refine ⟨_, rfl, _, rfl, _, _, rfl, rfl, s, d + 1, rfl, st2, by omega, by omega, fun l3 ms H3 n1 n2 fl3 kl3 hl3 kp3 st3 => ?_⟩
    have kpB := kpA.trans kp3
    have nl3 : l3 ≠ s := st2.ne fl3
    refine ⟨_, rfl, s, 42, rfl, st3, by omega, fun r2 H4 r20 r21 kp4 st4 => ⟨_, _, rfl, rfl, ?_⟩⟩
    have kpC := kpB.trans kp4
    refine ⟨l3, ms, _, rfl, kp4 _ _ nl3 hl3, kl3, by omega, by omega, by omega, by omega, fun o zs H5 zl fo ko ho s5 => ?_⟩
    refine ⟨_, rfl, sz2 (by show 2 ≤ 100; decide), fun c2 hc kc => ?_⟩
    have s6 := Same.new hc (.tup [.ref o, .int d])
    exact k c2 o zs d _ (ob_new kc) (by omega) (by omega) d0 d8 (kpC.free st4 fo) ko (s6 _ _ ho) (kpC.trans (Kp.same (s5.trans s6))) (st4.same (s5.trans s6))
def spWL (K : PySem.W.Frag) : Sp := fun vs H Q _ => ∃ (s a : Addr) (ns : List Int), vs = [.ref s, .ref a, .int 1, .int 60] ∧ Sto K H s ∧ H a = some (.lst (ns.map V.int)) ∧ K.lookup a = none ∧ a ≠ s ∧ 1 ≤ ns.length ∧ ns.length ≤ 60 ∧ ∀ c (zs : List Int) H', (zs.length = 0 ∨ 60 < zs.length) → zs.length ≤ 100 → H c = none → K.lookup c = none → H' c = some (.lst (zs.map V.int)) → Kp s H H' → Sto K H' s → Q (.ref c) H'
def TkI (D s : Addr) (H1 : Hp) (i : Nat) (H' : Hp) : Prop := ∃ acc : List Int, acc.length = i ∧ H' D = some (.lst (acc.map V.int)) ∧ Same H1 H'
abbrev sWL : Stmt := topS 35
theorem scWL : FnScope ["_law_store_here", "_law_row", "_law_low", "_law_high", "_law_size_here", "_law_k"] ["_law_store_here", "_law_row", "_law_low", "_law_high"] (defScope sWL) := ⟨rfl, rfl, rfl, by decide +kernel, rfl, by decide +kernel, by decide +kernel⟩
theorem blk_scWL_0 : BlkOk ["_law_store_here", "_law_row", "_law_low", "_law_high", "_law_size_here", "_law_k"] (defScope sWL) { kind := .function, names := [(".0", .local), ("_law_k", .local), ("len", .globalImplicit), ("_law_row", .free)], isGenerator := false, isCoroutine := false, more := [] } [("_law_k", 5)] := ⟨rfl, by decide +kernel, by decide +kernel, by decide +kernel, by decide +kernel⟩
theorem k_WL (T : Bt K mg) (D : Dfn K mg "_law_wrong_length" sWL ["_law_store_here", "_law_row", "_law_low", "_law_high"]) (d__law_take : Kn P w K mg base 2 "_law_take" ["_law_store_here", "_law_many"] (spTake K)) : Kn P w K mg base 3 "_law_wrong_length" ["_law_store_here", "_law_row", "_law_low", "_law_high"] (spWL K) := by
  refine Kn.mk' D scWL (fun vs H Q E h => ?_) (fun f cdv A outer s H vs Q E hr h => ?_)
  · obtain ⟨s, a, ns, rfl, _⟩ := h
    rfl
  obtain ⟨s, a, ns, rfl, hS, ha, ka, na, l1, l2, k⟩ := h
  refine ⟨_, (pss_cons (ps_if (PW.pt (pw_and (pt_cmpR op_gt (pv 2) pe_int (nomark _)) (pw_and1 (pt_cmpR op_eq (pe_kn d__law_take hr (by rfl) (pa_cons (pv 0) (pa_cons pe_int pa_nil))) pe_int (nomark _))))) (pss_one (ps_ret (pe_fr (pe_slice sl_list (pe_fr (pe_slice sl_list (pv 1) po_none (po_some pe_int))) po_none (po_some (pe_kn d__law_take hr (by rfl) (pa_cons (pv 0) (pa_cons (pv 2) pa_nil)))))))) pss_nil)
      (pss_cons (ps_set (i := 4) scWL.nd rfl (.inl rfl) (pe_op op_add (pe_op op_add (pv 3) pe_int) (pe_kn d__law_take hr (by rfl) (pa_cons (pv 0) (pa_cons pe_int pa_nil)))))
      (pss_one (ps_ret (pe_fr (pe_lc (own := [("_law_k", 5)]) (g := gName 5) (te := (tOp (rIxA K) (tVar 1) (tOp (rI (fun _ j => j ≠ 0) fun i j => V.int (i.fmod j)) (tVar 5) (tCB (fun xs H Q => ∃ p, xs = [V.ref p] ∧ ∃ ys, itsO (ob K H p) = some ys ∧ Q (V.int (ys.length : Int)) H) (tCons (tVar 1) L2.tNil))))) rfl scWL.nd (pi_range1 (by rfl) T.b_range (pa_cons (pv 4) pa_nil)) blk_scWL_0 (fun _ _ _ _ _ => by exact pg_name (i := 5) scWL.nd rfl (.inl rfl)) (fun _ _ _ _ _ => pts_nil) (fun _ _ _ _ _ => by exact (pe_ix ix_any (pv 1) (pe_op op_modN (pv 5) (pe_callB call_lenA (by rfl) T.b_len PySem.boot_len (pa_cons (pv 1) pa_nil))) (fun _ _ => rfl))))))))), ?_⟩
  have oa := (ob_none ka).trans ha
  refine ⟨_, rfl, _, _, rfl, rfl, _, rfl, ?_⟩
  refine if_yes (by decide) ⟨_, rfl, s, 2, rfl, hS, by omega, fun i H1 i0 i1 kp1 st1 => ⟨rfl, _, rfl, ite2 (fun h => ?_) (fun h => ?_)⟩⟩
  · have ha1 := kp1 _ _ na ha
    refine ⟨_, rfl, _, rfl, a, (ns.map V.int), rfl, .of ha1, fun p1 hp1 fr1 => ?_⟩
    have s2 := Same.new hp1 (.lst (cutV (ns.map V.int) none (some 1)))
    have o1 : upd H1 p1 (.lst (cutV (ns.map V.int) none (some 1))) p1 = some (.lst (cutV (ns.map V.int) none (some 1))) := upd_same
    have n1 := st1.ne hp1
    have st2 := st1.same s2
    generalize cutV (ns.map V.int) none (some 1) = ys at s2 o1 st2 fr1 ⊢
    generalize upd H1 p1 (.lst ys) = H2 at s2 o1 st2 ⊢
    refine ⟨_, rfl, _, rfl, s, 1, rfl, st2, by omega, fun j H3 j0 j1 kp3 st3 => ⟨_, rfl, p1, ys, rfl, .of (kp3 _ _ n1 o1), ?_⟩⟩
    have ej : j = ((0 : Nat) : Int) := by omega
    rw [ej, cut_to ys 0 (by omega), List.take_zero]
    refine fun p2 hp2 fr2 => ?_
    have kpA := kp1.trans ((Kp.same s2).trans kp3)
    exact k p2 [] _ (.inl rfl) (by decide) (kpA.free st3 hp2) (fr2 p2 (by rw [upd_same]; simp)) upd_same (kpA.trans (Kp.same (Same.new hp2 _))) (st3.same (Same.new hp2 _))
  · refine ⟨_, rfl, _, _, rfl, rfl, _, rfl, s, 3, rfl, st1, by omega, fun j H2 j0 j1 kp2 st2 => ⟨_, _, rfl, rfl, ?_⟩⟩
    have ha2 := kp2 _ _ na (kp1 _ _ na ha)
    have oa2 := (ob_none ka).trans ha2
    refine ⟨_, rfl, _, rfl, by omega, by omega, fun D hD => lc_range (lo := 0) (n := (60 + 1 + j).toNat) (TkI D s H2) ⟨[], rfl, upd_same, Same.new hD _⟩ ?_ ?_⟩
    · rintro n H' hn ⟨acc, al, hd, s3⟩
      have ml : (ns.map V.int).length = ns.length := List.length_map _
      refine ⟨rfl, ?_⟩
      simp only [tYes, if_true]
      have o3 := ob_same s3 oa2
      have hpos : (0 : Int) < ((ns.map V.int).length : Int) := by omega
      have fm : (0 + (n : Int)).fmod ((ns.map V.int).length : Int) = (0 + (n : Int)) % ((ns.map V.int).length : Int) := Int.fmod_eq_emod_of_nonneg _ (by omega)
      have hz := Int.emod_nonneg (0 + (n : Int)) (show ((ns.map V.int).length : Int) ≠ 0 by omega)
      have hz2 := Int.emod_lt_of_pos (0 + (n : Int)) hpos
      obtain ⟨v, hv, ev⟩ := at_mem (xs := ns.map V.int) (i := (0 + (n : Int)) % ((ns.map V.int).length : Int)) hz hz2
      obtain ⟨z, _, rfl⟩ := List.mem_map.mp hv
      refine ⟨_, rfl, _, rfl, _, rfl, a, rfl, _, itsO_ofL o3, _, _, rfl, rfl, by omega, a, _, rfl, rfl, _, itsO_ofL o3, _, by rw [fm]; exact ev, _, hd, by rw [List.length_map, al, sizeLine_eq]; omega, acc ++ [z], by rw [List.length_append, al]; rfl, by rw [upd_same, List.map_append]; rfl, fun c o e => ?_⟩
      rw [upd_ne (ne_of_none e hD)]
      exact s3 _ _ e
    · rintro H' ⟨acc, al, hd, s3⟩ fr
      have kpA := kp1.trans kp2
      exact k D acc H' (.inr (by omega)) (by omega) (kpA.free st2 hD) (fr D (by rw [hd]; simp)) hd (kpA.trans (Kp.same s3)) (st2.same s3)

theorem shp_tup {s p : Addr} {H : Hp} {xs : List V} (o : ob K H p = some (.tup xs)) (n : p ≠ s) (l : xs.length ≤ 1000) (h : ∀ x ∈ xs, scv x = true) : Shp K s H 2 (.ref p) := (show Shp K s H 1 (.ref p) from .inr (.inl ⟨p, xs, rfl, n, .inl o, l, h⟩)).up
theorem shp_lst {s p : Addr} {H : Hp} {xs : List V} (o : ob K H p = some (.lst xs)) (n : p ≠ s) (l : xs.length ≤ 1000) (h : ∀ x ∈ xs, scv x = true) : Shp K s H 2 (.ref p) := (show Shp K s H 1 (.ref p) from .inr (.inl ⟨p, xs, rfl, n, .inr o, l, h⟩)).up
theorem shp_dn {s p : Addr} {H : Hp} (o : ob K H p = some (.dK [])) (n : p ≠ s) : Shp K s H 2 (.ref p) := .inr (.inr ⟨Nat.le_refl 1, p, rfl, n, o⟩)
theorem shp_sc {s : Addr} {H : Hp} {v : V} (h : scv v = true) : Shp K s H 2 v := .inl h
theorem sc_ints {ns : List Int} : ∀ x ∈ ns.map V.int, scv x = true := fun x hx => by
  obtain ⟨u, _, rfl⟩ := List.mem_map.mp hx
  rfl
def spBL (K : PySem.W.Frag) : Sp := fun vs H Q _ => ∃ (s a : Addr) (ns : List Int), vs = [.ref s, .ref a] ∧ Sto K H s ∧ H a = some (.lst (ns.map V.int)) ∧ ns.length ≤ 100 ∧ ∀ v t H', tyN K H' v = some t → t ≠ "list" → Shp K s H' 2 v → Kp s H H' → Sto K H' s → Q v H'
abbrev sBL : Stmt := topS 37
theorem scBL : FnScope ["_law_store_here", "_law_row"] ["_law_store_here", "_law_row"] (defScope sBL) := ⟨rfl, rfl, rfl, by decide +kernel, rfl, by decide +kernel, by decide +kernel⟩
theorem k_BL (T : Bt K mg) (D : Dfn K mg "_law_bad_list" sBL ["_law_store_here", "_law_row"]) (d__law_pick : Kn P w K mg base 3 "_law_pick" ["_law_store_here", "_law_row"] (spPick K)) : Kn P w K mg base 4 "_law_bad_list" ["_law_store_here", "_law_row"] (spBL K) := by
  refine Kn.mk' D scBL (fun vs H Q E h => ?_) (fun f cdv A outer s H vs Q E hr h => ?_)
  · obtain ⟨s, a, ns, rfl, _⟩ := h
    rfl
  obtain ⟨s, a, ns, rfl, hS, ha, nl, k⟩ := h
  refine ⟨_, (pss_one (ps_ret (pe_kn d__law_pick hr (by rfl) (pa_cons (pv 0) (pa_cons (pe_ls (pa_cons (pe_fr (pe_callTy call_tuple_of (by rfl) T.b_tuple (by decide +kernel) (pa_cons (pv 1) pa_nil))) (pa_cons (pe_fr (pe_callTy call_tuple_of (by rfl) T.b_tuple (by decide +kernel) (pa_cons (pv 1) pa_nil))) (pa_cons pe_non (pa_cons pe_int (pa_cons pe_bl (pa_cons pe_str (pa_cons pe_dn (pa_cons (pe_tp pa_nil) pa_nil))))))))) pa_nil))))), ?_⟩
  refine ⟨_, rfl, _, rfl, a, _, rfl, .inl ⟨.of ha, fun p1 hp1 fr1 => ?_⟩⟩
  have s1 := Same.new hp1 (.tup (ns.map V.int))
  have o1 := ob_new (H := H) (o := .tup (ns.map V.int)) (fr1 p1 (by rw [upd_same]; simp))
  have ha1 := s1 _ _ ha
  generalize upd H p1 (.tup (ns.map V.int)) = H1 at s1 o1 ha1 ⊢
  refine ⟨_, rfl, a, _, rfl, .inl ⟨.of ha1, fun p2 hp2 fr2 => ?_⟩⟩
  have s2 := Same.new hp2 (.tup (ns.map V.int))
  have o2 := ob_new (H := H1) (o := .tup (ns.map V.int)) (fr2 p2 (by rw [upd_same]; simp))
  have o1 := ob_same s2 o1
  generalize upd H1 p2 (.tup (ns.map V.int)) = H2 at s2 o1 o2 ⊢
  refine fun p3 hp3 kp3 => ?_
  have s3 := Same.new hp3 (.dK [])
  have o3 := ob_new (H := H2) (o := .dK []) kp3
  have o1 := ob_same s3 o1
  have o2 := ob_same s3 o2
  generalize upd H2 p3 (.dK []) = H3 at s3 o1 o2 o3 ⊢
  refine ⟨sz2 (by show 0 ≤ 100; decide), fun p4 hp4 kp4 => ?_⟩
  have s4 := Same.new hp4 (.tup [])
  have o4 := ob_new (H := H3) (o := .tup []) kp4
  have o1 := ob_same s4 o1
  have o2 := ob_same s4 o2
  have o3 := ob_same s4 o3
  generalize upd H3 p4 (.tup []) = H4 at s4 o1 o2 o3 o4 ⊢
  refine ⟨sz2 (by show 8 ≤ 100; decide), fun p5 hp5 kp5 => ?_⟩
  have s5 := Same.new hp5 (.lst [.ref p1, .ref p2, .non, .int 0, .bl true, .str "", .ref p3, .ref p4])
  have sA := s1.trans (s2.trans (s3.trans s4))
  have st4 := hS.same sA
  have st5 := st4.same s5
  refine ⟨s, p5, _, rfl, st5, upd_same, Ne.symm (st4.ne hp5), by show 0 < 8; decide, by show 8 < 1000; decide, fun v H6 hv kp6 st6 => ?_⟩
  have kpA := (Kp.same (sA.trans s5)).trans kp6
  obtain ⟨ys, hys⟩ := st5.at
  have n1 := hS.ne hp1
  have n2 := (hS.same s1).ne hp2
  have n3 := (hS.same (s1.trans s2)).ne hp3
  have n4 := (hS.same (s1.trans (s2.trans s3))).ne hp4
  have fin : ∀ (p : Addr) (z : HO) (t : String), ob K H4 p = some z → (∀ l, z ≠ .lst l) → tyO (some z) = some t → t ≠ "list" → Shp K s H4 2 (.ref p) → Q (.ref p) H6 := fun p z t o n ty nt sh => by
    have o6 := ob_kp kp6 hys n (ob_same s5 o)
    exact k (.ref p) t H6 (by rw [tyN_ref, o6]; exact ty) nt ((sh.same s5).kp kp6) kpA st6
  simp only [List.mem_cons, List.not_mem_nil, or_false] at hv
  rcases hv with rfl | rfl | rfl | rfl | rfl | rfl | rfl | rfl
  · exact fin p1 _ "tuple" o1 (fun _ z => by cases z) rfl (by decide) (shp_tup o1 n1 (by rw [List.length_map]; omega) sc_ints)
  · exact fin p2 _ "tuple" o2 (fun _ z => by cases z) rfl (by decide) (shp_tup o2 n2 (by rw [List.length_map]; omega) sc_ints)
  · exact k .non "NoneType" H6 rfl (by decide) (shp_sc rfl) kpA st6
  · exact k (.int 0) "int" H6 rfl (by decide) (shp_sc rfl) kpA st6
  · exact k (.bl true) "bool" H6 rfl (by decide) (shp_sc rfl) kpA st6
  · exact k (.str "") "str" H6 rfl (by decide) (shp_sc rfl) kpA st6
  · exact fin p3 _ "dict" o3 (fun _ z => by cases z) rfl (by decide) (shp_dn o3 n3)
  · exact fin p4 _ "tuple" o4 (fun _ z => by cases z) rfl (by decide) (shp_tup o4 n4 (by decide) (fun _ z => nomatch z))

def spBW (K : PySem.W.Frag) : Sp := fun vs H Q _ => ∃ s : Addr, vs = [.ref s] ∧ Sto K H s ∧ ∀ v H', (tyN K H' v).isSome → wholeV v = false → Shp K s H' 2 v → Kp s H H' → Sto K H' s → Q v H'
abbrev sBW : Stmt := topS 36
theorem scBW : FnScope ["_law_store_here"] ["_law_store_here"] (defScope sBW) := ⟨rfl, rfl, rfl, by decide +kernel, rfl, by decide +kernel, by decide +kernel⟩
theorem k_BW (T : Bt K mg) (D : Dfn K mg "_law_bad_whole" sBW ["_law_store_here"]) (d__law_pick : Kn P w K mg base 3 "_law_pick" ["_law_store_here", "_law_row"] (spPick K)) : Kn P w K mg base 4 "_law_bad_whole" ["_law_store_here"] (spBW K) := by
  refine Kn.mk' D scBW (fun vs H Q E h => ?_) (fun f cdv A outer s H vs Q E hr h => ?_)
  · obtain ⟨s, rfl, _⟩ := h
    rfl
  obtain ⟨s, rfl, hS, k⟩ := h
  refine ⟨_, (pss_one (ps_ret (pe_kn d__law_pick hr (by rfl) (pa_cons (pv 0) (pa_cons (pe_ls (pa_cons pe_non (pa_cons pe_bl (pa_cons pe_bl (pa_cons pe_str (pa_cons pe_str (pa_cons (pe_tp (pa_cons pe_int (pa_cons pe_int pa_nil))) (pa_cons (pe_tp (pa_cons pe_int pa_nil)) (pa_cons (pe_ls (pa_cons pe_int pa_nil)) (pa_cons pe_dn pa_nil)))))))))) pa_nil))))), ?_⟩
  refine ⟨_, rfl, sz2 (by show 2 ≤ 100; decide), fun p1 hp1 kp1 => ?_⟩
  have n1 := hS.ne hp1
  have s1 := Same.new hp1 (.tup [.int 1, .int 1])
  have o1 := ob_new (H := H) (o := .tup [.int 1, .int 1]) kp1
  have st1 := hS.same s1
  generalize upd H p1 (.tup [.int 1, .int 1]) = H1 at s1 o1 st1 ⊢
  refine ⟨sz2 (by show 1 ≤ 100; decide), fun p2 hp2 kp2 => ?_⟩
  have n2 := st1.ne hp2
  have s2 := Same.new hp2 (.tup [.int 1])
  have o2 := ob_new (H := H1) (o := .tup [.int 1]) kp2
  have st2 := st1.same s2
  have o1 := ob_same s2 o1
  generalize upd H1 p2 (.tup [.int 1]) = H2 at s2 o1 o2 st2 ⊢
  refine ⟨sz2 (by show 1 ≤ 100; decide), fun p3 hp3 kp3 => ?_⟩
  have n3 := st2.ne hp3
  have s3 := Same.new hp3 (.lst [.int 1])
  have o3 := ob_new (H := H2) (o := .lst [.int 1]) kp3
  have st3 := st2.same s3
  have o1 := ob_same s3 o1
  have o2 := ob_same s3 o2
  generalize upd H2 p3 (.lst [.int 1]) = H3 at s3 o1 o2 o3 st3 ⊢
  refine fun p4 hp4 kp4 => ?_
  have n4 := st3.ne hp4
  have s4 := Same.new hp4 (.dK [])
  have o4 := ob_new (H := H3) (o := .dK []) kp4
  have st4 := st3.same s4
  have o1 := ob_same s4 o1
  have o2 := ob_same s4 o2
  have o3 := ob_same s4 o3
  generalize upd H3 p4 (.dK []) = H4 at s4 o1 o2 o3 o4 st4 ⊢
  refine ⟨sz2 (by show 9 ≤ 100; decide), fun p5 hp5 kp5 => ?_⟩
  have s5 := Same.new hp5 (.lst [.non, .bl true, .bl false, .str "1", .str "", .ref p1, .ref p2, .ref p3, .ref p4])
  have st5 := st4.same s5
  have sA := s1.trans (s2.trans (s3.trans (s4.trans s5)))
  refine ⟨s, p5, _, rfl, st5, upd_same, Ne.symm (st4.ne hp5), by show 0 < 9; decide, by show 9 < 1000; decide, fun v H6 hv kp6 st6 => ?_⟩
  have kpA := (Kp.same sA).trans kp6
  have fin : ∀ (p : Addr) (z : HO), ob K H4 p = some z → p ≠ s → (tyO (some z)).isSome → Shp K s H4 2 (.ref p) → Q (.ref p) H6 := fun p z o n ty sh => by
    have o6 := ob_kp2 kp6 n (ob_same s5 o)
    exact k (.ref p) H6 (by rw [tyN_ref, o6]; exact ty) rfl ((sh.same s5).kp kp6) kpA st6
  simp only [List.mem_cons, List.not_mem_nil, or_false] at hv
  rcases hv with rfl | rfl | rfl | rfl | rfl | rfl | rfl | rfl | rfl
  · exact k _ H6 rfl rfl (shp_sc rfl) kpA st6
  · exact k _ H6 rfl rfl (shp_sc rfl) kpA st6
  · exact k _ H6 rfl rfl (shp_sc rfl) kpA st6
  · exact k _ H6 rfl rfl (shp_sc rfl) kpA st6
  · exact k _ H6 rfl rfl (shp_sc rfl) kpA st6
  · exact fin p1 _ o1 n1 rfl (shp_tup o1 n1 (by decide) (fun x hx => by simp only [List.mem_cons, List.not_mem_nil, or_false] at hx; rcases hx with rfl | rfl <;> rfl))
  · exact fin p2 _ o2 n2 rfl (shp_tup o2 n2 (by decide) (fun x hx => by simp only [List.mem_cons, List.not_mem_nil, or_false] at hx; rw [hx]; rfl))
  · exact fin p3 _ o3 n3 rfl (shp_lst o3 n3 (by decide) (fun x hx => by simp only [List.mem_cons, List.not_mem_nil, or_false] at hx; rw [hx]; rfl))
  · exact fin p4 _ o4 n4 rfl (shp_dn o4 n4)

end
end My

namespace My
open PySem PySem.Spec PyProof.Rows L2
section
variable {P : Program} {w : World} {K : PySem.W.Frag} {mg : Str → Option Value} {base : Heap}
theorem eqv_ints {H : Hp} {a b : Addr} {ns : List Int} (oa : ob K H a = some (.lst (ns.map V.int))) (ob' : ob K H b = some (.lst (ns.map V.int))) (l : ns.length ≤ 1000) : Eqv K H 1 (.ref a) (.ref b) := by
  refine .inr (.inl ⟨a, b, _, _, rfl, rfl, .inr ⟨oa, ob'⟩, rfl, by rw [List.length_map]; exact l, fun i x y hx hy => ?_⟩)
  rw [hx] at hy
  cases hy
  obtain ⟨u, _, rfl⟩ := List.mem_map.mp (List.mem_of_getElem? hx)
  exact ⟨rfl, rfl⟩
/-- the rows of differences of ns at p, told by the program -/
structure Tld (K : PySem.W.Frag) (F : Addr → Prop) (H : Hp) (p : Addr) (ns : List Int) : Prop where
  ex : ∃ xs, H p = some (.lst xs) ∧ LR K F H xs (fun k => itd k ns) ns.length
  kp : K.lookup p = none
def spWk (K : PySem.W.Frag) : Sp := fun vs H Q _ => ∃ (a p : Addr) (ns : List Int) (F : Addr → Prop), vs = [.ref a, .ref p] ∧ H a = some (.lst (ns.map V.int)) ∧ K.lookup a = none ∧ Tld K F H p ns ∧ 1 ≤ ns.length ∧ ns.length ≤ 60 ∧ ∀ H', Same H H' → Q (.bl true) H'
def WkI (a p : Addr) (H : Hp) (_ : Nat) (σ : L2.St) (H' : Hp) : Prop := ∃ x2 x3 : Option V, σ = [some (.ref a), some (.ref p), x2, x3] ∧ Same H H'
def WkJ (a p : Addr) (k : Int) (H : Hp) (_ : Nat) (σ : L2.St) (H' : Hp) : Prop := ∃ x3 : Option V, σ = [some (.ref a), some (.ref p), some (.int k), x3] ∧ Same H H'
abbrev sWk : Stmt := topS 43
theorem scWk : FnScope ["_law_values", "_law_told", "_law_k", "_law_j"] ["_law_values", "_law_told"] (defScope sWk) := ⟨rfl, rfl, rfl, by decide +kernel, rfl, by decide +kernel, by decide +kernel⟩
theorem k_Wk (T : Bt K mg) (D : Dfn K mg "_law_walk" sWk ["_law_values", "_law_told"]) (d__law_same : Kn P w K mg base 5 "_law_same" ["_law_told", "_law_due"] (spSame K 4)) (d__law_is_whole : Kn P w K mg base 1 "_law_is_whole" ["_law_told"] (spWhole K)) : Kn P w K mg base 6 "_law_walk" ["_law_values", "_law_told"] (spWk K) := by
  refine Kn.mk' D scWk (fun vs H Q E h => ?_) (fun f cdv A outer s H vs Q E hr h => ?_)
  · obtain ⟨a, p, ns, F, rfl, _⟩ := h
    rfl
  obtain ⟨a, p, ns, F, rfl, ha, ka, tl, l1, l2, k⟩ := h
  refine ⟨_, (pss_cons (ps_if (PW.pt (pw_or (pt_not (pt_val (pe_callB call_isN (by rfl) T.b_isinstance (by decide +kernel) (pa_cons (pv 1) (pa_cons (pe_bltn (v := .ty "list") (by rfl) T.b_list (by decide +kernel) rfl) pa_nil))))) (pw_or (pt_cmpR op_ne (pe_callB call_lenA (by rfl) T.b_len PySem.boot_len (pa_cons (pv 1) pa_nil)) (pe_callB call_lenA (by rfl) T.b_len PySem.boot_len (pa_cons (pv 0) pa_nil)) (nomark _)) (pw_or1 (pt_not (pt_val (pe_kn d__law_same hr (by rfl) (pa_cons (pe_ix ix_any (pv 1) pe_int (fun _ _ => rfl)) (pa_cons (pv 0) pa_nil))))))))) (pss_one (ps_ret pe_bl)) pss_nil)
      (pss_cons (ps_for PassesOwn.never rfl (pi_range2 (by rfl) T.b_range (pa_cons pe_int (pa_cons (pe_callB call_lenA (by rfl) T.b_len PySem.boot_len (pa_cons (pv 1) pa_nil)) pa_nil))) (pg_name (i := 2) scWk.nd rfl (.inl rfl)) (pss_cons (ps_if (PW.pt (pw_or (pt_not (pt_val (pe_callB call_isN (by rfl) T.b_isinstance (by decide +kernel) (pa_cons (pe_ix ix_any (pv 1) (pv 2) (fun _ _ => rfl)) (pa_cons (pe_bltn (v := .ty "list") (by rfl) T.b_list (by decide +kernel) rfl) pa_nil))))) (pw_or1 (pt_cmpR op_ne (pe_callB call_lenA (by rfl) T.b_len PySem.boot_len (pa_cons (pe_ix ix_any (pv 1) (pv 2) (fun _ _ => rfl)) pa_nil)) (pe_op op_sub (pe_callB call_lenA (by rfl) T.b_len PySem.boot_len (pa_cons (pv 0) pa_nil)) (pv 2)) (nomark _))))) (pss_one (ps_ret pe_bl)) pss_nil)
      (pss_one (ps_for PassesOwn.never rfl (pi_range1 (by rfl) T.b_range (pa_cons (pe_callB call_lenA (by rfl) T.b_len PySem.boot_len (pa_cons (pe_ix ix_any (pv 1) (pv 2) (fun _ _ => rfl)) pa_nil)) pa_nil)) (pg_name (i := 3) scWk.nd rfl (.inl rfl)) (pss_one (ps_if (PW.pt (pw_or (pt_not (pt_val (pe_kn d__law_is_whole hr (by rfl) (pa_cons (pe_ix ix_any (pe_ix ix_any (pv 1) (pv 2) (fun _ _ => rfl)) (pv 3) (fun _ _ => rfl)) pa_nil)))) (pw_or1 (pt_cmpR op_ne (pe_op op_add (pe_ix ix_any (pe_ix ix_any (pv 1) (pe_op op_sub (pv 2) pe_int) (fun _ _ => rfl)) (pv 3) (fun _ _ => rfl)) (pe_ix ix_any (pe_ix ix_any (pv 1) (pv 2) (fun _ _ => rfl)) (pv 3) (fun _ _ => rfl))) (pe_ix ix_any (pe_ix ix_any (pv 1) (pe_op op_sub (pv 2) pe_int) (fun _ _ => rfl)) (pe_op op_add (pv 3) pe_int) (fun _ _ => rfl)) (nomark _))))) (pss_one (ps_ret pe_bl)) pss_nil))))))
      (pss_one (ps_ret pe_bl)))), ?_⟩
  obtain ⟨⟨xs, hp, lr⟩, kp⟩ := tl
  have xl := lr.1
  have op := (ob_none kp).trans hp
  have oa := (ob_none ka).trans ha
  obtain ⟨r0, e0, _, k0, h0⟩ := lr.at (i := 0) (by omega)
  have or0 : ob K H r0 = some (.lst (ns.map V.int)) := (ob_none k0).trans h0
  have typ : tyN K H (.ref p) = some "list" := by rw [tyN_ref, op]; rfl
  have at0 : atI xs 0 = some (.ref r0) := atI_nat (j := 0) e0
  refine ⟨_, rfl, _, _, rfl, by decide, _, typ, _, rfl, if_no rfl ?_⟩
  refine ⟨_, rfl, p, rfl, _, itsO_ofL op, _, rfl, a, rfl, _, itsO_ofL oa, rfl, _, rfl, if_no ?_ ?_⟩
  · rw [xl, List.length_map]
    simp
  refine ⟨_, rfl, p, 0, rfl, rfl, _, itsO_ofL op, _, at0, _, rfl, _, _, rfl, (eqv_ints or0 oa (by omega)).up.up, fun H1 s1 => ⟨true, rfl, if_no rfl ?_⟩⟩
  refine ⟨_, rfl, p, rfl, _, itsO_ofL (ob_same s1 op), _, _, rfl, by rw [xl]; omega, forI_range (lo := 1) (n := ((xs.length : Int) - 1).toNat) (WkI a p H) ⟨none, none, rfl, s1⟩ ?_ ?_⟩
  · rintro i σ H2 hi ⟨x2, x3, rfl, s2⟩
    have hi : i + 1 < ns.length := by omega
    obtain ⟨r, er, _, kr, hr⟩ := lr.at (i := i) (by omega)
    obtain ⟨q, eq, _, kq, hq⟩ := lr.at (i := i + 1) (by omega)
    have ar : atI xs (1 + (i : Int) - 1) = some (.ref r) := by rw [show 1 + (i : Int) - 1 = (i : Int) by omega]; exact atI_nat er
    have aq : atI xs (1 + (i : Int)) = some (.ref q) := by rw [show 1 + (i : Int) = ((i + 1 : Nat) : Int) by omega]; exact atI_nat eq
    have op2 := ob_same s2 op
    have oq2 := ob_same s2 ((ob_none kq).trans hq)
    have oa2 := ob_same s2 oa
    have tyq : tyN K H2 (.ref q) = some "list" := by rw [tyN_ref, oq2]; rfl
    have ql : ((itd (i + 1) ns).map V.int).length = ns.length - (i + 1) := by rw [List.length_map, itd_len]
    refine ⟨_, rfl, _, rfl, p, _, rfl, rfl, _, itsO_ofL op2, _, aq, _, _, rfl, by decide, _, tyq, _, rfl, if_no rfl ?_⟩
    refine ⟨_, rfl, _, rfl, p, _, rfl, rfl, _, itsO_ofL op2, _, aq, q, rfl, _, itsO_ofL oq2, _, rfl, a, rfl, _, itsO_ofL oa2, _, rfl, _, _, rfl, rfl, rfl, _, rfl, if_no ?_ ?_⟩
    · rw [ql, List.length_map]
      simp
      omega
    refine ⟨_, rfl, _, rfl, p, _, rfl, rfl, _, itsO_ofL op2, _, aq, q, rfl, _, itsO_ofL oq2, _, rfl, by omega, by rw [ql]; omega, forI_range (lo := 0) (n := ((itd (i + 1) ns).map V.int).length) (WkJ a p (1 + (i : Int)) H) ⟨x3, rfl, s2⟩ ?_ ?_⟩
    · rintro j σ H3 hj ⟨x3, rfl, s3⟩
      have hj : j + (i + 1) < ns.length := by omega
      have op3 := ob_same s3 op
      have oq3 := ob_same s3 ((ob_none kq).trans hq)
      have or3 := ob_same s3 ((ob_none kr).trans hr)
      have l1 := itd_len ns i
      have l2 := itd_len ns (i + 1)
      obtain ⟨u, eu⟩ : ∃ u, (itd i ns)[j]? = some u := ⟨_, List.getElem?_eq_getElem (by omega)⟩
      obtain ⟨v, ev⟩ : ∃ v, (itd i ns)[j + 1]? = some v := ⟨_, List.getElem?_eq_getElem (by omega)⟩
      have ed := dif_at eu ev
      have au : atI ((itd i ns).map V.int) (0 + (j : Int)) = some (.int u) := by rw [Int.zero_add]; exact atI_nat (by rw [List.getElem?_map, eu]; rfl)
      have av : atI ((itd i ns).map V.int) (0 + (j : Int) + 1) = some (.int v) := by rw [show 0 + (j : Int) + 1 = ((j + 1 : Nat) : Int) by omega]; exact atI_nat (by rw [List.getElem?_map, ev]; rfl)
      have ad : atI ((itd (i + 1) ns).map V.int) (0 + (j : Int)) = some (.int (v - u)) := by rw [Int.zero_add]; exact atI_nat (by rw [List.getElem?_map]; show (dif (itd i ns))[j]?.map V.int = _; rw [ed]; rfl)
      refine ⟨_, rfl, _, rfl, p, _, rfl, rfl, _, itsO_ofL op3, _, aq, _, rfl, q, _, rfl, rfl, _, itsO_ofL oq3, _, ad, _, rfl, rfl, _, rfl, if_no rfl ?_⟩
      refine ⟨_, rfl, _, rfl, _, _, rfl, rfl, p, _, rfl, rfl, _, itsO_ofL op3, _, ar, _, rfl, r, _, rfl, rfl, _, itsO_ofL or3, _, au, _, rfl, _, rfl, p, _, rfl, rfl, _, itsO_ofL op3, _, aq, _, rfl, q, _, rfl, rfl, _, itsO_ofL oq3, _, ad, _, _, rfl, rfl, ?_⟩
      refine ⟨_, rfl, _, rfl, _, _, rfl, rfl, p, _, rfl, rfl, _, itsO_ofL op3, _, ar, _, rfl, _, _, rfl, rfl, r, _, rfl, rfl, _, itsO_ofL or3, _, av, rfl, _, rfl, if_no ?_ ?_⟩
      · show (!decide (V.int (u + (v - u)) = V.int v)) = false
        rw [show u + (v - u) = v by omega]
        simp
      exact ⟨_, rfl, s3⟩
    · rintro σ H3 ⟨x3, rfl, s3⟩
      exact ⟨_, _, rfl, s3⟩
  · rintro σ H2 ⟨x2, x3, rfl, s2⟩
    exact k _ s2

/-- those that are not zero, so far -/
def NzI (D : Addr) (ms : List Int) (H0 : Hp) (i : Nat) (H' : Hp) : Prop := ∃ acc, H' D = some (.lst acc) ∧ (!acc.isEmpty) = nz (ms.take i) ∧ acc.length ≤ i ∧ Same H0 H'
theorem nz_take {ms : List Int} {i : Nat} {m : Int} (em : ms[i]? = some m) : nz (ms.take (i + 1)) = (nz (ms.take i) || decide (m ≠ 0)) := by
  unfold nz
  rw [List.take_add_one, em, List.any_append]
  simp
theorem nz_step {ms : List Int} {i : Nat} {m : Int} {D : Addr} {H1 H' : Hp} {acc : List V} (em : ms[i]? = some m) (hd : H' D = some (.lst acc)) (al : (!acc.isEmpty) = nz (ms.take i)) (le : acc.length ≤ i) (s4 : Same H1 H') (hD : H1 D = none) (h : (!decide (V.int m = V.int 0)) = true) : NzI D ms H1 (i + 1) (upd H' D (.lst (acc ++ [.int m]))) := by
  refine ⟨_, upd_same, ?_, by rw [List.length_append]; exact Nat.add_le_add_right le 1, fun c o e => by rw [upd_ne (ne_of_none e hD)]; exact s4 _ _ e⟩
  have h0 : m ≠ 0 := fun z => by rw [z] at h; simp at h
  rw [nz_take em, decide_eq_true h0, Bool.or_true]
  cases acc <;> rfl
theorem nz_skip {ms : List Int} {i : Nat} {m : Int} {D : Addr} {H1 H' : Hp} {acc : List V} (em : ms[i]? = some m) (hd : H' D = some (.lst acc)) (al : (!acc.isEmpty) = nz (ms.take i)) (le : acc.length ≤ i) (s4 : Same H1 H') (h : ¬ (!decide (V.int m = V.int 0)) = true) : NzI D ms H1 (i + 1) H' := by
  refine ⟨_, hd, ?_, Nat.le_succ_of_le le, s4⟩
  have h0 : m = 0 := Classical.byContradiction fun z => h (by simp [z])
  rw [nz_take em, h0, al]
  simp
def spDr (K : PySem.W.Frag) : Sp := fun vs H Q _ => ∃ (p : Addr) (ns : List Int) (F : Addr → Prop), vs = [.ref p, .int (dgU ns (ns.length - 1) : Nat)] ∧ Tld K F H p ns ∧ 1 ≤ ns.length ∧ ns.length ≤ 60 ∧ ∀ H', Same H H' → Q (.bl true) H'
abbrev sDr : Stmt := topS 44
theorem scDr : FnScope ["_law_rows", "_law_degree", "_law_one"] ["_law_rows", "_law_degree"] (defScope sDr) := ⟨rfl, rfl, rfl, by decide +kernel, rfl, by decide +kernel, by decide +kernel⟩
theorem blk_scDr_0 : BlkOk ["_law_rows", "_law_degree", "_law_one"] (defScope sDr) { kind := .function, names := [(".0", .local), ("_law_one", .local)], isGenerator := false, isCoroutine := false, more := [] } [("_law_one", 2)] := ⟨rfl, by decide +kernel, by decide +kernel, by decide +kernel, by decide +kernel⟩
theorem blk_scDr_1 : BlkOk ["_law_rows", "_law_degree", "_law_one"] (defScope sDr) { kind := .function, names := [(".0", .local), ("_law_one", .local)], isGenerator := false, isCoroutine := false, more := [] } [("_law_one", 2)] := ⟨rfl, by decide +kernel, by decide +kernel, by decide +kernel, by decide +kernel⟩
theorem k_Dr (T : Bt K mg) (D : Dfn K mg "_law_degree_right" sDr ["_law_rows", "_law_degree"]) (d__law_is_whole : Kn P w K mg base 1 "_law_is_whole" ["_law_told"] (spWhole K)) : Kn P w K mg base 2 "_law_degree_right" ["_law_rows", "_law_degree"] (spDr K) := by
  refine Kn.mk' D scDr (fun vs H Q E h => ?_) (fun f cdv A outer s H vs Q E hr h => ?_)
  · obtain ⟨p, ns, F, rfl, _⟩ := h
    rfl
  obtain ⟨p, ns, F, rfl, tl, l1, l2, k⟩ := h
  refine ⟨_, (pss_cons (ps_if (PW.pt (pw_or (pt_not (pt_val (pe_kn d__law_is_whole hr (by rfl) (pa_cons (pv 1) pa_nil)))) (pw_or (pt_cmpR op_lt (pv 1) pe_int (nomark _)) (pw_or1 (pt_cmpR op_ge (pv 1) (pe_callB call_lenA (by rfl) T.b_len PySem.boot_len (pa_cons (pv 0) pa_nil)) (nomark _)))))) (pss_one (ps_ret pe_bl)) pss_nil)
      (pss_cons (ps_if (PW.pt (pw_and (pt_cmpR op_gt (pv 1) pe_int (nomark _)) (pw_and1 (pt_not (pt_truth (pe_lc (own := [("_law_one", 2)]) (g := gName 2) (tt := (tTest (tOp rNe (tVar 2) (tC (.int 0))))) (te := (tVar 2)) rfl scDr.nd (pi_list (pe_ix ix_any (pv 0) (pv 1) (fun _ _ => rfl))) blk_scDr_0 (fun _ _ _ _ _ => by exact pg_name (i := 2) scDr.nd rfl (.inl rfl)) (fun _ _ _ _ _ => by exact (pts_one (pt_cmpR op_ne (pv 2) pe_int (nomark _)))) (fun _ _ _ _ _ => by exact (pv 2))) (fun _ => rfl)))))) (pss_one (ps_ret pe_bl)) pss_nil)
      (pss_one (ps_ret (pe_or (pe_cmpR op_eq (pe_op op_add (pv 1) pe_int) (pe_callB call_lenA (by rfl) T.b_len PySem.boot_len (pa_cons (pv 0) pa_nil)) (nomark _)) (pe_one (pe_notT (pe_lc (own := [("_law_one", 2)]) (g := gName 2) (tt := (tTest (tOp rNe (tVar 2) (tC (.int 0))))) (te := (tVar 2)) rfl scDr.nd (pi_list (pe_ix ix_any (pv 0) (pe_op op_add (pv 1) pe_int) (fun _ _ => rfl))) blk_scDr_1 (fun _ _ _ _ _ => by exact pg_name (i := 2) scDr.nd rfl (.inl rfl)) (fun _ _ _ _ _ => by exact (pts_one (pt_cmpR op_ne (pv 2) pe_int (nomark _)))) (fun _ _ _ _ _ => by exact (pv 2)))))))))), ?_⟩
  obtain ⟨⟨xs, hp, lr⟩, kp⟩ := tl
  have xl := lr.1
  have op := (ob_none kp).trans hp
  have dl := dgU_le ns (ns.length - 1)
  obtain ⟨dpos, dabove⟩ := dgU_spec ns (ns.length - 1)
  generalize dgU ns (ns.length - 1) = d at dl dpos dabove ⊢
  refine ⟨_, rfl, _, rfl, rfl, _, rfl, if_no rfl ?_⟩
  refine ⟨_, rfl, _, _, rfl, rfl, _, rfl, if_no (decide_eq_false (by omega)) ?_⟩
  refine ⟨_, rfl, _, rfl, p, rfl, _, itsO_ofL op, _, _, rfl, rfl, _, rfl, if_no (decide_eq_false (by rw [xl]; omega)) ?_⟩
  have rest : ∀ H1, Same H H1 → (tRet (tOrV (tOp rEq (tOp (rI0 fun i j => V.int (i + j)) (tVar 1) (tC (V.int 1))) (tCB (fun xs H Q => ∃ p, xs = [V.ref p] ∧ ∃ ys, itsO (ob K H p) = some ys ∧ Q (V.int (ys.length : Int)) H) (tCons (tVar 0) L2.tNil))) (tNotT K (tLc (iList K (tOp (rIxA K) (tVar 0) (tOp (rI0 fun i j => V.int (i + j)) (tVar 1) (tC (V.int 1))))) (gName 2) (tTest (tOp rNe (tVar 2) (tC (V.int 0)))) (tVar 2) [2])))) { nx := fun x H' => Q V.non H', rt := Q } [some (.ref p), some (.int (d : Int)), none] H1 := by
    intro H1 s1
    refine ⟨_, rfl, _, _, rfl, rfl, _, rfl, p, rfl, _, itsO_ofL (ob_same s1 op), rfl, _, rfl, ite2 (fun h => ?_) (fun h => ?_)⟩
    · exact k H1 s1
    have h : ¬ ((d : Int) + 1 = (xs.length : Int)) := fun z => h (by show decide (V.int ((d : Int) + 1) = V.int (xs.length : Int)) = true; rw [z]; exact decide_eq_true rfl)
    obtain ⟨q, eq, _, kq, hq⟩ := lr.at (i := d + 1) (by omega)
    have aq : atI xs ((d : Int) + 1) = some (.ref q) := by rw [show (d : Int) + 1 = ((d + 1 : Nat) : Int) by omega]; exact atI_nat eq
    have nzq := dabove (d + 1) (by omega) (by omega)
    refine ⟨_, rfl, _, rfl, _, _, rfl, rfl, p, _, rfl, rfl, _, itsO_ofL (ob_same s1 op), _, aq, q, rfl, ⟨_, .of (s1 _ _ hq)⟩, fun D hD => lc_list (xs := (itd (d + 1) ns).map V.int) (NzI D (itd (d + 1) ns) H1) ⟨[], upd_same, rfl, Nat.le_refl _, Same.new hD _⟩ (fun i H' _ h => ?_) ?_ ?_⟩
    · obtain ⟨_, _, _, _, s4⟩ := h
      exact .of (s4 _ _ (s1 _ _ hq))
    · rintro i x H' hi ⟨acc, hd, al, le, s4⟩
      rw [List.getElem?_map] at hi
      obtain ⟨m, em, rfl⟩ := Option.map_eq_some_iff.mp hi
      have il := (List.getElem?_eq_some_iff.mp em).1
      have ml := itd_len ns (d + 1)
      refine ⟨rfl, ?_⟩
      refine ⟨_, rfl, rfl, _, rfl, ite2 (fun h => ?_) (fun h => ?_)⟩
      · exact ⟨_, rfl, acc, hd, by rw [sizeLine_eq]; omega, nz_step em hd al le s4 hD (show (!decide (V.int m = V.int 0)) = true from h)⟩
      · exact nz_skip em hd al le s4 (show ¬ (!decide (V.int m = V.int 0)) = true from h)
    · rintro H' ⟨acc, hd, al, le, s4⟩
      rw [List.length_map, List.take_length] at al
      refine ⟨false, .inl ⟨acc, .of hd, ?_⟩, k H' (s1.trans s4)⟩
      rw [al, nzq]
  have s1 : Same H H := fun _ _ z => z
  refine ⟨_, rfl, _, _, rfl, rfl, _, rfl, ite2 (fun h => ?_) (fun h => ?_)⟩
  · have h : (0 : Int) < (d : Int) := of_decide_eq_true h
    obtain ⟨q, eq, _, kq, hq⟩ := lr.at (i := d) (by omega)
    have aq : atI xs (d : Int) = some (.ref q) := atI_nat eq
    have nzq := dpos d (by omega) (Nat.le_refl _)
    refine ⟨_, rfl, _, rfl, p, _, rfl, rfl, _, itsO_ofL (ob_same s1 op), _, aq, q, rfl, ⟨_, .of (s1 _ _ hq)⟩, fun D hD => lc_list (xs := (itd d ns).map V.int) (NzI D (itd d ns) H) ⟨[], upd_same, rfl, Nat.le_refl _, Same.new hD _⟩ (fun i H' _ h => ?_) ?_ ?_⟩
    · obtain ⟨_, _, _, _, s4⟩ := h
      exact .of (s4 _ _ (s1 _ _ hq))
    · rintro i x H' hi ⟨acc, hd, al, le, s4⟩
      rw [List.getElem?_map] at hi
      obtain ⟨m, em, rfl⟩ := Option.map_eq_some_iff.mp hi
      have il := (List.getElem?_eq_some_iff.mp em).1
      have ml := itd_len ns d
      refine ⟨rfl, ?_⟩
      refine ⟨_, rfl, rfl, _, rfl, ite2 (fun h => ?_) (fun h => ?_)⟩
      · exact ⟨_, rfl, acc, hd, by rw [sizeLine_eq]; omega, nz_step em hd al le s4 hD (show (!decide (V.int m = V.int 0)) = true from h)⟩
      · exact nz_skip em hd al le s4 (show ¬ (!decide (V.int m = V.int 0)) = true from h)
    · rintro H' ⟨acc, hd, al, le, s4⟩
      rw [List.length_map, List.take_length] at al
      refine ⟨true, .inl ⟨acc, .of hd, ?_⟩, ?_⟩
      · rw [al, nzq]
      exact rest _ s4
  · exact rest _ s1

end
end My

namespace My
open PySem PySem.Spec PyProof.Rows L2
section
variable {P : Program} {w : World} {K : PySem.W.Frag} {mg : Str → Option Value} {base : Heap}
theorem cpy_sc {F : Addr → Prop} {H0 H : Hp} {v w : V} : ∀ {n : Nat}, Cpy K F H0 H n v w → scv v = true → v = w
  | 0, h, _ => h.1
  | n + 1, .inl h, _ => h.1
  | n + 1, .inr (.inl ⟨a, b, xs, ys, e, _⟩), z => by rw [e] at z; cases z
  | n + 1, .inr (.inr ⟨_, a, b, e, _⟩), z => by rw [e] at z; cases z
theorem cpy_ints {F : Addr → Prop} {H0 H : Hp} {n : Nat} {a : Addr} {w : V} {ns : List Int} (h : Cpy K F H0 H (n + 1) (.ref a) w) (ha : ob K H0 a = some (.lst (ns.map V.int))) : ∃ b, w = .ref b ∧ F b ∧ K.lookup b = none ∧ H b = some (.lst (ns.map V.int)) := by
  rcases h with ⟨_, h⟩ | ⟨a', b, xs, ys, e, rfl, fb, kb, h, l, _, z⟩ | ⟨_, h'⟩
  · cases h
  · cases e
    rcases h with ⟨h, _⟩ | ⟨h, hb⟩
    · rw [ha] at h
      cases h
    · rw [ha] at h
      cases h
      refine ⟨b, rfl, fb, kb, ?_⟩
      rw [hb]
      refine congrArg (fun z => some (HO.lst z)) (List.ext_getElem? fun i => ?_)
      rcases Nat.lt_or_ge i ys.length with q | q
      · obtain ⟨x, hx⟩ : ∃ x, (ns.map V.int)[i]? = some x := ⟨_, List.getElem?_eq_getElem (by omega)⟩
        have hy : ys[i]? = some ys[i] := List.getElem?_eq_getElem q
        obtain ⟨u, _, eu⟩ := List.mem_map.mp (List.mem_of_getElem? hx)
        have e := cpy_sc (z i x _ hx hy) (by rw [← eu]; rfl)
        rw [hy, hx, e]
      · rw [List.getElem?_eq_none q, List.getElem?_eq_none (by omega)]
  · obtain ⟨a', b, e, _, _, _, o, _⟩ := h'
    cases e
    rw [ha] at o
    cases o
theorem shp_ints {s a : Addr} {H : Hp} {ns : List Int} (n : Nat) (ha : ob K H a = some (.lst (ns.map V.int))) (ne : a ≠ s) (l : ns.length ≤ 1000) : Shp K s H (n + 1) (.ref a) := by
  refine .inr (.inl ⟨a, _, rfl, ne, .inr ha, by rw [List.length_map]; exact l, fun x hx => ?_⟩)
  obtain ⟨u, _, rfl⟩ := List.mem_map.mp hx
  cases n with
  | zero => rfl
  | succ n => exact .inl rfl
theorem shp_rows {F : Addr → Prop} {s a : Addr} {H : Hp} {xs : List V} {ns : List Int} (ha : ob K H a = some (.lst xs)) (ne : a ≠ s) (nf : ∀ b, F b → b ≠ s) (lr : LR K F H xs (fun k => itd k ns) ns.length) (l : ns.length ≤ 1000) : Shp K s H 2 (.ref a) := by
  refine .inr (.inl ⟨a, _, rfl, ne, .inr ha, by rw [lr.1]; exact l, fun x hx => ?_⟩)
  obtain ⟨i, hi⟩ := List.mem_iff_getElem?.mp hx
  obtain ⟨b, rfl, fb, kb, hb⟩ := lr.2 i x hi
  exact shp_ints 0 ((ob_none kb).trans hb) (nf b fb) (by rw [itd_len]; omega)
theorem cpy_rows {F G : Addr → Prop} {H0 H : Hp} {a : Addr} {xs : List V} {w : V} {f : Nat → List Int} {m : Nat} (h : Cpy K F H0 H 2 (.ref a) w) (ha : ob K H0 a = some (.lst xs)) (lr : LR K G H0 xs f m) : ∃ b ys, w = .ref b ∧ F b ∧ K.lookup b = none ∧ H b = some (.lst ys) ∧ LR K F H ys f m := by
  rcases h with ⟨_, h⟩ | ⟨a', b, xs', ys, e, rfl, fb, kb, h, l, _, z⟩ | ⟨l, a', b, e, _, _, _, o, _⟩
  · cases h
  · cases e
    rcases h with ⟨h, _⟩ | ⟨h, hb⟩
    · rw [ha] at h
      cases h
    · rw [ha] at h
      cases h
      refine ⟨b, ys, rfl, fb, kb, hb, by rw [← l]; exact lr.1, fun i y hy => ?_⟩
      have il := (List.getElem?_eq_some_iff.mp hy).1
      have hx : xs[i]? = some xs[i] := List.getElem?_eq_getElem (by omega)
      have c := z i _ y hx hy
      obtain ⟨r, er, _, kr, hr⟩ := lr.2 i _ hx
      rw [er] at c
      exact cpy_ints c ((ob_none kr).trans hr)
  · cases e
    rw [ha] at o
    cases o
theorem lr_eqv {F G : Addr → Prop} {H : Hp} {a b : Addr} {xs ys : List V} {ns : List Int} (ha : ob K H a = some (.lst xs)) (hb : ob K H b = some (.lst ys)) (l1 : LR K F H xs (fun k => itd k ns) ns.length) (l2 : LR K G H ys (fun k => itd k ns) ns.length) (l : ns.length ≤ 1000) : Eqv K H 2 (.ref a) (.ref b) := by
  refine .inr (.inl ⟨a, b, xs, ys, rfl, rfl, .inr ⟨ha, hb⟩, by rw [l1.1, l2.1], by rw [l2.1]; exact l, fun i x y hx hy => ?_⟩)
  obtain ⟨p, rfl, _, kp, hp⟩ := l1.2 i x hx
  obtain ⟨q, rfl, _, kq, hq⟩ := l2.2 i y hy
  exact eqv_ints ((ob_none kp).trans hp) ((ob_none kq).trans hq) (by rw [itd_len]; omega)
theorem setI_m1 {ms : List Int} (z : Int) (h : 1 ≤ ms.length) : ∃ ys : List Int, setI (ms.map V.int) (-1) (.int z) = some (ys.map V.int) ∧ ys.length = ms.length := by
  refine ⟨ms.set (ms.length - 1) z, ?_, by rw [List.length_set]⟩
  unfold setI ixN
  rw [List.length_map, if_neg (by omega), if_pos (by omega)]
  show some ((ms.map V.int).set ((-1 : Int) + (ms.length : Int)).toNat (.int z)) = _
  rw [show ((-1 : Int) + (ms.length : Int)).toNat = ms.length - 1 by omega, List.map_set]
/-- rows of ints that may be written -/
structure Rw (K : PySem.W.Frag) (s p : Addr) (W : Addr → Prop) (n : Nat) (Hb H0 H : Hp) : Prop where
  xs : ∃ xs, H p = some (.lst xs) ∧ 1 ≤ xs.length ∧ xs.length ≤ 60 ∧ ∀ x ∈ xs, ∃ a, x = .ref a ∧ W a ∧ a ≠ p ∧ K.lookup a = none ∧ ∃ ms : List Int, H a = some (.lst (ms.map V.int)) ∧ 1 ≤ ms.length ∧ ms.length ≤ n
  kp : K.lookup p = none
  keep : ∀ c o, ¬ W c → c ≠ p → H0 c = some o → H c = some o
  kb : Kp s Hb H
  st : Sto K H s
theorem Rw.row {s p a : Addr} {W : Addr → Prop} {n : Nat} {Hb H0 H : Hp} {ms : List Int} (h : Rw K s p W n Hb H0 H) (sb : Sto K Hb s) (wf : ∀ a, W a → Hb a = none) (wa : W a) (na : a ≠ p) (l1 : 1 ≤ ms.length) (l2 : ms.length ≤ n + 1) : Rw K s p W (n + 1) Hb H0 (upd H a (.lst (ms.map V.int))) := by
  obtain ⟨⟨xs, hp, m1, m2, hx⟩, kp, keep, kb, st⟩ := h
  obtain ⟨st', kb'⟩ := Sto.mut (o := .lst (ms.map V.int)) sb (wf a wa) kb st
  refine ⟨⟨xs, by rw [upd_ne (Ne.symm na)]; exact hp, m1, by omega, fun x hm => ?_⟩, kp, fun c o nw np e => ?_, kb', st'⟩
  · obtain ⟨b, rfl, wb, nb, kb, ns, hb, n1, n2⟩ := hx x hm
    refine ⟨b, rfl, wb, nb, kb, ?_⟩
    by_cases e : b = a
    · subst e
      exact ⟨ms, upd_same, l1, l2⟩
    · exact ⟨ns, by rw [upd_ne e]; exact hb, n1, by omega⟩
  · rw [upd_ne (fun z => nw (by rw [z]; exact wa))]
    exact keep c o nw np e
def spTr (K : PySem.W.Frag) : Sp := fun vs H Q _ => ∃ (s a : Addr) (ns : List Int), vs = [.ref s, .ref a] ∧ Sto K H s ∧ H a = some (.lst (ns.map V.int)) ∧ K.lookup a = none ∧ a ≠ s ∧ 1 ≤ ns.length ∧ ns.length ≤ 60 ∧ ∀ H', Kp s H H' → Sto K H' s → Q (.bl true) H'
abbrev sTr : Stmt := topS 45
theorem scTr : FnScope ["_law_store_here", "_law_values", "_law_kept_here", "_law_told", "_law_due", "_law_spot"] ["_law_store_here", "_law_values"] (defScope sTr) := ⟨rfl, rfl, rfl, by decide +kernel, rfl, by decide +kernel, by decide +kernel⟩
theorem k_Tr (T : Bt K mg) (D : Dfn K mg "_law_table_right" sTr ["_law_store_here", "_law_values"]) (d__law_kept : Kn1 P w K mg base 4 "_law_kept" ["_law_thing", "_law_deep"] (spK K 3) (.int 24)) (d_differences : Kn P w K mg base 3 "differences" ["values"] (spDfP K)) (d__law_walk : Kn P w K mg base 6 "_law_walk" ["_law_values", "_law_told"] (spWk K)) (d__law_degree_right : Kn P w K mg base 2 "_law_degree_right" ["_law_rows", "_law_degree"] (spDr K)) (d_degree_of : Kn P w K mg base 3 "degree_of" ["values"] (spDg K)) (d__law_take : Kn P w K mg base 2 "_law_take" ["_law_store_here", "_law_many"] (spTake K)) (d__law_same : Kn P w K mg base 6 "_law_same" ["_law_told", "_law_due"] (spSame K 5)) : Kn P w K mg base 8 "_law_table_right" ["_law_store_here", "_law_values"] (spTr K) := by
  refine Kn.mk' D scTr (fun vs H Q E h => ?_) (fun f cdv A outer s H vs Q E hr h => ?_)
  · obtain ⟨s, a, ns, rfl, _⟩ := h
    rfl
  obtain ⟨s, a, ns, rfl, hS, ha, ka, na, l1, l2, k⟩ := h
  refine ⟨_, (pss_cons (ps_set (i := 2) scTr.nd rfl (.inl rfl) (pe_kn1 d__law_kept hr (by rfl) (pa_cons (pv 1) pa_nil)))
      (pss_cons (ps_set (i := 3) scTr.nd rfl (.inl rfl) (pe_kn d_differences hr (by rfl) (pa_cons (pv 1) pa_nil)))
      (pss_cons (ps_if (PW.pt (pw_or (pt_not (pt_val (pe_kn d__law_walk hr (by rfl) (pa_cons (pv 2) (pa_cons (pv 3) pa_nil))))) (pw_or1 (pt_not (pt_val (pe_kn d__law_degree_right hr (by rfl) (pa_cons (pv 3) (pa_cons (pe_kn d_degree_of hr (by rfl) (pa_cons (pv 1) pa_nil)) pa_nil)))))))) (pss_one (ps_ret pe_bl)) pss_nil)
      (pss_cons (ps_set (i := 4) scTr.nd rfl (.inl rfl) (pe_kn1 d__law_kept hr (by rfl) (pa_cons (pv 3) pa_nil)))
      (pss_cons (ps_set (i := 5) scTr.nd rfl (.inl rfl) (pe_kn d__law_take hr (by rfl) (pa_cons (pv 0) (pa_cons (pe_callB call_lenA (by rfl) T.b_len PySem.boot_len (pa_cons (pv 3) pa_nil)) pa_nil))))
      (pss_cons (ps_asg (pe_op op_add (pe_ix ix_any (pe_ix ix_any (pv 3) (pv 5) (fun _ _ => rfl)) (pe_un un_neg pe_int) (fun _ _ => rfl)) pe_int) (pg_sub (pe_ix ix_any (pv 3) (pv 5) (fun _ _ => rfl)) (pe_un un_neg pe_int) set_any))
      (pss_cons (ps_expr (pe_bm PySem.F.plainAttrs_list PySem.F.slot_list_append PySem.F.type_list_append mt_append (pe_ix ix_any (pv 3) pe_int (fun _ _ => rfl)) (pa_cons pe_int pa_nil)))
      (pss_cons (ps_expr (pe_bm PySem.F.plainAttrs_list PySem.F.slot_list_insert PySem.F.type_list_insert mt_insert (pe_ix ix_any (pv 3) (pe_un un_neg pe_int) (fun _ _ => rfl)) (pa_cons pe_int (pa_cons pe_int pa_nil))))
      (pss_cons (ps_expr (pe_bm PySem.F.plainAttrs_list PySem.F.slot_list_append PySem.F.type_list_append mt_append (pv 3) (pa_cons (pe_ls pa_nil) pa_nil)))
      (pss_one (ps_ret (pe_and (pe_kn d__law_same hr (by rfl) (pa_cons (pv 1) (pa_cons (pv 2) pa_nil))) (pe_one (pe_kn d__law_same hr (by rfl) (pa_cons (pe_kn d_differences hr (by rfl) (pa_cons (pv 1) pa_nil)) (pa_cons (pv 4) pa_nil)))))))))))))))), ?_⟩
  have oa := (ob_none ka).trans ha
  refine ⟨_, rfl, s, _, 24, rfl, shp_ints 1 oa na (by omega), by decide, fun w H1 s1 cw => ?_⟩
  obtain ⟨b, rfl, fb, kb, hb⟩ := cpy_ints cw oa
  have ha1 := s1 _ _ ha
  refine ⟨_, rfl, a, ns, rfl, ha1, ka, l1, l2, fun p xs H2 s2 hp kp hx lr => ?_⟩
  have xl := lr.1
  have hb2 := s2 _ _ hb
  refine ⟨_, rfl, _, rfl, b, p, ns, _, rfl, hb2, kb, ⟨⟨xs, hx, lr⟩, kp⟩, l1, l2, fun H3 s3 => ⟨_, rfl, if_no rfl ?_⟩⟩
  have ha3 := s3 _ _ (s2 _ _ ha1)
  refine ⟨_, rfl, _, rfl, a, ns, rfl, ha3, ka, l1, l2, fun H4 s4 => ?_⟩
  have s34 := s3.trans s4
  refine ⟨p, ns, _, rfl, ⟨⟨xs, s34 _ _ hx, lr.same s34⟩, kp⟩, l1, l2, fun H5 s5 => ⟨_, rfl, if_no rfl ?_⟩⟩
  have s25 := s34.trans s5
  have lr5 := lr.same s25
  have hx5 := s25 _ _ hx
  have s15 := s2.trans s25
  have s05 := s1.trans s15
  have hS5 := hS.same s05
  have hS1 := hS.same s1
  have op5 := (ob_none kp).trans hx5
  refine ⟨_, rfl, s, _, 24, rfl, shp_rows op5 (hS1.ne' hp) (fun b z => hS1.ne' z.1) lr5 (by omega), by decide, fun w' H6 s6 cw' => ?_⟩
  obtain ⟨d, ys, rfl, fd, kd, hd, lrd⟩ := cpy_rows cw' op5 lr5
  have op6 := ob_same s6 op5
  have s16 := s15.trans s6
  refine ⟨_, rfl, _, rfl, p, rfl, _, itsO_ofL op6, s, _, rfl, hS1.same s16, by rw [xl]; omega, fun r H7 r0 r1 kp7 st7 => ?_⟩
  have r1 : r < (ns.length : Int) := by rw [xl] at r1; omega
  have kp17 := (Kp.same (s := s) s16).trans kp7
  have hp7 := kp7.1 _ _ (hS1.ne' hp) (s6 _ _ hx5)
  have wf : ∀ a, (H1 a = none ∧ a ≠ p ∧ H5 a ≠ none) → H1 a = none := fun _ z => z.1
  have R0 : Rw K s p (fun b => H1 b = none ∧ b ≠ p ∧ H5 b ≠ none) 60 H1 H7 H7 := by
    refine ⟨⟨xs, hp7, by omega, by omega, fun x hm => ?_⟩, kp, fun _ _ _ _ e => e, kp17, st7⟩
    obtain ⟨i, hi⟩ := List.mem_iff_getElem?.mp hm
    have il := (List.getElem?_eq_some_iff.mp hi).1
    obtain ⟨b, rfl, fb, kb, hb⟩ := lr5.2 i x hi
    exact ⟨b, rfl, ⟨fb.1, fb.2, by rw [hb]; simp⟩, fb.2, kb, _, kp7.1 _ _ (hS1.ne' fb.1) (s6 _ _ hb), by rw [itd_len]; omega, by rw [itd_len]; omega⟩
  generalize hW : (fun b => H1 b = none ∧ b ≠ p ∧ H5 b ≠ none) = W at R0
  have wf : ∀ a, W a → H1 a = none := fun a z => by rw [← hW] at z; exact z.1
  have wd : ∀ a, H5 a = none → ¬ W a := fun a z n => by rw [← hW] at n; exact n.2.2 z
  clear hW
  have R := R0
  obtain ⟨⟨xs7, hx7, m1, m2, hr⟩, _, _, _, _⟩ := R
  rw [hp7] at hx7
  cases hx7
  have op7 := (ob_none kp).trans hp7
  have rr : r.toNat < xs.length := by omega
  obtain ⟨q, eq, wq, nq, kq, ms, hq, n1, n2⟩ := hr xs[r.toNat] (List.getElem_mem rr)
  have atr : atI xs r = some (.ref q) := by
    rw [show r = (r.toNat : Int) by omega]
    exact atI_nat (by rw [List.getElem?_eq_getElem rr, eq])
  have oq := (ob_none kq).trans hq
  obtain ⟨z, ez⟩ : ∃ z, atI (ms.map V.int) (-1) = some (.int z) := by
    rw [atI_m1 (fun e => by rw [List.map_eq_nil_iff] at e; rw [e] at n1; simp at n1), List.getElem?_map, List.length_map, List.getElem?_eq_getElem (show ms.length - 1 < ms.length by omega)]
    exact ⟨_, rfl⟩
  obtain ⟨ms', es, ml⟩ := setI_m1 (z + 1) n1
  refine ⟨_, rfl, _, rfl, p, r, rfl, rfl, _, itsO_ofL op7, _, atr, _, rfl, q, -1, rfl, rfl, _, itsO_ofL oq, _, ez, _, _, rfl, rfl, _, rfl, _, rfl, p, r, rfl, rfl, _, itsO_ofL op7, _, atr, _, rfl, q, -1, rfl, rfl, _, hq, _, es, ?_⟩
  have R1 := R0.row (ms := ms') hS1 wf wq nq (by omega) (by omega)
  generalize upd H7 q (.lst (ms'.map V.int)) = H8 at R1 ⊢
  -- the first row grows at its end
  obtain ⟨⟨xs8, hp8, m1, m2, hr⟩, _, _, _, _⟩ := id R1
  have op8 := (ob_none kp).trans hp8
  obtain ⟨q, eq, wq, nq, kq, ms, hq, n1, n2⟩ := hr xs8[0] (List.getElem_mem (by omega))
  have at0 : atI xs8 0 = some (.ref q) := atI_nat (j := 0) (by rw [List.getElem?_eq_getElem (by omega), eq])
  have em : ms.map V.int ++ [V.int 0] = (ms ++ [0]).map V.int := by rw [List.map_append]; rfl
  refine ⟨_, rfl, p, 0, rfl, rfl, _, itsO_ofL op8, _, at0, .inl ⟨rfl, _, .of hq⟩, q, _, _, rfl, rfl, hq, by rw [List.length_map, sizeLine_eq]; omega, ?_⟩
  rw [em]
  have R2 := R1.row (ms := ms ++ [0]) hS1 wf wq nq (by rw [List.length_append]; simp) (by rw [List.length_append]; simp; omega)
  generalize upd H8 q (.lst ((ms ++ [0]).map V.int)) = H9 at R2 ⊢
  clear em hq at0 eq op8 hp8 hr
  -- the last row grows at its start
  obtain ⟨⟨xs9, hp9, m1, m2, hr⟩, _, _, _, _⟩ := id R2
  have op9 := (ob_none kp).trans hp9
  obtain ⟨q, eq, wq, nq, kq, ms, hq, n1, n2⟩ := hr xs9[xs9.length - 1] (List.getElem_mem (by omega))
  have atl : atI xs9 (-1) = some (.ref q) := by rw [atI_m1 (fun e => by rw [e] at m1; simp at m1), List.getElem?_eq_getElem (by omega), eq]
  have em : (ms.map V.int).take (0 : Int).toNat ++ [V.int 7] ++ (ms.map V.int).drop (0 : Int).toNat = (7 :: ms).map V.int := by simp
  refine ⟨_, rfl, _, rfl, p, -1, rfl, rfl, _, itsO_ofL op9, _, atl, .inl ⟨rfl, _, .of hq⟩, q, _, 0, _, rfl, rfl, hq, by rw [List.length_map, sizeLine_eq]; omega, by omega, by omega, ?_⟩
  rw [em]
  have R3 := R2.row (ms := 7 :: ms) hS1 wf wq nq (by simp) (by simp; omega)
  generalize upd H9 q (.lst ((7 :: ms).map V.int)) = H10 at R3 ⊢
  clear em hq atl eq op9 hp9 hr
  -- a new row
  obtain ⟨⟨xs10, hp10, m1, m2, hr⟩, _, keep, kb10, st10⟩ := R3
  refine ⟨_, rfl, .inl ⟨rfl, _, .of hp10⟩, sz2 (by show 0 ≤ 100; decide), fun e he ke => ?_⟩
  have se := Same.new he (.lst [])
  have hp11 := se _ _ hp10
  have kb11 := kb10.trans (Kp.same (s := s) se)
  have st11 := st10.same se
  refine ⟨p, _, _, rfl, rfl, hp11, by rw [sizeLine_eq]; omega, ?_⟩
  obtain ⟨st12, kb12⟩ := Sto.mut (o := .lst (xs10 ++ [V.ref e])) hS1 hp kb11 st11
  have keep12 : ∀ c o, ¬ W c → c ≠ p → H7 c = some o → upd (upd H10 e (.lst [])) p (.lst (xs10 ++ [V.ref e])) c = some o := fun c o nw np z => by
    rw [upd_ne np]
    exact se _ _ (keep c o nw np z)
  generalize upd (upd H10 e (.lst [])) p (.lst (xs10 ++ [V.ref e])) = H12 at st12 kb12 keep12 ⊢
  have nbs : b ≠ s := hS.ne' fb
  have oa12 := (ob_none ka).trans (kb12.1 _ _ na ha1)
  have ob12 := (ob_none kb).trans (kb12.1 _ _ nbs hb)
  refine ⟨_, rfl, _, rfl, _, _, rfl, (eqv_ints oa12 ob12 (by omega)).up.up.up, fun H13 s13 => ⟨true, rfl, if_yes rfl ?_⟩⟩
  refine ⟨_, rfl, a, ns, rfl, s13 _ _ (kb12.1 _ _ na ha1), ka, l1, l2, fun p2 xs2 H14 s14 hp2 kp2 hx2 lr2 => ?_⟩
  have ndp : ∀ c o, H5 c = none → H6 c = some o → H14 c = some o := fun c o h5 h6 => by
    have ns' : c ≠ s := fun z => by
      obtain ⟨ys', hys⟩ := (hS1.same s15).at
      rw [z, hys] at h5
      cases h5
    exact s14 _ _ (s13 _ _ (keep12 c o (wd c h5) (fun z => by rw [z, hx5] at h5; cases h5) (kp7.1 _ _ ns' h6)))
  have od14 := (ob_none kd).trans (ndp d _ fd hd)
  have lrd14 := lrd.imp (F' := fun b => H5 b = none) (fun _ z => z) ndp
  have op14 := (ob_none kp2).trans hx2
  refine ⟨_, rfl, _, _, rfl, (lr_eqv op14 od14 lr2 lrd14 (by omega)).up.up, fun H15 s15' => ?_⟩
  have sf := s13.trans (s14.trans s15')
  exact k H15 ((Kp.same (s := s) s1).trans (kb12.trans (Kp.same (s := s) sf))) (st12.same sf)

end
end My

namespace My
open PySem PySem.Spec PyProof.Rows L2
section
variable {P : Program} {w : World} {K : PySem.W.Frag} {mg : Str → Option Value} {base : Heap}
end
/-! ### what a def that raises keeps -/
structure KnX (P : Program) (w : World) (K : PySem.W.Frag) (mg : Str → Option Value) (base : Heap) (k : Nat) (x : Str) (ps : List Str) (sp : Sp) : Prop where
  ex : ∃ f fd, mg x = some (.ref f) ∧ PySem.W.keepIn K (.ref f) = true ∧ Binds K fd ps [] ∧ FnOk P w K mg base (L2.CX P w) k f fd ps sp
theorem KnX.mk' {P : Program} {w : World} {K : PySem.W.Frag} {mg : Str → Option Value} {base : Heap} {x : Str} {st : Stmt} {N ps : List Str} {k : Nat} {sp : Sp} (D : Dfn K mg x st ps) (S : FnScope N ps (defScope st)) (len : ∀ vs H Q E, sp vs H Q E → vs.length = ps.length)
    (hbody : ∀ (f : Addr) (cdv : Value) (A : Around) (outer : List Env) (s : Shared) (H : Hp) (vs : List V) (Q : VK) (E : XK), Room k (A.deeper (envOfC x (defScope st) s.heap.objs.size f cdv)) → sp vs H Q E →
      ∃ t, PSs (cxOf (L2.CX P w) P w K mg base N x (defScope st) f cdv A outer s H E) (defBody st) t ∧ t { nx := fun _ H' => Q .non H', rt := Q } (start N vs) H) : KnX P w K mg base (k + 1) x ps sp := by
  obtain ⟨f, fd, F, m, b⟩ := D.ex
  exact ⟨f, fd, m, F.kp, b, F.okX S len (hbody f)⟩
section
variable {X : Cx}
theorem pe_knX {j k : Nat} {x : Str} {ps : List Str} {sp : Sp} {p pos : Pos} {e : Expr} {es : List Expr} {t : TA} {W : WX} (E : XK) (F : KnX X.prog X.w X.K X.mg X.base k x ps sp) (hr : Room j X.A) (hg : Gl X x) (tk : Takes X W) (hW : ∀ cls d σ H, E cls d H → W cls d σ H) (ha : PA X (e :: es) t) (hj : k ≤ j := by omega)
    (hdb : (x == ("__debug__" : Str)) = false := by decide) (he : starEach (e :: es) X.env = (false, eval e X.env) :: starEach es X.env := by rfl) (hpl : (backTo pos (starEach es X.env)).any (·.1) = false := by rfl) :
    PE X (.Call (.Name x p) (e :: es) [] pos) (tCall sp [] E t) := by
  obtain ⟨f, fd, m, kp, b, G⟩ := F.ex
  exact pe_call G (hr.mono hj) hg m kp b .nil (passes_call tk hW) ha hdb he hpl
end
/-! ### BadValue -/
structure BvT (K : PySem.W.Frag) (mg : Str → Option Value) (C : Addr) : Prop where
  g : mg "BadValue" = some (.ref C)
  ox : OexC K C
  no : PySem.W.findIn K (.ref C) "what" = some none
  ini : ∃ fI fd, PySem.W.findIn K (.ref C) "__init__" = some (some (.ref fI)) ∧ PySem.W.typeIn K (.ref fI) = some (.type "function") ∧ Fun K "__init__" "BadValue.__init__" (inClass (topS 2) 0) fI fd ∧ Binds K fd ["self", "what"] []
def spInit (C : Addr) : Sp := fun vs H Q _ => ∃ (a : Addr) (y : V), vs = [.ref a, y] ∧ H a = some (exo a C none) ∧ ∀ dx, H dx = none → dx ≠ a → Q .non (upd (upd H dx (exd dx [("what", y)])) a (exo a C (some dx)))
/-- an error of BadValue: its own dict d, what it names -/
def Bv (K : PySem.W.Frag) (C : Addr) (H : Hp) (E : XK) (y : V) : Prop := ∀ (d : Addr) (H' : Hp), Same H H' → H' d = some (.xd [("what", y)]) → E (.ref C) (some d) H'
def spRequireX (K : PySem.W.Frag) (C : Addr) : Sp := fun vs H _ E => ∃ y : V, vs = [.bl false, y] ∧ Bv K C H E y
section
variable {P : Program} {w : World} {K : PySem.W.Frag} {mg : Str → Option Value} {base : Heap}
abbrev sInitB : Stmt := inClass (topS 2) 0
theorem scInitB : FnScope ["self", "what"] ["self", "what"] (defScope sInitB) := ⟨rfl, rfl, rfl, by decide +kernel, rfl, by decide +kernel, by decide +kernel⟩
theorem ok_initB {C fI : Addr} {fd : FuncData} (B : BvT K mg C) (F : Fun K "__init__" "BadValue.__init__" sInitB fI fd) : FnOk P w K mg base CX0 1 fI fd ["self", "what"] (spInit C) := by
  refine F.ok scInitB (fun vs H Q E h => ?_) (fun cdv A outer s H vs Q E hr h => ?_)
  · obtain ⟨a, y, rfl, _⟩ := h
    rfl
  obtain ⟨a, y, rfl, ha, k⟩ := h
  refine ⟨_, pss_one (ps_ost (pv 0) (pv 1)), ?_⟩
  exact ⟨_, rfl, _, rfl, a, C, rfl, B.ox, B.no, .inl ⟨ha, k⟩⟩
theorem kx_Require {C : Addr} (B : BvT K mg C) (D : Dfn K mg "require" sRequire ["well_formed", "what"]) : KnX P w K mg base 3 "require" ["well_formed", "what"] (spRequireX K C) := by
  refine KnX.mk' D scRequire (fun vs H Q E h => ?_) (fun f cdv A outer s H vs Q E hr h => ?_)
  · obtain ⟨y, rfl, _⟩ := h
    rfl
  obtain ⟨y, rfl, k⟩ := h
  obtain ⟨fI, fd, iC, tI, F, b⟩ := B.ini
  refine ⟨_, (pss_one (ps_if (pt_not (pt_val (pv 0))) (pss_one (ps_raise rfl (takes_of rfl rfl rfl rfl) (pmk_oex B.ox iC tI (ok_initB B F) hr b .nil pass0 (by rfl) B.g (pa_cons (pv 1) pa_nil)))) pss_nil)), ?_⟩
  refine ⟨_, rfl, _, rfl, iteT ?_⟩
  refine ⟨_, rfl, by show 1 ≤ 1000; decide, fun a na => ⟨a, y, rfl, upd_same, fun dx ndx ne => ⟨rfl, dx, [("what", y)], upd_same, ?_, ?_, ?_⟩⟩⟩
  · rw [upd_ne ne, upd_same]
  · rw [upd_ne ne] at ndx
    exact ndx
  · rw [upd_ne ne] at ndx
    refine k dx _ (fun b o e => ?_) upd_same
    rw [upd_ne (ne_of_none e ndx), del_ne (ne_of_none e na), upd_ne (ne_of_none e na), upd_ne (ne_of_none e ndx), upd_ne (ne_of_none e na)]
    exact e
end
end My

namespace My
open PySem PySem.Spec PyProof.Rows L2
section
variable {P : Program} {w : World} {K : PySem.W.Frag} {mg : Str → Option Value} {base : Heap}
end
/-- what the written part says of the errors' classes: C is BadValue, S SkyError, A the eleven by name -/
structure AskT (K : PySem.W.Frag) (mg : Str → Option Value) (C S : Addr) (A : String → Addr) : Prop where
  sky : mg "SkyError" = some (.ref S)
  exm : PySem.W.exmOne K (.ref C) (.ref S) = some true
  g : ∀ n ∈ ["BadValue", "Mismatch", "Still", "Endless", "TooMany", "NoName", "Taken", "Locked", "Looped", "Broken", "ReadError"], mg (Str.ofString n) = some (.ref (A n))
  k : ∀ n ∈ ["BadValue", "Mismatch", "Still", "Endless", "TooMany", "NoName", "Taken", "Locked", "Looped", "Broken", "ReadError"], PySem.W.kitOne K (.ref C) (.ref (A n)) = some (n == "BadValue")
  ve : PySem.W.kitOne K (.ref C) (.type "ValueError") = some true
  b_VE : mg "ValueError" = none
  hcl : (PySem.W.clsIn K C).isSome = true
  hga : PySem.W.findIn K (.ref C) "__getattribute__" = some (some (.builtin "BaseException.__getattribute__"))
  hgt : PySem.W.findIn K (.ref C) "__getattr__" = some none
  hsub : PySem.W.subIn K (.ref C) (.type "BaseException") = some true
  ha : PySem.W.findIn K (.ref C) "__class__" = some (some (.builtin "object.__class__"))
  hn : PySem.W.specialIn K (.builtin "object.__class__") "__get__" = some (some (.builtin "getset_descriptor.__get__"))
  htk : PySem.W.takesIn K (.builtin "object.__class__") = some true
  hm : PySem.W.mroIn K C (.type "object") = some true
  xf : XfC K C
/-- isinstance of a caught error that has its dict -/
def kitV (K : PySem.W.Frag) (C : Addr) : V → Option Bool
  | .ref D => PySem.W.kitOne K (.ref C) (.ref D)
  | .ty n => PySem.W.kitOne K (.ref C) (.type n)
  | _ => none
def rIsX (K : PySem.W.Frag) (C a : Addr) (cls : Value) (d : Option Addr) : List V → Hp → VK → Prop := fun xs H Q => ∃ c, xs = [.ref a, c] ∧ cls = .ref C ∧ ∃ dd, d = some dd ∧ (∃ fs, H dd = some (.xd fs)) ∧ ∃ b, kitV K C c = some b ∧ Q (.bl b) H
theorem call_isX {X : Cx} {C S a : Addr} {A : String → Addr} {oe : Obj} {cls : Value} {d : Option Addr} {pn : List (Addr × Obj)} (T : AskT X.K X.mg C S A) (hz : Zc cls d oe) (hf : ∃ vs, oe.data = .fields vs) : CallR (X.suite a ((a, oe) :: pn)) (.builtin "isinstance") (rIsX X.K C a cls d) := fun pins s σ H xs us Q I r h => by
  obtain ⟨c, rfl, rfl, dd, rfl, ⟨fs, hfs⟩, b, hb, q⟩ := h
  obtain ⟨u1, u2, rfl, r1, r2⟩ := vals2 r
  cases r1
  obtain ⟨hget, _⟩ := I.pin (a, oe) (List.mem_append.mpr (.inl List.mem_cons_self))
  obtain ⟨vs, hv⟩ := hf
  obtain ⟨mA, ⟨od, es, ep, ho, hr0⟩, hr⟩ := (show ObjOk X.prog X.w H s.heap dd (.xd fs) from I.hok dd _ hfs)
  have J : PySem.W.InstAt s.heap a oe C (some od) := ⟨hget, hz.1, by unfold PySem.W.notCls; rw [hv] <;> rfl, by rw [hz.2]; exact ho⟩
  have Z := PySem.W.kitx_exc (K := X.K) (C := C) (x := a) (ox := oe) (od := some od) T.hcl T.hga T.hgt T.hsub T.ha T.hn T.htk T.hm
  cases c with
  | ref D =>
    obtain rfl : u2 = Value.ref D := r2
    exact PySem.W.kia_one Z I.kIn J hb (fun z => nomatch z) fun tk => ⟨.bl b, H, I.kept (t' := tk) fun _ _ z => z, rfl, q⟩
  | ty n =>
    obtain rfl : u2 = Value.type n := r2
    exact PySem.W.kia_one Z I.kIn J hb (fun z => nomatch z) fun tk => ⟨.bl b, H, I.kept (t' := tk) fun _ _ z => z, rfl, q⟩
  | _ => cases hb
def rLenA (K : PySem.W.Frag) : List V → Hp → VK → Prop := fun xs H Q => ∃ p, xs = [.ref p] ∧ ∃ ys, itsO (ob K H p) = some ys ∧ Q (.int ys.length) H
/-- a wish of the right number of slots is wish enough -/
theorem takes_len {X : Cx} {W : WX} (t : Takes X W) : Takes X (fun cls d σ H => σ.length = X.N.length → W cls d σ H) := fun u s' ⟨a, B, sI, pins, σ, H, cls, d, e, I, nb, up, sky, na, os, ag, w⟩ =>
  t u s' ⟨a, B, sI, pins, σ, H, cls, d, e, I, nb, up, sky, na, os, ag, w I.len⟩
/-- what the law's asking makes of a call: told, or BadValue and what it names -/
def TAsk (K : PySem.W.Frag) (C : Addr) : (XK → Hp → VK → Prop) → Hp → VK → Prop := fun tl H Q =>
  tl (fun cls d H' => cls = .ref C ∧ ∃ dd y, d = some dd ∧ H' dd = some (.xd [("what", y)]) ∧ ∀ p H'', Same H' H'' → ob K H'' p = some (.tup [.str "BadValue", y]) → Q (.ref p) H'') H
    (fun v H1 => ([V.str "told", v] : List V).length ≤ sizeLine ∧ ∀ p, H1 p = none → K.lookup p = none → Q (.ref p) (upd H1 p (.tup [.str "told", v])))
abbrev sAsked : Stmt := topS 42
theorem scAsked : FnScope ["_law_call", "e", "_law_kinds"] ["_law_call"] (defScope sAsked) := ⟨rfl, rfl, rfl, by decide +kernel, rfl, by decide +kernel, by decide +kernel⟩

theorem asked_gives {X : Cx} {C S : Addr} {A : String → Addr} {g : Addr} {cdg : Value} {q : Str} (Z : Bt X.K X.mg) (B : BvT X.K X.mg C) (T : AskT X.K X.mg C S A) : LamX.GivesTo X ["_law_call", "e", "_law_kinds"] "_law_asked" (defScope sAsked) g cdg (defBody sAsked) "_law_call" q (TAsk X.K C) := by
  intro f c' s H Q tl act hc h
  refine ⟨_, pss_one (ps_try_as (X := (cxOf C8.CX0 X.prog X.w X.K X.mg X.base ["_law_call", "e", "_law_kinds"] "_law_asked" (defScope sAsked) g cdg X.A X.stack s H C8.E0).nox) (i := 1) (c := .ref S)
      (tb := fun W D σ H => ∃ Ech : XK, (∀ cls d σ' H', Ech cls d H' → σ'.length = 3 → W cls d σ' H') ∧ tRet (tTp X.K (tCons (tC (.str "told")) (tCons (fun σZ HZ Q => σZ[0]? = some (some (.ref f)) ∧ HZ c' = some (LamX.CodeO c' q) ∧ tl Ech HZ Q) L2.tNil))) D σ H)
      rfl rfl scAsked.nd rfl rfl ⟨rfl, by decide, .inl T.sky⟩ takes0 (fun W pn xe tk _ => ?_) (fun a oe cls d pn hz hf => (pss_cons (ps_set (i := 2) scAsked.nd rfl (.inl rfl) (show PE (Cx.suite (cxOf C8.CX0 X.prog X.w X.K X.mg X.base ["_law_call", "e", "_law_kinds"] "_law_asked" (defScope sAsked) g cdg X.A X.stack s H C8.E0).nox a ((a, oe) :: pn)) _ (tLs X.K L2.tNil) from pe_ls pa_nil))
      (pss_cons (ps_if (pt_val (pe_callB (call_isX (X := (cxOf C8.CX0 X.prog X.w X.K X.mg X.base ["_law_call", "e", "_law_kinds"] "_law_asked" (defScope sAsked) g cdg X.A X.stack s H C8.E0).nox) (a := a) (pn := pn) T hz hf) (by rfl) Z.b_isinstance (by decide +kernel) (pa_cons (pv 1) (pa_cons (pe_glob (v := .ref (A "BadValue")) (by rfl) (T.g "BadValue" (by decide)) rfl) pa_nil)))) (pss_one (ps_expr (show PE (Cx.suite (cxOf C8.CX0 X.prog X.w X.K X.mg X.base ["_law_call", "e", "_law_kinds"] "_law_asked" (defScope sAsked) g cdg X.A X.stack s H C8.E0).nox a ((a, oe) :: pn)) _ (tBM X.K "list" rAppend (tVar 2) (tCons (tTp X.K (tCons (tC (.str "BadValue")) (tCons (tXf a cls d C "what" (tVar 1)) L2.tNil))) L2.tNil)) from pe_bm PySem.F.plainAttrs_list PySem.F.slot_list_append PySem.F.type_list_append mt_append (pv 2) (pa_cons (pe_tp (pa_cons pe_str (pa_cons (pe_xf (X := (cxOf C8.CX0 X.prog X.w X.K X.mg X.base ["_law_call", "e", "_law_kinds"] "_law_asked" (defScope sAsked) g cdg X.A X.stack s H C8.E0).nox) (a := a) (pn := pn) T.xf B.no hz hf (pv 1)) pa_nil))) pa_nil)))) pss_nil)
      (pss_cons (ps_if (pt_val (pe_callB (call_isX (X := (cxOf C8.CX0 X.prog X.w X.K X.mg X.base ["_law_call", "e", "_law_kinds"] "_law_asked" (defScope sAsked) g cdg X.A X.stack s H C8.E0).nox) (a := a) (pn := pn) T hz hf) (by rfl) Z.b_isinstance (by decide +kernel) (pa_cons (pv 1) (pa_cons (pe_glob (v := .ref (A "Mismatch")) (by rfl) (T.g "Mismatch" (by decide)) rfl) pa_nil)))) (pss_one ps_never) pss_nil)
      (pss_cons (ps_if (pt_val (pe_callB (call_isX (X := (cxOf C8.CX0 X.prog X.w X.K X.mg X.base ["_law_call", "e", "_law_kinds"] "_law_asked" (defScope sAsked) g cdg X.A X.stack s H C8.E0).nox) (a := a) (pn := pn) T hz hf) (by rfl) Z.b_isinstance (by decide +kernel) (pa_cons (pv 1) (pa_cons (pe_glob (v := .ref (A "Still")) (by rfl) (T.g "Still" (by decide)) rfl) pa_nil)))) (pss_one ps_never) pss_nil)
      (pss_cons (ps_if (pt_val (pe_callB (call_isX (X := (cxOf C8.CX0 X.prog X.w X.K X.mg X.base ["_law_call", "e", "_law_kinds"] "_law_asked" (defScope sAsked) g cdg X.A X.stack s H C8.E0).nox) (a := a) (pn := pn) T hz hf) (by rfl) Z.b_isinstance (by decide +kernel) (pa_cons (pv 1) (pa_cons (pe_glob (v := .ref (A "Endless")) (by rfl) (T.g "Endless" (by decide)) rfl) pa_nil)))) (pss_one ps_never) pss_nil)
      (pss_cons (ps_if (pt_val (pe_callB (call_isX (X := (cxOf C8.CX0 X.prog X.w X.K X.mg X.base ["_law_call", "e", "_law_kinds"] "_law_asked" (defScope sAsked) g cdg X.A X.stack s H C8.E0).nox) (a := a) (pn := pn) T hz hf) (by rfl) Z.b_isinstance (by decide +kernel) (pa_cons (pv 1) (pa_cons (pe_glob (v := .ref (A "TooMany")) (by rfl) (T.g "TooMany" (by decide)) rfl) pa_nil)))) (pss_one ps_never) pss_nil)
      (pss_cons (ps_if (pt_val (pe_callB (call_isX (X := (cxOf C8.CX0 X.prog X.w X.K X.mg X.base ["_law_call", "e", "_law_kinds"] "_law_asked" (defScope sAsked) g cdg X.A X.stack s H C8.E0).nox) (a := a) (pn := pn) T hz hf) (by rfl) Z.b_isinstance (by decide +kernel) (pa_cons (pv 1) (pa_cons (pe_glob (v := .ref (A "NoName")) (by rfl) (T.g "NoName" (by decide)) rfl) pa_nil)))) (pss_one ps_never) pss_nil)
      (pss_cons (ps_if (pt_val (pe_callB (call_isX (X := (cxOf C8.CX0 X.prog X.w X.K X.mg X.base ["_law_call", "e", "_law_kinds"] "_law_asked" (defScope sAsked) g cdg X.A X.stack s H C8.E0).nox) (a := a) (pn := pn) T hz hf) (by rfl) Z.b_isinstance (by decide +kernel) (pa_cons (pv 1) (pa_cons (pe_glob (v := .ref (A "Taken")) (by rfl) (T.g "Taken" (by decide)) rfl) pa_nil)))) (pss_one ps_never) pss_nil)
      (pss_cons (ps_if (pt_val (pe_callB (call_isX (X := (cxOf C8.CX0 X.prog X.w X.K X.mg X.base ["_law_call", "e", "_law_kinds"] "_law_asked" (defScope sAsked) g cdg X.A X.stack s H C8.E0).nox) (a := a) (pn := pn) T hz hf) (by rfl) Z.b_isinstance (by decide +kernel) (pa_cons (pv 1) (pa_cons (pe_glob (v := .ref (A "Locked")) (by rfl) (T.g "Locked" (by decide)) rfl) pa_nil)))) (pss_one ps_never) pss_nil)
      (pss_cons (ps_if (pt_val (pe_callB (call_isX (X := (cxOf C8.CX0 X.prog X.w X.K X.mg X.base ["_law_call", "e", "_law_kinds"] "_law_asked" (defScope sAsked) g cdg X.A X.stack s H C8.E0).nox) (a := a) (pn := pn) T hz hf) (by rfl) Z.b_isinstance (by decide +kernel) (pa_cons (pv 1) (pa_cons (pe_glob (v := .ref (A "Looped")) (by rfl) (T.g "Looped" (by decide)) rfl) pa_nil)))) (pss_one ps_never) pss_nil)
      (pss_cons (ps_if (pt_val (pe_callB (call_isX (X := (cxOf C8.CX0 X.prog X.w X.K X.mg X.base ["_law_call", "e", "_law_kinds"] "_law_asked" (defScope sAsked) g cdg X.A X.stack s H C8.E0).nox) (a := a) (pn := pn) T hz hf) (by rfl) Z.b_isinstance (by decide +kernel) (pa_cons (pv 1) (pa_cons (pe_glob (v := .ref (A "Broken")) (by rfl) (T.g "Broken" (by decide)) rfl) pa_nil)))) (pss_one ps_never) pss_nil)
      (pss_cons (ps_if (pt_val (pe_callB (call_isX (X := (cxOf C8.CX0 X.prog X.w X.K X.mg X.base ["_law_call", "e", "_law_kinds"] "_law_asked" (defScope sAsked) g cdg X.A X.stack s H C8.E0).nox) (a := a) (pn := pn) T hz hf) (by rfl) Z.b_isinstance (by decide +kernel) (pa_cons (pv 1) (pa_cons (pe_glob (v := .ref (A "ReadError")) (by rfl) (T.g "ReadError" (by decide)) rfl) pa_nil)))) (pss_one ps_never) pss_nil)
      (pss_cons (ps_if (PW.pt (pw_or (pt_cmpR op_ne (pe_callB (show CallR (Cx.suite (cxOf C8.CX0 X.prog X.w X.K X.mg X.base ["_law_call", "e", "_law_kinds"] "_law_asked" (defScope sAsked) g cdg X.A X.stack s H C8.E0).nox a ((a, oe) :: pn)) (.builtin "len") (rLenA X.K) from call_lenA) (by rfl) Z.b_len PySem.boot_len (pa_cons (pv 2) pa_nil)) pe_int (nomark _)) (pw_or1 (pt_not (pt_val (pe_callB (call_isX (X := (cxOf C8.CX0 X.prog X.w X.K X.mg X.base ["_law_call", "e", "_law_kinds"] "_law_asked" (defScope sAsked) g cdg X.A X.stack s H C8.E0).nox) (a := a) (pn := pn) T hz hf) (by rfl) Z.b_isinstance (by decide +kernel) (pa_cons (pv 1) (pa_cons (pe_bltn (v := .ty "ValueError") (by rfl) T.b_VE (by decide +kernel) rfl) pa_nil)))))))) (pss_one ps_never) pss_nil)
      (pss_one (ps_ret (pe_ix (show IxR (Cx.suite (cxOf C8.CX0 X.prog X.w X.K X.mg X.base ["_law_call", "e", "_law_kinds"] "_law_asked" (defScope sAsked) g cdg X.A X.stack s H C8.E0).nox a ((a, oe) :: pn)) (rIxA X.K) from ix_any) (pv 2) pe_int (fun _ _ => rfl))))))))))))))))))), ?_⟩
  · refine ⟨fun pins s' σ H' D I h' => ?_⟩
    obtain ⟨Ech, hW, h2⟩ := h'
    exact (pss_one (ps_ret (pe_tp (pa_cons pe_str (pa_cons (act _ pn xe Ech _ _ (takes_len tk) (fun cls d σ' H' e l => hW cls d σ' H' e l)) pa_nil))))).run pins s' σ H' D I h2
  · refine ⟨fun cls d H' => cls = .ref C ∧ ∃ dd y, d = some dd ∧ H' dd = some (.xd [("what", y)]) ∧ ∀ p H'', Same H' H'' → ob X.K H'' p = some (.tup [.str "BadValue", y]) → Q (.ref p) H'', fun cls d σ' H' e l => ?_, rfl, hc, h⟩
    obtain ⟨rfl, dd, y, rfl, hd, k⟩ := e
    obtain ⟨x0, x1, x2, rfl⟩ : ∃ x0 x1 x2, σ' = [x0, x1, x2] := by
      match σ', l with
      | [x0, x1, x2], _ => exact ⟨x0, x1, x2, rfl⟩
    refine ⟨true, T.exm, fun _ a ha => ?_, fun z => nomatch z⟩
    refine ⟨Nat.zero_le _, fun l hl kl => ?_⟩
    have nl : dd ≠ l := ne_of_none hd hl
    have hd1 : upd H' l (.lst []) dd = some (.xd [("what", y)]) := by rw [upd_ne nl]; exact hd
    refine ⟨_, rfl, .ref (A "BadValue"), rfl, rfl, dd, rfl, ⟨_, hd1⟩, true, (T.k "BadValue" (by decide)).trans rfl, true, rfl, iteT ?_⟩
    refine ⟨_, rfl, .inl ⟨rfl, _, .of upd_same⟩, _, rfl, rfl, rfl, dd, _, y, rfl, hd1, rfl, by rw [sizeLine_eq]; show 2 ≤ 16777216; decide, fun p hp kp => ?_⟩
    have npl : p ≠ l := by rintro rfl; rw [upd_same] at hp; cases hp
    have npd : dd ≠ p := ne_of_none hd1 hp
    refine ⟨l, [], .ref p, rfl, rfl, by rw [upd_ne (Ne.symm npl), upd_same], by rw [sizeLine_eq]; decide, ?_⟩
    have hp0 : H' p = none := by rw [upd_ne npl] at hp; exact hp
    have hd3 : upd (upd (upd H' l (.lst [])) p (.tup [.str "BadValue", y])) l (.lst ([] ++ [.ref p])) dd = some (.xd [("what", y)]) := by rw [upd_ne nl, upd_ne npd]; exact hd1
    have s3 : Same H' (upd (upd (upd H' l (.lst [])) p (.tup [.str "BadValue", y])) l (.lst ([] ++ [.ref p]))) := fun b o e => by
      rw [upd_ne (ne_of_none e hl), upd_ne (ne_of_none e hp0), upd_ne (ne_of_none e hl)]
      exact e
    have ol : ob X.K (upd (upd (upd H' l (.lst [])) p (.tup [.str "BadValue", y])) l (.lst ([] ++ [.ref p]))) l = some (.lst [.ref p]) := ob_new kl
    have op : ob X.K (upd (upd (upd H' l (.lst [])) p (.tup [.str "BadValue", y])) l (.lst ([] ++ [.ref p]))) p = some (.tup [.str "BadValue", y]) := by rw [ob_none kp, upd_ne npl, upd_same]
    generalize upd (upd (upd H' l (.lst [])) p (.tup [.str "BadValue", y])) l (.lst ([] ++ [.ref p])) = H3 at hd3 s3 ol op ⊢
    refine ⟨_, rfl, .ref (A "Mismatch"), rfl, rfl, dd, rfl, ⟨_, hd3⟩, false, (T.k "Mismatch" (by decide)).trans rfl, false, rfl, iteF ?_⟩
    refine ⟨_, rfl, .ref (A "Still"), rfl, rfl, dd, rfl, ⟨_, hd3⟩, false, (T.k "Still" (by decide)).trans rfl, false, rfl, iteF ?_⟩
    refine ⟨_, rfl, .ref (A "Endless"), rfl, rfl, dd, rfl, ⟨_, hd3⟩, false, (T.k "Endless" (by decide)).trans rfl, false, rfl, iteF ?_⟩
    refine ⟨_, rfl, .ref (A "TooMany"), rfl, rfl, dd, rfl, ⟨_, hd3⟩, false, (T.k "TooMany" (by decide)).trans rfl, false, rfl, iteF ?_⟩
    refine ⟨_, rfl, .ref (A "NoName"), rfl, rfl, dd, rfl, ⟨_, hd3⟩, false, (T.k "NoName" (by decide)).trans rfl, false, rfl, iteF ?_⟩
    refine ⟨_, rfl, .ref (A "Taken"), rfl, rfl, dd, rfl, ⟨_, hd3⟩, false, (T.k "Taken" (by decide)).trans rfl, false, rfl, iteF ?_⟩
    refine ⟨_, rfl, .ref (A "Locked"), rfl, rfl, dd, rfl, ⟨_, hd3⟩, false, (T.k "Locked" (by decide)).trans rfl, false, rfl, iteF ?_⟩
    refine ⟨_, rfl, .ref (A "Looped"), rfl, rfl, dd, rfl, ⟨_, hd3⟩, false, (T.k "Looped" (by decide)).trans rfl, false, rfl, iteF ?_⟩
    refine ⟨_, rfl, .ref (A "Broken"), rfl, rfl, dd, rfl, ⟨_, hd3⟩, false, (T.k "Broken" (by decide)).trans rfl, false, rfl, iteF ?_⟩
    refine ⟨_, rfl, .ref (A "ReadError"), rfl, rfl, dd, rfl, ⟨_, hd3⟩, false, (T.k "ReadError" (by decide)).trans rfl, false, rfl, iteF ?_⟩
    refine ⟨_, rfl, l, rfl, _, (by rw [ol]; rfl), rfl, false, rfl, iteF ?_⟩
    refine ⟨_, rfl, .ty "ValueError", rfl, rfl, dd, rfl, ⟨_, hd3⟩, true, T.ve, true, rfl, iteF ?_⟩
    exact ⟨_, rfl, l, 0, rfl, rfl, [.ref p], (by rw [ol]; rfl), .ref p, rfl, k p H3 s3 op⟩
end My

namespace My
open PySem PySem.Spec PyProof.Rows L2
section
variable {P : Program} {w : World} {K : PySem.W.Frag} {mg : Str → Option Value} {base : Heap}
def BadTb (K : PySem.W.Frag) (H : Hp) (v : V) : Prop := (∃ t, tyN K H v = some t ∧ t ≠ "list") ∨ ∃ (a : Addr) (xs : List V), v = .ref a ∧ ob K H a = some (.lst xs) ∧ ((xs.length = 0 ∨ 60 < xs.length) ∨ (1 ≤ xs.length ∧ xs.length ≤ 60 ∧ (∀ x ∈ xs, (tyN K H x).isSome) ∧ ∃ x ∈ xs, wholeV x = false))
theorem ap_tbB {H : Hp} {Q : VK} {v : V} (hb : BadTb K H v) (k : ∀ H', Same H H' → Q (.bl false) H') : TbA K H v Q := by
  rcases hb with ⟨t, ht, nt⟩ | ⟨a, xs, rfl, o, hx⟩
  · exact .inl ⟨t, ht, nt, k H (Same.refl H)⟩
  · refine .inr ⟨a, xs, rfl, o, ?_⟩
    rcases hx with hx | ⟨l1, l2, ty, x, hx, nf⟩
    · exact .inl ⟨hx, k H (Same.refl H)⟩
    · refine .inr ⟨l1, l2, ty, fun H' s => ?_⟩
      rw [show xs.all wholeV = false from List.all_eq_false.mpr ⟨x, hx, by rw [nf]; exact Bool.noConfusion⟩]
      exact k H' s
def spTX (K : PySem.W.Frag) (C : Addr) : Sp := fun vs H _ E => ∃ v, vs = [v] ∧ BadTb K H v ∧ Bv K C H E (.str "values")
theorem kx_Dif {C : Addr} (B : BvT K mg C) (D : Dfn K mg "differences" sDif ["values"]) (d_x : KnX P w K mg base 3 "require" ["well_formed", "what"] (spRequireX K C)) (d_is_table : Kn P w K mg base 2 "is_table" ["value"] (spTb K)) : KnX P w K mg base 4 "differences" ["values"] (spTX K C) := by
  refine KnX.mk' D scDif (fun vs H Q E h => ?_) (fun f cdv A outer s H vs Q E hr h => ?_)
  · obtain ⟨v, rfl, _⟩ := h
    rfl
  obtain ⟨v, rfl, hb, k⟩ := h
  refine ⟨_, (pss_cons (ps_expr (pe_knX E d_x hr (by rfl) (takes_of rfl rfl rfl rfl) (fun _ _ _ _ h => h) (pa_cons (pe_kn d_is_table hr (by rfl) (pa_cons (pv 0) pa_nil)) (pa_cons pe_str pa_nil)))) (pss_one ps_never)), ?_⟩
  exact ⟨_, rfl, _, rfl, ap_tbB hb fun H1 s1 => ⟨_, rfl, fun d H' s2 hd => k d H' (s1.trans s2) hd⟩⟩
theorem kx_Deg {C : Addr} (B : BvT K mg C) (D : Dfn K mg "degree_of" sDeg ["values"]) (d_x : KnX P w K mg base 3 "require" ["well_formed", "what"] (spRequireX K C)) (d_is_table : Kn P w K mg base 2 "is_table" ["value"] (spTb K)) : KnX P w K mg base 4 "degree_of" ["values"] (spTX K C) := by
  refine KnX.mk' D scDeg (fun vs H Q E h => ?_) (fun f cdv A outer s H vs Q E hr h => ?_)
  · obtain ⟨v, rfl, _⟩ := h
    rfl
  obtain ⟨v, rfl, hb, k⟩ := h
  refine ⟨_, (pss_cons (ps_expr (pe_knX E d_x hr (by rfl) (takes_of rfl rfl rfl rfl) (fun _ _ _ _ h => h) (pa_cons (pe_kn d_is_table hr (by rfl) (pa_cons (pv 0) pa_nil)) (pa_cons pe_str pa_nil)))) (pss_one ps_never)), ?_⟩
  exact ⟨_, rfl, _, rfl, ap_tbB hb fun H1 s1 => ⟨_, rfl, fun d H' s2 hd => k d H' (s1.trans s2) hd⟩⟩
end
end My

namespace My
open PySem PySem.Spec PyProof.Rows L2
section
variable {P : Program} {w : World} {K : PySem.W.Frag} {mg : Str → Option Value} {base : Heap}
/-! ### the tables, while the draws go on -/
theorem tabs_kp {T : List (Addr × Str)} {H H' : Hp} {s : Addr} {ys : List V} (e : Kp s H H') (hs : H s = some (.lst ys)) (t : LamX.Tabs T H) : LamX.Tabs T H' := fun p hp => by
  obtain ⟨ps, h1, h2, h3⟩ := t p hp
  refine ⟨ps, e _ _ (by rintro z; rw [z, hs] at h1; cases h1) h1, h2, fun pos cv hc => ?_⟩
  obtain ⟨c, e1, e2⟩ := h3 pos cv hc
  exact ⟨c, e1, e _ _ (by rintro z; rw [z, hs] at e2; unfold LamX.CodeO at e2; cases e2) e2⟩
theorem tabs_same {T : List (Addr × Str)} {H H' : Hp} (e : Same H H') (t : LamX.Tabs T H) : LamX.Tabs T H' := t.ext e
/-- all but the store and the tables stands -/
def Bg (s : Addr) (H H' : Hp) : Prop := ∀ b o, b ≠ s → (∀ ps, o ≠ .tbl ps) → H b = some o → H' b = some o
theorem Bg.refl (s : Addr) (H : Hp) : Bg s H H := fun _ _ _ _ h => h
theorem Bg.trans {s : Addr} {H H1 H2 : Hp} (a : Bg s H H1) (b : Bg s H1 H2) : Bg s H H2 := fun c o n m h => b c o n m (a c o n m h)
theorem Bg.kp {s : Addr} {H H1 : Hp} (a : Kp s H H1) : Bg s H H1 := fun c o n _ h => a c o n h
theorem Bg.same {s : Addr} {H H1 : Hp} (a : Same H H1) : Bg s H H1 := fun c o _ _ h => a c o h
theorem Bg.ext {s : Addr} {H H1 : Hp} (a : LamX.ExtN H H1) : Bg s H H1 := fun c o _ m h => a c o h m
theorem ob_bg {H H' : Hp} {s a : Addr} {ys xs : List V} (e : Bg s H H') (hs : H s = some (.lst ys)) (h : ob K H a = some (.tup xs)) : ob K H' a = some (.tup xs) := by
  unfold ob at h ⊢
  split
  · rename_i o q
    rw [q] at h
    exact h
  · rename_i q
    rw [q] at h
    exact e _ _ (by rintro rfl; rw [hs] at h; cases h) (fun ps z => by cases z) h
theorem Fq.bg {H H' : Hp} {s a : Addr} {n : Nat} {ys : List V} {q : Qt} (h : Fq K H n a q) (e : Bg s H H') (hs : H s = some (.lst ys)) : Fq K H' n a q := ⟨ob_bg e hs h.o, h.nf, h.sz⟩
theorem Sto.ext {H H' : Hp} {s : Addr} (h : Sto K H s) (e : LamX.ExtN H H') : Sto K H' s := by
  obtain ⟨sc, ns, i, b, c, d, x, f, h1, h2, h3⟩ := h
  exact ⟨sc, ns, i, b, c, d, x, f, e _ _ h1 (fun ps z => by cases z), e _ _ h2 (fun ps z => by cases z), h3⟩
theorem ob_ext {H H' : Hp} {a : Addr} {z : HO} (e : LamX.ExtN H H') (n : ∀ ps, z ≠ .tbl ps) (h : ob K H a = some z) : ob K H' a = some z := by
  unfold ob at h ⊢
  split
  · rename_i o q
    rw [q] at h
    exact h
  · rename_i q
    rw [q] at h
    exact e _ _ h n
theorem tyO_ntbl {z : HO} (h : (tyO (some z)).isSome) : ∀ ps, z ≠ .tbl ps := fun ps e => by subst e; cases h
theorem tyS_ext {H H' : Hp} {v : V} (e : LamX.ExtN H H') (h : (tyN K H v).isSome) : (tyN K H' v).isSome := by
  cases v with
  | ref a =>
    cases hz : ob K H a with
    | none => rw [tyN_ref, hz] at h; cases h
    | some z =>
      rw [tyN_ref, hz] at h
      rw [tyN_ref, ob_ext e (tyO_ntbl h) hz]
      exact h
  | _ => exact h
theorem Gd.ext {H H' : Hp} {v : V} (e : LamX.ExtN H H') (h : Gd K H v) : Gd K H' v := by
  cases v with
  | ref a =>
    cases hz : ob K H a with
    | none =>
      have := h.ty.1
      rw [tyN_ref, hz] at this
      cases this
    | some z =>
      have nz : ∀ ps, z ≠ .tbl ps := tyO_ntbl (by have := h.ty.1; rw [tyN_ref, hz] at this; exact this)
      have hz' := ob_ext e nz hz
      refine ⟨⟨tyS_ext e h.ty.1, fun b xs ev o x hx => ?_⟩, ?_⟩
      · cases ev
        rw [hz'] at o
        exact tyS_ext e (h.ty.2 a xs rfl (hz.trans o) x hx)
      · have e2 : frOk K H' (.ref a) = frOk K H (.ref a) := by simp only [frOk, hz, hz']
        rw [e2]
        exact h.no
  | _ => exact ⟨⟨h.ty.1, fun _ _ e => by cases e⟩, h.no⟩
structure LawS (K : PySem.W.Frag) (T : List (Addr × Str)) (H : Hp) (s : Addr) : Prop where
  st : Sto K H s
  tb : LamX.Tabs T H
theorem LawS.same {T : List (Addr × Str)} {H H' : Hp} {s : Addr} (h : LawS K T H s) (e : Same H H') : LawS K T H' s := ⟨h.st.same e, tabs_same e h.tb⟩
theorem LawS.kp {T : List (Addr × Str)} {H H' : Hp} {s : Addr} (h : LawS K T H s) (e : Kp s H H') (st : Sto K H' s) : LawS K T H' s := by
  obtain ⟨ys, hy⟩ := h.st.at
  exact ⟨st, tabs_kp e hy h.tb⟩
end
/-! ### a captured name that holds one of the four -/
def tCallX (i : Nat) (S : Addr → Prop) (sp : Sp) (E : XK) (t : TA) : TE := fun σ H Q => ∃ f, σ[i]? = some (some (.ref f)) ∧ S f ∧ t σ H fun vs H1 => sp (vs ++ []) H1 Q E
section
variable {X : Cx}
theorem pe_callX {k i : Nat} {S : Addr → Prop} {sp : Sp} {x : Str} {p pos : Pos} {e : Expr} {es : List Expr} {t : TA} {W : WX} (E : XK) (A : ∀ f, S f → ∃ fd ps, FnOk X.prog X.w X.K X.mg X.base (L2.CX X.prog X.w) k f fd ps sp ∧ PySem.W.keepIn X.K (.ref f) = true ∧ Binds X.K fd ps []) (hr : Room k X.A) (hN : X.N[i]? = some x) (hv : Vis X.env.scope x)
    (tk : Takes X W) (hW : ∀ cls d σ H, E cls d H → W cls d σ H) (ha : PA X (e :: es) t) (hdb : (x == ("__debug__" : Str)) = false := by decide) (hcd : (x == ("__classdict__" : Str)) = false := by decide)
    (he : starEach (e :: es) X.env = (false, eval e X.env) :: starEach es X.env := by rfl) (hpl : (backTo pos (starEach es X.env)).any (·.1) = false := by rfl) : PE X (.Call (.Name x p) (e :: es) [] pos) (tCallX i S sp E t) := ⟨fun pins s σ H Q I h => by
  obtain ⟨f, hs, hS, ht⟩ := h
  obtain ⟨fd, ps, F, hk, hb⟩ := A f hS
  exact (pe_callL (i := i) (f := f) (sp := sp) (dvs := []) (E := E) F hr hN hv hk hb .nil (passes_call tk hW) ha hdb hcd he hpl).run pins s σ H Q I ⟨hs, ht⟩⟩
end
section
variable {P : Program} {w : World} {K : PySem.W.Frag} {mg : Str → Option Value} {base : Heap}
theorem tyN_ext {H H' : Hp} {v : V} {t : String} (e : LamX.ExtN H H') (h : tyN K H v = some t) : tyN K H' v = some t := by
  cases v with
  | ref a =>
    have h1 : tyO (ob K H a) = some t := h
    show tyO (ob K H' a) = some t
    cases hz : ob K H a with
    | none => rw [hz] at h1; cases h1
    | some z =>
      rw [hz] at h1
      rw [ob_ext e (fun ps ez => by rw [ez] at h1; cases h1) hz]
      exact h1
  | _ => exact h
theorem tyN_kp {H H' : Hp} {s : Addr} {v : V} {t : String} (e : Kp s H H') (n : v ≠ .ref s) (h : tyN K H v = some t) : tyN K H' v = some t := by
  cases v with
  | ref a =>
    have h1 : tyO (ob K H a) = some t := h
    show tyO (ob K H' a) = some t
    cases hz : ob K H a with
    | none => rw [hz] at h1; cases h1
    | some z =>
      rw [hz] at h1
      rw [ob_kp2 e (fun ea => n (by rw [ea])) hz]
      exact h1
  | _ => exact h
theorem Shp.ext {s : Addr} {H H' : Hp} (e : LamX.ExtN H H') : ∀ {n : Nat} {v : V}, Shp K s H n v → Shp K s H' n v
  | 0, _, h => h
  | n + 1, _, .inl h => .inl h
  | n + 1, _, .inr (.inl ⟨a, xs, h1, h2, h3, h4, h5⟩) => .inr (.inl ⟨a, xs, h1, h2, h3.imp (ob_ext e (fun ps z => by cases z)) (ob_ext e (fun ps z => by cases z)), h4, fun x hx => (h5 x hx).ext e⟩)
  | n + 1, _, .inr (.inr ⟨l, a, h1, h2, h3⟩) => .inr (.inr ⟨l, a, h1, h2, ob_ext e (fun ps z => by cases z) h3⟩)
theorem Eqv.ext {H H' : Hp} (e : LamX.ExtN H H') : ∀ {n : Nat} {v w : V}, Eqv K H n v w → Eqv K H' n v w
  | 0, _, _, h => h
  | n + 1, _, _, .inl h => .inl h
  | n + 1, _, _, .inr (.inl ⟨a, b, xs, ys, h1, h2, h3, h4, h5, h6⟩) => .inr (.inl ⟨a, b, xs, ys, h1, h2, h3.imp (fun z => ⟨ob_ext e (fun ps z => by cases z) z.1, ob_ext e (fun ps z => by cases z) z.2⟩) (fun z => ⟨ob_ext e (fun ps z => by cases z) z.1, ob_ext e (fun ps z => by cases z) z.2⟩), h4, h5, fun i x y hx hy => (h6 i x y hx hy).ext e⟩)
  | n + 1, _, _, .inr (.inr ⟨l, a, b, h1, h2, h3, h4⟩) => .inr (.inr ⟨l, a, b, h1, h2, ob_ext e (fun ps z => by cases z) h3, ob_ext e (fun ps z => by cases z) h4⟩)
theorem eqv_tup {H : Hp} {a b : Addr} {xs : List V} (oa : ob K H a = some (.tup xs)) (ob' : ob K H b = some (.tup xs)) (hs : xs.all scv = true) (hl : xs.length ≤ 1000) : Eqv K H 1 (.ref a) (.ref b) := by
  refine .inr (.inl ⟨a, b, xs, xs, rfl, rfl, .inl ⟨oa, ob'⟩, rfl, hl, fun i x y hx hy => ?_⟩)
  rw [hx] at hy
  cases hy
  exact ⟨rfl, List.all_eq_true.mp hs x (List.mem_of_getElem? hx)⟩
/-- the store grows nothing but its own number, the tables grow -/
def Bk (s : Addr) (H H' : Hp) : Prop := Bg s H H' ∧ ∀ x r, H s = some (.lst (x :: r)) → ∃ r', H' s = some (.lst (x :: r'))
theorem Bk.trans {s : Addr} {H H1 H2 : Hp} (a : Bk s H H1) (b : Bk s H1 H2) : Bk s H H2 := ⟨a.1.trans b.1, fun x r e => by
  obtain ⟨r', e'⟩ := a.2 x r e
  exact b.2 x r' e'⟩
theorem Bk.kp {s : Addr} {H H1 : Hp} (a : Kp s H H1) : Bk s H H1 := ⟨Bg.kp a, a.2⟩
theorem Bk.same {s : Addr} {H H1 : Hp} (a : Same H H1) : Bk s H H1 := Bk.kp (Kp.same a)
theorem Bk.ext {s : Addr} {H H1 : Hp} (a : LamX.ExtN H H1) : Bk s H H1 := ⟨Bg.ext a, fun x r e => ⟨r, a _ _ e (fun ps z => by cases z)⟩⟩
theorem Sto.mutB {H0 H' : Hp} {s l : Addr} {o : HO} (st0 : Sto K H0 s) (hl : H0 l = none) (kp : Bk s H0 H') (st : Sto K H' s) : Sto K (upd H' l o) s ∧ Bk s H0 (upd H' l o) := by
  obtain ⟨sc0, ns0, i0, b0, c0, d0, e0, f0, g1, g2, g3⟩ := st0
  obtain ⟨sc, ns, i, b, c, d, e, f, h1, h2, h3⟩ := st
  obtain ⟨r', hr⟩ := kp.2 _ _ g1
  rw [h1] at hr
  cases hr
  have n1 : s ≠ l := by rintro rfl; rw [g1] at hl; cases hl
  have n2 : sc0 ≠ l := by rintro rfl; rw [g2] at hl; cases hl
  refine ⟨⟨sc0, ns, i, b, c, d, e, f, by rw [upd_ne n1]; exact h1, by rw [upd_ne n2]; exact h2, h3⟩, fun b o n m e => ?_, fun x r e => ?_⟩
  · rw [upd_ne (ne_of_none e hl)]
    exact kp.1 b o n m e
  · obtain ⟨r2, hr2⟩ := kp.2 x r e
    exact ⟨r2, by rw [upd_ne n1]; exact hr2⟩
/-- no table, and not the store -/
def BadR (K : PySem.W.Frag) (s : Addr) (H : Hp) (v : V) : Prop := BadTb K H v ∧ v ≠ .ref s ∧ Shp K s H 3 v
theorem BadR.same {s : Addr} {H H' : Hp} {v : V} (h : BadR K s H v) (e : Same H H') : BadR K s H' v := by
  refine ⟨?_, h.2.1, h.2.2.same e⟩
  rcases h.1 with ⟨t, ht, nt⟩ | ⟨a, xs, rfl, o, hx⟩
  · exact .inl ⟨t, tyN_same e ht, nt⟩
  · exact .inr ⟨a, xs, rfl, ob_same e o, hx.imp id fun ⟨l1, l2, ty, x, hm, g⟩ => ⟨l1, l2, fun y hy => tyS_same e (ty y hy), x, hm, g⟩⟩
theorem BadR.ext {s : Addr} {H H' : Hp} {v : V} (h : BadR K s H v) (e : LamX.ExtN H H') : BadR K s H' v := by
  refine ⟨?_, h.2.1, h.2.2.ext e⟩
  rcases h.1 with ⟨t, ht, nt⟩ | ⟨a, xs, rfl, o, hx⟩
  · exact .inl ⟨t, tyN_ext e ht, nt⟩
  · exact .inr ⟨a, xs, rfl, ob_ext e (fun ps z => by cases z) o, hx.imp id fun ⟨l1, l2, ty, x, hm, g⟩ => ⟨l1, l2, fun y hy => tyS_ext e (ty y hy), x, hm, g⟩⟩
theorem BadR.kp {s : Addr} {H H' : Hp} {v : V} (h : BadR K s H v) (e : Kp s H H') (st : Sto K H' s) : BadR K s H' v := by
  refine ⟨?_, h.2.1, h.2.2.kp e⟩
  rcases h.1 with ⟨t, ht, nt⟩ | ⟨a, xs, rfl, o, hx⟩
  · exact .inl ⟨t, tyN_kp e h.2.1 ht, nt⟩
  · exact .inr ⟨a, xs, rfl, ob_kp2 e (fun ea => h.2.1 (by rw [ea])) o, hx.imp id fun ⟨l1, l2, ty, x, hm, g⟩ => ⟨l1, l2, fun y hy => tyS_kp e st (ty y hy), x, hm, g⟩⟩
/-- the store, the tables, the wrong ones -/
structure RV (K : PySem.W.Frag) (T : List (Addr × Str)) (s w : Addr) (ws : List V) (H : Hp) : Prop where
  ls : LawS K T H s
  hw : H w = some (.lst ws)
  bd : ∀ v ∈ ws, BadR K s H v
theorem RV.same {T : List (Addr × Str)} {H H' : Hp} {s w : Addr} {ws : List V} (h : RV K T s w ws H) (e : Same H H') : RV K T s w ws H' := ⟨h.ls.same e, e _ _ h.hw, fun v hv => (h.bd v hv).same e⟩
theorem RV.ext {T : List (Addr × Str)} {H H' : Hp} {s w : Addr} {ws : List V} (h : RV K T s w ws H) (e : LamX.ExtN H H') (t : LamX.Tabs T H') : RV K T s w ws H' := ⟨⟨h.ls.st.ext e, t⟩, e _ _ h.hw (fun ps z => by cases z), fun v hv => (h.bd v hv).ext e⟩
abbrev sRefused : Stmt := topS 46
theorem scRefused : FnScope ["_law_store_here", "_law_values", "_law_bad", "_law_kept_here", "_law_none"] ["_law_store_here", "_law_values"] (defScope sRefused) := ⟨rfl, rfl, rfl, by decide +kernel, rfl, by decide +kernel, by decide +kernel⟩
def qLam : Str := ("_law_refused" ++ ".<locals>.") ++ "<lambda>"
structure AskD (K : PySem.W.Frag) (mg : Str → Option Value) (g : Addr) (oc : Value) (od : Option Addr) (dV kV doc pm : Value) (an : Option Addr) (cdv ct : Value) (osl : Array (Option Value)) : Prop where
  m : mg "_law_asked" = some (.ref g)
  kp : PySem.W.keepIn K (.ref g) = true
  lk : K.lookup g = some ⟨oc, od, .func (PySem.W.fnOf "_law_asked" "_law_asked" (defArgs sAsked) (defBody sAsked) (defScope sAsked) dV kV doc pm an cdv ct), osl⟩
  cd : PySem.W.codeIn K cdv "_law_asked" = true
  b : Binds K (PySem.W.fnOf "_law_asked" "_law_asked" (defArgs sAsked) (defBody sAsked) (defScope sAsked) dV kV doc pm an cdv ct) ["_law_call"] []
def spRefused (K : PySem.W.Frag) (Pt : Addr) : Sp := fun vs H Q _ => ∃ (sr a : Addr) (ns : List Int), vs = [.ref sr, .ref a] ∧ LawS K [(Pt, qLam)] H sr ∧ H a = some (.lst (ns.map V.int)) ∧ K.lookup a = none ∧ a ≠ sr ∧ 1 ≤ ns.length ∧ ns.length ≤ 60 ∧ ∀ H', Bk sr H H' → LawS K [(Pt, qLam)] H' sr → Q (.bl true) H'
def OuI (K : PySem.W.Frag) (Pt sr a w b0 : Addr) (ws : List V) (H : Hp) (_ : Nat) (σ : L2.St) (H' : Hp) : Prop := ∃ (x3 x4 : Option V), σ = [some (.ref sr), some (.ref a), some (.ref b0), x3, x4] ∧ RV K [(Pt, qLam)] sr w ws H' ∧ Bk sr H H'
theorem ok_refused {CB S fa g c Pt : Addr} {A : String → Addr} {oc dV kV doc pm cdv ct oc' dV' kV' doc' pm' ct' : Value} {od an od' an' : Option Addr} {osl osl' : Array (Option Value)} (T : Bt K mg) (B : BvT K mg CB) (AT : AskT K mg CB S A) (AS : AskD K mg g oc od dV kV doc pm an cdv ct osl)
    (lkR : K.lookup fa = some ⟨oc', od', .func (PySem.W.fnOf "_law_refused" "_law_refused" (defArgs sRefused) (defBody sRefused) (defScope sRefused) dV' kV' doc' pm' an' (.ref c) ct'), osl'⟩) (cdR : PySem.W.codeIn K (.ref c) "_law_refused" = true) (TB : LamX.TabB base mg c Pt)
    (XDif : KnX P w K mg base 4 "differences" ["values"] (spTX K CB)) (XDeg : KnX P w K mg base 4 "degree_of" ["values"] (spTX K CB)) (d__law_kept : Kn1 P w K mg base 5 "_law_kept" ["_law_thing", "_law_deep"] (spK K 4) (.int 24))
    (d__law_with : Kn P w K mg base 3 "_law_with" ["_law_store_here", "_law_row", "_law_item"] (spWith K)) (d__law_bad_whole : Kn P w K mg base 4 "_law_bad_whole" ["_law_store_here"] (spBW K)) (d__law_wrong_length : Kn P w K mg base 3 "_law_wrong_length" ["_law_store_here", "_law_row", "_law_low", "_law_high"] (spWL K)) (d__law_bad_list : Kn P w K mg base 4 "_law_bad_list" ["_law_store_here", "_law_row"] (spBL K)) (d__law_same : Kn P w K mg base 6 "_law_same" ["_law_told", "_law_due"] (spSame K 5)) : FnOk P w K mg base CX0 8 fa (PySem.W.fnOf "_law_refused" "_law_refused" (defArgs sRefused) (defBody sRefused) (defScope sRefused) dV' kV' doc' pm' an' (.ref c) ct') ["_law_store_here", "_law_values"] (spRefused K Pt) := by
  refine fn_of lkR cdR scRefused (fun vs H Q E h => ?_) fun A outer s H vs Q E hr h => ?_
  · obtain ⟨sr, a, ns, rfl, _⟩ := h
    rfl
  obtain ⟨sr, a, ns, rfl, LS0, ha, ka, na, l1, l12, k⟩ := h
  refine ⟨_, PSs.nox (pss_cons (ps_set (i := 2) scRefused.nd rfl (.inl rfl) (pe_ls (pa_cons (pe_kn d__law_bad_list hr (by rfl) (pa_cons (pv 0) (pa_cons (pv 1) pa_nil))) (pa_cons (pe_kn d__law_with hr (by rfl) (pa_cons (pv 0) (pa_cons (pv 1) (pa_cons (pe_kn d__law_bad_whole hr (by rfl) (pa_cons (pv 0) pa_nil)) pa_nil)))) pa_nil))))
      (pss_cons (ps_for PassesOwn.never rfl (pi_list (pe_fr (pe_op op_cat (pv 2) (pe_ls (pa_cons (pe_kn d__law_wrong_length hr (by rfl) (pa_cons (pv 0) (pa_cons (pv 1) (pa_cons pe_int (pa_cons pe_int pa_nil))))) (pa_cons (pe_fr (pe_op op_rep (pe_ls (pa_cons pe_int pa_nil)) pe_int)) pa_nil)))))) (pg_name (i := 4) scRefused.nd rfl (.inr rfl)) (pss_cons (ps_set (i := 3) scRefused.nd rfl (.inl rfl) (pe_kn1 d__law_kept hr (by rfl) (pa_cons (pv 4) pa_nil)))
      (pss_cons (ps_if (pt_not (pt_val (pe_kn d__law_same hr (by rfl) (pa_cons (LamX.pe_lamcall (T := [(Pt, qLam)]) (TT := TAsk K CB) (t := fun E => tCall (spTX K CB) [] E (tCons (tVar 4) L2.tNil)) (by rfl) AS.m AS.kp AS.lk AS.cd AS.b scAsked rfl (.inl rfl) (asked_gives T B AT) TB rfl (List.mem_cons_self ..) (fun p hp _ => by simp only [List.mem_cons, List.not_mem_nil, or_false] at hp; subst hp; rfl) hr (LamX.lamS_by (by show LamX.lamSB (defScope sRefused) _ = true; decide +kernel)) rfl (fun _ _ _ _ _ => rfl) (fun A outer s H E f c' hr' => pe_knX E XDif hr' (by rfl) (takes_of rfl rfl rfl rfl) (fun _ _ _ _ h => h) (pa_cons (pv 4) pa_nil))) (pa_cons (pe_tp (pa_cons pe_str (pa_cons pe_str pa_nil))) pa_nil))))) (pss_one (ps_ret pe_bl)) pss_nil)
      (pss_cons (ps_if (pt_not (pt_val (pe_kn d__law_same hr (by rfl) (pa_cons (LamX.pe_lamcall (T := [(Pt, qLam)]) (TT := TAsk K CB) (t := fun E => tCall (spTX K CB) [] E (tCons (tVar 4) L2.tNil)) (by rfl) AS.m AS.kp AS.lk AS.cd AS.b scAsked rfl (.inl rfl) (asked_gives T B AT) TB rfl (List.mem_cons_self ..) (fun p hp _ => by simp only [List.mem_cons, List.not_mem_nil, or_false] at hp; subst hp; rfl) hr (LamX.lamS_by (by show LamX.lamSB (defScope sRefused) _ = true; decide +kernel)) rfl (fun _ _ _ _ _ => rfl) (fun A outer s H E f c' hr' => pe_knX E XDeg hr' (by rfl) (takes_of rfl rfl rfl rfl) (fun _ _ _ _ h => h) (pa_cons (pv 4) pa_nil))) (pa_cons (pe_tp (pa_cons pe_str (pa_cons pe_str pa_nil))) pa_nil))))) (pss_one (ps_ret pe_bl)) pss_nil)
      (pss_one (ps_if (pt_not (pt_val (pe_kn d__law_same hr (by rfl) (pa_cons (pv 4) (pa_cons (pv 3) pa_nil))))) (pss_one (ps_ret pe_bl)) pss_nil))))))
      (pss_one (ps_ret pe_bl)))), ?_⟩
  simp only [cx_K]
  have ml : (ns.map V.int).length = ns.length := List.length_map _
  refine ⟨_, rfl, _, rfl, sr, a, ns, rfl, LS0.st, ha, by omega, fun v1 t1 H1 ht1 nt1 sh1 kp1 st1 => ?_⟩
  have ha1 := kp1 _ _ na ha
  have LS1 := LS0.kp kp1 st1
  have bg1 : Bk sr H H1 := Bk.kp kp1
  have b1 : BadR K sr H1 v1 := ⟨.inl ⟨t1, ht1, nt1⟩, fun e => by
    obtain ⟨ys4, hys4⟩ := st1.ob
    rw [e, tyN_ref, hys4] at ht1
    cases ht1
    exact nt1 rfl, sh1.up⟩
  refine ⟨_, rfl, _, rfl, _, rfl, sr, rfl, st1, fun v2 H2 ty2 w2 sh2 kp2 st2 => ?_⟩
  have ha2 := kp2 _ _ na ha1
  have LS2 := LS1.kp kp2 st2
  have bg2 := bg1.trans (Bk.kp kp2)
  have b1 := b1.kp kp2 st2
  refine ⟨sr, a, _, v2, rfl, st2, ha2, ka, na, by omega, by omega, fun c2 j H3 hj kp3 st3 hc2 fc2 kc2 => ?_⟩
  have n2 := st2.ne fc2
  have ha3 := kp3 _ _ na ha2
  have LS3 := LS2.kp kp3 st3
  have bg3 := bg2.trans (Bk.kp kp3)
  have b1 := b1.kp kp3 st3
  have b2 : BadR K sr H3 (.ref c2) := by
    have len : ((ns.map V.int).take j ++ v2 :: (ns.map V.int).drop (j + 1)).length = ns.length := by
      rw [List.length_append, List.length_cons, List.length_take, List.length_drop]
      omega
    have each : ∀ x ∈ (ns.map V.int).take j ++ v2 :: (ns.map V.int).drop (j + 1), x = v2 ∨ ∃ u : Int, x = .int u := fun x hx => by
      rcases List.mem_append.mp hx with hx | hx
      · obtain ⟨u, _, e⟩ := List.mem_map.mp (List.mem_of_mem_take hx)
        exact .inr ⟨u, e.symm⟩
      · rcases List.mem_cons.mp hx with hx | hx
        · exact .inl hx
        · obtain ⟨u, _, e⟩ := List.mem_map.mp (List.mem_of_mem_drop hx)
          exact .inr ⟨u, e.symm⟩
    have o2 := (ob_none kc2).trans hc2
    refine ⟨.inr ⟨c2, _, rfl, o2, .inr ⟨by omega, by omega, fun x hx => ?_, v2, List.mem_append_right _ List.mem_cons_self, w2⟩⟩, fun e => n2 (V.ref.inj e), .inr (.inl ⟨c2, _, rfl, n2, .inr o2, by omega, fun x hx => ?_⟩)⟩
    · rcases each x hx with rfl | ⟨u, rfl⟩
      · exact tyS_kp kp3 st3 ty2
      · rfl
    · rcases each x hx with rfl | ⟨u, rfl⟩
      · exact sh2.kp kp3
      · exact .inl rfl
  clear kp1 kp2 kp3 st1 st2 LS0 LS1 LS2 ha ha1 ha2 bg1 bg2 ht1 sh1 ty2 w2 sh2 hc2 fc2 kc2 n2
  refine ⟨sz2 (by show 2 ≤ 100; decide), fun b0 hb0 kb0 => ?_⟩
  have s4 := Same.new hb0 (.lst [v1, .ref c2])
  have hb4 : upd H3 b0 (.lst [v1, .ref c2]) b0 = some (.lst [v1, .ref c2]) := upd_same
  have LS4 := LS3.same s4
  have b1 := b1.same s4
  have b2 := b2.same s4
  have ha4 := s4 _ _ ha3
  have bg4 := bg3.trans (Bk.same s4)
  have nb0 := st3.ne hb0
  generalize upd H3 b0 (.lst [v1, .ref c2]) = H4 at hb4 LS4 b1 b2 ha4 bg4 ⊢
  clear s4 LS3 ha3 bg3 st3 hb0
  refine ⟨_, rfl, _, rfl, _, rfl, sr, a, ns, rfl, LS4.st, ha4, ka, na, l1, l12, fun c3 zs H5 hz zl fc3 kc3 hc3 kp5 st5 => ?_⟩
  have n3 := LS4.st.ne fc3
  have LS5 := LS4.kp kp5 st5
  have hb5 := kp5 _ _ nb0 hb4
  have b1 := b1.kp kp5 st5
  have b2 := b2.kp kp5 st5
  have ha5 := kp5 _ _ na ha4
  have bg5 := bg4.trans (Bk.kp kp5)
  have o3 := (ob_none kc3).trans hc3
  have b3 : BadR K sr H5 (.ref c3) := ⟨.inr ⟨c3, _, rfl, o3, .inl (by rw [List.length_map]; exact hz)⟩, fun e => n3 (V.ref.inj e), shp_ints 2 o3 n3 (by omega)⟩
  clear kp5 LS4 ha4 bg4 hb4 hc3 fc3 kc3 n3 o3
  refine ⟨sz2 (by show 1 ≤ 100; decide), fun e0 he0 ke0 => ⟨e0, 61, _, rfl, rfl, upd_same, by omega, by omega, by show 61 ≤ sizeLine; exact sz2 (by decide), fun c4 hc4 fr4 => ?_⟩⟩
  have s6 := (Same.new he0 (.lst [V.int 0])).trans (Same.new hc4 (.lst (List.replicate (61 : Int).toNat [V.int 0]).flatten))
  have n4 : c4 ≠ sr := (st5.same (Same.new he0 _)).ne hc4
  have o4 := (ob_none (fr4 c4 (by rw [upd_same]; simp))).trans (upd_same (H := upd H5 e0 (.lst [V.int 0])) (a := c4) (o := .lst (List.replicate (61 : Int).toNat [V.int 0]).flatten))
  rw [show (List.replicate (61 : Int).toNat [V.int 0]).flatten = (List.replicate 61 (0 : Int)).map V.int from rfl] at s6 o4 ⊢
  have LS6 := LS5.same s6
  have hb6 := s6 _ _ hb5
  have b1 := b1.same s6
  have b2 := b2.same s6
  have b3 := b3.same s6
  have bg6 := bg5.trans (Bk.same s6)
  have b4 : BadR K sr _ (.ref c4) := ⟨.inr ⟨c4, _, rfl, o4, .inl (.inr (by rw [List.length_map, List.length_replicate]; decide))⟩, fun e => n4 (V.ref.inj e), shp_ints 2 o4 n4 (by rw [List.length_replicate]; decide)⟩
  generalize upd (upd H5 e0 (.lst [V.int 0])) c4 (.lst ((List.replicate 61 (0 : Int)).map V.int)) = H6 at LS6 hb6 b1 b2 b3 bg6 b4 ⊢
  clear s6 o4 fr4 he0 hc4 LS5 hb5 bg5 ha5 st5
  refine ⟨sz2 (by show 2 ≤ 100; decide), fun m hm km => ?_⟩
  have s7 := Same.new hm (.lst [.ref c3, .ref c4])
  have hm7 : upd H6 m (.lst [.ref c3, .ref c4]) m = some (.lst [.ref c3, .ref c4]) := upd_same
  have LS7 := LS6.same s7
  have hb7 := s7 _ _ hb6
  have b1 := b1.same s7
  have b2 := b2.same s7
  have b3 := b3.same s7
  have b4 := b4.same s7
  have bg7 := bg6.trans (Bk.same s7)
  generalize upd H6 m (.lst [.ref c3, .ref c4]) = H7 at hm7 LS7 hb7 b1 b2 b3 b4 bg7 ⊢
  clear s7 hm LS6 hb6 bg6
  refine ⟨b0, m, _, _, rfl, rfl, hb7, hm7, sz2 (by show 4 ≤ 100; decide), fun w hw fr => ?_⟩
  have s8 := Same.new hw (.lst ([v1, .ref c2] ++ [.ref c3, .ref c4]))
  have nw := LS7.st.ne hw
  have R8 : RV K [(Pt, qLam)] sr w ([v1, .ref c2] ++ [.ref c3, .ref c4]) (upd H7 w (.lst ([v1, .ref c2] ++ [.ref c3, .ref c4]))) := ⟨LS7.same s8, upd_same, fun v hv => by
    simp only [List.cons_append, List.nil_append, List.mem_cons, List.not_mem_nil, or_false] at hv
    rcases hv with rfl | rfl | rfl | rfl
    · exact b1.same s8
    · exact b2.same s8
    · exact b3.same s8
    · exact b4.same s8⟩
  have bg8 := bg7.trans (Bk.same s8)
  generalize [v1, V.ref c2] ++ [V.ref c3, V.ref c4] = ws at R8 bg8 ⊢
  generalize upd H7 w (.lst ws) = H8 at R8 bg8 ⊢
  clear s8 hw b1 b2 b3 b4 LS7 hb7 bg7 hm7 fr
  refine ⟨w, rfl, ⟨_, .of R8.hw⟩, forI_list (xs := ws) (OuI K Pt sr a w b0 ws H) ⟨none, none, rfl, R8, bg8⟩ (fun i σ H' _ h => ?_) ?_ ?_⟩
  · obtain ⟨x3, x4, rfl, R, _⟩ := h
    exact .of R.hw
  · rintro i row σ H1 hi ⟨x3, x4, rfl, R0, bg0⟩
    have hrow := List.mem_of_getElem? hi
    refine ⟨_, rfl, sr, row, 24, rfl, (R0.bd row hrow).2.2, by decide, fun w' H2 s2 cw => ?_⟩
    have q1 := cw.eqv s2
    have R1 := R0.same s2
    have bg1 := bg0.trans (Bk.same s2)
    clear cw s2 R0 bg0
    refine ⟨R1.ls.tb, fun Ha ea ta => ?_⟩
    have Ra := R1.ext ea ta
    have bga := bg1.trans (Bk.ext ea)
    have qa := q1.ext ea
    refine ⟨_, rfl, row, rfl, (Ra.bd row hrow).1, fun d Hb sb hb => ⟨rfl, d, _, rfl, hb, fun c2 Hc sc oc => ?_⟩⟩
    refine ⟨sz2 (by show 2 ≤ 100; decide), fun p hp kp => ?_⟩
    have sd := Same.new hp (.tup [.str "BadValue", .str "values"])
    refine ⟨_, _, rfl, (eqv_tup (ob_same sd oc) (ob_new kp) rfl (by show 2 ≤ 1000; omega)).up.up.up, fun He se => ⟨true, rfl, if_no rfl ?_⟩⟩
    have sY := (sb.trans sc).trans (sd.trans se)
    have R2 := Ra.same sY
    have bg2 := bga.trans (Bk.same sY)
    have q2 := qa.same sY
    clear R1 bg1 q1 Ra bga qa sb hb sc oc sd se sY hp kp ea ta
    refine ⟨R2.ls.tb, fun Ha ea ta => ?_⟩
    have Ra := R2.ext ea ta
    have bga := bg2.trans (Bk.ext ea)
    have qa := q2.ext ea
    refine ⟨_, rfl, row, rfl, (Ra.bd row hrow).1, fun d Hb sb hb => ⟨rfl, d, _, rfl, hb, fun c2 Hc sc oc => ?_⟩⟩
    refine ⟨sz2 (by show 2 ≤ 100; decide), fun p hp kp => ?_⟩
    have sd := Same.new hp (.tup [.str "BadValue", .str "values"])
    refine ⟨_, _, rfl, (eqv_tup (ob_same sd oc) (ob_new kp) rfl (by show 2 ≤ 1000; omega)).up.up.up, fun He se => ⟨true, rfl, if_no rfl ?_⟩⟩
    have sY := (sb.trans sc).trans (sd.trans se)
    have R3 := Ra.same sY
    have bg3 := bga.trans (Bk.same sY)
    have q3 := qa.same sY
    clear R2 bg2 q2 Ra bga qa sb hb sc oc sd se sY hp kp ea ta
    refine ⟨_, rfl, _, rfl, _, _, rfl, q3.up, fun H9 s9 => ⟨true, rfl, if_no rfl ?_⟩⟩
    exact ⟨_, _, rfl, R3.same s9, bg3.trans (Bk.same s9)⟩
  · rintro σ H9 ⟨x3, x4, rfl, R9, bg9⟩
    exact k H9 bg9 R9.ls
end
end My

namespace My
open PySem PySem.Spec PyProof.Rows L2
section
variable {P : Program} {w : World} {K : PySem.W.Frag} {mg : Str → Option Value} {base : Heap}
theorem setI_int {ms : List Int} {r z : Int} (r0 : 0 ≤ r) (h : r < (ms.length : Int)) : ∃ ys : List Int, setI (ms.map V.int) r (.int z) = some (ys.map V.int) ∧ ys.length = ms.length := by
  refine ⟨ms.set r.toNat z, ?_, by rw [List.length_set]⟩
  have e := setI_nat (xs := ms.map V.int) (j := r.toNat) (v := .int z) (ys := (ms.map V.int).set r.toNat (.int z)) (by rw [List.length_map]; omega) rfl
  rw [show r = ((r.toNat : Nat) : Int) by omega, e, List.map_set, Int.toNat_natCast]
/-- a table -/
structure Tbl (K : PySem.W.Frag) (s : Addr) (H : Hp) (l : Addr) (ns : List Int) : Prop where
  hl : H l = some (.lst (ns.map V.int))
  kl : K.lookup l = none
  nl : l ≠ s
theorem Tbl.bg {H H' : Hp} {s l : Addr} {ns : List Int} (h : Tbl K s H l ns) (e : Bk s H H') : Tbl K s H' l ns := ⟨e.1 _ _ h.nl (fun ps z => by cases z) h.hl, h.kl, h.nl⟩
def spLaw (K : PySem.W.Frag) (Pt : Addr) : Sp := fun vs H Q _ => ∃ (a : Addr) (ns : List Int), vs = [.ref a] ∧ SqL K H a (ns.map V.int) ∧ H Pt = some (.tbl #[]) ∧ ∀ H', Q (.bl true) H'
abbrev sLaw : Stmt := topS 47
theorem scLaw : FnScope ["_law_script", "_law_store_here", "_law_first", "_law_second", "_law_rows", "_law_spot"] ["_law_script"] (defScope sLaw) := ⟨rfl, rfl, rfl, by decide +kernel, rfl, by decide +kernel, by decide +kernel⟩
theorem ok_law {fa Pt : Addr} {fd : FuncData} (F : Fun K "law" "law" sLaw fa fd) (T : Bt K mg) (d__law_store : Kn P w K mg base 1 "_law_store" ["_law_script"] (spStore K)) (d__law_any_table : Kn P w K mg base 6 "_law_any_table" ["_law_store_here"] (spTab K)) (d__law_table_right : Kn P w K mg base 8 "_law_table_right" ["_law_store_here", "_law_values"] (spTr K)) (d__law_refused : Kn P w K mg base 8 "_law_refused" ["_law_store_here", "_law_values"] (spRefused K Pt)) (d__law_walk : Kn P w K mg base 6 "_law_walk" ["_law_values", "_law_told"] (spWk K)) (d_differences : Kn P w K mg base 3 "differences" ["values"] (spDfP K)) (d__law_take : Kn P w K mg base 2 "_law_take" ["_law_store_here", "_law_many"] (spTake K)) (d__law_pick : Kn P w K mg base 3 "_law_pick" ["_law_store_here", "_law_row"] (spPick K)) : FnOk P w K mg base CX0 9 fa fd ["_law_script"] (spLaw K Pt) := by
  refine F.ok scLaw (fun vs H Q E h => ?_) (fun cdv A outer s H vs Q E hr h => ?_)
  · obtain ⟨sa, ns, rfl, _⟩ := h
    rfl
  obtain ⟨sa, ns, rfl, hsa, hP, q⟩ := h
  refine ⟨_, (pss_cons (ps_set (i := 1) scLaw.nd rfl (.inl rfl) (pe_kn d__law_store hr (by rfl) (pa_cons (pv 0) pa_nil)))
      (pss_cons (ps_set (i := 2) scLaw.nd rfl (.inl rfl) (pe_ix ix_any (pe_kn d__law_any_table hr (by rfl) (pa_cons (pv 1) pa_nil)) pe_int (fun _ _ => rfl)))
      (pss_cons (ps_set (i := 3) scLaw.nd rfl (.inl rfl) (pe_ix ix_any (pe_kn d__law_any_table hr (by rfl) (pa_cons (pv 1) pa_nil)) pe_int (fun _ _ => rfl)))
      (pss_cons (ps_set (i := 4) scLaw.nd rfl (.inl rfl) (pe_fr (pe_callTy call_list_of (by rfl) T.b_list (by decide +kernel) (pa_cons (pv 2) pa_nil))))
      (pss_cons (ps_if (PW.pt (pw_or (pt_not (pt_val (pe_kn d__law_table_right hr (by rfl) (pa_cons (pv 1) (pa_cons (pv 4) pa_nil))))) (pw_or1 (pt_not (pt_val (pe_kn d__law_table_right hr (by rfl) (pa_cons (pv 1) (pa_cons (pv 3) pa_nil)))))))) (pss_one (ps_ret pe_bl)) pss_nil)
      (pss_cons (ps_if (PW.pt (pw_or (pt_not (pt_val (pe_kn d__law_refused hr (by rfl) (pa_cons (pv 1) (pa_cons (pv 3) pa_nil))))) (pw_or1 (pt_not (pt_val (pe_kn d__law_walk hr (by rfl) (pa_cons (pv 2) (pa_cons (pe_kn d_differences hr (by rfl) (pa_cons (pv 4) pa_nil)) pa_nil)))))))) (pss_one (ps_ret pe_bl)) pss_nil)
      (pss_cons (ps_set (i := 5) scLaw.nd rfl (.inl rfl) (pe_kn d__law_take hr (by rfl) (pa_cons (pv 1) (pa_cons (pe_callB call_lenA (by rfl) T.b_len PySem.boot_len (pa_cons (pv 4) pa_nil)) pa_nil))))
      (pss_cons (ps_asg (pe_op op_add (pe_op op_fdiv (pe_ix ix_any (pv 4) (pv 5) (fun _ _ => rfl)) pe_int) (pe_kn d__law_pick hr (by rfl) (pa_cons (pv 1) (pa_cons (pe_ls (pa_cons pe_int (pa_cons pe_int (pa_cons (pe_un un_neg pe_int) (pa_cons pe_int pa_nil))))) pa_nil)))) (pg_sub (pv 4) (pv 5) set_any))
      (pss_cons (ps_if (pt_not (pt_val (pe_kn d__law_table_right hr (by rfl) (pa_cons (pv 1) (pa_cons (pv 4) pa_nil))))) (pss_one (ps_ret pe_bl)) pss_nil)
      (pss_cons (ps_expr (pe_bm0 PySem.F.plainAttrs_list PySem.F.slot_list_pop PySem.F.type_list_pop mt_pop (pv 4)))
      (pss_one (ps_ret (pe_or (pe_notT (pv 4)) (pe_one (pe_kn d__law_table_right hr (by rfl) (pa_cons (pv 1) (pa_cons (pv 4) pa_nil))))))))))))))))), ?_⟩
  have TBL : ∀ H1, Same H H1 → LamX.Tabs [(Pt, qLam)] H1 := fun H1 s1 p hp => by
    simp only [List.mem_cons, List.not_mem_nil, or_false] at hp
    subst hp
    exact LamX.TabS.nil (s1 _ _ hP)
  simp only [cx_K]
  refine ⟨_, rfl, sa, ns, rfl, hsa, fun s H1 s1 st1 => ?_⟩
  have LS1 : LawS K [(Pt, qLam)] H1 s := LawS.mk st1 (TBL H1 s1)
  refine ⟨_, rfl, s, rfl, st1, fun c1 l1 n1 d1 H2 oc1 a1 b1 _ _ f1 k1 h1 kp2 st2 => ⟨c1, 0, rfl, rfl, _, itsO_of oc1, _, atI_0 _ _, ?_⟩⟩
  have V1 : Tbl K s H2 l1 n1 := ⟨h1, k1, st1.ne f1⟩
  refine ⟨_, rfl, s, rfl, st2, fun c2 l2 n2 d2 H3 oc2 a2 b2 _ _ f2 k2 h2 kp3 st3 => ⟨c2, 0, rfl, rfl, _, itsO_of oc2, _, atI_0 _ _, ?_⟩⟩
  have V2 : Tbl K s H3 l2 n2 := ⟨h2, k2, st2.ne f2⟩
  have V1 := V1.bg (Bk.kp kp3)
  have kp13 := kp2.trans kp3
  have LS3 := LS1.kp kp13 st3
  refine ⟨_, rfl, l1, _, rfl, .inl (.of V1.hl), fun l3 hl3 fr3 => ?_⟩
  have s4 := Same.new hl3 (.lst (n1.map V.int))
  have V3 : Tbl K s (upd H3 l3 (.lst (n1.map V.int))) l3 n1 := ⟨upd_same, fr3 l3 (by rw [upd_same]; simp), st3.ne hl3⟩
  have f3 : H1 l3 = none := kp13.free st3 hl3
  have V1 := V1.bg (Bk.same s4)
  have V2 := V2.bg (Bk.same s4)
  have LS4 := LS3.same s4
  have bk4 := (Bk.kp kp13).trans (Bk.same s4)
  generalize upd H3 l3 (.lst (n1.map V.int)) = H4 at V3 V1 V2 LS4 bk4 ⊢
  clear s4 TBL LS1 LS3 st2 st3 kp2 kp3 kp13 hsa hP s1 f1 f2 h1 h2 oc1 oc2 hl3 fr3
  refine ⟨_, rfl, _, rfl, s, l3, n1, rfl, LS4.st, V3.hl, V3.kl, V3.nl, a1, b1, fun H5 kp5 st5 => ⟨true, rfl, if_no rfl ?_⟩⟩
  have V1 := V1.bg (Bk.kp kp5)
  have V2 := V2.bg (Bk.kp kp5)
  have V3 := V3.bg (Bk.kp kp5)
  have LS5 := LS4.kp kp5 st5
  have bk5 := bk4.trans (Bk.kp kp5)
  refine ⟨_, rfl, _, rfl, s, l2, n2, rfl, LS5.st, V2.hl, V2.kl, V2.nl, a2, b2, fun H6 kp6 st6 => ⟨true, rfl, if_no rfl ?_⟩⟩
  have V1 := V1.bg (Bk.kp kp6)
  have V2 := V2.bg (Bk.kp kp6)
  have V3 := V3.bg (Bk.kp kp6)
  have LS6 := LS5.kp kp6 st6
  have bk6 := bk5.trans (Bk.kp kp6)
  clear kp5 kp6 LS4 LS5 bk4 bk5 st5 st6
  refine ⟨_, rfl, _, rfl, s, l2, n2, rfl, LS6, V2.hl, V2.kl, V2.nl, a2, b2, fun H7 bk7 LS7 => ⟨true, rfl, if_no rfl ?_⟩⟩
  have V1 := V1.bg bk7
  have V3 := V3.bg bk7
  have bk7 := bk6.trans bk7
  refine ⟨_, rfl, _, rfl, l3, n1, rfl, V3.hl, V3.kl, a1, b1, fun p xs H8 s8 hp kp hx lr => ?_⟩
  have V1 := V1.bg (Bk.same s8)
  refine ⟨l1, p, n1, _, rfl, V1.hl, V1.kl, ⟨⟨xs, hx, lr⟩, kp⟩, a1, b1, fun H9 s9 => ⟨true, rfl, if_no rfl ?_⟩⟩
  have s79 := s8.trans s9
  have V3 := V3.bg (Bk.same s79)
  have st9 := LS7.st.same s79
  have bk9 := bk7.trans (Bk.same s79)
  clear LS6 LS7 bk6 bk7 V1 V2 s8 s9 s79 hx lr
  have ml : (n1.map V.int).length = n1.length := List.length_map _
  refine ⟨_, rfl, _, rfl, l3, rfl, _, itsO_ofL ((ob_none V3.kl).trans V3.hl), s, _, rfl, st9, by omega, fun r H10 r0 r1 kp10 st10 => ?_⟩
  have r1 : r < (n1.length : Int) := by omega
  have V3 := V3.bg (Bk.kp kp10)
  have bk10 := bk9.trans (Bk.kp kp10)
  obtain ⟨z, ez⟩ := at_ints r0 r1
  have op10 := (ob_none V3.kl).trans V3.hl
  refine ⟨_, rfl, _, rfl, l3, r, rfl, rfl, _, itsO_ofL op10, _, ez, _, _, rfl, rfl, ⟨by omega, by omega⟩, _, rfl, _, rfl, sz2 (by show 4 ≤ 100; decide), fun pl hpl kpl => ?_⟩
  have s11 := Same.new hpl (.lst [V.int 0, .int 1, .int (-1), .int 100])
  refine ⟨s, pl, _, rfl, st10.same s11, upd_same, Ne.symm (st10.ne hpl), by show 0 < 4; decide, by show 4 < 1000; decide, fun x H12 hx kp12 st12 => ?_⟩
  obtain ⟨u, rfl⟩ : ∃ u : Int, x = .int u := by
    simp only [List.mem_cons, List.not_mem_nil, or_false] at hx
    rcases hx with rfl | rfl | rfl | rfl <;> exact ⟨_, rfl⟩
  have V3 := (V3.bg (Bk.same s11)).bg (Bk.kp kp12)
  have bk12 := (bk10.trans (Bk.same s11)).trans (Bk.kp kp12)
  obtain ⟨n3, es, nl3⟩ := setI_int (ms := n1) (z := z / 2 + u) r0 r1
  refine ⟨_, _, rfl, rfl, _, rfl, _, rfl, l3, r, rfl, rfl, _, V3.hl, _, es, ?_⟩
  obtain ⟨st13, bk13⟩ := Sto.mutB (o := .lst (n3.map V.int)) st1 f3 bk12 st12
  have V3' : Tbl K s (upd H12 l3 (.lst (n3.map V.int))) l3 n3 := ⟨upd_same, V3.kl, V3.nl⟩
  generalize upd H12 l3 (.lst (n3.map V.int)) = H13 at st13 bk13 V3' ⊢
  clear V3 bk12 bk10 st10 st12 kp12 s11 hx es ez op10 kp10
  refine ⟨_, rfl, _, rfl, s, l3, n3, rfl, st13, V3'.hl, V3'.kl, V3'.nl, by omega, by omega, fun H14 kp14 st14 => ⟨true, rfl, if_no rfl ?_⟩⟩
  have V3 := V3'.bg (Bk.kp kp14)
  have bk14 := bk13.trans (Bk.kp kp14)
  obtain ⟨y, ey⟩ : ∃ y, (n3.map V.int)[(n3.map V.int).length - 1]? = some y := ⟨_, List.getElem?_eq_getElem (by rw [List.length_map]; omega)⟩
  refine ⟨_, rfl, .inl ⟨rfl, _, .of V3.hl⟩, l3, _, y, rfl, rfl, V3.hl, ey, ?_⟩
  rw [show (n3.map V.int).dropLast = n3.dropLast.map V.int by simp]
  obtain ⟨st15, bk15⟩ := Sto.mutB (o := .lst (n3.dropLast.map V.int)) st1 f3 bk14 st14
  have V4 : Tbl K s (upd H14 l3 (.lst (n3.dropLast.map V.int))) l3 n3.dropLast := ⟨upd_same, V3.kl, V3.nl⟩
  generalize upd H14 l3 (.lst (n3.dropLast.map V.int)) = H15 at st15 bk15 V4 ⊢
  have dl : n3.dropLast.length = n3.length - 1 := List.length_dropLast
  generalize n3.dropLast = n4 at V4 dl ⊢
  cases n4 with
  | nil => exact ⟨_, rfl, false, .inl ⟨_, .of V4.hl, rfl⟩, _, rfl, if_yes rfl (q _)⟩
  | cons y r => exact ⟨_, rfl, true, .inl ⟨_, .of V4.hl, rfl⟩, _, rfl, if_no rfl ⟨_, rfl, _, rfl, s, l3, y :: r, rfl, st15, V4.hl, V4.kl, V4.nl, by simp, by omega, fun H16 _ _ => q H16⟩⟩

end
end My

namespace My
open PySem PySem.Spec PyProof.Rows L2
/-! ### the end: what the top has written -/
theorem dfn_mk {K : PySem.W.Frag} {h : Heap} {mg : Str → Option Value} {x : Str} {st : Stmt} {ps : List Str} {f : Addr} {oc kV doc pm cd ct : Value} {od an : Option Addr} {sl : Array (Option Value)} (X : K.In h) (G : h.Ns mainGlobals mg)
    (a : PySem.W.nsIn K mainGlobals x = some (some (.ref f))) (l : K.lookup f = some ⟨oc, od, .func (PySem.W.fnOf x x (defArgs st) (defBody st) (defScope st) .none kV doc pm an cd ct), sl⟩) (c : PySem.W.codeIn K cd x = true) (k : PySem.W.keepIn K (.ref f) = true)
    (hb : ∀ (kV doc pm : Value) (an : Option Addr) (cdv ct : Value) (us : List Value), us.length = ps.length → bindArgs (PySem.W.fnOf x x (defArgs st) (defBody st) (defScope st) .none kV doc pm an cdv ct) ⟨us, []⟩ = pure (ps.zip us)) : Dfn K mg x st ps :=
  ⟨f, _, fun_mk l c k, PySem.W.mg_of X G a, (fun_mk l c k).binds hb⟩
theorem all_mk {P : Program} {w : World} {K : PySem.W.Frag} {h : Heap} {mg : Str → Option Value} {fa : Addr} (X : K.In h) (G : h.Ns mainGlobals mg) (hfa : mg "law" = some (.ref fa)) {f0 : Addr} {oc0 kV0 dc0 pm0 cd0 ct0 : Value} {od0 an0 : Option Addr} {sl0 : Array (Option Value)} {f1 : Addr} {oc1 kV1 dc1 pm1 cd1 ct1 : Value} {od1 an1 : Option Addr} {sl1 : Array (Option Value)} {f2 : Addr} {oc2 kV2 dc2 pm2 cd2 ct2 : Value} {od2 an2 : Option Addr} {sl2 : Array (Option Value)} {f3 : Addr} {oc3 kV3 dc3 pm3 cd3 ct3 : Value} {od3 an3 : Option Addr} {sl3 : Array (Option Value)} {f4 : Addr} {oc4 kV4 dc4 pm4 cd4 ct4 : Value} {od4 an4 : Option Addr} {sl4 : Array (Option Value)} {f5 : Addr} {oc5 kV5 dc5 pm5 cd5 ct5 : Value} {od5 an5 : Option Addr} {sl5 : Array (Option Value)} {f6 : Addr} {oc6 kV6 dc6 pm6 cd6 ct6 : Value} {od6 an6 : Option Addr} {sl6 : Array (Option Value)} {f7 : Addr} {oc7 kV7 dc7 pm7 cd7 ct7 : Value} {od7 an7 : Option Addr} {sl7 : Array (Option Value)} {f8 : Addr} {oc8 kV8 dc8 pm8 cd8 ct8 : Value} {od8 an8 : Option Addr} {sl8 : Array (Option Value)} {f9 : Addr} {oc9 kV9 dc9 pm9 cd9 ct9 : Value} {od9 an9 : Option Addr} {sl9 : Array (Option Value)} {f10 : Addr} {oc10 kV10 dc10 pm10 cd10 ct10 : Value} {od10 an10 : Option Addr} {sl10 : Array (Option Value)} {f11 : Addr} {oc11 kV11 dc11 pm11 cd11 ct11 : Value} {od11 an11 : Option Addr} {sl11 : Array (Option Value)} {f12 : Addr} {oc12 kV12 dc12 pm12 cd12 ct12 : Value} {od12 an12 : Option Addr} {sl12 : Array (Option Value)} {f13 : Addr} {oc13 kV13 dc13 pm13 cd13 ct13 : Value} {od13 an13 : Option Addr} {sl13 : Array (Option Value)} {f14 : Addr} {oc14 kV14 dc14 pm14 cd14 ct14 : Value} {od14 an14 : Option Addr} {sl14 : Array (Option Value)} {f15 : Addr} {oc15 kV15 dc15 pm15 cd15 ct15 : Value} {od15 an15 : Option Addr} {sl15 : Array (Option Value)} {f16 : Addr} {oc16 kV16 dc16 pm16 cd16 ct16 : Value} {od16 an16 : Option Addr} {sl16 : Array (Option Value)} {f17 : Addr} {oc17 kV17 dc17 pm17 cd17 ct17 : Value} {od17 an17 : Option Addr} {sl17 : Array (Option Value)} {f18 : Addr} {oc18 kV18 dc18 pm18 cd18 ct18 : Value} {od18 an18 : Option Addr} {sl18 : Array (Option Value)} {f19 : Addr} {oc19 kV19 dc19 pm19 cd19 ct19 : Value} {od19 an19 : Option Addr} {sl19 : Array (Option Value)} {f20 : Addr} {oc20 kV20 dc20 pm20 cd20 ct20 : Value} {od20 an20 : Option Addr} {sl20 : Array (Option Value)} {f21 : Addr} {oc21 kV21 dc21 pm21 cd21 ct21 : Value} {od21 an21 : Option Addr} {sl21 : Array (Option Value)} {f22 : Addr} {oc22 kV22 dc22 pm22 cd22 ct22 : Value} {od22 an22 : Option Addr} {sl22 : Array (Option Value)} {f23 : Addr} {oc23 kV23 dc23 pm23 cd23 ct23 : Value} {od23 an23 : Option Addr} {sl23 : Array (Option Value)} {f24 : Addr} {oc24 kV24 dc24 pm24 cd24 ct24 : Value} {od24 an24 : Option Addr} {sl24 : Array (Option Value)} {f25 : Addr} {oc25 kV25 dc25 pm25 cd25 ct25 : Value} {od25 an25 : Option Addr} {sl25 : Array (Option Value)} {f26 : Addr} {oc26 kV26 dc26 pm26 cd26 ct26 : Value} {od26 an26 : Option Addr} {sl26 : Array (Option Value)} {fF tF : Addr} {ocF kVF dcF pmF cdF ctF ocT : Value} {odF anF odT : Option Addr} {slF slT : Array (Option Value)} {tk : Tok} {nT : Nat} {tkM : Tok} {C S fI : Addr} {nm qn : Str} {N0 : Addr} {bs bm : List Value} {sn : List Str} {sub : List Value} {ab : Bool} {col : Option Bool} {dd : Option Addr} {m0 m1 m2 m3 m5 : Option Value} {ocI kVI dcI pmI cdI ctI : Value} {odI anI : Option Addr} {slI : Array (Option Value)} {C_Mismatch : Addr} {C_Still : Addr} {C_Endless : Addr} {C_TooMany : Addr} {C_NoName : Addr} {C_Taken : Addr} {C_Locked : Addr} {C_Looped : Addr} {C_Broken : Addr} {C_ReadError : Addr} {gA : Addr} {ocA kVA dcA pmA cdA ctA : Value} {odA anA : Option Addr} {slA : Array (Option Value)} {fR cR : Addr} {ocR kVR dcR pmR ctR : Value} {odR anR : Option Addr} {slR : Array (Option Value)} {fL : Addr} {ocL kVL dcL pmL cdvL ctL : Value} {odL anL : Option Addr} {slL : Array (Option Value)}
    (a0 : PySem.W.nsIn K mainGlobals "require" = some (some (.ref f0)))
    (l0 : K.lookup f0 = some ⟨oc0, od0, .func (PySem.W.fnOf "require" "require" (defArgs sRequire) (defBody sRequire) (defScope sRequire) .none kV0 dc0 pm0 an0 cd0 ct0), sl0⟩)
    (c0 : PySem.W.codeIn K cd0 "require" = true)
    (k0 : PySem.W.keepIn K (.ref f0) = true)
    (a1 : PySem.W.nsIn K mainGlobals "is_whole" = some (some (.ref f1)))
    (l1 : K.lookup f1 = some ⟨oc1, od1, .func (PySem.W.fnOf "is_whole" "is_whole" (defArgs sWhole) (defBody sWhole) (defScope sWhole) .none kV1 dc1 pm1 an1 cd1 ct1), sl1⟩)
    (c1 : PySem.W.codeIn K cd1 "is_whole" = true)
    (k1 : PySem.W.keepIn K (.ref f1) = true)
    (a2 : PySem.W.nsIn K mainGlobals "is_list_within" = some (some (.ref f2)))
    (l2 : K.lookup f2 = some ⟨oc2, od2, .func (PySem.W.fnOf "is_list_within" "is_list_within" (defArgs sListA) (defBody sListA) (defScope sListA) .none kV2 dc2 pm2 an2 cd2 ct2), sl2⟩)
    (c2 : PySem.W.codeIn K cd2 "is_list_within" = true)
    (k2 : PySem.W.keepIn K (.ref f2) = true)
    (a3 : PySem.W.nsIn K mainGlobals "is_table" = some (some (.ref f3)))
    (l3 : K.lookup f3 = some ⟨oc3, od3, .func (PySem.W.fnOf "is_table" "is_table" (defArgs sTb) (defBody sTb) (defScope sTb) .none kV3 dc3 pm3 an3 cd3 ct3), sl3⟩)
    (c3 : PySem.W.codeIn K cd3 "is_table" = true)
    (k3 : PySem.W.keepIn K (.ref f3) = true)
    (a4 : PySem.W.nsIn K mainGlobals "_differences" = some (some (.ref f4)))
    (l4 : K.lookup f4 = some ⟨oc4, od4, .func (PySem.W.fnOf "_differences" "_differences" (defArgs sDfs) (defBody sDfs) (defScope sDfs) .none kV4 dc4 pm4 an4 cd4 ct4), sl4⟩)
    (c4 : PySem.W.codeIn K cd4 "_differences" = true)
    (k4 : PySem.W.keepIn K (.ref f4) = true)
    (a5 : PySem.W.nsIn K mainGlobals "differences" = some (some (.ref f5)))
    (l5 : K.lookup f5 = some ⟨oc5, od5, .func (PySem.W.fnOf "differences" "differences" (defArgs sDif) (defBody sDif) (defScope sDif) .none kV5 dc5 pm5 an5 cd5 ct5), sl5⟩)
    (c5 : PySem.W.codeIn K cd5 "differences" = true)
    (k5 : PySem.W.keepIn K (.ref f5) = true)
    (a6 : PySem.W.nsIn K mainGlobals "degree_of" = some (some (.ref f6)))
    (l6 : K.lookup f6 = some ⟨oc6, od6, .func (PySem.W.fnOf "degree_of" "degree_of" (defArgs sDeg) (defBody sDeg) (defScope sDeg) .none kV6 dc6 pm6 an6 cd6 ct6), sl6⟩)
    (c6 : PySem.W.codeIn K cd6 "degree_of" = true)
    (k6 : PySem.W.keepIn K (.ref f6) = true)
    (a7 : PySem.W.nsIn K mainGlobals "_law_mixed" = some (some (.ref f7)))
    (l7 : K.lookup f7 = some ⟨oc7, od7, .func (PySem.W.fnOf "_law_mixed" "_law_mixed" (defArgs sMixed) (defBody sMixed) (defScope sMixed) .none kV7 dc7 pm7 an7 cd7 ct7), sl7⟩)
    (c7 : PySem.W.codeIn K cd7 "_law_mixed" = true)
    (k7 : PySem.W.keepIn K (.ref f7) = true)
    (a8 : PySem.W.nsIn K mainGlobals "_law_store" = some (some (.ref f8)))
    (l8 : K.lookup f8 = some ⟨oc8, od8, .func (PySem.W.fnOf "_law_store" "_law_store" (defArgs sStore) (defBody sStore) (defScope sStore) .none kV8 dc8 pm8 an8 cd8 ct8), sl8⟩)
    (c8 : PySem.W.codeIn K cd8 "_law_store" = true)
    (k8 : PySem.W.keepIn K (.ref f8) = true)
    (a9 : PySem.W.nsIn K mainGlobals "_law_take" = some (some (.ref f9)))
    (l9 : K.lookup f9 = some ⟨oc9, od9, .func (PySem.W.fnOf "_law_take" "_law_take" (defArgs sTake) (defBody sTake) (defScope sTake) .none kV9 dc9 pm9 an9 cd9 ct9), sl9⟩)
    (c9 : PySem.W.codeIn K cd9 "_law_take" = true)
    (k9 : PySem.W.keepIn K (.ref f9) = true)
    (a10 : PySem.W.nsIn K mainGlobals "_law_pick" = some (some (.ref f10)))
    (l10 : K.lookup f10 = some ⟨oc10, od10, .func (PySem.W.fnOf "_law_pick" "_law_pick" (defArgs sPick) (defBody sPick) (defScope sPick) .none kV10 dc10 pm10 an10 cd10 ct10), sl10⟩)
    (c10 : PySem.W.codeIn K cd10 "_law_pick" = true)
    (k10 : PySem.W.keepIn K (.ref f10) = true)
    (a11 : PySem.W.nsIn K mainGlobals "_law_size" = some (some (.ref f11)))
    (l11 : K.lookup f11 = some ⟨oc11, od11, .func (PySem.W.fnOf "_law_size" "_law_size" (defArgs sSize) (defBody sSize) (defScope sSize) .none kV11 dc11 pm11 an11 cd11 ct11), sl11⟩)
    (c11 : PySem.W.codeIn K cd11 "_law_size" = true)
    (k11 : PySem.W.keepIn K (.ref f11) = true)
    (a12 : PySem.W.nsIn K mainGlobals "_law_is_whole" = some (some (.ref f12)))
    (l12 : K.lookup f12 = some ⟨oc12, od12, .func (PySem.W.fnOf "_law_is_whole" "_law_is_whole" (defArgs sLWhole) (defBody sLWhole) (defScope sLWhole) .none kV12 dc12 pm12 an12 cd12 ct12), sl12⟩)
    (c12 : PySem.W.codeIn K cd12 "_law_is_whole" = true)
    (k12 : PySem.W.keepIn K (.ref f12) = true)
    (a13 : PySem.W.nsIn K mainGlobals "_law_same" = some (some (.ref f13)))
    (l13 : K.lookup f13 = some ⟨oc13, od13, .func (PySem.W.fnOf "_law_same" "_law_same" (defArgs sSame) (defBody sSame) (defScope sSame) .none kV13 dc13 pm13 an13 cd13 ct13), sl13⟩)
    (c13 : PySem.W.codeIn K cd13 "_law_same" = true)
    (k13 : PySem.W.keepIn K (.ref f13) = true)
    (a14 : PySem.W.nsIn K mainGlobals "_law_whole" = some (some (.ref f14)))
    (l14 : K.lookup f14 = some ⟨oc14, od14, .func (PySem.W.fnOf "_law_whole" "_law_whole" (defArgs sLInt) (defBody sLInt) (defScope sLInt) .none kV14 dc14 pm14 an14 cd14 ct14), sl14⟩)
    (c14 : PySem.W.codeIn K cd14 "_law_whole" = true)
    (k14 : PySem.W.keepIn K (.ref f14) = true)
    (a15 : PySem.W.nsIn K mainGlobals "_law_great" = some (some (.ref f15)))
    (l15 : K.lookup f15 = some ⟨oc15, od15, .func (PySem.W.fnOf "_law_great" "_law_great" (defArgs sGreat) (defBody sGreat) (defScope sGreat) .none kV15 dc15 pm15 an15 cd15 ct15), sl15⟩)
    (c15 : PySem.W.codeIn K cd15 "_law_great" = true)
    (k15 : PySem.W.keepIn K (.ref f15) = true)
    (a16 : PySem.W.nsIn K mainGlobals "_law_with" = some (some (.ref f16)))
    (l16 : K.lookup f16 = some ⟨oc16, od16, .func (PySem.W.fnOf "_law_with" "_law_with" (defArgs sWith) (defBody sWith) (defScope sWith) .none kV16 dc16 pm16 an16 cd16 ct16), sl16⟩)
    (c16 : PySem.W.codeIn K cd16 "_law_with" = true)
    (k16 : PySem.W.keepIn K (.ref f16) = true)
    (a17 : PySem.W.nsIn K mainGlobals "_law_wrong_length" = some (some (.ref f17)))
    (l17 : K.lookup f17 = some ⟨oc17, od17, .func (PySem.W.fnOf "_law_wrong_length" "_law_wrong_length" (defArgs sWL) (defBody sWL) (defScope sWL) .none kV17 dc17 pm17 an17 cd17 ct17), sl17⟩)
    (c17 : PySem.W.codeIn K cd17 "_law_wrong_length" = true)
    (k17 : PySem.W.keepIn K (.ref f17) = true)
    (a18 : PySem.W.nsIn K mainGlobals "_law_bad_whole" = some (some (.ref f18)))
    (l18 : K.lookup f18 = some ⟨oc18, od18, .func (PySem.W.fnOf "_law_bad_whole" "_law_bad_whole" (defArgs sBW) (defBody sBW) (defScope sBW) .none kV18 dc18 pm18 an18 cd18 ct18), sl18⟩)
    (c18 : PySem.W.codeIn K cd18 "_law_bad_whole" = true)
    (k18 : PySem.W.keepIn K (.ref f18) = true)
    (a19 : PySem.W.nsIn K mainGlobals "_law_bad_list" = some (some (.ref f19)))
    (l19 : K.lookup f19 = some ⟨oc19, od19, .func (PySem.W.fnOf "_law_bad_list" "_law_bad_list" (defArgs sBL) (defBody sBL) (defScope sBL) .none kV19 dc19 pm19 an19 cd19 ct19), sl19⟩)
    (c19 : PySem.W.codeIn K cd19 "_law_bad_list" = true)
    (k19 : PySem.W.keepIn K (.ref f19) = true)
    (a20 : PySem.W.nsIn K mainGlobals "_law_heads" = some (some (.ref f20)))
    (l20 : K.lookup f20 = some ⟨oc20, od20, .func (PySem.W.fnOf "_law_heads" "_law_heads" (defArgs sHd) (defBody sHd) (defScope sHd) .none kV20 dc20 pm20 an20 cd20 ct20), sl20⟩)
    (c20 : PySem.W.codeIn K cd20 "_law_heads" = true)
    (k20 : PySem.W.keepIn K (.ref f20) = true)
    (a21 : PySem.W.nsIn K mainGlobals "_law_rows_of" = some (some (.ref f21)))
    (l21 : K.lookup f21 = some ⟨oc21, od21, .func (PySem.W.fnOf "_law_rows_of" "_law_rows_of" (defArgs sRo) (defBody sRo) (defScope sRo) .none kV21 dc21 pm21 an21 cd21 ct21), sl21⟩)
    (c21 : PySem.W.codeIn K cd21 "_law_rows_of" = true)
    (k21 : PySem.W.keepIn K (.ref f21) = true)
    (a22 : PySem.W.nsIn K mainGlobals "_law_table" = some (some (.ref f22)))
    (l22 : K.lookup f22 = some ⟨oc22, od22, .func (PySem.W.fnOf "_law_table" "_law_table" (defArgs sTab) (defBody sTab) (defScope sTab) .none kV22 dc22 pm22 an22 cd22 ct22), sl22⟩)
    (c22 : PySem.W.codeIn K cd22 "_law_table" = true)
    (k22 : PySem.W.keepIn K (.ref f22) = true)
    (a23 : PySem.W.nsIn K mainGlobals "_law_any_table" = some (some (.ref f23)))
    (l23 : K.lookup f23 = some ⟨oc23, od23, .func (PySem.W.fnOf "_law_any_table" "_law_any_table" (defArgs sATab) (defBody sATab) (defScope sATab) .none kV23 dc23 pm23 an23 cd23 ct23), sl23⟩)
    (c23 : PySem.W.codeIn K cd23 "_law_any_table" = true)
    (k23 : PySem.W.keepIn K (.ref f23) = true)
    (a24 : PySem.W.nsIn K mainGlobals "_law_walk" = some (some (.ref f24)))
    (l24 : K.lookup f24 = some ⟨oc24, od24, .func (PySem.W.fnOf "_law_walk" "_law_walk" (defArgs sWk) (defBody sWk) (defScope sWk) .none kV24 dc24 pm24 an24 cd24 ct24), sl24⟩)
    (c24 : PySem.W.codeIn K cd24 "_law_walk" = true)
    (k24 : PySem.W.keepIn K (.ref f24) = true)
    (a25 : PySem.W.nsIn K mainGlobals "_law_degree_right" = some (some (.ref f25)))
    (l25 : K.lookup f25 = some ⟨oc25, od25, .func (PySem.W.fnOf "_law_degree_right" "_law_degree_right" (defArgs sDr) (defBody sDr) (defScope sDr) .none kV25 dc25 pm25 an25 cd25 ct25), sl25⟩)
    (c25 : PySem.W.codeIn K cd25 "_law_degree_right" = true)
    (k25 : PySem.W.keepIn K (.ref f25) = true)
    (a26 : PySem.W.nsIn K mainGlobals "_law_table_right" = some (some (.ref f26)))
    (l26 : K.lookup f26 = some ⟨oc26, od26, .func (PySem.W.fnOf "_law_table_right" "_law_table_right" (defArgs sTr) (defBody sTr) (defScope sTr) .none kV26 dc26 pm26 an26 cd26 ct26), sl26⟩)
    (c26 : PySem.W.codeIn K cd26 "_law_table_right" = true)
    (k26 : PySem.W.keepIn K (.ref f26) = true)
    (aF : PySem.W.nsIn K mainGlobals "_law_kept" = some (some (.ref fF)))
    (lF : K.lookup fF = some ⟨ocF, odF, .func (PySem.W.fnOf "_law_kept" "_law_kept" (defArgs sKept) (defBody sKept) (defScope sKept) (.ref tF) kVF dcF pmF anF cdF ctF), slF⟩)
    (cF : PySem.W.codeIn K cdF "_law_kept" = true)
    (kF : PySem.W.keepIn K (.ref fF) = true)
    (lT : K.lookup tF = some ⟨ocT, odT, .seq #[.int 24 tk] nT, slT⟩)
    (z_int : PySem.W.nsIn K mainGlobals "int" = some none)
    (z_len : PySem.W.nsIn K mainGlobals "len" = some none)
    (z_list : PySem.W.nsIn K mainGlobals "list" = some none)
    (z_abs : PySem.W.nsIn K mainGlobals "abs" = some none)
    (z_range : PySem.W.nsIn K mainGlobals "range" = some none)
    (z_min : PySem.W.nsIn K mainGlobals "min" = some none)
    (z_max : PySem.W.nsIn K mainGlobals "max" = some none)
    (z_isinstance : PySem.W.nsIn K mainGlobals "isinstance" = some none)
    (z_bool : PySem.W.nsIn K mainGlobals "bool" = some none)
    (z_str : PySem.W.nsIn K mainGlobals "str" = some none)
    (z_dict : PySem.W.nsIn K mainGlobals "dict" = some none)
    (z_tuple : PySem.W.nsIn K mainGlobals "tuple" = some none)
    (z_zip : PySem.W.nsIn K mainGlobals "zip" = some none)
    (z_all : PySem.W.nsIn K mainGlobals "all" = some none)
    (z_any : PySem.W.nsIn K mainGlobals "any" = some none)
    (aM : PySem.W.nsIn K mainGlobals "MOST_ROWS" = some (some (.int 60 tkM)))
    (z_VE : PySem.W.nsIn K mainGlobals "ValueError" = some none)
    (aC : PySem.W.nsIn K mainGlobals "BadValue" = some (some (.ref C)))
    (aS : PySem.W.nsIn K mainGlobals "SkyError" = some (some (.ref S)))
    (xL : K.lookup C = some (excClassObj nm qn C N0 bs bm true sn sub ab col dd m0 m1 m2 m3 m5 "ValueError.__new__"))
    (hbm : PySem.HandSPX.refsVE bm = true)
    (sa : PySem.W.findIn K (.ref C) "__setattr__" = some (some (.builtin "object.__setattr__")))
    (ga : PySem.W.findIn K (.ref C) "__getattribute__" = some (some (.builtin "BaseException.__getattribute__")))
    (gg : PySem.W.findIn K (.ref C) "__getattr__" = some none)
    (gc : PySem.W.findIn K (.ref C) "__class__" = some (some (.builtin "object.__class__")))
    (nw : PySem.W.findIn K (.ref C) "what" = some none)
    (aI : PySem.W.findIn K (.ref C) "__init__" = some (some (.ref fI)))
    (tI : PySem.W.typeIn K (.ref fI) = some (.type "function"))
    (lI : K.lookup fI = some ⟨ocI, odI, .func (PySem.W.fnOf "__init__" "BadValue.__init__" (defArgs sInitB) (defBody sInitB) (defScope sInitB) .none kVI dcI pmI anI cdI ctI), slI⟩)
    (cI : PySem.W.codeIn K cdI "BadValue.__init__" = true)
    (kI : PySem.W.keepIn K (.ref fI) = true)
    (kC : PySem.W.keepIn K (.ref C) = true)
    (eC : PySem.W.subIn K (.ref C) (.type "BaseException") = some true)
    (tC : PySem.W.typeIn K (.ref C) = some (.type "type"))
    (hC : PySem.W.hasDictIn K C = true)
    (mC : PySem.W.mroIn K C (.type "object") = some true)
    (vC : PySem.W.subIn K (.ref C) (.type "ValueError") = some true)
    (spc : PySem.W.specialIn K (.builtin "object.__class__") "__get__" = some (some (.builtin "getset_descriptor.__get__")))
    (tkc : PySem.W.takesIn K (.builtin "object.__class__") = some true)
    (eS : PySem.W.subIn K (.ref S) (.type "BaseException") = some true)
    (hS : PySem.W.hasDictIn K S = true)
    (tS : PySem.W.typeIn K (.ref S) = some (.type "type"))
    (cS : PySem.W.subIn K (.ref C) (.ref S) = some true)
    (a_Mismatch : PySem.W.nsIn K mainGlobals "Mismatch" = some (some (.ref C_Mismatch)))
    (t_Mismatch : PySem.W.typeIn K (.ref C_Mismatch) = some (.type "type"))
    (h_Mismatch : PySem.W.hasDictIn K C_Mismatch = true)
    (s_Mismatch : PySem.W.subIn K (.ref C) (.ref C_Mismatch) = some false)
    (n_Mismatch : (Value.ref C == Value.ref C_Mismatch) = false)
    (a_Still : PySem.W.nsIn K mainGlobals "Still" = some (some (.ref C_Still)))
    (t_Still : PySem.W.typeIn K (.ref C_Still) = some (.type "type"))
    (h_Still : PySem.W.hasDictIn K C_Still = true)
    (s_Still : PySem.W.subIn K (.ref C) (.ref C_Still) = some false)
    (n_Still : (Value.ref C == Value.ref C_Still) = false)
    (a_Endless : PySem.W.nsIn K mainGlobals "Endless" = some (some (.ref C_Endless)))
    (t_Endless : PySem.W.typeIn K (.ref C_Endless) = some (.type "type"))
    (h_Endless : PySem.W.hasDictIn K C_Endless = true)
    (s_Endless : PySem.W.subIn K (.ref C) (.ref C_Endless) = some false)
    (n_Endless : (Value.ref C == Value.ref C_Endless) = false)
    (a_TooMany : PySem.W.nsIn K mainGlobals "TooMany" = some (some (.ref C_TooMany)))
    (t_TooMany : PySem.W.typeIn K (.ref C_TooMany) = some (.type "type"))
    (h_TooMany : PySem.W.hasDictIn K C_TooMany = true)
    (s_TooMany : PySem.W.subIn K (.ref C) (.ref C_TooMany) = some false)
    (n_TooMany : (Value.ref C == Value.ref C_TooMany) = false)
    (a_NoName : PySem.W.nsIn K mainGlobals "NoName" = some (some (.ref C_NoName)))
    (t_NoName : PySem.W.typeIn K (.ref C_NoName) = some (.type "type"))
    (h_NoName : PySem.W.hasDictIn K C_NoName = true)
    (s_NoName : PySem.W.subIn K (.ref C) (.ref C_NoName) = some false)
    (n_NoName : (Value.ref C == Value.ref C_NoName) = false)
    (a_Taken : PySem.W.nsIn K mainGlobals "Taken" = some (some (.ref C_Taken)))
    (t_Taken : PySem.W.typeIn K (.ref C_Taken) = some (.type "type"))
    (h_Taken : PySem.W.hasDictIn K C_Taken = true)
    (s_Taken : PySem.W.subIn K (.ref C) (.ref C_Taken) = some false)
    (n_Taken : (Value.ref C == Value.ref C_Taken) = false)
    (a_Locked : PySem.W.nsIn K mainGlobals "Locked" = some (some (.ref C_Locked)))
    (t_Locked : PySem.W.typeIn K (.ref C_Locked) = some (.type "type"))
    (h_Locked : PySem.W.hasDictIn K C_Locked = true)
    (s_Locked : PySem.W.subIn K (.ref C) (.ref C_Locked) = some false)
    (n_Locked : (Value.ref C == Value.ref C_Locked) = false)
    (a_Looped : PySem.W.nsIn K mainGlobals "Looped" = some (some (.ref C_Looped)))
    (t_Looped : PySem.W.typeIn K (.ref C_Looped) = some (.type "type"))
    (h_Looped : PySem.W.hasDictIn K C_Looped = true)
    (s_Looped : PySem.W.subIn K (.ref C) (.ref C_Looped) = some false)
    (n_Looped : (Value.ref C == Value.ref C_Looped) = false)
    (a_Broken : PySem.W.nsIn K mainGlobals "Broken" = some (some (.ref C_Broken)))
    (t_Broken : PySem.W.typeIn K (.ref C_Broken) = some (.type "type"))
    (h_Broken : PySem.W.hasDictIn K C_Broken = true)
    (s_Broken : PySem.W.subIn K (.ref C) (.ref C_Broken) = some false)
    (n_Broken : (Value.ref C == Value.ref C_Broken) = false)
    (a_ReadError : PySem.W.nsIn K mainGlobals "ReadError" = some (some (.ref C_ReadError)))
    (t_ReadError : PySem.W.typeIn K (.ref C_ReadError) = some (.type "type"))
    (h_ReadError : PySem.W.hasDictIn K C_ReadError = true)
    (s_ReadError : PySem.W.subIn K (.ref C) (.ref C_ReadError) = some false)
    (n_ReadError : (Value.ref C == Value.ref C_ReadError) = false)
    (aA : PySem.W.nsIn K mainGlobals "_law_asked" = some (some (.ref gA)))
    (lA : K.lookup gA = some ⟨ocA, odA, .func (PySem.W.fnOf "_law_asked" "_law_asked" (defArgs sAsked) (defBody sAsked) (defScope sAsked) .none kVA dcA pmA anA cdA ctA), slA⟩)
    (cA : PySem.W.codeIn K cdA "_law_asked" = true)
    (kA : PySem.W.keepIn K (.ref gA) = true)
    (aR : PySem.W.nsIn K mainGlobals "_law_refused" = some (some (.ref fR)))
    (lR : K.lookup fR = some ⟨ocR, odR, .func (PySem.W.fnOf "_law_refused" "_law_refused" (defArgs sRefused) (defBody sRefused) (defScope sRefused) .none kVR dcR pmR anR (.ref cR) ctR), slR⟩)
    (cdR : PySem.W.codeIn K (.ref cR) "_law_refused" = true)
    (kR : PySem.W.keepIn K (.ref fR) = true)
    (aL : PySem.W.nsIn K mainGlobals "law" = some (some (.ref fL)))
    (lL : K.lookup fL = some ⟨ocL, odL, .func (PySem.W.fnOf "law" "law" (defArgs sLaw) (defBody sLaw) (defScope sLaw) .none kVL dcL pmL anL cdvL ctL), slL⟩)
    (cL : PySem.W.codeIn K cdvL "law" = true)
    (kL : PySem.W.keepIn K (.ref fL) = true) :
    ∃ fd : FuncData, (∀ (s : Shared) (v : Value), BindsTo s fd ⟨[v], []⟩ [("_law_script", v)]) ∧ ∀ base : Heap, K.In base → base.Ns mainGlobals mg → ∀ Pt : Addr, LamX.TabB base mg cR Pt → FnOk P w K mg base CX0 9 fa fd ["_law_script"] (spLaw K Pt) := by
  have DRequire : Dfn K mg "require" sRequire ["well_formed", "what"] := dfn_mk X G a0 l0 c0 k0 fun _ _ _ _ _ _ us hl => match us, hl with | [_, _], _ => rfl
  have DWhole : Dfn K mg "is_whole" sWhole ["value"] := dfn_mk X G a1 l1 c1 k1 fun _ _ _ _ _ _ us hl => match us, hl with | [_], _ => rfl
  have DListA : Dfn K mg "is_list_within" sListA ["value", "least", "most"] := dfn_mk X G a2 l2 c2 k2 fun _ _ _ _ _ _ us hl => match us, hl with | [_, _, _], _ => rfl
  have DTb : Dfn K mg "is_table" sTb ["value"] := dfn_mk X G a3 l3 c3 k3 fun _ _ _ _ _ _ us hl => match us, hl with | [_], _ => rfl
  have DDfs : Dfn K mg "_differences" sDfs ["values"] := dfn_mk X G a4 l4 c4 k4 fun _ _ _ _ _ _ us hl => match us, hl with | [_], _ => rfl
  have DDif : Dfn K mg "differences" sDif ["values"] := dfn_mk X G a5 l5 c5 k5 fun _ _ _ _ _ _ us hl => match us, hl with | [_], _ => rfl
  have DDeg : Dfn K mg "degree_of" sDeg ["values"] := dfn_mk X G a6 l6 c6 k6 fun _ _ _ _ _ _ us hl => match us, hl with | [_], _ => rfl
  have DMixed : Dfn K mg "_law_mixed" sMixed ["_law_number", "_law_turn"] := dfn_mk X G a7 l7 c7 k7 fun _ _ _ _ _ _ us hl => match us, hl with | [_, _], _ => rfl
  have DStore : Dfn K mg "_law_store" sStore ["_law_script"] := dfn_mk X G a8 l8 c8 k8 fun _ _ _ _ _ _ us hl => match us, hl with | [_], _ => rfl
  have DTake : Dfn K mg "_law_take" sTake ["_law_store_here", "_law_many"] := dfn_mk X G a9 l9 c9 k9 fun _ _ _ _ _ _ us hl => match us, hl with | [_, _], _ => rfl
  have DPick : Dfn K mg "_law_pick" sPick ["_law_store_here", "_law_row"] := dfn_mk X G a10 l10 c10 k10 fun _ _ _ _ _ _ us hl => match us, hl with | [_, _], _ => rfl
  have DSize : Dfn K mg "_law_size" sSize ["_law_store_here", "_law_top"] := dfn_mk X G a11 l11 c11 k11 fun _ _ _ _ _ _ us hl => match us, hl with | [_, _], _ => rfl
  have DLWhole : Dfn K mg "_law_is_whole" sLWhole ["_law_told"] := dfn_mk X G a12 l12 c12 k12 fun _ _ _ _ _ _ us hl => match us, hl with | [_], _ => rfl
  have DSame : Dfn K mg "_law_same" sSame ["_law_told", "_law_due"] := dfn_mk X G a13 l13 c13 k13 fun _ _ _ _ _ _ us hl => match us, hl with | [_, _], _ => rfl
  have DLInt : Dfn K mg "_law_whole" sLInt ["_law_store_here", "_law_reach"] := dfn_mk X G a14 l14 c14 k14 fun _ _ _ _ _ _ us hl => match us, hl with | [_, _], _ => rfl
  have DGreat : Dfn K mg "_law_great" sGreat ["_law_store_here"] := dfn_mk X G a15 l15 c15 k15 fun _ _ _ _ _ _ us hl => match us, hl with | [_], _ => rfl
  have DWith : Dfn K mg "_law_with" sWith ["_law_store_here", "_law_row", "_law_item"] := dfn_mk X G a16 l16 c16 k16 fun _ _ _ _ _ _ us hl => match us, hl with | [_, _, _], _ => rfl
  have DWL : Dfn K mg "_law_wrong_length" sWL ["_law_store_here", "_law_row", "_law_low", "_law_high"] := dfn_mk X G a17 l17 c17 k17 fun _ _ _ _ _ _ us hl => match us, hl with | [_, _, _, _], _ => rfl
  have DBW : Dfn K mg "_law_bad_whole" sBW ["_law_store_here"] := dfn_mk X G a18 l18 c18 k18 fun _ _ _ _ _ _ us hl => match us, hl with | [_], _ => rfl
  have DBL : Dfn K mg "_law_bad_list" sBL ["_law_store_here", "_law_row"] := dfn_mk X G a19 l19 c19 k19 fun _ _ _ _ _ _ us hl => match us, hl with | [_, _], _ => rfl
  have DHd : Dfn K mg "_law_heads" sHd ["_law_store_here", "_law_many"] := dfn_mk X G a20 l20 c20 k20 fun _ _ _ _ _ _ us hl => match us, hl with | [_, _], _ => rfl
  have DRo : Dfn K mg "_law_rows_of" sRo ["_law_heads_here", "_law_many"] := dfn_mk X G a21 l21 c21 k21 fun _ _ _ _ _ _ us hl => match us, hl with | [_, _], _ => rfl
  have DTab : Dfn K mg "_law_table" sTab ["_law_store_here"] := dfn_mk X G a22 l22 c22 k22 fun _ _ _ _ _ _ us hl => match us, hl with | [_], _ => rfl
  have DATab : Dfn K mg "_law_any_table" sATab ["_law_store_here"] := dfn_mk X G a23 l23 c23 k23 fun _ _ _ _ _ _ us hl => match us, hl with | [_], _ => rfl
  have DWk : Dfn K mg "_law_walk" sWk ["_law_values", "_law_told"] := dfn_mk X G a24 l24 c24 k24 fun _ _ _ _ _ _ us hl => match us, hl with | [_, _], _ => rfl
  have DDr : Dfn K mg "_law_degree_right" sDr ["_law_rows", "_law_degree"] := dfn_mk X G a25 l25 c25 k25 fun _ _ _ _ _ _ us hl => match us, hl with | [_, _], _ => rfl
  have DTr : Dfn K mg "_law_table_right" sTr ["_law_store_here", "_law_values"] := dfn_mk X G a26 l26 c26 k26 fun _ _ _ _ _ _ us hl => match us, hl with | [_, _], _ => rfl
  have FD : FunD K "_law_kept" "_law_kept" (defArgs sKept) (defBody sKept) (defScope sKept) [.int 24] [] fF _ := ⟨⟨ocF, odF, _, kVF, dcF, pmF, anF, cdF, ctF, slF, rfl, lF, cF, .inr ⟨by simp, tF, _, [.int 24 tk], nT, rfl, lT, rfl, .cons ⟨tk, rfl⟩ .nil⟩, .inl rfl⟩, kF⟩
  have DKept : DfnD K mg "_law_kept" sKept ["_law_thing", "_law_deep"] := by
    obtain ⟨ds, hv, hb⟩ := FD.binds1 (ps := ["_law_thing", "_law_deep"]) 2 1 (by simp) rfl fun T kV doc pm an cdv ct us its hu hi => match us, its, hu, hi with
      | [u1, u2], [i1], _, _ => ⟨_, rfl, rfl⟩
    cases hv
    exact ⟨fF, _, _, FD, PySem.W.mg_of X G aF, hb⟩
  have DKept1 : DfnD1 K mg "_law_kept" sKept ["_law_thing", "_law_deep"] (.int 24) := by
    obtain ⟨ds, hv, hb⟩ := FD.binds1 (ps := ["_law_thing", "_law_deep"]) 1 0 (by simp) rfl fun T kV doc pm an cdv ct us its hu hi => match us, its, hu, hi with
      | [u1], [i1], _, _ => ⟨_, rfl, rfl⟩
    exact ⟨fF, _, _, ds, FD, PySem.W.mg_of X G aF, hv, hb⟩
  have T : Bt K mg := ⟨PySem.W.mg_none_of X G z_int, PySem.W.mg_none_of X G z_len, PySem.W.mg_none_of X G z_list, PySem.W.mg_none_of X G z_abs, PySem.W.mg_none_of X G z_range, PySem.W.mg_none_of X G z_min, PySem.W.mg_none_of X G z_max, PySem.W.mg_none_of X G z_isinstance, PySem.W.mg_none_of X G z_bool, PySem.W.mg_none_of X G z_str, PySem.W.mg_none_of X G z_dict, PySem.W.mg_none_of X G z_tuple⟩
  have FI := fun_mk (st := sInitB) lI cI kI
  have bI := FI.binds (ps := ["self", "what"]) fun _ _ _ _ _ _ us hl => match us, hl with | [_, _], _ => rfl
  have B : BvT K mg C := ⟨PySem.W.mg_of X G aC, ⟨⟨nm, qn, N0, bs, bm, sn, sub, ab, col, dd, m0, m1, m2, m3, m5, xL, hbm⟩, sa, eC, tC, kC⟩, nw, fI, _, aI, tI, FI, bI⟩
  have icC : (PySem.W.clsIn K C).isSome = true := by
    obtain ⟨cd, hc, _⟩ := PySem.W.any_some hC
    rw [hc]; rfl
  let A : String → Addr := fun n => if n = "Mismatch" then C_Mismatch else if n = "Still" then C_Still else if n = "Endless" then C_Endless else if n = "TooMany" then C_TooMany else if n = "NoName" then C_NoName else if n = "Taken" then C_Taken else if n = "Locked" then C_Locked else if n = "Looped" then C_Looped else if n = "Broken" then C_Broken else if n = "ReadError" then C_ReadError else C
  have kit : ∀ D : Addr, PySem.W.typeIn K (.ref D) = some (.type "type") → PySem.W.hasDictIn K D = true → PySem.W.subIn K (.ref C) (.ref D) = some false → (Value.ref C == Value.ref D) = false → PySem.W.kitOne K (.ref C) (.ref D) = some false := fun D h1 h2 h3 h4 => by
    obtain ⟨cd, hc, _⟩ := PySem.W.any_some h2
    unfold PySem.W.kitOne PySem.W.kitCls
    rw [h4, if_neg Bool.false_ne_true]
    show (if ((PySem.W.clsIn K D).isSome && PySem.W.typeIn K (.ref D) == some (.type "type")) = true then PySem.W.subIn K (.ref C) (.ref D) else none) = some false
    rw [hc, h1, if_pos (by rfl)]
    exact h3
  have AT : AskT K mg C S A := {
    sky := PySem.W.mg_of X G aS
    exm := PySem.W.exm_ref eS hS tS cS
    g := fun n hn => by
      simp only [List.mem_cons, List.not_mem_nil, or_false] at hn
      rcases hn with rfl | rfl | rfl | rfl | rfl | rfl | rfl | rfl | rfl | rfl | rfl
      · exact PySem.W.mg_of X G aC
      · exact PySem.W.mg_of X G a_Mismatch
      · exact PySem.W.mg_of X G a_Still
      · exact PySem.W.mg_of X G a_Endless
      · exact PySem.W.mg_of X G a_TooMany
      · exact PySem.W.mg_of X G a_NoName
      · exact PySem.W.mg_of X G a_Taken
      · exact PySem.W.mg_of X G a_Locked
      · exact PySem.W.mg_of X G a_Looped
      · exact PySem.W.mg_of X G a_Broken
      · exact PySem.W.mg_of X G a_ReadError
    k := fun n hn => by
      simp only [List.mem_cons, List.not_mem_nil, or_false] at hn
      rcases hn with rfl | rfl | rfl | rfl | rfl | rfl | rfl | rfl | rfl | rfl | rfl
      · show PySem.W.kitOne K (.ref C) (.ref C) = some true
        unfold PySem.W.kitOne
        rw [if_pos (by simp)]
      · exact kit C_Mismatch t_Mismatch h_Mismatch s_Mismatch n_Mismatch
      · exact kit C_Still t_Still h_Still s_Still n_Still
      · exact kit C_Endless t_Endless h_Endless s_Endless n_Endless
      · exact kit C_TooMany t_TooMany h_TooMany s_TooMany n_TooMany
      · exact kit C_NoName t_NoName h_NoName s_NoName n_NoName
      · exact kit C_Taken t_Taken h_Taken s_Taken n_Taken
      · exact kit C_Locked t_Locked h_Locked s_Locked n_Locked
      · exact kit C_Looped t_Looped h_Looped s_Looped n_Looped
      · exact kit C_Broken t_Broken h_Broken s_Broken n_Broken
      · exact kit C_ReadError t_ReadError h_ReadError s_ReadError n_ReadError
    ve := by
      unfold PySem.W.kitOne PySem.W.kitCls
      rw [if_neg (by simp)]
      show (if PySem.W.kitMeta "ValueError" = true then PySem.W.subIn K (.ref C) (.type "ValueError") else none) = some true
      rw [if_pos (by decide +kernel)]
      exact vC
    b_VE := PySem.W.mg_none_of X G z_VE
    hcl := icC
    hga := ga
    hgt := gg
    hsub := eC
    ha := gc
    hn := spc
    htk := tkc
    hm := mC
    xf := ⟨ga, gg, eC, hC⟩ }
  have FA := fun_mk (st := sAsked) lA cA kA
  have AS : AskD K mg gA ocA odA .none kVA dcA pmA anA cdA ctA slA := ⟨PySem.W.mg_of X G aA, kA, lA, cA, FA.binds (ps := ["_law_call"]) fun _ _ _ _ _ _ us hl => match us, hl with | [_], _ => rfl⟩
  have FR := fun_mk (st := sRefused) lR cdR kR
  have bR := FR.binds (ps := ["_law_store_here", "_law_values"]) fun _ _ _ _ _ _ us hl => match us, hl with | [_, _], _ => rfl
  have FL := fun_mk (st := sLaw) lL cL kL
  refine ⟨PySem.W.fnOf "law" "law" (defArgs sLaw) (defBody sLaw) (defScope sLaw) .none kVL dcL pmL anL cdvL ctL, fun s v => .of_eq rfl, fun base _ _ Pt TB => ?_⟩
  have e := hfa.symm.trans (PySem.W.mg_of X G aL)
  cases e
  have kMixed := k_Mixed (P := P) (w := w) (base := base) T DMixed
  have kTake := k_Take T DTake kMixed
  have kPick := k_Pick T DPick kTake
  have kRequire := k_Require (P := P) (w := w) (base := base) T DRequire
  have kWhole := k_Whole (P := P) (w := w) (base := base) T DWhole
  have kLWhole := k_LWhole (P := P) (w := w) (base := base) T DLWhole
  have kSame4 := k_same T DSame kLWhole 4
  have kSame5 := k_same T DSame kLWhole 5
  have kLInt := k_LInt T DLInt kTake
  have kGreat := k_Great T DGreat kTake
  have kStore := k_Store (P := P) (w := w) (base := base) T DStore
  have K0 : Kn P w K mg base 0 "_law_kept" ["_law_thing", "_law_deep"] (fun _ _ _ _ => False) := DKept.none
  have kKept3 := k_Kept1 2 T DKept1 (k_kept T K0 DKept 2)
  have kKept4 := k_Kept1 3 T DKept1 (k_kept T K0 DKept 3)
  have zA := PySem.W.mg_none_of X G z_all
  have kListA := k_ListA (P := P) (w := w) (base := base) T DListA
  have kTb := k_Tb zA (PySem.W.mg_of X G aM) T DTb kListA kWhole
  have kDfs := k_Dfs (P := P) (w := w) (base := base) (PySem.W.mg_none_of X G z_zip) T DDfs
  have kDif := k_Dif T DDif kRequire kTb kDfs
  have kDeg := k_Deg (PySem.W.mg_none_of X G z_any) T DDeg kRequire kTb kDfs
  have kSize := k_Size T DSize kTake
  have kWith := k_With T DWith kTake
  have kHd := k_Hd T DHd kTake kLInt
  have kRo := k_Ro (P := P) (w := w) (base := base) T DRo
  have kTab := k_Tab T DTab kTake kPick kSize kGreat kLInt kHd kRo
  have kATab := k_ATab T DATab kTake kHd kRo kTab
  have kWL := k_WL T DWL kTake
  have kBL := k_BL T DBL kPick
  have kBW := k_BW T DBW kPick
  have kWk := k_Wk T DWk kSame4 kLWhole
  have kDr := k_Dr T DDr kLWhole
  have kTr := k_Tr T DTr kKept3 kDif kWk kDr kDeg kTake kSame5
  have xReq := kx_Require (P := P) (w := w) (base := base) B DRequire
  have xDif := kx_Dif B DDif xReq kTb
  have xDeg := kx_Deg B DDeg xReq kTb
  have kRef : Kn P w K mg base 8 "_law_refused" ["_law_store_here", "_law_values"] (spRefused K Pt) := ⟨fR, _, PySem.W.mg_of X G aR, kR, bR, ok_refused T B AT AS lR cdR TB xDif xDeg kKept4 kWith kBW kWL kBL kSame5⟩
  exact ok_law FL T kStore kATab kTr kRef kWk kDif kTake kPick
end My

namespace My
open PySem PySem.Spec PyProof.Rows L2
/-- the end as the head asks for it -/
theorem law_at {l : PySem.W.OpenLaw} {w : World} {K : PySem.W.Frag} {h : Heap} {mg : Str → Option Value} {fa cR Pt : Addr} (hT : h.get? Pt = some { cls := .none, data := .fields #[] }) (nP : K.lookup Pt = none) (C : PySem.W.CodeHd h cR Pt)
    (R : ∃ fd : FuncData, (∀ (s : Shared) (v : Value), BindsTo s fd ⟨[v], []⟩ [("_law_script", v)]) ∧ ∀ base : Heap, K.In base → base.Ns mainGlobals mg → ∀ Pt : Addr, LamX.TabB base mg cR Pt → FnOk l.prog w K mg base CX0 9 fa fd ["_law_script"] (spLaw K Pt)) :
    LamX.LawAtS l w K CX0 9 63 "_law_script" mg fa h := by
  obtain ⟨fd, hb, F⟩ := R
  have one : ∀ {p : Addr × Addr} {q : Addr × Addr → Prop}, q (cR, Pt) → p ∈ [(cR, Pt)] → q p := fun {p q} h hp => by
    rw [List.mem_singleton] at hp
    rw [hp]
    exact h
  refine ⟨fd, [(cR, Pt)], spLaw K Pt, fun p hp => one (q := fun p => h.get? p.2 = _) hT hp, fun p hp => one (q := fun p => K.lookup p.2 = none) nP hp, fun p hp => one (q := fun p => PySem.W.CodeHd h p.1 p.2) C hp, hb, fun H a ns hl hbits hH hS => ?_, fun base X G TB => F base X G Pt (TB (cR, Pt) (List.mem_singleton.mpr rfl))⟩
  exact ⟨a, ns, rfl, hS, hH (cR, Pt) (List.mem_singleton.mpr rfl), fun _ => rfl⟩
theorem walk_mk {l : PySem.W.OpenLaw} {q : Program} {loose : List Str} {XP : (Str → Option Value) → Heap → Prop} {YP : World → Heap → Prop} {d : DefRec} {K : Params → PySem.W.Frag} (hn : l.most = some 63) (hdf : d.params.defaults = [])
    (hY : ∀ (w : World) (h : Heap), YP w h → (K w.params).In h)
    (F : ∀ (w : World) (mg : Str → Option Value) (fa : Addr) (h : Heap), YP w h → (K w.params).In h → h.Ns mainGlobals mg → mg d.name = some (.ref fa) → LamX.LawAtS l w (K w.params) CX0 9 63 "_law_script" mg fa h) :
    PySem.W.WalkO q loose XP YP l.row.toRowW d [] (fun f vs => PySem.call f vs) :=
  LamX.walk_ofTs (CX := fun _ => CX0) hn (by decide) hdf ⟨rfl, by decide, by decide⟩ hY F fun _ _ _ _ _ z => z
end My
open PySem PySem.W PyProof.Rows
set_option maxRecDepth 100000 in
set_option maxHeartbeats 0 in
theorem PySem.Challenge.cw_wheelsky_k56_differences_and_degree_holds : PySem.Challenge.rw_wheelsky_k56_differences_and_degree.Holds := by
  w_on; o_law; k_head; (case hw => w_witness2)
  k_fill
  refine My.walk_mk (l := PySem.Challenge.rw_wheelsky_k56_differences_and_degree) rfl rfl (fun w h Y => km_in_of Y) ?F
  case F =>
    intro w mg fa h Y KX G hmg
    refine' My.law_at (km_tabs_of Y _ (List.mem_cons_self ..)) ?nP ?cH (My.all_mk KX G hmg ?a0 ?l0 ?c0 ?k0 ?a1 ?l1 ?c1 ?k1 ?a2 ?l2 ?c2 ?k2 ?a3 ?l3 ?c3 ?k3 ?a4 ?l4 ?c4 ?k4 ?a5 ?l5 ?c5 ?k5 ?a6 ?l6 ?c6 ?k6 ?a7 ?l7 ?c7 ?k7 ?a8 ?l8 ?c8 ?k8 ?a9 ?l9 ?c9 ?k9 ?a10 ?l10 ?c10 ?k10 ?a11 ?l11 ?c11 ?k11 ?a12 ?l12 ?c12 ?k12 ?a13 ?l13 ?c13 ?k13 ?a14 ?l14 ?c14 ?k14 ?a15 ?l15 ?c15 ?k15 ?a16 ?l16 ?c16 ?k16 ?a17 ?l17 ?c17 ?k17 ?a18 ?l18 ?c18 ?k18 ?a19 ?l19 ?c19 ?k19 ?a20 ?l20 ?c20 ?k20 ?a21 ?l21 ?c21 ?k21 ?a22 ?l22 ?c22 ?k22 ?a23 ?l23 ?c23 ?k23 ?a24 ?l24 ?c24 ?k24 ?a25 ?l25 ?c25 ?k25 ?a26 ?l26 ?c26 ?k26 ?aF ?lF ?cF ?kF ?lT ?z_int ?z_len ?z_list ?z_abs ?z_range ?z_min ?z_max ?z_isinstance ?z_bool ?z_str ?z_dict ?z_tuple ?z_zip ?z_all ?z_any ?aM ?z_VE ?aC ?aS ?xL ?hbm ?sa ?ga ?gg ?gc ?nw ?aI ?tI ?lI ?cI ?kI ?kC ?eC ?tC ?hC ?mC ?vC ?spc ?tkc ?eS ?hS ?tS ?cS ?a_Mismatch ?t_Mismatch ?h_Mismatch ?s_Mismatch ?n_Mismatch ?a_Still ?t_Still ?h_Still ?s_Still ?n_Still ?a_Endless ?t_Endless ?h_Endless ?s_Endless ?n_Endless ?a_TooMany ?t_TooMany ?h_TooMany ?s_TooMany ?n_TooMany ?a_NoName ?t_NoName ?h_NoName ?s_NoName ?n_NoName ?a_Taken ?t_Taken ?h_Taken ?s_Taken ?n_Taken ?a_Locked ?t_Locked ?h_Locked ?s_Locked ?n_Locked ?a_Looped ?t_Looped ?h_Looped ?s_Looped ?n_Looped ?a_Broken ?t_Broken ?h_Broken ?s_Broken ?n_Broken ?a_ReadError ?t_ReadError ?h_ReadError ?s_ReadError ?n_ReadError ?aA ?lA ?cA ?kA ?aR ?lR ?cdR ?kR ?aL ?lL ?cL ?kL)
    (case a0 => k_is); (case l0 => k_is); (case c0 => k_is); (case k0 => k_is); (case a1 => k_is); (case l1 => k_is); (case c1 => k_is); (case k1 => k_is)
    (case a2 => k_is); (case l2 => k_is); (case c2 => k_is); (case k2 => k_is); (case a3 => k_is); (case l3 => k_is); (case c3 => k_is); (case k3 => k_is)
    (case a4 => k_is); (case l4 => k_is); (case c4 => k_is); (case k4 => k_is); (case a5 => k_is); (case l5 => k_is); (case c5 => k_is); (case k5 => k_is)
    (case a6 => k_is); (case l6 => k_is); (case c6 => k_is); (case k6 => k_is); (case a7 => k_is); (case l7 => k_is); (case c7 => k_is); (case k7 => k_is)
    (case a8 => k_is); (case l8 => k_is); (case c8 => k_is); (case k8 => k_is); (case a9 => k_is); (case l9 => k_is); (case c9 => k_is); (case k9 => k_is)
    (case a10 => k_is); (case l10 => k_is); (case c10 => k_is); (case k10 => k_is); (case a11 => k_is); (case l11 => k_is); (case c11 => k_is); (case k11 => k_is)
    (case a12 => k_is); (case l12 => k_is); (case c12 => k_is); (case k12 => k_is); (case a13 => k_is); (case l13 => k_is); (case c13 => k_is); (case k13 => k_is)
    (case a14 => k_is); (case l14 => k_is); (case c14 => k_is); (case k14 => k_is); (case a15 => k_is); (case l15 => k_is); (case c15 => k_is); (case k15 => k_is)
    (case a16 => k_is); (case l16 => k_is); (case c16 => k_is); (case k16 => k_is); (case a17 => k_is); (case l17 => k_is); (case c17 => k_is); (case k17 => k_is)
    (case a18 => k_is); (case l18 => k_is); (case c18 => k_is); (case k18 => k_is); (case a19 => k_is); (case l19 => k_is); (case c19 => k_is); (case k19 => k_is)
    (case a20 => k_is); (case l20 => k_is); (case c20 => k_is); (case k20 => k_is); (case a21 => k_is); (case l21 => k_is); (case c21 => k_is); (case k21 => k_is)
    (case a22 => k_is); (case l22 => k_is); (case c22 => k_is); (case k22 => k_is); (case a23 => k_is); (case l23 => k_is); (case c23 => k_is); (case k23 => k_is)
    (case a24 => k_is); (case l24 => k_is); (case c24 => k_is); (case k24 => k_is); (case a25 => k_is); (case l25 => k_is); (case c25 => k_is); (case k25 => k_is)
    (case a26 => k_is); (case l26 => k_is); (case c26 => k_is); (case k26 => k_is); (case aF => k_is); (case lF => k_is); (case cF => k_is); (case kF => k_is)
    (case lT => k_is); (case z_int => k_is); (case z_len => k_is); (case z_list => k_is); (case z_abs => k_is); (case z_range => k_is); (case z_min => k_is); (case z_max => k_is)
    (case z_isinstance => k_is); (case z_bool => k_is); (case z_str => k_is); (case z_dict => k_is); (case z_tuple => k_is); (case z_zip => k_is); (case z_all => k_is); (case z_any => k_is)
    (case aM => k_is); (case z_VE => k_is); (case aC => k_is); (case aS => k_is); (case xL => k_is); (case hbm => decide +kernel); (case sa => k_is); (case ga => k_is)
    (case gg => k_is); (case gc => k_is); (case nw => k_is); (case aI => k_is); (case tI => k_is); (case lI => k_is); (case cI => k_is); (case kI => k_is)
    (case kC => k_is); (case eC => k_is); (case tC => k_is); (case hC => k_is); (case mC => k_is); (case vC => k_is); (case spc => k_is); (case tkc => k_is)
    (case eS => k_is); (case hS => k_is); (case tS => k_is); (case cS => k_is); (case a_Mismatch => k_is); (case t_Mismatch => k_is); (case h_Mismatch => k_is); (case s_Mismatch => k_is)
    (case n_Mismatch => decide +kernel); (case a_Still => k_is); (case t_Still => k_is); (case h_Still => k_is); (case s_Still => k_is); (case n_Still => decide +kernel); (case a_Endless => k_is); (case t_Endless => k_is)
    (case h_Endless => k_is); (case s_Endless => k_is); (case n_Endless => decide +kernel); (case a_TooMany => k_is); (case t_TooMany => k_is); (case h_TooMany => k_is); (case s_TooMany => k_is); (case n_TooMany => decide +kernel)
    (case a_NoName => k_is); (case t_NoName => k_is); (case h_NoName => k_is); (case s_NoName => k_is); (case n_NoName => decide +kernel); (case a_Taken => k_is); (case t_Taken => k_is); (case h_Taken => k_is)
    (case s_Taken => k_is); (case n_Taken => decide +kernel); (case a_Locked => k_is); (case t_Locked => k_is); (case h_Locked => k_is); (case s_Locked => k_is); (case n_Locked => decide +kernel); (case a_Looped => k_is)
    (case t_Looped => k_is); (case h_Looped => k_is); (case s_Looped => k_is); (case n_Looped => decide +kernel); (case a_Broken => k_is); (case t_Broken => k_is); (case h_Broken => k_is); (case s_Broken => k_is)
    (case n_Broken => decide +kernel); (case a_ReadError => k_is); (case t_ReadError => k_is); (case h_ReadError => k_is); (case s_ReadError => k_is); (case n_ReadError => decide +kernel); (case aA => k_is); (case lA => k_is)
    (case cA => k_is); (case kA => k_is); (case aR => k_is); (case lR => k_is); (case cdR => k_is); (case kR => k_is); (case aL => k_is); (case lL => k_is)
    (case cL => k_is); (case kL => k_is)
    (case cH => exact codeHd_of_K KX (by kernel_rfl))
    (case nP => kernel_rfl)
