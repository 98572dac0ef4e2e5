import PyProof.Rows.All
import Wide.All
import OpenK.AllK
import Wide.FinOn
import HandS.ForMost
import HandS.Exc
import HandS.Codes
import HandS.Wide
import HandS.WideBits
import HandS.Gcd
import HandS.IsInst
import HandS.Defaults
import HandS.Conv
import HandS.Sort
import HandS.List
import KE.KDictList
import KE.KTupSum
import HandS.Comp
import HandS.Flow
import HandS.ForExc
import HandS.ExcInit
import HandS.ExcField
import HandS.ExcIs
import KE.KExcIs
import HandS.Lambda
import HandS.SetFor
import HandS.Small
import HandS.CallLocal
import KE.KSortKeySt
import HandS.SortKw
import HandS.DeepEq
import HandS.EndTab
import PySem.Challenge.RW_wheelsky_k33_teeth_pair
set_option Elab.async false
set_option linter.all false
set_option maxRecDepth 100000
set_option maxHeartbeats 4000000
namespace My
open PySem PySem.Spec PyProof.Rows L2
def topS (i : Nat) : Stmt := PySem.Challenge.pw_wheelsky_k33_teeth_pair.main.body.getD i (.Pass ⟨0, 0, 0, 0⟩)
/-! ### a def of the top, and what it is known to keep -/
structure Dfn (K : PySem.W.Frag) (mg : Str → Option Value) (x : Str) (st : Stmt) (ps : List Str) : Prop where
  ex : ∃ f fd, Fun K x x st f fd ∧ mg x = some (.ref f) ∧ Binds K fd ps []
structure Kn (P : Program) (w : World) (K : PySem.W.Frag) (mg : Str → Option Value) (base : Heap) (k : Nat) (x : Str) (ps : List Str) (sp : Sp) : Prop where
  ex : ∃ f fd, mg x = some (.ref f) ∧ PySem.W.keepIn K (.ref f) = true ∧ Binds K fd ps [] ∧ FnOk P w K mg base CX0 k f fd ps sp
theorem Kn.mk' {P : Program} {w : World} {K : PySem.W.Frag} {mg : Str → Option Value} {base : Heap} {x : Str} {st : Stmt} {N ps : List Str} {k : Nat} {sp : Sp} (D : Dfn K mg x st ps) (S : FnScope N ps (defScope st)) (len : ∀ vs H Q E, sp vs H Q E → vs.length = ps.length)
    (hbody : ∀ (f : Addr) (cdv : Value) (A : Around) (outer : List Env) (s : Shared) (H : Hp) (vs : List V) (Q : VK) (E : XK), Room k (A.deeper (envOfC x (defScope st) s.heap.objs.size f cdv)) → sp vs H Q E →
      ∃ t, PSs (cxOf CX0 P w K mg base N x (defScope st) f cdv A outer s H E).nox (defBody st) t ∧ t { nx := fun _ H' => Q .non H', rt := Q } (start N vs) H) : Kn P w K mg base (k + 1) x ps sp := by
  obtain ⟨f, fd, F, m, b⟩ := D.ex
  exact ⟨f, fd, m, F.kp, b, F.ok S len (hbody f)⟩
section
variable {X : Cx}
theorem pe_kn {j k : Nat} {x : Str} {ps : List Str} {sp : Sp} {p pos : Pos} {e : Expr} {es : List Expr} {t : TA} (F : Kn X.prog X.w X.K X.mg X.base k x ps sp) (hr : Room j X.A) (hg : Gl X x) (ha : PA X (e :: es) t) (hj : k ≤ j := by omega)
    (hdb : (x == ("__debug__" : Str)) = false := by decide) (he : starEach (e :: es) X.env = (false, eval e X.env) :: starEach es X.env := by rfl) (hpl : (backTo pos (starEach es X.env)).any (·.1) = false := by rfl) :
    PE X (.Call (.Name x p) (e :: es) [] pos) (tCall sp [] E0 t) := by
  obtain ⟨f, fd, m, kp, b, G⟩ := F.ex
  exact pe_call G (hr.mono hj) hg m kp b .nil pass0 ha hdb he hpl
end
/-! ### heaps -/
/-- all but s stands -/
def Kp (s : Addr) (H H' : Hp) : Prop := (∀ b o, b ≠ s → H b = some o → H' b = some o) ∧ ∀ x r, H s = some (.lst (x :: r)) → ∃ r', H' s = some (.lst (x :: r'))
instance {s : Addr} {H H' : Hp} : CoeFun (Kp s H H') (fun _ => ∀ b o, b ≠ s → H b = some o → H' b = some o) := ⟨fun h => h.1⟩
theorem Kp.refl (s : Addr) (H : Hp) : Kp s H H := ⟨fun _ _ _ e => e, fun _ r e => ⟨r, e⟩⟩
theorem Kp.trans {s : Addr} {H H1 H2 : Hp} (a : Kp s H H1) (b : Kp s H1 H2) : Kp s H H2 := ⟨fun c o n e => b.1 c o n (a.1 c o n e), fun x r e => by
  obtain ⟨r', e'⟩ := a.2 x r e
  exact b.2 x r' e'⟩
theorem Kp.same {s : Addr} {H H1 : Hp} (a : Same H H1) : Kp s H H1 := ⟨fun b o _ e => a b o e, fun x r e => ⟨r, a _ _ e⟩⟩
theorem Same.new {H : Hp} {p : Addr} (h : H p = none) (o : HO) : Same H (upd H p o) := fun b u q => by rw [upd_ne (ne_of_none q h)]; exact q
theorem Kp.put {s : Addr} {H : Hp} {x : V} {r r' : List V} (h : H s = some (.lst (x :: r))) : Kp s H (upd H s (.lst (x :: r'))) := ⟨fun b u n e => by rw [upd_ne n]; exact e, fun y q e => by
  rw [h] at e
  cases e
  exact ⟨r', upd_same⟩⟩
/-- the store of the draws at s -/
def Sr (K : PySem.W.Frag) (H : Hp) (s : Addr) (sc : Addr) (ns : List Int) (i b c d e f : Int) : Prop :=
  H s = some (.lst [.ref sc, .int i, .int b, .int c, .int d, .int e, .int f]) ∧ H sc = some (.lst (ns.map V.int)) ∧ s ≠ sc ∧ 0 ≤ i ∧ K.lookup s = none ∧ K.lookup sc = none
def Sto (K : PySem.W.Frag) (H : Hp) (s : Addr) : Prop := ∃ sc ns i b c d e f, Sr K H s sc ns i b c d e f
theorem Sr.same {K : PySem.W.Frag} {H H1 : Hp} {s sc : Addr} {ns : List Int} {i b c d e f : Int} (h : Sr K H s sc ns i b c d e f) (a : Same H H1) : Sr K H1 s sc ns i b c d e f := ⟨a _ _ h.1, a _ _ h.2.1, h.2.2⟩
theorem Sto.same {K : PySem.W.Frag} {H H1 : Hp} {s : Addr} (h : Sto K H s) (a : Same H H1) : Sto K H1 s := by
  obtain ⟨sc, ns, i, b, c, d, e, f, h⟩ := h
  exact ⟨sc, ns, i, b, c, d, e, f, h.same a⟩
theorem Sr.put {K : PySem.W.Frag} {H : Hp} {s sc : Addr} {ns : List Int} {i b c d e f i' b' c' d' e' f' : Int} (h : Sr K H s sc ns i b c d e f) (hi : 0 ≤ i') :
    Sr K (upd H s (.lst [.ref sc, .int i', .int b', .int c', .int d', .int e', .int f'])) s sc ns i' b' c' d' e' f' :=
  ⟨upd_same, by rw [upd_ne (Ne.symm h.2.2.1)]; exact h.2.1, h.2.2.1, hi, h.2.2.2.2⟩
theorem Kp.seqT {s : Addr} {K : PySem.W.Frag} {H H' : Hp} {a : Addr} {xs ys : List V} (e : Kp s H H') (hs : H s = some (.lst ys)) (h : SqT K H a xs) : SqT K H' a xs := by
  rcases h with (h | ⟨o, h⟩) | h
  · exact .inl (.inl (e _ _ (by rintro rfl; rw [hs] at h; cases h) h))
  · exact .inl (.inr ⟨o, e _ _ (by rintro rfl; rw [hs] at h; cases h) h⟩)
  · exact .inr h
theorem Same.seqT {K : PySem.W.Frag} {H H' : Hp} {a : Addr} {xs : List V} (e : Same H H') (h : SqT K H a xs) : SqT K H' a xs := by
  rcases h with (h | ⟨o, h⟩) | h
  · exact .inl (.inl (e _ _ h))
  · exact .inl (.inr ⟨o, e _ _ h⟩)
  · exact .inr h
/-- the built-ins' names, unbound -/
structure Bt (K : PySem.W.Frag) (mg : Str → Option Value) : Prop where
  b_int : mg "int" = none
  b_len : mg "len" = none
  b_list : mg "list" = none
  b_abs : mg "abs" = none
  b_range : mg "range" = none
  b_min : mg "min" = none
  b_max : mg "max" = none
  b_isinstance : mg "isinstance" = none
  b_bool : mg "bool" = none
  b_str : mg "str" = none
  b_dict : mg "dict" = none
  b_tuple : mg "tuple" = none
  g_gcd : mg "gcd" = some (.builtin "math.gcd")
end My

namespace My
open PySem PySem.Spec PyProof.Rows L2
theorem cx_K {CX : CXT} {P : Program} {w : World} {K : PySem.W.Frag} {mg : Str → Option Value} {base : Heap} {N : List Str} {qual : Str} {scope : Scope} {f : Addr} {cd : Value} {A : Around} {outer : List Env} {s : Shared} {H : Hp} {E : XK} : (cxOf CX P w K mg base N qual scope f cd A outer s H E).K = K := rfl
/-! ### what stands at an address, the written part first -/
def obK (o : Obj) : Option HO := match o.cls, o.data with
  | .type "tuple", .seq its _ => if its.size ≤ sizeLine then (its.toList.mapM absV).map HO.tup else none
  | _, _ => none
def ob (K : PySem.W.Frag) (H : Hp) (a : Addr) : Option HO := match K.lookup a with
  | some o => obK o
  | none => H a
theorem absV_rel {u : Value} {x : V} (h : absV u = some x) : RelV x u := by
  cases u <;> simp only [absV, Option.some.injEq, reduceCtorEq] at h <;> subst h
  all_goals first | exact rfl | exact ⟨_, rfl⟩
theorem absV_all : ∀ {us : List Value} {xs : List V}, us.mapM absV = some xs → Vals xs us
  | [], xs, h => by
    simp at h
    subst h
    exact .nil
  | u :: us, xs, h => by
    rw [List.mapM_cons] at h
    cases e1 : absV u with
    | none => simp [e1] at h
    | some x =>
      cases e2 : us.mapM absV with
      | none => simp [e1, e2] at h
      | some r =>
        simp [e1, e2] at h
        subst h
        exact .cons (absV_rel e1) (absV_all e2)
theorem obK_tup {o : Obj} {z : HO} (h : obK o = some z) : ∃ xs its n, z = .tup xs ∧ o.cls = .type "tuple" ∧ o.data = .seq its n ∧ its.size ≤ sizeLine ∧ Vals xs its.toList := by
  unfold obK at h
  split at h
  · rename_i its n e1 e2
    split at h
    · rename_i hz
      cases e : its.toList.mapM absV with
      | none => rw [e] at h; cases h
      | some xs =>
        rw [e] at h
        exact ⟨xs, its, n, (Option.some.inj h).symm, e1, e2, hz, absV_all e⟩
    · cases h
  · cases h
theorem ob_none {K : PySem.W.Frag} {H : Hp} {a : Addr} (h : K.lookup a = none) : ob K H a = H a := by unfold ob; rw [h]
theorem ob_tup {K : PySem.W.Frag} {H : Hp} {a : Addr} {xs : List V} (h : ob K H a = some (.tup xs)) : SqT K H a xs := by
  unfold ob at h
  split at h
  · rename_i o e
    obtain ⟨ys, its, n, z, h1, h2, h3, h4⟩ := obK_tup h
    cases z
    exact .inr ⟨o, its, n, e, h1, h2, h3, h4⟩
  · exact .inl (.inl h)
theorem ob_H {K : PySem.W.Frag} {H : Hp} {a : Addr} {z : HO} (h : ob K H a = some z) (n : ∀ xs, z ≠ .tup xs) : H a = some z ∧ K.lookup a = none := by
  unfold ob at h
  split at h
  · obtain ⟨ys, its, n', z', _⟩ := obK_tup h
    exact absurd z' (n ys)
  · rename_i e
    exact ⟨h, e⟩
theorem ob_lst {K : PySem.W.Frag} {H : Hp} {a : Addr} {xs : List V} (h : ob K H a = some (.lst xs)) : SqL K H a xs := .of (ob_H h (fun _ z => by cases z)).1
theorem ob_same {K : PySem.W.Frag} {H H' : Hp} {a : Addr} {z : HO} (e : Same H H') (h : ob K H a = some z) : ob K H' a = some z := by
  unfold ob at h ⊢
  split
  · rename_i o q
    rw [q] at h
    exact h
  · rename_i q
    rw [q] at h
    exact e _ _ h
theorem ob_kp {K : PySem.W.Frag} {H H' : Hp} {s a : Addr} {ys : List V} {z : HO} (e : Kp s H H') (hs : H s = some (.lst ys)) (n : ∀ ys, z ≠ .lst ys) (h : ob K H a = some z) : ob K H' a = some z := by
  unfold ob at h ⊢
  split
  · rename_i o q
    rw [q] at h
    exact h
  · rename_i q
    rw [q] at h
    exact e _ _ (by rintro rfl; rw [hs] at h; exact n _ (Option.some.inj h).symm) h
theorem ob_new {K : PySem.W.Frag} {H : Hp} {p : Addr} {o : HO} (k : K.lookup p = none) : ob K (upd H p o) p = some o := by rw [ob_none k, upd_same]
/-- a built-in type's name, of what stands somewhere -/
def tyO : Option HO → Option String
  | some (.tup _) => some "tuple"
  | some (.lst _) => some "list"
  | some (.dK _) => some "dict"
  | _ => none
def tyN (K : PySem.W.Frag) (H : Hp) : V → Option String
  | .non => some "NoneType"
  | .bl _ => some "bool"
  | .int _ => some "int"
  | .str _ => some "str"
  | .ref a => tyO (ob K H a)
  | _ => none
theorem tyO_tup (xs : List V) : tyO (some (.tup xs)) = some "tuple" := rfl
theorem tyO_lst (xs : List V) : tyO (some (.lst xs)) = some "list" := rfl
theorem tyO_dK (xs : List (Key × V)) : tyO (some (.dK xs)) = some "dict" := rfl
theorem tyN_non {K : PySem.W.Frag} {H : Hp} : tyN K H .non = some "NoneType" := rfl
theorem tyN_bl {K : PySem.W.Frag} {H : Hp} (b : Bool) : tyN K H (.bl b) = some "bool" := rfl
theorem tyN_int {K : PySem.W.Frag} {H : Hp} (b : Int) : tyN K H (.int b) = some "int" := rfl
theorem tyN_str {K : PySem.W.Frag} {H : Hp} (b : Str) : tyN K H (.str b) = some "str" := rfl
theorem tyN_ref {K : PySem.W.Frag} {H : Hp} (a : Addr) : tyN K H (.ref a) = tyO (ob K H a) := rfl
theorem tyN_X {K : PySem.W.Frag} {H : Hp} {x : V} {t : String} (h : tyN K H x = some t) : TyX K H x (.type t) := by
  cases x with
  | non => cases h; exact .base .non
  | bl b => cases h; exact .base (.bl b)
  | int i => cases h; exact .base (.int i)
  | str z => cases h; exact .base (.str z)
  | byt _ => cases h
  | flt _ => cases h
  | ty _ => cases h
  | ref a =>
    have h1 : tyO (ob K H a) = some t := h
    cases e : ob K H a with
    | none => rw [e] at h1; cases h1
    | some z =>
      rw [e] at h1
      cases z with
      | tup xs =>
        cases h1
        unfold ob at e
        split at e
        · rename_i o q
          obtain ⟨_, _, _, _, c, _⟩ := obK_tup e
          exact .kTuple q c
        · exact .base (.tup e)
      | lst xs => cases h1; exact .base (.lst (ob_H e (fun _ z => by cases z)).1)
      | dK kvs => cases h1; exact .base (.dK (ob_H e (fun _ z => by cases z)).1)
      | _ => cases h1
/-- isinstance(x, T) by names -/
def isB (a b : String) : Bool := a == b || (a == "bool" && b == "int")
def rIsN (K : PySem.W.Frag) : List V → Hp → VK → Prop := fun xs H Q => ∃ x n, xs = [x, .ty n] ∧ n ∈ ["int", "bool", "str", "list", "tuple", "dict"] ∧ ∃ t, tyN K H x = some t ∧ Q (.bl (isB t n)) H
theorem tyN_mem {K : PySem.W.Frag} {H : Hp} {x : V} {t : String} (h : tyN K H x = some t) : t ∈ ["NoneType", "bool", "int", "str", "tuple", "list", "dict"] := by
  cases x with
  | non => cases h; decide
  | bl b => cases h; decide
  | int i => cases h; decide
  | str z => cases h; decide
  | byt _ => cases h
  | flt _ => cases h
  | ty _ => cases h
  | ref a =>
    have h1 : tyO (ob K H a) = some t := h
    unfold tyO at h1
    split at h1 <;> first | (cases h1; decide) | cases h1
theorem kit_all : ∀ t ∈ ["NoneType", "bool", "int", "str", "tuple", "list", "dict"], ∀ n ∈ ["int", "bool", "str", "list", "tuple", "dict"], kitB t n = some (isB t n) := by decide +kernel
/-- isinstance(x, (T, ..)) -/
def tyNs : List V → Option (List String)
  | [] => some []
  | .ty n :: r => if n ∈ ["int", "bool", "str", "list", "tuple", "dict"] then (tyNs r).map (n :: ·) else none
  | _ :: _ => none
theorem tyNs_of : ∀ {cs : List V} {ns : List String}, tyNs cs = some ns → cs = ns.map V.ty ∧ ∀ n ∈ ns, n ∈ ["int", "bool", "str", "list", "tuple", "dict"]
  | [], ns, h => by cases h; exact ⟨rfl, fun _ z => absurd z (by simp)⟩
  | c :: r, ns, h => by
    cases c with
    | ty n =>
      unfold tyNs at h
      split at h
      · rename_i hn
        cases e : tyNs r with
        | none => rw [e] at h; cases h
        | some ms =>
          rw [e] at h
          cases h
          obtain ⟨h1, h2⟩ := tyNs_of e
          refine ⟨by rw [h1]; rfl, fun m hm => ?_⟩
          rcases List.mem_cons.mp hm with z | z
          · rw [z]; exact hn
          · exact h2 m z
      · cases h
    | _ => cases h
theorem tyNs_lt : tyNs [.ty "list", .ty "tuple"] = some ["list", "tuple"] := by decide
def rIsT (K : PySem.W.Frag) : List V → Hp → VK → Prop := fun xs H Q => ∃ x tp, xs = [x, .ref tp] ∧ ∃ cs, H tp = some (.tup cs) ∧ ∃ ns, tyNs cs = some ns ∧ ∃ t, tyN K H x = some t ∧ Q (.bl (ns.any (isB t))) H
section
variable {X : Cx}
theorem call_isN : CallR X (.builtin "isinstance") (rIsN X.K) := fun pins s σ H xs us Q I r h => by
  obtain ⟨x, n, rfl, hn, t, ht, q⟩ := h
  exact call_isi pins s σ H _ us Q I r ⟨x, .ty n, .type t, .type n, isB t n, rfl, .ty n, tyN_X ht, kit_ty (kit_all t (tyN_mem ht) n hn), q⟩
theorem kitAny_of {K : PySem.W.Frag} {t : String} (ht : t ∈ ["NoneType", "bool", "int", "str", "tuple", "list", "dict"]) : ∀ {ns : List String}, (∀ n ∈ ns, n ∈ ["int", "bool", "str", "list", "tuple", "dict"]) → PySem.W.kitAny K (.type t) (ns.map Value.type) = some (ns.any (isB t))
  | [], _ => rfl
  | n :: ns, h => by
    have e1 : PySem.W.kitOne K (.type t) (.type n) = some (isB t n) := kit_ty (kit_all t ht n (h n List.mem_cons_self))
    have e2 := kitAny_of (K := K) ht (ns := ns) fun m hm => h m (List.mem_cons_of_mem _ hm)
    rw [List.map_cons, List.any_cons]
    unfold PySem.W.kitAny
    rw [e1]
    cases isB t n
    · simpa using e2
    · rfl
theorem clsV_all : ∀ ns : List String, Paired ClsV (ns.map V.ty) (ns.map Value.type)
  | [] => .nil
  | n :: ns => .cons (.ty n) (clsV_all ns)
theorem call_isT : CallR X (.builtin "isinstance") (rIsT X.K) := fun pins s σ H xs us Q I r h => by
  obtain ⟨x, tp, rfl, cs, hT, ns, hns, t, ht, q⟩ := h
  obtain ⟨rfl, hn⟩ := tyNs_of hns
  exact call_isiT pins s σ H _ us Q I r ⟨x, tp, _, .type t, _, _, rfl, hT, clsV_all ns, tyN_X ht, kitAny_of (tyN_mem ht) hn, q⟩
/-- xs[i], t[i] -/
def itsO : Option HO → Option (List V)
  | some (.tup xs) => some xs
  | some (.lst xs) => some xs
  | _ => none
theorem itsO_tup (xs : List V) : itsO (some (.tup xs)) = some xs := rfl
theorem itsO_lst (xs : List V) : itsO (some (.lst xs)) = some xs := rfl
theorem itsO_or {K : PySem.W.Frag} {H : Hp} {a : Addr} {xs : List V} (h : itsO (ob K H a) = some xs) : SqL K H a xs ∨ SqT K H a xs := by
  cases e : ob K H a with
  | none => rw [e] at h; cases h
  | some z =>
    rw [e] at h
    cases z with
    | tup ys => cases h; exact .inr (ob_tup e)
    | lst ys => cases h; exact .inl (ob_lst e)
    | _ => cases h
def rIxA (K : PySem.W.Frag) : R2 := fun x y H Q => ∃ p i, x = .ref p ∧ y = .int i ∧ ∃ xs, itsO (ob K H p) = some xs ∧ ∃ v, atI xs i = some v ∧ Q v H
theorem ix_any : IxR X (rIxA X.K) := fun value slice pins s σ H x y v u Q I rx ry h hs => by
  obtain ⟨p, i, rfl, rfl, xs, hx, w, hw, q⟩ := h
  rcases itsO_or hx with z | z
  · exact ix_list value slice pins s σ H _ _ v u Q I rx ry ⟨p, xs, i, w, rfl, rfl, z, hw, q⟩ hs
  · exact ix_tup value slice pins s σ H _ _ v u Q I rx ry ⟨p, xs, i, w, rfl, rfl, z, hw, q⟩ hs
theorem call_lenA : CallR X (.builtin "len") (fun xs H Q => ∃ p, xs = [.ref p] ∧ ∃ ys, itsO (ob X.K H p) = some ys ∧ Q (.int ys.length) H) := fun pins s σ H xs us Q I r h => by
  obtain ⟨p, rfl, ys, hy, q⟩ := h
  exact call_len_seq pins s σ H _ us Q I r ⟨p, ys, rfl, itsO_or hy, q⟩
/-! new tuples and lists, away from the written part -/
variable {es : List Expr} {t : TA} {pos : Pos}
def tTp (K : PySem.W.Frag) (t : TA) : TE := fun σ H Q => t σ H fun xs H1 => xs.length ≤ sizeLine ∧ ∀ p, H1 p = none → K.lookup p = none → Q (.ref p) (upd H1 p (.tup xs))
def tLs (K : PySem.W.Frag) (t : TA) : TE := fun σ H Q => t σ H fun xs H1 => xs.length ≤ sizeLine ∧ ∀ p, H1 p = none → K.lookup p = none → Q (.ref p) (upd H1 p (.lst xs))
theorem new_K {pins : List (Addr × Obj)} {σ : L2.St} {H : Hp} {s : Shared} (I : Inv X pins σ H s) : X.K.lookup s.heap.objs.size = none := by
  cases e : X.K.lookup s.heap.objs.size with
  | none => rfl
  | some o => exact absurd (Heap.lt_size (I.kIn _ _ e)) (Nat.lt_irrefl _)
theorem pe_tp {x1} (h : PA X es t) : PE X (.Tuple es x1 pos) (tTp X.K t) := by
  refine ⟨fun pins s σ H Q I hq => ?_⟩
  refine wpAny_Tuple_spliced (thn (h.run pos pins s σ H _ I hq) fun us s1 ⟨xs, H1, I1, r, z, q⟩ => ⟨by rw [← r.length]; exact z, ?_⟩)
  have hf : H1 s1.heap.objs.size = none := I1.hok.fresh (Nat.le_refl _)
  refine ⟨.ref s1.heap.objs.size, upd H1 s1.heap.objs.size (.tup xs), I1.laid (t' := s1.toks) (fun b u e => Heap.get?_push_of_some _ e) (Nat.le_refl _) ?_, rfl, q _ hf (new_K I1)⟩
  exact ⟨z, us, r, ⟨_, Heap.get?_push_size _ rfl, rfl, _, rfl⟩⟩
theorem pe_ls (h : PA X es t) : PE X (.List es pos) (tLs X.K t) := by
  refine ⟨fun pins s σ H Q I hq => ?_⟩
  refine wpAny_List_spliced (thn (h.run pos pins s σ H _ I hq) fun us s1 ⟨xs, H1, I1, r, z, q⟩ => ⟨by rw [← r.length]; exact z, ?_⟩)
  have hf : H1 s1.heap.objs.size = none := I1.hok.fresh (Nat.le_refl _)
  refine ⟨.ref s1.heap.objs.size, upd H1 s1.heap.objs.size (.lst xs), I1.laid (t' := s1.toks) (fun b u e => Heap.get?_push_of_some _ e) (Nat.le_refl _) ?_, rfl, q _ hf (new_K I1)⟩
  exact ⟨z, us, 0, r, Heap.get?_push_size _ rfl⟩
end
/-- a, b = t -/
def gTp (K : PySem.W.Frag) (n : Nat) (t : TGs) : TG := fun v σ H Q => ∃ a, v = .ref a ∧ ∃ xs, ob K H a = some (.tup xs) ∧ xs.length = n ∧ t xs σ H Q
theorem pg_tp {X : Cx} {pos : Pos} {es : List Expr} {k : Nat} {t : TGs} (n : Nat) (hc : X.calm = true) (h : PGs X es t) (hn : (assignEach es X.env).length = n := by rfl) (hst : (assignEach es X.env).findIdx? (·.1) = none := by rfl) : PG X (.Tuple es k pos) (gTp X.K n t) :=
  ⟨fun pins s σ H v u Q I r hw => by
    obtain ⟨a, e, xs, hx, hl, q⟩ := hw
    exact (pg_tup (n := n) hc h hn hst).run pins s σ H v u Q I r ⟨a, xs, e, ob_tup hx, hl, q⟩⟩
/-- {} -/
def tDn (K : PySem.W.Frag) : TE := fun _ H Q => ∀ p, H p = none → K.lookup p = none → Q (.ref p) (upd H p (.dK []))
theorem pe_dn {X : Cx} {pos : Pos} : PE X (.Dict [] [] pos) (tDn X.K) := ⟨fun pins s σ H Q I h => by
  refine wpAny_Dict_empty ⟨.ref s.heap.objs.size, upd H s.heap.objs.size (.dK []), ?_, rfl, h _ (I.hok.fresh (Nat.le_refl _)) (new_K I)⟩
  exact I.laid (t' := s.toks) (fun _ _ e => Heap.get?_push_of_some _ e) (Nat.le_refl _) (dk_empty s.heap I.big)⟩
/-! ### loops -/
def ForI (J : It) (g : TG) (tb : TS) (D : Ends) (σ : L2.St) (H : Hp) : Prop := ∃ W : Nat → Nat → L2.St → Hp → Prop, (∃ m, W 0 m σ H) ∧ ∀ i m σ H, W i m σ H →
  (J.stop i H ∧ D.nx σ H) ∨ (J.go i H ∧ ∃ N : L2.St → Hp → Prop, (∀ σ' H', N σ' H' → ∃ m', m' < m ∧ W (i + 1) m' σ' H') ∧ ∀ x H', J.yld i H x H' → g x σ H' fun σ2 H2 => tb { D with nx := N, ct := N, bk := D.nx } σ2 H2)
theorem tFor_eq (wi : TI) (g : TG) (tb : TS) (D : Ends) (σ : L2.St) (H : Hp) : tFor wi g tb D σ H = wi σ H fun J H1 => ForI J g tb D σ H1 := rfl
section
variable {g : TG} {tb : TS} {D : Ends} {σ : L2.St} {H : Hp}
theorem forI_range {lo : Int} {n : Nat} (Pv : Nat → L2.St → Hp → Prop) (h0 : Pv 0 σ H)
    (hs : ∀ i σ H, i < n → Pv i σ H → g (.int (lo + i)) σ H fun σ2 H2 => tb { D with nx := Pv (i + 1), ct := Pv (i + 1), bk := D.nx } σ2 H2) (hd : ∀ σ H, Pv n σ H → D.nx σ H) : ForI (Itr lo n) g tb D σ H := for_range Pv h0 hs hd
theorem forI_list {K : PySem.W.Frag} {a : Addr} {xs : List V} (Pv : Nat → L2.St → Hp → Prop) (h0 : Pv 0 σ H) (hl : ∀ i σ H, i ≤ xs.length → Pv i σ H → SqL K H a xs)
    (hs : ∀ i x σ H, xs[i]? = some x → Pv i σ H → g x σ H fun σ2 H2 => tb { D with nx := Pv (i + 1), ct := Pv (i + 1), bk := D.nx } σ2 H2) (hd : ∀ σ H, Pv xs.length σ H → D.nx σ H) : ForI (Itl K a) g tb D σ H := for_list Pv h0 hl hs hd
theorem forI_tup {K : PySem.W.Frag} {a : Addr} {xs : List V} (Pv : Nat → L2.St → Hp → Prop) (h0 : Pv 0 σ H) (hl : ∀ i σ H, i ≤ xs.length → Pv i σ H → SqT K H a xs)
    (hs : ∀ i x σ H, xs[i]? = some x → Pv i σ H → g x σ H fun σ2 H2 => tb { D with nx := Pv (i + 1), ct := Pv (i + 1), bk := D.nx } σ2 H2) (hd : ∀ σ H, Pv xs.length σ H → D.nx σ H) : ForI (Itt K a) g tb D σ H := for_tup Pv h0 hl hs hd
end
theorem ca_0 : ((0 : Nat) : Int) = 0 := rfl
theorem ca_1 : ((1 : Nat) : Int) = 1 := rfl
theorem ca_2 : ((2 : Nat) : Int) = 2 := rfl
theorem ca_3 : ((3 : Nat) : Int) = 3 := rfl
theorem ca_4 : ((4 : Nat) : Int) = 4 := rfl
theorem ca_5 : ((5 : Nat) : Int) = 5 := rfl
theorem ca_6 : ((6 : Nat) : Int) = 6 := rfl
theorem ca_7 : ((7 : Nat) : Int) = 7 := rfl
theorem ca_8 : ((8 : Nat) : Int) = 8 := rfl
theorem ca_9 : ((9 : Nat) : Int) = 9 := rfl
theorem ca_10 : ((10 : Nat) : Int) = 10 := rfl
theorem ca_11 : ((11 : Nat) : Int) = 11 := rfl
theorem ca_12 : ((12 : Nat) : Int) = 12 := rfl
theorem ca_13 : ((13 : Nat) : Int) = 13 := rfl
theorem ca_14 : ((14 : Nat) : Int) = 14 := rfl
theorem ca_15 : ((15 : Nat) : Int) = 15 := rfl
theorem ca_16 : ((16 : Nat) : Int) = 16 := rfl
theorem ca_17 : ((17 : Nat) : Int) = 17 := rfl
theorem ca_18 : ((18 : Nat) : Int) = 18 := rfl
theorem ca_19 : ((19 : Nat) : Int) = 19 := rfl
theorem ca_20 : ((20 : Nat) : Int) = 20 := rfl
theorem ca_21 : ((21 : Nat) : Int) = 21 := rfl
theorem ca_22 : ((22 : Nat) : Int) = 22 := rfl
theorem ca_23 : ((23 : Nat) : Int) = 23 := rfl
theorem ca_24 : ((24 : Nat) : Int) = 24 := rfl
theorem ca_25 : ((25 : Nat) : Int) = 25 := rfl
theorem ca_26 : ((26 : Nat) : Int) = 26 := rfl
theorem ca_27 : ((27 : Nat) : Int) = 27 := rfl
theorem ca_28 : ((28 : Nat) : Int) = 28 := rfl
theorem ca_29 : ((29 : Nat) : Int) = 29 := rfl
theorem ca_30 : ((30 : Nat) : Int) = 30 := rfl
theorem nat10 : (10 : Int).natAbs = 10 := rfl
/-- list(xs), away from the written part -/
theorem call_listK {X : Cx} : CallR X (.type "list") (fun xs H Q => ∃ p, xs = [.ref p] ∧ ∃ ys, (SqL X.K H p ys ∨ SqT X.K H p ys) ∧ ∀ l, H l = none → X.K.lookup l = none → Q (.ref l) (upd H l (.lst ys))) := fun pins s σ H xs us Q I r h => by
  obtain ⟨p, e0, ys, hy, k⟩ := h
  subst e0
  obtain ⟨u, e1, ru⟩ := vals1 r
  subst e1
  cases ru
  have laid (its : List Value) (rv : Vals ys its) (hz : ys.length ≤ sizeLine) (hh : Heap) (cap : Nat) (kp : ∀ b o, s.heap.get? b = some o → hh.get? b = some o)
      (e : hh.get? s.heap.objs.size = some { cls := .type "list", dict := none, data := .seq its.toArray cap, slots := #[] }) : EP X pins σ Q (.ref s.heap.objs.size) { s with heap := hh } := by
    have ok : ObjOk X.prog X.w (upd H s.heap.objs.size (.lst ys)) hh s.heap.objs.size (.lst ys) := ⟨hz, its, cap, rv, e⟩
    exact ⟨.ref s.heap.objs.size, _, I.laid (t' := s.toks) kp (Nat.le_refl _) ok, rfl, k _ (I.hok.fresh (Nat.le_refl _)) (new_K I)⟩
  cases hy with
  | inl hy =>
    obtain ⟨its, rv, pl, hz⟩ := I.list hy
    obtain ⟨o, ho, hc, n, hd⟩ := pl.isList
    have hl := rv.length
    exact call_list_seq p (.inl rfl) ho hc hd (laid its rv hz) (by simp only [List.size_toArray]; omega)
  | inr hy =>
    obtain ⟨its, rv, pl, hz⟩ := I.tuple hy
    obtain ⟨o, ho, hc, n, hd⟩ := pl
    have hl := rv.length
    exact call_list_seq p (.inr rfl) ho hc hd (laid its rv hz) (by simp only [List.size_toArray]; omega)
/-- xs[i] = v -/
def setI (xs : List V) (i : Int) (v : V) : Option (List V) := (ixN xs.length i).map fun j => xs.set j v
theorem setI_nat {xs ys : List V} {j : Nat} {v : V} (h : j < xs.length) (e : xs.set j v = ys) : setI xs (j : Int) v = some ys := by
  have e1 : ixN xs.length (j : Int) = some j := by
    unfold ixN
    rw [if_pos (by omega), if_pos (by omega)]
    simp
  unfold setI
  rw [e1, ← e]
  rfl
def rSetA : V → V → V → Hp → (Hp → Prop) → Prop := fun o i v H Q => ∃ p k, o = .ref p ∧ i = .int k ∧ ∃ xs, H p = some (.lst xs) ∧ ∃ ys, setI xs k v = some ys ∧ Q (upd H p (.lst ys))
section
variable {X : Cx}
theorem set_any : PSet X rSetA := by
  intro pins s σ H o i v uo ui uv Q I ro ri rv h
  obtain ⟨p, k, rfl, rfl, xs, hx, ys, hy, q⟩ := h
  unfold setI at hy
  cases e : ixN xs.length k with
  | none => rw [e] at hy; cases hy
  | some j =>
    rw [e] at hy
    cases hy
    exact set_list pins s σ H _ _ _ uo ui uv Q I ro ri rv ⟨p, xs, k, j, rfl, rfl, hx, e, q⟩
end
theorem atI_0 {α : Type} (x0 : α) (l : List α) : atI (x0 :: l) 0 = some x0 := atI_nat (j := 0) rfl
theorem setI_0 (x0 v : V) (l : List V) : setI (x0 :: l) 0 v = some (v :: l) := setI_nat (j := 0) (by simp) (by rfl)
theorem atI_1 {α : Type} (x0 x1 : α) (l : List α) : atI (x0 :: x1 :: l) 1 = some x1 := atI_nat (j := 1) rfl
theorem setI_1 (x0 x1 v : V) (l : List V) : setI (x0 :: x1 :: l) 1 v = some (x0 :: v :: l) := setI_nat (j := 1) (by simp) (by rfl)
theorem atI_2 {α : Type} (x0 x1 x2 : α) (l : List α) : atI (x0 :: x1 :: x2 :: l) 2 = some x2 := atI_nat (j := 2) rfl
theorem setI_2 (x0 x1 x2 v : V) (l : List V) : setI (x0 :: x1 :: x2 :: l) 2 v = some (x0 :: x1 :: v :: l) := setI_nat (j := 2) (by simp) (by rfl)
theorem atI_3 {α : Type} (x0 x1 x2 x3 : α) (l : List α) : atI (x0 :: x1 :: x2 :: x3 :: l) 3 = some x3 := atI_nat (j := 3) rfl
theorem setI_3 (x0 x1 x2 x3 v : V) (l : List V) : setI (x0 :: x1 :: x2 :: x3 :: l) 3 v = some (x0 :: x1 :: x2 :: v :: l) := setI_nat (j := 3) (by simp) (by rfl)
theorem atI_4 {α : Type} (x0 x1 x2 x3 x4 : α) (l : List α) : atI (x0 :: x1 :: x2 :: x3 :: x4 :: l) 4 = some x4 := atI_nat (j := 4) rfl
theorem setI_4 (x0 x1 x2 x3 x4 v : V) (l : List V) : setI (x0 :: x1 :: x2 :: x3 :: x4 :: l) 4 v = some (x0 :: x1 :: x2 :: x3 :: v :: l) := setI_nat (j := 4) (by simp) (by rfl)
theorem atI_5 {α : Type} (x0 x1 x2 x3 x4 x5 : α) (l : List α) : atI (x0 :: x1 :: x2 :: x3 :: x4 :: x5 :: l) 5 = some x5 := atI_nat (j := 5) rfl
theorem setI_5 (x0 x1 x2 x3 x4 x5 v : V) (l : List V) : setI (x0 :: x1 :: x2 :: x3 :: x4 :: x5 :: l) 5 v = some (x0 :: x1 :: x2 :: x3 :: x4 :: v :: l) := setI_nat (j := 5) (by simp) (by rfl)
theorem atI_6 {α : Type} (x0 x1 x2 x3 x4 x5 x6 : α) (l : List α) : atI (x0 :: x1 :: x2 :: x3 :: x4 :: x5 :: x6 :: l) 6 = some x6 := atI_nat (j := 6) rfl
theorem setI_6 (x0 x1 x2 x3 x4 x5 x6 v : V) (l : List V) : setI (x0 :: x1 :: x2 :: x3 :: x4 :: x5 :: x6 :: l) 6 v = some (x0 :: x1 :: x2 :: x3 :: x4 :: x5 :: v :: l) := setI_nat (j := 6) (by simp) (by rfl)
end My

namespace My
open PySem PySem.Spec PyProof.Rows L2
section
variable {X : Cx}
/-- any(xs), a list of ints -/
def rAnyI (K : PySem.W.Frag) : List V → Hp → VK → Prop := fun vs H Q => ∃ (a : Addr) (ns : List Int), vs = [V.ref a] ∧ SqL K H a (ns.map V.int) ∧ Q (.bl (ns.any fun n => decide (n ≠ 0))) H
theorem vals_int_at : ∀ {ns : List Int} {us : List Value} {i : Nat} {v : Value}, Vals (ns.map V.int) us → us[i]? = some v → ∃ (n : Int) (t : Tok), ns[i]? = some n ∧ v = .int n t
  | [], us, i, v, h, e => by
    cases h
    cases e
  | n :: ns, us, i, v, h, e => by
    cases h with
    | cons a b =>
      cases i with
      | zero =>
        cases e
        obtain ⟨t, et⟩ := a
        exact ⟨n, t, rfl, et⟩
      | succ i => exact vals_int_at (ns := ns) (i := i) b e
theorem any_rangeI : ∀ ns : List Int, (List.range ns.length).any (fun i => decide (ns.getD i 0 ≠ 0)) = ns.any fun n => decide (n ≠ 0)
  | [] => rfl
  | n :: ns => by
    rw [List.length_cons, List.range_succ_eq_map, List.any_cons, List.any_map, List.any_cons, ← any_rangeI ns]
    all_goals rfl
theorem cr_anyI (hc : X.calm = true) : CallR X (.builtin "any") (rAnyI X.K) := by
  intro pins s σ H vs us Q I r h
  obtain ⟨a, ns, rfl, hs, q⟩ := h
  obtain ⟨its, rv, hl, _⟩ := I.list hs
  rw [Vals.ref1 r]
  have hlen := rv.length
  rw [List.length_map] at hlen
  refine call_any_walk (iter_any hl.isList fun s₂ e2 st hne => ?_)
  subst e2
  refine ⟨_, _, _, _, _, _, _, rfl, Walks.list (A := X.A.in1) (I.ok.hd hc) _ a hne its.toArray, st, (fun i v s Q E hv hq => ?_ : TruthOf X.prog X.w X.A.in1 (fun i v => its.toArray[i]? = some v) (fun i => decide (ns.getD i 0 ≠ 0))), fun h' tk hk => ?_⟩
  · have hv' : its[i]? = some v := by simpa using hv
    obtain ⟨n, t, hn, rfl⟩ := vals_int_at rv hv'
    have hg : ns.getD i 0 = n := by rw [List.getD_eq_getElem?_getD, hn] <;> rfl
    have hq' : Q (decide (ns.getD i 0 ≠ 0)) s := hq
    rw [hg, show decide (n ≠ 0) = (n != 0) from by by_cases h : n = 0 <;> simp [h]] at hq'
    exact PySem.P.truthy_int hq'
  · refine ⟨.bl _, H, I.kept fun b o eo => hk b o (fun hmem => ?_) (Heap.get?_push_of_some _ eo), ?_, q⟩
    · rcases List.mem_cons.mp hmem with e1 | hmem
      · exact absurd (e1 ▸ Heap.lt_size eo) (Nat.lt_irrefl _)
      · cases hmem
    · show Value.bool _ = Value.bool _
      rw [← any_rangeI, List.size_toArray, ← hlen]
/-- list(o.values()) -/
def tListVals (K : PySem.W.Frag) (td : TE) : TE := fun σ H Q => td σ H fun x H1 => ∃ a kvs, x = V.ref a ∧ H1 a = some (.dK kvs) ∧ ∀ p, H1 p = none → K.lookup p = none → Q (.ref p) (upd H1 p (.lst (kvs.map (·.2))))
variable {o : Expr} {p pos apos mpos : Pos} {td : TE}
theorem pe_listVals (hc : X.calm = true) (hg : Gl X "list") (hm : X.mg "list" = none) (hd : PE X o td) (hbase : attributeBase o "values" X.env (eval o X.env) = eval o X.env := by rfl) (hline : (apos.endLine == mpos.line) = true := by rfl)
    (hse : starEach [Expr.Call (.Attribute o "values" apos) [] [] mpos] X.env = [(false, eval (Expr.Call (.Attribute o "values" apos) [] [] mpos) X.env)] := by rfl) :
    PE X (.Call (.Name "list" p) [.Call (.Attribute o "values" apos) [] [] mpos] [] pos) (tListVals X.K td) := by
  refine ⟨fun pins s σ H Q I h => ?_⟩
  refine wpAny_Call_Name_kw (ld_blt I hg hm (u := .type "list") (by first | rfl | decide +kernel) ?_ (by first | decide +kernel | decide) (by first | decide +kernel | decide))
  rw [hse]
  refine PySem.callWith_type1 (wpAny_Call_method0_late hbase hline (thn (hd.run pins s σ H _ I h) fun v s1 ⟨x, H1, I1, r1, a, kvs, ex, ha, q⟩ => ?_))
  subst ex
  obtain rfl : v = Value.ref a := r1
  obtain ⟨_, hsys, vs, rel, dof⟩ := dk_of I1.hok ha
  obtain ⟨z, _, _, _, _⟩ := (show ObjOk X.prog X.w H1 s1.heap a (.dK kvs) from I1.hok a _ ha)
  obtain ⟨ep, dat⟩ := dof.dictAt
  have dat' := dat
  obtain ⟨ob, es, ho, ex, hdat, hko, hpr, hnd⟩ := dat'
  refine ⟨"dict", "dict.values", F.plainAttrs_dict, F.slot_dict_values, F.type_dict_values, ⟨ob, ho, ex.1⟩, fun b e => ?_, Calls.callWith_builtin rfl (PySem.evalArgs_none ?_)⟩
  · cases e
    exact ⟨ob, ho, ex.2.1⟩
  refine call_meetsIn F.slot_dict_values ⟨ob, ho, ex.1⟩ F.entry_dict_values (F.args_dict_values_1 _) (meets_dict_values (mixKind X.prog X.w) a hsys) ⟨⟨vs, dof⟩, ?_⟩
  have k1 : ∀ b u, s1.heap.get? b = some u → (s1.heap.push { cls := .type "dict_values", data := .fields #[.ref a] }).get? b = some u := fun b u e => Heap.get?_push_of_some _ e
  have dat1 : (s1.heap.push { cls := .type "dict_values", data := .fields #[.ref a] }).DictAt (mixKind X.prog X.w) a vs ep := dat.keep k1
  have hl : kvs.length = vs.length := Paired.length rel
  have I2 : Inv X pins σ H1 { s1 with heap := s1.heap.push { cls := .type "dict_values", data := .fields #[.ref a] } } := I1.kept (t' := s1.toks) fun b u e => Heap.get?_push_of_some _ e
  refine PySem.W.kdl_call (PySem.W.kdl_values (knd := mixKind X.prog X.w) (kvs := vs) (ep := ep) (r := s1.heap.objs.size) (d := a)) (I.ok.hd hc) ⟨⟨_, Heap.get?_push_size _ rfl, rfl, rfl⟩, dat1⟩ (by rw [← hl]; exact z) fun h' tk acc' c' hkeep hS hacc => ?_
  have hsz : (s1.heap.push { cls := .type "dict_values", data := .fields #[.ref a] }).objs.size = s1.heap.objs.size + 1 := Heap.size_push _ _
  have fr := I2.hok.fresh (a := (s1.heap.push { cls := .type "dict_values", data := .fields #[.ref a] }).objs.size) (Nat.le_refl _)
  refine ⟨.ref (s1.heap.push { cls := .type "dict_values", data := .fields #[.ref a] }).objs.size, upd H1 (s1.heap.push { cls := .type "dict_values", data := .fields #[.ref a] }).objs.size (.lst (kvs.map (·.2))), I2.laid hkeep (Nat.le_refl _) (show ObjOk X.prog X.w _ _ _ (.lst (kvs.map (·.2))) from ⟨by rw [List.length_map]; exact z, acc'.toList, c', ?_, ?_⟩), rfl, q _ fr (new_K I2)⟩
  · have el : acc'.toList.length = acc'.size := by simp
    refine vals_of_at (by rw [List.length_map, el, hacc.1, hl]) fun j x w h1 h2 => ?_
    obtain ⟨k, hky⟩ := hacc.2 j w (by rw [← Array.getElem?_toList]; exact h2)
    obtain ⟨y, e1, e2⟩ := KV.at' rel hky
    rw [List.getElem?_map, e1] at h1
    cases h1
    exact e2
  · exact hS
end
section
variable {X : Cx}
/-- what is tracked is none of the written part's -/
def tFr (K : PySem.W.Frag) (t : TE) : TE := fun σ H Q => t σ H fun v H' => (∀ a, H' a ≠ none → K.lookup a = none) → Q v H'
theorem pe_fr {e : Expr} {t : TE} (h : PE X e t) : PE X e (tFr X.K t) := ⟨fun pins s σ H Q I hw => thn (h.run pins s σ H _ I hw) fun u s1 ⟨v, H1, I1, r, q⟩ => ⟨v, H1, I1, r, q fun a ha => by
  cases z : X.K.lookup a with
  | none => rfl
  | some o => exact absurd (I1.bs a o (I1.ok.mod.kin a o z)).2 ha⟩⟩
end
/-- name = [..] on one line; what is tracked is none of the written part's -/
theorem ps_setLcF {X : Cx} {i : Nat} {y : Str} {py : Pos} {elt tg iter : Expr} {ifs : List Expr} {scope : Scope} {own : List (Str × Nat)} {pos spos : Pos} {wi : TI} {g : TG} {tt : TT} {te : TE} (hc : X.calm = true) (hN : X.N.Nodup) (hy : X.N[i]? = some y) (hyl : X.env.scope.names.lookup y = some .local)
    (hsw : swapsWith (.ListComp elt [⟨tg, iter, ifs, 0⟩] scope pos) (some (.Name y py)) spos.line X.env = pure true) (hi : PI X tg iter wi) (ok : BlkOk X.N X.env.scope scope own)
    (hg : ∀ (s : Shared) (H : Hp) (C : Addr) (cl : List (Str × Addr)) (fp : List Addr), PG (X.blk s H scope (compEnvC scope cl C X.env) fp) tg g) (ht : ∀ (s : Shared) (H : Hp) (C : Addr) (cl : List (Str × Addr)) (fp : List Addr), PTs (X.blk s H scope (compEnvC scope cl C X.env) fp) ifs tt)
    (he : ∀ (s : Shared) (H : Hp) (C : Addr) (cl : List (Str × Addr)) (fp : List Addr), PE (X.blk s H scope (compEnvC scope cl C X.env) fp) elt te) (hs : ∀ x, foldedSetIterable iter X.env x = pure x := by intro _; rfl) :
    PS X (.Assign [.Name y py] (.ListComp elt [⟨tg, iter, ifs, 0⟩] scope pos) spos) (tAsg (tFr X.K (tLc wi g tt te (own.map (·.2)))) (gName i)) := by
  refine ⟨fun pins s σ H D I h => ?_⟩
  rw [exec_Assign_Name_used _ _ _ _ hsw]
  refine wpAny_bind (wpAny_standAt (wpAny_bind ?_))
  show wpAny _ X.A (do let _ ← comprehension (.ListComp elt [⟨tg, iter, ifs, 0⟩] scope pos) scope X.env (firstIterPos [⟨tg, iter, ifs, 0⟩] pos) (newList []) false (eval iter X.env) (some (assign (.Name y py) X.env))) _ _ s
  have h : tLc wi g tt te (own.map (·.2)) σ H (fun x H1 => (∀ a, H1 a ≠ none → X.K.lookup a = none) → gName i x σ H1 D.nx) := h
  refine wpAny_bind (thn (lc_core (Qf := fun _ s' => SP X pins D .next s') hc hN I hi ok hg ht he hs h fun L C s' m H' I' q hn f => ?_) fun _ s' hq => wpAny_pure (wpAny_pure hq))
  have fr : ∀ a, H' a ≠ none → X.K.lookup a = none := fun a ha => by
    cases z : X.K.lookup a with
    | none => rfl
    | some o => exact absurd (I'.bs a o (I'.ok.mod.kin a o z)).2 ha
  show wpAny _ _ (assign (.Name y py) X.env (.ref L)) _ _ _
  refine wpAny_assign_Name (store_ok2 (v := V.ref L) I' hN hy (.inl hyl) rfl (fun s2 I2 ⟨a, sb, ha⟩ => ?_) (.inr hyl))
  obtain ⟨f0, f1, f2, f3, f4, f5⟩ := f
  have haC : C ≠ a := by
    rcases ha with z | z
    · rw [z]; exact f1
    · exact fun e => f4 y a z e.symm
  refine ⟨m, hn.sameBut sb haC, fun h3 sb3 => ?_⟩
  exact ⟨_, H', I2.turned (t' := s2.toks) (fun b o hb e => (sb3.2 b hb).trans e) f0 f1 f3 f4 f5, q fr⟩
theorem cut_to (xs : List V) (j : Nat) (hj : j ≤ xs.length) : cutV xs none (some (j : Int)) = xs.take j := by
  have e := HT.sIx_nat xs.length xs.length j
  unfold cutV
  rw [e, HT.sIx_none, List.drop_zero, Nat.sub_zero, Nat.min_eq_left hj]
theorem cut_from (xs : List V) (j : Nat) (hj : j ≤ xs.length) : cutV xs (some (j : Int)) none = xs.drop j := by
  have e := HT.sIx_nat xs.length 0 j
  unfold cutV
  rw [e, HT.sIx_none, Nat.min_eq_left hj, List.take_of_length_le (by rw [List.length_drop]; omega)]
end My

namespace My
open PySem PySem.Spec PyProof.Rows L2
/-! ### numbers: fractions in lowest terms -/
abbrev Qt := Int × Int
def Nf (q : Qt) : Prop := 1 ≤ q.2 ∧ Int.gcd q.1 q.2 = 1
/-- q is t / b in lowest terms -/
def Is (q : Qt) (t b : Int) : Prop := Nf q ∧ q.1 * b = t * q.2
def Sz (k : Nat) (q : Qt) : Prop := q.1.natAbs < 2 ^ k ∧ q.2.natAbs < 2 ^ k
theorem nf_cop {q : Qt} (h : Nf q) : Nat.Coprime q.1.natAbs q.2.natAbs := h.2
theorem nf_unique {p q : Qt} (hp : Nf p) (hq : Nf q) (h : p.1 * q.2 = q.1 * p.2) : p = q := by
  have h1 : p.1.natAbs * q.2.natAbs = q.1.natAbs * p.2.natAbs := by rw [← Int.natAbs_mul, ← Int.natAbs_mul, h]
  have d1 : p.2.natAbs ∣ q.2.natAbs := (nf_cop hp).symm.dvd_of_dvd_mul_left (n := q.2.natAbs) (m := p.1.natAbs) (by rw [h1]; exact Nat.dvd_mul_left _ _)
  have d2 : q.2.natAbs ∣ p.2.natAbs := (nf_cop hq).symm.dvd_of_dvd_mul_left (n := p.2.natAbs) (m := q.1.natAbs) (by rw [← h1]; exact Nat.dvd_mul_left _ _)
  have e := Nat.dvd_antisymm d1 d2
  have a1 := hp.1
  have a2 := hq.1
  have e2 : p.2 = q.2 := by omega
  rw [e2] at h
  have e1 : p.1 = q.1 := Int.eq_of_mul_eq_mul_right (show q.2 ≠ 0 by omega) h
  exact Prod.ext e1 e2
theorem is_unique {p q : Qt} {t b : Int} (hb : b ≠ 0) (hp : Is p t b) (hq : Is q t b) : p = q := by
  refine nf_unique hp.1 hq.1 ?_
  have h1 := hp.2
  have h2 := hq.2
  have h3 : b * (p.1 * q.2) = b * (q.1 * p.2) := by
    have e1 : b * (p.1 * q.2) = (p.1 * b) * q.2 := by rw [Int.mul_comm p.1 b, Int.mul_assoc]
    have e2 : b * (q.1 * p.2) = (q.1 * b) * p.2 := by rw [Int.mul_comm q.1 b, Int.mul_assoc]
    rw [e1, e2, h1, h2, Int.mul_assoc, Int.mul_assoc, Int.mul_comm p.2 q.2]
  exact Int.eq_of_mul_eq_mul_left hb h3
theorem is_le {q : Qt} {t b : Int} (hb : b ≠ 0) (h : Is q t b) : q.1.natAbs ≤ t.natAbs ∧ q.2.natAbs ≤ b.natAbs := by
  have h1 : q.1.natAbs * b.natAbs = t.natAbs * q.2.natAbs := by rw [← Int.natAbs_mul, ← Int.natAbs_mul, h.2]
  have d : q.2.natAbs ∣ b.natAbs := (nf_cop h.1).symm.dvd_of_dvd_mul_left (n := b.natAbs) (m := q.1.natAbs) (by rw [h1]; exact Nat.dvd_mul_left _ _)
  have hb' : 0 < b.natAbs := by omega
  have le2 := Nat.le_of_dvd hb' d
  refine ⟨?_, le2⟩
  have q2 : 0 < q.2.natAbs := by have := h.1.1; omega
  have h2 : q.1.natAbs * q.2.natAbs ≤ t.natAbs * q.2.natAbs := by rw [← h1]; exact Nat.mul_le_mul_left _ le2
  exact Nat.le_of_mul_le_mul_right h2 q2
theorem is_sz {q : Qt} {t b : Int} {k : Nat} (hb : b ≠ 0) (h : Is q t b) (ht : t.natAbs < 2 ^ k) (hk : b.natAbs < 2 ^ k) : Sz k q :=
  ⟨Nat.lt_of_le_of_lt (is_le hb h).1 ht, Nat.lt_of_le_of_lt (is_le hb h).2 hk⟩
/-- exact division by the greatest common divisor -/
theorem gcd_pos {t b : Int} (hb : b ≠ 0) : 0 < Int.gcd t b := Nat.gcd_pos_of_pos_right _ (by omega)
theorem gcd_le {t b : Int} (hb : b ≠ 0) : Int.gcd t b ≤ b.natAbs := Nat.le_of_dvd (by omega) (Nat.gcd_dvd_right _ _)
theorem is_div {t b : Int} (hb : 0 < b) : Is (t / (Int.gcd t b : Nat), b / (Int.gcd t b : Nat)) t b := by
  have hg := gcd_pos (t := t) (b := b) (by omega)
  obtain ⟨x, hx⟩ := Int.gcd_dvd_left (a := t) (b := b)
  obtain ⟨y, hy⟩ := Int.gcd_dvd_right (a := t) (b := b)
  have hg' : ((Int.gcd t b : Nat) : Int) ≠ 0 := by omega
  have e1 : t / (Int.gcd t b : Nat) = x := by conv => lhs; lhs; rw [hx]
                                              exact Int.mul_ediv_cancel_left _ hg'
  have e2 : b / (Int.gcd t b : Nat) = y := by conv => lhs; lhs; rw [hy]
                                              exact Int.mul_ediv_cancel_left _ hg'
  rw [e1, e2]
  have hy0 : 0 < y := by
    rcases Int.lt_trichotomy y 0 with z | z | z
    · have := Int.mul_neg_of_pos_of_neg (show (0 : Int) < (Int.gcd t b : Nat) by omega) z
      omega
    · rw [z, Int.mul_zero] at hy
      omega
    · exact z
  refine ⟨⟨by show 1 ≤ y; omega, ?_⟩, ?_⟩
  · show Int.gcd x y = 1
    have h : Int.gcd t b = Int.gcd t b * Int.gcd x y := by
      have k : Int.gcd (((Int.gcd t b : Nat) : Int) * x) (((Int.gcd t b : Nat) : Int) * y) = Int.gcd t b * Int.gcd x y := by rw [Int.gcd_mul_left, Int.natAbs_natCast]
      rwa [← hx, ← hy] at k
    exact Nat.eq_of_mul_eq_mul_left hg (by rw [← h, Nat.mul_one])
  · show x * b = t * y
    conv => lhs; rw [hy]
    conv => rhs; rw [hx]
    rw [← Int.mul_assoc, Int.mul_comm x]
theorem is_neg {q : Qt} {t b : Int} (h : Is q (-t) (-b)) : Is q t b := ⟨h.1, by have := h.2; rw [Int.mul_neg, Int.neg_mul] at this; omega⟩
theorem gcd_neg2 (t b : Int) : Int.gcd (-t) (-b) = Int.gcd t b := by rw [Int.gcd_neg, Int.neg_gcd]
/-- what fraction hands back -/
theorem is_fdiv {t b : Int} (hb : b ≠ 0) : Is (t.fdiv (if b < 0 then -((Int.gcd t b : Nat) : Int) else (Int.gcd t b : Nat)), b.fdiv (if b < 0 then -((Int.gcd t b : Nat) : Int) else (Int.gcd t b : Nat))) t b := by
  by_cases h : b < 0
  · rw [if_pos h]
    have e := is_div (t := -t) (b := -b) (by omega)
    rw [gcd_neg2] at e
    have k : ∀ x : Int, x.fdiv (-((Int.gcd t b : Nat) : Int)) = (-x) / ((Int.gcd t b : Nat) : Int) := fun x => by
      rw [← Int.fdiv_eq_ediv_of_nonneg _ (by omega), ← Int.neg_fdiv_neg (-x), Int.neg_neg]
    rw [k, k]
    exact is_neg e
  · rw [if_neg h, Int.fdiv_eq_ediv_of_nonneg _ (by omega), Int.fdiv_eq_ediv_of_nonneg _ (by omega)]
    exact is_div (by omega)
theorem mulW {i j : Int} {a b : Nat} (ha : i.natAbs < 2 ^ a) (hb : j.natAbs < 2 ^ b) (h : a + b ≤ 900000) : CMulW i j := by
  refine wide_mul (a := a + 1) (b := b + 1) (Nat.lt_of_lt_of_le ha (Nat.pow_le_pow_right (by omega) (by omega))) (Nat.lt_of_lt_of_le hb (Nat.pow_le_pow_right (by omega) (by omega))) (by omega) (by omega) (by omega)
theorem szMul {i j : Int} {a b : Nat} (ha : i.natAbs < 2 ^ a) (hb : j.natAbs < 2 ^ b) : (i * j).natAbs < 2 ^ (a + b) := wide_lt ha hb
theorem szAdd {i j : Int} {a b c : Nat} (ha : i.natAbs < 2 ^ a) (hb : j.natAbs < 2 ^ b) (h1 : a + 1 ≤ c) (h2 : b + 1 ≤ c) : (i + j).natAbs < 2 ^ c := by
  have e1 : 2 ^ (a + 1) ≤ 2 ^ c := Nat.pow_le_pow_right (by omega) h1
  have e2 : 2 ^ (b + 1) ≤ 2 ^ c := Nat.pow_le_pow_right (by omega) h2
  rw [Nat.pow_succ] at e1 e2
  have := Int.natAbs_add_le i j
  omega
theorem szSub {i j : Int} {a b c : Nat} (ha : i.natAbs < 2 ^ a) (hb : j.natAbs < 2 ^ b) (h1 : a + 1 ≤ c) (h2 : b + 1 ≤ c) : (i - j).natAbs < 2 ^ c := by
  rw [Int.sub_eq_add_neg]
  exact szAdd ha (by rw [Int.natAbs_neg]; exact hb) h1 h2
theorem szMono {i : Int} {a b : Nat} (ha : i.natAbs < 2 ^ a) (h : a ≤ b) : i.natAbs < 2 ^ b := Nat.lt_of_lt_of_le ha (Nat.pow_le_pow_right (by omega) h)
theorem Sz.mono {q : Qt} {a b : Nat} (ha : Sz a q) (h : a ≤ b) : Sz b q := ⟨szMono ha.1 h, szMono ha.2 h⟩
/-- // by any number of a bounded size -/
def CDivX (_ j : Int) : Prop := j ≠ 0 ∧ j.natAbs < 2 ^ 8999
theorem op_fdivX {X : Cx} : OpR X (binaryOp .FloorDiv) (rI CDivX fun i j => .int (i.fdiv j)) := by
  intro pins s σ H x y v u Q I rx ry h
  obtain ⟨i, j, rfl, rfl, hc, q⟩ := h
  obtain ⟨t, rfl⟩ := rx
  obtain ⟨t', rfl⟩ := ry
  exact floordiv_int hc.1 ⟨.int _, H, I.tok _, ⟨_, rfl⟩, q⟩ (.inl (PyProof.noPylong_of_log2 (Nat.lt_of_lt_of_le (PySem.Flt.log2_lt_of (by omega) hc.2) (by omega))))
/-! ### fractions as values -/
def frt (q : Qt) : HO := .tup [.int q.1, .int q.2]
end My

namespace My
open PySem PySem.Spec PyProof.Rows L2
section
variable {P : Program} {w : World} {K : PySem.W.Frag} {mg : Str → Option Value} {base : Heap}
def spMixed : Sp := fun vs H Q _ => ∃ a b : Int, vs = [.int a, .int b] ∧ ∀ r : Int, Q (.int r) H
theorem mulW_mod {i : Int} {n : Int} (h0 : 0 < n) (h : n < 2 ^ 64) : CMulW (i % n) (i % n) := by
  have h1 := Int.emod_nonneg i (show n ≠ 0 by omega)
  have h2 := Int.emod_lt_of_pos i h0
  exact wide_mul (a := 64) (b := 64) (by omega) (by omega) (by omega) (by omega) (by omega)
abbrev sMixed : Stmt := topS 35
theorem scMixed : FnScope ["_law_number", "_law_turn", "_law_value"] ["_law_number", "_law_turn"] (defScope sMixed) := ⟨rfl, rfl, rfl, by decide +kernel, rfl, by decide +kernel, by decide +kernel⟩
theorem k_Mixed (T : Bt K mg) (D : Dfn K mg "_law_mixed" sMixed ["_law_number", "_law_turn"]) : Kn P w K mg base 1 "_law_mixed" ["_law_number", "_law_turn"] spMixed := by
  refine Kn.mk' D scMixed (fun vs H Q E h => ?_) (fun f cdv A outer s H vs Q E hr h => ?_)
  · obtain ⟨a, b, rfl, _⟩ := h
    rfl
  obtain ⟨a, b, rfl, q⟩ := h
  refine ⟨_, (pss_cons (ps_set (i := 2) scMixed.nd rfl (.inl rfl) (pe_op op_mod (pe_op op_add (pe_op op_add (pe_op op_mul (pe_op op_mod (pe_callTy call_int1 (by rfl) T.b_int (by decide +kernel) (pa_cons (pv 0) pa_nil)) pe_int) pe_int) (pe_op op_mul (pv 1) pe_int)) pe_int) pe_int))
      (pss_cons (ps_set (i := 2) scMixed.nd rfl (.inl rfl) (pe_op op_mod (pe_op op_add (pe_op op_add (pe_op op_add (pe_op op_mulW (pv 2) (pv 2)) (pe_op op_mul (pv 2) pe_int)) (pe_op op_mul (pv 1) pe_int)) pe_int) pe_int))
      (pss_cons (ps_set (i := 2) scMixed.nd rfl (.inl rfl) (pe_op op_mod (pe_op op_add (pe_op op_add (pe_op op_mul (pv 2) pe_int) (pe_op op_fdiv (pv 2) pe_int)) pe_int) pe_int))
      (pss_cons (ps_set (i := 2) scMixed.nd rfl (.inl rfl) (pe_op op_mod (pe_op op_add (pe_op op_mulW (pv 2) (pv 2)) (pv 1)) pe_int))
      (pss_one (ps_ret (pe_op op_fdiv (pv 2) pe_int))))))), ?_⟩
  simp only [cx_K, decide_true, decide_false, reduceCtorEq, gTp, gCons, gNil, ca_0, ca_1, ca_2, ca_3, ca_4, ca_5, ca_6, ca_7, ca_8, ca_9, ca_10, ca_11, ca_12, ca_13, ca_14, ca_15, ca_16, ca_17, ca_18, ca_19, ca_20, ca_21, ca_22, ca_23, ca_24, ca_25, ca_26, ca_27, ca_28, ca_29, ca_30, not_true_eq_false, not_false_eq_true, Int.reduceEq, Nat.reduceEqDiff, Nat.reduceLeDiff, rGcd, V.ty.injEq, eq_self, List.not_mem_nil, beq_self_eq_true, HO.lst.injEq, HO.tup.injEq, tFor_eq, iRng1, iList, iTup, nat10, tSeq, rIxA, rSetA, rIsN, rIsT, tTp, tLs, itsO_tup, itsO_lst, tyO_tup, tyO_lst, tyO_dK, tyN_non, tyN_bl, tyN_int, tyN_str, tyN_ref, tyNs_lt, isB, upd_same, upd_upd, sizeLine_eq, List.mem_cons, String.reduceBEq, String.reduceEq, Bool.or_false, Bool.or_true, Bool.and_false, Bool.false_or, Bool.and_self, Bool.false_and, Bool.not_false, Bool.not_true, List.any_cons, List.any_nil, atI_0, setI_0, atI_1, setI_1, atI_2, setI_2, atI_3, setI_3, atI_4, setI_4, atI_5, setI_5, atI_6, setI_6, tAsg, gName, tOp, tUn, tVar, tC, tCons, L2.tNil, tRet, tIfS, tTest, tCB, tCall, rI, rI0, rU, tNext, tB, tAnd, tOr, tNot, tAndV, tOrV, tNotV, tDrop, tIf, tPar, gSub, rIxL, rIxT, rEq, rNe, rSetL, tBits,
    L2.start, List.map_cons, List.map_nil, List.cons_append, List.nil_append, List.append_nil, List.length_cons, List.length_nil, List.replicate, Nat.reduceAdd, Nat.reduceSub, Nat.zero_add, List.getElem?_cons_zero, List.getElem?_cons_succ, List.set_cons_zero, List.set_cons_succ,
    Option.some.injEq, exists_eq_left', exists_eq_left, V.int.injEq, V.bl.injEq, V.ref.injEq, V.str.injEq, List.cons.injEq, reduceCtorEq, and_true, true_and, false_and, and_false, exists_false, or_false, false_or, or_true, true_or, exists_const, CMul, CDiv, CPow, and_assoc, exists_and_left, exists_and_right, Int.reducePow, Int.reduceNeg, Int.reduceLT, Int.reduceLE, Nat.reducePow, Nat.reduceLT, Int.reduceToNat, gt_iff_lt, ge_iff_le, decide_eq_true_eq, Bool.not_eq_true', decide_eq_false_iff_not, scal, ↓reduceIte, Bool.false_eq_true]
  exact ⟨mulW_mod (by omega) (by omega), mulW_mod (by omega) (by omega), q _⟩
theorem at_ints {ns : List Int} {i : Int} (h0 : 0 ≤ i) (h : i < (ns.length : Int)) : ∃ z, atI (ns.map V.int) i = some (.int z) := by
  have hk : i.toNat < ns.length := by omega
  have q : atI (ns.map V.int) ((i.toNat : Nat) : Int) = some (.int ns[i.toNat]) := atI_nat (by rw [List.getElem?_map, List.getElem?_eq_getElem hk] <;> rfl)
  rw [show ((i.toNat : Nat) : Int) = i by omega] at q
  exact ⟨_, q⟩
theorem bits_le {m : Int} (h : m.natAbs < 2 ^ 200) : Builtin.Int.intBits m ≤ 200 := by
  unfold Builtin.Int.intBits
  split
  · omega
  · have := PySem.Flt.log2_lt_of (show 0 < 200 by omega) h
    omega
def TakeA (K : PySem.W.Frag) (s : Addr) (m : Int) (H : Hp) (σ' : L2.St) (H' : Hp) : Prop := ∃ x, σ' = [some (.ref s), some (.int m), x, none, none, none, none] ∧ Kp s H H' ∧ Sto K H' s
def TakeB (K : PySem.W.Frag) (s : Addr) (m : Int) (H : Hp) (σ' : L2.St) (H' : Hp) : Prop := ∃ x n, σ' = [some (.ref s), some (.int m), x, none, some (.int n), none, none] ∧ Kp s H H' ∧ Sto K H' s
def TakeC (s : Addr) (m : Int) (x : Option V) (n : Int) (H3 : Hp) (k : Nat) (σ : L2.St) (H' : Hp) : Prop := ∃ v y, σ = [some (.ref s), some (.int m), x, none, some (.int n), some (.int v), y] ∧ H' = H3
def spTake (K : PySem.W.Frag) : Sp := fun vs H Q _ => ∃ (s : Addr) (m : Int), vs = [.ref s, .int m] ∧ Sto K H s ∧ m < 2 ^ 200 ∧ ∀ r H', 0 ≤ r → (r < m ∨ r = 0) → Kp s H H' → Sto K H' s → Q (.int r) H'
abbrev sTake : Stmt := topS 37
theorem scTake : FnScope ["_law_store_here", "_law_many", "_law_cell", "_law_digit", "_law_number", "_law_value", "_law_k"] ["_law_store_here", "_law_many"] (defScope sTake) := ⟨rfl, rfl, rfl, by decide +kernel, rfl, by decide +kernel, by decide +kernel⟩
theorem k_Take (T : Bt K mg) (D : Dfn K mg "_law_take" sTake ["_law_store_here", "_law_many"]) (d__law_mixed : Kn P w K mg base 1 "_law_mixed" ["_law_number", "_law_turn"] spMixed) : Kn P w K mg base 2 "_law_take" ["_law_store_here", "_law_many"] (spTake K) := by
  refine Kn.mk' D scTake (fun vs H Q E h => ?_) (fun f cdv A outer s H vs Q E hr h => ?_)
  · obtain ⟨a, m, rfl, _⟩ := h
    rfl
  obtain ⟨s, m, rfl, hS, hm, q⟩ := h
  refine ⟨_, (pss_cons (ps_if (pt_cmpR op_lt (pv 1) pe_int (nomark _)) (pss_one (ps_ret pe_int)) pss_nil)
      (pss_cons (ps_asg (pe_op op_add (pe_ix ix_any (pv 0) pe_int (fun _ _ => rfl)) pe_int) (pg_sub (pv 0) pe_int set_any))
      (C8.pss_cut (ps_if (PW.pt (pw_and (pt_cmpR op_lt (pe_ix ix_any (pv 0) pe_int (fun _ _ => rfl)) pe_int (nomark _)) (pw_and (pt_cmpR op_lt (pe_ix ix_any (pv 0) pe_int (fun _ _ => rfl)) pe_int (nomark _)) (pw_and1 (pt_cmpR op_lt (pe_ix ix_any (pv 0) pe_int (fun _ _ => rfl)) (pe_callB call_lenA (by rfl) T.b_len PySem.boot_len (pa_cons (pe_ix ix_any (pv 0) pe_int (fun _ _ => rfl)) pa_nil)) (nomark _)))))) (pss_cons (ps_set (i := 2) scTake.nd rfl (.inl rfl) (pe_callTy call_int1 (by rfl) T.b_int (by decide +kernel) (pa_cons (pe_ix ix_any (pe_ix ix_any (pv 0) pe_int (fun _ _ => rfl)) (pe_ix ix_any (pv 0) pe_int (fun _ _ => rfl)) (fun _ _ => rfl)) pa_nil)))
      (pss_cons (ps_asg (pe_op op_add (pe_ix ix_any (pv 0) pe_int (fun _ _ => rfl)) pe_int) (pg_sub (pv 0) pe_int set_any))
      (pss_one (ps_if (pt_cmpR op_lt (pe_callB call_abs (by rfl) T.b_abs (by decide +kernel) (pa_cons (pv 2) pa_nil)) (pe_op op_pow pe_int pe_int) (nomark _)) (pss_cons (ps_asg pe_int (pg_sub (pv 0) pe_int set_any))
      (pss_one (ps_asg (pv 2) (pg_sub (pv 0) pe_int set_any)))) (pss_one (ps_asg (pe_callB call_abs (by rfl) T.b_abs (by decide +kernel) (pa_cons (pv 2) pa_nil)) (pg_sub (pv 0) pe_int set_any))))))) pss_nil)
      (pss_cons (ps_if (pt_cmpR op_gt (pe_ix ix_any (pv 0) pe_int (fun _ _ => rfl)) pe_int (nomark _)) (pss_cons (ps_set (i := 3) scTake.nd rfl (.inl rfl) (pe_op op_modN (pe_callTy call_int1 (by rfl) T.b_int (by decide +kernel) (pa_cons (pe_ix ix_any (pv 0) pe_int (fun _ _ => rfl)) pa_nil)) (pv 1)))
      (pss_cons (ps_asg (pe_op op_fdivW (pe_ix ix_any (pv 0) pe_int (fun _ _ => rfl)) (pv 1)) (pg_sub (pv 0) pe_int set_any))
      (pss_one (ps_ret (pv 3))))) pss_nil)
      (pss_cons (ps_set (i := 4) scTake.nd rfl (.inl rfl) (pe_ix ix_any (pv 0) pe_int (fun _ _ => rfl)))
      (C8.pss_cut (ps_if (pt_cmpR op_gt (pe_ix ix_any (pv 0) pe_int (fun _ _ => rfl)) pe_int (nomark _)) (pss_cons (ps_asg (pe_op op_sub (pe_ix ix_any (pv 0) pe_int (fun _ _ => rfl)) pe_int) (pg_sub (pv 0) pe_int set_any))
      (pss_one (ps_set (i := 4) scTake.nd rfl (.inl rfl) (pe_ix ix_any (pv 0) pe_int (fun _ _ => rfl))))) pss_nil)
      (pss_cons (ps_set (i := 5) scTake.nd rfl (.inl rfl) pe_int)
      (pss_cons (ps_for PassesOwn.never rfl (pi_range1 (by rfl) T.b_range (pa_cons (pe_op op_add pe_int (pe_op op_fdiv (pe_bits (pv 1)) pe_int)) pa_nil)) (pg_name (i := 6) scTake.nd rfl (.inl rfl)) (pss_one (ps_set (i := 5) scTake.nd rfl (.inl rfl) (pe_op op_add (pe_op op_mul (pv 5) pe_int) (pe_kn d__law_mixed hr (by rfl) (pa_cons (pv 4) (pa_cons (pe_op op_add (pe_op op_mul (pe_ix ix_any (pv 0) pe_int (fun _ _ => rfl)) pe_int) (pv 6)) pa_nil)))))))
      (pss_one (ps_ret (pe_op op_modN (pv 5) (pv 1)))))))))))), ?_⟩
  obtain ⟨sc, ns, i, b, c, d, e, f, hs, hsc, hne, hi, ks, ksc⟩ := hS
  have o1 := (ob_none ks).trans hs
  simp only [o1, hs, cx_K, decide_true, decide_false, reduceCtorEq, gTp, gCons, gNil, ca_0, ca_1, ca_2, ca_3, ca_4, ca_5, ca_6, ca_7, ca_8, ca_9, ca_10, ca_11, ca_12, ca_13, ca_14, ca_15, ca_16, ca_17, ca_18, ca_19, ca_20, ca_21, ca_22, ca_23, ca_24, ca_25, ca_26, ca_27, ca_28, ca_29, ca_30, not_true_eq_false, not_false_eq_true, Int.reduceEq, Nat.reduceEqDiff, Nat.reduceLeDiff, rGcd, V.ty.injEq, eq_self, List.not_mem_nil, beq_self_eq_true, HO.lst.injEq, HO.tup.injEq, tFor_eq, iRng1, iList, iTup, nat10, tSeq, rIxA, rSetA, rIsN, rIsT, tTp, tLs, itsO_tup, itsO_lst, tyO_tup, tyO_lst, tyO_dK, tyN_non, tyN_bl, tyN_int, tyN_str, tyN_ref, tyNs_lt, isB, upd_same, upd_upd, sizeLine_eq, List.mem_cons, String.reduceBEq, String.reduceEq, Bool.or_false, Bool.or_true, Bool.and_false, Bool.false_or, Bool.and_self, Bool.false_and, Bool.not_false, Bool.not_true, List.any_cons, List.any_nil, atI_0, setI_0, atI_1, setI_1, atI_2, setI_2, atI_3, setI_3, atI_4, setI_4, atI_5, setI_5, atI_6, setI_6, tAsg, gName, tOp, tUn, tVar, tC, tCons, L2.tNil, tRet, tIfS, tTest, tCB, tCall, rI, rI0, rU, tNext, tB, tAnd, tOr, tNot, tAndV, tOrV, tNotV, tDrop, tIf, tPar, gSub, rIxL, rIxT, rEq, rNe, rSetL, tBits,
    L2.start, List.map_cons, List.map_nil, List.cons_append, List.nil_append, List.append_nil, List.length_cons, List.length_nil, List.replicate, Nat.reduceAdd, Nat.reduceSub, Nat.zero_add, List.getElem?_cons_zero, List.getElem?_cons_succ, List.set_cons_zero, List.set_cons_succ,
    Option.some.injEq, exists_eq_left', exists_eq_left, V.int.injEq, V.bl.injEq, V.ref.injEq, V.str.injEq, List.cons.injEq, reduceCtorEq, and_true, true_and, false_and, and_false, exists_false, or_false, false_or, or_true, true_or, exists_const, CMul, CDiv, CPow, and_assoc, exists_and_left, exists_and_right, Int.reducePow, Int.reduceNeg, Int.reduceLT, Int.reduceLE, Nat.reducePow, Nat.reduceLT, Int.reduceToNat, gt_iff_lt, ge_iff_le, decide_eq_true_eq, Bool.not_eq_true', decide_eq_false_iff_not, scal, ↓reduceIte, Bool.false_eq_true]
  refine ite2 (fun h2 => ?_) (fun h2 => ?_)
  · exact q 0 H (Int.le_refl 0) (.inr rfl) (Kp.refl _ _) ⟨sc, ns, i, b, c, d, e, f, hs, hsc, hne, hi, ks, ksc⟩
  have S1 := Sr.put (i' := i) (b' := b) (c' := c + 1) (d' := d) (e' := e) (f' := f) (⟨hs, hsc, hne, hi, ks, ksc⟩ : Sr K H s sc ns i b c d e f) hi
  have kp1 : Kp s H (upd H s (.lst [.ref sc, .int i, .int b, .int (c + 1), .int d, .int e, .int f])) := Kp.put hs
  generalize upd H s (.lst [.ref sc, .int i, .int b, .int (c + 1), .int d, .int e, .int f]) = H1 at S1 kp1 ⊢
  refine ⟨TakeA K s m H, ?_, ?_⟩
  · obtain ⟨hs, hsc, hne, hi, ks, ksc⟩ := id S1
    have o1 := (ob_none ks).trans hs
    have o2 := (ob_none ksc).trans hsc
    have no : TakeA K s m H [some (.ref s), some (.int m), none, none, none, none, none] H1 := ⟨none, rfl, kp1, _, _, _, _, _, _, _, _, S1⟩
    simp only [o1, o2, hs, List.length_map, cx_K, decide_true, decide_false, reduceCtorEq, gTp, gCons, gNil, ca_0, ca_1, ca_2, ca_3, ca_4, ca_5, ca_6, ca_7, ca_8, ca_9, ca_10, ca_11, ca_12, ca_13, ca_14, ca_15, ca_16, ca_17, ca_18, ca_19, ca_20, ca_21, ca_22, ca_23, ca_24, ca_25, ca_26, ca_27, ca_28, ca_29, ca_30, not_true_eq_false, not_false_eq_true, Int.reduceEq, Nat.reduceEqDiff, Nat.reduceLeDiff, rGcd, V.ty.injEq, eq_self, List.not_mem_nil, beq_self_eq_true, HO.lst.injEq, HO.tup.injEq, tFor_eq, iRng1, iList, iTup, nat10, tSeq, rIxA, rSetA, rIsN, rIsT, tTp, tLs, itsO_tup, itsO_lst, tyO_tup, tyO_lst, tyO_dK, tyN_non, tyN_bl, tyN_int, tyN_str, tyN_ref, tyNs_lt, isB, upd_same, upd_upd, sizeLine_eq, List.mem_cons, String.reduceBEq, String.reduceEq, Bool.or_false, Bool.or_true, Bool.and_false, Bool.false_or, Bool.and_self, Bool.false_and, Bool.not_false, Bool.not_true, List.any_cons, List.any_nil, atI_0, setI_0, atI_1, setI_1, atI_2, setI_2, atI_3, setI_3, atI_4, setI_4, atI_5, setI_5, atI_6, setI_6, tAsg, gName, tOp, tUn, tVar, tC, tCons, L2.tNil, tRet, tIfS, tTest, tCB, tCall, rI, rI0, rU, tNext, tB, tAnd, tOr, tNot, tAndV, tOrV, tNotV, tDrop, tIf, tPar, gSub, rIxL, rIxT, rEq, rNe, rSetL, tBits,
    L2.start, List.map_cons, List.map_nil, List.cons_append, List.nil_append, List.append_nil, List.length_cons, List.length_nil, List.replicate, Nat.reduceAdd, Nat.reduceSub, Nat.zero_add, List.getElem?_cons_zero, List.getElem?_cons_succ, List.set_cons_zero, List.set_cons_succ,
    Option.some.injEq, exists_eq_left', exists_eq_left, V.int.injEq, V.bl.injEq, V.ref.injEq, V.str.injEq, List.cons.injEq, reduceCtorEq, and_true, true_and, false_and, and_false, exists_false, or_false, false_or, or_true, true_or, exists_const, CMul, CDiv, CPow, and_assoc, exists_and_left, exists_and_right, Int.reducePow, Int.reduceNeg, Int.reduceLT, Int.reduceLE, Nat.reducePow, Nat.reduceLT, Int.reduceToNat, gt_iff_lt, ge_iff_le, decide_eq_true_eq, Bool.not_eq_true', decide_eq_false_iff_not, scal, ↓reduceIte, Bool.false_eq_true]
    refine ite2 (fun _ => ?_) (fun _ => no)
    refine ite2 (fun _ => ?_) (fun _ => no)
    refine ite2 (fun hlt => ?_) (fun _ => no)
    obtain ⟨z, hz⟩ := at_ints hi hlt
    simp only [hz, cx_K, decide_true, decide_false, reduceCtorEq, gTp, gCons, gNil, ca_0, ca_1, ca_2, ca_3, ca_4, ca_5, ca_6, ca_7, ca_8, ca_9, ca_10, ca_11, ca_12, ca_13, ca_14, ca_15, ca_16, ca_17, ca_18, ca_19, ca_20, ca_21, ca_22, ca_23, ca_24, ca_25, ca_26, ca_27, ca_28, ca_29, ca_30, not_true_eq_false, not_false_eq_true, Int.reduceEq, Nat.reduceEqDiff, Nat.reduceLeDiff, rGcd, V.ty.injEq, eq_self, List.not_mem_nil, beq_self_eq_true, HO.lst.injEq, HO.tup.injEq, tFor_eq, iRng1, iList, iTup, nat10, tSeq, rIxA, rSetA, rIsN, rIsT, tTp, tLs, itsO_tup, itsO_lst, tyO_tup, tyO_lst, tyO_dK, tyN_non, tyN_bl, tyN_int, tyN_str, tyN_ref, tyNs_lt, isB, upd_same, upd_upd, sizeLine_eq, List.mem_cons, String.reduceBEq, String.reduceEq, Bool.or_false, Bool.or_true, Bool.and_false, Bool.false_or, Bool.and_self, Bool.false_and, Bool.not_false, Bool.not_true, List.any_cons, List.any_nil, atI_0, setI_0, atI_1, setI_1, atI_2, setI_2, atI_3, setI_3, atI_4, setI_4, atI_5, setI_5, atI_6, setI_6, tAsg, gName, tOp, tUn, tVar, tC, tCons, L2.tNil, tRet, tIfS, tTest, tCB, tCall, rI, rI0, rU, tNext, tB, tAnd, tOr, tNot, tAndV, tOrV, tNotV, tDrop, tIf, tPar, gSub, rIxL, rIxT, rEq, rNe, rSetL, tBits,
    L2.start, List.map_cons, List.map_nil, List.cons_append, List.nil_append, List.append_nil, List.length_cons, List.length_nil, List.replicate, Nat.reduceAdd, Nat.reduceSub, Nat.zero_add, List.getElem?_cons_zero, List.getElem?_cons_succ, List.set_cons_zero, List.set_cons_succ,
    Option.some.injEq, exists_eq_left', exists_eq_left, V.int.injEq, V.bl.injEq, V.ref.injEq, V.str.injEq, List.cons.injEq, reduceCtorEq, and_true, true_and, false_and, and_false, exists_false, or_false, false_or, or_true, true_or, exists_const, CMul, CDiv, CPow, and_assoc, exists_and_left, exists_and_right, Int.reducePow, Int.reduceNeg, Int.reduceLT, Int.reduceLE, Nat.reducePow, Nat.reduceLT, Int.reduceToNat, gt_iff_lt, ge_iff_le, decide_eq_true_eq, Bool.not_eq_true', decide_eq_false_iff_not, scal, ↓reduceIte, Bool.false_eq_true]
    refine ite2 (fun _ => ?_) (fun _ => ?_)
    · have S2 := S1.put (i' := i + 1) (b' := b) (c' := c + 1) (d' := d) (e' := 2) (f' := z) (by omega)
      exact ⟨_, rfl, kp1.trans (Kp.put hs), _, _, _, _, _, _, _, _, S2⟩
    · have S2 := S1.put (i' := i + 1) (b' := if z < 0 then -z else z) (c' := c + 1) (d' := d) (e' := e) (f' := f) (by omega)
      exact ⟨_, rfl, kp1.trans (Kp.put hs), _, _, _, _, _, _, _, _, S2⟩
  rintro σ' H2 ⟨x, rfl, kp2, sc, ns, i, b, c, d, e, f, S2⟩
  obtain ⟨hs, hsc, hne, hi, ks, ksc⟩ := id S2
  have o1 := (ob_none ks).trans hs
  simp only [o1, hs, cx_K, decide_true, decide_false, reduceCtorEq, gTp, gCons, gNil, ca_0, ca_1, ca_2, ca_3, ca_4, ca_5, ca_6, ca_7, ca_8, ca_9, ca_10, ca_11, ca_12, ca_13, ca_14, ca_15, ca_16, ca_17, ca_18, ca_19, ca_20, ca_21, ca_22, ca_23, ca_24, ca_25, ca_26, ca_27, ca_28, ca_29, ca_30, not_true_eq_false, not_false_eq_true, Int.reduceEq, Nat.reduceEqDiff, Nat.reduceLeDiff, rGcd, V.ty.injEq, eq_self, List.not_mem_nil, beq_self_eq_true, HO.lst.injEq, HO.tup.injEq, tFor_eq, iRng1, iList, iTup, nat10, tSeq, rIxA, rSetA, rIsN, rIsT, tTp, tLs, itsO_tup, itsO_lst, tyO_tup, tyO_lst, tyO_dK, tyN_non, tyN_bl, tyN_int, tyN_str, tyN_ref, tyNs_lt, isB, upd_same, upd_upd, sizeLine_eq, List.mem_cons, String.reduceBEq, String.reduceEq, Bool.or_false, Bool.or_true, Bool.and_false, Bool.false_or, Bool.and_self, Bool.false_and, Bool.not_false, Bool.not_true, List.any_cons, List.any_nil, atI_0, setI_0, atI_1, setI_1, atI_2, setI_2, atI_3, setI_3, atI_4, setI_4, atI_5, setI_5, atI_6, setI_6, tAsg, gName, tOp, tUn, tVar, tC, tCons, L2.tNil, tRet, tIfS, tTest, tCB, tCall, rI, rI0, rU, tNext, tB, tAnd, tOr, tNot, tAndV, tOrV, tNotV, tDrop, tIf, tPar, gSub, rIxL, rIxT, rEq, rNe, rSetL, tBits,
    L2.start, List.map_cons, List.map_nil, List.cons_append, List.nil_append, List.append_nil, List.length_cons, List.length_nil, List.replicate, Nat.reduceAdd, Nat.reduceSub, Nat.zero_add, List.getElem?_cons_zero, List.getElem?_cons_succ, List.set_cons_zero, List.set_cons_succ,
    Option.some.injEq, exists_eq_left', exists_eq_left, V.int.injEq, V.bl.injEq, V.ref.injEq, V.str.injEq, List.cons.injEq, reduceCtorEq, and_true, true_and, false_and, and_false, exists_false, or_false, false_or, or_true, true_or, exists_const, CMul, CDiv, CPow, and_assoc, exists_and_left, exists_and_right, Int.reducePow, Int.reduceNeg, Int.reduceLT, Int.reduceLE, Nat.reducePow, Nat.reduceLT, Int.reduceToNat, gt_iff_lt, ge_iff_le, decide_eq_true_eq, Bool.not_eq_true', decide_eq_false_iff_not, scal, ↓reduceIte, Bool.false_eq_true]
  have hm0 : m ≠ 0 := by omega
  refine ite2 (fun hb => ?_) (fun hb => ?_)
  · have S3 := S2.put (i' := i) (b' := b / m) (c' := c) (d' := d) (e' := e) (f' := f) hi
    refine ⟨hm0, wide_div (b := 200) (by omega) (by omega) (by omega) (by omega), q _ _ ?_ (.inl ?_) (kp2.trans (Kp.put hs)) ⟨_, _, _, _, _, _, _, _, S3⟩⟩
    · rw [Int.fmod_eq_emod_of_nonneg b (by omega)]
      exact Int.emod_nonneg _ hm0
    · rw [Int.fmod_eq_emod_of_nonneg b (by omega)]
      exact Int.emod_lt_of_pos _ (by omega)
  refine ⟨TakeB K s m H, ?_, ?_⟩
  · simp only [o1, hs, cx_K, decide_true, decide_false, reduceCtorEq, gTp, gCons, gNil, ca_0, ca_1, ca_2, ca_3, ca_4, ca_5, ca_6, ca_7, ca_8, ca_9, ca_10, ca_11, ca_12, ca_13, ca_14, ca_15, ca_16, ca_17, ca_18, ca_19, ca_20, ca_21, ca_22, ca_23, ca_24, ca_25, ca_26, ca_27, ca_28, ca_29, ca_30, not_true_eq_false, not_false_eq_true, Int.reduceEq, Nat.reduceEqDiff, Nat.reduceLeDiff, rGcd, V.ty.injEq, eq_self, List.not_mem_nil, beq_self_eq_true, HO.lst.injEq, HO.tup.injEq, tFor_eq, iRng1, iList, iTup, nat10, tSeq, rIxA, rSetA, rIsN, rIsT, tTp, tLs, itsO_tup, itsO_lst, tyO_tup, tyO_lst, tyO_dK, tyN_non, tyN_bl, tyN_int, tyN_str, tyN_ref, tyNs_lt, isB, upd_same, upd_upd, sizeLine_eq, List.mem_cons, String.reduceBEq, String.reduceEq, Bool.or_false, Bool.or_true, Bool.and_false, Bool.false_or, Bool.and_self, Bool.false_and, Bool.not_false, Bool.not_true, List.any_cons, List.any_nil, atI_0, setI_0, atI_1, setI_1, atI_2, setI_2, atI_3, setI_3, atI_4, setI_4, atI_5, setI_5, atI_6, setI_6, tAsg, gName, tOp, tUn, tVar, tC, tCons, L2.tNil, tRet, tIfS, tTest, tCB, tCall, rI, rI0, rU, tNext, tB, tAnd, tOr, tNot, tAndV, tOrV, tNotV, tDrop, tIf, tPar, gSub, rIxL, rIxT, rEq, rNe, rSetL, tBits,
    L2.start, List.map_cons, List.map_nil, List.cons_append, List.nil_append, List.append_nil, List.length_cons, List.length_nil, List.replicate, Nat.reduceAdd, Nat.reduceSub, Nat.zero_add, List.getElem?_cons_zero, List.getElem?_cons_succ, List.set_cons_zero, List.set_cons_succ,
    Option.some.injEq, exists_eq_left', exists_eq_left, V.int.injEq, V.bl.injEq, V.ref.injEq, V.str.injEq, List.cons.injEq, reduceCtorEq, and_true, true_and, false_and, and_false, exists_false, or_false, false_or, or_true, true_or, exists_const, CMul, CDiv, CPow, and_assoc, exists_and_left, exists_and_right, Int.reducePow, Int.reduceNeg, Int.reduceLT, Int.reduceLE, Nat.reducePow, Nat.reduceLT, Int.reduceToNat, gt_iff_lt, ge_iff_le, decide_eq_true_eq, Bool.not_eq_true', decide_eq_false_iff_not, scal, ↓reduceIte, Bool.false_eq_true]
    refine ite2 (fun he => ?_) (fun he => ?_)
    · have S3 := S2.put (i' := i) (b' := b) (c' := c) (d' := d) (e' := e - 1) (f' := f) hi
      have o3 := (ob_none ks).trans S3.1
      simp only [o3, cx_K, decide_true, decide_false, reduceCtorEq, gTp, gCons, gNil, ca_0, ca_1, ca_2, ca_3, ca_4, ca_5, ca_6, ca_7, ca_8, ca_9, ca_10, ca_11, ca_12, ca_13, ca_14, ca_15, ca_16, ca_17, ca_18, ca_19, ca_20, ca_21, ca_22, ca_23, ca_24, ca_25, ca_26, ca_27, ca_28, ca_29, ca_30, not_true_eq_false, not_false_eq_true, Int.reduceEq, Nat.reduceEqDiff, Nat.reduceLeDiff, rGcd, V.ty.injEq, eq_self, List.not_mem_nil, beq_self_eq_true, HO.lst.injEq, HO.tup.injEq, tFor_eq, iRng1, iList, iTup, nat10, tSeq, rIxA, rSetA, rIsN, rIsT, tTp, tLs, itsO_tup, itsO_lst, tyO_tup, tyO_lst, tyO_dK, tyN_non, tyN_bl, tyN_int, tyN_str, tyN_ref, tyNs_lt, isB, upd_same, upd_upd, sizeLine_eq, List.mem_cons, String.reduceBEq, String.reduceEq, Bool.or_false, Bool.or_true, Bool.and_false, Bool.false_or, Bool.and_self, Bool.false_and, Bool.not_false, Bool.not_true, List.any_cons, List.any_nil, atI_0, setI_0, atI_1, setI_1, atI_2, setI_2, atI_3, setI_3, atI_4, setI_4, atI_5, setI_5, atI_6, setI_6, tAsg, gName, tOp, tUn, tVar, tC, tCons, L2.tNil, tRet, tIfS, tTest, tCB, tCall, rI, rI0, rU, tNext, tB, tAnd, tOr, tNot, tAndV, tOrV, tNotV, tDrop, tIf, tPar, gSub, rIxL, rIxT, rEq, rNe, rSetL, tBits,
    L2.start, List.map_cons, List.map_nil, List.cons_append, List.nil_append, List.append_nil, List.length_cons, List.length_nil, List.replicate, Nat.reduceAdd, Nat.reduceSub, Nat.zero_add, List.getElem?_cons_zero, List.getElem?_cons_succ, List.set_cons_zero, List.set_cons_succ,
    Option.some.injEq, exists_eq_left', exists_eq_left, V.int.injEq, V.bl.injEq, V.ref.injEq, V.str.injEq, List.cons.injEq, reduceCtorEq, and_true, true_and, false_and, and_false, exists_false, or_false, false_or, or_true, true_or, exists_const, CMul, CDiv, CPow, and_assoc, exists_and_left, exists_and_right, Int.reducePow, Int.reduceNeg, Int.reduceLT, Int.reduceLE, Nat.reducePow, Nat.reduceLT, Int.reduceToNat, gt_iff_lt, ge_iff_le, decide_eq_true_eq, Bool.not_eq_true', decide_eq_false_iff_not, scal, ↓reduceIte, Bool.false_eq_true]
      exact ⟨_, _, rfl, kp2.trans (Kp.put hs), _, _, _, _, _, _, _, _, S3⟩
    · exact ⟨_, _, rfl, kp2, _, _, _, _, _, _, _, _, S2⟩
  rintro σ' H3 ⟨x, n, rfl, kp3, sc, ns, i, b, c, d, e, f, S3⟩
  obtain ⟨hs, hsc, hne, hi, ks, ksc⟩ := id S3
  have o1 := (ob_none ks).trans hs
  simp only [o1, hs, cx_K, decide_true, decide_false, reduceCtorEq, gTp, gCons, gNil, ca_0, ca_1, ca_2, ca_3, ca_4, ca_5, ca_6, ca_7, ca_8, ca_9, ca_10, ca_11, ca_12, ca_13, ca_14, ca_15, ca_16, ca_17, ca_18, ca_19, ca_20, ca_21, ca_22, ca_23, ca_24, ca_25, ca_26, ca_27, ca_28, ca_29, ca_30, not_true_eq_false, not_false_eq_true, Int.reduceEq, Nat.reduceEqDiff, Nat.reduceLeDiff, rGcd, V.ty.injEq, eq_self, List.not_mem_nil, beq_self_eq_true, HO.lst.injEq, HO.tup.injEq, tFor_eq, iRng1, iList, iTup, nat10, tSeq, rIxA, rSetA, rIsN, rIsT, tTp, tLs, itsO_tup, itsO_lst, tyO_tup, tyO_lst, tyO_dK, tyN_non, tyN_bl, tyN_int, tyN_str, tyN_ref, tyNs_lt, isB, upd_same, upd_upd, sizeLine_eq, List.mem_cons, String.reduceBEq, String.reduceEq, Bool.or_false, Bool.or_true, Bool.and_false, Bool.false_or, Bool.and_self, Bool.false_and, Bool.not_false, Bool.not_true, List.any_cons, List.any_nil, atI_0, setI_0, atI_1, setI_1, atI_2, setI_2, atI_3, setI_3, atI_4, setI_4, atI_5, setI_5, atI_6, setI_6, tAsg, gName, tOp, tUn, tVar, tC, tCons, L2.tNil, tRet, tIfS, tTest, tCB, tCall, rI, rI0, rU, tNext, tB, tAnd, tOr, tNot, tAndV, tOrV, tNotV, tDrop, tIf, tPar, gSub, rIxL, rIxT, rEq, rNe, rSetL, tBits,
    L2.start, List.map_cons, List.map_nil, List.cons_append, List.nil_append, List.append_nil, List.length_cons, List.length_nil, List.replicate, Nat.reduceAdd, Nat.reduceSub, Nat.zero_add, List.getElem?_cons_zero, List.getElem?_cons_succ, List.set_cons_zero, List.set_cons_succ,
    Option.some.injEq, exists_eq_left', exists_eq_left, V.int.injEq, V.bl.injEq, V.ref.injEq, V.str.injEq, List.cons.injEq, reduceCtorEq, and_true, true_and, false_and, and_false, exists_false, or_false, false_or, or_true, true_or, exists_const, CMul, CDiv, CPow, and_assoc, exists_and_left, exists_and_right, Int.reducePow, Int.reduceNeg, Int.reduceLT, Int.reduceLE, Nat.reducePow, Nat.reduceLT, Int.reduceToNat, gt_iff_lt, ge_iff_le, decide_eq_true_eq, Bool.not_eq_true', decide_eq_false_iff_not, scal, ↓reduceIte, Bool.false_eq_true]
  have hbits : Builtin.Int.intBits m ≤ 200 := bits_le (by omega)
  refine ⟨by omega, by omega, forI_range (TakeC s m x n H3) ⟨0, none, rfl, rfl⟩ ?_ ?_⟩
  · rintro k σ H' hk ⟨v, y, rfl, rfl⟩
    simp only [o1, hs, cx_K, decide_true, decide_false, reduceCtorEq, gTp, gCons, gNil, ca_0, ca_1, ca_2, ca_3, ca_4, ca_5, ca_6, ca_7, ca_8, ca_9, ca_10, ca_11, ca_12, ca_13, ca_14, ca_15, ca_16, ca_17, ca_18, ca_19, ca_20, ca_21, ca_22, ca_23, ca_24, ca_25, ca_26, ca_27, ca_28, ca_29, ca_30, not_true_eq_false, not_false_eq_true, Int.reduceEq, Nat.reduceEqDiff, Nat.reduceLeDiff, rGcd, V.ty.injEq, eq_self, List.not_mem_nil, beq_self_eq_true, HO.lst.injEq, HO.tup.injEq, tFor_eq, iRng1, iList, iTup, nat10, tSeq, rIxA, rSetA, rIsN, rIsT, tTp, tLs, itsO_tup, itsO_lst, tyO_tup, tyO_lst, tyO_dK, tyN_non, tyN_bl, tyN_int, tyN_str, tyN_ref, tyNs_lt, isB, upd_same, upd_upd, sizeLine_eq, List.mem_cons, String.reduceBEq, String.reduceEq, Bool.or_false, Bool.or_true, Bool.and_false, Bool.false_or, Bool.and_self, Bool.false_and, Bool.not_false, Bool.not_true, List.any_cons, List.any_nil, atI_0, setI_0, atI_1, setI_1, atI_2, setI_2, atI_3, setI_3, atI_4, setI_4, atI_5, setI_5, atI_6, setI_6, tAsg, gName, tOp, tUn, tVar, tC, tCons, L2.tNil, tRet, tIfS, tTest, tCB, tCall, rI, rI0, rU, tNext, tB, tAnd, tOr, tNot, tAndV, tOrV, tNotV, tDrop, tIf, tPar, gSub, rIxL, rIxT, rEq, rNe, rSetL, tBits,
    L2.start, List.map_cons, List.map_nil, List.cons_append, List.nil_append, List.append_nil, List.length_cons, List.length_nil, List.replicate, Nat.reduceAdd, Nat.reduceSub, Nat.zero_add, List.getElem?_cons_zero, List.getElem?_cons_succ, List.set_cons_zero, List.set_cons_succ,
    Option.some.injEq, exists_eq_left', exists_eq_left, V.int.injEq, V.bl.injEq, V.ref.injEq, V.str.injEq, List.cons.injEq, reduceCtorEq, and_true, true_and, false_and, and_false, exists_false, or_false, false_or, or_true, true_or, exists_const, CMul, CDiv, CPow, and_assoc, exists_and_left, exists_and_right, Int.reducePow, Int.reduceNeg, Int.reduceLT, Int.reduceLE, Nat.reducePow, Nat.reduceLT, Int.reduceToNat, gt_iff_lt, ge_iff_le, decide_eq_true_eq, Bool.not_eq_true', decide_eq_false_iff_not, scal, ↓reduceIte, Bool.false_eq_true]
    refine ⟨_, _, rfl, fun r => ?_⟩
    simp only [cx_K, decide_true, decide_false, reduceCtorEq, gTp, gCons, gNil, ca_0, ca_1, ca_2, ca_3, ca_4, ca_5, ca_6, ca_7, ca_8, ca_9, ca_10, ca_11, ca_12, ca_13, ca_14, ca_15, ca_16, ca_17, ca_18, ca_19, ca_20, ca_21, ca_22, ca_23, ca_24, ca_25, ca_26, ca_27, ca_28, ca_29, ca_30, not_true_eq_false, not_false_eq_true, Int.reduceEq, Nat.reduceEqDiff, Nat.reduceLeDiff, rGcd, V.ty.injEq, eq_self, List.not_mem_nil, beq_self_eq_true, HO.lst.injEq, HO.tup.injEq, tFor_eq, iRng1, iList, iTup, nat10, tSeq, rIxA, rSetA, rIsN, rIsT, tTp, tLs, itsO_tup, itsO_lst, tyO_tup, tyO_lst, tyO_dK, tyN_non, tyN_bl, tyN_int, tyN_str, tyN_ref, tyNs_lt, isB, upd_same, upd_upd, sizeLine_eq, List.mem_cons, String.reduceBEq, String.reduceEq, Bool.or_false, Bool.or_true, Bool.and_false, Bool.false_or, Bool.and_self, Bool.false_and, Bool.not_false, Bool.not_true, List.any_cons, List.any_nil, atI_0, setI_0, atI_1, setI_1, atI_2, setI_2, atI_3, setI_3, atI_4, setI_4, atI_5, setI_5, atI_6, setI_6, tAsg, gName, tOp, tUn, tVar, tC, tCons, L2.tNil, tRet, tIfS, tTest, tCB, tCall, rI, rI0, rU, tNext, tB, tAnd, tOr, tNot, tAndV, tOrV, tNotV, tDrop, tIf, tPar, gSub, rIxL, rIxT, rEq, rNe, rSetL, tBits,
    L2.start, List.map_cons, List.map_nil, List.cons_append, List.nil_append, List.append_nil, List.length_cons, List.length_nil, List.replicate, Nat.reduceAdd, Nat.reduceSub, Nat.zero_add, List.getElem?_cons_zero, List.getElem?_cons_succ, List.set_cons_zero, List.set_cons_succ,
    Option.some.injEq, exists_eq_left', exists_eq_left, V.int.injEq, V.bl.injEq, V.ref.injEq, V.str.injEq, List.cons.injEq, reduceCtorEq, and_true, true_and, false_and, and_false, exists_false, or_false, false_or, or_true, true_or, exists_const, CMul, CDiv, CPow, and_assoc, exists_and_left, exists_and_right, Int.reducePow, Int.reduceNeg, Int.reduceLT, Int.reduceLE, Nat.reducePow, Nat.reduceLT, Int.reduceToNat, gt_iff_lt, ge_iff_le, decide_eq_true_eq, Bool.not_eq_true', decide_eq_false_iff_not, scal, ↓reduceIte, Bool.false_eq_true]
    exact ⟨_, _, rfl, rfl⟩
  · rintro σ H' ⟨v, y, rfl, rfl⟩
    simp only [cx_K, decide_true, decide_false, reduceCtorEq, gTp, gCons, gNil, ca_0, ca_1, ca_2, ca_3, ca_4, ca_5, ca_6, ca_7, ca_8, ca_9, ca_10, ca_11, ca_12, ca_13, ca_14, ca_15, ca_16, ca_17, ca_18, ca_19, ca_20, ca_21, ca_22, ca_23, ca_24, ca_25, ca_26, ca_27, ca_28, ca_29, ca_30, not_true_eq_false, not_false_eq_true, Int.reduceEq, Nat.reduceEqDiff, Nat.reduceLeDiff, rGcd, V.ty.injEq, eq_self, List.not_mem_nil, beq_self_eq_true, HO.lst.injEq, HO.tup.injEq, tFor_eq, iRng1, iList, iTup, nat10, tSeq, rIxA, rSetA, rIsN, rIsT, tTp, tLs, itsO_tup, itsO_lst, tyO_tup, tyO_lst, tyO_dK, tyN_non, tyN_bl, tyN_int, tyN_str, tyN_ref, tyNs_lt, isB, upd_same, upd_upd, sizeLine_eq, List.mem_cons, String.reduceBEq, String.reduceEq, Bool.or_false, Bool.or_true, Bool.and_false, Bool.false_or, Bool.and_self, Bool.false_and, Bool.not_false, Bool.not_true, List.any_cons, List.any_nil, atI_0, setI_0, atI_1, setI_1, atI_2, setI_2, atI_3, setI_3, atI_4, setI_4, atI_5, setI_5, atI_6, setI_6, tAsg, gName, tOp, tUn, tVar, tC, tCons, L2.tNil, tRet, tIfS, tTest, tCB, tCall, rI, rI0, rU, tNext, tB, tAnd, tOr, tNot, tAndV, tOrV, tNotV, tDrop, tIf, tPar, gSub, rIxL, rIxT, rEq, rNe, rSetL, tBits,
    L2.start, List.map_cons, List.map_nil, List.cons_append, List.nil_append, List.append_nil, List.length_cons, List.length_nil, List.replicate, Nat.reduceAdd, Nat.reduceSub, Nat.zero_add, List.getElem?_cons_zero, List.getElem?_cons_succ, List.set_cons_zero, List.set_cons_succ,
    Option.some.injEq, exists_eq_left', exists_eq_left, V.int.injEq, V.bl.injEq, V.ref.injEq, V.str.injEq, List.cons.injEq, reduceCtorEq, and_true, true_and, false_and, and_false, exists_false, or_false, false_or, or_true, true_or, exists_const, CMul, CDiv, CPow, and_assoc, exists_and_left, exists_and_right, Int.reducePow, Int.reduceNeg, Int.reduceLT, Int.reduceLE, Nat.reducePow, Nat.reduceLT, Int.reduceToNat, gt_iff_lt, ge_iff_le, decide_eq_true_eq, Bool.not_eq_true', decide_eq_false_iff_not, scal, ↓reduceIte, Bool.false_eq_true]
    refine ⟨hm0, q _ _ ?_ (.inl ?_) kp3 ⟨_, _, _, _, _, _, _, _, S3⟩⟩
    · rw [Int.fmod_eq_emod_of_nonneg v (by omega)]
      exact Int.emod_nonneg _ hm0
    · rw [Int.fmod_eq_emod_of_nonneg v (by omega)]
      exact Int.emod_lt_of_pos _ (by omega)
end
end My

namespace My
open PySem PySem.Spec PyProof.Rows L2
section
variable {P : Program} {w : World} {K : PySem.W.Frag} {mg : Str → Option Value} {base : Heap}
theorem abs_if (n : Int) : (if n < 0 then -n else n) = (n.natAbs : Int) := by split <;> omega
def spGcd : Sp := fun vs H Q _ => ∃ a b : Int, vs = [.int a, .int b] ∧ Q (.int ((Int.gcd a b : Nat) : Int)) H
def GcdW (a b : Int) (H : Hp) (σ : L2.St) (H' : Hp) : Prop := ∃ l r : Int, σ = [some (.int l), some (.int r)] ∧ H' = H ∧ 0 ≤ l ∧ 0 ≤ r ∧ Int.gcd l r = Int.gcd a b
def GcdM (σ : L2.St) (_ : Hp) : Nat := match σ with
  | [_, some (.int r)] => r.toNat
  | _ => 0
abbrev sGcd : Stmt := topS 40
theorem scGcd : FnScope ["_law_left", "_law_right"] ["_law_left", "_law_right"] (defScope sGcd) := ⟨rfl, rfl, rfl, by decide +kernel, rfl, by decide +kernel, by decide +kernel⟩
theorem k_Gcd (T : Bt K mg) (D : Dfn K mg "_law_gcd" sGcd ["_law_left", "_law_right"]) : Kn P w K mg base 1 "_law_gcd" ["_law_left", "_law_right"] spGcd := by
  refine Kn.mk' D scGcd (fun vs H Q E h => ?_) (fun f cdv A outer s H vs Q E hr h => ?_)
  · obtain ⟨a, b, rfl, _⟩ := h
    rfl
  obtain ⟨a, b, rfl, q⟩ := h
  refine ⟨_, (pss_cons (ps_set (i := 0) scGcd.nd rfl (.inl rfl) (pe_callB call_abs (by rfl) T.b_abs (by decide +kernel) (pa_cons (pv 0) pa_nil)))
      (pss_cons (ps_set (i := 1) scGcd.nd rfl (.inl rfl) (pe_callB call_abs (by rfl) T.b_abs (by decide +kernel) (pa_cons (pv 1) pa_nil)))
      (pss_cons (ps_while PassesOwn.never (pt_cmpR op_gt (pv 1) pe_int (nomark _)) (pss_one (ps_par (i := 0) (j := 1) (by rfl) scGcd.nd rfl rfl (by decide) rfl rfl (pa_cons (pv 1) (pa_cons (pe_op op_modN (pe_callTy call_int1 (by rfl) T.b_int (by decide +kernel) (pa_cons (pv 0) pa_nil)) (pv 1)) pa_nil)) (by rfl))))
      (pss_one (ps_ret (pv 0)))))), ?_⟩
  simp only [abs_if, cx_K, decide_true, decide_false, reduceCtorEq, gTp, gCons, gNil, ca_0, ca_1, ca_2, ca_3, ca_4, ca_5, ca_6, ca_7, ca_8, ca_9, ca_10, ca_11, ca_12, ca_13, ca_14, ca_15, ca_16, ca_17, ca_18, ca_19, ca_20, ca_21, ca_22, ca_23, ca_24, ca_25, ca_26, ca_27, ca_28, ca_29, ca_30, not_true_eq_false, not_false_eq_true, Int.reduceEq, Nat.reduceEqDiff, Nat.reduceLeDiff, rGcd, V.ty.injEq, eq_self, List.not_mem_nil, beq_self_eq_true, HO.lst.injEq, HO.tup.injEq, tFor_eq, iRng1, iList, iTup, nat10, tSeq, rIxA, rSetA, rIsN, rIsT, tTp, tLs, itsO_tup, itsO_lst, tyO_tup, tyO_lst, tyO_dK, tyN_non, tyN_bl, tyN_int, tyN_str, tyN_ref, tyNs_lt, isB, upd_same, upd_upd, sizeLine_eq, List.mem_cons, String.reduceBEq, String.reduceEq, Bool.or_false, Bool.or_true, Bool.and_false, Bool.false_or, Bool.and_self, Bool.false_and, Bool.not_false, Bool.not_true, List.any_cons, List.any_nil, atI_0, setI_0, atI_1, setI_1, atI_2, setI_2, atI_3, setI_3, atI_4, setI_4, atI_5, setI_5, atI_6, setI_6, tAsg, gName, tOp, tUn, tVar, tC, tCons, L2.tNil, tRet, tIfS, tTest, tCB, tCall, rI, rI0, rU, tNext, tB, tAnd, tOr, tNot, tAndV, tOrV, tNotV, tDrop, tIf, tPar, gSub, rIxL, rIxT, rEq, rNe, rSetL, tBits,
    L2.start, List.map_cons, List.map_nil, List.cons_append, List.nil_append, List.append_nil, List.length_cons, List.length_nil, List.replicate, Nat.reduceAdd, Nat.reduceSub, Nat.zero_add, List.getElem?_cons_zero, List.getElem?_cons_succ, List.set_cons_zero, List.set_cons_succ,
    Option.some.injEq, exists_eq_left', exists_eq_left, V.int.injEq, V.bl.injEq, V.ref.injEq, V.str.injEq, List.cons.injEq, reduceCtorEq, and_true, true_and, false_and, and_false, exists_false, or_false, false_or, or_true, true_or, exists_const, CMul, CDiv, CPow, and_assoc, exists_and_left, exists_and_right, Int.reducePow, Int.reduceNeg, Int.reduceLT, Int.reduceLE, Nat.reducePow, Nat.reduceLT, Int.reduceToNat, gt_iff_lt, ge_iff_le, decide_eq_true_eq, Bool.not_eq_true', decide_eq_false_iff_not, scal, ↓reduceIte, Bool.false_eq_true]
  refine while_by (GcdW a b H) GcdM ⟨_, _, rfl, rfl, by omega, by omega, rfl⟩ ?_ ?_
  · rintro σ H' ⟨l, r, rfl, rfl, hl, hr, e⟩
    simp only [cx_K, decide_true, decide_false, reduceCtorEq, gTp, gCons, gNil, ca_0, ca_1, ca_2, ca_3, ca_4, ca_5, ca_6, ca_7, ca_8, ca_9, ca_10, ca_11, ca_12, ca_13, ca_14, ca_15, ca_16, ca_17, ca_18, ca_19, ca_20, ca_21, ca_22, ca_23, ca_24, ca_25, ca_26, ca_27, ca_28, ca_29, ca_30, not_true_eq_false, not_false_eq_true, Int.reduceEq, Nat.reduceEqDiff, Nat.reduceLeDiff, rGcd, V.ty.injEq, eq_self, List.not_mem_nil, beq_self_eq_true, HO.lst.injEq, HO.tup.injEq, tFor_eq, iRng1, iList, iTup, nat10, tSeq, rIxA, rSetA, rIsN, rIsT, tTp, tLs, itsO_tup, itsO_lst, tyO_tup, tyO_lst, tyO_dK, tyN_non, tyN_bl, tyN_int, tyN_str, tyN_ref, tyNs_lt, isB, upd_same, upd_upd, sizeLine_eq, List.mem_cons, String.reduceBEq, String.reduceEq, Bool.or_false, Bool.or_true, Bool.and_false, Bool.false_or, Bool.and_self, Bool.false_and, Bool.not_false, Bool.not_true, List.any_cons, List.any_nil, atI_0, setI_0, atI_1, setI_1, atI_2, setI_2, atI_3, setI_3, atI_4, setI_4, atI_5, setI_5, atI_6, setI_6, tAsg, gName, tOp, tUn, tVar, tC, tCons, L2.tNil, tRet, tIfS, tTest, tCB, tCall, rI, rI0, rU, tNext, tB, tAnd, tOr, tNot, tAndV, tOrV, tNotV, tDrop, tIf, tPar, gSub, rIxL, rIxT, rEq, rNe, rSetL, tBits,
    L2.start, List.map_cons, List.map_nil, List.cons_append, List.nil_append, List.append_nil, List.length_cons, List.length_nil, List.replicate, Nat.reduceAdd, Nat.reduceSub, Nat.zero_add, List.getElem?_cons_zero, List.getElem?_cons_succ, List.set_cons_zero, List.set_cons_succ,
    Option.some.injEq, exists_eq_left', exists_eq_left, V.int.injEq, V.bl.injEq, V.ref.injEq, V.str.injEq, List.cons.injEq, reduceCtorEq, and_true, true_and, false_and, and_false, exists_false, or_false, false_or, or_true, true_or, exists_const, CMul, CDiv, CPow, and_assoc, exists_and_left, exists_and_right, Int.reducePow, Int.reduceNeg, Int.reduceLT, Int.reduceLE, Nat.reducePow, Nat.reduceLT, Int.reduceToNat, gt_iff_lt, ge_iff_le, decide_eq_true_eq, Bool.not_eq_true', decide_eq_false_iff_not, scal, ↓reduceIte, Bool.false_eq_true]
    refine ite2 (fun h => ?_) (fun h => ?_)
    · refine ⟨by omega, ⟨_, _, rfl, rfl, hr, ?_, ?_⟩, ?_⟩
      · rw [Int.fmod_eq_emod_of_nonneg l hr]
        exact Int.emod_nonneg _ (by omega)
      · rw [Int.fmod_eq_emod_of_nonneg l hr, ← e]
        show Nat.gcd r.natAbs (l % r).natAbs = Nat.gcd l.natAbs r.natAbs
        rw [Int.natAbs_emod_of_nonneg hl, Nat.gcd_comm l.natAbs, Nat.gcd_rec r.natAbs l.natAbs, Nat.gcd_comm]
      · show (l.fmod r).toNat < r.toNat
        rw [Int.fmod_eq_emod_of_nonneg l hr]
        have := Int.emod_lt_of_pos l h
        omega
    · have hr0 : r = 0 := by omega
      subst hr0
      have e2 : l = ((Int.gcd a b : Nat) : Int) := by
        rw [← e, Int.gcd_zero_right]
        omega
      rw [e2]
      exact q
  · rintro σ H' Q' Q2 hq ⟨v, e, i, j, h1, h2, k, ek, h⟩
    exact ⟨v, e, i, j, h1, h2, k, ek, hq _ _ h⟩
/-- the law's own lowest terms; 0 beneath gives 0 -/
def Lw (q : Qt) (t b : Int) : Prop := (b = 0 → q = (0, 1)) ∧ (b ≠ 0 → Is q t b)
/-- hands back a fraction, all else as it was -/
def Gv (K : PySem.W.Frag) (H : Hp) (Q : VK) (q : Qt) : Prop := ∀ (p : Addr) (H' : Hp), Same H H' → ob K H' p = some (frt q) → Q (.ref p) H'
theorem Gv.new {K : PySem.W.Frag} {H : Hp} {Q : VK} {q : Qt} (h : Gv K H Q q) {p : Addr} (hp : H p = none) (kp : K.lookup p = none) : Q (.ref p) (upd H p (.tup [.int q.1, .int q.2])) := h p _ (Same.new hp _) (ob_new kp)
def spLowest (K : PySem.W.Frag) : Sp := fun vs H Q _ => ∃ t b : Int, vs = [.int t, .int b] ∧ b.natAbs < 2 ^ 8000 ∧ ∀ q, Lw q t b → Gv K H Q q
abbrev sLowest : Stmt := topS 41
theorem scLowest : FnScope ["_law_top", "_law_bottom", "_law_common"] ["_law_top", "_law_bottom"] (defScope sLowest) := ⟨rfl, rfl, rfl, by decide +kernel, rfl, by decide +kernel, by decide +kernel⟩
theorem k_Lowest (T : Bt K mg) (D : Dfn K mg "_law_lowest" sLowest ["_law_top", "_law_bottom"]) (d__law_gcd : Kn P w K mg base 1 "_law_gcd" ["_law_left", "_law_right"] spGcd) : Kn P w K mg base 2 "_law_lowest" ["_law_top", "_law_bottom"] (spLowest K) := by
  refine Kn.mk' D scLowest (fun vs H Q E h => ?_) (fun f cdv A outer s H vs Q E hr h => ?_)
  · obtain ⟨t, b, rfl, _⟩ := h
    rfl
  obtain ⟨t, b, rfl, hz, q⟩ := h
  refine ⟨_, (pss_cons (ps_if (pt_cmpR op_eq (pv 1) pe_int (nomark _)) (pss_one (ps_ret (pe_tp (pa_cons pe_int (pa_cons pe_int pa_nil))))) pss_nil)
      (pss_cons (ps_if (pt_cmpR op_lt (pv 1) pe_int (nomark _)) (pss_cons (ps_set (i := 0) scLowest.nd rfl (.inl rfl) (pe_un un_neg (pv 0)))
      (pss_one (ps_set (i := 1) scLowest.nd rfl (.inl rfl) (pe_un un_neg (pv 1))))) pss_nil)
      (pss_cons (ps_set (i := 2) scLowest.nd rfl (.inl rfl) (pe_kn d__law_gcd hr (by rfl) (pa_cons (pv 0) (pa_cons (pv 1) pa_nil))))
      (pss_one (ps_ret (pe_tp (pa_cons (pe_op op_fdivW (pv 0) (pv 2)) (pa_cons (pe_op op_fdivW (pv 1) (pv 2)) pa_nil)))))))), ?_⟩
  simp only [cx_K, decide_true, decide_false, reduceCtorEq, gTp, gCons, gNil, ca_0, ca_1, ca_2, ca_3, ca_4, ca_5, ca_6, ca_7, ca_8, ca_9, ca_10, ca_11, ca_12, ca_13, ca_14, ca_15, ca_16, ca_17, ca_18, ca_19, ca_20, ca_21, ca_22, ca_23, ca_24, ca_25, ca_26, ca_27, ca_28, ca_29, ca_30, not_true_eq_false, not_false_eq_true, Int.reduceEq, Nat.reduceEqDiff, Nat.reduceLeDiff, rGcd, V.ty.injEq, eq_self, List.not_mem_nil, beq_self_eq_true, HO.lst.injEq, HO.tup.injEq, tFor_eq, iRng1, iList, iTup, nat10, tSeq, rIxA, rSetA, rIsN, rIsT, tTp, tLs, itsO_tup, itsO_lst, tyO_tup, tyO_lst, tyO_dK, tyN_non, tyN_bl, tyN_int, tyN_str, tyN_ref, tyNs_lt, isB, upd_same, upd_upd, sizeLine_eq, List.mem_cons, String.reduceBEq, String.reduceEq, Bool.or_false, Bool.or_true, Bool.and_false, Bool.false_or, Bool.and_self, Bool.false_and, Bool.not_false, Bool.not_true, List.any_cons, List.any_nil, atI_0, setI_0, atI_1, setI_1, atI_2, setI_2, atI_3, setI_3, atI_4, setI_4, atI_5, setI_5, atI_6, setI_6, tAsg, gName, tOp, tUn, tVar, tC, tCons, L2.tNil, tRet, tIfS, tTest, tCB, tCall, rI, rI0, rU, tNext, tB, tAnd, tOr, tNot, tAndV, tOrV, tNotV, tDrop, tIf, tPar, gSub, rIxL, rIxT, rEq, rNe, rSetL, tBits,
    L2.start, List.map_cons, List.map_nil, List.cons_append, List.nil_append, List.append_nil, List.length_cons, List.length_nil, List.replicate, Nat.reduceAdd, Nat.reduceSub, Nat.zero_add, List.getElem?_cons_zero, List.getElem?_cons_succ, List.set_cons_zero, List.set_cons_succ,
    Option.some.injEq, exists_eq_left', exists_eq_left, V.int.injEq, V.bl.injEq, V.ref.injEq, V.str.injEq, List.cons.injEq, reduceCtorEq, and_true, true_and, false_and, and_false, exists_false, or_false, false_or, or_true, true_or, exists_const, CMul, CDiv, CPow, and_assoc, exists_and_left, exists_and_right, Int.reducePow, Int.reduceNeg, Int.reduceLT, Int.reduceLE, Nat.reducePow, Nat.reduceLT, Int.reduceToNat, gt_iff_lt, ge_iff_le, decide_eq_true_eq, Bool.not_eq_true', decide_eq_false_iff_not, scal, ↓reduceIte, Bool.false_eq_true]
  refine ite2 (fun h => ?_) (fun h => ?_)
  · exact fun p hp kp => (q (0, 1) ⟨fun _ => rfl, fun z => absurd h z⟩).new hp kp
  have key : ∀ t' b' : Int, 0 < b' → b'.natAbs < 2 ^ 8000 → (∀ q, Is q t' b' → Gv K H Q q) → CDivW t' ((Int.gcd t' b' : Nat) : Int) ∧ CDivW b' ((Int.gcd t' b' : Nat) : Int) ∧ ∀ p, H p = none → K.lookup p = none → Q (.ref p) (upd H p (.tup [.int (t' / ((Int.gcd t' b' : Nat) : Int)), .int (b' / ((Int.gcd t' b' : Nat) : Int))])) := fun t' b' h0 hz hq => by
    have g0 := gcd_pos (t := t') (b := b') (by omega)
    have g1 := gcd_le (t := t') (b := b') (by omega)
    have g2 : ((Int.gcd t' b' : Nat) : Int).natAbs < 2 ^ 8000 := by rw [Int.natAbs_natCast]; omega
    exact ⟨wide_div (b := 8000) (by omega) g2 (by omega) (by omega), wide_div (b := 8000) (by omega) g2 (by omega) (by omega), fun p hp kp => (hq _ (is_div h0)).new hp kp⟩
  refine ite2 (fun hb => ?_) (fun hb => ?_)
  · have k := key (-t) (-b) (by omega) (by rw [Int.natAbs_neg]; exact hz) fun z hz => q z ⟨fun e => absurd e h, fun _ => is_neg hz⟩
    refine ⟨_, _, rfl, ?_⟩
    simp only [cx_K, decide_true, decide_false, reduceCtorEq, gTp, gCons, gNil, ca_0, ca_1, ca_2, ca_3, ca_4, ca_5, ca_6, ca_7, ca_8, ca_9, ca_10, ca_11, ca_12, ca_13, ca_14, ca_15, ca_16, ca_17, ca_18, ca_19, ca_20, ca_21, ca_22, ca_23, ca_24, ca_25, ca_26, ca_27, ca_28, ca_29, ca_30, not_true_eq_false, not_false_eq_true, Int.reduceEq, Nat.reduceEqDiff, Nat.reduceLeDiff, rGcd, V.ty.injEq, eq_self, List.not_mem_nil, beq_self_eq_true, HO.lst.injEq, HO.tup.injEq, tFor_eq, iRng1, iList, iTup, nat10, tSeq, rIxA, rSetA, rIsN, rIsT, tTp, tLs, itsO_tup, itsO_lst, tyO_tup, tyO_lst, tyO_dK, tyN_non, tyN_bl, tyN_int, tyN_str, tyN_ref, tyNs_lt, isB, upd_same, upd_upd, sizeLine_eq, List.mem_cons, String.reduceBEq, String.reduceEq, Bool.or_false, Bool.or_true, Bool.and_false, Bool.false_or, Bool.and_self, Bool.false_and, Bool.not_false, Bool.not_true, List.any_cons, List.any_nil, atI_0, setI_0, atI_1, setI_1, atI_2, setI_2, atI_3, setI_3, atI_4, setI_4, atI_5, setI_5, atI_6, setI_6, tAsg, gName, tOp, tUn, tVar, tC, tCons, L2.tNil, tRet, tIfS, tTest, tCB, tCall, rI, rI0, rU, tNext, tB, tAnd, tOr, tNot, tAndV, tOrV, tNotV, tDrop, tIf, tPar, gSub, rIxL, rIxT, rEq, rNe, rSetL, tBits,
    L2.start, List.map_cons, List.map_nil, List.cons_append, List.nil_append, List.append_nil, List.length_cons, List.length_nil, List.replicate, Nat.reduceAdd, Nat.reduceSub, Nat.zero_add, List.getElem?_cons_zero, List.getElem?_cons_succ, List.set_cons_zero, List.set_cons_succ,
    Option.some.injEq, exists_eq_left', exists_eq_left, V.int.injEq, V.bl.injEq, V.ref.injEq, V.str.injEq, List.cons.injEq, reduceCtorEq, and_true, true_and, false_and, and_false, exists_false, or_false, false_or, or_true, true_or, exists_const, CMul, CDiv, CPow, and_assoc, exists_and_left, exists_and_right, Int.reducePow, Int.reduceNeg, Int.reduceLT, Int.reduceLE, Nat.reducePow, Nat.reduceLT, Int.reduceToNat, gt_iff_lt, ge_iff_le, decide_eq_true_eq, Bool.not_eq_true', decide_eq_false_iff_not, scal, ↓reduceIte, Bool.false_eq_true]
    exact k
  · have k := key t b (by omega) hz fun z hz => q z ⟨fun e => absurd e h, fun _ => hz⟩
    refine ⟨_, _, rfl, ?_⟩
    simp only [cx_K, decide_true, decide_false, reduceCtorEq, gTp, gCons, gNil, ca_0, ca_1, ca_2, ca_3, ca_4, ca_5, ca_6, ca_7, ca_8, ca_9, ca_10, ca_11, ca_12, ca_13, ca_14, ca_15, ca_16, ca_17, ca_18, ca_19, ca_20, ca_21, ca_22, ca_23, ca_24, ca_25, ca_26, ca_27, ca_28, ca_29, ca_30, not_true_eq_false, not_false_eq_true, Int.reduceEq, Nat.reduceEqDiff, Nat.reduceLeDiff, rGcd, V.ty.injEq, eq_self, List.not_mem_nil, beq_self_eq_true, HO.lst.injEq, HO.tup.injEq, tFor_eq, iRng1, iList, iTup, nat10, tSeq, rIxA, rSetA, rIsN, rIsT, tTp, tLs, itsO_tup, itsO_lst, tyO_tup, tyO_lst, tyO_dK, tyN_non, tyN_bl, tyN_int, tyN_str, tyN_ref, tyNs_lt, isB, upd_same, upd_upd, sizeLine_eq, List.mem_cons, String.reduceBEq, String.reduceEq, Bool.or_false, Bool.or_true, Bool.and_false, Bool.false_or, Bool.and_self, Bool.false_and, Bool.not_false, Bool.not_true, List.any_cons, List.any_nil, atI_0, setI_0, atI_1, setI_1, atI_2, setI_2, atI_3, setI_3, atI_4, setI_4, atI_5, setI_5, atI_6, setI_6, tAsg, gName, tOp, tUn, tVar, tC, tCons, L2.tNil, tRet, tIfS, tTest, tCB, tCall, rI, rI0, rU, tNext, tB, tAnd, tOr, tNot, tAndV, tOrV, tNotV, tDrop, tIf, tPar, gSub, rIxL, rIxT, rEq, rNe, rSetL, tBits,
    L2.start, List.map_cons, List.map_nil, List.cons_append, List.nil_append, List.append_nil, List.length_cons, List.length_nil, List.replicate, Nat.reduceAdd, Nat.reduceSub, Nat.zero_add, List.getElem?_cons_zero, List.getElem?_cons_succ, List.set_cons_zero, List.set_cons_succ,
    Option.some.injEq, exists_eq_left', exists_eq_left, V.int.injEq, V.bl.injEq, V.ref.injEq, V.str.injEq, List.cons.injEq, reduceCtorEq, and_true, true_and, false_and, and_false, exists_false, or_false, false_or, or_true, true_or, exists_const, CMul, CDiv, CPow, and_assoc, exists_and_left, exists_and_right, Int.reducePow, Int.reduceNeg, Int.reduceLT, Int.reduceLE, Nat.reducePow, Nat.reduceLT, Int.reduceToNat, gt_iff_lt, ge_iff_le, decide_eq_true_eq, Bool.not_eq_true', decide_eq_false_iff_not, scal, ↓reduceIte, Bool.false_eq_true]
    exact k
end
end My

namespace My
open PySem PySem.Spec PyProof.Rows L2
section
variable {P : Program} {w : World} {K : PySem.W.Frag} {mg : Str → Option Value} {base : Heap}
end
structure DfnD (K : PySem.W.Frag) (mg : Str → Option Value) (x : Str) (st : Stmt) (ps : List Str) : Prop where
  ex : ∃ f fd dvs, FunD K x x (defArgs st) (defBody st) (defScope st) dvs [] f fd ∧ mg x = some (.ref f) ∧ Binds K fd ps []
theorem Kn.mkD {P : Program} {w : World} {K : PySem.W.Frag} {mg : Str → Option Value} {base : Heap} {x : Str} {st : Stmt} {N ps : List Str} {k : Nat} {sp : Sp} (D : DfnD K mg x st ps) (S : FnScope N ps (defScope st)) (len : ∀ vs H Q E, sp vs H Q E → vs.length = ps.length)
    (hbody : ∀ (f : Addr) (cdv : Value) (A : Around) (outer : List Env) (s : Shared) (H : Hp) (vs : List V) (Q : VK) (E : XK), Room k (A.deeper (envOfC x (defScope st) s.heap.objs.size f cdv)) → sp vs H Q E →
      ∃ t, PSs (cxOf CX0 P w K mg base N x (defScope st) f cdv A outer s H E).nox (defBody st) t ∧ t { nx := fun _ H' => Q .non H', rt := Q } (start N vs) H) : Kn P w K mg base (k + 1) x ps sp := by
  obtain ⟨f, fd, dvs, F, m, b⟩ := D.ex
  exact ⟨f, fd, m, F.kp, b, F.ok S len fun cdv A outer s H vs Q E hr h => let ⟨t, a, c⟩ := hbody f cdv A outer s H vs Q E hr h; ⟨t, a.nox, c⟩⟩
section
variable {P : Program} {w : World} {K : PySem.W.Frag} {mg : Str → Option Value} {base : Heap}
def spRequire : Sp := fun vs H Q _ => ∃ x : V, vs = [.bl true, x] ∧ Q .non H
abbrev sRequire : Stmt := topS 15
theorem scRequire : FnScope ["well_formed", "what"] ["well_formed", "what"] (defScope sRequire) := ⟨rfl, rfl, rfl, by decide +kernel, rfl, by decide +kernel, by decide +kernel⟩
theorem k_Require (T : Bt K mg) (D : Dfn K mg "require" sRequire ["well_formed", "what"]) : Kn P w K mg base 1 "require" ["well_formed", "what"] spRequire := by
  refine Kn.mk' D scRequire (fun vs H Q E h => ?_) (fun f cdv A outer s H vs Q E hr h => ?_)
  · obtain ⟨x, rfl, _⟩ := h
    rfl
  obtain ⟨x, rfl, q⟩ := h
  refine ⟨_, (pss_one (ps_if (pt_not (pt_val (pv 0))) (pss_one ps_never) pss_nil)), ?_⟩
  simp only [cx_K, decide_true, decide_false, reduceCtorEq, gTp, gCons, gNil, ca_0, ca_1, ca_2, ca_3, ca_4, ca_5, ca_6, ca_7, ca_8, ca_9, ca_10, ca_11, ca_12, ca_13, ca_14, ca_15, ca_16, ca_17, ca_18, ca_19, ca_20, ca_21, ca_22, ca_23, ca_24, ca_25, ca_26, ca_27, ca_28, ca_29, ca_30, not_true_eq_false, not_false_eq_true, Int.reduceEq, Nat.reduceEqDiff, Nat.reduceLeDiff, rGcd, V.ty.injEq, eq_self, List.not_mem_nil, beq_self_eq_true, HO.lst.injEq, HO.tup.injEq, tFor_eq, iRng1, iList, iTup, nat10, tSeq, rIxA, rSetA, rIsN, rIsT, tTp, tLs, itsO_tup, itsO_lst, tyO_tup, tyO_lst, tyO_dK, tyN_non, tyN_bl, tyN_int, tyN_str, tyN_ref, tyNs_lt, isB, upd_same, upd_upd, sizeLine_eq, List.mem_cons, String.reduceBEq, String.reduceEq, Bool.or_false, Bool.or_true, Bool.and_false, Bool.false_or, Bool.and_self, Bool.false_and, Bool.not_false, Bool.not_true, List.any_cons, List.any_nil, atI_0, setI_0, atI_1, setI_1, atI_2, setI_2, atI_3, setI_3, atI_4, setI_4, atI_5, setI_5, atI_6, setI_6, tAsg, gName, tOp, tUn, tVar, tC, tCons, L2.tNil, tRet, tIfS, tTest, tCB, tCall, rI, rI0, rU, tNext, tB, tAnd, tOr, tNot, tAndV, tOrV, tNotV, tDrop, tIf, tPar, gSub, rIxL, rIxT, rEq, rNe, rSetL, tBits,
    L2.start, List.map_cons, List.map_nil, List.cons_append, List.nil_append, List.append_nil, List.length_cons, List.length_nil, List.replicate, Nat.reduceAdd, Nat.reduceSub, Nat.zero_add, List.getElem?_cons_zero, List.getElem?_cons_succ, List.set_cons_zero, List.set_cons_succ,
    Option.some.injEq, exists_eq_left', exists_eq_left, V.int.injEq, V.bl.injEq, V.ref.injEq, V.str.injEq, List.cons.injEq, reduceCtorEq, and_true, true_and, false_and, and_false, exists_false, or_false, false_or, or_true, true_or, exists_const, CMul, CDiv, CPow, and_assoc, exists_and_left, exists_and_right, Int.reducePow, Int.reduceNeg, Int.reduceLT, Int.reduceLE, Nat.reducePow, Nat.reduceLT, Int.reduceToNat, gt_iff_lt, ge_iff_le, decide_eq_true_eq, Bool.not_eq_true', decide_eq_false_iff_not, scal, ↓reduceIte, Bool.false_eq_true]
  exact q
def wholeV : V → Bool
  | .int _ => true
  | _ => false
theorem wholeV_ty {H : Hp} {v : V} {t : String} (h : tyN K H v = some t) : wholeV v = (t == "int") := by
  cases v with
  | ref a =>
    have h1 : tyO (ob K H a) = some t := h
    unfold tyO at h1
    split at h1 <;> first | (cases h1; rfl) | cases h1
  | _ => first | (cases h; rfl) | cases h
def spWhole (K : PySem.W.Frag) : Sp := fun vs H Q _ => ∃ v, vs = [v] ∧ (tyN K H v).isSome ∧ Q (.bl (wholeV v)) H
abbrev sWhole : Stmt := topS 16
theorem scWhole : FnScope ["value"] ["value"] (defScope sWhole) := ⟨rfl, rfl, rfl, by decide +kernel, rfl, by decide +kernel, by decide +kernel⟩
theorem k_Whole (T : Bt K mg) (D : Dfn K mg "is_whole" sWhole ["value"]) : Kn P w K mg base 1 "is_whole" ["value"] (spWhole K) := by
  refine Kn.mk' D scWhole (fun vs H Q E h => ?_) (fun f cdv A outer s H vs Q E hr h => ?_)
  · obtain ⟨v, rfl, _⟩ := h
    rfl
  obtain ⟨v, rfl, hv, q⟩ := h
  refine ⟨_, (pss_one (ps_ret (pe_and (pe_callB call_isN (by rfl) T.b_isinstance (by decide +kernel) (pa_cons (pv 0) (pa_cons (pe_bltn (v := .ty "int") (by rfl) T.b_int (by decide +kernel) rfl) pa_nil))) (pe_one (pe_not (pe_callB call_isN (by rfl) T.b_isinstance (by decide +kernel) (pa_cons (pv 0) (pa_cons (pe_bltn (v := .ty "bool") (by rfl) T.b_bool (by decide +kernel) rfl) pa_nil)))))))), ?_⟩
  obtain ⟨t, ht⟩ := Option.isSome_iff_exists.mp hv
  rw [wholeV_ty ht] at q
  have mt := tyN_mem ht
  simp only [List.mem_cons, List.not_mem_nil, or_false] at mt
  rcases mt with rfl | rfl | rfl | rfl | rfl | rfl | rfl <;> (simp only [ht, cx_K, decide_true, decide_false, reduceCtorEq, gTp, gCons, gNil, ca_0, ca_1, ca_2, ca_3, ca_4, ca_5, ca_6, ca_7, ca_8, ca_9, ca_10, ca_11, ca_12, ca_13, ca_14, ca_15, ca_16, ca_17, ca_18, ca_19, ca_20, ca_21, ca_22, ca_23, ca_24, ca_25, ca_26, ca_27, ca_28, ca_29, ca_30, not_true_eq_false, not_false_eq_true, Int.reduceEq, Nat.reduceEqDiff, Nat.reduceLeDiff, rGcd, V.ty.injEq, eq_self, List.not_mem_nil, beq_self_eq_true, HO.lst.injEq, HO.tup.injEq, tFor_eq, iRng1, iList, iTup, nat10, tSeq, rIxA, rSetA, rIsN, rIsT, tTp, tLs, itsO_tup, itsO_lst, tyO_tup, tyO_lst, tyO_dK, tyN_non, tyN_bl, tyN_int, tyN_str, tyN_ref, tyNs_lt, isB, upd_same, upd_upd, sizeLine_eq, List.mem_cons, String.reduceBEq, String.reduceEq, Bool.or_false, Bool.or_true, Bool.and_false, Bool.false_or, Bool.and_self, Bool.false_and, Bool.not_false, Bool.not_true, List.any_cons, List.any_nil, atI_0, setI_0, atI_1, setI_1, atI_2, setI_2, atI_3, setI_3, atI_4, setI_4, atI_5, setI_5, atI_6, setI_6, tAsg, gName, tOp, tUn, tVar, tC, tCons, L2.tNil, tRet, tIfS, tTest, tCB, tCall, rI, rI0, rU, tNext, tB, tAnd, tOr, tNot, tAndV, tOrV, tNotV, tDrop, tIf, tPar, gSub, rIxL, rIxT, rEq, rNe, rSetL, tBits,
    L2.start, List.map_cons, List.map_nil, List.cons_append, List.nil_append, List.append_nil, List.length_cons, List.length_nil, List.replicate, Nat.reduceAdd, Nat.reduceSub, Nat.zero_add, List.getElem?_cons_zero, List.getElem?_cons_succ, List.set_cons_zero, List.set_cons_succ,
    Option.some.injEq, exists_eq_left', exists_eq_left, V.int.injEq, V.bl.injEq, V.ref.injEq, V.str.injEq, List.cons.injEq, reduceCtorEq, and_true, true_and, false_and, and_false, exists_false, or_false, false_or, or_true, true_or, exists_const, CMul, CDiv, CPow, and_assoc, exists_and_left, exists_and_right, Int.reducePow, Int.reduceNeg, Int.reduceLT, Int.reduceLE, Nat.reducePow, Nat.reduceLT, Int.reduceToNat, gt_iff_lt, ge_iff_le, decide_eq_true_eq, Bool.not_eq_true', decide_eq_false_iff_not, scal, ↓reduceIte, Bool.false_eq_true]; simpa using q)
def spFraction (K : PySem.W.Frag) : Sp := fun vs H Q _ => ∃ n d : Int, vs = [.int n, .int d] ∧ d ≠ 0 ∧ d.natAbs < 2 ^ 8000 ∧ ∀ q, Is q n d → Gv K H Q q
theorem gcdX {n d : Int} (h0 : d ≠ 0) (hz : d.natAbs < 2 ^ 8000) (x : Int) : CDivX x (if d < 0 then -((Int.gcd n d : Nat) : Int) else (Int.gcd n d : Nat)) := by
  have g0 := gcd_pos (t := n) (b := d) h0
  have g1 := gcd_le (t := n) (b := d) h0
  have e : 2 ^ 8000 ≤ 2 ^ 8999 := Nat.pow_le_pow_right (by omega) (by omega)
  unfold CDivX
  split <;> refine ⟨by omega, by omega⟩
abbrev sFraction : Stmt := topS 19
theorem scFraction : FnScope ["numerator", "denominator", "divisor"] ["numerator", "denominator"] (defScope sFraction) := ⟨rfl, rfl, rfl, by decide +kernel, rfl, by decide +kernel, by decide +kernel⟩
theorem k_Fraction (T : Bt K mg) (D : DfnD K mg "fraction" sFraction ["numerator", "denominator"]) (d_require : Kn P w K mg base 1 "require" ["well_formed", "what"] spRequire) (d_is_whole : Kn P w K mg base 1 "is_whole" ["value"] (spWhole K)) : Kn P w K mg base 2 "fraction" ["numerator", "denominator"] (spFraction K) := by
  refine Kn.mkD D scFraction (fun vs H Q E h => ?_) (fun f cdv A outer s H vs Q E hr h => ?_)
  · obtain ⟨n, d, rfl, _⟩ := h
    rfl
  obtain ⟨n, d, rfl, h0, hz, q⟩ := h
  refine ⟨_, (pss_cons (ps_expr (pe_kn d_require hr (by rfl) (pa_cons (pe_kn d_is_whole hr (by rfl) (pa_cons (pv 0) pa_nil)) (pa_cons pe_str pa_nil))))
      (pss_cons (ps_expr (pe_kn d_require hr (by rfl) (pa_cons (pe_and (pe_kn d_is_whole hr (by rfl) (pa_cons (pv 1) pa_nil)) (pe_one (pe_cmpR op_ne (pv 1) pe_int (nomark _)))) (pa_cons pe_str pa_nil))))
      (pss_cons (ps_set (i := 2) scFraction.nd rfl (.inl rfl) (pe_callBfun cr_gcd (by rfl) T.g_gcd (pa_cons (pv 0) (pa_cons (pv 1) pa_nil))))
      (pss_cons (ps_if (pt_cmpR op_lt (pv 1) pe_int (nomark _)) (pss_one (ps_set (i := 2) scFraction.nd rfl (.inl rfl) (pe_un un_neg (pv 2)))) pss_nil)
      (pss_one (ps_ret (pe_tp (pa_cons (pe_op op_fdivX (pv 0) (pv 2)) (pa_cons (pe_op op_fdivX (pv 1) (pv 2)) pa_nil))))))))), ?_⟩
  simp only [cx_K, decide_true, decide_false, reduceCtorEq, gTp, gCons, gNil, ca_0, ca_1, ca_2, ca_3, ca_4, ca_5, ca_6, ca_7, ca_8, ca_9, ca_10, ca_11, ca_12, ca_13, ca_14, ca_15, ca_16, ca_17, ca_18, ca_19, ca_20, ca_21, ca_22, ca_23, ca_24, ca_25, ca_26, ca_27, ca_28, ca_29, ca_30, not_true_eq_false, not_false_eq_true, Int.reduceEq, Nat.reduceEqDiff, Nat.reduceLeDiff, rGcd, V.ty.injEq, eq_self, List.not_mem_nil, beq_self_eq_true, HO.lst.injEq, HO.tup.injEq, tFor_eq, iRng1, iList, iTup, nat10, tSeq, rIxA, rSetA, rIsN, rIsT, tTp, tLs, itsO_tup, itsO_lst, tyO_tup, tyO_lst, tyO_dK, tyN_non, tyN_bl, tyN_int, tyN_str, tyN_ref, tyNs_lt, isB, upd_same, upd_upd, sizeLine_eq, List.mem_cons, String.reduceBEq, String.reduceEq, Bool.or_false, Bool.or_true, Bool.and_false, Bool.false_or, Bool.and_self, Bool.false_and, Bool.not_false, Bool.not_true, List.any_cons, List.any_nil, atI_0, setI_0, atI_1, setI_1, atI_2, setI_2, atI_3, setI_3, atI_4, setI_4, atI_5, setI_5, atI_6, setI_6, tAsg, gName, tOp, tUn, tVar, tC, tCons, L2.tNil, tRet, tIfS, tTest, tCB, tCall, rI, rI0, rU, tNext, tB, tAnd, tOr, tNot, tAndV, tOrV, tNotV, tDrop, tIf, tPar, gSub, rIxL, rIxT, rEq, rNe, rSetL, tBits,
    L2.start, List.map_cons, List.map_nil, List.cons_append, List.nil_append, List.append_nil, List.length_cons, List.length_nil, List.replicate, Nat.reduceAdd, Nat.reduceSub, Nat.zero_add, List.getElem?_cons_zero, List.getElem?_cons_succ, List.set_cons_zero, List.set_cons_succ,
    Option.some.injEq, exists_eq_left', exists_eq_left, V.int.injEq, V.bl.injEq, V.ref.injEq, V.str.injEq, List.cons.injEq, reduceCtorEq, and_true, true_and, false_and, and_false, exists_false, or_false, false_or, or_true, true_or, exists_const, CMul, CDiv, CPow, and_assoc, exists_and_left, exists_and_right, Int.reducePow, Int.reduceNeg, Int.reduceLT, Int.reduceLE, Nat.reducePow, Nat.reduceLT, Int.reduceToNat, gt_iff_lt, ge_iff_le, decide_eq_true_eq, Bool.not_eq_true', decide_eq_false_iff_not, scal, ↓reduceIte, Bool.false_eq_true]
  refine ⟨_, rfl, rfl, ⟨_, rfl, ⟨_, rfl, rfl, ⟨true, rfl, ?_⟩⟩⟩⟩
  rw [if_pos rfl]
  refine ⟨_, by rw [decide_eq_false h0]; rfl, ?_⟩
  simp only [cx_K, decide_true, decide_false, reduceCtorEq, gTp, gCons, gNil, ca_0, ca_1, ca_2, ca_3, ca_4, ca_5, ca_6, ca_7, ca_8, ca_9, ca_10, ca_11, ca_12, ca_13, ca_14, ca_15, ca_16, ca_17, ca_18, ca_19, ca_20, ca_21, ca_22, ca_23, ca_24, ca_25, ca_26, ca_27, ca_28, ca_29, ca_30, not_true_eq_false, not_false_eq_true, Int.reduceEq, Nat.reduceEqDiff, Nat.reduceLeDiff, rGcd, V.ty.injEq, eq_self, List.not_mem_nil, beq_self_eq_true, HO.lst.injEq, HO.tup.injEq, tFor_eq, iRng1, iList, iTup, nat10, tSeq, rIxA, rSetA, rIsN, rIsT, tTp, tLs, itsO_tup, itsO_lst, tyO_tup, tyO_lst, tyO_dK, tyN_non, tyN_bl, tyN_int, tyN_str, tyN_ref, tyNs_lt, isB, upd_same, upd_upd, sizeLine_eq, List.mem_cons, String.reduceBEq, String.reduceEq, Bool.or_false, Bool.or_true, Bool.and_false, Bool.false_or, Bool.and_self, Bool.false_and, Bool.not_false, Bool.not_true, List.any_cons, List.any_nil, atI_0, setI_0, atI_1, setI_1, atI_2, setI_2, atI_3, setI_3, atI_4, setI_4, atI_5, setI_5, atI_6, setI_6, tAsg, gName, tOp, tUn, tVar, tC, tCons, L2.tNil, tRet, tIfS, tTest, tCB, tCall, rI, rI0, rU, tNext, tB, tAnd, tOr, tNot, tAndV, tOrV, tNotV, tDrop, tIf, tPar, gSub, rIxL, rIxT, rEq, rNe, rSetL, tBits,
    L2.start, List.map_cons, List.map_nil, List.cons_append, List.nil_append, List.append_nil, List.length_cons, List.length_nil, List.replicate, Nat.reduceAdd, Nat.reduceSub, Nat.zero_add, List.getElem?_cons_zero, List.getElem?_cons_succ, List.set_cons_zero, List.set_cons_succ,
    Option.some.injEq, exists_eq_left', exists_eq_left, V.int.injEq, V.bl.injEq, V.ref.injEq, V.str.injEq, List.cons.injEq, reduceCtorEq, and_true, true_and, false_and, and_false, exists_false, or_false, false_or, or_true, true_or, exists_const, CMul, CDiv, CPow, and_assoc, exists_and_left, exists_and_right, Int.reducePow, Int.reduceNeg, Int.reduceLT, Int.reduceLE, Nat.reducePow, Nat.reduceLT, Int.reduceToNat, gt_iff_lt, ge_iff_le, decide_eq_true_eq, Bool.not_eq_true', decide_eq_false_iff_not, scal, ↓reduceIte, Bool.false_eq_true]
  have k := gcdX (n := n) h0 hz
  have v := is_fdiv (t := n) h0
  refine ite2 (fun h => ?_) (fun h => ?_)
  · rw [if_pos h] at v
    simp only [if_pos h] at k
    exact ⟨k _, k _, fun p hp kp => (q _ v).new hp kp⟩
  · rw [if_neg h] at v
    simp only [if_neg h] at k
    exact ⟨k _, k _, fun p hp kp => (q _ v).new hp kp⟩
def frOk (K : PySem.W.Frag) (H : Hp) : V → Bool
  | .ref a => match ob K H a with
    | some (.tup [.int n, .int d]) => decide (1 ≤ d) && decide (Int.gcd n d = 1)
    | _ => false
  | _ => false
theorem frOk_fr {H : Hp} {a : Addr} {q : Qt} (h : ob K H a = some (frt q)) (hn : Nf q) : frOk K H (.ref a) = true := by
  simp only [frOk, h, frt]
  show (decide (1 ≤ q.2) && decide (Int.gcd q.1 q.2 = 1)) = true
  rw [decide_eq_true hn.1, decide_eq_true hn.2]
  rfl
/-- v and, if it is a tuple, its items are of known kinds -/
def Tyd (K : PySem.W.Frag) (H : Hp) (v : V) : Prop := (tyN K H v).isSome ∧ ∀ a xs, v = .ref a → ob K H a = some (.tup xs) → ∀ x ∈ xs, (tyN K H x).isSome
theorem Tyd.fr {H : Hp} {a : Addr} {q : Qt} (h : ob K H a = some (frt q)) : Tyd K H (.ref a) := by
  refine ⟨by rw [tyN_ref, h]; rfl, fun b xs e hx x hm => ?_⟩
  cases e
  rw [h] at hx
  cases hx
  simp only [List.mem_cons, List.not_mem_nil, or_false] at hm
  rcases hm with rfl | rfl <;> rfl
theorem tyN_tuple {H : Hp} {v : V} (h : tyN K H v = some "tuple") : ∃ a xs, v = .ref a ∧ ob K H a = some (.tup xs) := by
  cases v with
  | ref a =>
    have h1 : tyO (ob K H a) = some "tuple" := h
    unfold tyO at h1
    split at h1 <;> first | exact ⟨a, _, rfl, by assumption⟩ | (exfalso; revert h1; decide)
  | _ => exfalso; revert h; simp only [tyN]; decide
def spIsFraction (K : PySem.W.Frag) : Sp := fun vs H Q _ => ∃ v, vs = [v] ∧ Tyd K H v ∧ Q (.bl (frOk K H v)) H
abbrev sIsFraction : Stmt := topS 20
theorem scIsFraction : FnScope ["value", "numerator", "denominator"] ["value"] (defScope sIsFraction) := ⟨rfl, rfl, rfl, by decide +kernel, rfl, by decide +kernel, by decide +kernel⟩
theorem k_IsFraction (T : Bt K mg) (D : Dfn K mg "is_fraction" sIsFraction ["value"]) (d_is_whole : Kn P w K mg base 1 "is_whole" ["value"] (spWhole K)) : Kn P w K mg base 2 "is_fraction" ["value"] (spIsFraction K) := by
  refine Kn.mk' D scIsFraction (fun vs H Q E h => ?_) (fun f cdv A outer s H vs Q E hr h => ?_)
  · obtain ⟨v, rfl, _⟩ := h
    rfl
  obtain ⟨v, rfl, hv, q⟩ := h
  refine ⟨_, (pss_cons (ps_if (PW.pt (pw_or (pt_not (pt_val (pe_callB call_isN (by rfl) T.b_isinstance (by decide +kernel) (pa_cons (pv 0) (pa_cons (pe_bltn (v := .ty "tuple") (by rfl) T.b_tuple (by decide +kernel) rfl) pa_nil))))) (pw_or1 (pt_cmpR op_ne (pe_callB call_lenA (by rfl) T.b_len PySem.boot_len (pa_cons (pv 0) pa_nil)) pe_int (nomark _))))) (pss_one (ps_ret pe_bl)) pss_nil)
      (pss_cons (ps_asg (pv 0) (pg_tp 2 (by rfl) (pgs_cons (pg_name (i := 1) scIsFraction.nd rfl (.inl rfl)) (pgs_cons (pg_name (i := 2) scIsFraction.nd rfl (.inl rfl)) pgs_nil))))
      (pss_cons (ps_if (PW.pt (pw_or (pt_not (pt_val (pe_kn d_is_whole hr (by rfl) (pa_cons (pv 1) pa_nil)))) (pw_or1 (pt_not (pt_val (pe_kn d_is_whole hr (by rfl) (pa_cons (pv 2) pa_nil))))))) (pss_one (ps_ret pe_bl)) pss_nil)
      (pss_one (ps_ret (pe_and (pe_cmpR op_ge (pv 2) pe_int (nomark _)) (pe_one (pe_cmpR op_eq (pe_callBfun cr_gcd (by rfl) T.g_gcd (pa_cons (pv 1) (pa_cons (pv 2) pa_nil))) pe_int (nomark _))))))))), ?_⟩
  obtain ⟨t, ht⟩ := Option.isSome_iff_exists.mp hv.1
  by_cases e : t = "tuple"
  · subst e
    obtain ⟨a, xs, rfl, ha⟩ := tyN_tuple ht
    have hx := hv.2 a xs rfl ha
    match xs, ha, hx with
    | [], ha, hx =>
      have e : frOk K H (.ref a) = false := by simp only [frOk, ha]
      rw [e] at q
      simp only [ha, cx_K, decide_true, decide_false, reduceCtorEq, gTp, gCons, gNil, ca_0, ca_1, ca_2, ca_3, ca_4, ca_5, ca_6, ca_7, ca_8, ca_9, ca_10, ca_11, ca_12, ca_13, ca_14, ca_15, ca_16, ca_17, ca_18, ca_19, ca_20, ca_21, ca_22, ca_23, ca_24, ca_25, ca_26, ca_27, ca_28, ca_29, ca_30, not_true_eq_false, not_false_eq_true, Int.reduceEq, Nat.reduceEqDiff, Nat.reduceLeDiff, rGcd, V.ty.injEq, eq_self, List.not_mem_nil, beq_self_eq_true, HO.lst.injEq, HO.tup.injEq, tFor_eq, iRng1, iList, iTup, nat10, tSeq, rIxA, rSetA, rIsN, rIsT, tTp, tLs, itsO_tup, itsO_lst, tyO_tup, tyO_lst, tyO_dK, tyN_non, tyN_bl, tyN_int, tyN_str, tyN_ref, tyNs_lt, isB, upd_same, upd_upd, sizeLine_eq, List.mem_cons, String.reduceBEq, String.reduceEq, Bool.or_false, Bool.or_true, Bool.and_false, Bool.false_or, Bool.and_self, Bool.false_and, Bool.not_false, Bool.not_true, List.any_cons, List.any_nil, atI_0, setI_0, atI_1, setI_1, atI_2, setI_2, atI_3, setI_3, atI_4, setI_4, atI_5, setI_5, atI_6, setI_6, tAsg, gName, tOp, tUn, tVar, tC, tCons, L2.tNil, tRet, tIfS, tTest, tCB, tCall, rI, rI0, rU, tNext, tB, tAnd, tOr, tNot, tAndV, tOrV, tNotV, tDrop, tIf, tPar, gSub, rIxL, rIxT, rEq, rNe, rSetL, tBits,
    L2.start, List.map_cons, List.map_nil, List.cons_append, List.nil_append, List.append_nil, List.length_cons, List.length_nil, List.replicate, Nat.reduceAdd, Nat.reduceSub, Nat.zero_add, List.getElem?_cons_zero, List.getElem?_cons_succ, List.set_cons_zero, List.set_cons_succ,
    Option.some.injEq, exists_eq_left', exists_eq_left, V.int.injEq, V.bl.injEq, V.ref.injEq, V.str.injEq, List.cons.injEq, reduceCtorEq, and_true, true_and, false_and, and_false, exists_false, or_false, false_or, or_true, true_or, exists_const, CMul, CDiv, CPow, and_assoc, exists_and_left, exists_and_right, Int.reducePow, Int.reduceNeg, Int.reduceLT, Int.reduceLE, Nat.reducePow, Nat.reduceLT, Int.reduceToNat, gt_iff_lt, ge_iff_le, decide_eq_true_eq, Bool.not_eq_true', decide_eq_false_iff_not, scal, ↓reduceIte, Bool.false_eq_true]
      exact q
    | [x], ha, hx =>
      have e : frOk K H (.ref a) = false := by simp only [frOk, ha]
      rw [e] at q
      simp only [ha, cx_K, decide_true, decide_false, reduceCtorEq, gTp, gCons, gNil, ca_0, ca_1, ca_2, ca_3, ca_4, ca_5, ca_6, ca_7, ca_8, ca_9, ca_10, ca_11, ca_12, ca_13, ca_14, ca_15, ca_16, ca_17, ca_18, ca_19, ca_20, ca_21, ca_22, ca_23, ca_24, ca_25, ca_26, ca_27, ca_28, ca_29, ca_30, not_true_eq_false, not_false_eq_true, Int.reduceEq, Nat.reduceEqDiff, Nat.reduceLeDiff, rGcd, V.ty.injEq, eq_self, List.not_mem_nil, beq_self_eq_true, HO.lst.injEq, HO.tup.injEq, tFor_eq, iRng1, iList, iTup, nat10, tSeq, rIxA, rSetA, rIsN, rIsT, tTp, tLs, itsO_tup, itsO_lst, tyO_tup, tyO_lst, tyO_dK, tyN_non, tyN_bl, tyN_int, tyN_str, tyN_ref, tyNs_lt, isB, upd_same, upd_upd, sizeLine_eq, List.mem_cons, String.reduceBEq, String.reduceEq, Bool.or_false, Bool.or_true, Bool.and_false, Bool.false_or, Bool.and_self, Bool.false_and, Bool.not_false, Bool.not_true, List.any_cons, List.any_nil, atI_0, setI_0, atI_1, setI_1, atI_2, setI_2, atI_3, setI_3, atI_4, setI_4, atI_5, setI_5, atI_6, setI_6, tAsg, gName, tOp, tUn, tVar, tC, tCons, L2.tNil, tRet, tIfS, tTest, tCB, tCall, rI, rI0, rU, tNext, tB, tAnd, tOr, tNot, tAndV, tOrV, tNotV, tDrop, tIf, tPar, gSub, rIxL, rIxT, rEq, rNe, rSetL, tBits,
    L2.start, List.map_cons, List.map_nil, List.cons_append, List.nil_append, List.append_nil, List.length_cons, List.length_nil, List.replicate, Nat.reduceAdd, Nat.reduceSub, Nat.zero_add, List.getElem?_cons_zero, List.getElem?_cons_succ, List.set_cons_zero, List.set_cons_succ,
    Option.some.injEq, exists_eq_left', exists_eq_left, V.int.injEq, V.bl.injEq, V.ref.injEq, V.str.injEq, List.cons.injEq, reduceCtorEq, and_true, true_and, false_and, and_false, exists_false, or_false, false_or, or_true, true_or, exists_const, CMul, CDiv, CPow, and_assoc, exists_and_left, exists_and_right, Int.reducePow, Int.reduceNeg, Int.reduceLT, Int.reduceLE, Nat.reducePow, Nat.reduceLT, Int.reduceToNat, gt_iff_lt, ge_iff_le, decide_eq_true_eq, Bool.not_eq_true', decide_eq_false_iff_not, scal, ↓reduceIte, Bool.false_eq_true]
      exact q
    | [x, y], ha, hx =>
      have hx1 := hx x (by simp)
      have hx2 := hx y (by simp)
      simp only [ha, cx_K, decide_true, decide_false, reduceCtorEq, gTp, gCons, gNil, ca_0, ca_1, ca_2, ca_3, ca_4, ca_5, ca_6, ca_7, ca_8, ca_9, ca_10, ca_11, ca_12, ca_13, ca_14, ca_15, ca_16, ca_17, ca_18, ca_19, ca_20, ca_21, ca_22, ca_23, ca_24, ca_25, ca_26, ca_27, ca_28, ca_29, ca_30, not_true_eq_false, not_false_eq_true, Int.reduceEq, Nat.reduceEqDiff, Nat.reduceLeDiff, rGcd, V.ty.injEq, eq_self, List.not_mem_nil, beq_self_eq_true, HO.lst.injEq, HO.tup.injEq, tFor_eq, iRng1, iList, iTup, nat10, tSeq, rIxA, rSetA, rIsN, rIsT, tTp, tLs, itsO_tup, itsO_lst, tyO_tup, tyO_lst, tyO_dK, tyN_non, tyN_bl, tyN_int, tyN_str, tyN_ref, tyNs_lt, isB, upd_same, upd_upd, sizeLine_eq, List.mem_cons, String.reduceBEq, String.reduceEq, Bool.or_false, Bool.or_true, Bool.and_false, Bool.false_or, Bool.and_self, Bool.false_and, Bool.not_false, Bool.not_true, List.any_cons, List.any_nil, atI_0, setI_0, atI_1, setI_1, atI_2, setI_2, atI_3, setI_3, atI_4, setI_4, atI_5, setI_5, atI_6, setI_6, tAsg, gName, tOp, tUn, tVar, tC, tCons, L2.tNil, tRet, tIfS, tTest, tCB, tCall, rI, rI0, rU, tNext, tB, tAnd, tOr, tNot, tAndV, tOrV, tNotV, tDrop, tIf, tPar, gSub, rIxL, rIxT, rEq, rNe, rSetL, tBits,
    L2.start, List.map_cons, List.map_nil, List.cons_append, List.nil_append, List.append_nil, List.length_cons, List.length_nil, List.replicate, Nat.reduceAdd, Nat.reduceSub, Nat.zero_add, List.getElem?_cons_zero, List.getElem?_cons_succ, List.set_cons_zero, List.set_cons_succ,
    Option.some.injEq, exists_eq_left', exists_eq_left, V.int.injEq, V.bl.injEq, V.ref.injEq, V.str.injEq, List.cons.injEq, reduceCtorEq, and_true, true_and, false_and, and_false, exists_false, or_false, false_or, or_true, true_or, exists_const, CMul, CDiv, CPow, and_assoc, exists_and_left, exists_and_right, Int.reducePow, Int.reduceNeg, Int.reduceLT, Int.reduceLE, Nat.reducePow, Nat.reduceLT, Int.reduceToNat, gt_iff_lt, ge_iff_le, decide_eq_true_eq, Bool.not_eq_true', decide_eq_false_iff_not, scal, ↓reduceIte, Bool.false_eq_true]
      refine ⟨_, rfl, hx1, ?_⟩
      cases x with
      | int n =>
        refine ⟨true, rfl, ?_⟩
        rw [if_neg Bool.noConfusion]
        refine ⟨_, rfl, hx2, ?_⟩
        cases y with
        | int d =>
          refine ⟨true, rfl, ?_⟩
          rw [if_neg Bool.noConfusion]
          simp only [ha, cx_K, decide_true, decide_false, reduceCtorEq, gTp, gCons, gNil, ca_0, ca_1, ca_2, ca_3, ca_4, ca_5, ca_6, ca_7, ca_8, ca_9, ca_10, ca_11, ca_12, ca_13, ca_14, ca_15, ca_16, ca_17, ca_18, ca_19, ca_20, ca_21, ca_22, ca_23, ca_24, ca_25, ca_26, ca_27, ca_28, ca_29, ca_30, not_true_eq_false, not_false_eq_true, Int.reduceEq, Nat.reduceEqDiff, Nat.reduceLeDiff, rGcd, V.ty.injEq, eq_self, List.not_mem_nil, beq_self_eq_true, HO.lst.injEq, HO.tup.injEq, tFor_eq, iRng1, iList, iTup, nat10, tSeq, rIxA, rSetA, rIsN, rIsT, tTp, tLs, itsO_tup, itsO_lst, tyO_tup, tyO_lst, tyO_dK, tyN_non, tyN_bl, tyN_int, tyN_str, tyN_ref, tyNs_lt, isB, upd_same, upd_upd, sizeLine_eq, List.mem_cons, String.reduceBEq, String.reduceEq, Bool.or_false, Bool.or_true, Bool.and_false, Bool.false_or, Bool.and_self, Bool.false_and, Bool.not_false, Bool.not_true, List.any_cons, List.any_nil, atI_0, setI_0, atI_1, setI_1, atI_2, setI_2, atI_3, setI_3, atI_4, setI_4, atI_5, setI_5, atI_6, setI_6, tAsg, gName, tOp, tUn, tVar, tC, tCons, L2.tNil, tRet, tIfS, tTest, tCB, tCall, rI, rI0, rU, tNext, tB, tAnd, tOr, tNot, tAndV, tOrV, tNotV, tDrop, tIf, tPar, gSub, rIxL, rIxT, rEq, rNe, rSetL, tBits,
    L2.start, List.map_cons, List.map_nil, List.cons_append, List.nil_append, List.append_nil, List.length_cons, List.length_nil, List.replicate, Nat.reduceAdd, Nat.reduceSub, Nat.zero_add, List.getElem?_cons_zero, List.getElem?_cons_succ, List.set_cons_zero, List.set_cons_succ,
    Option.some.injEq, exists_eq_left', exists_eq_left, V.int.injEq, V.bl.injEq, V.ref.injEq, V.str.injEq, List.cons.injEq, reduceCtorEq, and_true, true_and, false_and, and_false, exists_false, or_false, false_or, or_true, true_or, exists_const, CMul, CDiv, CPow, and_assoc, exists_and_left, exists_and_right, Int.reducePow, Int.reduceNeg, Int.reduceLT, Int.reduceLE, Nat.reducePow, Nat.reduceLT, Int.reduceToNat, gt_iff_lt, ge_iff_le, decide_eq_true_eq, Bool.not_eq_true', decide_eq_false_iff_not, scal, ↓reduceIte, Bool.false_eq_true]
          refine ite2 (fun h => ?_) (fun h => ?_)
          · have e : frOk K H (.ref a) = decide (((n.natAbs.gcd d.natAbs : Nat) : Int) = 1) := by
              simp only [frOk, ha]
              rw [decide_eq_true h, Bool.true_and]
              show decide (Nat.gcd n.natAbs d.natAbs = 1) = _
              exact decide_eq_decide.mpr (by omega)
            rw [e] at q
            exact q
          · have e : frOk K H (.ref a) = false := by
              simp only [frOk, ha]
              rw [decide_eq_false h, Bool.false_and]
            rw [e] at q
            exact q
        | _ =>
          refine ⟨false, rfl, ?_⟩
          rw [if_pos rfl]
          have e : frOk K H (.ref a) = false := by simp only [frOk, ha]
          rw [e] at q
          exact q
      | _ =>
        refine ⟨false, rfl, ?_⟩
        rw [if_pos rfl]
        have e : frOk K H (.ref a) = false := by simp only [frOk, ha]
        rw [e] at q
        exact q
    | x :: y :: z :: r, ha, hx =>
      have e : frOk K H (.ref a) = false := by simp only [frOk, ha]
      rw [e] at q
      simp only [ha, cx_K, decide_true, decide_false, reduceCtorEq, gTp, gCons, gNil, ca_0, ca_1, ca_2, ca_3, ca_4, ca_5, ca_6, ca_7, ca_8, ca_9, ca_10, ca_11, ca_12, ca_13, ca_14, ca_15, ca_16, ca_17, ca_18, ca_19, ca_20, ca_21, ca_22, ca_23, ca_24, ca_25, ca_26, ca_27, ca_28, ca_29, ca_30, not_true_eq_false, not_false_eq_true, Int.reduceEq, Nat.reduceEqDiff, Nat.reduceLeDiff, rGcd, V.ty.injEq, eq_self, List.not_mem_nil, beq_self_eq_true, HO.lst.injEq, HO.tup.injEq, tFor_eq, iRng1, iList, iTup, nat10, tSeq, rIxA, rSetA, rIsN, rIsT, tTp, tLs, itsO_tup, itsO_lst, tyO_tup, tyO_lst, tyO_dK, tyN_non, tyN_bl, tyN_int, tyN_str, tyN_ref, tyNs_lt, isB, upd_same, upd_upd, sizeLine_eq, List.mem_cons, String.reduceBEq, String.reduceEq, Bool.or_false, Bool.or_true, Bool.and_false, Bool.false_or, Bool.and_self, Bool.false_and, Bool.not_false, Bool.not_true, List.any_cons, List.any_nil, atI_0, setI_0, atI_1, setI_1, atI_2, setI_2, atI_3, setI_3, atI_4, setI_4, atI_5, setI_5, atI_6, setI_6, tAsg, gName, tOp, tUn, tVar, tC, tCons, L2.tNil, tRet, tIfS, tTest, tCB, tCall, rI, rI0, rU, tNext, tB, tAnd, tOr, tNot, tAndV, tOrV, tNotV, tDrop, tIf, tPar, gSub, rIxL, rIxT, rEq, rNe, rSetL, tBits,
    L2.start, List.map_cons, List.map_nil, List.cons_append, List.nil_append, List.append_nil, List.length_cons, List.length_nil, List.replicate, Nat.reduceAdd, Nat.reduceSub, Nat.zero_add, List.getElem?_cons_zero, List.getElem?_cons_succ, List.set_cons_zero, List.set_cons_succ,
    Option.some.injEq, exists_eq_left', exists_eq_left, V.int.injEq, V.bl.injEq, V.ref.injEq, V.str.injEq, List.cons.injEq, reduceCtorEq, and_true, true_and, false_and, and_false, exists_false, or_false, false_or, or_true, true_or, exists_const, CMul, CDiv, CPow, and_assoc, exists_and_left, exists_and_right, Int.reducePow, Int.reduceNeg, Int.reduceLT, Int.reduceLE, Nat.reducePow, Nat.reduceLT, Int.reduceToNat, gt_iff_lt, ge_iff_le, decide_eq_true_eq, Bool.not_eq_true', decide_eq_false_iff_not, scal, ↓reduceIte, Bool.false_eq_true]
      refine ite2 (fun h => q) (fun h => ?_)
      exfalso
      omega
  · have e1 : frOk K H v = false := by
      cases v with
      | ref a =>
        have h1 : tyO (ob K H a) = some t := ht
        cases hz : ob K H a with
        | none => simp only [frOk, hz]
        | some z =>
          cases z with
          | tup xs =>
            rw [hz] at h1
            exact absurd (Option.some.inj h1).symm e
          | _ => simp only [frOk, hz]
      | _ => rfl
    rw [e1] at q
    have mt := tyN_mem ht
    simp only [List.mem_cons, List.not_mem_nil, or_false] at mt
    rcases mt with rfl | rfl | rfl | rfl | rfl | rfl | rfl <;> first | exact absurd rfl e | (simp only [ht, cx_K, decide_true, decide_false, reduceCtorEq, gTp, gCons, gNil, ca_0, ca_1, ca_2, ca_3, ca_4, ca_5, ca_6, ca_7, ca_8, ca_9, ca_10, ca_11, ca_12, ca_13, ca_14, ca_15, ca_16, ca_17, ca_18, ca_19, ca_20, ca_21, ca_22, ca_23, ca_24, ca_25, ca_26, ca_27, ca_28, ca_29, ca_30, not_true_eq_false, not_false_eq_true, Int.reduceEq, Nat.reduceEqDiff, Nat.reduceLeDiff, rGcd, V.ty.injEq, eq_self, List.not_mem_nil, beq_self_eq_true, HO.lst.injEq, HO.tup.injEq, tFor_eq, iRng1, iList, iTup, nat10, tSeq, rIxA, rSetA, rIsN, rIsT, tTp, tLs, itsO_tup, itsO_lst, tyO_tup, tyO_lst, tyO_dK, tyN_non, tyN_bl, tyN_int, tyN_str, tyN_ref, tyNs_lt, isB, upd_same, upd_upd, sizeLine_eq, List.mem_cons, String.reduceBEq, String.reduceEq, Bool.or_false, Bool.or_true, Bool.and_false, Bool.false_or, Bool.and_self, Bool.false_and, Bool.not_false, Bool.not_true, List.any_cons, List.any_nil, atI_0, setI_0, atI_1, setI_1, atI_2, setI_2, atI_3, setI_3, atI_4, setI_4, atI_5, setI_5, atI_6, setI_6, tAsg, gName, tOp, tUn, tVar, tC, tCons, L2.tNil, tRet, tIfS, tTest, tCB, tCall, rI, rI0, rU, tNext, tB, tAnd, tOr, tNot, tAndV, tOrV, tNotV, tDrop, tIf, tPar, gSub, rIxL, rIxT, rEq, rNe, rSetL, tBits,
    L2.start, List.map_cons, List.map_nil, List.cons_append, List.nil_append, List.append_nil, List.length_cons, List.length_nil, List.replicate, Nat.reduceAdd, Nat.reduceSub, Nat.zero_add, List.getElem?_cons_zero, List.getElem?_cons_succ, List.set_cons_zero, List.set_cons_succ,
    Option.some.injEq, exists_eq_left', exists_eq_left, V.int.injEq, V.bl.injEq, V.ref.injEq, V.str.injEq, List.cons.injEq, reduceCtorEq, and_true, true_and, false_and, and_false, exists_false, or_false, false_or, or_true, true_or, exists_const, CMul, CDiv, CPow, and_assoc, exists_and_left, exists_and_right, Int.reducePow, Int.reduceNeg, Int.reduceLT, Int.reduceLE, Nat.reducePow, Nat.reduceLT, Int.reduceToNat, gt_iff_lt, ge_iff_le, decide_eq_true_eq, Bool.not_eq_true', decide_eq_false_iff_not, scal, ↓reduceIte, Bool.false_eq_true]; exact q)
end
end My

namespace My
open PySem PySem.Spec PyProof.Rows L2
section
variable {P : Program} {w : World} {K : PySem.W.Frag} {mg : Str → Option Value} {base : Heap}
theorem nf_part {q : Qt} (h : Nf q) : Nf (q.1 % q.2, q.2) := by
  refine ⟨h.1, ?_⟩
  show Int.gcd (q.1 % q.2) q.2 = 1
  have e : q.1 % q.2 = q.1 + (-(q.1 / q.2)) * q.2 := by
    have := Int.emod_add_mul_ediv q.1 q.2
    rw [Int.neg_mul, Int.mul_comm]
    omega
  rw [e, Int.gcd_add_mul_right_left]
  exact h.2
theorem nf_abs {q : Qt} (h : Nf q) : Nf ((q.1.natAbs : Int), q.2) := ⟨h.1, by
  show Int.gcd (q.1.natAbs : Int) q.2 = 1
  rw [← h.2]
  rfl⟩
theorem nf_neg {q : Qt} (h : Nf q) : Nf (-q.1, q.2) := ⟨h.1, by
  show Int.gcd (-q.1) q.2 = 1
  rw [Int.neg_gcd]
  exact h.2⟩
def off (q : Qt) : Qt := (if q.2 < 2 * (q.1 % q.2) then q.1 % q.2 - q.2 else q.1 % q.2, q.2)
theorem nf_off {q : Qt} (h : Nf q) : Nf (off q) := by
  have k := nf_part h
  unfold off
  split
  · refine ⟨h.1, ?_⟩
    show Int.gcd (q.1 % q.2 - q.2) q.2 = 1
    rw [show q.1 % q.2 - q.2 = q.1 % q.2 + (-1) * q.2 by omega, Int.gcd_add_mul_right_left]
    exact k.2
  · exact k
theorem is_self {q : Qt} (h : Nf q) : Is q q.1 q.2 := ⟨h, rfl⟩
def sum2 (p q : Qt) (z : Qt) : Prop := Is z (p.1 * q.2 + q.1 * p.2) (p.2 * q.2)
theorem Nf.ne {q : Qt} (h : Nf q) : q.2 ≠ 0 := by have := h.1; omega
theorem mul_ne {a b : Int} (h1 : 1 ≤ a) (h2 : 1 ≤ b) : a * b ≠ 0 := Int.mul_ne_zero (by omega) (by omega)
theorem szPart {q : Qt} {k : Nat} (h : Nf q) (hz : Sz k q) : Sz k (q.1 % q.2, q.2) := by
  refine ⟨?_, hz.2⟩
  have h1 := Int.emod_nonneg q.1 h.ne
  have h2 := Int.emod_lt_of_pos q.1 (show 0 < q.2 by have := h.1; omega)
  have := hz.2
  show (q.1 % q.2).natAbs < 2 ^ k
  omega
theorem szOff {q : Qt} {k : Nat} (h : Nf q) (hz : Sz k q) : Sz k (off q) := by
  have h1 := Int.emod_nonneg q.1 h.ne
  have h2 := Int.emod_lt_of_pos q.1 (show 0 < q.2 by have := h.1; omega)
  have h3 := hz.2
  have h4 := h.1
  unfold off
  refine ⟨?_, h3⟩
  show (if q.2 < 2 * (q.1 % q.2) then q.1 % q.2 - q.2 else q.1 % q.2).natAbs < 2 ^ k
  split <;> omega
/-- a fraction at a, in lowest terms, of a bounded size -/
structure Fq (K : PySem.W.Frag) (H : Hp) (k : Nat) (a : Addr) (q : Qt) : Prop where
  o : ob K H a = some (.tup [.int q.1, .int q.2])
  nf : Nf q
  sz : Sz k q
theorem Fq.same {H H' : Hp} {k : Nat} {a : Addr} {q : Qt} (h : Fq K H k a q) (s : Same H H') : Fq K H' k a q := ⟨ob_same s h.o, h.nf, h.sz⟩
theorem Fq.kp {H H' : Hp} {k : Nat} {a s : Addr} {q : Qt} {ys : List V} (h : Fq K H k a q) (e : Kp s H H') (hs : H s = some (.lst ys)) : Fq K H' k a q := ⟨ob_kp e hs (fun _ z => by cases z) h.o, h.nf, h.sz⟩
theorem Fq.mono {H : Hp} {j k : Nat} {a : Addr} {q : Qt} (h : Fq K H j a q) (l : j ≤ k) : Fq K H k a q := ⟨h.o, h.nf, h.sz.mono l⟩
def spBin (K : PySem.W.Frag) (R : Qt → Qt → Qt → Prop) : Sp := fun vs H Q _ => ∃ (a b : Addr) (p q : Qt), vs = [.ref a, .ref b] ∧ Fq K H 3000 a p ∧ Fq K H 3000 b q ∧ ∀ z, R p q z → Gv K H Q z
def spUn (K : PySem.W.Frag) (g : Qt → Qt) : Sp := fun vs H Q _ => ∃ (a : Addr) (q : Qt), vs = [.ref a] ∧ Fq K H 8000 a q ∧ Gv K H Q (g q)
def spFloor (K : PySem.W.Frag) : Sp := fun vs H Q _ => ∃ (a : Addr) (q : Qt), vs = [.ref a] ∧ Fq K H 8000 a q ∧ Q (.int (q.1 / q.2)) H
def spLFrac (K : PySem.W.Frag) : Sp := fun vs H Q _ => ∃ (a : Addr) (q : Qt), vs = [.ref a] ∧ Fq K H 8000 a q ∧ Q (.bl true) H
def dif2 (p q : Qt) (z : Qt) : Prop := Is z (p.1 * q.2 - q.1 * p.2) (p.2 * q.2)
def pro2 (p q : Qt) (z : Qt) : Prop := Is z (p.1 * q.1) (p.2 * q.2)
def quo2 (p q : Qt) (z : Qt) : Prop := Is z (p.1 * q.2) (p.2 * q.1)
def cmp2 (p q : Qt) : Int := if p.1 * q.2 = q.1 * p.2 then 0 else if p.1 * q.2 < q.1 * p.2 then -1 else 1
def spQuo (K : PySem.W.Frag) : Sp := fun vs H Q _ => ∃ (a b : Addr) (p q : Qt), vs = [.ref a, .ref b] ∧ Fq K H 3000 a p ∧ Fq K H 3000 b q ∧ q.1 ≠ 0 ∧ ∀ z, quo2 p q z → Gv K H Q z
def spCmp (K : PySem.W.Frag) : Sp := fun vs H Q _ => ∃ (a b : Addr) (p q : Qt), vs = [.ref a, .ref b] ∧ Fq K H 3000 a p ∧ Fq K H 3000 b q ∧ Q (.int (cmp2 p q)) H
abbrev sMinus : Stmt := topS 21
theorem scMinus : FnScope ["left", "right"] ["left", "right"] (defScope sMinus) := ⟨rfl, rfl, rfl, by decide +kernel, rfl, by decide +kernel, by decide +kernel⟩
theorem k_Minus (T : Bt K mg) (D : Dfn K mg "minus" sMinus ["left", "right"]) (d_require : Kn P w K mg base 1 "require" ["well_formed", "what"] spRequire) (d_is_fraction : Kn P w K mg base 2 "is_fraction" ["value"] (spIsFraction K)) (d_fraction : Kn P w K mg base 2 "fraction" ["numerator", "denominator"] (spFraction K)) : Kn P w K mg base 3 "minus" ["left", "right"] (spBin K dif2) := by
  refine Kn.mk' D scMinus (fun vs H Q E h => ?_) (fun f cdv A outer s H vs Q E hr h => ?_)
  · obtain ⟨a, b, p, q, rfl, _⟩ := h
    rfl
  obtain ⟨a, b, p, q, rfl, hp, hq, k⟩ := h
  refine ⟨_, (pss_cons (ps_expr (pe_kn d_require hr (by rfl) (pa_cons (pe_kn d_is_fraction hr (by rfl) (pa_cons (pv 0) pa_nil)) (pa_cons pe_str pa_nil))))
      (pss_cons (ps_expr (pe_kn d_require hr (by rfl) (pa_cons (pe_kn d_is_fraction hr (by rfl) (pa_cons (pv 1) pa_nil)) (pa_cons pe_str pa_nil))))
      (pss_one (ps_ret (pe_kn d_fraction hr (by rfl) (pa_cons (pe_op op_sub (pe_op op_mulW (pe_ix ix_any (pv 0) pe_int (fun _ _ => rfl)) (pe_ix ix_any (pv 1) pe_int (fun _ _ => rfl))) (pe_op op_mulW (pe_ix ix_any (pv 1) pe_int (fun _ _ => rfl)) (pe_ix ix_any (pv 0) pe_int (fun _ _ => rfl)))) (pa_cons (pe_op op_mulW (pe_ix ix_any (pv 0) pe_int (fun _ _ => rfl)) (pe_ix ix_any (pv 1) pe_int (fun _ _ => rfl))) pa_nil))))))), ?_⟩
  simp only [cx_K, decide_true, decide_false, reduceCtorEq, gTp, gCons, gNil, ca_0, ca_1, ca_2, ca_3, ca_4, ca_5, ca_6, ca_7, ca_8, ca_9, ca_10, ca_11, ca_12, ca_13, ca_14, ca_15, ca_16, ca_17, ca_18, ca_19, ca_20, ca_21, ca_22, ca_23, ca_24, ca_25, ca_26, ca_27, ca_28, ca_29, ca_30, not_true_eq_false, not_false_eq_true, Int.reduceEq, Nat.reduceEqDiff, Nat.reduceLeDiff, rGcd, V.ty.injEq, eq_self, List.not_mem_nil, beq_self_eq_true, HO.lst.injEq, HO.tup.injEq, tFor_eq, iRng1, iList, iTup, nat10, tSeq, rIxA, rSetA, rIsN, rIsT, tTp, tLs, itsO_tup, itsO_lst, tyO_tup, tyO_lst, tyO_dK, tyN_non, tyN_bl, tyN_int, tyN_str, tyN_ref, tyNs_lt, isB, upd_same, upd_upd, sizeLine_eq, List.mem_cons, String.reduceBEq, String.reduceEq, Bool.or_false, Bool.or_true, Bool.and_false, Bool.false_or, Bool.and_self, Bool.false_and, Bool.not_false, Bool.not_true, List.any_cons, List.any_nil, atI_0, setI_0, atI_1, setI_1, atI_2, setI_2, atI_3, setI_3, atI_4, setI_4, atI_5, setI_5, atI_6, setI_6, tAsg, gName, tOp, tUn, tVar, tC, tCons, L2.tNil, tRet, tIfS, tTest, tCB, tCall, rI, rI0, rU, tNext, tB, tAnd, tOr, tNot, tAndV, tOrV, tNotV, tDrop, tIf, tPar, gSub, rIxL, rIxT, rEq, rNe, rSetL, tBits,
    L2.start, List.map_cons, List.map_nil, List.cons_append, List.nil_append, List.append_nil, List.length_cons, List.length_nil, List.replicate, Nat.reduceAdd, Nat.reduceSub, Nat.zero_add, List.getElem?_cons_zero, List.getElem?_cons_succ, List.set_cons_zero, List.set_cons_succ,
    Option.some.injEq, exists_eq_left', exists_eq_left, V.int.injEq, V.bl.injEq, V.ref.injEq, V.str.injEq, List.cons.injEq, reduceCtorEq, and_true, true_and, false_and, and_false, exists_false, or_false, false_or, or_true, true_or, exists_const, CMul, CDiv, CPow, and_assoc, exists_and_left, exists_and_right, Int.reducePow, Int.reduceNeg, Int.reduceLT, Int.reduceLE, Nat.reducePow, Nat.reduceLT, Int.reduceToNat, gt_iff_lt, ge_iff_le, decide_eq_true_eq, Bool.not_eq_true', decide_eq_false_iff_not, scal, ↓reduceIte, Bool.false_eq_true]
  refine ⟨_, rfl, Tyd.fr hp.o, _, by rw [frOk_fr hp.o hp.nf], _, rfl, Tyd.fr hq.o, _, by rw [frOk_fr hq.o hq.nf], ?_⟩
  simp only [hp.o, hq.o, cx_K, decide_true, decide_false, reduceCtorEq, gTp, gCons, gNil, ca_0, ca_1, ca_2, ca_3, ca_4, ca_5, ca_6, ca_7, ca_8, ca_9, ca_10, ca_11, ca_12, ca_13, ca_14, ca_15, ca_16, ca_17, ca_18, ca_19, ca_20, ca_21, ca_22, ca_23, ca_24, ca_25, ca_26, ca_27, ca_28, ca_29, ca_30, not_true_eq_false, not_false_eq_true, Int.reduceEq, Nat.reduceEqDiff, Nat.reduceLeDiff, rGcd, V.ty.injEq, eq_self, List.not_mem_nil, beq_self_eq_true, HO.lst.injEq, HO.tup.injEq, tFor_eq, iRng1, iList, iTup, nat10, tSeq, rIxA, rSetA, rIsN, rIsT, tTp, tLs, itsO_tup, itsO_lst, tyO_tup, tyO_lst, tyO_dK, tyN_non, tyN_bl, tyN_int, tyN_str, tyN_ref, tyNs_lt, isB, upd_same, upd_upd, sizeLine_eq, List.mem_cons, String.reduceBEq, String.reduceEq, Bool.or_false, Bool.or_true, Bool.and_false, Bool.false_or, Bool.and_self, Bool.false_and, Bool.not_false, Bool.not_true, List.any_cons, List.any_nil, atI_0, setI_0, atI_1, setI_1, atI_2, setI_2, atI_3, setI_3, atI_4, setI_4, atI_5, setI_5, atI_6, setI_6, tAsg, gName, tOp, tUn, tVar, tC, tCons, L2.tNil, tRet, tIfS, tTest, tCB, tCall, rI, rI0, rU, tNext, tB, tAnd, tOr, tNot, tAndV, tOrV, tNotV, tDrop, tIf, tPar, gSub, rIxL, rIxT, rEq, rNe, rSetL, tBits,
    L2.start, List.map_cons, List.map_nil, List.cons_append, List.nil_append, List.append_nil, List.length_cons, List.length_nil, List.replicate, Nat.reduceAdd, Nat.reduceSub, Nat.zero_add, List.getElem?_cons_zero, List.getElem?_cons_succ, List.set_cons_zero, List.set_cons_succ,
    Option.some.injEq, exists_eq_left', exists_eq_left, V.int.injEq, V.bl.injEq, V.ref.injEq, V.str.injEq, List.cons.injEq, reduceCtorEq, and_true, true_and, false_and, and_false, exists_false, or_false, false_or, or_true, true_or, exists_const, CMul, CDiv, CPow, and_assoc, exists_and_left, exists_and_right, Int.reducePow, Int.reduceNeg, Int.reduceLT, Int.reduceLE, Nat.reducePow, Nat.reduceLT, Int.reduceToNat, gt_iff_lt, ge_iff_le, decide_eq_true_eq, Bool.not_eq_true', decide_eq_false_iff_not, scal, ↓reduceIte, Bool.false_eq_true]
  exact ⟨mulW hp.sz.1 hq.sz.2 (by omega), mulW hq.sz.1 hp.sz.2 (by omega), mulW hp.sz.2 hq.sz.2 (by omega), _, _, rfl, mul_ne hp.nf.1 hq.nf.1, szMono (szMul hp.sz.2 hq.sz.2) (by omega), k⟩
abbrev sTimes : Stmt := topS 22
theorem scTimes : FnScope ["left", "right"] ["left", "right"] (defScope sTimes) := ⟨rfl, rfl, rfl, by decide +kernel, rfl, by decide +kernel, by decide +kernel⟩
theorem k_Times (T : Bt K mg) (D : Dfn K mg "times" sTimes ["left", "right"]) (d_require : Kn P w K mg base 1 "require" ["well_formed", "what"] spRequire) (d_is_fraction : Kn P w K mg base 2 "is_fraction" ["value"] (spIsFraction K)) (d_fraction : Kn P w K mg base 2 "fraction" ["numerator", "denominator"] (spFraction K)) : Kn P w K mg base 3 "times" ["left", "right"] (spBin K pro2) := by
  refine Kn.mk' D scTimes (fun vs H Q E h => ?_) (fun f cdv A outer s H vs Q E hr h => ?_)
  · obtain ⟨a, b, p, q, rfl, _⟩ := h
    rfl
  obtain ⟨a, b, p, q, rfl, hp, hq, k⟩ := h
  refine ⟨_, (pss_cons (ps_expr (pe_kn d_require hr (by rfl) (pa_cons (pe_kn d_is_fraction hr (by rfl) (pa_cons (pv 0) pa_nil)) (pa_cons pe_str pa_nil))))
      (pss_cons (ps_expr (pe_kn d_require hr (by rfl) (pa_cons (pe_kn d_is_fraction hr (by rfl) (pa_cons (pv 1) pa_nil)) (pa_cons pe_str pa_nil))))
      (pss_one (ps_ret (pe_kn d_fraction hr (by rfl) (pa_cons (pe_op op_mulW (pe_ix ix_any (pv 0) pe_int (fun _ _ => rfl)) (pe_ix ix_any (pv 1) pe_int (fun _ _ => rfl))) (pa_cons (pe_op op_mulW (pe_ix ix_any (pv 0) pe_int (fun _ _ => rfl)) (pe_ix ix_any (pv 1) pe_int (fun _ _ => rfl))) pa_nil))))))), ?_⟩
  simp only [cx_K, decide_true, decide_false, reduceCtorEq, gTp, gCons, gNil, ca_0, ca_1, ca_2, ca_3, ca_4, ca_5, ca_6, ca_7, ca_8, ca_9, ca_10, ca_11, ca_12, ca_13, ca_14, ca_15, ca_16, ca_17, ca_18, ca_19, ca_20, ca_21, ca_22, ca_23, ca_24, ca_25, ca_26, ca_27, ca_28, ca_29, ca_30, not_true_eq_false, not_false_eq_true, Int.reduceEq, Nat.reduceEqDiff, Nat.reduceLeDiff, rGcd, V.ty.injEq, eq_self, List.not_mem_nil, beq_self_eq_true, HO.lst.injEq, HO.tup.injEq, tFor_eq, iRng1, iList, iTup, nat10, tSeq, rIxA, rSetA, rIsN, rIsT, tTp, tLs, itsO_tup, itsO_lst, tyO_tup, tyO_lst, tyO_dK, tyN_non, tyN_bl, tyN_int, tyN_str, tyN_ref, tyNs_lt, isB, upd_same, upd_upd, sizeLine_eq, List.mem_cons, String.reduceBEq, String.reduceEq, Bool.or_false, Bool.or_true, Bool.and_false, Bool.false_or, Bool.and_self, Bool.false_and, Bool.not_false, Bool.not_true, List.any_cons, List.any_nil, atI_0, setI_0, atI_1, setI_1, atI_2, setI_2, atI_3, setI_3, atI_4, setI_4, atI_5, setI_5, atI_6, setI_6, tAsg, gName, tOp, tUn, tVar, tC, tCons, L2.tNil, tRet, tIfS, tTest, tCB, tCall, rI, rI0, rU, tNext, tB, tAnd, tOr, tNot, tAndV, tOrV, tNotV, tDrop, tIf, tPar, gSub, rIxL, rIxT, rEq, rNe, rSetL, tBits,
    L2.start, List.map_cons, List.map_nil, List.cons_append, List.nil_append, List.append_nil, List.length_cons, List.length_nil, List.replicate, Nat.reduceAdd, Nat.reduceSub, Nat.zero_add, List.getElem?_cons_zero, List.getElem?_cons_succ, List.set_cons_zero, List.set_cons_succ,
    Option.some.injEq, exists_eq_left', exists_eq_left, V.int.injEq, V.bl.injEq, V.ref.injEq, V.str.injEq, List.cons.injEq, reduceCtorEq, and_true, true_and, false_and, and_false, exists_false, or_false, false_or, or_true, true_or, exists_const, CMul, CDiv, CPow, and_assoc, exists_and_left, exists_and_right, Int.reducePow, Int.reduceNeg, Int.reduceLT, Int.reduceLE, Nat.reducePow, Nat.reduceLT, Int.reduceToNat, gt_iff_lt, ge_iff_le, decide_eq_true_eq, Bool.not_eq_true', decide_eq_false_iff_not, scal, ↓reduceIte, Bool.false_eq_true]
  refine ⟨_, rfl, Tyd.fr hp.o, _, by rw [frOk_fr hp.o hp.nf], _, rfl, Tyd.fr hq.o, _, by rw [frOk_fr hq.o hq.nf], ?_⟩
  simp only [hp.o, hq.o, cx_K, decide_true, decide_false, reduceCtorEq, gTp, gCons, gNil, ca_0, ca_1, ca_2, ca_3, ca_4, ca_5, ca_6, ca_7, ca_8, ca_9, ca_10, ca_11, ca_12, ca_13, ca_14, ca_15, ca_16, ca_17, ca_18, ca_19, ca_20, ca_21, ca_22, ca_23, ca_24, ca_25, ca_26, ca_27, ca_28, ca_29, ca_30, not_true_eq_false, not_false_eq_true, Int.reduceEq, Nat.reduceEqDiff, Nat.reduceLeDiff, rGcd, V.ty.injEq, eq_self, List.not_mem_nil, beq_self_eq_true, HO.lst.injEq, HO.tup.injEq, tFor_eq, iRng1, iList, iTup, nat10, tSeq, rIxA, rSetA, rIsN, rIsT, tTp, tLs, itsO_tup, itsO_lst, tyO_tup, tyO_lst, tyO_dK, tyN_non, tyN_bl, tyN_int, tyN_str, tyN_ref, tyNs_lt, isB, upd_same, upd_upd, sizeLine_eq, List.mem_cons, String.reduceBEq, String.reduceEq, Bool.or_false, Bool.or_true, Bool.and_false, Bool.false_or, Bool.and_self, Bool.false_and, Bool.not_false, Bool.not_true, List.any_cons, List.any_nil, atI_0, setI_0, atI_1, setI_1, atI_2, setI_2, atI_3, setI_3, atI_4, setI_4, atI_5, setI_5, atI_6, setI_6, tAsg, gName, tOp, tUn, tVar, tC, tCons, L2.tNil, tRet, tIfS, tTest, tCB, tCall, rI, rI0, rU, tNext, tB, tAnd, tOr, tNot, tAndV, tOrV, tNotV, tDrop, tIf, tPar, gSub, rIxL, rIxT, rEq, rNe, rSetL, tBits,
    L2.start, List.map_cons, List.map_nil, List.cons_append, List.nil_append, List.append_nil, List.length_cons, List.length_nil, List.replicate, Nat.reduceAdd, Nat.reduceSub, Nat.zero_add, List.getElem?_cons_zero, List.getElem?_cons_succ, List.set_cons_zero, List.set_cons_succ,
    Option.some.injEq, exists_eq_left', exists_eq_left, V.int.injEq, V.bl.injEq, V.ref.injEq, V.str.injEq, List.cons.injEq, reduceCtorEq, and_true, true_and, false_and, and_false, exists_false, or_false, false_or, or_true, true_or, exists_const, CMul, CDiv, CPow, and_assoc, exists_and_left, exists_and_right, Int.reducePow, Int.reduceNeg, Int.reduceLT, Int.reduceLE, Nat.reducePow, Nat.reduceLT, Int.reduceToNat, gt_iff_lt, ge_iff_le, decide_eq_true_eq, Bool.not_eq_true', decide_eq_false_iff_not, scal, ↓reduceIte, Bool.false_eq_true]
  exact ⟨mulW hp.sz.1 hq.sz.1 (by omega), mulW hp.sz.2 hq.sz.2 (by omega), _, _, rfl, mul_ne hp.nf.1 hq.nf.1, szMono (szMul hp.sz.2 hq.sz.2) (by omega), k⟩
abbrev sCompare : Stmt := topS 23
theorem scCompare : FnScope ["left", "right", "scaled_left", "scaled_right"] ["left", "right"] (defScope sCompare) := ⟨rfl, rfl, rfl, by decide +kernel, rfl, by decide +kernel, by decide +kernel⟩
theorem k_Compare (T : Bt K mg) (D : Dfn K mg "compare" sCompare ["left", "right"]) (d_require : Kn P w K mg base 1 "require" ["well_formed", "what"] spRequire) (d_is_fraction : Kn P w K mg base 2 "is_fraction" ["value"] (spIsFraction K)) : Kn P w K mg base 3 "compare" ["left", "right"] (spCmp K) := by
  refine Kn.mk' D scCompare (fun vs H Q E h => ?_) (fun f cdv A outer s H vs Q E hr h => ?_)
  · obtain ⟨a, b, p, q, rfl, _⟩ := h
    rfl
  obtain ⟨a, b, p, q, rfl, hp, hq, k⟩ := h
  refine ⟨_, (pss_cons (ps_expr (pe_kn d_require hr (by rfl) (pa_cons (pe_kn d_is_fraction hr (by rfl) (pa_cons (pv 0) pa_nil)) (pa_cons pe_str pa_nil))))
      (pss_cons (ps_expr (pe_kn d_require hr (by rfl) (pa_cons (pe_kn d_is_fraction hr (by rfl) (pa_cons (pv 1) pa_nil)) (pa_cons pe_str pa_nil))))
      (pss_cons (ps_set (i := 2) scCompare.nd rfl (.inl rfl) (pe_op op_mulW (pe_ix ix_any (pv 0) pe_int (fun _ _ => rfl)) (pe_ix ix_any (pv 1) pe_int (fun _ _ => rfl))))
      (pss_cons (ps_set (i := 3) scCompare.nd rfl (.inl rfl) (pe_op op_mulW (pe_ix ix_any (pv 1) pe_int (fun _ _ => rfl)) (pe_ix ix_any (pv 0) pe_int (fun _ _ => rfl))))
      (pss_cons (ps_if (pt_cmpR op_eq (pv 2) (pv 3) (nomark _)) (pss_one (ps_ret pe_int)) pss_nil)
      (pss_one (ps_ret (pe_ifExp (pt_cmpR op_lt (pv 2) (pv 3) (nomark _)) (pe_un un_neg pe_int) pe_int)))))))), ?_⟩
  simp only [cx_K, decide_true, decide_false, reduceCtorEq, gTp, gCons, gNil, ca_0, ca_1, ca_2, ca_3, ca_4, ca_5, ca_6, ca_7, ca_8, ca_9, ca_10, ca_11, ca_12, ca_13, ca_14, ca_15, ca_16, ca_17, ca_18, ca_19, ca_20, ca_21, ca_22, ca_23, ca_24, ca_25, ca_26, ca_27, ca_28, ca_29, ca_30, not_true_eq_false, not_false_eq_true, Int.reduceEq, Nat.reduceEqDiff, Nat.reduceLeDiff, rGcd, V.ty.injEq, eq_self, List.not_mem_nil, beq_self_eq_true, HO.lst.injEq, HO.tup.injEq, tFor_eq, iRng1, iList, iTup, nat10, tSeq, rIxA, rSetA, rIsN, rIsT, tTp, tLs, itsO_tup, itsO_lst, tyO_tup, tyO_lst, tyO_dK, tyN_non, tyN_bl, tyN_int, tyN_str, tyN_ref, tyNs_lt, isB, upd_same, upd_upd, sizeLine_eq, List.mem_cons, String.reduceBEq, String.reduceEq, Bool.or_false, Bool.or_true, Bool.and_false, Bool.false_or, Bool.and_self, Bool.false_and, Bool.not_false, Bool.not_true, List.any_cons, List.any_nil, atI_0, setI_0, atI_1, setI_1, atI_2, setI_2, atI_3, setI_3, atI_4, setI_4, atI_5, setI_5, atI_6, setI_6, tAsg, gName, tOp, tUn, tVar, tC, tCons, L2.tNil, tRet, tIfS, tTest, tCB, tCall, rI, rI0, rU, tNext, tB, tAnd, tOr, tNot, tAndV, tOrV, tNotV, tDrop, tIf, tPar, gSub, rIxL, rIxT, rEq, rNe, rSetL, tBits,
    L2.start, List.map_cons, List.map_nil, List.cons_append, List.nil_append, List.append_nil, List.length_cons, List.length_nil, List.replicate, Nat.reduceAdd, Nat.reduceSub, Nat.zero_add, List.getElem?_cons_zero, List.getElem?_cons_succ, List.set_cons_zero, List.set_cons_succ,
    Option.some.injEq, exists_eq_left', exists_eq_left, V.int.injEq, V.bl.injEq, V.ref.injEq, V.str.injEq, List.cons.injEq, reduceCtorEq, and_true, true_and, false_and, and_false, exists_false, or_false, false_or, or_true, true_or, exists_const, CMul, CDiv, CPow, and_assoc, exists_and_left, exists_and_right, Int.reducePow, Int.reduceNeg, Int.reduceLT, Int.reduceLE, Nat.reducePow, Nat.reduceLT, Int.reduceToNat, gt_iff_lt, ge_iff_le, decide_eq_true_eq, Bool.not_eq_true', decide_eq_false_iff_not, scal, ↓reduceIte, Bool.false_eq_true]
  refine ⟨_, rfl, Tyd.fr hp.o, _, by rw [frOk_fr hp.o hp.nf], _, rfl, Tyd.fr hq.o, _, by rw [frOk_fr hq.o hq.nf], ?_⟩
  simp only [hp.o, hq.o, cx_K, decide_true, decide_false, reduceCtorEq, gTp, gCons, gNil, ca_0, ca_1, ca_2, ca_3, ca_4, ca_5, ca_6, ca_7, ca_8, ca_9, ca_10, ca_11, ca_12, ca_13, ca_14, ca_15, ca_16, ca_17, ca_18, ca_19, ca_20, ca_21, ca_22, ca_23, ca_24, ca_25, ca_26, ca_27, ca_28, ca_29, ca_30, not_true_eq_false, not_false_eq_true, Int.reduceEq, Nat.reduceEqDiff, Nat.reduceLeDiff, rGcd, V.ty.injEq, eq_self, List.not_mem_nil, beq_self_eq_true, HO.lst.injEq, HO.tup.injEq, tFor_eq, iRng1, iList, iTup, nat10, tSeq, rIxA, rSetA, rIsN, rIsT, tTp, tLs, itsO_tup, itsO_lst, tyO_tup, tyO_lst, tyO_dK, tyN_non, tyN_bl, tyN_int, tyN_str, tyN_ref, tyNs_lt, isB, upd_same, upd_upd, sizeLine_eq, List.mem_cons, String.reduceBEq, String.reduceEq, Bool.or_false, Bool.or_true, Bool.and_false, Bool.false_or, Bool.and_self, Bool.false_and, Bool.not_false, Bool.not_true, List.any_cons, List.any_nil, atI_0, setI_0, atI_1, setI_1, atI_2, setI_2, atI_3, setI_3, atI_4, setI_4, atI_5, setI_5, atI_6, setI_6, tAsg, gName, tOp, tUn, tVar, tC, tCons, L2.tNil, tRet, tIfS, tTest, tCB, tCall, rI, rI0, rU, tNext, tB, tAnd, tOr, tNot, tAndV, tOrV, tNotV, tDrop, tIf, tPar, gSub, rIxL, rIxT, rEq, rNe, rSetL, tBits,
    L2.start, List.map_cons, List.map_nil, List.cons_append, List.nil_append, List.append_nil, List.length_cons, List.length_nil, List.replicate, Nat.reduceAdd, Nat.reduceSub, Nat.zero_add, List.getElem?_cons_zero, List.getElem?_cons_succ, List.set_cons_zero, List.set_cons_succ,
    Option.some.injEq, exists_eq_left', exists_eq_left, V.int.injEq, V.bl.injEq, V.ref.injEq, V.str.injEq, List.cons.injEq, reduceCtorEq, and_true, true_and, false_and, and_false, exists_false, or_false, false_or, or_true, true_or, exists_const, CMul, CDiv, CPow, and_assoc, exists_and_left, exists_and_right, Int.reducePow, Int.reduceNeg, Int.reduceLT, Int.reduceLE, Nat.reducePow, Nat.reduceLT, Int.reduceToNat, gt_iff_lt, ge_iff_le, decide_eq_true_eq, Bool.not_eq_true', decide_eq_false_iff_not, scal, ↓reduceIte, Bool.false_eq_true]
  refine ⟨mulW hp.sz.1 hq.sz.2 (by omega), mulW hq.sz.1 hp.sz.2 (by omega), ?_⟩
  unfold cmp2 at k
  refine ite2 (fun h => ?_) (fun h => ?_)
  · rw [if_pos h] at k
    exact k
  rw [if_neg h] at k
  refine ite2 (fun h => ?_) (fun h => ?_)
  · rw [if_pos h] at k
    exact k
  · rw [if_neg h] at k
    exact k
def spQuot (K : PySem.W.Frag) : Sp := fun vs H Q _ => ∃ (a : Addr) (z : Qt) (t b : Int), vs = [.ref a, .int t, .int b] ∧ Fq K H 3000 a z ∧ Is z t b ∧ t.natAbs < 2 ^ 3000 ∧ b.natAbs < 2 ^ 3000 ∧ Q (.bl true) H
abbrev sLPlus : Stmt := topS 42
theorem scLPlus : FnScope ["_law_left", "_law_right"] ["_law_left", "_law_right"] (defScope sLPlus) := ⟨rfl, rfl, rfl, by decide +kernel, rfl, by decide +kernel, by decide +kernel⟩
theorem k_LPlus (T : Bt K mg) (D : Dfn K mg "_law_plus" sLPlus ["_law_left", "_law_right"]) (d__law_lowest : Kn P w K mg base 2 "_law_lowest" ["_law_top", "_law_bottom"] (spLowest K)) : Kn P w K mg base 3 "_law_plus" ["_law_left", "_law_right"] (spBin K sum2) := by
  refine Kn.mk' D scLPlus (fun vs H Q E h => ?_) (fun f cdv A outer s H vs Q E hr h => ?_)
  · obtain ⟨a, b, p, q, rfl, _⟩ := h
    rfl
  obtain ⟨a, b, p, q, rfl, hp, hq, k⟩ := h
  refine ⟨_, (pss_one (ps_ret (pe_kn d__law_lowest hr (by rfl) (pa_cons (pe_op op_add (pe_op op_mulW (pe_ix ix_any (pv 0) pe_int (fun _ _ => rfl)) (pe_ix ix_any (pv 1) pe_int (fun _ _ => rfl))) (pe_op op_mulW (pe_ix ix_any (pv 1) pe_int (fun _ _ => rfl)) (pe_ix ix_any (pv 0) pe_int (fun _ _ => rfl)))) (pa_cons (pe_op op_mulW (pe_ix ix_any (pv 0) pe_int (fun _ _ => rfl)) (pe_ix ix_any (pv 1) pe_int (fun _ _ => rfl))) pa_nil))))), ?_⟩
  simp only [hp.o, hq.o, cx_K, decide_true, decide_false, reduceCtorEq, gTp, gCons, gNil, ca_0, ca_1, ca_2, ca_3, ca_4, ca_5, ca_6, ca_7, ca_8, ca_9, ca_10, ca_11, ca_12, ca_13, ca_14, ca_15, ca_16, ca_17, ca_18, ca_19, ca_20, ca_21, ca_22, ca_23, ca_24, ca_25, ca_26, ca_27, ca_28, ca_29, ca_30, not_true_eq_false, not_false_eq_true, Int.reduceEq, Nat.reduceEqDiff, Nat.reduceLeDiff, rGcd, V.ty.injEq, eq_self, List.not_mem_nil, beq_self_eq_true, HO.lst.injEq, HO.tup.injEq, tFor_eq, iRng1, iList, iTup, nat10, tSeq, rIxA, rSetA, rIsN, rIsT, tTp, tLs, itsO_tup, itsO_lst, tyO_tup, tyO_lst, tyO_dK, tyN_non, tyN_bl, tyN_int, tyN_str, tyN_ref, tyNs_lt, isB, upd_same, upd_upd, sizeLine_eq, List.mem_cons, String.reduceBEq, String.reduceEq, Bool.or_false, Bool.or_true, Bool.and_false, Bool.false_or, Bool.and_self, Bool.false_and, Bool.not_false, Bool.not_true, List.any_cons, List.any_nil, atI_0, setI_0, atI_1, setI_1, atI_2, setI_2, atI_3, setI_3, atI_4, setI_4, atI_5, setI_5, atI_6, setI_6, tAsg, gName, tOp, tUn, tVar, tC, tCons, L2.tNil, tRet, tIfS, tTest, tCB, tCall, rI, rI0, rU, tNext, tB, tAnd, tOr, tNot, tAndV, tOrV, tNotV, tDrop, tIf, tPar, gSub, rIxL, rIxT, rEq, rNe, rSetL, tBits,
    L2.start, List.map_cons, List.map_nil, List.cons_append, List.nil_append, List.append_nil, List.length_cons, List.length_nil, List.replicate, Nat.reduceAdd, Nat.reduceSub, Nat.zero_add, List.getElem?_cons_zero, List.getElem?_cons_succ, List.set_cons_zero, List.set_cons_succ,
    Option.some.injEq, exists_eq_left', exists_eq_left, V.int.injEq, V.bl.injEq, V.ref.injEq, V.str.injEq, List.cons.injEq, reduceCtorEq, and_true, true_and, false_and, and_false, exists_false, or_false, false_or, or_true, true_or, exists_const, CMul, CDiv, CPow, and_assoc, exists_and_left, exists_and_right, Int.reducePow, Int.reduceNeg, Int.reduceLT, Int.reduceLE, Nat.reducePow, Nat.reduceLT, Int.reduceToNat, gt_iff_lt, ge_iff_le, decide_eq_true_eq, Bool.not_eq_true', decide_eq_false_iff_not, scal, ↓reduceIte, Bool.false_eq_true]
  exact ⟨mulW hp.sz.1 hq.sz.2 (by omega), mulW hq.sz.1 hp.sz.2 (by omega), mulW hp.sz.2 hq.sz.2 (by omega), _, _, rfl, szMono (szMul hp.sz.2 hq.sz.2) (by omega), fun z hz => k z (hz.2 (mul_ne hp.nf.1 hq.nf.1))⟩
abbrev sFloor : Stmt := topS 25
theorem scFloor : FnScope ["value"] ["value"] (defScope sFloor) := ⟨rfl, rfl, rfl, by decide +kernel, rfl, by decide +kernel, by decide +kernel⟩
theorem k_Floor (T : Bt K mg) (D : Dfn K mg "floor_of" sFloor ["value"]) (d_require : Kn P w K mg base 1 "require" ["well_formed", "what"] spRequire) (d_is_fraction : Kn P w K mg base 2 "is_fraction" ["value"] (spIsFraction K)) : Kn P w K mg base 3 "floor_of" ["value"] (spFloor K) := by
  refine Kn.mk' D scFloor (fun vs H Q E h => ?_) (fun f cdv A outer s H vs Q E hr h => ?_)
  · obtain ⟨a, q, rfl, _⟩ := h
    rfl
  obtain ⟨a, q, rfl, hq, k⟩ := h
  refine ⟨_, (pss_cons (ps_expr (pe_kn d_require hr (by rfl) (pa_cons (pe_kn d_is_fraction hr (by rfl) (pa_cons (pv 0) pa_nil)) (pa_cons pe_str pa_nil))))
      (pss_one (ps_ret (pe_op op_fdivW (pe_ix ix_any (pv 0) pe_int (fun _ _ => rfl)) (pe_ix ix_any (pv 0) pe_int (fun _ _ => rfl)))))), ?_⟩
  simp only [cx_K, decide_true, decide_false, reduceCtorEq, gTp, gCons, gNil, ca_0, ca_1, ca_2, ca_3, ca_4, ca_5, ca_6, ca_7, ca_8, ca_9, ca_10, ca_11, ca_12, ca_13, ca_14, ca_15, ca_16, ca_17, ca_18, ca_19, ca_20, ca_21, ca_22, ca_23, ca_24, ca_25, ca_26, ca_27, ca_28, ca_29, ca_30, not_true_eq_false, not_false_eq_true, Int.reduceEq, Nat.reduceEqDiff, Nat.reduceLeDiff, rGcd, V.ty.injEq, eq_self, List.not_mem_nil, beq_self_eq_true, HO.lst.injEq, HO.tup.injEq, tFor_eq, iRng1, iList, iTup, nat10, tSeq, rIxA, rSetA, rIsN, rIsT, tTp, tLs, itsO_tup, itsO_lst, tyO_tup, tyO_lst, tyO_dK, tyN_non, tyN_bl, tyN_int, tyN_str, tyN_ref, tyNs_lt, isB, upd_same, upd_upd, sizeLine_eq, List.mem_cons, String.reduceBEq, String.reduceEq, Bool.or_false, Bool.or_true, Bool.and_false, Bool.false_or, Bool.and_self, Bool.false_and, Bool.not_false, Bool.not_true, List.any_cons, List.any_nil, atI_0, setI_0, atI_1, setI_1, atI_2, setI_2, atI_3, setI_3, atI_4, setI_4, atI_5, setI_5, atI_6, setI_6, tAsg, gName, tOp, tUn, tVar, tC, tCons, L2.tNil, tRet, tIfS, tTest, tCB, tCall, rI, rI0, rU, tNext, tB, tAnd, tOr, tNot, tAndV, tOrV, tNotV, tDrop, tIf, tPar, gSub, rIxL, rIxT, rEq, rNe, rSetL, tBits,
    L2.start, List.map_cons, List.map_nil, List.cons_append, List.nil_append, List.append_nil, List.length_cons, List.length_nil, List.replicate, Nat.reduceAdd, Nat.reduceSub, Nat.zero_add, List.getElem?_cons_zero, List.getElem?_cons_succ, List.set_cons_zero, List.set_cons_succ,
    Option.some.injEq, exists_eq_left', exists_eq_left, V.int.injEq, V.bl.injEq, V.ref.injEq, V.str.injEq, List.cons.injEq, reduceCtorEq, and_true, true_and, false_and, and_false, exists_false, or_false, false_or, or_true, true_or, exists_const, CMul, CDiv, CPow, and_assoc, exists_and_left, exists_and_right, Int.reducePow, Int.reduceNeg, Int.reduceLT, Int.reduceLE, Nat.reducePow, Nat.reduceLT, Int.reduceToNat, gt_iff_lt, ge_iff_le, decide_eq_true_eq, Bool.not_eq_true', decide_eq_false_iff_not, scal, ↓reduceIte, Bool.false_eq_true]
  refine ⟨_, rfl, Tyd.fr hq.o, _, by rw [frOk_fr hq.o hq.nf], ?_⟩
  simp only [hq.o, cx_K, decide_true, decide_false, reduceCtorEq, gTp, gCons, gNil, ca_0, ca_1, ca_2, ca_3, ca_4, ca_5, ca_6, ca_7, ca_8, ca_9, ca_10, ca_11, ca_12, ca_13, ca_14, ca_15, ca_16, ca_17, ca_18, ca_19, ca_20, ca_21, ca_22, ca_23, ca_24, ca_25, ca_26, ca_27, ca_28, ca_29, ca_30, not_true_eq_false, not_false_eq_true, Int.reduceEq, Nat.reduceEqDiff, Nat.reduceLeDiff, rGcd, V.ty.injEq, eq_self, List.not_mem_nil, beq_self_eq_true, HO.lst.injEq, HO.tup.injEq, tFor_eq, iRng1, iList, iTup, nat10, tSeq, rIxA, rSetA, rIsN, rIsT, tTp, tLs, itsO_tup, itsO_lst, tyO_tup, tyO_lst, tyO_dK, tyN_non, tyN_bl, tyN_int, tyN_str, tyN_ref, tyNs_lt, isB, upd_same, upd_upd, sizeLine_eq, List.mem_cons, String.reduceBEq, String.reduceEq, Bool.or_false, Bool.or_true, Bool.and_false, Bool.false_or, Bool.and_self, Bool.false_and, Bool.not_false, Bool.not_true, List.any_cons, List.any_nil, atI_0, setI_0, atI_1, setI_1, atI_2, setI_2, atI_3, setI_3, atI_4, setI_4, atI_5, setI_5, atI_6, setI_6, tAsg, gName, tOp, tUn, tVar, tC, tCons, L2.tNil, tRet, tIfS, tTest, tCB, tCall, rI, rI0, rU, tNext, tB, tAnd, tOr, tNot, tAndV, tOrV, tNotV, tDrop, tIf, tPar, gSub, rIxL, rIxT, rEq, rNe, rSetL, tBits,
    L2.start, List.map_cons, List.map_nil, List.cons_append, List.nil_append, List.append_nil, List.length_cons, List.length_nil, List.replicate, Nat.reduceAdd, Nat.reduceSub, Nat.zero_add, List.getElem?_cons_zero, List.getElem?_cons_succ, List.set_cons_zero, List.set_cons_succ,
    Option.some.injEq, exists_eq_left', exists_eq_left, V.int.injEq, V.bl.injEq, V.ref.injEq, V.str.injEq, List.cons.injEq, reduceCtorEq, and_true, true_and, false_and, and_false, exists_false, or_false, false_or, or_true, true_or, exists_const, CMul, CDiv, CPow, and_assoc, exists_and_left, exists_and_right, Int.reducePow, Int.reduceNeg, Int.reduceLT, Int.reduceLE, Nat.reducePow, Nat.reduceLT, Int.reduceToNat, gt_iff_lt, ge_iff_le, decide_eq_true_eq, Bool.not_eq_true', decide_eq_false_iff_not, scal, ↓reduceIte, Bool.false_eq_true]
  exact ⟨wide_div (b := 8000) (by have := hq.nf.1; omega) hq.sz.2 (by omega) (by omega), k⟩
abbrev sMagn : Stmt := topS 24
theorem scMagn : FnScope ["value"] ["value"] (defScope sMagn) := ⟨rfl, rfl, rfl, by decide +kernel, rfl, by decide +kernel, by decide +kernel⟩
theorem k_Magn (T : Bt K mg) (D : Dfn K mg "magnitude" sMagn ["value"]) (d_require : Kn P w K mg base 1 "require" ["well_formed", "what"] spRequire) (d_is_fraction : Kn P w K mg base 2 "is_fraction" ["value"] (spIsFraction K)) : Kn P w K mg base 3 "magnitude" ["value"] (spUn K fun q => ((q.1.natAbs : Int), q.2)) := by
  refine Kn.mk' D scMagn (fun vs H Q E h => ?_) (fun f cdv A outer s H vs Q E hr h => ?_)
  · obtain ⟨a, q, rfl, _⟩ := h
    rfl
  obtain ⟨a, q, rfl, hq, k⟩ := h
  refine ⟨_, (pss_cons (ps_expr (pe_kn d_require hr (by rfl) (pa_cons (pe_kn d_is_fraction hr (by rfl) (pa_cons (pv 0) pa_nil)) (pa_cons pe_str pa_nil))))
      (pss_one (ps_ret (pe_tp (pa_cons (pe_callB call_abs (by rfl) T.b_abs (by decide +kernel) (pa_cons (pe_ix ix_any (pv 0) pe_int (fun _ _ => rfl)) pa_nil)) (pa_cons (pe_ix ix_any (pv 0) pe_int (fun _ _ => rfl)) pa_nil)))))), ?_⟩
  simp only [cx_K, decide_true, decide_false, reduceCtorEq, gTp, gCons, gNil, ca_0, ca_1, ca_2, ca_3, ca_4, ca_5, ca_6, ca_7, ca_8, ca_9, ca_10, ca_11, ca_12, ca_13, ca_14, ca_15, ca_16, ca_17, ca_18, ca_19, ca_20, ca_21, ca_22, ca_23, ca_24, ca_25, ca_26, ca_27, ca_28, ca_29, ca_30, not_true_eq_false, not_false_eq_true, Int.reduceEq, Nat.reduceEqDiff, Nat.reduceLeDiff, rGcd, V.ty.injEq, eq_self, List.not_mem_nil, beq_self_eq_true, HO.lst.injEq, HO.tup.injEq, tFor_eq, iRng1, iList, iTup, nat10, tSeq, rIxA, rSetA, rIsN, rIsT, tTp, tLs, itsO_tup, itsO_lst, tyO_tup, tyO_lst, tyO_dK, tyN_non, tyN_bl, tyN_int, tyN_str, tyN_ref, tyNs_lt, isB, upd_same, upd_upd, sizeLine_eq, List.mem_cons, String.reduceBEq, String.reduceEq, Bool.or_false, Bool.or_true, Bool.and_false, Bool.false_or, Bool.and_self, Bool.false_and, Bool.not_false, Bool.not_true, List.any_cons, List.any_nil, atI_0, setI_0, atI_1, setI_1, atI_2, setI_2, atI_3, setI_3, atI_4, setI_4, atI_5, setI_5, atI_6, setI_6, tAsg, gName, tOp, tUn, tVar, tC, tCons, L2.tNil, tRet, tIfS, tTest, tCB, tCall, rI, rI0, rU, tNext, tB, tAnd, tOr, tNot, tAndV, tOrV, tNotV, tDrop, tIf, tPar, gSub, rIxL, rIxT, rEq, rNe, rSetL, tBits,
    L2.start, List.map_cons, List.map_nil, List.cons_append, List.nil_append, List.append_nil, List.length_cons, List.length_nil, List.replicate, Nat.reduceAdd, Nat.reduceSub, Nat.zero_add, List.getElem?_cons_zero, List.getElem?_cons_succ, List.set_cons_zero, List.set_cons_succ,
    Option.some.injEq, exists_eq_left', exists_eq_left, V.int.injEq, V.bl.injEq, V.ref.injEq, V.str.injEq, List.cons.injEq, reduceCtorEq, and_true, true_and, false_and, and_false, exists_false, or_false, false_or, or_true, true_or, exists_const, CMul, CDiv, CPow, and_assoc, exists_and_left, exists_and_right, Int.reducePow, Int.reduceNeg, Int.reduceLT, Int.reduceLE, Nat.reducePow, Nat.reduceLT, Int.reduceToNat, gt_iff_lt, ge_iff_le, decide_eq_true_eq, Bool.not_eq_true', decide_eq_false_iff_not, scal, ↓reduceIte, Bool.false_eq_true]
  refine ⟨_, rfl, Tyd.fr hq.o, _, by rw [frOk_fr hq.o hq.nf], ?_⟩
  simp only [hq.o, abs_if, cx_K, decide_true, decide_false, reduceCtorEq, gTp, gCons, gNil, ca_0, ca_1, ca_2, ca_3, ca_4, ca_5, ca_6, ca_7, ca_8, ca_9, ca_10, ca_11, ca_12, ca_13, ca_14, ca_15, ca_16, ca_17, ca_18, ca_19, ca_20, ca_21, ca_22, ca_23, ca_24, ca_25, ca_26, ca_27, ca_28, ca_29, ca_30, not_true_eq_false, not_false_eq_true, Int.reduceEq, Nat.reduceEqDiff, Nat.reduceLeDiff, rGcd, V.ty.injEq, eq_self, List.not_mem_nil, beq_self_eq_true, HO.lst.injEq, HO.tup.injEq, tFor_eq, iRng1, iList, iTup, nat10, tSeq, rIxA, rSetA, rIsN, rIsT, tTp, tLs, itsO_tup, itsO_lst, tyO_tup, tyO_lst, tyO_dK, tyN_non, tyN_bl, tyN_int, tyN_str, tyN_ref, tyNs_lt, isB, upd_same, upd_upd, sizeLine_eq, List.mem_cons, String.reduceBEq, String.reduceEq, Bool.or_false, Bool.or_true, Bool.and_false, Bool.false_or, Bool.and_self, Bool.false_and, Bool.not_false, Bool.not_true, List.any_cons, List.any_nil, atI_0, setI_0, atI_1, setI_1, atI_2, setI_2, atI_3, setI_3, atI_4, setI_4, atI_5, setI_5, atI_6, setI_6, tAsg, gName, tOp, tUn, tVar, tC, tCons, L2.tNil, tRet, tIfS, tTest, tCB, tCall, rI, rI0, rU, tNext, tB, tAnd, tOr, tNot, tAndV, tOrV, tNotV, tDrop, tIf, tPar, gSub, rIxL, rIxT, rEq, rNe, rSetL, tBits,
    L2.start, List.map_cons, List.map_nil, List.cons_append, List.nil_append, List.append_nil, List.length_cons, List.length_nil, List.replicate, Nat.reduceAdd, Nat.reduceSub, Nat.zero_add, List.getElem?_cons_zero, List.getElem?_cons_succ, List.set_cons_zero, List.set_cons_succ,
    Option.some.injEq, exists_eq_left', exists_eq_left, V.int.injEq, V.bl.injEq, V.ref.injEq, V.str.injEq, List.cons.injEq, reduceCtorEq, and_true, true_and, false_and, and_false, exists_false, or_false, false_or, or_true, true_or, exists_const, CMul, CDiv, CPow, and_assoc, exists_and_left, exists_and_right, Int.reducePow, Int.reduceNeg, Int.reduceLT, Int.reduceLE, Nat.reducePow, Nat.reduceLT, Int.reduceToNat, gt_iff_lt, ge_iff_le, decide_eq_true_eq, Bool.not_eq_true', decide_eq_false_iff_not, scal, ↓reduceIte, Bool.false_eq_true]
  exact fun p hp kp => k.new hp kp
def spLFracs (K : PySem.W.Frag) : Sp := fun vs H Q _ => ∃ (l : Addr) (xs : List V), vs = [.ref l] ∧ H l = some (.lst xs) ∧ K.lookup l = none ∧ (∀ x ∈ xs, ∃ a q, x = .ref a ∧ Fq K H 8000 a q) ∧ Q (.bl true) H
def FracsI (l : Addr) (H : Hp) (_ : Nat) (σ : L2.St) (H' : Hp) : Prop := ∃ y, σ = [some (.ref l), y] ∧ H' = H
def spLeaves (K : PySem.W.Frag) : Sp := fun vs H Q _ => ∃ (a b : Addr) (p q : Qt), vs = [.ref a, .ref b] ∧ Fq K H 8000 a p ∧ Fq K H 8000 b q ∧ Q (.bl (decide (q.2 = p.2) && decide ((p.1 - q.1) % p.2 = 0))) H
abbrev sLMinus : Stmt := topS 43
theorem scLMinus : FnScope ["_law_left", "_law_right"] ["_law_left", "_law_right"] (defScope sLMinus) := ⟨rfl, rfl, rfl, by decide +kernel, rfl, by decide +kernel, by decide +kernel⟩
theorem k_LMinus (T : Bt K mg) (D : Dfn K mg "_law_minus" sLMinus ["_law_left", "_law_right"]) (d__law_lowest : Kn P w K mg base 2 "_law_lowest" ["_law_top", "_law_bottom"] (spLowest K)) : Kn P w K mg base 3 "_law_minus" ["_law_left", "_law_right"] (spBin K dif2) := by
  refine Kn.mk' D scLMinus (fun vs H Q E h => ?_) (fun f cdv A outer s H vs Q E hr h => ?_)
  · obtain ⟨a, b, p, q, rfl, _⟩ := h
    rfl
  obtain ⟨a, b, p, q, rfl, hp, hq, k⟩ := h
  refine ⟨_, (pss_one (ps_ret (pe_kn d__law_lowest hr (by rfl) (pa_cons (pe_op op_sub (pe_op op_mulW (pe_ix ix_any (pv 0) pe_int (fun _ _ => rfl)) (pe_ix ix_any (pv 1) pe_int (fun _ _ => rfl))) (pe_op op_mulW (pe_ix ix_any (pv 1) pe_int (fun _ _ => rfl)) (pe_ix ix_any (pv 0) pe_int (fun _ _ => rfl)))) (pa_cons (pe_op op_mulW (pe_ix ix_any (pv 0) pe_int (fun _ _ => rfl)) (pe_ix ix_any (pv 1) pe_int (fun _ _ => rfl))) pa_nil))))), ?_⟩
  simp only [hp.o, hq.o, cx_K, decide_true, decide_false, reduceCtorEq, gTp, gCons, gNil, ca_0, ca_1, ca_2, ca_3, ca_4, ca_5, ca_6, ca_7, ca_8, ca_9, ca_10, ca_11, ca_12, ca_13, ca_14, ca_15, ca_16, ca_17, ca_18, ca_19, ca_20, ca_21, ca_22, ca_23, ca_24, ca_25, ca_26, ca_27, ca_28, ca_29, ca_30, not_true_eq_false, not_false_eq_true, Int.reduceEq, Nat.reduceEqDiff, Nat.reduceLeDiff, rGcd, V.ty.injEq, eq_self, List.not_mem_nil, beq_self_eq_true, HO.lst.injEq, HO.tup.injEq, tFor_eq, iRng1, iList, iTup, nat10, tSeq, rIxA, rSetA, rIsN, rIsT, tTp, tLs, itsO_tup, itsO_lst, tyO_tup, tyO_lst, tyO_dK, tyN_non, tyN_bl, tyN_int, tyN_str, tyN_ref, tyNs_lt, isB, upd_same, upd_upd, sizeLine_eq, List.mem_cons, String.reduceBEq, String.reduceEq, Bool.or_false, Bool.or_true, Bool.and_false, Bool.false_or, Bool.and_self, Bool.false_and, Bool.not_false, Bool.not_true, List.any_cons, List.any_nil, atI_0, setI_0, atI_1, setI_1, atI_2, setI_2, atI_3, setI_3, atI_4, setI_4, atI_5, setI_5, atI_6, setI_6, tAsg, gName, tOp, tUn, tVar, tC, tCons, L2.tNil, tRet, tIfS, tTest, tCB, tCall, rI, rI0, rU, tNext, tB, tAnd, tOr, tNot, tAndV, tOrV, tNotV, tDrop, tIf, tPar, gSub, rIxL, rIxT, rEq, rNe, rSetL, tBits,
    L2.start, List.map_cons, List.map_nil, List.cons_append, List.nil_append, List.append_nil, List.length_cons, List.length_nil, List.replicate, Nat.reduceAdd, Nat.reduceSub, Nat.zero_add, List.getElem?_cons_zero, List.getElem?_cons_succ, List.set_cons_zero, List.set_cons_succ,
    Option.some.injEq, exists_eq_left', exists_eq_left, V.int.injEq, V.bl.injEq, V.ref.injEq, V.str.injEq, List.cons.injEq, reduceCtorEq, and_true, true_and, false_and, and_false, exists_false, or_false, false_or, or_true, true_or, exists_const, CMul, CDiv, CPow, and_assoc, exists_and_left, exists_and_right, Int.reducePow, Int.reduceNeg, Int.reduceLT, Int.reduceLE, Nat.reducePow, Nat.reduceLT, Int.reduceToNat, gt_iff_lt, ge_iff_le, decide_eq_true_eq, Bool.not_eq_true', decide_eq_false_iff_not, scal, ↓reduceIte, Bool.false_eq_true]
  exact ⟨mulW hp.sz.1 hq.sz.2 (by omega), mulW hq.sz.1 hp.sz.2 (by omega), mulW hp.sz.2 hq.sz.2 (by omega), _, _, rfl, szMono (szMul hp.sz.2 hq.sz.2) (by omega), fun z hz => k z (hz.2 (mul_ne hp.nf.1 hq.nf.1))⟩
abbrev sLTimes : Stmt := topS 44
theorem scLTimes : FnScope ["_law_left", "_law_right"] ["_law_left", "_law_right"] (defScope sLTimes) := ⟨rfl, rfl, rfl, by decide +kernel, rfl, by decide +kernel, by decide +kernel⟩
theorem k_LTimes (T : Bt K mg) (D : Dfn K mg "_law_times" sLTimes ["_law_left", "_law_right"]) (d__law_lowest : Kn P w K mg base 2 "_law_lowest" ["_law_top", "_law_bottom"] (spLowest K)) : Kn P w K mg base 3 "_law_times" ["_law_left", "_law_right"] (spBin K pro2) := by
  refine Kn.mk' D scLTimes (fun vs H Q E h => ?_) (fun f cdv A outer s H vs Q E hr h => ?_)
  · obtain ⟨a, b, p, q, rfl, _⟩ := h
    rfl
  obtain ⟨a, b, p, q, rfl, hp, hq, k⟩ := h
  refine ⟨_, (pss_one (ps_ret (pe_kn d__law_lowest hr (by rfl) (pa_cons (pe_op op_mulW (pe_ix ix_any (pv 0) pe_int (fun _ _ => rfl)) (pe_ix ix_any (pv 1) pe_int (fun _ _ => rfl))) (pa_cons (pe_op op_mulW (pe_ix ix_any (pv 0) pe_int (fun _ _ => rfl)) (pe_ix ix_any (pv 1) pe_int (fun _ _ => rfl))) pa_nil))))), ?_⟩
  simp only [hp.o, hq.o, cx_K, decide_true, decide_false, reduceCtorEq, gTp, gCons, gNil, ca_0, ca_1, ca_2, ca_3, ca_4, ca_5, ca_6, ca_7, ca_8, ca_9, ca_10, ca_11, ca_12, ca_13, ca_14, ca_15, ca_16, ca_17, ca_18, ca_19, ca_20, ca_21, ca_22, ca_23, ca_24, ca_25, ca_26, ca_27, ca_28, ca_29, ca_30, not_true_eq_false, not_false_eq_true, Int.reduceEq, Nat.reduceEqDiff, Nat.reduceLeDiff, rGcd, V.ty.injEq, eq_self, List.not_mem_nil, beq_self_eq_true, HO.lst.injEq, HO.tup.injEq, tFor_eq, iRng1, iList, iTup, nat10, tSeq, rIxA, rSetA, rIsN, rIsT, tTp, tLs, itsO_tup, itsO_lst, tyO_tup, tyO_lst, tyO_dK, tyN_non, tyN_bl, tyN_int, tyN_str, tyN_ref, tyNs_lt, isB, upd_same, upd_upd, sizeLine_eq, List.mem_cons, String.reduceBEq, String.reduceEq, Bool.or_false, Bool.or_true, Bool.and_false, Bool.false_or, Bool.and_self, Bool.false_and, Bool.not_false, Bool.not_true, List.any_cons, List.any_nil, atI_0, setI_0, atI_1, setI_1, atI_2, setI_2, atI_3, setI_3, atI_4, setI_4, atI_5, setI_5, atI_6, setI_6, tAsg, gName, tOp, tUn, tVar, tC, tCons, L2.tNil, tRet, tIfS, tTest, tCB, tCall, rI, rI0, rU, tNext, tB, tAnd, tOr, tNot, tAndV, tOrV, tNotV, tDrop, tIf, tPar, gSub, rIxL, rIxT, rEq, rNe, rSetL, tBits,
    L2.start, List.map_cons, List.map_nil, List.cons_append, List.nil_append, List.append_nil, List.length_cons, List.length_nil, List.replicate, Nat.reduceAdd, Nat.reduceSub, Nat.zero_add, List.getElem?_cons_zero, List.getElem?_cons_succ, List.set_cons_zero, List.set_cons_succ,
    Option.some.injEq, exists_eq_left', exists_eq_left, V.int.injEq, V.bl.injEq, V.ref.injEq, V.str.injEq, List.cons.injEq, reduceCtorEq, and_true, true_and, false_and, and_false, exists_false, or_false, false_or, or_true, true_or, exists_const, CMul, CDiv, CPow, and_assoc, exists_and_left, exists_and_right, Int.reducePow, Int.reduceNeg, Int.reduceLT, Int.reduceLE, Nat.reducePow, Nat.reduceLT, Int.reduceToNat, gt_iff_lt, ge_iff_le, decide_eq_true_eq, Bool.not_eq_true', decide_eq_false_iff_not, scal, ↓reduceIte, Bool.false_eq_true]
  exact ⟨mulW hp.sz.1 hq.sz.1 (by omega), mulW hp.sz.2 hq.sz.2 (by omega), _, _, rfl, szMono (szMul hp.sz.2 hq.sz.2) (by omega), fun z hz => k z (hz.2 (mul_ne hp.nf.1 hq.nf.1))⟩
theorem frOk_inv {H : Hp} {v : V} (h : frOk K H v = true) : ∃ a q, v = .ref a ∧ ob K H a = some (.tup [.int q.1, .int q.2]) ∧ Nf q := by
  cases v with
  | ref a =>
    simp only [frOk] at h
    split at h
    · rename_i n d hz
      simp only [Bool.and_eq_true, decide_eq_true_eq] at h
      exact ⟨_, (n, d), rfl, hz, h.1, h.2⟩
    · cases h
  | _ => cases h
/-- a place: a fraction of 0 or more, less than 1 -/
def plOk (K : PySem.W.Frag) (H : Hp) (v : V) : Bool := frOk K H v && match v with
  | .ref a => match ob K H a with
    | some (.tup [.int n, .int d]) => decide (0 ≤ n) && decide (n < d)
    | _ => false
  | _ => false
theorem plOk_no {H : Hp} {v : V} (h : frOk K H v = false) : plOk K H v = false := by unfold plOk; rw [h]; rfl
theorem plOk_fr {H : Hp} {a : Addr} {q : Qt} (h : ob K H a = some (.tup [.int q.1, .int q.2])) (hn : Nf q) : plOk K H (.ref a) = (decide (0 ≤ q.1) && decide (q.1 < q.2)) := by
  have e := frOk_fr (K := K) h hn
  unfold plOk
  rw [e]
  simp only [h, Bool.true_and]
def spIsPlace (K : PySem.W.Frag) : Sp := fun vs H Q _ => ∃ v, vs = [v] ∧ Tyd K H v ∧ Q (.bl (plOk K H v)) H
def spLPlace (K : PySem.W.Frag) : Sp := fun vs H Q _ => ∃ (a : Addr) (q : Qt), vs = [.ref a] ∧ Fq K H 8000 a q ∧ 0 ≤ q.1 ∧ q.1 < q.2 ∧ Q (.bl true) H
end
end My

namespace My
open PySem PySem.Spec PyProof.Rows L2
section
variable {P : Program} {w : World} {K : PySem.W.Frag} {mg : Str → Option Value} {base : Heap}
/-- an int that the draws gave; all but the store stands -/
def spPick (K : PySem.W.Frag) : Sp := fun vs H Q _ => ∃ (s r : Addr) (xs : List V), vs = [.ref s, .ref r] ∧ Sto K H s ∧ H r = some (.lst xs) ∧ s ≠ r ∧ 0 < xs.length ∧ xs.length < 1000 ∧ ∀ x H', x ∈ xs → Kp s H H' → Sto K H' s → Q x H'
theorem at_mem {α : Type} {xs : List α} {i : Int} (h0 : 0 ≤ i) (h : i < (xs.length : Int)) : ∃ v ∈ xs, atI xs i = some v := by
  have hk : i.toNat < xs.length := by omega
  have q : atI xs ((i.toNat : Nat) : Int) = some xs[i.toNat] := atI_nat (List.getElem?_eq_getElem hk)
  rw [show ((i.toNat : Nat) : Int) = i by omega] at q
  exact ⟨_, List.getElem_mem hk, q⟩
theorem Sto.at {H : Hp} {s : Addr} (h : Sto K H s) : ∃ ys, H s = some (.lst ys) := by
  obtain ⟨sc, ns, i, b, c, d, e, f, h⟩ := h
  exact ⟨_, h.1⟩
theorem Kp.at {s : Addr} {H H' : Hp} {r : Addr} {o : HO} (e : Kp s H H') (n : s ≠ r) (h : H r = some o) : H' r = some o := e _ _ (Ne.symm n) h
abbrev sPick : Stmt := topS 38
theorem scPick : FnScope ["_law_store_here", "_law_row"] ["_law_store_here", "_law_row"] (defScope sPick) := ⟨rfl, rfl, rfl, by decide +kernel, rfl, by decide +kernel, by decide +kernel⟩
theorem k_Pick (T : Bt K mg) (D : Dfn K mg "_law_pick" sPick ["_law_store_here", "_law_row"]) (d__law_take : Kn P w K mg base 2 "_law_take" ["_law_store_here", "_law_many"] (spTake K)) : Kn P w K mg base 3 "_law_pick" ["_law_store_here", "_law_row"] (spPick K) := by
  refine Kn.mk' D scPick (fun vs H Q E h => ?_) (fun f cdv A outer s H vs Q E hr h => ?_)
  · obtain ⟨s, r, xs, rfl, _⟩ := h
    rfl
  obtain ⟨s, r, xs, rfl, hS, hr', ne, hl0, hl1, k⟩ := h
  refine ⟨_, (pss_one (ps_ret (pe_ix ix_list (pv 1) (pe_kn d__law_take hr (by rfl) (pa_cons (pv 0) (pa_cons (pe_callB call_len_seq (by rfl) T.b_len PySem.boot_len (pa_cons (pv 1) pa_nil)) pa_nil))) (fun _ _ => rfl)))), ?_⟩
  simp only [cx_K, decide_true, decide_false, reduceCtorEq, gTp, gCons, gNil, ca_0, ca_1, ca_2, ca_3, ca_4, ca_5, ca_6, ca_7, ca_8, ca_9, ca_10, ca_11, ca_12, ca_13, ca_14, ca_15, ca_16, ca_17, ca_18, ca_19, ca_20, ca_21, ca_22, ca_23, ca_24, ca_25, ca_26, ca_27, ca_28, ca_29, ca_30, not_true_eq_false, not_false_eq_true, Int.reduceEq, Nat.reduceEqDiff, Nat.reduceLeDiff, rGcd, V.ty.injEq, eq_self, List.not_mem_nil, beq_self_eq_true, HO.lst.injEq, HO.tup.injEq, tFor_eq, iRng1, iList, iTup, nat10, tSeq, rIxA, rSetA, rIsN, rIsT, tTp, tLs, itsO_tup, itsO_lst, tyO_tup, tyO_lst, tyO_dK, tyN_non, tyN_bl, tyN_int, tyN_str, tyN_ref, tyNs_lt, isB, upd_same, upd_upd, sizeLine_eq, List.mem_cons, String.reduceBEq, String.reduceEq, Bool.or_false, Bool.or_true, Bool.and_false, Bool.false_or, Bool.and_self, Bool.false_and, Bool.not_false, Bool.not_true, List.any_cons, List.any_nil, atI_0, setI_0, atI_1, setI_1, atI_2, setI_2, atI_3, setI_3, atI_4, setI_4, atI_5, setI_5, atI_6, setI_6, tAsg, gName, tOp, tUn, tVar, tC, tCons, L2.tNil, tRet, tIfS, tTest, tCB, tCall, rI, rI0, rU, tNext, tB, tAnd, tOr, tNot, tAndV, tOrV, tNotV, tDrop, tIf, tPar, gSub, rIxL, rIxT, rEq, rNe, rSetL, tBits,
    L2.start, List.map_cons, List.map_nil, List.cons_append, List.nil_append, List.append_nil, List.length_cons, List.length_nil, List.replicate, Nat.reduceAdd, Nat.reduceSub, Nat.zero_add, List.getElem?_cons_zero, List.getElem?_cons_succ, List.set_cons_zero, List.set_cons_succ,
    Option.some.injEq, exists_eq_left', exists_eq_left, V.int.injEq, V.bl.injEq, V.ref.injEq, V.str.injEq, List.cons.injEq, reduceCtorEq, and_true, true_and, false_and, and_false, exists_false, or_false, false_or, or_true, true_or, exists_const, CMul, CDiv, CPow, and_assoc, exists_and_left, exists_and_right, Int.reducePow, Int.reduceNeg, Int.reduceLT, Int.reduceLE, Nat.reducePow, Nat.reduceLT, Int.reduceToNat, gt_iff_lt, ge_iff_le, decide_eq_true_eq, Bool.not_eq_true', decide_eq_false_iff_not, scal, ↓reduceIte, Bool.false_eq_true]
  refine ⟨xs, .inl (.of hr'), s, _, rfl, hS, by omega, fun i H' h0 h1 kp st => ?_⟩
  obtain ⟨v, hv, e⟩ := at_mem (xs := xs) (i := i) h0 (by omega)
  exact ⟨xs, i, rfl, .of (kp.at ne hr'), v, e, k v H' hv kp st⟩
def spInt (K : PySem.W.Frag) (R : Int → Prop) : Sp := fun vs H Q _ => ∃ (s : Addr), vs = [.ref s] ∧ Sto K H s ∧ ∀ n H', R n → Kp s H H' → Sto K H' s → Q (.int n) H'
def spLInt (K : PySem.W.Frag) : Sp := fun vs H Q _ => ∃ (s : Addr) (r : Int), vs = [.ref s, .int r] ∧ Sto K H s ∧ 1 ≤ r ∧ r < 2 ^ 190 ∧ ∀ n H', -r ≤ n → n ≤ r → Kp s H H' → Sto K H' s → Q (.int n) H'
theorem menu {xs : List V} {i : Int} {R : V → Prop} (h0 : 0 ≤ i) (h : i < (xs.length : Int)) (k : ∀ v ∈ xs, R v) : ∃ v, atI xs i = some v ∧ R v := by
  obtain ⟨v, hv, e⟩ := at_mem h0 h
  exact ⟨v, e, k v hv⟩
abbrev sLInt : Stmt := topS 47
theorem scLInt : FnScope ["_law_store_here", "_law_reach", "_law_spot"] ["_law_store_here", "_law_reach"] (defScope sLInt) := ⟨rfl, rfl, rfl, by decide +kernel, rfl, by decide +kernel, by decide +kernel⟩
theorem k_LInt (T : Bt K mg) (D : Dfn K mg "_law_whole" sLInt ["_law_store_here", "_law_reach"]) (d__law_take : Kn P w K mg base 2 "_law_take" ["_law_store_here", "_law_many"] (spTake K)) : Kn P w K mg base 3 "_law_whole" ["_law_store_here", "_law_reach"] (spLInt K) := by
  refine Kn.mk' D scLInt (fun vs H Q E h => ?_) (fun f cdv A outer s H vs Q E hr h => ?_)
  · obtain ⟨s, r, rfl, _⟩ := h
    rfl
  obtain ⟨s, r, rfl, hS, hr1, hr2, k⟩ := h
  refine ⟨_, (pss_cons (ps_set (i := 2) scLInt.nd rfl (.inl rfl) (pe_kn d__law_take hr (by rfl) (pa_cons (pv 0) (pa_cons pe_int pa_nil))))
      (pss_cons (ps_if (pt_cmpR op_lt (pv 2) pe_int (nomark _)) (pss_one (ps_ret (pe_ix ix_any (pe_ls (pa_cons pe_int (pa_cons (pe_callB (call_min2 rfl) (by rfl) T.b_min (by decide +kernel) (pa_cons pe_int (pa_cons (pv 1) pa_nil))) (pa_cons (pe_un un_neg (pe_callB (call_min2 rfl) (by rfl) T.b_min (by decide +kernel) (pa_cons pe_int (pa_cons (pv 1) pa_nil)))) (pa_cons (pv 1) (pa_cons (pe_un un_neg (pv 1)) pa_nil)))))) (pv 2) (fun _ _ => rfl)))) pss_nil)
      (pss_one (ps_ret (pe_op op_sub (pe_kn d__law_take hr (by rfl) (pa_cons (pv 0) (pa_cons (pe_op op_add (pe_op op_mul pe_int (pv 1)) pe_int) pa_nil))) (pv 1)))))), ?_⟩
  simp only [cx_K, decide_true, decide_false, reduceCtorEq, gTp, gCons, gNil, ca_0, ca_1, ca_2, ca_3, ca_4, ca_5, ca_6, ca_7, ca_8, ca_9, ca_10, ca_11, ca_12, ca_13, ca_14, ca_15, ca_16, ca_17, ca_18, ca_19, ca_20, ca_21, ca_22, ca_23, ca_24, ca_25, ca_26, ca_27, ca_28, ca_29, ca_30, not_true_eq_false, not_false_eq_true, Int.reduceEq, Nat.reduceEqDiff, Nat.reduceLeDiff, rGcd, V.ty.injEq, eq_self, List.not_mem_nil, beq_self_eq_true, HO.lst.injEq, HO.tup.injEq, tFor_eq, iRng1, iList, iTup, nat10, tSeq, rIxA, rSetA, rIsN, rIsT, tTp, tLs, itsO_tup, itsO_lst, tyO_tup, tyO_lst, tyO_dK, tyN_non, tyN_bl, tyN_int, tyN_str, tyN_ref, tyNs_lt, isB, upd_same, upd_upd, sizeLine_eq, List.mem_cons, String.reduceBEq, String.reduceEq, Bool.or_false, Bool.or_true, Bool.and_false, Bool.false_or, Bool.and_self, Bool.false_and, Bool.not_false, Bool.not_true, List.any_cons, List.any_nil, atI_0, setI_0, atI_1, setI_1, atI_2, setI_2, atI_3, setI_3, atI_4, setI_4, atI_5, setI_5, atI_6, setI_6, tAsg, gName, tOp, tUn, tVar, tC, tCons, L2.tNil, tRet, tIfS, tTest, tCB, tCall, rI, rI0, rU, tNext, tB, tAnd, tOr, tNot, tAndV, tOrV, tNotV, tDrop, tIf, tPar, gSub, rIxL, rIxT, rEq, rNe, rSetL, tBits,
    L2.start, List.map_cons, List.map_nil, List.cons_append, List.nil_append, List.append_nil, List.length_cons, List.length_nil, List.replicate, Nat.reduceAdd, Nat.reduceSub, Nat.zero_add, List.getElem?_cons_zero, List.getElem?_cons_succ, List.set_cons_zero, List.set_cons_succ,
    Option.some.injEq, exists_eq_left', exists_eq_left, V.int.injEq, V.bl.injEq, V.ref.injEq, V.str.injEq, List.cons.injEq, reduceCtorEq, and_true, true_and, false_and, and_false, exists_false, or_false, false_or, or_true, true_or, exists_const, CMul, CDiv, CPow, and_assoc, exists_and_left, exists_and_right, Int.reducePow, Int.reduceNeg, Int.reduceLT, Int.reduceLE, Nat.reducePow, Nat.reduceLT, Int.reduceToNat, gt_iff_lt, ge_iff_le, decide_eq_true_eq, Bool.not_eq_true', decide_eq_false_iff_not, scal, ↓reduceIte, Bool.false_eq_true]
  refine ⟨s, 12, rfl, hS, by omega, fun i H1 h0 h1 kp st => ?_⟩
  simp only [cx_K, decide_true, decide_false, reduceCtorEq, gTp, gCons, gNil, ca_0, ca_1, ca_2, ca_3, ca_4, ca_5, ca_6, ca_7, ca_8, ca_9, ca_10, ca_11, ca_12, ca_13, ca_14, ca_15, ca_16, ca_17, ca_18, ca_19, ca_20, ca_21, ca_22, ca_23, ca_24, ca_25, ca_26, ca_27, ca_28, ca_29, ca_30, not_true_eq_false, not_false_eq_true, Int.reduceEq, Nat.reduceEqDiff, Nat.reduceLeDiff, rGcd, V.ty.injEq, eq_self, List.not_mem_nil, beq_self_eq_true, HO.lst.injEq, HO.tup.injEq, tFor_eq, iRng1, iList, iTup, nat10, tSeq, rIxA, rSetA, rIsN, rIsT, tTp, tLs, itsO_tup, itsO_lst, tyO_tup, tyO_lst, tyO_dK, tyN_non, tyN_bl, tyN_int, tyN_str, tyN_ref, tyNs_lt, isB, upd_same, upd_upd, sizeLine_eq, List.mem_cons, String.reduceBEq, String.reduceEq, Bool.or_false, Bool.or_true, Bool.and_false, Bool.false_or, Bool.and_self, Bool.false_and, Bool.not_false, Bool.not_true, List.any_cons, List.any_nil, atI_0, setI_0, atI_1, setI_1, atI_2, setI_2, atI_3, setI_3, atI_4, setI_4, atI_5, setI_5, atI_6, setI_6, tAsg, gName, tOp, tUn, tVar, tC, tCons, L2.tNil, tRet, tIfS, tTest, tCB, tCall, rI, rI0, rU, tNext, tB, tAnd, tOr, tNot, tAndV, tOrV, tNotV, tDrop, tIf, tPar, gSub, rIxL, rIxT, rEq, rNe, rSetL, tBits,
    L2.start, List.map_cons, List.map_nil, List.cons_append, List.nil_append, List.append_nil, List.length_cons, List.length_nil, List.replicate, Nat.reduceAdd, Nat.reduceSub, Nat.zero_add, List.getElem?_cons_zero, List.getElem?_cons_succ, List.set_cons_zero, List.set_cons_succ,
    Option.some.injEq, exists_eq_left', exists_eq_left, V.int.injEq, V.bl.injEq, V.ref.injEq, V.str.injEq, List.cons.injEq, reduceCtorEq, and_true, true_and, false_and, and_false, exists_false, or_false, false_or, or_true, true_or, exists_const, CMul, CDiv, CPow, and_assoc, exists_and_left, exists_and_right, Int.reducePow, Int.reduceNeg, Int.reduceLT, Int.reduceLE, Nat.reducePow, Nat.reduceLT, Int.reduceToNat, gt_iff_lt, ge_iff_le, decide_eq_true_eq, Bool.not_eq_true', decide_eq_false_iff_not, scal, ↓reduceIte, Bool.false_eq_true]
  refine ite2 (fun h => ?_) (fun h => ?_)
  · intro p hp kp'
    rw [ob_new kp']
    simp only [cx_K, decide_true, decide_false, reduceCtorEq, gTp, gCons, gNil, ca_0, ca_1, ca_2, ca_3, ca_4, ca_5, ca_6, ca_7, ca_8, ca_9, ca_10, ca_11, ca_12, ca_13, ca_14, ca_15, ca_16, ca_17, ca_18, ca_19, ca_20, ca_21, ca_22, ca_23, ca_24, ca_25, ca_26, ca_27, ca_28, ca_29, ca_30, not_true_eq_false, not_false_eq_true, Int.reduceEq, Nat.reduceEqDiff, Nat.reduceLeDiff, rGcd, V.ty.injEq, eq_self, List.not_mem_nil, beq_self_eq_true, HO.lst.injEq, HO.tup.injEq, tFor_eq, iRng1, iList, iTup, nat10, tSeq, rIxA, rSetA, rIsN, rIsT, tTp, tLs, itsO_tup, itsO_lst, tyO_tup, tyO_lst, tyO_dK, tyN_non, tyN_bl, tyN_int, tyN_str, tyN_ref, tyNs_lt, isB, upd_same, upd_upd, sizeLine_eq, List.mem_cons, String.reduceBEq, String.reduceEq, Bool.or_false, Bool.or_true, Bool.and_false, Bool.false_or, Bool.and_self, Bool.false_and, Bool.not_false, Bool.not_true, List.any_cons, List.any_nil, atI_0, setI_0, atI_1, setI_1, atI_2, setI_2, atI_3, setI_3, atI_4, setI_4, atI_5, setI_5, atI_6, setI_6, tAsg, gName, tOp, tUn, tVar, tC, tCons, L2.tNil, tRet, tIfS, tTest, tCB, tCall, rI, rI0, rU, tNext, tB, tAnd, tOr, tNot, tAndV, tOrV, tNotV, tDrop, tIf, tPar, gSub, rIxL, rIxT, rEq, rNe, rSetL, tBits,
    L2.start, List.map_cons, List.map_nil, List.cons_append, List.nil_append, List.append_nil, List.length_cons, List.length_nil, List.replicate, Nat.reduceAdd, Nat.reduceSub, Nat.zero_add, List.getElem?_cons_zero, List.getElem?_cons_succ, List.set_cons_zero, List.set_cons_succ,
    Option.some.injEq, exists_eq_left', exists_eq_left, V.int.injEq, V.bl.injEq, V.ref.injEq, V.str.injEq, List.cons.injEq, reduceCtorEq, and_true, true_and, false_and, and_false, exists_false, or_false, false_or, or_true, true_or, exists_const, CMul, CDiv, CPow, and_assoc, exists_and_left, exists_and_right, Int.reducePow, Int.reduceNeg, Int.reduceLT, Int.reduceLE, Nat.reducePow, Nat.reduceLT, Int.reduceToNat, gt_iff_lt, ge_iff_le, decide_eq_true_eq, Bool.not_eq_true', decide_eq_false_iff_not, scal, ↓reduceIte, Bool.false_eq_true]
    refine menu h0 (by simpa using h) fun v hv => ?_
    rw [if_neg (show ¬ r < 1 by omega)] at hv ⊢
    simp only [List.mem_cons, List.not_mem_nil, or_false] at hv
    rcases hv with rfl | rfl | rfl | rfl | rfl <;> exact k _ _ (by omega) (by omega) (kp.trans (Kp.same (Same.new hp _))) (st.same (Same.new hp _))
  · refine ⟨s, _, rfl, st, by omega, fun j H2 h0' h1' kp2 st2 => ?_⟩
    simp only [cx_K, decide_true, decide_false, reduceCtorEq, gTp, gCons, gNil, ca_0, ca_1, ca_2, ca_3, ca_4, ca_5, ca_6, ca_7, ca_8, ca_9, ca_10, ca_11, ca_12, ca_13, ca_14, ca_15, ca_16, ca_17, ca_18, ca_19, ca_20, ca_21, ca_22, ca_23, ca_24, ca_25, ca_26, ca_27, ca_28, ca_29, ca_30, not_true_eq_false, not_false_eq_true, Int.reduceEq, Nat.reduceEqDiff, Nat.reduceLeDiff, rGcd, V.ty.injEq, eq_self, List.not_mem_nil, beq_self_eq_true, HO.lst.injEq, HO.tup.injEq, tFor_eq, iRng1, iList, iTup, nat10, tSeq, rIxA, rSetA, rIsN, rIsT, tTp, tLs, itsO_tup, itsO_lst, tyO_tup, tyO_lst, tyO_dK, tyN_non, tyN_bl, tyN_int, tyN_str, tyN_ref, tyNs_lt, isB, upd_same, upd_upd, sizeLine_eq, List.mem_cons, String.reduceBEq, String.reduceEq, Bool.or_false, Bool.or_true, Bool.and_false, Bool.false_or, Bool.and_self, Bool.false_and, Bool.not_false, Bool.not_true, List.any_cons, List.any_nil, atI_0, setI_0, atI_1, setI_1, atI_2, setI_2, atI_3, setI_3, atI_4, setI_4, atI_5, setI_5, atI_6, setI_6, tAsg, gName, tOp, tUn, tVar, tC, tCons, L2.tNil, tRet, tIfS, tTest, tCB, tCall, rI, rI0, rU, tNext, tB, tAnd, tOr, tNot, tAndV, tOrV, tNotV, tDrop, tIf, tPar, gSub, rIxL, rIxT, rEq, rNe, rSetL, tBits,
    L2.start, List.map_cons, List.map_nil, List.cons_append, List.nil_append, List.append_nil, List.length_cons, List.length_nil, List.replicate, Nat.reduceAdd, Nat.reduceSub, Nat.zero_add, List.getElem?_cons_zero, List.getElem?_cons_succ, List.set_cons_zero, List.set_cons_succ,
    Option.some.injEq, exists_eq_left', exists_eq_left, V.int.injEq, V.bl.injEq, V.ref.injEq, V.str.injEq, List.cons.injEq, reduceCtorEq, and_true, true_and, false_and, and_false, exists_false, or_false, false_or, or_true, true_or, exists_const, CMul, CDiv, CPow, and_assoc, exists_and_left, exists_and_right, Int.reducePow, Int.reduceNeg, Int.reduceLT, Int.reduceLE, Nat.reducePow, Nat.reduceLT, Int.reduceToNat, gt_iff_lt, ge_iff_le, decide_eq_true_eq, Bool.not_eq_true', decide_eq_false_iff_not, scal, ↓reduceIte, Bool.false_eq_true]
    exact k _ _ (by omega) (by omega) (kp.trans kp2) st2
def GreatI (s : Addr) (spot : Int) (H1 : Hp) (_ : Nat) (σ : L2.St) (H' : Hp) : Prop := ∃ v y, σ = [some (.ref s), some (.int spot), some (.int v), y] ∧ H' = H1 ∧ 0 ≤ v ∧ v < 2 ^ 133
abbrev sGreat : Stmt := topS 48
theorem scGreat : FnScope ["_law_store_here", "_law_spot", "_law_value", "_law_k"] ["_law_store_here"] (defScope sGreat) := ⟨rfl, rfl, rfl, by decide +kernel, rfl, by decide +kernel, by decide +kernel⟩
theorem k_Great (T : Bt K mg) (D : Dfn K mg "_law_great" sGreat ["_law_store_here"]) (d__law_take : Kn P w K mg base 2 "_law_take" ["_law_store_here", "_law_many"] (spTake K)) : Kn P w K mg base 3 "_law_great" ["_law_store_here"] (spInt K fun n => n.natAbs < 2 ^ 133) := by
  refine Kn.mk' D scGreat (fun vs H Q E h => ?_) (fun f cdv A outer s H vs Q E hr h => ?_)
  · obtain ⟨s, rfl, _⟩ := h
    rfl
  obtain ⟨s, rfl, hS, k⟩ := h
  refine ⟨_, (pss_cons (ps_set (i := 1) scGreat.nd rfl (.inl rfl) (pe_kn d__law_take hr (by rfl) (pa_cons (pv 0) (pa_cons pe_int pa_nil))))
      (pss_cons (ps_if (pt_cmpR op_lt (pv 1) pe_int (nomark _)) (pss_one (ps_ret (pe_ix ix_any (pe_ls (pa_cons (pe_op op_sub (pe_op op_pow pe_int pe_int) pe_int) (pa_cons (pe_op op_sub pe_int (pe_op op_pow pe_int pe_int)) (pa_cons (pe_op op_pow pe_int pe_int) (pa_cons pe_int pa_nil))))) (pv 1) (fun _ _ => rfl)))) pss_nil)
      (pss_cons (ps_set (i := 2) scGreat.nd rfl (.inl rfl) (pe_kn d__law_take hr (by rfl) (pa_cons (pv 0) (pa_cons (pe_op op_pow pe_int pe_int) pa_nil))))
      (pss_cons (ps_for PassesOwn.never rfl (pi_range1 (by rfl) T.b_range (pa_cons (pe_kn d__law_take hr (by rfl) (pa_cons (pv 0) (pa_cons pe_int pa_nil))) pa_nil)) (pg_name (i := 3) scGreat.nd rfl (.inl rfl)) (pss_one (ps_set (i := 2) scGreat.nd rfl (.inl rfl) (pe_op op_fdiv (pv 2) pe_int))))
      (pss_cons (ps_if (pt_cmpR op_eq (pe_op op_mod (pv 1) pe_int) pe_int (nomark _)) (pss_one (ps_ret (pe_un un_neg (pv 2)))) pss_nil)
      (pss_one (ps_ret (pv 2)))))))), ?_⟩
  simp only [cx_K, decide_true, decide_false, reduceCtorEq, gTp, gCons, gNil, ca_0, ca_1, ca_2, ca_3, ca_4, ca_5, ca_6, ca_7, ca_8, ca_9, ca_10, ca_11, ca_12, ca_13, ca_14, ca_15, ca_16, ca_17, ca_18, ca_19, ca_20, ca_21, ca_22, ca_23, ca_24, ca_25, ca_26, ca_27, ca_28, ca_29, ca_30, not_true_eq_false, not_false_eq_true, Int.reduceEq, Nat.reduceEqDiff, Nat.reduceLeDiff, rGcd, V.ty.injEq, eq_self, List.not_mem_nil, beq_self_eq_true, HO.lst.injEq, HO.tup.injEq, tFor_eq, iRng1, iList, iTup, nat10, tSeq, rIxA, rSetA, rIsN, rIsT, tTp, tLs, itsO_tup, itsO_lst, tyO_tup, tyO_lst, tyO_dK, tyN_non, tyN_bl, tyN_int, tyN_str, tyN_ref, tyNs_lt, isB, upd_same, upd_upd, sizeLine_eq, List.mem_cons, String.reduceBEq, String.reduceEq, Bool.or_false, Bool.or_true, Bool.and_false, Bool.false_or, Bool.and_self, Bool.false_and, Bool.not_false, Bool.not_true, List.any_cons, List.any_nil, atI_0, setI_0, atI_1, setI_1, atI_2, setI_2, atI_3, setI_3, atI_4, setI_4, atI_5, setI_5, atI_6, setI_6, tAsg, gName, tOp, tUn, tVar, tC, tCons, L2.tNil, tRet, tIfS, tTest, tCB, tCall, rI, rI0, rU, tNext, tB, tAnd, tOr, tNot, tAndV, tOrV, tNotV, tDrop, tIf, tPar, gSub, rIxL, rIxT, rEq, rNe, rSetL, tBits,
    L2.start, List.map_cons, List.map_nil, List.cons_append, List.nil_append, List.append_nil, List.length_cons, List.length_nil, List.replicate, Nat.reduceAdd, Nat.reduceSub, Nat.zero_add, List.getElem?_cons_zero, List.getElem?_cons_succ, List.set_cons_zero, List.set_cons_succ,
    Option.some.injEq, exists_eq_left', exists_eq_left, V.int.injEq, V.bl.injEq, V.ref.injEq, V.str.injEq, List.cons.injEq, reduceCtorEq, and_true, true_and, false_and, and_false, exists_false, or_false, false_or, or_true, true_or, exists_const, CMul, CDiv, CPow, and_assoc, exists_and_left, exists_and_right, Int.reducePow, Int.reduceNeg, Int.reduceLT, Int.reduceLE, Nat.reducePow, Nat.reduceLT, Int.reduceToNat, gt_iff_lt, ge_iff_le, decide_eq_true_eq, Bool.not_eq_true', decide_eq_false_iff_not, scal, ↓reduceIte, Bool.false_eq_true]
  refine ⟨s, 12, rfl, hS, by omega, fun i H1 h0 h1 kp st => ?_⟩
  simp only [cx_K, decide_true, decide_false, reduceCtorEq, gTp, gCons, gNil, ca_0, ca_1, ca_2, ca_3, ca_4, ca_5, ca_6, ca_7, ca_8, ca_9, ca_10, ca_11, ca_12, ca_13, ca_14, ca_15, ca_16, ca_17, ca_18, ca_19, ca_20, ca_21, ca_22, ca_23, ca_24, ca_25, ca_26, ca_27, ca_28, ca_29, ca_30, not_true_eq_false, not_false_eq_true, Int.reduceEq, Nat.reduceEqDiff, Nat.reduceLeDiff, rGcd, V.ty.injEq, eq_self, List.not_mem_nil, beq_self_eq_true, HO.lst.injEq, HO.tup.injEq, tFor_eq, iRng1, iList, iTup, nat10, tSeq, rIxA, rSetA, rIsN, rIsT, tTp, tLs, itsO_tup, itsO_lst, tyO_tup, tyO_lst, tyO_dK, tyN_non, tyN_bl, tyN_int, tyN_str, tyN_ref, tyNs_lt, isB, upd_same, upd_upd, sizeLine_eq, List.mem_cons, String.reduceBEq, String.reduceEq, Bool.or_false, Bool.or_true, Bool.and_false, Bool.false_or, Bool.and_self, Bool.false_and, Bool.not_false, Bool.not_true, List.any_cons, List.any_nil, atI_0, setI_0, atI_1, setI_1, atI_2, setI_2, atI_3, setI_3, atI_4, setI_4, atI_5, setI_5, atI_6, setI_6, tAsg, gName, tOp, tUn, tVar, tC, tCons, L2.tNil, tRet, tIfS, tTest, tCB, tCall, rI, rI0, rU, tNext, tB, tAnd, tOr, tNot, tAndV, tOrV, tNotV, tDrop, tIf, tPar, gSub, rIxL, rIxT, rEq, rNe, rSetL, tBits,
    L2.start, List.map_cons, List.map_nil, List.cons_append, List.nil_append, List.append_nil, List.length_cons, List.length_nil, List.replicate, Nat.reduceAdd, Nat.reduceSub, Nat.zero_add, List.getElem?_cons_zero, List.getElem?_cons_succ, List.set_cons_zero, List.set_cons_succ,
    Option.some.injEq, exists_eq_left', exists_eq_left, V.int.injEq, V.bl.injEq, V.ref.injEq, V.str.injEq, List.cons.injEq, reduceCtorEq, and_true, true_and, false_and, and_false, exists_false, or_false, false_or, or_true, true_or, exists_const, CMul, CDiv, CPow, and_assoc, exists_and_left, exists_and_right, Int.reducePow, Int.reduceNeg, Int.reduceLT, Int.reduceLE, Nat.reducePow, Nat.reduceLT, Int.reduceToNat, gt_iff_lt, ge_iff_le, decide_eq_true_eq, Bool.not_eq_true', decide_eq_false_iff_not, scal, ↓reduceIte, Bool.false_eq_true]
  refine ite2 (fun h => ?_) (fun h => ?_)
  · intro p hp kp'
    rw [ob_new kp']
    simp only [cx_K, decide_true, decide_false, reduceCtorEq, gTp, gCons, gNil, ca_0, ca_1, ca_2, ca_3, ca_4, ca_5, ca_6, ca_7, ca_8, ca_9, ca_10, ca_11, ca_12, ca_13, ca_14, ca_15, ca_16, ca_17, ca_18, ca_19, ca_20, ca_21, ca_22, ca_23, ca_24, ca_25, ca_26, ca_27, ca_28, ca_29, ca_30, not_true_eq_false, not_false_eq_true, Int.reduceEq, Nat.reduceEqDiff, Nat.reduceLeDiff, rGcd, V.ty.injEq, eq_self, List.not_mem_nil, beq_self_eq_true, HO.lst.injEq, HO.tup.injEq, tFor_eq, iRng1, iList, iTup, nat10, tSeq, rIxA, rSetA, rIsN, rIsT, tTp, tLs, itsO_tup, itsO_lst, tyO_tup, tyO_lst, tyO_dK, tyN_non, tyN_bl, tyN_int, tyN_str, tyN_ref, tyNs_lt, isB, upd_same, upd_upd, sizeLine_eq, List.mem_cons, String.reduceBEq, String.reduceEq, Bool.or_false, Bool.or_true, Bool.and_false, Bool.false_or, Bool.and_self, Bool.false_and, Bool.not_false, Bool.not_true, List.any_cons, List.any_nil, atI_0, setI_0, atI_1, setI_1, atI_2, setI_2, atI_3, setI_3, atI_4, setI_4, atI_5, setI_5, atI_6, setI_6, tAsg, gName, tOp, tUn, tVar, tC, tCons, L2.tNil, tRet, tIfS, tTest, tCB, tCall, rI, rI0, rU, tNext, tB, tAnd, tOr, tNot, tAndV, tOrV, tNotV, tDrop, tIf, tPar, gSub, rIxL, rIxT, rEq, rNe, rSetL, tBits,
    L2.start, List.map_cons, List.map_nil, List.cons_append, List.nil_append, List.append_nil, List.length_cons, List.length_nil, List.replicate, Nat.reduceAdd, Nat.reduceSub, Nat.zero_add, List.getElem?_cons_zero, List.getElem?_cons_succ, List.set_cons_zero, List.set_cons_succ,
    Option.some.injEq, exists_eq_left', exists_eq_left, V.int.injEq, V.bl.injEq, V.ref.injEq, V.str.injEq, List.cons.injEq, reduceCtorEq, and_true, true_and, false_and, and_false, exists_false, or_false, false_or, or_true, true_or, exists_const, CMul, CDiv, CPow, and_assoc, exists_and_left, exists_and_right, Int.reducePow, Int.reduceNeg, Int.reduceLT, Int.reduceLE, Nat.reducePow, Nat.reduceLT, Int.reduceToNat, gt_iff_lt, ge_iff_le, decide_eq_true_eq, Bool.not_eq_true', decide_eq_false_iff_not, scal, ↓reduceIte, Bool.false_eq_true]
    refine menu h0 (by simpa using h) fun v hv => ?_
    simp only [List.mem_cons, List.not_mem_nil, or_false] at hv
    rcases hv with rfl | rfl | rfl | rfl <;> exact k _ _ (by show Int.natAbs _ < _; omega) (kp.trans (Kp.same (Same.new hp _))) (st.same (Same.new hp _))
  · refine ⟨s, _, rfl, st, by omega, fun j H2 j0 j1 kp2 st2 => ⟨s, 40, rfl, st2, by omega, fun m H3 m0 m1 kp3 st3 => ?_⟩⟩
    simp only [cx_K, decide_true, decide_false, reduceCtorEq, gTp, gCons, gNil, ca_0, ca_1, ca_2, ca_3, ca_4, ca_5, ca_6, ca_7, ca_8, ca_9, ca_10, ca_11, ca_12, ca_13, ca_14, ca_15, ca_16, ca_17, ca_18, ca_19, ca_20, ca_21, ca_22, ca_23, ca_24, ca_25, ca_26, ca_27, ca_28, ca_29, ca_30, not_true_eq_false, not_false_eq_true, Int.reduceEq, Nat.reduceEqDiff, Nat.reduceLeDiff, rGcd, V.ty.injEq, eq_self, List.not_mem_nil, beq_self_eq_true, HO.lst.injEq, HO.tup.injEq, tFor_eq, iRng1, iList, iTup, nat10, tSeq, rIxA, rSetA, rIsN, rIsT, tTp, tLs, itsO_tup, itsO_lst, tyO_tup, tyO_lst, tyO_dK, tyN_non, tyN_bl, tyN_int, tyN_str, tyN_ref, tyNs_lt, isB, upd_same, upd_upd, sizeLine_eq, List.mem_cons, String.reduceBEq, String.reduceEq, Bool.or_false, Bool.or_true, Bool.and_false, Bool.false_or, Bool.and_self, Bool.false_and, Bool.not_false, Bool.not_true, List.any_cons, List.any_nil, atI_0, setI_0, atI_1, setI_1, atI_2, setI_2, atI_3, setI_3, atI_4, setI_4, atI_5, setI_5, atI_6, setI_6, tAsg, gName, tOp, tUn, tVar, tC, tCons, L2.tNil, tRet, tIfS, tTest, tCB, tCall, rI, rI0, rU, tNext, tB, tAnd, tOr, tNot, tAndV, tOrV, tNotV, tDrop, tIf, tPar, gSub, rIxL, rIxT, rEq, rNe, rSetL, tBits,
    L2.start, List.map_cons, List.map_nil, List.cons_append, List.nil_append, List.append_nil, List.length_cons, List.length_nil, List.replicate, Nat.reduceAdd, Nat.reduceSub, Nat.zero_add, List.getElem?_cons_zero, List.getElem?_cons_succ, List.set_cons_zero, List.set_cons_succ,
    Option.some.injEq, exists_eq_left', exists_eq_left, V.int.injEq, V.bl.injEq, V.ref.injEq, V.str.injEq, List.cons.injEq, reduceCtorEq, and_true, true_and, false_and, and_false, exists_false, or_false, false_or, or_true, true_or, exists_const, CMul, CDiv, CPow, and_assoc, exists_and_left, exists_and_right, Int.reducePow, Int.reduceNeg, Int.reduceLT, Int.reduceLE, Nat.reducePow, Nat.reduceLT, Int.reduceToNat, gt_iff_lt, ge_iff_le, decide_eq_true_eq, Bool.not_eq_true', decide_eq_false_iff_not, scal, ↓reduceIte, Bool.false_eq_true]
    refine ⟨by omega, by omega, forI_range (GreatI s i H3) ⟨j, none, rfl, rfl, j0, by omega⟩ ?_ ?_⟩
    · rintro t σ H' _ ⟨v, y, rfl, rfl, v0, v1⟩
      simp only [cx_K, decide_true, decide_false, reduceCtorEq, gTp, gCons, gNil, ca_0, ca_1, ca_2, ca_3, ca_4, ca_5, ca_6, ca_7, ca_8, ca_9, ca_10, ca_11, ca_12, ca_13, ca_14, ca_15, ca_16, ca_17, ca_18, ca_19, ca_20, ca_21, ca_22, ca_23, ca_24, ca_25, ca_26, ca_27, ca_28, ca_29, ca_30, not_true_eq_false, not_false_eq_true, Int.reduceEq, Nat.reduceEqDiff, Nat.reduceLeDiff, rGcd, V.ty.injEq, eq_self, List.not_mem_nil, beq_self_eq_true, HO.lst.injEq, HO.tup.injEq, tFor_eq, iRng1, iList, iTup, nat10, tSeq, rIxA, rSetA, rIsN, rIsT, tTp, tLs, itsO_tup, itsO_lst, tyO_tup, tyO_lst, tyO_dK, tyN_non, tyN_bl, tyN_int, tyN_str, tyN_ref, tyNs_lt, isB, upd_same, upd_upd, sizeLine_eq, List.mem_cons, String.reduceBEq, String.reduceEq, Bool.or_false, Bool.or_true, Bool.and_false, Bool.false_or, Bool.and_self, Bool.false_and, Bool.not_false, Bool.not_true, List.any_cons, List.any_nil, atI_0, setI_0, atI_1, setI_1, atI_2, setI_2, atI_3, setI_3, atI_4, setI_4, atI_5, setI_5, atI_6, setI_6, tAsg, gName, tOp, tUn, tVar, tC, tCons, L2.tNil, tRet, tIfS, tTest, tCB, tCall, rI, rI0, rU, tNext, tB, tAnd, tOr, tNot, tAndV, tOrV, tNotV, tDrop, tIf, tPar, gSub, rIxL, rIxT, rEq, rNe, rSetL, tBits,
    L2.start, List.map_cons, List.map_nil, List.cons_append, List.nil_append, List.append_nil, List.length_cons, List.length_nil, List.replicate, Nat.reduceAdd, Nat.reduceSub, Nat.zero_add, List.getElem?_cons_zero, List.getElem?_cons_succ, List.set_cons_zero, List.set_cons_succ,
    Option.some.injEq, exists_eq_left', exists_eq_left, V.int.injEq, V.bl.injEq, V.ref.injEq, V.str.injEq, List.cons.injEq, reduceCtorEq, and_true, true_and, false_and, and_false, exists_false, or_false, false_or, or_true, true_or, exists_const, CMul, CDiv, CPow, and_assoc, exists_and_left, exists_and_right, Int.reducePow, Int.reduceNeg, Int.reduceLT, Int.reduceLE, Nat.reducePow, Nat.reduceLT, Int.reduceToNat, gt_iff_lt, ge_iff_le, decide_eq_true_eq, Bool.not_eq_true', decide_eq_false_iff_not, scal, ↓reduceIte, Bool.false_eq_true]
      exact ⟨_, _, rfl, rfl, by omega, by omega⟩
    · rintro σ H' ⟨v, y, rfl, rfl, v0, v1⟩
      simp only [cx_K, decide_true, decide_false, reduceCtorEq, gTp, gCons, gNil, ca_0, ca_1, ca_2, ca_3, ca_4, ca_5, ca_6, ca_7, ca_8, ca_9, ca_10, ca_11, ca_12, ca_13, ca_14, ca_15, ca_16, ca_17, ca_18, ca_19, ca_20, ca_21, ca_22, ca_23, ca_24, ca_25, ca_26, ca_27, ca_28, ca_29, ca_30, not_true_eq_false, not_false_eq_true, Int.reduceEq, Nat.reduceEqDiff, Nat.reduceLeDiff, rGcd, V.ty.injEq, eq_self, List.not_mem_nil, beq_self_eq_true, HO.lst.injEq, HO.tup.injEq, tFor_eq, iRng1, iList, iTup, nat10, tSeq, rIxA, rSetA, rIsN, rIsT, tTp, tLs, itsO_tup, itsO_lst, tyO_tup, tyO_lst, tyO_dK, tyN_non, tyN_bl, tyN_int, tyN_str, tyN_ref, tyNs_lt, isB, upd_same, upd_upd, sizeLine_eq, List.mem_cons, String.reduceBEq, String.reduceEq, Bool.or_false, Bool.or_true, Bool.and_false, Bool.false_or, Bool.and_self, Bool.false_and, Bool.not_false, Bool.not_true, List.any_cons, List.any_nil, atI_0, setI_0, atI_1, setI_1, atI_2, setI_2, atI_3, setI_3, atI_4, setI_4, atI_5, setI_5, atI_6, setI_6, tAsg, gName, tOp, tUn, tVar, tC, tCons, L2.tNil, tRet, tIfS, tTest, tCB, tCall, rI, rI0, rU, tNext, tB, tAnd, tOr, tNot, tAndV, tOrV, tNotV, tDrop, tIf, tPar, gSub, rIxL, rIxT, rEq, rNe, rSetL, tBits,
    L2.start, List.map_cons, List.map_nil, List.cons_append, List.nil_append, List.append_nil, List.length_cons, List.length_nil, List.replicate, Nat.reduceAdd, Nat.reduceSub, Nat.zero_add, List.getElem?_cons_zero, List.getElem?_cons_succ, List.set_cons_zero, List.set_cons_succ,
    Option.some.injEq, exists_eq_left', exists_eq_left, V.int.injEq, V.bl.injEq, V.ref.injEq, V.str.injEq, List.cons.injEq, reduceCtorEq, and_true, true_and, false_and, and_false, exists_false, or_false, false_or, or_true, true_or, exists_const, CMul, CDiv, CPow, and_assoc, exists_and_left, exists_and_right, Int.reducePow, Int.reduceNeg, Int.reduceLT, Int.reduceLE, Nat.reducePow, Nat.reduceLT, Int.reduceToNat, gt_iff_lt, ge_iff_le, decide_eq_true_eq, Bool.not_eq_true', decide_eq_false_iff_not, scal, ↓reduceIte, Bool.false_eq_true]
      have kk := (kp.trans kp2).trans kp3
      exact ite2 (fun _ => k _ _ (by show Int.natAbs _ < _; omega) kk st3) (fun _ => k _ _ (by show Int.natAbs _ < _; omega) kk st3)
def spDFrac (K : PySem.W.Frag) (n : Nat) : Sp := fun vs H Q _ => ∃ (s : Addr), vs = [.ref s] ∧ Sto K H s ∧ ∀ a q H', Fq K H' n a q → Kp s H H' → Sto K H' s → Q (.ref a) H'
theorem nf01 : Nf (0, 1) := ⟨by decide, by decide⟩
theorem nf11 : Nf (1, 1) := ⟨by decide, by decide⟩
theorem nfm1 : Nf (-1, 1) := ⟨by decide, by decide⟩
theorem nf12 : Nf (1, 2) := ⟨by decide, by decide⟩
theorem nfm2 : Nf (-1, 2) := ⟨by decide, by decide⟩
theorem sz10 {x y : Int} (h1 : x.natAbs < 1024) (h2 : y.natAbs < 1024) : Sz 10 (x, y) := ⟨by show x.natAbs < _; omega, by show y.natAbs < _; omega⟩
abbrev sDFrac : Stmt := topS 49
theorem scDFrac : FnScope ["_law_store_here", "_law_spot", "_law_bottom"] ["_law_store_here"] (defScope sDFrac) := ⟨rfl, rfl, rfl, by decide +kernel, rfl, by decide +kernel, by decide +kernel⟩
theorem k_DFrac (T : Bt K mg) (D : Dfn K mg "_law_frac" sDFrac ["_law_store_here"]) (d__law_take : Kn P w K mg base 2 "_law_take" ["_law_store_here", "_law_many"] (spTake K)) (d__law_lowest : Kn P w K mg base 2 "_law_lowest" ["_law_top", "_law_bottom"] (spLowest K)) : Kn P w K mg base 3 "_law_frac" ["_law_store_here"] (spDFrac K 10) := by
  refine Kn.mk' D scDFrac (fun vs H Q E h => ?_) (fun f cdv A outer s H vs Q E hr h => ?_)
  · obtain ⟨s, rfl, _⟩ := h
    rfl
  obtain ⟨s, rfl, hS, k⟩ := h
  refine ⟨_, (pss_cons (ps_set (i := 1) scDFrac.nd rfl (.inl rfl) (pe_kn d__law_take hr (by rfl) (pa_cons (pv 0) (pa_cons pe_int pa_nil))))
      (pss_cons (ps_if (pt_cmpR op_lt (pv 1) pe_int (nomark _)) (pss_one (ps_ret (pe_ix ix_any (pe_ls (pa_cons (pe_tp (pa_cons pe_int (pa_cons pe_int pa_nil))) (pa_cons (pe_tp (pa_cons pe_int (pa_cons pe_int pa_nil))) (pa_cons (pe_tp (pa_cons (pe_un un_neg pe_int) (pa_cons pe_int pa_nil))) (pa_cons (pe_tp (pa_cons pe_int (pa_cons pe_int pa_nil))) (pa_cons (pe_tp (pa_cons (pe_un un_neg pe_int) (pa_cons pe_int pa_nil))) pa_nil)))))) (pv 1) (fun _ _ => rfl)))) pss_nil)
      (pss_cons (ps_set (i := 2) scDFrac.nd rfl (.inl rfl) (pe_op op_add pe_int (pe_kn d__law_take hr (by rfl) (pa_cons (pv 0) (pa_cons pe_int pa_nil)))))
      (pss_one (ps_ret (pe_kn d__law_lowest hr (by rfl) (pa_cons (pe_op op_sub (pe_kn d__law_take hr (by rfl) (pa_cons (pv 0) (pa_cons (pe_op op_add (pe_op op_mul pe_int (pv 2)) pe_int) pa_nil))) (pe_op op_mul pe_int (pv 2))) (pa_cons (pv 2) pa_nil)))))))), ?_⟩
  simp only [cx_K, decide_true, decide_false, reduceCtorEq, gTp, gCons, gNil, ca_0, ca_1, ca_2, ca_3, ca_4, ca_5, ca_6, ca_7, ca_8, ca_9, ca_10, ca_11, ca_12, ca_13, ca_14, ca_15, ca_16, ca_17, ca_18, ca_19, ca_20, ca_21, ca_22, ca_23, ca_24, ca_25, ca_26, ca_27, ca_28, ca_29, ca_30, not_true_eq_false, not_false_eq_true, Int.reduceEq, Nat.reduceEqDiff, Nat.reduceLeDiff, rGcd, V.ty.injEq, eq_self, List.not_mem_nil, beq_self_eq_true, HO.lst.injEq, HO.tup.injEq, tFor_eq, iRng1, iList, iTup, nat10, tSeq, rIxA, rSetA, rIsN, rIsT, tTp, tLs, itsO_tup, itsO_lst, tyO_tup, tyO_lst, tyO_dK, tyN_non, tyN_bl, tyN_int, tyN_str, tyN_ref, tyNs_lt, isB, upd_same, upd_upd, sizeLine_eq, List.mem_cons, String.reduceBEq, String.reduceEq, Bool.or_false, Bool.or_true, Bool.and_false, Bool.false_or, Bool.and_self, Bool.false_and, Bool.not_false, Bool.not_true, List.any_cons, List.any_nil, atI_0, setI_0, atI_1, setI_1, atI_2, setI_2, atI_3, setI_3, atI_4, setI_4, atI_5, setI_5, atI_6, setI_6, tAsg, gName, tOp, tUn, tVar, tC, tCons, L2.tNil, tRet, tIfS, tTest, tCB, tCall, rI, rI0, rU, tNext, tB, tAnd, tOr, tNot, tAndV, tOrV, tNotV, tDrop, tIf, tPar, gSub, rIxL, rIxT, rEq, rNe, rSetL, tBits,
    L2.start, List.map_cons, List.map_nil, List.cons_append, List.nil_append, List.append_nil, List.length_cons, List.length_nil, List.replicate, Nat.reduceAdd, Nat.reduceSub, Nat.zero_add, List.getElem?_cons_zero, List.getElem?_cons_succ, List.set_cons_zero, List.set_cons_succ,
    Option.some.injEq, exists_eq_left', exists_eq_left, V.int.injEq, V.bl.injEq, V.ref.injEq, V.str.injEq, List.cons.injEq, reduceCtorEq, and_true, true_and, false_and, and_false, exists_false, or_false, false_or, or_true, true_or, exists_const, CMul, CDiv, CPow, and_assoc, exists_and_left, exists_and_right, Int.reducePow, Int.reduceNeg, Int.reduceLT, Int.reduceLE, Nat.reducePow, Nat.reduceLT, Int.reduceToNat, gt_iff_lt, ge_iff_le, decide_eq_true_eq, Bool.not_eq_true', decide_eq_false_iff_not, scal, ↓reduceIte, Bool.false_eq_true]
  refine ⟨s, 12, rfl, hS, by omega, fun i H1 z0 z1 kp st => ?_⟩
  simp only [cx_K, decide_true, decide_false, reduceCtorEq, gTp, gCons, gNil, ca_0, ca_1, ca_2, ca_3, ca_4, ca_5, ca_6, ca_7, ca_8, ca_9, ca_10, ca_11, ca_12, ca_13, ca_14, ca_15, ca_16, ca_17, ca_18, ca_19, ca_20, ca_21, ca_22, ca_23, ca_24, ca_25, ca_26, ca_27, ca_28, ca_29, ca_30, not_true_eq_false, not_false_eq_true, Int.reduceEq, Nat.reduceEqDiff, Nat.reduceLeDiff, rGcd, V.ty.injEq, eq_self, List.not_mem_nil, beq_self_eq_true, HO.lst.injEq, HO.tup.injEq, tFor_eq, iRng1, iList, iTup, nat10, tSeq, rIxA, rSetA, rIsN, rIsT, tTp, tLs, itsO_tup, itsO_lst, tyO_tup, tyO_lst, tyO_dK, tyN_non, tyN_bl, tyN_int, tyN_str, tyN_ref, tyNs_lt, isB, upd_same, upd_upd, sizeLine_eq, List.mem_cons, String.reduceBEq, String.reduceEq, Bool.or_false, Bool.or_true, Bool.and_false, Bool.false_or, Bool.and_self, Bool.false_and, Bool.not_false, Bool.not_true, List.any_cons, List.any_nil, atI_0, setI_0, atI_1, setI_1, atI_2, setI_2, atI_3, setI_3, atI_4, setI_4, atI_5, setI_5, atI_6, setI_6, tAsg, gName, tOp, tUn, tVar, tC, tCons, L2.tNil, tRet, tIfS, tTest, tCB, tCall, rI, rI0, rU, tNext, tB, tAnd, tOr, tNot, tAndV, tOrV, tNotV, tDrop, tIf, tPar, gSub, rIxL, rIxT, rEq, rNe, rSetL, tBits,
    L2.start, List.map_cons, List.map_nil, List.cons_append, List.nil_append, List.append_nil, List.length_cons, List.length_nil, List.replicate, Nat.reduceAdd, Nat.reduceSub, Nat.zero_add, List.getElem?_cons_zero, List.getElem?_cons_succ, List.set_cons_zero, List.set_cons_succ,
    Option.some.injEq, exists_eq_left', exists_eq_left, V.int.injEq, V.bl.injEq, V.ref.injEq, V.str.injEq, List.cons.injEq, reduceCtorEq, and_true, true_and, false_and, and_false, exists_false, or_false, false_or, or_true, true_or, exists_const, CMul, CDiv, CPow, and_assoc, exists_and_left, exists_and_right, Int.reducePow, Int.reduceNeg, Int.reduceLT, Int.reduceLE, Nat.reducePow, Nat.reduceLT, Int.reduceToNat, gt_iff_lt, ge_iff_le, decide_eq_true_eq, Bool.not_eq_true', decide_eq_false_iff_not, scal, ↓reduceIte, Bool.false_eq_true]
  refine ite2 (fun h => ?_) (fun h => ?_)
  · intro p1 h1 k1 p2 h2 k2 p3 h3 k3 p4 h4 k4 p5 h5 k5 p6 h6 k6
    rw [ob_new k6]
    simp only [cx_K, decide_true, decide_false, reduceCtorEq, gTp, gCons, gNil, ca_0, ca_1, ca_2, ca_3, ca_4, ca_5, ca_6, ca_7, ca_8, ca_9, ca_10, ca_11, ca_12, ca_13, ca_14, ca_15, ca_16, ca_17, ca_18, ca_19, ca_20, ca_21, ca_22, ca_23, ca_24, ca_25, ca_26, ca_27, ca_28, ca_29, ca_30, not_true_eq_false, not_false_eq_true, Int.reduceEq, Nat.reduceEqDiff, Nat.reduceLeDiff, rGcd, V.ty.injEq, eq_self, List.not_mem_nil, beq_self_eq_true, HO.lst.injEq, HO.tup.injEq, tFor_eq, iRng1, iList, iTup, nat10, tSeq, rIxA, rSetA, rIsN, rIsT, tTp, tLs, itsO_tup, itsO_lst, tyO_tup, tyO_lst, tyO_dK, tyN_non, tyN_bl, tyN_int, tyN_str, tyN_ref, tyNs_lt, isB, upd_same, upd_upd, sizeLine_eq, List.mem_cons, String.reduceBEq, String.reduceEq, Bool.or_false, Bool.or_true, Bool.and_false, Bool.false_or, Bool.and_self, Bool.false_and, Bool.not_false, Bool.not_true, List.any_cons, List.any_nil, atI_0, setI_0, atI_1, setI_1, atI_2, setI_2, atI_3, setI_3, atI_4, setI_4, atI_5, setI_5, atI_6, setI_6, tAsg, gName, tOp, tUn, tVar, tC, tCons, L2.tNil, tRet, tIfS, tTest, tCB, tCall, rI, rI0, rU, tNext, tB, tAnd, tOr, tNot, tAndV, tOrV, tNotV, tDrop, tIf, tPar, gSub, rIxL, rIxT, rEq, rNe, rSetL, tBits,
    L2.start, List.map_cons, List.map_nil, List.cons_append, List.nil_append, List.append_nil, List.length_cons, List.length_nil, List.replicate, Nat.reduceAdd, Nat.reduceSub, Nat.zero_add, List.getElem?_cons_zero, List.getElem?_cons_succ, List.set_cons_zero, List.set_cons_succ,
    Option.some.injEq, exists_eq_left', exists_eq_left, V.int.injEq, V.bl.injEq, V.ref.injEq, V.str.injEq, List.cons.injEq, reduceCtorEq, and_true, true_and, false_and, and_false, exists_false, or_false, false_or, or_true, true_or, exists_const, CMul, CDiv, CPow, and_assoc, exists_and_left, exists_and_right, Int.reducePow, Int.reduceNeg, Int.reduceLT, Int.reduceLE, Nat.reducePow, Nat.reduceLT, Int.reduceToNat, gt_iff_lt, ge_iff_le, decide_eq_true_eq, Bool.not_eq_true', decide_eq_false_iff_not, scal, ↓reduceIte, Bool.false_eq_true]
    refine menu z0 (by simpa using h) fun v hv => ?_
    simp only [List.mem_cons, List.not_mem_nil, or_false] at hv
    rcases hv with rfl | rfl | rfl | rfl | rfl
    · exact k _ _ _ ⟨ob_same ((Same.new h2 _).trans ((Same.new h3 _).trans ((Same.new h4 _).trans ((Same.new h5 _).trans (Same.new h6 _))))) (ob_new k1), nf01, sz10 (by decide) (by decide)⟩ (kp.trans (Kp.same ((Same.new h1 _).trans ((Same.new h2 _).trans ((Same.new h3 _).trans ((Same.new h4 _).trans ((Same.new h5 _).trans (Same.new h6 _)))))))) (st.same ((Same.new h1 _).trans ((Same.new h2 _).trans ((Same.new h3 _).trans ((Same.new h4 _).trans ((Same.new h5 _).trans (Same.new h6 _)))))))
    · exact k _ _ _ ⟨ob_same ((Same.new h3 _).trans ((Same.new h4 _).trans ((Same.new h5 _).trans (Same.new h6 _)))) (ob_new k2), nf11, sz10 (by decide) (by decide)⟩ (kp.trans (Kp.same ((Same.new h1 _).trans ((Same.new h2 _).trans ((Same.new h3 _).trans ((Same.new h4 _).trans ((Same.new h5 _).trans (Same.new h6 _)))))))) (st.same ((Same.new h1 _).trans ((Same.new h2 _).trans ((Same.new h3 _).trans ((Same.new h4 _).trans ((Same.new h5 _).trans (Same.new h6 _)))))))
    · exact k _ _ _ ⟨ob_same ((Same.new h4 _).trans ((Same.new h5 _).trans (Same.new h6 _))) (ob_new k3), nfm1, sz10 (by decide) (by decide)⟩ (kp.trans (Kp.same ((Same.new h1 _).trans ((Same.new h2 _).trans ((Same.new h3 _).trans ((Same.new h4 _).trans ((Same.new h5 _).trans (Same.new h6 _)))))))) (st.same ((Same.new h1 _).trans ((Same.new h2 _).trans ((Same.new h3 _).trans ((Same.new h4 _).trans ((Same.new h5 _).trans (Same.new h6 _)))))))
    · exact k _ _ _ ⟨ob_same ((Same.new h5 _).trans (Same.new h6 _)) (ob_new k4), nf12, sz10 (by decide) (by decide)⟩ (kp.trans (Kp.same ((Same.new h1 _).trans ((Same.new h2 _).trans ((Same.new h3 _).trans ((Same.new h4 _).trans ((Same.new h5 _).trans (Same.new h6 _)))))))) (st.same ((Same.new h1 _).trans ((Same.new h2 _).trans ((Same.new h3 _).trans ((Same.new h4 _).trans ((Same.new h5 _).trans (Same.new h6 _)))))))
    · exact k _ _ _ ⟨ob_same (Same.new h6 _) (ob_new k5), nfm2, sz10 (by decide) (by decide)⟩ (kp.trans (Kp.same ((Same.new h1 _).trans ((Same.new h2 _).trans ((Same.new h3 _).trans ((Same.new h4 _).trans ((Same.new h5 _).trans (Same.new h6 _)))))))) (st.same ((Same.new h1 _).trans ((Same.new h2 _).trans ((Same.new h3 _).trans ((Same.new h4 _).trans ((Same.new h5 _).trans (Same.new h6 _)))))))
  · refine ⟨s, 12, rfl, st, by omega, fun j H2 j0 j1 kp2 st2 => ?_⟩
    simp only [cx_K, decide_true, decide_false, reduceCtorEq, gTp, gCons, gNil, ca_0, ca_1, ca_2, ca_3, ca_4, ca_5, ca_6, ca_7, ca_8, ca_9, ca_10, ca_11, ca_12, ca_13, ca_14, ca_15, ca_16, ca_17, ca_18, ca_19, ca_20, ca_21, ca_22, ca_23, ca_24, ca_25, ca_26, ca_27, ca_28, ca_29, ca_30, not_true_eq_false, not_false_eq_true, Int.reduceEq, Nat.reduceEqDiff, Nat.reduceLeDiff, rGcd, V.ty.injEq, eq_self, List.not_mem_nil, beq_self_eq_true, HO.lst.injEq, HO.tup.injEq, tFor_eq, iRng1, iList, iTup, nat10, tSeq, rIxA, rSetA, rIsN, rIsT, tTp, tLs, itsO_tup, itsO_lst, tyO_tup, tyO_lst, tyO_dK, tyN_non, tyN_bl, tyN_int, tyN_str, tyN_ref, tyNs_lt, isB, upd_same, upd_upd, sizeLine_eq, List.mem_cons, String.reduceBEq, String.reduceEq, Bool.or_false, Bool.or_true, Bool.and_false, Bool.false_or, Bool.and_self, Bool.false_and, Bool.not_false, Bool.not_true, List.any_cons, List.any_nil, atI_0, setI_0, atI_1, setI_1, atI_2, setI_2, atI_3, setI_3, atI_4, setI_4, atI_5, setI_5, atI_6, setI_6, tAsg, gName, tOp, tUn, tVar, tC, tCons, L2.tNil, tRet, tIfS, tTest, tCB, tCall, rI, rI0, rU, tNext, tB, tAnd, tOr, tNot, tAndV, tOrV, tNotV, tDrop, tIf, tPar, gSub, rIxL, rIxT, rEq, rNe, rSetL, tBits,
    L2.start, List.map_cons, List.map_nil, List.cons_append, List.nil_append, List.append_nil, List.length_cons, List.length_nil, List.replicate, Nat.reduceAdd, Nat.reduceSub, Nat.zero_add, List.getElem?_cons_zero, List.getElem?_cons_succ, List.set_cons_zero, List.set_cons_succ,
    Option.some.injEq, exists_eq_left', exists_eq_left, V.int.injEq, V.bl.injEq, V.ref.injEq, V.str.injEq, List.cons.injEq, reduceCtorEq, and_true, true_and, false_and, and_false, exists_false, or_false, false_or, or_true, true_or, exists_const, CMul, CDiv, CPow, and_assoc, exists_and_left, exists_and_right, Int.reducePow, Int.reduceNeg, Int.reduceLT, Int.reduceLE, Nat.reducePow, Nat.reduceLT, Int.reduceToNat, gt_iff_lt, ge_iff_le, decide_eq_true_eq, Bool.not_eq_true', decide_eq_false_iff_not, scal, ↓reduceIte, Bool.false_eq_true]
    refine ⟨s, _, rfl, st2, by omega, fun m H3 m0 m1 kp3 st3 => ?_⟩
    simp only [cx_K, decide_true, decide_false, reduceCtorEq, gTp, gCons, gNil, ca_0, ca_1, ca_2, ca_3, ca_4, ca_5, ca_6, ca_7, ca_8, ca_9, ca_10, ca_11, ca_12, ca_13, ca_14, ca_15, ca_16, ca_17, ca_18, ca_19, ca_20, ca_21, ca_22, ca_23, ca_24, ca_25, ca_26, ca_27, ca_28, ca_29, ca_30, not_true_eq_false, not_false_eq_true, Int.reduceEq, Nat.reduceEqDiff, Nat.reduceLeDiff, rGcd, V.ty.injEq, eq_self, List.not_mem_nil, beq_self_eq_true, HO.lst.injEq, HO.tup.injEq, tFor_eq, iRng1, iList, iTup, nat10, tSeq, rIxA, rSetA, rIsN, rIsT, tTp, tLs, itsO_tup, itsO_lst, tyO_tup, tyO_lst, tyO_dK, tyN_non, tyN_bl, tyN_int, tyN_str, tyN_ref, tyNs_lt, isB, upd_same, upd_upd, sizeLine_eq, List.mem_cons, String.reduceBEq, String.reduceEq, Bool.or_false, Bool.or_true, Bool.and_false, Bool.false_or, Bool.and_self, Bool.false_and, Bool.not_false, Bool.not_true, List.any_cons, List.any_nil, atI_0, setI_0, atI_1, setI_1, atI_2, setI_2, atI_3, setI_3, atI_4, setI_4, atI_5, setI_5, atI_6, setI_6, tAsg, gName, tOp, tUn, tVar, tC, tCons, L2.tNil, tRet, tIfS, tTest, tCB, tCall, rI, rI0, rU, tNext, tB, tAnd, tOr, tNot, tAndV, tOrV, tNotV, tDrop, tIf, tPar, gSub, rIxL, rIxT, rEq, rNe, rSetL, tBits,
    L2.start, List.map_cons, List.map_nil, List.cons_append, List.nil_append, List.append_nil, List.length_cons, List.length_nil, List.replicate, Nat.reduceAdd, Nat.reduceSub, Nat.zero_add, List.getElem?_cons_zero, List.getElem?_cons_succ, List.set_cons_zero, List.set_cons_succ,
    Option.some.injEq, exists_eq_left', exists_eq_left, V.int.injEq, V.bl.injEq, V.ref.injEq, V.str.injEq, List.cons.injEq, reduceCtorEq, and_true, true_and, false_and, and_false, exists_false, or_false, false_or, or_true, true_or, exists_const, CMul, CDiv, CPow, and_assoc, exists_and_left, exists_and_right, Int.reducePow, Int.reduceNeg, Int.reduceLT, Int.reduceLE, Nat.reducePow, Nat.reduceLT, Int.reduceToNat, gt_iff_lt, ge_iff_le, decide_eq_true_eq, Bool.not_eq_true', decide_eq_false_iff_not, scal, ↓reduceIte, Bool.false_eq_true]
    refine ⟨_, _, rfl, ?_, fun q hq p H4 s4 o4 => ?_⟩
    · have e : 2 ^ 10 ≤ 2 ^ 8000 := Nat.pow_le_pow_right (by omega) (by omega)
      omega
    · have hI := hq.2 (show 1 + j ≠ 0 by omega)
      exact k p q H4 ⟨o4, hI.1, is_sz (by omega) hI (by omega) (by omega)⟩ (((kp.trans kp2).trans kp3).trans (Kp.same s4)) (st3.same s4)
abbrev sDFracW : Stmt := topS 50
theorem scDFracW : FnScope ["_law_store_here", "_law_spot"] ["_law_store_here"] (defScope sDFracW) := ⟨rfl, rfl, rfl, by decide +kernel, rfl, by decide +kernel, by decide +kernel⟩
theorem k_DFracW (T : Bt K mg) (D : Dfn K mg "_law_frac_wide" sDFracW ["_law_store_here"]) (d__law_take : Kn P w K mg base 2 "_law_take" ["_law_store_here", "_law_many"] (spTake K)) (d__law_lowest : Kn P w K mg base 2 "_law_lowest" ["_law_top", "_law_bottom"] (spLowest K)) (d__law_great : Kn P w K mg base 3 "_law_great" ["_law_store_here"] (spInt K fun n => n.natAbs < 2 ^ 133)) (d__law_whole : Kn P w K mg base 3 "_law_whole" ["_law_store_here", "_law_reach"] (spLInt K)) (d__law_frac : Kn P w K mg base 3 "_law_frac" ["_law_store_here"] (spDFrac K 10)) : Kn P w K mg base 4 "_law_frac_wide" ["_law_store_here"] (spDFrac K 133) := by
  refine Kn.mk' D scDFracW (fun vs H Q E h => ?_) (fun f cdv A outer s H vs Q E hr h => ?_)
  · obtain ⟨s, rfl, _⟩ := h
    rfl
  obtain ⟨s, rfl, hS, k⟩ := h
  refine ⟨_, (pss_cons (ps_set (i := 1) scDFracW.nd rfl (.inl rfl) (pe_kn d__law_take hr (by rfl) (pa_cons (pv 0) (pa_cons pe_int pa_nil))))
      (pss_cons (ps_if (pt_cmpR op_eq (pv 1) pe_int (nomark _)) (pss_one (ps_ret (pe_kn d__law_lowest hr (by rfl) (pa_cons (pe_kn d__law_great hr (by rfl) (pa_cons (pv 0) pa_nil)) (pa_cons (pe_callB (call_max2 rfl) (by rfl) T.b_max (by decide +kernel) (pa_cons pe_int (pa_cons (pe_callB call_abs (by rfl) T.b_abs (by decide +kernel) (pa_cons (pe_kn d__law_great hr (by rfl) (pa_cons (pv 0) pa_nil)) pa_nil)) pa_nil))) pa_nil))))) pss_nil)
      (pss_cons (ps_if (pt_cmpR op_eq (pv 1) pe_int (nomark _)) (pss_one (ps_ret (pe_kn d__law_lowest hr (by rfl) (pa_cons (pe_kn d__law_whole hr (by rfl) (pa_cons (pv 0) (pa_cons (pe_op op_pow pe_int pe_int) pa_nil))) (pa_cons (pe_op op_add pe_int (pe_kn d__law_take hr (by rfl) (pa_cons (pv 0) (pa_cons pe_int pa_nil)))) pa_nil))))) pss_nil)
      (pss_one (ps_ret (pe_kn d__law_frac hr (by rfl) (pa_cons (pv 0) pa_nil))))))), ?_⟩
  simp only [cx_K, decide_true, decide_false, reduceCtorEq, gTp, gCons, gNil, ca_0, ca_1, ca_2, ca_3, ca_4, ca_5, ca_6, ca_7, ca_8, ca_9, ca_10, ca_11, ca_12, ca_13, ca_14, ca_15, ca_16, ca_17, ca_18, ca_19, ca_20, ca_21, ca_22, ca_23, ca_24, ca_25, ca_26, ca_27, ca_28, ca_29, ca_30, not_true_eq_false, not_false_eq_true, Int.reduceEq, Nat.reduceEqDiff, Nat.reduceLeDiff, rGcd, V.ty.injEq, eq_self, List.not_mem_nil, beq_self_eq_true, HO.lst.injEq, HO.tup.injEq, tFor_eq, iRng1, iList, iTup, nat10, tSeq, rIxA, rSetA, rIsN, rIsT, tTp, tLs, itsO_tup, itsO_lst, tyO_tup, tyO_lst, tyO_dK, tyN_non, tyN_bl, tyN_int, tyN_str, tyN_ref, tyNs_lt, isB, upd_same, upd_upd, sizeLine_eq, List.mem_cons, String.reduceBEq, String.reduceEq, Bool.or_false, Bool.or_true, Bool.and_false, Bool.false_or, Bool.and_self, Bool.false_and, Bool.not_false, Bool.not_true, List.any_cons, List.any_nil, atI_0, setI_0, atI_1, setI_1, atI_2, setI_2, atI_3, setI_3, atI_4, setI_4, atI_5, setI_5, atI_6, setI_6, tAsg, gName, tOp, tUn, tVar, tC, tCons, L2.tNil, tRet, tIfS, tTest, tCB, tCall, rI, rI0, rU, tNext, tB, tAnd, tOr, tNot, tAndV, tOrV, tNotV, tDrop, tIf, tPar, gSub, rIxL, rIxT, rEq, rNe, rSetL, tBits,
    L2.start, List.map_cons, List.map_nil, List.cons_append, List.nil_append, List.append_nil, List.length_cons, List.length_nil, List.replicate, Nat.reduceAdd, Nat.reduceSub, Nat.zero_add, List.getElem?_cons_zero, List.getElem?_cons_succ, List.set_cons_zero, List.set_cons_succ,
    Option.some.injEq, exists_eq_left', exists_eq_left, V.int.injEq, V.bl.injEq, V.ref.injEq, V.str.injEq, List.cons.injEq, reduceCtorEq, and_true, true_and, false_and, and_false, exists_false, or_false, false_or, or_true, true_or, exists_const, CMul, CDiv, CPow, and_assoc, exists_and_left, exists_and_right, Int.reducePow, Int.reduceNeg, Int.reduceLT, Int.reduceLE, Nat.reducePow, Nat.reduceLT, Int.reduceToNat, gt_iff_lt, ge_iff_le, decide_eq_true_eq, Bool.not_eq_true', decide_eq_false_iff_not, scal, ↓reduceIte, Bool.false_eq_true]
  refine ⟨s, 8, rfl, hS, by omega, fun i H1 z0 z1 kp st => ?_⟩
  simp only [cx_K, decide_true, decide_false, reduceCtorEq, gTp, gCons, gNil, ca_0, ca_1, ca_2, ca_3, ca_4, ca_5, ca_6, ca_7, ca_8, ca_9, ca_10, ca_11, ca_12, ca_13, ca_14, ca_15, ca_16, ca_17, ca_18, ca_19, ca_20, ca_21, ca_22, ca_23, ca_24, ca_25, ca_26, ca_27, ca_28, ca_29, ca_30, not_true_eq_false, not_false_eq_true, Int.reduceEq, Nat.reduceEqDiff, Nat.reduceLeDiff, rGcd, V.ty.injEq, eq_self, List.not_mem_nil, beq_self_eq_true, HO.lst.injEq, HO.tup.injEq, tFor_eq, iRng1, iList, iTup, nat10, tSeq, rIxA, rSetA, rIsN, rIsT, tTp, tLs, itsO_tup, itsO_lst, tyO_tup, tyO_lst, tyO_dK, tyN_non, tyN_bl, tyN_int, tyN_str, tyN_ref, tyNs_lt, isB, upd_same, upd_upd, sizeLine_eq, List.mem_cons, String.reduceBEq, String.reduceEq, Bool.or_false, Bool.or_true, Bool.and_false, Bool.false_or, Bool.and_self, Bool.false_and, Bool.not_false, Bool.not_true, List.any_cons, List.any_nil, atI_0, setI_0, atI_1, setI_1, atI_2, setI_2, atI_3, setI_3, atI_4, setI_4, atI_5, setI_5, atI_6, setI_6, tAsg, gName, tOp, tUn, tVar, tC, tCons, L2.tNil, tRet, tIfS, tTest, tCB, tCall, rI, rI0, rU, tNext, tB, tAnd, tOr, tNot, tAndV, tOrV, tNotV, tDrop, tIf, tPar, gSub, rIxL, rIxT, rEq, rNe, rSetL, tBits,
    L2.start, List.map_cons, List.map_nil, List.cons_append, List.nil_append, List.append_nil, List.length_cons, List.length_nil, List.replicate, Nat.reduceAdd, Nat.reduceSub, Nat.zero_add, List.getElem?_cons_zero, List.getElem?_cons_succ, List.set_cons_zero, List.set_cons_succ,
    Option.some.injEq, exists_eq_left', exists_eq_left, V.int.injEq, V.bl.injEq, V.ref.injEq, V.str.injEq, List.cons.injEq, reduceCtorEq, and_true, true_and, false_and, and_false, exists_false, or_false, false_or, or_true, true_or, exists_const, CMul, CDiv, CPow, and_assoc, exists_and_left, exists_and_right, Int.reducePow, Int.reduceNeg, Int.reduceLT, Int.reduceLE, Nat.reducePow, Nat.reduceLT, Int.reduceToNat, gt_iff_lt, ge_iff_le, decide_eq_true_eq, Bool.not_eq_true', decide_eq_false_iff_not, scal, ↓reduceIte, Bool.false_eq_true]
  have big : 2 ^ 133 ≤ 2 ^ 8000 := Nat.pow_le_pow_right (by omega) (by omega)
  refine ite2 (fun h => ?_) (fun h => ite2 (fun h' => ?_) (fun h' => ?_))
  · refine ⟨s, rfl, st, fun t H2 ht kp2 st2 => ⟨s, rfl, st2, fun b H3 hb kp3 st3 => ?_⟩⟩
    simp only [abs_if, cx_K, decide_true, decide_false, reduceCtorEq, gTp, gCons, gNil, ca_0, ca_1, ca_2, ca_3, ca_4, ca_5, ca_6, ca_7, ca_8, ca_9, ca_10, ca_11, ca_12, ca_13, ca_14, ca_15, ca_16, ca_17, ca_18, ca_19, ca_20, ca_21, ca_22, ca_23, ca_24, ca_25, ca_26, ca_27, ca_28, ca_29, ca_30, not_true_eq_false, not_false_eq_true, Int.reduceEq, Nat.reduceEqDiff, Nat.reduceLeDiff, rGcd, V.ty.injEq, eq_self, List.not_mem_nil, beq_self_eq_true, HO.lst.injEq, HO.tup.injEq, tFor_eq, iRng1, iList, iTup, nat10, tSeq, rIxA, rSetA, rIsN, rIsT, tTp, tLs, itsO_tup, itsO_lst, tyO_tup, tyO_lst, tyO_dK, tyN_non, tyN_bl, tyN_int, tyN_str, tyN_ref, tyNs_lt, isB, upd_same, upd_upd, sizeLine_eq, List.mem_cons, String.reduceBEq, String.reduceEq, Bool.or_false, Bool.or_true, Bool.and_false, Bool.false_or, Bool.and_self, Bool.false_and, Bool.not_false, Bool.not_true, List.any_cons, List.any_nil, atI_0, setI_0, atI_1, setI_1, atI_2, setI_2, atI_3, setI_3, atI_4, setI_4, atI_5, setI_5, atI_6, setI_6, tAsg, gName, tOp, tUn, tVar, tC, tCons, L2.tNil, tRet, tIfS, tTest, tCB, tCall, rI, rI0, rU, tNext, tB, tAnd, tOr, tNot, tAndV, tOrV, tNotV, tDrop, tIf, tPar, gSub, rIxL, rIxT, rEq, rNe, rSetL, tBits,
    L2.start, List.map_cons, List.map_nil, List.cons_append, List.nil_append, List.append_nil, List.length_cons, List.length_nil, List.replicate, Nat.reduceAdd, Nat.reduceSub, Nat.zero_add, List.getElem?_cons_zero, List.getElem?_cons_succ, List.set_cons_zero, List.set_cons_succ,
    Option.some.injEq, exists_eq_left', exists_eq_left, V.int.injEq, V.bl.injEq, V.ref.injEq, V.str.injEq, List.cons.injEq, reduceCtorEq, and_true, true_and, false_and, and_false, exists_false, or_false, false_or, or_true, true_or, exists_const, CMul, CDiv, CPow, and_assoc, exists_and_left, exists_and_right, Int.reducePow, Int.reduceNeg, Int.reduceLT, Int.reduceLE, Nat.reducePow, Nat.reduceLT, Int.reduceToNat, gt_iff_lt, ge_iff_le, decide_eq_true_eq, Bool.not_eq_true', decide_eq_false_iff_not, scal, ↓reduceIte, Bool.false_eq_true]
    have hd : (if 1 < (b.natAbs : Int) then (b.natAbs : Int) else 1) ≠ 0 ∧ (if 1 < (b.natAbs : Int) then (b.natAbs : Int) else 1).natAbs < 2 ^ 133 := by
      have hb' : b.natAbs < 2 ^ 133 := hb
      split <;> refine ⟨by omega, by omega⟩
    generalize (if 1 < (b.natAbs : Int) then (b.natAbs : Int) else 1) = d at hd ⊢
    refine ⟨_, _, rfl, by omega, fun q hq p H4 s4 o4 => ?_⟩
    have hI := hq.2 hd.1
    exact k p q H4 ⟨o4, hI.1, is_sz hd.1 hI ht hd.2⟩ (((kp.trans kp2).trans kp3).trans (Kp.same s4)) (st3.same s4)
  · refine ⟨s, _, rfl, st, by omega, by omega, fun t H2 t0 t1 kp2 st2 => ⟨s, 1000, rfl, st2, by omega, fun b H3 b0 b1 kp3 st3 => ?_⟩⟩
    simp only [cx_K, decide_true, decide_false, reduceCtorEq, gTp, gCons, gNil, ca_0, ca_1, ca_2, ca_3, ca_4, ca_5, ca_6, ca_7, ca_8, ca_9, ca_10, ca_11, ca_12, ca_13, ca_14, ca_15, ca_16, ca_17, ca_18, ca_19, ca_20, ca_21, ca_22, ca_23, ca_24, ca_25, ca_26, ca_27, ca_28, ca_29, ca_30, not_true_eq_false, not_false_eq_true, Int.reduceEq, Nat.reduceEqDiff, Nat.reduceLeDiff, rGcd, V.ty.injEq, eq_self, List.not_mem_nil, beq_self_eq_true, HO.lst.injEq, HO.tup.injEq, tFor_eq, iRng1, iList, iTup, nat10, tSeq, rIxA, rSetA, rIsN, rIsT, tTp, tLs, itsO_tup, itsO_lst, tyO_tup, tyO_lst, tyO_dK, tyN_non, tyN_bl, tyN_int, tyN_str, tyN_ref, tyNs_lt, isB, upd_same, upd_upd, sizeLine_eq, List.mem_cons, String.reduceBEq, String.reduceEq, Bool.or_false, Bool.or_true, Bool.and_false, Bool.false_or, Bool.and_self, Bool.false_and, Bool.not_false, Bool.not_true, List.any_cons, List.any_nil, atI_0, setI_0, atI_1, setI_1, atI_2, setI_2, atI_3, setI_3, atI_4, setI_4, atI_5, setI_5, atI_6, setI_6, tAsg, gName, tOp, tUn, tVar, tC, tCons, L2.tNil, tRet, tIfS, tTest, tCB, tCall, rI, rI0, rU, tNext, tB, tAnd, tOr, tNot, tAndV, tOrV, tNotV, tDrop, tIf, tPar, gSub, rIxL, rIxT, rEq, rNe, rSetL, tBits,
    L2.start, List.map_cons, List.map_nil, List.cons_append, List.nil_append, List.append_nil, List.length_cons, List.length_nil, List.replicate, Nat.reduceAdd, Nat.reduceSub, Nat.zero_add, List.getElem?_cons_zero, List.getElem?_cons_succ, List.set_cons_zero, List.set_cons_succ,
    Option.some.injEq, exists_eq_left', exists_eq_left, V.int.injEq, V.bl.injEq, V.ref.injEq, V.str.injEq, List.cons.injEq, reduceCtorEq, and_true, true_and, false_and, and_false, exists_false, or_false, false_or, or_true, true_or, exists_const, CMul, CDiv, CPow, and_assoc, exists_and_left, exists_and_right, Int.reducePow, Int.reduceNeg, Int.reduceLT, Int.reduceLE, Nat.reducePow, Nat.reduceLT, Int.reduceToNat, gt_iff_lt, ge_iff_le, decide_eq_true_eq, Bool.not_eq_true', decide_eq_false_iff_not, scal, ↓reduceIte, Bool.false_eq_true]
    refine ⟨_, _, rfl, by omega, fun q hq p H4 s4 o4 => ?_⟩
    have hI := hq.2 (show 1 + b ≠ 0 by omega)
    exact k p q H4 ⟨o4, hI.1, is_sz (by omega) hI (by omega) (by omega)⟩ (((kp.trans kp2).trans kp3).trans (Kp.same s4)) (st3.same s4)
  · exact ⟨s, rfl, st, fun a q H2 hq kp2 st2 => k a q H2 (hq.mono (by omega)) (kp.trans kp2) st2⟩
/-- the script, read alone -/
def spStore (K : PySem.W.Frag) : Sp := fun vs H Q _ => ∃ (a : Addr) (ns : List Int), vs = [.ref a] ∧ SqL K H a (ns.map V.int) ∧ ∀ s H', Same H H' → Sto K H' s → Q (.ref s) H'
def StoreI (a : Addr) (H : Hp) (_ : Nat) (σ : L2.St) (H' : Hp) : Prop := ∃ (v : Int) (y : Option V), σ = [some (.ref a), some (.int v), y] ∧ H' = H
abbrev sStore : Stmt := topS 36
theorem scStore : FnScope ["_law_script", "_law_seed", "_law_cell"] ["_law_script"] (defScope sStore) := ⟨rfl, rfl, rfl, by decide +kernel, rfl, by decide +kernel, by decide +kernel⟩
theorem k_Store (T : Bt K mg) (D : Dfn K mg "_law_store" sStore ["_law_script"]) : Kn P w K mg base 1 "_law_store" ["_law_script"] (spStore K) := by
  refine Kn.mk' D scStore (fun vs H Q E h => ?_) (fun f cdv A outer s H vs Q E hr h => ?_)
  · obtain ⟨a, ns, rfl, _⟩ := h
    rfl
  obtain ⟨a, ns, rfl, hS, k⟩ := h
  refine ⟨_, (pss_cons (ps_set (i := 1) scStore.nd rfl (.inl rfl) (pe_op op_add (pe_callB call_len_seq (by rfl) T.b_len PySem.boot_len (pa_cons (pv 0) pa_nil)) pe_int))
      (pss_cons (ps_for PassesOwn.never rfl (pi_list (pv 0)) (pg_name (i := 2) scStore.nd rfl (.inl rfl)) (pss_one (ps_set (i := 1) scStore.nd rfl (.inl rfl) (pe_op op_mod (pe_op op_add (pe_op op_add (pe_op op_mul (pv 1) pe_int) (pe_op op_mod (pe_callTy call_int1 (by rfl) T.b_int (by decide +kernel) (pa_cons (pv 2) pa_nil)) pe_int)) pe_int) pe_int))))
      (pss_one (ps_ret (pe_ls (pa_cons (pe_callTy call_listK (by rfl) T.b_list (by decide +kernel) (pa_cons (pv 0) pa_nil)) (pa_cons pe_int (pa_cons pe_int (pa_cons pe_int (pa_cons (pv 1) (pa_cons pe_int (pa_cons pe_int pa_nil)))))))))))), ?_⟩
  simp only [cx_K, decide_true, decide_false, reduceCtorEq, gTp, gCons, gNil, ca_0, ca_1, ca_2, ca_3, ca_4, ca_5, ca_6, ca_7, ca_8, ca_9, ca_10, ca_11, ca_12, ca_13, ca_14, ca_15, ca_16, ca_17, ca_18, ca_19, ca_20, ca_21, ca_22, ca_23, ca_24, ca_25, ca_26, ca_27, ca_28, ca_29, ca_30, not_true_eq_false, not_false_eq_true, Int.reduceEq, Nat.reduceEqDiff, Nat.reduceLeDiff, rGcd, V.ty.injEq, eq_self, List.not_mem_nil, beq_self_eq_true, HO.lst.injEq, HO.tup.injEq, tFor_eq, iRng1, iList, iTup, nat10, tSeq, rIxA, rSetA, rIsN, rIsT, tTp, tLs, itsO_tup, itsO_lst, tyO_tup, tyO_lst, tyO_dK, tyN_non, tyN_bl, tyN_int, tyN_str, tyN_ref, tyNs_lt, isB, upd_same, upd_upd, sizeLine_eq, List.mem_cons, String.reduceBEq, String.reduceEq, Bool.or_false, Bool.or_true, Bool.and_false, Bool.false_or, Bool.and_self, Bool.false_and, Bool.not_false, Bool.not_true, List.any_cons, List.any_nil, atI_0, setI_0, atI_1, setI_1, atI_2, setI_2, atI_3, setI_3, atI_4, setI_4, atI_5, setI_5, atI_6, setI_6, tAsg, gName, tOp, tUn, tVar, tC, tCons, L2.tNil, tRet, tIfS, tTest, tCB, tCall, rI, rI0, rU, tNext, tB, tAnd, tOr, tNot, tAndV, tOrV, tNotV, tDrop, tIf, tPar, gSub, rIxL, rIxT, rEq, rNe, rSetL, tBits,
    L2.start, List.map_cons, List.map_nil, List.cons_append, List.nil_append, List.append_nil, List.length_cons, List.length_nil, List.replicate, Nat.reduceAdd, Nat.reduceSub, Nat.zero_add, List.getElem?_cons_zero, List.getElem?_cons_succ, List.set_cons_zero, List.set_cons_succ,
    Option.some.injEq, exists_eq_left', exists_eq_left, V.int.injEq, V.bl.injEq, V.ref.injEq, V.str.injEq, List.cons.injEq, reduceCtorEq, and_true, true_and, false_and, and_false, exists_false, or_false, false_or, or_true, true_or, exists_const, CMul, CDiv, CPow, and_assoc, exists_and_left, exists_and_right, Int.reducePow, Int.reduceNeg, Int.reduceLT, Int.reduceLE, Nat.reducePow, Nat.reduceLT, Int.reduceToNat, gt_iff_lt, ge_iff_le, decide_eq_true_eq, Bool.not_eq_true', decide_eq_false_iff_not, scal, ↓reduceIte, Bool.false_eq_true]
  refine ⟨_, .inl hS, ⟨_, hS⟩, forI_list (xs := ns.map V.int) (StoreI a H) ⟨_, none, rfl, rfl⟩ ?_ ?_ ?_⟩
  · rintro i σ H' _ ⟨v, y, rfl, rfl⟩
    exact hS
  · rintro i x σ H' hi ⟨v, y, rfl, rfl⟩
    obtain ⟨z, rfl⟩ : ∃ z, x = V.int z := by
      rw [List.getElem?_map] at hi
      cases e : ns[i]? with
      | none => rw [e] at hi; cases hi
      | some z => rw [e] at hi; exact ⟨z, (Option.some.inj hi).symm⟩
    simp only [cx_K, decide_true, decide_false, reduceCtorEq, gTp, gCons, gNil, ca_0, ca_1, ca_2, ca_3, ca_4, ca_5, ca_6, ca_7, ca_8, ca_9, ca_10, ca_11, ca_12, ca_13, ca_14, ca_15, ca_16, ca_17, ca_18, ca_19, ca_20, ca_21, ca_22, ca_23, ca_24, ca_25, ca_26, ca_27, ca_28, ca_29, ca_30, not_true_eq_false, not_false_eq_true, Int.reduceEq, Nat.reduceEqDiff, Nat.reduceLeDiff, rGcd, V.ty.injEq, eq_self, List.not_mem_nil, beq_self_eq_true, HO.lst.injEq, HO.tup.injEq, tFor_eq, iRng1, iList, iTup, nat10, tSeq, rIxA, rSetA, rIsN, rIsT, tTp, tLs, itsO_tup, itsO_lst, tyO_tup, tyO_lst, tyO_dK, tyN_non, tyN_bl, tyN_int, tyN_str, tyN_ref, tyNs_lt, isB, upd_same, upd_upd, sizeLine_eq, List.mem_cons, String.reduceBEq, String.reduceEq, Bool.or_false, Bool.or_true, Bool.and_false, Bool.false_or, Bool.and_self, Bool.false_and, Bool.not_false, Bool.not_true, List.any_cons, List.any_nil, atI_0, setI_0, atI_1, setI_1, atI_2, setI_2, atI_3, setI_3, atI_4, setI_4, atI_5, setI_5, atI_6, setI_6, tAsg, gName, tOp, tUn, tVar, tC, tCons, L2.tNil, tRet, tIfS, tTest, tCB, tCall, rI, rI0, rU, tNext, tB, tAnd, tOr, tNot, tAndV, tOrV, tNotV, tDrop, tIf, tPar, gSub, rIxL, rIxT, rEq, rNe, rSetL, tBits,
    L2.start, List.map_cons, List.map_nil, List.cons_append, List.nil_append, List.append_nil, List.length_cons, List.length_nil, List.replicate, Nat.reduceAdd, Nat.reduceSub, Nat.zero_add, List.getElem?_cons_zero, List.getElem?_cons_succ, List.set_cons_zero, List.set_cons_succ,
    Option.some.injEq, exists_eq_left', exists_eq_left, V.int.injEq, V.bl.injEq, V.ref.injEq, V.str.injEq, List.cons.injEq, reduceCtorEq, and_true, true_and, false_and, and_false, exists_false, or_false, false_or, or_true, true_or, exists_const, CMul, CDiv, CPow, and_assoc, exists_and_left, exists_and_right, Int.reducePow, Int.reduceNeg, Int.reduceLT, Int.reduceLE, Nat.reducePow, Nat.reduceLT, Int.reduceToNat, gt_iff_lt, ge_iff_le, decide_eq_true_eq, Bool.not_eq_true', decide_eq_false_iff_not, scal, ↓reduceIte, Bool.false_eq_true]
    exact ⟨_, _, rfl, rfl⟩
  · rintro σ H' ⟨v, y, rfl, rfl⟩
    simp only [cx_K, decide_true, decide_false, reduceCtorEq, gTp, gCons, gNil, ca_0, ca_1, ca_2, ca_3, ca_4, ca_5, ca_6, ca_7, ca_8, ca_9, ca_10, ca_11, ca_12, ca_13, ca_14, ca_15, ca_16, ca_17, ca_18, ca_19, ca_20, ca_21, ca_22, ca_23, ca_24, ca_25, ca_26, ca_27, ca_28, ca_29, ca_30, not_true_eq_false, not_false_eq_true, Int.reduceEq, Nat.reduceEqDiff, Nat.reduceLeDiff, rGcd, V.ty.injEq, eq_self, List.not_mem_nil, beq_self_eq_true, HO.lst.injEq, HO.tup.injEq, tFor_eq, iRng1, iList, iTup, nat10, tSeq, rIxA, rSetA, rIsN, rIsT, tTp, tLs, itsO_tup, itsO_lst, tyO_tup, tyO_lst, tyO_dK, tyN_non, tyN_bl, tyN_int, tyN_str, tyN_ref, tyNs_lt, isB, upd_same, upd_upd, sizeLine_eq, List.mem_cons, String.reduceBEq, String.reduceEq, Bool.or_false, Bool.or_true, Bool.and_false, Bool.false_or, Bool.and_self, Bool.false_and, Bool.not_false, Bool.not_true, List.any_cons, List.any_nil, atI_0, setI_0, atI_1, setI_1, atI_2, setI_2, atI_3, setI_3, atI_4, setI_4, atI_5, setI_5, atI_6, setI_6, tAsg, gName, tOp, tUn, tVar, tC, tCons, L2.tNil, tRet, tIfS, tTest, tCB, tCall, rI, rI0, rU, tNext, tB, tAnd, tOr, tNot, tAndV, tOrV, tNotV, tDrop, tIf, tPar, gSub, rIxL, rIxT, rEq, rNe, rSetL, tBits,
    L2.start, List.map_cons, List.map_nil, List.cons_append, List.nil_append, List.append_nil, List.length_cons, List.length_nil, List.replicate, Nat.reduceAdd, Nat.reduceSub, Nat.zero_add, List.getElem?_cons_zero, List.getElem?_cons_succ, List.set_cons_zero, List.set_cons_succ,
    Option.some.injEq, exists_eq_left', exists_eq_left, V.int.injEq, V.bl.injEq, V.ref.injEq, V.str.injEq, List.cons.injEq, reduceCtorEq, and_true, true_and, false_and, and_false, exists_false, or_false, false_or, or_true, true_or, exists_const, CMul, CDiv, CPow, and_assoc, exists_and_left, exists_and_right, Int.reducePow, Int.reduceNeg, Int.reduceLT, Int.reduceLE, Nat.reducePow, Nat.reduceLT, Int.reduceToNat, gt_iff_lt, ge_iff_le, decide_eq_true_eq, Bool.not_eq_true', decide_eq_false_iff_not, scal, ↓reduceIte, Bool.false_eq_true]
    refine ⟨_, .inl hS, fun l hl kl => ?_⟩
    intro s hs ks
    have s1 := Same.new hl (.lst (ns.map V.int))
    have e1 : upd H' l (.lst (ns.map V.int)) l = some (.lst (ns.map V.int)) := upd_same
    have n1 : s ≠ l := by rintro rfl; rw [upd_same] at hs; cases hs
    exact k s _ (s1.trans (Same.new hs _)) ⟨l, ns, 0, 0, 0, v, 0, 0, upd_same, by rw [upd_ne (Ne.symm n1)]; exact e1, n1, Int.le_refl 0, ks, kl⟩
end
end My

namespace My
open PySem PySem.Spec PyProof.Rows L2
section
variable {P : Program} {w : World} {K : PySem.W.Frag} {mg : Str → Option Value} {base : Heap}
def scv : V → Bool
  | .non => true
  | .bl _ => true
  | .int _ => true
  | .str _ => true
  | _ => false
/-! ### what is no fraction -/
def fr2 : List V → Bool
  | [.int n, .int d] => decide (1 ≤ d) && decide (Int.gcd n d = 1)
  | _ => false
theorem frOk_tup {H : Hp} {a : Addr} {xs : List V} (o : ob K H a = some (.tup xs)) : frOk K H (.ref a) = fr2 xs := by
  simp only [frOk, o]
  unfold fr2
  split <;> simp_all
theorem tyN_same {H H' : Hp} {v : V} {t : String} (e : Same H H') (h : tyN K H v = some t) : tyN K H' v = some t := by
  cases v with
  | ref a =>
    have h1 : tyO (ob K H a) = some t := h
    show tyO (ob K H' a) = some t
    cases hz : ob K H a with
    | none => rw [hz] at h1; cases h1
    | some z => rw [ob_same e hz, ← hz]; exact h1
  | _ => exact h
theorem tyS_same {H H' : Hp} {v : V} (e : Same H H') (h : (tyN K H v).isSome) : (tyN K H' v).isSome := by
  obtain ⟨t, ht⟩ := Option.isSome_iff_exists.mp h
  rw [tyN_same e ht]
  rfl
theorem ob_back {H H' : Hp} {a : Addr} {z : HO} (e : Same H H') (h : (tyN K H (.ref a)).isSome) (o : ob K H' a = some z) : ob K H a = some z := by
  cases hz : ob K H a with
  | none =>
    rw [tyN_ref, hz] at h
    cases h
  | some y =>
    rw [← o, ob_same e hz]
structure Gd (K : PySem.W.Frag) (H : Hp) (v : V) : Prop where
  ty : Tyd K H v
  no : frOk K H v = false
theorem Gd.same {H H' : Hp} {v : V} (e : Same H H') (h : Gd K H v) : Gd K H' v := by
  refine ⟨⟨tyS_same e h.ty.1, fun a xs ev o x hx => ?_⟩, ?_⟩
  · subst ev
    exact tyS_same e (h.ty.2 a xs rfl (ob_back e h.ty.1 o) x hx)
  · cases v with
    | ref a =>
      cases hz : ob K H a with
      | none =>
        have := h.ty.1
        rw [tyN_ref, hz] at this
        cases this
      | some z =>
        have e2 : frOk K H' (.ref a) = frOk K H (.ref a) := by simp only [frOk, hz, ob_same e hz]
        rw [e2]
        exact h.no
    | _ => rfl
theorem gd_sc {H : Hp} {v : V} (h : scv v = true) : Gd K H v := by
  refine ⟨⟨?_, fun a xs e => ?_⟩, ?_⟩
  · cases v <;> first | rfl | cases h
  · subst e; cases h
  · cases v <;> first | rfl | cases h
theorem gd_tup {H : Hp} {a : Addr} {xs : List V} (o : ob K H a = some (.tup xs)) (hx : ∀ x ∈ xs, (tyN K H x).isSome) (f : fr2 xs = false) : Gd K H (.ref a) := by
  refine ⟨⟨by rw [tyN_ref, o]; rfl, fun b ys e o' => ?_⟩, by rw [frOk_tup o]; exact f⟩
  cases e
  rw [o] at o'
  cases o'
  exact hx
theorem gd_lst {H : Hp} {a : Addr} {xs : List V} (o : ob K H a = some (.lst xs)) : Gd K H (.ref a) := by
  refine ⟨⟨by rw [tyN_ref, o]; rfl, fun b ys e o' => ?_⟩, by simp only [frOk, o]⟩
  cases e
  rw [o] at o'
  cases o'
theorem gd_dict {H : Hp} {a : Addr} {xs : List (Key × V)} (o : ob K H a = some (.dK xs)) : Gd K H (.ref a) := by
  refine ⟨⟨by rw [tyN_ref, o]; rfl, fun b ys e o' => ?_⟩, by simp only [frOk, o]⟩
  cases e
  rw [o] at o'
  cases o'
/-! ### displays that only make -/
def Mk (R : Hp → V → Prop) (te : TE) : Prop := ∀ σ H Q, (∀ v H', Same H H' → R H' v → Q v H') → te σ H Q
def MkL (R : Hp → V → Prop) (n : Nat) (ta : TA) : Prop := ∀ σ H Q, (∀ vs H', Same H H' → vs.length = n → (∀ v ∈ vs, R H' v) → Q vs H') → ta σ H Q
theorem mkL_nil {R : Hp → V → Prop} : MkL R 0 L2.tNil := fun σ H Q k => k [] H (Same.refl H) rfl fun _ z => absurd z (by simp)
theorem mkL_cons {R : Hp → V → Prop} {n : Nat} {te : TE} {ta : TA} (mono : ∀ (H H' : Hp) (v : V), Same H H' → R H v → R H' v) (h1 : Mk R te) (h2 : MkL R n ta) : MkL R (n + 1) (tCons te ta) := fun σ H Q k =>
  h1 σ H _ fun v H1 s1 r1 => h2 σ H1 _ fun vs H2 s2 hn hr => k (v :: vs) H2 (s1.trans s2) (by rw [List.length_cons, hn]) fun x hx => by
    rcases List.mem_cons.mp hx with e | e
    · subst e; exact mono _ _ _ s2 r1
    · exact hr x e
theorem mk_c {v : V} (h : scv v = true) : Mk (Gd K) (tC v) := fun σ H Q k => k v H (Same.refl H) (gd_sc h)
theorem mk_tc {ta : TA} (xs : List V) (e : ∀ σ H Q, Q xs H → ta σ H Q) (hs : xs.all scv = true) (hf : fr2 xs = false) (hl : xs.length ≤ 100 := by decide) : Mk (Gd K) (tTp K ta) := fun σ H Q k => by
  refine e σ H _ ⟨by rw [sizeLine_eq]; omega, fun p hp kp => k _ _ (Same.new hp _) (gd_tup (ob_new kp) (fun x hx => ?_) hf)⟩
  exact (gd_sc (K := K) (H := upd H p (.tup xs)) (List.all_eq_true.mp hs x hx)).ty.1
theorem mk_ls {ta : TA} {n : Nat} {R : Hp → V → Prop} (h : MkL R n ta) (hl : n ≤ 100 := by decide) : Mk (Gd K) (tLs K ta) := fun σ H Q k =>
  h σ H _ fun vs H1 s1 hn _ => ⟨by rw [sizeLine_eq]; omega, fun p hp kp => k _ _ (s1.trans (Same.new hp _)) (gd_lst (ob_new kp))⟩
theorem mk_dn : Mk (Gd K) (tDn K) := fun σ H Q k p hp kp => k _ _ (Same.new hp _) (gd_dict (ob_new kp))
theorem mk_any {R : Hp → V → Prop} {te : TE} (h : Mk R te) : Mk (fun _ _ => True) te := fun σ H Q k => h σ H Q fun v H' s _ => k v H' s True.intro
theorem mk_tup {ta : TA} {n : Nat} {R : Hp → V → Prop} (h : MkL R n ta) (hl : n ≤ 100 := by decide) : Mk (fun _ _ => True) (tTp K ta) := fun σ H Q k =>
  h σ H _ fun vs H1 s1 hn _ => ⟨by rw [sizeLine_eq]; omega, fun p hp kp => k _ _ (s1.trans (Same.new hp _)) True.intro⟩
/-! the same where names are read -/
def MkA (σ : L2.St) (H0 : Hp) (R : Hp → V → Prop) (te : TE) : Prop := ∀ H, Same H0 H → ∀ Q, (∀ v H', Same H H' → R H' v → Q v H') → te σ H Q
def MkAL (σ : L2.St) (H0 : Hp) (R : Hp → V → Prop) (n : Nat) (ta : TA) : Prop := ∀ H, Same H0 H → ∀ Q, (∀ vs H', Same H H' → vs.length = n → (∀ v ∈ vs, R H' v) → Q vs H') → ta σ H Q
theorem mkA_nil {σ : L2.St} {H0 : Hp} {R : Hp → V → Prop} : MkAL σ H0 R 0 L2.tNil := fun H _ Q k => k [] H (Same.refl H) rfl fun _ z => absurd z (by simp)
theorem mkA_cons {σ : L2.St} {H0 : Hp} {R : Hp → V → Prop} {n : Nat} {te : TE} {ta : TA} (mono : ∀ (H H' : Hp) (v : V), Same H H' → R H v → R H' v) (h1 : MkA σ H0 R te) (h2 : MkAL σ H0 R n ta) : MkAL σ H0 R (n + 1) (tCons te ta) := fun H s Q k =>
  h1 H s _ fun v H1 s1 r1 => h2 H1 (s.trans s1) _ fun vs H2 s2 hn hr => k (v :: vs) H2 (s1.trans s2) (by rw [List.length_cons, hn]) fun x hx => by
    rcases List.mem_cons.mp hx with e | e
    · subst e; exact mono _ _ _ s2 r1
    · exact hr x e
theorem mkA_tc {σ : L2.St} {H0 : Hp} {ta : TA} (xs : List V) (e : ∀ H, Same H0 H → ∀ Q, Q xs H → ta σ H Q) (hs : ∀ x ∈ xs, (tyN K H0 x).isSome) (hf : fr2 xs = false) (hl : xs.length ≤ 100) : MkA σ H0 (Gd K) (tTp K ta) := fun H s Q k => by
  refine e H s _ ⟨by rw [sizeLine_eq]; omega, fun p hp kp => k _ _ (Same.new hp _) (gd_tup (ob_new kp) (fun x hx => ?_) hf)⟩
  exact tyS_same (s.trans (Same.new hp _)) (hs x hx)
theorem mkA_lc {σ : L2.St} {H0 : Hp} {ta : TA} (xs : List V) (e : ∀ H, Same H0 H → ∀ Q, Q xs H → ta σ H Q) (hl : xs.length ≤ 100) : MkA σ H0 (Gd K) (tLs K ta) := fun H s Q k => by
  exact e H s _ ⟨by rw [sizeLine_eq]; omega, fun p hp kp => k _ _ (Same.new hp _) (gd_lst (ob_new kp))⟩
theorem lsA {ta : TA} {n : Nat} {R : Hp → V → Prop} {σ : L2.St} {H : Hp} {Q : VK} (mono : ∀ (H H' : Hp) (v : V), Same H H' → R H v → R H' v) (h : MkAL σ H R n ta) (hl : n ≤ 100)
    (k : ∀ vs p H', Same H H' → H p = none → K.lookup p = none → vs.length = n → (∀ v ∈ vs, R H' v) → H' p = some (.lst vs) → Q (.ref p) H') : tLs K ta σ H Q :=
  h H (Same.refl H) _ fun vs H1 s1 hn hr => ⟨by rw [sizeLine_eq]; omega, fun p hp kp => k vs p _ (s1.trans (Same.new hp _)) (s1.free hp) kp hn (fun v hv => mono _ _ _ (Same.new hp _) (hr v hv)) upd_same⟩
/-! what is no fraction stays so while the draws go on -/
theorem ob_kp2 {H H' : Hp} {s a : Addr} {z : HO} (e : Kp s H H') (n : a ≠ s) (h : ob K H a = some z) : ob K H' a = some z := by
  unfold ob at h ⊢
  split
  · rename_i o q
    rw [q] at h
    exact h
  · rename_i q
    rw [q] at h
    exact e _ _ n h
theorem Sto.ob {H : Hp} {s : Addr} (h : Sto K H s) : ∃ ys, My.ob K H s = some (.lst ys) := by
  obtain ⟨sc, ns, i, b, c, d, e, f, h⟩ := h
  exact ⟨_, (ob_none h.2.2.2.2.1).trans h.1⟩
theorem tyS_kp {H H' : Hp} {s : Addr} {v : V} (e : Kp s H H') (t : Sto K H' s) (h : (tyN K H v).isSome) : (tyN K H' v).isSome := by
  cases v with
  | ref a =>
    by_cases ha : a = s
    · subst ha
      obtain ⟨ys, hy⟩ := t.ob
      rw [tyN_ref, hy]
      rfl
    · cases hz : ob K H a with
      | none => rw [tyN_ref, hz] at h; cases h
      | some z =>
        rw [tyN_ref, ob_kp2 e ha hz, ← hz]
        exact h
  | _ => exact h
theorem Gd.kp {H H' : Hp} {s : Addr} {v : V} (e : Kp s H H') (t : Sto K H' s) (h : Gd K H v) : Gd K H' v := by
  cases v with
  | ref a =>
    by_cases ha : a = s
    · subst ha
      obtain ⟨ys, hy⟩ := t.ob
      exact gd_lst hy
    · cases hz : ob K H a with
      | none =>
        have := h.ty.1
        rw [tyN_ref, hz] at this
        cases this
      | some z =>
        have hz' := ob_kp2 e ha hz
        refine ⟨⟨tyS_kp e t h.ty.1, fun b xs ev o x hx => ?_⟩, ?_⟩
        · cases ev
          rw [hz'] at o
          exact tyS_kp e t (h.ty.2 a xs rfl (hz.trans o) x hx)
        · have e2 : frOk K H' (.ref a) = frOk K H (.ref a) := by simp only [frOk, hz, hz']
          rw [e2]
          exact h.no
  | _ => exact ⟨⟨h.ty.1, fun _ _ e => by cases e⟩, h.no⟩
/-- a list display of such things -/
theorem lsX {ta : TA} {n : Nat} {R : Hp → V → Prop} {σ : L2.St} {H : Hp} {Q : VK} (mono : ∀ (H H' : Hp) (v : V), Same H H' → R H v → R H' v) (h : MkL R n ta) (hl : n ≤ 100)
    (k : ∀ vs p H', Same H H' → H p = none → K.lookup p = none → vs.length = n → (∀ v ∈ vs, R H' v) → H' p = some (.lst vs) → Q (.ref p) H') : tLs K ta σ H Q :=
  h σ H _ fun vs H1 s1 hn hr => ⟨by rw [sizeLine_eq]; omega, fun p hp kp => k vs p _ (s1.trans (Same.new hp _)) (s1.free hp) kp hn (fun v hv => mono _ _ _ (Same.new hp _) (hr v hv)) upd_same⟩
theorem fr2_mul {q : Qt} {k : Int} (hk : 2 ≤ k) : fr2 [.int (q.1 * k), .int (q.2 * k)] = false := by
  show (decide (1 ≤ q.2 * k) && decide (Int.gcd (q.1 * k) (q.2 * k) = 1)) = false
  rw [Int.gcd_mul_right]
  have : Int.gcd q.1 q.2 * k.natAbs ≠ 1 := fun e => by
    have := Nat.eq_one_of_mul_eq_one_left e
    omega
  rw [decide_eq_false this, Bool.and_false]
theorem fr2_neg {n d : Int} (h : d < 1) : fr2 [.int n, .int d] = false := by
  show (decide (1 ≤ d) && decide (Int.gcd n d = 1)) = false
  rw [decide_eq_false (by omega), Bool.false_and]
def spBadFrac (K : PySem.W.Frag) : Sp := fun vs H Q _ => ∃ s : Addr, vs = [.ref s] ∧ Sto K H s ∧ ∀ v H', Gd K H' v → Kp s H H' → Sto K H' s → Q v H'
abbrev sBadFrac : Stmt := topS 53
theorem scBadFrac : FnScope ["_law_store_here", "_law_value", "_law_more", "_law_bent", "_law_bad"] ["_law_store_here"] (defScope sBadFrac) := ⟨rfl, rfl, rfl, by decide +kernel, rfl, by decide +kernel, by decide +kernel⟩
theorem k_BadFrac (T : Bt K mg) (D : Dfn K mg "_law_bad_frac" sBadFrac ["_law_store_here"]) (d__law_take : Kn P w K mg base 2 "_law_take" ["_law_store_here", "_law_many"] (spTake K)) (d__law_frac : Kn P w K mg base 3 "_law_frac" ["_law_store_here"] (spDFrac K 10)) (d__law_pick : Kn P w K mg base 3 "_law_pick" ["_law_store_here", "_law_row"] (spPick K)) : Kn P w K mg base 4 "_law_bad_frac" ["_law_store_here"] (spBadFrac K) := by
  refine Kn.mk' D scBadFrac (fun vs H Q E h => ?_) (fun f cdv A outer s H vs Q E hr h => ?_)
  · obtain ⟨s, rfl, _⟩ := h
    rfl
  obtain ⟨s, rfl, hS, k⟩ := h
  refine ⟨_, (pss_cons (ps_if (pt_cmpR op_eq (pe_kn d__law_take hr (by rfl) (pa_cons (pv 0) (pa_cons pe_int pa_nil))) pe_int (nomark _)) (pss_cons (ps_set (i := 1) scBadFrac.nd rfl (.inl rfl) (pe_kn d__law_frac hr (by rfl) (pa_cons (pv 0) pa_nil)))
      (pss_cons (ps_set (i := 2) scBadFrac.nd rfl (.inl rfl) (pe_op op_add pe_int (pe_kn d__law_take hr (by rfl) (pa_cons (pv 0) (pa_cons pe_int pa_nil)))))
      (pss_cons (ps_set (i := 3) scBadFrac.nd rfl (.inl rfl) (pe_ls (pa_cons (pe_ls (pa_cons (pe_ix ix_any (pv 1) pe_int (fun _ _ => rfl)) (pa_cons (pe_ix ix_any (pv 1) pe_int (fun _ _ => rfl)) pa_nil))) (pa_cons (pe_tp (pa_cons (pe_op op_mulW (pe_ix ix_any (pv 1) pe_int (fun _ _ => rfl)) (pv 2)) (pa_cons (pe_op op_mulW (pe_ix ix_any (pv 1) pe_int (fun _ _ => rfl)) (pv 2)) pa_nil))) (pa_cons (pe_tp (pa_cons (pe_un un_neg (pe_ix ix_any (pv 1) pe_int (fun _ _ => rfl))) (pa_cons (pe_un un_neg (pe_ix ix_any (pv 1) pe_int (fun _ _ => rfl))) pa_nil))) pa_nil)))))
      (pss_one (ps_ret (pe_kn d__law_pick hr (by rfl) (pa_cons (pv 0) (pa_cons (pe_op op_cat (pv 3) (pe_ls (pa_cons (pe_tp (pa_cons (pe_ix ix_any (pv 1) pe_int (fun _ _ => rfl)) pa_nil)) (pa_cons (pe_tp (pa_cons (pe_ix ix_any (pv 1) pe_int (fun _ _ => rfl)) (pa_cons (pe_ix ix_any (pv 1) pe_int (fun _ _ => rfl)) (pa_cons pe_int pa_nil)))) (pa_cons (pe_tp (pa_cons (pv 1) (pa_cons (pv 1) pa_nil))) (pa_cons (pe_tp (pa_cons (pe_ix ix_any (pv 1) pe_int (fun _ _ => rfl)) (pa_cons pe_int pa_nil))) pa_nil)))))) pa_nil)))))))) pss_nil)
      (pss_cons (ps_set (i := 4) scBadFrac.nd rfl (.inl rfl) (pe_ls (pa_cons (pe_tp (pa_cons pe_int (pa_cons pe_int pa_nil))) (pa_cons (pe_tp (pa_cons pe_int (pa_cons pe_int pa_nil))) (pa_cons (pe_tp (pa_cons pe_int (pa_cons pe_int pa_nil))) (pa_cons (pe_tp (pa_cons pe_int (pa_cons pe_int pa_nil))) (pa_cons (pe_tp (pa_cons pe_int (pa_cons (pe_un un_neg pe_int) pa_nil))) (pa_cons (pe_tp (pa_cons pe_int (pa_cons (pe_un un_neg pe_int) pa_nil))) (pa_cons (pe_tp (pa_cons pe_bl (pa_cons pe_int pa_nil))) (pa_cons (pe_tp (pa_cons pe_bl (pa_cons pe_int pa_nil))) (pa_cons (pe_tp (pa_cons pe_int (pa_cons pe_bl pa_nil))) (pa_cons (pe_tp (pa_cons pe_bl (pa_cons pe_int pa_nil))) (pa_cons (pe_tp (pa_cons pe_int (pa_cons pe_non pa_nil))) pa_nil)))))))))))))
      (pss_cons (ps_set (i := 4) scBadFrac.nd rfl (.inl rfl) (pe_op op_cat (pv 4) (pe_ls (pa_cons (pe_tp (pa_cons pe_str (pa_cons pe_int pa_nil))) (pa_cons (pe_ls (pa_cons pe_int (pa_cons pe_int pa_nil))) (pa_cons (pe_tp pa_nil) (pa_cons (pe_tp (pa_cons pe_int pa_nil)) (pa_cons (pe_tp (pa_cons pe_int (pa_cons pe_int (pa_cons pe_int pa_nil)))) (pa_cons (pe_ls (pa_cons (pe_tp (pa_cons pe_int (pa_cons pe_int pa_nil))) pa_nil)) pa_nil)))))))))
      (pss_one (ps_ret (pe_kn d__law_pick hr (by rfl) (pa_cons (pv 0) (pa_cons (pe_op op_cat (pv 4) (pe_ls (pa_cons pe_int (pa_cons pe_int (pa_cons pe_bl (pa_cons pe_bl (pa_cons pe_non (pa_cons pe_str (pa_cons pe_str (pa_cons pe_dn pa_nil)))))))))) pa_nil)))))))), ?_⟩
  refine ⟨_, rfl, s, 3, rfl, hS, by omega, fun i H1 z0 z1 kp st => ⟨rfl, _, rfl, ite2 (fun h => ?_) (fun h => ?_)⟩⟩
  · refine ⟨_, rfl, s, rfl, st, fun a q H2 hq kp2 st2 => ⟨_, rfl, s, 3, rfl, st2, by omega, fun m H3 m0 m1 kp3 st3 => ⟨_, _, rfl, rfl, ?_⟩⟩⟩
    obtain ⟨ys2, hys2⟩ := st2.at
    have hq3 := hq.kp kp3 hys2
    simp only [cx_K, tNext, tSeq, tAsg, gName, L2.start, List.map_cons, List.map_nil, List.cons_append, List.nil_append, List.length_cons, List.length_nil, List.replicate, Nat.reduceAdd, Nat.reduceSub, List.set_cons_zero, List.set_cons_succ]
    have k10 : (2 + m).natAbs < 2 ^ 10 := by omega
    have ty3 : (tyN K H3 (.ref a)).isSome := by rw [tyN_ref, hq3.o]; rfl
    refine lsA (R := Gd K) (fun _ _ _ s h => Gd.same s h) (mkA_cons (R := Gd K) (fun _ _ _ s h => Gd.same s h) (mkA_lc [.int q.1, .int q.2] (fun H' s' Q' h' => by
        have o := ob_same s' hq3.o
        simp only [o, cx_K, decide_true, decide_false, reduceCtorEq, gTp, gCons, gNil, ca_0, ca_1, ca_2, ca_3, ca_4, ca_5, ca_6, ca_7, ca_8, ca_9, ca_10, ca_11, ca_12, ca_13, ca_14, ca_15, ca_16, ca_17, ca_18, ca_19, ca_20, ca_21, ca_22, ca_23, ca_24, ca_25, ca_26, ca_27, ca_28, ca_29, ca_30, not_true_eq_false, not_false_eq_true, Int.reduceEq, Nat.reduceEqDiff, Nat.reduceLeDiff, rGcd, V.ty.injEq, eq_self, List.not_mem_nil, beq_self_eq_true, HO.lst.injEq, HO.tup.injEq, tFor_eq, iRng1, iList, iTup, nat10, tSeq, rIxA, rSetA, rIsN, rIsT, tTp, tLs, itsO_tup, itsO_lst, tyO_tup, tyO_lst, tyO_dK, tyN_non, tyN_bl, tyN_int, tyN_str, tyN_ref, tyNs_lt, isB, upd_same, upd_upd, sizeLine_eq, List.mem_cons, String.reduceBEq, String.reduceEq, Bool.or_false, Bool.or_true, Bool.and_false, Bool.false_or, Bool.and_self, Bool.false_and, Bool.not_false, Bool.not_true, List.any_cons, List.any_nil, atI_0, setI_0, atI_1, setI_1, atI_2, setI_2, atI_3, setI_3, atI_4, setI_4, atI_5, setI_5, atI_6, setI_6, tAsg, gName, tOp, tUn, tVar, tC, tCons, L2.tNil, tRet, tIfS, tTest, tCB, tCall, rI, rI0, rU, tNext, tB, tAnd, tOr, tNot, tAndV, tOrV, tNotV, tDrop, tIf, tPar, gSub, rIxL, rIxT, rEq, rNe, rSetL, tBits,
    L2.start, List.map_cons, List.map_nil, List.cons_append, List.nil_append, List.append_nil, List.length_cons, List.length_nil, List.replicate, Nat.reduceAdd, Nat.reduceSub, Nat.zero_add, List.getElem?_cons_zero, List.getElem?_cons_succ, List.set_cons_zero, List.set_cons_succ,
    Option.some.injEq, exists_eq_left', exists_eq_left, V.int.injEq, V.bl.injEq, V.ref.injEq, V.str.injEq, List.cons.injEq, reduceCtorEq, and_true, true_and, false_and, and_false, exists_false, or_false, false_or, or_true, true_or, exists_const, CMul, CDiv, CPow, and_assoc, exists_and_left, exists_and_right, Int.reducePow, Int.reduceNeg, Int.reduceLT, Int.reduceLE, Nat.reducePow, Nat.reduceLT, Int.reduceToNat, gt_iff_lt, ge_iff_le, decide_eq_true_eq, Bool.not_eq_true', decide_eq_false_iff_not, scal, ↓reduceIte, Bool.false_eq_true]
        exact h') (by simp))
      (mkA_cons (R := Gd K) (fun _ _ _ s h => Gd.same s h) (mkA_tc [.int (q.1 * (2 + m)), .int (q.2 * (2 + m))] (fun H' s' Q' h' => by
        have o := ob_same s' hq3.o
        simp only [o, cx_K, decide_true, decide_false, reduceCtorEq, gTp, gCons, gNil, ca_0, ca_1, ca_2, ca_3, ca_4, ca_5, ca_6, ca_7, ca_8, ca_9, ca_10, ca_11, ca_12, ca_13, ca_14, ca_15, ca_16, ca_17, ca_18, ca_19, ca_20, ca_21, ca_22, ca_23, ca_24, ca_25, ca_26, ca_27, ca_28, ca_29, ca_30, not_true_eq_false, not_false_eq_true, Int.reduceEq, Nat.reduceEqDiff, Nat.reduceLeDiff, rGcd, V.ty.injEq, eq_self, List.not_mem_nil, beq_self_eq_true, HO.lst.injEq, HO.tup.injEq, tFor_eq, iRng1, iList, iTup, nat10, tSeq, rIxA, rSetA, rIsN, rIsT, tTp, tLs, itsO_tup, itsO_lst, tyO_tup, tyO_lst, tyO_dK, tyN_non, tyN_bl, tyN_int, tyN_str, tyN_ref, tyNs_lt, isB, upd_same, upd_upd, sizeLine_eq, List.mem_cons, String.reduceBEq, String.reduceEq, Bool.or_false, Bool.or_true, Bool.and_false, Bool.false_or, Bool.and_self, Bool.false_and, Bool.not_false, Bool.not_true, List.any_cons, List.any_nil, atI_0, setI_0, atI_1, setI_1, atI_2, setI_2, atI_3, setI_3, atI_4, setI_4, atI_5, setI_5, atI_6, setI_6, tAsg, gName, tOp, tUn, tVar, tC, tCons, L2.tNil, tRet, tIfS, tTest, tCB, tCall, rI, rI0, rU, tNext, tB, tAnd, tOr, tNot, tAndV, tOrV, tNotV, tDrop, tIf, tPar, gSub, rIxL, rIxT, rEq, rNe, rSetL, tBits,
    L2.start, List.map_cons, List.map_nil, List.cons_append, List.nil_append, List.append_nil, List.length_cons, List.length_nil, List.replicate, Nat.reduceAdd, Nat.reduceSub, Nat.zero_add, List.getElem?_cons_zero, List.getElem?_cons_succ, List.set_cons_zero, List.set_cons_succ,
    Option.some.injEq, exists_eq_left', exists_eq_left, V.int.injEq, V.bl.injEq, V.ref.injEq, V.str.injEq, List.cons.injEq, reduceCtorEq, and_true, true_and, false_and, and_false, exists_false, or_false, false_or, or_true, true_or, exists_const, CMul, CDiv, CPow, and_assoc, exists_and_left, exists_and_right, Int.reducePow, Int.reduceNeg, Int.reduceLT, Int.reduceLE, Nat.reducePow, Nat.reduceLT, Int.reduceToNat, gt_iff_lt, ge_iff_le, decide_eq_true_eq, Bool.not_eq_true', decide_eq_false_iff_not, scal, ↓reduceIte, Bool.false_eq_true]
        exact ⟨mulW hq3.sz.1 k10 (by omega), mulW hq3.sz.2 k10 (by omega), h'⟩) (by simp [tyN]) (fr2_mul (by omega)) (by simp))
      (mkA_cons (R := Gd K) (fun _ _ _ s h => Gd.same s h) (mkA_tc [.int (-q.1), .int (-q.2)] (fun H' s' Q' h' => by
        have o := ob_same s' hq3.o
        simp only [o, cx_K, decide_true, decide_false, reduceCtorEq, gTp, gCons, gNil, ca_0, ca_1, ca_2, ca_3, ca_4, ca_5, ca_6, ca_7, ca_8, ca_9, ca_10, ca_11, ca_12, ca_13, ca_14, ca_15, ca_16, ca_17, ca_18, ca_19, ca_20, ca_21, ca_22, ca_23, ca_24, ca_25, ca_26, ca_27, ca_28, ca_29, ca_30, not_true_eq_false, not_false_eq_true, Int.reduceEq, Nat.reduceEqDiff, Nat.reduceLeDiff, rGcd, V.ty.injEq, eq_self, List.not_mem_nil, beq_self_eq_true, HO.lst.injEq, HO.tup.injEq, tFor_eq, iRng1, iList, iTup, nat10, tSeq, rIxA, rSetA, rIsN, rIsT, tTp, tLs, itsO_tup, itsO_lst, tyO_tup, tyO_lst, tyO_dK, tyN_non, tyN_bl, tyN_int, tyN_str, tyN_ref, tyNs_lt, isB, upd_same, upd_upd, sizeLine_eq, List.mem_cons, String.reduceBEq, String.reduceEq, Bool.or_false, Bool.or_true, Bool.and_false, Bool.false_or, Bool.and_self, Bool.false_and, Bool.not_false, Bool.not_true, List.any_cons, List.any_nil, atI_0, setI_0, atI_1, setI_1, atI_2, setI_2, atI_3, setI_3, atI_4, setI_4, atI_5, setI_5, atI_6, setI_6, tAsg, gName, tOp, tUn, tVar, tC, tCons, L2.tNil, tRet, tIfS, tTest, tCB, tCall, rI, rI0, rU, tNext, tB, tAnd, tOr, tNot, tAndV, tOrV, tNotV, tDrop, tIf, tPar, gSub, rIxL, rIxT, rEq, rNe, rSetL, tBits,
    L2.start, List.map_cons, List.map_nil, List.cons_append, List.nil_append, List.append_nil, List.length_cons, List.length_nil, List.replicate, Nat.reduceAdd, Nat.reduceSub, Nat.zero_add, List.getElem?_cons_zero, List.getElem?_cons_succ, List.set_cons_zero, List.set_cons_succ,
    Option.some.injEq, exists_eq_left', exists_eq_left, V.int.injEq, V.bl.injEq, V.ref.injEq, V.str.injEq, List.cons.injEq, reduceCtorEq, and_true, true_and, false_and, and_false, exists_false, or_false, false_or, or_true, true_or, exists_const, CMul, CDiv, CPow, and_assoc, exists_and_left, exists_and_right, Int.reducePow, Int.reduceNeg, Int.reduceLT, Int.reduceLE, Nat.reducePow, Nat.reduceLT, Int.reduceToNat, gt_iff_lt, ge_iff_le, decide_eq_true_eq, Bool.not_eq_true', decide_eq_false_iff_not, scal, ↓reduceIte, Bool.false_eq_true]
        exact h') (by simp [tyN]) (fr2_neg (by have := hq3.nf.1; omega)) (by simp)) mkA_nil))) (by decide) fun vs p H4 s4 hp kp4 hn hv hl => ?_
    refine ⟨_, rfl, _, rfl, ?_⟩
    have hq4 := hq3.same s4
    refine lsA (R := Gd K) (fun _ _ _ s h => Gd.same s h) (mkA_cons (R := Gd K) (fun _ _ _ s h => Gd.same s h) (mkA_tc [.int q.1] (fun H' s' Q' h' => by
        have o := ob_same s' hq4.o
        simp only [o, cx_K, decide_true, decide_false, reduceCtorEq, gTp, gCons, gNil, ca_0, ca_1, ca_2, ca_3, ca_4, ca_5, ca_6, ca_7, ca_8, ca_9, ca_10, ca_11, ca_12, ca_13, ca_14, ca_15, ca_16, ca_17, ca_18, ca_19, ca_20, ca_21, ca_22, ca_23, ca_24, ca_25, ca_26, ca_27, ca_28, ca_29, ca_30, not_true_eq_false, not_false_eq_true, Int.reduceEq, Nat.reduceEqDiff, Nat.reduceLeDiff, rGcd, V.ty.injEq, eq_self, List.not_mem_nil, beq_self_eq_true, HO.lst.injEq, HO.tup.injEq, tFor_eq, iRng1, iList, iTup, nat10, tSeq, rIxA, rSetA, rIsN, rIsT, tTp, tLs, itsO_tup, itsO_lst, tyO_tup, tyO_lst, tyO_dK, tyN_non, tyN_bl, tyN_int, tyN_str, tyN_ref, tyNs_lt, isB, upd_same, upd_upd, sizeLine_eq, List.mem_cons, String.reduceBEq, String.reduceEq, Bool.or_false, Bool.or_true, Bool.and_false, Bool.false_or, Bool.and_self, Bool.false_and, Bool.not_false, Bool.not_true, List.any_cons, List.any_nil, atI_0, setI_0, atI_1, setI_1, atI_2, setI_2, atI_3, setI_3, atI_4, setI_4, atI_5, setI_5, atI_6, setI_6, tAsg, gName, tOp, tUn, tVar, tC, tCons, L2.tNil, tRet, tIfS, tTest, tCB, tCall, rI, rI0, rU, tNext, tB, tAnd, tOr, tNot, tAndV, tOrV, tNotV, tDrop, tIf, tPar, gSub, rIxL, rIxT, rEq, rNe, rSetL, tBits,
    L2.start, List.map_cons, List.map_nil, List.cons_append, List.nil_append, List.append_nil, List.length_cons, List.length_nil, List.replicate, Nat.reduceAdd, Nat.reduceSub, Nat.zero_add, List.getElem?_cons_zero, List.getElem?_cons_succ, List.set_cons_zero, List.set_cons_succ,
    Option.some.injEq, exists_eq_left', exists_eq_left, V.int.injEq, V.bl.injEq, V.ref.injEq, V.str.injEq, List.cons.injEq, reduceCtorEq, and_true, true_and, false_and, and_false, exists_false, or_false, false_or, or_true, true_or, exists_const, CMul, CDiv, CPow, and_assoc, exists_and_left, exists_and_right, Int.reducePow, Int.reduceNeg, Int.reduceLT, Int.reduceLE, Nat.reducePow, Nat.reduceLT, Int.reduceToNat, gt_iff_lt, ge_iff_le, decide_eq_true_eq, Bool.not_eq_true', decide_eq_false_iff_not, scal, ↓reduceIte, Bool.false_eq_true]
        exact h') (by simp [tyN]) rfl (by simp))
      (mkA_cons (R := Gd K) (fun _ _ _ s h => Gd.same s h) (mkA_tc [.int q.1, .int q.2, .int 1] (fun H' s' Q' h' => by
        have o := ob_same s' hq4.o
        simp only [o, cx_K, decide_true, decide_false, reduceCtorEq, gTp, gCons, gNil, ca_0, ca_1, ca_2, ca_3, ca_4, ca_5, ca_6, ca_7, ca_8, ca_9, ca_10, ca_11, ca_12, ca_13, ca_14, ca_15, ca_16, ca_17, ca_18, ca_19, ca_20, ca_21, ca_22, ca_23, ca_24, ca_25, ca_26, ca_27, ca_28, ca_29, ca_30, not_true_eq_false, not_false_eq_true, Int.reduceEq, Nat.reduceEqDiff, Nat.reduceLeDiff, rGcd, V.ty.injEq, eq_self, List.not_mem_nil, beq_self_eq_true, HO.lst.injEq, HO.tup.injEq, tFor_eq, iRng1, iList, iTup, nat10, tSeq, rIxA, rSetA, rIsN, rIsT, tTp, tLs, itsO_tup, itsO_lst, tyO_tup, tyO_lst, tyO_dK, tyN_non, tyN_bl, tyN_int, tyN_str, tyN_ref, tyNs_lt, isB, upd_same, upd_upd, sizeLine_eq, List.mem_cons, String.reduceBEq, String.reduceEq, Bool.or_false, Bool.or_true, Bool.and_false, Bool.false_or, Bool.and_self, Bool.false_and, Bool.not_false, Bool.not_true, List.any_cons, List.any_nil, atI_0, setI_0, atI_1, setI_1, atI_2, setI_2, atI_3, setI_3, atI_4, setI_4, atI_5, setI_5, atI_6, setI_6, tAsg, gName, tOp, tUn, tVar, tC, tCons, L2.tNil, tRet, tIfS, tTest, tCB, tCall, rI, rI0, rU, tNext, tB, tAnd, tOr, tNot, tAndV, tOrV, tNotV, tDrop, tIf, tPar, gSub, rIxL, rIxT, rEq, rNe, rSetL, tBits,
    L2.start, List.map_cons, List.map_nil, List.cons_append, List.nil_append, List.append_nil, List.length_cons, List.length_nil, List.replicate, Nat.reduceAdd, Nat.reduceSub, Nat.zero_add, List.getElem?_cons_zero, List.getElem?_cons_succ, List.set_cons_zero, List.set_cons_succ,
    Option.some.injEq, exists_eq_left', exists_eq_left, V.int.injEq, V.bl.injEq, V.ref.injEq, V.str.injEq, List.cons.injEq, reduceCtorEq, and_true, true_and, false_and, and_false, exists_false, or_false, false_or, or_true, true_or, exists_const, CMul, CDiv, CPow, and_assoc, exists_and_left, exists_and_right, Int.reducePow, Int.reduceNeg, Int.reduceLT, Int.reduceLE, Nat.reducePow, Nat.reduceLT, Int.reduceToNat, gt_iff_lt, ge_iff_le, decide_eq_true_eq, Bool.not_eq_true', decide_eq_false_iff_not, scal, ↓reduceIte, Bool.false_eq_true]
        exact h') (by simp [tyN]) rfl (by simp))
      (mkA_cons (R := Gd K) (fun _ _ _ s h => Gd.same s h) (mkA_tc [.ref a, .ref a] (fun H' s' Q' h' => ⟨_, rfl, _, rfl, h'⟩) (by
        have := tyS_same s4 ty3
        simpa using this) rfl (by simp))
      (mkA_cons (R := Gd K) (fun _ _ _ s h => Gd.same s h) (mkA_tc [.int q.1, .int 0] (fun H' s' Q' h' => by
        have o := ob_same s' hq4.o
        simp only [o, cx_K, decide_true, decide_false, reduceCtorEq, gTp, gCons, gNil, ca_0, ca_1, ca_2, ca_3, ca_4, ca_5, ca_6, ca_7, ca_8, ca_9, ca_10, ca_11, ca_12, ca_13, ca_14, ca_15, ca_16, ca_17, ca_18, ca_19, ca_20, ca_21, ca_22, ca_23, ca_24, ca_25, ca_26, ca_27, ca_28, ca_29, ca_30, not_true_eq_false, not_false_eq_true, Int.reduceEq, Nat.reduceEqDiff, Nat.reduceLeDiff, rGcd, V.ty.injEq, eq_self, List.not_mem_nil, beq_self_eq_true, HO.lst.injEq, HO.tup.injEq, tFor_eq, iRng1, iList, iTup, nat10, tSeq, rIxA, rSetA, rIsN, rIsT, tTp, tLs, itsO_tup, itsO_lst, tyO_tup, tyO_lst, tyO_dK, tyN_non, tyN_bl, tyN_int, tyN_str, tyN_ref, tyNs_lt, isB, upd_same, upd_upd, sizeLine_eq, List.mem_cons, String.reduceBEq, String.reduceEq, Bool.or_false, Bool.or_true, Bool.and_false, Bool.false_or, Bool.and_self, Bool.false_and, Bool.not_false, Bool.not_true, List.any_cons, List.any_nil, atI_0, setI_0, atI_1, setI_1, atI_2, setI_2, atI_3, setI_3, atI_4, setI_4, atI_5, setI_5, atI_6, setI_6, tAsg, gName, tOp, tUn, tVar, tC, tCons, L2.tNil, tRet, tIfS, tTest, tCB, tCall, rI, rI0, rU, tNext, tB, tAnd, tOr, tNot, tAndV, tOrV, tNotV, tDrop, tIf, tPar, gSub, rIxL, rIxT, rEq, rNe, rSetL, tBits,
    L2.start, List.map_cons, List.map_nil, List.cons_append, List.nil_append, List.append_nil, List.length_cons, List.length_nil, List.replicate, Nat.reduceAdd, Nat.reduceSub, Nat.zero_add, List.getElem?_cons_zero, List.getElem?_cons_succ, List.set_cons_zero, List.set_cons_succ,
    Option.some.injEq, exists_eq_left', exists_eq_left, V.int.injEq, V.bl.injEq, V.ref.injEq, V.str.injEq, List.cons.injEq, reduceCtorEq, and_true, true_and, false_and, and_false, exists_false, or_false, false_or, or_true, true_or, exists_const, CMul, CDiv, CPow, and_assoc, exists_and_left, exists_and_right, Int.reducePow, Int.reduceNeg, Int.reduceLT, Int.reduceLE, Nat.reducePow, Nat.reduceLT, Int.reduceToNat, gt_iff_lt, ge_iff_le, decide_eq_true_eq, Bool.not_eq_true', decide_eq_false_iff_not, scal, ↓reduceIte, Bool.false_eq_true]
        exact h') (by simp [tyN]) (fr2_neg (by omega)) (by simp)) mkA_nil)))) (by decide) fun ws p2 H5 s5 hp2 kp5 hn5 hv5 hl5 => ?_
    refine ⟨p, p2, vs, ws, rfl, rfl, s5 _ _ hl, hl5, by rw [hn, hn5, sizeLine_eq]; omega, fun p3 h3 => ?_⟩
    have s6 : Same H3 (upd H5 p3 (.lst (vs ++ ws))) := s4.trans (s5.trans (Same.new h3 _))
    have st6 := st3.same s6
    obtain ⟨ys, hys⟩ := (st3.same (s4.trans s5)).at
    refine ⟨s, p3, vs ++ ws, rfl, st6, upd_same, ne_of_none hys h3, by rw [List.length_append, hn, hn5]; omega, by rw [List.length_append, hn, hn5]; omega, fun v H' hm kp' st' => k v H' (Gd.kp kp' st' ?_) (kp.trans (kp2.trans (kp3.trans ((Kp.same s6).trans kp')))) st'⟩
    rw [List.mem_append] at hm
    rcases hm with hm | hm
    · exact (hv v hm).same (s5.trans (Same.new h3 _))
    · exact (hv5 v hm).same (Same.new h3 _)
  · simp only [cx_K, tNext, tSeq, tAsg, gName]
    refine lsX (R := Gd K) (fun _ _ _ s h => Gd.same s h) (mkL_cons (R := Gd K) (fun _ _ _ s h => Gd.same s h) (mk_tc (K := K) [.int (2), .int (4)] (fun σ H Q h => h) rfl rfl) (mkL_cons (R := Gd K) (fun _ _ _ s h => Gd.same s h) (mk_tc (K := K) [.int (0), .int (2)] (fun σ H Q h => h) rfl rfl) (mkL_cons (R := Gd K) (fun _ _ _ s h => Gd.same s h) (mk_tc (K := K) [.int (0), .int (0)] (fun σ H Q h => h) rfl rfl) (mkL_cons (R := Gd K) (fun _ _ _ s h => Gd.same s h) (mk_tc (K := K) [.int (1), .int (0)] (fun σ H Q h => h) rfl rfl) (mkL_cons (R := Gd K) (fun _ _ _ s h => Gd.same s h) (mk_tc (K := K) [.int (1), .int (-2)] (fun σ H Q h => ⟨2, rfl, h⟩) rfl rfl) (mkL_cons (R := Gd K) (fun _ _ _ s h => Gd.same s h) (mk_tc (K := K) [.int (0), .int (-1)] (fun σ H Q h => ⟨1, rfl, h⟩) rfl rfl) (mkL_cons (R := Gd K) (fun _ _ _ s h => Gd.same s h) (mk_tc (K := K) [.bl true, .int (1)] (fun σ H Q h => h) rfl rfl) (mkL_cons (R := Gd K) (fun _ _ _ s h => Gd.same s h) (mk_tc (K := K) [.bl false, .int (1)] (fun σ H Q h => h) rfl rfl) (mkL_cons (R := Gd K) (fun _ _ _ s h => Gd.same s h) (mk_tc (K := K) [.int (1), .bl true] (fun σ H Q h => h) rfl rfl) (mkL_cons (R := Gd K) (fun _ _ _ s h => Gd.same s h) (mk_tc (K := K) [.bl true, .int (2)] (fun σ H Q h => h) rfl rfl) (mkL_cons (R := Gd K) (fun _ _ _ s h => Gd.same s h) (mk_tc (K := K) [.int (1), .non] (fun σ H Q h => h) rfl rfl) mkL_nil))))))))))) (by decide) fun vs p H2 s2 hp kp2 hn hv hl => ?_
    simp only [tOp, tVar, L2.start, List.map_cons, List.map_nil, List.cons_append, List.nil_append, List.length_cons, List.length_nil, List.replicate, Nat.reduceAdd, Nat.reduceSub, List.set_cons_zero, List.set_cons_succ, List.getElem?_cons_zero, List.getElem?_cons_succ, Option.some.injEq, exists_eq_left']
    refine lsX (R := Gd K) (fun _ _ _ s h => Gd.same s h) (mkL_cons (R := Gd K) (fun _ _ _ s h => Gd.same s h) (mk_tc (K := K) [.str "1", .int (2)] (fun σ H Q h => h) rfl rfl) (mkL_cons (R := Gd K) (fun _ _ _ s h => Gd.same s h) (mk_ls (K := K) (mkL_cons (R := fun _ _ => True) (fun _ _ _ _ _ => True.intro) (mk_any (mk_c (K := K) rfl)) (mkL_cons (R := fun _ _ => True) (fun _ _ _ _ _ => True.intro) (mk_any (mk_c (K := K) rfl)) mkL_nil))) (mkL_cons (R := Gd K) (fun _ _ _ s h => Gd.same s h) (mk_tc (K := K) [] (fun σ H Q h => h) rfl rfl) (mkL_cons (R := Gd K) (fun _ _ _ s h => Gd.same s h) (mk_tc (K := K) [.int (1)] (fun σ H Q h => h) rfl rfl) (mkL_cons (R := Gd K) (fun _ _ _ s h => Gd.same s h) (mk_tc (K := K) [.int (1), .int (2), .int (1)] (fun σ H Q h => h) rfl rfl) (mkL_cons (R := Gd K) (fun _ _ _ s h => Gd.same s h) (mk_ls (K := K) (mkL_cons (R := fun _ _ => True) (fun _ _ _ _ _ => True.intro) (mk_tup (mkL_cons (R := fun _ _ => True) (fun _ _ _ _ _ => True.intro) (mk_any (mk_c (K := K) rfl)) (mkL_cons (R := fun _ _ => True) (fun _ _ _ _ _ => True.intro) (mk_any (mk_c (K := K) rfl)) mkL_nil))) mkL_nil)) mkL_nil)))))) (by decide) fun ws p' H3 s3 hp' kp3 hn' hv' hl' => ?_
    refine ⟨p, p', vs, ws, rfl, rfl, s3 _ _ hl, hl', by rw [hn, hn', sizeLine_eq]; omega, fun p3 h3 => ⟨_, rfl, _, rfl, ?_⟩⟩
    refine lsX (R := Gd K) (fun _ _ _ s h => Gd.same s h) (mkL_cons (R := Gd K) (fun _ _ _ s h => Gd.same s h) (mk_c (K := K) rfl) (mkL_cons (R := Gd K) (fun _ _ _ s h => Gd.same s h) (mk_c (K := K) rfl) (mkL_cons (R := Gd K) (fun _ _ _ s h => Gd.same s h) (mk_c (K := K) rfl) (mkL_cons (R := Gd K) (fun _ _ _ s h => Gd.same s h) (mk_c (K := K) rfl) (mkL_cons (R := Gd K) (fun _ _ _ s h => Gd.same s h) (mk_c (K := K) rfl) (mkL_cons (R := Gd K) (fun _ _ _ s h => Gd.same s h) (mk_c (K := K) rfl) (mkL_cons (R := Gd K) (fun _ _ _ s h => Gd.same s h) (mk_c (K := K) rfl) (mkL_cons (R := Gd K) (fun _ _ _ s h => Gd.same s h) (mk_dn (K := K)) mkL_nil)))))))) (by decide) fun us p4 H4 s4 hp4 kp4 hn4 hv4 hl4 => ?_
    refine ⟨p3, p4, vs ++ ws, us, rfl, rfl, s4 _ _ upd_same, hl4, by rw [List.length_append, hn, hn', hn4, sizeLine_eq]; omega, fun p5 h5 => ?_⟩
    have s5 : Same H1 (upd H4 p5 (.lst (vs ++ ws ++ us))) := s2.trans (s3.trans ((Same.new h3 _).trans (s4.trans (Same.new h5 _))))
    have st5 := st.same s5
    obtain ⟨ys, hys⟩ := (st.same (s2.trans (s3.trans ((Same.new h3 _).trans s4)))).at
    refine ⟨s, p5, vs ++ ws ++ us, rfl, st5, upd_same, ne_of_none hys h5, by rw [List.length_append, List.length_append, hn, hn', hn4]; omega, by rw [List.length_append, List.length_append, hn, hn', hn4]; omega, fun v H' hm kp' st' => k v H' (Gd.kp kp' st' ?_) (kp.trans ((Kp.same s5).trans kp')) st'⟩
    rw [List.mem_append, List.mem_append] at hm
    rcases hm with (hm | hm) | hm
    · exact (hv v hm).same (s3.trans ((Same.new h3 _).trans (s4.trans (Same.new h5 _))))
    · exact (hv' v hm).same ((Same.new h3 _).trans (s4.trans (Same.new h5 _)))
    · exact (hv4 v hm).same (Same.new h5 _)
end
end My

namespace My
open PySem PySem.Spec PyProof.Rows L2
section
variable {P : Program} {w : World} {K : PySem.W.Frag} {mg : Str → Option Value} {base : Heap}
theorem itsO_of {H : Hp} {a : Addr} {xs : List V} (h : ob K H a = some (.tup xs)) : itsO (ob K H a) = some xs := by rw [h]; rfl
theorem itsO_ofL {H : Hp} {a : Addr} {xs : List V} (h : ob K H a = some (.lst xs)) : itsO (ob K H a) = some xs := by rw [h]; rfl
theorem sz2 {n : Nat} (h : n ≤ 100) : n ≤ sizeLine := by rw [sizeLine_eq]; omega
theorem if_no {c : Bool} {A B : Prop} (e : c = false) (h : B) : if c = true then A else B := by
  rw [e, if_neg Bool.noConfusion]
  exact h
theorem if_yes {c : Bool} {A B : Prop} (e : c = true) (h : A) : if c = true then A else B := by
  rw [e, if_pos rfl]
  exact h
/-! ### data of some depth, and copies of it; a dict takes two levels -/
/-- how far a pair lies off the value, the value's and the pair's lower numbers aside -/
def dst (v : Qt) (p : Qt) : Int := ((p.1 * v.2 - v.1 * p.2).natAbs : Int)
/-- strictly nearer, or as near with the lesser sum -/
def nr (v : Qt) (p q : Qt) : Bool := decide (dst v p * q.2 < dst v q * p.2) || (decide (dst v p * q.2 = dst v q * p.2) && decide (p.1 + p.2 < q.1 + q.2))
def PairIn (lo hi : Int) (p : Qt) : Prop := (lo ≤ p.1 ∧ p.1 ≤ hi) ∧ lo ≤ p.2 ∧ p.2 ≤ hi
theorem dst_nn (v p : Qt) : 0 ≤ dst v p := Int.natCast_nonneg _
theorem lt_tr {x y z a b c : Int} (ha : 0 < a) (hb : 0 < b) (hc : 0 < c) (h1 : x * b ≤ y * a) (h2 : y * c ≤ z * b) : x * c ≤ z * a := by
  have e1 : (x * b) * c ≤ (y * a) * c := Int.mul_le_mul_of_nonneg_right h1 (by omega)
  have e2 : (y * c) * a ≤ (z * b) * a := Int.mul_le_mul_of_nonneg_right h2 (by omega)
  have e3 : (x * c) * b ≤ (z * a) * b := by
    have a1 : (x * c) * b = (x * b) * c := by grind
    have a2 : (y * a) * c = (y * c) * a := by grind
    have a3 : (z * b) * a = (z * a) * b := by grind
    omega
  exact Int.le_of_mul_le_mul_right e3 hb
/-- not farther -/
def le2 (v : Qt) (p q : Qt) : Prop := nr v q p = false
theorem le2_iff {v p q : Qt} : le2 v p q ↔ dst v p * q.2 ≤ dst v q * p.2 ∧ (dst v p * q.2 = dst v q * p.2 → p.1 + p.2 ≤ q.1 + q.2) := by
  unfold le2 nr
  by_cases h1 : dst v q * p.2 < dst v p * q.2
  · simp only [h1, decide_true, Bool.true_or, Bool.true_eq_false, false_iff]
    omega
  · rw [decide_eq_false h1, Bool.false_or]
    by_cases h2 : dst v q * p.2 = dst v p * q.2
    · rw [decide_eq_true h2, Bool.true_and]
      by_cases h3 : q.1 + q.2 < p.1 + p.2
      · rw [decide_eq_true h3]
        constructor
        · intro z; cases z
        · intro z; have := z.2 h2.symm; omega
      · rw [decide_eq_false h3]
        exact ⟨fun _ => ⟨by omega, fun _ => by omega⟩, fun _ => rfl⟩
    · rw [decide_eq_false h2, Bool.false_and]
      exact ⟨fun _ => ⟨by omega, fun z => absurd z.symm h2⟩, fun _ => rfl⟩
theorem le2_refl (v p : Qt) : le2 v p p := le2_iff.mpr ⟨Int.le_refl _, fun _ => Int.le_refl _⟩
theorem le2_tr {v p q r : Qt} (hp : 0 < p.2) (hq : 0 < q.2) (hr : 0 < r.2) (h1 : le2 v p q) (h2 : le2 v q r) : le2 v p r := by
  obtain ⟨a1, a2⟩ := le2_iff.mp h1
  obtain ⟨b1, b2⟩ := le2_iff.mp h2
  refine le2_iff.mpr ⟨lt_tr hp hq hr a1 b1, fun e => ?_⟩
  have c1 : dst v q * r.2 = dst v r * q.2 := by
    have h := lt_tr (x := dst v r) (y := dst v p) (z := dst v q) (a := r.2) (b := p.2) (c := q.2) hr hp hq (by omega) a1
    omega
  have c2 : dst v p * q.2 = dst v q * p.2 := by
    have h := lt_tr (x := dst v q) (y := dst v r) (z := dst v p) (a := q.2) (b := r.2) (c := p.2) hq hr hp b1 (by omega)
    omega
  have := a2 c2
  have := b2 c1
  omega
theorem le2_total (v p q : Qt) : le2 v p q ∨ le2 v q p := by
  rw [le2_iff, le2_iff]
  rcases Int.lt_trichotomy (dst v p * q.2) (dst v q * p.2) with h | h | h
  · exact .inl ⟨by omega, fun z => by omega⟩
  · rcases Int.le_total (p.1 + p.2) (q.1 + q.2) with k | k
    · exact .inl ⟨by omega, fun _ => k⟩
    · exact .inr ⟨by omega, fun _ => k⟩
  · exact .inr ⟨by omega, fun z => by omega⟩
def stp (v : Qt) (b : Qt) (c : Qt) : Qt := if nr v c b = true then c else b
theorem fold_le {v : Qt} : ∀ {l : List Qt} {b : Qt}, 0 < b.2 → (∀ c ∈ l, 0 < c.2) → (l.foldl (stp v) b = b ∨ l.foldl (stp v) b ∈ l) ∧ le2 v (l.foldl (stp v) b) b ∧ ∀ c ∈ l, le2 v (l.foldl (stp v) b) c
  | [], b, _, _ => ⟨.inl rfl, le2_refl v b, fun _ h => nomatch h⟩
  | c :: l, b, hb, hl => by
    have hc := hl c List.mem_cons_self
    have hl' : ∀ c ∈ l, 0 < c.2 := fun d hd => hl d (List.mem_cons_of_mem _ hd)
    rw [List.foldl_cons]
    by_cases h : nr v c b = true
    · have e : stp v b c = c := if_pos h
      have hcb : le2 v c b := by
        rcases le2_total v c b with z | z
        · exact z
        · exact absurd (show nr v c b = false from z) (by rw [h]; decide)
      obtain ⟨m, x, y⟩ := fold_le (v := v) (l := l) (b := stp v b c) (by rw [e]; exact hc) hl'
      rw [e] at m x y ⊢
      have hf : 0 < (l.foldl (stp v) c).2 := by
        rcases m with m | m
        · rw [m]; exact hc
        · exact hl' _ m
      refine ⟨.inr ?_, le2_tr hf hc hb x hcb, fun d hd => ?_⟩
      · rcases m with m | m
        · rw [m]; exact List.mem_cons_self
        · exact List.mem_cons_of_mem _ m
      · rcases List.mem_cons.mp hd with rfl | hd
        · exact x
        · exact y d hd
    · have e : stp v b c = b := if_neg h
      have hbc : le2 v b c := by
        show nr v c b = false
        cases hz : nr v c b
        · rfl
        · exact absurd hz h
      obtain ⟨m, x, y⟩ := fold_le (v := v) (l := l) (b := stp v b c) (by rw [e]; exact hb) hl'
      rw [e] at m x y ⊢
      have hf : 0 < (l.foldl (stp v) b).2 := by
        rcases m with m | m
        · rw [m]; exact hb
        · exact hl' _ m
      refine ⟨m.imp id (List.mem_cons_of_mem _), x, fun d hd => ?_⟩
      rcases List.mem_cons.mp hd with rfl | hd
      · exact le2_tr hf hb hc x hbc
      · exact y d hd
/-- the drivers that are tried beside one driven wheel -/
def clp (lo hi x : Int) : Int := max lo (min x hi)
def cnd (v : Qt) (lo hi d : Int) : List Qt := [(clp lo hi (v.1 * d / v.2), d), (clp lo hi (v.1 * d / v.2 + 1), d)]
def cndU (v : Qt) (lo hi : Int) (n : Nat) : List Qt := ((List.range n).map fun (i : Nat) => cnd v lo hi (lo + i)).flatten
theorem cndU_s (v : Qt) (lo hi : Int) (n : Nat) : cndU v lo hi (n + 1) = cndU v lo hi n ++ cnd v lo hi (lo + n) := by
  unfold cndU
  rw [List.range_succ, List.map_append, List.flatten_append]
  simp
theorem cnd_mem {v : Qt} {lo hi : Int} {n : Nat} {c : Qt} (h : c ∈ cndU v lo hi n) : ∃ i : Nat, i < n ∧ c ∈ cnd v lo hi (lo + i) := by
  unfold cndU at h
  obtain ⟨l, hl, hc⟩ := List.mem_flatten.mp h
  obtain ⟨i, hi, rfl⟩ := List.mem_map.mp hl
  exact ⟨i, List.mem_range.mp hi, hc⟩
theorem mem_cnd {v : Qt} {lo hi : Int} {n i : Nat} {c : Qt} (hi' : i < n) (h : c ∈ cnd v lo hi (lo + i)) : c ∈ cndU v lo hi n := by
  unfold cndU
  exact List.mem_flatten.mpr ⟨_, List.mem_map.mpr ⟨i, List.mem_range.mpr hi', rfl⟩, h⟩
theorem clp_in {lo hi x : Int} (h : lo ≤ hi) : lo ≤ clp lo hi x ∧ clp lo hi x ≤ hi := by
  unfold clp
  omega
/-- beside any pair stands a tried one that is it, or nearer -/
theorem cnd_best {v : Qt} {lo hi a d : Int} (hv : 0 < v.2) (hd : 0 < d) (h : lo ≤ hi) (a0 : lo ≤ a) (a1 : a ≤ hi) : ∃ c ∈ cnd v lo hi d, c = (a, d) ∨ dst v c < dst v (a, d) := by
  have e := Int.mul_ediv_add_emod (v.1 * d) v.2
  have m0 := Int.emod_nonneg (v.1 * d) (show v.2 ≠ 0 by omega)
  have m1 := Int.emod_lt_of_pos (v.1 * d) hv
  generalize hx : v.1 * d / v.2 = x at e
  generalize v.1 * d % v.2 = r at e m0 m1
  have val : ∀ b : Int, dst v (b, d) = (((b - x) * v.2 - r).natAbs : Int) := fun b => by
    unfold dst
    have : b * v.2 - v.1 * d = (b - x) * v.2 - r := by
      rw [← e, Int.sub_mul, Int.mul_comm v.2 x]
      omega
    show (((b * v.2 - v.1 * d).natAbs : Nat) : Int) = _
    rw [this]
  rcases Int.lt_or_le x a with k | k
  · refine ⟨(clp lo hi (x + 1), d), by unfold cnd; rw [hx]; simp, ?_⟩
    have c0 : clp lo hi (x + 1) ≤ a := by unfold clp; omega
    have c1 : x + 1 ≤ clp lo hi (x + 1) := by unfold clp; omega
    by_cases q : clp lo hi (x + 1) = a
    · exact .inl (by rw [q])
    · refine .inr ?_
      rw [val, val]
      have u1 : 1 * v.2 ≤ (clp lo hi (x + 1) - x) * v.2 := Int.mul_le_mul_of_nonneg_right (by omega) (by omega)
      have u2 : (clp lo hi (x + 1) - x) * v.2 < (a - x) * v.2 := Int.mul_lt_mul_of_pos_right (by omega) hv
      omega
  · refine ⟨(clp lo hi x, d), by unfold cnd; rw [hx]; simp, ?_⟩
    have c0 : a ≤ clp lo hi x := by unfold clp; omega
    have c1 : clp lo hi x ≤ x := by unfold clp; omega
    by_cases q : clp lo hi x = a
    · exact .inl (by rw [q])
    · refine .inr ?_
      rw [val, val]
      have u1 : (clp lo hi x - x) * v.2 ≤ 0 * v.2 := Int.mul_le_mul_of_nonneg_right (by omega) (by omega)
      have u2 : (a - x) * v.2 < (clp lo hi x - x) * v.2 := Int.mul_lt_mul_of_pos_right (by omega) hv
      omega
/-- the best pair of all -/
def Opt (v : Qt) (lo hi : Int) (t : Qt) : Prop := PairIn lo hi t ∧ ∀ p, PairIn lo hi p → le2 v t p
theorem opt_of {v : Qt} {lo hi : Int} {n : Nat} {t : Qt} (hv : 0 < v.2) (l0 : 1 ≤ lo) (h : lo ≤ hi) (hn : hi < lo + n) (ht : PairIn lo hi t) (best : ∀ c ∈ cndU v lo hi n, le2 v t c) : Opt v lo hi t := by
  refine ⟨ht, fun p hp => ?_⟩
  obtain ⟨⟨a0, a1⟩, d0, d1⟩ := hp
  obtain ⟨c, hc, k⟩ := cnd_best (v := v) (lo := lo) (hi := hi) (a := p.1) (d := p.2) hv (by omega) h a0 a1
  have hi' : ((p.2 - lo).toNat : Int) = p.2 - lo := by omega
  have hm : c ∈ cndU v lo hi n := mem_cnd (i := (p.2 - lo).toNat) (by omega) (by rw [hi', show lo + (p.2 - lo) = p.2 by omega]; exact hc)
  have b := best c hm
  have c2 : c.2 = p.2 := by
    unfold cnd at hc
    simp only [List.mem_cons, List.not_mem_nil, or_false] at hc
    rcases hc with rfl | rfl <;> rfl
  rcases k with k | k
  · rw [k] at b
    exact b
  · refine le2_tr (q := c) (by have := ht.2.1; omega) (by omega) (by omega) b (le2_iff.mpr ?_)
    have k' : dst v c < dst v p := k
    rw [c2]
    have := Int.mul_lt_mul_of_pos_right k' (show 0 < p.2 by omega)
    exact ⟨by omega, fun z => by omega⟩
theorem opt_unique {v : Qt} {lo hi : Int} {t p : Qt} (hv : 0 < v.2) (hv1 : 0 < v.1) (l0 : 1 ≤ lo) (o : Opt v lo hi t) (hp : PairIn lo hi p) (h : le2 v p t) : p = t := by
  obtain ⟨ht, best⟩ := o
  obtain ⟨a1, a2⟩ := le2_iff.mp h
  obtain ⟨b1, b2⟩ := le2_iff.mp (best p hp)
  have e : dst v p * t.2 = dst v t * p.2 := by omega
  have s := a2 e
  have s' := b2 e.symm
  have p2 : 0 < p.2 := by have := hp.2.1; omega
  have t2 : 0 < t.2 := by have := ht.2.1; omega
  have p1 : 0 < p.1 := by have := hp.1.1; omega
  have t1 : 0 < t.1 := by have := ht.1.1; omega
  by_cases q : p.2 = t.2
  · exact Prod.ext (by omega) q
  exfalso
  -- the two lie on two sides
  have same : p.1 * t.2 ≠ t.1 * p.2 := fun z => q (by
    have z1 : (p.1 + p.2) * t.2 = (t.1 + t.2) * p.2 := by
      rw [Int.add_mul, Int.add_mul, z, Int.mul_comm p.2 t.2]
    rw [show t.1 + t.2 = p.1 + p.2 by omega] at z1
    exact (Int.eq_of_mul_eq_mul_left (show p.1 + p.2 ≠ 0 by omega) z1).symm)
  have opp : (p.1 * v.2 - v.1 * p.2) * t.2 = -((t.1 * v.2 - v.1 * t.2) * p.2) := by
    have e' : (((p.1 * v.2 - v.1 * p.2) * t.2).natAbs : Int) = (((t.1 * v.2 - v.1 * t.2) * p.2).natAbs : Int) := by
      rw [Int.natAbs_mul, Int.natAbs_mul, Int.natCast_mul, Int.natCast_mul, Int.natAbs_of_nonneg (show 0 ≤ t.2 by omega), Int.natAbs_of_nonneg (show 0 ≤ p.2 by omega)]
      exact e
    have ne : (p.1 * v.2 - v.1 * p.2) * t.2 ≠ (t.1 * v.2 - v.1 * t.2) * p.2 := fun z => same (by
      have z2 : v.2 * (p.1 * t.2) = v.2 * (t.1 * p.2) := by grind
      exact Int.eq_of_mul_eq_mul_left (by omega) z2)
    omega
  rcases Int.lt_or_gt_of_ne q with k | k
  · -- p stands lower, with the greater driver
    have hc : PairIn lo hi (p.1, t.2) := ⟨hp.1, ht.2⟩
    obtain ⟨c1, _⟩ := le2_iff.mp (best _ hc)
    have c2 : dst v t ≤ dst v (p.1, t.2) := Int.le_of_mul_le_mul_right c1 t2
    unfold dst at c2
    have g1 : t.1 * v.2 < p.1 * v.2 := Int.mul_lt_mul_of_pos_right (by omega) hv
    have g2 : (p.1 * v.2 - v.1 * t.2) * p.2 < (p.1 * v.2 - v.1 * p.2) * t.2 := by
      have w1 : (p.1 * v.2) * p.2 < (p.1 * v.2) * t.2 := Int.mul_lt_mul_of_pos_left k (Int.mul_pos p1 hv)
      have w2 : (p.1 * v.2 - v.1 * t.2) * p.2 = (p.1 * v.2) * p.2 - v.1 * t.2 * p.2 := Int.sub_mul ..
      have w3 : (p.1 * v.2 - v.1 * p.2) * t.2 = (p.1 * v.2) * t.2 - v.1 * t.2 * p.2 := by grind
      omega
    have g3 : (p.1 * v.2 - v.1 * t.2) * p.2 < (-(t.1 * v.2 - v.1 * t.2)) * p.2 := by
      rw [Int.neg_mul, ← opp]
      exact g2
    have g4 : p.1 * v.2 - v.1 * t.2 < -(t.1 * v.2 - v.1 * t.2) := Int.lt_of_mul_lt_mul_right g3 (by omega)
    simp only at c2
    omega
  · have hc : PairIn lo hi (t.1, p.2) := ⟨ht.1, hp.2⟩
    obtain ⟨c1, _⟩ := le2_iff.mp (best _ hc)
    unfold dst at c1
    simp only at c1
    have g1 : (p.1 * v.2 - v.1 * p.2) * t.2 < (t.1 * v.2 - v.1 * p.2) * t.2 := Int.mul_lt_mul_of_pos_right (by have := Int.mul_lt_mul_of_pos_right (show p.1 < t.1 by omega) hv; omega) t2
    have g2 : (t.1 * v.2 - v.1 * p.2) * t.2 < (t.1 * v.2 - v.1 * t.2) * p.2 := by
      have w1 : (t.1 * v.2) * t.2 < (t.1 * v.2) * p.2 := Int.mul_lt_mul_of_pos_left k (Int.mul_pos t1 hv)
      have w2 : (t.1 * v.2 - v.1 * p.2) * t.2 = (t.1 * v.2) * t.2 - v.1 * t.2 * p.2 := by grind
      have w3 : (t.1 * v.2 - v.1 * t.2) * p.2 = (t.1 * v.2) * p.2 - v.1 * t.2 * p.2 := Int.sub_mul ..
      omega
    have n1 : (((t.1 * v.2 - v.1 * t.2) * p.2).natAbs : Int) = ((t.1 * v.2 - v.1 * t.2).natAbs : Int) * p.2 := by rw [Int.natAbs_mul, Int.natCast_mul, Int.natAbs_of_nonneg (show 0 ≤ p.2 by omega)]
    have n2 : (((t.1 * v.2 - v.1 * p.2) * t.2).natAbs : Int) = ((t.1 * v.2 - v.1 * p.2).natAbs : Int) * t.2 := by rw [Int.natAbs_mul, Int.natCast_mul, Int.natAbs_of_nonneg (show 0 ≤ t.2 by omega)]
    rw [← n1, ← n2] at c1
    omega
/-- the fold that begins with nothing -/
def stpO (v : Qt) : Option Qt → Qt → Option Qt
  | none, c => some c
  | some b, c => some (stp v b c)
theorem foldO {v : Qt} : ∀ (l : List Qt) (b : Qt), l.foldl (stpO v) (some b) = some (l.foldl (stp v) b)
  | [], _ => rfl
  | c :: l, b => foldO l (stp v b c)
theorem cnd_in {v : Qt} {lo hi d : Int} {c : Qt} (h : lo ≤ hi) (d0 : lo ≤ d) (d1 : d ≤ hi) (hc : c ∈ cnd v lo hi d) : PairIn lo hi c := by
  unfold cnd at hc
  simp only [List.mem_cons, List.not_mem_nil, or_false] at hc
  rcases hc with rfl | rfl
  · exact ⟨clp_in h, d0, d1⟩
  · exact ⟨clp_in h, d0, d1⟩
theorem cndU_in {v : Qt} {lo hi : Int} {n : Nat} {c : Qt} (h : lo ≤ hi) (hn : lo + (n : Int) = hi + 1) (hc : c ∈ cndU v lo hi n) : PairIn lo hi c := by
  obtain ⟨i, hi', hc⟩ := cnd_mem hc
  exact cnd_in h (by omega) (by omega) hc
/-- what teeth_pair gives, and what the law expects: the one best pair -/
theorem fold_opt {v : Qt} {lo hi : Int} {n : Nat} (hv : 0 < v.2) (l0 : 1 ≤ lo) (h : lo ≤ hi) (hn : lo + (n : Int) = hi + 1) {b : Qt} (hb : PairIn lo hi b) : Opt v lo hi ((cndU v lo hi n).foldl (stp v) b) := by
  have pos : ∀ c ∈ cndU v lo hi n, 0 < c.2 := fun c hc => by have := (cndU_in h hn hc).2.1; omega
  obtain ⟨m, x, y⟩ := fold_le (v := v) (l := cndU v lo hi n) (b := b) (by have := hb.2.1; omega) pos
  refine opt_of hv l0 h (by omega) ?_ y
  rcases m with m | m
  · rw [m]; exact hb
  · exact cndU_in h hn m
theorem foldO_opt {v : Qt} {lo hi : Int} {n : Nat} (hv : 0 < v.2) (hv1 : 0 < v.1) (l0 : 1 ≤ lo) (h : lo ≤ hi) (hn : lo + (n : Int) = hi + 1) {b : Qt} (hb : PairIn lo hi b) : (cndU v lo hi n).foldl (stpO v) none = some ((cndU v lo hi n).foldl (stp v) b) := by
  have o := fold_opt hv l0 h hn hb
  have n0 : 0 < n := by omega
  cases hl : cndU v lo hi n with
  | nil =>
    have := mem_cnd (v := v) (lo := lo) (hi := hi) (n := n) (i := 0) (c := (clp lo hi (v.1 * (lo + (0 : Nat)) / v.2), lo + (0 : Nat))) n0 (by unfold cnd; simp)
    rw [hl] at this
    cases this
  | cons c l =>
    have hc := cndU_in (v := v) h hn (show c ∈ cndU v lo hi n by rw [hl]; exact List.mem_cons_self)
    rw [← hl]
    have e : (cndU v lo hi n).foldl (stpO v) none = some (l.foldl (stp v) c) := by
      rw [hl]
      exact foldO l c
    rw [e]
    have e2 : l.foldl (stp v) c = (cndU v lo hi n).foldl (stp v) c := by
      rw [hl, List.foldl_cons]
      have : stp v c c = c := by
        unfold stp
        split <;> rfl
      rw [this]
    rw [e2]
    have o2 := fold_opt hv l0 h hn hc
    exact congrArg some (opt_unique hv hv1 l0 o o2.1 (o2.2 _ o.1))
end
end My

namespace My
open PySem PySem.Spec PyProof.Rows L2
/-! ### what kind a value is of -/
/-- its kind answers to the built-in types as f says -/
def Kd (K : PySem.W.Frag) (H : Hp) (v : V) (f : String → Bool) : Prop := ∃ t, TyX K H v t ∧ ∀ n ∈ ["int", "bool", "str", "list", "tuple", "dict"], PySem.W.kitOne K t (.type n) = some (f n)
def rIsD (K : PySem.W.Frag) : List V → Hp → VK → Prop := fun xs H Q => ∃ x n, xs = [x, .ty n] ∧ n ∈ ["int", "bool", "str", "list", "tuple", "dict"] ∧ ∃ f, Kd K H x f ∧ Q (.bl (f n)) H
theorem call_isD {X : Cx} : CallR X (.builtin "isinstance") (rIsD X.K) := fun pins s σ H xs us Q I r h => by
  obtain ⟨x, n, rfl, hn, f, ⟨t, ty, hk⟩, q⟩ := h
  exact call_isi pins s σ H _ us Q I r ⟨x, .ty n, t, .type n, f n, rfl, .ty n, ty, hk n hn, q⟩
section
variable {P : Program} {w : World} {K : PySem.W.Frag} {mg : Str → Option Value} {base : Heap}
theorem Kd.ty {H : Hp} {v : V} {t : String} (h : tyN K H v = some t) : Kd K H v (isB t) := ⟨.type t, tyN_X h, fun n hn => kit_ty (kit_all t (tyN_mem h) n hn)⟩
/-- a value whose being a whole number is told by itself -/
def Wh (K : PySem.W.Frag) (H : Hp) (v : V) : Prop := ∃ f, Kd K H v f ∧ (f "int" && !f "bool") = wholeV v
theorem Wh.ty {H : Hp} {v : V} {t : String} (h : tyN K H v = some t) : Wh K H v := ⟨_, Kd.ty h, by
  rw [wholeV_ty h]
  have mt := tyN_mem h
  simp only [List.mem_cons, List.not_mem_nil, or_false] at mt
  rcases mt with rfl | rfl | rfl | rfl | rfl | rfl | rfl <;> rfl⟩
theorem Wh.int {H : Hp} (n : Int) : Wh K H (.int n) := Wh.ty (t := "int") rfl
theorem tyX_same {H H' : Hp} {x : V} {t : Value} (s : Same H H') (h : TyX K H x t) : TyX K H' x t := by
  cases h with
  | base b =>
    cases b with
    | non => exact .base .non
    | bl y => exact .base (.bl y)
    | int y => exact .base (.int y)
    | str y => exact .base (.str y)
    | flt y => exact .base (.flt y)
    | lst e => exact .base (.lst (s _ _ e))
    | frz e => exact .base (.frz (s _ _ e))
    | tup e => exact .base (.tup (s _ _ e))
    | dK e => exact .base (.dK (s _ _ e))
    | dT e => exact .base (.dT (s _ _ e))
    | ins e a b c d f => exact .base (.ins (s _ _ e) a b c d f)
  | byt b => exact .byt b
  | set e => exact .set (s _ _ e)
  | kList e c => exact .kList e c
  | kTuple e c => exact .kTuple e c
  | kDict e c => exact .kDict e c
  | fTuple e => exact .fTuple (s _ _ e)
  | fDict e => exact .fDict (s _ _ e)
theorem Kd.same {H H' : Hp} {v : V} {f : String → Bool} (h : Kd K H v f) (s : Same H H') : Kd K H' v f := by
  obtain ⟨t, a, b⟩ := h
  exact ⟨t, tyX_same s a, b⟩
theorem Wh.same {H H' : Hp} {v : V} (h : Wh K H v) (s : Same H H') : Wh K H' v := by
  obtain ⟨f, a, b⟩ := h
  exact ⟨f, a.same s, b⟩
def inB (a b : Int) : V → Bool
  | .int n => decide (a ≤ n) && decide (n ≤ b)
  | _ => false
theorem whole_or (v : V) : wholeV v = false ∨ ∃ n, v = .int n := by
  cases v with
  | int n => exact .inr ⟨n, rfl⟩
  | _ => exact .inl rfl
theorem inB_no {a b : Int} {v : V} (h : wholeV v = false) : inB a b v = false := by
  cases v with
  | int n => cases h
  | _ => rfl
def spWholeU (K : PySem.W.Frag) : Sp := fun vs H Q _ => ∃ v, vs = [v] ∧ Wh K H v ∧ Q (.bl (wholeV v)) H
def spWithin (K : PySem.W.Frag) : Sp := fun vs H Q _ => ∃ (v : V) (a b : Int), vs = [v, .int a, .int b] ∧ Wh K H v ∧ Q (.bl (inB a b v)) H
abbrev sWholeU : Stmt := topS 16
theorem scWholeU : FnScope ["value"] ["value"] (defScope sWholeU) := ⟨rfl, rfl, rfl, by decide +kernel, rfl, by decide +kernel, by decide +kernel⟩
theorem k_WholeU (T : Bt K mg) (D : Dfn K mg "is_whole" sWholeU ["value"]) : Kn P w K mg base 1 "is_whole" ["value"] (spWholeU K) := by
  refine Kn.mk' D scWholeU (fun vs H Q E h => ?_) (fun f cdv A outer s H vs Q E hr h => ?_)
  · obtain ⟨v, rfl, _⟩ := h
    rfl
  obtain ⟨v, rfl, hv, q⟩ := h
  refine ⟨_, (pss_one (ps_ret (pe_and (pe_callB call_isD (by rfl) T.b_isinstance (by decide +kernel) (pa_cons (pv 0) (pa_cons (pe_bltn (v := .ty "int") (by rfl) T.b_int (by decide +kernel) rfl) pa_nil))) (pe_one (pe_not (pe_callB call_isD (by rfl) T.b_isinstance (by decide +kernel) (pa_cons (pv 0) (pa_cons (pe_bltn (v := .ty "bool") (by rfl) T.b_bool (by decide +kernel) rfl) pa_nil)))))))), ?_⟩
  obtain ⟨f, hf, e⟩ := hv
  refine ⟨_, rfl, v, "int", rfl, by decide, f, hf, f "int", rfl, ?_⟩
  rw [← e] at q
  cases hi : f "int" with
  | false =>
    rw [hi] at q
    exact if_no rfl q
  | true =>
    rw [hi] at q
    refine if_yes rfl ⟨_, rfl, v, "bool", rfl, by decide, f, hf, f "bool", rfl, ?_⟩
    exact q
abbrev sWithin : Stmt := topS 17
theorem scWithin : FnScope ["value", "least", "most"] ["value", "least", "most"] (defScope sWithin) := ⟨rfl, rfl, rfl, by decide +kernel, rfl, by decide +kernel, by decide +kernel⟩
theorem k_Within (T : Bt K mg) (D : Dfn K mg "is_whole_within" sWithin ["value", "least", "most"]) (d_is_whole : Kn P w K mg base 1 "is_whole" ["value"] (spWholeU K)) : Kn P w K mg base 2 "is_whole_within" ["value", "least", "most"] (spWithin K) := by
  refine Kn.mk' D scWithin (fun vs H Q E h => ?_) (fun f cdv A outer s H vs Q E hr h => ?_)
  · obtain ⟨v, a, b, rfl, _⟩ := h
    rfl
  obtain ⟨v, a, b, rfl, hv, k⟩ := h
  refine ⟨_, (pss_one (ps_ret (pe_and (pe_kn d_is_whole hr (by rfl) (pa_cons (pv 0) pa_nil)) (pe_one (pe_chain op_le op_le (pv 1) (pv 0) (pv 2)))))), ?_⟩
  rcases whole_or v with hw | ⟨n, rfl⟩
  · refine ⟨_, rfl, v, rfl, hv, _, rfl, ?_⟩
    rw [hw, if_neg Bool.noConfusion]
    rw [inB_no hw] at k
    exact k
  have k : Q (.bl (decide (a ≤ n) && decide (n ≤ b))) H := k
  refine ⟨_, rfl, .int n, rfl, hv, true, rfl, ?_⟩
  rw [if_pos rfl]
  simp only [tChain, cx_K, decide_true, decide_false, reduceCtorEq, gTp, gCons, gNil, ca_0, ca_1, ca_2, ca_3, ca_4, ca_5, ca_6, ca_7, ca_8, ca_9, ca_10, ca_11, ca_12, ca_13, ca_14, ca_15, ca_16, ca_17, ca_18, ca_19, ca_20, ca_21, ca_22, ca_23, ca_24, ca_25, ca_26, ca_27, ca_28, ca_29, ca_30, not_true_eq_false, not_false_eq_true, Int.reduceEq, Nat.reduceEqDiff, Nat.reduceLeDiff, rGcd, V.ty.injEq, eq_self, List.not_mem_nil, beq_self_eq_true, HO.lst.injEq, HO.tup.injEq, tFor_eq, iRng1, iList, iTup, nat10, tSeq, rIxA, rSetA, rIsN, rIsT, tTp, tLs, itsO_tup, itsO_lst, tyO_tup, tyO_lst, tyO_dK, tyN_non, tyN_bl, tyN_int, tyN_str, tyN_ref, tyNs_lt, isB, upd_same, upd_upd, sizeLine_eq, List.mem_cons, String.reduceBEq, String.reduceEq, Bool.or_false, Bool.or_true, Bool.and_false, Bool.false_or, Bool.and_self, Bool.false_and, Bool.not_false, Bool.not_true, List.any_cons, List.any_nil, atI_0, setI_0, atI_1, setI_1, atI_2, setI_2, atI_3, setI_3, atI_4, setI_4, atI_5, setI_5, atI_6, setI_6, tAsg, gName, tOp, tUn, tVar, tC, tCons, L2.tNil, tRet, tIfS, tTest, tCB, tCall, rI, rI0, rU, tNext, tB, tAnd, tOr, tNot, tAndV, tOrV, tNotV, tDrop, tIf, tPar, gSub, rIxL, rIxT, rEq, rNe, rSetL, tBits,
    L2.start, List.map_cons, List.map_nil, List.cons_append, List.nil_append, List.append_nil, List.length_cons, List.length_nil, List.replicate, Nat.reduceAdd, Nat.reduceSub, Nat.zero_add, List.getElem?_cons_zero, List.getElem?_cons_succ, List.set_cons_zero, List.set_cons_succ,
    Option.some.injEq, exists_eq_left', exists_eq_left, V.int.injEq, V.bl.injEq, V.ref.injEq, V.str.injEq, List.cons.injEq, reduceCtorEq, and_true, true_and, false_and, and_false, exists_false, or_false, false_or, or_true, true_or, exists_const, CMul, CDiv, CPow, and_assoc, exists_and_left, exists_and_right, Int.reducePow, Int.reduceNeg, Int.reduceLT, Int.reduceLE, Nat.reducePow, Nat.reduceLT, Int.reduceToNat, gt_iff_lt, ge_iff_le, decide_eq_true_eq, Bool.not_eq_true', decide_eq_false_iff_not, scal, ↓reduceIte, Bool.false_eq_true]
  refine ite2 (fun h => ?_) (fun h => ?_)
  · rw [decide_eq_true h, Bool.true_and] at k
    exact k
  · rw [decide_eq_false h, Bool.false_and] at k
    exact k
end
end My

namespace My
open PySem PySem.Spec PyProof.Rows L2
section
variable {P : Program} {w : World} {K : PySem.W.Frag} {mg : Str → Option Value} {base : Heap}
end
structure DfnD1 (K : PySem.W.Frag) (mg : Str → Option Value) (x : Str) (st : Stmt) (ps : List Str) (dv : V) : Prop where
  ex : ∃ f fd dvs ds, FunD K x x (defArgs st) (defBody st) (defScope st) dvs [] f fd ∧ mg x = some (.ref f) ∧ Vals [dv] ds ∧ Binds K fd ps ds
structure Kn1 (P : Program) (w : World) (K : PySem.W.Frag) (mg : Str → Option Value) (base : Heap) (k : Nat) (x : Str) (ps : List Str) (sp : Sp) (dv : V) : Prop where
  ex : ∃ f fd ds, mg x = some (.ref f) ∧ PySem.W.keepIn K (.ref f) = true ∧ Vals [dv] ds ∧ Binds K fd ps ds ∧ FnOk P w K mg base CX0 k f fd ps sp
theorem Kn1.mkD {P : Program} {w : World} {K : PySem.W.Frag} {mg : Str → Option Value} {base : Heap} {x : Str} {st : Stmt} {N ps : List Str} {k : Nat} {sp : Sp} {dv : V} (D : DfnD1 K mg x st ps dv) (S : FnScope N ps (defScope st)) (len : ∀ vs H Q E, sp vs H Q E → vs.length = ps.length)
    (hbody : ∀ (f : Addr) (cdv : Value) (A : Around) (outer : List Env) (s : Shared) (H : Hp) (vs : List V) (Q : VK) (E : XK), Room k (A.deeper (envOfC x (defScope st) s.heap.objs.size f cdv)) → sp vs H Q E →
      ∃ t, PSs (cxOf CX0 P w K mg base N x (defScope st) f cdv A outer s H E).nox (defBody st) t ∧ t { nx := fun _ H' => Q .non H', rt := Q } (start N vs) H) : Kn1 P w K mg base (k + 1) x ps sp dv := by
  obtain ⟨f, fd, dvs, ds, F, m, v, b⟩ := D.ex
  exact ⟨f, fd, ds, m, F.kp, v, b, F.ok S len fun cdv A outer s H vs Q E hr h => let ⟨t, a, c⟩ := hbody f cdv A outer s H vs Q E hr h; ⟨t, a.nox, c⟩⟩
section
variable {X : Cx}
theorem pe_kn1 {j k : Nat} {x : Str} {ps : List Str} {sp : Sp} {dv : V} {p pos : Pos} {e : Expr} {es : List Expr} {t : TA} (F : Kn1 X.prog X.w X.K X.mg X.base k x ps sp dv) (hr : Room j X.A) (hg : Gl X x) (ha : PA X (e :: es) t) (hj : k ≤ j := by omega)
    (hdb : (x == ("__debug__" : Str)) = false := by decide) (he : starEach (e :: es) X.env = (false, eval e X.env) :: starEach es X.env := by rfl) (hpl : (backTo pos (starEach es X.env)).any (·.1) = false := by rfl) :
    PE X (.Call (.Name x p) (e :: es) [] pos) (tCall sp [dv] E0 t) := by
  obtain ⟨f, fd, ds, m, kp, v, b, G⟩ := F.ex
  exact pe_call G (hr.mono hj) hg m kp b v pass0 ha hdb he hpl
end
/-! ### one parameter by place, two by keyword -/
def kw12 {α : Type} (us ws : List α) : List α := match us, ws with
  | [u], [a, b] => [u, a, b]
  | _, _ => []
theorem kw12_rel {vs : List V} {us : List Value} {zs : List V} {ws : List Value} (h : Vals vs us) (g : Vals zs ws) : Vals (kw12 vs zs) (kw12 us ws) := by
  cases h with
  | nil => exact .nil
  | cons a b =>
    cases b with
    | nil =>
      cases g with
      | nil => exact .nil
      | cons c1 d1 =>
        cases d1 with
        | nil => exact .nil
        | cons c2 d2 =>
          cases d2 with
          | nil => exact .cons a (.cons c1 (.cons c2 .nil))
          | cons _ _ => exact .nil
    | cons _ _ => exact .nil
theorem kb12 {K : PySem.W.Frag} {fd : FuncData} {x y1 y2 : Str} (h : ∀ (s : Shared) (u a b : Value), BindsTo s fd ⟨[u], [(y1, a), (y2, b)]⟩ [(x, u), (y1, a), (y2, b)]) : KBinds K fd [x, y1, y2] [y1, y2] kw12 kw12 where
  to := fun s us ws hu hl => by
    match us, ws, hu, hl with
    | [u], [a, b], _, _ => exact h s u a b
    | [], _, hu, hl => cases hl
    | [u], [], hu, hl => cases hl
    | [u], [_], hu, hl => cases hl
    | [u], _ :: _ :: _ :: _, hu, hl => cases hl
    | _ :: _ :: _, _, hu, hl => cases hl
  rel := fun h g => kw12_rel h g
structure DfnK2 (K : PySem.W.Frag) (mg : Str → Option Value) (x : Str) (st : Stmt) (ps ks : List Str) : Prop where
  ex : ∃ f fd, Fun K x x st f fd ∧ mg x = some (.ref f) ∧ KBinds K fd ps ks kw12 kw12
structure KnK2 (P : Program) (w : World) (K : PySem.W.Frag) (mg : Str → Option Value) (base : Heap) (k : Nat) (x : Str) (ps ks : List Str) (sp : Sp) : Prop where
  ex : ∃ f fd, mg x = some (.ref f) ∧ PySem.W.keepIn K (.ref f) = true ∧ KBinds K fd ps ks kw12 kw12 ∧ FnOk P w K mg base CX0 k f fd ps sp
theorem KnK2.mk' {P : Program} {w : World} {K : PySem.W.Frag} {mg : Str → Option Value} {base : Heap} {x : Str} {st : Stmt} {N ps ks : List Str} {k : Nat} {sp : Sp} (D : DfnK2 K mg x st ps ks) (S : FnScope N ps (defScope st)) (len : ∀ vs H Q E, sp vs H Q E → vs.length = ps.length)
    (hbody : ∀ (f : Addr) (cdv : Value) (A : Around) (outer : List Env) (s : Shared) (H : Hp) (vs : List V) (Q : VK) (E : XK), Room k (A.deeper (envOfC x (defScope st) s.heap.objs.size f cdv)) → sp vs H Q E →
      ∃ t, PSs (cxOf CX0 P w K mg base N x (defScope st) f cdv A outer s H E).nox (defBody st) t ∧ t { nx := fun _ H' => Q .non H', rt := Q } (start N vs) H) : KnK2 P w K mg base (k + 1) x ps ks sp := by
  obtain ⟨f, fd, F, m, b⟩ := D.ex
  exact ⟨f, fd, m, F.kp, b, F.ok S len (hbody f)⟩
section
variable {X : Cx}
theorem pe_knK2 {j k : Nat} {x : Str} {ps ks : List Str} {sp : Sp} {p pos : Pos} {e : Expr} {es : List Expr} {kws : List Keyword} {t tk : TA} (F : KnK2 X.prog X.w X.K X.mg X.base k x ps ks sp) (hr : Room j X.A) (hg : Gl X x) (ha : PA X (e :: es) t) (hkw : PK X kws tk) (hj : k ≤ j := by omega)
    (hall : (backToKw pos (keywordEach kws X.env)).all (·.1.isSome) = true := by rfl) (hks : (backToKw pos (keywordEach kws X.env)).filterMap (·.1) = ks := by rfl)
    (hdb : (x == ("__debug__" : Str)) = false := by decide) (he : starEach (e :: es) X.env = (false, eval e X.env) :: starEach es X.env := by rfl)
    (hpl : ((backTo pos (starEach (e :: es) X.env)).any (·.1) || (backToKw pos (keywordEach kws X.env)).any (·.1.isNone)) = false := by rfl) :
    PE X (.Call (.Name x p) (e :: es) kws pos) (tCallK sp kw12 E0 t tk) := by
  obtain ⟨f, fd, m, kp, b, G⟩ := F.ex
  exact pe_callK G (hr.mono hj) hg m kp b pass0 ha hkw hall hks hdb he hpl
end
section
variable {P : Program} {w : World} {K : PySem.W.Frag} {mg : Str → Option Value} {base : Heap}
theorem k_Fraction1 (T : Bt K mg) (D : DfnD1 K mg "fraction" sFraction ["numerator", "denominator"] (.int 1)) (d_require : Kn P w K mg base 1 "require" ["well_formed", "what"] spRequire) (d_is_whole : Kn P w K mg base 1 "is_whole" ["value"] (spWhole K)) : Kn1 P w K mg base 2 "fraction" ["numerator", "denominator"] (spFraction K) (.int 1) := by
  refine Kn1.mkD D scFraction (fun vs H Q E h => ?_) (fun f cdv A outer s H vs Q E hr h => ?_)
  · obtain ⟨n, d, rfl, _⟩ := h
    rfl
  obtain ⟨n, d, rfl, h0, hz, q⟩ := h
  refine ⟨_, (pss_cons (ps_expr (pe_kn d_require hr (by rfl) (pa_cons (pe_kn d_is_whole hr (by rfl) (pa_cons (pv 0) pa_nil)) (pa_cons pe_str pa_nil))))
      (pss_cons (ps_expr (pe_kn d_require hr (by rfl) (pa_cons (pe_and (pe_kn d_is_whole hr (by rfl) (pa_cons (pv 1) pa_nil)) (pe_one (pe_cmpR op_ne (pv 1) pe_int (nomark _)))) (pa_cons pe_str pa_nil))))
      (pss_cons (ps_set (i := 2) scFraction.nd rfl (.inl rfl) (pe_callBfun cr_gcd (by rfl) T.g_gcd (pa_cons (pv 0) (pa_cons (pv 1) pa_nil))))
      (pss_cons (ps_if (pt_cmpR op_lt (pv 1) pe_int (nomark _)) (pss_one (ps_set (i := 2) scFraction.nd rfl (.inl rfl) (pe_un un_neg (pv 2)))) pss_nil)
      (pss_one (ps_ret (pe_tp (pa_cons (pe_op op_fdivX (pv 0) (pv 2)) (pa_cons (pe_op op_fdivX (pv 1) (pv 2)) pa_nil))))))))), ?_⟩
  simp only [cx_K, decide_true, decide_false, reduceCtorEq, gTp, gCons, gNil, ca_0, ca_1, ca_2, ca_3, ca_4, ca_5, ca_6, ca_7, ca_8, ca_9, ca_10, ca_11, ca_12, ca_13, ca_14, ca_15, ca_16, ca_17, ca_18, ca_19, ca_20, ca_21, ca_22, ca_23, ca_24, ca_25, ca_26, ca_27, ca_28, ca_29, ca_30, not_true_eq_false, not_false_eq_true, Int.reduceEq, Nat.reduceEqDiff, Nat.reduceLeDiff, rGcd, V.ty.injEq, eq_self, List.not_mem_nil, beq_self_eq_true, HO.lst.injEq, HO.tup.injEq, tFor_eq, iRng1, iList, iTup, nat10, tSeq, rIxA, rSetA, rIsN, rIsT, tTp, tLs, itsO_tup, itsO_lst, tyO_tup, tyO_lst, tyO_dK, tyN_non, tyN_bl, tyN_int, tyN_str, tyN_ref, tyNs_lt, isB, upd_same, upd_upd, sizeLine_eq, List.mem_cons, String.reduceBEq, String.reduceEq, Bool.or_false, Bool.or_true, Bool.and_false, Bool.false_or, Bool.and_self, Bool.false_and, Bool.not_false, Bool.not_true, List.any_cons, List.any_nil, atI_0, setI_0, atI_1, setI_1, atI_2, setI_2, atI_3, setI_3, atI_4, setI_4, atI_5, setI_5, atI_6, setI_6, tAsg, gName, tOp, tUn, tVar, tC, tCons, L2.tNil, tRet, tIfS, tTest, tCB, tCall, rI, rI0, rU, tNext, tB, tAnd, tOr, tNot, tAndV, tOrV, tNotV, tDrop, tIf, tPar, gSub, rIxL, rIxT, rEq, rNe, rSetL, tBits,
    L2.start, List.map_cons, List.map_nil, List.cons_append, List.nil_append, List.append_nil, List.length_cons, List.length_nil, List.replicate, Nat.reduceAdd, Nat.reduceSub, Nat.zero_add, List.getElem?_cons_zero, List.getElem?_cons_succ, List.set_cons_zero, List.set_cons_succ,
    Option.some.injEq, exists_eq_left', exists_eq_left, V.int.injEq, V.bl.injEq, V.ref.injEq, V.str.injEq, List.cons.injEq, reduceCtorEq, and_true, true_and, false_and, and_false, exists_false, or_false, false_or, or_true, true_or, exists_const, CMul, CDiv, CPow, and_assoc, exists_and_left, exists_and_right, Int.reducePow, Int.reduceNeg, Int.reduceLT, Int.reduceLE, Nat.reducePow, Nat.reduceLT, Int.reduceToNat, gt_iff_lt, ge_iff_le, decide_eq_true_eq, Bool.not_eq_true', decide_eq_false_iff_not, scal, ↓reduceIte, Bool.false_eq_true]
  refine ⟨_, rfl, rfl, ⟨_, rfl, ⟨_, rfl, rfl, ⟨true, rfl, ?_⟩⟩⟩⟩
  rw [if_pos rfl]
  refine ⟨_, by rw [decide_eq_false h0]; rfl, ?_⟩
  simp only [cx_K, decide_true, decide_false, reduceCtorEq, gTp, gCons, gNil, ca_0, ca_1, ca_2, ca_3, ca_4, ca_5, ca_6, ca_7, ca_8, ca_9, ca_10, ca_11, ca_12, ca_13, ca_14, ca_15, ca_16, ca_17, ca_18, ca_19, ca_20, ca_21, ca_22, ca_23, ca_24, ca_25, ca_26, ca_27, ca_28, ca_29, ca_30, not_true_eq_false, not_false_eq_true, Int.reduceEq, Nat.reduceEqDiff, Nat.reduceLeDiff, rGcd, V.ty.injEq, eq_self, List.not_mem_nil, beq_self_eq_true, HO.lst.injEq, HO.tup.injEq, tFor_eq, iRng1, iList, iTup, nat10, tSeq, rIxA, rSetA, rIsN, rIsT, tTp, tLs, itsO_tup, itsO_lst, tyO_tup, tyO_lst, tyO_dK, tyN_non, tyN_bl, tyN_int, tyN_str, tyN_ref, tyNs_lt, isB, upd_same, upd_upd, sizeLine_eq, List.mem_cons, String.reduceBEq, String.reduceEq, Bool.or_false, Bool.or_true, Bool.and_false, Bool.false_or, Bool.and_self, Bool.false_and, Bool.not_false, Bool.not_true, List.any_cons, List.any_nil, atI_0, setI_0, atI_1, setI_1, atI_2, setI_2, atI_3, setI_3, atI_4, setI_4, atI_5, setI_5, atI_6, setI_6, tAsg, gName, tOp, tUn, tVar, tC, tCons, L2.tNil, tRet, tIfS, tTest, tCB, tCall, rI, rI0, rU, tNext, tB, tAnd, tOr, tNot, tAndV, tOrV, tNotV, tDrop, tIf, tPar, gSub, rIxL, rIxT, rEq, rNe, rSetL, tBits,
    L2.start, List.map_cons, List.map_nil, List.cons_append, List.nil_append, List.append_nil, List.length_cons, List.length_nil, List.replicate, Nat.reduceAdd, Nat.reduceSub, Nat.zero_add, List.getElem?_cons_zero, List.getElem?_cons_succ, List.set_cons_zero, List.set_cons_succ,
    Option.some.injEq, exists_eq_left', exists_eq_left, V.int.injEq, V.bl.injEq, V.ref.injEq, V.str.injEq, List.cons.injEq, reduceCtorEq, and_true, true_and, false_and, and_false, exists_false, or_false, false_or, or_true, true_or, exists_const, CMul, CDiv, CPow, and_assoc, exists_and_left, exists_and_right, Int.reducePow, Int.reduceNeg, Int.reduceLT, Int.reduceLE, Nat.reducePow, Nat.reduceLT, Int.reduceToNat, gt_iff_lt, ge_iff_le, decide_eq_true_eq, Bool.not_eq_true', decide_eq_false_iff_not, scal, ↓reduceIte, Bool.false_eq_true]
  have k := gcdX (n := n) h0 hz
  have v := is_fdiv (t := n) h0
  refine ite2 (fun h => ?_) (fun h => ?_)
  · rw [if_pos h] at v
    simp only [if_pos h] at k
    exact ⟨k _, k _, fun p hp kp => (q _ v).new hp kp⟩
  · rw [if_neg h] at v
    simp only [if_neg h] at k
    exact ⟨k _, k _, fun p hp kp => (q _ v).new hp kp⟩
theorem nf_int (w : Int) : Nf (w, 1) := ⟨by show (1 : Int) ≤ 1; omega, by show Int.gcd w 1 = 1; exact Int.gcd_one_right _⟩
theorem is_floor {z : Qt} {t b : Int} (hb : 0 < b) (h : Is z t b) : z.1 / z.2 = t / b := by
  have z2 := h.1.1
  have e := h.2
  refine Int.le_antisymm ?_ ?_
  · refine (Int.le_ediv_iff_mul_le hb).mpr ?_
    have h1 : z.1 / z.2 * z.2 ≤ z.1 := Int.ediv_mul_le z.1 (by omega)
    have h2 : (z.1 / z.2 * z.2) * b ≤ z.1 * b := Int.mul_le_mul_of_nonneg_right h1 (by omega)
    have h3 : (z.1 / z.2 * b) * z.2 ≤ t * z.2 := by rw [← e]; grind
    exact Int.le_of_mul_le_mul_right h3 (by omega)
  · refine (Int.le_ediv_iff_mul_le (by omega)).mpr ?_
    have h1 : t / b * b ≤ t := Int.ediv_mul_le t (by omega)
    have h2 : (t / b * b) * z.2 ≤ t * z.2 := Int.mul_le_mul_of_nonneg_right h1 (by omega)
    have h3 : (t / b * z.2) * b ≤ z.1 * b := by rw [e]; grind
    exact Int.le_of_mul_le_mul_right h3 hb
theorem sum_sz {p q z : Qt} {i j k : Nat} (h : sum2 p q z) (hp : Nf p) (hq : Nf q) (sp : Sz i p) (sq : Sz j q) (l : i + j < k) : Sz k z :=
  is_sz (mul_ne hp.1 hq.1) h (szAdd (szMul sp.1 sq.2) (szMul sq.1 sp.2) (by omega) (by omega)) (szMono (szMul sp.2 sq.2) (by omega))
theorem dif_sz {p q z : Qt} {i j k : Nat} (h : dif2 p q z) (hp : Nf p) (hq : Nf q) (sp : Sz i p) (sq : Sz j q) (l : i + j < k) : Sz k z :=
  is_sz (mul_ne hp.1 hq.1) h (szSub (szMul sp.1 sq.2) (szMul sq.1 sp.2) (by omega) (by omega)) (szMono (szMul sp.2 sq.2) (by omega))
theorem pro_sz {p q z : Qt} {i j k : Nat} (h : pro2 p q z) (hp : Nf p) (hq : Nf q) (sp : Sz i p) (sq : Sz j q) (l : i + j < k) : Sz k z :=
  is_sz (mul_ne hp.1 hq.1) h (szMono (szMul sp.1 sq.1) (by omega)) (szMono (szMul sp.2 sq.2) (by omega))
theorem quo_sz {p q z : Qt} {i j k : Nat} (h : quo2 p q z) (hp : Nf p) (h0 : q.1 ≠ 0) (sp : Sz i p) (sq : Sz j q) (l : i + j < k) : Sz k z :=
  is_sz (Int.mul_ne_zero hp.ne h0) h (szMono (szMul sp.1 sq.2) (by omega)) (szMono (szMul sp.2 sq.1) (by omega))
theorem is_int {z : Qt} {l : Int} (h : Is z l 1) : z = (l, 1) := by
  refine is_unique (t := l) (b := 1) (by decide) h ⟨nf_int l, rfl⟩
def spPosi (K : PySem.W.Frag) : Sp := fun vs H Q _ => ∃ (a : Addr) (q : Qt), vs = [.ref a] ∧ Fq K H 8000 a q ∧ 0 < q.1 ∧ Q (.bl true) H
def spEmp : Sp := fun vs H Q _ => ∃ lo hi : Int, vs = [.int lo, .int hi] ∧ lo ≤ hi ∧ Q .non H
def spClp : Sp := fun vs H Q _ => ∃ x lo hi : Int, vs = [.int x, .int lo, .int hi] ∧ Q (.int (clp lo hi x)) H
abbrev sPosi : Stmt := topS 29
theorem scPosi : FnScope ["value"] ["value"] (defScope sPosi) := ⟨rfl, rfl, rfl, by decide +kernel, rfl, by decide +kernel, by decide +kernel⟩
theorem k_Posi (T : Bt K mg) (D : Dfn K mg "_is_positive" sPosi ["value"]) (d_is_fraction : Kn P w K mg base 2 "is_fraction" ["value"] (spIsFraction K)) : Kn P w K mg base 3 "_is_positive" ["value"] (spPosi K) := by
  refine Kn.mk' D scPosi (fun vs H Q E h => ?_) (fun f cdv A outer s H vs Q E hr h => ?_)
  · obtain ⟨a, q, rfl, _⟩ := h
    rfl
  obtain ⟨a, q, rfl, hq, h0, k⟩ := h
  refine ⟨_, (pss_one (ps_ret (pe_and (pe_kn d_is_fraction hr (by rfl) (pa_cons (pv 0) pa_nil)) (pe_one (pe_cmpR op_gt (pe_ix ix_any (pv 0) pe_int (fun _ _ => rfl)) pe_int (nomark _)))))), ?_⟩
  refine ⟨_, rfl, _, rfl, Tyd.fr hq.o, _, by rw [frOk_fr hq.o hq.nf], if_yes rfl ?_⟩
  refine ⟨_, rfl, a, 0, rfl, rfl, _, itsO_of hq.o, _, atI_0 _ _, _, _, rfl, rfl, ?_⟩
  show Q (.bl (decide (0 < q.1))) H
  rw [decide_eq_true h0]
  exact k
abbrev sEmp : Stmt := topS 30
theorem scEmp : FnScope ["least", "most"] ["least", "most"] (defScope sEmp) := ⟨rfl, rfl, rfl, by decide +kernel, rfl, by decide +kernel, by decide +kernel⟩
theorem k_Emp (T : Bt K mg) (D : Dfn K mg "_refuse_empty" sEmp ["least", "most"]) : Kn P w K mg base 1 "_refuse_empty" ["least", "most"] spEmp := by
  refine Kn.mk' D scEmp (fun vs H Q E h => ?_) (fun f cdv A outer s H vs Q E hr h => ?_)
  · obtain ⟨lo, hi, rfl, _⟩ := h
    rfl
  obtain ⟨lo, hi, rfl, h, k⟩ := h
  refine ⟨_, (pss_one (ps_if (pt_cmpR op_lt (pv 1) (pv 0) (nomark _)) (pss_one ps_never) pss_nil)), ?_⟩
  refine ⟨_, rfl, _, rfl, _, _, rfl, rfl, _, rfl, if_no (decide_eq_false (by omega)) ?_⟩
  exact k
abbrev sClp : Stmt := topS 31
theorem scClp : FnScope ["number", "least", "most"] ["number", "least", "most"] (defScope sClp) := ⟨rfl, rfl, rfl, by decide +kernel, rfl, by decide +kernel, by decide +kernel⟩
theorem k_Clp (T : Bt K mg) (D : Dfn K mg "_clamped" sClp ["number", "least", "most"]) : Kn P w K mg base 1 "_clamped" ["number", "least", "most"] spClp := by
  refine Kn.mk' D scClp (fun vs H Q E h => ?_) (fun f cdv A outer s H vs Q E hr h => ?_)
  · obtain ⟨x, lo, hi, rfl, _⟩ := h
    rfl
  obtain ⟨x, lo, hi, rfl, k⟩ := h
  refine ⟨_, (pss_one (ps_ret (pe_callB (call_max2 rfl) (by rfl) T.b_max (by decide +kernel) (pa_cons (pv 1) (pa_cons (pe_callB (call_min2 rfl) (by rfl) T.b_min (by decide +kernel) (pa_cons (pv 0) (pa_cons (pv 2) pa_nil))) pa_nil))))), ?_⟩
  refine ⟨_, rfl, _, rfl, _, rfl, x, hi, rfl, lo, _, rfl, ?_⟩
  have e : (if (if hi < x then hi else x) > lo then (if hi < x then hi else x) else lo) = clp lo hi x := by
    unfold clp
    split <;> split <;> omega
  rw [e]
  exact k

end
end My

namespace My
open PySem PySem.Spec PyProof.Rows L2
section
variable {P : Program} {w : World} {K : PySem.W.Frag} {mg : Str → Option Value} {base : Heap}
/-- sum of a word -/
def rSumT (K : PySem.W.Frag) : List V → Hp → VK → Prop := fun vs H Q => ∃ (a : Addr) (ns : List Int), vs = [V.ref a] ∧ SqT K H a (ns.map V.int) ∧ Q (.int ns.sum) H
theorem cr_sumT {X : Cx} (hc : X.calm = true) : CallR X (.builtin "sum") (rSumT X.K) := by
  intro pins s σ H vs us Q I r h
  obtain ⟨a, ns, rfl, hs, q⟩ := h
  obtain ⟨its, rv, hl, _⟩ := I.tuple hs
  rw [Vals.ref1 r]
  obtain ⟨xs, e⟩ := rv.ints.allInts.items
  have hn : numsOf (intItems xs).toList = ns := by rw [← e]; exact rv.ints.numsOf
  rw [nums_intItems] at hn
  rw [e] at hl
  refine PySem.W.ktm_sumG (I.ok.hd hc) hl fun h' tk t' hk => ?_
  rw [preSum_eq, List.take_of_length_le (by simp), hn]
  exact ⟨.int _, H, I.kept hk, ⟨_, rfl⟩, q⟩
theorem off_is {v p f d : Qt} (hv : 0 < v.2) (hp : 0 < p.2) (hf : Is f p.1 p.2) (hd : dif2 f v d) : Is ((d.1.natAbs : Int), d.2) (dst v p) (p.2 * v.2) := by
  have e1 : f.1 * p.2 = p.1 * f.2 := hf.2
  have e2 : d.1 * (f.2 * v.2) = (f.1 * v.2 - v.1 * f.2) * d.2 := hd.2
  have f2 := hf.1.1
  have d2 := hd.1.1
  refine ⟨nf_abs hd.1, ?_⟩
  have e3 : d.1 * (p.2 * v.2) = (p.1 * v.2 - v.1 * p.2) * d.2 := by
    refine Int.eq_of_mul_eq_mul_left (show f.2 ≠ 0 by omega) ?_
    have a1 : f.2 * (d.1 * (p.2 * v.2)) = (d.1 * (f.2 * v.2)) * p.2 := by grind
    have a2 : (f.1 * v.2 - v.1 * f.2) * d.2 * p.2 = ((f.1 * p.2) * v.2 - v.1 * f.2 * p.2) * d.2 := by grind
    rw [a1, e2, a2, e1]
    grind
  show (d.1.natAbs : Int) * (p.2 * v.2) = dst v p * d.2
  have pv : 0 ≤ p.2 * v.2 := Int.mul_nonneg (by omega) (by omega)
  have h := congrArg (fun x : Int => (x.natAbs : Int)) e3
  simp only [Int.natAbs_mul, Int.natCast_mul] at h
  unfold dst
  rw [Int.natAbs_of_nonneg (show 0 ≤ p.2 by omega), Int.natAbs_of_nonneg (show 0 ≤ v.2 by omega), Int.natAbs_of_nonneg (show 0 ≤ d.2 by omega)] at h
  exact h
/-- the comparing of two distances -/
theorem off_lt {v p q z y : Qt} (hv : 0 < v.2) (hp : 0 < p.2) (hq : 0 < q.2) (hz : Is z (dst v p) (p.2 * v.2)) (hy : Is y (dst v q) (q.2 * v.2)) : (z.1 * y.2 < y.1 * z.2 ↔ dst v p * q.2 < dst v q * p.2) ∧ (z.1 * y.2 = y.1 * z.2 ↔ dst v p * q.2 = dst v q * p.2) := by
  have e1 : z.1 * (p.2 * v.2) = dst v p * z.2 := hz.2
  have e2 : y.1 * (q.2 * v.2) = dst v q * y.2 := hy.2
  have z2 := hz.1.1
  have y2 := hy.1.1
  generalize dst v p = a at e1 ⊢
  generalize dst v q = b at e2 ⊢
  have m1 : (z.1 * y.2) * (p.2 * q.2 * v.2) = (a * q.2) * (z.2 * y.2) := by
    have : (z.1 * y.2) * (p.2 * q.2 * v.2) = (z.1 * (p.2 * v.2)) * (y.2 * q.2) := by grind
    rw [this, e1]
    grind
  have m2 : (y.1 * z.2) * (p.2 * q.2 * v.2) = (b * p.2) * (z.2 * y.2) := by
    have : (y.1 * z.2) * (p.2 * q.2 * v.2) = (y.1 * (q.2 * v.2)) * (z.2 * p.2) := by grind
    rw [this, e2]
    grind
  have k1 : 0 < p.2 * q.2 * v.2 := Int.mul_pos (Int.mul_pos hp hq) hv
  have k2 : 0 < z.2 * y.2 := Int.mul_pos (by omega) (by omega)
  refine ⟨⟨fun h => ?_, fun h => ?_⟩, ⟨fun h => ?_, fun h => ?_⟩⟩
  · have := Int.mul_lt_mul_of_pos_right h k1
    rw [m1, m2] at this
    exact Int.lt_of_mul_lt_mul_right this (by omega)
  · have := Int.mul_lt_mul_of_pos_right h k2
    rw [← m1, ← m2] at this
    exact Int.lt_of_mul_lt_mul_right this (by omega)
  · rw [h, m2] at m1
    exact (Int.eq_of_mul_eq_mul_right (by omega) m1).symm
  · rw [h, ← m2] at m1
    exact Int.eq_of_mul_eq_mul_right (by omega) m1
def PairS (p : Qt) : Prop := (1 ≤ p.1 ∧ p.1 ≤ 200) ∧ 1 ≤ p.2 ∧ p.2 ≤ 200
def spOff (K : PySem.W.Frag) : Sp := fun vs H Q _ => ∃ (a b : Addr) (p v : Qt), vs = [.ref a, .ref b] ∧ ob K H a = some (.tup [.int p.1, .int p.2]) ∧ PairS p ∧ Fq K H 1000 b v ∧ ∀ z, Is z (dst v p) (p.2 * v.2) → Sz 1020 z → Gv K H Q z
def spNearer (K : PySem.W.Frag) : Sp := fun vs H Q _ => ∃ (a c b : Addr) (p q v : Qt), vs = [.ref a, .ref c, .ref b] ∧ ob K H a = some (.tup [.int p.1, .int p.2]) ∧ PairS p ∧ ob K H c = some (.tup [.int q.1, .int q.2]) ∧ PairS q ∧ Fq K H 1000 b v ∧ ∀ H', Same H H' → Q (.bl (nr v p q)) H'
abbrev sOff : Stmt := topS 33
theorem scOff : FnScope ["pair", "value"] ["pair", "value"] (defScope sOff) := ⟨rfl, rfl, rfl, by decide +kernel, rfl, by decide +kernel, by decide +kernel⟩
theorem k_Off (T : Bt K mg) (D : Dfn K mg "_off" sOff ["pair", "value"]) (d_magnitude : Kn P w K mg base 3 "magnitude" ["value"] (spUn K fun q => ((q.1.natAbs : Int), q.2))) (d_minus : Kn P w K mg base 3 "minus" ["left", "right"] (spBin K dif2)) (d_fraction : Kn P w K mg base 2 "fraction" ["numerator", "denominator"] (spFraction K)) : Kn P w K mg base 4 "_off" ["pair", "value"] (spOff K) := by
  refine Kn.mk' D scOff (fun vs H Q E h => ?_) (fun f cdv A outer s H vs Q E hr h => ?_)
  · obtain ⟨a, b, p, v, rfl, _⟩ := h
    rfl
  obtain ⟨a, b, p, v, rfl, oa, hp, hv, k⟩ := h
  refine ⟨_, (pss_one (ps_ret (pe_kn d_magnitude hr (by rfl) (pa_cons (pe_kn d_minus hr (by rfl) (pa_cons (pe_kn d_fraction hr (by rfl) (pa_cons (pe_ix ix_any (pv 0) pe_int (fun _ _ => rfl)) (pa_cons (pe_ix ix_any (pv 0) pe_int (fun _ _ => rfl)) pa_nil))) (pa_cons (pv 1) pa_nil))) pa_nil)))), ?_⟩
  obtain ⟨⟨p0, p1⟩, q0, q1⟩ := id hp
  have v2 := hv.nf.1
  have b8 : p.2.natAbs < 2 ^ 8000 := by
    have : p.2.natAbs < 2 ^ 8 := by omega
    exact Nat.lt_of_lt_of_le this (Nat.pow_le_pow_right (by decide) (by decide))
  refine ⟨_, rfl, a, 0, rfl, rfl, _, itsO_of oa, _, atI_0 _ _, _, rfl, a, 1, rfl, rfl, _, itsO_of oa, _, atI_1 _ _ _, p.1, p.2, rfl, by omega, b8, fun f hf c H1 s1 oc => ?_⟩
  have sf : Sz 8 f := is_sz (by omega) hf (by omega) (by omega)
  refine ⟨_, rfl, c, b, f, v, rfl, ⟨oc, hf.1, sf.mono (by omega)⟩, (hv.same s1).mono (by omega), fun d hd e H2 s2 oe => ?_⟩
  have sd : Sz 1010 d := dif_sz hd hf.1 hv.nf sf hv.sz (by omega)
  refine ⟨e, d, rfl, ⟨oe, hd.1, sd.mono (by omega)⟩, fun g H3 s3 og => ?_⟩
  refine k _ (off_is (by omega) (by omega) hf hd) ⟨?_, ?_⟩ g H3 ((s1.trans s2).trans s3) og
  · show ((d.1.natAbs : Int)).natAbs < 2 ^ 1020
    rw [Int.natAbs_natCast]
    exact Nat.lt_of_lt_of_le sd.1 (Nat.pow_le_pow_right (by decide) (by decide))
  · exact Nat.lt_of_lt_of_le sd.2 (Nat.pow_le_pow_right (by decide) (by decide))

abbrev sNearer : Stmt := topS 32
theorem scNearer : FnScope ["pair", "best", "value", "side"] ["pair", "best", "value"] (defScope sNearer) := ⟨rfl, rfl, rfl, by decide +kernel, rfl, by decide +kernel, by decide +kernel⟩
theorem k_Nearer (zU : mg "sum" = none) (T : Bt K mg) (D : Dfn K mg "_is_nearer" sNearer ["pair", "best", "value"]) (d_compare : Kn P w K mg base 3 "compare" ["left", "right"] (spCmp K)) (d__off : Kn P w K mg base 4 "_off" ["pair", "value"] (spOff K)) : Kn P w K mg base 5 "_is_nearer" ["pair", "best", "value"] (spNearer K) := by
  refine Kn.mk' D scNearer (fun vs H Q E h => ?_) (fun f cdv A outer s H vs Q E hr h => ?_)
  · obtain ⟨a, c, b, p, q, v, rfl, _⟩ := h
    rfl
  obtain ⟨a, c, b, p, q, v, rfl, oa, hp, oc, hq, hv, k⟩ := h
  refine ⟨_, (pss_cons (ps_set (i := 3) scNearer.nd rfl (.inl rfl) (pe_kn d_compare hr (by rfl) (pa_cons (pe_kn d__off hr (by rfl) (pa_cons (pv 0) (pa_cons (pv 2) pa_nil))) (pa_cons (pe_kn d__off hr (by rfl) (pa_cons (pv 1) (pa_cons (pv 2) pa_nil))) pa_nil))))
      (pss_one (ps_ret (pe_or (pe_cmpR op_lt (pv 3) pe_int (nomark _)) (pe_one (pe_and (pe_cmpR op_eq (pv 3) pe_int (nomark _)) (pe_one (pe_cmpR op_lt (pe_callB (cr_sumT rfl) (by rfl) zU (by decide +kernel) (pa_cons (pv 0) pa_nil)) (pe_callB (cr_sumT rfl) (by rfl) zU (by decide +kernel) (pa_cons (pv 1) pa_nil)) (nomark _))))))))), ?_⟩
  have hp' := hp
  have hq' := hq
  obtain ⟨⟨p0, p1⟩, p2, p3⟩ := hp
  obtain ⟨⟨q0, q1⟩, q2, q3⟩ := hq
  have v2 := hv.nf.1
  refine ⟨_, rfl, _, rfl, a, b, p, v, rfl, oa, hp', hv, fun z hz sz za H1 s1 oz => ?_⟩
  refine ⟨_, rfl, _, rfl, c, b, q, v, rfl, ob_same s1 oc, hq', hv.same s1, fun y hy sy ya H2 s2 oy => ?_⟩
  obtain ⟨lt1, eq1⟩ := off_lt (by omega) (by omega) (by omega) hz hy
  have oc2 := ob_same (s1.trans s2) oc
  have oa2 := ob_same (s1.trans s2) oa
  have kk : ∀ r, nr v p q = r → Q (.bl r) H2 := fun r hr' => by
    rw [← hr']
    exact k H2 (s1.trans s2)
  refine ⟨za, ya, z, y, rfl, ⟨ob_same s2 oz, hz.1, sz.mono (by omega)⟩, ⟨oy, hy.1, sy.mono (by omega)⟩, ?_⟩
  by_cases c1 : z.1 * y.2 = y.1 * z.2
  · rw [show cmp2 z y = 0 from if_pos c1]
    refine ⟨_, rfl, _, _, rfl, rfl, _, rfl, if_no (by decide) ?_⟩
    refine ⟨_, rfl, rfl, _, rfl, if_yes (by decide) ?_⟩
    refine ⟨_, rfl, a, [p.1, p.2], rfl, ob_tup oa2, _, rfl, c, [q.1, q.2], rfl, ob_tup oc2, _, _, rfl, rfl, ?_⟩
    refine kk _ ?_
    have e := eq1.mp c1
    unfold nr
    rw [decide_eq_false (show ¬ dst v p * q.2 < dst v q * p.2 by omega), decide_eq_true e, Bool.false_or, Bool.true_and]
    rw [List.sum_cons, List.sum_cons, List.sum_nil, List.sum_cons, List.sum_cons, List.sum_nil]
    simp only [Int.add_zero]
  · rw [show cmp2 z y = if z.1 * y.2 < y.1 * z.2 then -1 else 1 from if_neg c1]
    have e : ¬ dst v p * q.2 = dst v q * p.2 := fun h => c1 (eq1.mpr h)
    by_cases c2 : z.1 * y.2 < y.1 * z.2
    · rw [if_pos c2]
      refine ⟨_, rfl, _, _, rfl, rfl, _, rfl, if_yes (by decide) ?_⟩
      refine kk _ ?_
      unfold nr
      rw [decide_eq_true (lt1.mp c2), Bool.true_or]
    · rw [if_neg c2]
      refine ⟨_, rfl, _, _, rfl, rfl, _, rfl, if_no (by decide) ?_⟩
      refine ⟨_, rfl, rfl, _, rfl, if_no (by decide) ?_⟩
      refine kk _ ?_
      unfold nr
      rw [decide_eq_false (fun h => c2 (lt1.mpr h)), decide_eq_false e, Bool.false_and, Bool.false_or]

end
end My

namespace My
open PySem PySem.Spec PyProof.Rows L2
section
variable {P : Program} {w : World} {K : PySem.W.Frag} {mg : Str → Option Value} {base : Heap}
theorem inB_yes {a b n : Int} (h0 : a ≤ n) (h1 : n ≤ b) : inB a b (.int n) = true := by
  show (decide (a ≤ n) && decide (n ≤ b)) = true
  rw [decide_eq_true h0, decide_eq_true h1]
  rfl
/-- the best pair so far -/
def BestV (K : PySem.W.Frag) (H : Hp) : Option Qt → V → Prop
  | none, x => x = .non
  | some t, x => ∃ c, x = .ref c ∧ ob K H c = some (.tup [.int t.1, .int t.2]) ∧ PairS t
theorem BestV.same {H H' : Hp} (s : Same H H') : ∀ {o : Option Qt} {x : V}, BestV K H o x → BestV K H' o x
  | none, _, h => h
  | some _, _, ⟨c, e, o, p⟩ => ⟨c, e, ob_same s o, p⟩
theorem PairIn.s {lo hi : Int} {p : Qt} (h : PairIn lo hi p) (l0 : 1 ≤ lo) (h1 : hi ≤ 200) : PairS p := ⟨⟨by have := h.1.1; omega, by have := h.1.2; omega⟩, by have := h.2.1; omega, by have := h.2.2; omega⟩
def spTeeth (K : PySem.W.Frag) : Sp := fun vs H Q _ => ∃ (a : Addr) (v : Qt) (lo hi : Int), vs = [.ref a, .int lo, .int hi] ∧ Fq K H 900 a v ∧ 0 < v.1 ∧ 1 ≤ lo ∧ lo ≤ hi ∧ hi ≤ 200 ∧ ∀ c t H', Same H H' → ob K H' c = some (.tup [.int t.1, .int t.2]) → Opt v lo hi t → Q (.ref c) H'
abbrev sTeeth : Stmt := topS 28
theorem scTeeth : FnScope ["value", "least", "most", "best", "driven", "below", "driver", "pair"] ["value", "least", "most"] (defScope sTeeth) := ⟨rfl, rfl, rfl, by decide +kernel, rfl, by decide +kernel, by decide +kernel⟩
theorem k_Teeth {tkM : Tok} (gMT : mg "MOST_PAIR_TEETH" = some (.int 200 tkM)) (d1_fraction : Kn1 P w K mg base 2 "fraction" ["numerator", "denominator"] (spFraction K) (.int 1)) (T : Bt K mg) (D : DfnK2 K mg "teeth_pair" sTeeth ["value", "least", "most"] ["least", "most"]) (d_require : Kn P w K mg base 1 "require" ["well_formed", "what"] spRequire) (d__is_positive : Kn P w K mg base 3 "_is_positive" ["value"] (spPosi K)) (d_is_whole_within : Kn P w K mg base 2 "is_whole_within" ["value", "least", "most"] (spWithin K)) (d__refuse_empty : Kn P w K mg base 1 "_refuse_empty" ["least", "most"] spEmp) (d_floor_of : Kn P w K mg base 3 "floor_of" ["value"] (spFloor K)) (d_times : Kn P w K mg base 3 "times" ["left", "right"] (spBin K pro2)) (d__clamped : Kn P w K mg base 1 "_clamped" ["number", "least", "most"] spClp) (d__is_nearer : Kn P w K mg base 5 "_is_nearer" ["pair", "best", "value"] (spNearer K)) : KnK2 P w K mg base 6 "teeth_pair" ["value", "least", "most"] ["least", "most"] (spTeeth K) := by
  refine KnK2.mk' D scTeeth (fun vs H Q E h => ?_) (fun f cdv A outer s H vs Q E hr h => ?_)
  · obtain ⟨a, v, lo, hi, rfl, _⟩ := h
    rfl
  obtain ⟨a, v, lo, hi, rfl, hv, v0, l0, lh, h2, k⟩ := h
  refine ⟨_, (pss_cons (ps_expr (pe_kn d_require hr (by rfl) (pa_cons (pe_kn d__is_positive hr (by rfl) (pa_cons (pv 0) pa_nil)) (pa_cons pe_str pa_nil))))
      (pss_cons (ps_expr (pe_kn d_require hr (by rfl) (pa_cons (pe_kn d_is_whole_within hr (by rfl) (pa_cons (pv 1) (pa_cons pe_int (pa_cons (pe_glob (v := .int 200) (by rfl) gMT ⟨_, rfl⟩) pa_nil)))) (pa_cons pe_str pa_nil))))
      (pss_cons (ps_expr (pe_kn d_require hr (by rfl) (pa_cons (pe_kn d_is_whole_within hr (by rfl) (pa_cons (pv 2) (pa_cons pe_int (pa_cons (pe_glob (v := .int 200) (by rfl) gMT ⟨_, rfl⟩) pa_nil)))) (pa_cons pe_str pa_nil))))
      (pss_cons (ps_expr (pe_kn d__refuse_empty hr (by rfl) (pa_cons (pv 1) (pa_cons (pv 2) pa_nil))))
      (pss_cons (ps_set (i := 3) scTeeth.nd rfl (.inl rfl) pe_non)
      (pss_cons (ps_for PassesOwn.never rfl (pi_range2 (by rfl) T.b_range (pa_cons (pv 1) (pa_cons (pe_op op_add (pv 2) pe_int) pa_nil))) (pg_name (i := 4) scTeeth.nd rfl (.inl rfl)) (pss_cons (ps_set (i := 5) scTeeth.nd rfl (.inl rfl) (pe_kn d_floor_of hr (by rfl) (pa_cons (pe_kn d_times hr (by rfl) (pa_cons (pv 0) (pa_cons (pe_kn1 d1_fraction hr (by rfl) (pa_cons (pv 4) pa_nil)) pa_nil))) pa_nil)))
      (pss_one (ps_for PassesOwn.never rfl (pi_tup (pe_tp (pa_cons (pe_kn d__clamped hr (by rfl) (pa_cons (pv 5) (pa_cons (pv 1) (pa_cons (pv 2) pa_nil)))) (pa_cons (pe_kn d__clamped hr (by rfl) (pa_cons (pe_op op_add (pv 5) pe_int) (pa_cons (pv 1) (pa_cons (pv 2) pa_nil)))) pa_nil)))) (pg_name (i := 6) scTeeth.nd rfl (.inl rfl)) (pss_cons (ps_set (i := 7) scTeeth.nd rfl (.inl rfl) (pe_tp (pa_cons (pv 6) (pa_cons (pv 4) pa_nil))))
      (pss_one (ps_if (PW.pt (pw_or (pt_cmpR op_isN (pv 3) pe_non (nomark _)) (pw_or1 (pt_val (pe_kn d__is_nearer hr (by rfl) (pa_cons (pv 7) (pa_cons (pv 3) (pa_cons (pv 0) pa_nil)))))))) (pss_one (ps_set (i := 3) scTeeth.nd rfl (.inl rfl) (pv 7))) pss_nil)))))))
      (pss_one (ps_ret (pv 3))))))))), ?_⟩
  have v2 := hv.nf.1
  have hw1 : inB 1 200 (.int lo) = true := inB_yes (by omega) (by omega)
  have hw2 : inB 1 200 (.int hi) = true := inB_yes (by omega) (by omega)
  refine ⟨_, rfl, a, v, rfl, hv.mono (by omega), v0, _, rfl, ?_⟩
  refine ⟨_, rfl, .int lo, 1, 200, rfl, Wh.int lo, ?_⟩
  rw [hw1]
  refine ⟨_, rfl, _, rfl, .int hi, 1, 200, rfl, Wh.int hi, ?_⟩
  rw [hw2]
  refine ⟨_, rfl, _, rfl, _, rfl, lo, hi, rfl, lh, ?_⟩
  have one : (1 : Int).natAbs < 2 ^ 8000 := Nat.one_lt_two_pow (by decide)
  obtain ⟨N, hN⟩ : ∃ N : Nat, lo + (N : Int) = hi + 1 := ⟨(hi + 1 - lo).toNat, by omega⟩
  refine ⟨_, rfl, _, rfl, _, _, rfl, rfl, lo, hi + 1, rfl, ⟨by omega, by omega, by omega, by omega⟩, ?_⟩
  rw [show (hi + 1 - lo).toNat = N by omega]
  refine forI_range (lo := lo) (n := N) (fun i σ H' => ∃ x x4 x5 x6 x7, σ = [some (.ref a), some (.int lo), some (.int hi), some x, x4, x5, x6, x7] ∧ BestV K H' ((cndU v lo hi i).foldl (stpO v) none) x ∧ Same H H') ⟨.non, none, none, none, none, rfl, rfl, Same.refl H⟩ ?_ ?_
  · rintro i σ H' hi' ⟨x, x4, x5, x6, x7, rfl, hx, s1⟩
    have hv1 := hv.same s1
    refine ⟨_, rfl, _, rfl, _, 1, rfl, by decide, one, fun f hf c H1 s2 oc => ?_⟩
    obtain rfl := is_int hf
    have hv2 := hv1.same s2
    have sf : Sz 100 (lo + (i : Int), 1) := ⟨by show (lo + (i : Int)).natAbs < 2 ^ 100; omega, by show (1 : Int).natAbs < 2 ^ 100; decide⟩
    refine ⟨a, c, v, (lo + (i : Int), 1), rfl, hv2.mono (by omega), ⟨oc, hf.1, sf.mono (by omega)⟩, fun z hz d H2 s3 od => ?_⟩
    have sz : Sz 1010 z := pro_sz hz hv.nf hf.1 hv.sz sf (by omega)
    have hz' : Is z (v.1 * (lo + (i : Int))) (v.2 * 1) := hz
    rw [Int.mul_one] at hz'
    have ef : z.1 / z.2 = v.1 * (lo + (i : Int)) / v.2 := is_floor (by omega) hz'
    refine ⟨d, z, rfl, ⟨od, hz.1, sz.mono (by omega)⟩, ?_⟩
    rw [ef]
    have s03 := (s1.trans s2).trans s3
    have hv3 := hv.same s03
    have hx3 := (hx.same s2).same s3
    refine ⟨_, rfl, _, rfl, _, rfl, _, lo, hi, rfl, _, rfl, _, _, rfl, rfl, _, rfl, _, rfl, _, lo, hi, rfl, sz2 (by show 2 ≤ 100; decide), fun p hp kp => ?_⟩
    have sP := Same.new hp (.tup [V.int (clp lo hi (v.1 * (lo + (i : Int)) / v.2)), .int (clp lo hi (v.1 * (lo + (i : Int)) / v.2 + 1))])
    have op : ob K (upd H2 p (.tup [V.int (clp lo hi (v.1 * (lo + (i : Int)) / v.2)), .int (clp lo hi (v.1 * (lo + (i : Int)) / v.2 + 1))])) p = some (.tup ((cnd v lo hi (lo + (i : Int))).map fun c => V.int c.1)) := ob_new kp
    have cin : ∀ c ∈ cnd v lo hi (lo + (i : Int)), PairIn lo hi c ∧ c.2 = lo + (i : Int) := fun c hc => ⟨cnd_in lh (by omega) (by omega) hc, by
      unfold cnd at hc
      simp only [List.mem_cons, List.not_mem_nil, or_false] at hc
      rcases hc with rfl | rfl <;> rfl⟩
    have s04 := s03.trans sP
    have hx4 := hx3.same sP
    have hv4 := hv3.same sP
    generalize upd H2 p (.tup [V.int (clp lo hi (v.1 * (lo + (i : Int)) / v.2)), .int (clp lo hi (v.1 * (lo + (i : Int)) / v.2 + 1))]) = H3 at s04 hx4 hv4 op ⊢
    clear sP hx3 hv3 s03 hx
    refine ⟨p, rfl, ⟨_, ob_tup op⟩, ?_⟩
    refine forI_tup (xs := (cnd v lo hi (lo + (i : Int))).map fun c => V.int c.1) (fun j σ H' => ∃ x x6 x7, σ = [some (.ref a), some (.int lo), some (.int hi), some x, some (.int (lo + (i : Int))), some (.int (v.1 * (lo + (i : Int)) / v.2)), x6, x7] ∧ BestV K H' ((cndU v lo hi i ++ (cnd v lo hi (lo + (i : Int))).take j).foldl (stpO v) none) x ∧ Same H3 H') ⟨x, x6, x7, rfl, ?_, Same.refl H3⟩ (fun j σ H' _ h => by obtain ⟨_, _, _, _, _, s⟩ := h; exact ob_tup (ob_same s op)) ?_ ?_
    · rw [List.take_zero, List.append_nil]
      exact hx4
    · rintro j y σ H' hj ⟨x, x6, x7, rfl, hx, s5⟩
      rw [List.getElem?_map] at hj
      obtain ⟨cj, hcj, rfl⟩ := Option.map_eq_some_iff.mp hj
      obtain ⟨pin, pc2⟩ := cin cj (List.mem_of_getElem? hcj)
      have ef : ((cndU v lo hi i ++ (cnd v lo hi (lo + (i : Int))).take (j + 1)).foldl (stpO v) none) = stpO v ((cndU v lo hi i ++ (cnd v lo hi (lo + (i : Int))).take j).foldl (stpO v) none) cj := by
        rw [List.take_succ, hcj, ← List.append_assoc, List.foldl_append]
        rfl
      rw [ef]
      generalize (cndU v lo hi i ++ (cnd v lo hi (lo + (i : Int))).take j).foldl (stpO v) none = o at hx ⊢
      refine ⟨_, rfl, _, rfl, sz2 (by show 2 ≤ 100; decide), fun u hu ku => ?_⟩
      have sU := Same.new hu (.tup [V.int cj.1, .int (lo + (i : Int))])
      have ou : ob K (upd H' u (.tup [V.int cj.1, .int (lo + (i : Int))])) u = some (.tup [V.int cj.1, .int cj.2]) := by
        rw [pc2]
        exact ob_new ku
      have hx := hx.same sU
      have s5U := s5.trans sU
      have hv5 := hv4.same s5U
      generalize upd H' u (.tup [V.int cj.1, .int (lo + (i : Int))]) = H5 at ou hx s5U hv5 ⊢
      have ps := pin.s l0 h2
      cases o with
      | none =>
        obtain rfl : x = .non := hx
        exact ⟨_, rfl, rfl, _, rfl, if_yes (decide_eq_true rfl) (if_yes rfl ⟨_, rfl, .ref u, _, _, rfl, ⟨u, rfl, ou, ps⟩, s5U⟩)⟩
      | some t =>
        obtain ⟨c', rfl, oc', pt⟩ := hx
        refine ⟨_, rfl, rfl, _, rfl, if_no (decide_eq_false (fun z => by cases z)) ?_⟩
        refine ⟨_, rfl, _, rfl, _, rfl, u, c', a, cj, t, v, rfl, ou, ps, oc', pt, hv5.mono (by omega), fun H6 s6 => ⟨_, rfl, ite2 (fun hn => ?_) (fun hn => ?_)⟩⟩
        · refine ⟨_, rfl, .ref u, _, _, rfl, ?_, s5U.trans s6⟩
          rw [show stpO v (some t) cj = some cj from congrArg some (if_pos hn)]
          exact ⟨u, rfl, ob_same s6 ou, ps⟩
        · refine ⟨.ref c', _, _, rfl, ?_, s5U.trans s6⟩
          rw [show stpO v (some t) cj = some t from congrArg some (if_neg hn)]
          exact ⟨c', rfl, ob_same s6 oc', pt⟩
    · rintro σ H' ⟨x, x6, x7, rfl, hx, s5⟩
      rw [List.length_map, List.take_length, ← cndU_s] at hx
      exact ⟨x, _, _, _, _, rfl, hx, s04.trans s5⟩
  · rintro σ H' ⟨x, x4, x5, x6, x7, rfl, hx, s1⟩
    have hl := clp_in (lo := lo) (hi := hi) (x := lo) lh
    have hb : PairIn lo hi (lo, lo) := ⟨⟨Int.le_refl _, lh⟩, Int.le_refl _, lh⟩
    rw [foldO_opt (by omega) v0 l0 lh hN hb] at hx
    obtain ⟨c, rfl, oc, _⟩ := hx
    exact ⟨_, rfl, k c _ H' s1 oc (fold_opt (by omega) l0 lh hN hb)⟩

end
end My

namespace My
open PySem PySem.Spec PyProof.Rows L2
section
variable {P : Program} {w : World} {K : PySem.W.Frag} {mg : Str → Option Value} {base : Heap}
/-- the sign of the comparing -/
def fsg (v p q : Qt) : Int := (if dst v p * q.2 > dst v q * p.2 then 1 else 0) - (if dst v p * q.2 < dst v q * p.2 then 1 else 0)
theorem fsg_nr (v p q : Qt) : nr v p q = (decide (fsg v p q < 0) || (decide (fsg v p q = 0) && decide (p.1 + p.2 < q.1 + q.2))) := by
  unfold nr fsg
  rcases Int.lt_trichotomy (dst v p * q.2) (dst v q * p.2) with h | h | h
  · rw [if_neg (by omega), if_pos h, decide_eq_true h]
    rfl
  · rw [if_neg (by omega), if_neg (by omega), decide_eq_false (by omega), decide_eq_true h]
    rfl
  · rw [if_pos h, if_neg (by omega), decide_eq_false (by omega), decide_eq_false (by omega)]
    rfl
def spFar (K : PySem.W.Frag) : Sp := fun vs H Q _ => ∃ (a c b : Addr) (p q v : Qt), vs = [.ref a, .ref c, .ref b] ∧ ob K H a = some (.tup [.int p.1, .int p.2]) ∧ PairS p ∧ ob K H c = some (.tup [.int q.1, .int q.2]) ∧ PairS q ∧ Fq K H 1000 b v ∧ Q (.int (fsg v p q)) H
def spDueT (K : PySem.W.Frag) : Sp := fun vs H Q _ => ∃ (a : Addr) (v : Qt) (lo hi : Int), vs = [.ref a, .int lo, .int hi] ∧ Fq K H 900 a v ∧ 1 ≤ lo ∧ lo ≤ hi ∧ hi ≤ 200 ∧ ∀ c t H', Same H H' → ob K H' c = some (.tup [.int t.1, .int t.2]) → Opt v lo hi t → Q (.ref c) H'
abbrev sFar : Stmt := topS 59
theorem scFar : FnScope ["_law_pair", "_law_other", "_law_value", "_law_gap", "_law_other_gap"] ["_law_pair", "_law_other", "_law_value"] (defScope sFar) := ⟨rfl, rfl, rfl, by decide +kernel, rfl, by decide +kernel, by decide +kernel⟩
theorem k_Far (T : Bt K mg) (D : Dfn K mg "_law_farther" sFar ["_law_pair", "_law_other", "_law_value"]) : Kn P w K mg base 1 "_law_farther" ["_law_pair", "_law_other", "_law_value"] (spFar K) := by
  refine Kn.mk' D scFar (fun vs H Q E h => ?_) (fun f cdv A outer s H vs Q E hr h => ?_)
  · obtain ⟨a, c, b, p, q, v, rfl, _⟩ := h
    rfl
  obtain ⟨a, c, b, p, q, v, rfl, oa, hp, oc, hq, hv, k⟩ := h
  refine ⟨_, (pss_cons (ps_set (i := 3) scFar.nd rfl (.inl rfl) (pe_op op_mulW (pe_callB call_abs (by rfl) T.b_abs (by decide +kernel) (pa_cons (pe_op op_sub (pe_op op_mulW (pe_ix ix_any (pv 0) pe_int (fun _ _ => rfl)) (pe_ix ix_any (pv 2) pe_int (fun _ _ => rfl))) (pe_op op_mulW (pe_ix ix_any (pv 2) pe_int (fun _ _ => rfl)) (pe_ix ix_any (pv 0) pe_int (fun _ _ => rfl)))) pa_nil)) (pe_ix ix_any (pv 1) pe_int (fun _ _ => rfl))))
      (pss_cons (ps_set (i := 4) scFar.nd rfl (.inl rfl) (pe_op op_mulW (pe_callB call_abs (by rfl) T.b_abs (by decide +kernel) (pa_cons (pe_op op_sub (pe_op op_mulW (pe_ix ix_any (pv 1) pe_int (fun _ _ => rfl)) (pe_ix ix_any (pv 2) pe_int (fun _ _ => rfl))) (pe_op op_mulW (pe_ix ix_any (pv 2) pe_int (fun _ _ => rfl)) (pe_ix ix_any (pv 1) pe_int (fun _ _ => rfl)))) pa_nil)) (pe_ix ix_any (pv 0) pe_int (fun _ _ => rfl))))
      (pss_one (ps_ret (pe_op op_sub (pe_callTy call_int1 (by rfl) T.b_int (by decide +kernel) (pa_cons (pe_cmpR op_gt (pv 3) (pv 4) (nomark _)) pa_nil)) (pe_callTy call_int1 (by rfl) T.b_int (by decide +kernel) (pa_cons (pe_cmpR op_lt (pv 3) (pv 4) (nomark _)) pa_nil))))))), ?_⟩
  obtain ⟨⟨p0, p1⟩, p2, p3⟩ := hp
  obtain ⟨⟨q0, q1⟩, q2, q3⟩ := hq
  have sv := hv.sz
  have b9 : ∀ x : Int, 1 ≤ x → x ≤ 200 → x.natAbs < 2 ^ 9 := fun x h0 h1 => by omega
  have dz : ∀ x y : Int, 1 ≤ x → x ≤ 200 → 1 ≤ y → y ≤ 200 → ((if x * v.2 - v.1 * y < 0 then -(x * v.2 - v.1 * y) else x * v.2 - v.1 * y) : Int).natAbs < 2 ^ 1020 := fun x y h0 h1 h2 h3 => by
    have u1 : (x * v.2).natAbs < 2 ^ 1019 := szMono (szMul (b9 x h0 h1) sv.2) (by omega)
    have u2 : (v.1 * y).natAbs < 2 ^ 1019 := szMono (szMul sv.1 (b9 y h2 h3)) (by omega)
    have e : (2 : Nat) ^ 1020 = 2 ^ 1019 * 2 := by rw [← Nat.pow_succ]
    generalize (2 : Nat) ^ 1019 = M at u1 u2 e
    rw [e]
    split <;> omega
  have mv : ∀ x : Int, 1 ≤ x → x ≤ 200 → CMulW x v.2 := fun x h0 h1 => mulW (b9 x h0 h1) sv.2 (by omega)
  have vm : ∀ x : Int, 1 ≤ x → x ≤ 200 → CMulW v.1 x := fun x h0 h1 => mulW sv.1 (b9 x h0 h1) (by omega)
  refine ⟨_, rfl, a, 0, rfl, rfl, _, itsO_of oa, _, atI_0 _ _, _, rfl, b, 1, rfl, rfl, _, itsO_of hv.o, _, atI_1 _ _ _, _, _, rfl, rfl, mv _ p0 p1, _, rfl, b, 0, rfl, rfl, _, itsO_of hv.o, _, atI_0 _ _, _, rfl, a, 1, rfl, rfl, _, itsO_of oa, _, atI_1 _ _ _, _, _, rfl, rfl, vm _ p2 p3, _, _, rfl, rfl, _, rfl, ?_⟩
  refine ⟨_, rfl, c, 1, rfl, rfl, _, itsO_of oc, _, atI_1 _ _ _, _, _, rfl, rfl, mulW (dz p.1 p.2 p0 p1 p2 p3) (b9 _ q2 q3) (by omega), ?_⟩
  refine ⟨_, rfl, c, 0, rfl, rfl, _, itsO_of oc, _, atI_0 _ _, _, rfl, b, 1, rfl, rfl, _, itsO_of hv.o, _, atI_1 _ _ _, _, _, rfl, rfl, mv _ q0 q1, _, rfl, b, 0, rfl, rfl, _, itsO_of hv.o, _, atI_0 _ _, _, rfl, c, 1, rfl, rfl, _, itsO_of oc, _, atI_1 _ _ _, _, _, rfl, rfl, vm _ q2 q3, _, _, rfl, rfl, _, rfl, ?_⟩
  refine ⟨_, rfl, a, 1, rfl, rfl, _, itsO_of oa, _, atI_1 _ _ _, _, _, rfl, rfl, mulW (dz q.1 q.2 q0 q1 q2 q3) (b9 _ p2 p3) (by omega), ?_⟩
  refine ⟨_, rfl, _, rfl, _, _, rfl, rfl, .inr ⟨_, rfl, ?_⟩⟩
  refine ⟨_, rfl, _, rfl, _, _, rfl, rfl, .inr ⟨_, rfl, _, _, rfl, rfl, ?_⟩⟩
  have e : fsg v p q = (if decide ((if q.1 * v.2 - v.1 * q.2 < 0 then -(q.1 * v.2 - v.1 * q.2) else q.1 * v.2 - v.1 * q.2) * p.2 < (if p.1 * v.2 - v.1 * p.2 < 0 then -(p.1 * v.2 - v.1 * p.2) else p.1 * v.2 - v.1 * p.2) * q.2) = true then (1 : Int) else 0) - (if decide ((if p.1 * v.2 - v.1 * p.2 < 0 then -(p.1 * v.2 - v.1 * p.2) else p.1 * v.2 - v.1 * p.2) * q.2 < (if q.1 * v.2 - v.1 * q.2 < 0 then -(q.1 * v.2 - v.1 * q.2) else q.1 * v.2 - v.1 * q.2) * p.2) = true then 1 else 0) := by
    rw [abs_if, abs_if]
    simp only [decide_eq_true_eq]
    rfl
  rw [e] at k
  exact k

abbrev sDueT : Stmt := topS 60
theorem scDueT : FnScope ["_law_value", "_law_low", "_law_high", "_law_best", "_law_driven", "_law_base", "_law_driver", "_law_pair", "_law_sign"] ["_law_value", "_law_low", "_law_high"] (defScope sDueT) := ⟨rfl, rfl, rfl, by decide +kernel, rfl, by decide +kernel, by decide +kernel⟩
theorem k_DueT (zU : mg "sum" = none) (T : Bt K mg) (D : Dfn K mg "_law_due" sDueT ["_law_value", "_law_low", "_law_high"]) (d__law_farther : Kn P w K mg base 1 "_law_farther" ["_law_pair", "_law_other", "_law_value"] (spFar K)) : Kn P w K mg base 3 "_law_due" ["_law_value", "_law_low", "_law_high"] (spDueT K) := by
  refine Kn.mk' D scDueT (fun vs H Q E h => ?_) (fun f cdv A outer s H vs Q E hr h => ?_)
  · obtain ⟨a, v, lo, hi, rfl, _⟩ := h
    rfl
  obtain ⟨a, v, lo, hi, rfl, hv, l0, lh, h2, k⟩ := h
  refine ⟨_, (pss_cons (ps_set (i := 3) scDueT.nd rfl (.inl rfl) (pe_tp (pa_cons (pv 1) (pa_cons (pv 1) pa_nil))))
      (pss_cons (ps_for PassesOwn.never rfl (pi_range2 (by rfl) T.b_range (pa_cons (pv 1) (pa_cons (pe_op op_add (pv 2) pe_int) pa_nil))) (pg_name (i := 4) scDueT.nd rfl (.inl rfl)) (pss_cons (ps_set (i := 5) scDueT.nd rfl (.inl rfl) (pe_op op_fdivX (pe_op op_mulW (pe_ix ix_any (pv 0) pe_int (fun _ _ => rfl)) (pv 4)) (pe_ix ix_any (pv 0) pe_int (fun _ _ => rfl))))
      (pss_one (ps_for PassesOwn.never rfl (pi_list (pe_ls (pa_cons (pv 5) (pa_cons (pe_op op_add (pv 5) pe_int) pa_nil)))) (pg_name (i := 6) scDueT.nd rfl (.inl rfl)) (pss_cons (ps_set (i := 7) scDueT.nd rfl (.inl rfl) (pe_tp (pa_cons (pe_callB (call_min2 rfl) (by rfl) T.b_min (by decide +kernel) (pa_cons (pe_callB (call_max2 rfl) (by rfl) T.b_max (by decide +kernel) (pa_cons (pv 6) (pa_cons (pv 1) pa_nil))) (pa_cons (pv 2) pa_nil))) (pa_cons (pv 4) pa_nil))))
      (pss_cons (ps_set (i := 8) scDueT.nd rfl (.inl rfl) (pe_kn d__law_farther hr (by rfl) (pa_cons (pv 7) (pa_cons (pv 3) (pa_cons (pv 0) pa_nil)))))
      (pss_one (ps_if (PW.pt (pw_or (pt_cmpR op_lt (pv 8) pe_int (nomark _)) (pw_or1 (PW.pt (pw_and (pt_cmpR op_eq (pv 8) pe_int (nomark _)) (pw_and1 (pt_cmpR op_lt (pe_callB (cr_sumT rfl) (by rfl) zU (by decide +kernel) (pa_cons (pv 7) pa_nil)) (pe_callB (cr_sumT rfl) (by rfl) zU (by decide +kernel) (pa_cons (pv 3) pa_nil)) (nomark _)))))))) (pss_one (ps_set (i := 3) scDueT.nd rfl (.inl rfl) (pv 7))) pss_nil))))))))
      (pss_one (ps_ret (pv 3))))), ?_⟩
  have v2 := hv.nf.1
  have hb0 : PairIn lo hi (lo, lo) := ⟨⟨Int.le_refl _, lh⟩, Int.le_refl _, lh⟩
  obtain ⟨N, hN⟩ : ∃ N : Nat, lo + (N : Int) = hi + 1 := ⟨(hi + 1 - lo).toNat, by omega⟩
  refine ⟨_, rfl, _, rfl, sz2 (by show 2 ≤ 100; decide), fun p0 hp0 kp0 => ?_⟩
  have s0 := Same.new hp0 (.tup [V.int lo, .int lo])
  have o0 := ob_new (K := K) (H := H) (o := .tup [V.int lo, .int lo]) kp0
  generalize upd H p0 (.tup [V.int lo, .int lo]) = H0 at s0 o0 ⊢
  refine ⟨_, rfl, _, rfl, _, _, rfl, rfl, lo, hi + 1, rfl, ⟨by omega, by omega, by omega, by omega⟩, ?_⟩
  rw [show (hi + 1 - lo).toNat = N by omega]
  refine forI_range (lo := lo) (n := N) (fun i σ H' => ∃ c t x4 x5 x6 x7 x8, σ = [some (.ref a), some (.int lo), some (.int hi), some (.ref c), x4, x5, x6, x7, x8] ∧ ob K H' c = some (.tup [.int t.1, .int t.2]) ∧ PairS t ∧ (cndU v lo hi i).foldl (stp v) (lo, lo) = t ∧ Same H H') ⟨p0, (lo, lo), none, none, none, none, none, rfl, o0, hb0.s l0 h2, rfl, s0⟩ ?_ ?_
  · rintro i σ H' hi' ⟨c, t, x4, x5, x6, x7, x8, rfl, oc, pt, et, s1⟩
    have hv1 := hv.same s1
    have li : (lo + (i : Int)).natAbs < 2 ^ 9 := by omega
    refine ⟨_, rfl, a, 0, rfl, rfl, _, itsO_of hv1.o, _, atI_0 _ _, _, rfl, _, _, rfl, rfl, mulW hv.sz.1 li (by omega), _, rfl, a, 1, rfl, rfl, _, itsO_of hv1.o, _, atI_1 _ _ _, _, _, rfl, rfl, ⟨by omega, Nat.lt_of_lt_of_le hv.sz.2 (Nat.pow_le_pow_right (by decide) (by decide))⟩, ?_⟩
    have eb : (v.1 * (lo + (i : Int))).fdiv v.2 = v.1 * (lo + (i : Int)) / v.2 := Int.fdiv_eq_ediv_of_nonneg _ (by omega)
    refine ⟨_, rfl, _, rfl, _, _, rfl, rfl, sz2 (by show 2 ≤ 100; decide), fun p hp kp => ?_⟩
    rw [show upd H' p (HO.lst [V.int ((v.1 * (lo + (i : Int))).fdiv v.2), (fun (i j : Int) => V.int (i + j)) ((v.1 * (lo + (i : Int))).fdiv v.2) 1]) = upd H' p (HO.lst ([v.1 * (lo + (i : Int)) / v.2, v.1 * (lo + (i : Int)) / v.2 + 1].map V.int)) by rw [eb]; rfl]
    have sP := Same.new hp (.lst ([v.1 * (lo + (i : Int)) / v.2, v.1 * (lo + (i : Int)) / v.2 + 1].map V.int))
    have eL : upd H' p (.lst ([v.1 * (lo + (i : Int)) / v.2, v.1 * (lo + (i : Int)) / v.2 + 1].map V.int)) p = some (.lst ([v.1 * (lo + (i : Int)) / v.2, v.1 * (lo + (i : Int)) / v.2 + 1].map V.int)) := upd_same
    have ec : cnd v lo hi (lo + (i : Int)) = [v.1 * (lo + (i : Int)) / v.2, v.1 * (lo + (i : Int)) / v.2 + 1].map fun y => (clp lo hi y, lo + (i : Int)) := rfl
    have cin : ∀ c ∈ cnd v lo hi (lo + (i : Int)), PairIn lo hi c := fun c hc => cnd_in lh (by omega) (by omega) hc
    have ev : (fun (i j : Int) => V.int (i.fdiv j)) (v.1 * (lo + (i : Int))) v.2 = V.int (v.1 * (lo + (i : Int)) / v.2) := congrArg V.int eb
    rw [ev]
    have oc := ob_same sP oc
    have s2 := s1.trans sP
    have hv2 := hv1.same sP
    generalize upd H' p (.lst ([v.1 * (lo + (i : Int)) / v.2, v.1 * (lo + (i : Int)) / v.2 + 1].map V.int)) = H2 at eL oc s2 hv2 ⊢
    generalize hys : [v.1 * (lo + (i : Int)) / v.2, v.1 * (lo + (i : Int)) / v.2 + 1] = ys at ec eL ⊢
    clear sP s1 hv1
    refine ⟨p, rfl, ⟨_, .of eL⟩, forI_list (xs := ys.map V.int) (fun j σ H' => ∃ c t x6 x7 x8, σ = [some (.ref a), some (.int lo), some (.int hi), some (.ref c), some (.int (lo + (i : Int))), some (.int (v.1 * (lo + (i : Int)) / v.2)), x6, x7, x8] ∧ ob K H' c = some (.tup [.int t.1, .int t.2]) ∧ PairS t ∧ (cndU v lo hi i ++ (cnd v lo hi (lo + (i : Int))).take j).foldl (stp v) (lo, lo) = t ∧ Same H2 H') ⟨c, t, x6, x7, x8, rfl, oc, pt, ?_, Same.refl H2⟩ (fun j σ H' _ h => by obtain ⟨_, _, _, _, _, _, _, _, _, s⟩ := h; exact .of (s _ _ eL)) ?_ ?_⟩
    · rw [List.take_zero, List.append_nil]
      exact et
    · rintro j y σ H3 hj ⟨c, t, x6, x7, x8, rfl, oc, pt, et, s5⟩
      rw [List.getElem?_map] at hj
      obtain ⟨y, hy, rfl⟩ := Option.map_eq_some_iff.mp hj
      have hcj : (cnd v lo hi (lo + (i : Int)))[j]? = some (clp lo hi y, lo + (i : Int)) := by rw [ec, List.getElem?_map, hy]; rfl
      have pin := cin _ (List.mem_of_getElem? hcj)
      have ef : ((cndU v lo hi i ++ (cnd v lo hi (lo + (i : Int))).take (j + 1)).foldl (stp v) (lo, lo)) = stp v t (clp lo hi y, lo + (i : Int)) := by
        rw [List.take_succ, hcj, ← List.append_assoc, List.foldl_append, et]
        rfl
      refine ⟨_, rfl, _, rfl, y, lo, rfl, _, rfl, _, hi, rfl, _, rfl, sz2 (by show 2 ≤ 100; decide), fun u hu ku => ?_⟩
      have em : (if hi < (if lo > y then lo else y) then hi else (if lo > y then lo else y)) = clp lo hi y := by
        unfold clp
        split <;> split <;> omega
      rw [em]
      have sU := Same.new hu (.tup [V.int (clp lo hi y), .int (lo + (i : Int))])
      have ou : ob K (upd H3 u (.tup [V.int (clp lo hi y), .int (lo + (i : Int))])) u = some (.tup [V.int (clp lo hi y, lo + (i : Int)).1, .int (clp lo hi y, lo + (i : Int)).2]) := ob_new ku
      have oc := ob_same sU oc
      have s5U := s5.trans sU
      have hv5 := hv2.same s5U
      generalize upd H3 u (.tup [V.int (clp lo hi y), .int (lo + (i : Int))]) = H5 at ou oc s5U hv5 ⊢
      have ps := pin.s l0 h2
      generalize (clp lo hi y, lo + (i : Int)) = cj at ou ps ef ⊢
      refine ⟨_, rfl, _, rfl, _, rfl, u, c, a, cj, t, v, rfl, ou, ps, oc, pt, hv5.mono (by omega), ?_⟩
      have yes : nr v cj t = true → ∃ c' t' x6 x7 x8, ([some (.ref a), some (.int lo), some (.int hi), some (.ref u), some (.int (lo + (i : Int))), some (.int (v.1 * (lo + (i : Int)) / v.2)), some (.int y), some (.ref u), some (.int (fsg v cj t))] : L2.St) = [some (.ref a), some (.int lo), some (.int hi), some (.ref c'), some (.int (lo + (i : Int))), some (.int (v.1 * (lo + (i : Int)) / v.2)), x6, x7, x8] ∧ ob K H5 c' = some (.tup [.int t'.1, .int t'.2]) ∧ PairS t' ∧ (cndU v lo hi i ++ (cnd v lo hi (lo + (i : Int))).take (j + 1)).foldl (stp v) (lo, lo) = t' ∧ Same H2 H5 := fun h => ⟨u, cj, _, _, _, rfl, ou, ps, ef.trans (if_pos h), s5U⟩
      have no : nr v cj t = false → ∃ c' t' x6 x7 x8, ([some (.ref a), some (.int lo), some (.int hi), some (.ref c), some (.int (lo + (i : Int))), some (.int (v.1 * (lo + (i : Int)) / v.2)), some (.int y), some (.ref u), some (.int (fsg v cj t))] : L2.St) = [some (.ref a), some (.int lo), some (.int hi), some (.ref c'), some (.int (lo + (i : Int))), some (.int (v.1 * (lo + (i : Int)) / v.2)), x6, x7, x8] ∧ ob K H5 c' = some (.tup [.int t'.1, .int t'.2]) ∧ PairS t' ∧ (cndU v lo hi i ++ (cnd v lo hi (lo + (i : Int))).take (j + 1)).foldl (stp v) (lo, lo) = t' ∧ Same H2 H5 := fun h => ⟨c, t, _, _, _, rfl, oc, pt, ef.trans (if_neg (by rw [h]; decide)), s5U⟩
      have en := fsg_nr v cj t
      by_cases h1 : fsg v cj t < 0
      · rw [decide_eq_true h1, Bool.true_or] at en
        exact ⟨_, rfl, _, _, rfl, rfl, _, rfl, if_yes (decide_eq_true h1) (if_yes rfl ⟨_, rfl, yes en⟩)⟩
      · rw [decide_eq_false h1, Bool.false_or] at en
        refine ⟨_, rfl, _, _, rfl, rfl, _, rfl, if_no (decide_eq_false h1) ?_⟩
        by_cases h0 : fsg v cj t = 0
        · rw [decide_eq_true h0, Bool.true_and] at en
          refine ⟨_, rfl, rfl, _, rfl, if_yes (decide_eq_true (congrArg V.int h0)) ?_⟩
          refine ⟨_, rfl, u, [cj.1, cj.2], rfl, ob_tup ou, _, rfl, c, [t.1, t.2], rfl, ob_tup oc, _, _, rfl, rfl, _, rfl, ite2 (fun h3 => ?_) (fun h3 => ?_)⟩
          · refine ⟨_, rfl, yes ?_⟩
            rw [en]
            simpa using h3
          · refine no ?_
            rw [en]
            simpa using h3
        · rw [decide_eq_false h0, Bool.false_and] at en
          exact ⟨_, rfl, rfl, _, rfl, if_no (decide_eq_false (fun z => h0 (V.int.inj z))) (if_no rfl (no en))⟩
    · rintro σ H3 ⟨c, t, x6, x7, x8, rfl, oc, pt, et, s5⟩
      rw [List.length_map, show ys.length = (cnd v lo hi (lo + (i : Int))).length by rw [ec, List.length_map], List.take_length, ← cndU_s] at et
      exact ⟨c, t, _, _, _, _, _, rfl, oc, pt, et, s2.trans s5⟩
  · rintro σ H' ⟨c, t, x4, x5, x6, x7, x8, rfl, oc, pt, et, s1⟩
    subst et
    exact ⟨_, rfl, k c _ H' s1 oc (fold_opt (by omega) l0 lh hN hb0)⟩

end
end My

namespace My
open PySem PySem.Spec PyProof.Rows L2
section
variable {P : Program} {w : World} {K : PySem.W.Frag} {mg : Str → Option Value} {base : Heap}
def spRange (K : PySem.W.Frag) : Sp := fun vs H Q _ => ∃ (s : Addr) (lo hi : Int), vs = [.ref s, .int lo, .int hi] ∧ Sto K H s ∧ 0 ≤ lo ∧ hi < 2 ^ 100 ∧ ∀ r H', lo ≤ r → (r ≤ hi ∨ (hi ≤ lo ∧ r = lo)) → (hi ≤ lo → r = lo) → Kp s H H' → Sto K H' s → Q (.int r) H'
abbrev sRange : Stmt := topS 39
theorem scRange : FnScope ["_law_store_here", "_law_low", "_law_high", "_law_spot"] ["_law_store_here", "_law_low", "_law_high"] (defScope sRange) := ⟨rfl, rfl, rfl, by decide +kernel, rfl, by decide +kernel, by decide +kernel⟩
theorem k_Range (T : Bt K mg) (D : Dfn K mg "_law_range" sRange ["_law_store_here", "_law_low", "_law_high"]) (d__law_take : Kn P w K mg base 2 "_law_take" ["_law_store_here", "_law_many"] (spTake K)) : Kn P w K mg base 3 "_law_range" ["_law_store_here", "_law_low", "_law_high"] (spRange K) := by
  refine Kn.mk' D scRange (fun vs H Q E h => ?_) (fun f cdv A outer s H vs Q E hr h => ?_)
  · obtain ⟨s, lo, hi, rfl, _⟩ := h
    rfl
  obtain ⟨s, lo, hi, rfl, hS, l0, h1, k⟩ := h
  refine ⟨_, (pss_cons (ps_set (i := 3) scRange.nd rfl (.inl rfl) (pe_kn d__law_take hr (by rfl) (pa_cons (pv 0) (pa_cons pe_int pa_nil))))
      (pss_cons (ps_if (PW.pt (pw_or (pt_cmpR op_eq (pv 3) pe_int (nomark _)) (pw_or1 (pt_cmpR op_le (pv 2) (pv 1) (nomark _))))) (pss_one (ps_ret (pv 1))) pss_nil)
      (pss_cons (ps_if (pt_cmpR op_eq (pv 3) pe_int (nomark _)) (pss_one (ps_ret (pv 2))) pss_nil)
      (pss_one (ps_ret (pe_op op_add (pv 1) (pe_kn d__law_take hr (by rfl) (pa_cons (pv 0) (pa_cons (pe_op op_add (pe_op op_sub (pv 2) (pv 1)) pe_int) pa_nil))))))))), ?_⟩
  refine ⟨_, rfl, s, 6, rfl, hS, by omega, fun i H1 i0 i1 kp st => ?_⟩
  refine ⟨_, rfl, rfl, _, rfl, ite2 (fun h => ?_) (fun h => ?_)⟩
  · exact ⟨_, rfl, k lo H1 (Int.le_refl _) (by omega) (fun _ => rfl) kp st⟩
  refine ⟨_, rfl, _, rfl, _, _, rfl, rfl, _, rfl, ite2 (fun h2 => ?_) (fun h2 => ?_)⟩
  · exact ⟨_, rfl, k lo H1 (Int.le_refl _) (.inr ⟨of_decide_eq_true h2, rfl⟩) (fun _ => rfl) kp st⟩
  have h2 : ¬ hi ≤ lo := fun z => h2 (decide_eq_true z)
  refine ⟨_, rfl, rfl, _, rfl, ite2 (fun h => ?_) (fun h => ?_)⟩
  · exact ⟨_, rfl, k hi H1 (by omega) (by omega) (fun z => absurd z h2) kp st⟩
  refine ⟨_, rfl, _, rfl, _, rfl, _, rfl, _, _, rfl, rfl, _, _, rfl, rfl, s, _, rfl, st, by omega, fun j H2 j0 j1 kp2 st2 => ⟨_, _, rfl, rfl, ?_⟩⟩
  exact k (lo + j) H2 (by omega) (by omega) (fun z => absurd z h2) (kp.trans kp2) st2
def spTB (K : PySem.W.Frag) : Sp := fun vs H Q _ => ∃ (s : Addr), vs = [.ref s, .int 200] ∧ Sto K H s ∧ ∀ c lo hi H', 1 ≤ lo → lo ≤ hi → hi ≤ 200 → Kp s H H' → Sto K H' s → ob K H' c = some (.tup [.int lo, .int hi]) → Q (.ref c) H'
abbrev sTB : Stmt := topS 55
theorem scTB : FnScope ["_law_store_here", "_law_top", "_law_kind", "_law_low"] ["_law_store_here", "_law_top"] (defScope sTB) := ⟨rfl, rfl, rfl, by decide +kernel, rfl, by decide +kernel, by decide +kernel⟩
theorem k_TB (T : Bt K mg) (D : Dfn K mg "_law_teeth_bounds" sTB ["_law_store_here", "_law_top"]) (d__law_take : Kn P w K mg base 2 "_law_take" ["_law_store_here", "_law_many"] (spTake K)) (d__law_range : Kn P w K mg base 3 "_law_range" ["_law_store_here", "_law_low", "_law_high"] (spRange K)) : Kn P w K mg base 4 "_law_teeth_bounds" ["_law_store_here", "_law_top"] (spTB K) := by
  refine Kn.mk' D scTB (fun vs H Q E h => ?_) (fun f cdv A outer s H vs Q E hr h => ?_)
  · obtain ⟨s, rfl, _⟩ := h
    rfl
  obtain ⟨s, rfl, hS, k⟩ := h
  refine ⟨_, (pss_cons (ps_set (i := 2) scTB.nd rfl (.inl rfl) (pe_kn d__law_take hr (by rfl) (pa_cons (pv 0) (pa_cons pe_int pa_nil))))
      (pss_cons (ps_if (pt_cmpR op_lt (pv 2) pe_int (nomark _)) (pss_cons (ps_set (i := 3) scTB.nd rfl (.inl rfl) (pe_kn d__law_range hr (by rfl) (pa_cons (pv 0) (pa_cons pe_int (pa_cons (pv 1) pa_nil)))))
      (pss_one (ps_ret (pe_tp (pa_cons (pv 3) (pa_cons (pv 3) pa_nil)))))) pss_nil)
      (pss_cons (ps_if (pt_cmpR op_eq (pv 2) pe_int (nomark _)) (pss_one (ps_ret (pe_tp (pa_cons pe_int (pa_cons (pv 1) pa_nil))))) pss_nil)
      (pss_cons (ps_if (pt_cmpR op_lt (pv 2) pe_int (nomark _)) (pss_cons (ps_set (i := 3) scTB.nd rfl (.inl rfl) (pe_op op_add pe_int (pe_kn d__law_take hr (by rfl) (pa_cons (pv 0) (pa_cons (pe_op op_add pe_int (pe_kn d__law_take hr (by rfl) (pa_cons (pv 0) (pa_cons (pv 1) pa_nil)))) pa_nil)))))
      (pss_one (ps_ret (pe_tp (pa_cons (pv 3) (pa_cons (pe_op op_add (pv 3) (pe_kn d__law_take hr (by rfl) (pa_cons (pv 0) (pa_cons (pe_op op_add (pe_op op_sub (pv 1) (pv 3)) pe_int) pa_nil)))) pa_nil)))))) pss_nil)
      (pss_cons (ps_set (i := 3) scTB.nd rfl (.inl rfl) (pe_op op_add pe_int (pe_kn d__law_take hr (by rfl) (pa_cons (pv 0) (pa_cons (pe_callB (call_min2 rfl) (by rfl) T.b_min (by decide +kernel) (pa_cons (pv 1) (pa_cons pe_int pa_nil))) pa_nil)))))
      (pss_one (ps_ret (pe_tp (pa_cons (pv 3) (pa_cons (pe_callB (call_min2 rfl) (by rfl) T.b_min (by decide +kernel) (pa_cons (pv 1) (pa_cons (pe_op op_add (pv 3) (pe_kn d__law_take hr (by rfl) (pa_cons (pv 0) (pa_cons pe_int pa_nil)))) pa_nil))) pa_nil)))))))))), ?_⟩
  refine ⟨_, rfl, s, 12, rfl, hS, by omega, fun i H1 i0 i1 kp st => ?_⟩
  have fin : ∀ (lo hi : Int) (H2 : Hp), 1 ≤ lo → lo ≤ hi → hi ≤ 200 → Kp s H H2 → Sto K H2 s → ([V.int lo, V.int hi] : List V).length ≤ sizeLine ∧ ∀ p, H2 p = none → K.lookup p = none → Q (.ref p) (upd H2 p (.tup [.int lo, .int hi])) := fun lo hi H2 a1 a2 a3 kp2 st2 => ⟨sz2 (by show 2 ≤ 100; decide), fun p hp kp' => k p lo hi _ a1 a2 a3 (kp2.trans (Kp.same (Same.new hp _))) (st2.same (Same.new hp _)) (ob_new kp')⟩
  refine ⟨_, rfl, _, _, rfl, rfl, _, rfl, ite2 (fun h => ?_) (fun h => ?_)⟩
  · refine ⟨_, rfl, _, rfl, s, 1, 200, rfl, st, by omega, by omega, fun r H2 r0 r1 _ kp2 st2 => ⟨_, rfl, _, rfl, fin r r H2 r0 (Int.le_refl _) (by omega) (kp.trans kp2) st2⟩⟩
  refine ⟨_, rfl, rfl, _, rfl, ite2 (fun h => ?_) (fun h => ?_)⟩
  · exact ⟨_, rfl, fin 1 200 H1 (by omega) (by omega) (by omega) kp st⟩
  refine ⟨_, rfl, _, _, rfl, rfl, _, rfl, ite2 (fun h => ?_) (fun h => ?_)⟩
  · refine ⟨_, rfl, _, rfl, _, rfl, s, 200, rfl, st, by omega, fun j H2 j0 j1 kp2 st2 => ⟨_, _, rfl, rfl, s, _, rfl, st2, by omega, fun t H3 t0 t1 kp3 st3 => ⟨_, _, rfl, rfl, ?_⟩⟩⟩
    exact ⟨_, rfl, _, rfl, _, rfl, _, rfl, _, rfl, _, _, rfl, rfl, _, _, rfl, rfl, s, _, rfl, st3, by omega, fun m H4 m0 m1 kp4 st4 => ⟨_, _, rfl, rfl, fin (1 + t) (1 + t + m) H4 (by omega) (by omega) (by omega) (((kp.trans kp2).trans kp3).trans kp4) st4⟩⟩
  · refine ⟨_, rfl, _, rfl, _, _, rfl, s, _, rfl, st, by decide, fun j H2 j0 j1 kp2 st2 => ⟨_, _, rfl, rfl, ?_⟩⟩
    have j1 : j < 12 := by
      have e : (if (12 : Int) < 200 then (12 : Int) else 200) = 12 := by decide
      rw [e] at j1
      omega
    refine ⟨_, rfl, _, rfl, _, rfl, _, rfl, s, 30, rfl, st2, by omega, fun m H4 m0 m1 kp4 st4 => ⟨_, _, rfl, rfl, _, _, rfl, fin (1 + j) _ H4 (by omega) ?_ ?_ ((kp.trans kp2).trans kp4) st4⟩⟩
    · split <;> omega
    · split <;> omega
def spTurned (K : PySem.W.Frag) : Sp := fun vs H Q _ => ∃ (s : Addr), vs = [.ref s, .int 200] ∧ Sto K H s ∧ ∀ c lo hi H', 2 ≤ lo → lo ≤ 200 → 1 ≤ hi → hi < lo → Kp s H H' → Sto K H' s → ob K H' c = some (.tup [.int lo, .int hi]) → Q (.ref c) H'
abbrev sTurned : Stmt := topS 56
theorem scTurned : FnScope ["_law_store_here", "_law_top", "_law_low"] ["_law_store_here", "_law_top"] (defScope sTurned) := ⟨rfl, rfl, rfl, by decide +kernel, rfl, by decide +kernel, by decide +kernel⟩
theorem k_Turned (T : Bt K mg) (D : Dfn K mg "_law_bounds_turned" sTurned ["_law_store_here", "_law_top"]) (d__law_take : Kn P w K mg base 2 "_law_take" ["_law_store_here", "_law_many"] (spTake K)) : Kn P w K mg base 3 "_law_bounds_turned" ["_law_store_here", "_law_top"] (spTurned K) := by
  refine Kn.mk' D scTurned (fun vs H Q E h => ?_) (fun f cdv A outer s H vs Q E hr h => ?_)
  · obtain ⟨s, rfl, _⟩ := h
    rfl
  obtain ⟨s, rfl, hS, k⟩ := h
  refine ⟨_, (pss_cons (ps_set (i := 2) scTurned.nd rfl (.inl rfl) (pe_op op_add pe_int (pe_kn d__law_take hr (by rfl) (pa_cons (pv 0) (pa_cons (pe_op op_sub (pv 1) pe_int) pa_nil)))))
      (pss_one (ps_ret (pe_tp (pa_cons (pv 2) (pa_cons (pe_op op_add pe_int (pe_kn d__law_take hr (by rfl) (pa_cons (pv 0) (pa_cons (pe_op op_sub (pv 2) pe_int) pa_nil)))) pa_nil)))))), ?_⟩
  refine ⟨_, rfl, _, rfl, _, _, rfl, rfl, s, _, rfl, hS, by omega, fun i H1 i0 i1 kp st => ⟨_, _, rfl, rfl, ?_⟩⟩
  refine ⟨_, rfl, _, rfl, _, rfl, _, _, rfl, rfl, s, _, rfl, st, by omega, fun j H2 j0 j1 kp2 st2 => ⟨_, _, rfl, rfl, sz2 (by show 2 ≤ 100; decide), fun p hp kp' => ?_⟩⟩
  exact k p (2 + i) (1 + j) _ (by omega) (by omega) (by omega) (by omega) ((kp.trans kp2).trans (Kp.same (Same.new hp _))) (st2.same (Same.new hp _)) (ob_new kp')
def spScale (K : PySem.W.Frag) : Sp := fun vs H Q _ => ∃ (l : Addr) (xs : List V) (n : Nat), vs = [.ref l] ∧ H l = some (.lst xs) ∧ xs.length ≤ 100 ∧ n ≤ 40 ∧ (∀ x ∈ xs, ∃ a q, x = .ref a ∧ Fq K H n a q) ∧ ∀ m : Int, 1 ≤ m → m.natAbs < 2 ^ 5000 → (∀ x ∈ xs, ∀ a q, x = .ref a → Fq K H n a q → q.2 ∣ m) → Q (.int m) H
def spPosF (K : PySem.W.Frag) (n : Nat) : Sp := fun vs H Q _ => ∃ (s : Addr), vs = [.ref s] ∧ Sto K H s ∧ ∀ a q H', Fq K H' n a q → 0 < q.1 → Kp s H H' → Sto K H' s → Q (.ref a) H'
abbrev sPosW : Stmt := topS 52
theorem scPosW : FnScope ["_law_store_here", "_law_value"] ["_law_store_here"] (defScope sPosW) := ⟨rfl, rfl, rfl, by decide +kernel, rfl, by decide +kernel, by decide +kernel⟩
theorem k_PosW (T : Bt K mg) (D : Dfn K mg "_law_positive_wide" sPosW ["_law_store_here"]) (d__law_frac_wide : Kn P w K mg base 4 "_law_frac_wide" ["_law_store_here"] (spDFrac K 133)) : Kn P w K mg base 5 "_law_positive_wide" ["_law_store_here"] (spPosF K 133) := by
  refine Kn.mk' D scPosW (fun vs H Q E h => ?_) (fun f cdv A outer s H vs Q E hr h => ?_)
  · obtain ⟨s, rfl, _⟩ := h
    rfl
  obtain ⟨s, rfl, hS, k⟩ := h
  refine ⟨_, (pss_cons (ps_set (i := 1) scPosW.nd rfl (.inl rfl) (pe_kn d__law_frac_wide hr (by rfl) (pa_cons (pv 0) pa_nil)))
      (pss_cons (ps_if (pt_cmpR op_eq (pe_ix ix_any (pv 1) pe_int (fun _ _ => rfl)) pe_int (nomark _)) (pss_one (ps_ret (pe_tp (pa_cons pe_int (pa_cons pe_int pa_nil))))) pss_nil)
      (pss_one (ps_ret (pe_tp (pa_cons (pe_callB call_abs (by rfl) T.b_abs (by decide +kernel) (pa_cons (pe_ix ix_any (pv 1) pe_int (fun _ _ => rfl)) pa_nil)) (pa_cons (pe_ix ix_any (pv 1) pe_int (fun _ _ => rfl)) pa_nil))))))), ?_⟩
  refine ⟨_, rfl, s, rfl, hS, fun a q H1 fq kp1 st1 => ?_⟩
  have abs0 : ∀ x : Int, x ≠ 0 → 0 < ((x.natAbs : Nat) : Int) := fun x h => by omega
  refine ⟨_, rfl, a, 0, rfl, rfl, _, itsO_of fq.o, _, atI_0 _ _, rfl, _, rfl, ite2 (fun h => ?_) (fun h => ?_)⟩
  · refine ⟨sz2 (by show 2 ≤ 100; decide), fun p hp kp => ?_⟩
    have s2 := Same.new hp (.tup [V.int 1, .int 1])
    exact k p (1, 1) _ ⟨ob_new kp, nf11, Sz.mono (a := 10) (sz10 (by decide) (by decide)) (by omega)⟩ (by decide) (kp1.trans (Kp.same s2)) (st1.same s2)
  · have h0 : q.1 ≠ 0 := fun z => h (decide_eq_true (congrArg V.int z))
    refine ⟨_, rfl, a, 0, rfl, rfl, _, itsO_of fq.o, _, atI_0 _ _, _, rfl, _, rfl, a, 1, rfl, rfl, _, itsO_of fq.o, _, atI_1 _ _ _, sz2 (by show 2 ≤ 100; decide), fun p hp kp => ?_⟩
    rw [abs_if]
    have s2 := Same.new hp (.tup [V.int (q.1.natAbs : Int), .int q.2])
    exact k p ((q.1.natAbs : Int), q.2) _ ⟨ob_new kp, nf_abs fq.nf, ⟨by show ((q.1.natAbs : Int)).natAbs < 2 ^ 133; rw [Int.natAbs_natCast]; exact fq.sz.1, fq.sz.2⟩⟩ (abs0 _ h0) (kp1.trans (Kp.same s2)) (st1.same s2)

end
end My

namespace My
open PySem PySem.Spec PyProof.Rows L2
section
variable {P : Program} {w : World} {K : PySem.W.Frag} {mg : Str → Option Value} {base : Heap}
theorem nf21 : Nf (2, 1) := ⟨by decide, by decide⟩
theorem nf112 : Nf (1, 12) := ⟨by decide, by decide⟩
theorem is_pos {q : Qt} {t b : Int} (h : Is q t b) (h0 : 0 < t) (h1 : 0 < b) : 0 < q.1 := by
  have e := h.2
  have n := h.1.1
  refine Int.not_le.mp fun c => ?_
  have z1 : 0 < t * q.2 := Int.mul_pos h0 (by omega)
  have z2 : q.1 * b ≤ 0 := Int.mul_nonpos_of_nonpos_of_nonneg c (by omega)
  omega
def spDPos (K : PySem.W.Frag) : Sp := fun vs H Q _ => ∃ (s : Addr), vs = [.ref s] ∧ Sto K H s ∧ ∀ a q H', (Fq K H' 10 a q ∧ 0 < q.1) → Kp s H H' → Sto K H' s → Q (.ref a) H'
abbrev sDPos : Stmt := topS 51
theorem scDPos : FnScope ["_law_store_here", "_law_spot", "_law_bottom"] ["_law_store_here"] (defScope sDPos) := ⟨rfl, rfl, rfl, by decide +kernel, rfl, by decide +kernel, by decide +kernel⟩
theorem k_DPos (T : Bt K mg) (D : Dfn K mg "_law_positive" sDPos ["_law_store_here"]) (d__law_take : Kn P w K mg base 2 "_law_take" ["_law_store_here", "_law_many"] (spTake K)) (d__law_lowest : Kn P w K mg base 2 "_law_lowest" ["_law_top", "_law_bottom"] (spLowest K)) : Kn P w K mg base 3 "_law_positive" ["_law_store_here"] (spDPos K) := by
  refine Kn.mk' D scDPos (fun vs H Q E h => ?_) (fun f cdv A outer s H vs Q E hr h => ?_)
  · obtain ⟨s, rfl, _⟩ := h
    rfl
  obtain ⟨s, rfl, hS, k⟩ := h
  refine ⟨_, (pss_cons (ps_set (i := 1) scDPos.nd rfl (.inl rfl) (pe_kn d__law_take hr (by rfl) (pa_cons (pv 0) (pa_cons pe_int pa_nil))))
      (pss_cons (ps_if (pt_cmpR op_lt (pv 1) pe_int (nomark _)) (pss_one (ps_ret (pe_ix ix_any (pe_ls (pa_cons (pe_tp (pa_cons pe_int (pa_cons pe_int pa_nil))) (pa_cons (pe_tp (pa_cons pe_int (pa_cons pe_int pa_nil))) (pa_cons (pe_tp (pa_cons pe_int (pa_cons pe_int pa_nil))) (pa_cons (pe_tp (pa_cons pe_int (pa_cons pe_int pa_nil))) pa_nil))))) (pv 1) (fun _ _ => rfl)))) pss_nil)
      (pss_cons (ps_set (i := 2) scDPos.nd rfl (.inl rfl) (pe_op op_add pe_int (pe_kn d__law_take hr (by rfl) (pa_cons (pv 0) (pa_cons pe_int pa_nil)))))
      (pss_one (ps_ret (pe_kn d__law_lowest hr (by rfl) (pa_cons (pe_op op_add pe_int (pe_kn d__law_take hr (by rfl) (pa_cons (pv 0) (pa_cons (pe_op op_mul pe_int (pv 2)) pa_nil)))) (pa_cons (pv 2) pa_nil)))))))), ?_⟩
  simp only [cx_K, decide_true, decide_false, reduceCtorEq, gTp, gCons, gNil, ca_0, ca_1, ca_2, ca_3, ca_4, ca_5, ca_6, ca_7, ca_8, ca_9, ca_10, ca_11, ca_12, ca_13, ca_14, ca_15, ca_16, ca_17, ca_18, ca_19, ca_20, ca_21, ca_22, ca_23, ca_24, ca_25, ca_26, ca_27, ca_28, ca_29, ca_30, not_true_eq_false, not_false_eq_true, Int.reduceEq, Nat.reduceEqDiff, Nat.reduceLeDiff, rGcd, V.ty.injEq, eq_self, List.not_mem_nil, beq_self_eq_true, HO.lst.injEq, HO.tup.injEq, tFor_eq, iRng1, iList, iTup, nat10, tSeq, rIxA, rSetA, rIsN, rIsT, tTp, tLs, itsO_tup, itsO_lst, tyO_tup, tyO_lst, tyO_dK, tyN_non, tyN_bl, tyN_int, tyN_str, tyN_ref, tyNs_lt, isB, upd_same, upd_upd, sizeLine_eq, List.mem_cons, String.reduceBEq, String.reduceEq, Bool.or_false, Bool.or_true, Bool.and_false, Bool.false_or, Bool.and_self, Bool.false_and, Bool.not_false, Bool.not_true, List.any_cons, List.any_nil, atI_0, setI_0, atI_1, setI_1, atI_2, setI_2, atI_3, setI_3, atI_4, setI_4, atI_5, setI_5, atI_6, setI_6, tAsg, gName, tOp, tUn, tVar, tC, tCons, L2.tNil, tRet, tIfS, tTest, tCB, tCall, rI, rI0, rU, tNext, tB, tAnd, tOr, tNot, tAndV, tOrV, tNotV, tDrop, tIf, tPar, gSub, rIxL, rIxT, rEq, rNe, rSetL, tBits,
    L2.start, List.map_cons, List.map_nil, List.cons_append, List.nil_append, List.append_nil, List.length_cons, List.length_nil, List.replicate, Nat.reduceAdd, Nat.reduceSub, Nat.zero_add, List.getElem?_cons_zero, List.getElem?_cons_succ, List.set_cons_zero, List.set_cons_succ,
    Option.some.injEq, exists_eq_left', exists_eq_left, V.int.injEq, V.bl.injEq, V.ref.injEq, V.str.injEq, List.cons.injEq, reduceCtorEq, and_true, true_and, false_and, and_false, exists_false, or_false, false_or, or_true, true_or, exists_const, CMul, CDiv, CPow, and_assoc, exists_and_left, exists_and_right, Int.reducePow, Int.reduceNeg, Int.reduceLT, Int.reduceLE, Nat.reducePow, Nat.reduceLT, Int.reduceToNat, gt_iff_lt, ge_iff_le, decide_eq_true_eq, Bool.not_eq_true', decide_eq_false_iff_not, scal, ↓reduceIte, Bool.false_eq_true]
  refine ⟨s, 12, rfl, hS, by omega, fun i H1 z0 z1 kp st => ?_⟩
  simp only [cx_K, decide_true, decide_false, reduceCtorEq, gTp, gCons, gNil, ca_0, ca_1, ca_2, ca_3, ca_4, ca_5, ca_6, ca_7, ca_8, ca_9, ca_10, ca_11, ca_12, ca_13, ca_14, ca_15, ca_16, ca_17, ca_18, ca_19, ca_20, ca_21, ca_22, ca_23, ca_24, ca_25, ca_26, ca_27, ca_28, ca_29, ca_30, not_true_eq_false, not_false_eq_true, Int.reduceEq, Nat.reduceEqDiff, Nat.reduceLeDiff, rGcd, V.ty.injEq, eq_self, List.not_mem_nil, beq_self_eq_true, HO.lst.injEq, HO.tup.injEq, tFor_eq, iRng1, iList, iTup, nat10, tSeq, rIxA, rSetA, rIsN, rIsT, tTp, tLs, itsO_tup, itsO_lst, tyO_tup, tyO_lst, tyO_dK, tyN_non, tyN_bl, tyN_int, tyN_str, tyN_ref, tyNs_lt, isB, upd_same, upd_upd, sizeLine_eq, List.mem_cons, String.reduceBEq, String.reduceEq, Bool.or_false, Bool.or_true, Bool.and_false, Bool.false_or, Bool.and_self, Bool.false_and, Bool.not_false, Bool.not_true, List.any_cons, List.any_nil, atI_0, setI_0, atI_1, setI_1, atI_2, setI_2, atI_3, setI_3, atI_4, setI_4, atI_5, setI_5, atI_6, setI_6, tAsg, gName, tOp, tUn, tVar, tC, tCons, L2.tNil, tRet, tIfS, tTest, tCB, tCall, rI, rI0, rU, tNext, tB, tAnd, tOr, tNot, tAndV, tOrV, tNotV, tDrop, tIf, tPar, gSub, rIxL, rIxT, rEq, rNe, rSetL, tBits,
    L2.start, List.map_cons, List.map_nil, List.cons_append, List.nil_append, List.append_nil, List.length_cons, List.length_nil, List.replicate, Nat.reduceAdd, Nat.reduceSub, Nat.zero_add, List.getElem?_cons_zero, List.getElem?_cons_succ, List.set_cons_zero, List.set_cons_succ,
    Option.some.injEq, exists_eq_left', exists_eq_left, V.int.injEq, V.bl.injEq, V.ref.injEq, V.str.injEq, List.cons.injEq, reduceCtorEq, and_true, true_and, false_and, and_false, exists_false, or_false, false_or, or_true, true_or, exists_const, CMul, CDiv, CPow, and_assoc, exists_and_left, exists_and_right, Int.reducePow, Int.reduceNeg, Int.reduceLT, Int.reduceLE, Nat.reducePow, Nat.reduceLT, Int.reduceToNat, gt_iff_lt, ge_iff_le, decide_eq_true_eq, Bool.not_eq_true', decide_eq_false_iff_not, scal, ↓reduceIte, Bool.false_eq_true]
  refine ite2 (fun h => ?_) (fun h => ?_)
  · intro p1 h1 k1 p2 h2 k2 p3 h3 k3 p4 h4 k4 p5 h5 k5
    rw [ob_new k5]
    simp only [cx_K, decide_true, decide_false, reduceCtorEq, gTp, gCons, gNil, ca_0, ca_1, ca_2, ca_3, ca_4, ca_5, ca_6, ca_7, ca_8, ca_9, ca_10, ca_11, ca_12, ca_13, ca_14, ca_15, ca_16, ca_17, ca_18, ca_19, ca_20, ca_21, ca_22, ca_23, ca_24, ca_25, ca_26, ca_27, ca_28, ca_29, ca_30, not_true_eq_false, not_false_eq_true, Int.reduceEq, Nat.reduceEqDiff, Nat.reduceLeDiff, rGcd, V.ty.injEq, eq_self, List.not_mem_nil, beq_self_eq_true, HO.lst.injEq, HO.tup.injEq, tFor_eq, iRng1, iList, iTup, nat10, tSeq, rIxA, rSetA, rIsN, rIsT, tTp, tLs, itsO_tup, itsO_lst, tyO_tup, tyO_lst, tyO_dK, tyN_non, tyN_bl, tyN_int, tyN_str, tyN_ref, tyNs_lt, isB, upd_same, upd_upd, sizeLine_eq, List.mem_cons, String.reduceBEq, String.reduceEq, Bool.or_false, Bool.or_true, Bool.and_false, Bool.false_or, Bool.and_self, Bool.false_and, Bool.not_false, Bool.not_true, List.any_cons, List.any_nil, atI_0, setI_0, atI_1, setI_1, atI_2, setI_2, atI_3, setI_3, atI_4, setI_4, atI_5, setI_5, atI_6, setI_6, tAsg, gName, tOp, tUn, tVar, tC, tCons, L2.tNil, tRet, tIfS, tTest, tCB, tCall, rI, rI0, rU, tNext, tB, tAnd, tOr, tNot, tAndV, tOrV, tNotV, tDrop, tIf, tPar, gSub, rIxL, rIxT, rEq, rNe, rSetL, tBits,
    L2.start, List.map_cons, List.map_nil, List.cons_append, List.nil_append, List.append_nil, List.length_cons, List.length_nil, List.replicate, Nat.reduceAdd, Nat.reduceSub, Nat.zero_add, List.getElem?_cons_zero, List.getElem?_cons_succ, List.set_cons_zero, List.set_cons_succ,
    Option.some.injEq, exists_eq_left', exists_eq_left, V.int.injEq, V.bl.injEq, V.ref.injEq, V.str.injEq, List.cons.injEq, reduceCtorEq, and_true, true_and, false_and, and_false, exists_false, or_false, false_or, or_true, true_or, exists_const, CMul, CDiv, CPow, and_assoc, exists_and_left, exists_and_right, Int.reducePow, Int.reduceNeg, Int.reduceLT, Int.reduceLE, Nat.reducePow, Nat.reduceLT, Int.reduceToNat, gt_iff_lt, ge_iff_le, decide_eq_true_eq, Bool.not_eq_true', decide_eq_false_iff_not, scal, ↓reduceIte, Bool.false_eq_true]
    refine menu z0 (by show i < 4; omega) fun v hv => ?_
    simp only [List.mem_cons, List.not_mem_nil, or_false] at hv
    rcases hv with rfl | rfl | rfl | rfl
    · exact k _ _ _ ⟨⟨ob_same ((Same.new h2 _).trans ((Same.new h3 _).trans ((Same.new h4 _).trans (Same.new h5 _)))) (ob_new k1), nf11, sz10 (by decide) (by decide)⟩, by decide⟩ (kp.trans (Kp.same ((Same.new h1 _).trans ((Same.new h2 _).trans ((Same.new h3 _).trans ((Same.new h4 _).trans (Same.new h5 _))))))) (st.same ((Same.new h1 _).trans ((Same.new h2 _).trans ((Same.new h3 _).trans ((Same.new h4 _).trans (Same.new h5 _))))))
    · exact k _ _ _ ⟨⟨ob_same ((Same.new h3 _).trans ((Same.new h4 _).trans (Same.new h5 _))) (ob_new k2), nf12, sz10 (by decide) (by decide)⟩, by decide⟩ (kp.trans (Kp.same ((Same.new h1 _).trans ((Same.new h2 _).trans ((Same.new h3 _).trans ((Same.new h4 _).trans (Same.new h5 _))))))) (st.same ((Same.new h1 _).trans ((Same.new h2 _).trans ((Same.new h3 _).trans ((Same.new h4 _).trans (Same.new h5 _))))))
    · exact k _ _ _ ⟨⟨ob_same ((Same.new h4 _).trans (Same.new h5 _)) (ob_new k3), nf21, sz10 (by decide) (by decide)⟩, by decide⟩ (kp.trans (Kp.same ((Same.new h1 _).trans ((Same.new h2 _).trans ((Same.new h3 _).trans ((Same.new h4 _).trans (Same.new h5 _))))))) (st.same ((Same.new h1 _).trans ((Same.new h2 _).trans ((Same.new h3 _).trans ((Same.new h4 _).trans (Same.new h5 _))))))
    · exact k _ _ _ ⟨⟨ob_same (Same.new h5 _) (ob_new k4), nf112, sz10 (by decide) (by decide)⟩, by decide⟩ (kp.trans (Kp.same ((Same.new h1 _).trans ((Same.new h2 _).trans ((Same.new h3 _).trans ((Same.new h4 _).trans (Same.new h5 _))))))) (st.same ((Same.new h1 _).trans ((Same.new h2 _).trans ((Same.new h3 _).trans ((Same.new h4 _).trans (Same.new h5 _))))))
  · refine ⟨s, 12, rfl, st, by omega, fun j H2 j0 j1 kp2 st2 => ?_⟩
    simp only [cx_K, decide_true, decide_false, reduceCtorEq, gTp, gCons, gNil, ca_0, ca_1, ca_2, ca_3, ca_4, ca_5, ca_6, ca_7, ca_8, ca_9, ca_10, ca_11, ca_12, ca_13, ca_14, ca_15, ca_16, ca_17, ca_18, ca_19, ca_20, ca_21, ca_22, ca_23, ca_24, ca_25, ca_26, ca_27, ca_28, ca_29, ca_30, not_true_eq_false, not_false_eq_true, Int.reduceEq, Nat.reduceEqDiff, Nat.reduceLeDiff, rGcd, V.ty.injEq, eq_self, List.not_mem_nil, beq_self_eq_true, HO.lst.injEq, HO.tup.injEq, tFor_eq, iRng1, iList, iTup, nat10, tSeq, rIxA, rSetA, rIsN, rIsT, tTp, tLs, itsO_tup, itsO_lst, tyO_tup, tyO_lst, tyO_dK, tyN_non, tyN_bl, tyN_int, tyN_str, tyN_ref, tyNs_lt, isB, upd_same, upd_upd, sizeLine_eq, List.mem_cons, String.reduceBEq, String.reduceEq, Bool.or_false, Bool.or_true, Bool.and_false, Bool.false_or, Bool.and_self, Bool.false_and, Bool.not_false, Bool.not_true, List.any_cons, List.any_nil, atI_0, setI_0, atI_1, setI_1, atI_2, setI_2, atI_3, setI_3, atI_4, setI_4, atI_5, setI_5, atI_6, setI_6, tAsg, gName, tOp, tUn, tVar, tC, tCons, L2.tNil, tRet, tIfS, tTest, tCB, tCall, rI, rI0, rU, tNext, tB, tAnd, tOr, tNot, tAndV, tOrV, tNotV, tDrop, tIf, tPar, gSub, rIxL, rIxT, rEq, rNe, rSetL, tBits,
    L2.start, List.map_cons, List.map_nil, List.cons_append, List.nil_append, List.append_nil, List.length_cons, List.length_nil, List.replicate, Nat.reduceAdd, Nat.reduceSub, Nat.zero_add, List.getElem?_cons_zero, List.getElem?_cons_succ, List.set_cons_zero, List.set_cons_succ,
    Option.some.injEq, exists_eq_left', exists_eq_left, V.int.injEq, V.bl.injEq, V.ref.injEq, V.str.injEq, List.cons.injEq, reduceCtorEq, and_true, true_and, false_and, and_false, exists_false, or_false, false_or, or_true, true_or, exists_const, CMul, CDiv, CPow, and_assoc, exists_and_left, exists_and_right, Int.reducePow, Int.reduceNeg, Int.reduceLT, Int.reduceLE, Nat.reducePow, Nat.reduceLT, Int.reduceToNat, gt_iff_lt, ge_iff_le, decide_eq_true_eq, Bool.not_eq_true', decide_eq_false_iff_not, scal, ↓reduceIte, Bool.false_eq_true]
    refine ⟨s, _, rfl, st2, by omega, fun m H3 m0 m1 kp3 st3 => ?_⟩
    simp only [cx_K, decide_true, decide_false, reduceCtorEq, gTp, gCons, gNil, ca_0, ca_1, ca_2, ca_3, ca_4, ca_5, ca_6, ca_7, ca_8, ca_9, ca_10, ca_11, ca_12, ca_13, ca_14, ca_15, ca_16, ca_17, ca_18, ca_19, ca_20, ca_21, ca_22, ca_23, ca_24, ca_25, ca_26, ca_27, ca_28, ca_29, ca_30, not_true_eq_false, not_false_eq_true, Int.reduceEq, Nat.reduceEqDiff, Nat.reduceLeDiff, rGcd, V.ty.injEq, eq_self, List.not_mem_nil, beq_self_eq_true, HO.lst.injEq, HO.tup.injEq, tFor_eq, iRng1, iList, iTup, nat10, tSeq, rIxA, rSetA, rIsN, rIsT, tTp, tLs, itsO_tup, itsO_lst, tyO_tup, tyO_lst, tyO_dK, tyN_non, tyN_bl, tyN_int, tyN_str, tyN_ref, tyNs_lt, isB, upd_same, upd_upd, sizeLine_eq, List.mem_cons, String.reduceBEq, String.reduceEq, Bool.or_false, Bool.or_true, Bool.and_false, Bool.false_or, Bool.and_self, Bool.false_and, Bool.not_false, Bool.not_true, List.any_cons, List.any_nil, atI_0, setI_0, atI_1, setI_1, atI_2, setI_2, atI_3, setI_3, atI_4, setI_4, atI_5, setI_5, atI_6, setI_6, tAsg, gName, tOp, tUn, tVar, tC, tCons, L2.tNil, tRet, tIfS, tTest, tCB, tCall, rI, rI0, rU, tNext, tB, tAnd, tOr, tNot, tAndV, tOrV, tNotV, tDrop, tIf, tPar, gSub, rIxL, rIxT, rEq, rNe, rSetL, tBits,
    L2.start, List.map_cons, List.map_nil, List.cons_append, List.nil_append, List.append_nil, List.length_cons, List.length_nil, List.replicate, Nat.reduceAdd, Nat.reduceSub, Nat.zero_add, List.getElem?_cons_zero, List.getElem?_cons_succ, List.set_cons_zero, List.set_cons_succ,
    Option.some.injEq, exists_eq_left', exists_eq_left, V.int.injEq, V.bl.injEq, V.ref.injEq, V.str.injEq, List.cons.injEq, reduceCtorEq, and_true, true_and, false_and, and_false, exists_false, or_false, false_or, or_true, true_or, exists_const, CMul, CDiv, CPow, and_assoc, exists_and_left, exists_and_right, Int.reducePow, Int.reduceNeg, Int.reduceLT, Int.reduceLE, Nat.reducePow, Nat.reduceLT, Int.reduceToNat, gt_iff_lt, ge_iff_le, decide_eq_true_eq, Bool.not_eq_true', decide_eq_false_iff_not, scal, ↓reduceIte, Bool.false_eq_true]
    refine ⟨_, _, rfl, ?_, fun q hq p H4 s4 o4 => ?_⟩
    · have e : 2 ^ 10 ≤ 2 ^ 8000 := Nat.pow_le_pow_right (by omega) (by omega)
      omega
    · have hI := hq.2 (show 1 + j ≠ 0 by omega)
      exact k p q H4 ⟨⟨o4, hI.1, is_sz (by omega) hI (by omega) (by omega)⟩, is_pos hI (by omega) (by omega)⟩ (((kp.trans kp2).trans kp3).trans (Kp.same s4)) (st3.same s4)
end
end My

namespace My
open PySem PySem.Spec PyProof.Rows L2
section
variable {P : Program} {w : World} {K : PySem.W.Frag} {mg : Str → Option Value} {base : Heap}
theorem Sto.some {H : Hp} {s : Addr} (st : Sto K H s) : H s ≠ none := by
  obtain ⟨ys, hy⟩ := st.at
  rw [hy]
  exact fun e => by cases e
theorem Sto.ne {H : Hp} {s l : Addr} (st : Sto K H s) (hl : H l = none) : l ≠ s := by
  rintro rfl
  obtain ⟨ys, hy⟩ := st.at
  rw [hy] at hl
  cases hl
theorem Kp.free {H H' : Hp} {s p : Addr} (kp : Kp s H H') (st : Sto K H' s) (hp : H' p = none) : H p = none := by
  have ne := st.ne hp
  cases e : H p with
  | none => rfl
  | some o =>
    have := kp.1 p o ne e
    rw [hp] at this
    cases this
/-- no positive fraction -/
def NoPos (K : PySem.W.Frag) (H : Hp) (v : V) : Prop := Gd K H v ∨ ∃ a q, v = .ref a ∧ Fq K H 200 a q ∧ q.1 ≤ 0
theorem NoPos.same {H H' : Hp} {v : V} (h : NoPos K H v) (s : Same H H') : NoPos K H' v := h.imp (fun g => Gd.same s g) fun ⟨a, q, e, f, p⟩ => ⟨a, q, e, f.same s, p⟩
theorem NoPos.kp {H H' : Hp} {s : Addr} {v : V} (h : NoPos K H v) (e : Kp s H H') (st : Sto K H s) (st' : Sto K H' s) : NoPos K H' v := by
  obtain ⟨ys, hy⟩ := st.at
  exact h.imp (fun g => Gd.kp e st' g) fun ⟨a, q, ev, f, p⟩ => ⟨a, q, ev, f.kp e hy, p⟩
def spBPos (K : PySem.W.Frag) : Sp := fun vs H Q _ => ∃ (s : Addr), vs = [.ref s] ∧ Sto K H s ∧ ∀ v H', NoPos K H' v → Kp s H H' → Sto K H' s → Q v H'
abbrev sBPos : Stmt := topS 54
theorem scBPos : FnScope ["_law_store_here"] ["_law_store_here"] (defScope sBPos) := ⟨rfl, rfl, rfl, by decide +kernel, rfl, by decide +kernel, by decide +kernel⟩
theorem k_BPos (T : Bt K mg) (D : Dfn K mg "_law_bad_positive" sBPos ["_law_store_here"]) (d__law_take : Kn P w K mg base 2 "_law_take" ["_law_store_here", "_law_many"] (spTake K)) (d__law_pick : Kn P w K mg base 3 "_law_pick" ["_law_store_here", "_law_row"] (spPick K)) (d__law_bad_frac : Kn P w K mg base 4 "_law_bad_frac" ["_law_store_here"] (spBadFrac K)) (d__law_minus : Kn P w K mg base 3 "_law_minus" ["_law_left", "_law_right"] (spBin K dif2)) (d__law_positive : Kn P w K mg base 3 "_law_positive" ["_law_store_here"] (spDPos K)) : Kn P w K mg base 5 "_law_bad_positive" ["_law_store_here"] (spBPos K) := by
  refine Kn.mk' D scBPos (fun vs H Q E h => ?_) (fun f cdv A outer s H vs Q E hr h => ?_)
  · obtain ⟨s, rfl, _⟩ := h
    rfl
  obtain ⟨s, rfl, hS, k⟩ := h
  refine ⟨_, (pss_cons (ps_if (pt_cmpR op_eq (pe_kn d__law_take hr (by rfl) (pa_cons (pv 0) (pa_cons pe_int pa_nil))) pe_int (nomark _)) (pss_one (ps_ret (pe_kn d__law_bad_frac hr (by rfl) (pa_cons (pv 0) pa_nil)))) pss_nil)
      (pss_one (ps_ret (pe_kn d__law_pick hr (by rfl) (pa_cons (pv 0) (pa_cons (pe_ls (pa_cons (pe_tp (pa_cons pe_int (pa_cons pe_int pa_nil))) (pa_cons (pe_tp (pa_cons (pe_un un_neg pe_int) (pa_cons pe_int pa_nil))) (pa_cons (pe_tp (pa_cons (pe_un un_neg pe_int) (pa_cons pe_int pa_nil))) (pa_cons (pe_kn d__law_minus hr (by rfl) (pa_cons (pe_tp (pa_cons pe_int (pa_cons pe_int pa_nil))) (pa_cons (pe_kn d__law_positive hr (by rfl) (pa_cons (pv 0) pa_nil)) pa_nil))) (pa_cons (pe_tp (pa_cons (pe_un un_neg pe_int) (pa_cons (pe_op op_pow pe_int pe_int) pa_nil))) pa_nil)))))) pa_nil)))))), ?_⟩
  have c39 : CPow 10 39 := by unfold CPow; decide
  have e39 : (10 : Int) ^ (39 : Int).toNat = 1000000000000000000000000000000000000000 := by decide
  refine ⟨_, rfl, s, 2, rfl, hS, by decide, fun m H1 m0 m1 kp1 st1 => ⟨rfl, _, rfl, ite2 (fun h => ?_) (fun h => ?_)⟩⟩
  · exact ⟨_, rfl, s, rfl, st1, fun v H2 gd kp2 st2 => k v H2 (.inl gd) (kp1.trans kp2) st2⟩
  refine ⟨_, rfl, sz2 (by show 2 ≤ 100; decide), fun p1 hp1 k1 => ?_⟩
  have s1 := Same.new hp1 (.tup [V.int 0, .int 1])
  have o1 := ob_new (K := K) (H := H1) (o := .tup [V.int 0, .int 1]) k1
  have st2 := st1.same s1
  generalize upd H1 p1 (.tup [V.int 0, .int 1]) = J1 at s1 o1 st2 ⊢
  refine ⟨_, rfl, sz2 (by show 2 ≤ 100; decide), fun p2 hp2 k2 => ?_⟩
  have s2 := Same.new hp2 (.tup [V.int (-1), .int 1])
  have o2 := ob_new (K := K) (H := J1) (o := .tup [V.int (-1), .int 1]) k2
  have st3 := st2.same s2
  generalize upd J1 p2 (.tup [V.int (-1), .int 1]) = J2 at s2 o2 st3 ⊢
  refine ⟨_, rfl, sz2 (by show 2 ≤ 100; decide), fun p3 hp3 k3 => ?_⟩
  have s3 := Same.new hp3 (.tup [V.int (-1), .int 2])
  have o3 := ob_new (K := K) (H := J2) (o := .tup [V.int (-1), .int 2]) k3
  have st4 := st3.same s3
  generalize upd J2 p3 (.tup [V.int (-1), .int 2]) = J3 at s3 o3 st4 ⊢
  refine ⟨sz2 (by show 2 ≤ 100; decide), fun p4 hp4 k4 => ?_⟩
  have s4 := Same.new hp4 (.tup [V.int 0, .int 1])
  have o4 := ob_new (K := K) (H := J3) (o := .tup [V.int 0, .int 1]) k4
  have st5 := st4.same s4
  generalize upd J3 p4 (.tup [V.int 0, .int 1]) = J4 at s4 o4 st5 ⊢
  refine ⟨_, rfl, s, rfl, st5, fun a q H5 ⟨fq, q0⟩ kp5 st6 => ?_⟩
  obtain ⟨y4, hy4⟩ := st5.at
  obtain ⟨y1, hy1⟩ := st2.at
  have f01 : Fq K J4 10 p4 (0, 1) := ⟨o4, nf01, sz10 (by decide) (by decide)⟩
  refine ⟨p4, a, (0, 1), q, rfl, (f01.kp kp5 hy4).mono (by omega), fq.mono (by omega), fun z hz c H6 s6 oz => ?_⟩
  have kq : Kp s J1 H6 := ((Kp.same (s2.trans (s3.trans s4))).trans kp5).trans (Kp.same s6)
  have szz : Sz 30 z := by
    have e : dif2 (0, 1) q z := hz
    exact is_sz (Int.mul_ne_zero (by decide) fq.nf.ne) e (by have := fq.sz.1; have := fq.sz.2; show (0 * q.2 - q.1 * 1).natAbs < _; omega) (by have := fq.sz.2; show (1 * q.2).natAbs < _; omega)
  have z0 : z.1 ≤ 0 := by
    have e : z.1 * (1 * q.2) = (0 * q.2 - q.1 * 1) * z.2 := hz.2
    have z2 := hz.1.1
    have q2 := fq.nf.1
    rcases Int.lt_or_le 0 z.1 with h' | h'
    · have a1 : 0 < z.1 * (1 * q.2) := Int.mul_pos h' (by omega)
      have a2 : (0 * q.2 - q.1 * 1) * z.2 ≤ 0 := Int.mul_nonpos_of_nonpos_of_nonneg (by omega) (by omega)
      omega
    · exact h'
  refine ⟨_, rfl, _, _, rfl, rfl, c39, sz2 (by show 2 ≤ 100; decide), fun p5 hp5 k5 => ?_⟩
  rw [show upd H6 p5 (HO.tup [(fun (i : Int) => V.int (-i)) 1, (fun (i j : Int) => V.int (i ^ j.toNat)) 10 39]) = upd H6 p5 (HO.tup [V.int (-1), V.int ((10 : Int) ^ (39 : Int).toNat)]) from rfl]
  have s7 := Same.new hp5 (.tup [V.int (-1), .int ((10 : Int) ^ (39 : Int).toNat)])
  have o5 := ob_new (K := K) (H := H6) (o := .tup [V.int (-1), .int ((10 : Int) ^ (39 : Int).toNat)]) k5
  have st7 := (st6.same s6).same s7
  generalize upd H6 p5 (.tup [V.int (-1), .int ((10 : Int) ^ (39 : Int).toNat)]) = H7 at s7 o5 st7 ⊢
  refine ⟨sz2 (by show 5 ≤ 100; decide), fun l hl kl => ?_⟩
  have s8 := Same.new hl (.lst [V.ref p1, .ref p2, .ref p3, .ref c, .ref p5])
  refine ⟨s, l, _, rfl, st7.same s8, upd_same, Ne.symm (st7.ne hl), by show 0 < 5; decide, by show 5 < 1000; decide, fun v H9 hv kp9 st9 => ?_⟩
  have kq2 := kq.trans ((Kp.same s7).trans ((Kp.same s8).trans kp9))
  have kpA : Kp s H H9 := kp1.trans ((Kp.same s1).trans kq2)
  have fin : ∀ (p : Addr) (r : Qt), Fq K J1 200 p r → r.1 ≤ 0 → NoPos K H9 (.ref p) := fun p r f h0 => .inr ⟨p, r, rfl, f.kp kq2 hy1, h0⟩
  obtain ⟨y3, hy3⟩ := st3.at
  obtain ⟨yy4, hyy4⟩ := st4.at
  obtain ⟨y7, hy7⟩ := (st7.same s8).at
  have kJ2 : Kp s J2 H9 := (Kp.same (s3.trans s4)).trans (kp5.trans ((Kp.same (s6.trans (s7.trans s8))).trans kp9))
  have kJ3 : Kp s J3 H9 := (Kp.same s4).trans (kp5.trans ((Kp.same (s6.trans (s7.trans s8))).trans kp9))
  simp only [List.mem_cons, List.not_mem_nil, or_false] at hv
  rcases hv with rfl | rfl | rfl | rfl | rfl
  · exact k _ H9 (fin p1 (0, 1) ⟨o1, nf01, Sz.mono (a := 10) (sz10 (by decide) (by decide)) (by omega)⟩ (by decide)) kpA st9
  · exact k _ H9 (.inr ⟨p2, (-1, 1), rfl, (show Fq K J2 200 p2 (-1, 1) from ⟨o2, nfm1, Sz.mono (a := 10) (sz10 (by decide) (by decide)) (by omega)⟩).kp kJ2 hy3, by decide⟩) kpA st9
  · exact k _ H9 (.inr ⟨p3, (-1, 2), rfl, (show Fq K J3 200 p3 (-1, 2) from ⟨o3, nfm2, Sz.mono (a := 10) (sz10 (by decide) (by decide)) (by omega)⟩).kp kJ3 hyy4, by decide⟩) kpA st9
  · exact k _ H9 (.inr ⟨c, z, rfl, (show Fq K _ 200 c z from ⟨ob_same (s7.trans s8) oz, hz.1, szz.mono (by omega)⟩).kp kp9 hy7, z0⟩) kpA st9
  · have nf : Nf (-1, (10 : Int) ^ (39 : Int).toNat) := ⟨by rw [e39]; decide, by rw [e39]; decide⟩
    have sz : Sz 200 (-1, (10 : Int) ^ (39 : Int).toNat) := ⟨by show (-1 : Int).natAbs < 2 ^ 200; decide, by show ((10 : Int) ^ (39 : Int).toNat).natAbs < 2 ^ 200; rw [e39]; decide⟩
    exact k _ H9 (.inr ⟨p5, (-1, (10 : Int) ^ (39 : Int).toNat), rfl, (show Fq K _ 200 p5 (-1, (10 : Int) ^ (39 : Int).toNat) from ⟨ob_same s8 o5, nf, sz⟩).kp kp9 hy7, by decide⟩) kpA st9

end
end My

namespace My
open PySem PySem.Spec PyProof.Rows L2
section
variable {P : Program} {w : World} {K : PySem.W.Frag} {mg : Str → Option Value} {base : Heap}
/-- the same data, n levels deep at most -/
def Eqv (K : PySem.W.Frag) (H : Hp) : Nat → V → V → Prop
  | 0, x, y => x = y ∧ scv x = true
  | n + 1, x, y => (x = y ∧ scv x = true) ∨ ∃ (a b : Addr) (xs ys : List V), x = .ref a ∧ y = .ref b ∧ ((ob K H a = some (.tup xs) ∧ ob K H b = some (.tup ys)) ∨ (ob K H a = some (.lst xs) ∧ ob K H b = some (.lst ys))) ∧ xs.length = ys.length ∧ ys.length ≤ 20000 ∧
      ∀ (i : Nat) x y, xs[i]? = some x → ys[i]? = some y → Eqv K H n x y
theorem Eqv.same {H H' : Hp} (e : Same H H') : ∀ {n : Nat} {x y : V}, Eqv K H n x y → Eqv K H' n x y
  | 0, _, _, h => h
  | n + 1, x, y, .inl h => .inl h
  | n + 1, x, y, .inr ⟨a, b, xs, ys, h1, h2, h3, h4, h5, h6⟩ =>
    .inr ⟨a, b, xs, ys, h1, h2, h3.imp (fun z => ⟨ob_same e z.1, ob_same e z.2⟩) (fun z => ⟨ob_same e z.1, ob_same e z.2⟩), h4, h5, fun i x y hx hy => (h6 i x y hx hy).same e⟩
theorem Eqv.up {H : Hp} : ∀ {n : Nat} {x y : V}, Eqv K H n x y → Eqv K H (n + 1) x y
  | 0, _, _, h => .inl h
  | n + 1, x, y, .inl h => .inl h
  | n + 1, x, y, .inr ⟨a, b, xs, ys, h1, h2, h3, h4, h5, h6⟩ => .inr ⟨a, b, xs, ys, h1, h2, h3, h4, h5, fun i x y hx hy => (h6 i x y hx hy).up⟩
def spAlike (K : PySem.W.Frag) : Nat → Sp
  | 0 => fun _ _ _ _ => False
  | n + 1 => fun vs H Q _ => ∃ x y, vs = [x, y] ∧ Eqv K H n x y ∧ ∀ H', Same H H' → Q (.bl true) H'
theorem Eqv.split {H : Hp} {n : Nat} {x y : V} (h : Eqv K H n x y) : (x = y ∧ scv x = true) ∨ ∃ m, n = m + 1 ∧ ∃ (a b : Addr) (xs ys : List V), x = .ref a ∧ y = .ref b ∧ ((ob K H a = some (.tup xs) ∧ ob K H b = some (.tup ys)) ∨ (ob K H a = some (.lst xs) ∧ ob K H b = some (.lst ys))) ∧ xs.length = ys.length ∧ ys.length ≤ 20000 ∧
    ∀ (i : Nat) x y, xs[i]? = some x → ys[i]? = some y → Eqv K H m x y := by
  cases n with
  | zero => exact .inl h
  | succ m =>
    rcases h with h | h
    · exact .inl h
    · exact .inr ⟨m, rfl, h⟩
theorem Kn.none {x : Str} {ps : List Str} {st : Stmt} (D : Dfn K mg x st ps) : Kn P w K mg base 0 x ps (fun _ _ _ _ => False) := by
  obtain ⟨f, fd, F, m, b⟩ := D.ex
  exact ⟨f, fd, m, F.kp, b, ⟨fun vs H Q E h => h.elim, fun A outer s H args us vs Q E _ _ _ _ h => h.elim⟩⟩
abbrev sAlike : Stmt := topS 57
theorem scAlike : FnScope ["_law_told_here", "_law_due_here", "_law_k"] ["_law_told_here", "_law_due_here"] (defScope sAlike) := ⟨rfl, rfl, rfl, by decide +kernel, rfl, by decide +kernel, by decide +kernel⟩
theorem blkA : BlkOk ["_law_told_here", "_law_due_here", "_law_k"] (defScope sAlike) { kind := .function, names := [(".0", .local), ("_law_k", .local), ("_law_alike", .globalImplicit), ("_law_due_here", .free), ("_law_told_here", .free)], isGenerator := false, isCoroutine := false, more := [] } [("_law_k", 2)] := ⟨rfl, by decide +kernel, by decide +kernel, by decide +kernel, by decide +kernel⟩
theorem k_Alike (n : Nat) (T : Bt K mg) (D : Dfn K mg "_law_alike" sAlike ["_law_told_here", "_law_due_here"]) (d__law_alike : Kn P w K mg base (n + 1) "_law_alike" ["_law_told_here", "_law_due_here"] (spAlike K n)) : Kn P w K mg base (n + 2) "_law_alike" ["_law_told_here", "_law_due_here"] (spAlike K (n + 1)) := by
  refine Kn.mk' D scAlike (fun vs H Q E h => ?_) (fun f cdv A outer s H vs Q E hr h => ?_)
  · obtain ⟨x, y, rfl, _⟩ := h
    rfl
  obtain ⟨x, y, rfl, he, k⟩ := h
  refine ⟨_, (pss_cons (ps_if (pt_val (pe_callB call_isT (by rfl) T.b_isinstance (by decide +kernel) (pa_cons (pv 1) (pa_cons (pe_tp (pa_cons (pe_bltn (v := .ty "list") (by rfl) T.b_list (by decide +kernel) rfl) (pa_cons (pe_bltn (v := .ty "tuple") (by rfl) T.b_tuple (by decide +kernel) rfl) pa_nil))) pa_nil)))) (pss_cons (ps_if (PW.pt (pw_or (pt_not (pt_val (pe_callB call_isT (by rfl) T.b_isinstance (by decide +kernel) (pa_cons (pv 0) (pa_cons (pe_tp (pa_cons (pe_bltn (v := .ty "list") (by rfl) T.b_list (by decide +kernel) rfl) (pa_cons (pe_bltn (v := .ty "tuple") (by rfl) T.b_tuple (by decide +kernel) rfl) pa_nil))) pa_nil))))) (pw_or1 (pt_cmpR op_ne (pe_callB call_isN (by rfl) T.b_isinstance (by decide +kernel) (pa_cons (pv 0) (pa_cons (pe_bltn (v := .ty "list") (by rfl) T.b_list (by decide +kernel) rfl) pa_nil))) (pe_callB call_isN (by rfl) T.b_isinstance (by decide +kernel) (pa_cons (pv 1) (pa_cons (pe_bltn (v := .ty "list") (by rfl) T.b_list (by decide +kernel) rfl) pa_nil))) (nomark _))))) (pss_one (ps_ret pe_bl)) pss_nil)
      (pss_one (ps_ret (pe_and (pe_cmpR op_eq (pe_callB call_lenA (by rfl) T.b_len PySem.boot_len (pa_cons (pv 0) pa_nil)) (pe_callB call_lenA (by rfl) T.b_len PySem.boot_len (pa_cons (pv 1) pa_nil)) (nomark _)) (pe_one (pe_notT (pe_lc (own := [("_law_k", 2)]) (g := gName 2) (tt := tNot (tTest (tCall (spAlike K n) [] E0 (tCons (tOp (rIxA K) (tVar 0) (tVar 2)) (tCons (tOp (rIxA K) (tVar 1) (tVar 2)) L2.tNil))))) (te := tVar 2) rfl scAlike.nd (pi_range1 (by rfl) T.b_range (pa_cons (pe_callB call_lenA (by rfl) T.b_len PySem.boot_len (pa_cons (pv 1) pa_nil)) pa_nil)) blkA (fun _ _ _ _ _ => by exact pg_name (i := 2) scAlike.nd rfl (.inl rfl)) (fun _ _ _ _ _ => by exact pts_one (pt_not (pt_val (pe_kn d__law_alike hr (by rfl) (pa_cons (pe_ix ix_any (pv 0) (pv 2) (fun _ _ => rfl)) (pa_cons (pe_ix ix_any (pv 1) (pv 2) (fun _ _ => rfl)) pa_nil)))))) (fun _ _ _ _ _ => by exact pv 2)))))))) pss_nil)
      (pss_cons (ps_if (PW.pt (pw_or (pt_cmpR op_isN (pv 1) pe_non (nomark _)) (pw_or1 (pt_cmpR op_isN (pv 0) pe_non (nomark _))))) (pss_one (ps_ret (pe_and (pe_cmpR op_isN (pv 1) pe_non (nomark _)) (pe_one (pe_cmpR op_isN (pv 0) pe_non (nomark _)))))) pss_nil)
      (pss_cons (ps_if (pt_val (pe_callB call_isN (by rfl) T.b_isinstance (by decide +kernel) (pa_cons (pv 1) (pa_cons (pe_bltn (v := .ty "str") (by rfl) T.b_str (by decide +kernel) rfl) pa_nil)))) (pss_one (ps_ret (pe_and (pe_callB call_isN (by rfl) T.b_isinstance (by decide +kernel) (pa_cons (pv 0) (pa_cons (pe_bltn (v := .ty "str") (by rfl) T.b_str (by decide +kernel) rfl) pa_nil))) (pe_one (pe_cmpR op_eq (pv 0) (pv 1) (nomark _)))))) pss_nil)
      (pss_one (ps_ret (pe_and (pe_callB call_isN (by rfl) T.b_isinstance (by decide +kernel) (pa_cons (pv 0) (pa_cons (pe_bltn (v := .ty "int") (by rfl) T.b_int (by decide +kernel) rfl) pa_nil))) (pe_and (pe_cmpR op_eq (pe_callB call_isN (by rfl) T.b_isinstance (by decide +kernel) (pa_cons (pv 0) (pa_cons (pe_bltn (v := .ty "bool") (by rfl) T.b_bool (by decide +kernel) rfl) pa_nil))) (pe_callB call_isN (by rfl) T.b_isinstance (by decide +kernel) (pa_cons (pv 1) (pa_cons (pe_bltn (v := .ty "bool") (by rfl) T.b_bool (by decide +kernel) rfl) pa_nil))) (nomark _)) (pe_one (pe_cmpR op_eq (pv 0) (pv 1) (nomark _)))))))))), ?_⟩
  rcases he.split with ⟨rfl, hsc⟩ | ⟨m, rfl, a, b, xs, ys, rfl, rfl, ho, hl, h20000, hi⟩
  · cases x with
    | int i =>
      simp only [cx_K, decide_true, decide_false, reduceCtorEq, gTp, gCons, gNil, ca_0, ca_1, ca_2, ca_3, ca_4, ca_5, ca_6, ca_7, ca_8, ca_9, ca_10, ca_11, ca_12, ca_13, ca_14, ca_15, ca_16, ca_17, ca_18, ca_19, ca_20, ca_21, ca_22, ca_23, ca_24, ca_25, ca_26, ca_27, ca_28, ca_29, ca_30, not_true_eq_false, not_false_eq_true, Int.reduceEq, Nat.reduceEqDiff, Nat.reduceLeDiff, rGcd, V.ty.injEq, eq_self, List.not_mem_nil, beq_self_eq_true, HO.lst.injEq, HO.tup.injEq, tFor_eq, iRng1, iList, iTup, nat10, tSeq, rIxA, rSetA, rIsN, rIsT, tTp, tLs, itsO_tup, itsO_lst, tyO_tup, tyO_lst, tyO_dK, tyN_non, tyN_bl, tyN_int, tyN_str, tyN_ref, tyNs_lt, isB, upd_same, upd_upd, sizeLine_eq, List.mem_cons, String.reduceBEq, String.reduceEq, Bool.or_false, Bool.or_true, Bool.and_false, Bool.false_or, Bool.and_self, Bool.false_and, Bool.not_false, Bool.not_true, List.any_cons, List.any_nil, atI_0, setI_0, atI_1, setI_1, atI_2, setI_2, atI_3, setI_3, atI_4, setI_4, atI_5, setI_5, atI_6, setI_6, tAsg, gName, tOp, tUn, tVar, tC, tCons, L2.tNil, tRet, tIfS, tTest, tCB, tCall, rI, rI0, rU, tNext, tB, tAnd, tOr, tNot, tAndV, tOrV, tNotV, tDrop, tIf, tPar, gSub, rIxL, rIxT, rEq, rNe, rSetL, tBits,
    L2.start, List.map_cons, List.map_nil, List.cons_append, List.nil_append, List.append_nil, List.length_cons, List.length_nil, List.replicate, Nat.reduceAdd, Nat.reduceSub, Nat.zero_add, List.getElem?_cons_zero, List.getElem?_cons_succ, List.set_cons_zero, List.set_cons_succ,
    Option.some.injEq, exists_eq_left', exists_eq_left, V.int.injEq, V.bl.injEq, V.ref.injEq, V.str.injEq, List.cons.injEq, reduceCtorEq, and_true, true_and, false_and, and_false, exists_false, or_false, false_or, or_true, true_or, exists_const, CMul, CDiv, CPow, and_assoc, exists_and_left, exists_and_right, Int.reducePow, Int.reduceNeg, Int.reduceLT, Int.reduceLE, Nat.reducePow, Nat.reduceLT, Int.reduceToNat, gt_iff_lt, ge_iff_le, decide_eq_true_eq, Bool.not_eq_true', decide_eq_false_iff_not, scal, ↓reduceIte, Bool.false_eq_true]
      intro p hp kp
      have s1 := Same.new hp (.tup [V.ty "list", V.ty "tuple"])
      generalize upd H p (.tup [V.ty "list", V.ty "tuple"]) = H1 at s1 ⊢
      exact k H1 s1
    | non =>
      simp only [cx_K, decide_true, decide_false, reduceCtorEq, gTp, gCons, gNil, ca_0, ca_1, ca_2, ca_3, ca_4, ca_5, ca_6, ca_7, ca_8, ca_9, ca_10, ca_11, ca_12, ca_13, ca_14, ca_15, ca_16, ca_17, ca_18, ca_19, ca_20, ca_21, ca_22, ca_23, ca_24, ca_25, ca_26, ca_27, ca_28, ca_29, ca_30, not_true_eq_false, not_false_eq_true, Int.reduceEq, Nat.reduceEqDiff, Nat.reduceLeDiff, rGcd, V.ty.injEq, eq_self, List.not_mem_nil, beq_self_eq_true, HO.lst.injEq, HO.tup.injEq, tFor_eq, iRng1, iList, iTup, nat10, tSeq, rIxA, rSetA, rIsN, rIsT, tTp, tLs, itsO_tup, itsO_lst, tyO_tup, tyO_lst, tyO_dK, tyN_non, tyN_bl, tyN_int, tyN_str, tyN_ref, tyNs_lt, isB, upd_same, upd_upd, sizeLine_eq, List.mem_cons, String.reduceBEq, String.reduceEq, Bool.or_false, Bool.or_true, Bool.and_false, Bool.false_or, Bool.and_self, Bool.false_and, Bool.not_false, Bool.not_true, List.any_cons, List.any_nil, atI_0, setI_0, atI_1, setI_1, atI_2, setI_2, atI_3, setI_3, atI_4, setI_4, atI_5, setI_5, atI_6, setI_6, tAsg, gName, tOp, tUn, tVar, tC, tCons, L2.tNil, tRet, tIfS, tTest, tCB, tCall, rI, rI0, rU, tNext, tB, tAnd, tOr, tNot, tAndV, tOrV, tNotV, tDrop, tIf, tPar, gSub, rIxL, rIxT, rEq, rNe, rSetL, tBits,
    L2.start, List.map_cons, List.map_nil, List.cons_append, List.nil_append, List.append_nil, List.length_cons, List.length_nil, List.replicate, Nat.reduceAdd, Nat.reduceSub, Nat.zero_add, List.getElem?_cons_zero, List.getElem?_cons_succ, List.set_cons_zero, List.set_cons_succ,
    Option.some.injEq, exists_eq_left', exists_eq_left, V.int.injEq, V.bl.injEq, V.ref.injEq, V.str.injEq, List.cons.injEq, reduceCtorEq, and_true, true_and, false_and, and_false, exists_false, or_false, false_or, or_true, true_or, exists_const, CMul, CDiv, CPow, and_assoc, exists_and_left, exists_and_right, Int.reducePow, Int.reduceNeg, Int.reduceLT, Int.reduceLE, Nat.reducePow, Nat.reduceLT, Int.reduceToNat, gt_iff_lt, ge_iff_le, decide_eq_true_eq, Bool.not_eq_true', decide_eq_false_iff_not, scal, ↓reduceIte, Bool.false_eq_true]
      intro p hp kp
      exact k _ (Same.new hp _)
    | str z =>
      simp only [cx_K, decide_true, decide_false, reduceCtorEq, gTp, gCons, gNil, ca_0, ca_1, ca_2, ca_3, ca_4, ca_5, ca_6, ca_7, ca_8, ca_9, ca_10, ca_11, ca_12, ca_13, ca_14, ca_15, ca_16, ca_17, ca_18, ca_19, ca_20, ca_21, ca_22, ca_23, ca_24, ca_25, ca_26, ca_27, ca_28, ca_29, ca_30, not_true_eq_false, not_false_eq_true, Int.reduceEq, Nat.reduceEqDiff, Nat.reduceLeDiff, rGcd, V.ty.injEq, eq_self, List.not_mem_nil, beq_self_eq_true, HO.lst.injEq, HO.tup.injEq, tFor_eq, iRng1, iList, iTup, nat10, tSeq, rIxA, rSetA, rIsN, rIsT, tTp, tLs, itsO_tup, itsO_lst, tyO_tup, tyO_lst, tyO_dK, tyN_non, tyN_bl, tyN_int, tyN_str, tyN_ref, tyNs_lt, isB, upd_same, upd_upd, sizeLine_eq, List.mem_cons, String.reduceBEq, String.reduceEq, Bool.or_false, Bool.or_true, Bool.and_false, Bool.false_or, Bool.and_self, Bool.false_and, Bool.not_false, Bool.not_true, List.any_cons, List.any_nil, atI_0, setI_0, atI_1, setI_1, atI_2, setI_2, atI_3, setI_3, atI_4, setI_4, atI_5, setI_5, atI_6, setI_6, tAsg, gName, tOp, tUn, tVar, tC, tCons, L2.tNil, tRet, tIfS, tTest, tCB, tCall, rI, rI0, rU, tNext, tB, tAnd, tOr, tNot, tAndV, tOrV, tNotV, tDrop, tIf, tPar, gSub, rIxL, rIxT, rEq, rNe, rSetL, tBits,
    L2.start, List.map_cons, List.map_nil, List.cons_append, List.nil_append, List.append_nil, List.length_cons, List.length_nil, List.replicate, Nat.reduceAdd, Nat.reduceSub, Nat.zero_add, List.getElem?_cons_zero, List.getElem?_cons_succ, List.set_cons_zero, List.set_cons_succ,
    Option.some.injEq, exists_eq_left', exists_eq_left, V.int.injEq, V.bl.injEq, V.ref.injEq, V.str.injEq, List.cons.injEq, reduceCtorEq, and_true, true_and, false_and, and_false, exists_false, or_false, false_or, or_true, true_or, exists_const, CMul, CDiv, CPow, and_assoc, exists_and_left, exists_and_right, Int.reducePow, Int.reduceNeg, Int.reduceLT, Int.reduceLE, Nat.reducePow, Nat.reduceLT, Int.reduceToNat, gt_iff_lt, ge_iff_le, decide_eq_true_eq, Bool.not_eq_true', decide_eq_false_iff_not, scal, ↓reduceIte, Bool.false_eq_true]
      intro p hp kp
      exact k _ (Same.new hp _)
    | bl z =>
      simp only [cx_K, decide_true, decide_false, reduceCtorEq, gTp, gCons, gNil, ca_0, ca_1, ca_2, ca_3, ca_4, ca_5, ca_6, ca_7, ca_8, ca_9, ca_10, ca_11, ca_12, ca_13, ca_14, ca_15, ca_16, ca_17, ca_18, ca_19, ca_20, ca_21, ca_22, ca_23, ca_24, ca_25, ca_26, ca_27, ca_28, ca_29, ca_30, not_true_eq_false, not_false_eq_true, Int.reduceEq, Nat.reduceEqDiff, Nat.reduceLeDiff, rGcd, V.ty.injEq, eq_self, List.not_mem_nil, beq_self_eq_true, HO.lst.injEq, HO.tup.injEq, tFor_eq, iRng1, iList, iTup, nat10, tSeq, rIxA, rSetA, rIsN, rIsT, tTp, tLs, itsO_tup, itsO_lst, tyO_tup, tyO_lst, tyO_dK, tyN_non, tyN_bl, tyN_int, tyN_str, tyN_ref, tyNs_lt, isB, upd_same, upd_upd, sizeLine_eq, List.mem_cons, String.reduceBEq, String.reduceEq, Bool.or_false, Bool.or_true, Bool.and_false, Bool.false_or, Bool.and_self, Bool.false_and, Bool.not_false, Bool.not_true, List.any_cons, List.any_nil, atI_0, setI_0, atI_1, setI_1, atI_2, setI_2, atI_3, setI_3, atI_4, setI_4, atI_5, setI_5, atI_6, setI_6, tAsg, gName, tOp, tUn, tVar, tC, tCons, L2.tNil, tRet, tIfS, tTest, tCB, tCall, rI, rI0, rU, tNext, tB, tAnd, tOr, tNot, tAndV, tOrV, tNotV, tDrop, tIf, tPar, gSub, rIxL, rIxT, rEq, rNe, rSetL, tBits,
    L2.start, List.map_cons, List.map_nil, List.cons_append, List.nil_append, List.append_nil, List.length_cons, List.length_nil, List.replicate, Nat.reduceAdd, Nat.reduceSub, Nat.zero_add, List.getElem?_cons_zero, List.getElem?_cons_succ, List.set_cons_zero, List.set_cons_succ,
    Option.some.injEq, exists_eq_left', exists_eq_left, V.int.injEq, V.bl.injEq, V.ref.injEq, V.str.injEq, List.cons.injEq, reduceCtorEq, and_true, true_and, false_and, and_false, exists_false, or_false, false_or, or_true, true_or, exists_const, CMul, CDiv, CPow, and_assoc, exists_and_left, exists_and_right, Int.reducePow, Int.reduceNeg, Int.reduceLT, Int.reduceLE, Nat.reducePow, Nat.reduceLT, Int.reduceToNat, gt_iff_lt, ge_iff_le, decide_eq_true_eq, Bool.not_eq_true', decide_eq_false_iff_not, scal, ↓reduceIte, Bool.false_eq_true]
      intro p hp kp
      exact k _ (Same.new hp _)
    | _ => cases hsc
  rcases ho with ⟨oa, oc⟩ | ⟨oa, oc⟩
  · simp only [oa, oc, cx_K, decide_true, decide_false, reduceCtorEq, gTp, gCons, gNil, ca_0, ca_1, ca_2, ca_3, ca_4, ca_5, ca_6, ca_7, ca_8, ca_9, ca_10, ca_11, ca_12, ca_13, ca_14, ca_15, ca_16, ca_17, ca_18, ca_19, ca_20, ca_21, ca_22, ca_23, ca_24, ca_25, ca_26, ca_27, ca_28, ca_29, ca_30, not_true_eq_false, not_false_eq_true, Int.reduceEq, Nat.reduceEqDiff, Nat.reduceLeDiff, rGcd, V.ty.injEq, eq_self, List.not_mem_nil, beq_self_eq_true, HO.lst.injEq, HO.tup.injEq, tFor_eq, iRng1, iList, iTup, nat10, tSeq, rIxA, rSetA, rIsN, rIsT, tTp, tLs, itsO_tup, itsO_lst, tyO_tup, tyO_lst, tyO_dK, tyN_non, tyN_bl, tyN_int, tyN_str, tyN_ref, tyNs_lt, isB, upd_same, upd_upd, sizeLine_eq, List.mem_cons, String.reduceBEq, String.reduceEq, Bool.or_false, Bool.or_true, Bool.and_false, Bool.false_or, Bool.and_self, Bool.false_and, Bool.not_false, Bool.not_true, List.any_cons, List.any_nil, atI_0, setI_0, atI_1, setI_1, atI_2, setI_2, atI_3, setI_3, atI_4, setI_4, atI_5, setI_5, atI_6, setI_6, tAsg, gName, tOp, tUn, tVar, tC, tCons, L2.tNil, tRet, tIfS, tTest, tCB, tCall, rI, rI0, rU, tNext, tB, tAnd, tOr, tNot, tAndV, tOrV, tNotV, tDrop, tIf, tPar, gSub, rIxL, rIxT, rEq, rNe, rSetL, tBits,
    L2.start, List.map_cons, List.map_nil, List.cons_append, List.nil_append, List.append_nil, List.length_cons, List.length_nil, List.replicate, Nat.reduceAdd, Nat.reduceSub, Nat.zero_add, List.getElem?_cons_zero, List.getElem?_cons_succ, List.set_cons_zero, List.set_cons_succ,
    Option.some.injEq, exists_eq_left', exists_eq_left, V.int.injEq, V.bl.injEq, V.ref.injEq, V.str.injEq, List.cons.injEq, reduceCtorEq, and_true, true_and, false_and, and_false, exists_false, or_false, false_or, or_true, true_or, exists_const, CMul, CDiv, CPow, and_assoc, exists_and_left, exists_and_right, Int.reducePow, Int.reduceNeg, Int.reduceLT, Int.reduceLE, Nat.reducePow, Nat.reduceLT, Int.reduceToNat, gt_iff_lt, ge_iff_le, decide_eq_true_eq, Bool.not_eq_true', decide_eq_false_iff_not, scal, ↓reduceIte, Bool.false_eq_true]
    intro p1 hp1 kp1
    have s1 := Same.new hp1 (.tup [V.ty "list", V.ty "tuple"])
    generalize upd H p1 (.tup [V.ty "list", V.ty "tuple"]) = H1 at s1 ⊢
    have oa1 := ob_same s1 oa
    have oc1 := ob_same s1 oc
    simp only [oa1, oc1, cx_K, decide_true, decide_false, reduceCtorEq, gTp, gCons, gNil, ca_0, ca_1, ca_2, ca_3, ca_4, ca_5, ca_6, ca_7, ca_8, ca_9, ca_10, ca_11, ca_12, ca_13, ca_14, ca_15, ca_16, ca_17, ca_18, ca_19, ca_20, ca_21, ca_22, ca_23, ca_24, ca_25, ca_26, ca_27, ca_28, ca_29, ca_30, not_true_eq_false, not_false_eq_true, Int.reduceEq, Nat.reduceEqDiff, Nat.reduceLeDiff, rGcd, V.ty.injEq, eq_self, List.not_mem_nil, beq_self_eq_true, HO.lst.injEq, HO.tup.injEq, tFor_eq, iRng1, iList, iTup, nat10, tSeq, rIxA, rSetA, rIsN, rIsT, tTp, tLs, itsO_tup, itsO_lst, tyO_tup, tyO_lst, tyO_dK, tyN_non, tyN_bl, tyN_int, tyN_str, tyN_ref, tyNs_lt, isB, upd_same, upd_upd, sizeLine_eq, List.mem_cons, String.reduceBEq, String.reduceEq, Bool.or_false, Bool.or_true, Bool.and_false, Bool.false_or, Bool.and_self, Bool.false_and, Bool.not_false, Bool.not_true, List.any_cons, List.any_nil, atI_0, setI_0, atI_1, setI_1, atI_2, setI_2, atI_3, setI_3, atI_4, setI_4, atI_5, setI_5, atI_6, setI_6, tAsg, gName, tOp, tUn, tVar, tC, tCons, L2.tNil, tRet, tIfS, tTest, tCB, tCall, rI, rI0, rU, tNext, tB, tAnd, tOr, tNot, tAndV, tOrV, tNotV, tDrop, tIf, tPar, gSub, rIxL, rIxT, rEq, rNe, rSetL, tBits,
    L2.start, List.map_cons, List.map_nil, List.cons_append, List.nil_append, List.append_nil, List.length_cons, List.length_nil, List.replicate, Nat.reduceAdd, Nat.reduceSub, Nat.zero_add, List.getElem?_cons_zero, List.getElem?_cons_succ, List.set_cons_zero, List.set_cons_succ,
    Option.some.injEq, exists_eq_left', exists_eq_left, V.int.injEq, V.bl.injEq, V.ref.injEq, V.str.injEq, List.cons.injEq, reduceCtorEq, and_true, true_and, false_and, and_false, exists_false, or_false, false_or, or_true, true_or, exists_const, CMul, CDiv, CPow, and_assoc, exists_and_left, exists_and_right, Int.reducePow, Int.reduceNeg, Int.reduceLT, Int.reduceLE, Nat.reducePow, Nat.reduceLT, Int.reduceToNat, gt_iff_lt, ge_iff_le, decide_eq_true_eq, Bool.not_eq_true', decide_eq_false_iff_not, scal, ↓reduceIte, Bool.false_eq_true]
    intro p2 hp2 kp2
    have s2 := Same.new hp2 (.tup [V.ty "list", V.ty "tuple"])
    generalize upd H1 p2 (.tup [V.ty "list", V.ty "tuple"]) = H2 at s2 ⊢
    have oa2 := ob_same s2 oa1
    have oc2 := ob_same s2 oc1
    simp only [oa2, oc2, cx_K, decide_true, decide_false, reduceCtorEq, gTp, gCons, gNil, ca_0, ca_1, ca_2, ca_3, ca_4, ca_5, ca_6, ca_7, ca_8, ca_9, ca_10, ca_11, ca_12, ca_13, ca_14, ca_15, ca_16, ca_17, ca_18, ca_19, ca_20, ca_21, ca_22, ca_23, ca_24, ca_25, ca_26, ca_27, ca_28, ca_29, ca_30, not_true_eq_false, not_false_eq_true, Int.reduceEq, Nat.reduceEqDiff, Nat.reduceLeDiff, rGcd, V.ty.injEq, eq_self, List.not_mem_nil, beq_self_eq_true, HO.lst.injEq, HO.tup.injEq, tFor_eq, iRng1, iList, iTup, nat10, tSeq, rIxA, rSetA, rIsN, rIsT, tTp, tLs, itsO_tup, itsO_lst, tyO_tup, tyO_lst, tyO_dK, tyN_non, tyN_bl, tyN_int, tyN_str, tyN_ref, tyNs_lt, isB, upd_same, upd_upd, sizeLine_eq, List.mem_cons, String.reduceBEq, String.reduceEq, Bool.or_false, Bool.or_true, Bool.and_false, Bool.false_or, Bool.and_self, Bool.false_and, Bool.not_false, Bool.not_true, List.any_cons, List.any_nil, atI_0, setI_0, atI_1, setI_1, atI_2, setI_2, atI_3, setI_3, atI_4, setI_4, atI_5, setI_5, atI_6, setI_6, tAsg, gName, tOp, tUn, tVar, tC, tCons, L2.tNil, tRet, tIfS, tTest, tCB, tCall, rI, rI0, rU, tNext, tB, tAnd, tOr, tNot, tAndV, tOrV, tNotV, tDrop, tIf, tPar, gSub, rIxL, rIxT, rEq, rNe, rSetL, tBits,
    L2.start, List.map_cons, List.map_nil, List.cons_append, List.nil_append, List.append_nil, List.length_cons, List.length_nil, List.replicate, Nat.reduceAdd, Nat.reduceSub, Nat.zero_add, List.getElem?_cons_zero, List.getElem?_cons_succ, List.set_cons_zero, List.set_cons_succ,
    Option.some.injEq, exists_eq_left', exists_eq_left, V.int.injEq, V.bl.injEq, V.ref.injEq, V.str.injEq, List.cons.injEq, reduceCtorEq, and_true, true_and, false_and, and_false, exists_false, or_false, false_or, or_true, true_or, exists_const, CMul, CDiv, CPow, and_assoc, exists_and_left, exists_and_right, Int.reducePow, Int.reduceNeg, Int.reduceLT, Int.reduceLE, Nat.reducePow, Nat.reduceLT, Int.reduceToNat, gt_iff_lt, ge_iff_le, decide_eq_true_eq, Bool.not_eq_true', decide_eq_false_iff_not, scal, ↓reduceIte, Bool.false_eq_true]
    rw [if_pos (show (xs.length : Int) = (ys.length : Int) by omega)]
    have ia : itsO (ob K H2 a) = some xs := by rw [oa2]; rfl
    have ib : itsO (ob K H2 b) = some ys := by rw [oc2]; rfl
    refine ⟨_, rfl, b, rfl, ys, ib, _, rfl, by omega, by omega, fun D hD => lc_range (lo := 0) (n := ys.length) (fun _ H' => H' D = some (.lst []) ∧ Same H2 H') ⟨upd_same, Same.new hD _⟩ ?_ ?_⟩
    · rintro i H' hlt ⟨h, s3⟩
      have hx : i < xs.length := by omega
      have ex : atI xs (0 + (i : Int)) = some xs[i] := by rw [Int.zero_add]; exact atI_nat (List.getElem?_eq_getElem hx)
      have ey : atI ys (0 + (i : Int)) = some ys[i] := by rw [Int.zero_add]; exact atI_nat (List.getElem?_eq_getElem hlt)
      have s02 := (s1.trans s2).trans s3
      refine ⟨rfl, _, rfl, _, rfl, a, _, rfl, rfl, _, by rw [ob_same s3 oa2]; rfl, _, ex, _, rfl, _, rfl, b, _, rfl, rfl, _, by rw [ob_same s3 oc2]; rfl, _, ey, _, _, rfl, (hi i _ _ (List.getElem?_eq_getElem hx) (List.getElem?_eq_getElem hlt)).same s02, fun H3 s4 => ⟨true, rfl, iteF ⟨s4 _ _ h, s3.trans s4⟩⟩⟩
    · rintro H' ⟨h, s3⟩
      exact ⟨false, .inl ⟨[], .of h, rfl⟩, k H' ((s1.trans s2).trans s3)⟩
  · simp only [oa, oc, cx_K, decide_true, decide_false, reduceCtorEq, gTp, gCons, gNil, ca_0, ca_1, ca_2, ca_3, ca_4, ca_5, ca_6, ca_7, ca_8, ca_9, ca_10, ca_11, ca_12, ca_13, ca_14, ca_15, ca_16, ca_17, ca_18, ca_19, ca_20, ca_21, ca_22, ca_23, ca_24, ca_25, ca_26, ca_27, ca_28, ca_29, ca_30, not_true_eq_false, not_false_eq_true, Int.reduceEq, Nat.reduceEqDiff, Nat.reduceLeDiff, rGcd, V.ty.injEq, eq_self, List.not_mem_nil, beq_self_eq_true, HO.lst.injEq, HO.tup.injEq, tFor_eq, iRng1, iList, iTup, nat10, tSeq, rIxA, rSetA, rIsN, rIsT, tTp, tLs, itsO_tup, itsO_lst, tyO_tup, tyO_lst, tyO_dK, tyN_non, tyN_bl, tyN_int, tyN_str, tyN_ref, tyNs_lt, isB, upd_same, upd_upd, sizeLine_eq, List.mem_cons, String.reduceBEq, String.reduceEq, Bool.or_false, Bool.or_true, Bool.and_false, Bool.false_or, Bool.and_self, Bool.false_and, Bool.not_false, Bool.not_true, List.any_cons, List.any_nil, atI_0, setI_0, atI_1, setI_1, atI_2, setI_2, atI_3, setI_3, atI_4, setI_4, atI_5, setI_5, atI_6, setI_6, tAsg, gName, tOp, tUn, tVar, tC, tCons, L2.tNil, tRet, tIfS, tTest, tCB, tCall, rI, rI0, rU, tNext, tB, tAnd, tOr, tNot, tAndV, tOrV, tNotV, tDrop, tIf, tPar, gSub, rIxL, rIxT, rEq, rNe, rSetL, tBits,
    L2.start, List.map_cons, List.map_nil, List.cons_append, List.nil_append, List.append_nil, List.length_cons, List.length_nil, List.replicate, Nat.reduceAdd, Nat.reduceSub, Nat.zero_add, List.getElem?_cons_zero, List.getElem?_cons_succ, List.set_cons_zero, List.set_cons_succ,
    Option.some.injEq, exists_eq_left', exists_eq_left, V.int.injEq, V.bl.injEq, V.ref.injEq, V.str.injEq, List.cons.injEq, reduceCtorEq, and_true, true_and, false_and, and_false, exists_false, or_false, false_or, or_true, true_or, exists_const, CMul, CDiv, CPow, and_assoc, exists_and_left, exists_and_right, Int.reducePow, Int.reduceNeg, Int.reduceLT, Int.reduceLE, Nat.reducePow, Nat.reduceLT, Int.reduceToNat, gt_iff_lt, ge_iff_le, decide_eq_true_eq, Bool.not_eq_true', decide_eq_false_iff_not, scal, ↓reduceIte, Bool.false_eq_true]
    intro p1 hp1 kp1
    have s1 := Same.new hp1 (.tup [V.ty "list", V.ty "tuple"])
    generalize upd H p1 (.tup [V.ty "list", V.ty "tuple"]) = H1 at s1 ⊢
    have oa1 := ob_same s1 oa
    have oc1 := ob_same s1 oc
    simp only [oa1, oc1, cx_K, decide_true, decide_false, reduceCtorEq, gTp, gCons, gNil, ca_0, ca_1, ca_2, ca_3, ca_4, ca_5, ca_6, ca_7, ca_8, ca_9, ca_10, ca_11, ca_12, ca_13, ca_14, ca_15, ca_16, ca_17, ca_18, ca_19, ca_20, ca_21, ca_22, ca_23, ca_24, ca_25, ca_26, ca_27, ca_28, ca_29, ca_30, not_true_eq_false, not_false_eq_true, Int.reduceEq, Nat.reduceEqDiff, Nat.reduceLeDiff, rGcd, V.ty.injEq, eq_self, List.not_mem_nil, beq_self_eq_true, HO.lst.injEq, HO.tup.injEq, tFor_eq, iRng1, iList, iTup, nat10, tSeq, rIxA, rSetA, rIsN, rIsT, tTp, tLs, itsO_tup, itsO_lst, tyO_tup, tyO_lst, tyO_dK, tyN_non, tyN_bl, tyN_int, tyN_str, tyN_ref, tyNs_lt, isB, upd_same, upd_upd, sizeLine_eq, List.mem_cons, String.reduceBEq, String.reduceEq, Bool.or_false, Bool.or_true, Bool.and_false, Bool.false_or, Bool.and_self, Bool.false_and, Bool.not_false, Bool.not_true, List.any_cons, List.any_nil, atI_0, setI_0, atI_1, setI_1, atI_2, setI_2, atI_3, setI_3, atI_4, setI_4, atI_5, setI_5, atI_6, setI_6, tAsg, gName, tOp, tUn, tVar, tC, tCons, L2.tNil, tRet, tIfS, tTest, tCB, tCall, rI, rI0, rU, tNext, tB, tAnd, tOr, tNot, tAndV, tOrV, tNotV, tDrop, tIf, tPar, gSub, rIxL, rIxT, rEq, rNe, rSetL, tBits,
    L2.start, List.map_cons, List.map_nil, List.cons_append, List.nil_append, List.append_nil, List.length_cons, List.length_nil, List.replicate, Nat.reduceAdd, Nat.reduceSub, Nat.zero_add, List.getElem?_cons_zero, List.getElem?_cons_succ, List.set_cons_zero, List.set_cons_succ,
    Option.some.injEq, exists_eq_left', exists_eq_left, V.int.injEq, V.bl.injEq, V.ref.injEq, V.str.injEq, List.cons.injEq, reduceCtorEq, and_true, true_and, false_and, and_false, exists_false, or_false, false_or, or_true, true_or, exists_const, CMul, CDiv, CPow, and_assoc, exists_and_left, exists_and_right, Int.reducePow, Int.reduceNeg, Int.reduceLT, Int.reduceLE, Nat.reducePow, Nat.reduceLT, Int.reduceToNat, gt_iff_lt, ge_iff_le, decide_eq_true_eq, Bool.not_eq_true', decide_eq_false_iff_not, scal, ↓reduceIte, Bool.false_eq_true]
    intro p2 hp2 kp2
    have s2 := Same.new hp2 (.tup [V.ty "list", V.ty "tuple"])
    generalize upd H1 p2 (.tup [V.ty "list", V.ty "tuple"]) = H2 at s2 ⊢
    have oa2 := ob_same s2 oa1
    have oc2 := ob_same s2 oc1
    simp only [oa2, oc2, cx_K, decide_true, decide_false, reduceCtorEq, gTp, gCons, gNil, ca_0, ca_1, ca_2, ca_3, ca_4, ca_5, ca_6, ca_7, ca_8, ca_9, ca_10, ca_11, ca_12, ca_13, ca_14, ca_15, ca_16, ca_17, ca_18, ca_19, ca_20, ca_21, ca_22, ca_23, ca_24, ca_25, ca_26, ca_27, ca_28, ca_29, ca_30, not_true_eq_false, not_false_eq_true, Int.reduceEq, Nat.reduceEqDiff, Nat.reduceLeDiff, rGcd, V.ty.injEq, eq_self, List.not_mem_nil, beq_self_eq_true, HO.lst.injEq, HO.tup.injEq, tFor_eq, iRng1, iList, iTup, nat10, tSeq, rIxA, rSetA, rIsN, rIsT, tTp, tLs, itsO_tup, itsO_lst, tyO_tup, tyO_lst, tyO_dK, tyN_non, tyN_bl, tyN_int, tyN_str, tyN_ref, tyNs_lt, isB, upd_same, upd_upd, sizeLine_eq, List.mem_cons, String.reduceBEq, String.reduceEq, Bool.or_false, Bool.or_true, Bool.and_false, Bool.false_or, Bool.and_self, Bool.false_and, Bool.not_false, Bool.not_true, List.any_cons, List.any_nil, atI_0, setI_0, atI_1, setI_1, atI_2, setI_2, atI_3, setI_3, atI_4, setI_4, atI_5, setI_5, atI_6, setI_6, tAsg, gName, tOp, tUn, tVar, tC, tCons, L2.tNil, tRet, tIfS, tTest, tCB, tCall, rI, rI0, rU, tNext, tB, tAnd, tOr, tNot, tAndV, tOrV, tNotV, tDrop, tIf, tPar, gSub, rIxL, rIxT, rEq, rNe, rSetL, tBits,
    L2.start, List.map_cons, List.map_nil, List.cons_append, List.nil_append, List.append_nil, List.length_cons, List.length_nil, List.replicate, Nat.reduceAdd, Nat.reduceSub, Nat.zero_add, List.getElem?_cons_zero, List.getElem?_cons_succ, List.set_cons_zero, List.set_cons_succ,
    Option.some.injEq, exists_eq_left', exists_eq_left, V.int.injEq, V.bl.injEq, V.ref.injEq, V.str.injEq, List.cons.injEq, reduceCtorEq, and_true, true_and, false_and, and_false, exists_false, or_false, false_or, or_true, true_or, exists_const, CMul, CDiv, CPow, and_assoc, exists_and_left, exists_and_right, Int.reducePow, Int.reduceNeg, Int.reduceLT, Int.reduceLE, Nat.reducePow, Nat.reduceLT, Int.reduceToNat, gt_iff_lt, ge_iff_le, decide_eq_true_eq, Bool.not_eq_true', decide_eq_false_iff_not, scal, ↓reduceIte, Bool.false_eq_true]
    rw [if_pos (show (xs.length : Int) = (ys.length : Int) by omega)]
    have ia : itsO (ob K H2 a) = some xs := by rw [oa2]; rfl
    have ib : itsO (ob K H2 b) = some ys := by rw [oc2]; rfl
    refine ⟨_, rfl, b, rfl, ys, ib, _, rfl, by omega, by omega, fun D hD => lc_range (lo := 0) (n := ys.length) (fun _ H' => H' D = some (.lst []) ∧ Same H2 H') ⟨upd_same, Same.new hD _⟩ ?_ ?_⟩
    · rintro i H' hlt ⟨h, s3⟩
      have hx : i < xs.length := by omega
      have ex : atI xs (0 + (i : Int)) = some xs[i] := by rw [Int.zero_add]; exact atI_nat (List.getElem?_eq_getElem hx)
      have ey : atI ys (0 + (i : Int)) = some ys[i] := by rw [Int.zero_add]; exact atI_nat (List.getElem?_eq_getElem hlt)
      have s02 := (s1.trans s2).trans s3
      refine ⟨rfl, _, rfl, _, rfl, a, _, rfl, rfl, _, by rw [ob_same s3 oa2]; rfl, _, ex, _, rfl, _, rfl, b, _, rfl, rfl, _, by rw [ob_same s3 oc2]; rfl, _, ey, _, _, rfl, (hi i _ _ (List.getElem?_eq_getElem hx) (List.getElem?_eq_getElem hlt)).same s02, fun H3 s4 => ⟨true, rfl, iteF ⟨s4 _ _ h, s3.trans s4⟩⟩⟩
    · rintro H' ⟨h, s3⟩
      exact ⟨false, .inl ⟨[], .of h, rfl⟩, k H' ((s1.trans s2).trans s3)⟩
theorem k_alike (T : Bt K mg) (D : Dfn K mg "_law_alike" sAlike ["_law_told_here", "_law_due_here"]) : ∀ n : Nat, Kn P w K mg base (n + 1) "_law_alike" ["_law_told_here", "_law_due_here"] (spAlike K n)
  | 0 => by
    obtain ⟨f, fd, m, kp, b, G⟩ := (Kn.none (P := P) (w := w) (base := base) D).ex
    exact ⟨f, fd, m, kp, b, (G.mono (Nat.zero_le _)).imp fun vs H Q E h => h.elim⟩
  | n + 1 => k_Alike n T D (k_alike T D n)
theorem eqv_tup {H : Hp} {a b : Addr} {xs : List V} (oa : ob K H a = some (.tup xs)) (ob' : ob K H b = some (.tup xs)) (hs : xs.all scv = true) (hl : xs.length ≤ 20000) : Eqv K H 1 (.ref a) (.ref b) := by
  refine .inr ⟨a, b, xs, xs, rfl, rfl, .inl ⟨oa, ob'⟩, rfl, hl, fun i x y hx hy => ?_⟩
  rw [hx] at hy
  cases hy
  exact ⟨rfl, List.all_eq_true.mp hs x (List.mem_of_getElem? hx)⟩
end
end My

namespace My
open PySem PySem.Spec PyProof.Rows L2
section
variable {P : Program} {w : World} {K : PySem.W.Frag} {mg : Str → Option Value} {base : Heap}
end
/-! ### what a def that raises keeps -/
structure KnX (P : Program) (w : World) (K : PySem.W.Frag) (mg : Str → Option Value) (base : Heap) (k : Nat) (x : Str) (ps : List Str) (sp : Sp) : Prop where
  ex : ∃ f fd, mg x = some (.ref f) ∧ PySem.W.keepIn K (.ref f) = true ∧ Binds K fd ps [] ∧ FnOk P w K mg base (L2.CX P w) k f fd ps sp
theorem KnX.mk' {P : Program} {w : World} {K : PySem.W.Frag} {mg : Str → Option Value} {base : Heap} {x : Str} {st : Stmt} {N ps : List Str} {k : Nat} {sp : Sp} (D : Dfn K mg x st ps) (S : FnScope N ps (defScope st)) (len : ∀ vs H Q E, sp vs H Q E → vs.length = ps.length)
    (hbody : ∀ (f : Addr) (cdv : Value) (A : Around) (outer : List Env) (s : Shared) (H : Hp) (vs : List V) (Q : VK) (E : XK), Room k (A.deeper (envOfC x (defScope st) s.heap.objs.size f cdv)) → sp vs H Q E →
      ∃ t, PSs (cxOf (L2.CX P w) P w K mg base N x (defScope st) f cdv A outer s H E) (defBody st) t ∧ t { nx := fun _ H' => Q .non H', rt := Q } (start N vs) H) : KnX P w K mg base (k + 1) x ps sp := by
  obtain ⟨f, fd, F, m, b⟩ := D.ex
  exact ⟨f, fd, m, F.kp, b, F.okX S len (hbody f)⟩
section
variable {X : Cx}
theorem pe_knX {j k : Nat} {x : Str} {ps : List Str} {sp : Sp} {p pos : Pos} {e : Expr} {es : List Expr} {t : TA} {W : WX} (E : XK) (F : KnX X.prog X.w X.K X.mg X.base k x ps sp) (hr : Room j X.A) (hg : Gl X x) (tk : Takes X W) (hW : ∀ cls d σ H, E cls d H → W cls d σ H) (ha : PA X (e :: es) t) (hj : k ≤ j := by omega)
    (hdb : (x == ("__debug__" : Str)) = false := by decide) (he : starEach (e :: es) X.env = (false, eval e X.env) :: starEach es X.env := by rfl) (hpl : (backTo pos (starEach es X.env)).any (·.1) = false := by rfl) :
    PE X (.Call (.Name x p) (e :: es) [] pos) (tCall sp [] E t) := by
  obtain ⟨f, fd, m, kp, b, G⟩ := F.ex
  exact pe_call G (hr.mono hj) hg m kp b .nil (passes_call tk hW) ha hdb he hpl
end
/-! ### BadValue -/
structure BvT (K : PySem.W.Frag) (mg : Str → Option Value) (C : Addr) : Prop where
  g : mg "BadValue" = some (.ref C)
  ox : OexC K C
  no : PySem.W.findIn K (.ref C) "what" = some none
  ini : ∃ fI fd, PySem.W.findIn K (.ref C) "__init__" = some (some (.ref fI)) ∧ PySem.W.typeIn K (.ref fI) = some (.type "function") ∧ Fun K "__init__" "BadValue.__init__" (inClass (topS 3) 0) fI fd ∧ Binds K fd ["self", "what"] []
def spInit (C : Addr) : Sp := fun vs H Q _ => ∃ (a : Addr) (y : V), vs = [.ref a, y] ∧ H a = some (exo a C none) ∧ ∀ dx, H dx = none → dx ≠ a → Q .non (upd (upd H dx (exd dx [("what", y)])) a (exo a C (some dx)))
/-- an error of BadValue: its own dict d, what it names -/
def Bv (K : PySem.W.Frag) (C : Addr) (H : Hp) (E : XK) (y : V) : Prop := ∀ (d : Addr) (H' : Hp), Same H H' → H' d = some (.xd [("what", y)]) → E (.ref C) (some d) H'
def spRequireX (K : PySem.W.Frag) (C : Addr) : Sp := fun vs H _ E => ∃ y : V, vs = [.bl false, y] ∧ Bv K C H E y
section
variable {P : Program} {w : World} {K : PySem.W.Frag} {mg : Str → Option Value} {base : Heap}
abbrev sInitB : Stmt := inClass (topS 3) 0
theorem scInitB : FnScope ["self", "what"] ["self", "what"] (defScope sInitB) := ⟨rfl, rfl, rfl, by decide +kernel, rfl, by decide +kernel, by decide +kernel⟩
theorem ok_initB {C fI : Addr} {fd : FuncData} (B : BvT K mg C) (F : Fun K "__init__" "BadValue.__init__" sInitB fI fd) : FnOk P w K mg base CX0 1 fI fd ["self", "what"] (spInit C) := by
  refine F.ok scInitB (fun vs H Q E h => ?_) (fun cdv A outer s H vs Q E hr h => ?_)
  · obtain ⟨a, y, rfl, _⟩ := h
    rfl
  obtain ⟨a, y, rfl, ha, k⟩ := h
  refine ⟨_, pss_one (ps_ost (pv 0) (pv 1)), ?_⟩
  exact ⟨_, rfl, _, rfl, a, C, rfl, B.ox, B.no, .inl ⟨ha, k⟩⟩
theorem kx_Require {C : Addr} (B : BvT K mg C) (D : Dfn K mg "require" sRequire ["well_formed", "what"]) : KnX P w K mg base 3 "require" ["well_formed", "what"] (spRequireX K C) := by
  refine KnX.mk' D scRequire (fun vs H Q E h => ?_) (fun f cdv A outer s H vs Q E hr h => ?_)
  · obtain ⟨y, rfl, _⟩ := h
    rfl
  obtain ⟨y, rfl, k⟩ := h
  obtain ⟨fI, fd, iC, tI, F, b⟩ := B.ini
  refine ⟨_, (pss_one (ps_if (pt_not (pt_val (pv 0))) (pss_one (ps_raise rfl (takes_of rfl rfl rfl rfl) (pmk_oex B.ox iC tI (ok_initB B F) hr b .nil pass0 (by rfl) B.g (pa_cons (pv 1) pa_nil)))) pss_nil)), ?_⟩
  refine ⟨_, rfl, _, rfl, iteT ?_⟩
  refine ⟨_, rfl, by show 1 ≤ 1000; decide, fun a na => ⟨a, y, rfl, upd_same, fun dx ndx ne => ⟨rfl, dx, [("what", y)], upd_same, ?_, ?_, ?_⟩⟩⟩
  · rw [upd_ne ne, upd_same]
  · rw [upd_ne ne] at ndx
    exact ndx
  · rw [upd_ne ne] at ndx
    refine k dx _ (fun b o e => ?_) upd_same
    rw [upd_ne (ne_of_none e ndx), del_ne (ne_of_none e na), upd_ne (ne_of_none e na), upd_ne (ne_of_none e ndx), upd_ne (ne_of_none e na)]
    exact e
end
end My

namespace My
open PySem PySem.Spec PyProof.Rows L2
section
variable {P : Program} {w : World} {K : PySem.W.Frag} {mg : Str → Option Value} {base : Heap}
end
/-- what the written part says of the errors' classes: C is BadValue, S SkyError, A the eleven by name -/
structure AskT (K : PySem.W.Frag) (mg : Str → Option Value) (C S : Addr) (A : String → Addr) : Prop where
  sky : mg "SkyError" = some (.ref S)
  exm : PySem.W.exmOne K (.ref C) (.ref S) = some true
  g : ∀ n ∈ ["BadValue", "Mismatch", "Still", "Endless", "TooMany", "NoName", "Taken", "Locked", "Looped", "Broken", "ReadError"], mg (Str.ofString n) = some (.ref (A n))
  k : ∀ n ∈ ["BadValue", "Mismatch", "Still", "Endless", "TooMany", "NoName", "Taken", "Locked", "Looped", "Broken", "ReadError"], PySem.W.kitOne K (.ref C) (.ref (A n)) = some (n == "BadValue")
  ve : PySem.W.kitOne K (.ref C) (.type "ValueError") = some true
  b_VE : mg "ValueError" = none
  hcl : (PySem.W.clsIn K C).isSome = true
  hga : PySem.W.findIn K (.ref C) "__getattribute__" = some (some (.builtin "BaseException.__getattribute__"))
  hgt : PySem.W.findIn K (.ref C) "__getattr__" = some none
  hsub : PySem.W.subIn K (.ref C) (.type "BaseException") = some true
  ha : PySem.W.findIn K (.ref C) "__class__" = some (some (.builtin "object.__class__"))
  hn : PySem.W.specialIn K (.builtin "object.__class__") "__get__" = some (some (.builtin "getset_descriptor.__get__"))
  htk : PySem.W.takesIn K (.builtin "object.__class__") = some true
  hm : PySem.W.mroIn K C (.type "object") = some true
  xf : XfC K C
/-- isinstance of a caught error that has its dict -/
def kitV (K : PySem.W.Frag) (C : Addr) : V → Option Bool
  | .ref D => PySem.W.kitOne K (.ref C) (.ref D)
  | .ty n => PySem.W.kitOne K (.ref C) (.type n)
  | _ => none
def rIsX (K : PySem.W.Frag) (C a : Addr) (cls : Value) (d : Option Addr) : List V → Hp → VK → Prop := fun xs H Q => ∃ c, xs = [.ref a, c] ∧ cls = .ref C ∧ ∃ dd, d = some dd ∧ (∃ fs, H dd = some (.xd fs)) ∧ ∃ b, kitV K C c = some b ∧ Q (.bl b) H
theorem call_isX {X : Cx} {C S a : Addr} {A : String → Addr} {oe : Obj} {cls : Value} {d : Option Addr} {pn : List (Addr × Obj)} (T : AskT X.K X.mg C S A) (hz : Zc cls d oe) (hf : ∃ vs, oe.data = .fields vs) : CallR (X.suite a ((a, oe) :: pn)) (.builtin "isinstance") (rIsX X.K C a cls d) := fun pins s σ H xs us Q I r h => by
  obtain ⟨c, rfl, rfl, dd, rfl, ⟨fs, hfs⟩, b, hb, q⟩ := h
  obtain ⟨u1, u2, rfl, r1, r2⟩ := vals2 r
  cases r1
  obtain ⟨hget, _⟩ := I.pin (a, oe) (List.mem_append.mpr (.inl List.mem_cons_self))
  obtain ⟨vs, hv⟩ := hf
  obtain ⟨mA, ⟨od, es, ep, ho, hr0⟩, hr⟩ := (show ObjOk X.prog X.w H s.heap dd (.xd fs) from I.hok dd _ hfs)
  have J : PySem.W.InstAt s.heap a oe C (some od) := ⟨hget, hz.1, by unfold PySem.W.notCls; rw [hv] <;> rfl, by rw [hz.2]; exact ho⟩
  have Z := PySem.W.kitx_exc (K := X.K) (C := C) (x := a) (ox := oe) (od := some od) T.hcl T.hga T.hgt T.hsub T.ha T.hn T.htk T.hm
  cases c with
  | ref D =>
    obtain rfl : u2 = Value.ref D := r2
    exact PySem.W.kia_one Z I.kIn J hb (fun z => nomatch z) fun tk => ⟨.bl b, H, I.kept (t' := tk) fun _ _ z => z, rfl, q⟩
  | ty n =>
    obtain rfl : u2 = Value.type n := r2
    exact PySem.W.kia_one Z I.kIn J hb (fun z => nomatch z) fun tk => ⟨.bl b, H, I.kept (t' := tk) fun _ _ z => z, rfl, q⟩
  | _ => cases hb
def rLenA (K : PySem.W.Frag) : List V → Hp → VK → Prop := fun xs H Q => ∃ p, xs = [.ref p] ∧ ∃ ys, itsO (ob K H p) = some ys ∧ Q (.int ys.length) H
/-- a wish of the right number of slots is wish enough -/
theorem takes_len {X : Cx} {W : WX} (t : Takes X W) : Takes X (fun cls d σ H => σ.length = X.N.length → W cls d σ H) := fun u s' ⟨a, B, sI, pins, σ, H, cls, d, e, I, nb, up, sky, na, os, ag, w⟩ =>
  t u s' ⟨a, B, sI, pins, σ, H, cls, d, e, I, nb, up, sky, na, os, ag, w I.len⟩
/-- what the law's asking makes of a call: told, or BadValue and what it names -/
def TAsk (K : PySem.W.Frag) (C : Addr) : (XK → Hp → VK → Prop) → Hp → VK → Prop := fun tl H Q =>
  tl (fun cls d H' => cls = .ref C ∧ ∃ dd y, d = some dd ∧ H' dd = some (.xd [("what", y)]) ∧ ∀ p H'', Same H' H'' → ob K H'' p = some (.tup [.str "BadValue", y]) → Q (.ref p) H'') H
    (fun v H1 => ([V.str "told", v] : List V).length ≤ sizeLine ∧ ∀ p, H1 p = none → K.lookup p = none → Q (.ref p) (upd H1 p (.tup [.str "told", v])))
end My

namespace My
open PySem PySem.Spec PyProof.Rows L2
section
variable {X : Cx}
/-- xs.count(y), flat items -/
def rCountF (K : PySem.W.Frag) : V → List V → Hp → VK → Prop := fun x xs H Q => ∃ (a : Addr) (ys : List V) (y : V), x = V.ref a ∧ xs = [y] ∧ SqL K H a ys ∧ flatV y = true ∧ ys.all flatV = true ∧ Q (.int ((ys.countP fun z => eqV z y : Nat) : Int)) H
theorem countF {y : V} : ∀ {ys : List V} {its : List Value}, Vals ys its → ys.all flatV = true → its.countP (eqU y) = ys.countP fun z => eqV z y
  | _, _, .nil, _ => rfl
  | z :: zs, u :: us, .cons r rs, h => by
    rw [List.all_cons, Bool.and_eq_true] at h
    rw [List.countP_cons, List.countP_cons, countF rs h.2, eqU_of r h.1]
theorem mt_countF : MtR X "list.count" (rCountF X.K) := by
  intro pins s σ H x xs v us Q I rx rxs h
  obtain ⟨a, ys, y, rfl, rfl, hs, fy, fys, q⟩ := h
  cases rx
  cases rxs with
  | cons ry rt =>
    rename_i uy ut
    cases rt
    obtain ⟨its, rv, ⟨⟨cls, dd, data, sl⟩, n, ho, hc, hdn, hd⟩, hlen⟩ := I.list hs
    simp only at hc hd
    subst hc hd
    refine call_meets PySem.F.slot_list_count ⟨_, ho, rfl⟩ PySem.F.entry_list_count (PySem.F.args_list_count_2 _ _)
      (SeqAt.list_countAt a its.toArray n dd sl uy (eqU y)) ⟨ho, fun u' hu' => mem_eqAt ry fy rv fys u' (by simpa using hu'), ?_⟩
    refine ⟨.int ((ys.countP fun z => eqV z y : Nat) : Int), H, I.tok _, ⟨s.toks, ?_⟩, q⟩
    show Value.int ((its.toArray.toList.countP (eqU y) : Nat) : Int) s.toks = _
    rw [show its.toArray.toList = its from rfl, countF rv fys]
end
/-- isinstance of a caught error that has its dict, of none of a tuple of classes -/
def rIsXT (K : PySem.W.Frag) (C a : Addr) (cls : Value) (d : Option Addr) : List V → Hp → VK → Prop := fun xs H Q => ∃ (tp : Addr) (cs : List Addr), xs = [.ref a, .ref tp] ∧ cls = .ref C ∧ ∃ dd, d = some dd ∧ (∃ fs, H dd = some (.xd fs)) ∧ SqT K H tp (cs.map V.ref) ∧ (∀ c ∈ cs, PySem.W.kitOne K (.ref C) (.ref c) = some false) ∧ Q (.bl false) H
theorem kitAny_no {K : PySem.W.Frag} {t : Value} : ∀ {its : List Value}, (∀ u ∈ its, PySem.W.kitOne K t u = some false) → PySem.W.kitAny K t its = some false
  | [], _ => rfl
  | u :: us, h => by
    show (match PySem.W.kitOne K t u with | some true => some true | some false => PySem.W.kitAny K t us | none => none) = some false
    rw [h u List.mem_cons_self]
    exact kitAny_no fun c hc => h c (List.mem_cons_of_mem _ hc)
theorem refs_mem : ∀ {cs : List Addr} {its : List Value}, Vals (cs.map V.ref) its → ∀ u ∈ its, ∃ c ∈ cs, u = .ref c
  | [], _, .nil, u, hu => by cases hu
  | c :: cs, v :: its, .cons r rs, u, hu => by
    rcases List.mem_cons.mp hu with rfl | hu
    · exact ⟨c, List.mem_cons_self, r⟩
    · obtain ⟨d, hd, e⟩ := refs_mem rs u hu
      exact ⟨d, List.mem_cons_of_mem _ hd, e⟩
theorem call_isXT {X : Cx} {C S a : Addr} {A : String → Addr} {oe : Obj} {cls : Value} {d : Option Addr} {pn : List (Addr × Obj)} (T : AskT X.K X.mg C S A) (hz : Zc cls d oe) (hf : ∃ vs, oe.data = .fields vs) : CallR (X.suite a ((a, oe) :: pn)) (.builtin "isinstance") (rIsXT X.K C a cls d) := fun pins s σ H xs us Q I r h => by
  obtain ⟨tp, cs, rfl, rfl, dd, rfl, ⟨fs, hfs⟩, htp, hno, q⟩ := h
  obtain ⟨u1, u2, rfl, r1, r2⟩ := vals2 r
  cases r1
  obtain ⟨hget, _⟩ := I.pin (a, oe) (List.mem_append.mpr (.inl List.mem_cons_self))
  obtain ⟨vs, hv⟩ := hf
  obtain ⟨mA, ⟨od, es, ep, ho, hr0⟩, hr⟩ := (show ObjOk X.prog X.w H s.heap dd (.xd fs) from I.hok dd _ hfs)
  have J : PySem.W.InstAt s.heap a oe C (some od) := ⟨hget, hz.1, by unfold PySem.W.notCls; rw [hv] <;> rfl, by rw [hz.2]; exact ho⟩
  have Z := PySem.W.kitx_exc (K := X.K) (C := C) (x := a) (ox := oe) (od := some od) T.hcl T.hga T.hgt T.hsub T.ha T.hn T.htk T.hm
  obtain ⟨its, rv, ⟨⟨tc, tdd, tdata, tsl⟩, tho, thc, tn, thd⟩, _⟩ := I.tuple htp
  simp only at thc thd
  subst thc thd
  obtain rfl : u2 = Value.ref tp := r2
  exact PySem.W.kia_tup Z I.kIn J tho (kitAny_no fun u hu => by
    obtain ⟨c, hc, rfl⟩ := refs_mem rv u (by simpa using hu)
    exact hno c hc) (fun z => nomatch z) fun tk => ⟨.bl false, H, I.kept (t' := tk) fun _ _ z => z, rfl, q⟩
end My

namespace My
open PySem PySem.Spec PyProof.Rows L2
section
variable {P : Program} {w : World} {K : PySem.W.Frag} {mg : Str → Option Value} {base : Heap}
end
/-- what the written part says of a caught Mismatch, that has no dict -/
structure AskM (K : PySem.W.Frag) (M S : Addr) (A : String → Addr) : Prop where
  exm : PySem.W.exmOne K (.ref M) (.ref S) = some true
  k : ∀ n ∈ ["BadValue", "Mismatch", "Still", "Endless", "TooMany", "NoName", "Taken", "Locked", "Looped", "Broken", "ReadError"], PySem.W.kitOne K (.ref M) (.ref (A n)) = some (n == "Mismatch")
  ve : PySem.W.kitOne K (.ref M) (.type "ValueError") = some true
  e : ExcC K M
def rIsX2 (K : PySem.W.Frag) (C M a : Addr) (cls : Value) (d : Option Addr) : List V → Hp → VK → Prop := fun xs H Q => rIsX K C a cls d xs H Q ∨ (cls = .ref M ∧ d = none ∧ ∃ c b, xs = [.ref a, c] ∧ kitV K M c = some b ∧ Q (.bl b) H)
theorem call_isX2 {X : Cx} {C M S a : Addr} {A : String → Addr} {oe : Obj} {cls : Value} {d : Option Addr} {pn : List (Addr × Obj)} (T : AskT X.K X.mg C S A) (TM : AskM X.K M S A) (hz : Zc cls d oe) (hf : ∃ vs, oe.data = .fields vs) : CallR (X.suite a ((a, oe) :: pn)) (.builtin "isinstance") (rIsX2 X.K C M a cls d) := fun pins s σ H xs us Q I r h => by
  rcases h with h | ⟨rfl, rfl, c, b, rfl, hb, q⟩
  · exact call_isX T hz hf pins s σ H xs us Q I r h
  · refine call_isE TM.e hz hf pins s σ H _ us Q I r ?_
    cases c with
    | ref D => exact ⟨_, .ref D, b, rfl, fun u hu => hu, hb, q⟩
    | ty n => exact ⟨_, .type n, b, rfl, fun u hu => hu, hb, q⟩
    | _ => cases hb
def rIsXT2 (K : PySem.W.Frag) (C M a : Addr) (cls : Value) (d : Option Addr) : List V → Hp → VK → Prop := fun xs H Q => rIsXT K C a cls d xs H Q ∨ (cls = .ref M ∧ d = none ∧ ∃ (tp : Addr) (cs : List Addr), xs = [.ref a, .ref tp] ∧ SqT K H tp (cs.map V.ref) ∧ (∀ c ∈ cs, PySem.W.kitOne K (.ref M) (.ref c) = some false) ∧ Q (.bl false) H)
theorem call_isXT2 {X : Cx} {C M S a : Addr} {A : String → Addr} {oe : Obj} {cls : Value} {d : Option Addr} {pn : List (Addr × Obj)} (T : AskT X.K X.mg C S A) (TM : AskM X.K M S A) (hz : Zc cls d oe) (hf : ∃ vs, oe.data = .fields vs) : CallR (X.suite a ((a, oe) :: pn)) (.builtin "isinstance") (rIsXT2 X.K C M a cls d) := fun pins s σ H xs us Q I r h => by
  rcases h with h | ⟨rfl, rfl, tp, cs, rfl, htp, hno, q⟩
  · exact call_isXT T hz hf pins s σ H xs us Q I r h
  · obtain ⟨u1, u2, rfl, r1, r2⟩ := vals2 r
    cases r1
    obtain ⟨hget, _⟩ := I.pin (a, oe) (List.mem_append.mpr (.inl List.mem_cons_self))
    obtain ⟨vs, hv⟩ := hf
    have J : PySem.W.InstAt s.heap a oe M none := by
      obtain ⟨oc, od, oda, osl⟩ := oe
      obtain ⟨h1, h2⟩ := hz
      dsimp only at h1 h2 hv
      subst h1 h2 hv
      exact ⟨hget, rfl, rfl, trivial⟩
    have Z := PySem.W.handS_kitx_exc (K := X.K) (D := M) (x := a) (ox := oe) TM.e.hg TM.e.hk TM.e.hs TM.e.hd TM.e.ha TM.e.hn TM.e.ht TM.e.hm
    obtain ⟨its, rv, ⟨⟨tc, tdd, tdata, tsl⟩, tho, thc, tn, thd⟩, _⟩ := I.tuple htp
    simp only at thc thd
    subst thc thd
    obtain rfl : u2 = Value.ref tp := r2
    exact PySem.W.kia_tup Z I.kIn J tho (kitAny_no fun u hu => by
      obtain ⟨c, hc, rfl⟩ := refs_mem rv u (by simpa using hu)
      exact hno c hc) (fun z => nomatch z) fun tk => ⟨.bl false, H, I.kept (t' := tk) fun _ _ z => z, rfl, q⟩
/-- what the asking makes of a call: told, BadValue and what it names, or Mismatch -/
def TAsk2 (K : PySem.W.Frag) (C M : Addr) : (XK → Hp → VK → Prop) → Hp → VK → Prop := fun tl H Q =>
  tl (fun cls d H' => (cls = .ref C ∧ ∃ dd y, d = some dd ∧ H' dd = some (.xd [("what", y)]) ∧ ∀ p H'', Same H' H'' → ob K H'' p = some (.tup [.str "BadValue", y]) → Q (.ref p) H'') ∨ (cls = .ref M ∧ d = none ∧ ∀ p H'', Same H' H'' → ob K H'' p = some (.tup [.str "Mismatch", .non]) → Q (.ref p) H'')) H
    (fun v H1 => ([V.str "told", v] : List V).length ≤ sizeLine ∧ ∀ p, H1 p = none → K.lookup p = none → Q (.ref p) (upd H1 p (.tup [.str "told", v])))
abbrev sTold : Stmt := topS 58
theorem scTold : FnScope ["_law_call", "e", "_law_strange", "_law_kinds"] ["_law_call"] (defScope sTold) := ⟨rfl, rfl, rfl, by decide +kernel, rfl, by decide +kernel, by decide +kernel⟩

theorem told_gives2 {X : Cx} {C M S : Addr} {A : String → Addr} {g : Addr} {cdg : Value} {q : Str} (Z : Bt X.K X.mg) (B : BvT X.K X.mg C) (T : AskT X.K X.mg C S A) (TM : AskM X.K M S A) : LamX.GivesTo X ["_law_call", "e", "_law_strange", "_law_kinds"] "_law_told" (defScope sTold) g cdg (defBody sTold) "_law_call" q (TAsk2 X.K C M) := by
  intro f c' s H Q tl act hc h
  refine ⟨_, pss_one (ps_try_as (X := (cxOf C8.CX0 X.prog X.w X.K X.mg X.base ["_law_call", "e", "_law_strange", "_law_kinds"] "_law_told" (defScope sTold) g cdg X.A X.stack s H C8.E0).nox) (i := 1) (c := .ref S)
      (tb := fun W D σ H => ∃ Ech : XK, (∀ cls d σ' H', Ech cls d H' → σ'.length = 4 → W cls d σ' H') ∧ tRet (tTp X.K (tCons (tC (.str "told")) (tCons (fun σZ HZ Q => σZ[0]? = some (some (.ref f)) ∧ HZ c' = some (LamX.CodeO c' q) ∧ tl Ech HZ Q) L2.tNil))) D σ H)
      rfl rfl scTold.nd rfl rfl ⟨rfl, by decide, .inl T.sky⟩ takes0 (fun W pn xe tk _ => ?_) (fun a oe cls d pn hz hf => (pss_cons (ps_set (i := 2) scTold.nd rfl (.inl rfl) (pe_callB (call_isXT2 (X := (cxOf C8.CX0 X.prog X.w X.K X.mg X.base ["_law_call", "e", "_law_strange", "_law_kinds"] "_law_told" (defScope sTold) g cdg X.A X.stack s H C8.E0).nox) (a := a) (pn := pn) T TM hz hf) (by rfl) Z.b_isinstance (by decide +kernel) (pa_cons (pv 1) (pa_cons (show PE (Cx.suite (cxOf C8.CX0 X.prog X.w X.K X.mg X.base ["_law_call", "e", "_law_strange", "_law_kinds"] "_law_told" (defScope sTold) g cdg X.A X.stack s H C8.E0).nox a ((a, oe) :: pn)) _ (tTp X.K (tCons (tC (.ref (A "TooMany"))) (tCons (tC (.ref (A "NoName"))) (tCons (tC (.ref (A "Taken"))) (tCons (tC (.ref (A "Still"))) (tCons (tC (.ref (A "Endless"))) (tCons (tC (.ref (A "Looped"))) (tCons (tC (.ref (A "Broken"))) (tCons (tC (.ref (A "Locked"))) (tCons (tC (.ref (A "ReadError"))) L2.tNil)))))))))) from pe_tp (pa_cons (pe_glob (v := .ref (A "TooMany")) (by rfl) (T.g "TooMany" (by decide)) rfl) (pa_cons (pe_glob (v := .ref (A "NoName")) (by rfl) (T.g "NoName" (by decide)) rfl) (pa_cons (pe_glob (v := .ref (A "Taken")) (by rfl) (T.g "Taken" (by decide)) rfl) (pa_cons (pe_glob (v := .ref (A "Still")) (by rfl) (T.g "Still" (by decide)) rfl) (pa_cons (pe_glob (v := .ref (A "Endless")) (by rfl) (T.g "Endless" (by decide)) rfl) (pa_cons (pe_glob (v := .ref (A "Looped")) (by rfl) (T.g "Looped" (by decide)) rfl) (pa_cons (pe_glob (v := .ref (A "Broken")) (by rfl) (T.g "Broken" (by decide)) rfl) (pa_cons (pe_glob (v := .ref (A "Locked")) (by rfl) (T.g "Locked" (by decide)) rfl) (pa_cons (pe_glob (v := .ref (A "ReadError")) (by rfl) (T.g "ReadError" (by decide)) rfl) pa_nil)))))))))) pa_nil))))
      (pss_cons (ps_set (i := 3) scTold.nd rfl (.inl rfl) (show PE (Cx.suite (cxOf C8.CX0 X.prog X.w X.K X.mg X.base ["_law_call", "e", "_law_strange", "_law_kinds"] "_law_told" (defScope sTold) g cdg X.A X.stack s H C8.E0).nox a ((a, oe) :: pn)) _ (tLs X.K (tCons (tCB (rIsX2 X.K C M a cls d) (tCons (tVar 1) (tCons (tC (.ref (A "BadValue"))) L2.tNil))) (tCons (tCB (rIsX2 X.K C M a cls d) (tCons (tVar 1) (tCons (tC (.ref (A "Mismatch"))) L2.tNil))) L2.tNil))) from pe_ls (pa_cons (pe_callB (call_isX2 (X := (cxOf C8.CX0 X.prog X.w X.K X.mg X.base ["_law_call", "e", "_law_strange", "_law_kinds"] "_law_told" (defScope sTold) g cdg X.A X.stack s H C8.E0).nox) (a := a) (pn := pn) T TM hz hf) (by rfl) Z.b_isinstance (by decide +kernel) (pa_cons (pv 1) (pa_cons (pe_glob (v := .ref (A "BadValue")) (by rfl) (T.g "BadValue" (by decide)) rfl) pa_nil))) (pa_cons (pe_callB (call_isX2 (X := (cxOf C8.CX0 X.prog X.w X.K X.mg X.base ["_law_call", "e", "_law_strange", "_law_kinds"] "_law_told" (defScope sTold) g cdg X.A X.stack s H C8.E0).nox) (a := a) (pn := pn) T TM hz hf) (by rfl) Z.b_isinstance (by decide +kernel) (pa_cons (pv 1) (pa_cons (pe_glob (v := .ref (A "Mismatch")) (by rfl) (T.g "Mismatch" (by decide)) rfl) pa_nil))) pa_nil))))
      (pss_cons (ps_if (PW.pt (pw_or (pt_val (pv 2)) (pw_or (pt_cmpR op_ne (show PE (Cx.suite (cxOf C8.CX0 X.prog X.w X.K X.mg X.base ["_law_call", "e", "_law_strange", "_law_kinds"] "_law_told" (defScope sTold) g cdg X.A X.stack s H C8.E0).nox a ((a, oe) :: pn)) _ (tBM X.K "list" (rCountF X.K) (tVar 3) (tCons (tC (.bl true)) L2.tNil)) from pe_bm PySem.F.plainAttrs_list PySem.F.slot_list_count PySem.F.type_list_count (show MtR (Cx.suite (cxOf C8.CX0 X.prog X.w X.K X.mg X.base ["_law_call", "e", "_law_strange", "_law_kinds"] "_law_told" (defScope sTold) g cdg X.A X.stack s H C8.E0).nox a ((a, oe) :: pn)) "list.count" (rCountF X.K) from mt_countF) (pv 3) (pa_cons pe_bl pa_nil)) pe_int (nomark _)) (pw_or1 (pt_not (pt_val (pe_callB (call_isX2 (X := (cxOf C8.CX0 X.prog X.w X.K X.mg X.base ["_law_call", "e", "_law_strange", "_law_kinds"] "_law_told" (defScope sTold) g cdg X.A X.stack s H C8.E0).nox) (a := a) (pn := pn) T TM hz hf) (by rfl) Z.b_isinstance (by decide +kernel) (pa_cons (pv 1) (pa_cons (pe_bltn (v := .ty "ValueError") (by rfl) T.b_VE (by decide +kernel) rfl) pa_nil))))))))) (pss_one ps_never) pss_nil)
      (pss_cons (ps_if (pt_val (show PE (Cx.suite (cxOf C8.CX0 X.prog X.w X.K X.mg X.base ["_law_call", "e", "_law_strange", "_law_kinds"] "_law_told" (defScope sTold) g cdg X.A X.stack s H C8.E0).nox a ((a, oe) :: pn)) _ (tOp (rIxA X.K) (tVar 3) (tC (.int 0))) from pe_ix ix_any (pv 3) pe_int (fun _ _ => rfl))) (pss_one (ps_ret (show PE (Cx.suite (cxOf C8.CX0 X.prog X.w X.K X.mg X.base ["_law_call", "e", "_law_strange", "_law_kinds"] "_law_told" (defScope sTold) g cdg X.A X.stack s H C8.E0).nox a ((a, oe) :: pn)) _ (tTp X.K (tCons (tC (.str "BadValue")) (tCons (tXf a cls d C "what" (tVar 1)) L2.tNil))) from pe_tp (pa_cons pe_str (pa_cons (pe_xf (X := (cxOf C8.CX0 X.prog X.w X.K X.mg X.base ["_law_call", "e", "_law_strange", "_law_kinds"] "_law_told" (defScope sTold) g cdg X.A X.stack s H C8.E0).nox) (a := a) (pn := pn) T.xf B.no hz hf (pv 1)) pa_nil))))) pss_nil)
      (pss_one (ps_ret (show PE (Cx.suite (cxOf C8.CX0 X.prog X.w X.K X.mg X.base ["_law_call", "e", "_law_strange", "_law_kinds"] "_law_told" (defScope sTold) g cdg X.A X.stack s H C8.E0).nox a ((a, oe) :: pn)) _ (tTp X.K (tCons (tC (.str "Mismatch")) (tCons (tC .non) L2.tNil))) from pe_tp (pa_cons pe_str (pa_cons pe_non pa_nil))))))))))), ?_⟩
  · refine ⟨fun pins s' σ H' D I h' => ?_⟩
    obtain ⟨Ech, hW, h2⟩ := h'
    exact (pss_one (ps_ret (pe_tp (pa_cons pe_str (pa_cons (act _ pn xe Ech _ _ (takes_len tk) (fun cls d σ' H' e l => hW cls d σ' H' e l)) pa_nil))))).run pins s' σ H' D I h2
  · refine ⟨fun cls d H' => (cls = .ref C ∧ ∃ dd y, d = some dd ∧ H' dd = some (.xd [("what", y)]) ∧ ∀ p H'', Same H' H'' → ob X.K H'' p = some (.tup [.str "BadValue", y]) → Q (.ref p) H'') ∨ (cls = .ref M ∧ d = none ∧ ∀ p H'', Same H' H'' → ob X.K H'' p = some (.tup [.str "Mismatch", .non]) → Q (.ref p) H''), fun cls d σ' H' e l => ?_, rfl, hc, h⟩
    obtain ⟨x0, x1, x2, x3, rfl⟩ : ∃ x0 x1 x2 x3, σ' = [x0, x1, x2, x3] := by
      match σ', l with
      | [x0, x1, x2, x3], _ => exact ⟨x0, x1, x2, x3, rfl⟩
    rcases e with ⟨rfl, dd, y, rfl, hd, k⟩ | ⟨rfl, rfl, k⟩
    · refine ⟨true, T.exm, fun _ a ha => ?_, fun z => nomatch z⟩
      refine ⟨_, rfl, sz2 (by show 9 ≤ 100; decide), fun tp htp ktp => ?_⟩
      have st := Same.new htp (.tup [V.ref (A "TooMany"), V.ref (A "NoName"), V.ref (A "Taken"), V.ref (A "Still"), V.ref (A "Endless"), V.ref (A "Looped"), V.ref (A "Broken"), V.ref (A "Locked"), V.ref (A "ReadError")])
      have hd1 : upd H' tp (.tup [V.ref (A "TooMany"), V.ref (A "NoName"), V.ref (A "Taken"), V.ref (A "Still"), V.ref (A "Endless"), V.ref (A "Looped"), V.ref (A "Broken"), V.ref (A "Locked"), V.ref (A "ReadError")]) dd = some (.xd [("what", y)]) := st _ _ hd
      refine .inl ⟨tp, [A "TooMany", A "NoName", A "Taken", A "Still", A "Endless", A "Looped", A "Broken", A "Locked", A "ReadError"], rfl, rfl, dd, rfl, ⟨_, hd1⟩, ob_tup (ob_new ktp), fun c hc => ?_, ?_⟩
      · simp only [List.mem_cons, List.not_mem_nil, or_false] at hc
        rcases hc with rfl | rfl | rfl | rfl | rfl | rfl | rfl | rfl | rfl
        · exact (T.k "TooMany" (by decide)).trans rfl
        · exact (T.k "NoName" (by decide)).trans rfl
        · exact (T.k "Taken" (by decide)).trans rfl
        · exact (T.k "Still" (by decide)).trans rfl
        · exact (T.k "Endless" (by decide)).trans rfl
        · exact (T.k "Looped" (by decide)).trans rfl
        · exact (T.k "Broken" (by decide)).trans rfl
        · exact (T.k "Locked" (by decide)).trans rfl
        · exact (T.k "ReadError" (by decide)).trans rfl
      generalize upd H' tp (.tup [V.ref (A "TooMany"), V.ref (A "NoName"), V.ref (A "Taken"), V.ref (A "Still"), V.ref (A "Endless"), V.ref (A "Looped"), V.ref (A "Broken"), V.ref (A "Locked"), V.ref (A "ReadError")]) = H1 at st hd1 ⊢
      refine ⟨_, rfl, .inl ⟨.ref (A "BadValue"), rfl, rfl, dd, rfl, ⟨_, hd1⟩, true, (T.k "BadValue" (by decide)).trans rfl, _, rfl, .inl ⟨.ref (A "Mismatch"), rfl, rfl, dd, rfl, ⟨_, hd1⟩, false, (T.k "Mismatch" (by decide)).trans rfl, sz2 (by show 2 ≤ 100; decide), fun l hl kl => ?_⟩⟩⟩
      have sl := Same.new hl (.lst [V.bl true, V.bl false])
      have hd2 := sl _ _ hd1
      have ol : upd H1 l (.lst [V.bl true, V.bl false]) l = some (.lst [V.bl true, V.bl false]) := upd_same
      have s2 := st.trans sl
      generalize upd H1 l (.lst [V.bl true, V.bl false]) = H2 at sl hd2 ol s2 ⊢
      refine ⟨_, rfl, false, rfl, iteF ⟨_, rfl, .inl ⟨rfl, _, .of ol⟩, l, [.bl true, .bl false], .bl true, rfl, rfl, .of ol, rfl, rfl, rfl, false, rfl, iteF ?_⟩⟩
      refine ⟨_, rfl, .inl ⟨.ty "ValueError", rfl, rfl, dd, rfl, ⟨_, hd2⟩, true, T.ve, true, rfl, iteF ?_⟩⟩
      refine ⟨_, rfl, l, 0, rfl, rfl, _, itsO_ofL ((ob_none kl).trans ol), _, atI_0 _ _, true, rfl, iteT ?_⟩
      refine ⟨_, rfl, rfl, rfl, dd, _, y, rfl, hd2, rfl, sz2 (by show 2 ≤ 100; decide), fun p hp kp => ?_⟩
      have s3 := Same.new hp (.tup [.str "BadValue", y])
      exact k p _ (s2.trans s3) (ob_new kp)
    · refine ⟨true, TM.exm, fun _ a ha => ?_, fun z => nomatch z⟩
      refine ⟨_, rfl, sz2 (by show 9 ≤ 100; decide), fun tp htp ktp => ?_⟩
      have st := Same.new htp (.tup [V.ref (A "TooMany"), V.ref (A "NoName"), V.ref (A "Taken"), V.ref (A "Still"), V.ref (A "Endless"), V.ref (A "Looped"), V.ref (A "Broken"), V.ref (A "Locked"), V.ref (A "ReadError")])
      refine .inr ⟨rfl, rfl, tp, [A "TooMany", A "NoName", A "Taken", A "Still", A "Endless", A "Looped", A "Broken", A "Locked", A "ReadError"], rfl, ob_tup (ob_new ktp), fun c hc => ?_, ?_⟩
      · simp only [List.mem_cons, List.not_mem_nil, or_false] at hc
        rcases hc with rfl | rfl | rfl | rfl | rfl | rfl | rfl | rfl | rfl
        · exact (TM.k "TooMany" (by decide)).trans rfl
        · exact (TM.k "NoName" (by decide)).trans rfl
        · exact (TM.k "Taken" (by decide)).trans rfl
        · exact (TM.k "Still" (by decide)).trans rfl
        · exact (TM.k "Endless" (by decide)).trans rfl
        · exact (TM.k "Looped" (by decide)).trans rfl
        · exact (TM.k "Broken" (by decide)).trans rfl
        · exact (TM.k "Locked" (by decide)).trans rfl
        · exact (TM.k "ReadError" (by decide)).trans rfl
      generalize upd H' tp (.tup [V.ref (A "TooMany"), V.ref (A "NoName"), V.ref (A "Taken"), V.ref (A "Still"), V.ref (A "Endless"), V.ref (A "Looped"), V.ref (A "Broken"), V.ref (A "Locked"), V.ref (A "ReadError")]) = H1 at st ⊢
      refine ⟨_, rfl, .inr ⟨rfl, rfl, .ref (A "BadValue"), false, rfl, (TM.k "BadValue" (by decide)).trans rfl, _, rfl, .inr ⟨rfl, rfl, .ref (A "Mismatch"), true, rfl, (TM.k "Mismatch" (by decide)).trans rfl, sz2 (by show 2 ≤ 100; decide), fun l hl kl => ?_⟩⟩⟩
      have sl := Same.new hl (.lst [V.bl false, V.bl true])
      have ol : upd H1 l (.lst [V.bl false, V.bl true]) l = some (.lst [V.bl false, V.bl true]) := upd_same
      have s2 := st.trans sl
      generalize upd H1 l (.lst [V.bl false, V.bl true]) = H2 at sl ol s2 ⊢
      refine ⟨_, rfl, false, rfl, iteF ⟨_, rfl, .inl ⟨rfl, _, .of ol⟩, l, [.bl false, .bl true], .bl true, rfl, rfl, .of ol, rfl, rfl, rfl, false, rfl, iteF ?_⟩⟩
      refine ⟨_, rfl, .inr ⟨rfl, rfl, .ty "ValueError", true, rfl, TM.ve, true, rfl, iteF ?_⟩⟩
      refine ⟨_, rfl, l, 0, rfl, rfl, _, itsO_ofL ((ob_none kl).trans ol), _, atI_0 _ _, false, rfl, iteF ?_⟩
      refine ⟨sz2 (by show 2 ≤ 100; decide), fun p hp kp => ?_⟩
      have s3 := Same.new hp (.tup [.str "Mismatch", .non])
      exact k p _ (s2.trans s3) (ob_new kp)
end My

namespace My
open PySem PySem.Spec PyProof.Rows L2
section
variable {P : Program} {w : World} {K : PySem.W.Frag} {mg : Str → Option Value} {base : Heap}
end
/-- X(), X an own exception class without own __init__ -/
theorem pmk_own0 {X : Cx} {C : Addr} {bmB : List Value} {B newId initId : String} {x : Str} {p pos : Pos} (F : ExcBaseFacts B newId initId bmB) (q : PySem.W.excIn X.K C bmB newId = true) (gC : X.mg x = some (.ref C)) (kC : PySem.W.keepIn X.K (.ref C) = true) (r : Raises X (.ref C)) (hg : Gl X x)
    (hdb : (x == ("__debug__" : Str)) = false := by decide) : PMk X (.Call (.Name x p) [] [] pos) (fun _ H Q => Q (.ref C) none H) := by
  intro pins s σ H Q I h
  refine wpAny_Call_Name_kw (ld_glob I hg gC ?_ hdb)
  refine PySem.W.callWith_K0 I.kIn kC ?_
  show wpAny _ _ (call (.ref C) []) _ _ _
  obtain ⟨bm, N, nm, qn, bs, hdct, sn, sub, ab, col, dd, k0, k1, k2, k3, k5, mN, hC, hN, hni, T⟩ := exc_obj I.kIn q
  refine wpAny_call_exc_subT F T hC hN hni (fun h' e hm => ?_) (by show 0 ≤ sizeLine; rw [sizeLine_eq]; omega)
  exact mk_of I hm r h (I.hok.gone hm.new)
/-- what the written part says of Mismatch -/
structure MiT (K : PySem.W.Frag) (mg : Str → Option Value) (M : Addr) : Prop where
  g : mg "Mismatch" = some (.ref M)
  kp : PySem.W.keepIn K (.ref M) = true
  ex : ∃ B newId initId bmB, ExcBaseFacts B newId initId bmB ∧ PySem.W.excIn K M bmB newId = true
  sb : PySem.W.subIn K (.ref M) (.type "BaseException") = some true
  ty : PySem.W.typeIn K (.ref M) = some (.type "type")
section
variable {P : Program} {w : World} {K : PySem.W.Frag} {mg : Str → Option Value} {base : Heap}
/-- the bounds are turned about: Mismatch, which has no dict -/
def spEmpX (M : Addr) : Sp := fun vs H _ E => ∃ lo hi : Int, vs = [.int lo, .int hi] ∧ hi < lo ∧ E (.ref M) none H
theorem kx_Emp {M : Addr} (Mi : MiT K mg M) (D : Dfn K mg "_refuse_empty" sEmp ["least", "most"]) : KnX P w K mg base 1 "_refuse_empty" ["least", "most"] (spEmpX M) := by
  refine KnX.mk' D scEmp (fun vs H Q E h => ?_) (fun f cdv A outer s H vs Q E hr h => ?_)
  · obtain ⟨lo, hi, rfl, _⟩ := h
    rfl
  obtain ⟨lo, hi, rfl, hlt, k⟩ := h
  obtain ⟨B, newId, initId, bmB, F, q⟩ := Mi.ex
  refine ⟨_, (pss_one (ps_if (pt_cmpR op_lt (pv 1) (pv 0) (nomark _)) (pss_one (ps_raise rfl (takes_of rfl rfl rfl rfl) (pmk_own0 F q Mi.g Mi.kp (raises_own Mi.sb Mi.ty) (by rfl)))) pss_nil)), ?_⟩
  exact ⟨_, rfl, _, rfl, _, _, rfl, rfl, _, rfl, if_yes (decide_eq_true hlt) k⟩
theorem k_PosiN (T : Bt K mg) (D : Dfn K mg "_is_positive" sPosi ["value"]) (d_is_fraction : Kn P w K mg base 2 "is_fraction" ["value"] (spIsFraction K)) : Kn P w K mg base 3 "_is_positive" ["value"] (fun vs H Q _ => ∃ v, vs = [v] ∧ NoPos K H v ∧ Q (.bl false) H) := by
  refine Kn.mk' D scPosi (fun vs H Q E h => ?_) (fun f cdv A outer s H vs Q E hr h => ?_)
  · obtain ⟨v, rfl, _⟩ := h
    rfl
  obtain ⟨v, rfl, hn, k⟩ := h
  refine ⟨_, (pss_one (ps_ret (pe_and (pe_kn d_is_fraction hr (by rfl) (pa_cons (pv 0) pa_nil)) (pe_one (pe_cmpR op_gt (pe_ix ix_any (pv 0) pe_int (fun _ _ => rfl)) pe_int (nomark _)))))), ?_⟩
  rcases hn with g | ⟨a, q, rfl, hq, h0⟩
  · refine ⟨_, rfl, _, rfl, g.ty, _, by rw [g.no], if_no rfl k⟩
  · refine ⟨_, rfl, _, rfl, Tyd.fr hq.o, _, by rw [frOk_fr hq.o hq.nf], if_yes rfl ?_⟩
    refine ⟨_, rfl, a, 0, rfl, rfl, _, itsO_of hq.o, _, atI_0 _ _, _, _, rfl, rfl, ?_⟩
    show Q (.bl (decide (0 < q.1))) H
    rw [decide_eq_false (by omega)]
    exact k
/-- teeth_pair refusing: what comes for the value, the bounds -/
def spTeethX (K : PySem.W.Frag) (C M : Addr) : Sp := fun vs H _ E => (∃ v l h, vs = [v, l, h] ∧ NoPos K H v ∧ Bv K C H E (.str "value"))
  ∨ (∃ a q l h, vs = [.ref a, l, h] ∧ Fq K H 8000 a q ∧ 0 < q.1 ∧ Wh K H l ∧ inB 1 200 l = false ∧ Bv K C H E (.str "least"))
  ∨ (∃ a q l h, vs = [.ref a, l, h] ∧ Fq K H 8000 a q ∧ 0 < q.1 ∧ Wh K H l ∧ inB 1 200 l = true ∧ Wh K H h ∧ inB 1 200 h = false ∧ Bv K C H E (.str "most"))
  ∨ (∃ (a : Addr) (q : Qt) (lo hi : Int), vs = [.ref a, .int lo, .int hi] ∧ Fq K H 8000 a q ∧ 0 < q.1 ∧ inB 1 200 (.int lo) = true ∧ inB 1 200 (.int hi) = true ∧ hi < lo ∧ ∀ H', Same H H' → E (.ref M) none H')
end
structure KnKX2 (P : Program) (w : World) (K : PySem.W.Frag) (mg : Str → Option Value) (base : Heap) (k : Nat) (x : Str) (ps ks : List Str) (sp : Sp) : Prop where
  ex : ∃ f fd, mg x = some (.ref f) ∧ PySem.W.keepIn K (.ref f) = true ∧ KBinds K fd ps ks kw12 kw12 ∧ FnOk P w K mg base (L2.CX P w) k f fd ps sp
theorem KnKX2.mk' {P : Program} {w : World} {K : PySem.W.Frag} {mg : Str → Option Value} {base : Heap} {x : Str} {st : Stmt} {N ps ks : List Str} {k : Nat} {sp : Sp} (D : DfnK2 K mg x st ps ks) (S : FnScope N ps (defScope st)) (len : ∀ vs H Q E, sp vs H Q E → vs.length = ps.length)
    (hbody : ∀ (f : Addr) (cdv : Value) (A : Around) (outer : List Env) (s : Shared) (H : Hp) (vs : List V) (Q : VK) (E : XK), Room k (A.deeper (envOfC x (defScope st) s.heap.objs.size f cdv)) → sp vs H Q E →
      ∃ t, PSs (cxOf (L2.CX P w) P w K mg base N x (defScope st) f cdv A outer s H E) (defBody st) t ∧ t { nx := fun _ H' => Q .non H', rt := Q } (start N vs) H) : KnKX2 P w K mg base (k + 1) x ps ks sp := by
  obtain ⟨f, fd, F, m, b⟩ := D.ex
  exact ⟨f, fd, m, F.kp, b, F.okX S len (hbody f)⟩
section
variable {X : Cx}
theorem pe_knKX2 {j k : Nat} {x : Str} {ps ks : List Str} {sp : Sp} {p pos : Pos} {e : Expr} {es : List Expr} {kws : List Keyword} {t tk : TA} {W : WX} (E : XK) (F : KnKX2 X.prog X.w X.K X.mg X.base k x ps ks sp) (hr : Room j X.A) (hg : Gl X x) (tk' : Takes X W) (hW : ∀ cls d σ H, E cls d H → W cls d σ H) (ha : PA X (e :: es) t) (hkw : PK X kws tk) (hj : k ≤ j := by omega)
    (hall : (backToKw pos (keywordEach kws X.env)).all (·.1.isSome) = true := by rfl) (hks : (backToKw pos (keywordEach kws X.env)).filterMap (·.1) = ks := by rfl)
    (hdb : (x == ("__debug__" : Str)) = false := by decide) (he : starEach (e :: es) X.env = (false, eval e X.env) :: starEach es X.env := by rfl)
    (hpl : ((backTo pos (starEach (e :: es) X.env)).any (·.1) || (backToKw pos (keywordEach kws X.env)).any (·.1.isNone)) = false := by rfl) :
    PE X (.Call (.Name x p) (e :: es) kws pos) (tCallK sp kw12 E t tk) := by
  obtain ⟨f, fd, m, kp, b, G⟩ := F.ex
  exact pe_callK G (hr.mono hj) hg m kp b (passes_call tk' hW) ha hkw hall hks hdb he hpl
end
section
variable {P : Program} {w : World} {K : PySem.W.Frag} {mg : Str → Option Value} {base : Heap}
theorem Bv.mono {C : Addr} {H H1 : Hp} {E : XK} {y : V} (h : Bv K C H E y) (s : Same H H1) : Bv K C H1 E y := fun d H' s2 hd => h d H' (s.trans s2) hd
theorem kx_Teeth {C M : Addr} {tkM : Tok} (gMT : mg "MOST_PAIR_TEETH" = some (.int 200 tkM)) (D : DfnK2 K mg "teeth_pair" sTeeth ["value", "least", "most"] ["least", "most"]) (d_x : KnX P w K mg base 3 "require" ["well_formed", "what"] (spRequireX K C)) (d_require : Kn P w K mg base 1 "require" ["well_formed", "what"] spRequire) (d__is_positive : Kn P w K mg base 3 "_is_positive" ["value"] (spPosi K)) (d_posN : Kn P w K mg base 3 "_is_positive" ["value"] (fun vs H Q _ => ∃ v, vs = [v] ∧ NoPos K H v ∧ Q (.bl false) H)) (d_is_whole_within : Kn P w K mg base 2 "is_whole_within" ["value", "least", "most"] (spWithin K)) (d_rs : KnX P w K mg base 1 "_refuse_empty" ["least", "most"] (spEmpX M)) : KnKX2 P w K mg base 5 "teeth_pair" ["value", "least", "most"] ["least", "most"] (spTeethX K C M) := by
  refine KnKX2.mk' D scTeeth (fun vs H Q E h => ?_) (fun f cdv A outer s H vs Q E hr h => ?_)
  · rcases h with ⟨v, l, h, rfl, _⟩ | ⟨a, q, l, h, rfl, _⟩ | ⟨a, q, l, h, rfl, _⟩ | ⟨a, q, lo, hi, rfl, _⟩ <;> rfl
  rcases h with ⟨v, l, h, rfl, hn, k⟩ | ⟨a, q, l, h, rfl, hq, q0, wl, il, k⟩ | ⟨a, q, l, h, rfl, hq, q0, wl, il, wh, ih, k⟩ | ⟨a, q, lo, hi, rfl, hq, q0, il, ih, hlt, k⟩
  · refine ⟨_, (pss_cons (ps_expr (pe_knX E d_x hr (by rfl) (takes_of rfl rfl rfl rfl) (fun _ _ _ _ h => h) (pa_cons (pe_kn d_posN hr (by rfl) (pa_cons (pv 0) pa_nil)) (pa_cons pe_str pa_nil)))) (pss_cons ps_never (pss_cons ps_never (pss_cons ps_never (pss_cons ps_never (pss_cons ps_never (pss_one ps_never))))))), ?_⟩
    exact ⟨_, rfl, v, rfl, hn, _, rfl, k⟩
  · refine ⟨_, (pss_cons (ps_expr (pe_kn d_require hr (by rfl) (pa_cons (pe_kn d__is_positive hr (by rfl) (pa_cons (pv 0) pa_nil)) (pa_cons pe_str pa_nil)))) (pss_cons (ps_expr (pe_knX E d_x hr (by rfl) (takes_of rfl rfl rfl rfl) (fun _ _ _ _ h => h) (pa_cons (pe_kn d_is_whole_within hr (by rfl) (pa_cons (pv 1) (pa_cons pe_int (pa_cons (pe_glob (v := .int 200) (by rfl) gMT ⟨_, rfl⟩) pa_nil)))) (pa_cons pe_str pa_nil)))) (pss_cons ps_never (pss_cons ps_never (pss_cons ps_never (pss_cons ps_never (pss_one ps_never))))))), ?_⟩
    refine ⟨_, rfl, a, q, rfl, hq, q0, _, rfl, ?_⟩
    refine ⟨_, rfl, l, 1, 200, rfl, wl, ?_⟩
    rw [il]
    exact ⟨_, rfl, k⟩
  · refine ⟨_, (pss_cons (ps_expr (pe_kn d_require hr (by rfl) (pa_cons (pe_kn d__is_positive hr (by rfl) (pa_cons (pv 0) pa_nil)) (pa_cons pe_str pa_nil)))) (pss_cons (ps_expr (pe_kn d_require hr (by rfl) (pa_cons (pe_kn d_is_whole_within hr (by rfl) (pa_cons (pv 1) (pa_cons pe_int (pa_cons (pe_glob (v := .int 200) (by rfl) gMT ⟨_, rfl⟩) pa_nil)))) (pa_cons pe_str pa_nil)))) (pss_cons (ps_expr (pe_knX E d_x hr (by rfl) (takes_of rfl rfl rfl rfl) (fun _ _ _ _ h => h) (pa_cons (pe_kn d_is_whole_within hr (by rfl) (pa_cons (pv 2) (pa_cons pe_int (pa_cons (pe_glob (v := .int 200) (by rfl) gMT ⟨_, rfl⟩) pa_nil)))) (pa_cons pe_str pa_nil)))) (pss_cons ps_never (pss_cons ps_never (pss_cons ps_never (pss_one ps_never))))))), ?_⟩
    refine ⟨_, rfl, a, q, rfl, hq, q0, _, rfl, ?_⟩
    refine ⟨_, rfl, l, 1, 200, rfl, wl, ?_⟩
    rw [il]
    refine ⟨_, rfl, _, rfl, h, 1, 200, rfl, wh, ?_⟩
    rw [ih]
    exact ⟨_, rfl, k⟩
  · refine ⟨_, (pss_cons (ps_expr (pe_kn d_require hr (by rfl) (pa_cons (pe_kn d__is_positive hr (by rfl) (pa_cons (pv 0) pa_nil)) (pa_cons pe_str pa_nil)))) (pss_cons (ps_expr (pe_kn d_require hr (by rfl) (pa_cons (pe_kn d_is_whole_within hr (by rfl) (pa_cons (pv 1) (pa_cons pe_int (pa_cons (pe_glob (v := .int 200) (by rfl) gMT ⟨_, rfl⟩) pa_nil)))) (pa_cons pe_str pa_nil)))) (pss_cons (ps_expr (pe_kn d_require hr (by rfl) (pa_cons (pe_kn d_is_whole_within hr (by rfl) (pa_cons (pv 2) (pa_cons pe_int (pa_cons (pe_glob (v := .int 200) (by rfl) gMT ⟨_, rfl⟩) pa_nil)))) (pa_cons pe_str pa_nil)))) (pss_cons (ps_expr (pe_knX E d_rs hr (by rfl) (takes_of rfl rfl rfl rfl) (fun _ _ _ _ h => h) (pa_cons (pv 1) (pa_cons (pv 2) pa_nil)))) (pss_cons ps_never (pss_cons ps_never (pss_one ps_never))))))), ?_⟩
    refine ⟨_, rfl, a, q, rfl, hq, q0, _, rfl, ?_⟩
    refine ⟨_, rfl, .int lo, 1, 200, rfl, Wh.int lo, ?_⟩
    rw [il]
    refine ⟨_, rfl, _, rfl, .int hi, 1, 200, rfl, Wh.int hi, ?_⟩
    rw [ih]
    exact ⟨_, rfl, _, rfl, _, rfl, lo, hi, rfl, hlt, k H (Same.refl H)⟩
end
end My

namespace My
open PySem PySem.Spec PyProof.Rows L2
section
variable {P : Program} {w : World} {K : PySem.W.Frag} {mg : Str → Option Value} {base : Heap}
/-! ### the tables, while the draws go on -/
theorem tabs_kp {T : List (Addr × Str)} {H H' : Hp} {s : Addr} {ys : List V} (e : Kp s H H') (hs : H s = some (.lst ys)) (t : LamX.Tabs T H) : LamX.Tabs T H' := fun p hp => by
  obtain ⟨ps, h1, h2, h3⟩ := t p hp
  refine ⟨ps, e _ _ (by rintro z; rw [z, hs] at h1; cases h1) h1, h2, fun pos cv hc => ?_⟩
  obtain ⟨c, e1, e2⟩ := h3 pos cv hc
  exact ⟨c, e1, e _ _ (by rintro z; rw [z, hs] at e2; unfold LamX.CodeO at e2; cases e2) e2⟩
theorem tabs_same {T : List (Addr × Str)} {H H' : Hp} (e : Same H H') (t : LamX.Tabs T H) : LamX.Tabs T H' := t.ext e
/-- all but the store and the tables stands -/
def Bg (s : Addr) (H H' : Hp) : Prop := ∀ b o, b ≠ s → (∀ ps, o ≠ .tbl ps) → H b = some o → H' b = some o
theorem Bg.refl (s : Addr) (H : Hp) : Bg s H H := fun _ _ _ _ h => h
theorem Bg.trans {s : Addr} {H H1 H2 : Hp} (a : Bg s H H1) (b : Bg s H1 H2) : Bg s H H2 := fun c o n m h => b c o n m (a c o n m h)
theorem Bg.kp {s : Addr} {H H1 : Hp} (a : Kp s H H1) : Bg s H H1 := fun c o n _ h => a c o n h
theorem Bg.same {s : Addr} {H H1 : Hp} (a : Same H H1) : Bg s H H1 := fun c o _ _ h => a c o h
theorem Bg.ext {s : Addr} {H H1 : Hp} (a : LamX.ExtN H H1) : Bg s H H1 := fun c o _ m h => a c o h m
theorem ob_bg {H H' : Hp} {s a : Addr} {ys xs : List V} (e : Bg s H H') (hs : H s = some (.lst ys)) (h : ob K H a = some (.tup xs)) : ob K H' a = some (.tup xs) := by
  unfold ob at h ⊢
  split
  · rename_i o q
    rw [q] at h
    exact h
  · rename_i q
    rw [q] at h
    exact e _ _ (by rintro rfl; rw [hs] at h; cases h) (fun ps z => by cases z) h
theorem Fq.bg {H H' : Hp} {s a : Addr} {n : Nat} {ys : List V} {q : Qt} (h : Fq K H n a q) (e : Bg s H H') (hs : H s = some (.lst ys)) : Fq K H' n a q := ⟨ob_bg e hs h.o, h.nf, h.sz⟩
theorem Sto.ext {H H' : Hp} {s : Addr} (h : Sto K H s) (e : LamX.ExtN H H') : Sto K H' s := by
  obtain ⟨sc, ns, i, b, c, d, x, f, h1, h2, h3⟩ := h
  exact ⟨sc, ns, i, b, c, d, x, f, e _ _ h1 (fun ps z => by cases z), e _ _ h2 (fun ps z => by cases z), h3⟩
theorem ob_ext {H H' : Hp} {a : Addr} {z : HO} (e : LamX.ExtN H H') (n : ∀ ps, z ≠ .tbl ps) (h : ob K H a = some z) : ob K H' a = some z := by
  unfold ob at h ⊢
  split
  · rename_i o q
    rw [q] at h
    exact h
  · rename_i q
    rw [q] at h
    exact e _ _ h n
theorem tyO_ntbl {z : HO} (h : (tyO (some z)).isSome) : ∀ ps, z ≠ .tbl ps := fun ps e => by subst e; cases h
theorem tyS_ext {H H' : Hp} {v : V} (e : LamX.ExtN H H') (h : (tyN K H v).isSome) : (tyN K H' v).isSome := by
  cases v with
  | ref a =>
    cases hz : ob K H a with
    | none => rw [tyN_ref, hz] at h; cases h
    | some z =>
      rw [tyN_ref, hz] at h
      rw [tyN_ref, ob_ext e (tyO_ntbl h) hz]
      exact h
  | _ => exact h
theorem Gd.ext {H H' : Hp} {v : V} (e : LamX.ExtN H H') (h : Gd K H v) : Gd K H' v := by
  cases v with
  | ref a =>
    cases hz : ob K H a with
    | none =>
      have := h.ty.1
      rw [tyN_ref, hz] at this
      cases this
    | some z =>
      have nz : ∀ ps, z ≠ .tbl ps := tyO_ntbl (by have := h.ty.1; rw [tyN_ref, hz] at this; exact this)
      have hz' := ob_ext e nz hz
      refine ⟨⟨tyS_ext e h.ty.1, fun b xs ev o x hx => ?_⟩, ?_⟩
      · cases ev
        rw [hz'] at o
        exact tyS_ext e (h.ty.2 a xs rfl (hz.trans o) x hx)
      · have e2 : frOk K H' (.ref a) = frOk K H (.ref a) := by simp only [frOk, hz, hz']
        rw [e2]
        exact h.no
  | _ => exact ⟨⟨h.ty.1, fun _ _ e => by cases e⟩, h.no⟩
structure LawS (K : PySem.W.Frag) (T : List (Addr × Str)) (H : Hp) (s : Addr) : Prop where
  st : Sto K H s
  tb : LamX.Tabs T H
theorem LawS.same {T : List (Addr × Str)} {H H' : Hp} {s : Addr} (h : LawS K T H s) (e : Same H H') : LawS K T H' s := ⟨h.st.same e, tabs_same e h.tb⟩
theorem LawS.kp {T : List (Addr × Str)} {H H' : Hp} {s : Addr} (h : LawS K T H s) (e : Kp s H H') (st : Sto K H' s) : LawS K T H' s := by
  obtain ⟨ys, hy⟩ := h.st.at
  exact ⟨st, tabs_kp e hy h.tb⟩
end
section
variable {P : Program} {w : World} {K : PySem.W.Frag} {mg : Str → Option Value} {base : Heap}
def Kx (F : Addr → Prop) (H H' : Hp) : Prop := ∀ b o, ¬F b → (∀ ps, o ≠ HO.tbl ps) → H b = some o → H' b = some o
theorem Kx.refl (F : Addr → Prop) (H : Hp) : Kx F H H := fun _ _ _ _ h => h
theorem Kx.trans {F : Addr → Prop} {H H1 H2 : Hp} (a : Kx F H H1) (b : Kx F H1 H2) : Kx F H H2 := fun c o n m h => b c o n m (a c o n m h)
theorem Kx.same {F : Addr → Prop} {H H' : Hp} (e : Same H H') : Kx F H H' := fun c o _ _ h => e c o h
theorem Kx.ext {F : Addr → Prop} {H H' : Hp} (e : LamX.ExtN H H') : Kx F H H' := fun c o _ m h => e c o h m
theorem Kx.kp {F : Addr → Prop} {H H' : Hp} {s : Addr} (hF : F s) (e : Kp s H H') : Kx F H H' := fun c o n _ h => e c o (by rintro rfl; exact n hF) h
theorem Kx.put {F : Addr → Prop} {H : Hp} {D : Addr} {o : HO} (hF : F D) : Kx F H (upd H D o) := fun c u n _ h => by rw [upd_ne (by rintro rfl; exact n hF)]; exact h
/-- the store, and the list that is told -/
def Fz (s D : Addr) : Addr → Prop := fun a => a = s ∨ a = D
theorem Kx.weak {s D : Addr} {H H' : Hp} (hD : H D = none) (e : Kx (Fz s D) H H') : Kx (Fz s s) H H' := fun c o n m h => e c o (fun z => z.elim (fun z => n (.inl z)) (ne_of_none h hD)) m h
theorem ob_kx {F : Addr → Prop} {H H' : Hp} {a : Addr} {z : HO} (e : Kx F H H') (n : ¬F a) (t : ∀ ps, z ≠ HO.tbl ps) (h : ob K H a = some z) : ob K H' a = some z := by
  unfold ob at h ⊢
  split
  · rename_i o q
    rw [q] at h
    exact h
  · rename_i q
    rw [q] at h
    exact e _ _ n t h
/-- the addresses of F hold lists -/
def Fl (F : Addr → Prop) (H : Hp) : Prop := ∀ a, F a → ∃ ys, H a = some (.lst ys)
theorem tup_kx {F : Addr → Prop} {H H' : Hp} {a : Addr} {xs : List V} (fl : Fl F H) (e : Kx F H H') (h : ob K H a = some (.tup xs)) : ob K H' a = some (.tup xs) := by
  unfold ob at h ⊢
  split
  · rename_i o q
    rw [q] at h
    exact h
  · rename_i q
    rw [q] at h
    refine e _ _ (fun z => ?_) (fun ps z => by cases z) h
    obtain ⟨ys, hy⟩ := fl _ z
    rw [hy] at h
    cases h
/-- no integer from lo to hi, whatever comes -/
def SbI (K : PySem.W.Frag) (F : Addr → Prop) (lo hi : Int) (H : Hp) (v : V) : Prop := ∀ H', Kx F H H' → Wh K H' v ∧ inB lo hi v = false
theorem SbI.kx {F : Addr → Prop} {lo hi : Int} {H H' : Hp} {v : V} (h : SbI K F lo hi H v) (e : Kx F H H') : SbI K F lo hi H' v := fun G g => h G (e.trans g)
theorem SbI.now {F : Addr → Prop} {lo hi : Int} {H : Hp} {v : V} (h : SbI K F lo hi H v) : Wh K H v ∧ inB lo hi v = false := h H (Kx.refl F H)
theorem sbI_sc {F : Addr → Prop} {lo hi : Int} {H : Hp} {v : V} {t : String} (h : ∀ G, tyN K G v = some t) (n : inB lo hi v = false) : SbI K F lo hi H v := fun G _ => ⟨Wh.ty (h G), n⟩
theorem sbI_tup {F : Addr → Prop} {lo hi : Int} {H : Hp} {a : Addr} {xs : List V} (n : ¬F a) (h : ob K H a = some (.tup xs)) : SbI K F lo hi H (.ref a) := fun G g => ⟨Wh.ty (t := "tuple") (by rw [tyN_ref, ob_kx g n (fun _ z => by cases z) h]; rfl), rfl⟩
theorem sbI_lst {F : Addr → Prop} {lo hi : Int} {H : Hp} {a : Addr} {xs : List V} (n : ¬F a) (h : ob K H a = some (.lst xs)) : SbI K F lo hi H (.ref a) := fun G g => ⟨Wh.ty (t := "list") (by rw [tyN_ref, ob_kx g n (fun _ z => by cases z) h]; rfl), rfl⟩
theorem tup_ne {H : Hp} {s a : Addr} {xs : List V} (st : Sto K H s) (o : ob K H a = some (.tup xs)) : a ≠ s := by
  rintro rfl
  obtain ⟨ys, hy⟩ := st.ob
  rw [hy] at o
  cases o
theorem tabs_putL {T : List (Addr × Str)} {H : Hp} {l : Addr} {ys : List V} {o : HO} (t : LamX.Tabs T H) (hl : H l = some (.lst ys)) : LamX.Tabs T (upd H l o) := fun p hp => by
  obtain ⟨ps, h1, h2, h3⟩ := t p hp
  refine ⟨ps, by rw [upd_ne (by rintro z; rw [z, hl] at h1; cases h1)]; exact h1, h2, fun pos cv hc => ?_⟩
  obtain ⟨c, e1, e2⟩ := h3 pos cv hc
  exact ⟨c, e1, by rw [upd_ne (by rintro z; rw [z, hl] at e2; unfold LamX.CodeO at e2; cases e2)]; exact e2⟩
theorem ob_upd {H : Hp} {D a : Addr} {o z : HO} {xs : List V} (hD : H D = some (.lst xs)) (h : ob K H a = some z) (n : a ≠ D ∨ ∃ ys, z = .tup ys) : ob K (upd H D o) a = some z := by
  unfold ob at h ⊢
  split
  · rename_i q
    rw [q] at h
    exact h
  · rename_i q
    rw [q] at h
    have h : H a = some z := h
    have na : a ≠ D := by
      rcases n with n | ⟨ys, rfl⟩
      · exact n
      · rintro rfl
        rw [hD] at h
        cases h
    exact (upd_ne na).trans h
theorem Sto.mut {H0 H' : Hp} {s l : Addr} {o : HO} (st0 : Sto K H0 s) (hl : H0 l = none) (kp : Kp s H0 H') (st : Sto K H' s) : Sto K (upd H' l o) s ∧ Kp s H0 (upd H' l o) := by
  obtain ⟨sc0, ns0, i0, b0, c0, d0, e0, f0, g1, g2, g3⟩ := st0
  obtain ⟨sc, ns, i, b, c, d, e, f, h1, h2, h3⟩ := st
  obtain ⟨r', hr⟩ := kp.2 _ _ g1
  rw [h1] at hr
  cases hr
  have n1 : s ≠ l := by rintro rfl; rw [g1] at hl; cases hl
  have n2 : sc0 ≠ l := by rintro rfl; rw [g2] at hl; cases hl
  refine ⟨⟨sc0, ns, i, b, c, d, e, f, by rw [upd_ne n1]; exact h1, by rw [upd_ne n2]; exact h2, h3⟩, fun b o n e => ?_, fun x r e => ?_⟩
  · rw [upd_ne (ne_of_none e hl)]
    exact kp.1 b o n e
  · obtain ⟨r2, hr2⟩ := kp.2 x r e
    exact ⟨r2, by rw [upd_ne n1]; exact hr2⟩
def qOrd : Str := ("_law_ordered" ++ ".<locals>.") ++ "<lambda>"
def qLam : Str := ("_law_refused" ++ ".<locals>.") ++ "<lambda>"
def Tt (P1 P2 : Addr) : List (Addr × Str) := [(P1, qOrd), (P2, qLam)]
structure AskD (K : PySem.W.Frag) (mg : Str → Option Value) (g : Addr) (oc : Value) (od : Option Addr) (dV kV doc pm : Value) (an : Option Addr) (cdv ct : Value) (osl : Array (Option Value)) : Prop where
  m : mg "_law_told" = some (.ref g)
  kp : PySem.W.keepIn K (.ref g) = true
  lk : K.lookup g = some ⟨oc, od, .func (PySem.W.fnOf "_law_told" "_law_told" (defArgs sTold) (defBody sTold) (defScope sTold) dV kV doc pm an cdv ct), osl⟩
  cd : PySem.W.codeIn K cdv "_law_told" = true
  b : Binds K (PySem.W.fnOf "_law_told" "_law_told" (defArgs sTold) (defBody sTold) (defScope sTold) dV kV doc pm an cdv ct) ["_law_call"] []
def spRfd (K : PySem.W.Frag) (P1 P2 : Addr) : Sp := fun vs H Q _ => ∃ (sr a : Addr) (v : Qt) (lo hi : Int), vs = [.ref sr, .ref a, .int lo, .int hi] ∧ LawS K (Tt P1 P2) H sr ∧ Fq K H 900 a v ∧ 0 < v.1 ∧ 1 ≤ lo ∧ lo ≤ hi ∧ hi ≤ 200 ∧ ∀ H', Q (.bl true) H'
theorem inB_out {a b u : Int} (h : u < a ∨ b < u) : inB a b (.int u) = false := by
  show (decide (a ≤ u) && decide (u ≤ b)) = false
  rcases h with h | h
  · rw [decide_eq_false (by omega)]
    rfl
  · rw [decide_eq_false (show ¬ u ≤ b by omega), Bool.and_false]
theorem ob_put2 {H : Hp} {l b : Addr} {xs ys : List V} (hl : H l = some (.lst xs)) : ob K (upd H l (.lst ys)) b = ob K H b ∨ (b = l ∧ ob K H b = some (.lst xs) ∧ ob K (upd H l (.lst ys)) b = some (.lst ys)) := by
  unfold ob
  cases hk : K.lookup b with
  | some o => exact .inl rfl
  | none =>
    by_cases e : b = l
    · subst e
      exact .inr ⟨rfl, hl, upd_same⟩
    · exact .inl (upd_ne e)
theorem tyN_put2 {H : Hp} {l : Addr} {xs ys : List V} {v : V} (hl : H l = some (.lst xs)) : tyN K (upd H l (.lst ys)) v = tyN K H v := by
  cases v with
  | ref b =>
    rw [tyN_ref, tyN_ref]
    rcases ob_put2 (K := K) (b := b) (ys := ys) hl with h | ⟨_, h1, h2⟩
    · rw [h]
    · rw [h1, h2]
      rfl
  | _ => rfl
theorem Gd.put2 {H : Hp} {l : Addr} {xs ys : List V} {v : V} (hl : H l = some (.lst xs)) (h : Gd K H v) : Gd K (upd H l (.lst ys)) v := by
  refine ⟨⟨by rw [tyN_put2 hl]; exact h.ty.1, fun b zs e o x hx => ?_⟩, ?_⟩
  · rw [tyN_put2 hl]
    rcases ob_put2 (K := K) (b := b) (ys := ys) hl with h' | ⟨_, h1, h2⟩
    · rw [h'] at o
      exact h.ty.2 b zs e o x hx
    · rw [h2] at o
      cases o
  · cases v with
    | ref b =>
      rcases ob_put2 (K := K) (b := b) (ys := ys) hl with h' | ⟨_, h1, h2⟩
      · have e : frOk K (upd H l (.lst ys)) (.ref b) = frOk K H (.ref b) := by simp only [frOk, h']
        rw [e]
        exact h.no
      · simp only [frOk, h2]
    | _ => exact h.no
theorem NoPos.put2 {H : Hp} {l : Addr} {xs ys : List V} {v : V} (hl : H l = some (.lst xs)) (h : NoPos K H v) : NoPos K (upd H l (.lst ys)) v :=
  h.imp (fun g => g.put2 hl) fun ⟨a, q, e, f, p⟩ => ⟨a, q, e, ⟨ob_upd hl f.o (.inr ⟨_, rfl⟩), f.nf, f.sz⟩, p⟩
theorem NoPos.ext {H H' : Hp} {v : V} (h : NoPos K H v) (e : LamX.ExtN H H') : NoPos K H' v :=
  h.imp (fun g => g.ext e) fun ⟨a, q, ev, f, p⟩ => ⟨a, q, ev, ⟨ob_ext e (fun ps z => by cases z) f.o, f.nf, f.sz⟩, p⟩
/-- what stands in the args after j turns -/
def RS (K : PySem.W.Frag) (sr l a : Addr) (lo hi bent : Int) (j : Nat) (x0 x1 x2 : V) (H : Hp) (t : Addr) : Prop := (j ≤ 2 → x0 = .ref a) ∧ (j ≤ 1 → x1 = .int lo) ∧ (j = 0 → x2 = .int hi) ∧
  ((x0 = .ref a ∧ x1 = .int lo ∧ x2 = .int hi ∧ (∀ i : Nat, i < j → bent / 2 ^ (2 - i) % 2 = 0) ∧ ob K H t = some (.tup [.str "Mismatch", .non]))
   ∨ (x0 = .ref a ∧ x1 = .int lo ∧ SbI K (Fz sr l) 1 200 H x2 ∧ ob K H t = some (.tup [.str "BadValue", .str "most"]))
   ∨ (x0 = .ref a ∧ SbI K (Fz sr l) 1 200 H x1 ∧ ob K H t = some (.tup [.str "BadValue", .str "least"]))
   ∨ (j = 3 ∧ NoPos K H x0 ∧ ob K H t = some (.tup [.str "BadValue", .str "value"])))
theorem at_pow3 {k : Nat} (hk : k ≤ 2) : atI [V.int 1, V.int 2, V.int 4] (k : Int) = some (.int (2 ^ k)) := by
  match k, hk with
  | 0, _ => rfl
  | 1, _ => rfl
  | 2, _ => rfl
theorem cd_pow3 {b : Int} {k : Nat} (hk : k ≤ 2) : CDivX b (2 ^ k) := by
  match k, hk with
  | 0, _ => exact ⟨by decide, by decide +kernel⟩
  | 1, _ => exact ⟨by decide, by decide +kernel⟩
  | 2, _ => exact ⟨by decide, by decide +kernel⟩
theorem pow3_pos {k : Nat} (hk : k ≤ 2) : (0 : Int) < 2 ^ k := by
  match k, hk with
  | 0, _ => decide
  | 1, _ => decide
  | 2, _ => decide
abbrev sRfd : Stmt := topS 61
theorem scRfd : FnScope ["_law_store_here", "_law_value", "_law_low", "_law_high", "_law_due_here", "_law_bent", "_law_k", "_law_args"] ["_law_store_here", "_law_value", "_law_low", "_law_high"] (defScope sRfd) := ⟨rfl, rfl, rfl, by decide +kernel, rfl, by decide +kernel, by decide +kernel⟩
theorem ok_Rfd {CB M S fa g c P1 P2 : Addr} {A : String → Addr} {oc dV kV doc pm cdv ct oc' dV' kV' doc' pm' ct' : Value} {od an od' an' : Option Addr} {osl osl' : Array (Option Value)} (T : Bt K mg) (B : BvT K mg CB) (AT : AskT K mg CB S A) (AM : AskM K M S A) (AS : AskD K mg g oc od dV kV doc pm an cdv ct osl)
    (lkR : K.lookup fa = some ⟨oc', od', .func (PySem.W.fnOf "_law_refused" "_law_refused" (defArgs sRfd) (defBody sRfd) (defScope sRfd) dV' kV' doc' pm' an' (.ref c) ct'), osl'⟩) (cdR : PySem.W.codeIn K (.ref c) "_law_refused" = true) (TB : LamX.TabB base mg c P2) (n12 : P1 ≠ P2)
    (SX : KnKX2 P w K mg base 5 "teeth_pair" ["value", "least", "most"] ["least", "most"] (spTeethX K CB M))
    (d__law_take : Kn P w K mg base 2 "_law_take" ["_law_store_here", "_law_many"] (spTake K)) (d__law_pick : Kn P w K mg base 3 "_law_pick" ["_law_store_here", "_law_row"] (spPick K)) (d__law_bounds_turned : Kn P w K mg base 3 "_law_bounds_turned" ["_law_store_here", "_law_top"] (spTurned K)) (d__law_alike : Kn P w K mg base 4 "_law_alike" ["_law_told_here", "_law_due_here"] (spAlike K 3)) (d__law_bad_positive : Kn P w K mg base 5 "_law_bad_positive" ["_law_store_here"] (spBPos K)) : FnOk P w K mg base CX0 9 fa (PySem.W.fnOf "_law_refused" "_law_refused" (defArgs sRfd) (defBody sRfd) (defScope sRfd) dV' kV' doc' pm' an' (.ref c) ct') ["_law_store_here", "_law_value", "_law_low", "_law_high"] (spRfd K P1 P2) := by
  refine fn_of lkR cdR scRfd (fun vs H Q E h => ?_) fun A outer s H vs Q E hr h => ?_
  · obtain ⟨sr, a, v, lo, hi, rfl, _⟩ := h
    rfl
  obtain ⟨sr, a, v, lo, hi, rfl, LS0, fa0, v0, l0, lh, h2, k⟩ := h
  refine ⟨_, PSs.nox (pss_cons (ps_set (i := 7) scRfd.nd rfl (.inr rfl) (pe_ls (pa_cons (pv 1) (pa_cons (pv 2) (pa_cons (pv 3) pa_nil)))))
      (pss_cons (ps_set (i := 4) scRfd.nd rfl (.inl rfl) (pe_tp (pa_cons pe_str (pa_cons pe_non pa_nil))))
      (pss_cons (ps_set (i := 5) scRfd.nd rfl (.inl rfl) (pe_kn d__law_take hr (by rfl) (pa_cons (pv 0) (pa_cons pe_int pa_nil))))
      (C8.pss_cut (ps_if (PW.pt (pw_or (pt_cmpR op_eq (pv 5) pe_int (nomark _)) (pw_or1 (pt_cmpR op_eq (pe_kn d__law_take hr (by rfl) (pa_cons (pv 0) (pa_cons pe_int pa_nil))) pe_int (nomark _))))) (pss_one (ps_asg (pe_kn d__law_bounds_turned hr (by rfl) (pa_cons (pv 0) (pa_cons pe_int pa_nil))) (pg_tp 2 (by rfl) (pgs_cons (pg_sub (pv 7) pe_int set_any) (pgs_cons (pg_sub (pv 7) pe_int set_any) pgs_nil))))) pss_nil)
      (pss_cons (ps_for PassesOwn.never rfl (pi_list (pe_ls (pa_cons pe_int (pa_cons pe_int (pa_cons pe_int pa_nil))))) (pg_name (i := 6) scRfd.nd rfl (.inl rfl)) (pss_one (ps_if (pt_cmpR op_eq (pe_op op_mod (pe_op op_fdivX (pv 5) (pe_ix ix_any (pe_ls (pa_cons pe_int (pa_cons pe_int (pa_cons pe_int pa_nil)))) (pv 6) (fun _ _ => rfl))) pe_int) pe_int (nomark _)) (pss_cons (ps_asg (pe_kn d__law_pick hr (by rfl) (pa_cons (pv 0) (pa_cons (pe_ls (pa_cons pe_int (pa_cons pe_int (pa_cons (pe_un un_neg pe_int) (pa_cons (pe_un un_neg (pv 2)) (pa_cons (pe_op op_pow pe_int pe_int) (pa_cons pe_bl (pa_cons pe_bl (pa_cons pe_non (pa_cons pe_str (pa_cons (pe_tp (pa_cons pe_int (pa_cons pe_int pa_nil))) (pa_cons (pe_ls (pa_cons pe_int pa_nil)) pa_nil)))))))))))) pa_nil))) (pg_sub (pv 7) (pv 6) set_any))
      (pss_cons (ps_if (pt_cmpR op_eq (pv 6) pe_int (nomark _)) (pss_one (ps_asg (pe_kn d__law_bad_positive hr (by rfl) (pa_cons (pv 0) pa_nil)) (pg_sub (pv 7) (pv 6) set_any))) pss_nil)
      (pss_one (ps_set (i := 4) scRfd.nd rfl (.inl rfl) (pe_tp (pa_cons pe_str (pa_cons (pe_ix ix_any (pe_ls (pa_cons pe_str (pa_cons pe_str (pa_cons pe_str pa_nil)))) (pv 6) (fun _ _ => rfl)) pa_nil))))))) pss_nil)))
      (pss_one (ps_ret (pe_kn d__law_alike hr (by rfl) (pa_cons (LamX.pe_lamcall (T := Tt P1 P2) (TT := TAsk2 K CB M) (t := fun E => tCallK (spTeethX K CB M) kw12 E (tCons (tOp (rIxA K) (tVar 7) (tC (.int 0))) L2.tNil) (tCons (tOp (rIxA K) (tVar 7) (tC (.int 1))) (tCons (tOp (rIxA K) (tVar 7) (tC (.int 2))) L2.tNil))) (by rfl) AS.m AS.kp AS.lk AS.cd AS.b scTold rfl (.inl rfl) (told_gives2 T B AT AM) TB rfl (List.mem_cons_of_mem _ (List.mem_cons_self ..)) (fun p hp hh => by
      simp only [Tt, List.mem_cons, List.not_mem_nil, or_false] at hp
      rcases hp with rfl | rfl
      · exact absurd hh n12
      · rfl) hr (LamX.lamS_by (by show LamX.lamSB (defScope sRfd) _ = true; decide +kernel)) rfl (fun _ _ _ _ _ => rfl) (fun A outer s H E f c' hr' => pe_knKX2 E SX hr' (by rfl) (takes_of rfl rfl rfl rfl) (fun _ _ _ _ h => h) (pa_cons (pe_ix ix_any (pv 7) pe_int (fun _ _ => rfl)) pa_nil) (pk_cons (pe_ix ix_any (pv 7) pe_int (fun _ _ => rfl)) (pk_cons (pe_ix ix_any (pv 7) pe_int (fun _ _ => rfl)) pk_nil)))) (pa_cons (pv 4) pa_nil)))))))))), ?_⟩
  simp only [cx_K]
  obtain ⟨yH, hyH⟩ := LS0.st.at
  refine ⟨_, rfl, _, rfl, _, rfl, sz2 (by show 3 ≤ 100; decide), fun l hl kl => ?_⟩
  have s1 := Same.new hl (.lst [V.ref a, .int lo, .int hi])
  have el : upd H l (.lst [V.ref a, .int lo, .int hi]) l = some (.lst [V.ref a, .int lo, .int hi]) := upd_same
  have nl : l ≠ sr := LS0.st.ne hl
  have LS1 := LS0.same s1
  have kq1 : Kp sr H (upd H l (.lst [V.ref a, .int lo, .int hi])) := Kp.same s1
  generalize upd H l (.lst [V.ref a, .int lo, .int hi]) = H1 at el LS1 kq1 ⊢
  clear s1
  refine ⟨sz2 (by show 2 ≤ 100; decide), fun t0 ht kt => ?_⟩
  have s2 := Same.new ht (.tup [V.str "Mismatch", .non])
  have ot := ob_new (K := K) (H := H1) (o := .tup [V.str "Mismatch", .non]) kt
  have el := s2 _ _ el
  have LS2 := LS1.same s2
  have kq2 := kq1.trans (Kp.same s2)
  generalize upd H1 t0 (.tup [V.str "Mismatch", .non]) = H2 at el LS2 kq2 ot ⊢
  clear s2 LS1 kq1
  refine ⟨_, rfl, sr, 8, rfl, LS2.st, by decide, fun bent H3 b0 b1 kp3 st3 => ?_⟩
  have el := kp3.at nl.symm el
  have LS3 := LS2.kp kp3 st3
  have kq3 := kq2.trans kp3
  have ot := ob_kp2 kp3 (tup_ne LS2.st ot) ot
  clear LS2 kq2 kp3
  have b8 : bent < 8 := by omega
  refine ⟨fun σ H' => ∃ lo' hi' : Int, σ = [some (V.ref sr), some (.ref a), some (.int lo), some (.int hi), some (.ref t0), some (.int bent), none, some (.ref l)] ∧ H' l = some (.lst [V.ref a, .int lo', .int hi']) ∧ inB 1 200 (.int lo') = true ∧ inB 1 200 (.int hi') = true ∧ (bent = 0 → hi' < lo') ∧ ob K H' t0 = some (.tup [V.str "Mismatch", .non]) ∧ Kp sr H H' ∧ LawS K (Tt P1 P2) H' sr, ?_, ?_⟩
  · have turn : ∀ H4, Kp sr H3 H4 → Sto K H4 sr → spTurned K [.ref sr, .int 200] H4 (fun x H5 => gTp K 2 (gCons (gSub (tVar 7) (tC (.int 1)) rSetA) (gCons (gSub (tVar 7) (tC (.int 2)) rSetA) gNil)) x [some (V.ref sr), some (.ref a), some (.int lo), some (.int hi), some (.ref t0), some (.int bent), none, some (.ref l)] H5 fun σ H' => ∃ lo' hi' : Int, σ = [some (V.ref sr), some (.ref a), some (.int lo), some (.int hi), some (.ref t0), some (.int bent), none, some (.ref l)] ∧ H' l = some (.lst [V.ref a, .int lo', .int hi']) ∧ inB 1 200 (.int lo') = true ∧ inB 1 200 (.int hi') = true ∧ (bent = 0 → hi' < lo') ∧ ob K H' t0 = some (.tup [V.str "Mismatch", .non]) ∧ Kp sr H H' ∧ LawS K (Tt P1 P2) H' sr) E0 := fun H4 kp4 st4 => by
      have LS4 := LS3.kp kp4 st4
      have el := kp4.at nl.symm el
      have ot := ob_kp2 kp4 (tup_ne LS3.st ot) ot
      refine ⟨sr, rfl, st4, fun c x y H5 x0 x1 y0 yx kp5 st5 oc => ?_⟩
      have LS5 := LS4.kp kp5 st5
      have el := kp5.at nl.symm el
      have ot := ob_kp2 kp5 (tup_ne LS4.st ot) ot
      have kq5 := (kq3.trans kp4).trans kp5
      refine ⟨c, rfl, _, oc, rfl, ?_⟩
      refine ⟨_, _, rfl, ?_⟩
      refine ⟨_, rfl, l, 1, rfl, rfl, _, el, [V.ref a, .int x, .int hi], rfl, ?_⟩
      refine ⟨_, _, rfl, _, rfl, l, 2, rfl, rfl, _, upd_same, [V.ref a, .int x, .int y], rfl, rfl, ?_⟩
      obtain ⟨sa, ka⟩ := LS0.st.mut (o := .lst [V.ref a, .int x, .int hi]) hl kq5 LS5.st
      obtain ⟨sb, kb⟩ := LS0.st.mut (o := .lst [V.ref a, .int x, .int y]) hl ka sa
      have ta := tabs_putL (o := .lst [V.ref a, .int x, .int hi]) LS5.tb el
      have tb := tabs_putL (o := .lst [V.ref a, .int x, .int y]) ta (upd_same (H := H5) (a := l) (o := .lst [V.ref a, .int x, .int hi]))
      have oa := ob_upd (o := .lst [V.ref a, .int x, .int hi]) el ot (.inr ⟨_, rfl⟩)
      have ob2 := ob_upd (o := .lst [V.ref a, .int x, .int y]) (upd_same (H := H5) (a := l) (o := .lst [V.ref a, .int x, .int hi])) oa (.inr ⟨_, rfl⟩)
      exact ⟨x, y, rfl, upd_same, inB_yes (by omega) (by omega), inB_yes (by omega) (by omega), fun _ => yx, ob2, kb, ⟨sb, tb⟩⟩
    refine ⟨_, rfl, rfl, _, rfl, ite2 (fun h => ?_) (fun h => ?_)⟩
    · exact if_yes rfl ⟨_, rfl, turn H3 (Kp.refl _ _) st3⟩
    · refine ⟨_, rfl, sr, 2, rfl, st3, by decide, fun m H4 m0 m1 kp4 st4 => ⟨rfl, _, rfl, ite2 (fun h' => ?_) (fun h' => ?_)⟩⟩
      · exact ⟨_, rfl, turn H4 kp4 st4⟩
      · exact ⟨lo, hi, rfl, kp4.at nl.symm el, inB_yes (by omega) (by omega), inB_yes (by omega) (by omega), fun z => absurd (decide_eq_true (congrArg V.int z)) h, ob_kp2 kp4 (tup_ne LS3.st ot) ot, kq3.trans kp4, LS3.kp kp4 st4⟩
  rintro σ H4 ⟨lo', hi', rfl, el, il, ih, hb, ot, kq, LS⟩
  clear st3 LS3 kq3
  refine ⟨sz2 (by show 3 ≤ 100; decide), fun p hp kp => ?_⟩
  have s5 := Same.new hp (.lst [V.int 2, .int 1, .int 0])
  have ep : upd H4 p (.lst [V.int 2, .int 1, .int 0]) p = some (.lst [V.int 2, .int 1, .int 0]) := upd_same
  have np : p ≠ sr := LS.st.ne hp
  have npl : p ≠ l := fun z => by rw [z, el] at hp; cases hp
  have el := s5 _ _ el
  have ot := ob_same s5 ot
  have kq := kq.trans (Kp.same s5)
  have LS := LS.same s5
  generalize upd H4 p (.lst [V.int 2, .int 1, .int 0]) = H5 at ep el ot kq LS ⊢
  clear s5 hp kp
  refine ⟨p, rfl, ⟨_, .of ep⟩, forI_list (xs := [V.int 2, .int 1, .int 0]) (fun j σ H' => ∃ (x0 x1 x2 : V) (t : Addr) (x6 : Option V), σ = [some (V.ref sr), some (.ref a), some (.int lo), some (.int hi), some (.ref t), some (.int bent), x6, some (.ref l)] ∧ H' l = some (.lst [x0, x1, x2]) ∧ H' p = some (.lst [V.int 2, .int 1, .int 0]) ∧ Kp sr H H' ∧ LawS K (Tt P1 P2) H' sr ∧ RS K sr l a lo' hi' bent j x0 x1 x2 H' t) ⟨_, _, _, _, _, rfl, el, ep, kq, LS, fun _ => rfl, fun _ => rfl, fun _ => rfl, .inl ⟨rfl, rfl, rfl, fun i h => by omega, ot⟩⟩ (fun j σ H' _ h => by obtain ⟨_, _, _, _, _, _, _, e, _⟩ := h; exact .of e) ?_ ?_⟩
  · rintro j x σ H6 hj ⟨x0, x1, x2, t, x6, rfl, el, ep, kq, LS, r0, r1, r2, rs⟩
    obtain ⟨kk, hk, rfl, rfl⟩ : ∃ kk : Nat, kk ≤ 2 ∧ x = .int kk ∧ j = 2 - kk := by
      match j, hj with
      | 0, hj => cases hj; exact ⟨2, by omega, rfl, rfl⟩
      | 1, hj => cases hj; exact ⟨1, by omega, rfl, rfl⟩
      | 2, hj => cases hj; exact ⟨0, by omega, rfl, rfl⟩
      | n + 3, hj => simp at hj
    have kj : (2 - (2 - kk) : Nat) = kk := by omega
    refine ⟨_, rfl, sz2 (by show 3 ≤ 100; decide), fun w hw kw => ?_⟩
    have sW := Same.new hw (.lst [V.int 1, .int 2, .int 4])
    have ow := ob_new (K := K) (H := H6) (o := .lst [V.int 1, .int 2, .int 4]) kw
    have el := sW _ _ el
    have ep := sW _ _ ep
    have kq := kq.trans (Kp.same sW)
    have LS := LS.same sW
    have rs : ((x0 = .ref a ∧ x1 = .int lo' ∧ x2 = .int hi' ∧ (∀ i : Nat, i < 2 - kk → bent / 2 ^ (2 - i) % 2 = 0) ∧ ob K (upd H6 w (.lst [V.int 1, .int 2, .int 4])) t = some (.tup [.str "Mismatch", .non])) ∨ (x0 = .ref a ∧ x1 = .int lo' ∧ SbI K (Fz sr l) 1 200 (upd H6 w (.lst [V.int 1, .int 2, .int 4])) x2 ∧ ob K (upd H6 w (.lst [V.int 1, .int 2, .int 4])) t = some (.tup [.str "BadValue", .str "most"])) ∨ (x0 = .ref a ∧ SbI K (Fz sr l) 1 200 (upd H6 w (.lst [V.int 1, .int 2, .int 4])) x1 ∧ ob K (upd H6 w (.lst [V.int 1, .int 2, .int 4])) t = some (.tup [.str "BadValue", .str "least"]))) := by
      rcases rs with ⟨e0, e1, e2, z, o⟩ | ⟨e0, e1, s, o⟩ | ⟨e0, s, o⟩ | ⟨j3, _⟩
      · exact .inl ⟨e0, e1, e2, z, ob_same sW o⟩
      · exact .inr (.inl ⟨e0, e1, s.kx (Kx.same sW), ob_same sW o⟩)
      · exact .inr (.inr ⟨e0, s.kx (Kx.same sW), ob_same sW o⟩)
      · omega
    generalize upd H6 w (.lst [V.int 1, .int 2, .int 4]) = H7 at sW ow el ep kq LS rs ⊢
    clear sW hw kw
    have pp := pow3_pos hk
    have ed : bent.fdiv (2 ^ kk) = bent / 2 ^ kk := Int.fdiv_eq_ediv_of_nonneg _ (by omega)
    refine ⟨_, rfl, w, kk, rfl, rfl, _, itsO_ofL ow, _, at_pow3 hk, _, _, rfl, rfl, cd_pow3 hk, _, _, rfl, rfl, by show (0 : Int) < 2; decide, rfl, _, rfl, ite2 (fun h => ?_) (fun h => ?_)⟩
    · have c30 : CPow 10 30 := by unfold CPow; decide
      refine ⟨_, rfl, _, rfl, _, rfl, _, rfl, _, _, rfl, rfl, c30, sz2 (by show 2 ≤ 100; decide), fun u hu ku => ?_⟩
      have sU := Same.new hu (.tup [V.int 2, .int 1])
      have ou := ob_new (K := K) (H := H7) (o := .tup [V.int 2, .int 1]) ku
      have el := sU _ _ el
      have ep := sU _ _ ep
      have kq := kq.trans (Kp.same sU)
      have LS := LS.same sU
      generalize upd H7 u (.tup [V.int 2, .int 1]) = H8 at ou el ep kq LS ⊢
      clear sU hu
      refine ⟨sz2 (by show 1 ≤ 100; decide), fun y hy ky => ?_⟩
      have sY := Same.new hy (.lst [V.int 2])
      have oy := ob_new (K := K) (H := H8) (o := .lst [V.int 2]) ky
      have ny : y ≠ sr := LS.st.ne hy
      have nyl : y ≠ l := fun z => by rw [z, el] at hy; cases hy
      have el := sY _ _ el
      have ep := sY _ _ ep
      have kq := kq.trans (Kp.same sY)
      have LS := LS.same sY
      have ou := ob_same sY ou
      generalize upd H8 y (.lst [V.int 2]) = H9 at ou oy el ep kq LS ⊢
      clear sY hy
      refine ⟨sz2 (by show 11 ≤ 100; decide), fun r hr' kr => ?_⟩
      have e30 : (10 : Int) ^ (30 : Int).toNat = 1000000000000000000000000000000 := by decide
      have sR := Same.new hr' (.lst [V.int 0, .int 201, (fun (i : Int) => V.int (-i)) 1, (fun (i : Int) => V.int (-i)) lo, (fun (i j : Int) => V.int (i ^ j.toNat)) 10 30, .bl true, .bl false, .non, .str "2", .ref u, .ref y])
      have nul : ¬ Fz sr l u := fun z => by
        rcases z with z | z
        · exact tup_ne LS.st ou z
        · rw [z] at ou
          exact absurd ((ob_none kl).trans el) (by rw [ou]; intro z; cases z)
      have nyl' : ¬ Fz sr l y := fun z => z.elim ny nyl
      have all : ∀ x ∈ ([V.int 0, .int 201, (fun (i : Int) => V.int (-i)) 1, (fun (i : Int) => V.int (-i)) lo, (fun (i j : Int) => V.int (i ^ j.toNat)) 10 30, .bl true, .bl false, .non, .str "2", .ref u, .ref y] : List V), SbI K (Fz sr l) 1 200 H9 x := fun x hx => by
        simp only [List.mem_cons, List.not_mem_nil, or_false] at hx
        rcases hx with rfl | rfl | rfl | rfl | rfl | rfl | rfl | rfl | rfl | rfl | rfl
        · exact sbI_sc (t := "int") (fun _ => rfl) rfl
        · exact sbI_sc (t := "int") (fun _ => rfl) rfl
        · exact sbI_sc (t := "int") (fun _ => rfl) rfl
        · exact sbI_sc (t := "int") (fun _ => rfl) (inB_out (.inl (by omega)))
        · exact sbI_sc (t := "int") (fun _ => rfl) (inB_out (.inr (by rw [e30]; decide)))
        · exact sbI_sc (t := "bool") (fun _ => rfl) rfl
        · exact sbI_sc (t := "bool") (fun _ => rfl) rfl
        · exact sbI_sc (t := "NoneType") (fun _ => rfl) rfl
        · exact sbI_sc (t := "str") (fun _ => rfl) rfl
        · exact sbI_tup nul ou
        · exact sbI_lst nyl' oy
      refine ⟨sr, r, _, rfl, LS.st.same sR, upd_same, Ne.symm (LS.st.ne hr'), by show 0 < 11; decide, by show 11 < 1000; decide, fun x H10 hx kp10 st10 => ?_⟩
      have sx : SbI K (Fz sr l) 1 200 H10 x := ((all x hx).kx (Kx.same sR)).kx (Kx.kp (.inl rfl) kp10)
      have el := kp10.at nl.symm (sR _ _ el)
      have ep := kp10.at np.symm (sR _ _ ep)
      have kq := (kq.trans (Kp.same sR)).trans kp10
      have LS := (LS.same sR).kp kp10 st10
      clear all hx sR kp10 st10 ou oy
      rcases (show kk = 2 ∨ kk = 1 ∨ kk = 0 by omega) with rfl | rfl | rfl
      · refine ⟨_, rfl, _, rfl, l, 2, rfl, rfl, _, el, [x0, x1, x], rfl, ?_⟩
        obtain ⟨stP, kqP⟩ := LS0.st.mut (o := .lst [x0, x1, x]) hl kq LS.st
        have tbP := tabs_putL (o := .lst [x0, x1, x]) LS.tb el
        have LSP : LawS K (Tt P1 P2) (upd H10 l (.lst [x0, x1, x])) sr := ⟨stP, tbP⟩
        have epP : upd H10 l (.lst [x0, x1, x]) p = some (.lst [V.int 2, .int 1, .int 0]) := by rw [upd_ne npl]; exact ep
        have elP : upd H10 l (.lst [x0, x1, x]) l = some (.lst [x0, x1, x]) := upd_same
        have sxP := sx.kx (Kx.put (o := .lst [x0, x1, x]) (.inr rfl))
        generalize upd H10 l (.lst [x0, x1, x]) = H11 at kqP LSP epP elP sxP ⊢
        refine ⟨_, rfl, rfl, _, rfl, if_no (by decide) ?_⟩
        refine ⟨sz2 (by show 3 ≤ 100; decide), fun nn hn kn => ⟨_, rfl, nn, 2, rfl, rfl, _, itsO_ofL (ob_new kn), _, rfl, sz2 (by show 2 ≤ 100; decide), fun t' ht' kt' => ?_⟩⟩
        have sN := (Same.new hn (.lst [V.str "value", .str "least", .str "most"])).trans (Same.new ht' (.tup [V.str "BadValue", .str "most"]))
        exact ⟨x0, x1, x, t', _, rfl, sN _ _ elP, sN _ _ epP, kqP.trans (Kp.same sN), LSP.same sN, fun _ => r0 (by omega), fun q => r1 (by omega), fun q => by omega, .inr (.inl ⟨r0 (by omega), r1 (by omega), sxP.kx (Kx.same sN), ob_new kt'⟩)⟩
      · refine ⟨_, rfl, _, rfl, l, 1, rfl, rfl, _, el, [x0, x, x2], rfl, ?_⟩
        obtain ⟨stP, kqP⟩ := LS0.st.mut (o := .lst [x0, x, x2]) hl kq LS.st
        have tbP := tabs_putL (o := .lst [x0, x, x2]) LS.tb el
        have LSP : LawS K (Tt P1 P2) (upd H10 l (.lst [x0, x, x2])) sr := ⟨stP, tbP⟩
        have epP : upd H10 l (.lst [x0, x, x2]) p = some (.lst [V.int 2, .int 1, .int 0]) := by rw [upd_ne npl]; exact ep
        have elP : upd H10 l (.lst [x0, x, x2]) l = some (.lst [x0, x, x2]) := upd_same
        have sxP := sx.kx (Kx.put (o := .lst [x0, x, x2]) (.inr rfl))
        generalize upd H10 l (.lst [x0, x, x2]) = H11 at kqP LSP epP elP sxP ⊢
        refine ⟨_, rfl, rfl, _, rfl, if_no (by decide) ?_⟩
        refine ⟨sz2 (by show 3 ≤ 100; decide), fun nn hn kn => ⟨_, rfl, nn, 1, rfl, rfl, _, itsO_ofL (ob_new kn), _, rfl, sz2 (by show 2 ≤ 100; decide), fun t' ht' kt' => ?_⟩⟩
        have sN := (Same.new hn (.lst [V.str "value", .str "least", .str "most"])).trans (Same.new ht' (.tup [V.str "BadValue", .str "least"]))
        exact ⟨x0, x, x2, t', _, rfl, sN _ _ elP, sN _ _ epP, kqP.trans (Kp.same sN), LSP.same sN, fun _ => r0 (by omega), fun q => absurd q (by omega), fun q => by omega, .inr (.inr (.inl ⟨r0 (by omega), sxP.kx (Kx.same sN), ob_new kt'⟩))⟩
      · refine ⟨_, rfl, _, rfl, l, 0, rfl, rfl, _, el, [x, x1, x2], rfl, ?_⟩
        obtain ⟨stP, kqP⟩ := LS0.st.mut (o := .lst [x, x1, x2]) hl kq LS.st
        have tbP := tabs_putL (o := .lst [x, x1, x2]) LS.tb el
        have LSP : LawS K (Tt P1 P2) (upd H10 l (.lst [x, x1, x2])) sr := ⟨stP, tbP⟩
        have epP : upd H10 l (.lst [x, x1, x2]) p = some (.lst [V.int 2, .int 1, .int 0]) := by rw [upd_ne npl]; exact ep
        have elP : upd H10 l (.lst [x, x1, x2]) l = some (.lst [x, x1, x2]) := upd_same
        generalize upd H10 l (.lst [x, x1, x2]) = H11 at kqP LSP epP elP ⊢
        refine ⟨_, rfl, rfl, _, rfl, if_yes (by decide) ?_⟩
        refine ⟨_, rfl, sr, rfl, LSP.st, fun z H12 nz kp12 st12 => ?_⟩
        have el12 := kp12.at nl.symm elP
        have ep12 := kp12.at np.symm epP
        have kq12 := kqP.trans kp12
        have LS12 := LSP.kp kp12 st12
        refine ⟨_, rfl, _, rfl, l, 0, rfl, rfl, _, el12, [z, x1, x2], rfl, ?_⟩
        obtain ⟨stQ, kqQ⟩ := LS0.st.mut (o := .lst [z, x1, x2]) hl kq12 LS12.st
        have tbQ := tabs_putL (o := .lst [z, x1, x2]) LS12.tb el12
        have LSQ : LawS K (Tt P1 P2) (upd H12 l (.lst [z, x1, x2])) sr := ⟨stQ, tbQ⟩
        have epQ : upd H12 l (.lst [z, x1, x2]) p = some (.lst [V.int 2, .int 1, .int 0]) := by rw [upd_ne npl]; exact ep12
        have elQ : upd H12 l (.lst [z, x1, x2]) l = some (.lst [z, x1, x2]) := upd_same
        have nzQ : NoPos K (upd H12 l (.lst [z, x1, x2])) z := nz.put2 el12
        generalize upd H12 l (.lst [z, x1, x2]) = H13 at kqQ LSQ epQ elQ nzQ ⊢
        refine ⟨sz2 (by show 3 ≤ 100; decide), fun nn hn kn => ⟨_, rfl, nn, 0, rfl, rfl, _, itsO_ofL (ob_new kn), _, rfl, sz2 (by show 2 ≤ 100; decide), fun t' ht' kt' => ?_⟩⟩
        have sN := (Same.new hn (.lst [V.str "value", .str "least", .str "most"])).trans (Same.new ht' (.tup [V.str "BadValue", .str "value"]))
        exact ⟨z, x1, x2, t', _, rfl, sN _ _ elQ, sN _ _ epQ, kqQ.trans (Kp.same sN), LSQ.same sN, fun q => absurd q (by omega), fun q => absurd q (by omega), fun q => by omega, .inr (.inr (.inr ⟨rfl, nzQ.same sN, ob_new kt'⟩))⟩
    · have hz : bent / 2 ^ kk % 2 = 0 := by
        have h' : ¬ bent.fdiv (2 ^ kk) % 2 = 1 := fun z => h (decide_eq_true (congrArg V.int z))
        rw [ed] at h'
        omega
      refine ⟨x0, x1, x2, t, _, rfl, el, ep, kq, LS, fun _ => r0 (by omega), fun q => r1 (by omega), fun q => by omega, ?_⟩
      rcases rs with ⟨e0, e1, e2, z, o⟩ | ⟨e0, e1, s, o⟩ | ⟨e0, s, o⟩
      · refine .inl ⟨e0, e1, e2, fun i hi' => ?_, o⟩
        by_cases q : i = 2 - kk
        · rw [q, kj]
          exact hz
        · exact z i (by omega)
      · exact .inr (.inl ⟨e0, e1, s, o⟩)
      · exact .inr (.inr (.inl ⟨e0, s, o⟩))
  · rintro σ H6 ⟨x0, x1, x2, t, x6, rfl, el, ep, kq, LS, r0, r1, r2, rs⟩
    refine ⟨LS.tb, fun Ha ea ta => ?_⟩
    have ela := ea _ _ el (fun ps z => by cases z)
    have ol := (ob_none kl).trans ela
    have fa := fa0.kp kq hyH
    refine ⟨_, rfl, l, 0, rfl, rfl, _, itsO_ofL ol, _, atI_0 _ _, _, rfl, l, 1, rfl, rfl, _, itsO_ofL ol, _, atI_1 _ _ _, _, rfl, l, 2, rfl, rfl, _, itsO_ofL ol, _, atI_2 _ _ _ _, ?_⟩
    have fe : Fq K Ha 8000 a v := ⟨ob_ext ea (fun ps z => by cases z) fa.o, fa.nf, fa.sz.mono (by omega)⟩
    rcases rs with ⟨rfl, rfl, rfl, z, ot⟩ | ⟨rfl, rfl, sb, ot⟩ | ⟨rfl, sb, ot⟩ | ⟨_, np0, ot⟩
    · have ot2 := ob_ext ea (fun ps z => by cases z) ot
      have z0 := z 0 (by decide)
      have z1 := z 1 (by decide)
      have z2 := z 2 (by decide)
      rw [show (2 : Int) ^ (2 - 0) = 4 by decide] at z0
      rw [show (2 : Int) ^ (2 - 1) = 2 by decide] at z1
      rw [show (2 : Int) ^ (2 - 2) = 1 by decide] at z2
      refine .inr (.inr (.inr ⟨a, v, lo', hi', rfl, fe, v0, il, ih, hb (by omega), fun Hb sb => .inr ⟨rfl, rfl, fun p' Hc sc oc => ?_⟩⟩))
      exact ⟨_, rfl, _, _, rfl, (eqv_tup oc (ob_same (sb.trans sc) ot2) rfl (by show 2 ≤ 20000; omega)).up, fun H7 s7 => k _⟩
    · have ot2 := ob_ext ea (fun ps z => by cases z) ot
      obtain ⟨w2, i2⟩ := (sb.kx (Kx.ext ea)).now
      exact .inr (.inr (.inl ⟨a, v, .int lo', x2, rfl, fe, v0, Wh.int lo', il, w2, i2, fun d Hb sb' hd => .inl ⟨rfl, d, _, rfl, hd, fun p' Hc sc oc => ⟨_, rfl, _, _, rfl, (eqv_tup oc (ob_same (sb'.trans sc) ot2) rfl (by show 2 ≤ 20000; omega)).up, fun H7 s7 => k _⟩⟩⟩))
    · have ot2 := ob_ext ea (fun ps z => by cases z) ot
      obtain ⟨w1, i1⟩ := (sb.kx (Kx.ext ea)).now
      exact .inr (.inl ⟨a, v, x1, x2, rfl, fe, v0, w1, i1, fun d Hb sb' hd => .inl ⟨rfl, d, _, rfl, hd, fun p' Hc sc oc => ⟨_, rfl, _, _, rfl, (eqv_tup oc (ob_same (sb'.trans sc) ot2) rfl (by show 2 ≤ 20000; omega)).up, fun H7 s7 => k _⟩⟩⟩)
    · have ot2 := ob_ext ea (fun ps z => by cases z) ot
      exact .inl ⟨x0, x1, x2, rfl, np0.ext ea, fun d Hb sb' hd => .inl ⟨rfl, d, _, rfl, hd, fun p' Hc sc oc => ⟨_, rfl, _, _, rfl, (eqv_tup oc (ob_same (sb'.trans sc) ot2) rfl (by show 2 ≤ 20000; omega)).up, fun H7 s7 => k _⟩⟩⟩
end
end My

namespace My
open PySem PySem.Spec PyProof.Rows L2
section
variable {P : Program} {w : World} {K : PySem.W.Frag} {mg : Str → Option Value} {base : Heap}
def spScl (K : PySem.W.Frag) : Sp := fun vs H Q _ => ∃ (l : Addr) (xs : List V), vs = [.ref l] ∧ SqL K H l xs ∧ xs.length ≤ 40 ∧ (∀ x ∈ xs, ∃ a q, x = .ref a ∧ ob K H a = some (frt q) ∧ 1 ≤ q.2 ∧ q.2 ≤ 200) ∧ ∀ m : Int, 0 ≤ m → m.natAbs < 2 ^ 400 → Q (.int m) H
theorem pow8 (i : Nat) : (2 : Nat) ^ (8 * (i + 1) + 1) = 2 ^ (8 * i + 1) * 256 := by
  rw [show 8 * (i + 1) + 1 = (8 * i + 1) + 8 by omega, Nat.pow_add]
abbrev sScl : Stmt := topS 45
theorem scScl : FnScope ["_law_fracs", "_law_scale_here", "_law_value"] ["_law_fracs"] (defScope sScl) := ⟨rfl, rfl, rfl, by decide +kernel, rfl, by decide +kernel, by decide +kernel⟩
theorem k_Scl (T : Bt K mg) (D : Dfn K mg "_law_scale" sScl ["_law_fracs"]) (d__law_gcd : Kn P w K mg base 1 "_law_gcd" ["_law_left", "_law_right"] spGcd) : Kn P w K mg base 2 "_law_scale" ["_law_fracs"] (spScl K) := by
  refine Kn.mk' D scScl (fun vs H Q E h => ?_) (fun f cdv A outer s H vs Q E hr h => ?_)
  · obtain ⟨l, xs, rfl, _⟩ := h
    rfl
  obtain ⟨l, xs, rfl, hl, h40, hx, k⟩ := h
  refine ⟨_, (pss_cons (ps_set (i := 1) scScl.nd rfl (.inl rfl) pe_int)
      (pss_cons (ps_for PassesOwn.never rfl (pi_list (pv 0)) (pg_name (i := 2) scScl.nd rfl (.inl rfl)) (pss_one (ps_set (i := 1) scScl.nd rfl (.inl rfl) (pe_op op_mulW (pe_op op_fdivX (pv 1) (pe_kn d__law_gcd hr (by rfl) (pa_cons (pv 1) (pa_cons (pe_ix ix_any (pv 2) pe_int (fun _ _ => rfl)) pa_nil)))) (pe_ix ix_any (pv 2) pe_int (fun _ _ => rfl))))))
      (pss_one (ps_ret (pv 1))))), ?_⟩
  refine ⟨_, rfl, l, rfl, ⟨_, hl⟩, forI_list (xs := xs) (fun i σ H' => ∃ (m : Int) (x2 : Option V), σ = [some (V.ref l), some (.int m), x2] ∧ 0 ≤ m ∧ m.natAbs < 2 ^ (8 * i + 1) ∧ H' = H) ⟨1, none, rfl, by decide, by decide, rfl⟩ (fun i σ H' _ h => by obtain ⟨_, _, _, _, _, rfl⟩ := h; exact hl) ?_ ?_⟩
  · rintro i x σ H' hi ⟨m, x2, rfl, m0, mb, rfl⟩
    obtain ⟨a, q, rfl, oa, q1, q2⟩ := hx x (List.mem_of_getElem? hi)
    have il := (List.getElem?_eq_some_iff.mp hi).1
    have g0 : 1 ≤ ((Int.gcd m q.2 : Nat) : Int) := by
      have := gcd_pos (t := m) (b := q.2) (by omega)
      omega
    have gl : ((Int.gcd m q.2 : Nat) : Int) ≤ 200 := by
      have := gcd_le (t := m) (b := q.2) (by omega)
      omega
    have ef : m.fdiv (Int.gcd m q.2 : Nat) = m / (Int.gcd m q.2 : Nat) := Int.fdiv_eq_ediv_of_nonneg _ (by omega)
    obtain ⟨g, hg⟩ : ∃ g : Int, ((Int.gcd m q.2 : Nat) : Int) = g := ⟨_, rfl⟩
    rw [hg] at g0 gl ef
    have d0 : 0 ≤ m / g := Int.ediv_nonneg m0 (by omega)
    have d1 : (m / g).natAbs ≤ m.natAbs := Int.natAbs_ediv_le_natAbs _ _
    have cg : CDivX m g := ⟨by omega, by
      have : g.natAbs < 2 ^ 8 := by omega
      exact Nat.lt_of_lt_of_le this (Nat.pow_le_pow_right (by decide) (by decide))⟩
    have md : (m / g).natAbs < 2 ^ (8 * i + 1) := Nat.lt_of_le_of_lt d1 mb
    refine ⟨_, rfl, _, rfl, _, rfl, a, 1, rfl, rfl, _, itsO_of oa, _, atI_1 _ _ _, m, q.2, rfl, ?_⟩
    rw [hg]
    have q9 : q.2.natAbs < 2 ^ 9 := by omega
    have cm : CMulW (m.fdiv g) q.2 := by
      rw [ef]
      exact mulW md q9 (by have : 8 * i + 1 ≤ 400 := by omega
                           omega)
    refine ⟨m, g, rfl, rfl, cg, _, rfl, a, 1, rfl, rfl, _, itsO_of oa, _, atI_1 _ _ _, _, _, rfl, rfl, cm, ?_⟩
    refine ⟨m / g * q.2, some (.ref a), by rw [← ef]; rfl, Int.mul_nonneg d0 (by omega), ?_, rfl⟩
    rw [pow8, Int.natAbs_mul]
    have : q.2.natAbs < 256 := by omega
    exact Nat.lt_of_lt_of_le (Nat.mul_lt_mul_of_lt_of_le md (Nat.le_of_lt this) (by omega)) (Nat.le_refl _)
  · rintro σ H' ⟨m, x2, rfl, m0, mb, rfl⟩
    exact ⟨_, rfl, k m m0 (Nat.lt_of_lt_of_le mb (Nat.pow_le_pow_right (by decide) (by omega)))⟩

end
end My

namespace My
open PySem PySem.Spec PyProof.Rows L2
section
variable {P : Program} {w : World} {K : PySem.W.Frag} {mg : Str → Option Value} {base : Heap}
/-- a fraction of small numbers above 0 -/
def Sm (K : PySem.W.Frag) (H : Hp) (x : V) : Prop := ∃ a q, x = .ref a ∧ ob K H a = some (frt q) ∧ Nf q ∧ 1 ≤ q.1 ∧ q.1 ≤ 200 ∧ q.2 ≤ 200
/-- what is wanted of the ordered list: some of the same, and not none -/
def spOrd (K : PySem.W.Frag) (T : List (Addr × Str)) : Sp := fun vs H Q _ => ∃ (l : Addr) (xs : List V), vs = [.ref l] ∧ H l = some (.lst xs) ∧ K.lookup l = none ∧ 1 ≤ xs.length ∧ xs.length ≤ 40 ∧ (∀ x ∈ xs, Sm K H x) ∧ LamX.Tabs T H ∧ ∀ r ys H', LamX.ExtN H H' → LamX.Tabs T H' → H r = none → K.lookup r = none → H' r = some (.lst ys) → 1 ≤ ys.length → ys.length ≤ 40 → (∀ y ∈ ys, y ∈ xs) → Q (.ref r) H'
abbrev sLaw : Stmt := topS 62
theorem scLaw : FnScope ["_law_script", "_law_store_here", "_law_low", "_law_high", "_law_value", "_law_kind", "_law_ratios", "_law_driver", "_law_spot", "_law_told_here", "_law_k", "_law_pair", "_law_sign", "_law_ratio", "_law_driven"] ["_law_script"] (defScope sLaw) := ⟨rfl, rfl, rfl, by decide +kernel, rfl, by decide +kernel, by decide +kernel⟩
end
end My

namespace L2
open PySem PySem.Spec PyProof.Rows
/-- no part of what is tracked -/
def Off (X : Cx) (pins : List (Addr × Obj)) (b : Addr) : Prop := b ≠ X.env.locals ∧ b ∉ X.fs ∧ (b ∈ X.ex ∨ X.s_0.heap.objs.size ≤ b) ∧ (∀ x c, X.env.cells.lookup x = some c → c ≠ b) ∧ ∀ p ∈ X.pn ++ pins, p.1 ≠ b
theorem Inv.off {X : Cx} {pins : List (Addr × Obj)} {σ : St} {H : Hp} {s : Shared} {b : Addr} {h' : Heap} {t' : Nat} (I : Inv X pins σ H s) (O : Off X pins b) (n : H b = none) (k : ∀ c o, c ≠ b → s.heap.get? c = some o → h'.get? c = some o) : Inv X pins σ H { s with heap := h', toks := t' } :=
  I.turned (it := b) k n O.1 O.2.2.1 O.2.2.2.1 O.2.2.2.2
theorem Off.pins {X : Cx} {pins more : List (Addr × Obj)} {b : Addr} (O : Off X pins b) (h : ∀ p ∈ more, p.1 ≠ b) : Off X (pins ++ more) b :=
  ⟨O.1, O.2.1, O.2.2.1, O.2.2.2.1, fun p hp => by
    rw [← List.append_assoc] at hp
    rcases List.mem_append.mp hp with hp | hp
    · exact O.2.2.2.2 p hp
    · exact h p hp⟩
/-- a list of ours, not tracked so far, is tracked from now on; another object of ours was written -/
theorem Inv.track {X : Cx} {pins : List (Addr × Obj)} {σ : St} {H : Hp} {s : Shared} {a k : Addr} {o : HO} {h' : Heap} {t' : Nat} (I : Inv X pins σ H s) (O : Off X pins a) (n : H a = none) (Ok : Off X pins k) (nk : H k = none) (kp : ∀ c o, c ≠ k → c ≠ a → s.heap.get? c = some o → h'.get? c = some o)
    (new : ObjOk X.prog X.w (upd H a o) h' a o) : Inv X pins σ (upd H a o) { s with heap := h', toks := t' } := by
  refine I.step (g' := s.gens) (d' := s.drawn) (ch := [k, a]) (fun b hb => ?_) (fun b o _ _ hc e _ => kp b o (fun z => hc (by simp [z])) (fun z => hc (by simp [z])) e) (fun b o _ _ hc e _ => ⟨o.slots, kp b o (fun z => hc (by simp [z])) (fun z => hc (by simp [z])) e⟩) (fun b _ hc _ m => by rw [upd_ne (fun z => hc (by simp [z]))]; exact m)
    (fun b o hc e => ⟨o, kp b o (fun z => hc (by simp [z])) (fun z => hc (by simp [z])) e⟩) (fun b xs e => by rw [upd_ne (ne_of_none e n)]; exact e) (fun b o u e => by rw [upd_ne (ne_of_none e n)]; exact e) (fun b ps e => ⟨#[], by rw [upd_ne (ne_of_none e n), e]; simp⟩) (fun m hm => ?_) (fun b u e => ?_) I.bare
  · rcases List.mem_cons.mp hb with e | hb
    · subst e
      exact ⟨Ok.2.2.1, Ok.1, Ok.2.2.2.1, Ok.2.2.2.2⟩
    · have e : b = a := by simpa using hb
      subst e
      exact ⟨O.2.2.1, O.1, O.2.2.2.1, O.2.2.2.2⟩
  · obtain ⟨o, es, ep, ho, r⟩ := hm
    exact ⟨o, es, ep, kp _ o (Ne.symm Ok.1) (Ne.symm O.1) ho, r⟩
  · by_cases hb : b = a
    · subst hb
      rw [upd_same] at e
      cases e
      exact new
    · rw [upd_ne hb] at e
      have nb : b ≠ k := ne_of_none e nk
      refine (I.hok b u e).stay (fun c v hv q => kp c v (fun z => ?_) (fun z => ?_) q) (fun c q => by rw [upd_ne (ne_of_none q n)]; exact q) fun c xs q => by rw [upd_ne (ne_of_none q n)]; exact q
      · subst z
        rcases hv with z | z
        · exact nb z.symm
        · rw [nk] at z
          cases z
      · subst z
        rcases hv with z | z
        · exact hb z.symm
        · rw [n] at z
          cases z
end L2

namespace PyProof.Rows
open PySem
section
variable {prog : Program} {w : World} {A : Around} {E : Value → Shared → Prop} {s : Shared} {a kS : Addr} {b : Bool} {vs : List Value} {kz : List Int} {keys : Array Value} {e e1 : Nat} {P : PySem.Fin → Shared → Prop}
theorem sl_tail {st : SortSt} (nk : s.heap.get? kS = some (seqObj "list" keys e)) (na : s.heap.get? a = some (seqObj "list" #[] e1)) (hka : kS ≠ a)
    (hk : IntsAre keys.toList kz) (hlen : kz.length = vs.length) (hZ : vs.length ≤ sizeLine) (hp : (arrOf st).Perm (keys.zip vs.toArray)) (hs : SortedTo (arrOf st) (arrOf st).size) (hfl : failedOf st = none)
    (hst : Stable intKind (arrOf st) (if b = true then (keys.zip vs.toArray).reverse else keys.zip vs.toArray))
    (h : ∀ h' tk out c, (∀ x o, x ≠ kS → x ≠ a → s.heap.get? x = some o → h'.get? x = some o) → (∃ o, h'.get? kS = some o) → h'.get? a = some (seqObj "list" out c) → KskOutSt b kz vs out.toList → P (.done (.ret .none)) { s with heap := h', toks := tk }) :
    wpAny (model prog w) A (ksk_tail a b e1 (.ref kS) st) P E s := by
  have hZ2 := hZ
  rw [sizeLine_eq] at hZ2
  have hsz : keys.size = vs.length := by
    have h1 := hk.length
    rw [Array.length_toList] at h1
    omega
  have hsz2 : (arrOf st).size = vs.length := by rw [hp.size_eq, Array.size_zip, hsz, List.size_toArray, Nat.min_self]
  have hout : (if b then ((arrOf st).map (·.2)).reverse else (arrOf st).map (·.2)).size = vs.length := by
    cases b with
    | false => simp only [Bool.false_eq_true, if_false, Array.size_map]; exact hsz2
    | true => simp only [if_true, Array.size_reverse, Array.size_map]; exact hsz2
  have s1 := Heap.SameBut.update s.heap kS (Obj.mapSeq fun _ => (#[] : Array Value))
  have na1 : (s.heap.update kS (Obj.mapSeq fun _ => (#[] : Array Value))).get? a = some (seqObj "list" #[] e1) := (s1.2 a hka.symm).trans na
  have s2 := Heap.SameBut.update (s.heap.update kS (Obj.mapSeq fun _ => (#[] : Array Value))) a (Obj.mapSeq fun _ => if b then ((arrOf st).map (·.2)).reverse else (arrOf st).map (·.2))
  obtain ⟨c2, hc2⟩ : ∃ c2, ((s.heap.update kS (Obj.mapSeq fun _ => (#[] : Array Value))).update a (Obj.mapSeq fun _ => if b then ((arrOf st).map (·.2)).reverse else (arrOf st).map (·.2))).get? a = some (seqObj "list" (if b then ((arrOf st).map (·.2)).reverse else (arrOf st).map (·.2)) c2) :=
    ⟨_, get?_update_seq na1 fun _ => if b then ((arrOf st).map (·.2)).reverse else (arrOf st).map (·.2)⟩
  obtain ⟨c3, hc3⟩ : ∃ c3, (s.heap.update kS (Obj.mapSeq fun _ => (#[] : Array Value))).get? kS = some (seqObj "list" #[] c3) := ⟨_, get?_update_seq nk fun _ => #[]⟩
  unfold ksk_tail
  try dsimp only
  refine wpAny_bind (listUpdate_at nk rfl ?_ (by rw [hsz, sizeLine_eq]; omega) (Nat.zero_le _))
  refine wpAny_bind (wpAny_letGo ?_)
  refine wpAny_bind (seqEpoch_at na1 rfl ?_)
  refine wpAny_bind (listUpdate_at na1 rfl ?_ (Nat.zero_le _) (Nat.le_trans (Nat.le_of_eq hout) (by rw [sizeLine_eq]; omega)))
  rw [hfl]
  simp only [bne_self_eq_false, Bool.false_eq_true, if_false]
  exact wpAny_pure (h _ _ _ c2 (fun x o h1 h2 q => (s2.2 x h2).trans ((s1.2 x h1).trans q)) ⟨_, (s2.2 kS hka).trans hc3⟩ hc2 (ksk_outSt hk hp hs hst))
theorem sl_end (nk : s.heap.get? kS = some (seqObj "list" keys e)) (na : s.heap.get? a = some (seqObj "list" #[] e1)) (hka : kS ≠ a)
    (hk : IntsAre keys.toList kz) (hlen : kz.length = vs.length) (hZ : vs.length ≤ sizeLine)
    (h : ∀ h' tk out c, (∀ x o, x ≠ kS → x ≠ a → s.heap.get? x = some o → h'.get? x = some o) → (∃ o, h'.get? kS = some o) → h'.get? a = some (seqObj "list" out c) → KskOutSt b kz vs out.toList → P (.done (.ret .none)) { s with heap := h', toks := tk }) :
    wpAny (model prog w) A (ksk_end a b vs.toArray e1 (.ref kS) keys) P E s := by
  have hZ2 := hZ
  rw [sizeLine_eq] at hZ2
  have hsz : keys.size = vs.length := by
    have h1 := hk.length
    rw [Array.length_toList] at h1
    omega
  have hzs : (keys.zip vs.toArray).size = vs.length := by rw [Array.size_zip, hsz, List.size_toArray, Nat.min_self]
  have step : ∀ t : Sem PySem.Fin, wpAny (model prog w) A t P E s → wpAny (model prog w) A (if b = true then (do let _ ← rule "list.sort.reverse"; t) else t) P E s := by
    intro t ht
    split
    · exact wpAny_bind (wpAny_rule ht)
    · exact ht
  have hstart : (if b = true then (keys.zip vs.toArray).reverse else keys.zip vs.toArray).Perm (keys.zip vs.toArray) := by
    cases b with
    | false => exact Array.Perm.refl _
    | true => exact Array.perm_iff_toList_perm.mpr (by rw [if_pos rfl, Array.toList_reverse]; exact List.reverse_perm _)
  unfold ksk_end
  try dsimp only
  refine step _ ?_
  by_cases h2 : vs.toArray.size < 2
  · rw [if_pos h2, if_pos h2]
    refine wpAny_bind (wpAny_pure ?_)
    rw [StateT.run_pure]
    refine wpAny_bind (wpAny_pure ?_)
    try dsimp only
    refine sl_tail (st := SortSt.mk' general' (if b = true then (keys.zip vs.toArray).reverse else keys.zip vs.toArray) #[] 7 none) nk na hka hk hlen hZ hstart ?_ rfl (Stable.refl _) h
    intro i j hij hj
    have hj2 : j < (if b = true then (keys.zip vs.toArray).reverse else keys.zip vs.toArray).size := hj
    rw [hstart.size_eq, hzs] at hj2
    rw [List.size_toArray] at h2
    have : i = j := by omega
    subst this
    exact Int.le_refl _
  · rw [if_neg h2, if_neg h2]
    rw [List.size_toArray] at h2
    rw [ksk_kind hk (by rw [hsz]; omega)]
    refine wpAny_bind (wpAny_pure ?_)
    have hss : (if b = true then (keys.zip vs.toArray).reverse else keys.zip vs.toArray).size = vs.length := by rw [hstart.size_eq, hzs]
    refine wpAny_bind (wpAny_mono (wpS_sortRunsSt (κ := intKind) (a₀ := if b = true then (keys.zip vs.toArray).reverse else keys.zip vs.toArray)
      (st := SortSt.mk' oneType' (if b = true then (keys.zip vs.toArray).reverse else keys.zip vs.toArray) #[] 7 none)
      (Q := fun _ st' => (arrOf st').Perm (keys.zip vs.toArray) ∧ failedOf st' = none ∧ SortedTo (arrOf st') (arrOf st').size ∧
        Stable intKind (arrOf st') (if b = true then (keys.zip vs.toArray).reverse else keys.zip vs.toArray))
      intKind_oneLt ((ksk_keysOfInt (ksk_intKeys hk)).perm hstart) ⟨Array.Perm.refl _, rfl, rfl⟩ rfl (Stable.refl _) (by rw [hss]; omega)
      fun st' a1 a2 a3 a4 => ⟨a1.trans hstart, a2, by rw [a1.size_eq]; exact sortedTo_of_int a3, a4⟩) ?_ fun _ _ e => e)
    rintro ⟨⟨⟩, st'⟩ s' ⟨rfl, hp, hf, hs, hst⟩
    try dsimp only
    exact sl_tail nk na hka hk hlen hZ hp hs hf hst h
end
end PyProof.Rows

namespace L2
open PySem PySem.Spec PyProof.Rows
section
variable {X : Cx} {pins : List (Addr × Obj)} {σ : St}
/-- the keys are asked, one by one -/
theorem sl_rest {H0 : Hp} {s : Shared} {A : Around} {E : Value → Shared → Prop} {a kS f : Addr} {fo : Obj} {e1 : Nat} {vs : List Value} {kz : List Int} {P : PySem.Fin → Shared → Prop}
    (I : Inv X pins σ H0 s) (nk : s.heap.get? kS = some (seqObj "list" #[] 0)) (na : s.heap.get? a = some (seqObj "list" #[] e1)) (nf : s.heap.get? f = some fo) (hka : kS ≠ a) (hkf : kS ≠ f) (haf : a ≠ f) (Ok : Off X pins kS) (Oa : Off X pins a) (Of : f ≠ X.env.locals ∧ f ∉ X.fs) (fc : ∀ v, fo.data ≠ .cell v)
    (hk0 : H0 kS = none) (ha0 : H0 a = none) (hf0 : H0 f = none) (hlen : kz.length = vs.length) (hZ : vs.length ≤ sizeLine)
    (turn : ∀ (i : Nat) (v : Value) (k : Int), vs[i]? = some v → kz[i]? = some k → ∀ (pins' : List (Addr × Obj)) (H' : Hp) (s' : Shared), Inv X pins' σ H' s' → (∀ b o, H0 b = some o → H' b = some o) → H' f = none → s'.heap.get? f = some fo →
      wpAny (model X.prog X.w) A (call (.ref f) [v]) (EP X pins' σ fun x H'' => x = .int k ∧ ∀ b o, H' b = some o → H'' b = some o) (fun _ _ => False) s')
    (h : ∀ (H' : Hp) (s' : Shared) (h' : Heap) (tk : Nat) (out : Array Value) (c : Nat), Inv X pins σ H' s' → (∀ b o, H0 b = some o → H' b = some o) → H' a = none → H' kS = none → (∀ x o, x ≠ kS → x ≠ a → s'.heap.get? x = some o → h'.get? x = some o) → (∃ o, h'.get? kS = some o) → h'.get? a = some (seqObj "list" out c) → KskOutSt false kz vs out.toList → P (.done (.ret .none)) { s' with heap := h', toks := tk }) :
    wpAny (model X.prog X.w) A (ksk_rest a (.ref f) false vs.toArray e1 (.ref kS)) P E s := by
  have hZ2 := hZ
  rw [sizeLine_eq] at hZ2
  unfold ksk_rest
  refine wpAny_bind (wpAny_rule ?_)
  first
    | rw [List.forIn_toArray]
    | (rw [← Array.forIn_toList]; simp only [List.toList_toArray])
    | rw [← Array.forIn_toList]
  refine wpAny_bind (ksk_fold (fun i s' => ∃ H' kA e, Inv X pins σ H' s' ∧ (∀ b o, H0 b = some o → H' b = some o) ∧ H' kS = none ∧ H' a = none ∧ H' f = none ∧ s'.heap.get? kS = some (seqObj "list" kA e) ∧ s'.heap.get? a = some (seqObj "list" #[] e1) ∧ s'.heap.get? f = some fo ∧ IntsAre kA.toList (kz.take i)) vs 0 s
    ⟨H0, #[], 0, I, fun _ _ e => e, hk0, ha0, hf0, nk, na, nf, by simpa using IntsAre.nil⟩ ?step ?done)
  case step =>
    rintro j x s' hx ⟨H', kA, e, I', e0, n1, n2, n3, nk, na, nf, hk⟩
    simp only [Nat.zero_add] at hk ⊢
    have hj : j < vs.length := (List.getElem?_eq_some_iff.mp hx).1
    obtain ⟨k, hkj⟩ : ∃ k, kz[j]? = some k := ⟨_, List.getElem?_eq_getElem (by omega)⟩
    have hz : kA.size ≤ vs.length := by
      have h1 := hk.length
      rw [Array.length_toList, List.length_take] at h1
      omega
    have Ip : Inv X (pins ++ [(kS, seqObj "list" kA e), (a, seqObj "list" #[] e1), (f, fo)]) σ H' s' := I'.pins_of fun p hp => by
      rcases List.mem_append.mp hp with hp | hp
      · exact I'.pin p (List.mem_append_right _ hp)
      · simp only [List.mem_cons, List.not_mem_nil, or_false] at hp
        rcases hp with rfl | rfl | rfl
        · exact ⟨nk, n1, Ok.1, Ok.2.1, fun v z => by cases z⟩
        · exact ⟨na, n2, Oa.1, Oa.2.1, fun v z => by cases z⟩
        · exact ⟨nf, n3, Of.1, Of.2, fc⟩
    refine wpAny_bind (wpAny_attempt (wpAny_mono (turn j x k hx hkj _ H' s' Ip e0 n3 nf) (fun v s'' he => ?_) fun _ _ hF => hF.elim))
    obtain ⟨v0, H2, I2, rv, rfl, e2⟩ := he
    obtain ⟨t2, rfl⟩ := rv
    try dsimp only
    have P1 := I2.pin (kS, seqObj "list" kA e) (by simp)
    have P2 := I2.pin (a, seqObj "list" #[] e1) (by simp)
    have P3 := I2.pin (f, fo) (by simp)
    have I2' : Inv X pins σ H2 s'' := I2.pins_of fun p hp => I2.pin p (by
      rcases List.mem_append.mp (List.mem_append_right X.pn hp) with z | z
      · exact List.mem_append_left _ z
      · exact List.mem_append_right _ (List.mem_append_left _ z))
    have s1 := Heap.SameBut.update s''.heap kS (Obj.mapSeq (·.push (.int k t2)))
    obtain ⟨c2, hc2⟩ : ∃ c2, (s''.heap.update kS (Obj.mapSeq (·.push (.int k t2)))).get? kS = some (seqObj "list" (kA.push (.int k t2)) c2) := ⟨_, get?_update_seq P1.1 (·.push (.int k t2))⟩
    have ek : kz.take (j + 1) = kz.take j ++ [k] := by rw [List.take_add_one, hkj]; simp
    have ea : (kA.push (Value.int k t2)).toList = kA.toList ++ [Value.int k t2] := by simp
    refine wpAny_bind (listUpdate_at P1.1 rfl ?_ (by rw [sizeLine_eq]; omega) (Nat.le_trans (Nat.le_of_eq (Array.size_push ..)) (by rw [sizeLine_eq]; omega)))
    refine wpAny_pure ⟨rfl, H2, kA.push (.int k t2), c2, I2'.off (t' := s''.toks) Ok P1.2.1 fun c o nc q => (s1.2 c nc).trans q, fun b o q => e2 b o (e0 b o q), P1.2.1, P2.2.1, P3.2.1, hc2, (s1.2 a hka.symm).trans P2.1, (s1.2 f hkf.symm).trans P3.1, by rw [ea, ek]; exact ksk_snoc hk⟩
  case done =>
    rintro s' ⟨H', kA, e, I', e0, n1, n2, n3, nk, na, nf, hk⟩
    have hk' : IntsAre kA.toList kz := by
      have e3 : kz.take (0 + vs.length) = kz := List.take_of_length_le (by omega)
      rw [e3] at hk
      exact hk
    try dsimp only
    refine wpAny_bind (listItems_at nk rfl ?_)
    exact sl_end nk na hka hk' hlen hZ fun h' tk out c k1 k3 k2 ko => h H' s' h' tk out c I' e0 n2 n1 k1 k3 k2 ko
/-- what a list sorted by whole keys is -/
def SrtBy (kz : List Int) (ys zs : List V) : Prop := ∃ ps : List (Int × V), ps.Perm (kz.zip ys) ∧ zs = ps.map Prod.snd ∧ ps.Pairwise (fun p q => p.1 ≤ q.1) ∧ ∀ c, ps.filter (fun p => p.1 == c) = (kz.zip ys).filter (fun p => p.1 == c)
theorem srtBy_back {kz : List Int} {vs out : List Value} (h : KskOutSt false kz vs out) : SrtBy kz (vs.map backV) (out.map backV) := by
  obtain ⟨ps, hp, ho, hs, hst⟩ := h
  have e : kz.zip (vs.map backV) = (kz.zip vs).map fun p => (p.1, backV p.2) := by
    rw [List.zip_map_right]
    exact List.map_congr_left fun ⟨x, y⟩ _ => rfl
  refine ⟨ps.map fun p => (p.1, backV p.2), by rw [e]; exact hp.map _, by rw [ho, List.map_map, List.map_map]; rfl, ?_, fun c => ?_⟩
  · rw [List.pairwise_map]
    exact hs
  · rw [e, List.filter_map, List.filter_map]
    exact congrArg (List.map _) (hst c)
/-- sorted(l, key=f), f a lambda (or any def that is pinned) -/
theorem sl_sorted {H : Hp} {s : Shared} {f l : Addr} {fo : Obj} {ys : List V} {kz : List Int} {Q : VK} {E : Value → Shared → Prop} (I : Inv X pins σ H s) (nf : s.heap.get? f = some fo) (Of : f ≠ X.env.locals ∧ f ∉ X.fs) (fc : ∀ v, fo.data ≠ .cell v) (hf0 : H f = none)
    (hl : SqL X.K H l ys) (hy : ∀ y ∈ ys, ∃ a, y = V.ref a) (hlen : kz.length = ys.length)
    (turn : ∀ (i : Nat) (y : V) (u : Value) (k : Int), ys[i]? = some y → kz[i]? = some k → RelV y u → ∀ (pins' : List (Addr × Obj)) (H' : Hp) (s' : Shared), Inv X pins' σ H' s' → (∀ b o, H b = some o → H' b = some o) → H' f = none → s'.heap.get? f = some fo →
      wpAny (model X.prog X.w) X.A.in1.in1 (call (.ref f) [u]) (EP X pins' σ fun x H'' => x = .int k ∧ ∀ b o, H' b = some o → H'' b = some o) (fun _ _ => False) s')
    (fin : ∀ (r : Addr) (zs : List V) (H' : Hp), (∀ b o, H b = some o → H' b = some o) → H r = none → H' r = none → SrtBy kz ys zs → Q (.ref r) (upd H' r (.lst zs))) :
    wpAny (model X.prog X.w) X.A (call (.builtin "sorted") [.ref l] [(Str.ofString "key", .ref f)]) (EP X pins σ Q) E s := by
  obtain ⟨its, rv, p, hz⟩ := I.list hl
  obtain ⟨b1, b2⟩ := refs_back rv hy
  have hil : its.length = ys.length := rv.length.symm
  have hZ : its.length ≤ sizeLine := by rw [hil]; exact hz
  have hZ2 := hZ
  rw [sizeLine_eq] at hZ2
  have hll := p.isList
  refine call_function_entry_kw kind_sorted plain_sorted entry_sorted (ksk_s1 _ _) ?_
  unfold Builtin.«sorted»
  refine wpAny_bind (m := checkCount "sorted" 1 1 _) (wpAny_pure ?_)
  refine wpAny_bind (collect_list hll ?_ (by rw [sizeLine_eq]; omega))
  refine wpAny_bind (wpAny_newList ?_ (by rw [sizeLine_eq]; omega))
  obtain ⟨h1, eh1⟩ : ∃ h1, h1 = (s.heap.push (seqObj "list" #[] 0)).update s.heap.objs.size (Obj.mapSeq (· ++ its.toArray)) := ⟨_, rfl⟩
  have hsz : h1.objs.size = s.heap.objs.size + 1 := by
    rw [eh1, Heap.size_update, size_push']
  obtain ⟨a, ea⟩ : ∃ a, a = s.heap.objs.size + 1 := ⟨_, rfl⟩
  have hoL : (h1.push (seqObj "list" its.toArray 0)).get? a = some (seqObj "list" its.toArray 0) := by
    rw [ea, ← hsz]; exact Heap.get?_push_size _ rfl
  have keep : ∀ b o, s.heap.get? b = some o → (h1.push (seqObj "list" its.toArray 0)).get? b = some o := fun b o q => by
    have hlt : b < s.heap.objs.size := Heap.lt_size q
    rw [Heap.get?_push_ne _ _ _ (by rw [hsz]; exact Nat.ne_of_lt (Nat.lt_succ_of_lt hlt)), eh1, Heap.get?_update_ne _ _ _ _ (Nat.ne_of_lt hlt), Heap.get?_push_ne _ _ _ (Nat.ne_of_lt hlt)]
    exact q
  show wpAny _ _ _ _ _ { s with heap := ((s.heap.push (seqObj "list" #[] 0)).update s.heap.objs.size (Obj.mapSeq (· ++ its.toArray))).push (seqObj "list" its.toArray 0) }
  rw [← eh1, hsz, ← ea]
  have hle : s.heap.objs.size ≤ a := by rw [ea]; exact Nat.le_succ _
  have ha0 : H a = none := I.hok.fresh hle
  have Oa : Off X pins a := (I.fpOk hle ha0).2
  have hfs : f < s.heap.objs.size := Heap.lt_size nf
  have haf : a ≠ f := by rw [ea]; exact Nat.ne_of_gt (Nat.lt_succ_of_lt hfs)
  refine wpAny_bind (wpAny_holding (wpAny_call_entry_kw slot_list_sort ⟨_, hoL, rfl⟩ entry_list_sort ?body (ksk_l1 _ _)))
  case body =>
    have ht' := ksk_t1 f a
    show wpAny (model X.prog X.w) X.A.in1.in1 (Builtin.«list.sort» ⟨[.ref a], [(Str.ofString "key", .ref f)]⟩) _ _ _
    rw [ht']
    obtain ⟨h2, eh2⟩ : ∃ h2, h2 = h1.push (seqObj "list" its.toArray 0) := ⟨_, rfl⟩
    rw [← eh2] at hoL keep ⊢
    have hs2 : h2.objs.size = a + 1 := by rw [eh2, size_push', hsz, ea]
    have s1 := Heap.SameBut.update h2 a (Obj.mapSeq fun _ => (#[] : Array Value))
    obtain ⟨e1, ho1⟩ : ∃ e1, (h2.update a (Obj.mapSeq fun _ => (#[] : Array Value))).get? a = some (seqObj "list" #[] e1) := ⟨_, get?_update_seq hoL fun _ => #[]⟩
    have hkS : ((h2.update a (Obj.mapSeq fun _ => (#[] : Array Value))).push (seqObj "tuple" its.toArray 0)).objs.size = a + 2 := by rw [size_push', Heap.size_update, hs2]
    obtain ⟨kS, ekS⟩ : ∃ kS, kS = ((h2.update a (Obj.mapSeq fun _ => (#[] : Array Value))).push (seqObj "tuple" its.toArray 0)).objs.size := ⟨_, rfl⟩
    have ek2 : kS = a + 2 := ekS.trans hkS
    unfold ksk_tree
    refine wpAny_bind (listItems_at hoL rfl ?_)
    refine wpAny_bind (listUpdate_at hoL rfl ?_ (by rw [List.size_toArray, sizeLine_eq]; omega) (Nat.zero_le _))
    refine wpAny_bind (seqEpoch_at ho1 rfl ?_)
    refine wpAny_bind (wpAny_newTuple ?_ (by show its.length ≤ _; rw [sizeLine_eq]; omega))
    refine wpAny_bind (wpAny_newList ?_ (Nat.zero_le _))
    refine wpAny_holding ?_
    have hlek : s.heap.objs.size ≤ kS := by rw [ek2, ea]; omega
    have hk0 : H kS = none := I.hok.fresh hlek
    have Ok : Off X pins kS := (I.fpOk hlek hk0).2
    have hkf : kS ≠ f := by rw [ek2, ea]; exact Nat.ne_of_gt (Nat.lt_of_lt_of_le hfs (Nat.le_add_right _ 3))
    have hka : kS ≠ a := by rw [ek2]; omega
    have keep3 : ∀ b o, s.heap.get? b = some o → (((h2.update a (Obj.mapSeq fun _ => (#[] : Array Value))).push (seqObj "tuple" its.toArray 0)).push (seqObj "list" #[] 0)).get? b = some o := fun b o q =>
      Heap.get?_push_of_some _ (Heap.get?_push_of_some _ ((s1.2 b (by rw [ea]; exact Nat.ne_of_lt (Nat.lt_succ_of_lt (Heap.lt_size q)))).trans (keep b o q)))
    have I3 : Inv X pins σ H { s with heap := ((h2.update a (Obj.mapSeq fun _ => (#[] : Array Value))).push (seqObj "tuple" its.toArray 0)).push (seqObj "list" #[] 0), toks := s.toks } := I.kept keep3
    rw [← ekS]
    refine sl_rest (H0 := H) (kz := kz) I3 (by rw [ekS]; exact Heap.get?_push_size _ rfl) (Heap.get?_push_of_some _ (Heap.get?_push_of_some _ ho1)) (keep3 _ _ nf) hka hkf haf Ok Oa Of fc hk0 ha0 hf0 (by omega) hZ
      (fun i v k hv hk pins' H' s' I' e' n' g' => ?_) fun H' s' h' tk out c I' e' n1 n2 k1 k3 k2 ko => ⟨_, rfl, wpAny_pure ⟨_, rfl, ?_⟩⟩
    · obtain ⟨y, hy, ry⟩ : ∃ y, ys[i]? = some y ∧ RelV y v := by
        have hi : i < ys.length := by
          rw [← hil]
          exact (List.getElem?_eq_some_iff.mp hv).1
        obtain ⟨u, hu, ru⟩ := rv.get (List.getElem?_eq_getElem hi)
        rw [hu] at hv
        cases hv
        exact ⟨_, List.getElem?_eq_getElem hi, ru⟩
      exact turn i y v k hy hk ry pins' H' s' I' e' n' g'
    · obtain ⟨ps, hp, ho, _⟩ := id ko
      have hb2 : ∀ u ∈ out.toList, ∃ a, u = Value.ref a := fun u hu => by
        rw [ho] at hu
        obtain ⟨q, hq, rfl⟩ := List.mem_map.mp hu
        exact b2 _ (List.of_mem_zip (hp.mem_iff.mp hq)).2
      have hol : (out.toList.map backV).length ≤ sizeLine := by
        rw [List.length_map, ho, List.length_map, hp.length_eq, List.length_zip]
        exact Nat.le_trans (Nat.min_le_right _ _) hZ
      refine ⟨.ref a, upd H' a (.lst (out.toList.map backV)), I'.track (t' := tk) Oa n1 Ok n2 k1 ⟨hol, out.toList, c, vals_back hb2, by rw [Array.toArray_toList]; exact k2⟩, rfl, fin a _ H' e' ha0 n1 ?_⟩
      rw [b1]
      exact srtBy_back ko
end
end L2

namespace LamX
open PySem PySem.Spec PyProof.Rows L2
/-- one parameter, no other name of its own: captured ones and globals -/
structure LamS1 (sc scope : Scope) (p : Str) : Prop where
  kind : scope.kind = .function
  co : scope.isCoroutine = false
  gen : scope.isGenerator = false
  own : ∀ y ∈ scope.names, y.2 ≠ .cell ∧ (y.2 = .local → y.1 = p)
  par : scope.names.lookup p = some .local
  free : ∀ y ∈ scope.names, y.2 = .free → sc.names.lookup y.1 = some .cell ∨ sc.names.lookup y.1 = some .free
def lamS1B (sc scope : Scope) (p : Str) : Bool :=
  decide (scope.kind = .function) && !scope.isCoroutine && !scope.isGenerator && decide (scope.names.lookup p = some .local) && scope.names.all fun y => !decide (y.2 = .cell) && (!decide (y.2 = .local) || decide (y.1 = p)) && (!decide (y.2 = .free) || decide (sc.names.lookup y.1 = some .cell) || decide (sc.names.lookup y.1 = some .free))
theorem lamS1_by {sc scope : Scope} {p : Str} (h : lamS1B sc scope p = true) : LamS1 sc scope p := by
  unfold lamS1B at h
  simp only [Bool.and_eq_true, Bool.or_eq_true, Bool.not_eq_true', decide_eq_true_eq, decide_eq_false_iff_not, List.all_eq_true] at h
  obtain ⟨⟨⟨⟨h1, h2⟩, h3⟩, h5⟩, h4⟩ := h
  refine ⟨h1, h2, h3, fun y hy => ⟨(h4 y hy).1.1, fun e => ?_⟩, h5, fun y hy e => ?_⟩
  · rcases (h4 y hy).1.2 with z | z
    · exact absurd e z
    · exact z
  · rcases (h4 y hy).2 with (z | z) | z
    · exact absurd e z
    · exact .inl z
    · exact .inr z
theorem LamS1.has {X : Cx} {scope : Scope} {p : Str} (L : LamS1 X.env.scope scope p) (ok : X.Ok) : ∀ y ∈ scope.names, y.2 = .free → ∃ c, X.env.cells.lookup y.1 = some c := fun y hy e => by
  rcases L.free y hy e with k | k
  · exact ok.has _ (.inl k)
  · exact ok.has _ (.inr k)
abbrev lamCx1 (X : Cx) (A : Around) (outer : List Env) (s : Shared) (H : Hp) (E : XK) (scope : Scope) (f c' : Addr) (p : Str) : Cx := { lamCx X A outer s H E scope f c' with N := X.N ++ [p] }
section
variable {X : Cx} {pins : List (Addr × Obj)} {σ : L2.St} {H HZ : Hp} {s s1 : Shared}
theorem lam_start3 {A : Around} {outer : List Env} {E : XK} {scope : Scope} {f c' : Addr} {h₁ : Heap} {tk : Nat} {p : Str} {y : V} {u : Value} (I : Inv X pins σ H s) (L : LamS1 X.env.scope scope p) (np : p ∉ X.N) (r : RelV y u) (e0 : Env0 X.prog X.w X.K X.mg X.base A outer s1 HZ) (hd : A.handled = none)
    (un : Un (frs X.stack) [] H HZ s.heap s1.heap) (hns : h₁.Ns s1.heap.objs.size fun y => ([(p, u)] : List (Str × Value)).reverse.lookup y) (kp : ∀ b o, s1.heap.get? b = some o → h₁.get? b = some o) :
    Inv (lamCx1 X A outer s1 HZ E scope f c' p) [] (σ ++ [some y]) HZ { s1 with heap := h₁, toks := tk } := by
  have hfree := L.has I.ok
  have cm : ∀ {y c}, (cloFrom X.env.cells scope.names []).lookup y = some c → X.env.cells.lookup y = some c := fun {y c} e => by
    rcases cloFrom_mem (PySem.mem_of_lookup e) with hm | ⟨h1, h2⟩
    · cases hm
    · obtain ⟨c1, hc⟩ := hfree _ h1 rfl
      have hc : X.env.cells.lookup y = some c1 := hc
      have e2 : c = c1 := by
        rw [h2, hc] <;> rfl
      rw [e2]
      exact hc
  have look : ∀ {y}, scope.names.lookup y = some .free → ∃ c, (cloFrom X.env.cells scope.names []).lookup y = some c := fun {y} hl => by
    have hy : (y, NameKind.free) ∈ scope.names := PySem.mem_of_lookup hl
    exact mem_lookup (cloFrom_has (cells := X.env.cells) (acc := []) hy)
  have cellK : ∀ {c : Addr} {v : Option Value}, H c = none → s.heap.IsCell c v → h₁.IsCell c v := fun {c v} n ⟨o, ho, hd⟩ => by
    obtain ⟨sl, q⟩ := un.any ho n (by simp)
    exact ⟨_, kp _ _ q, hd⟩
  have noA : ∀ b : Addr, b ∉ (lamCx1 X A outer s1 HZ E scope f c' p).ex := fun b z => absurd (show b ∈ ([] : List Addr) from z) (by simp)
  refine ⟨⟨e0.mod, L.kind, rfl, rfl, Nat.le_refl _, fun y z c e1 e2 => I.ok.inj y z c (cm e1) (cm e2), fun y hy => ?_, fun y c z _ => ?_, fun _ => hd, Around.frames_deeper e0.frames, .inr ⟨rfl, rfl⟩, fun b z => absurd z (noA b), e0.bs, e0.bsz, fun b _ _ => noA b,
      fun b z => absurd z (noA b), e0.funs, e0.frf⟩,
    rfl, e0.bare, Un.kept kp, ⟨_, hns, fun i y' v e1 e2 e3 => ?_⟩, fun y c e => ?_, e0.hok.fresh (Nat.le_refl _), fun y c e => ?_, fun q hq => absurd (show q ∈ ([] : List (Addr × Obj)) ++ [] from hq) (by simp), e0.hok.kept kp, ?_⟩
  · have hy : scope.names.lookup y = some .cell ∨ scope.names.lookup y = some .free := hy
    rcases hy with hy | hy
    · exact absurd rfl (L.own _ (PySem.mem_of_lookup hy)).1
    · exact look hy
  · have z : false = true := z
    cases z
  · have e1 : (X.N ++ [p])[i]? = some y' := e1
    have e3 : Vis scope y' := e3
    have sl : σ.length = X.N.length := I.len
    by_cases hi : i < X.N.length
    · rw [List.getElem?_append_left hi] at e1
      rw [List.getElem?_append_left (by rw [sl]; exact hi)] at e2
      rcases e3 with k | k | k
      · have e := (L.own _ (PySem.mem_of_lookup k)).2 rfl
        have e : y' = p := e
        rw [e] at e1
        exact absurd (List.mem_of_getElem? e1) np
      · exact absurd rfl (L.own _ (PySem.mem_of_lookup k)).1
      · obtain ⟨m, hn, hl⟩ := I.loc
        have hvis : Vis X.env.scope y' := (L.free _ (PySem.mem_of_lookup k) rfl).elim (fun k => .inr (.inl k)) (fun k => .inr (.inr k))
        obtain ⟨w', r, q⟩ := hl i y' v e1 e2 hvis
        obtain ⟨c2, h2⟩ := look k
        refine ⟨w', r, .inr ⟨.inr k, c2, h2, ?_⟩⟩
        have c1 := cm h2
        rcases q with ⟨k', _⟩ | ⟨_, c3, e', z⟩
        · have k' : X.env.scope.names.lookup y' = some .local := k'
          rcases L.free _ (PySem.mem_of_lookup k) rfl with k2 | k2 <;> rw [show X.env.scope.names.lookup y' = _ from k2] at k' <;> cases k'
        · rw [c1] at e'
          cases e'
          exact cellK (I.freeC y' _ c1) z
    · have hl2 : i < (X.N ++ [p]).length := (List.getElem?_eq_some_iff.mp e1).1
      rw [List.length_append, List.length_singleton] at hl2
      have ei : i = X.N.length := by omega
      subst ei
      rw [List.getElem?_append_right (Nat.le_refl _), Nat.sub_self] at e1
      rw [List.getElem?_append_right (by rw [sl]; exact Nat.le_refl _), sl, Nat.sub_self] at e2
      cases e1
      cases e2
      refine ⟨u, r, .inl ⟨L.par, ?_⟩⟩
      show ([(p, u)] : List (Str × Value)).lookup p = some u
      simp [List.lookup]
  · obtain ⟨w', z⟩ := I.cell y c (cm e)
    exact ⟨w', cellK (I.freeC y c (cm e)) z⟩
  · obtain ⟨v, o, ho, hd⟩ := I.cell y c (cm e)
    exact un.free c o ho (I.freeC y c (cm e)) (by simp)
  · show (σ ++ [some y]).length = (X.N ++ [p]).length
    rw [List.length_append, List.length_append, I.len]
    rfl
/-- the lambda is asked by a builtin, in its maker's own frame -/
theorem ask_lam {k : Nat} {A : Around} {scope : Scope} {f c' : Addr} {params : Arguments} {body : Expr} {pm ctv : Value} {p : Str} {y : V} {u : Value} {tb : TE} {Q : VK} (hr : Room (k + 1) A) (e0 : Env0 X.prog X.w X.K X.mg X.base A X.stack s H) (I : Inv X pins σ H s) (L : LamS1 X.env.scope scope p) (np : p ∉ X.N) (r : RelV y u)
    (hf : s.heap.get? f = some (PySem.W.kla_obj "<lambda>" (X.env.qual ++ "<lambda>") params body scope (cloFrom X.env.cells scope.names []) pm c' ctv)) (hc : H c' = some (CodeO c' (X.env.qual ++ "<lambda>")))
    (hbind : ∀ u : Value, bindArgs (PySem.W.kla_fn "<lambda>" (X.env.qual ++ "<lambda>") params body scope (cloFrom X.env.cells scope.names []) pm (.ref c') ctv) ⟨[u], []⟩ = pure [(p, u)])
    (hbody : Room k (A.deeper (lamEnv X scope s.heap.objs.size f c')) → PE (lamCx1 X A X.stack s H C8.E0 scope f c' p) body tb) (ht : tb (σ ++ [some y]) H Q) :
    wpAny (model X.prog X.w) A (call (.ref f) [u]) (EP X pins σ Q) (fun _ _ => False) s := by
  have un : Un (frs X.stack) [] H H s.heap s.heap := Un.kept fun _ _ e => e
  obtain ⟨⟨oc, vs, t, hoc, hdc, hvc⟩, _, _⟩ := I.hok c' _ hc
  have rc : codeAny (model X.prog X.w) A (.call (.ref f) ⟨[u], []⟩) (CR (L2.CX X.prog X.w) X.stack X.prog X.w H s Q C8.E0) s := by
    refine PySem.W.kla_callFunE hr.depth hf rfl L.co L.gen rfl ⟨c', oc, vs, t, rfl, hoc, hdc, hvc⟩ ?_
    rw [hbind]
    refine wpAny_pure (wpAny_newFunctionEnv (fun y hy => (L.own y hy).1) (fun y hy => ?_) (fun h₁ hns hsb => ⟨I.nolimit.fresh _ hsb, ?_⟩) L.kind)
    · rw [List.mem_singleton.mp hy]
      exact L.par
    show codeAny _ _ (.expr body (lamEnv X scope s.heap.objs.size f c')) _ _
    have kp : ∀ b o, s.heap.get? b = some o → h₁.get? b = some o := fun b o e => hsb.extBut b o (Nat.ne_of_lt (Heap.lt_size e)) (Heap.get?_push_of_some _ e)
    have J : Inv (lamCx1 X A X.stack s H C8.E0 scope f c' p) [] (σ ++ [some y]) H { s with heap := h₁, toks := s.toks + ([(p, u)] : List (Str × Value)).length } :=
      lam_start3 I L np r e0 hr.hd un hns kp
    refine PySem.W.kla_codeExpr (wpAny_mono ((hbody (hr.deeper _)).run [] _ _ H Q J ht) (fun v s' hq => ?_) fun e s' hq => hq)
    obtain ⟨w', H', J', rv, q⟩ := hq
    exact ⟨w', H', J'.os, J'.bare, J'.base, J'.hok, rv, q⟩
  refine wpAny_call (codeAny_mono rc fun r s' hq => ?_)
  cases r with
  | error e =>
    obtain ⟨_, _, _, _, _, _, _, _, _, _, _, _, _, _, _, _, z⟩ := hq
  | ok fl =>
    cases fl with
    | ret u => exact I.after hq
    | next => exact False.elim hq
    | brk => exact False.elim hq
    | cont => exact False.elim hq
end
/-- sorted(xs, key=lambda p: body): ta reads xs, tb the body (p stands behind the maker's own names) -/
def tSortL (K : PySem.W.Frag) (T : List (Addr × Str)) (ta : TA) (tb : TE) : TE := fun σ H Q => ta σ H fun vs H1 => ∃ (l : Addr) (ys : List V) (kf : Nat → Int), vs = [.ref l] ∧ SqL K H1 l ys ∧ (∀ y ∈ ys, ∃ a, y = V.ref a) ∧ Tabs T H1 ∧ ∀ H2, ExtN H1 H2 → Tabs T H2 →
  (∀ (i : Nat) (y : V) (H3 : Hp), ys[i]? = some y → (∀ b o, H2 b = some o → H3 b = some o) → tb (σ ++ [some y]) H3 fun x H4 => x = .int (kf i) ∧ ∀ b o, H3 b = some o → H4 b = some o) ∧
  ∀ (r : Addr) (zs : List V) (H3 : Hp), (∀ b o, H2 b = some o → H3 b = some o) → H2 r = none → H3 r = none → SrtBy ((List.range ys.length).map kf) ys zs → Q (.ref r) (upd H3 r (.lst zs))
theorem sqL_ext {K : PySem.W.Frag} {H H' : Hp} {a : Addr} {xs : List V} (e : ExtN H H') (h : SqL K H a xs) : SqL K H' a xs := by
  rcases h with (h | ⟨o, h⟩) | h
  · exact .inl (.inl (e _ _ h (fun ps z => by cases z)))
  · exact .inl (.inr ⟨o, e _ _ h (fun ps z => by cases z)⟩)
  · exact .inr h
theorem pe_sortL {X : Cx} {T : List (Addr × Str)} {c P : Addr} {k : Nat} {x pr : Str} {e : Expr} {params : Arguments} {body : Expr} {scope : Scope} {ta : TA} {tb : TE} {p lpos kpos pos : Pos} (hg : Gl X x) (hm : X.mg x = none) (hv : bootBuiltins x = some (.builtin "sorted")) (he : PA X [e] ta)
    (TB : TabB X.base X.mg c P) (hcode : X.env.code = .ref c) (hmT : (P, X.env.qual ++ "<lambda>") ∈ T) (hu : ∀ p ∈ T, p.1 = P → p.2 = X.env.qual ++ "<lambda>") (hr : Room (k + 3) X.A) (L : LamS1 X.env.scope scope pr) (np : pr ∉ X.N) (hdef : defaultsOf params X.env = ([], []))
    (hbind : ∀ (q : Str) (cl : List (Str × Addr)) (pm cv ctv u : Value), bindArgs (PySem.W.kla_fn "<lambda>" q params body scope cl pm cv ctv) ⟨[u], []⟩ = pure [(pr, u)])
    (hbody : ∀ (A : Around) (s : Shared) (H : Hp) (f c' : Addr), Room k (A.deeper (lamEnv X scope s.heap.objs.size f c')) → PE (lamCx1 X A X.stack s H C8.E0 scope f c' pr) body tb)
    (hn : x ≠ "__name__" := by decide) (hdb : (x == ("__debug__" : Str)) = false := by decide)
    (hsp : backTo pos (starEach [e] X.env) = (false, eval e X.env) :: backTo pos (starEach [] X.env) := by rfl) (hpl : (backTo pos (starEach [e] X.env)).any (·.1) = false := by rfl) :
    PE X (.Call (.Name x p) [e] [⟨some "key", .Lambda params body scope lpos, kpos⟩] pos) (tSortL X.K T ta tb) := by
  refine ⟨fun pins s σ H Q I h => ?_⟩
  refine wpAny_Call_Name_kw (ld_blt I hg hm hv ?_ hn hdb)
  refine PyProof.Rows.callWith_kw (thn (he.run pos pins s σ H _ I h) fun us s1 ⟨vs, H1, I1, r1, l, ys, kf, e1, hl, hy, hT, h1⟩ => ?_) hsp hpl rfl rfl
  subst e1
  rw [Vals.ref1 r1]
  show wpAny _ _ (evalAll ((do let v ← eval (.Lambda params body scope lpos) X.env; standAt pos; pure v) :: [])) _ _ _
  refine wpAny_evalAll_cons (wpAny_bind (lam_make2 I1 TB hcode hmT hu hT hdef (L.has I1.ok) fun f c' pm' ctv H2 s2 I2 eN T2 hf hfn hfr hco => wpAny_bind (wpAny_standAt (wpAny_pure (wpAny_evalAll_nil ?_)))))
  obtain ⟨key, fin⟩ := h1 H2 eN T2
  have fL : f ≠ X.env.locals := fun z => by
    obtain ⟨m, ⟨o, es, ep, ho, hd, _⟩, _⟩ := I2.loc
    rw [← z, hf] at ho
    cases ho
    cases hd
  have fF : f ∉ X.fs := fun z => by
    rcases I2.ok.stk with e | ⟨e, hfr2⟩
    · exact hfr (by rw [e]; exact z)
    · refine hfr ?_
      rw [e]
      show f ∈ (X.env :: X.outer).filterMap (·.frame)
      rw [List.filterMap_cons, hfr2]
      exact List.mem_cons_of_mem _ z
  show wpAny _ _ (call (.builtin "sorted") [.ref l] [(Str.ofString "key", .ref f)]) _ _ _
  refine sl_sorted (kz := (List.range ys.length).map kf) I2 hf ⟨fL, fF⟩ (fun v z => by cases z) hfn (sqL_ext eN hl) hy (by simp) (fun i y u k' hyi hki ru pins' H' s' I' e' n' g' => ?_) fin
  have ek : k' = kf i := by
    have hi := (List.getElem?_eq_some_iff.mp hyi).1
    rw [List.getElem?_map, List.getElem?_range hi] at hki
    exact (Option.some.inj hki).symm
  subst ek
  exact ask_lam (k := k) hr.in1.in1 I'.env0.in1.in1 I' L np ru g' (e' _ _ hco) (fun u => hbind _ _ _ _ _ u) (fun hr2 => hbody _ s' H' f c' hr2) (key i y H' hyi e')
end LamX

namespace My
open PySem PySem.Spec PyProof.Rows L2
section
variable {P : Program} {w : World} {K : PySem.W.Frag} {mg : Str → Option Value} {base : Heap}
theorem dp_fr {H : Hp} {a : Addr} {p : Qt} (h : ob K H a = some (.tup [.int p.1, .int p.2])) : Dp K H (.ref a) (.tuple [.int p.1, .int p.2]) := .tup (ob_tup h) (.cons (.int _) (.cons (.int _) .nil))
theorem eqv_fr (p q : Qt) : PyData.eqv (.tuple [.int p.1, .int p.2]) (.tuple [.int q.1, .int q.2]) = decide (p = q) := by
  show ((p.1 == q.1) && ((p.2 == q.2) && true)) = decide (p = q)
  rw [Bool.and_true]
  by_cases h : p = q
  · subst h
    simp
  · rw [decide_eq_false h]
    by_cases h1 : p.1 = q.1
    · have h2 : p.2 ≠ q.2 := fun z => h (Prod.ext h1 z)
      simp [h1, h2]
    · simp [h1]
def rNeF (K : PySem.W.Frag) : R2 := fun x y H Q => ∃ (a b : Addr) (p q : Qt), x = .ref a ∧ y = .ref b ∧ ob K H a = some (.tup [.int p.1, .int p.2]) ∧ ob K H b = some (.tup [.int q.1, .int q.2]) ∧ Q (.bl (!decide (p = q))) H
theorem op_neF {X : Cx} {j : Nat} (hr : Room j X.A) : OpR X (compareOp .NotEq) (rNeF X.K) := fun pins s σ H x y v u Q I rx ry h => by
  obtain ⟨a, b, p, q, ex, ey, oa, ob', k⟩ := h
  subst ex ey
  refine op_neD (by have := hr.un; omega) pins s σ H _ _ v u Q I rx ry ⟨_, _, dp_fr oa, dp_fr ob', rfl, rfl, ?_⟩
  rw [eqv_fr]
  exact k
theorem Sm.same {H H' : Hp} {x : V} (h : Sm K H x) (s : Same H H') : Sm K H' x := by
  obtain ⟨a, q, e, o, r⟩ := h
  exact ⟨a, q, e, ob_same s o, r⟩
theorem Sm.ext {H H' : Hp} {x : V} (h : Sm K H x) (e : LamX.ExtN H H') : Sm K H' x := by
  obtain ⟨a, q, e1, o, r⟩ := h
  exact ⟨a, q, e1, ob_ext e (fun ps z => by cases z) o, r⟩
theorem Sm.fq {H : Hp} {x : V} (h : Sm K H x) : ∃ a q, x = .ref a ∧ Fq K H 8 a q ∧ 1 ≤ q.1 := by
  obtain ⟨a, q, e1, o, n, h1, h2, h3⟩ := h
  have := n.1
  exact ⟨a, q, e1, ⟨o, n, by show q.1.natAbs < 2 ^ 8; omega, by show q.2.natAbs < 2 ^ 8; omega⟩, h1⟩
theorem Sm.put {H : Hp} {D : Addr} {xs : List V} {o : HO} {x : V} (h : Sm K H x) (hD : H D = some (.lst xs)) : Sm K (upd H D o) x := by
  obtain ⟨a, q, e, oa, r⟩ := h
  exact ⟨a, q, e, ob_upd hD oa (.inr ⟨_, rfl⟩), r⟩
theorem atI_m1 {α : Type} {xs : List α} (h : xs ≠ []) : atI xs (-1) = xs[xs.length - 1]? := by
  have hl : 0 < xs.length := by
    cases xs with
    | nil => exact absurd rfl h
    | cons a r => simp
  unfold atI ixN
  rw [if_neg (by omega), if_pos (by omega)]
  show xs[((-1 : Int) + (xs.length : Int)).toNat]? = _
  rw [show ((-1 : Int) + (xs.length : Int)).toNat = xs.length - 1 by omega]
theorem tabs_put {T : List (Addr × Str)} {H : Hp} {l : Addr} {xs : List V} {o : HO} (hl : H l = some (.lst xs)) (t : LamX.Tabs T H) : LamX.Tabs T (upd H l o) := fun p hp => by
  obtain ⟨ps, h1, h2, h3⟩ := t p hp
  refine ⟨ps, by rw [upd_ne (fun e => by rw [e, hl] at h1; cases h1)]; exact h1, h2, fun pos cv hc => ?_⟩
  obtain ⟨c, e1, e2⟩ := h3 pos cv hc
  exact ⟨c, e1, by rw [upd_ne (fun e => by rw [e, hl] at e2; unfold LamX.CodeO at e2; cases e2)]; exact e2⟩
theorem srt_mem {kz : List Int} {ys zs : List V} (h : SrtBy kz ys zs) (hl : kz.length = ys.length) : zs.length = ys.length ∧ ∀ z ∈ zs, z ∈ ys := by
  obtain ⟨ps, hp, rfl, _, _⟩ := h
  refine ⟨by rw [List.length_map, hp.length_eq, List.length_zip, hl, Nat.min_self], fun z hz => ?_⟩
  obtain ⟨q, hq, rfl⟩ := List.mem_map.mp hz
  exact (List.of_mem_zip (hp.mem_iff.mp hq)).2
abbrev sOrd : Stmt := topS 46
theorem scOrd : FnScope ["_law_fracs", "_law_out", "_law_value", "_law_scale_here"] ["_law_fracs"] (defScope sOrd) := ⟨rfl, rfl, rfl, by decide +kernel, rfl, by decide +kernel, by decide +kernel⟩
theorem ok_Ord {fa c P1 P2 : Addr} {oc' dV' kV' doc' pm' ct' : Value} {od' an' : Option Addr} {osl' : Array (Option Value)} (T : Bt K mg) (zS : mg "sorted" = none)
    (lkR : K.lookup fa = some ⟨oc', od', .func (PySem.W.fnOf "_law_ordered" "_law_ordered" (defArgs sOrd) (defBody sOrd) (defScope sOrd) dV' kV' doc' pm' an' (.ref c) ct'), osl'⟩) (cdR : PySem.W.codeIn K (.ref c) "_law_ordered" = true) (TB : LamX.TabB base mg c P1) (n12 : P1 ≠ P2)
    (d__law_scale : Kn P w K mg base 2 "_law_scale" ["_law_fracs"] (spScl K)) : FnOk P w K mg base CX0 4 fa (PySem.W.fnOf "_law_ordered" "_law_ordered" (defArgs sOrd) (defBody sOrd) (defScope sOrd) dV' kV' doc' pm' an' (.ref c) ct') ["_law_fracs"] (spOrd K (Tt P1 P2)) := by
  refine fn_of lkR cdR scOrd (fun vs H Q E h => ?_) fun A outer s H vs Q E hr h => ?_
  · obtain ⟨l, xs, rfl, _⟩ := h
    rfl
  obtain ⟨l, xs, rfl, hl, kl, x1, x40, hx, tb, k⟩ := h
  refine ⟨_, PSs.nox (pss_cons (ps_set (i := 3) scOrd.nd rfl (.inr rfl) (pe_kn d__law_scale hr (by rfl) (pa_cons (pv 0) pa_nil)))
      (pss_cons (ps_set (i := 1) scOrd.nd rfl (.inl rfl) (pe_ls pa_nil))
      (pss_cons (ps_for PassesOwn.never rfl (pi_list (LamX.pe_sortL (T := Tt P1 P2) (tb := (tOp (rI CMulW fun i j => V.int (i * j)) (tOp (rIxA K) (tVar 4) (tC (.int 0))) (tOp (rI CDivX fun i j => V.int (i.fdiv j)) (tVar 3) (tOp (rIxA K) (tVar 4) (tC (.int 1)))))) (by rfl) zS (by decide +kernel) (pa_cons (pv 0) pa_nil) TB rfl (List.mem_cons_self ..) (fun p hp hh => by
      simp only [Tt, List.mem_cons, List.not_mem_nil, or_false] at hp
      rcases hp with rfl | rfl
      · rfl
      · exact absurd hh.symm n12) hr (LamX.lamS1_by (p := "_law_one") (by show LamX.lamS1B (defScope sOrd) _ _ = true; decide +kernel)) (by show ("_law_one" : Str) ∉ (["_law_fracs", "_law_out", "_law_value", "_law_scale_here"] : List Str); decide +kernel) rfl (fun _ _ _ _ _ _ => rfl) (fun A s H f c' hr' => by exact (pe_op op_mulW (pe_ix ix_any (pv 4) pe_int (fun _ _ => rfl)) (pe_op op_fdivX (pv 3) (pe_ix ix_any (pv 4) pe_int (fun _ _ => rfl))))))) (pg_name (i := 2) scOrd.nd rfl (.inl rfl)) (pss_one (ps_if (PW.pt (pw_or (pt_not (pt_truth (pv 1) (fun _ => rfl))) (pw_or1 (pt_cmpR (op_neF hr) (pe_ix ix_any (pv 1) (pe_un un_neg pe_int) (fun _ _ => rfl)) (pv 2) (nomark _))))) (pss_one (ps_expr (pe_bm PySem.F.plainAttrs_list PySem.F.slot_list_append PySem.F.type_list_append mt_append (pv 1) (pa_cons (pv 2) pa_nil)))) pss_nil)))
      (pss_one (ps_ret (pv 1)))))), ?_⟩
  simp only [cx_K]
  have hq : ∀ (i : Nat) (y : V), xs[i]? = some y → ∃ a q, y = .ref a ∧ ob K H a = some (frt q) ∧ 1 ≤ q.1 ∧ q.1 ≤ 200 ∧ 1 ≤ q.2 ∧ q.2 ≤ 200 := fun i y h => by
    obtain ⟨a, q, e, o, n, h1, h2, h3⟩ := hx y (List.mem_of_getElem? h)
    exact ⟨a, q, e, o, h1, h2, n.1, h3⟩
  refine ⟨_, rfl, l, xs, rfl, .inl (.inl hl), x40, fun x hx' => ?_, fun m m0 mb => ?_⟩
  · obtain ⟨i, hi⟩ := List.getElem?_of_mem hx'
    obtain ⟨a, q, e, o, _, _, h3, h4⟩ := hq i x hi
    exact ⟨a, q, e, o, h3, h4⟩
  refine ⟨sz2 (by show 0 ≤ 100; decide), fun o ho ko => ?_⟩
  have sO := Same.new ho (.lst [])
  have eo : upd H o (.lst []) o = some (.lst []) := upd_same
  have tb2 := tabs_same sO tb
  have hl2 := sO _ _ hl
  generalize upd H o (.lst []) = H2 at sO eo tb2 hl2 ⊢
  obtain ⟨kf, hkf⟩ : ∃ kf : Nat → Int, ∀ i a q, xs[i]? = some (V.ref a) → ob K H a = some (frt q) → kf i = q.1 * m.fdiv q.2 := ⟨fun i => match xs[i]? with
    | some (.ref a) => (match ob K H a with
      | some (.tup [.int n, .int d]) => n * m.fdiv d
      | _ => 0)
    | _ => 0, fun i a q h1 h2 => by simp only [h1, h2, frt]⟩
  refine ⟨_, rfl, l, xs, kf, rfl, .inl (.inl hl2), fun y hy => ?_, tb2, fun H3 e3 tb3 => ⟨fun i y H4 hi e4 => ?_, fun r zs H4 e4 nr nr4 sr => ?_⟩⟩
  · obtain ⟨a, q, e, _⟩ := hx y hy
    exact ⟨a, e⟩
  · obtain ⟨a, q, rfl, oa, h1, h2, h3, h4⟩ := hq i y hi
    have oa4 : ob K H4 a = some (frt q) := ob_same e4 (ob_ext e3 (fun ps z => by cases z) (ob_same sO oa))
    have cd : CDivX m q.2 := ⟨by omega, by
      have : q.2.natAbs < 2 ^ 8 := by omega
      exact Nat.lt_of_lt_of_le this (Nat.pow_le_pow_right (by decide) (by decide))⟩
    have cm : CMulW q.1 (m.fdiv q.2) := by
      rw [Int.fdiv_eq_ediv_of_nonneg _ (by omega)]
      have q9 : q.1.natAbs < 2 ^ 9 := by omega
      exact mulW q9 (Nat.lt_of_le_of_lt (Int.natAbs_ediv_le_natAbs _ _) mb) (by decide)
    exact ⟨_, rfl, a, 0, rfl, rfl, _, itsO_of oa4, _, atI_0 _ _, _, rfl, _, rfl, a, 1, rfl, rfl, _, itsO_of oa4, _, atI_1 _ _ _, m, q.2, rfl, rfl, cd, q.1, m.fdiv q.2, rfl, rfl, cm, congrArg V.int (hkf i a q hi (by
      rw [← oa])).symm, fun _ _ e => e⟩
  obtain ⟨zl, zm⟩ := srt_mem sr (by simp)
  have eR : upd H4 r (.lst zs) r = some (.lst zs) := upd_same
  have s4 : Same H3 (upd H4 r (.lst zs)) := fun b o e => by
    rw [upd_ne (ne_of_none e nr)]
    exact e4 b o e
  have e5 : LamX.ExtN H2 (upd H4 r (.lst zs)) := e3.trans (LamX.ExtN.of s4)
  have tb5 := tabs_same s4 tb3
  have nro : o ≠ r := ne_of_none (e3 _ _ eo (fun ps z => by cases z)) nr
  have eo5 : upd H4 r (.lst zs) o = some (.lst []) := e5 _ _ eo (fun ps z => by cases z)
  generalize upd H4 r (.lst zs) = H5 at eR e5 tb5 eo5 ⊢
  have hz : ∀ z ∈ zs, ∀ H', LamX.ExtN H H' → ∃ a q, z = .ref a ∧ Fq K H' 8 a q := fun z hz' H' e => by
    obtain ⟨a, q, e1, f, _⟩ := ((hx z (zm z hz')).ext e).fq
    exact ⟨a, q, e1, f⟩
  refine ⟨r, rfl, ⟨_, .inl (.inl eR)⟩, forI_list (xs := zs) (fun i σ H' => ∃ (acc : List V) (x2 : Option V), σ = [some (V.ref l), some (.ref o), x2, some (.int m)] ∧ H' o = some (.lst acc) ∧ H' r = some (.lst zs) ∧ LamX.ExtN H H' ∧ LamX.Tabs (Tt P1 P2) H' ∧ acc.length ≤ i ∧ (0 < i → 1 ≤ acc.length) ∧ ∀ y ∈ acc, y ∈ zs) ⟨[], none, rfl, eo5, eR, (LamX.ExtN.of sO).trans e5, tb5, Nat.le_refl _, fun h => absurd h (Nat.lt_irrefl _), fun y h => by cases h⟩ (fun i σ H' _ h => by obtain ⟨_, _, _, _, h, _⟩ := h; exact .inl (.inl h)) ?_ ?_⟩
  · rintro i x σ H' hi ⟨acc, x2, rfl, ea, er, eH, tbH, al, a1, am⟩
    have kO : K.lookup o = none := ko
    have oO : ob K H' o = some (.lst acc) := (ob_none kO).trans ea
    have il := (List.getElem?_eq_some_iff.mp hi).1
    have put : ∀ x, x ∈ zs → ∃ (acc' : List V) (x2 : Option V), ([some (V.ref l), some (V.ref o), some x, some (V.int m)] : L2.St) = [some (V.ref l), some (.ref o), x2, some (.int m)] ∧ upd H' o (.lst (acc ++ [x])) o = some (.lst acc') ∧ upd H' o (.lst (acc ++ [x])) r = some (.lst zs) ∧ LamX.ExtN H (upd H' o (.lst (acc ++ [x]))) ∧ LamX.Tabs (Tt P1 P2) (upd H' o (.lst (acc ++ [x]))) ∧ acc'.length ≤ i + 1 ∧ (0 < i + 1 → 1 ≤ acc'.length) ∧ ∀ y ∈ acc', y ∈ zs := fun x hx' =>
      ⟨acc ++ [x], some x, rfl, upd_same, by rw [upd_ne (Ne.symm nro)]; exact er, fun b w e n => by
        rw [upd_ne (ne_of_none e ho)]
        exact eH b w e n, tabs_put ea tbH, by rw [List.length_append, List.length_singleton]; omega, fun _ => by rw [List.length_append, List.length_singleton]; omega, fun y hy => by
        rcases List.mem_append.mp hy with hy | hy
        · exact am y hy
        · rw [List.mem_singleton.mp hy]
          exact hx'⟩
    have xm := List.mem_of_getElem? hi
    have fit : acc.length < sizeLine := by rw [sizeLine_eq]; omega
    refine ⟨_, rfl, !acc.isEmpty, .inl ⟨acc, .inl (.inl ea), rfl⟩, ?_⟩
    by_cases h0 : acc = []
    · refine if_yes (by rw [h0]; rfl) ?_
      exact ⟨_, rfl, .inl ⟨rfl, _, .inl (.inl ea)⟩, _, rfl, o, acc, x, rfl, rfl, ea, fit, put x xm⟩
    · have h1 : acc.isEmpty = false := by
        cases acc with
        | nil => exact absurd rfl h0
        | cons a r => rfl
      have ll : acc.length - 1 < acc.length := by
        have : acc.length ≠ 0 := fun z => h0 (List.length_eq_zero_iff.mp z)
        omega
      obtain ⟨y, hy⟩ : ∃ y, acc[acc.length - 1]? = some y := ⟨_, List.getElem?_eq_getElem ll⟩
      have ym := am y (List.mem_of_getElem? hy)
      obtain ⟨a1', q1, rfl, f1⟩ := hz y ym H' eH
      obtain ⟨a2, q2, rfl, f2⟩ := hz x xm H' eH
      refine if_no (by rw [h1]; rfl) ?_
      refine ⟨_, rfl, _, rfl, o, -1, rfl, rfl, _, itsO_ofL oO, _, (atI_m1 h0).trans hy, _, rfl, a1', a2, q1, q2, rfl, rfl, f1.o, f2.o, _, rfl, ?_⟩
      by_cases e : q1 = q2
      · exact if_no (by rw [decide_eq_true e]; rfl) ⟨acc, _, rfl, ea, er, eH, tbH, by omega, fun _ => by omega, am⟩
      · refine if_yes (by rw [decide_eq_false e]; rfl) ?_
        exact ⟨_, rfl, .inl ⟨rfl, _, .inl (.inl ea)⟩, _, rfl, o, acc, _, rfl, rfl, ea, fit, put _ xm⟩
  · rintro σ H' ⟨acc, x2, rfl, ea, er, eH, tbH, al, a1, am⟩
    exact ⟨_, rfl, k o acc H' eH tbH ho ko ea (a1 (by omega)) (by omega) fun y hy => zm y (am y hy)⟩
end
end My

namespace My
open PySem PySem.Spec PyProof.Rows L2
section
variable {P : Program} {w : World} {K : PySem.W.Frag} {mg : Str → Option Value} {base : Heap}
def spLaw (K : PySem.W.Frag) (P1 P2 : Addr) : Sp := fun vs H Q _ => ∃ (a : Addr) (ns : List Int), vs = [.ref a] ∧ SqL K H a (ns.map V.int) ∧ H P1 = some (.tbl #[]) ∧ H P2 = some (.tbl #[]) ∧ ∀ H', Q (.bl true) H'
theorem blk_scLaw_0 : BlkOk ["_law_script", "_law_store_here", "_law_low", "_law_high", "_law_value", "_law_kind", "_law_ratios", "_law_driver", "_law_spot", "_law_told_here", "_law_k", "_law_pair", "_law_sign", "_law_ratio", "_law_driven"] (defScope sLaw) { kind := .function, names := [(".0", .local), ("_law_driven", .local), ("_law_lowest", .globalImplicit), ("_law_driver", .free)], isGenerator := false, isCoroutine := false, more := [] } [("_law_driven", 14)] := ⟨rfl, by decide +kernel, by decide +kernel, by decide +kernel, by decide +kernel⟩
theorem ok_law {fa P1 P2 : Addr} {fd : FuncData} (F : Fun K "law" "law" sLaw fa fd) (zU : mg "sum" = none) (T : Bt K mg) (d__law_store : Kn P w K mg base 1 "_law_store" ["_law_script"] (spStore K)) (d__law_teeth_bounds : Kn P w K mg base 4 "_law_teeth_bounds" ["_law_store_here", "_law_top"] (spTB K)) (d__law_positive_wide : Kn P w K mg base 5 "_law_positive_wide" ["_law_store_here"] (spPosF K 133)) (d__law_take : Kn P w K mg base 2 "_law_take" ["_law_store_here", "_law_many"] (spTake K)) (d__law_lowest : Kn P w K mg base 2 "_law_lowest" ["_law_top", "_law_bottom"] (spLowest K)) (d__law_ordered : Kn P w K mg base 4 "_law_ordered" ["_law_fracs"] (spOrd K (Tt P1 P2))) (d__law_times : Kn P w K mg base 3 "_law_times" ["_law_left", "_law_right"] (spBin K pro2)) (d__law_plus : Kn P w K mg base 3 "_law_plus" ["_law_left", "_law_right"] (spBin K sum2)) (d__law_range : Kn P w K mg base 3 "_law_range" ["_law_store_here", "_law_low", "_law_high"] (spRange K)) (d_teeth_pair : KnK2 P w K mg base 6 "teeth_pair" ["value", "least", "most"] ["least", "most"] (spTeeth K)) (d__law_alike : Kn P w K mg base 4 "_law_alike" ["_law_told_here", "_law_due_here"] (spAlike K 3)) (d__law_due : Kn P w K mg base 3 "_law_due" ["_law_value", "_law_low", "_law_high"] (spDueT K)) (d__law_farther : Kn P w K mg base 1 "_law_farther" ["_law_pair", "_law_other", "_law_value"] (spFar K)) (d__law_refused : Kn P w K mg base 9 "_law_refused" ["_law_store_here", "_law_value", "_law_low", "_law_high"] (spRfd K P1 P2)) : FnOk P w K mg base CX0 10 fa fd ["_law_script"] (spLaw K P1 P2) := by
  refine F.ok scLaw (fun vs H Q E h => ?_) (fun cdv A outer s H vs Q E hr h => ?_)
  · obtain ⟨a, ns, rfl, _⟩ := h
    rfl
  obtain ⟨sa, ns, rfl, hS, hP1, hP2, k⟩ := h
  refine ⟨_, (pss_cons (ps_set (i := 1) scLaw.nd rfl (.inl rfl) (pe_kn d__law_store hr (by rfl) (pa_cons (pv 0) pa_nil)))
      (pss_cons (ps_asg (pe_kn d__law_teeth_bounds hr (by rfl) (pa_cons (pv 1) (pa_cons pe_int pa_nil))) (pg_tp 2 (by rfl) (pgs_cons (pg_name (i := 2) scLaw.nd rfl (.inl rfl)) (pgs_cons (pg_name (i := 3) scLaw.nd rfl (.inl rfl)) pgs_nil))))
      (pss_cons (ps_set (i := 4) scLaw.nd rfl (.inl rfl) (pe_kn d__law_positive_wide hr (by rfl) (pa_cons (pv 1) pa_nil)))
      (pss_cons (ps_set (i := 5) scLaw.nd rfl (.inl rfl) (pe_kn d__law_take hr (by rfl) (pa_cons (pv 1) (pa_cons pe_int pa_nil))))
      (C8.pss_cut (ps_if (pt_cmpR op_lt (pv 5) pe_int (nomark _)) (pss_cons (ps_set (i := 3) scLaw.nd rfl (.inl rfl) (pe_callB (call_min2 rfl) (by rfl) T.b_min (by decide +kernel) (pa_cons (pv 3) (pa_cons (pe_op op_add (pv 2) pe_int) pa_nil))))
      (pss_cons (ps_set (i := 6) scLaw.nd rfl (.inl rfl) (pe_ls pa_nil))
      (pss_cons (ps_for PassesOwn.never rfl (pi_range2 (by rfl) T.b_range (pa_cons (pv 2) (pa_cons (pe_op op_add (pv 3) pe_int) pa_nil))) (pg_name (i := 7) scLaw.nd rfl (.inr rfl)) (pss_one (ps_set (i := 6) scLaw.nd rfl (.inl rfl) (pe_fr (pe_op op_cat (pv 6) (pe_fr (pe_lc (own := [("_law_driven", 14)]) (g := gName 14) (te := (tCall (spLowest K) [] E0 (tCons (tVar 7) (tCons (tVar 14) L2.tNil)))) rfl scLaw.nd (pi_range2 (by rfl) T.b_range (pa_cons (pv 2) (pa_cons (pe_op op_add (pv 3) pe_int) pa_nil))) blk_scLaw_0 (fun _ _ _ _ _ => by exact pg_name (i := 14) scLaw.nd rfl (.inl rfl)) (fun _ _ _ _ _ => pts_nil) (fun _ _ _ _ _ => by exact (pe_kn d__law_lowest hr (by rfl) (pa_cons (pv 7) (pa_cons (pv 14) pa_nil)))))))))))
      (pss_cons (ps_set (i := 6) scLaw.nd rfl (.inl rfl) (pe_kn d__law_ordered hr (by rfl) (pa_cons (pv 6) pa_nil)))
      (pss_cons (ps_set (i := 8) scLaw.nd rfl (.inl rfl) (pe_kn d__law_take hr (by rfl) (pa_cons (pv 1) (pa_cons (pe_callB call_lenA (by rfl) T.b_len PySem.boot_len (pa_cons (pv 6) pa_nil)) pa_nil))))
      (pss_cons (ps_set (i := 4) scLaw.nd rfl (.inl rfl) (pe_kn d__law_times hr (by rfl) (pa_cons (pe_tp (pa_cons pe_int (pa_cons pe_int pa_nil))) (pa_cons (pe_kn d__law_plus hr (by rfl) (pa_cons (pe_ix ix_any (pv 6) (pv 8) (fun _ _ => rfl)) (pa_cons (pe_ix ix_any (pv 6) (pe_callB (call_max2 rfl) (by rfl) T.b_max (by decide +kernel) (pa_cons pe_int (pa_cons (pe_op op_sub (pv 8) pe_int) pa_nil))) (fun _ _ => rfl)) pa_nil))) pa_nil))))
      (pss_one (ps_if (pt_cmpR op_eq (pv 5) pe_int (nomark _)) (pss_one (ps_set (i := 4) scLaw.nd rfl (.inl rfl) (pe_kn d__law_plus hr (by rfl) (pa_cons (pv 4) (pa_cons (pe_tp (pa_cons pe_int (pa_cons (pe_op op_pow pe_int pe_int) pa_nil))) pa_nil))))) pss_nil)))))))) (pss_one (ps_if (pt_cmpR op_eq (pv 5) pe_int (nomark _)) (pss_one (ps_set (i := 4) scLaw.nd rfl (.inl rfl) (pe_kn d__law_lowest hr (by rfl) (pa_cons (pe_op op_add pe_int (pe_kn d__law_take hr (by rfl) (pa_cons (pv 1) (pa_cons pe_int pa_nil)))) (pa_cons (pe_op op_add pe_int (pe_kn d__law_take hr (by rfl) (pa_cons (pv 1) (pa_cons pe_int pa_nil)))) pa_nil))))) (pss_one (ps_if (pt_cmpR op_lt (pv 5) pe_int (nomark _)) (pss_one (ps_set (i := 4) scLaw.nd rfl (.inl rfl) (pe_kn d__law_lowest hr (by rfl) (pa_cons (pe_kn d__law_range hr (by rfl) (pa_cons (pv 1) (pa_cons (pv 2) (pa_cons (pv 3) pa_nil)))) (pa_cons (pe_kn d__law_range hr (by rfl) (pa_cons (pv 1) (pa_cons (pv 2) (pa_cons (pv 3) pa_nil)))) pa_nil))))) pss_nil)))))
      (pss_cons (ps_set (i := 9) scLaw.nd rfl (.inl rfl) (pe_knK2 d_teeth_pair hr (by rfl) (pa_cons (pv 4) pa_nil) (pk_cons (pv 2) (pk_cons (pv 3) pk_nil))))
      (pss_cons (ps_if (pt_not (pt_val (pe_kn d__law_alike hr (by rfl) (pa_cons (pv 9) (pa_cons (pe_kn d__law_due hr (by rfl) (pa_cons (pv 4) (pa_cons (pv 2) (pa_cons (pv 3) pa_nil)))) pa_nil))))) (pss_one (ps_ret pe_bl)) pss_nil)
      (pss_cons (ps_for PassesOwn.never rfl (pi_range1 (by rfl) T.b_range (pa_cons pe_int pa_nil)) (pg_name (i := 10) scLaw.nd rfl (.inl rfl)) (pss_cons (ps_set (i := 11) scLaw.nd rfl (.inl rfl) (pe_tp (pa_cons (pe_kn d__law_range hr (by rfl) (pa_cons (pv 1) (pa_cons (pv 2) (pa_cons (pv 3) pa_nil)))) (pa_cons (pe_kn d__law_range hr (by rfl) (pa_cons (pv 1) (pa_cons (pv 2) (pa_cons (pv 3) pa_nil)))) pa_nil))))
      (pss_cons (ps_set (i := 12) scLaw.nd rfl (.inl rfl) (pe_kn d__law_farther hr (by rfl) (pa_cons (pv 11) (pa_cons (pv 9) (pa_cons (pv 4) pa_nil)))))
      (pss_one (ps_if (PW.pt (pw_or (pt_cmpR op_lt (pv 12) pe_int (nomark _)) (pw_or1 (PW.pt (pw_and (pt_cmpR op_eq (pv 12) pe_int (nomark _)) (pw_and (pt_cmpR (op_neF hr) (pv 11) (pv 9) (nomark _)) (pw_and1 (pt_cmpR op_le (pe_callB (cr_sumT rfl) (by rfl) zU (by decide +kernel) (pa_cons (pv 11) pa_nil)) (pe_callB (cr_sumT rfl) (by rfl) zU (by decide +kernel) (pa_cons (pv 9) pa_nil)) (nomark _))))))))) (pss_one (ps_ret pe_bl)) pss_nil)))))
      (pss_cons (ps_set (i := 13) scLaw.nd rfl (.inl rfl) (pe_kn d__law_lowest hr (by rfl) (pa_cons (pe_ix ix_any (pv 9) pe_int (fun _ _ => rfl)) (pa_cons (pe_ix ix_any (pv 9) pe_int (fun _ _ => rfl)) pa_nil))))
      (pss_cons (ps_if (pt_not (pt_val (pe_kn d__law_alike hr (by rfl) (pa_cons (pe_knK2 d_teeth_pair hr (by rfl) (pa_cons (pv 13) pa_nil) (pk_cons (pv 2) (pk_cons (pv 3) pk_nil))) (pa_cons (pe_kn d__law_due hr (by rfl) (pa_cons (pv 13) (pa_cons (pv 2) (pa_cons (pv 3) pa_nil)))) pa_nil))))) (pss_one (ps_ret pe_bl)) pss_nil)
      (pss_one (ps_ret (pe_and (pe_kn d__law_alike hr (by rfl) (pa_cons (pe_knK2 d_teeth_pair hr (by rfl) (pa_cons (pv 4) pa_nil) (pk_cons (pv 2) (pk_cons (pv 3) pk_nil))) (pa_cons (pv 9) pa_nil))) (pe_one (pe_kn d__law_refused hr (by rfl) (pa_cons (pv 1) (pa_cons (pv 4) (pa_cons (pv 2) (pa_cons (pv 3) pa_nil))))))))))))))))))), ?_⟩
  simp only [cx_K]
  have TBL : ∀ H1, Same H H1 → LamX.Tabs (Tt P1 P2) H1 := fun H1 s1 p hp => by
    simp only [Tt, List.mem_cons, List.not_mem_nil, or_false] at hp
    rcases hp with rfl | rfl
    · exact LamX.TabS.nil (s1 _ _ hP1)
    · exact LamX.TabS.nil (s1 _ _ hP2)
  refine ⟨_, rfl, sa, ns, rfl, hS, fun sr H1 s1 st1 => ?_⟩
  have LS1 : LawS K (Tt P1 P2) H1 sr := ⟨st1, TBL H1 s1⟩
  clear TBL hP1 hP2 hS s1
  refine ⟨_, rfl, sr, rfl, st1, fun c0 lo0 hi0 H2 l0 lh h2 kp2 st2 oc0 => ?_⟩
  have LS2 := LS1.kp kp2 st2
  refine ⟨c0, rfl, _, oc0, rfl, _, _, rfl, _, _, rfl, rfl, ?_⟩
  refine ⟨_, rfl, sr, rfl, st2, fun a0 v0 H3 f0 p0 kp3 st3 => ?_⟩
  have LS3 := LS2.kp kp3 st3
  refine ⟨_, rfl, sr, 10, rfl, st3, by decide, fun kd H4 k0 k1 kp4 st4 => ?_⟩
  obtain ⟨y3, hy3⟩ := st3.at
  have LS4 := LS3.kp kp4 st4
  have f0 := f0.kp kp4 hy3
  refine ⟨fun σ H' => ∃ (lo hi : Int) (a : Addr) (v : Qt) (x6 x7 x8 x14 : Option V), σ = [some (V.ref sa), some (.ref sr), some (.int lo), some (.int hi), some (.ref a), some (.int kd), x6, x7, x8, none, none, none, none, none, x14] ∧ 1 ≤ lo ∧ lo ≤ hi ∧ hi ≤ 200 ∧ Fq K H' 900 a v ∧ 0 < v.1 ∧ LawS K (Tt P1 P2) H' sr, ?_, ?_⟩
  · have low : ∀ (m1 m2 : Int) (H5 : Hp) (x6 x7 x8 x14 : Option V), 1 ≤ m1 → m1 ≤ 500 → 1 ≤ m2 → m2 ≤ 500 → LawS K (Tt P1 P2) H5 sr → spLowest K [.int m1, .int m2] H5 (fun x H6 => ∃ (lo hi : Int) (a : Addr) (v : Qt) (x6 x7 x8 x14 : Option V), ([some (V.ref sa), some (.ref sr), some (.int lo0), some (.int hi0), some x, some (.int kd), none, none, none, none, none, none, none, none, none] : L2.St) = [some (V.ref sa), some (.ref sr), some (.int lo), some (.int hi), some (.ref a), some (.int kd), x6, x7, x8, none, none, none, none, none, x14] ∧ 1 ≤ lo ∧ lo ≤ hi ∧ hi ≤ 200 ∧ Fq K H6 900 a v ∧ 0 < v.1 ∧ LawS K (Tt P1 P2) H6 sr) E0 := fun m1 m2 H5 _ _ _ _ a0 a1 b0 b1 LS5 => by
      have b8 : m2.natAbs < 2 ^ 8000 := by
        have : m2.natAbs < 2 ^ 9 := by omega
        exact Nat.lt_of_lt_of_le this (Nat.pow_le_pow_right (by decide) (by decide))
      refine ⟨m1, m2, rfl, b8, fun q hq d H6 s6 od => ?_⟩
      have hI : Is q m1 m2 := hq.2 (by omega)
      have sq : Sz 9 q := is_sz (by omega) hI (by omega) (by omega)
      exact ⟨lo0, hi0, d, q, none, none, none, none, rfl, l0, lh, h2, ⟨od, hI.1, sq.mono (by omega)⟩, is_pos hI (by omega) (by omega), LS5.same s6⟩
    refine ⟨_, rfl, _, _, rfl, rfl, _, rfl, ite2 (fun h => ?_) (fun h => ?_)⟩
    · obtain ⟨hm, ehm, m0, m5, m2⟩ : ∃ hm : Int, hm = (if lo0 + 5 < hi0 then lo0 + 5 else hi0) ∧ lo0 ≤ hm ∧ hm ≤ lo0 + 5 ∧ hm ≤ 200 := ⟨_, rfl, by split <;> omega, by split <;> omega, by split <;> omega⟩
      obtain ⟨N, hN⟩ : ∃ N : Nat, lo0 + (N : Int) = hm + 1 := ⟨(hm + 1 - lo0).toNat, by omega⟩
      refine ⟨_, rfl, _, rfl, _, _, rfl, rfl, hi0, lo0 + 5, rfl, ?_⟩
      rw [← ehm]
      refine ⟨sz2 (by show 0 ≤ 100; decide), fun l hl kl => ?_⟩
      have s5 := Same.new hl (.lst [])
      have el : upd H4 l (.lst []) l = some (.lst []) := upd_same
      have LS5 := LS4.same s5
      generalize upd H4 l (.lst []) = H5 at el LS5 ⊢
      refine ⟨_, rfl, _, rfl, _, _, rfl, rfl, lo0, hm + 1, rfl, ⟨by omega, by omega, by omega, by omega⟩, ?_⟩
      rw [show (hm + 1 - lo0).toNat = N by omega]
      refine forI_range (lo := lo0) (n := N) (fun i σ H' => ∃ (l : Addr) (xs : List V) (x7 x14 : Option V), σ = [some (V.ref sa), some (.ref sr), some (.int lo0), some (.int hm), some (.ref a0), some (.int kd), some (.ref l), x7, none, none, none, none, none, none, x14] ∧ H' l = some (.lst xs) ∧ K.lookup l = none ∧ xs.length = i * N ∧ (∀ x ∈ xs, Sm K H' x) ∧ LawS K (Tt P1 P2) H' sr) ⟨l, [], none, none, rfl, el, kl, by simp, (fun x hx => nomatch hx), LS5⟩ ?_ ?_
      · rintro i σ H6 hi' ⟨l, xs, x7, x14, rfl, el, kl, xl, hx, LS6⟩
        refine ⟨_, rfl, _, rfl, _, rfl, _, _, rfl, rfl, lo0, hm + 1, rfl, ⟨by omega, by omega, by omega, by omega⟩, fun D hD => ?_⟩
        rw [show (hm + 1 - lo0).toNat = N by omega]
        refine lc_range (lo := lo0) (n := N) (fun j H' => ∃ acc : List V, acc.length = j ∧ H' D = some (.lst acc) ∧ Same H6 H' ∧ ∀ x ∈ acc, Sm K H' x) ⟨[], rfl, upd_same, Same.new hD _, fun x hx => nomatch hx⟩ ?_ ?_
        · rintro j H7 hj ⟨acc, al, eD, s7, ha⟩
          refine ⟨rfl, ?_⟩
          simp only [tYes, if_true]
          have b8 : (lo0 + (j : Int)).natAbs < 2 ^ 8000 := by
            have : (lo0 + (j : Int)).natAbs < 2 ^ 9 := by omega
            exact Nat.lt_of_lt_of_le this (Nat.pow_le_pow_right (by decide) (by decide))
          refine ⟨_, rfl, _, rfl, lo0 + (i : Int), lo0 + (j : Int), rfl, b8, fun q hq d H8 s8 od => ?_⟩
          have hI : Is q (lo0 + (i : Int)) (lo0 + (j : Int)) := hq.2 (by omega)
          have le := is_le (by omega) hI
          have qp : 0 < q.1 := is_pos hI (by omega) (by omega)
          have eD8 := s8 _ _ eD
          refine ⟨acc, eD8, by rw [al, sizeLine_eq]; omega, acc ++ [.ref d], by rw [List.length_append, al]; rfl, upd_same, fun b o e => ?_, fun x hx => ?_⟩
          · rw [upd_ne (ne_of_none e hD)]
            exact s8 _ _ (s7 _ _ e)
          · rcases List.mem_append.mp hx with hx | hx
            · exact ((ha x hx).same s8).put eD8
            · have ex : x = .ref d := by simpa using hx
              subst ex
              have q2 := hI.1.1
              exact Sm.put ⟨d, q, rfl, od, hI.1, by omega, by omega, by omega⟩ eD8
        · rintro H7 ⟨acc, al, eD, s7, ha⟩ fr
          refine ⟨l, D, _, _, rfl, rfl, s7 _ _ el, eD, by rw [xl, al, sizeLine_eq]; have : i * N ≤ 6 * 6 := Nat.mul_le_mul (by omega) (by omega); omega, fun r hr' frr => ?_⟩
          have kr : K.lookup r = none := frr r (by rw [upd_same]; simp)
          have sR := Same.new hr' (.lst (xs ++ acc))
          refine ⟨r, xs ++ acc, _, _, rfl, upd_same, kr, by rw [List.length_append, xl, al, Nat.succ_mul], fun x hx' => ?_, (LS6.same s7).same sR⟩
          rcases List.mem_append.mp hx' with z | z
          · exact ((hx x z).same s7).same sR
          · exact (ha x z).same sR
      · rintro σ H6 ⟨l, xs, x7, x14, rfl, el, kl, xl, hx, LS6⟩
        have n36 : N * N ≤ 6 * 6 := Nat.mul_le_mul (by omega) (by omega)
        have n1 : 1 * 1 ≤ N * N := Nat.mul_le_mul (by omega) (by omega)
        refine ⟨_, rfl, l, xs, rfl, el, kl, by omega, by omega, hx, LS6.tb, fun r ys H7 e7 t7 hr0 kr er y1 y40 sub => ?_⟩
        have LS7 : LawS K (Tt P1 P2) H7 sr := ⟨LS6.st.ext e7, t7⟩
        have nr' : r ≠ sr := LS6.st.ne hr0
        have hy : ∀ y ∈ ys, Sm K H7 y := fun y hy => (hx y (sub y hy)).ext e7
        refine ⟨_, rfl, _, rfl, r, rfl, _, itsO_ofL ((ob_none kr).trans er), sr, _, rfl, LS7.st, by omega, fun sp H8 p0' p1' kp8 st8 => ?_⟩
        have LS8 := LS7.kp kp8 st8
        have er8 := kp8.at nr'.symm er
        obtain ⟨n1, rfl⟩ : ∃ n : Nat, sp = (n : Int) := ⟨sp.toNat, by omega⟩
        have n1l : n1 < ys.length := by omega
        obtain ⟨ya, hya⟩ : ∃ y, ys[n1]? = some y := ⟨_, List.getElem?_eq_getElem n1l⟩
        obtain ⟨i2, ei2, i2l⟩ : ∃ j : Nat, (if (n1 : Int) - 1 > 0 then (n1 : Int) - 1 else 0) = (j : Int) ∧ j < ys.length := by
          by_cases h0 : (n1 : Int) - 1 > 0
          · exact ⟨n1 - 1, by rw [if_pos h0]; omega, by omega⟩
          · exact ⟨0, by rw [if_neg h0]; rfl, by omega⟩
        obtain ⟨yb, hyb⟩ : ∃ y, ys[i2]? = some y := ⟨_, List.getElem?_eq_getElem i2l⟩
        obtain ⟨y7, hy7⟩ := LS7.st.at
        obtain ⟨aa, qa, rfl, fqa, pa⟩ := (hy ya (List.mem_of_getElem? hya)).fq
        obtain ⟨ab, qb, rfl, fqb, pb⟩ := (hy yb (List.mem_of_getElem? hyb)).fq
        have fqa := fqa.kp kp8 hy7
        have fqb := fqb.kp kp8 hy7
        clear LS1 LS2 LS3 LS4 LS5 LS6 LS7 e7 t7 kp8 hy7 st4 st8 hy sub er el
        refine ⟨sz2 (by show 2 ≤ 100; decide), fun u hu ku => ?_⟩
        have sU := Same.new hu (.tup [V.int 1, .int 2])
        have ou : ob K (upd H8 u (.tup [V.int 1, .int 2])) u = some (frt (1, 2)) := ob_new ku
        have fqa := fqa.same sU
        have fqb := fqb.same sU
        have LS9 := LS8.same sU
        have er9 := sU _ _ er8
        have or9 : ob K (upd H8 u (.tup [V.int 1, .int 2])) r = some (.lst ys) := (ob_none kr).trans er9
        generalize upd H8 u (.tup [V.int 1, .int 2]) = H9 at ou fqa fqb LS9 er9 or9 ⊢
        refine ⟨_, rfl, _, rfl, r, (n1 : Int), rfl, rfl, _, itsO_ofL or9, _, atI_nat hya, _, rfl, _, rfl, _, _, rfl, rfl, 0, (n1 : Int) - 1, rfl, r, (i2 : Int), rfl, congrArg V.int ei2, _, itsO_ofL or9, _, atI_nat hyb, ?_⟩
        refine ⟨aa, ab, qa, qb, rfl, fqa.mono (by omega), fqb.mono (by omega), fun z hz d Ha sa' od => ?_⟩
        have nz : Nf z := hz.1
        have szz : Sz 17 z := sum_sz hz fqa.nf fqb.nf fqa.sz fqb.sz (by omega)
        have pz : 0 < z.1 := by
          have h1 := fqa.nf.1
          have h2 := fqb.nf.1
          exact is_pos hz (Int.add_pos (Int.mul_pos (by omega) (by omega)) (Int.mul_pos (by omega) (by omega))) (Int.mul_pos (by omega) (by omega))
        have n12 : Nf (1, 2) := ⟨by decide, by decide⟩
        have s12 : Sz 2 (1, 2) := ⟨by decide, by decide⟩
        refine ⟨u, d, (1, 2), z, rfl, ⟨ob_same sa' ou, n12, s12.mono (by omega)⟩, ⟨od, nz, szz.mono (by omega)⟩, fun z2 hz2 d2 Hb sb od2 => ?_⟩
        have nz2 : Nf z2 := hz2.1
        have szz2 : Sz 20 z2 := pro_sz hz2 n12 nz s12 szz (by omega)
        have pz2 : 0 < z2.1 := is_pos hz2 (by show 0 < 1 * z.1; omega) (by have := nz.1; show 0 < 2 * z.2; omega)
        have LSb := (LS9.same sa').same sb
        refine ⟨_, rfl, rfl, _, rfl, ?_⟩
        by_cases hk0 : kd = 0
        · refine if_yes (decide_eq_true (congrArg V.int hk0)) ?_
          have c20 : CPow 10 20 := by unfold CPow; decide
          refine ⟨_, rfl, _, _, rfl, rfl, c20, sz2 (by show 2 ≤ 100; decide), fun u2 hu2 ku2 => ?_⟩
          have sV := Same.new hu2 (.tup [V.int 1, .int ((10 : Int) ^ (20 : Int).toNat)])
          have ov : ob K (upd Hb u2 (.tup [V.int 1, .int ((10 : Int) ^ (20 : Int).toNat)])) u2 = some (frt (1, (10 : Int) ^ (20 : Int).toNat)) := ob_new ku2
          have e20 : (10 : Int) ^ (20 : Int).toNat = 100000000000000000000 := by decide
          have nE : Nf (1, (10 : Int) ^ (20 : Int).toNat) := ⟨by rw [e20]; decide, by rw [e20]; decide⟩
          have sE : Sz 70 (1, (10 : Int) ^ (20 : Int).toNat) := ⟨by decide, by show ((10 : Int) ^ (20 : Int).toNat).natAbs < 2 ^ 70; rw [e20]; decide⟩
          have pE : 0 < (10 : Int) ^ (20 : Int).toNat := by rw [e20]; decide
          clear e20
          rw [show upd Hb u2 (HO.tup [V.int 1, (fun (i j : Int) => V.int (i ^ j.toNat)) 10 20]) = upd Hb u2 (HO.tup [V.int 1, V.int ((10 : Int) ^ (20 : Int).toNat)]) from rfl]
          generalize (10 : Int) ^ (20 : Int).toNat = D at sV ov nE sE pE ⊢
          have od2 := ob_same sV od2
          have LSc := LSb.same sV
          generalize upd Hb u2 (.tup [V.int 1, .int D]) = Hc at ov od2 LSc ⊢
          refine ⟨d2, u2, z2, (1, D), rfl, ⟨od2, nz2, szz2.mono (by omega)⟩, ⟨ov, nE, sE.mono (by omega)⟩, fun z3 hz3 d3 Hd sd od3 => ?_⟩
          have szz3 : Sz 100 z3 := sum_sz hz3 nz2 nE szz2 sE (by omega)
          have pz3 : 0 < z3.1 := is_pos hz3 (by
            have h2 := nz2.1
            exact Int.add_pos (Int.mul_pos pz2 pE) (Int.mul_pos (by show (0 : Int) < 1; decide) (by omega))) (by
            have h2 := nz2.1
            exact Int.mul_pos (by omega) pE)
          exact ⟨lo0, hm, d3, z3, _, _, _, _, rfl, l0, m0, m2, ⟨od3, hz3.1, szz3.mono (by omega)⟩, pz3, LSc.same sd⟩
        · refine if_no (decide_eq_false fun z => hk0 (V.int.inj z)) ?_
          exact ⟨lo0, hm, d2, z2, _, _, _, _, rfl, l0, m0, m2, ⟨od2, nz2, szz2.mono (by omega)⟩, pz2, LSb⟩
    refine ⟨_, rfl, rfl, _, rfl, ite2 (fun h' => ?_) (fun h' => ?_)⟩
    · refine ⟨_, rfl, sr, 400, rfl, st4, by decide, fun n1 H5 a0 a1 kp5 st5 => ⟨_, _, rfl, rfl, _, rfl, sr, 400, rfl, st5, by decide, fun n2 H6 b0 b1 kp6 st6 => ⟨_, _, rfl, rfl, ?_⟩⟩⟩
      exact low (1 + n1) (1 + n2) H6 none none none none (by omega) (by omega) (by omega) (by omega) ((LS4.kp kp5 st5).kp kp6 st6)
    refine ⟨_, rfl, _, _, rfl, rfl, _, rfl, ite2 (fun h8 => ?_) (fun h8 => ?_)⟩
    · refine ⟨_, rfl, _, rfl, _, rfl, sr, lo0, hi0, rfl, st4, by omega, by omega, fun n1 H5 a0 a1 _ kp5 st5 => ⟨_, rfl, _, rfl, _, rfl, sr, lo0, hi0, rfl, st5, by omega, by omega, fun n2 H6 b0 b1 _ kp6 st6 => ?_⟩⟩
      exact low n1 n2 H6 none none none none (by omega) (by omega) (by omega) (by omega) ((LS4.kp kp5 st5).kp kp6 st6)
    · exact ⟨lo0, hi0, a0, v0, none, none, none, none, rfl, l0, lh, h2, f0.mono (by omega), p0, LS4⟩
  rintro σ H5 ⟨lo, hi, a, v, x6, x7, x8, x14, rfl, l0, lh, h2, fa, p0, LS⟩
  clear LS1 LS2 LS3 LS4
  have v2 := fa.nf.1
  refine ⟨_, rfl, _, rfl, _, rfl, a, v, lo, hi, rfl, fa, p0, l0, lh, h2, fun c t H6 s6 oc ot => ?_⟩
  have fa6 := fa.same s6
  refine ⟨_, rfl, _, rfl, _, rfl, _, rfl, a, v, lo, hi, rfl, fa6, l0, lh, h2, fun c2 t2 H7 s7 oc2 ot2 => ?_⟩
  obtain rfl : t2 = t := opt_unique (by omega) p0 l0 ot ot2.1 (ot2.2 _ ot.1)
  have ps := ot2.1.s l0 h2
  refine ⟨_, _, rfl, (eqv_tup (ob_same s7 oc) oc2 rfl (by show 2 ≤ 20000; omega)).up, fun H8 s8 => ⟨_, rfl, if_no rfl ?_⟩⟩
  have s58 := (s6.trans s7).trans s8
  have LS8 := LS.same s58
  have fa8 := fa.same s58
  have oc8 := ob_same (s7.trans s8) oc
  clear s58 s8 s7 s6 LS fa fa6 oc oc2
  obtain ⟨y8, hy8⟩ := LS8.st.at
  refine ⟨_, rfl, by decide, by decide, ?_⟩
  refine forI_range (lo := 0) (n := 6) (fun i σ H' => ∃ x10 x11 x12, σ = [some (V.ref sa), some (.ref sr), some (.int lo), some (.int hi), some (.ref a), some (.int kd), x6, x7, x8, some (.ref c), x10, x11, x12, none, x14] ∧ Kp sr H8 H' ∧ LawS K (Tt P1 P2) H' sr) ⟨none, none, none, rfl, Kp.refl _ _, LS8⟩ ?_ ?_
  · rintro i σ H9 hi' ⟨x10, x11, x12, rfl, kp9, LS9⟩
    refine ⟨_, rfl, _, rfl, _, rfl, sr, lo, hi, rfl, LS9.st, by omega, by omega, fun r1 Ha a0 a1 _ kpa sta => ?_⟩
    refine ⟨_, rfl, _, rfl, _, rfl, sr, lo, hi, rfl, sta, by omega, by omega, fun r2 Hb b0 b1 _ kpb stb => ⟨sz2 (by show 2 ≤ 100; decide), fun u hu ku => ?_⟩⟩
    have LSb := (LS9.kp kpa sta).kp kpb stb
    have sU := Same.new hu (.tup [V.int r1, .int r2])
    have ou : ob K (upd Hb u (.tup [V.int r1, .int r2])) u = some (.tup [V.int (r1, r2).1, .int (r1, r2).2]) := ob_new ku
    have kpc := ((kp9.trans kpa).trans kpb).trans (Kp.same sU)
    have LSc := LSb.same sU
    generalize upd Hb u (.tup [V.int r1, .int r2]) = Hc at ou kpc LSc ⊢
    have oc := ob_kp2 kpc (tup_ne LS8.st oc8) oc8
    have fa := fa8.kp kpc hy8
    have pin : PairIn lo hi (r1, r2) := ⟨⟨a0, by show r1 ≤ hi; omega⟩, b0, by show r2 ≤ hi; omega⟩
    have le := ot2.2 _ pin
    generalize (r1, r2) = pr at ou pin le
    refine ⟨_, rfl, _, rfl, _, rfl, u, c, a, pr, t2, v, rfl, ou, pin.s l0 h2, oc, ps, fa.mono (by omega), ?_⟩
    have en := fsg_nr v pr t2
    rw [show nr v pr t2 = false from le] at en
    have e1 := Bool.or_eq_false_iff.mp en.symm
    have n1 : ¬ fsg v pr t2 < 0 := of_decide_eq_false e1.1
    refine ⟨_, rfl, _, _, rfl, rfl, _, rfl, if_no (decide_eq_false n1) ?_⟩
    by_cases h0 : fsg v pr t2 = 0
    · have n2 : ¬ pr.1 + pr.2 < t2.1 + t2.2 := by
        have e2 := e1.2
        rw [decide_eq_true h0, Bool.true_and] at e2
        exact of_decide_eq_false e2
      refine ⟨_, rfl, rfl, _, rfl, if_yes (decide_eq_true (congrArg V.int h0)) ?_⟩
      have n3 : pr ≠ t2 → ¬ pr.1 + pr.2 ≤ t2.1 + t2.2 := fun hq hs => hq (opt_unique (by omega) p0 l0 ot2 pin (le2_iff.mpr (by
        have h9 : dst v pr * t2.2 = dst v t2 * pr.2 := by
          unfold fsg at h0
          rcases Int.lt_trichotomy (dst v pr * t2.2) (dst v t2 * pr.2) with z | z | z
          · rw [if_neg (by omega), if_pos z] at h0
            omega
          · exact z
          · rw [if_pos z, if_neg (by omega)] at h0
            omega
        exact ⟨by omega, fun _ => hs⟩)))
      refine ⟨_, rfl, _, rfl, u, c, pr, t2, rfl, rfl, ou, oc, _, rfl, ?_⟩
      by_cases hq : pr = t2
      · exact if_no (by rw [decide_eq_true hq]; rfl) (if_no rfl ⟨_, _, _, rfl, kpc, LSc⟩)
      · refine if_yes (by rw [decide_eq_false hq]; rfl) ⟨_, rfl, u, [pr.1, pr.2], rfl, ob_tup ou, _, rfl, c, [t2.1, t2.2], rfl, ob_tup oc, _, _, rfl, rfl, _, rfl, if_no (decide_eq_false ?_) ⟨_, _, _, rfl, kpc, LSc⟩⟩
        intro z
        refine n3 hq ?_
        simpa using z
    · exact ⟨_, rfl, rfl, _, rfl, if_no (decide_eq_false (fun z => h0 (V.int.inj z))) (if_no rfl ⟨_, _, _, rfl, kpc, LSc⟩)⟩
  · rintro σ H9 ⟨x10, x11, x12, rfl, kp9, LS9⟩
    have oc := ob_kp2 kp9 (tup_ne LS8.st oc8) oc8
    have fa := fa8.kp kp9 hy8
    obtain ⟨⟨t10, t11⟩, t20, t21⟩ := id ps
    have b8 : t2.2.natAbs < 2 ^ 8000 := by
      have : t2.2.natAbs < 2 ^ 8 := by omega
      exact Nat.lt_of_lt_of_le this (Nat.pow_le_pow_right (by decide) (by decide))
    refine ⟨_, rfl, c, 0, rfl, rfl, _, itsO_of oc, _, atI_0 _ _, _, rfl, c, 1, rfl, rfl, _, itsO_of oc, _, atI_1 _ _ _, t2.1, t2.2, rfl, b8, fun q hq d H10 s10 od => ?_⟩
    have hI : Is q t2.1 t2.2 := hq.2 (by omega)
    have sq : Sz 8 q := is_sz (by omega) hI (by omega) (by omega)
    have q0 : 0 < q.1 := is_pos hI (by omega) (by omega)
    have fd : Fq K H10 900 d q := ⟨od, hI.1, sq.mono (by omega)⟩
    refine ⟨_, rfl, _, rfl, _, rfl, d, q, lo, hi, rfl, fd, q0, l0, lh, h2, fun e1 s1 H11 s11 oe1 ot1 => ?_⟩
    refine ⟨_, rfl, _, rfl, _, rfl, d, q, lo, hi, rfl, fd.same s11, l0, lh, h2, fun e2 s2 H12 s12 oe2 ot3 => ?_⟩
    obtain rfl : s2 = s1 := opt_unique (by have := hI.1.1; omega) q0 l0 ot1 ot3.1 (ot3.2 _ ot1.1)
    refine ⟨_, _, rfl, (eqv_tup (ob_same s12 oe1) oe2 rfl (by show 2 ≤ 20000; omega)).up, fun H13 s13 => ⟨_, rfl, if_no rfl ?_⟩⟩
    have s913 := s10.trans (s11.trans (s12.trans s13))
    have fa := fa.same s913
    have oc := ob_same s913 oc
    have LS := LS9.same s913
    refine ⟨_, rfl, _, rfl, _, rfl, a, v, lo, hi, rfl, fa, p0, l0, lh, h2, fun e3 s3 H14 s14 oe3 ot4 => ?_⟩
    obtain rfl : s3 = t2 := opt_unique (by omega) p0 l0 ot2 ot4.1 (ot4.2 _ ot2.1)
    refine ⟨_, rfl, _, _, rfl, (eqv_tup oe3 (ob_same s14 oc) rfl (by show 2 ≤ 20000; omega)).up, fun H15 s15 => ⟨_, rfl, if_yes rfl ?_⟩⟩
    have s1315 := s14.trans s15
    exact ⟨_, rfl, _, rfl, _, rfl, _, rfl, sr, a, v, lo, hi, rfl, LS.same s1315, fa.same s1315, p0, l0, lh, h2, fun H16 => k H16⟩
end
end My

namespace My
open PySem PySem.Spec PyProof.Rows L2
/-! ### the end: what the top has written -/
theorem dfn_mk {K : PySem.W.Frag} {h : Heap} {mg : Str → Option Value} {x : Str} {st : Stmt} {ps : List Str} {f : Addr} {oc kV doc pm cd ct : Value} {od an : Option Addr} {sl : Array (Option Value)} (X : K.In h) (G : h.Ns mainGlobals mg)
    (a : PySem.W.nsIn K mainGlobals x = some (some (.ref f))) (l : K.lookup f = some ⟨oc, od, .func (PySem.W.fnOf x x (defArgs st) (defBody st) (defScope st) .none kV doc pm an cd ct), sl⟩) (c : PySem.W.codeIn K cd x = true) (k : PySem.W.keepIn K (.ref f) = true)
    (hb : ∀ (kV doc pm : Value) (an : Option Addr) (cdv ct : Value) (us : List Value), us.length = ps.length → bindArgs (PySem.W.fnOf x x (defArgs st) (defBody st) (defScope st) .none kV doc pm an cdv ct) ⟨us, []⟩ = pure (ps.zip us)) : Dfn K mg x st ps :=
  ⟨f, _, fun_mk l c k, PySem.W.mg_of X G a, (fun_mk l c k).binds hb⟩
theorem all_mk {P : Program} {w : World} {K : PySem.W.Frag} {h : Heap} {mg : Str → Option Value} {fa : Addr} (X : K.In h) (G : h.Ns mainGlobals mg) (hfa : mg "law" = some (.ref fa)) {C S fI : Addr} {nm qn : Str} {N0 : Addr} {bs bm : List Value} {sn : List Str} {sub : List Value} {ab : Bool} {col : Option Bool} {dd : Option Addr} {m0 m1 m2 m3 m5 : Option Value} {ocI kVI dcI pmI cdI ctI : Value} {odI anI : Option Addr} {slI : Array (Option Value)} {C_Mismatch : Addr} {C_Still : Addr} {C_Endless : Addr} {C_TooMany : Addr} {C_NoName : Addr} {C_Taken : Addr} {C_Locked : Addr} {C_Looped : Addr} {C_Broken : Addr} {C_ReadError : Addr} {f_A : Addr} {oc_A kV_A dc_A pm_A cd_A ct_A : Value} {od_A an_A : Option Addr} {sl_A : Array (Option Value)} {f_R1 c_R1 : Addr} {oc_R1 kV_R1 dc_R1 pm_R1 ct_R1 : Value} {od_R1 an_R1 : Option Addr} {sl_R1 : Array (Option Value)} {f_R2 c_R2 : Addr} {oc_R2 kV_R2 dc_R2 pm_R2 ct_R2 : Value} {od_R2 an_R2 : Option Addr} {sl_R2 : Array (Option Value)} {fL : Addr} {ocL kVL dcL pmL cdvL ctL : Value} {odL anL : Option Addr} {slL : Array (Option Value)} {f0Store : Addr} {oc0Store kV0Store dc0Store pm0Store cd0Store ct0Store : Value} {od0Store an0Store : Option Addr} {sl0Store : Array (Option Value)} {f0TB : Addr} {oc0TB kV0TB dc0TB pm0TB cd0TB ct0TB : Value} {od0TB an0TB : Option Addr} {sl0TB : Array (Option Value)} {f0Take : Addr} {oc0Take kV0Take dc0Take pm0Take cd0Take ct0Take : Value} {od0Take an0Take : Option Addr} {sl0Take : Array (Option Value)} {f0Mixed : Addr} {oc0Mixed kV0Mixed dc0Mixed pm0Mixed cd0Mixed ct0Mixed : Value} {od0Mixed an0Mixed : Option Addr} {sl0Mixed : Array (Option Value)} {f0Range : Addr} {oc0Range kV0Range dc0Range pm0Range cd0Range ct0Range : Value} {od0Range an0Range : Option Addr} {sl0Range : Array (Option Value)} {f0PosW : Addr} {oc0PosW kV0PosW dc0PosW pm0PosW cd0PosW ct0PosW : Value} {od0PosW an0PosW : Option Addr} {sl0PosW : Array (Option Value)} {f0DFracW : Addr} {oc0DFracW kV0DFracW dc0DFracW pm0DFracW cd0DFracW ct0DFracW : Value} {od0DFracW an0DFracW : Option Addr} {sl0DFracW : Array (Option Value)} {f0Lowest : Addr} {oc0Lowest kV0Lowest dc0Lowest pm0Lowest cd0Lowest ct0Lowest : Value} {od0Lowest an0Lowest : Option Addr} {sl0Lowest : Array (Option Value)} {f0Gcd : Addr} {oc0Gcd kV0Gcd dc0Gcd pm0Gcd cd0Gcd ct0Gcd : Value} {od0Gcd an0Gcd : Option Addr} {sl0Gcd : Array (Option Value)} {f0Great : Addr} {oc0Great kV0Great dc0Great pm0Great cd0Great ct0Great : Value} {od0Great an0Great : Option Addr} {sl0Great : Array (Option Value)} {f0LInt : Addr} {oc0LInt kV0LInt dc0LInt pm0LInt cd0LInt ct0LInt : Value} {od0LInt an0LInt : Option Addr} {sl0LInt : Array (Option Value)} {f0DFrac : Addr} {oc0DFrac kV0DFrac dc0DFrac pm0DFrac cd0DFrac ct0DFrac : Value} {od0DFrac an0DFrac : Option Addr} {sl0DFrac : Array (Option Value)} {f0Scl : Addr} {oc0Scl kV0Scl dc0Scl pm0Scl cd0Scl ct0Scl : Value} {od0Scl an0Scl : Option Addr} {sl0Scl : Array (Option Value)} {f0LTimes : Addr} {oc0LTimes kV0LTimes dc0LTimes pm0LTimes cd0LTimes ct0LTimes : Value} {od0LTimes an0LTimes : Option Addr} {sl0LTimes : Array (Option Value)} {f0LPlus : Addr} {oc0LPlus kV0LPlus dc0LPlus pm0LPlus cd0LPlus ct0LPlus : Value} {od0LPlus an0LPlus : Option Addr} {sl0LPlus : Array (Option Value)} {tkMOST_PAIR_TEETH : Tok} {t0Fraction : Addr} {ocT0Fraction : Value} {odT0Fraction : Option Addr} {slT0Fraction : Array (Option Value)} {tk0Fraction : Tok} {nT0Fraction : Nat} {f0Fraction : Addr} {oc0Fraction kV0Fraction dc0Fraction pm0Fraction cd0Fraction ct0Fraction : Value} {od0Fraction an0Fraction : Option Addr} {sl0Fraction : Array (Option Value)} {f0Require : Addr} {oc0Require kV0Require dc0Require pm0Require cd0Require ct0Require : Value} {od0Require an0Require : Option Addr} {sl0Require : Array (Option Value)} {f0Whole : Addr} {oc0Whole kV0Whole dc0Whole pm0Whole cd0Whole ct0Whole : Value} {od0Whole an0Whole : Option Addr} {sl0Whole : Array (Option Value)} {f0Teeth : Addr} {oc0Teeth kV0Teeth dc0Teeth pm0Teeth cd0Teeth ct0Teeth : Value} {od0Teeth an0Teeth : Option Addr} {sl0Teeth : Array (Option Value)} {f0Posi : Addr} {oc0Posi kV0Posi dc0Posi pm0Posi cd0Posi ct0Posi : Value} {od0Posi an0Posi : Option Addr} {sl0Posi : Array (Option Value)} {f0IsFraction : Addr} {oc0IsFraction kV0IsFraction dc0IsFraction pm0IsFraction cd0IsFraction ct0IsFraction : Value} {od0IsFraction an0IsFraction : Option Addr} {sl0IsFraction : Array (Option Value)} {f0Within : Addr} {oc0Within kV0Within dc0Within pm0Within cd0Within ct0Within : Value} {od0Within an0Within : Option Addr} {sl0Within : Array (Option Value)} {f0WholeU : Addr} {oc0WholeU kV0WholeU dc0WholeU pm0WholeU cd0WholeU ct0WholeU : Value} {od0WholeU an0WholeU : Option Addr} {sl0WholeU : Array (Option Value)} {f0Emp : Addr} {oc0Emp kV0Emp dc0Emp pm0Emp cd0Emp ct0Emp : Value} {od0Emp an0Emp : Option Addr} {sl0Emp : Array (Option Value)} {f0Floor : Addr} {oc0Floor kV0Floor dc0Floor pm0Floor cd0Floor ct0Floor : Value} {od0Floor an0Floor : Option Addr} {sl0Floor : Array (Option Value)} {f0Times : Addr} {oc0Times kV0Times dc0Times pm0Times cd0Times ct0Times : Value} {od0Times an0Times : Option Addr} {sl0Times : Array (Option Value)} {f0Clp : Addr} {oc0Clp kV0Clp dc0Clp pm0Clp cd0Clp ct0Clp : Value} {od0Clp an0Clp : Option Addr} {sl0Clp : Array (Option Value)} {f0Nearer : Addr} {oc0Nearer kV0Nearer dc0Nearer pm0Nearer cd0Nearer ct0Nearer : Value} {od0Nearer an0Nearer : Option Addr} {sl0Nearer : Array (Option Value)} {f0Compare : Addr} {oc0Compare kV0Compare dc0Compare pm0Compare cd0Compare ct0Compare : Value} {od0Compare an0Compare : Option Addr} {sl0Compare : Array (Option Value)} {f0Off : Addr} {oc0Off kV0Off dc0Off pm0Off cd0Off ct0Off : Value} {od0Off an0Off : Option Addr} {sl0Off : Array (Option Value)} {f0Magn : Addr} {oc0Magn kV0Magn dc0Magn pm0Magn cd0Magn ct0Magn : Value} {od0Magn an0Magn : Option Addr} {sl0Magn : Array (Option Value)} {f0Minus : Addr} {oc0Minus kV0Minus dc0Minus pm0Minus cd0Minus ct0Minus : Value} {od0Minus an0Minus : Option Addr} {sl0Minus : Array (Option Value)} {f0Alike : Addr} {oc0Alike kV0Alike dc0Alike pm0Alike cd0Alike ct0Alike : Value} {od0Alike an0Alike : Option Addr} {sl0Alike : Array (Option Value)} {f0DueT : Addr} {oc0DueT kV0DueT dc0DueT pm0DueT cd0DueT ct0DueT : Value} {od0DueT an0DueT : Option Addr} {sl0DueT : Array (Option Value)} {f0Far : Addr} {oc0Far kV0Far dc0Far pm0Far cd0Far ct0Far : Value} {od0Far an0Far : Option Addr} {sl0Far : Array (Option Value)} {f0Pick : Addr} {oc0Pick kV0Pick dc0Pick pm0Pick cd0Pick ct0Pick : Value} {od0Pick an0Pick : Option Addr} {sl0Pick : Array (Option Value)} {f0Turned : Addr} {oc0Turned kV0Turned dc0Turned pm0Turned cd0Turned ct0Turned : Value} {od0Turned an0Turned : Option Addr} {sl0Turned : Array (Option Value)} {f0BPos : Addr} {oc0BPos kV0BPos dc0BPos pm0BPos cd0BPos ct0BPos : Value} {od0BPos an0BPos : Option Addr} {sl0BPos : Array (Option Value)} {f0BadFrac : Addr} {oc0BadFrac kV0BadFrac dc0BadFrac pm0BadFrac cd0BadFrac ct0BadFrac : Value} {od0BadFrac an0BadFrac : Option Addr} {sl0BadFrac : Array (Option Value)} {f0LMinus : Addr} {oc0LMinus kV0LMinus dc0LMinus pm0LMinus cd0LMinus ct0LMinus : Value} {od0LMinus an0LMinus : Option Addr} {sl0LMinus : Array (Option Value)} {f0DPos : Addr} {oc0DPos kV0DPos dc0DPos pm0DPos cd0DPos ct0DPos : Value} {od0DPos an0DPos : Option Addr} {sl0DPos : Array (Option Value)}
    (z_int : PySem.W.nsIn K mainGlobals "int" = some none)
    (z_len : PySem.W.nsIn K mainGlobals "len" = some none)
    (z_list : PySem.W.nsIn K mainGlobals "list" = some none)
    (z_abs : PySem.W.nsIn K mainGlobals "abs" = some none)
    (z_range : PySem.W.nsIn K mainGlobals "range" = some none)
    (z_min : PySem.W.nsIn K mainGlobals "min" = some none)
    (z_max : PySem.W.nsIn K mainGlobals "max" = some none)
    (z_isinstance : PySem.W.nsIn K mainGlobals "isinstance" = some none)
    (z_bool : PySem.W.nsIn K mainGlobals "bool" = some none)
    (z_str : PySem.W.nsIn K mainGlobals "str" = some none)
    (z_dict : PySem.W.nsIn K mainGlobals "dict" = some none)
    (z_tuple : PySem.W.nsIn K mainGlobals "tuple" = some none)
    (z_gcd : PySem.W.nsIn K mainGlobals "gcd" = some (some (.builtin "math.gcd")))
    (z_VE : PySem.W.nsIn K mainGlobals "ValueError" = some none)
    (aC : PySem.W.nsIn K mainGlobals "BadValue" = some (some (.ref C)))
    (aS : PySem.W.nsIn K mainGlobals "SkyError" = some (some (.ref S)))
    (xL : K.lookup C = some (excClassObj nm qn C N0 bs bm true sn sub ab col dd m0 m1 m2 m3 m5 "ValueError.__new__"))
    (hbm : PySem.HandSPX.refsVE bm = true)
    (sa : PySem.W.findIn K (.ref C) "__setattr__" = some (some (.builtin "object.__setattr__")))
    (ga : PySem.W.findIn K (.ref C) "__getattribute__" = some (some (.builtin "BaseException.__getattribute__")))
    (gg : PySem.W.findIn K (.ref C) "__getattr__" = some none)
    (gc : PySem.W.findIn K (.ref C) "__class__" = some (some (.builtin "object.__class__")))
    (nw : PySem.W.findIn K (.ref C) "what" = some none)
    (aI : PySem.W.findIn K (.ref C) "__init__" = some (some (.ref fI)))
    (tI : PySem.W.typeIn K (.ref fI) = some (.type "function"))
    (lI : K.lookup fI = some ⟨ocI, odI, .func (PySem.W.fnOf "__init__" "BadValue.__init__" (defArgs sInitB) (defBody sInitB) (defScope sInitB) .none kVI dcI pmI anI cdI ctI), slI⟩)
    (cI : PySem.W.codeIn K cdI "BadValue.__init__" = true)
    (kI : PySem.W.keepIn K (.ref fI) = true)
    (kC : PySem.W.keepIn K (.ref C) = true)
    (eC : PySem.W.subIn K (.ref C) (.type "BaseException") = some true)
    (tC : PySem.W.typeIn K (.ref C) = some (.type "type"))
    (hC : PySem.W.hasDictIn K C = true)
    (mC : PySem.W.mroIn K C (.type "object") = some true)
    (vC : PySem.W.subIn K (.ref C) (.type "ValueError") = some true)
    (spc : PySem.W.specialIn K (.builtin "object.__class__") "__get__" = some (some (.builtin "getset_descriptor.__get__")))
    (tkc : PySem.W.takesIn K (.builtin "object.__class__") = some true)
    (eS : PySem.W.subIn K (.ref S) (.type "BaseException") = some true)
    (hS : PySem.W.hasDictIn K S = true)
    (tS : PySem.W.typeIn K (.ref S) = some (.type "type"))
    (cS : PySem.W.subIn K (.ref C) (.ref S) = some true)
    (a_Mismatch : PySem.W.nsIn K mainGlobals "Mismatch" = some (some (.ref C_Mismatch)))
    (t_Mismatch : PySem.W.typeIn K (.ref C_Mismatch) = some (.type "type"))
    (h_Mismatch : PySem.W.hasDictIn K C_Mismatch = true)
    (s_Mismatch : PySem.W.subIn K (.ref C) (.ref C_Mismatch) = some false)
    (n_Mismatch : (Value.ref C == Value.ref C_Mismatch) = false)
    (a_Still : PySem.W.nsIn K mainGlobals "Still" = some (some (.ref C_Still)))
    (t_Still : PySem.W.typeIn K (.ref C_Still) = some (.type "type"))
    (h_Still : PySem.W.hasDictIn K C_Still = true)
    (s_Still : PySem.W.subIn K (.ref C) (.ref C_Still) = some false)
    (n_Still : (Value.ref C == Value.ref C_Still) = false)
    (a_Endless : PySem.W.nsIn K mainGlobals "Endless" = some (some (.ref C_Endless)))
    (t_Endless : PySem.W.typeIn K (.ref C_Endless) = some (.type "type"))
    (h_Endless : PySem.W.hasDictIn K C_Endless = true)
    (s_Endless : PySem.W.subIn K (.ref C) (.ref C_Endless) = some false)
    (n_Endless : (Value.ref C == Value.ref C_Endless) = false)
    (a_TooMany : PySem.W.nsIn K mainGlobals "TooMany" = some (some (.ref C_TooMany)))
    (t_TooMany : PySem.W.typeIn K (.ref C_TooMany) = some (.type "type"))
    (h_TooMany : PySem.W.hasDictIn K C_TooMany = true)
    (s_TooMany : PySem.W.subIn K (.ref C) (.ref C_TooMany) = some false)
    (n_TooMany : (Value.ref C == Value.ref C_TooMany) = false)
    (a_NoName : PySem.W.nsIn K mainGlobals "NoName" = some (some (.ref C_NoName)))
    (t_NoName : PySem.W.typeIn K (.ref C_NoName) = some (.type "type"))
    (h_NoName : PySem.W.hasDictIn K C_NoName = true)
    (s_NoName : PySem.W.subIn K (.ref C) (.ref C_NoName) = some false)
    (n_NoName : (Value.ref C == Value.ref C_NoName) = false)
    (a_Taken : PySem.W.nsIn K mainGlobals "Taken" = some (some (.ref C_Taken)))
    (t_Taken : PySem.W.typeIn K (.ref C_Taken) = some (.type "type"))
    (h_Taken : PySem.W.hasDictIn K C_Taken = true)
    (s_Taken : PySem.W.subIn K (.ref C) (.ref C_Taken) = some false)
    (n_Taken : (Value.ref C == Value.ref C_Taken) = false)
    (a_Locked : PySem.W.nsIn K mainGlobals "Locked" = some (some (.ref C_Locked)))
    (t_Locked : PySem.W.typeIn K (.ref C_Locked) = some (.type "type"))
    (h_Locked : PySem.W.hasDictIn K C_Locked = true)
    (s_Locked : PySem.W.subIn K (.ref C) (.ref C_Locked) = some false)
    (n_Locked : (Value.ref C == Value.ref C_Locked) = false)
    (a_Looped : PySem.W.nsIn K mainGlobals "Looped" = some (some (.ref C_Looped)))
    (t_Looped : PySem.W.typeIn K (.ref C_Looped) = some (.type "type"))
    (h_Looped : PySem.W.hasDictIn K C_Looped = true)
    (s_Looped : PySem.W.subIn K (.ref C) (.ref C_Looped) = some false)
    (n_Looped : (Value.ref C == Value.ref C_Looped) = false)
    (a_Broken : PySem.W.nsIn K mainGlobals "Broken" = some (some (.ref C_Broken)))
    (t_Broken : PySem.W.typeIn K (.ref C_Broken) = some (.type "type"))
    (h_Broken : PySem.W.hasDictIn K C_Broken = true)
    (s_Broken : PySem.W.subIn K (.ref C) (.ref C_Broken) = some false)
    (n_Broken : (Value.ref C == Value.ref C_Broken) = false)
    (a_ReadError : PySem.W.nsIn K mainGlobals "ReadError" = some (some (.ref C_ReadError)))
    (t_ReadError : PySem.W.typeIn K (.ref C_ReadError) = some (.type "type"))
    (h_ReadError : PySem.W.hasDictIn K C_ReadError = true)
    (s_ReadError : PySem.W.subIn K (.ref C) (.ref C_ReadError) = some false)
    (n_ReadError : (Value.ref C == Value.ref C_ReadError) = false)
    (a_A : PySem.W.nsIn K mainGlobals "_law_told" = some (some (.ref f_A)))
    (l_A : K.lookup f_A = some ⟨oc_A, od_A, .func (PySem.W.fnOf "_law_told" "_law_told" (defArgs sTold) (defBody sTold) (defScope sTold) .none kV_A dc_A pm_A an_A cd_A ct_A), sl_A⟩)
    (c_A : PySem.W.codeIn K cd_A "_law_told" = true)
    (k_A : PySem.W.keepIn K (.ref f_A) = true)
    (a_R1 : PySem.W.nsIn K mainGlobals "_law_ordered" = some (some (.ref f_R1)))
    (l_R1 : K.lookup f_R1 = some ⟨oc_R1, od_R1, .func (PySem.W.fnOf "_law_ordered" "_law_ordered" (defArgs sOrd) (defBody sOrd) (defScope sOrd) .none kV_R1 dc_R1 pm_R1 an_R1 (.ref c_R1) ct_R1), sl_R1⟩)
    (cd_R1 : PySem.W.codeIn K (.ref c_R1) "_law_ordered" = true)
    (k_R1 : PySem.W.keepIn K (.ref f_R1) = true)
    (a_R2 : PySem.W.nsIn K mainGlobals "_law_refused" = some (some (.ref f_R2)))
    (l_R2 : K.lookup f_R2 = some ⟨oc_R2, od_R2, .func (PySem.W.fnOf "_law_refused" "_law_refused" (defArgs sRfd) (defBody sRfd) (defScope sRfd) .none kV_R2 dc_R2 pm_R2 an_R2 (.ref c_R2) ct_R2), sl_R2⟩)
    (cd_R2 : PySem.W.codeIn K (.ref c_R2) "_law_refused" = true)
    (k_R2 : PySem.W.keepIn K (.ref f_R2) = true)
    (aL : PySem.W.nsIn K mainGlobals "law" = some (some (.ref fL)))
    (lL : K.lookup fL = some ⟨ocL, odL, .func (PySem.W.fnOf "law" "law" (defArgs sLaw) (defBody sLaw) (defScope sLaw) .none kVL dcL pmL anL cdvL ctL), slL⟩)
    (cL : PySem.W.codeIn K cdvL "law" = true)
    (kL : PySem.W.keepIn K (.ref fL) = true)
    (z_sum : PySem.W.nsIn K mainGlobals "sum" = some none)
    (a0Store : PySem.W.nsIn K mainGlobals "_law_store" = some (some (.ref f0Store)))
    (l0Store : K.lookup f0Store = some ⟨oc0Store, od0Store, .func (PySem.W.fnOf "_law_store" "_law_store" (defArgs sStore) (defBody sStore) (defScope sStore) .none kV0Store dc0Store pm0Store an0Store cd0Store ct0Store), sl0Store⟩)
    (c0Store : PySem.W.codeIn K cd0Store "_law_store" = true)
    (k0Store : PySem.W.keepIn K (.ref f0Store) = true)
    (a0TB : PySem.W.nsIn K mainGlobals "_law_teeth_bounds" = some (some (.ref f0TB)))
    (l0TB : K.lookup f0TB = some ⟨oc0TB, od0TB, .func (PySem.W.fnOf "_law_teeth_bounds" "_law_teeth_bounds" (defArgs sTB) (defBody sTB) (defScope sTB) .none kV0TB dc0TB pm0TB an0TB cd0TB ct0TB), sl0TB⟩)
    (c0TB : PySem.W.codeIn K cd0TB "_law_teeth_bounds" = true)
    (k0TB : PySem.W.keepIn K (.ref f0TB) = true)
    (a0Take : PySem.W.nsIn K mainGlobals "_law_take" = some (some (.ref f0Take)))
    (l0Take : K.lookup f0Take = some ⟨oc0Take, od0Take, .func (PySem.W.fnOf "_law_take" "_law_take" (defArgs sTake) (defBody sTake) (defScope sTake) .none kV0Take dc0Take pm0Take an0Take cd0Take ct0Take), sl0Take⟩)
    (c0Take : PySem.W.codeIn K cd0Take "_law_take" = true)
    (k0Take : PySem.W.keepIn K (.ref f0Take) = true)
    (a0Mixed : PySem.W.nsIn K mainGlobals "_law_mixed" = some (some (.ref f0Mixed)))
    (l0Mixed : K.lookup f0Mixed = some ⟨oc0Mixed, od0Mixed, .func (PySem.W.fnOf "_law_mixed" "_law_mixed" (defArgs sMixed) (defBody sMixed) (defScope sMixed) .none kV0Mixed dc0Mixed pm0Mixed an0Mixed cd0Mixed ct0Mixed), sl0Mixed⟩)
    (c0Mixed : PySem.W.codeIn K cd0Mixed "_law_mixed" = true)
    (k0Mixed : PySem.W.keepIn K (.ref f0Mixed) = true)
    (a0Range : PySem.W.nsIn K mainGlobals "_law_range" = some (some (.ref f0Range)))
    (l0Range : K.lookup f0Range = some ⟨oc0Range, od0Range, .func (PySem.W.fnOf "_law_range" "_law_range" (defArgs sRange) (defBody sRange) (defScope sRange) .none kV0Range dc0Range pm0Range an0Range cd0Range ct0Range), sl0Range⟩)
    (c0Range : PySem.W.codeIn K cd0Range "_law_range" = true)
    (k0Range : PySem.W.keepIn K (.ref f0Range) = true)
    (a0PosW : PySem.W.nsIn K mainGlobals "_law_positive_wide" = some (some (.ref f0PosW)))
    (l0PosW : K.lookup f0PosW = some ⟨oc0PosW, od0PosW, .func (PySem.W.fnOf "_law_positive_wide" "_law_positive_wide" (defArgs sPosW) (defBody sPosW) (defScope sPosW) .none kV0PosW dc0PosW pm0PosW an0PosW cd0PosW ct0PosW), sl0PosW⟩)
    (c0PosW : PySem.W.codeIn K cd0PosW "_law_positive_wide" = true)
    (k0PosW : PySem.W.keepIn K (.ref f0PosW) = true)
    (a0DFracW : PySem.W.nsIn K mainGlobals "_law_frac_wide" = some (some (.ref f0DFracW)))
    (l0DFracW : K.lookup f0DFracW = some ⟨oc0DFracW, od0DFracW, .func (PySem.W.fnOf "_law_frac_wide" "_law_frac_wide" (defArgs sDFracW) (defBody sDFracW) (defScope sDFracW) .none kV0DFracW dc0DFracW pm0DFracW an0DFracW cd0DFracW ct0DFracW), sl0DFracW⟩)
    (c0DFracW : PySem.W.codeIn K cd0DFracW "_law_frac_wide" = true)
    (k0DFracW : PySem.W.keepIn K (.ref f0DFracW) = true)
    (a0Lowest : PySem.W.nsIn K mainGlobals "_law_lowest" = some (some (.ref f0Lowest)))
    (l0Lowest : K.lookup f0Lowest = some ⟨oc0Lowest, od0Lowest, .func (PySem.W.fnOf "_law_lowest" "_law_lowest" (defArgs sLowest) (defBody sLowest) (defScope sLowest) .none kV0Lowest dc0Lowest pm0Lowest an0Lowest cd0Lowest ct0Lowest), sl0Lowest⟩)
    (c0Lowest : PySem.W.codeIn K cd0Lowest "_law_lowest" = true)
    (k0Lowest : PySem.W.keepIn K (.ref f0Lowest) = true)
    (a0Gcd : PySem.W.nsIn K mainGlobals "_law_gcd" = some (some (.ref f0Gcd)))
    (l0Gcd : K.lookup f0Gcd = some ⟨oc0Gcd, od0Gcd, .func (PySem.W.fnOf "_law_gcd" "_law_gcd" (defArgs sGcd) (defBody sGcd) (defScope sGcd) .none kV0Gcd dc0Gcd pm0Gcd an0Gcd cd0Gcd ct0Gcd), sl0Gcd⟩)
    (c0Gcd : PySem.W.codeIn K cd0Gcd "_law_gcd" = true)
    (k0Gcd : PySem.W.keepIn K (.ref f0Gcd) = true)
    (a0Great : PySem.W.nsIn K mainGlobals "_law_great" = some (some (.ref f0Great)))
    (l0Great : K.lookup f0Great = some ⟨oc0Great, od0Great, .func (PySem.W.fnOf "_law_great" "_law_great" (defArgs sGreat) (defBody sGreat) (defScope sGreat) .none kV0Great dc0Great pm0Great an0Great cd0Great ct0Great), sl0Great⟩)
    (c0Great : PySem.W.codeIn K cd0Great "_law_great" = true)
    (k0Great : PySem.W.keepIn K (.ref f0Great) = true)
    (a0LInt : PySem.W.nsIn K mainGlobals "_law_whole" = some (some (.ref f0LInt)))
    (l0LInt : K.lookup f0LInt = some ⟨oc0LInt, od0LInt, .func (PySem.W.fnOf "_law_whole" "_law_whole" (defArgs sLInt) (defBody sLInt) (defScope sLInt) .none kV0LInt dc0LInt pm0LInt an0LInt cd0LInt ct0LInt), sl0LInt⟩)
    (c0LInt : PySem.W.codeIn K cd0LInt "_law_whole" = true)
    (k0LInt : PySem.W.keepIn K (.ref f0LInt) = true)
    (a0DFrac : PySem.W.nsIn K mainGlobals "_law_frac" = some (some (.ref f0DFrac)))
    (l0DFrac : K.lookup f0DFrac = some ⟨oc0DFrac, od0DFrac, .func (PySem.W.fnOf "_law_frac" "_law_frac" (defArgs sDFrac) (defBody sDFrac) (defScope sDFrac) .none kV0DFrac dc0DFrac pm0DFrac an0DFrac cd0DFrac ct0DFrac), sl0DFrac⟩)
    (c0DFrac : PySem.W.codeIn K cd0DFrac "_law_frac" = true)
    (k0DFrac : PySem.W.keepIn K (.ref f0DFrac) = true)
    (z_sorted : PySem.W.nsIn K mainGlobals "sorted" = some none)
    (a0Scl : PySem.W.nsIn K mainGlobals "_law_scale" = some (some (.ref f0Scl)))
    (l0Scl : K.lookup f0Scl = some ⟨oc0Scl, od0Scl, .func (PySem.W.fnOf "_law_scale" "_law_scale" (defArgs sScl) (defBody sScl) (defScope sScl) .none kV0Scl dc0Scl pm0Scl an0Scl cd0Scl ct0Scl), sl0Scl⟩)
    (c0Scl : PySem.W.codeIn K cd0Scl "_law_scale" = true)
    (k0Scl : PySem.W.keepIn K (.ref f0Scl) = true)
    (a0LTimes : PySem.W.nsIn K mainGlobals "_law_times" = some (some (.ref f0LTimes)))
    (l0LTimes : K.lookup f0LTimes = some ⟨oc0LTimes, od0LTimes, .func (PySem.W.fnOf "_law_times" "_law_times" (defArgs sLTimes) (defBody sLTimes) (defScope sLTimes) .none kV0LTimes dc0LTimes pm0LTimes an0LTimes cd0LTimes ct0LTimes), sl0LTimes⟩)
    (c0LTimes : PySem.W.codeIn K cd0LTimes "_law_times" = true)
    (k0LTimes : PySem.W.keepIn K (.ref f0LTimes) = true)
    (a0LPlus : PySem.W.nsIn K mainGlobals "_law_plus" = some (some (.ref f0LPlus)))
    (l0LPlus : K.lookup f0LPlus = some ⟨oc0LPlus, od0LPlus, .func (PySem.W.fnOf "_law_plus" "_law_plus" (defArgs sLPlus) (defBody sLPlus) (defScope sLPlus) .none kV0LPlus dc0LPlus pm0LPlus an0LPlus cd0LPlus ct0LPlus), sl0LPlus⟩)
    (c0LPlus : PySem.W.codeIn K cd0LPlus "_law_plus" = true)
    (k0LPlus : PySem.W.keepIn K (.ref f0LPlus) = true)
    (g_MOST_PAIR_TEETH : PySem.W.nsIn K mainGlobals "MOST_PAIR_TEETH" = some (some (.int 200 tkMOST_PAIR_TEETH)))
    (a0Fraction : PySem.W.nsIn K mainGlobals "fraction" = some (some (.ref f0Fraction)))
    (l0Fraction : K.lookup f0Fraction = some ⟨oc0Fraction, od0Fraction, .func (PySem.W.fnOf "fraction" "fraction" (defArgs sFraction) (defBody sFraction) (defScope sFraction) (.ref t0Fraction) kV0Fraction dc0Fraction pm0Fraction an0Fraction cd0Fraction ct0Fraction), sl0Fraction⟩)
    (c0Fraction : PySem.W.codeIn K cd0Fraction "fraction" = true)
    (k0Fraction : PySem.W.keepIn K (.ref f0Fraction) = true)
    (lT0Fraction : K.lookup t0Fraction = some ⟨ocT0Fraction, odT0Fraction, .seq #[.int 1 tk0Fraction] nT0Fraction, slT0Fraction⟩)
    (a0Require : PySem.W.nsIn K mainGlobals "require" = some (some (.ref f0Require)))
    (l0Require : K.lookup f0Require = some ⟨oc0Require, od0Require, .func (PySem.W.fnOf "require" "require" (defArgs sRequire) (defBody sRequire) (defScope sRequire) .none kV0Require dc0Require pm0Require an0Require cd0Require ct0Require), sl0Require⟩)
    (c0Require : PySem.W.codeIn K cd0Require "require" = true)
    (k0Require : PySem.W.keepIn K (.ref f0Require) = true)
    (a0Whole : PySem.W.nsIn K mainGlobals "is_whole" = some (some (.ref f0Whole)))
    (l0Whole : K.lookup f0Whole = some ⟨oc0Whole, od0Whole, .func (PySem.W.fnOf "is_whole" "is_whole" (defArgs sWhole) (defBody sWhole) (defScope sWhole) .none kV0Whole dc0Whole pm0Whole an0Whole cd0Whole ct0Whole), sl0Whole⟩)
    (c0Whole : PySem.W.codeIn K cd0Whole "is_whole" = true)
    (k0Whole : PySem.W.keepIn K (.ref f0Whole) = true)
    (a0Teeth : PySem.W.nsIn K mainGlobals "teeth_pair" = some (some (.ref f0Teeth)))
    (l0Teeth : K.lookup f0Teeth = some ⟨oc0Teeth, od0Teeth, .func (PySem.W.fnOf "teeth_pair" "teeth_pair" (defArgs sTeeth) (defBody sTeeth) (defScope sTeeth) .none kV0Teeth dc0Teeth pm0Teeth an0Teeth cd0Teeth ct0Teeth), sl0Teeth⟩)
    (c0Teeth : PySem.W.codeIn K cd0Teeth "teeth_pair" = true)
    (k0Teeth : PySem.W.keepIn K (.ref f0Teeth) = true)
    (a0Posi : PySem.W.nsIn K mainGlobals "_is_positive" = some (some (.ref f0Posi)))
    (l0Posi : K.lookup f0Posi = some ⟨oc0Posi, od0Posi, .func (PySem.W.fnOf "_is_positive" "_is_positive" (defArgs sPosi) (defBody sPosi) (defScope sPosi) .none kV0Posi dc0Posi pm0Posi an0Posi cd0Posi ct0Posi), sl0Posi⟩)
    (c0Posi : PySem.W.codeIn K cd0Posi "_is_positive" = true)
    (k0Posi : PySem.W.keepIn K (.ref f0Posi) = true)
    (a0IsFraction : PySem.W.nsIn K mainGlobals "is_fraction" = some (some (.ref f0IsFraction)))
    (l0IsFraction : K.lookup f0IsFraction = some ⟨oc0IsFraction, od0IsFraction, .func (PySem.W.fnOf "is_fraction" "is_fraction" (defArgs sIsFraction) (defBody sIsFraction) (defScope sIsFraction) .none kV0IsFraction dc0IsFraction pm0IsFraction an0IsFraction cd0IsFraction ct0IsFraction), sl0IsFraction⟩)
    (c0IsFraction : PySem.W.codeIn K cd0IsFraction "is_fraction" = true)
    (k0IsFraction : PySem.W.keepIn K (.ref f0IsFraction) = true)
    (a0Within : PySem.W.nsIn K mainGlobals "is_whole_within" = some (some (.ref f0Within)))
    (l0Within : K.lookup f0Within = some ⟨oc0Within, od0Within, .func (PySem.W.fnOf "is_whole_within" "is_whole_within" (defArgs sWithin) (defBody sWithin) (defScope sWithin) .none kV0Within dc0Within pm0Within an0Within cd0Within ct0Within), sl0Within⟩)
    (c0Within : PySem.W.codeIn K cd0Within "is_whole_within" = true)
    (k0Within : PySem.W.keepIn K (.ref f0Within) = true)
    (a0WholeU : PySem.W.nsIn K mainGlobals "is_whole" = some (some (.ref f0WholeU)))
    (l0WholeU : K.lookup f0WholeU = some ⟨oc0WholeU, od0WholeU, .func (PySem.W.fnOf "is_whole" "is_whole" (defArgs sWholeU) (defBody sWholeU) (defScope sWholeU) .none kV0WholeU dc0WholeU pm0WholeU an0WholeU cd0WholeU ct0WholeU), sl0WholeU⟩)
    (c0WholeU : PySem.W.codeIn K cd0WholeU "is_whole" = true)
    (k0WholeU : PySem.W.keepIn K (.ref f0WholeU) = true)
    (a0Emp : PySem.W.nsIn K mainGlobals "_refuse_empty" = some (some (.ref f0Emp)))
    (l0Emp : K.lookup f0Emp = some ⟨oc0Emp, od0Emp, .func (PySem.W.fnOf "_refuse_empty" "_refuse_empty" (defArgs sEmp) (defBody sEmp) (defScope sEmp) .none kV0Emp dc0Emp pm0Emp an0Emp cd0Emp ct0Emp), sl0Emp⟩)
    (c0Emp : PySem.W.codeIn K cd0Emp "_refuse_empty" = true)
    (k0Emp : PySem.W.keepIn K (.ref f0Emp) = true)
    (a0Floor : PySem.W.nsIn K mainGlobals "floor_of" = some (some (.ref f0Floor)))
    (l0Floor : K.lookup f0Floor = some ⟨oc0Floor, od0Floor, .func (PySem.W.fnOf "floor_of" "floor_of" (defArgs sFloor) (defBody sFloor) (defScope sFloor) .none kV0Floor dc0Floor pm0Floor an0Floor cd0Floor ct0Floor), sl0Floor⟩)
    (c0Floor : PySem.W.codeIn K cd0Floor "floor_of" = true)
    (k0Floor : PySem.W.keepIn K (.ref f0Floor) = true)
    (a0Times : PySem.W.nsIn K mainGlobals "times" = some (some (.ref f0Times)))
    (l0Times : K.lookup f0Times = some ⟨oc0Times, od0Times, .func (PySem.W.fnOf "times" "times" (defArgs sTimes) (defBody sTimes) (defScope sTimes) .none kV0Times dc0Times pm0Times an0Times cd0Times ct0Times), sl0Times⟩)
    (c0Times : PySem.W.codeIn K cd0Times "times" = true)
    (k0Times : PySem.W.keepIn K (.ref f0Times) = true)
    (a0Clp : PySem.W.nsIn K mainGlobals "_clamped" = some (some (.ref f0Clp)))
    (l0Clp : K.lookup f0Clp = some ⟨oc0Clp, od0Clp, .func (PySem.W.fnOf "_clamped" "_clamped" (defArgs sClp) (defBody sClp) (defScope sClp) .none kV0Clp dc0Clp pm0Clp an0Clp cd0Clp ct0Clp), sl0Clp⟩)
    (c0Clp : PySem.W.codeIn K cd0Clp "_clamped" = true)
    (k0Clp : PySem.W.keepIn K (.ref f0Clp) = true)
    (a0Nearer : PySem.W.nsIn K mainGlobals "_is_nearer" = some (some (.ref f0Nearer)))
    (l0Nearer : K.lookup f0Nearer = some ⟨oc0Nearer, od0Nearer, .func (PySem.W.fnOf "_is_nearer" "_is_nearer" (defArgs sNearer) (defBody sNearer) (defScope sNearer) .none kV0Nearer dc0Nearer pm0Nearer an0Nearer cd0Nearer ct0Nearer), sl0Nearer⟩)
    (c0Nearer : PySem.W.codeIn K cd0Nearer "_is_nearer" = true)
    (k0Nearer : PySem.W.keepIn K (.ref f0Nearer) = true)
    (a0Compare : PySem.W.nsIn K mainGlobals "compare" = some (some (.ref f0Compare)))
    (l0Compare : K.lookup f0Compare = some ⟨oc0Compare, od0Compare, .func (PySem.W.fnOf "compare" "compare" (defArgs sCompare) (defBody sCompare) (defScope sCompare) .none kV0Compare dc0Compare pm0Compare an0Compare cd0Compare ct0Compare), sl0Compare⟩)
    (c0Compare : PySem.W.codeIn K cd0Compare "compare" = true)
    (k0Compare : PySem.W.keepIn K (.ref f0Compare) = true)
    (a0Off : PySem.W.nsIn K mainGlobals "_off" = some (some (.ref f0Off)))
    (l0Off : K.lookup f0Off = some ⟨oc0Off, od0Off, .func (PySem.W.fnOf "_off" "_off" (defArgs sOff) (defBody sOff) (defScope sOff) .none kV0Off dc0Off pm0Off an0Off cd0Off ct0Off), sl0Off⟩)
    (c0Off : PySem.W.codeIn K cd0Off "_off" = true)
    (k0Off : PySem.W.keepIn K (.ref f0Off) = true)
    (a0Magn : PySem.W.nsIn K mainGlobals "magnitude" = some (some (.ref f0Magn)))
    (l0Magn : K.lookup f0Magn = some ⟨oc0Magn, od0Magn, .func (PySem.W.fnOf "magnitude" "magnitude" (defArgs sMagn) (defBody sMagn) (defScope sMagn) .none kV0Magn dc0Magn pm0Magn an0Magn cd0Magn ct0Magn), sl0Magn⟩)
    (c0Magn : PySem.W.codeIn K cd0Magn "magnitude" = true)
    (k0Magn : PySem.W.keepIn K (.ref f0Magn) = true)
    (a0Minus : PySem.W.nsIn K mainGlobals "minus" = some (some (.ref f0Minus)))
    (l0Minus : K.lookup f0Minus = some ⟨oc0Minus, od0Minus, .func (PySem.W.fnOf "minus" "minus" (defArgs sMinus) (defBody sMinus) (defScope sMinus) .none kV0Minus dc0Minus pm0Minus an0Minus cd0Minus ct0Minus), sl0Minus⟩)
    (c0Minus : PySem.W.codeIn K cd0Minus "minus" = true)
    (k0Minus : PySem.W.keepIn K (.ref f0Minus) = true)
    (a0Alike : PySem.W.nsIn K mainGlobals "_law_alike" = some (some (.ref f0Alike)))
    (l0Alike : K.lookup f0Alike = some ⟨oc0Alike, od0Alike, .func (PySem.W.fnOf "_law_alike" "_law_alike" (defArgs sAlike) (defBody sAlike) (defScope sAlike) .none kV0Alike dc0Alike pm0Alike an0Alike cd0Alike ct0Alike), sl0Alike⟩)
    (c0Alike : PySem.W.codeIn K cd0Alike "_law_alike" = true)
    (k0Alike : PySem.W.keepIn K (.ref f0Alike) = true)
    (a0DueT : PySem.W.nsIn K mainGlobals "_law_due" = some (some (.ref f0DueT)))
    (l0DueT : K.lookup f0DueT = some ⟨oc0DueT, od0DueT, .func (PySem.W.fnOf "_law_due" "_law_due" (defArgs sDueT) (defBody sDueT) (defScope sDueT) .none kV0DueT dc0DueT pm0DueT an0DueT cd0DueT ct0DueT), sl0DueT⟩)
    (c0DueT : PySem.W.codeIn K cd0DueT "_law_due" = true)
    (k0DueT : PySem.W.keepIn K (.ref f0DueT) = true)
    (a0Far : PySem.W.nsIn K mainGlobals "_law_farther" = some (some (.ref f0Far)))
    (l0Far : K.lookup f0Far = some ⟨oc0Far, od0Far, .func (PySem.W.fnOf "_law_farther" "_law_farther" (defArgs sFar) (defBody sFar) (defScope sFar) .none kV0Far dc0Far pm0Far an0Far cd0Far ct0Far), sl0Far⟩)
    (c0Far : PySem.W.codeIn K cd0Far "_law_farther" = true)
    (k0Far : PySem.W.keepIn K (.ref f0Far) = true)
    (mm_k : PySem.W.keepIn K (.ref C_Mismatch) = true)
    (mm_x : PySem.W.excIn K C_Mismatch [.type "ValueError", .type "Exception", .type "BaseException", .type "object"] "ValueError.__new__" = true)
    (mm_s : PySem.W.subIn K (.ref C_Mismatch) (.type "BaseException") = some true)
    (mm_v : PySem.W.subIn K (.ref C_Mismatch) (.type "ValueError") = some true)
    (mm_y : PySem.W.subIn K (.ref C_Mismatch) (.ref S) = some true)
    (mm_g : PySem.W.findIn K (.ref C_Mismatch) "__getattribute__" = some (some (.builtin "BaseException.__getattribute__")))
    (mm_t : PySem.W.findIn K (.ref C_Mismatch) "__getattr__" = some none)
    (mm_c : PySem.W.findIn K (.ref C_Mismatch) "__class__" = some (some (.builtin "object.__class__")))
    (mm_o : PySem.W.mroIn K C_Mismatch (.type "object") = some true)
    (ms_BadValue : PySem.W.subIn K (.ref C_Mismatch) (.ref C) = some false)
    (n_mBadValue : (Value.ref C_Mismatch == Value.ref C) = false)
    (ms_Still : PySem.W.subIn K (.ref C_Mismatch) (.ref C_Still) = some false)
    (n_mStill : (Value.ref C_Mismatch == Value.ref C_Still) = false)
    (ms_Endless : PySem.W.subIn K (.ref C_Mismatch) (.ref C_Endless) = some false)
    (n_mEndless : (Value.ref C_Mismatch == Value.ref C_Endless) = false)
    (ms_TooMany : PySem.W.subIn K (.ref C_Mismatch) (.ref C_TooMany) = some false)
    (n_mTooMany : (Value.ref C_Mismatch == Value.ref C_TooMany) = false)
    (ms_NoName : PySem.W.subIn K (.ref C_Mismatch) (.ref C_NoName) = some false)
    (n_mNoName : (Value.ref C_Mismatch == Value.ref C_NoName) = false)
    (ms_Taken : PySem.W.subIn K (.ref C_Mismatch) (.ref C_Taken) = some false)
    (n_mTaken : (Value.ref C_Mismatch == Value.ref C_Taken) = false)
    (ms_Locked : PySem.W.subIn K (.ref C_Mismatch) (.ref C_Locked) = some false)
    (n_mLocked : (Value.ref C_Mismatch == Value.ref C_Locked) = false)
    (ms_Looped : PySem.W.subIn K (.ref C_Mismatch) (.ref C_Looped) = some false)
    (n_mLooped : (Value.ref C_Mismatch == Value.ref C_Looped) = false)
    (ms_Broken : PySem.W.subIn K (.ref C_Mismatch) (.ref C_Broken) = some false)
    (n_mBroken : (Value.ref C_Mismatch == Value.ref C_Broken) = false)
    (ms_ReadError : PySem.W.subIn K (.ref C_Mismatch) (.ref C_ReadError) = some false)
    (n_mReadError : (Value.ref C_Mismatch == Value.ref C_ReadError) = false)
    (a0Pick : PySem.W.nsIn K mainGlobals "_law_pick" = some (some (.ref f0Pick)))
    (l0Pick : K.lookup f0Pick = some ⟨oc0Pick, od0Pick, .func (PySem.W.fnOf "_law_pick" "_law_pick" (defArgs sPick) (defBody sPick) (defScope sPick) .none kV0Pick dc0Pick pm0Pick an0Pick cd0Pick ct0Pick), sl0Pick⟩)
    (c0Pick : PySem.W.codeIn K cd0Pick "_law_pick" = true)
    (k0Pick : PySem.W.keepIn K (.ref f0Pick) = true)
    (a0Turned : PySem.W.nsIn K mainGlobals "_law_bounds_turned" = some (some (.ref f0Turned)))
    (l0Turned : K.lookup f0Turned = some ⟨oc0Turned, od0Turned, .func (PySem.W.fnOf "_law_bounds_turned" "_law_bounds_turned" (defArgs sTurned) (defBody sTurned) (defScope sTurned) .none kV0Turned dc0Turned pm0Turned an0Turned cd0Turned ct0Turned), sl0Turned⟩)
    (c0Turned : PySem.W.codeIn K cd0Turned "_law_bounds_turned" = true)
    (k0Turned : PySem.W.keepIn K (.ref f0Turned) = true)
    (a0BPos : PySem.W.nsIn K mainGlobals "_law_bad_positive" = some (some (.ref f0BPos)))
    (l0BPos : K.lookup f0BPos = some ⟨oc0BPos, od0BPos, .func (PySem.W.fnOf "_law_bad_positive" "_law_bad_positive" (defArgs sBPos) (defBody sBPos) (defScope sBPos) .none kV0BPos dc0BPos pm0BPos an0BPos cd0BPos ct0BPos), sl0BPos⟩)
    (c0BPos : PySem.W.codeIn K cd0BPos "_law_bad_positive" = true)
    (k0BPos : PySem.W.keepIn K (.ref f0BPos) = true)
    (a0BadFrac : PySem.W.nsIn K mainGlobals "_law_bad_frac" = some (some (.ref f0BadFrac)))
    (l0BadFrac : K.lookup f0BadFrac = some ⟨oc0BadFrac, od0BadFrac, .func (PySem.W.fnOf "_law_bad_frac" "_law_bad_frac" (defArgs sBadFrac) (defBody sBadFrac) (defScope sBadFrac) .none kV0BadFrac dc0BadFrac pm0BadFrac an0BadFrac cd0BadFrac ct0BadFrac), sl0BadFrac⟩)
    (c0BadFrac : PySem.W.codeIn K cd0BadFrac "_law_bad_frac" = true)
    (k0BadFrac : PySem.W.keepIn K (.ref f0BadFrac) = true)
    (a0LMinus : PySem.W.nsIn K mainGlobals "_law_minus" = some (some (.ref f0LMinus)))
    (l0LMinus : K.lookup f0LMinus = some ⟨oc0LMinus, od0LMinus, .func (PySem.W.fnOf "_law_minus" "_law_minus" (defArgs sLMinus) (defBody sLMinus) (defScope sLMinus) .none kV0LMinus dc0LMinus pm0LMinus an0LMinus cd0LMinus ct0LMinus), sl0LMinus⟩)
    (c0LMinus : PySem.W.codeIn K cd0LMinus "_law_minus" = true)
    (k0LMinus : PySem.W.keepIn K (.ref f0LMinus) = true)
    (a0DPos : PySem.W.nsIn K mainGlobals "_law_positive" = some (some (.ref f0DPos)))
    (l0DPos : K.lookup f0DPos = some ⟨oc0DPos, od0DPos, .func (PySem.W.fnOf "_law_positive" "_law_positive" (defArgs sDPos) (defBody sDPos) (defScope sDPos) .none kV0DPos dc0DPos pm0DPos an0DPos cd0DPos ct0DPos), sl0DPos⟩)
    (c0DPos : PySem.W.codeIn K cd0DPos "_law_positive" = true)
    (k0DPos : PySem.W.keepIn K (.ref f0DPos) = true) :
    ∃ fd : FuncData, (∀ (s : Shared) (v : Value), BindsTo s fd ⟨[v], []⟩ [("_law_script", v)]) ∧ ∀ base : Heap, K.In base → base.Ns mainGlobals mg → ∀ P1 : Addr, ∀ P2 : Addr, LamX.TabB base mg c_R1 P1 → LamX.TabB base mg c_R2 P2 → P1 ≠ P2 → FnOk P w K mg base CX0 10 fa fd ["_law_script"] (spLaw K P1 P2) := by
  have T : Bt K mg := ⟨PySem.W.mg_none_of X G z_int, PySem.W.mg_none_of X G z_len, PySem.W.mg_none_of X G z_list, PySem.W.mg_none_of X G z_abs, PySem.W.mg_none_of X G z_range, PySem.W.mg_none_of X G z_min, PySem.W.mg_none_of X G z_max, PySem.W.mg_none_of X G z_isinstance, PySem.W.mg_none_of X G z_bool, PySem.W.mg_none_of X G z_str, PySem.W.mg_none_of X G z_dict, PySem.W.mg_none_of X G z_tuple, PySem.W.mg_of X G z_gcd⟩
  have FI := fun_mk (st := sInitB) lI cI kI
  have bI := FI.binds (ps := ["self", "what"]) fun _ _ _ _ _ _ us hl => match us, hl with | [_, _], _ => rfl
  have B : BvT K mg C := ⟨PySem.W.mg_of X G aC, ⟨⟨nm, qn, N0, bs, bm, sn, sub, ab, col, dd, m0, m1, m2, m3, m5, xL, hbm⟩, sa, eC, tC, kC⟩, nw, fI, _, aI, tI, FI, bI⟩
  have icC : (PySem.W.clsIn K C).isSome = true := by
    obtain ⟨cd, hc, _⟩ := PySem.W.any_some hC
    rw [hc]; rfl
  let A : String → Addr := fun n => if n = "Mismatch" then C_Mismatch else if n = "Still" then C_Still else if n = "Endless" then C_Endless else if n = "TooMany" then C_TooMany else if n = "NoName" then C_NoName else if n = "Taken" then C_Taken else if n = "Locked" then C_Locked else if n = "Looped" then C_Looped else if n = "Broken" then C_Broken else if n = "ReadError" then C_ReadError else C
  have kit : ∀ D : Addr, PySem.W.typeIn K (.ref D) = some (.type "type") → PySem.W.hasDictIn K D = true → PySem.W.subIn K (.ref C) (.ref D) = some false → (Value.ref C == Value.ref D) = false → PySem.W.kitOne K (.ref C) (.ref D) = some false := fun D h1 h2 h3 h4 => by
    obtain ⟨cd, hc, _⟩ := PySem.W.any_some h2
    unfold PySem.W.kitOne PySem.W.kitCls
    rw [h4, if_neg Bool.false_ne_true]
    show (if ((PySem.W.clsIn K D).isSome && PySem.W.typeIn K (.ref D) == some (.type "type")) = true then PySem.W.subIn K (.ref C) (.ref D) else none) = some false
    rw [hc, h1, if_pos (by rfl)]
    exact h3
  have AT : AskT K mg C S A := {
    sky := PySem.W.mg_of X G aS
    exm := PySem.W.exm_ref eS hS tS cS
    g := fun n hn => by
      simp only [List.mem_cons, List.not_mem_nil, or_false] at hn
      rcases hn with rfl | rfl | rfl | rfl | rfl | rfl | rfl | rfl | rfl | rfl | rfl
      · exact PySem.W.mg_of X G aC
      · exact PySem.W.mg_of X G a_Mismatch
      · exact PySem.W.mg_of X G a_Still
      · exact PySem.W.mg_of X G a_Endless
      · exact PySem.W.mg_of X G a_TooMany
      · exact PySem.W.mg_of X G a_NoName
      · exact PySem.W.mg_of X G a_Taken
      · exact PySem.W.mg_of X G a_Locked
      · exact PySem.W.mg_of X G a_Looped
      · exact PySem.W.mg_of X G a_Broken
      · exact PySem.W.mg_of X G a_ReadError
    k := fun n hn => by
      simp only [List.mem_cons, List.not_mem_nil, or_false] at hn
      rcases hn with rfl | rfl | rfl | rfl | rfl | rfl | rfl | rfl | rfl | rfl | rfl
      · show PySem.W.kitOne K (.ref C) (.ref C) = some true
        unfold PySem.W.kitOne
        rw [if_pos (by simp)]
      · exact kit C_Mismatch t_Mismatch h_Mismatch s_Mismatch n_Mismatch
      · exact kit C_Still t_Still h_Still s_Still n_Still
      · exact kit C_Endless t_Endless h_Endless s_Endless n_Endless
      · exact kit C_TooMany t_TooMany h_TooMany s_TooMany n_TooMany
      · exact kit C_NoName t_NoName h_NoName s_NoName n_NoName
      · exact kit C_Taken t_Taken h_Taken s_Taken n_Taken
      · exact kit C_Locked t_Locked h_Locked s_Locked n_Locked
      · exact kit C_Looped t_Looped h_Looped s_Looped n_Looped
      · exact kit C_Broken t_Broken h_Broken s_Broken n_Broken
      · exact kit C_ReadError t_ReadError h_ReadError s_ReadError n_ReadError
    ve := by
      unfold PySem.W.kitOne PySem.W.kitCls
      rw [if_neg (by simp)]
      show (if PySem.W.kitMeta "ValueError" = true then PySem.W.subIn K (.ref C) (.type "ValueError") else none) = some true
      rw [if_pos (by decide +kernel)]
      exact vC
    b_VE := PySem.W.mg_none_of X G z_VE
    hcl := icC
    hga := ga
    hgt := gg
    hsub := eC
    ha := gc
    hn := spc
    htk := tkc
    hm := mC
    xf := ⟨ga, gg, eC, hC⟩ }
  have FA := fun_mk (st := sTold) l_A c_A k_A
  have AS : AskD K mg f_A oc_A od_A .none kV_A dc_A pm_A an_A cd_A ct_A sl_A := ⟨PySem.W.mg_of X G a_A, k_A, l_A, c_A, FA.binds (ps := ["_law_call"]) fun _ _ _ _ _ _ us hl => match us, hl with | [_], _ => rfl⟩
  have F_R1 := fun_mk (st := sOrd) l_R1 cd_R1 k_R1
  have b_R1 := F_R1.binds (ps := ["_law_fracs"]) fun _ _ _ _ _ _ us hl => match us, hl with | [_], _ => rfl
  have F_R2 := fun_mk (st := sRfd) l_R2 cd_R2 k_R2
  have b_R2 := F_R2.binds (ps := ["_law_store_here", "_law_value", "_law_low", "_law_high"]) fun _ _ _ _ _ _ us hl => match us, hl with | [_, _, _, _], _ => rfl
  have DStore : Dfn K mg "_law_store" sStore ["_law_script"] := dfn_mk X G a0Store l0Store c0Store k0Store fun _ _ _ _ _ _ us hl => match us, hl with | [_], _ => rfl
  have DTB : Dfn K mg "_law_teeth_bounds" sTB ["_law_store_here", "_law_top"] := dfn_mk X G a0TB l0TB c0TB k0TB fun _ _ _ _ _ _ us hl => match us, hl with | [_, _], _ => rfl
  have DTake : Dfn K mg "_law_take" sTake ["_law_store_here", "_law_many"] := dfn_mk X G a0Take l0Take c0Take k0Take fun _ _ _ _ _ _ us hl => match us, hl with | [_, _], _ => rfl
  have DMixed : Dfn K mg "_law_mixed" sMixed ["_law_number", "_law_turn"] := dfn_mk X G a0Mixed l0Mixed c0Mixed k0Mixed fun _ _ _ _ _ _ us hl => match us, hl with | [_, _], _ => rfl
  have DRange : Dfn K mg "_law_range" sRange ["_law_store_here", "_law_low", "_law_high"] := dfn_mk X G a0Range l0Range c0Range k0Range fun _ _ _ _ _ _ us hl => match us, hl with | [_, _, _], _ => rfl
  have DPosW : Dfn K mg "_law_positive_wide" sPosW ["_law_store_here"] := dfn_mk X G a0PosW l0PosW c0PosW k0PosW fun _ _ _ _ _ _ us hl => match us, hl with | [_], _ => rfl
  have DDFracW : Dfn K mg "_law_frac_wide" sDFracW ["_law_store_here"] := dfn_mk X G a0DFracW l0DFracW c0DFracW k0DFracW fun _ _ _ _ _ _ us hl => match us, hl with | [_], _ => rfl
  have DLowest : Dfn K mg "_law_lowest" sLowest ["_law_top", "_law_bottom"] := dfn_mk X G a0Lowest l0Lowest c0Lowest k0Lowest fun _ _ _ _ _ _ us hl => match us, hl with | [_, _], _ => rfl
  have DGcd : Dfn K mg "_law_gcd" sGcd ["_law_left", "_law_right"] := dfn_mk X G a0Gcd l0Gcd c0Gcd k0Gcd fun _ _ _ _ _ _ us hl => match us, hl with | [_, _], _ => rfl
  have DGreat : Dfn K mg "_law_great" sGreat ["_law_store_here"] := dfn_mk X G a0Great l0Great c0Great k0Great fun _ _ _ _ _ _ us hl => match us, hl with | [_], _ => rfl
  have DLInt : Dfn K mg "_law_whole" sLInt ["_law_store_here", "_law_reach"] := dfn_mk X G a0LInt l0LInt c0LInt k0LInt fun _ _ _ _ _ _ us hl => match us, hl with | [_, _], _ => rfl
  have DDFrac : Dfn K mg "_law_frac" sDFrac ["_law_store_here"] := dfn_mk X G a0DFrac l0DFrac c0DFrac k0DFrac fun _ _ _ _ _ _ us hl => match us, hl with | [_], _ => rfl
  have DScl : Dfn K mg "_law_scale" sScl ["_law_fracs"] := dfn_mk X G a0Scl l0Scl c0Scl k0Scl fun _ _ _ _ _ _ us hl => match us, hl with | [_], _ => rfl
  have DLTimes : Dfn K mg "_law_times" sLTimes ["_law_left", "_law_right"] := dfn_mk X G a0LTimes l0LTimes c0LTimes k0LTimes fun _ _ _ _ _ _ us hl => match us, hl with | [_, _], _ => rfl
  have DLPlus : Dfn K mg "_law_plus" sLPlus ["_law_left", "_law_right"] := dfn_mk X G a0LPlus l0LPlus c0LPlus k0LPlus fun _ _ _ _ _ _ us hl => match us, hl with | [_, _], _ => rfl
  have FDFraction : FunD K "fraction" "fraction" (defArgs sFraction) (defBody sFraction) (defScope sFraction) [.int 1] [] f0Fraction _ := ⟨⟨oc0Fraction, od0Fraction, _, kV0Fraction, dc0Fraction, pm0Fraction, an0Fraction, cd0Fraction, ct0Fraction, sl0Fraction, rfl, l0Fraction, c0Fraction, .inr ⟨by simp, t0Fraction, _, [.int 1 tk0Fraction], nT0Fraction, rfl, lT0Fraction, rfl, .cons ⟨tk0Fraction, rfl⟩ .nil⟩, .inl rfl⟩, k0Fraction⟩
  have D1Fraction : DfnD1 K mg "fraction" sFraction ["numerator", "denominator"] (.int 1) := by
    obtain ⟨ds, hv, hb⟩ := FDFraction.binds1 (ps := ["numerator", "denominator"]) 1 0 (by simp) rfl fun T kV doc pm an cdv ct us its hu hi => match us, its, hu, hi with
      | [u0], [i1], _, _ => ⟨_, rfl, rfl⟩
    exact ⟨f0Fraction, _, _, ds, FDFraction, PySem.W.mg_of X G a0Fraction, hv, hb⟩
  have DRequire : Dfn K mg "require" sRequire ["well_formed", "what"] := dfn_mk X G a0Require l0Require c0Require k0Require fun _ _ _ _ _ _ us hl => match us, hl with | [_, _], _ => rfl
  have DWhole : Dfn K mg "is_whole" sWhole ["value"] := dfn_mk X G a0Whole l0Whole c0Whole k0Whole fun _ _ _ _ _ _ us hl => match us, hl with | [_], _ => rfl
  have DTeeth : DfnK2 K mg "teeth_pair" sTeeth ["value", "least", "most"] ["least", "most"] := ⟨f0Teeth, _, fun_mk l0Teeth c0Teeth k0Teeth, PySem.W.mg_of X G a0Teeth, kb12 fun s u a b => .of_eq rfl⟩
  have DPosi : Dfn K mg "_is_positive" sPosi ["value"] := dfn_mk X G a0Posi l0Posi c0Posi k0Posi fun _ _ _ _ _ _ us hl => match us, hl with | [_], _ => rfl
  have DIsFraction : Dfn K mg "is_fraction" sIsFraction ["value"] := dfn_mk X G a0IsFraction l0IsFraction c0IsFraction k0IsFraction fun _ _ _ _ _ _ us hl => match us, hl with | [_], _ => rfl
  have DWithin : Dfn K mg "is_whole_within" sWithin ["value", "least", "most"] := dfn_mk X G a0Within l0Within c0Within k0Within fun _ _ _ _ _ _ us hl => match us, hl with | [_, _, _], _ => rfl
  have DWholeU : Dfn K mg "is_whole" sWholeU ["value"] := dfn_mk X G a0WholeU l0WholeU c0WholeU k0WholeU fun _ _ _ _ _ _ us hl => match us, hl with | [_], _ => rfl
  have DEmp : Dfn K mg "_refuse_empty" sEmp ["least", "most"] := dfn_mk X G a0Emp l0Emp c0Emp k0Emp fun _ _ _ _ _ _ us hl => match us, hl with | [_, _], _ => rfl
  have DFloor : Dfn K mg "floor_of" sFloor ["value"] := dfn_mk X G a0Floor l0Floor c0Floor k0Floor fun _ _ _ _ _ _ us hl => match us, hl with | [_], _ => rfl
  have DTimes : Dfn K mg "times" sTimes ["left", "right"] := dfn_mk X G a0Times l0Times c0Times k0Times fun _ _ _ _ _ _ us hl => match us, hl with | [_, _], _ => rfl
  have DFraction : DfnD K mg "fraction" sFraction ["numerator", "denominator"] := by
    obtain ⟨ds, hv, hb⟩ := FDFraction.binds1 (ps := ["numerator", "denominator"]) 2 1 (by simp) rfl fun T kV doc pm an cdv ct us its hu hi => match us, its, hu, hi with
      | [u0, u1], [i1], _, _ => ⟨_, rfl, rfl⟩
    cases hv
    exact ⟨f0Fraction, _, _, FDFraction, PySem.W.mg_of X G a0Fraction, hb⟩
  have DClp : Dfn K mg "_clamped" sClp ["number", "least", "most"] := dfn_mk X G a0Clp l0Clp c0Clp k0Clp fun _ _ _ _ _ _ us hl => match us, hl with | [_, _, _], _ => rfl
  have DNearer : Dfn K mg "_is_nearer" sNearer ["pair", "best", "value"] := dfn_mk X G a0Nearer l0Nearer c0Nearer k0Nearer fun _ _ _ _ _ _ us hl => match us, hl with | [_, _, _], _ => rfl
  have DCompare : Dfn K mg "compare" sCompare ["left", "right"] := dfn_mk X G a0Compare l0Compare c0Compare k0Compare fun _ _ _ _ _ _ us hl => match us, hl with | [_, _], _ => rfl
  have DOff : Dfn K mg "_off" sOff ["pair", "value"] := dfn_mk X G a0Off l0Off c0Off k0Off fun _ _ _ _ _ _ us hl => match us, hl with | [_, _], _ => rfl
  have DMagn : Dfn K mg "magnitude" sMagn ["value"] := dfn_mk X G a0Magn l0Magn c0Magn k0Magn fun _ _ _ _ _ _ us hl => match us, hl with | [_], _ => rfl
  have DMinus : Dfn K mg "minus" sMinus ["left", "right"] := dfn_mk X G a0Minus l0Minus c0Minus k0Minus fun _ _ _ _ _ _ us hl => match us, hl with | [_, _], _ => rfl
  have DAlike : Dfn K mg "_law_alike" sAlike ["_law_told_here", "_law_due_here"] := dfn_mk X G a0Alike l0Alike c0Alike k0Alike fun _ _ _ _ _ _ us hl => match us, hl with | [_, _], _ => rfl
  have DDueT : Dfn K mg "_law_due" sDueT ["_law_value", "_law_low", "_law_high"] := dfn_mk X G a0DueT l0DueT c0DueT k0DueT fun _ _ _ _ _ _ us hl => match us, hl with | [_, _, _], _ => rfl
  have DFar : Dfn K mg "_law_farther" sFar ["_law_pair", "_law_other", "_law_value"] := dfn_mk X G a0Far l0Far c0Far k0Far fun _ _ _ _ _ _ us hl => match us, hl with | [_, _, _], _ => rfl
  have Mi : MiT K mg C_Mismatch := ⟨PySem.W.mg_of X G a_Mismatch, mm_k, ⟨_, _, _, _, PySem.F.excBase_ValueError, mm_x⟩, mm_s, t_Mismatch⟩
  have kitM : ∀ D : Addr, PySem.W.typeIn K (.ref D) = some (.type "type") → PySem.W.hasDictIn K D = true → PySem.W.subIn K (.ref C_Mismatch) (.ref D) = some false → (Value.ref C_Mismatch == Value.ref D) = false → PySem.W.kitOne K (.ref C_Mismatch) (.ref D) = some false := fun D h1 h2 h3 h4 => by
    obtain ⟨cd, hc, _⟩ := PySem.W.any_some h2
    unfold PySem.W.kitOne PySem.W.kitCls
    rw [h4, if_neg Bool.false_ne_true]
    show (if ((PySem.W.clsIn K D).isSome && PySem.W.typeIn K (.ref D) == some (.type "type")) = true then PySem.W.subIn K (.ref C_Mismatch) (.ref D) else none) = some false
    rw [hc, h1, if_pos (by rfl)]
    exact h3
  have AM : AskM K C_Mismatch S A := {
    exm := PySem.W.exm_ref eS hS tS mm_y
    k := fun n hn => by
      simp only [List.mem_cons, List.not_mem_nil, or_false] at hn
      rcases hn with rfl | rfl | rfl | rfl | rfl | rfl | rfl | rfl | rfl | rfl | rfl
      · exact kitM C tC hC ms_BadValue n_mBadValue
      · show PySem.W.kitOne K (.ref C_Mismatch) (.ref C_Mismatch) = some true
        unfold PySem.W.kitOne
        rw [if_pos (by simp)]
      · exact kitM C_Still t_Still h_Still ms_Still n_mStill
      · exact kitM C_Endless t_Endless h_Endless ms_Endless n_mEndless
      · exact kitM C_TooMany t_TooMany h_TooMany ms_TooMany n_mTooMany
      · exact kitM C_NoName t_NoName h_NoName ms_NoName n_mNoName
      · exact kitM C_Taken t_Taken h_Taken ms_Taken n_mTaken
      · exact kitM C_Locked t_Locked h_Locked ms_Locked n_mLocked
      · exact kitM C_Looped t_Looped h_Looped ms_Looped n_mLooped
      · exact kitM C_Broken t_Broken h_Broken ms_Broken n_mBroken
      · exact kitM C_ReadError t_ReadError h_ReadError ms_ReadError n_mReadError
    ve := by
      unfold PySem.W.kitOne PySem.W.kitCls
      rw [if_neg (by simp)]
      show (if PySem.W.kitMeta "ValueError" = true then PySem.W.subIn K (.ref C_Mismatch) (.type "ValueError") else none) = some true
      rw [if_pos (by decide +kernel)]
      exact mm_v
    e := ⟨mm_g, mm_t, mm_s, h_Mismatch, mm_c, spc, tkc, mm_o⟩ }
  have DPick : Dfn K mg "_law_pick" sPick ["_law_store_here", "_law_row"] := dfn_mk X G a0Pick l0Pick c0Pick k0Pick fun _ _ _ _ _ _ us hl => match us, hl with | [_, _], _ => rfl
  have DTurned : Dfn K mg "_law_bounds_turned" sTurned ["_law_store_here", "_law_top"] := dfn_mk X G a0Turned l0Turned c0Turned k0Turned fun _ _ _ _ _ _ us hl => match us, hl with | [_, _], _ => rfl
  have DBPos : Dfn K mg "_law_bad_positive" sBPos ["_law_store_here"] := dfn_mk X G a0BPos l0BPos c0BPos k0BPos fun _ _ _ _ _ _ us hl => match us, hl with | [_], _ => rfl
  have DBadFrac : Dfn K mg "_law_bad_frac" sBadFrac ["_law_store_here"] := dfn_mk X G a0BadFrac l0BadFrac c0BadFrac k0BadFrac fun _ _ _ _ _ _ us hl => match us, hl with | [_], _ => rfl
  have DLMinus : Dfn K mg "_law_minus" sLMinus ["_law_left", "_law_right"] := dfn_mk X G a0LMinus l0LMinus c0LMinus k0LMinus fun _ _ _ _ _ _ us hl => match us, hl with | [_, _], _ => rfl
  have DDPos : Dfn K mg "_law_positive" sDPos ["_law_store_here"] := dfn_mk X G a0DPos l0DPos c0DPos k0DPos fun _ _ _ _ _ _ us hl => match us, hl with | [_], _ => rfl
  have FL := fun_mk (st := sLaw) lL cL kL
  refine ⟨PySem.W.fnOf "law" "law" (defArgs sLaw) (defBody sLaw) (defScope sLaw) .none kVL dcL pmL anL cdvL ctL, fun s v => .of_eq rfl, fun base _ _ P1 P2 TB1 TB2 n12 => ?_⟩
  have e := hfa.symm.trans (PySem.W.mg_of X G aL)
  cases e
  have kStore := k_Store (P := P) (w := w) (base := base) T DStore
  have kMixed := k_Mixed (P := P) (w := w) (base := base) T DMixed
  have kTake := k_Take (P := P) (w := w) (base := base) T DTake kMixed
  have kRange := k_Range (P := P) (w := w) (base := base) T DRange kTake
  have kTB := k_TB (P := P) (w := w) (base := base) T DTB kTake kRange
  have kGcd := k_Gcd (P := P) (w := w) (base := base) T DGcd
  have kLowest := k_Lowest (P := P) (w := w) (base := base) T DLowest kGcd
  have kGreat := k_Great (P := P) (w := w) (base := base) T DGreat kTake
  have kLInt := k_LInt (P := P) (w := w) (base := base) T DLInt kTake
  have kDFrac := k_DFrac (P := P) (w := w) (base := base) T DDFrac kTake kLowest
  have kDFracW := k_DFracW (P := P) (w := w) (base := base) T DDFracW kTake kLowest kGreat kLInt kDFrac
  have kPosW := k_PosW (P := P) (w := w) (base := base) T DPosW kDFracW
  have kScl := k_Scl (P := P) (w := w) (base := base) T DScl kGcd
  have kR1 : Kn P w K mg base 4 "_law_ordered" ["_law_fracs"] (spOrd K (Tt P1 P2)) := ⟨f_R1, _, PySem.W.mg_of X G a_R1, k_R1, b_R1, ok_Ord T (PySem.W.mg_none_of X G z_sorted) l_R1 cd_R1 TB1 n12 kScl⟩
  have kLTimes := k_LTimes (P := P) (w := w) (base := base) T DLTimes kLowest
  have kLPlus := k_LPlus (P := P) (w := w) (base := base) T DLPlus kLowest
  have kRequire := k_Require (P := P) (w := w) (base := base) T DRequire
  have kWhole := k_Whole (P := P) (w := w) (base := base) T DWhole
  have kFraction1 := k_Fraction1 (P := P) (w := w) (base := base) T D1Fraction kRequire kWhole
  have kIsFraction := k_IsFraction (P := P) (w := w) (base := base) T DIsFraction kWhole
  have kPosi := k_Posi (P := P) (w := w) (base := base) T DPosi kIsFraction
  have kWholeU := k_WholeU (P := P) (w := w) (base := base) T DWholeU
  have kWithin := k_Within (P := P) (w := w) (base := base) T DWithin kWholeU
  have kEmp := k_Emp (P := P) (w := w) (base := base) T DEmp
  have kFloor := k_Floor (P := P) (w := w) (base := base) T DFloor kRequire kIsFraction
  have kFraction := k_Fraction (P := P) (w := w) (base := base) T DFraction kRequire kWhole
  have kTimes := k_Times (P := P) (w := w) (base := base) T DTimes kRequire kIsFraction kFraction
  have kClp := k_Clp (P := P) (w := w) (base := base) T DClp
  have kCompare := k_Compare (P := P) (w := w) (base := base) T DCompare kRequire kIsFraction
  have kMagn := k_Magn (P := P) (w := w) (base := base) T DMagn kRequire kIsFraction
  have kMinus := k_Minus (P := P) (w := w) (base := base) T DMinus kRequire kIsFraction kFraction
  have kOff := k_Off (P := P) (w := w) (base := base) T DOff kMagn kMinus kFraction
  have kNearer := k_Nearer (P := P) (w := w) (base := base) (PySem.W.mg_none_of X G z_sum) T DNearer kCompare kOff
  have kTeeth := k_Teeth (P := P) (w := w) (base := base) (PySem.W.mg_of X G g_MOST_PAIR_TEETH) kFraction1 T DTeeth kRequire kPosi kWithin kEmp kFloor kTimes kClp kNearer
  have kalike3 := k_alike (P := P) (w := w) (base := base) T DAlike 3
  have kFar := k_Far (P := P) (w := w) (base := base) T DFar
  have kDueT := k_DueT (P := P) (w := w) (base := base) (PySem.W.mg_none_of X G z_sum) T DDueT kFar
  have kxRequire := kx_Require (P := P) (w := w) (base := base) B DRequire
  have kPosiN := k_PosiN (P := P) (w := w) (base := base) T DPosi kIsFraction
  have kxEmp := kx_Emp (P := P) (w := w) (base := base) Mi DEmp
  have kxTeeth := kx_Teeth (P := P) (w := w) (base := base) (PySem.W.mg_of X G g_MOST_PAIR_TEETH) DTeeth kxRequire kRequire kPosi kPosiN kWithin kxEmp
  have kPick := k_Pick (P := P) (w := w) (base := base) T DPick kTake
  have kTurned := k_Turned (P := P) (w := w) (base := base) T DTurned kTake
  have kBadFrac := k_BadFrac (P := P) (w := w) (base := base) T DBadFrac kTake kDFrac kPick
  have kLMinus := k_LMinus (P := P) (w := w) (base := base) T DLMinus kLowest
  have kDPos := k_DPos (P := P) (w := w) (base := base) T DDPos kTake kLowest
  have kBPos := k_BPos (P := P) (w := w) (base := base) T DBPos kTake kPick kBadFrac kLMinus kDPos
  have kR2 : Kn P w K mg base 9 "_law_refused" ["_law_store_here", "_law_value", "_law_low", "_law_high"] (spRfd K P1 P2) := ⟨f_R2, _, PySem.W.mg_of X G a_R2, k_R2, b_R2, ok_Rfd T B AT AM AS l_R2 cd_R2 TB2 n12 kxTeeth kTake kPick kTurned kalike3 kBPos⟩
  exact ok_law FL (PySem.W.mg_none_of X G z_sum) T kStore kTB kPosW kTake kLowest kR1 kLTimes kLPlus kRange kTeeth kalike3 kDueT kFar kR2
end My

namespace My
open PySem PySem.Spec PyProof.Rows L2
/-- the end as the head asks for it -/
theorem law_at {l : PySem.W.OpenLaw} {w : World} {K : PySem.W.Frag} {h : Heap} {mg : Str → Option Value} {fa c1 c2 P1 P2 : Addr} (hT1 : h.get? P1 = some { cls := .none, data := .fields #[] }) (hT2 : h.get? P2 = some { cls := .none, data := .fields #[] }) (nP1 : K.lookup P1 = none) (nP2 : K.lookup P2 = none)
    (C1 : PySem.W.CodeHd h c1 P1) (C2 : PySem.W.CodeHd h c2 P2) (n12 : P1 ≠ P2)
    (R : ∃ fd : FuncData, (∀ (s : Shared) (v : Value), BindsTo s fd ⟨[v], []⟩ [("_law_script", v)]) ∧ ∀ base : Heap, K.In base → base.Ns mainGlobals mg → ∀ P1 : Addr, ∀ P2 : Addr, LamX.TabB base mg c1 P1 → LamX.TabB base mg c2 P2 → P1 ≠ P2 → FnOk l.prog w K mg base CX0 10 fa fd ["_law_script"] (spLaw K P1 P2)) :
    LamX.LawAtS l w K CX0 10 63 "_law_script" mg fa h := by
  obtain ⟨fd, hb, F⟩ := R
  have m1 : (c1, P1) ∈ [(c1, P1), (c2, P2)] := List.mem_cons_self ..
  have m2 : (c2, P2) ∈ [(c1, P1), (c2, P2)] := List.mem_cons_of_mem _ (List.mem_cons_self ..)
  have all : ∀ {p : Addr × Addr} {q : Addr × Addr → Prop}, q (c1, P1) → q (c2, P2) → p ∈ [(c1, P1), (c2, P2)] → q p := fun {p q} h1 h2 hp => by
    simp only [List.mem_cons, List.not_mem_nil, or_false] at hp
    rcases hp with rfl | rfl
    · exact h1
    · exact h2
  refine ⟨fd, [(c1, P1), (c2, P2)], spLaw K P1 P2, fun p hp => all (q := fun p => h.get? p.2 = _) hT1 hT2 hp, fun p hp => all (q := fun p => K.lookup p.2 = none) nP1 nP2 hp, fun p hp => all (q := fun p => PySem.W.CodeHd h p.1 p.2) C1 C2 hp, hb, fun H a ns hl hbits hH hS => ?_, fun base X G TB => F base X G P1 P2 (TB _ m1) (TB _ m2) n12⟩
  exact ⟨a, ns, rfl, hS, hH _ m1, hH _ m2, fun _ => rfl⟩
theorem walk_mk {l : PySem.W.OpenLaw} {q : Program} {loose : List Str} {XP : (Str → Option Value) → Heap → Prop} {YP : World → Heap → Prop} {d : DefRec} {K : Params → PySem.W.Frag} (hn : l.most = some 63) (hdf : d.params.defaults = [])
    (hY : ∀ (w : World) (h : Heap), YP w h → (K w.params).In h)
    (F : ∀ (w : World) (mg : Str → Option Value) (fa : Addr) (h : Heap), YP w h → (K w.params).In h → h.Ns mainGlobals mg → mg d.name = some (.ref fa) → LamX.LawAtS l w (K w.params) CX0 10 63 "_law_script" mg fa h) :
    PySem.W.WalkO q loose XP YP l.row.toRowW d [] (fun f vs => PySem.call f vs) :=
  LamX.walk_ofTs (CX := fun _ => CX0) hn (by decide) hdf ⟨rfl, by decide, by decide⟩ hY F fun _ _ _ _ _ z => z
end My
open PySem PySem.W PyProof.Rows
set_option maxRecDepth 100000 in
set_option maxHeartbeats 0 in
theorem PySem.Challenge.cw_wheelsky_k33_teeth_pair_holds : PySem.Challenge.rw_wheelsky_k33_teeth_pair.Holds := by
  w_on; o_law; k_head; (case hw => w_witness2)
  k_fill
  refine My.walk_mk (l := PySem.Challenge.rw_wheelsky_k33_teeth_pair) rfl rfl (fun w h Y => km_in_of Y) ?F
  case F =>
    intro w mg fa h Y KX G hmg
    refine' My.law_at (km_tabs_of Y _ (List.mem_cons_of_mem _ (List.mem_cons_self ..))) (km_tabs_of Y _ (List.mem_cons_self ..)) ?nP1 ?nP2 ?cH1 ?cH2 ?d12 (My.all_mk KX G hmg ?z_int ?z_len ?z_list ?z_abs ?z_range ?z_min ?z_max ?z_isinstance ?z_bool ?z_str ?z_dict ?z_tuple ?z_gcd ?z_VE ?aC ?aS ?xL ?hbm ?sa ?ga ?gg ?gc ?nw ?aI ?tI ?lI ?cI ?kI ?kC ?eC ?tC ?hC ?mC ?vC ?spc ?tkc ?eS ?hS ?tS ?cS ?a_Mismatch ?t_Mismatch ?h_Mismatch ?s_Mismatch ?n_Mismatch ?a_Still ?t_Still ?h_Still ?s_Still ?n_Still ?a_Endless ?t_Endless ?h_Endless ?s_Endless ?n_Endless ?a_TooMany ?t_TooMany ?h_TooMany ?s_TooMany ?n_TooMany ?a_NoName ?t_NoName ?h_NoName ?s_NoName ?n_NoName ?a_Taken ?t_Taken ?h_Taken ?s_Taken ?n_Taken ?a_Locked ?t_Locked ?h_Locked ?s_Locked ?n_Locked ?a_Looped ?t_Looped ?h_Looped ?s_Looped ?n_Looped ?a_Broken ?t_Broken ?h_Broken ?s_Broken ?n_Broken ?a_ReadError ?t_ReadError ?h_ReadError ?s_ReadError ?n_ReadError ?a_A ?l_A ?c_A ?k_A ?a_R1 ?l_R1 ?cd_R1 ?k_R1 ?a_R2 ?l_R2 ?cd_R2 ?k_R2 ?aL ?lL ?cL ?kL ?z_sum ?a0Store ?l0Store ?c0Store ?k0Store ?a0TB ?l0TB ?c0TB ?k0TB ?a0Take ?l0Take ?c0Take ?k0Take ?a0Mixed ?l0Mixed ?c0Mixed ?k0Mixed ?a0Range ?l0Range ?c0Range ?k0Range ?a0PosW ?l0PosW ?c0PosW ?k0PosW ?a0DFracW ?l0DFracW ?c0DFracW ?k0DFracW ?a0Lowest ?l0Lowest ?c0Lowest ?k0Lowest ?a0Gcd ?l0Gcd ?c0Gcd ?k0Gcd ?a0Great ?l0Great ?c0Great ?k0Great ?a0LInt ?l0LInt ?c0LInt ?k0LInt ?a0DFrac ?l0DFrac ?c0DFrac ?k0DFrac ?z_sorted ?a0Scl ?l0Scl ?c0Scl ?k0Scl ?a0LTimes ?l0LTimes ?c0LTimes ?k0LTimes ?a0LPlus ?l0LPlus ?c0LPlus ?k0LPlus ?g_MOST_PAIR_TEETH ?a0Fraction ?l0Fraction ?c0Fraction ?k0Fraction ?lT0Fraction ?a0Require ?l0Require ?c0Require ?k0Require ?a0Whole ?l0Whole ?c0Whole ?k0Whole ?a0Teeth ?l0Teeth ?c0Teeth ?k0Teeth ?a0Posi ?l0Posi ?c0Posi ?k0Posi ?a0IsFraction ?l0IsFraction ?c0IsFraction ?k0IsFraction ?a0Within ?l0Within ?c0Within ?k0Within ?a0WholeU ?l0WholeU ?c0WholeU ?k0WholeU ?a0Emp ?l0Emp ?c0Emp ?k0Emp ?a0Floor ?l0Floor ?c0Floor ?k0Floor ?a0Times ?l0Times ?c0Times ?k0Times ?a0Clp ?l0Clp ?c0Clp ?k0Clp ?a0Nearer ?l0Nearer ?c0Nearer ?k0Nearer ?a0Compare ?l0Compare ?c0Compare ?k0Compare ?a0Off ?l0Off ?c0Off ?k0Off ?a0Magn ?l0Magn ?c0Magn ?k0Magn ?a0Minus ?l0Minus ?c0Minus ?k0Minus ?a0Alike ?l0Alike ?c0Alike ?k0Alike ?a0DueT ?l0DueT ?c0DueT ?k0DueT ?a0Far ?l0Far ?c0Far ?k0Far ?mm_k ?mm_x ?mm_s ?mm_v ?mm_y ?mm_g ?mm_t ?mm_c ?mm_o ?ms_BadValue ?n_mBadValue ?ms_Still ?n_mStill ?ms_Endless ?n_mEndless ?ms_TooMany ?n_mTooMany ?ms_NoName ?n_mNoName ?ms_Taken ?n_mTaken ?ms_Locked ?n_mLocked ?ms_Looped ?n_mLooped ?ms_Broken ?n_mBroken ?ms_ReadError ?n_mReadError ?a0Pick ?l0Pick ?c0Pick ?k0Pick ?a0Turned ?l0Turned ?c0Turned ?k0Turned ?a0BPos ?l0BPos ?c0BPos ?k0BPos ?a0BadFrac ?l0BadFrac ?c0BadFrac ?k0BadFrac ?a0LMinus ?l0LMinus ?c0LMinus ?k0LMinus ?a0DPos ?l0DPos ?c0DPos ?k0DPos)
    (case z_int => k_is); (case z_len => k_is); (case z_list => k_is); (case z_abs => k_is); (case z_range => k_is); (case z_min => k_is); (case z_max => k_is); (case z_isinstance => k_is)
    (case z_bool => k_is); (case z_str => k_is); (case z_dict => k_is); (case z_tuple => k_is); (case z_gcd => k_is); (case z_VE => k_is); (case aC => k_is); (case aS => k_is)
    (case xL => k_is); (case hbm => decide +kernel); (case sa => k_is); (case ga => k_is); (case gg => k_is); (case gc => k_is); (case nw => k_is); (case aI => k_is)
    (case tI => k_is); (case lI => k_is); (case cI => k_is); (case kI => k_is); (case kC => k_is); (case eC => k_is); (case tC => k_is); (case hC => k_is)
    (case mC => k_is); (case vC => k_is); (case spc => k_is); (case tkc => k_is); (case eS => k_is); (case hS => k_is); (case tS => k_is); (case cS => k_is)
    (case a_Mismatch => k_is); (case t_Mismatch => k_is); (case h_Mismatch => k_is); (case s_Mismatch => k_is); (case n_Mismatch => decide +kernel); (case a_Still => k_is); (case t_Still => k_is); (case h_Still => k_is)
    (case s_Still => k_is); (case n_Still => decide +kernel); (case a_Endless => k_is); (case t_Endless => k_is); (case h_Endless => k_is); (case s_Endless => k_is); (case n_Endless => decide +kernel); (case a_TooMany => k_is)
    (case t_TooMany => k_is); (case h_TooMany => k_is); (case s_TooMany => k_is); (case n_TooMany => decide +kernel); (case a_NoName => k_is); (case t_NoName => k_is); (case h_NoName => k_is); (case s_NoName => k_is)
    (case n_NoName => decide +kernel); (case a_Taken => k_is); (case t_Taken => k_is); (case h_Taken => k_is); (case s_Taken => k_is); (case n_Taken => decide +kernel); (case a_Locked => k_is); (case t_Locked => k_is)
    (case h_Locked => k_is); (case s_Locked => k_is); (case n_Locked => decide +kernel); (case a_Looped => k_is); (case t_Looped => k_is); (case h_Looped => k_is); (case s_Looped => k_is); (case n_Looped => decide +kernel)
    (case a_Broken => k_is); (case t_Broken => k_is); (case h_Broken => k_is); (case s_Broken => k_is); (case n_Broken => decide +kernel); (case a_ReadError => k_is); (case t_ReadError => k_is); (case h_ReadError => k_is)
    (case s_ReadError => k_is); (case n_ReadError => decide +kernel); (case a_A => k_is); (case l_A => k_is); (case c_A => k_is); (case k_A => k_is); (case a_R1 => k_is); (case l_R1 => k_is)
    (case cd_R1 => k_is); (case k_R1 => k_is); (case a_R2 => k_is); (case l_R2 => k_is); (case cd_R2 => k_is); (case k_R2 => k_is); (case aL => k_is); (case lL => k_is)
    (case cL => k_is); (case kL => k_is); (case z_sum => k_is); (case a0Store => k_is); (case l0Store => k_is); (case c0Store => k_is); (case k0Store => k_is); (case a0TB => k_is)
    (case l0TB => k_is); (case c0TB => k_is); (case k0TB => k_is); (case a0Take => k_is); (case l0Take => k_is); (case c0Take => k_is); (case k0Take => k_is); (case a0Mixed => k_is)
    (case l0Mixed => k_is); (case c0Mixed => k_is); (case k0Mixed => k_is); (case a0Range => k_is); (case l0Range => k_is); (case c0Range => k_is); (case k0Range => k_is); (case a0PosW => k_is)
    (case l0PosW => k_is); (case c0PosW => k_is); (case k0PosW => k_is); (case a0DFracW => k_is); (case l0DFracW => k_is); (case c0DFracW => k_is); (case k0DFracW => k_is); (case a0Lowest => k_is)
    (case l0Lowest => k_is); (case c0Lowest => k_is); (case k0Lowest => k_is); (case a0Gcd => k_is); (case l0Gcd => k_is); (case c0Gcd => k_is); (case k0Gcd => k_is); (case a0Great => k_is)
    (case l0Great => k_is); (case c0Great => k_is); (case k0Great => k_is); (case a0LInt => k_is); (case l0LInt => k_is); (case c0LInt => k_is); (case k0LInt => k_is); (case a0DFrac => k_is)
    (case l0DFrac => k_is); (case c0DFrac => k_is); (case k0DFrac => k_is); (case z_sorted => k_is); (case a0Scl => k_is); (case l0Scl => k_is); (case c0Scl => k_is); (case k0Scl => k_is)
    (case a0LTimes => k_is); (case l0LTimes => k_is); (case c0LTimes => k_is); (case k0LTimes => k_is); (case a0LPlus => k_is); (case l0LPlus => k_is); (case c0LPlus => k_is); (case k0LPlus => k_is)
    (case g_MOST_PAIR_TEETH => k_is); (case a0Fraction => k_is); (case l0Fraction => k_is); (case c0Fraction => k_is); (case k0Fraction => k_is); (case lT0Fraction => k_is); (case a0Require => k_is); (case l0Require => k_is)
    (case c0Require => k_is); (case k0Require => k_is); (case a0Whole => k_is); (case l0Whole => k_is); (case c0Whole => k_is); (case k0Whole => k_is); (case a0Teeth => k_is); (case l0Teeth => k_is)
    (case c0Teeth => k_is); (case k0Teeth => k_is); (case a0Posi => k_is); (case l0Posi => k_is); (case c0Posi => k_is); (case k0Posi => k_is); (case a0IsFraction => k_is); (case l0IsFraction => k_is)
    (case c0IsFraction => k_is); (case k0IsFraction => k_is); (case a0Within => k_is); (case l0Within => k_is); (case c0Within => k_is); (case k0Within => k_is); (case a0WholeU => k_is); (case l0WholeU => k_is)
    (case c0WholeU => k_is); (case k0WholeU => k_is); (case a0Emp => k_is); (case l0Emp => k_is); (case c0Emp => k_is); (case k0Emp => k_is); (case a0Floor => k_is); (case l0Floor => k_is)
    (case c0Floor => k_is); (case k0Floor => k_is); (case a0Times => k_is); (case l0Times => k_is); (case c0Times => k_is); (case k0Times => k_is); (case a0Clp => k_is); (case l0Clp => k_is)
    (case c0Clp => k_is); (case k0Clp => k_is); (case a0Nearer => k_is); (case l0Nearer => k_is); (case c0Nearer => k_is); (case k0Nearer => k_is); (case a0Compare => k_is); (case l0Compare => k_is)
    (case c0Compare => k_is); (case k0Compare => k_is); (case a0Off => k_is); (case l0Off => k_is); (case c0Off => k_is); (case k0Off => k_is); (case a0Magn => k_is); (case l0Magn => k_is)
    (case c0Magn => k_is); (case k0Magn => k_is); (case a0Minus => k_is); (case l0Minus => k_is); (case c0Minus => k_is); (case k0Minus => k_is); (case a0Alike => k_is); (case l0Alike => k_is)
    (case c0Alike => k_is); (case k0Alike => k_is); (case a0DueT => k_is); (case l0DueT => k_is); (case c0DueT => k_is); (case k0DueT => k_is); (case a0Far => k_is); (case l0Far => k_is)
    (case c0Far => k_is); (case k0Far => k_is); (case mm_k => k_is); (case mm_x => k_exc); (case mm_s => k_is); (case mm_v => k_is); (case mm_y => k_is); (case mm_g => k_is)
    (case mm_t => k_is); (case mm_c => k_is); (case mm_o => k_is); (case ms_BadValue => k_is); (case n_mBadValue => decide +kernel); (case ms_Still => k_is); (case n_mStill => decide +kernel); (case ms_Endless => k_is)
    (case n_mEndless => decide +kernel); (case ms_TooMany => k_is); (case n_mTooMany => decide +kernel); (case ms_NoName => k_is); (case n_mNoName => decide +kernel); (case ms_Taken => k_is); (case n_mTaken => decide +kernel); (case ms_Locked => k_is)
    (case n_mLocked => decide +kernel); (case ms_Looped => k_is); (case n_mLooped => decide +kernel); (case ms_Broken => k_is); (case n_mBroken => decide +kernel); (case ms_ReadError => k_is); (case n_mReadError => decide +kernel); (case a0Pick => k_is)
    (case l0Pick => k_is); (case c0Pick => k_is); (case k0Pick => k_is); (case a0Turned => k_is); (case l0Turned => k_is); (case c0Turned => k_is); (case k0Turned => k_is); (case a0BPos => k_is)
    (case l0BPos => k_is); (case c0BPos => k_is); (case k0BPos => k_is); (case a0BadFrac => k_is); (case l0BadFrac => k_is); (case c0BadFrac => k_is); (case k0BadFrac => k_is); (case a0LMinus => k_is)
    (case l0LMinus => k_is); (case c0LMinus => k_is); (case k0LMinus => k_is); (case a0DPos => k_is); (case l0DPos => k_is); (case c0DPos => k_is); (case k0DPos => k_is)
    (case cH1 => exact codeHd_of_K KX (by kernel_rfl))
    (case cH2 => exact codeHd_of_K KX (by kernel_rfl))
    (case nP1 => kernel_rfl)
    (case nP2 => kernel_rfl)
    (case d12 => decide +kernel)
