import PyProof.Rows.All
import Wide.All
import OpenK.AllK
import Wide.FinOn
import HandS.ForMost
import HandS.Exc
import HandS.Codes
import HandS.Wide
import HandS.WideBits
import HandS.Gcd
import HandS.IsInst
import HandS.Defaults
import HandS.Conv
import HandS.Sort
import HandS.List
import KE.KDictList
import HandS.Dict
import HandS.ClsMeth
import HandS.SlotsOwn
import KE.KOpsOwn
import PyProof.InstEq
import HandS.Zip
import KE.KDictZip
import KE.KTupSum
import HandS.Lambda
import HandS.Small
import HandS.ForExc
import HandS.ExcInit
import HandS.ExcField
import HandS.ExcIs
import KE.KExcIs
import HandS.CallLocal
import HandS.Comp
import HandS.Style
import HandS.TupAny
import HandS.TupLe
import HandS.ListItems
import HandS.Iter
import HandS.Walk
import KE.GoesEnumKw
import KE.GoesNew
import KE.GoesMore
import KE.KMinKey
import HandS.SortKw
import HandS.EndTab
import PySem.Challenge.RW_wheelsky_k51_best_word_errs_least
set_option Elab.async false
set_option linter.all false
set_option maxRecDepth 100000
set_option maxHeartbeats 4000000
namespace My
open PySem PySem.Spec PyProof.Rows L2
def topS (i : Nat) : Stmt := PySem.Challenge.pw_wheelsky_k51_best_word_errs_least.main.body.getD i (.Pass ⟨0, 0, 0, 0⟩)
/-! ### a def of the top, and what it is known to keep -/
structure Dfn (K : PySem.W.Frag) (mg : Str → Option Value) (x : Str) (st : Stmt) (ps : List Str) : Prop where
  ex : ∃ f fd, Fun K x x st f fd ∧ mg x = some (.ref f) ∧ Binds K fd ps []
structure Kn (P : Program) (w : World) (K : PySem.W.Frag) (mg : Str → Option Value) (base : Heap) (k : Nat) (x : Str) (ps : List Str) (sp : Sp) : Prop where
  ex : ∃ f fd, mg x = some (.ref f) ∧ PySem.W.keepIn K (.ref f) = true ∧ Binds K fd ps [] ∧ FnOk P w K mg base CX0 k f fd ps sp
theorem Kn.mk' {P : Program} {w : World} {K : PySem.W.Frag} {mg : Str → Option Value} {base : Heap} {x : Str} {st : Stmt} {N ps : List Str} {k : Nat} {sp : Sp} (D : Dfn K mg x st ps) (S : FnScope N ps (defScope st)) (len : ∀ vs H Q E, sp vs H Q E → vs.length = ps.length)
    (hbody : ∀ (f : Addr) (cdv : Value) (A : Around) (outer : List Env) (s : Shared) (H : Hp) (vs : List V) (Q : VK) (E : XK), Room k (A.deeper (envOfC x (defScope st) s.heap.objs.size f cdv)) → sp vs H Q E →
      ∃ t, PSs (cxOf CX0 P w K mg base N x (defScope st) f cdv A outer s H E).nox (defBody st) t ∧ t { nx := fun _ H' => Q .non H', rt := Q } (start N vs) H) : Kn P w K mg base (k + 1) x ps sp := by
  obtain ⟨f, fd, F, m, b⟩ := D.ex
  exact ⟨f, fd, m, F.kp, b, F.ok S len (hbody f)⟩
section
variable {X : Cx}
theorem pe_kn {j k : Nat} {x : Str} {ps : List Str} {sp : Sp} {p pos : Pos} {e : Expr} {es : List Expr} {t : TA} (F : Kn X.prog X.w X.K X.mg X.base k x ps sp) (hr : Room j X.A) (hg : Gl X x) (ha : PA X (e :: es) t) (hj : k ≤ j := by omega)
    (hdb : (x == ("__debug__" : Str)) = false := by decide) (he : starEach (e :: es) X.env = (false, eval e X.env) :: starEach es X.env := by rfl) (hpl : (backTo pos (starEach es X.env)).any (·.1) = false := by rfl) :
    PE X (.Call (.Name x p) (e :: es) [] pos) (tCall sp [] E0 t) := by
  obtain ⟨f, fd, m, kp, b, G⟩ := F.ex
  exact pe_call G (hr.mono hj) hg m kp b .nil pass0 ha hdb he hpl
end
/-! ### heaps -/
/-- all but s stands -/
def Kp (s : Addr) (H H' : Hp) : Prop := (∀ b o, b ≠ s → H b = some o → H' b = some o) ∧ ∀ x r, H s = some (.lst (x :: r)) → ∃ r', H' s = some (.lst (x :: r'))
instance {s : Addr} {H H' : Hp} : CoeFun (Kp s H H') (fun _ => ∀ b o, b ≠ s → H b = some o → H' b = some o) := ⟨fun h => h.1⟩
theorem Kp.refl (s : Addr) (H : Hp) : Kp s H H := ⟨fun _ _ _ e => e, fun _ r e => ⟨r, e⟩⟩
theorem Kp.trans {s : Addr} {H H1 H2 : Hp} (a : Kp s H H1) (b : Kp s H1 H2) : Kp s H H2 := ⟨fun c o n e => b.1 c o n (a.1 c o n e), fun x r e => by
  obtain ⟨r', e'⟩ := a.2 x r e
  exact b.2 x r' e'⟩
theorem Kp.same {s : Addr} {H H1 : Hp} (a : Same H H1) : Kp s H H1 := ⟨fun b o _ e => a b o e, fun x r e => ⟨r, a _ _ e⟩⟩
theorem Same.new {H : Hp} {p : Addr} (h : H p = none) (o : HO) : Same H (upd H p o) := fun b u q => by rw [upd_ne (ne_of_none q h)]; exact q
theorem Kp.put {s : Addr} {H : Hp} {x : V} {r r' : List V} (h : H s = some (.lst (x :: r))) : Kp s H (upd H s (.lst (x :: r'))) := ⟨fun b u n e => by rw [upd_ne n]; exact e, fun y q e => by
  rw [h] at e
  cases e
  exact ⟨r', upd_same⟩⟩
/-- the store of the draws at s -/
def Sr (K : PySem.W.Frag) (H : Hp) (s : Addr) (sc : Addr) (ns : List Int) (i b c d e f : Int) : Prop :=
  H s = some (.lst [.ref sc, .int i, .int b, .int c, .int d, .int e, .int f]) ∧ H sc = some (.lst (ns.map V.int)) ∧ s ≠ sc ∧ 0 ≤ i ∧ K.lookup s = none ∧ K.lookup sc = none
def Sto (K : PySem.W.Frag) (H : Hp) (s : Addr) : Prop := ∃ sc ns i b c d e f, Sr K H s sc ns i b c d e f
theorem Sr.same {K : PySem.W.Frag} {H H1 : Hp} {s sc : Addr} {ns : List Int} {i b c d e f : Int} (h : Sr K H s sc ns i b c d e f) (a : Same H H1) : Sr K H1 s sc ns i b c d e f := ⟨a _ _ h.1, a _ _ h.2.1, h.2.2⟩
theorem Sto.same {K : PySem.W.Frag} {H H1 : Hp} {s : Addr} (h : Sto K H s) (a : Same H H1) : Sto K H1 s := by
  obtain ⟨sc, ns, i, b, c, d, e, f, h⟩ := h
  exact ⟨sc, ns, i, b, c, d, e, f, h.same a⟩
theorem Sr.put {K : PySem.W.Frag} {H : Hp} {s sc : Addr} {ns : List Int} {i b c d e f i' b' c' d' e' f' : Int} (h : Sr K H s sc ns i b c d e f) (hi : 0 ≤ i') :
    Sr K (upd H s (.lst [.ref sc, .int i', .int b', .int c', .int d', .int e', .int f'])) s sc ns i' b' c' d' e' f' :=
  ⟨upd_same, by rw [upd_ne (Ne.symm h.2.2.1)]; exact h.2.1, h.2.2.1, hi, h.2.2.2.2⟩
theorem Kp.seqT {s : Addr} {K : PySem.W.Frag} {H H' : Hp} {a : Addr} {xs ys : List V} (e : Kp s H H') (hs : H s = some (.lst ys)) (h : SqT K H a xs) : SqT K H' a xs := by
  rcases h with (h | ⟨o, h⟩) | h
  · exact .inl (.inl (e _ _ (by rintro rfl; rw [hs] at h; cases h) h))
  · exact .inl (.inr ⟨o, e _ _ (by rintro rfl; rw [hs] at h; cases h) h⟩)
  · exact .inr h
theorem Same.seqT {K : PySem.W.Frag} {H H' : Hp} {a : Addr} {xs : List V} (e : Same H H') (h : SqT K H a xs) : SqT K H' a xs := by
  rcases h with (h | ⟨o, h⟩) | h
  · exact .inl (.inl (e _ _ h))
  · exact .inl (.inr ⟨o, e _ _ h⟩)
  · exact .inr h
/-- the built-ins' names, unbound -/
structure Bt (K : PySem.W.Frag) (mg : Str → Option Value) : Prop where
  b_int : mg "int" = none
  b_len : mg "len" = none
  b_list : mg "list" = none
  b_abs : mg "abs" = none
  b_range : mg "range" = none
  b_min : mg "min" = none
  b_max : mg "max" = none
  b_isinstance : mg "isinstance" = none
  b_bool : mg "bool" = none
  b_str : mg "str" = none
  b_dict : mg "dict" = none
  b_tuple : mg "tuple" = none
  g_gcd : mg "gcd" = some (.builtin "math.gcd")
end My

namespace My
open PySem PySem.Spec PyProof.Rows L2
theorem cx_K {CX : CXT} {P : Program} {w : World} {K : PySem.W.Frag} {mg : Str → Option Value} {base : Heap} {N : List Str} {qual : Str} {scope : Scope} {f : Addr} {cd : Value} {A : Around} {outer : List Env} {s : Shared} {H : Hp} {E : XK} : (cxOf CX P w K mg base N qual scope f cd A outer s H E).K = K := rfl
/-! ### what stands at an address, the written part first -/
def obK (o : Obj) : Option HO := match o.cls, o.data with
  | .type "tuple", .seq its _ => if its.size ≤ sizeLine then (its.toList.mapM absV).map HO.tup else none
  | _, _ => none
def ob (K : PySem.W.Frag) (H : Hp) (a : Addr) : Option HO := match K.lookup a with
  | some o => obK o
  | none => H a
theorem absV_rel {u : Value} {x : V} (h : absV u = some x) : RelV x u := by
  cases u <;> simp only [absV, Option.some.injEq, reduceCtorEq] at h <;> subst h
  all_goals first | exact rfl | exact ⟨_, rfl⟩
theorem absV_all : ∀ {us : List Value} {xs : List V}, us.mapM absV = some xs → Vals xs us
  | [], xs, h => by
    simp at h
    subst h
    exact .nil
  | u :: us, xs, h => by
    rw [List.mapM_cons] at h
    cases e1 : absV u with
    | none => simp [e1] at h
    | some x =>
      cases e2 : us.mapM absV with
      | none => simp [e1, e2] at h
      | some r =>
        simp [e1, e2] at h
        subst h
        exact .cons (absV_rel e1) (absV_all e2)
theorem obK_tup {o : Obj} {z : HO} (h : obK o = some z) : ∃ xs its n, z = .tup xs ∧ o.cls = .type "tuple" ∧ o.data = .seq its n ∧ its.size ≤ sizeLine ∧ Vals xs its.toList := by
  unfold obK at h
  split at h
  · rename_i its n e1 e2
    split at h
    · rename_i hz
      cases e : its.toList.mapM absV with
      | none => rw [e] at h; cases h
      | some xs =>
        rw [e] at h
        exact ⟨xs, its, n, (Option.some.inj h).symm, e1, e2, hz, absV_all e⟩
    · cases h
  · cases h
theorem ob_none {K : PySem.W.Frag} {H : Hp} {a : Addr} (h : K.lookup a = none) : ob K H a = H a := by unfold ob; rw [h]
theorem ob_tup {K : PySem.W.Frag} {H : Hp} {a : Addr} {xs : List V} (h : ob K H a = some (.tup xs)) : SqT K H a xs := by
  unfold ob at h
  split at h
  · rename_i o e
    obtain ⟨ys, its, n, z, h1, h2, h3, h4⟩ := obK_tup h
    cases z
    exact .inr ⟨o, its, n, e, h1, h2, h3, h4⟩
  · exact .inl (.inl h)
theorem ob_H {K : PySem.W.Frag} {H : Hp} {a : Addr} {z : HO} (h : ob K H a = some z) (n : ∀ xs, z ≠ .tup xs) : H a = some z ∧ K.lookup a = none := by
  unfold ob at h
  split at h
  · obtain ⟨ys, its, n', z', _⟩ := obK_tup h
    exact absurd z' (n ys)
  · rename_i e
    exact ⟨h, e⟩
theorem ob_lst {K : PySem.W.Frag} {H : Hp} {a : Addr} {xs : List V} (h : ob K H a = some (.lst xs)) : SqL K H a xs := .of (ob_H h (fun _ z => by cases z)).1
theorem ob_same {K : PySem.W.Frag} {H H' : Hp} {a : Addr} {z : HO} (e : Same H H') (h : ob K H a = some z) : ob K H' a = some z := by
  unfold ob at h ⊢
  split
  · rename_i o q
    rw [q] at h
    exact h
  · rename_i q
    rw [q] at h
    exact e _ _ h
theorem ob_kp {K : PySem.W.Frag} {H H' : Hp} {s a : Addr} {ys : List V} {z : HO} (e : Kp s H H') (hs : H s = some (.lst ys)) (n : ∀ ys, z ≠ .lst ys) (h : ob K H a = some z) : ob K H' a = some z := by
  unfold ob at h ⊢
  split
  · rename_i o q
    rw [q] at h
    exact h
  · rename_i q
    rw [q] at h
    exact e _ _ (by rintro rfl; rw [hs] at h; exact n _ (Option.some.inj h).symm) h
theorem ob_new {K : PySem.W.Frag} {H : Hp} {p : Addr} {o : HO} (k : K.lookup p = none) : ob K (upd H p o) p = some o := by rw [ob_none k, upd_same]
/-- a built-in type's name, of what stands somewhere -/
def tyO : Option HO → Option String
  | some (.tup _) => some "tuple"
  | some (.lst _) => some "list"
  | some (.dK _) => some "dict"
  | _ => none
def tyN (K : PySem.W.Frag) (H : Hp) : V → Option String
  | .non => some "NoneType"
  | .bl _ => some "bool"
  | .int _ => some "int"
  | .str _ => some "str"
  | .ref a => tyO (ob K H a)
  | _ => none
theorem tyO_tup (xs : List V) : tyO (some (.tup xs)) = some "tuple" := rfl
theorem tyO_lst (xs : List V) : tyO (some (.lst xs)) = some "list" := rfl
theorem tyO_dK (xs : List (Key × V)) : tyO (some (.dK xs)) = some "dict" := rfl
theorem tyN_non {K : PySem.W.Frag} {H : Hp} : tyN K H .non = some "NoneType" := rfl
theorem tyN_bl {K : PySem.W.Frag} {H : Hp} (b : Bool) : tyN K H (.bl b) = some "bool" := rfl
theorem tyN_int {K : PySem.W.Frag} {H : Hp} (b : Int) : tyN K H (.int b) = some "int" := rfl
theorem tyN_str {K : PySem.W.Frag} {H : Hp} (b : Str) : tyN K H (.str b) = some "str" := rfl
theorem tyN_ref {K : PySem.W.Frag} {H : Hp} (a : Addr) : tyN K H (.ref a) = tyO (ob K H a) := rfl
theorem tyN_X {K : PySem.W.Frag} {H : Hp} {x : V} {t : String} (h : tyN K H x = some t) : TyX K H x (.type t) := by
  cases x with
  | non => cases h; exact .base .non
  | bl b => cases h; exact .base (.bl b)
  | int i => cases h; exact .base (.int i)
  | str z => cases h; exact .base (.str z)
  | byt _ => cases h
  | flt _ => cases h
  | ty _ => cases h
  | ref a =>
    have h1 : tyO (ob K H a) = some t := h
    cases e : ob K H a with
    | none => rw [e] at h1; cases h1
    | some z =>
      rw [e] at h1
      cases z with
      | tup xs =>
        cases h1
        unfold ob at e
        split at e
        · rename_i o q
          obtain ⟨_, _, _, _, c, _⟩ := obK_tup e
          exact .kTuple q c
        · exact .base (.tup e)
      | lst xs => cases h1; exact .base (.lst (ob_H e (fun _ z => by cases z)).1)
      | dK kvs => cases h1; exact .base (.dK (ob_H e (fun _ z => by cases z)).1)
      | _ => cases h1
/-- isinstance(x, T) by names -/
def isB (a b : String) : Bool := a == b || (a == "bool" && b == "int")
def rIsN (K : PySem.W.Frag) : List V → Hp → VK → Prop := fun xs H Q => ∃ x n, xs = [x, .ty n] ∧ n ∈ ["int", "bool", "str", "list", "tuple", "dict"] ∧ ∃ t, tyN K H x = some t ∧ Q (.bl (isB t n)) H
theorem tyN_mem {K : PySem.W.Frag} {H : Hp} {x : V} {t : String} (h : tyN K H x = some t) : t ∈ ["NoneType", "bool", "int", "str", "tuple", "list", "dict"] := by
  cases x with
  | non => cases h; decide
  | bl b => cases h; decide
  | int i => cases h; decide
  | str z => cases h; decide
  | byt _ => cases h
  | flt _ => cases h
  | ty _ => cases h
  | ref a =>
    have h1 : tyO (ob K H a) = some t := h
    unfold tyO at h1
    split at h1 <;> first | (cases h1; decide) | cases h1
theorem kit_all : ∀ t ∈ ["NoneType", "bool", "int", "str", "tuple", "list", "dict"], ∀ n ∈ ["int", "bool", "str", "list", "tuple", "dict"], kitB t n = some (isB t n) := by decide +kernel
/-- isinstance(x, (T, ..)) -/
def tyNs : List V → Option (List String)
  | [] => some []
  | .ty n :: r => if n ∈ ["int", "bool", "str", "list", "tuple", "dict"] then (tyNs r).map (n :: ·) else none
  | _ :: _ => none
theorem tyNs_of : ∀ {cs : List V} {ns : List String}, tyNs cs = some ns → cs = ns.map V.ty ∧ ∀ n ∈ ns, n ∈ ["int", "bool", "str", "list", "tuple", "dict"]
  | [], ns, h => by cases h; exact ⟨rfl, fun _ z => absurd z (by simp)⟩
  | c :: r, ns, h => by
    cases c with
    | ty n =>
      unfold tyNs at h
      split at h
      · rename_i hn
        cases e : tyNs r with
        | none => rw [e] at h; cases h
        | some ms =>
          rw [e] at h
          cases h
          obtain ⟨h1, h2⟩ := tyNs_of e
          refine ⟨by rw [h1]; rfl, fun m hm => ?_⟩
          rcases List.mem_cons.mp hm with z | z
          · rw [z]; exact hn
          · exact h2 m z
      · cases h
    | _ => cases h
theorem tyNs_lt : tyNs [.ty "list", .ty "tuple"] = some ["list", "tuple"] := by decide
def rIsT (K : PySem.W.Frag) : List V → Hp → VK → Prop := fun xs H Q => ∃ x tp, xs = [x, .ref tp] ∧ ∃ cs, H tp = some (.tup cs) ∧ ∃ ns, tyNs cs = some ns ∧ ∃ t, tyN K H x = some t ∧ Q (.bl (ns.any (isB t))) H
section
variable {X : Cx}
theorem call_isN : CallR X (.builtin "isinstance") (rIsN X.K) := fun pins s σ H xs us Q I r h => by
  obtain ⟨x, n, rfl, hn, t, ht, q⟩ := h
  exact call_isi pins s σ H _ us Q I r ⟨x, .ty n, .type t, .type n, isB t n, rfl, .ty n, tyN_X ht, kit_ty (kit_all t (tyN_mem ht) n hn), q⟩
theorem kitAny_of {K : PySem.W.Frag} {t : String} (ht : t ∈ ["NoneType", "bool", "int", "str", "tuple", "list", "dict"]) : ∀ {ns : List String}, (∀ n ∈ ns, n ∈ ["int", "bool", "str", "list", "tuple", "dict"]) → PySem.W.kitAny K (.type t) (ns.map Value.type) = some (ns.any (isB t))
  | [], _ => rfl
  | n :: ns, h => by
    have e1 : PySem.W.kitOne K (.type t) (.type n) = some (isB t n) := kit_ty (kit_all t ht n (h n List.mem_cons_self))
    have e2 := kitAny_of (K := K) ht (ns := ns) fun m hm => h m (List.mem_cons_of_mem _ hm)
    rw [List.map_cons, List.any_cons]
    unfold PySem.W.kitAny
    rw [e1]
    cases isB t n
    · simpa using e2
    · rfl
theorem clsV_all : ∀ ns : List String, Paired ClsV (ns.map V.ty) (ns.map Value.type)
  | [] => .nil
  | n :: ns => .cons (.ty n) (clsV_all ns)
theorem call_isT : CallR X (.builtin "isinstance") (rIsT X.K) := fun pins s σ H xs us Q I r h => by
  obtain ⟨x, tp, rfl, cs, hT, ns, hns, t, ht, q⟩ := h
  obtain ⟨rfl, hn⟩ := tyNs_of hns
  exact call_isiT pins s σ H _ us Q I r ⟨x, tp, _, .type t, _, _, rfl, hT, clsV_all ns, tyN_X ht, kitAny_of (tyN_mem ht) hn, q⟩
/-- xs[i], t[i] -/
def itsO : Option HO → Option (List V)
  | some (.tup xs) => some xs
  | some (.lst xs) => some xs
  | _ => none
theorem itsO_tup (xs : List V) : itsO (some (.tup xs)) = some xs := rfl
theorem itsO_lst (xs : List V) : itsO (some (.lst xs)) = some xs := rfl
theorem itsO_or {K : PySem.W.Frag} {H : Hp} {a : Addr} {xs : List V} (h : itsO (ob K H a) = some xs) : SqL K H a xs ∨ SqT K H a xs := by
  cases e : ob K H a with
  | none => rw [e] at h; cases h
  | some z =>
    rw [e] at h
    cases z with
    | tup ys => cases h; exact .inr (ob_tup e)
    | lst ys => cases h; exact .inl (ob_lst e)
    | _ => cases h
def rIxA (K : PySem.W.Frag) : R2 := fun x y H Q => ∃ p i, x = .ref p ∧ y = .int i ∧ ∃ xs, itsO (ob K H p) = some xs ∧ ∃ v, atI xs i = some v ∧ Q v H
theorem ix_any : IxR X (rIxA X.K) := fun value slice pins s σ H x y v u Q I rx ry h hs => by
  obtain ⟨p, i, rfl, rfl, xs, hx, w, hw, q⟩ := h
  rcases itsO_or hx with z | z
  · exact ix_list value slice pins s σ H _ _ v u Q I rx ry ⟨p, xs, i, w, rfl, rfl, z, hw, q⟩ hs
  · exact ix_tup value slice pins s σ H _ _ v u Q I rx ry ⟨p, xs, i, w, rfl, rfl, z, hw, q⟩ hs
theorem call_lenA : CallR X (.builtin "len") (fun xs H Q => ∃ p, xs = [.ref p] ∧ ∃ ys, itsO (ob X.K H p) = some ys ∧ Q (.int ys.length) H) := fun pins s σ H xs us Q I r h => by
  obtain ⟨p, rfl, ys, hy, q⟩ := h
  exact call_len_seq pins s σ H _ us Q I r ⟨p, ys, rfl, itsO_or hy, q⟩
/-! new tuples and lists, away from the written part -/
variable {es : List Expr} {t : TA} {pos : Pos}
def tTp (K : PySem.W.Frag) (t : TA) : TE := fun σ H Q => t σ H fun xs H1 => xs.length ≤ sizeLine ∧ ∀ p, H1 p = none → K.lookup p = none → Q (.ref p) (upd H1 p (.tup xs))
def tLs (K : PySem.W.Frag) (t : TA) : TE := fun σ H Q => t σ H fun xs H1 => xs.length ≤ sizeLine ∧ ∀ p, H1 p = none → K.lookup p = none → Q (.ref p) (upd H1 p (.lst xs))
theorem new_K {pins : List (Addr × Obj)} {σ : L2.St} {H : Hp} {s : Shared} (I : Inv X pins σ H s) : X.K.lookup s.heap.objs.size = none := by
  cases e : X.K.lookup s.heap.objs.size with
  | none => rfl
  | some o => exact absurd (Heap.lt_size (I.kIn _ _ e)) (Nat.lt_irrefl _)
theorem pe_tp {x1} (h : PA X es t) : PE X (.Tuple es x1 pos) (tTp X.K t) := by
  refine ⟨fun pins s σ H Q I hq => ?_⟩
  refine wpAny_Tuple_spliced (thn (h.run pos pins s σ H _ I hq) fun us s1 ⟨xs, H1, I1, r, z, q⟩ => ⟨by rw [← r.length]; exact z, ?_⟩)
  have hf : H1 s1.heap.objs.size = none := I1.hok.fresh (Nat.le_refl _)
  refine ⟨.ref s1.heap.objs.size, upd H1 s1.heap.objs.size (.tup xs), I1.laid (t' := s1.toks) (fun b u e => Heap.get?_push_of_some _ e) (Nat.le_refl _) ?_, rfl, q _ hf (new_K I1)⟩
  exact ⟨z, us, r, ⟨_, Heap.get?_push_size _ rfl, rfl, _, rfl⟩⟩
theorem pe_ls (h : PA X es t) : PE X (.List es pos) (tLs X.K t) := by
  refine ⟨fun pins s σ H Q I hq => ?_⟩
  refine wpAny_List_spliced (thn (h.run pos pins s σ H _ I hq) fun us s1 ⟨xs, H1, I1, r, z, q⟩ => ⟨by rw [← r.length]; exact z, ?_⟩)
  have hf : H1 s1.heap.objs.size = none := I1.hok.fresh (Nat.le_refl _)
  refine ⟨.ref s1.heap.objs.size, upd H1 s1.heap.objs.size (.lst xs), I1.laid (t' := s1.toks) (fun b u e => Heap.get?_push_of_some _ e) (Nat.le_refl _) ?_, rfl, q _ hf (new_K I1)⟩
  exact ⟨z, us, 0, r, Heap.get?_push_size _ rfl⟩
end
/-- a, b = t -/
def gTp (K : PySem.W.Frag) (n : Nat) (t : TGs) : TG := fun v σ H Q => ∃ a, v = .ref a ∧ ∃ xs, ob K H a = some (.tup xs) ∧ xs.length = n ∧ t xs σ H Q
theorem pg_tp {X : Cx} {pos : Pos} {es : List Expr} {k : Nat} {t : TGs} (n : Nat) (hc : X.calm = true) (h : PGs X es t) (hn : (assignEach es X.env).length = n := by rfl) (hst : (assignEach es X.env).findIdx? (·.1) = none := by rfl) : PG X (.Tuple es k pos) (gTp X.K n t) :=
  ⟨fun pins s σ H v u Q I r hw => by
    obtain ⟨a, e, xs, hx, hl, q⟩ := hw
    exact (pg_tup (n := n) hc h hn hst).run pins s σ H v u Q I r ⟨a, xs, e, ob_tup hx, hl, q⟩⟩
/-- {} -/
def tDn (K : PySem.W.Frag) : TE := fun _ H Q => ∀ p, H p = none → K.lookup p = none → Q (.ref p) (upd H p (.dK []))
theorem pe_dn {X : Cx} {pos : Pos} : PE X (.Dict [] [] pos) (tDn X.K) := ⟨fun pins s σ H Q I h => by
  refine wpAny_Dict_empty ⟨.ref s.heap.objs.size, upd H s.heap.objs.size (.dK []), ?_, rfl, h _ (I.hok.fresh (Nat.le_refl _)) (new_K I)⟩
  exact I.laid (t' := s.toks) (fun _ _ e => Heap.get?_push_of_some _ e) (Nat.le_refl _) (dk_empty s.heap I.big)⟩
/-! ### loops -/
def ForI (J : It) (g : TG) (tb : TS) (D : Ends) (σ : L2.St) (H : Hp) : Prop := ∃ W : Nat → Nat → L2.St → Hp → Prop, (∃ m, W 0 m σ H) ∧ ∀ i m σ H, W i m σ H →
  (J.stop i H ∧ D.nx σ H) ∨ (J.go i H ∧ ∃ N : L2.St → Hp → Prop, (∀ σ' H', N σ' H' → ∃ m', m' < m ∧ W (i + 1) m' σ' H') ∧ ∀ x H', J.yld i H x H' → g x σ H' fun σ2 H2 => tb { D with nx := N, ct := N, bk := D.nx } σ2 H2)
theorem tFor_eq (wi : TI) (g : TG) (tb : TS) (D : Ends) (σ : L2.St) (H : Hp) : tFor wi g tb D σ H = wi σ H fun J H1 => ForI J g tb D σ H1 := rfl
section
variable {g : TG} {tb : TS} {D : Ends} {σ : L2.St} {H : Hp}
theorem forI_range {lo : Int} {n : Nat} (Pv : Nat → L2.St → Hp → Prop) (h0 : Pv 0 σ H)
    (hs : ∀ i σ H, i < n → Pv i σ H → g (.int (lo + i)) σ H fun σ2 H2 => tb { D with nx := Pv (i + 1), ct := Pv (i + 1), bk := D.nx } σ2 H2) (hd : ∀ σ H, Pv n σ H → D.nx σ H) : ForI (Itr lo n) g tb D σ H := for_range Pv h0 hs hd
theorem forI_list {K : PySem.W.Frag} {a : Addr} {xs : List V} (Pv : Nat → L2.St → Hp → Prop) (h0 : Pv 0 σ H) (hl : ∀ i σ H, i ≤ xs.length → Pv i σ H → SqL K H a xs)
    (hs : ∀ i x σ H, xs[i]? = some x → Pv i σ H → g x σ H fun σ2 H2 => tb { D with nx := Pv (i + 1), ct := Pv (i + 1), bk := D.nx } σ2 H2) (hd : ∀ σ H, Pv xs.length σ H → D.nx σ H) : ForI (Itl K a) g tb D σ H := for_list Pv h0 hl hs hd
theorem forI_tup {K : PySem.W.Frag} {a : Addr} {xs : List V} (Pv : Nat → L2.St → Hp → Prop) (h0 : Pv 0 σ H) (hl : ∀ i σ H, i ≤ xs.length → Pv i σ H → SqT K H a xs)
    (hs : ∀ i x σ H, xs[i]? = some x → Pv i σ H → g x σ H fun σ2 H2 => tb { D with nx := Pv (i + 1), ct := Pv (i + 1), bk := D.nx } σ2 H2) (hd : ∀ σ H, Pv xs.length σ H → D.nx σ H) : ForI (Itt K a) g tb D σ H := for_tup Pv h0 hl hs hd
end
theorem ca_0 : ((0 : Nat) : Int) = 0 := rfl
theorem ca_1 : ((1 : Nat) : Int) = 1 := rfl
theorem ca_2 : ((2 : Nat) : Int) = 2 := rfl
theorem ca_3 : ((3 : Nat) : Int) = 3 := rfl
theorem ca_4 : ((4 : Nat) : Int) = 4 := rfl
theorem ca_5 : ((5 : Nat) : Int) = 5 := rfl
theorem ca_6 : ((6 : Nat) : Int) = 6 := rfl
theorem ca_7 : ((7 : Nat) : Int) = 7 := rfl
theorem ca_8 : ((8 : Nat) : Int) = 8 := rfl
theorem ca_9 : ((9 : Nat) : Int) = 9 := rfl
theorem ca_10 : ((10 : Nat) : Int) = 10 := rfl
theorem ca_11 : ((11 : Nat) : Int) = 11 := rfl
theorem ca_12 : ((12 : Nat) : Int) = 12 := rfl
theorem ca_13 : ((13 : Nat) : Int) = 13 := rfl
theorem ca_14 : ((14 : Nat) : Int) = 14 := rfl
theorem ca_15 : ((15 : Nat) : Int) = 15 := rfl
theorem ca_16 : ((16 : Nat) : Int) = 16 := rfl
theorem ca_17 : ((17 : Nat) : Int) = 17 := rfl
theorem ca_18 : ((18 : Nat) : Int) = 18 := rfl
theorem ca_19 : ((19 : Nat) : Int) = 19 := rfl
theorem ca_20 : ((20 : Nat) : Int) = 20 := rfl
theorem ca_21 : ((21 : Nat) : Int) = 21 := rfl
theorem ca_22 : ((22 : Nat) : Int) = 22 := rfl
theorem ca_23 : ((23 : Nat) : Int) = 23 := rfl
theorem ca_24 : ((24 : Nat) : Int) = 24 := rfl
theorem ca_25 : ((25 : Nat) : Int) = 25 := rfl
theorem ca_26 : ((26 : Nat) : Int) = 26 := rfl
theorem ca_27 : ((27 : Nat) : Int) = 27 := rfl
theorem ca_28 : ((28 : Nat) : Int) = 28 := rfl
theorem ca_29 : ((29 : Nat) : Int) = 29 := rfl
theorem ca_30 : ((30 : Nat) : Int) = 30 := rfl
theorem nat10 : (10 : Int).natAbs = 10 := rfl
/-- list(xs), away from the written part -/
theorem call_listK {X : Cx} : CallR X (.type "list") (fun xs H Q => ∃ p, xs = [.ref p] ∧ ∃ ys, (SqL X.K H p ys ∨ SqT X.K H p ys) ∧ ∀ l, H l = none → X.K.lookup l = none → Q (.ref l) (upd H l (.lst ys))) := fun pins s σ H xs us Q I r h => by
  obtain ⟨p, e0, ys, hy, k⟩ := h
  subst e0
  obtain ⟨u, e1, ru⟩ := vals1 r
  subst e1
  cases ru
  have laid (its : List Value) (rv : Vals ys its) (hz : ys.length ≤ sizeLine) (hh : Heap) (cap : Nat) (kp : ∀ b o, s.heap.get? b = some o → hh.get? b = some o)
      (e : hh.get? s.heap.objs.size = some { cls := .type "list", dict := none, data := .seq its.toArray cap, slots := #[] }) : EP X pins σ Q (.ref s.heap.objs.size) { s with heap := hh } := by
    have ok : ObjOk X.prog X.w (upd H s.heap.objs.size (.lst ys)) hh s.heap.objs.size (.lst ys) := ⟨hz, its, cap, rv, e⟩
    exact ⟨.ref s.heap.objs.size, _, I.laid (t' := s.toks) kp (Nat.le_refl _) ok, rfl, k _ (I.hok.fresh (Nat.le_refl _)) (new_K I)⟩
  cases hy with
  | inl hy =>
    obtain ⟨its, rv, pl, hz⟩ := I.list hy
    obtain ⟨o, ho, hc, n, hd⟩ := pl.isList
    have hl := rv.length
    exact call_list_seq p (.inl rfl) ho hc hd (laid its rv hz) (by simp only [List.size_toArray]; omega)
  | inr hy =>
    obtain ⟨its, rv, pl, hz⟩ := I.tuple hy
    obtain ⟨o, ho, hc, n, hd⟩ := pl
    have hl := rv.length
    exact call_list_seq p (.inr rfl) ho hc hd (laid its rv hz) (by simp only [List.size_toArray]; omega)
/-- xs[i] = v -/
def setI (xs : List V) (i : Int) (v : V) : Option (List V) := (ixN xs.length i).map fun j => xs.set j v
theorem setI_nat {xs ys : List V} {j : Nat} {v : V} (h : j < xs.length) (e : xs.set j v = ys) : setI xs (j : Int) v = some ys := by
  have e1 : ixN xs.length (j : Int) = some j := by
    unfold ixN
    rw [if_pos (by omega), if_pos (by omega)]
    simp
  unfold setI
  rw [e1, ← e]
  rfl
def rSetA : V → V → V → Hp → (Hp → Prop) → Prop := fun o i v H Q => ∃ p k, o = .ref p ∧ i = .int k ∧ ∃ xs, H p = some (.lst xs) ∧ ∃ ys, setI xs k v = some ys ∧ Q (upd H p (.lst ys))
section
variable {X : Cx}
theorem set_any : PSet X rSetA := by
  intro pins s σ H o i v uo ui uv Q I ro ri rv h
  obtain ⟨p, k, rfl, rfl, xs, hx, ys, hy, q⟩ := h
  unfold setI at hy
  cases e : ixN xs.length k with
  | none => rw [e] at hy; cases hy
  | some j =>
    rw [e] at hy
    cases hy
    exact set_list pins s σ H _ _ _ uo ui uv Q I ro ri rv ⟨p, xs, k, j, rfl, rfl, hx, e, q⟩
end
theorem atI_0 {α : Type} (x0 : α) (l : List α) : atI (x0 :: l) 0 = some x0 := atI_nat (j := 0) rfl
theorem setI_0 (x0 v : V) (l : List V) : setI (x0 :: l) 0 v = some (v :: l) := setI_nat (j := 0) (by simp) (by rfl)
theorem atI_1 {α : Type} (x0 x1 : α) (l : List α) : atI (x0 :: x1 :: l) 1 = some x1 := atI_nat (j := 1) rfl
theorem setI_1 (x0 x1 v : V) (l : List V) : setI (x0 :: x1 :: l) 1 v = some (x0 :: v :: l) := setI_nat (j := 1) (by simp) (by rfl)
theorem atI_2 {α : Type} (x0 x1 x2 : α) (l : List α) : atI (x0 :: x1 :: x2 :: l) 2 = some x2 := atI_nat (j := 2) rfl
theorem setI_2 (x0 x1 x2 v : V) (l : List V) : setI (x0 :: x1 :: x2 :: l) 2 v = some (x0 :: x1 :: v :: l) := setI_nat (j := 2) (by simp) (by rfl)
theorem atI_3 {α : Type} (x0 x1 x2 x3 : α) (l : List α) : atI (x0 :: x1 :: x2 :: x3 :: l) 3 = some x3 := atI_nat (j := 3) rfl
theorem setI_3 (x0 x1 x2 x3 v : V) (l : List V) : setI (x0 :: x1 :: x2 :: x3 :: l) 3 v = some (x0 :: x1 :: x2 :: v :: l) := setI_nat (j := 3) (by simp) (by rfl)
theorem atI_4 {α : Type} (x0 x1 x2 x3 x4 : α) (l : List α) : atI (x0 :: x1 :: x2 :: x3 :: x4 :: l) 4 = some x4 := atI_nat (j := 4) rfl
theorem setI_4 (x0 x1 x2 x3 x4 v : V) (l : List V) : setI (x0 :: x1 :: x2 :: x3 :: x4 :: l) 4 v = some (x0 :: x1 :: x2 :: x3 :: v :: l) := setI_nat (j := 4) (by simp) (by rfl)
theorem atI_5 {α : Type} (x0 x1 x2 x3 x4 x5 : α) (l : List α) : atI (x0 :: x1 :: x2 :: x3 :: x4 :: x5 :: l) 5 = some x5 := atI_nat (j := 5) rfl
theorem setI_5 (x0 x1 x2 x3 x4 x5 v : V) (l : List V) : setI (x0 :: x1 :: x2 :: x3 :: x4 :: x5 :: l) 5 v = some (x0 :: x1 :: x2 :: x3 :: x4 :: v :: l) := setI_nat (j := 5) (by simp) (by rfl)
theorem atI_6 {α : Type} (x0 x1 x2 x3 x4 x5 x6 : α) (l : List α) : atI (x0 :: x1 :: x2 :: x3 :: x4 :: x5 :: x6 :: l) 6 = some x6 := atI_nat (j := 6) rfl
theorem setI_6 (x0 x1 x2 x3 x4 x5 x6 v : V) (l : List V) : setI (x0 :: x1 :: x2 :: x3 :: x4 :: x5 :: x6 :: l) 6 v = some (x0 :: x1 :: x2 :: x3 :: x4 :: x5 :: v :: l) := setI_nat (j := 6) (by simp) (by rfl)
end My

namespace My
open PySem PySem.Spec PyProof.Rows L2
section
variable {X : Cx}
/-- any(xs), a list of ints -/
def rAnyI (K : PySem.W.Frag) : List V → Hp → VK → Prop := fun vs H Q => ∃ (a : Addr) (ns : List Int), vs = [V.ref a] ∧ SqL K H a (ns.map V.int) ∧ Q (.bl (ns.any fun n => decide (n ≠ 0))) H
theorem vals_int_at : ∀ {ns : List Int} {us : List Value} {i : Nat} {v : Value}, Vals (ns.map V.int) us → us[i]? = some v → ∃ (n : Int) (t : Tok), ns[i]? = some n ∧ v = .int n t
  | [], us, i, v, h, e => by
    cases h
    cases e
  | n :: ns, us, i, v, h, e => by
    cases h with
    | cons a b =>
      cases i with
      | zero =>
        cases e
        obtain ⟨t, et⟩ := a
        exact ⟨n, t, rfl, et⟩
      | succ i => exact vals_int_at (ns := ns) (i := i) b e
theorem any_rangeI : ∀ ns : List Int, (List.range ns.length).any (fun i => decide (ns.getD i 0 ≠ 0)) = ns.any fun n => decide (n ≠ 0)
  | [] => rfl
  | n :: ns => by
    rw [List.length_cons, List.range_succ_eq_map, List.any_cons, List.any_map, List.any_cons, ← any_rangeI ns]
    all_goals rfl
theorem cr_anyI (hc : X.calm = true) : CallR X (.builtin "any") (rAnyI X.K) := by
  intro pins s σ H vs us Q I r h
  obtain ⟨a, ns, rfl, hs, q⟩ := h
  obtain ⟨its, rv, hl, _⟩ := I.list hs
  rw [Vals.ref1 r]
  have hlen := rv.length
  rw [List.length_map] at hlen
  refine call_any_walk (iter_any hl.isList fun s₂ e2 st hne => ?_)
  subst e2
  refine ⟨_, _, _, _, _, _, _, rfl, Walks.list (A := X.A.in1) (I.ok.hd hc) _ a hne its.toArray, st, (fun i v s Q E hv hq => ?_ : TruthOf X.prog X.w X.A.in1 (fun i v => its.toArray[i]? = some v) (fun i => decide (ns.getD i 0 ≠ 0))), fun h' tk hk => ?_⟩
  · have hv' : its[i]? = some v := by simpa using hv
    obtain ⟨n, t, hn, rfl⟩ := vals_int_at rv hv'
    have hg : ns.getD i 0 = n := by rw [List.getD_eq_getElem?_getD, hn] <;> rfl
    have hq' : Q (decide (ns.getD i 0 ≠ 0)) s := hq
    rw [hg, show decide (n ≠ 0) = (n != 0) from by by_cases h : n = 0 <;> simp [h]] at hq'
    exact PySem.P.truthy_int hq'
  · refine ⟨.bl _, H, I.kept fun b o eo => hk b o (fun hmem => ?_) (Heap.get?_push_of_some _ eo), ?_, q⟩
    · rcases List.mem_cons.mp hmem with e1 | hmem
      · exact absurd (e1 ▸ Heap.lt_size eo) (Nat.lt_irrefl _)
      · cases hmem
    · show Value.bool _ = Value.bool _
      rw [← any_rangeI, List.size_toArray, ← hlen]
/-- list(o.values()) -/
def tListVals (K : PySem.W.Frag) (td : TE) : TE := fun σ H Q => td σ H fun x H1 => ∃ a kvs, x = V.ref a ∧ H1 a = some (.dK kvs) ∧ ∀ p, H1 p = none → K.lookup p = none → Q (.ref p) (upd H1 p (.lst (kvs.map (·.2))))
variable {o : Expr} {p pos apos mpos : Pos} {td : TE}
theorem pe_listVals (hc : X.calm = true) (hg : Gl X "list") (hm : X.mg "list" = none) (hd : PE X o td) (hbase : attributeBase o "values" X.env (eval o X.env) = eval o X.env := by rfl) (hline : (apos.endLine == mpos.line) = true := by rfl)
    (hse : starEach [Expr.Call (.Attribute o "values" apos) [] [] mpos] X.env = [(false, eval (Expr.Call (.Attribute o "values" apos) [] [] mpos) X.env)] := by rfl) :
    PE X (.Call (.Name "list" p) [.Call (.Attribute o "values" apos) [] [] mpos] [] pos) (tListVals X.K td) := by
  refine ⟨fun pins s σ H Q I h => ?_⟩
  refine wpAny_Call_Name_kw (ld_blt I hg hm (u := .type "list") (by first | rfl | decide +kernel) ?_ (by first | decide +kernel | decide) (by first | decide +kernel | decide))
  rw [hse]
  refine PySem.callWith_type1 (wpAny_Call_method0_late hbase hline (thn (hd.run pins s σ H _ I h) fun v s1 ⟨x, H1, I1, r1, a, kvs, ex, ha, q⟩ => ?_))
  subst ex
  obtain rfl : v = Value.ref a := r1
  obtain ⟨_, hsys, vs, rel, dof⟩ := dk_of I1.hok ha
  obtain ⟨z, _, _, _, _⟩ := (show ObjOk X.prog X.w H1 s1.heap a (.dK kvs) from I1.hok a _ ha)
  obtain ⟨ep, dat⟩ := dof.dictAt
  have dat' := dat
  obtain ⟨ob, es, ho, ex, hdat, hko, hpr, hnd⟩ := dat'
  refine ⟨"dict", "dict.values", F.plainAttrs_dict, F.slot_dict_values, F.type_dict_values, ⟨ob, ho, ex.1⟩, fun b e => ?_, Calls.callWith_builtin rfl (PySem.evalArgs_none ?_)⟩
  · cases e
    exact ⟨ob, ho, ex.2.1⟩
  refine call_meetsIn F.slot_dict_values ⟨ob, ho, ex.1⟩ F.entry_dict_values (F.args_dict_values_1 _) (meets_dict_values (mixKind X.prog X.w) a hsys) ⟨⟨vs, dof⟩, ?_⟩
  have k1 : ∀ b u, s1.heap.get? b = some u → (s1.heap.push { cls := .type "dict_values", data := .fields #[.ref a] }).get? b = some u := fun b u e => Heap.get?_push_of_some _ e
  have dat1 : (s1.heap.push { cls := .type "dict_values", data := .fields #[.ref a] }).DictAt (mixKind X.prog X.w) a vs ep := dat.keep k1
  have hl : kvs.length = vs.length := Paired.length rel
  have I2 : Inv X pins σ H1 { s1 with heap := s1.heap.push { cls := .type "dict_values", data := .fields #[.ref a] } } := I1.kept (t' := s1.toks) fun b u e => Heap.get?_push_of_some _ e
  refine PySem.W.kdl_call (PySem.W.kdl_values (knd := mixKind X.prog X.w) (kvs := vs) (ep := ep) (r := s1.heap.objs.size) (d := a)) (I.ok.hd hc) ⟨⟨_, Heap.get?_push_size _ rfl, rfl, rfl⟩, dat1⟩ (by rw [← hl]; exact z) fun h' tk acc' c' hkeep hS hacc => ?_
  have hsz : (s1.heap.push { cls := .type "dict_values", data := .fields #[.ref a] }).objs.size = s1.heap.objs.size + 1 := Heap.size_push _ _
  have fr := I2.hok.fresh (a := (s1.heap.push { cls := .type "dict_values", data := .fields #[.ref a] }).objs.size) (Nat.le_refl _)
  refine ⟨.ref (s1.heap.push { cls := .type "dict_values", data := .fields #[.ref a] }).objs.size, upd H1 (s1.heap.push { cls := .type "dict_values", data := .fields #[.ref a] }).objs.size (.lst (kvs.map (·.2))), I2.laid hkeep (Nat.le_refl _) (show ObjOk X.prog X.w _ _ _ (.lst (kvs.map (·.2))) from ⟨by rw [List.length_map]; exact z, acc'.toList, c', ?_, ?_⟩), rfl, q _ fr (new_K I2)⟩
  · have el : acc'.toList.length = acc'.size := by simp
    refine vals_of_at (by rw [List.length_map, el, hacc.1, hl]) fun j x w h1 h2 => ?_
    obtain ⟨k, hky⟩ := hacc.2 j w (by rw [← Array.getElem?_toList]; exact h2)
    obtain ⟨y, e1, e2⟩ := KV.at' rel hky
    rw [List.getElem?_map, e1] at h1
    cases h1
    exact e2
  · exact hS
end
section
variable {X : Cx}
/-- what is tracked is none of the written part's -/
def tFr (K : PySem.W.Frag) (t : TE) : TE := fun σ H Q => t σ H fun v H' => (∀ a, H' a ≠ none → K.lookup a = none) → Q v H'
theorem pe_fr {e : Expr} {t : TE} (h : PE X e t) : PE X e (tFr X.K t) := ⟨fun pins s σ H Q I hw => thn (h.run pins s σ H _ I hw) fun u s1 ⟨v, H1, I1, r, q⟩ => ⟨v, H1, I1, r, q fun a ha => by
  cases z : X.K.lookup a with
  | none => rfl
  | some o => exact absurd (I1.bs a o (I1.ok.mod.kin a o z)).2 ha⟩⟩
end
/-- name = [..] on one line; what is tracked is none of the written part's -/
theorem ps_setLcF {X : Cx} {i : Nat} {y : Str} {py : Pos} {elt tg iter : Expr} {ifs : List Expr} {scope : Scope} {own : List (Str × Nat)} {pos spos : Pos} {wi : TI} {g : TG} {tt : TT} {te : TE} (hc : X.calm = true) (hN : X.N.Nodup) (hy : X.N[i]? = some y) (hyl : X.env.scope.names.lookup y = some .local)
    (hsw : swapsWith (.ListComp elt [⟨tg, iter, ifs, 0⟩] scope pos) (some (.Name y py)) spos.line X.env = pure true) (hi : PI X tg iter wi) (ok : BlkOk X.N X.env.scope scope own)
    (hg : ∀ (s : Shared) (H : Hp) (C : Addr) (cl : List (Str × Addr)) (fp : List Addr), PG (X.blk s H scope (compEnvC scope cl C X.env) fp) tg g) (ht : ∀ (s : Shared) (H : Hp) (C : Addr) (cl : List (Str × Addr)) (fp : List Addr), PTs (X.blk s H scope (compEnvC scope cl C X.env) fp) ifs tt)
    (he : ∀ (s : Shared) (H : Hp) (C : Addr) (cl : List (Str × Addr)) (fp : List Addr), PE (X.blk s H scope (compEnvC scope cl C X.env) fp) elt te) (hs : ∀ x, foldedSetIterable iter X.env x = pure x := by intro _; rfl) :
    PS X (.Assign [.Name y py] (.ListComp elt [⟨tg, iter, ifs, 0⟩] scope pos) spos) (tAsg (tFr X.K (tLc wi g tt te (own.map (·.2)))) (gName i)) := by
  refine ⟨fun pins s σ H D I h => ?_⟩
  rw [exec_Assign_Name_used _ _ _ _ hsw]
  refine wpAny_bind (wpAny_standAt (wpAny_bind ?_))
  show wpAny _ X.A (do let _ ← comprehension (.ListComp elt [⟨tg, iter, ifs, 0⟩] scope pos) scope X.env (firstIterPos [⟨tg, iter, ifs, 0⟩] pos) (newList []) false (eval iter X.env) (some (assign (.Name y py) X.env))) _ _ s
  have h : tLc wi g tt te (own.map (·.2)) σ H (fun x H1 => (∀ a, H1 a ≠ none → X.K.lookup a = none) → gName i x σ H1 D.nx) := h
  refine wpAny_bind (thn (lc_core (Qf := fun _ s' => SP X pins D .next s') hc hN I hi ok hg ht he hs h fun L C s' m H' I' q hn f => ?_) fun _ s' hq => wpAny_pure (wpAny_pure hq))
  have fr : ∀ a, H' a ≠ none → X.K.lookup a = none := fun a ha => by
    cases z : X.K.lookup a with
    | none => rfl
    | some o => exact absurd (I'.bs a o (I'.ok.mod.kin a o z)).2 ha
  show wpAny _ _ (assign (.Name y py) X.env (.ref L)) _ _ _
  refine wpAny_assign_Name (store_ok2 (v := V.ref L) I' hN hy (.inl hyl) rfl (fun s2 I2 ⟨a, sb, ha⟩ => ?_) (.inr hyl))
  obtain ⟨f0, f1, f2, f3, f4, f5⟩ := f
  have haC : C ≠ a := by
    rcases ha with z | z
    · rw [z]; exact f1
    · exact fun e => f4 y a z e.symm
  refine ⟨m, hn.sameBut sb haC, fun h3 sb3 => ?_⟩
  exact ⟨_, H', I2.turned (t' := s2.toks) (fun b o hb e => (sb3.2 b hb).trans e) f0 f1 f3 f4 f5, q fr⟩
theorem cut_to (xs : List V) (j : Nat) (hj : j ≤ xs.length) : cutV xs none (some (j : Int)) = xs.take j := by
  have e := HT.sIx_nat xs.length xs.length j
  unfold cutV
  rw [e, HT.sIx_none, List.drop_zero, Nat.sub_zero, Nat.min_eq_left hj]
theorem cut_from (xs : List V) (j : Nat) (hj : j ≤ xs.length) : cutV xs (some (j : Int)) none = xs.drop j := by
  have e := HT.sIx_nat xs.length 0 j
  unfold cutV
  rw [e, HT.sIx_none, Nat.min_eq_left hj, List.take_of_length_le (by rw [List.length_drop]; omega)]
end My

namespace My
open PySem PySem.Spec PyProof.Rows L2
/-! ### numbers: fractions in lowest terms -/
abbrev Qt := Int × Int
def Nf (q : Qt) : Prop := 1 ≤ q.2 ∧ Int.gcd q.1 q.2 = 1
/-- q is t / b in lowest terms -/
def Is (q : Qt) (t b : Int) : Prop := Nf q ∧ q.1 * b = t * q.2
def Sz (k : Nat) (q : Qt) : Prop := q.1.natAbs < 2 ^ k ∧ q.2.natAbs < 2 ^ k
theorem nf_cop {q : Qt} (h : Nf q) : Nat.Coprime q.1.natAbs q.2.natAbs := h.2
theorem nf_unique {p q : Qt} (hp : Nf p) (hq : Nf q) (h : p.1 * q.2 = q.1 * p.2) : p = q := by
  have h1 : p.1.natAbs * q.2.natAbs = q.1.natAbs * p.2.natAbs := by rw [← Int.natAbs_mul, ← Int.natAbs_mul, h]
  have d1 : p.2.natAbs ∣ q.2.natAbs := (nf_cop hp).symm.dvd_of_dvd_mul_left (n := q.2.natAbs) (m := p.1.natAbs) (by rw [h1]; exact Nat.dvd_mul_left _ _)
  have d2 : q.2.natAbs ∣ p.2.natAbs := (nf_cop hq).symm.dvd_of_dvd_mul_left (n := p.2.natAbs) (m := q.1.natAbs) (by rw [← h1]; exact Nat.dvd_mul_left _ _)
  have e := Nat.dvd_antisymm d1 d2
  have a1 := hp.1
  have a2 := hq.1
  have e2 : p.2 = q.2 := by omega
  rw [e2] at h
  have e1 : p.1 = q.1 := Int.eq_of_mul_eq_mul_right (show q.2 ≠ 0 by omega) h
  exact Prod.ext e1 e2
theorem is_unique {p q : Qt} {t b : Int} (hb : b ≠ 0) (hp : Is p t b) (hq : Is q t b) : p = q := by
  refine nf_unique hp.1 hq.1 ?_
  have h1 := hp.2
  have h2 := hq.2
  have h3 : b * (p.1 * q.2) = b * (q.1 * p.2) := by
    have e1 : b * (p.1 * q.2) = (p.1 * b) * q.2 := by rw [Int.mul_comm p.1 b, Int.mul_assoc]
    have e2 : b * (q.1 * p.2) = (q.1 * b) * p.2 := by rw [Int.mul_comm q.1 b, Int.mul_assoc]
    rw [e1, e2, h1, h2, Int.mul_assoc, Int.mul_assoc, Int.mul_comm p.2 q.2]
  exact Int.eq_of_mul_eq_mul_left hb h3
theorem is_le {q : Qt} {t b : Int} (hb : b ≠ 0) (h : Is q t b) : q.1.natAbs ≤ t.natAbs ∧ q.2.natAbs ≤ b.natAbs := by
  have h1 : q.1.natAbs * b.natAbs = t.natAbs * q.2.natAbs := by rw [← Int.natAbs_mul, ← Int.natAbs_mul, h.2]
  have d : q.2.natAbs ∣ b.natAbs := (nf_cop h.1).symm.dvd_of_dvd_mul_left (n := b.natAbs) (m := q.1.natAbs) (by rw [h1]; exact Nat.dvd_mul_left _ _)
  have hb' : 0 < b.natAbs := by omega
  have le2 := Nat.le_of_dvd hb' d
  refine ⟨?_, le2⟩
  have q2 : 0 < q.2.natAbs := by have := h.1.1; omega
  have h2 : q.1.natAbs * q.2.natAbs ≤ t.natAbs * q.2.natAbs := by rw [← h1]; exact Nat.mul_le_mul_left _ le2
  exact Nat.le_of_mul_le_mul_right h2 q2
theorem is_sz {q : Qt} {t b : Int} {k : Nat} (hb : b ≠ 0) (h : Is q t b) (ht : t.natAbs < 2 ^ k) (hk : b.natAbs < 2 ^ k) : Sz k q :=
  ⟨Nat.lt_of_le_of_lt (is_le hb h).1 ht, Nat.lt_of_le_of_lt (is_le hb h).2 hk⟩
/-- exact division by the greatest common divisor -/
theorem gcd_pos {t b : Int} (hb : b ≠ 0) : 0 < Int.gcd t b := Nat.gcd_pos_of_pos_right _ (by omega)
theorem gcd_le {t b : Int} (hb : b ≠ 0) : Int.gcd t b ≤ b.natAbs := Nat.le_of_dvd (by omega) (Nat.gcd_dvd_right _ _)
theorem is_div {t b : Int} (hb : 0 < b) : Is (t / (Int.gcd t b : Nat), b / (Int.gcd t b : Nat)) t b := by
  have hg := gcd_pos (t := t) (b := b) (by omega)
  obtain ⟨x, hx⟩ := Int.gcd_dvd_left (a := t) (b := b)
  obtain ⟨y, hy⟩ := Int.gcd_dvd_right (a := t) (b := b)
  have hg' : ((Int.gcd t b : Nat) : Int) ≠ 0 := by omega
  have e1 : t / (Int.gcd t b : Nat) = x := by conv => lhs; lhs; rw [hx]
                                              exact Int.mul_ediv_cancel_left _ hg'
  have e2 : b / (Int.gcd t b : Nat) = y := by conv => lhs; lhs; rw [hy]
                                              exact Int.mul_ediv_cancel_left _ hg'
  rw [e1, e2]
  have hy0 : 0 < y := by
    rcases Int.lt_trichotomy y 0 with z | z | z
    · have := Int.mul_neg_of_pos_of_neg (show (0 : Int) < (Int.gcd t b : Nat) by omega) z
      omega
    · rw [z, Int.mul_zero] at hy
      omega
    · exact z
  refine ⟨⟨by show 1 ≤ y; omega, ?_⟩, ?_⟩
  · show Int.gcd x y = 1
    have h : Int.gcd t b = Int.gcd t b * Int.gcd x y := by
      have k : Int.gcd (((Int.gcd t b : Nat) : Int) * x) (((Int.gcd t b : Nat) : Int) * y) = Int.gcd t b * Int.gcd x y := by rw [Int.gcd_mul_left, Int.natAbs_natCast]
      rwa [← hx, ← hy] at k
    exact Nat.eq_of_mul_eq_mul_left hg (by rw [← h, Nat.mul_one])
  · show x * b = t * y
    conv => lhs; rw [hy]
    conv => rhs; rw [hx]
    rw [← Int.mul_assoc, Int.mul_comm x]
theorem is_neg {q : Qt} {t b : Int} (h : Is q (-t) (-b)) : Is q t b := ⟨h.1, by have := h.2; rw [Int.mul_neg, Int.neg_mul] at this; omega⟩
theorem gcd_neg2 (t b : Int) : Int.gcd (-t) (-b) = Int.gcd t b := by rw [Int.gcd_neg, Int.neg_gcd]
/-- what fraction hands back -/
theorem is_fdiv {t b : Int} (hb : b ≠ 0) : Is (t.fdiv (if b < 0 then -((Int.gcd t b : Nat) : Int) else (Int.gcd t b : Nat)), b.fdiv (if b < 0 then -((Int.gcd t b : Nat) : Int) else (Int.gcd t b : Nat))) t b := by
  by_cases h : b < 0
  · rw [if_pos h]
    have e := is_div (t := -t) (b := -b) (by omega)
    rw [gcd_neg2] at e
    have k : ∀ x : Int, x.fdiv (-((Int.gcd t b : Nat) : Int)) = (-x) / ((Int.gcd t b : Nat) : Int) := fun x => by
      rw [← Int.fdiv_eq_ediv_of_nonneg _ (by omega), ← Int.neg_fdiv_neg (-x), Int.neg_neg]
    rw [k, k]
    exact is_neg e
  · rw [if_neg h, Int.fdiv_eq_ediv_of_nonneg _ (by omega), Int.fdiv_eq_ediv_of_nonneg _ (by omega)]
    exact is_div (by omega)
theorem mulW {i j : Int} {a b : Nat} (ha : i.natAbs < 2 ^ a) (hb : j.natAbs < 2 ^ b) (h : a + b ≤ 900000) : CMulW i j := by
  refine wide_mul (a := a + 1) (b := b + 1) (Nat.lt_of_lt_of_le ha (Nat.pow_le_pow_right (by omega) (by omega))) (Nat.lt_of_lt_of_le hb (Nat.pow_le_pow_right (by omega) (by omega))) (by omega) (by omega) (by omega)
theorem szMul {i j : Int} {a b : Nat} (ha : i.natAbs < 2 ^ a) (hb : j.natAbs < 2 ^ b) : (i * j).natAbs < 2 ^ (a + b) := wide_lt ha hb
theorem szAdd {i j : Int} {a b c : Nat} (ha : i.natAbs < 2 ^ a) (hb : j.natAbs < 2 ^ b) (h1 : a + 1 ≤ c) (h2 : b + 1 ≤ c) : (i + j).natAbs < 2 ^ c := by
  have e1 : 2 ^ (a + 1) ≤ 2 ^ c := Nat.pow_le_pow_right (by omega) h1
  have e2 : 2 ^ (b + 1) ≤ 2 ^ c := Nat.pow_le_pow_right (by omega) h2
  rw [Nat.pow_succ] at e1 e2
  have := Int.natAbs_add_le i j
  omega
theorem szSub {i j : Int} {a b c : Nat} (ha : i.natAbs < 2 ^ a) (hb : j.natAbs < 2 ^ b) (h1 : a + 1 ≤ c) (h2 : b + 1 ≤ c) : (i - j).natAbs < 2 ^ c := by
  rw [Int.sub_eq_add_neg]
  exact szAdd ha (by rw [Int.natAbs_neg]; exact hb) h1 h2
theorem szMono {i : Int} {a b : Nat} (ha : i.natAbs < 2 ^ a) (h : a ≤ b) : i.natAbs < 2 ^ b := Nat.lt_of_lt_of_le ha (Nat.pow_le_pow_right (by omega) h)
theorem Sz.mono {q : Qt} {a b : Nat} (ha : Sz a q) (h : a ≤ b) : Sz b q := ⟨szMono ha.1 h, szMono ha.2 h⟩
/-- // by any number of a bounded size -/
def CDivX (_ j : Int) : Prop := j ≠ 0 ∧ j.natAbs < 2 ^ 8999
theorem op_fdivX {X : Cx} : OpR X (binaryOp .FloorDiv) (rI CDivX fun i j => .int (i.fdiv j)) := by
  intro pins s σ H x y v u Q I rx ry h
  obtain ⟨i, j, rfl, rfl, hc, q⟩ := h
  obtain ⟨t, rfl⟩ := rx
  obtain ⟨t', rfl⟩ := ry
  exact floordiv_int hc.1 ⟨.int _, H, I.tok _, ⟨_, rfl⟩, q⟩ (.inl (PyProof.noPylong_of_log2 (Nat.lt_of_lt_of_le (PySem.Flt.log2_lt_of (by omega) hc.2) (by omega))))
/-! ### fractions as values -/
def frt (q : Qt) : HO := .tup [.int q.1, .int q.2]
end My

namespace My
open PySem PySem.Spec PyProof.Rows L2
section
variable {P : Program} {w : World} {K : PySem.W.Frag} {mg : Str → Option Value} {base : Heap}
def spMixed : Sp := fun vs H Q _ => ∃ a b : Int, vs = [.int a, .int b] ∧ ∀ r : Int, Q (.int r) H
theorem mulW_mod {i : Int} {n : Int} (h0 : 0 < n) (h : n < 2 ^ 64) : CMulW (i % n) (i % n) := by
  have h1 := Int.emod_nonneg i (show n ≠ 0 by omega)
  have h2 := Int.emod_lt_of_pos i h0
  exact wide_mul (a := 64) (b := 64) (by omega) (by omega) (by omega) (by omega) (by omega)
abbrev sMixed : Stmt := topS 46
theorem scMixed : FnScope ["_law_number", "_law_turn", "_law_value"] ["_law_number", "_law_turn"] (defScope sMixed) := ⟨rfl, rfl, rfl, by decide +kernel, rfl, by decide +kernel, by decide +kernel⟩
theorem k_Mixed (T : Bt K mg) (D : Dfn K mg "_law_mixed" sMixed ["_law_number", "_law_turn"]) : Kn P w K mg base 1 "_law_mixed" ["_law_number", "_law_turn"] spMixed := by
  refine Kn.mk' D scMixed (fun vs H Q E h => ?_) (fun f cdv A outer s H vs Q E hr h => ?_)
  · obtain ⟨a, b, rfl, _⟩ := h
    rfl
  obtain ⟨a, b, rfl, q⟩ := h
  refine ⟨_, (pss_cons (ps_set (i := 2) scMixed.nd rfl (.inl rfl) (pe_op op_mod (pe_op op_add (pe_op op_add (pe_op op_mul (pe_op op_mod (pe_callTy call_int1 (by rfl) T.b_int (by decide +kernel) (pa_cons (pv 0) pa_nil)) pe_int) pe_int) (pe_op op_mul (pv 1) pe_int)) pe_int) pe_int))
      (pss_cons (ps_set (i := 2) scMixed.nd rfl (.inl rfl) (pe_op op_mod (pe_op op_add (pe_op op_add (pe_op op_add (pe_op op_mulW (pv 2) (pv 2)) (pe_op op_mul (pv 2) pe_int)) (pe_op op_mul (pv 1) pe_int)) pe_int) pe_int))
      (pss_cons (ps_set (i := 2) scMixed.nd rfl (.inl rfl) (pe_op op_mod (pe_op op_add (pe_op op_add (pe_op op_mul (pv 2) pe_int) (pe_op op_fdiv (pv 2) pe_int)) pe_int) pe_int))
      (pss_cons (ps_set (i := 2) scMixed.nd rfl (.inl rfl) (pe_op op_mod (pe_op op_add (pe_op op_mulW (pv 2) (pv 2)) (pv 1)) pe_int))
      (pss_one (ps_ret (pe_op op_fdiv (pv 2) pe_int))))))), ?_⟩
  simp only [cx_K, decide_true, decide_false, reduceCtorEq, gTp, gCons, gNil, ca_0, ca_1, ca_2, ca_3, ca_4, ca_5, ca_6, ca_7, ca_8, ca_9, ca_10, ca_11, ca_12, ca_13, ca_14, ca_15, ca_16, ca_17, ca_18, ca_19, ca_20, ca_21, ca_22, ca_23, ca_24, ca_25, ca_26, ca_27, ca_28, ca_29, ca_30, not_true_eq_false, not_false_eq_true, Int.reduceEq, Nat.reduceEqDiff, Nat.reduceLeDiff, rGcd, V.ty.injEq, eq_self, List.not_mem_nil, beq_self_eq_true, HO.lst.injEq, HO.tup.injEq, tFor_eq, iRng1, iList, iTup, nat10, tSeq, rIxA, rSetA, rIsN, rIsT, tTp, tLs, itsO_tup, itsO_lst, tyO_tup, tyO_lst, tyO_dK, tyN_non, tyN_bl, tyN_int, tyN_str, tyN_ref, tyNs_lt, isB, upd_same, upd_upd, sizeLine_eq, List.mem_cons, String.reduceBEq, String.reduceEq, Bool.or_false, Bool.or_true, Bool.and_false, Bool.false_or, Bool.and_self, Bool.false_and, Bool.not_false, Bool.not_true, List.any_cons, List.any_nil, atI_0, setI_0, atI_1, setI_1, atI_2, setI_2, atI_3, setI_3, atI_4, setI_4, atI_5, setI_5, atI_6, setI_6, tAsg, gName, tOp, tUn, tVar, tC, tCons, L2.tNil, tRet, tIfS, tTest, tCB, tCall, rI, rI0, rU, tNext, tB, tAnd, tOr, tNot, tAndV, tOrV, tNotV, tDrop, tIf, tPar, gSub, rIxL, rIxT, rEq, rNe, rSetL, tBits,
    L2.start, List.map_cons, List.map_nil, List.cons_append, List.nil_append, List.append_nil, List.length_cons, List.length_nil, List.replicate, Nat.reduceAdd, Nat.reduceSub, Nat.zero_add, List.getElem?_cons_zero, List.getElem?_cons_succ, List.set_cons_zero, List.set_cons_succ,
    Option.some.injEq, exists_eq_left', exists_eq_left, V.int.injEq, V.bl.injEq, V.ref.injEq, V.str.injEq, List.cons.injEq, reduceCtorEq, and_true, true_and, false_and, and_false, exists_false, or_false, false_or, or_true, true_or, exists_const, CMul, CDiv, CPow, and_assoc, exists_and_left, exists_and_right, Int.reducePow, Int.reduceNeg, Int.reduceLT, Int.reduceLE, Nat.reducePow, Nat.reduceLT, Int.reduceToNat, gt_iff_lt, ge_iff_le, decide_eq_true_eq, Bool.not_eq_true', decide_eq_false_iff_not, scal, ↓reduceIte, Bool.false_eq_true]
  exact ⟨mulW_mod (by omega) (by omega), mulW_mod (by omega) (by omega), q _⟩
theorem at_ints {ns : List Int} {i : Int} (h0 : 0 ≤ i) (h : i < (ns.length : Int)) : ∃ z, atI (ns.map V.int) i = some (.int z) := by
  have hk : i.toNat < ns.length := by omega
  have q : atI (ns.map V.int) ((i.toNat : Nat) : Int) = some (.int ns[i.toNat]) := atI_nat (by rw [List.getElem?_map, List.getElem?_eq_getElem hk] <;> rfl)
  rw [show ((i.toNat : Nat) : Int) = i by omega] at q
  exact ⟨_, q⟩
theorem bits_le {m : Int} (h : m.natAbs < 2 ^ 200) : Builtin.Int.intBits m ≤ 200 := by
  unfold Builtin.Int.intBits
  split
  · omega
  · have := PySem.Flt.log2_lt_of (show 0 < 200 by omega) h
    omega
def TakeA (K : PySem.W.Frag) (s : Addr) (m : Int) (H : Hp) (σ' : L2.St) (H' : Hp) : Prop := ∃ x, σ' = [some (.ref s), some (.int m), x, none, none, none, none] ∧ Kp s H H' ∧ Sto K H' s
def TakeB (K : PySem.W.Frag) (s : Addr) (m : Int) (H : Hp) (σ' : L2.St) (H' : Hp) : Prop := ∃ x n, σ' = [some (.ref s), some (.int m), x, none, some (.int n), none, none] ∧ Kp s H H' ∧ Sto K H' s
def TakeC (s : Addr) (m : Int) (x : Option V) (n : Int) (H3 : Hp) (k : Nat) (σ : L2.St) (H' : Hp) : Prop := ∃ v y, σ = [some (.ref s), some (.int m), x, none, some (.int n), some (.int v), y] ∧ H' = H3
def spTake (K : PySem.W.Frag) : Sp := fun vs H Q _ => ∃ (s : Addr) (m : Int), vs = [.ref s, .int m] ∧ Sto K H s ∧ m < 2 ^ 200 ∧ ∀ r H', 0 ≤ r → (r < m ∨ r = 0) → Kp s H H' → Sto K H' s → Q (.int r) H'
abbrev sTake : Stmt := topS 48
theorem scTake : FnScope ["_law_store_here", "_law_many", "_law_cell", "_law_digit", "_law_number", "_law_value", "_law_k"] ["_law_store_here", "_law_many"] (defScope sTake) := ⟨rfl, rfl, rfl, by decide +kernel, rfl, by decide +kernel, by decide +kernel⟩
theorem k_Take (T : Bt K mg) (D : Dfn K mg "_law_take" sTake ["_law_store_here", "_law_many"]) (d__law_mixed : Kn P w K mg base 1 "_law_mixed" ["_law_number", "_law_turn"] spMixed) : Kn P w K mg base 2 "_law_take" ["_law_store_here", "_law_many"] (spTake K) := by
  refine Kn.mk' D scTake (fun vs H Q E h => ?_) (fun f cdv A outer s H vs Q E hr h => ?_)
  · obtain ⟨a, m, rfl, _⟩ := h
    rfl
  obtain ⟨s, m, rfl, hS, hm, q⟩ := h
  refine ⟨_, (pss_cons (ps_if (pt_cmpR op_lt (pv 1) pe_int (nomark _)) (pss_one (ps_ret pe_int)) pss_nil)
      (pss_cons (ps_asg (pe_op op_add (pe_ix ix_any (pv 0) pe_int (fun _ _ => rfl)) pe_int) (pg_sub (pv 0) pe_int set_any))
      (C8.pss_cut (ps_if (PW.pt (pw_and (pt_cmpR op_lt (pe_ix ix_any (pv 0) pe_int (fun _ _ => rfl)) pe_int (nomark _)) (pw_and (pt_cmpR op_lt (pe_ix ix_any (pv 0) pe_int (fun _ _ => rfl)) pe_int (nomark _)) (pw_and1 (pt_cmpR op_lt (pe_ix ix_any (pv 0) pe_int (fun _ _ => rfl)) (pe_callB call_lenA (by rfl) T.b_len PySem.boot_len (pa_cons (pe_ix ix_any (pv 0) pe_int (fun _ _ => rfl)) pa_nil)) (nomark _)))))) (pss_cons (ps_set (i := 2) scTake.nd rfl (.inl rfl) (pe_callTy call_int1 (by rfl) T.b_int (by decide +kernel) (pa_cons (pe_ix ix_any (pe_ix ix_any (pv 0) pe_int (fun _ _ => rfl)) (pe_ix ix_any (pv 0) pe_int (fun _ _ => rfl)) (fun _ _ => rfl)) pa_nil)))
      (pss_cons (ps_asg (pe_op op_add (pe_ix ix_any (pv 0) pe_int (fun _ _ => rfl)) pe_int) (pg_sub (pv 0) pe_int set_any))
      (pss_one (ps_if (pt_cmpR op_lt (pe_callB call_abs (by rfl) T.b_abs (by decide +kernel) (pa_cons (pv 2) pa_nil)) (pe_op op_pow pe_int pe_int) (nomark _)) (pss_cons (ps_asg pe_int (pg_sub (pv 0) pe_int set_any))
      (pss_one (ps_asg (pv 2) (pg_sub (pv 0) pe_int set_any)))) (pss_one (ps_asg (pe_callB call_abs (by rfl) T.b_abs (by decide +kernel) (pa_cons (pv 2) pa_nil)) (pg_sub (pv 0) pe_int set_any))))))) pss_nil)
      (pss_cons (ps_if (pt_cmpR op_gt (pe_ix ix_any (pv 0) pe_int (fun _ _ => rfl)) pe_int (nomark _)) (pss_cons (ps_set (i := 3) scTake.nd rfl (.inl rfl) (pe_op op_modN (pe_callTy call_int1 (by rfl) T.b_int (by decide +kernel) (pa_cons (pe_ix ix_any (pv 0) pe_int (fun _ _ => rfl)) pa_nil)) (pv 1)))
      (pss_cons (ps_asg (pe_op op_fdivW (pe_ix ix_any (pv 0) pe_int (fun _ _ => rfl)) (pv 1)) (pg_sub (pv 0) pe_int set_any))
      (pss_one (ps_ret (pv 3))))) pss_nil)
      (pss_cons (ps_set (i := 4) scTake.nd rfl (.inl rfl) (pe_ix ix_any (pv 0) pe_int (fun _ _ => rfl)))
      (C8.pss_cut (ps_if (pt_cmpR op_gt (pe_ix ix_any (pv 0) pe_int (fun _ _ => rfl)) pe_int (nomark _)) (pss_cons (ps_asg (pe_op op_sub (pe_ix ix_any (pv 0) pe_int (fun _ _ => rfl)) pe_int) (pg_sub (pv 0) pe_int set_any))
      (pss_one (ps_set (i := 4) scTake.nd rfl (.inl rfl) (pe_ix ix_any (pv 0) pe_int (fun _ _ => rfl))))) pss_nil)
      (pss_cons (ps_set (i := 5) scTake.nd rfl (.inl rfl) pe_int)
      (pss_cons (ps_for PassesOwn.never rfl (pi_range1 (by rfl) T.b_range (pa_cons (pe_op op_add pe_int (pe_op op_fdiv (pe_bits (pv 1)) pe_int)) pa_nil)) (pg_name (i := 6) scTake.nd rfl (.inl rfl)) (pss_one (ps_set (i := 5) scTake.nd rfl (.inl rfl) (pe_op op_add (pe_op op_mul (pv 5) pe_int) (pe_kn d__law_mixed hr (by rfl) (pa_cons (pv 4) (pa_cons (pe_op op_add (pe_op op_mul (pe_ix ix_any (pv 0) pe_int (fun _ _ => rfl)) pe_int) (pv 6)) pa_nil)))))))
      (pss_one (ps_ret (pe_op op_modN (pv 5) (pv 1)))))))))))), ?_⟩
  obtain ⟨sc, ns, i, b, c, d, e, f, hs, hsc, hne, hi, ks, ksc⟩ := hS
  have o1 := (ob_none ks).trans hs
  simp only [o1, hs, cx_K, decide_true, decide_false, reduceCtorEq, gTp, gCons, gNil, ca_0, ca_1, ca_2, ca_3, ca_4, ca_5, ca_6, ca_7, ca_8, ca_9, ca_10, ca_11, ca_12, ca_13, ca_14, ca_15, ca_16, ca_17, ca_18, ca_19, ca_20, ca_21, ca_22, ca_23, ca_24, ca_25, ca_26, ca_27, ca_28, ca_29, ca_30, not_true_eq_false, not_false_eq_true, Int.reduceEq, Nat.reduceEqDiff, Nat.reduceLeDiff, rGcd, V.ty.injEq, eq_self, List.not_mem_nil, beq_self_eq_true, HO.lst.injEq, HO.tup.injEq, tFor_eq, iRng1, iList, iTup, nat10, tSeq, rIxA, rSetA, rIsN, rIsT, tTp, tLs, itsO_tup, itsO_lst, tyO_tup, tyO_lst, tyO_dK, tyN_non, tyN_bl, tyN_int, tyN_str, tyN_ref, tyNs_lt, isB, upd_same, upd_upd, sizeLine_eq, List.mem_cons, String.reduceBEq, String.reduceEq, Bool.or_false, Bool.or_true, Bool.and_false, Bool.false_or, Bool.and_self, Bool.false_and, Bool.not_false, Bool.not_true, List.any_cons, List.any_nil, atI_0, setI_0, atI_1, setI_1, atI_2, setI_2, atI_3, setI_3, atI_4, setI_4, atI_5, setI_5, atI_6, setI_6, tAsg, gName, tOp, tUn, tVar, tC, tCons, L2.tNil, tRet, tIfS, tTest, tCB, tCall, rI, rI0, rU, tNext, tB, tAnd, tOr, tNot, tAndV, tOrV, tNotV, tDrop, tIf, tPar, gSub, rIxL, rIxT, rEq, rNe, rSetL, tBits,
    L2.start, List.map_cons, List.map_nil, List.cons_append, List.nil_append, List.append_nil, List.length_cons, List.length_nil, List.replicate, Nat.reduceAdd, Nat.reduceSub, Nat.zero_add, List.getElem?_cons_zero, List.getElem?_cons_succ, List.set_cons_zero, List.set_cons_succ,
    Option.some.injEq, exists_eq_left', exists_eq_left, V.int.injEq, V.bl.injEq, V.ref.injEq, V.str.injEq, List.cons.injEq, reduceCtorEq, and_true, true_and, false_and, and_false, exists_false, or_false, false_or, or_true, true_or, exists_const, CMul, CDiv, CPow, and_assoc, exists_and_left, exists_and_right, Int.reducePow, Int.reduceNeg, Int.reduceLT, Int.reduceLE, Nat.reducePow, Nat.reduceLT, Int.reduceToNat, gt_iff_lt, ge_iff_le, decide_eq_true_eq, Bool.not_eq_true', decide_eq_false_iff_not, scal, ↓reduceIte, Bool.false_eq_true]
  refine ite2 (fun h2 => ?_) (fun h2 => ?_)
  · exact q 0 H (Int.le_refl 0) (.inr rfl) (Kp.refl _ _) ⟨sc, ns, i, b, c, d, e, f, hs, hsc, hne, hi, ks, ksc⟩
  have S1 := Sr.put (i' := i) (b' := b) (c' := c + 1) (d' := d) (e' := e) (f' := f) (⟨hs, hsc, hne, hi, ks, ksc⟩ : Sr K H s sc ns i b c d e f) hi
  have kp1 : Kp s H (upd H s (.lst [.ref sc, .int i, .int b, .int (c + 1), .int d, .int e, .int f])) := Kp.put hs
  generalize upd H s (.lst [.ref sc, .int i, .int b, .int (c + 1), .int d, .int e, .int f]) = H1 at S1 kp1 ⊢
  refine ⟨TakeA K s m H, ?_, ?_⟩
  · obtain ⟨hs, hsc, hne, hi, ks, ksc⟩ := id S1
    have o1 := (ob_none ks).trans hs
    have o2 := (ob_none ksc).trans hsc
    have no : TakeA K s m H [some (.ref s), some (.int m), none, none, none, none, none] H1 := ⟨none, rfl, kp1, _, _, _, _, _, _, _, _, S1⟩
    simp only [o1, o2, hs, List.length_map, cx_K, decide_true, decide_false, reduceCtorEq, gTp, gCons, gNil, ca_0, ca_1, ca_2, ca_3, ca_4, ca_5, ca_6, ca_7, ca_8, ca_9, ca_10, ca_11, ca_12, ca_13, ca_14, ca_15, ca_16, ca_17, ca_18, ca_19, ca_20, ca_21, ca_22, ca_23, ca_24, ca_25, ca_26, ca_27, ca_28, ca_29, ca_30, not_true_eq_false, not_false_eq_true, Int.reduceEq, Nat.reduceEqDiff, Nat.reduceLeDiff, rGcd, V.ty.injEq, eq_self, List.not_mem_nil, beq_self_eq_true, HO.lst.injEq, HO.tup.injEq, tFor_eq, iRng1, iList, iTup, nat10, tSeq, rIxA, rSetA, rIsN, rIsT, tTp, tLs, itsO_tup, itsO_lst, tyO_tup, tyO_lst, tyO_dK, tyN_non, tyN_bl, tyN_int, tyN_str, tyN_ref, tyNs_lt, isB, upd_same, upd_upd, sizeLine_eq, List.mem_cons, String.reduceBEq, String.reduceEq, Bool.or_false, Bool.or_true, Bool.and_false, Bool.false_or, Bool.and_self, Bool.false_and, Bool.not_false, Bool.not_true, List.any_cons, List.any_nil, atI_0, setI_0, atI_1, setI_1, atI_2, setI_2, atI_3, setI_3, atI_4, setI_4, atI_5, setI_5, atI_6, setI_6, tAsg, gName, tOp, tUn, tVar, tC, tCons, L2.tNil, tRet, tIfS, tTest, tCB, tCall, rI, rI0, rU, tNext, tB, tAnd, tOr, tNot, tAndV, tOrV, tNotV, tDrop, tIf, tPar, gSub, rIxL, rIxT, rEq, rNe, rSetL, tBits,
    L2.start, List.map_cons, List.map_nil, List.cons_append, List.nil_append, List.append_nil, List.length_cons, List.length_nil, List.replicate, Nat.reduceAdd, Nat.reduceSub, Nat.zero_add, List.getElem?_cons_zero, List.getElem?_cons_succ, List.set_cons_zero, List.set_cons_succ,
    Option.some.injEq, exists_eq_left', exists_eq_left, V.int.injEq, V.bl.injEq, V.ref.injEq, V.str.injEq, List.cons.injEq, reduceCtorEq, and_true, true_and, false_and, and_false, exists_false, or_false, false_or, or_true, true_or, exists_const, CMul, CDiv, CPow, and_assoc, exists_and_left, exists_and_right, Int.reducePow, Int.reduceNeg, Int.reduceLT, Int.reduceLE, Nat.reducePow, Nat.reduceLT, Int.reduceToNat, gt_iff_lt, ge_iff_le, decide_eq_true_eq, Bool.not_eq_true', decide_eq_false_iff_not, scal, ↓reduceIte, Bool.false_eq_true]
    refine ite2 (fun _ => ?_) (fun _ => no)
    refine ite2 (fun _ => ?_) (fun _ => no)
    refine ite2 (fun hlt => ?_) (fun _ => no)
    obtain ⟨z, hz⟩ := at_ints hi hlt
    simp only [hz, cx_K, decide_true, decide_false, reduceCtorEq, gTp, gCons, gNil, ca_0, ca_1, ca_2, ca_3, ca_4, ca_5, ca_6, ca_7, ca_8, ca_9, ca_10, ca_11, ca_12, ca_13, ca_14, ca_15, ca_16, ca_17, ca_18, ca_19, ca_20, ca_21, ca_22, ca_23, ca_24, ca_25, ca_26, ca_27, ca_28, ca_29, ca_30, not_true_eq_false, not_false_eq_true, Int.reduceEq, Nat.reduceEqDiff, Nat.reduceLeDiff, rGcd, V.ty.injEq, eq_self, List.not_mem_nil, beq_self_eq_true, HO.lst.injEq, HO.tup.injEq, tFor_eq, iRng1, iList, iTup, nat10, tSeq, rIxA, rSetA, rIsN, rIsT, tTp, tLs, itsO_tup, itsO_lst, tyO_tup, tyO_lst, tyO_dK, tyN_non, tyN_bl, tyN_int, tyN_str, tyN_ref, tyNs_lt, isB, upd_same, upd_upd, sizeLine_eq, List.mem_cons, String.reduceBEq, String.reduceEq, Bool.or_false, Bool.or_true, Bool.and_false, Bool.false_or, Bool.and_self, Bool.false_and, Bool.not_false, Bool.not_true, List.any_cons, List.any_nil, atI_0, setI_0, atI_1, setI_1, atI_2, setI_2, atI_3, setI_3, atI_4, setI_4, atI_5, setI_5, atI_6, setI_6, tAsg, gName, tOp, tUn, tVar, tC, tCons, L2.tNil, tRet, tIfS, tTest, tCB, tCall, rI, rI0, rU, tNext, tB, tAnd, tOr, tNot, tAndV, tOrV, tNotV, tDrop, tIf, tPar, gSub, rIxL, rIxT, rEq, rNe, rSetL, tBits,
    L2.start, List.map_cons, List.map_nil, List.cons_append, List.nil_append, List.append_nil, List.length_cons, List.length_nil, List.replicate, Nat.reduceAdd, Nat.reduceSub, Nat.zero_add, List.getElem?_cons_zero, List.getElem?_cons_succ, List.set_cons_zero, List.set_cons_succ,
    Option.some.injEq, exists_eq_left', exists_eq_left, V.int.injEq, V.bl.injEq, V.ref.injEq, V.str.injEq, List.cons.injEq, reduceCtorEq, and_true, true_and, false_and, and_false, exists_false, or_false, false_or, or_true, true_or, exists_const, CMul, CDiv, CPow, and_assoc, exists_and_left, exists_and_right, Int.reducePow, Int.reduceNeg, Int.reduceLT, Int.reduceLE, Nat.reducePow, Nat.reduceLT, Int.reduceToNat, gt_iff_lt, ge_iff_le, decide_eq_true_eq, Bool.not_eq_true', decide_eq_false_iff_not, scal, ↓reduceIte, Bool.false_eq_true]
    refine ite2 (fun _ => ?_) (fun _ => ?_)
    · have S2 := S1.put (i' := i + 1) (b' := b) (c' := c + 1) (d' := d) (e' := 2) (f' := z) (by omega)
      exact ⟨_, rfl, kp1.trans (Kp.put hs), _, _, _, _, _, _, _, _, S2⟩
    · have S2 := S1.put (i' := i + 1) (b' := if z < 0 then -z else z) (c' := c + 1) (d' := d) (e' := e) (f' := f) (by omega)
      exact ⟨_, rfl, kp1.trans (Kp.put hs), _, _, _, _, _, _, _, _, S2⟩
  rintro σ' H2 ⟨x, rfl, kp2, sc, ns, i, b, c, d, e, f, S2⟩
  obtain ⟨hs, hsc, hne, hi, ks, ksc⟩ := id S2
  have o1 := (ob_none ks).trans hs
  simp only [o1, hs, cx_K, decide_true, decide_false, reduceCtorEq, gTp, gCons, gNil, ca_0, ca_1, ca_2, ca_3, ca_4, ca_5, ca_6, ca_7, ca_8, ca_9, ca_10, ca_11, ca_12, ca_13, ca_14, ca_15, ca_16, ca_17, ca_18, ca_19, ca_20, ca_21, ca_22, ca_23, ca_24, ca_25, ca_26, ca_27, ca_28, ca_29, ca_30, not_true_eq_false, not_false_eq_true, Int.reduceEq, Nat.reduceEqDiff, Nat.reduceLeDiff, rGcd, V.ty.injEq, eq_self, List.not_mem_nil, beq_self_eq_true, HO.lst.injEq, HO.tup.injEq, tFor_eq, iRng1, iList, iTup, nat10, tSeq, rIxA, rSetA, rIsN, rIsT, tTp, tLs, itsO_tup, itsO_lst, tyO_tup, tyO_lst, tyO_dK, tyN_non, tyN_bl, tyN_int, tyN_str, tyN_ref, tyNs_lt, isB, upd_same, upd_upd, sizeLine_eq, List.mem_cons, String.reduceBEq, String.reduceEq, Bool.or_false, Bool.or_true, Bool.and_false, Bool.false_or, Bool.and_self, Bool.false_and, Bool.not_false, Bool.not_true, List.any_cons, List.any_nil, atI_0, setI_0, atI_1, setI_1, atI_2, setI_2, atI_3, setI_3, atI_4, setI_4, atI_5, setI_5, atI_6, setI_6, tAsg, gName, tOp, tUn, tVar, tC, tCons, L2.tNil, tRet, tIfS, tTest, tCB, tCall, rI, rI0, rU, tNext, tB, tAnd, tOr, tNot, tAndV, tOrV, tNotV, tDrop, tIf, tPar, gSub, rIxL, rIxT, rEq, rNe, rSetL, tBits,
    L2.start, List.map_cons, List.map_nil, List.cons_append, List.nil_append, List.append_nil, List.length_cons, List.length_nil, List.replicate, Nat.reduceAdd, Nat.reduceSub, Nat.zero_add, List.getElem?_cons_zero, List.getElem?_cons_succ, List.set_cons_zero, List.set_cons_succ,
    Option.some.injEq, exists_eq_left', exists_eq_left, V.int.injEq, V.bl.injEq, V.ref.injEq, V.str.injEq, List.cons.injEq, reduceCtorEq, and_true, true_and, false_and, and_false, exists_false, or_false, false_or, or_true, true_or, exists_const, CMul, CDiv, CPow, and_assoc, exists_and_left, exists_and_right, Int.reducePow, Int.reduceNeg, Int.reduceLT, Int.reduceLE, Nat.reducePow, Nat.reduceLT, Int.reduceToNat, gt_iff_lt, ge_iff_le, decide_eq_true_eq, Bool.not_eq_true', decide_eq_false_iff_not, scal, ↓reduceIte, Bool.false_eq_true]
  have hm0 : m ≠ 0 := by omega
  refine ite2 (fun hb => ?_) (fun hb => ?_)
  · have S3 := S2.put (i' := i) (b' := b / m) (c' := c) (d' := d) (e' := e) (f' := f) hi
    refine ⟨hm0, wide_div (b := 200) (by omega) (by omega) (by omega) (by omega), q _ _ ?_ (.inl ?_) (kp2.trans (Kp.put hs)) ⟨_, _, _, _, _, _, _, _, S3⟩⟩
    · rw [Int.fmod_eq_emod_of_nonneg b (by omega)]
      exact Int.emod_nonneg _ hm0
    · rw [Int.fmod_eq_emod_of_nonneg b (by omega)]
      exact Int.emod_lt_of_pos _ (by omega)
  refine ⟨TakeB K s m H, ?_, ?_⟩
  · simp only [o1, hs, cx_K, decide_true, decide_false, reduceCtorEq, gTp, gCons, gNil, ca_0, ca_1, ca_2, ca_3, ca_4, ca_5, ca_6, ca_7, ca_8, ca_9, ca_10, ca_11, ca_12, ca_13, ca_14, ca_15, ca_16, ca_17, ca_18, ca_19, ca_20, ca_21, ca_22, ca_23, ca_24, ca_25, ca_26, ca_27, ca_28, ca_29, ca_30, not_true_eq_false, not_false_eq_true, Int.reduceEq, Nat.reduceEqDiff, Nat.reduceLeDiff, rGcd, V.ty.injEq, eq_self, List.not_mem_nil, beq_self_eq_true, HO.lst.injEq, HO.tup.injEq, tFor_eq, iRng1, iList, iTup, nat10, tSeq, rIxA, rSetA, rIsN, rIsT, tTp, tLs, itsO_tup, itsO_lst, tyO_tup, tyO_lst, tyO_dK, tyN_non, tyN_bl, tyN_int, tyN_str, tyN_ref, tyNs_lt, isB, upd_same, upd_upd, sizeLine_eq, List.mem_cons, String.reduceBEq, String.reduceEq, Bool.or_false, Bool.or_true, Bool.and_false, Bool.false_or, Bool.and_self, Bool.false_and, Bool.not_false, Bool.not_true, List.any_cons, List.any_nil, atI_0, setI_0, atI_1, setI_1, atI_2, setI_2, atI_3, setI_3, atI_4, setI_4, atI_5, setI_5, atI_6, setI_6, tAsg, gName, tOp, tUn, tVar, tC, tCons, L2.tNil, tRet, tIfS, tTest, tCB, tCall, rI, rI0, rU, tNext, tB, tAnd, tOr, tNot, tAndV, tOrV, tNotV, tDrop, tIf, tPar, gSub, rIxL, rIxT, rEq, rNe, rSetL, tBits,
    L2.start, List.map_cons, List.map_nil, List.cons_append, List.nil_append, List.append_nil, List.length_cons, List.length_nil, List.replicate, Nat.reduceAdd, Nat.reduceSub, Nat.zero_add, List.getElem?_cons_zero, List.getElem?_cons_succ, List.set_cons_zero, List.set_cons_succ,
    Option.some.injEq, exists_eq_left', exists_eq_left, V.int.injEq, V.bl.injEq, V.ref.injEq, V.str.injEq, List.cons.injEq, reduceCtorEq, and_true, true_and, false_and, and_false, exists_false, or_false, false_or, or_true, true_or, exists_const, CMul, CDiv, CPow, and_assoc, exists_and_left, exists_and_right, Int.reducePow, Int.reduceNeg, Int.reduceLT, Int.reduceLE, Nat.reducePow, Nat.reduceLT, Int.reduceToNat, gt_iff_lt, ge_iff_le, decide_eq_true_eq, Bool.not_eq_true', decide_eq_false_iff_not, scal, ↓reduceIte, Bool.false_eq_true]
    refine ite2 (fun he => ?_) (fun he => ?_)
    · have S3 := S2.put (i' := i) (b' := b) (c' := c) (d' := d) (e' := e - 1) (f' := f) hi
      have o3 := (ob_none ks).trans S3.1
      simp only [o3, cx_K, decide_true, decide_false, reduceCtorEq, gTp, gCons, gNil, ca_0, ca_1, ca_2, ca_3, ca_4, ca_5, ca_6, ca_7, ca_8, ca_9, ca_10, ca_11, ca_12, ca_13, ca_14, ca_15, ca_16, ca_17, ca_18, ca_19, ca_20, ca_21, ca_22, ca_23, ca_24, ca_25, ca_26, ca_27, ca_28, ca_29, ca_30, not_true_eq_false, not_false_eq_true, Int.reduceEq, Nat.reduceEqDiff, Nat.reduceLeDiff, rGcd, V.ty.injEq, eq_self, List.not_mem_nil, beq_self_eq_true, HO.lst.injEq, HO.tup.injEq, tFor_eq, iRng1, iList, iTup, nat10, tSeq, rIxA, rSetA, rIsN, rIsT, tTp, tLs, itsO_tup, itsO_lst, tyO_tup, tyO_lst, tyO_dK, tyN_non, tyN_bl, tyN_int, tyN_str, tyN_ref, tyNs_lt, isB, upd_same, upd_upd, sizeLine_eq, List.mem_cons, String.reduceBEq, String.reduceEq, Bool.or_false, Bool.or_true, Bool.and_false, Bool.false_or, Bool.and_self, Bool.false_and, Bool.not_false, Bool.not_true, List.any_cons, List.any_nil, atI_0, setI_0, atI_1, setI_1, atI_2, setI_2, atI_3, setI_3, atI_4, setI_4, atI_5, setI_5, atI_6, setI_6, tAsg, gName, tOp, tUn, tVar, tC, tCons, L2.tNil, tRet, tIfS, tTest, tCB, tCall, rI, rI0, rU, tNext, tB, tAnd, tOr, tNot, tAndV, tOrV, tNotV, tDrop, tIf, tPar, gSub, rIxL, rIxT, rEq, rNe, rSetL, tBits,
    L2.start, List.map_cons, List.map_nil, List.cons_append, List.nil_append, List.append_nil, List.length_cons, List.length_nil, List.replicate, Nat.reduceAdd, Nat.reduceSub, Nat.zero_add, List.getElem?_cons_zero, List.getElem?_cons_succ, List.set_cons_zero, List.set_cons_succ,
    Option.some.injEq, exists_eq_left', exists_eq_left, V.int.injEq, V.bl.injEq, V.ref.injEq, V.str.injEq, List.cons.injEq, reduceCtorEq, and_true, true_and, false_and, and_false, exists_false, or_false, false_or, or_true, true_or, exists_const, CMul, CDiv, CPow, and_assoc, exists_and_left, exists_and_right, Int.reducePow, Int.reduceNeg, Int.reduceLT, Int.reduceLE, Nat.reducePow, Nat.reduceLT, Int.reduceToNat, gt_iff_lt, ge_iff_le, decide_eq_true_eq, Bool.not_eq_true', decide_eq_false_iff_not, scal, ↓reduceIte, Bool.false_eq_true]
      exact ⟨_, _, rfl, kp2.trans (Kp.put hs), _, _, _, _, _, _, _, _, S3⟩
    · exact ⟨_, _, rfl, kp2, _, _, _, _, _, _, _, _, S2⟩
  rintro σ' H3 ⟨x, n, rfl, kp3, sc, ns, i, b, c, d, e, f, S3⟩
  obtain ⟨hs, hsc, hne, hi, ks, ksc⟩ := id S3
  have o1 := (ob_none ks).trans hs
  simp only [o1, hs, cx_K, decide_true, decide_false, reduceCtorEq, gTp, gCons, gNil, ca_0, ca_1, ca_2, ca_3, ca_4, ca_5, ca_6, ca_7, ca_8, ca_9, ca_10, ca_11, ca_12, ca_13, ca_14, ca_15, ca_16, ca_17, ca_18, ca_19, ca_20, ca_21, ca_22, ca_23, ca_24, ca_25, ca_26, ca_27, ca_28, ca_29, ca_30, not_true_eq_false, not_false_eq_true, Int.reduceEq, Nat.reduceEqDiff, Nat.reduceLeDiff, rGcd, V.ty.injEq, eq_self, List.not_mem_nil, beq_self_eq_true, HO.lst.injEq, HO.tup.injEq, tFor_eq, iRng1, iList, iTup, nat10, tSeq, rIxA, rSetA, rIsN, rIsT, tTp, tLs, itsO_tup, itsO_lst, tyO_tup, tyO_lst, tyO_dK, tyN_non, tyN_bl, tyN_int, tyN_str, tyN_ref, tyNs_lt, isB, upd_same, upd_upd, sizeLine_eq, List.mem_cons, String.reduceBEq, String.reduceEq, Bool.or_false, Bool.or_true, Bool.and_false, Bool.false_or, Bool.and_self, Bool.false_and, Bool.not_false, Bool.not_true, List.any_cons, List.any_nil, atI_0, setI_0, atI_1, setI_1, atI_2, setI_2, atI_3, setI_3, atI_4, setI_4, atI_5, setI_5, atI_6, setI_6, tAsg, gName, tOp, tUn, tVar, tC, tCons, L2.tNil, tRet, tIfS, tTest, tCB, tCall, rI, rI0, rU, tNext, tB, tAnd, tOr, tNot, tAndV, tOrV, tNotV, tDrop, tIf, tPar, gSub, rIxL, rIxT, rEq, rNe, rSetL, tBits,
    L2.start, List.map_cons, List.map_nil, List.cons_append, List.nil_append, List.append_nil, List.length_cons, List.length_nil, List.replicate, Nat.reduceAdd, Nat.reduceSub, Nat.zero_add, List.getElem?_cons_zero, List.getElem?_cons_succ, List.set_cons_zero, List.set_cons_succ,
    Option.some.injEq, exists_eq_left', exists_eq_left, V.int.injEq, V.bl.injEq, V.ref.injEq, V.str.injEq, List.cons.injEq, reduceCtorEq, and_true, true_and, false_and, and_false, exists_false, or_false, false_or, or_true, true_or, exists_const, CMul, CDiv, CPow, and_assoc, exists_and_left, exists_and_right, Int.reducePow, Int.reduceNeg, Int.reduceLT, Int.reduceLE, Nat.reducePow, Nat.reduceLT, Int.reduceToNat, gt_iff_lt, ge_iff_le, decide_eq_true_eq, Bool.not_eq_true', decide_eq_false_iff_not, scal, ↓reduceIte, Bool.false_eq_true]
  have hbits : Builtin.Int.intBits m ≤ 200 := bits_le (by omega)
  refine ⟨by omega, by omega, forI_range (TakeC s m x n H3) ⟨0, none, rfl, rfl⟩ ?_ ?_⟩
  · rintro k σ H' hk ⟨v, y, rfl, rfl⟩
    simp only [o1, hs, cx_K, decide_true, decide_false, reduceCtorEq, gTp, gCons, gNil, ca_0, ca_1, ca_2, ca_3, ca_4, ca_5, ca_6, ca_7, ca_8, ca_9, ca_10, ca_11, ca_12, ca_13, ca_14, ca_15, ca_16, ca_17, ca_18, ca_19, ca_20, ca_21, ca_22, ca_23, ca_24, ca_25, ca_26, ca_27, ca_28, ca_29, ca_30, not_true_eq_false, not_false_eq_true, Int.reduceEq, Nat.reduceEqDiff, Nat.reduceLeDiff, rGcd, V.ty.injEq, eq_self, List.not_mem_nil, beq_self_eq_true, HO.lst.injEq, HO.tup.injEq, tFor_eq, iRng1, iList, iTup, nat10, tSeq, rIxA, rSetA, rIsN, rIsT, tTp, tLs, itsO_tup, itsO_lst, tyO_tup, tyO_lst, tyO_dK, tyN_non, tyN_bl, tyN_int, tyN_str, tyN_ref, tyNs_lt, isB, upd_same, upd_upd, sizeLine_eq, List.mem_cons, String.reduceBEq, String.reduceEq, Bool.or_false, Bool.or_true, Bool.and_false, Bool.false_or, Bool.and_self, Bool.false_and, Bool.not_false, Bool.not_true, List.any_cons, List.any_nil, atI_0, setI_0, atI_1, setI_1, atI_2, setI_2, atI_3, setI_3, atI_4, setI_4, atI_5, setI_5, atI_6, setI_6, tAsg, gName, tOp, tUn, tVar, tC, tCons, L2.tNil, tRet, tIfS, tTest, tCB, tCall, rI, rI0, rU, tNext, tB, tAnd, tOr, tNot, tAndV, tOrV, tNotV, tDrop, tIf, tPar, gSub, rIxL, rIxT, rEq, rNe, rSetL, tBits,
    L2.start, List.map_cons, List.map_nil, List.cons_append, List.nil_append, List.append_nil, List.length_cons, List.length_nil, List.replicate, Nat.reduceAdd, Nat.reduceSub, Nat.zero_add, List.getElem?_cons_zero, List.getElem?_cons_succ, List.set_cons_zero, List.set_cons_succ,
    Option.some.injEq, exists_eq_left', exists_eq_left, V.int.injEq, V.bl.injEq, V.ref.injEq, V.str.injEq, List.cons.injEq, reduceCtorEq, and_true, true_and, false_and, and_false, exists_false, or_false, false_or, or_true, true_or, exists_const, CMul, CDiv, CPow, and_assoc, exists_and_left, exists_and_right, Int.reducePow, Int.reduceNeg, Int.reduceLT, Int.reduceLE, Nat.reducePow, Nat.reduceLT, Int.reduceToNat, gt_iff_lt, ge_iff_le, decide_eq_true_eq, Bool.not_eq_true', decide_eq_false_iff_not, scal, ↓reduceIte, Bool.false_eq_true]
    refine ⟨_, _, rfl, fun r => ?_⟩
    simp only [cx_K, decide_true, decide_false, reduceCtorEq, gTp, gCons, gNil, ca_0, ca_1, ca_2, ca_3, ca_4, ca_5, ca_6, ca_7, ca_8, ca_9, ca_10, ca_11, ca_12, ca_13, ca_14, ca_15, ca_16, ca_17, ca_18, ca_19, ca_20, ca_21, ca_22, ca_23, ca_24, ca_25, ca_26, ca_27, ca_28, ca_29, ca_30, not_true_eq_false, not_false_eq_true, Int.reduceEq, Nat.reduceEqDiff, Nat.reduceLeDiff, rGcd, V.ty.injEq, eq_self, List.not_mem_nil, beq_self_eq_true, HO.lst.injEq, HO.tup.injEq, tFor_eq, iRng1, iList, iTup, nat10, tSeq, rIxA, rSetA, rIsN, rIsT, tTp, tLs, itsO_tup, itsO_lst, tyO_tup, tyO_lst, tyO_dK, tyN_non, tyN_bl, tyN_int, tyN_str, tyN_ref, tyNs_lt, isB, upd_same, upd_upd, sizeLine_eq, List.mem_cons, String.reduceBEq, String.reduceEq, Bool.or_false, Bool.or_true, Bool.and_false, Bool.false_or, Bool.and_self, Bool.false_and, Bool.not_false, Bool.not_true, List.any_cons, List.any_nil, atI_0, setI_0, atI_1, setI_1, atI_2, setI_2, atI_3, setI_3, atI_4, setI_4, atI_5, setI_5, atI_6, setI_6, tAsg, gName, tOp, tUn, tVar, tC, tCons, L2.tNil, tRet, tIfS, tTest, tCB, tCall, rI, rI0, rU, tNext, tB, tAnd, tOr, tNot, tAndV, tOrV, tNotV, tDrop, tIf, tPar, gSub, rIxL, rIxT, rEq, rNe, rSetL, tBits,
    L2.start, List.map_cons, List.map_nil, List.cons_append, List.nil_append, List.append_nil, List.length_cons, List.length_nil, List.replicate, Nat.reduceAdd, Nat.reduceSub, Nat.zero_add, List.getElem?_cons_zero, List.getElem?_cons_succ, List.set_cons_zero, List.set_cons_succ,
    Option.some.injEq, exists_eq_left', exists_eq_left, V.int.injEq, V.bl.injEq, V.ref.injEq, V.str.injEq, List.cons.injEq, reduceCtorEq, and_true, true_and, false_and, and_false, exists_false, or_false, false_or, or_true, true_or, exists_const, CMul, CDiv, CPow, and_assoc, exists_and_left, exists_and_right, Int.reducePow, Int.reduceNeg, Int.reduceLT, Int.reduceLE, Nat.reducePow, Nat.reduceLT, Int.reduceToNat, gt_iff_lt, ge_iff_le, decide_eq_true_eq, Bool.not_eq_true', decide_eq_false_iff_not, scal, ↓reduceIte, Bool.false_eq_true]
    exact ⟨_, _, rfl, rfl⟩
  · rintro σ H' ⟨v, y, rfl, rfl⟩
    simp only [cx_K, decide_true, decide_false, reduceCtorEq, gTp, gCons, gNil, ca_0, ca_1, ca_2, ca_3, ca_4, ca_5, ca_6, ca_7, ca_8, ca_9, ca_10, ca_11, ca_12, ca_13, ca_14, ca_15, ca_16, ca_17, ca_18, ca_19, ca_20, ca_21, ca_22, ca_23, ca_24, ca_25, ca_26, ca_27, ca_28, ca_29, ca_30, not_true_eq_false, not_false_eq_true, Int.reduceEq, Nat.reduceEqDiff, Nat.reduceLeDiff, rGcd, V.ty.injEq, eq_self, List.not_mem_nil, beq_self_eq_true, HO.lst.injEq, HO.tup.injEq, tFor_eq, iRng1, iList, iTup, nat10, tSeq, rIxA, rSetA, rIsN, rIsT, tTp, tLs, itsO_tup, itsO_lst, tyO_tup, tyO_lst, tyO_dK, tyN_non, tyN_bl, tyN_int, tyN_str, tyN_ref, tyNs_lt, isB, upd_same, upd_upd, sizeLine_eq, List.mem_cons, String.reduceBEq, String.reduceEq, Bool.or_false, Bool.or_true, Bool.and_false, Bool.false_or, Bool.and_self, Bool.false_and, Bool.not_false, Bool.not_true, List.any_cons, List.any_nil, atI_0, setI_0, atI_1, setI_1, atI_2, setI_2, atI_3, setI_3, atI_4, setI_4, atI_5, setI_5, atI_6, setI_6, tAsg, gName, tOp, tUn, tVar, tC, tCons, L2.tNil, tRet, tIfS, tTest, tCB, tCall, rI, rI0, rU, tNext, tB, tAnd, tOr, tNot, tAndV, tOrV, tNotV, tDrop, tIf, tPar, gSub, rIxL, rIxT, rEq, rNe, rSetL, tBits,
    L2.start, List.map_cons, List.map_nil, List.cons_append, List.nil_append, List.append_nil, List.length_cons, List.length_nil, List.replicate, Nat.reduceAdd, Nat.reduceSub, Nat.zero_add, List.getElem?_cons_zero, List.getElem?_cons_succ, List.set_cons_zero, List.set_cons_succ,
    Option.some.injEq, exists_eq_left', exists_eq_left, V.int.injEq, V.bl.injEq, V.ref.injEq, V.str.injEq, List.cons.injEq, reduceCtorEq, and_true, true_and, false_and, and_false, exists_false, or_false, false_or, or_true, true_or, exists_const, CMul, CDiv, CPow, and_assoc, exists_and_left, exists_and_right, Int.reducePow, Int.reduceNeg, Int.reduceLT, Int.reduceLE, Nat.reducePow, Nat.reduceLT, Int.reduceToNat, gt_iff_lt, ge_iff_le, decide_eq_true_eq, Bool.not_eq_true', decide_eq_false_iff_not, scal, ↓reduceIte, Bool.false_eq_true]
    refine ⟨hm0, q _ _ ?_ (.inl ?_) kp3 ⟨_, _, _, _, _, _, _, _, S3⟩⟩
    · rw [Int.fmod_eq_emod_of_nonneg v (by omega)]
      exact Int.emod_nonneg _ hm0
    · rw [Int.fmod_eq_emod_of_nonneg v (by omega)]
      exact Int.emod_lt_of_pos _ (by omega)
end
end My

namespace My
open PySem PySem.Spec PyProof.Rows L2
section
variable {P : Program} {w : World} {K : PySem.W.Frag} {mg : Str → Option Value} {base : Heap}
theorem abs_if (n : Int) : (if n < 0 then -n else n) = (n.natAbs : Int) := by split <;> omega
def spGcd : Sp := fun vs H Q _ => ∃ a b : Int, vs = [.int a, .int b] ∧ Q (.int ((Int.gcd a b : Nat) : Int)) H
def GcdW (a b : Int) (H : Hp) (σ : L2.St) (H' : Hp) : Prop := ∃ l r : Int, σ = [some (.int l), some (.int r)] ∧ H' = H ∧ 0 ≤ l ∧ 0 ≤ r ∧ Int.gcd l r = Int.gcd a b
def GcdM (σ : L2.St) (_ : Hp) : Nat := match σ with
  | [_, some (.int r)] => r.toNat
  | _ => 0
abbrev sGcd : Stmt := topS 52
theorem scGcd : FnScope ["_law_left", "_law_right"] ["_law_left", "_law_right"] (defScope sGcd) := ⟨rfl, rfl, rfl, by decide +kernel, rfl, by decide +kernel, by decide +kernel⟩
theorem k_Gcd (T : Bt K mg) (D : Dfn K mg "_law_gcd" sGcd ["_law_left", "_law_right"]) : Kn P w K mg base 1 "_law_gcd" ["_law_left", "_law_right"] spGcd := by
  refine Kn.mk' D scGcd (fun vs H Q E h => ?_) (fun f cdv A outer s H vs Q E hr h => ?_)
  · obtain ⟨a, b, rfl, _⟩ := h
    rfl
  obtain ⟨a, b, rfl, q⟩ := h
  refine ⟨_, (pss_cons (ps_set (i := 0) scGcd.nd rfl (.inl rfl) (pe_callB call_abs (by rfl) T.b_abs (by decide +kernel) (pa_cons (pv 0) pa_nil)))
      (pss_cons (ps_set (i := 1) scGcd.nd rfl (.inl rfl) (pe_callB call_abs (by rfl) T.b_abs (by decide +kernel) (pa_cons (pv 1) pa_nil)))
      (pss_cons (ps_while PassesOwn.never (pt_cmpR op_gt (pv 1) pe_int (nomark _)) (pss_one (ps_par (i := 0) (j := 1) (by rfl) scGcd.nd rfl rfl (by decide) rfl rfl (pa_cons (pv 1) (pa_cons (pe_op op_modN (pe_callTy call_int1 (by rfl) T.b_int (by decide +kernel) (pa_cons (pv 0) pa_nil)) (pv 1)) pa_nil)) (by rfl))))
      (pss_one (ps_ret (pv 0)))))), ?_⟩
  simp only [abs_if, cx_K, decide_true, decide_false, reduceCtorEq, gTp, gCons, gNil, ca_0, ca_1, ca_2, ca_3, ca_4, ca_5, ca_6, ca_7, ca_8, ca_9, ca_10, ca_11, ca_12, ca_13, ca_14, ca_15, ca_16, ca_17, ca_18, ca_19, ca_20, ca_21, ca_22, ca_23, ca_24, ca_25, ca_26, ca_27, ca_28, ca_29, ca_30, not_true_eq_false, not_false_eq_true, Int.reduceEq, Nat.reduceEqDiff, Nat.reduceLeDiff, rGcd, V.ty.injEq, eq_self, List.not_mem_nil, beq_self_eq_true, HO.lst.injEq, HO.tup.injEq, tFor_eq, iRng1, iList, iTup, nat10, tSeq, rIxA, rSetA, rIsN, rIsT, tTp, tLs, itsO_tup, itsO_lst, tyO_tup, tyO_lst, tyO_dK, tyN_non, tyN_bl, tyN_int, tyN_str, tyN_ref, tyNs_lt, isB, upd_same, upd_upd, sizeLine_eq, List.mem_cons, String.reduceBEq, String.reduceEq, Bool.or_false, Bool.or_true, Bool.and_false, Bool.false_or, Bool.and_self, Bool.false_and, Bool.not_false, Bool.not_true, List.any_cons, List.any_nil, atI_0, setI_0, atI_1, setI_1, atI_2, setI_2, atI_3, setI_3, atI_4, setI_4, atI_5, setI_5, atI_6, setI_6, tAsg, gName, tOp, tUn, tVar, tC, tCons, L2.tNil, tRet, tIfS, tTest, tCB, tCall, rI, rI0, rU, tNext, tB, tAnd, tOr, tNot, tAndV, tOrV, tNotV, tDrop, tIf, tPar, gSub, rIxL, rIxT, rEq, rNe, rSetL, tBits,
    L2.start, List.map_cons, List.map_nil, List.cons_append, List.nil_append, List.append_nil, List.length_cons, List.length_nil, List.replicate, Nat.reduceAdd, Nat.reduceSub, Nat.zero_add, List.getElem?_cons_zero, List.getElem?_cons_succ, List.set_cons_zero, List.set_cons_succ,
    Option.some.injEq, exists_eq_left', exists_eq_left, V.int.injEq, V.bl.injEq, V.ref.injEq, V.str.injEq, List.cons.injEq, reduceCtorEq, and_true, true_and, false_and, and_false, exists_false, or_false, false_or, or_true, true_or, exists_const, CMul, CDiv, CPow, and_assoc, exists_and_left, exists_and_right, Int.reducePow, Int.reduceNeg, Int.reduceLT, Int.reduceLE, Nat.reducePow, Nat.reduceLT, Int.reduceToNat, gt_iff_lt, ge_iff_le, decide_eq_true_eq, Bool.not_eq_true', decide_eq_false_iff_not, scal, ↓reduceIte, Bool.false_eq_true]
  refine while_by (GcdW a b H) GcdM ⟨_, _, rfl, rfl, by omega, by omega, rfl⟩ ?_ ?_
  · rintro σ H' ⟨l, r, rfl, rfl, hl, hr, e⟩
    simp only [cx_K, decide_true, decide_false, reduceCtorEq, gTp, gCons, gNil, ca_0, ca_1, ca_2, ca_3, ca_4, ca_5, ca_6, ca_7, ca_8, ca_9, ca_10, ca_11, ca_12, ca_13, ca_14, ca_15, ca_16, ca_17, ca_18, ca_19, ca_20, ca_21, ca_22, ca_23, ca_24, ca_25, ca_26, ca_27, ca_28, ca_29, ca_30, not_true_eq_false, not_false_eq_true, Int.reduceEq, Nat.reduceEqDiff, Nat.reduceLeDiff, rGcd, V.ty.injEq, eq_self, List.not_mem_nil, beq_self_eq_true, HO.lst.injEq, HO.tup.injEq, tFor_eq, iRng1, iList, iTup, nat10, tSeq, rIxA, rSetA, rIsN, rIsT, tTp, tLs, itsO_tup, itsO_lst, tyO_tup, tyO_lst, tyO_dK, tyN_non, tyN_bl, tyN_int, tyN_str, tyN_ref, tyNs_lt, isB, upd_same, upd_upd, sizeLine_eq, List.mem_cons, String.reduceBEq, String.reduceEq, Bool.or_false, Bool.or_true, Bool.and_false, Bool.false_or, Bool.and_self, Bool.false_and, Bool.not_false, Bool.not_true, List.any_cons, List.any_nil, atI_0, setI_0, atI_1, setI_1, atI_2, setI_2, atI_3, setI_3, atI_4, setI_4, atI_5, setI_5, atI_6, setI_6, tAsg, gName, tOp, tUn, tVar, tC, tCons, L2.tNil, tRet, tIfS, tTest, tCB, tCall, rI, rI0, rU, tNext, tB, tAnd, tOr, tNot, tAndV, tOrV, tNotV, tDrop, tIf, tPar, gSub, rIxL, rIxT, rEq, rNe, rSetL, tBits,
    L2.start, List.map_cons, List.map_nil, List.cons_append, List.nil_append, List.append_nil, List.length_cons, List.length_nil, List.replicate, Nat.reduceAdd, Nat.reduceSub, Nat.zero_add, List.getElem?_cons_zero, List.getElem?_cons_succ, List.set_cons_zero, List.set_cons_succ,
    Option.some.injEq, exists_eq_left', exists_eq_left, V.int.injEq, V.bl.injEq, V.ref.injEq, V.str.injEq, List.cons.injEq, reduceCtorEq, and_true, true_and, false_and, and_false, exists_false, or_false, false_or, or_true, true_or, exists_const, CMul, CDiv, CPow, and_assoc, exists_and_left, exists_and_right, Int.reducePow, Int.reduceNeg, Int.reduceLT, Int.reduceLE, Nat.reducePow, Nat.reduceLT, Int.reduceToNat, gt_iff_lt, ge_iff_le, decide_eq_true_eq, Bool.not_eq_true', decide_eq_false_iff_not, scal, ↓reduceIte, Bool.false_eq_true]
    refine ite2 (fun h => ?_) (fun h => ?_)
    · refine ⟨by omega, ⟨_, _, rfl, rfl, hr, ?_, ?_⟩, ?_⟩
      · rw [Int.fmod_eq_emod_of_nonneg l hr]
        exact Int.emod_nonneg _ (by omega)
      · rw [Int.fmod_eq_emod_of_nonneg l hr, ← e]
        show Nat.gcd r.natAbs (l % r).natAbs = Nat.gcd l.natAbs r.natAbs
        rw [Int.natAbs_emod_of_nonneg hl, Nat.gcd_comm l.natAbs, Nat.gcd_rec r.natAbs l.natAbs, Nat.gcd_comm]
      · show (l.fmod r).toNat < r.toNat
        rw [Int.fmod_eq_emod_of_nonneg l hr]
        have := Int.emod_lt_of_pos l h
        omega
    · have hr0 : r = 0 := by omega
      subst hr0
      have e2 : l = ((Int.gcd a b : Nat) : Int) := by
        rw [← e, Int.gcd_zero_right]
        omega
      rw [e2]
      exact q
  · rintro σ H' Q' Q2 hq ⟨v, e, i, j, h1, h2, k, ek, h⟩
    exact ⟨v, e, i, j, h1, h2, k, ek, hq _ _ h⟩
/-- the law's own lowest terms; 0 beneath gives 0 -/
def Lw (q : Qt) (t b : Int) : Prop := (b = 0 → q = (0, 1)) ∧ (b ≠ 0 → Is q t b)
/-- hands back a fraction, all else as it was -/
def Gv (K : PySem.W.Frag) (H : Hp) (Q : VK) (q : Qt) : Prop := ∀ (p : Addr) (H' : Hp), Same H H' → ob K H' p = some (frt q) → Q (.ref p) H'
theorem Gv.new {K : PySem.W.Frag} {H : Hp} {Q : VK} {q : Qt} (h : Gv K H Q q) {p : Addr} (hp : H p = none) (kp : K.lookup p = none) : Q (.ref p) (upd H p (.tup [.int q.1, .int q.2])) := h p _ (Same.new hp _) (ob_new kp)
def spLowest (K : PySem.W.Frag) : Sp := fun vs H Q _ => ∃ t b : Int, vs = [.int t, .int b] ∧ b.natAbs < 2 ^ 8000 ∧ ∀ q, Lw q t b → Gv K H Q q
abbrev sLowest : Stmt := topS 53
theorem scLowest : FnScope ["_law_top", "_law_bottom", "_law_common"] ["_law_top", "_law_bottom"] (defScope sLowest) := ⟨rfl, rfl, rfl, by decide +kernel, rfl, by decide +kernel, by decide +kernel⟩
theorem k_Lowest (T : Bt K mg) (D : Dfn K mg "_law_lowest" sLowest ["_law_top", "_law_bottom"]) (d__law_gcd : Kn P w K mg base 1 "_law_gcd" ["_law_left", "_law_right"] spGcd) : Kn P w K mg base 2 "_law_lowest" ["_law_top", "_law_bottom"] (spLowest K) := by
  refine Kn.mk' D scLowest (fun vs H Q E h => ?_) (fun f cdv A outer s H vs Q E hr h => ?_)
  · obtain ⟨t, b, rfl, _⟩ := h
    rfl
  obtain ⟨t, b, rfl, hz, q⟩ := h
  refine ⟨_, (pss_cons (ps_if (pt_cmpR op_eq (pv 1) pe_int (nomark _)) (pss_one (ps_ret (pe_tp (pa_cons pe_int (pa_cons pe_int pa_nil))))) pss_nil)
      (pss_cons (ps_if (pt_cmpR op_lt (pv 1) pe_int (nomark _)) (pss_cons (ps_set (i := 0) scLowest.nd rfl (.inl rfl) (pe_un un_neg (pv 0)))
      (pss_one (ps_set (i := 1) scLowest.nd rfl (.inl rfl) (pe_un un_neg (pv 1))))) pss_nil)
      (pss_cons (ps_set (i := 2) scLowest.nd rfl (.inl rfl) (pe_kn d__law_gcd hr (by rfl) (pa_cons (pv 0) (pa_cons (pv 1) pa_nil))))
      (pss_one (ps_ret (pe_tp (pa_cons (pe_op op_fdivW (pv 0) (pv 2)) (pa_cons (pe_op op_fdivW (pv 1) (pv 2)) pa_nil)))))))), ?_⟩
  simp only [cx_K, decide_true, decide_false, reduceCtorEq, gTp, gCons, gNil, ca_0, ca_1, ca_2, ca_3, ca_4, ca_5, ca_6, ca_7, ca_8, ca_9, ca_10, ca_11, ca_12, ca_13, ca_14, ca_15, ca_16, ca_17, ca_18, ca_19, ca_20, ca_21, ca_22, ca_23, ca_24, ca_25, ca_26, ca_27, ca_28, ca_29, ca_30, not_true_eq_false, not_false_eq_true, Int.reduceEq, Nat.reduceEqDiff, Nat.reduceLeDiff, rGcd, V.ty.injEq, eq_self, List.not_mem_nil, beq_self_eq_true, HO.lst.injEq, HO.tup.injEq, tFor_eq, iRng1, iList, iTup, nat10, tSeq, rIxA, rSetA, rIsN, rIsT, tTp, tLs, itsO_tup, itsO_lst, tyO_tup, tyO_lst, tyO_dK, tyN_non, tyN_bl, tyN_int, tyN_str, tyN_ref, tyNs_lt, isB, upd_same, upd_upd, sizeLine_eq, List.mem_cons, String.reduceBEq, String.reduceEq, Bool.or_false, Bool.or_true, Bool.and_false, Bool.false_or, Bool.and_self, Bool.false_and, Bool.not_false, Bool.not_true, List.any_cons, List.any_nil, atI_0, setI_0, atI_1, setI_1, atI_2, setI_2, atI_3, setI_3, atI_4, setI_4, atI_5, setI_5, atI_6, setI_6, tAsg, gName, tOp, tUn, tVar, tC, tCons, L2.tNil, tRet, tIfS, tTest, tCB, tCall, rI, rI0, rU, tNext, tB, tAnd, tOr, tNot, tAndV, tOrV, tNotV, tDrop, tIf, tPar, gSub, rIxL, rIxT, rEq, rNe, rSetL, tBits,
    L2.start, List.map_cons, List.map_nil, List.cons_append, List.nil_append, List.append_nil, List.length_cons, List.length_nil, List.replicate, Nat.reduceAdd, Nat.reduceSub, Nat.zero_add, List.getElem?_cons_zero, List.getElem?_cons_succ, List.set_cons_zero, List.set_cons_succ,
    Option.some.injEq, exists_eq_left', exists_eq_left, V.int.injEq, V.bl.injEq, V.ref.injEq, V.str.injEq, List.cons.injEq, reduceCtorEq, and_true, true_and, false_and, and_false, exists_false, or_false, false_or, or_true, true_or, exists_const, CMul, CDiv, CPow, and_assoc, exists_and_left, exists_and_right, Int.reducePow, Int.reduceNeg, Int.reduceLT, Int.reduceLE, Nat.reducePow, Nat.reduceLT, Int.reduceToNat, gt_iff_lt, ge_iff_le, decide_eq_true_eq, Bool.not_eq_true', decide_eq_false_iff_not, scal, ↓reduceIte, Bool.false_eq_true]
  refine ite2 (fun h => ?_) (fun h => ?_)
  · exact fun p hp kp => (q (0, 1) ⟨fun _ => rfl, fun z => absurd h z⟩).new hp kp
  have key : ∀ t' b' : Int, 0 < b' → b'.natAbs < 2 ^ 8000 → (∀ q, Is q t' b' → Gv K H Q q) → CDivW t' ((Int.gcd t' b' : Nat) : Int) ∧ CDivW b' ((Int.gcd t' b' : Nat) : Int) ∧ ∀ p, H p = none → K.lookup p = none → Q (.ref p) (upd H p (.tup [.int (t' / ((Int.gcd t' b' : Nat) : Int)), .int (b' / ((Int.gcd t' b' : Nat) : Int))])) := fun t' b' h0 hz hq => by
    have g0 := gcd_pos (t := t') (b := b') (by omega)
    have g1 := gcd_le (t := t') (b := b') (by omega)
    have g2 : ((Int.gcd t' b' : Nat) : Int).natAbs < 2 ^ 8000 := by rw [Int.natAbs_natCast]; omega
    exact ⟨wide_div (b := 8000) (by omega) g2 (by omega) (by omega), wide_div (b := 8000) (by omega) g2 (by omega) (by omega), fun p hp kp => (hq _ (is_div h0)).new hp kp⟩
  refine ite2 (fun hb => ?_) (fun hb => ?_)
  · have k := key (-t) (-b) (by omega) (by rw [Int.natAbs_neg]; exact hz) fun z hz => q z ⟨fun e => absurd e h, fun _ => is_neg hz⟩
    refine ⟨_, _, rfl, ?_⟩
    simp only [cx_K, decide_true, decide_false, reduceCtorEq, gTp, gCons, gNil, ca_0, ca_1, ca_2, ca_3, ca_4, ca_5, ca_6, ca_7, ca_8, ca_9, ca_10, ca_11, ca_12, ca_13, ca_14, ca_15, ca_16, ca_17, ca_18, ca_19, ca_20, ca_21, ca_22, ca_23, ca_24, ca_25, ca_26, ca_27, ca_28, ca_29, ca_30, not_true_eq_false, not_false_eq_true, Int.reduceEq, Nat.reduceEqDiff, Nat.reduceLeDiff, rGcd, V.ty.injEq, eq_self, List.not_mem_nil, beq_self_eq_true, HO.lst.injEq, HO.tup.injEq, tFor_eq, iRng1, iList, iTup, nat10, tSeq, rIxA, rSetA, rIsN, rIsT, tTp, tLs, itsO_tup, itsO_lst, tyO_tup, tyO_lst, tyO_dK, tyN_non, tyN_bl, tyN_int, tyN_str, tyN_ref, tyNs_lt, isB, upd_same, upd_upd, sizeLine_eq, List.mem_cons, String.reduceBEq, String.reduceEq, Bool.or_false, Bool.or_true, Bool.and_false, Bool.false_or, Bool.and_self, Bool.false_and, Bool.not_false, Bool.not_true, List.any_cons, List.any_nil, atI_0, setI_0, atI_1, setI_1, atI_2, setI_2, atI_3, setI_3, atI_4, setI_4, atI_5, setI_5, atI_6, setI_6, tAsg, gName, tOp, tUn, tVar, tC, tCons, L2.tNil, tRet, tIfS, tTest, tCB, tCall, rI, rI0, rU, tNext, tB, tAnd, tOr, tNot, tAndV, tOrV, tNotV, tDrop, tIf, tPar, gSub, rIxL, rIxT, rEq, rNe, rSetL, tBits,
    L2.start, List.map_cons, List.map_nil, List.cons_append, List.nil_append, List.append_nil, List.length_cons, List.length_nil, List.replicate, Nat.reduceAdd, Nat.reduceSub, Nat.zero_add, List.getElem?_cons_zero, List.getElem?_cons_succ, List.set_cons_zero, List.set_cons_succ,
    Option.some.injEq, exists_eq_left', exists_eq_left, V.int.injEq, V.bl.injEq, V.ref.injEq, V.str.injEq, List.cons.injEq, reduceCtorEq, and_true, true_and, false_and, and_false, exists_false, or_false, false_or, or_true, true_or, exists_const, CMul, CDiv, CPow, and_assoc, exists_and_left, exists_and_right, Int.reducePow, Int.reduceNeg, Int.reduceLT, Int.reduceLE, Nat.reducePow, Nat.reduceLT, Int.reduceToNat, gt_iff_lt, ge_iff_le, decide_eq_true_eq, Bool.not_eq_true', decide_eq_false_iff_not, scal, ↓reduceIte, Bool.false_eq_true]
    exact k
  · have k := key t b (by omega) hz fun z hz => q z ⟨fun e => absurd e h, fun _ => hz⟩
    refine ⟨_, _, rfl, ?_⟩
    simp only [cx_K, decide_true, decide_false, reduceCtorEq, gTp, gCons, gNil, ca_0, ca_1, ca_2, ca_3, ca_4, ca_5, ca_6, ca_7, ca_8, ca_9, ca_10, ca_11, ca_12, ca_13, ca_14, ca_15, ca_16, ca_17, ca_18, ca_19, ca_20, ca_21, ca_22, ca_23, ca_24, ca_25, ca_26, ca_27, ca_28, ca_29, ca_30, not_true_eq_false, not_false_eq_true, Int.reduceEq, Nat.reduceEqDiff, Nat.reduceLeDiff, rGcd, V.ty.injEq, eq_self, List.not_mem_nil, beq_self_eq_true, HO.lst.injEq, HO.tup.injEq, tFor_eq, iRng1, iList, iTup, nat10, tSeq, rIxA, rSetA, rIsN, rIsT, tTp, tLs, itsO_tup, itsO_lst, tyO_tup, tyO_lst, tyO_dK, tyN_non, tyN_bl, tyN_int, tyN_str, tyN_ref, tyNs_lt, isB, upd_same, upd_upd, sizeLine_eq, List.mem_cons, String.reduceBEq, String.reduceEq, Bool.or_false, Bool.or_true, Bool.and_false, Bool.false_or, Bool.and_self, Bool.false_and, Bool.not_false, Bool.not_true, List.any_cons, List.any_nil, atI_0, setI_0, atI_1, setI_1, atI_2, setI_2, atI_3, setI_3, atI_4, setI_4, atI_5, setI_5, atI_6, setI_6, tAsg, gName, tOp, tUn, tVar, tC, tCons, L2.tNil, tRet, tIfS, tTest, tCB, tCall, rI, rI0, rU, tNext, tB, tAnd, tOr, tNot, tAndV, tOrV, tNotV, tDrop, tIf, tPar, gSub, rIxL, rIxT, rEq, rNe, rSetL, tBits,
    L2.start, List.map_cons, List.map_nil, List.cons_append, List.nil_append, List.append_nil, List.length_cons, List.length_nil, List.replicate, Nat.reduceAdd, Nat.reduceSub, Nat.zero_add, List.getElem?_cons_zero, List.getElem?_cons_succ, List.set_cons_zero, List.set_cons_succ,
    Option.some.injEq, exists_eq_left', exists_eq_left, V.int.injEq, V.bl.injEq, V.ref.injEq, V.str.injEq, List.cons.injEq, reduceCtorEq, and_true, true_and, false_and, and_false, exists_false, or_false, false_or, or_true, true_or, exists_const, CMul, CDiv, CPow, and_assoc, exists_and_left, exists_and_right, Int.reducePow, Int.reduceNeg, Int.reduceLT, Int.reduceLE, Nat.reducePow, Nat.reduceLT, Int.reduceToNat, gt_iff_lt, ge_iff_le, decide_eq_true_eq, Bool.not_eq_true', decide_eq_false_iff_not, scal, ↓reduceIte, Bool.false_eq_true]
    exact k
end
end My

namespace My
open PySem PySem.Spec PyProof.Rows L2
section
variable {P : Program} {w : World} {K : PySem.W.Frag} {mg : Str → Option Value} {base : Heap}
end
structure DfnD (K : PySem.W.Frag) (mg : Str → Option Value) (x : Str) (st : Stmt) (ps : List Str) : Prop where
  ex : ∃ f fd dvs, FunD K x x (defArgs st) (defBody st) (defScope st) dvs [] f fd ∧ mg x = some (.ref f) ∧ Binds K fd ps []
theorem Kn.mkD {P : Program} {w : World} {K : PySem.W.Frag} {mg : Str → Option Value} {base : Heap} {x : Str} {st : Stmt} {N ps : List Str} {k : Nat} {sp : Sp} (D : DfnD K mg x st ps) (S : FnScope N ps (defScope st)) (len : ∀ vs H Q E, sp vs H Q E → vs.length = ps.length)
    (hbody : ∀ (f : Addr) (cdv : Value) (A : Around) (outer : List Env) (s : Shared) (H : Hp) (vs : List V) (Q : VK) (E : XK), Room k (A.deeper (envOfC x (defScope st) s.heap.objs.size f cdv)) → sp vs H Q E →
      ∃ t, PSs (cxOf CX0 P w K mg base N x (defScope st) f cdv A outer s H E).nox (defBody st) t ∧ t { nx := fun _ H' => Q .non H', rt := Q } (start N vs) H) : Kn P w K mg base (k + 1) x ps sp := by
  obtain ⟨f, fd, dvs, F, m, b⟩ := D.ex
  exact ⟨f, fd, m, F.kp, b, F.ok S len fun cdv A outer s H vs Q E hr h => let ⟨t, a, c⟩ := hbody f cdv A outer s H vs Q E hr h; ⟨t, a.nox, c⟩⟩
section
variable {P : Program} {w : World} {K : PySem.W.Frag} {mg : Str → Option Value} {base : Heap}
def spRequire : Sp := fun vs H Q _ => ∃ x : V, vs = [.bl true, x] ∧ Q .non H
abbrev sRequire : Stmt := topS 16
theorem scRequire : FnScope ["well_formed", "what"] ["well_formed", "what"] (defScope sRequire) := ⟨rfl, rfl, rfl, by decide +kernel, rfl, by decide +kernel, by decide +kernel⟩
theorem k_Require (T : Bt K mg) (D : Dfn K mg "require" sRequire ["well_formed", "what"]) : Kn P w K mg base 1 "require" ["well_formed", "what"] spRequire := by
  refine Kn.mk' D scRequire (fun vs H Q E h => ?_) (fun f cdv A outer s H vs Q E hr h => ?_)
  · obtain ⟨x, rfl, _⟩ := h
    rfl
  obtain ⟨x, rfl, q⟩ := h
  refine ⟨_, (pss_one (ps_if (pt_not (pt_val (pv 0))) (pss_one ps_never) pss_nil)), ?_⟩
  simp only [cx_K, decide_true, decide_false, reduceCtorEq, gTp, gCons, gNil, ca_0, ca_1, ca_2, ca_3, ca_4, ca_5, ca_6, ca_7, ca_8, ca_9, ca_10, ca_11, ca_12, ca_13, ca_14, ca_15, ca_16, ca_17, ca_18, ca_19, ca_20, ca_21, ca_22, ca_23, ca_24, ca_25, ca_26, ca_27, ca_28, ca_29, ca_30, not_true_eq_false, not_false_eq_true, Int.reduceEq, Nat.reduceEqDiff, Nat.reduceLeDiff, rGcd, V.ty.injEq, eq_self, List.not_mem_nil, beq_self_eq_true, HO.lst.injEq, HO.tup.injEq, tFor_eq, iRng1, iList, iTup, nat10, tSeq, rIxA, rSetA, rIsN, rIsT, tTp, tLs, itsO_tup, itsO_lst, tyO_tup, tyO_lst, tyO_dK, tyN_non, tyN_bl, tyN_int, tyN_str, tyN_ref, tyNs_lt, isB, upd_same, upd_upd, sizeLine_eq, List.mem_cons, String.reduceBEq, String.reduceEq, Bool.or_false, Bool.or_true, Bool.and_false, Bool.false_or, Bool.and_self, Bool.false_and, Bool.not_false, Bool.not_true, List.any_cons, List.any_nil, atI_0, setI_0, atI_1, setI_1, atI_2, setI_2, atI_3, setI_3, atI_4, setI_4, atI_5, setI_5, atI_6, setI_6, tAsg, gName, tOp, tUn, tVar, tC, tCons, L2.tNil, tRet, tIfS, tTest, tCB, tCall, rI, rI0, rU, tNext, tB, tAnd, tOr, tNot, tAndV, tOrV, tNotV, tDrop, tIf, tPar, gSub, rIxL, rIxT, rEq, rNe, rSetL, tBits,
    L2.start, List.map_cons, List.map_nil, List.cons_append, List.nil_append, List.append_nil, List.length_cons, List.length_nil, List.replicate, Nat.reduceAdd, Nat.reduceSub, Nat.zero_add, List.getElem?_cons_zero, List.getElem?_cons_succ, List.set_cons_zero, List.set_cons_succ,
    Option.some.injEq, exists_eq_left', exists_eq_left, V.int.injEq, V.bl.injEq, V.ref.injEq, V.str.injEq, List.cons.injEq, reduceCtorEq, and_true, true_and, false_and, and_false, exists_false, or_false, false_or, or_true, true_or, exists_const, CMul, CDiv, CPow, and_assoc, exists_and_left, exists_and_right, Int.reducePow, Int.reduceNeg, Int.reduceLT, Int.reduceLE, Nat.reducePow, Nat.reduceLT, Int.reduceToNat, gt_iff_lt, ge_iff_le, decide_eq_true_eq, Bool.not_eq_true', decide_eq_false_iff_not, scal, ↓reduceIte, Bool.false_eq_true]
  exact q
def wholeV : V → Bool
  | .int _ => true
  | _ => false
theorem wholeV_ty {H : Hp} {v : V} {t : String} (h : tyN K H v = some t) : wholeV v = (t == "int") := by
  cases v with
  | ref a =>
    have h1 : tyO (ob K H a) = some t := h
    unfold tyO at h1
    split at h1 <;> first | (cases h1; rfl) | cases h1
  | _ => first | (cases h; rfl) | cases h
def spWhole (K : PySem.W.Frag) : Sp := fun vs H Q _ => ∃ v, vs = [v] ∧ (tyN K H v).isSome ∧ Q (.bl (wholeV v)) H
abbrev sWhole : Stmt := topS 17
theorem scWhole : FnScope ["value"] ["value"] (defScope sWhole) := ⟨rfl, rfl, rfl, by decide +kernel, rfl, by decide +kernel, by decide +kernel⟩
theorem k_Whole (T : Bt K mg) (D : Dfn K mg "is_whole" sWhole ["value"]) : Kn P w K mg base 1 "is_whole" ["value"] (spWhole K) := by
  refine Kn.mk' D scWhole (fun vs H Q E h => ?_) (fun f cdv A outer s H vs Q E hr h => ?_)
  · obtain ⟨v, rfl, _⟩ := h
    rfl
  obtain ⟨v, rfl, hv, q⟩ := h
  refine ⟨_, (pss_one (ps_ret (pe_and (pe_callB call_isN (by rfl) T.b_isinstance (by decide +kernel) (pa_cons (pv 0) (pa_cons (pe_bltn (v := .ty "int") (by rfl) T.b_int (by decide +kernel) rfl) pa_nil))) (pe_one (pe_not (pe_callB call_isN (by rfl) T.b_isinstance (by decide +kernel) (pa_cons (pv 0) (pa_cons (pe_bltn (v := .ty "bool") (by rfl) T.b_bool (by decide +kernel) rfl) pa_nil)))))))), ?_⟩
  obtain ⟨t, ht⟩ := Option.isSome_iff_exists.mp hv
  rw [wholeV_ty ht] at q
  have mt := tyN_mem ht
  simp only [List.mem_cons, List.not_mem_nil, or_false] at mt
  rcases mt with rfl | rfl | rfl | rfl | rfl | rfl | rfl <;> (simp only [ht, cx_K, decide_true, decide_false, reduceCtorEq, gTp, gCons, gNil, ca_0, ca_1, ca_2, ca_3, ca_4, ca_5, ca_6, ca_7, ca_8, ca_9, ca_10, ca_11, ca_12, ca_13, ca_14, ca_15, ca_16, ca_17, ca_18, ca_19, ca_20, ca_21, ca_22, ca_23, ca_24, ca_25, ca_26, ca_27, ca_28, ca_29, ca_30, not_true_eq_false, not_false_eq_true, Int.reduceEq, Nat.reduceEqDiff, Nat.reduceLeDiff, rGcd, V.ty.injEq, eq_self, List.not_mem_nil, beq_self_eq_true, HO.lst.injEq, HO.tup.injEq, tFor_eq, iRng1, iList, iTup, nat10, tSeq, rIxA, rSetA, rIsN, rIsT, tTp, tLs, itsO_tup, itsO_lst, tyO_tup, tyO_lst, tyO_dK, tyN_non, tyN_bl, tyN_int, tyN_str, tyN_ref, tyNs_lt, isB, upd_same, upd_upd, sizeLine_eq, List.mem_cons, String.reduceBEq, String.reduceEq, Bool.or_false, Bool.or_true, Bool.and_false, Bool.false_or, Bool.and_self, Bool.false_and, Bool.not_false, Bool.not_true, List.any_cons, List.any_nil, atI_0, setI_0, atI_1, setI_1, atI_2, setI_2, atI_3, setI_3, atI_4, setI_4, atI_5, setI_5, atI_6, setI_6, tAsg, gName, tOp, tUn, tVar, tC, tCons, L2.tNil, tRet, tIfS, tTest, tCB, tCall, rI, rI0, rU, tNext, tB, tAnd, tOr, tNot, tAndV, tOrV, tNotV, tDrop, tIf, tPar, gSub, rIxL, rIxT, rEq, rNe, rSetL, tBits,
    L2.start, List.map_cons, List.map_nil, List.cons_append, List.nil_append, List.append_nil, List.length_cons, List.length_nil, List.replicate, Nat.reduceAdd, Nat.reduceSub, Nat.zero_add, List.getElem?_cons_zero, List.getElem?_cons_succ, List.set_cons_zero, List.set_cons_succ,
    Option.some.injEq, exists_eq_left', exists_eq_left, V.int.injEq, V.bl.injEq, V.ref.injEq, V.str.injEq, List.cons.injEq, reduceCtorEq, and_true, true_and, false_and, and_false, exists_false, or_false, false_or, or_true, true_or, exists_const, CMul, CDiv, CPow, and_assoc, exists_and_left, exists_and_right, Int.reducePow, Int.reduceNeg, Int.reduceLT, Int.reduceLE, Nat.reducePow, Nat.reduceLT, Int.reduceToNat, gt_iff_lt, ge_iff_le, decide_eq_true_eq, Bool.not_eq_true', decide_eq_false_iff_not, scal, ↓reduceIte, Bool.false_eq_true]; simpa using q)
abbrev sLWhole : Stmt := topS 57
theorem scLWhole : FnScope ["_law_told"] ["_law_told"] (defScope sLWhole) := ⟨rfl, rfl, rfl, by decide +kernel, rfl, by decide +kernel, by decide +kernel⟩
theorem k_LWhole (T : Bt K mg) (D : Dfn K mg "_law_is_whole" sLWhole ["_law_told"]) : Kn P w K mg base 1 "_law_is_whole" ["_law_told"] (spWhole K) := by
  refine Kn.mk' D scLWhole (fun vs H Q E h => ?_) (fun f cdv A outer s H vs Q E hr h => ?_)
  · obtain ⟨v, rfl, _⟩ := h
    rfl
  obtain ⟨v, rfl, hv, q⟩ := h
  refine ⟨_, (pss_one (ps_ret (pe_and (pe_callB call_isN (by rfl) T.b_isinstance (by decide +kernel) (pa_cons (pv 0) (pa_cons (pe_bltn (v := .ty "int") (by rfl) T.b_int (by decide +kernel) rfl) pa_nil))) (pe_one (pe_not (pe_callB call_isN (by rfl) T.b_isinstance (by decide +kernel) (pa_cons (pv 0) (pa_cons (pe_bltn (v := .ty "bool") (by rfl) T.b_bool (by decide +kernel) rfl) pa_nil)))))))), ?_⟩
  obtain ⟨t, ht⟩ := Option.isSome_iff_exists.mp hv
  rw [wholeV_ty ht] at q
  have mt := tyN_mem ht
  simp only [List.mem_cons, List.not_mem_nil, or_false] at mt
  rcases mt with rfl | rfl | rfl | rfl | rfl | rfl | rfl <;> (simp only [ht, cx_K, decide_true, decide_false, reduceCtorEq, gTp, gCons, gNil, ca_0, ca_1, ca_2, ca_3, ca_4, ca_5, ca_6, ca_7, ca_8, ca_9, ca_10, ca_11, ca_12, ca_13, ca_14, ca_15, ca_16, ca_17, ca_18, ca_19, ca_20, ca_21, ca_22, ca_23, ca_24, ca_25, ca_26, ca_27, ca_28, ca_29, ca_30, not_true_eq_false, not_false_eq_true, Int.reduceEq, Nat.reduceEqDiff, Nat.reduceLeDiff, rGcd, V.ty.injEq, eq_self, List.not_mem_nil, beq_self_eq_true, HO.lst.injEq, HO.tup.injEq, tFor_eq, iRng1, iList, iTup, nat10, tSeq, rIxA, rSetA, rIsN, rIsT, tTp, tLs, itsO_tup, itsO_lst, tyO_tup, tyO_lst, tyO_dK, tyN_non, tyN_bl, tyN_int, tyN_str, tyN_ref, tyNs_lt, isB, upd_same, upd_upd, sizeLine_eq, List.mem_cons, String.reduceBEq, String.reduceEq, Bool.or_false, Bool.or_true, Bool.and_false, Bool.false_or, Bool.and_self, Bool.false_and, Bool.not_false, Bool.not_true, List.any_cons, List.any_nil, atI_0, setI_0, atI_1, setI_1, atI_2, setI_2, atI_3, setI_3, atI_4, setI_4, atI_5, setI_5, atI_6, setI_6, tAsg, gName, tOp, tUn, tVar, tC, tCons, L2.tNil, tRet, tIfS, tTest, tCB, tCall, rI, rI0, rU, tNext, tB, tAnd, tOr, tNot, tAndV, tOrV, tNotV, tDrop, tIf, tPar, gSub, rIxL, rIxT, rEq, rNe, rSetL, tBits,
    L2.start, List.map_cons, List.map_nil, List.cons_append, List.nil_append, List.append_nil, List.length_cons, List.length_nil, List.replicate, Nat.reduceAdd, Nat.reduceSub, Nat.zero_add, List.getElem?_cons_zero, List.getElem?_cons_succ, List.set_cons_zero, List.set_cons_succ,
    Option.some.injEq, exists_eq_left', exists_eq_left, V.int.injEq, V.bl.injEq, V.ref.injEq, V.str.injEq, List.cons.injEq, reduceCtorEq, and_true, true_and, false_and, and_false, exists_false, or_false, false_or, or_true, true_or, exists_const, CMul, CDiv, CPow, and_assoc, exists_and_left, exists_and_right, Int.reducePow, Int.reduceNeg, Int.reduceLT, Int.reduceLE, Nat.reducePow, Nat.reduceLT, Int.reduceToNat, gt_iff_lt, ge_iff_le, decide_eq_true_eq, Bool.not_eq_true', decide_eq_false_iff_not, scal, ↓reduceIte, Bool.false_eq_true]; simpa using q)
def spFraction (K : PySem.W.Frag) : Sp := fun vs H Q _ => ∃ n d : Int, vs = [.int n, .int d] ∧ d ≠ 0 ∧ d.natAbs < 2 ^ 8000 ∧ ∀ q, Is q n d → Gv K H Q q
theorem gcdX {n d : Int} (h0 : d ≠ 0) (hz : d.natAbs < 2 ^ 8000) (x : Int) : CDivX x (if d < 0 then -((Int.gcd n d : Nat) : Int) else (Int.gcd n d : Nat)) := by
  have g0 := gcd_pos (t := n) (b := d) h0
  have g1 := gcd_le (t := n) (b := d) h0
  have e : 2 ^ 8000 ≤ 2 ^ 8999 := Nat.pow_le_pow_right (by omega) (by omega)
  unfold CDivX
  split <;> refine ⟨by omega, by omega⟩
abbrev sFraction : Stmt := topS 22
theorem scFraction : FnScope ["numerator", "denominator", "divisor"] ["numerator", "denominator"] (defScope sFraction) := ⟨rfl, rfl, rfl, by decide +kernel, rfl, by decide +kernel, by decide +kernel⟩
theorem k_Fraction (T : Bt K mg) (D : DfnD K mg "fraction" sFraction ["numerator", "denominator"]) (d_require : Kn P w K mg base 1 "require" ["well_formed", "what"] spRequire) (d_is_whole : Kn P w K mg base 1 "is_whole" ["value"] (spWhole K)) : Kn P w K mg base 2 "fraction" ["numerator", "denominator"] (spFraction K) := by
  refine Kn.mkD D scFraction (fun vs H Q E h => ?_) (fun f cdv A outer s H vs Q E hr h => ?_)
  · obtain ⟨n, d, rfl, _⟩ := h
    rfl
  obtain ⟨n, d, rfl, h0, hz, q⟩ := h
  refine ⟨_, (pss_cons (ps_expr (pe_kn d_require hr (by rfl) (pa_cons (pe_kn d_is_whole hr (by rfl) (pa_cons (pv 0) pa_nil)) (pa_cons pe_str pa_nil))))
      (pss_cons (ps_expr (pe_kn d_require hr (by rfl) (pa_cons (pe_and (pe_kn d_is_whole hr (by rfl) (pa_cons (pv 1) pa_nil)) (pe_one (pe_cmpR op_ne (pv 1) pe_int (nomark _)))) (pa_cons pe_str pa_nil))))
      (pss_cons (ps_set (i := 2) scFraction.nd rfl (.inl rfl) (pe_callBfun cr_gcd (by rfl) T.g_gcd (pa_cons (pv 0) (pa_cons (pv 1) pa_nil))))
      (pss_cons (ps_if (pt_cmpR op_lt (pv 1) pe_int (nomark _)) (pss_one (ps_set (i := 2) scFraction.nd rfl (.inl rfl) (pe_un un_neg (pv 2)))) pss_nil)
      (pss_one (ps_ret (pe_tp (pa_cons (pe_op op_fdivX (pv 0) (pv 2)) (pa_cons (pe_op op_fdivX (pv 1) (pv 2)) pa_nil))))))))), ?_⟩
  simp only [cx_K, decide_true, decide_false, reduceCtorEq, gTp, gCons, gNil, ca_0, ca_1, ca_2, ca_3, ca_4, ca_5, ca_6, ca_7, ca_8, ca_9, ca_10, ca_11, ca_12, ca_13, ca_14, ca_15, ca_16, ca_17, ca_18, ca_19, ca_20, ca_21, ca_22, ca_23, ca_24, ca_25, ca_26, ca_27, ca_28, ca_29, ca_30, not_true_eq_false, not_false_eq_true, Int.reduceEq, Nat.reduceEqDiff, Nat.reduceLeDiff, rGcd, V.ty.injEq, eq_self, List.not_mem_nil, beq_self_eq_true, HO.lst.injEq, HO.tup.injEq, tFor_eq, iRng1, iList, iTup, nat10, tSeq, rIxA, rSetA, rIsN, rIsT, tTp, tLs, itsO_tup, itsO_lst, tyO_tup, tyO_lst, tyO_dK, tyN_non, tyN_bl, tyN_int, tyN_str, tyN_ref, tyNs_lt, isB, upd_same, upd_upd, sizeLine_eq, List.mem_cons, String.reduceBEq, String.reduceEq, Bool.or_false, Bool.or_true, Bool.and_false, Bool.false_or, Bool.and_self, Bool.false_and, Bool.not_false, Bool.not_true, List.any_cons, List.any_nil, atI_0, setI_0, atI_1, setI_1, atI_2, setI_2, atI_3, setI_3, atI_4, setI_4, atI_5, setI_5, atI_6, setI_6, tAsg, gName, tOp, tUn, tVar, tC, tCons, L2.tNil, tRet, tIfS, tTest, tCB, tCall, rI, rI0, rU, tNext, tB, tAnd, tOr, tNot, tAndV, tOrV, tNotV, tDrop, tIf, tPar, gSub, rIxL, rIxT, rEq, rNe, rSetL, tBits,
    L2.start, List.map_cons, List.map_nil, List.cons_append, List.nil_append, List.append_nil, List.length_cons, List.length_nil, List.replicate, Nat.reduceAdd, Nat.reduceSub, Nat.zero_add, List.getElem?_cons_zero, List.getElem?_cons_succ, List.set_cons_zero, List.set_cons_succ,
    Option.some.injEq, exists_eq_left', exists_eq_left, V.int.injEq, V.bl.injEq, V.ref.injEq, V.str.injEq, List.cons.injEq, reduceCtorEq, and_true, true_and, false_and, and_false, exists_false, or_false, false_or, or_true, true_or, exists_const, CMul, CDiv, CPow, and_assoc, exists_and_left, exists_and_right, Int.reducePow, Int.reduceNeg, Int.reduceLT, Int.reduceLE, Nat.reducePow, Nat.reduceLT, Int.reduceToNat, gt_iff_lt, ge_iff_le, decide_eq_true_eq, Bool.not_eq_true', decide_eq_false_iff_not, scal, ↓reduceIte, Bool.false_eq_true]
  refine ⟨_, rfl, rfl, ⟨_, rfl, ⟨_, rfl, rfl, ⟨true, rfl, ?_⟩⟩⟩⟩
  rw [if_pos rfl]
  refine ⟨_, by rw [decide_eq_false h0]; rfl, ?_⟩
  simp only [cx_K, decide_true, decide_false, reduceCtorEq, gTp, gCons, gNil, ca_0, ca_1, ca_2, ca_3, ca_4, ca_5, ca_6, ca_7, ca_8, ca_9, ca_10, ca_11, ca_12, ca_13, ca_14, ca_15, ca_16, ca_17, ca_18, ca_19, ca_20, ca_21, ca_22, ca_23, ca_24, ca_25, ca_26, ca_27, ca_28, ca_29, ca_30, not_true_eq_false, not_false_eq_true, Int.reduceEq, Nat.reduceEqDiff, Nat.reduceLeDiff, rGcd, V.ty.injEq, eq_self, List.not_mem_nil, beq_self_eq_true, HO.lst.injEq, HO.tup.injEq, tFor_eq, iRng1, iList, iTup, nat10, tSeq, rIxA, rSetA, rIsN, rIsT, tTp, tLs, itsO_tup, itsO_lst, tyO_tup, tyO_lst, tyO_dK, tyN_non, tyN_bl, tyN_int, tyN_str, tyN_ref, tyNs_lt, isB, upd_same, upd_upd, sizeLine_eq, List.mem_cons, String.reduceBEq, String.reduceEq, Bool.or_false, Bool.or_true, Bool.and_false, Bool.false_or, Bool.and_self, Bool.false_and, Bool.not_false, Bool.not_true, List.any_cons, List.any_nil, atI_0, setI_0, atI_1, setI_1, atI_2, setI_2, atI_3, setI_3, atI_4, setI_4, atI_5, setI_5, atI_6, setI_6, tAsg, gName, tOp, tUn, tVar, tC, tCons, L2.tNil, tRet, tIfS, tTest, tCB, tCall, rI, rI0, rU, tNext, tB, tAnd, tOr, tNot, tAndV, tOrV, tNotV, tDrop, tIf, tPar, gSub, rIxL, rIxT, rEq, rNe, rSetL, tBits,
    L2.start, List.map_cons, List.map_nil, List.cons_append, List.nil_append, List.append_nil, List.length_cons, List.length_nil, List.replicate, Nat.reduceAdd, Nat.reduceSub, Nat.zero_add, List.getElem?_cons_zero, List.getElem?_cons_succ, List.set_cons_zero, List.set_cons_succ,
    Option.some.injEq, exists_eq_left', exists_eq_left, V.int.injEq, V.bl.injEq, V.ref.injEq, V.str.injEq, List.cons.injEq, reduceCtorEq, and_true, true_and, false_and, and_false, exists_false, or_false, false_or, or_true, true_or, exists_const, CMul, CDiv, CPow, and_assoc, exists_and_left, exists_and_right, Int.reducePow, Int.reduceNeg, Int.reduceLT, Int.reduceLE, Nat.reducePow, Nat.reduceLT, Int.reduceToNat, gt_iff_lt, ge_iff_le, decide_eq_true_eq, Bool.not_eq_true', decide_eq_false_iff_not, scal, ↓reduceIte, Bool.false_eq_true]
  have k := gcdX (n := n) h0 hz
  have v := is_fdiv (t := n) h0
  refine ite2 (fun h => ?_) (fun h => ?_)
  · rw [if_pos h] at v
    simp only [if_pos h] at k
    exact ⟨k _, k _, fun p hp kp => (q _ v).new hp kp⟩
  · rw [if_neg h] at v
    simp only [if_neg h] at k
    exact ⟨k _, k _, fun p hp kp => (q _ v).new hp kp⟩
def frOk (K : PySem.W.Frag) (H : Hp) : V → Bool
  | .ref a => match ob K H a with
    | some (.tup [.int n, .int d]) => decide (1 ≤ d) && decide (Int.gcd n d = 1)
    | _ => false
  | _ => false
theorem frOk_fr {H : Hp} {a : Addr} {q : Qt} (h : ob K H a = some (frt q)) (hn : Nf q) : frOk K H (.ref a) = true := by
  simp only [frOk, h, frt]
  show (decide (1 ≤ q.2) && decide (Int.gcd q.1 q.2 = 1)) = true
  rw [decide_eq_true hn.1, decide_eq_true hn.2]
  rfl
/-- v and, if it is a tuple, its items are of known kinds -/
def Tyd (K : PySem.W.Frag) (H : Hp) (v : V) : Prop := (tyN K H v).isSome ∧ ∀ a xs, v = .ref a → ob K H a = some (.tup xs) → ∀ x ∈ xs, (tyN K H x).isSome
theorem Tyd.fr {H : Hp} {a : Addr} {q : Qt} (h : ob K H a = some (frt q)) : Tyd K H (.ref a) := by
  refine ⟨by rw [tyN_ref, h]; rfl, fun b xs e hx x hm => ?_⟩
  cases e
  rw [h] at hx
  cases hx
  simp only [List.mem_cons, List.not_mem_nil, or_false] at hm
  rcases hm with rfl | rfl <;> rfl
theorem tyN_tuple {H : Hp} {v : V} (h : tyN K H v = some "tuple") : ∃ a xs, v = .ref a ∧ ob K H a = some (.tup xs) := by
  cases v with
  | ref a =>
    have h1 : tyO (ob K H a) = some "tuple" := h
    unfold tyO at h1
    split at h1 <;> first | exact ⟨a, _, rfl, by assumption⟩ | (exfalso; revert h1; decide)
  | _ => exfalso; revert h; simp only [tyN]; decide
def spIsFraction (K : PySem.W.Frag) : Sp := fun vs H Q _ => ∃ v, vs = [v] ∧ Tyd K H v ∧ Q (.bl (frOk K H v)) H
abbrev sIsFraction : Stmt := topS 23
theorem scIsFraction : FnScope ["value", "numerator", "denominator"] ["value"] (defScope sIsFraction) := ⟨rfl, rfl, rfl, by decide +kernel, rfl, by decide +kernel, by decide +kernel⟩
theorem k_IsFraction (T : Bt K mg) (D : Dfn K mg "is_fraction" sIsFraction ["value"]) (d_is_whole : Kn P w K mg base 1 "is_whole" ["value"] (spWhole K)) : Kn P w K mg base 2 "is_fraction" ["value"] (spIsFraction K) := by
  refine Kn.mk' D scIsFraction (fun vs H Q E h => ?_) (fun f cdv A outer s H vs Q E hr h => ?_)
  · obtain ⟨v, rfl, _⟩ := h
    rfl
  obtain ⟨v, rfl, hv, q⟩ := h
  refine ⟨_, (pss_cons (ps_if (PW.pt (pw_or (pt_not (pt_val (pe_callB call_isN (by rfl) T.b_isinstance (by decide +kernel) (pa_cons (pv 0) (pa_cons (pe_bltn (v := .ty "tuple") (by rfl) T.b_tuple (by decide +kernel) rfl) pa_nil))))) (pw_or1 (pt_cmpR op_ne (pe_callB call_lenA (by rfl) T.b_len PySem.boot_len (pa_cons (pv 0) pa_nil)) pe_int (nomark _))))) (pss_one (ps_ret pe_bl)) pss_nil)
      (pss_cons (ps_asg (pv 0) (pg_tp 2 (by rfl) (pgs_cons (pg_name (i := 1) scIsFraction.nd rfl (.inl rfl)) (pgs_cons (pg_name (i := 2) scIsFraction.nd rfl (.inl rfl)) pgs_nil))))
      (pss_cons (ps_if (PW.pt (pw_or (pt_not (pt_val (pe_kn d_is_whole hr (by rfl) (pa_cons (pv 1) pa_nil)))) (pw_or1 (pt_not (pt_val (pe_kn d_is_whole hr (by rfl) (pa_cons (pv 2) pa_nil))))))) (pss_one (ps_ret pe_bl)) pss_nil)
      (pss_one (ps_ret (pe_and (pe_cmpR op_ge (pv 2) pe_int (nomark _)) (pe_one (pe_cmpR op_eq (pe_callBfun cr_gcd (by rfl) T.g_gcd (pa_cons (pv 1) (pa_cons (pv 2) pa_nil))) pe_int (nomark _))))))))), ?_⟩
  obtain ⟨t, ht⟩ := Option.isSome_iff_exists.mp hv.1
  by_cases e : t = "tuple"
  · subst e
    obtain ⟨a, xs, rfl, ha⟩ := tyN_tuple ht
    have hx := hv.2 a xs rfl ha
    match xs, ha, hx with
    | [], ha, hx =>
      have e : frOk K H (.ref a) = false := by simp only [frOk, ha]
      rw [e] at q
      simp only [ha, cx_K, decide_true, decide_false, reduceCtorEq, gTp, gCons, gNil, ca_0, ca_1, ca_2, ca_3, ca_4, ca_5, ca_6, ca_7, ca_8, ca_9, ca_10, ca_11, ca_12, ca_13, ca_14, ca_15, ca_16, ca_17, ca_18, ca_19, ca_20, ca_21, ca_22, ca_23, ca_24, ca_25, ca_26, ca_27, ca_28, ca_29, ca_30, not_true_eq_false, not_false_eq_true, Int.reduceEq, Nat.reduceEqDiff, Nat.reduceLeDiff, rGcd, V.ty.injEq, eq_self, List.not_mem_nil, beq_self_eq_true, HO.lst.injEq, HO.tup.injEq, tFor_eq, iRng1, iList, iTup, nat10, tSeq, rIxA, rSetA, rIsN, rIsT, tTp, tLs, itsO_tup, itsO_lst, tyO_tup, tyO_lst, tyO_dK, tyN_non, tyN_bl, tyN_int, tyN_str, tyN_ref, tyNs_lt, isB, upd_same, upd_upd, sizeLine_eq, List.mem_cons, String.reduceBEq, String.reduceEq, Bool.or_false, Bool.or_true, Bool.and_false, Bool.false_or, Bool.and_self, Bool.false_and, Bool.not_false, Bool.not_true, List.any_cons, List.any_nil, atI_0, setI_0, atI_1, setI_1, atI_2, setI_2, atI_3, setI_3, atI_4, setI_4, atI_5, setI_5, atI_6, setI_6, tAsg, gName, tOp, tUn, tVar, tC, tCons, L2.tNil, tRet, tIfS, tTest, tCB, tCall, rI, rI0, rU, tNext, tB, tAnd, tOr, tNot, tAndV, tOrV, tNotV, tDrop, tIf, tPar, gSub, rIxL, rIxT, rEq, rNe, rSetL, tBits,
    L2.start, List.map_cons, List.map_nil, List.cons_append, List.nil_append, List.append_nil, List.length_cons, List.length_nil, List.replicate, Nat.reduceAdd, Nat.reduceSub, Nat.zero_add, List.getElem?_cons_zero, List.getElem?_cons_succ, List.set_cons_zero, List.set_cons_succ,
    Option.some.injEq, exists_eq_left', exists_eq_left, V.int.injEq, V.bl.injEq, V.ref.injEq, V.str.injEq, List.cons.injEq, reduceCtorEq, and_true, true_and, false_and, and_false, exists_false, or_false, false_or, or_true, true_or, exists_const, CMul, CDiv, CPow, and_assoc, exists_and_left, exists_and_right, Int.reducePow, Int.reduceNeg, Int.reduceLT, Int.reduceLE, Nat.reducePow, Nat.reduceLT, Int.reduceToNat, gt_iff_lt, ge_iff_le, decide_eq_true_eq, Bool.not_eq_true', decide_eq_false_iff_not, scal, ↓reduceIte, Bool.false_eq_true]
      exact q
    | [x], ha, hx =>
      have e : frOk K H (.ref a) = false := by simp only [frOk, ha]
      rw [e] at q
      simp only [ha, cx_K, decide_true, decide_false, reduceCtorEq, gTp, gCons, gNil, ca_0, ca_1, ca_2, ca_3, ca_4, ca_5, ca_6, ca_7, ca_8, ca_9, ca_10, ca_11, ca_12, ca_13, ca_14, ca_15, ca_16, ca_17, ca_18, ca_19, ca_20, ca_21, ca_22, ca_23, ca_24, ca_25, ca_26, ca_27, ca_28, ca_29, ca_30, not_true_eq_false, not_false_eq_true, Int.reduceEq, Nat.reduceEqDiff, Nat.reduceLeDiff, rGcd, V.ty.injEq, eq_self, List.not_mem_nil, beq_self_eq_true, HO.lst.injEq, HO.tup.injEq, tFor_eq, iRng1, iList, iTup, nat10, tSeq, rIxA, rSetA, rIsN, rIsT, tTp, tLs, itsO_tup, itsO_lst, tyO_tup, tyO_lst, tyO_dK, tyN_non, tyN_bl, tyN_int, tyN_str, tyN_ref, tyNs_lt, isB, upd_same, upd_upd, sizeLine_eq, List.mem_cons, String.reduceBEq, String.reduceEq, Bool.or_false, Bool.or_true, Bool.and_false, Bool.false_or, Bool.and_self, Bool.false_and, Bool.not_false, Bool.not_true, List.any_cons, List.any_nil, atI_0, setI_0, atI_1, setI_1, atI_2, setI_2, atI_3, setI_3, atI_4, setI_4, atI_5, setI_5, atI_6, setI_6, tAsg, gName, tOp, tUn, tVar, tC, tCons, L2.tNil, tRet, tIfS, tTest, tCB, tCall, rI, rI0, rU, tNext, tB, tAnd, tOr, tNot, tAndV, tOrV, tNotV, tDrop, tIf, tPar, gSub, rIxL, rIxT, rEq, rNe, rSetL, tBits,
    L2.start, List.map_cons, List.map_nil, List.cons_append, List.nil_append, List.append_nil, List.length_cons, List.length_nil, List.replicate, Nat.reduceAdd, Nat.reduceSub, Nat.zero_add, List.getElem?_cons_zero, List.getElem?_cons_succ, List.set_cons_zero, List.set_cons_succ,
    Option.some.injEq, exists_eq_left', exists_eq_left, V.int.injEq, V.bl.injEq, V.ref.injEq, V.str.injEq, List.cons.injEq, reduceCtorEq, and_true, true_and, false_and, and_false, exists_false, or_false, false_or, or_true, true_or, exists_const, CMul, CDiv, CPow, and_assoc, exists_and_left, exists_and_right, Int.reducePow, Int.reduceNeg, Int.reduceLT, Int.reduceLE, Nat.reducePow, Nat.reduceLT, Int.reduceToNat, gt_iff_lt, ge_iff_le, decide_eq_true_eq, Bool.not_eq_true', decide_eq_false_iff_not, scal, ↓reduceIte, Bool.false_eq_true]
      exact q
    | [x, y], ha, hx =>
      have hx1 := hx x (by simp)
      have hx2 := hx y (by simp)
      simp only [ha, cx_K, decide_true, decide_false, reduceCtorEq, gTp, gCons, gNil, ca_0, ca_1, ca_2, ca_3, ca_4, ca_5, ca_6, ca_7, ca_8, ca_9, ca_10, ca_11, ca_12, ca_13, ca_14, ca_15, ca_16, ca_17, ca_18, ca_19, ca_20, ca_21, ca_22, ca_23, ca_24, ca_25, ca_26, ca_27, ca_28, ca_29, ca_30, not_true_eq_false, not_false_eq_true, Int.reduceEq, Nat.reduceEqDiff, Nat.reduceLeDiff, rGcd, V.ty.injEq, eq_self, List.not_mem_nil, beq_self_eq_true, HO.lst.injEq, HO.tup.injEq, tFor_eq, iRng1, iList, iTup, nat10, tSeq, rIxA, rSetA, rIsN, rIsT, tTp, tLs, itsO_tup, itsO_lst, tyO_tup, tyO_lst, tyO_dK, tyN_non, tyN_bl, tyN_int, tyN_str, tyN_ref, tyNs_lt, isB, upd_same, upd_upd, sizeLine_eq, List.mem_cons, String.reduceBEq, String.reduceEq, Bool.or_false, Bool.or_true, Bool.and_false, Bool.false_or, Bool.and_self, Bool.false_and, Bool.not_false, Bool.not_true, List.any_cons, List.any_nil, atI_0, setI_0, atI_1, setI_1, atI_2, setI_2, atI_3, setI_3, atI_4, setI_4, atI_5, setI_5, atI_6, setI_6, tAsg, gName, tOp, tUn, tVar, tC, tCons, L2.tNil, tRet, tIfS, tTest, tCB, tCall, rI, rI0, rU, tNext, tB, tAnd, tOr, tNot, tAndV, tOrV, tNotV, tDrop, tIf, tPar, gSub, rIxL, rIxT, rEq, rNe, rSetL, tBits,
    L2.start, List.map_cons, List.map_nil, List.cons_append, List.nil_append, List.append_nil, List.length_cons, List.length_nil, List.replicate, Nat.reduceAdd, Nat.reduceSub, Nat.zero_add, List.getElem?_cons_zero, List.getElem?_cons_succ, List.set_cons_zero, List.set_cons_succ,
    Option.some.injEq, exists_eq_left', exists_eq_left, V.int.injEq, V.bl.injEq, V.ref.injEq, V.str.injEq, List.cons.injEq, reduceCtorEq, and_true, true_and, false_and, and_false, exists_false, or_false, false_or, or_true, true_or, exists_const, CMul, CDiv, CPow, and_assoc, exists_and_left, exists_and_right, Int.reducePow, Int.reduceNeg, Int.reduceLT, Int.reduceLE, Nat.reducePow, Nat.reduceLT, Int.reduceToNat, gt_iff_lt, ge_iff_le, decide_eq_true_eq, Bool.not_eq_true', decide_eq_false_iff_not, scal, ↓reduceIte, Bool.false_eq_true]
      refine ⟨_, rfl, hx1, ?_⟩
      cases x with
      | int n =>
        refine ⟨true, rfl, ?_⟩
        rw [if_neg Bool.noConfusion]
        refine ⟨_, rfl, hx2, ?_⟩
        cases y with
        | int d =>
          refine ⟨true, rfl, ?_⟩
          rw [if_neg Bool.noConfusion]
          simp only [ha, cx_K, decide_true, decide_false, reduceCtorEq, gTp, gCons, gNil, ca_0, ca_1, ca_2, ca_3, ca_4, ca_5, ca_6, ca_7, ca_8, ca_9, ca_10, ca_11, ca_12, ca_13, ca_14, ca_15, ca_16, ca_17, ca_18, ca_19, ca_20, ca_21, ca_22, ca_23, ca_24, ca_25, ca_26, ca_27, ca_28, ca_29, ca_30, not_true_eq_false, not_false_eq_true, Int.reduceEq, Nat.reduceEqDiff, Nat.reduceLeDiff, rGcd, V.ty.injEq, eq_self, List.not_mem_nil, beq_self_eq_true, HO.lst.injEq, HO.tup.injEq, tFor_eq, iRng1, iList, iTup, nat10, tSeq, rIxA, rSetA, rIsN, rIsT, tTp, tLs, itsO_tup, itsO_lst, tyO_tup, tyO_lst, tyO_dK, tyN_non, tyN_bl, tyN_int, tyN_str, tyN_ref, tyNs_lt, isB, upd_same, upd_upd, sizeLine_eq, List.mem_cons, String.reduceBEq, String.reduceEq, Bool.or_false, Bool.or_true, Bool.and_false, Bool.false_or, Bool.and_self, Bool.false_and, Bool.not_false, Bool.not_true, List.any_cons, List.any_nil, atI_0, setI_0, atI_1, setI_1, atI_2, setI_2, atI_3, setI_3, atI_4, setI_4, atI_5, setI_5, atI_6, setI_6, tAsg, gName, tOp, tUn, tVar, tC, tCons, L2.tNil, tRet, tIfS, tTest, tCB, tCall, rI, rI0, rU, tNext, tB, tAnd, tOr, tNot, tAndV, tOrV, tNotV, tDrop, tIf, tPar, gSub, rIxL, rIxT, rEq, rNe, rSetL, tBits,
    L2.start, List.map_cons, List.map_nil, List.cons_append, List.nil_append, List.append_nil, List.length_cons, List.length_nil, List.replicate, Nat.reduceAdd, Nat.reduceSub, Nat.zero_add, List.getElem?_cons_zero, List.getElem?_cons_succ, List.set_cons_zero, List.set_cons_succ,
    Option.some.injEq, exists_eq_left', exists_eq_left, V.int.injEq, V.bl.injEq, V.ref.injEq, V.str.injEq, List.cons.injEq, reduceCtorEq, and_true, true_and, false_and, and_false, exists_false, or_false, false_or, or_true, true_or, exists_const, CMul, CDiv, CPow, and_assoc, exists_and_left, exists_and_right, Int.reducePow, Int.reduceNeg, Int.reduceLT, Int.reduceLE, Nat.reducePow, Nat.reduceLT, Int.reduceToNat, gt_iff_lt, ge_iff_le, decide_eq_true_eq, Bool.not_eq_true', decide_eq_false_iff_not, scal, ↓reduceIte, Bool.false_eq_true]
          refine ite2 (fun h => ?_) (fun h => ?_)
          · have e : frOk K H (.ref a) = decide (((n.natAbs.gcd d.natAbs : Nat) : Int) = 1) := by
              simp only [frOk, ha]
              rw [decide_eq_true h, Bool.true_and]
              show decide (Nat.gcd n.natAbs d.natAbs = 1) = _
              exact decide_eq_decide.mpr (by omega)
            rw [e] at q
            exact q
          · have e : frOk K H (.ref a) = false := by
              simp only [frOk, ha]
              rw [decide_eq_false h, Bool.false_and]
            rw [e] at q
            exact q
        | _ =>
          refine ⟨false, rfl, ?_⟩
          rw [if_pos rfl]
          have e : frOk K H (.ref a) = false := by simp only [frOk, ha]
          rw [e] at q
          exact q
      | _ =>
        refine ⟨false, rfl, ?_⟩
        rw [if_pos rfl]
        have e : frOk K H (.ref a) = false := by simp only [frOk, ha]
        rw [e] at q
        exact q
    | x :: y :: z :: r, ha, hx =>
      have e : frOk K H (.ref a) = false := by simp only [frOk, ha]
      rw [e] at q
      simp only [ha, cx_K, decide_true, decide_false, reduceCtorEq, gTp, gCons, gNil, ca_0, ca_1, ca_2, ca_3, ca_4, ca_5, ca_6, ca_7, ca_8, ca_9, ca_10, ca_11, ca_12, ca_13, ca_14, ca_15, ca_16, ca_17, ca_18, ca_19, ca_20, ca_21, ca_22, ca_23, ca_24, ca_25, ca_26, ca_27, ca_28, ca_29, ca_30, not_true_eq_false, not_false_eq_true, Int.reduceEq, Nat.reduceEqDiff, Nat.reduceLeDiff, rGcd, V.ty.injEq, eq_self, List.not_mem_nil, beq_self_eq_true, HO.lst.injEq, HO.tup.injEq, tFor_eq, iRng1, iList, iTup, nat10, tSeq, rIxA, rSetA, rIsN, rIsT, tTp, tLs, itsO_tup, itsO_lst, tyO_tup, tyO_lst, tyO_dK, tyN_non, tyN_bl, tyN_int, tyN_str, tyN_ref, tyNs_lt, isB, upd_same, upd_upd, sizeLine_eq, List.mem_cons, String.reduceBEq, String.reduceEq, Bool.or_false, Bool.or_true, Bool.and_false, Bool.false_or, Bool.and_self, Bool.false_and, Bool.not_false, Bool.not_true, List.any_cons, List.any_nil, atI_0, setI_0, atI_1, setI_1, atI_2, setI_2, atI_3, setI_3, atI_4, setI_4, atI_5, setI_5, atI_6, setI_6, tAsg, gName, tOp, tUn, tVar, tC, tCons, L2.tNil, tRet, tIfS, tTest, tCB, tCall, rI, rI0, rU, tNext, tB, tAnd, tOr, tNot, tAndV, tOrV, tNotV, tDrop, tIf, tPar, gSub, rIxL, rIxT, rEq, rNe, rSetL, tBits,
    L2.start, List.map_cons, List.map_nil, List.cons_append, List.nil_append, List.append_nil, List.length_cons, List.length_nil, List.replicate, Nat.reduceAdd, Nat.reduceSub, Nat.zero_add, List.getElem?_cons_zero, List.getElem?_cons_succ, List.set_cons_zero, List.set_cons_succ,
    Option.some.injEq, exists_eq_left', exists_eq_left, V.int.injEq, V.bl.injEq, V.ref.injEq, V.str.injEq, List.cons.injEq, reduceCtorEq, and_true, true_and, false_and, and_false, exists_false, or_false, false_or, or_true, true_or, exists_const, CMul, CDiv, CPow, and_assoc, exists_and_left, exists_and_right, Int.reducePow, Int.reduceNeg, Int.reduceLT, Int.reduceLE, Nat.reducePow, Nat.reduceLT, Int.reduceToNat, gt_iff_lt, ge_iff_le, decide_eq_true_eq, Bool.not_eq_true', decide_eq_false_iff_not, scal, ↓reduceIte, Bool.false_eq_true]
      refine ite2 (fun h => q) (fun h => ?_)
      exfalso
      omega
  · have e1 : frOk K H v = false := by
      cases v with
      | ref a =>
        have h1 : tyO (ob K H a) = some t := ht
        cases hz : ob K H a with
        | none => simp only [frOk, hz]
        | some z =>
          cases z with
          | tup xs =>
            rw [hz] at h1
            exact absurd (Option.some.inj h1).symm e
          | _ => simp only [frOk, hz]
      | _ => rfl
    rw [e1] at q
    have mt := tyN_mem ht
    simp only [List.mem_cons, List.not_mem_nil, or_false] at mt
    rcases mt with rfl | rfl | rfl | rfl | rfl | rfl | rfl <;> first | exact absurd rfl e | (simp only [ht, cx_K, decide_true, decide_false, reduceCtorEq, gTp, gCons, gNil, ca_0, ca_1, ca_2, ca_3, ca_4, ca_5, ca_6, ca_7, ca_8, ca_9, ca_10, ca_11, ca_12, ca_13, ca_14, ca_15, ca_16, ca_17, ca_18, ca_19, ca_20, ca_21, ca_22, ca_23, ca_24, ca_25, ca_26, ca_27, ca_28, ca_29, ca_30, not_true_eq_false, not_false_eq_true, Int.reduceEq, Nat.reduceEqDiff, Nat.reduceLeDiff, rGcd, V.ty.injEq, eq_self, List.not_mem_nil, beq_self_eq_true, HO.lst.injEq, HO.tup.injEq, tFor_eq, iRng1, iList, iTup, nat10, tSeq, rIxA, rSetA, rIsN, rIsT, tTp, tLs, itsO_tup, itsO_lst, tyO_tup, tyO_lst, tyO_dK, tyN_non, tyN_bl, tyN_int, tyN_str, tyN_ref, tyNs_lt, isB, upd_same, upd_upd, sizeLine_eq, List.mem_cons, String.reduceBEq, String.reduceEq, Bool.or_false, Bool.or_true, Bool.and_false, Bool.false_or, Bool.and_self, Bool.false_and, Bool.not_false, Bool.not_true, List.any_cons, List.any_nil, atI_0, setI_0, atI_1, setI_1, atI_2, setI_2, atI_3, setI_3, atI_4, setI_4, atI_5, setI_5, atI_6, setI_6, tAsg, gName, tOp, tUn, tVar, tC, tCons, L2.tNil, tRet, tIfS, tTest, tCB, tCall, rI, rI0, rU, tNext, tB, tAnd, tOr, tNot, tAndV, tOrV, tNotV, tDrop, tIf, tPar, gSub, rIxL, rIxT, rEq, rNe, rSetL, tBits,
    L2.start, List.map_cons, List.map_nil, List.cons_append, List.nil_append, List.append_nil, List.length_cons, List.length_nil, List.replicate, Nat.reduceAdd, Nat.reduceSub, Nat.zero_add, List.getElem?_cons_zero, List.getElem?_cons_succ, List.set_cons_zero, List.set_cons_succ,
    Option.some.injEq, exists_eq_left', exists_eq_left, V.int.injEq, V.bl.injEq, V.ref.injEq, V.str.injEq, List.cons.injEq, reduceCtorEq, and_true, true_and, false_and, and_false, exists_false, or_false, false_or, or_true, true_or, exists_const, CMul, CDiv, CPow, and_assoc, exists_and_left, exists_and_right, Int.reducePow, Int.reduceNeg, Int.reduceLT, Int.reduceLE, Nat.reducePow, Nat.reduceLT, Int.reduceToNat, gt_iff_lt, ge_iff_le, decide_eq_true_eq, Bool.not_eq_true', decide_eq_false_iff_not, scal, ↓reduceIte, Bool.false_eq_true]; exact q)
end
end My

namespace My
open PySem PySem.Spec PyProof.Rows L2
section
variable {P : Program} {w : World} {K : PySem.W.Frag} {mg : Str → Option Value} {base : Heap}
theorem nf_part {q : Qt} (h : Nf q) : Nf (q.1 % q.2, q.2) := by
  refine ⟨h.1, ?_⟩
  show Int.gcd (q.1 % q.2) q.2 = 1
  have e : q.1 % q.2 = q.1 + (-(q.1 / q.2)) * q.2 := by
    have := Int.emod_add_mul_ediv q.1 q.2
    rw [Int.neg_mul, Int.mul_comm]
    omega
  rw [e, Int.gcd_add_mul_right_left]
  exact h.2
theorem nf_abs {q : Qt} (h : Nf q) : Nf ((q.1.natAbs : Int), q.2) := ⟨h.1, by
  show Int.gcd (q.1.natAbs : Int) q.2 = 1
  rw [← h.2]
  rfl⟩
theorem nf_neg {q : Qt} (h : Nf q) : Nf (-q.1, q.2) := ⟨h.1, by
  show Int.gcd (-q.1) q.2 = 1
  rw [Int.neg_gcd]
  exact h.2⟩
def off (q : Qt) : Qt := (if q.2 < 2 * (q.1 % q.2) then q.1 % q.2 - q.2 else q.1 % q.2, q.2)
theorem nf_off {q : Qt} (h : Nf q) : Nf (off q) := by
  have k := nf_part h
  unfold off
  split
  · refine ⟨h.1, ?_⟩
    show Int.gcd (q.1 % q.2 - q.2) q.2 = 1
    rw [show q.1 % q.2 - q.2 = q.1 % q.2 + (-1) * q.2 by omega, Int.gcd_add_mul_right_left]
    exact k.2
  · exact k
theorem is_self {q : Qt} (h : Nf q) : Is q q.1 q.2 := ⟨h, rfl⟩
def sum2 (p q : Qt) (z : Qt) : Prop := Is z (p.1 * q.2 + q.1 * p.2) (p.2 * q.2)
theorem Nf.ne {q : Qt} (h : Nf q) : q.2 ≠ 0 := by have := h.1; omega
theorem mul_ne {a b : Int} (h1 : 1 ≤ a) (h2 : 1 ≤ b) : a * b ≠ 0 := Int.mul_ne_zero (by omega) (by omega)
theorem szPart {q : Qt} {k : Nat} (h : Nf q) (hz : Sz k q) : Sz k (q.1 % q.2, q.2) := by
  refine ⟨?_, hz.2⟩
  have h1 := Int.emod_nonneg q.1 h.ne
  have h2 := Int.emod_lt_of_pos q.1 (show 0 < q.2 by have := h.1; omega)
  have := hz.2
  show (q.1 % q.2).natAbs < 2 ^ k
  omega
theorem szOff {q : Qt} {k : Nat} (h : Nf q) (hz : Sz k q) : Sz k (off q) := by
  have h1 := Int.emod_nonneg q.1 h.ne
  have h2 := Int.emod_lt_of_pos q.1 (show 0 < q.2 by have := h.1; omega)
  have h3 := hz.2
  have h4 := h.1
  unfold off
  refine ⟨?_, h3⟩
  show (if q.2 < 2 * (q.1 % q.2) then q.1 % q.2 - q.2 else q.1 % q.2).natAbs < 2 ^ k
  split <;> omega
/-- a fraction at a, in lowest terms, of a bounded size -/
structure Fq (K : PySem.W.Frag) (H : Hp) (k : Nat) (a : Addr) (q : Qt) : Prop where
  o : ob K H a = some (.tup [.int q.1, .int q.2])
  nf : Nf q
  sz : Sz k q
theorem Fq.same {H H' : Hp} {k : Nat} {a : Addr} {q : Qt} (h : Fq K H k a q) (s : Same H H') : Fq K H' k a q := ⟨ob_same s h.o, h.nf, h.sz⟩
theorem Fq.kp {H H' : Hp} {k : Nat} {a s : Addr} {q : Qt} {ys : List V} (h : Fq K H k a q) (e : Kp s H H') (hs : H s = some (.lst ys)) : Fq K H' k a q := ⟨ob_kp e hs (fun _ z => by cases z) h.o, h.nf, h.sz⟩
theorem Fq.mono {H : Hp} {j k : Nat} {a : Addr} {q : Qt} (h : Fq K H j a q) (l : j ≤ k) : Fq K H k a q := ⟨h.o, h.nf, h.sz.mono l⟩
def spBin (K : PySem.W.Frag) (R : Qt → Qt → Qt → Prop) : Sp := fun vs H Q _ => ∃ (a b : Addr) (p q : Qt), vs = [.ref a, .ref b] ∧ Fq K H 3000 a p ∧ Fq K H 3000 b q ∧ ∀ z, R p q z → Gv K H Q z
def spUn (K : PySem.W.Frag) (g : Qt → Qt) : Sp := fun vs H Q _ => ∃ (a : Addr) (q : Qt), vs = [.ref a] ∧ Fq K H 8000 a q ∧ Gv K H Q (g q)
def spFloor (K : PySem.W.Frag) : Sp := fun vs H Q _ => ∃ (a : Addr) (q : Qt), vs = [.ref a] ∧ Fq K H 8000 a q ∧ Q (.int (q.1 / q.2)) H
abbrev sPlus : Stmt := topS 25
theorem scPlus : FnScope ["left", "right"] ["left", "right"] (defScope sPlus) := ⟨rfl, rfl, rfl, by decide +kernel, rfl, by decide +kernel, by decide +kernel⟩
theorem k_Plus (T : Bt K mg) (D : Dfn K mg "plus" sPlus ["left", "right"]) (d_require : Kn P w K mg base 1 "require" ["well_formed", "what"] spRequire) (d_is_fraction : Kn P w K mg base 2 "is_fraction" ["value"] (spIsFraction K)) (d_fraction : Kn P w K mg base 2 "fraction" ["numerator", "denominator"] (spFraction K)) : Kn P w K mg base 3 "plus" ["left", "right"] (spBin K sum2) := by
  refine Kn.mk' D scPlus (fun vs H Q E h => ?_) (fun f cdv A outer s H vs Q E hr h => ?_)
  · obtain ⟨a, b, p, q, rfl, _⟩ := h
    rfl
  obtain ⟨a, b, p, q, rfl, hp, hq, k⟩ := h
  refine ⟨_, (pss_cons (ps_expr (pe_kn d_require hr (by rfl) (pa_cons (pe_kn d_is_fraction hr (by rfl) (pa_cons (pv 0) pa_nil)) (pa_cons pe_str pa_nil))))
      (pss_cons (ps_expr (pe_kn d_require hr (by rfl) (pa_cons (pe_kn d_is_fraction hr (by rfl) (pa_cons (pv 1) pa_nil)) (pa_cons pe_str pa_nil))))
      (pss_one (ps_ret (pe_kn d_fraction hr (by rfl) (pa_cons (pe_op op_add (pe_op op_mulW (pe_ix ix_any (pv 0) pe_int (fun _ _ => rfl)) (pe_ix ix_any (pv 1) pe_int (fun _ _ => rfl))) (pe_op op_mulW (pe_ix ix_any (pv 1) pe_int (fun _ _ => rfl)) (pe_ix ix_any (pv 0) pe_int (fun _ _ => rfl)))) (pa_cons (pe_op op_mulW (pe_ix ix_any (pv 0) pe_int (fun _ _ => rfl)) (pe_ix ix_any (pv 1) pe_int (fun _ _ => rfl))) pa_nil))))))), ?_⟩
  simp only [cx_K, decide_true, decide_false, reduceCtorEq, gTp, gCons, gNil, ca_0, ca_1, ca_2, ca_3, ca_4, ca_5, ca_6, ca_7, ca_8, ca_9, ca_10, ca_11, ca_12, ca_13, ca_14, ca_15, ca_16, ca_17, ca_18, ca_19, ca_20, ca_21, ca_22, ca_23, ca_24, ca_25, ca_26, ca_27, ca_28, ca_29, ca_30, not_true_eq_false, not_false_eq_true, Int.reduceEq, Nat.reduceEqDiff, Nat.reduceLeDiff, rGcd, V.ty.injEq, eq_self, List.not_mem_nil, beq_self_eq_true, HO.lst.injEq, HO.tup.injEq, tFor_eq, iRng1, iList, iTup, nat10, tSeq, rIxA, rSetA, rIsN, rIsT, tTp, tLs, itsO_tup, itsO_lst, tyO_tup, tyO_lst, tyO_dK, tyN_non, tyN_bl, tyN_int, tyN_str, tyN_ref, tyNs_lt, isB, upd_same, upd_upd, sizeLine_eq, List.mem_cons, String.reduceBEq, String.reduceEq, Bool.or_false, Bool.or_true, Bool.and_false, Bool.false_or, Bool.and_self, Bool.false_and, Bool.not_false, Bool.not_true, List.any_cons, List.any_nil, atI_0, setI_0, atI_1, setI_1, atI_2, setI_2, atI_3, setI_3, atI_4, setI_4, atI_5, setI_5, atI_6, setI_6, tAsg, gName, tOp, tUn, tVar, tC, tCons, L2.tNil, tRet, tIfS, tTest, tCB, tCall, rI, rI0, rU, tNext, tB, tAnd, tOr, tNot, tAndV, tOrV, tNotV, tDrop, tIf, tPar, gSub, rIxL, rIxT, rEq, rNe, rSetL, tBits,
    L2.start, List.map_cons, List.map_nil, List.cons_append, List.nil_append, List.append_nil, List.length_cons, List.length_nil, List.replicate, Nat.reduceAdd, Nat.reduceSub, Nat.zero_add, List.getElem?_cons_zero, List.getElem?_cons_succ, List.set_cons_zero, List.set_cons_succ,
    Option.some.injEq, exists_eq_left', exists_eq_left, V.int.injEq, V.bl.injEq, V.ref.injEq, V.str.injEq, List.cons.injEq, reduceCtorEq, and_true, true_and, false_and, and_false, exists_false, or_false, false_or, or_true, true_or, exists_const, CMul, CDiv, CPow, and_assoc, exists_and_left, exists_and_right, Int.reducePow, Int.reduceNeg, Int.reduceLT, Int.reduceLE, Nat.reducePow, Nat.reduceLT, Int.reduceToNat, gt_iff_lt, ge_iff_le, decide_eq_true_eq, Bool.not_eq_true', decide_eq_false_iff_not, scal, ↓reduceIte, Bool.false_eq_true]
  refine ⟨_, rfl, Tyd.fr hp.o, _, by rw [frOk_fr hp.o hp.nf], _, rfl, Tyd.fr hq.o, _, by rw [frOk_fr hq.o hq.nf], ?_⟩
  simp only [hp.o, hq.o, cx_K, decide_true, decide_false, reduceCtorEq, gTp, gCons, gNil, ca_0, ca_1, ca_2, ca_3, ca_4, ca_5, ca_6, ca_7, ca_8, ca_9, ca_10, ca_11, ca_12, ca_13, ca_14, ca_15, ca_16, ca_17, ca_18, ca_19, ca_20, ca_21, ca_22, ca_23, ca_24, ca_25, ca_26, ca_27, ca_28, ca_29, ca_30, not_true_eq_false, not_false_eq_true, Int.reduceEq, Nat.reduceEqDiff, Nat.reduceLeDiff, rGcd, V.ty.injEq, eq_self, List.not_mem_nil, beq_self_eq_true, HO.lst.injEq, HO.tup.injEq, tFor_eq, iRng1, iList, iTup, nat10, tSeq, rIxA, rSetA, rIsN, rIsT, tTp, tLs, itsO_tup, itsO_lst, tyO_tup, tyO_lst, tyO_dK, tyN_non, tyN_bl, tyN_int, tyN_str, tyN_ref, tyNs_lt, isB, upd_same, upd_upd, sizeLine_eq, List.mem_cons, String.reduceBEq, String.reduceEq, Bool.or_false, Bool.or_true, Bool.and_false, Bool.false_or, Bool.and_self, Bool.false_and, Bool.not_false, Bool.not_true, List.any_cons, List.any_nil, atI_0, setI_0, atI_1, setI_1, atI_2, setI_2, atI_3, setI_3, atI_4, setI_4, atI_5, setI_5, atI_6, setI_6, tAsg, gName, tOp, tUn, tVar, tC, tCons, L2.tNil, tRet, tIfS, tTest, tCB, tCall, rI, rI0, rU, tNext, tB, tAnd, tOr, tNot, tAndV, tOrV, tNotV, tDrop, tIf, tPar, gSub, rIxL, rIxT, rEq, rNe, rSetL, tBits,
    L2.start, List.map_cons, List.map_nil, List.cons_append, List.nil_append, List.append_nil, List.length_cons, List.length_nil, List.replicate, Nat.reduceAdd, Nat.reduceSub, Nat.zero_add, List.getElem?_cons_zero, List.getElem?_cons_succ, List.set_cons_zero, List.set_cons_succ,
    Option.some.injEq, exists_eq_left', exists_eq_left, V.int.injEq, V.bl.injEq, V.ref.injEq, V.str.injEq, List.cons.injEq, reduceCtorEq, and_true, true_and, false_and, and_false, exists_false, or_false, false_or, or_true, true_or, exists_const, CMul, CDiv, CPow, and_assoc, exists_and_left, exists_and_right, Int.reducePow, Int.reduceNeg, Int.reduceLT, Int.reduceLE, Nat.reducePow, Nat.reduceLT, Int.reduceToNat, gt_iff_lt, ge_iff_le, decide_eq_true_eq, Bool.not_eq_true', decide_eq_false_iff_not, scal, ↓reduceIte, Bool.false_eq_true]
  exact ⟨mulW hp.sz.1 hq.sz.2 (by omega), mulW hq.sz.1 hp.sz.2 (by omega), mulW hp.sz.2 hq.sz.2 (by omega), _, _, rfl, mul_ne hp.nf.1 hq.nf.1, szMono (szMul hp.sz.2 hq.sz.2) (by omega), k⟩
def spLFrac (K : PySem.W.Frag) : Sp := fun vs H Q _ => ∃ (a : Addr) (q : Qt), vs = [.ref a] ∧ Fq K H 8000 a q ∧ Q (.bl true) H
def dif2 (p q : Qt) (z : Qt) : Prop := Is z (p.1 * q.2 - q.1 * p.2) (p.2 * q.2)
def pro2 (p q : Qt) (z : Qt) : Prop := Is z (p.1 * q.1) (p.2 * q.2)
def quo2 (p q : Qt) (z : Qt) : Prop := Is z (p.1 * q.2) (p.2 * q.1)
def cmp2 (p q : Qt) : Int := if p.1 * q.2 = q.1 * p.2 then 0 else if p.1 * q.2 < q.1 * p.2 then -1 else 1
def spQuo (K : PySem.W.Frag) : Sp := fun vs H Q _ => ∃ (a b : Addr) (p q : Qt), vs = [.ref a, .ref b] ∧ Fq K H 3000 a p ∧ Fq K H 3000 b q ∧ q.1 ≠ 0 ∧ ∀ z, quo2 p q z → Gv K H Q z
def spCmp (K : PySem.W.Frag) : Sp := fun vs H Q _ => ∃ (a b : Addr) (p q : Qt), vs = [.ref a, .ref b] ∧ Fq K H 3000 a p ∧ Fq K H 3000 b q ∧ Q (.int (cmp2 p q)) H
abbrev sMinus : Stmt := topS 26
theorem scMinus : FnScope ["left", "right"] ["left", "right"] (defScope sMinus) := ⟨rfl, rfl, rfl, by decide +kernel, rfl, by decide +kernel, by decide +kernel⟩
theorem k_Minus (T : Bt K mg) (D : Dfn K mg "minus" sMinus ["left", "right"]) (d_require : Kn P w K mg base 1 "require" ["well_formed", "what"] spRequire) (d_is_fraction : Kn P w K mg base 2 "is_fraction" ["value"] (spIsFraction K)) (d_fraction : Kn P w K mg base 2 "fraction" ["numerator", "denominator"] (spFraction K)) : Kn P w K mg base 3 "minus" ["left", "right"] (spBin K dif2) := by
  refine Kn.mk' D scMinus (fun vs H Q E h => ?_) (fun f cdv A outer s H vs Q E hr h => ?_)
  · obtain ⟨a, b, p, q, rfl, _⟩ := h
    rfl
  obtain ⟨a, b, p, q, rfl, hp, hq, k⟩ := h
  refine ⟨_, (pss_cons (ps_expr (pe_kn d_require hr (by rfl) (pa_cons (pe_kn d_is_fraction hr (by rfl) (pa_cons (pv 0) pa_nil)) (pa_cons pe_str pa_nil))))
      (pss_cons (ps_expr (pe_kn d_require hr (by rfl) (pa_cons (pe_kn d_is_fraction hr (by rfl) (pa_cons (pv 1) pa_nil)) (pa_cons pe_str pa_nil))))
      (pss_one (ps_ret (pe_kn d_fraction hr (by rfl) (pa_cons (pe_op op_sub (pe_op op_mulW (pe_ix ix_any (pv 0) pe_int (fun _ _ => rfl)) (pe_ix ix_any (pv 1) pe_int (fun _ _ => rfl))) (pe_op op_mulW (pe_ix ix_any (pv 1) pe_int (fun _ _ => rfl)) (pe_ix ix_any (pv 0) pe_int (fun _ _ => rfl)))) (pa_cons (pe_op op_mulW (pe_ix ix_any (pv 0) pe_int (fun _ _ => rfl)) (pe_ix ix_any (pv 1) pe_int (fun _ _ => rfl))) pa_nil))))))), ?_⟩
  simp only [cx_K, decide_true, decide_false, reduceCtorEq, gTp, gCons, gNil, ca_0, ca_1, ca_2, ca_3, ca_4, ca_5, ca_6, ca_7, ca_8, ca_9, ca_10, ca_11, ca_12, ca_13, ca_14, ca_15, ca_16, ca_17, ca_18, ca_19, ca_20, ca_21, ca_22, ca_23, ca_24, ca_25, ca_26, ca_27, ca_28, ca_29, ca_30, not_true_eq_false, not_false_eq_true, Int.reduceEq, Nat.reduceEqDiff, Nat.reduceLeDiff, rGcd, V.ty.injEq, eq_self, List.not_mem_nil, beq_self_eq_true, HO.lst.injEq, HO.tup.injEq, tFor_eq, iRng1, iList, iTup, nat10, tSeq, rIxA, rSetA, rIsN, rIsT, tTp, tLs, itsO_tup, itsO_lst, tyO_tup, tyO_lst, tyO_dK, tyN_non, tyN_bl, tyN_int, tyN_str, tyN_ref, tyNs_lt, isB, upd_same, upd_upd, sizeLine_eq, List.mem_cons, String.reduceBEq, String.reduceEq, Bool.or_false, Bool.or_true, Bool.and_false, Bool.false_or, Bool.and_self, Bool.false_and, Bool.not_false, Bool.not_true, List.any_cons, List.any_nil, atI_0, setI_0, atI_1, setI_1, atI_2, setI_2, atI_3, setI_3, atI_4, setI_4, atI_5, setI_5, atI_6, setI_6, tAsg, gName, tOp, tUn, tVar, tC, tCons, L2.tNil, tRet, tIfS, tTest, tCB, tCall, rI, rI0, rU, tNext, tB, tAnd, tOr, tNot, tAndV, tOrV, tNotV, tDrop, tIf, tPar, gSub, rIxL, rIxT, rEq, rNe, rSetL, tBits,
    L2.start, List.map_cons, List.map_nil, List.cons_append, List.nil_append, List.append_nil, List.length_cons, List.length_nil, List.replicate, Nat.reduceAdd, Nat.reduceSub, Nat.zero_add, List.getElem?_cons_zero, List.getElem?_cons_succ, List.set_cons_zero, List.set_cons_succ,
    Option.some.injEq, exists_eq_left', exists_eq_left, V.int.injEq, V.bl.injEq, V.ref.injEq, V.str.injEq, List.cons.injEq, reduceCtorEq, and_true, true_and, false_and, and_false, exists_false, or_false, false_or, or_true, true_or, exists_const, CMul, CDiv, CPow, and_assoc, exists_and_left, exists_and_right, Int.reducePow, Int.reduceNeg, Int.reduceLT, Int.reduceLE, Nat.reducePow, Nat.reduceLT, Int.reduceToNat, gt_iff_lt, ge_iff_le, decide_eq_true_eq, Bool.not_eq_true', decide_eq_false_iff_not, scal, ↓reduceIte, Bool.false_eq_true]
  refine ⟨_, rfl, Tyd.fr hp.o, _, by rw [frOk_fr hp.o hp.nf], _, rfl, Tyd.fr hq.o, _, by rw [frOk_fr hq.o hq.nf], ?_⟩
  simp only [hp.o, hq.o, cx_K, decide_true, decide_false, reduceCtorEq, gTp, gCons, gNil, ca_0, ca_1, ca_2, ca_3, ca_4, ca_5, ca_6, ca_7, ca_8, ca_9, ca_10, ca_11, ca_12, ca_13, ca_14, ca_15, ca_16, ca_17, ca_18, ca_19, ca_20, ca_21, ca_22, ca_23, ca_24, ca_25, ca_26, ca_27, ca_28, ca_29, ca_30, not_true_eq_false, not_false_eq_true, Int.reduceEq, Nat.reduceEqDiff, Nat.reduceLeDiff, rGcd, V.ty.injEq, eq_self, List.not_mem_nil, beq_self_eq_true, HO.lst.injEq, HO.tup.injEq, tFor_eq, iRng1, iList, iTup, nat10, tSeq, rIxA, rSetA, rIsN, rIsT, tTp, tLs, itsO_tup, itsO_lst, tyO_tup, tyO_lst, tyO_dK, tyN_non, tyN_bl, tyN_int, tyN_str, tyN_ref, tyNs_lt, isB, upd_same, upd_upd, sizeLine_eq, List.mem_cons, String.reduceBEq, String.reduceEq, Bool.or_false, Bool.or_true, Bool.and_false, Bool.false_or, Bool.and_self, Bool.false_and, Bool.not_false, Bool.not_true, List.any_cons, List.any_nil, atI_0, setI_0, atI_1, setI_1, atI_2, setI_2, atI_3, setI_3, atI_4, setI_4, atI_5, setI_5, atI_6, setI_6, tAsg, gName, tOp, tUn, tVar, tC, tCons, L2.tNil, tRet, tIfS, tTest, tCB, tCall, rI, rI0, rU, tNext, tB, tAnd, tOr, tNot, tAndV, tOrV, tNotV, tDrop, tIf, tPar, gSub, rIxL, rIxT, rEq, rNe, rSetL, tBits,
    L2.start, List.map_cons, List.map_nil, List.cons_append, List.nil_append, List.append_nil, List.length_cons, List.length_nil, List.replicate, Nat.reduceAdd, Nat.reduceSub, Nat.zero_add, List.getElem?_cons_zero, List.getElem?_cons_succ, List.set_cons_zero, List.set_cons_succ,
    Option.some.injEq, exists_eq_left', exists_eq_left, V.int.injEq, V.bl.injEq, V.ref.injEq, V.str.injEq, List.cons.injEq, reduceCtorEq, and_true, true_and, false_and, and_false, exists_false, or_false, false_or, or_true, true_or, exists_const, CMul, CDiv, CPow, and_assoc, exists_and_left, exists_and_right, Int.reducePow, Int.reduceNeg, Int.reduceLT, Int.reduceLE, Nat.reducePow, Nat.reduceLT, Int.reduceToNat, gt_iff_lt, ge_iff_le, decide_eq_true_eq, Bool.not_eq_true', decide_eq_false_iff_not, scal, ↓reduceIte, Bool.false_eq_true]
  exact ⟨mulW hp.sz.1 hq.sz.2 (by omega), mulW hq.sz.1 hp.sz.2 (by omega), mulW hp.sz.2 hq.sz.2 (by omega), _, _, rfl, mul_ne hp.nf.1 hq.nf.1, szMono (szMul hp.sz.2 hq.sz.2) (by omega), k⟩
abbrev sTimes : Stmt := topS 27
theorem scTimes : FnScope ["left", "right"] ["left", "right"] (defScope sTimes) := ⟨rfl, rfl, rfl, by decide +kernel, rfl, by decide +kernel, by decide +kernel⟩
theorem k_Times (T : Bt K mg) (D : Dfn K mg "times" sTimes ["left", "right"]) (d_require : Kn P w K mg base 1 "require" ["well_formed", "what"] spRequire) (d_is_fraction : Kn P w K mg base 2 "is_fraction" ["value"] (spIsFraction K)) (d_fraction : Kn P w K mg base 2 "fraction" ["numerator", "denominator"] (spFraction K)) : Kn P w K mg base 3 "times" ["left", "right"] (spBin K pro2) := by
  refine Kn.mk' D scTimes (fun vs H Q E h => ?_) (fun f cdv A outer s H vs Q E hr h => ?_)
  · obtain ⟨a, b, p, q, rfl, _⟩ := h
    rfl
  obtain ⟨a, b, p, q, rfl, hp, hq, k⟩ := h
  refine ⟨_, (pss_cons (ps_expr (pe_kn d_require hr (by rfl) (pa_cons (pe_kn d_is_fraction hr (by rfl) (pa_cons (pv 0) pa_nil)) (pa_cons pe_str pa_nil))))
      (pss_cons (ps_expr (pe_kn d_require hr (by rfl) (pa_cons (pe_kn d_is_fraction hr (by rfl) (pa_cons (pv 1) pa_nil)) (pa_cons pe_str pa_nil))))
      (pss_one (ps_ret (pe_kn d_fraction hr (by rfl) (pa_cons (pe_op op_mulW (pe_ix ix_any (pv 0) pe_int (fun _ _ => rfl)) (pe_ix ix_any (pv 1) pe_int (fun _ _ => rfl))) (pa_cons (pe_op op_mulW (pe_ix ix_any (pv 0) pe_int (fun _ _ => rfl)) (pe_ix ix_any (pv 1) pe_int (fun _ _ => rfl))) pa_nil))))))), ?_⟩
  simp only [cx_K, decide_true, decide_false, reduceCtorEq, gTp, gCons, gNil, ca_0, ca_1, ca_2, ca_3, ca_4, ca_5, ca_6, ca_7, ca_8, ca_9, ca_10, ca_11, ca_12, ca_13, ca_14, ca_15, ca_16, ca_17, ca_18, ca_19, ca_20, ca_21, ca_22, ca_23, ca_24, ca_25, ca_26, ca_27, ca_28, ca_29, ca_30, not_true_eq_false, not_false_eq_true, Int.reduceEq, Nat.reduceEqDiff, Nat.reduceLeDiff, rGcd, V.ty.injEq, eq_self, List.not_mem_nil, beq_self_eq_true, HO.lst.injEq, HO.tup.injEq, tFor_eq, iRng1, iList, iTup, nat10, tSeq, rIxA, rSetA, rIsN, rIsT, tTp, tLs, itsO_tup, itsO_lst, tyO_tup, tyO_lst, tyO_dK, tyN_non, tyN_bl, tyN_int, tyN_str, tyN_ref, tyNs_lt, isB, upd_same, upd_upd, sizeLine_eq, List.mem_cons, String.reduceBEq, String.reduceEq, Bool.or_false, Bool.or_true, Bool.and_false, Bool.false_or, Bool.and_self, Bool.false_and, Bool.not_false, Bool.not_true, List.any_cons, List.any_nil, atI_0, setI_0, atI_1, setI_1, atI_2, setI_2, atI_3, setI_3, atI_4, setI_4, atI_5, setI_5, atI_6, setI_6, tAsg, gName, tOp, tUn, tVar, tC, tCons, L2.tNil, tRet, tIfS, tTest, tCB, tCall, rI, rI0, rU, tNext, tB, tAnd, tOr, tNot, tAndV, tOrV, tNotV, tDrop, tIf, tPar, gSub, rIxL, rIxT, rEq, rNe, rSetL, tBits,
    L2.start, List.map_cons, List.map_nil, List.cons_append, List.nil_append, List.append_nil, List.length_cons, List.length_nil, List.replicate, Nat.reduceAdd, Nat.reduceSub, Nat.zero_add, List.getElem?_cons_zero, List.getElem?_cons_succ, List.set_cons_zero, List.set_cons_succ,
    Option.some.injEq, exists_eq_left', exists_eq_left, V.int.injEq, V.bl.injEq, V.ref.injEq, V.str.injEq, List.cons.injEq, reduceCtorEq, and_true, true_and, false_and, and_false, exists_false, or_false, false_or, or_true, true_or, exists_const, CMul, CDiv, CPow, and_assoc, exists_and_left, exists_and_right, Int.reducePow, Int.reduceNeg, Int.reduceLT, Int.reduceLE, Nat.reducePow, Nat.reduceLT, Int.reduceToNat, gt_iff_lt, ge_iff_le, decide_eq_true_eq, Bool.not_eq_true', decide_eq_false_iff_not, scal, ↓reduceIte, Bool.false_eq_true]
  refine ⟨_, rfl, Tyd.fr hp.o, _, by rw [frOk_fr hp.o hp.nf], _, rfl, Tyd.fr hq.o, _, by rw [frOk_fr hq.o hq.nf], ?_⟩
  simp only [hp.o, hq.o, cx_K, decide_true, decide_false, reduceCtorEq, gTp, gCons, gNil, ca_0, ca_1, ca_2, ca_3, ca_4, ca_5, ca_6, ca_7, ca_8, ca_9, ca_10, ca_11, ca_12, ca_13, ca_14, ca_15, ca_16, ca_17, ca_18, ca_19, ca_20, ca_21, ca_22, ca_23, ca_24, ca_25, ca_26, ca_27, ca_28, ca_29, ca_30, not_true_eq_false, not_false_eq_true, Int.reduceEq, Nat.reduceEqDiff, Nat.reduceLeDiff, rGcd, V.ty.injEq, eq_self, List.not_mem_nil, beq_self_eq_true, HO.lst.injEq, HO.tup.injEq, tFor_eq, iRng1, iList, iTup, nat10, tSeq, rIxA, rSetA, rIsN, rIsT, tTp, tLs, itsO_tup, itsO_lst, tyO_tup, tyO_lst, tyO_dK, tyN_non, tyN_bl, tyN_int, tyN_str, tyN_ref, tyNs_lt, isB, upd_same, upd_upd, sizeLine_eq, List.mem_cons, String.reduceBEq, String.reduceEq, Bool.or_false, Bool.or_true, Bool.and_false, Bool.false_or, Bool.and_self, Bool.false_and, Bool.not_false, Bool.not_true, List.any_cons, List.any_nil, atI_0, setI_0, atI_1, setI_1, atI_2, setI_2, atI_3, setI_3, atI_4, setI_4, atI_5, setI_5, atI_6, setI_6, tAsg, gName, tOp, tUn, tVar, tC, tCons, L2.tNil, tRet, tIfS, tTest, tCB, tCall, rI, rI0, rU, tNext, tB, tAnd, tOr, tNot, tAndV, tOrV, tNotV, tDrop, tIf, tPar, gSub, rIxL, rIxT, rEq, rNe, rSetL, tBits,
    L2.start, List.map_cons, List.map_nil, List.cons_append, List.nil_append, List.append_nil, List.length_cons, List.length_nil, List.replicate, Nat.reduceAdd, Nat.reduceSub, Nat.zero_add, List.getElem?_cons_zero, List.getElem?_cons_succ, List.set_cons_zero, List.set_cons_succ,
    Option.some.injEq, exists_eq_left', exists_eq_left, V.int.injEq, V.bl.injEq, V.ref.injEq, V.str.injEq, List.cons.injEq, reduceCtorEq, and_true, true_and, false_and, and_false, exists_false, or_false, false_or, or_true, true_or, exists_const, CMul, CDiv, CPow, and_assoc, exists_and_left, exists_and_right, Int.reducePow, Int.reduceNeg, Int.reduceLT, Int.reduceLE, Nat.reducePow, Nat.reduceLT, Int.reduceToNat, gt_iff_lt, ge_iff_le, decide_eq_true_eq, Bool.not_eq_true', decide_eq_false_iff_not, scal, ↓reduceIte, Bool.false_eq_true]
  exact ⟨mulW hp.sz.1 hq.sz.1 (by omega), mulW hp.sz.2 hq.sz.2 (by omega), _, _, rfl, mul_ne hp.nf.1 hq.nf.1, szMono (szMul hp.sz.2 hq.sz.2) (by omega), k⟩
abbrev sOver : Stmt := topS 28
theorem scOver : FnScope ["left", "right"] ["left", "right"] (defScope sOver) := ⟨rfl, rfl, rfl, by decide +kernel, rfl, by decide +kernel, by decide +kernel⟩
theorem k_Over (T : Bt K mg) (D : Dfn K mg "over" sOver ["left", "right"]) (d_require : Kn P w K mg base 1 "require" ["well_formed", "what"] spRequire) (d_is_fraction : Kn P w K mg base 2 "is_fraction" ["value"] (spIsFraction K)) (d_fraction : Kn P w K mg base 2 "fraction" ["numerator", "denominator"] (spFraction K)) : Kn P w K mg base 3 "over" ["left", "right"] (spQuo K) := by
  refine Kn.mk' D scOver (fun vs H Q E h => ?_) (fun f cdv A outer s H vs Q E hr h => ?_)
  · obtain ⟨a, b, p, q, rfl, _⟩ := h
    rfl
  obtain ⟨a, b, p, q, rfl, hp, hq, h0, k⟩ := h
  refine ⟨_, (pss_cons (ps_expr (pe_kn d_require hr (by rfl) (pa_cons (pe_kn d_is_fraction hr (by rfl) (pa_cons (pv 0) pa_nil)) (pa_cons pe_str pa_nil))))
      (pss_cons (ps_expr (pe_kn d_require hr (by rfl) (pa_cons (pe_and (pe_kn d_is_fraction hr (by rfl) (pa_cons (pv 1) pa_nil)) (pe_one (pe_cmpR op_ne (pe_ix ix_any (pv 1) pe_int (fun _ _ => rfl)) pe_int (nomark _)))) (pa_cons pe_str pa_nil))))
      (pss_one (ps_ret (pe_kn d_fraction hr (by rfl) (pa_cons (pe_op op_mulW (pe_ix ix_any (pv 0) pe_int (fun _ _ => rfl)) (pe_ix ix_any (pv 1) pe_int (fun _ _ => rfl))) (pa_cons (pe_op op_mulW (pe_ix ix_any (pv 0) pe_int (fun _ _ => rfl)) (pe_ix ix_any (pv 1) pe_int (fun _ _ => rfl))) pa_nil))))))), ?_⟩
  simp only [cx_K, decide_true, decide_false, reduceCtorEq, gTp, gCons, gNil, ca_0, ca_1, ca_2, ca_3, ca_4, ca_5, ca_6, ca_7, ca_8, ca_9, ca_10, ca_11, ca_12, ca_13, ca_14, ca_15, ca_16, ca_17, ca_18, ca_19, ca_20, ca_21, ca_22, ca_23, ca_24, ca_25, ca_26, ca_27, ca_28, ca_29, ca_30, not_true_eq_false, not_false_eq_true, Int.reduceEq, Nat.reduceEqDiff, Nat.reduceLeDiff, rGcd, V.ty.injEq, eq_self, List.not_mem_nil, beq_self_eq_true, HO.lst.injEq, HO.tup.injEq, tFor_eq, iRng1, iList, iTup, nat10, tSeq, rIxA, rSetA, rIsN, rIsT, tTp, tLs, itsO_tup, itsO_lst, tyO_tup, tyO_lst, tyO_dK, tyN_non, tyN_bl, tyN_int, tyN_str, tyN_ref, tyNs_lt, isB, upd_same, upd_upd, sizeLine_eq, List.mem_cons, String.reduceBEq, String.reduceEq, Bool.or_false, Bool.or_true, Bool.and_false, Bool.false_or, Bool.and_self, Bool.false_and, Bool.not_false, Bool.not_true, List.any_cons, List.any_nil, atI_0, setI_0, atI_1, setI_1, atI_2, setI_2, atI_3, setI_3, atI_4, setI_4, atI_5, setI_5, atI_6, setI_6, tAsg, gName, tOp, tUn, tVar, tC, tCons, L2.tNil, tRet, tIfS, tTest, tCB, tCall, rI, rI0, rU, tNext, tB, tAnd, tOr, tNot, tAndV, tOrV, tNotV, tDrop, tIf, tPar, gSub, rIxL, rIxT, rEq, rNe, rSetL, tBits,
    L2.start, List.map_cons, List.map_nil, List.cons_append, List.nil_append, List.append_nil, List.length_cons, List.length_nil, List.replicate, Nat.reduceAdd, Nat.reduceSub, Nat.zero_add, List.getElem?_cons_zero, List.getElem?_cons_succ, List.set_cons_zero, List.set_cons_succ,
    Option.some.injEq, exists_eq_left', exists_eq_left, V.int.injEq, V.bl.injEq, V.ref.injEq, V.str.injEq, List.cons.injEq, reduceCtorEq, and_true, true_and, false_and, and_false, exists_false, or_false, false_or, or_true, true_or, exists_const, CMul, CDiv, CPow, and_assoc, exists_and_left, exists_and_right, Int.reducePow, Int.reduceNeg, Int.reduceLT, Int.reduceLE, Nat.reducePow, Nat.reduceLT, Int.reduceToNat, gt_iff_lt, ge_iff_le, decide_eq_true_eq, Bool.not_eq_true', decide_eq_false_iff_not, scal, ↓reduceIte, Bool.false_eq_true]
  refine ⟨_, rfl, Tyd.fr hp.o, _, by rw [frOk_fr hp.o hp.nf], _, rfl, Tyd.fr hq.o, true, by rw [frOk_fr hq.o hq.nf], ?_⟩
  rw [if_pos rfl]
  simp only [hq.o, cx_K, decide_true, decide_false, reduceCtorEq, gTp, gCons, gNil, ca_0, ca_1, ca_2, ca_3, ca_4, ca_5, ca_6, ca_7, ca_8, ca_9, ca_10, ca_11, ca_12, ca_13, ca_14, ca_15, ca_16, ca_17, ca_18, ca_19, ca_20, ca_21, ca_22, ca_23, ca_24, ca_25, ca_26, ca_27, ca_28, ca_29, ca_30, not_true_eq_false, not_false_eq_true, Int.reduceEq, Nat.reduceEqDiff, Nat.reduceLeDiff, rGcd, V.ty.injEq, eq_self, List.not_mem_nil, beq_self_eq_true, HO.lst.injEq, HO.tup.injEq, tFor_eq, iRng1, iList, iTup, nat10, tSeq, rIxA, rSetA, rIsN, rIsT, tTp, tLs, itsO_tup, itsO_lst, tyO_tup, tyO_lst, tyO_dK, tyN_non, tyN_bl, tyN_int, tyN_str, tyN_ref, tyNs_lt, isB, upd_same, upd_upd, sizeLine_eq, List.mem_cons, String.reduceBEq, String.reduceEq, Bool.or_false, Bool.or_true, Bool.and_false, Bool.false_or, Bool.and_self, Bool.false_and, Bool.not_false, Bool.not_true, List.any_cons, List.any_nil, atI_0, setI_0, atI_1, setI_1, atI_2, setI_2, atI_3, setI_3, atI_4, setI_4, atI_5, setI_5, atI_6, setI_6, tAsg, gName, tOp, tUn, tVar, tC, tCons, L2.tNil, tRet, tIfS, tTest, tCB, tCall, rI, rI0, rU, tNext, tB, tAnd, tOr, tNot, tAndV, tOrV, tNotV, tDrop, tIf, tPar, gSub, rIxL, rIxT, rEq, rNe, rSetL, tBits,
    L2.start, List.map_cons, List.map_nil, List.cons_append, List.nil_append, List.append_nil, List.length_cons, List.length_nil, List.replicate, Nat.reduceAdd, Nat.reduceSub, Nat.zero_add, List.getElem?_cons_zero, List.getElem?_cons_succ, List.set_cons_zero, List.set_cons_succ,
    Option.some.injEq, exists_eq_left', exists_eq_left, V.int.injEq, V.bl.injEq, V.ref.injEq, V.str.injEq, List.cons.injEq, reduceCtorEq, and_true, true_and, false_and, and_false, exists_false, or_false, false_or, or_true, true_or, exists_const, CMul, CDiv, CPow, and_assoc, exists_and_left, exists_and_right, Int.reducePow, Int.reduceNeg, Int.reduceLT, Int.reduceLE, Nat.reducePow, Nat.reduceLT, Int.reduceToNat, gt_iff_lt, ge_iff_le, decide_eq_true_eq, Bool.not_eq_true', decide_eq_false_iff_not, scal, ↓reduceIte, Bool.false_eq_true]
  refine ⟨_, by rw [decide_eq_false h0]; rfl, ?_⟩
  simp only [hp.o, hq.o, cx_K, decide_true, decide_false, reduceCtorEq, gTp, gCons, gNil, ca_0, ca_1, ca_2, ca_3, ca_4, ca_5, ca_6, ca_7, ca_8, ca_9, ca_10, ca_11, ca_12, ca_13, ca_14, ca_15, ca_16, ca_17, ca_18, ca_19, ca_20, ca_21, ca_22, ca_23, ca_24, ca_25, ca_26, ca_27, ca_28, ca_29, ca_30, not_true_eq_false, not_false_eq_true, Int.reduceEq, Nat.reduceEqDiff, Nat.reduceLeDiff, rGcd, V.ty.injEq, eq_self, List.not_mem_nil, beq_self_eq_true, HO.lst.injEq, HO.tup.injEq, tFor_eq, iRng1, iList, iTup, nat10, tSeq, rIxA, rSetA, rIsN, rIsT, tTp, tLs, itsO_tup, itsO_lst, tyO_tup, tyO_lst, tyO_dK, tyN_non, tyN_bl, tyN_int, tyN_str, tyN_ref, tyNs_lt, isB, upd_same, upd_upd, sizeLine_eq, List.mem_cons, String.reduceBEq, String.reduceEq, Bool.or_false, Bool.or_true, Bool.and_false, Bool.false_or, Bool.and_self, Bool.false_and, Bool.not_false, Bool.not_true, List.any_cons, List.any_nil, atI_0, setI_0, atI_1, setI_1, atI_2, setI_2, atI_3, setI_3, atI_4, setI_4, atI_5, setI_5, atI_6, setI_6, tAsg, gName, tOp, tUn, tVar, tC, tCons, L2.tNil, tRet, tIfS, tTest, tCB, tCall, rI, rI0, rU, tNext, tB, tAnd, tOr, tNot, tAndV, tOrV, tNotV, tDrop, tIf, tPar, gSub, rIxL, rIxT, rEq, rNe, rSetL, tBits,
    L2.start, List.map_cons, List.map_nil, List.cons_append, List.nil_append, List.append_nil, List.length_cons, List.length_nil, List.replicate, Nat.reduceAdd, Nat.reduceSub, Nat.zero_add, List.getElem?_cons_zero, List.getElem?_cons_succ, List.set_cons_zero, List.set_cons_succ,
    Option.some.injEq, exists_eq_left', exists_eq_left, V.int.injEq, V.bl.injEq, V.ref.injEq, V.str.injEq, List.cons.injEq, reduceCtorEq, and_true, true_and, false_and, and_false, exists_false, or_false, false_or, or_true, true_or, exists_const, CMul, CDiv, CPow, and_assoc, exists_and_left, exists_and_right, Int.reducePow, Int.reduceNeg, Int.reduceLT, Int.reduceLE, Nat.reducePow, Nat.reduceLT, Int.reduceToNat, gt_iff_lt, ge_iff_le, decide_eq_true_eq, Bool.not_eq_true', decide_eq_false_iff_not, scal, ↓reduceIte, Bool.false_eq_true]
  exact ⟨mulW hp.sz.1 hq.sz.2 (by omega), mulW hp.sz.2 hq.sz.1 (by omega), _, _, rfl, Int.mul_ne_zero hp.nf.ne h0, szMono (szMul hp.sz.2 hq.sz.1) (by omega), k⟩
def spQuot (K : PySem.W.Frag) : Sp := fun vs H Q _ => ∃ (a : Addr) (z : Qt) (t b : Int), vs = [.ref a, .int t, .int b] ∧ Fq K H 3000 a z ∧ Is z t b ∧ t.natAbs < 2 ^ 3000 ∧ b.natAbs < 2 ^ 3000 ∧ Q (.bl true) H
abbrev sPart : Stmt := topS 31
theorem scPart : FnScope ["value"] ["value"] (defScope sPart) := ⟨rfl, rfl, rfl, by decide +kernel, rfl, by decide +kernel, by decide +kernel⟩
theorem k_Part (T : Bt K mg) (D : Dfn K mg "part_of" sPart ["value"]) (d_require : Kn P w K mg base 1 "require" ["well_formed", "what"] spRequire) (d_is_fraction : Kn P w K mg base 2 "is_fraction" ["value"] (spIsFraction K)) : Kn P w K mg base 3 "part_of" ["value"] (spUn K fun q => (q.1 % q.2, q.2)) := by
  refine Kn.mk' D scPart (fun vs H Q E h => ?_) (fun f cdv A outer s H vs Q E hr h => ?_)
  · obtain ⟨a, q, rfl, _⟩ := h
    rfl
  obtain ⟨a, q, rfl, hq, k⟩ := h
  refine ⟨_, (pss_cons (ps_expr (pe_kn d_require hr (by rfl) (pa_cons (pe_kn d_is_fraction hr (by rfl) (pa_cons (pv 0) pa_nil)) (pa_cons pe_str pa_nil))))
      (pss_one (ps_ret (pe_tp (pa_cons (pe_op op_modN (pe_ix ix_any (pv 0) pe_int (fun _ _ => rfl)) (pe_ix ix_any (pv 0) pe_int (fun _ _ => rfl))) (pa_cons (pe_ix ix_any (pv 0) pe_int (fun _ _ => rfl)) pa_nil)))))), ?_⟩
  simp only [cx_K, decide_true, decide_false, reduceCtorEq, gTp, gCons, gNil, ca_0, ca_1, ca_2, ca_3, ca_4, ca_5, ca_6, ca_7, ca_8, ca_9, ca_10, ca_11, ca_12, ca_13, ca_14, ca_15, ca_16, ca_17, ca_18, ca_19, ca_20, ca_21, ca_22, ca_23, ca_24, ca_25, ca_26, ca_27, ca_28, ca_29, ca_30, not_true_eq_false, not_false_eq_true, Int.reduceEq, Nat.reduceEqDiff, Nat.reduceLeDiff, rGcd, V.ty.injEq, eq_self, List.not_mem_nil, beq_self_eq_true, HO.lst.injEq, HO.tup.injEq, tFor_eq, iRng1, iList, iTup, nat10, tSeq, rIxA, rSetA, rIsN, rIsT, tTp, tLs, itsO_tup, itsO_lst, tyO_tup, tyO_lst, tyO_dK, tyN_non, tyN_bl, tyN_int, tyN_str, tyN_ref, tyNs_lt, isB, upd_same, upd_upd, sizeLine_eq, List.mem_cons, String.reduceBEq, String.reduceEq, Bool.or_false, Bool.or_true, Bool.and_false, Bool.false_or, Bool.and_self, Bool.false_and, Bool.not_false, Bool.not_true, List.any_cons, List.any_nil, atI_0, setI_0, atI_1, setI_1, atI_2, setI_2, atI_3, setI_3, atI_4, setI_4, atI_5, setI_5, atI_6, setI_6, tAsg, gName, tOp, tUn, tVar, tC, tCons, L2.tNil, tRet, tIfS, tTest, tCB, tCall, rI, rI0, rU, tNext, tB, tAnd, tOr, tNot, tAndV, tOrV, tNotV, tDrop, tIf, tPar, gSub, rIxL, rIxT, rEq, rNe, rSetL, tBits,
    L2.start, List.map_cons, List.map_nil, List.cons_append, List.nil_append, List.append_nil, List.length_cons, List.length_nil, List.replicate, Nat.reduceAdd, Nat.reduceSub, Nat.zero_add, List.getElem?_cons_zero, List.getElem?_cons_succ, List.set_cons_zero, List.set_cons_succ,
    Option.some.injEq, exists_eq_left', exists_eq_left, V.int.injEq, V.bl.injEq, V.ref.injEq, V.str.injEq, List.cons.injEq, reduceCtorEq, and_true, true_and, false_and, and_false, exists_false, or_false, false_or, or_true, true_or, exists_const, CMul, CDiv, CPow, and_assoc, exists_and_left, exists_and_right, Int.reducePow, Int.reduceNeg, Int.reduceLT, Int.reduceLE, Nat.reducePow, Nat.reduceLT, Int.reduceToNat, gt_iff_lt, ge_iff_le, decide_eq_true_eq, Bool.not_eq_true', decide_eq_false_iff_not, scal, ↓reduceIte, Bool.false_eq_true]
  refine ⟨_, rfl, Tyd.fr hq.o, _, by rw [frOk_fr hq.o hq.nf], ?_⟩
  have fm : q.1.fmod q.2 = q.1 % q.2 := Int.fmod_eq_emod_of_nonneg _ (by have := hq.nf.1; omega)
  simp only [hq.o, fm, cx_K, decide_true, decide_false, reduceCtorEq, gTp, gCons, gNil, ca_0, ca_1, ca_2, ca_3, ca_4, ca_5, ca_6, ca_7, ca_8, ca_9, ca_10, ca_11, ca_12, ca_13, ca_14, ca_15, ca_16, ca_17, ca_18, ca_19, ca_20, ca_21, ca_22, ca_23, ca_24, ca_25, ca_26, ca_27, ca_28, ca_29, ca_30, not_true_eq_false, not_false_eq_true, Int.reduceEq, Nat.reduceEqDiff, Nat.reduceLeDiff, rGcd, V.ty.injEq, eq_self, List.not_mem_nil, beq_self_eq_true, HO.lst.injEq, HO.tup.injEq, tFor_eq, iRng1, iList, iTup, nat10, tSeq, rIxA, rSetA, rIsN, rIsT, tTp, tLs, itsO_tup, itsO_lst, tyO_tup, tyO_lst, tyO_dK, tyN_non, tyN_bl, tyN_int, tyN_str, tyN_ref, tyNs_lt, isB, upd_same, upd_upd, sizeLine_eq, List.mem_cons, String.reduceBEq, String.reduceEq, Bool.or_false, Bool.or_true, Bool.and_false, Bool.false_or, Bool.and_self, Bool.false_and, Bool.not_false, Bool.not_true, List.any_cons, List.any_nil, atI_0, setI_0, atI_1, setI_1, atI_2, setI_2, atI_3, setI_3, atI_4, setI_4, atI_5, setI_5, atI_6, setI_6, tAsg, gName, tOp, tUn, tVar, tC, tCons, L2.tNil, tRet, tIfS, tTest, tCB, tCall, rI, rI0, rU, tNext, tB, tAnd, tOr, tNot, tAndV, tOrV, tNotV, tDrop, tIf, tPar, gSub, rIxL, rIxT, rEq, rNe, rSetL, tBits,
    L2.start, List.map_cons, List.map_nil, List.cons_append, List.nil_append, List.append_nil, List.length_cons, List.length_nil, List.replicate, Nat.reduceAdd, Nat.reduceSub, Nat.zero_add, List.getElem?_cons_zero, List.getElem?_cons_succ, List.set_cons_zero, List.set_cons_succ,
    Option.some.injEq, exists_eq_left', exists_eq_left, V.int.injEq, V.bl.injEq, V.ref.injEq, V.str.injEq, List.cons.injEq, reduceCtorEq, and_true, true_and, false_and, and_false, exists_false, or_false, false_or, or_true, true_or, exists_const, CMul, CDiv, CPow, and_assoc, exists_and_left, exists_and_right, Int.reducePow, Int.reduceNeg, Int.reduceLT, Int.reduceLE, Nat.reducePow, Nat.reduceLT, Int.reduceToNat, gt_iff_lt, ge_iff_le, decide_eq_true_eq, Bool.not_eq_true', decide_eq_false_iff_not, scal, ↓reduceIte, Bool.false_eq_true]
  exact ⟨hq.nf.ne, fun p hp kp => k.new hp kp⟩
abbrev sMagn : Stmt := topS 30
theorem scMagn : FnScope ["value"] ["value"] (defScope sMagn) := ⟨rfl, rfl, rfl, by decide +kernel, rfl, by decide +kernel, by decide +kernel⟩
theorem k_Magn (T : Bt K mg) (D : Dfn K mg "magnitude" sMagn ["value"]) (d_require : Kn P w K mg base 1 "require" ["well_formed", "what"] spRequire) (d_is_fraction : Kn P w K mg base 2 "is_fraction" ["value"] (spIsFraction K)) : Kn P w K mg base 3 "magnitude" ["value"] (spUn K fun q => ((q.1.natAbs : Int), q.2)) := by
  refine Kn.mk' D scMagn (fun vs H Q E h => ?_) (fun f cdv A outer s H vs Q E hr h => ?_)
  · obtain ⟨a, q, rfl, _⟩ := h
    rfl
  obtain ⟨a, q, rfl, hq, k⟩ := h
  refine ⟨_, (pss_cons (ps_expr (pe_kn d_require hr (by rfl) (pa_cons (pe_kn d_is_fraction hr (by rfl) (pa_cons (pv 0) pa_nil)) (pa_cons pe_str pa_nil))))
      (pss_one (ps_ret (pe_tp (pa_cons (pe_callB call_abs (by rfl) T.b_abs (by decide +kernel) (pa_cons (pe_ix ix_any (pv 0) pe_int (fun _ _ => rfl)) pa_nil)) (pa_cons (pe_ix ix_any (pv 0) pe_int (fun _ _ => rfl)) pa_nil)))))), ?_⟩
  simp only [cx_K, decide_true, decide_false, reduceCtorEq, gTp, gCons, gNil, ca_0, ca_1, ca_2, ca_3, ca_4, ca_5, ca_6, ca_7, ca_8, ca_9, ca_10, ca_11, ca_12, ca_13, ca_14, ca_15, ca_16, ca_17, ca_18, ca_19, ca_20, ca_21, ca_22, ca_23, ca_24, ca_25, ca_26, ca_27, ca_28, ca_29, ca_30, not_true_eq_false, not_false_eq_true, Int.reduceEq, Nat.reduceEqDiff, Nat.reduceLeDiff, rGcd, V.ty.injEq, eq_self, List.not_mem_nil, beq_self_eq_true, HO.lst.injEq, HO.tup.injEq, tFor_eq, iRng1, iList, iTup, nat10, tSeq, rIxA, rSetA, rIsN, rIsT, tTp, tLs, itsO_tup, itsO_lst, tyO_tup, tyO_lst, tyO_dK, tyN_non, tyN_bl, tyN_int, tyN_str, tyN_ref, tyNs_lt, isB, upd_same, upd_upd, sizeLine_eq, List.mem_cons, String.reduceBEq, String.reduceEq, Bool.or_false, Bool.or_true, Bool.and_false, Bool.false_or, Bool.and_self, Bool.false_and, Bool.not_false, Bool.not_true, List.any_cons, List.any_nil, atI_0, setI_0, atI_1, setI_1, atI_2, setI_2, atI_3, setI_3, atI_4, setI_4, atI_5, setI_5, atI_6, setI_6, tAsg, gName, tOp, tUn, tVar, tC, tCons, L2.tNil, tRet, tIfS, tTest, tCB, tCall, rI, rI0, rU, tNext, tB, tAnd, tOr, tNot, tAndV, tOrV, tNotV, tDrop, tIf, tPar, gSub, rIxL, rIxT, rEq, rNe, rSetL, tBits,
    L2.start, List.map_cons, List.map_nil, List.cons_append, List.nil_append, List.append_nil, List.length_cons, List.length_nil, List.replicate, Nat.reduceAdd, Nat.reduceSub, Nat.zero_add, List.getElem?_cons_zero, List.getElem?_cons_succ, List.set_cons_zero, List.set_cons_succ,
    Option.some.injEq, exists_eq_left', exists_eq_left, V.int.injEq, V.bl.injEq, V.ref.injEq, V.str.injEq, List.cons.injEq, reduceCtorEq, and_true, true_and, false_and, and_false, exists_false, or_false, false_or, or_true, true_or, exists_const, CMul, CDiv, CPow, and_assoc, exists_and_left, exists_and_right, Int.reducePow, Int.reduceNeg, Int.reduceLT, Int.reduceLE, Nat.reducePow, Nat.reduceLT, Int.reduceToNat, gt_iff_lt, ge_iff_le, decide_eq_true_eq, Bool.not_eq_true', decide_eq_false_iff_not, scal, ↓reduceIte, Bool.false_eq_true]
  refine ⟨_, rfl, Tyd.fr hq.o, _, by rw [frOk_fr hq.o hq.nf], ?_⟩
  simp only [hq.o, abs_if, cx_K, decide_true, decide_false, reduceCtorEq, gTp, gCons, gNil, ca_0, ca_1, ca_2, ca_3, ca_4, ca_5, ca_6, ca_7, ca_8, ca_9, ca_10, ca_11, ca_12, ca_13, ca_14, ca_15, ca_16, ca_17, ca_18, ca_19, ca_20, ca_21, ca_22, ca_23, ca_24, ca_25, ca_26, ca_27, ca_28, ca_29, ca_30, not_true_eq_false, not_false_eq_true, Int.reduceEq, Nat.reduceEqDiff, Nat.reduceLeDiff, rGcd, V.ty.injEq, eq_self, List.not_mem_nil, beq_self_eq_true, HO.lst.injEq, HO.tup.injEq, tFor_eq, iRng1, iList, iTup, nat10, tSeq, rIxA, rSetA, rIsN, rIsT, tTp, tLs, itsO_tup, itsO_lst, tyO_tup, tyO_lst, tyO_dK, tyN_non, tyN_bl, tyN_int, tyN_str, tyN_ref, tyNs_lt, isB, upd_same, upd_upd, sizeLine_eq, List.mem_cons, String.reduceBEq, String.reduceEq, Bool.or_false, Bool.or_true, Bool.and_false, Bool.false_or, Bool.and_self, Bool.false_and, Bool.not_false, Bool.not_true, List.any_cons, List.any_nil, atI_0, setI_0, atI_1, setI_1, atI_2, setI_2, atI_3, setI_3, atI_4, setI_4, atI_5, setI_5, atI_6, setI_6, tAsg, gName, tOp, tUn, tVar, tC, tCons, L2.tNil, tRet, tIfS, tTest, tCB, tCall, rI, rI0, rU, tNext, tB, tAnd, tOr, tNot, tAndV, tOrV, tNotV, tDrop, tIf, tPar, gSub, rIxL, rIxT, rEq, rNe, rSetL, tBits,
    L2.start, List.map_cons, List.map_nil, List.cons_append, List.nil_append, List.append_nil, List.length_cons, List.length_nil, List.replicate, Nat.reduceAdd, Nat.reduceSub, Nat.zero_add, List.getElem?_cons_zero, List.getElem?_cons_succ, List.set_cons_zero, List.set_cons_succ,
    Option.some.injEq, exists_eq_left', exists_eq_left, V.int.injEq, V.bl.injEq, V.ref.injEq, V.str.injEq, List.cons.injEq, reduceCtorEq, and_true, true_and, false_and, and_false, exists_false, or_false, false_or, or_true, true_or, exists_const, CMul, CDiv, CPow, and_assoc, exists_and_left, exists_and_right, Int.reducePow, Int.reduceNeg, Int.reduceLT, Int.reduceLE, Nat.reducePow, Nat.reduceLT, Int.reduceToNat, gt_iff_lt, ge_iff_le, decide_eq_true_eq, Bool.not_eq_true', decide_eq_false_iff_not, scal, ↓reduceIte, Bool.false_eq_true]
  exact fun p hp kp => k.new hp kp
abbrev sLOffset : Stmt := topS 55
theorem scLOffset : FnScope ["_law_value", "_law_top"] ["_law_value"] (defScope sLOffset) := ⟨rfl, rfl, rfl, by decide +kernel, rfl, by decide +kernel, by decide +kernel⟩
theorem k_LOffset (T : Bt K mg) (D : Dfn K mg "_law_offset" sLOffset ["_law_value"]) (d__law_lowest : Kn P w K mg base 2 "_law_lowest" ["_law_top", "_law_bottom"] (spLowest K)) : Kn P w K mg base 3 "_law_offset" ["_law_value"] (spUn K off) := by
  refine Kn.mk' D scLOffset (fun vs H Q E h => ?_) (fun f cdv A outer s H vs Q E hr h => ?_)
  · obtain ⟨a, q, rfl, _⟩ := h
    rfl
  obtain ⟨a, q, rfl, hq, k⟩ := h
  refine ⟨_, (pss_cons (ps_set (i := 1) scLOffset.nd rfl (.inl rfl) (pe_op op_modN (pe_callTy call_int1 (by rfl) T.b_int (by decide +kernel) (pa_cons (pe_ix ix_any (pv 0) pe_int (fun _ _ => rfl)) pa_nil)) (pe_ix ix_any (pv 0) pe_int (fun _ _ => rfl))))
      (pss_cons (ps_if (pt_cmpR op_gt (pe_op op_mul pe_int (pv 1)) (pe_ix ix_any (pv 0) pe_int (fun _ _ => rfl)) (nomark _)) (pss_one (ps_set (i := 1) scLOffset.nd rfl (.inl rfl) (pe_op op_sub (pv 1) (pe_ix ix_any (pv 0) pe_int (fun _ _ => rfl))))) pss_nil)
      (pss_one (ps_ret (pe_kn d__law_lowest hr (by rfl) (pa_cons (pv 1) (pa_cons (pe_ix ix_any (pv 0) pe_int (fun _ _ => rfl)) pa_nil))))))), ?_⟩
  have fm : q.1.fmod q.2 = q.1 % q.2 := Int.fmod_eq_emod_of_nonneg _ (by have := hq.nf.1; omega)
  simp only [hq.o, fm, cx_K, decide_true, decide_false, reduceCtorEq, gTp, gCons, gNil, ca_0, ca_1, ca_2, ca_3, ca_4, ca_5, ca_6, ca_7, ca_8, ca_9, ca_10, ca_11, ca_12, ca_13, ca_14, ca_15, ca_16, ca_17, ca_18, ca_19, ca_20, ca_21, ca_22, ca_23, ca_24, ca_25, ca_26, ca_27, ca_28, ca_29, ca_30, not_true_eq_false, not_false_eq_true, Int.reduceEq, Nat.reduceEqDiff, Nat.reduceLeDiff, rGcd, V.ty.injEq, eq_self, List.not_mem_nil, beq_self_eq_true, HO.lst.injEq, HO.tup.injEq, tFor_eq, iRng1, iList, iTup, nat10, tSeq, rIxA, rSetA, rIsN, rIsT, tTp, tLs, itsO_tup, itsO_lst, tyO_tup, tyO_lst, tyO_dK, tyN_non, tyN_bl, tyN_int, tyN_str, tyN_ref, tyNs_lt, isB, upd_same, upd_upd, sizeLine_eq, List.mem_cons, String.reduceBEq, String.reduceEq, Bool.or_false, Bool.or_true, Bool.and_false, Bool.false_or, Bool.and_self, Bool.false_and, Bool.not_false, Bool.not_true, List.any_cons, List.any_nil, atI_0, setI_0, atI_1, setI_1, atI_2, setI_2, atI_3, setI_3, atI_4, setI_4, atI_5, setI_5, atI_6, setI_6, tAsg, gName, tOp, tUn, tVar, tC, tCons, L2.tNil, tRet, tIfS, tTest, tCB, tCall, rI, rI0, rU, tNext, tB, tAnd, tOr, tNot, tAndV, tOrV, tNotV, tDrop, tIf, tPar, gSub, rIxL, rIxT, rEq, rNe, rSetL, tBits,
    L2.start, List.map_cons, List.map_nil, List.cons_append, List.nil_append, List.append_nil, List.length_cons, List.length_nil, List.replicate, Nat.reduceAdd, Nat.reduceSub, Nat.zero_add, List.getElem?_cons_zero, List.getElem?_cons_succ, List.set_cons_zero, List.set_cons_succ,
    Option.some.injEq, exists_eq_left', exists_eq_left, V.int.injEq, V.bl.injEq, V.ref.injEq, V.str.injEq, List.cons.injEq, reduceCtorEq, and_true, true_and, false_and, and_false, exists_false, or_false, false_or, or_true, true_or, exists_const, CMul, CDiv, CPow, and_assoc, exists_and_left, exists_and_right, Int.reducePow, Int.reduceNeg, Int.reduceLT, Int.reduceLE, Nat.reducePow, Nat.reduceLT, Int.reduceToNat, gt_iff_lt, ge_iff_le, decide_eq_true_eq, Bool.not_eq_true', decide_eq_false_iff_not, scal, ↓reduceIte, Bool.false_eq_true]
  refine ⟨hq.nf.ne, ite2 (fun h => ?_) (fun h => ?_)⟩
  · have e : off q = (q.1 % q.2 - q.2, q.2) := by unfold off; rw [if_pos h]
    refine ⟨_, _, rfl, hq.sz.2, fun z hz => ?_⟩
    have nn := nf_off hq.nf
    rw [e] at nn k
    rw [is_unique hq.nf.ne (hz.2 hq.nf.ne) (is_self nn)]
    exact k
  · have e : off q = (q.1 % q.2, q.2) := by unfold off; rw [if_neg h]
    refine ⟨_, _, rfl, hq.sz.2, fun z hz => ?_⟩
    have nn := nf_off hq.nf
    rw [e] at nn k
    rw [is_unique hq.nf.ne (hz.2 hq.nf.ne) (is_self nn)]
    exact k
def spLFracs (K : PySem.W.Frag) : Sp := fun vs H Q _ => ∃ (l : Addr) (xs : List V), vs = [.ref l] ∧ H l = some (.lst xs) ∧ K.lookup l = none ∧ (∀ x ∈ xs, ∃ a q, x = .ref a ∧ Fq K H 8000 a q) ∧ Q (.bl true) H
def FracsI (l : Addr) (H : Hp) (_ : Nat) (σ : L2.St) (H' : Hp) : Prop := ∃ y, σ = [some (.ref l), y] ∧ H' = H
def spLeaves (K : PySem.W.Frag) : Sp := fun vs H Q _ => ∃ (a b : Addr) (p q : Qt), vs = [.ref a, .ref b] ∧ Fq K H 8000 a p ∧ Fq K H 8000 b q ∧ Q (.bl (decide (q.2 = p.2) && decide ((p.1 - q.1) % p.2 = 0))) H
abbrev sNegated : Stmt := topS 29
theorem scNegated : FnScope ["value"] ["value"] (defScope sNegated) := ⟨rfl, rfl, rfl, by decide +kernel, rfl, by decide +kernel, by decide +kernel⟩
theorem k_Negated (T : Bt K mg) (D : Dfn K mg "negated" sNegated ["value"]) (d_require : Kn P w K mg base 1 "require" ["well_formed", "what"] spRequire) (d_is_fraction : Kn P w K mg base 2 "is_fraction" ["value"] (spIsFraction K)) : Kn P w K mg base 3 "negated" ["value"] (spUn K fun q => (-q.1, q.2)) := by
  refine Kn.mk' D scNegated (fun vs H Q E h => ?_) (fun f cdv A outer s H vs Q E hr h => ?_)
  · obtain ⟨a, q, rfl, _⟩ := h
    rfl
  obtain ⟨a, q, rfl, hq, k⟩ := h
  refine ⟨_, (pss_cons (ps_expr (pe_kn d_require hr (by rfl) (pa_cons (pe_kn d_is_fraction hr (by rfl) (pa_cons (pv 0) pa_nil)) (pa_cons pe_str pa_nil))))
      (pss_one (ps_ret (pe_tp (pa_cons (pe_un un_neg (pe_ix ix_any (pv 0) pe_int (fun _ _ => rfl))) (pa_cons (pe_ix ix_any (pv 0) pe_int (fun _ _ => rfl)) pa_nil)))))), ?_⟩
  simp only [cx_K, decide_true, decide_false, reduceCtorEq, gTp, gCons, gNil, ca_0, ca_1, ca_2, ca_3, ca_4, ca_5, ca_6, ca_7, ca_8, ca_9, ca_10, ca_11, ca_12, ca_13, ca_14, ca_15, ca_16, ca_17, ca_18, ca_19, ca_20, ca_21, ca_22, ca_23, ca_24, ca_25, ca_26, ca_27, ca_28, ca_29, ca_30, not_true_eq_false, not_false_eq_true, Int.reduceEq, Nat.reduceEqDiff, Nat.reduceLeDiff, rGcd, V.ty.injEq, eq_self, List.not_mem_nil, beq_self_eq_true, HO.lst.injEq, HO.tup.injEq, tFor_eq, iRng1, iList, iTup, nat10, tSeq, rIxA, rSetA, rIsN, rIsT, tTp, tLs, itsO_tup, itsO_lst, tyO_tup, tyO_lst, tyO_dK, tyN_non, tyN_bl, tyN_int, tyN_str, tyN_ref, tyNs_lt, isB, upd_same, upd_upd, sizeLine_eq, List.mem_cons, String.reduceBEq, String.reduceEq, Bool.or_false, Bool.or_true, Bool.and_false, Bool.false_or, Bool.and_self, Bool.false_and, Bool.not_false, Bool.not_true, List.any_cons, List.any_nil, atI_0, setI_0, atI_1, setI_1, atI_2, setI_2, atI_3, setI_3, atI_4, setI_4, atI_5, setI_5, atI_6, setI_6, tAsg, gName, tOp, tUn, tVar, tC, tCons, L2.tNil, tRet, tIfS, tTest, tCB, tCall, rI, rI0, rU, tNext, tB, tAnd, tOr, tNot, tAndV, tOrV, tNotV, tDrop, tIf, tPar, gSub, rIxL, rIxT, rEq, rNe, rSetL, tBits,
    L2.start, List.map_cons, List.map_nil, List.cons_append, List.nil_append, List.append_nil, List.length_cons, List.length_nil, List.replicate, Nat.reduceAdd, Nat.reduceSub, Nat.zero_add, List.getElem?_cons_zero, List.getElem?_cons_succ, List.set_cons_zero, List.set_cons_succ,
    Option.some.injEq, exists_eq_left', exists_eq_left, V.int.injEq, V.bl.injEq, V.ref.injEq, V.str.injEq, List.cons.injEq, reduceCtorEq, and_true, true_and, false_and, and_false, exists_false, or_false, false_or, or_true, true_or, exists_const, CMul, CDiv, CPow, and_assoc, exists_and_left, exists_and_right, Int.reducePow, Int.reduceNeg, Int.reduceLT, Int.reduceLE, Nat.reducePow, Nat.reduceLT, Int.reduceToNat, gt_iff_lt, ge_iff_le, decide_eq_true_eq, Bool.not_eq_true', decide_eq_false_iff_not, scal, ↓reduceIte, Bool.false_eq_true]
  refine ⟨_, rfl, Tyd.fr hq.o, _, by rw [frOk_fr hq.o hq.nf], ?_⟩
  simp only [hq.o, cx_K, decide_true, decide_false, reduceCtorEq, gTp, gCons, gNil, ca_0, ca_1, ca_2, ca_3, ca_4, ca_5, ca_6, ca_7, ca_8, ca_9, ca_10, ca_11, ca_12, ca_13, ca_14, ca_15, ca_16, ca_17, ca_18, ca_19, ca_20, ca_21, ca_22, ca_23, ca_24, ca_25, ca_26, ca_27, ca_28, ca_29, ca_30, not_true_eq_false, not_false_eq_true, Int.reduceEq, Nat.reduceEqDiff, Nat.reduceLeDiff, rGcd, V.ty.injEq, eq_self, List.not_mem_nil, beq_self_eq_true, HO.lst.injEq, HO.tup.injEq, tFor_eq, iRng1, iList, iTup, nat10, tSeq, rIxA, rSetA, rIsN, rIsT, tTp, tLs, itsO_tup, itsO_lst, tyO_tup, tyO_lst, tyO_dK, tyN_non, tyN_bl, tyN_int, tyN_str, tyN_ref, tyNs_lt, isB, upd_same, upd_upd, sizeLine_eq, List.mem_cons, String.reduceBEq, String.reduceEq, Bool.or_false, Bool.or_true, Bool.and_false, Bool.false_or, Bool.and_self, Bool.false_and, Bool.not_false, Bool.not_true, List.any_cons, List.any_nil, atI_0, setI_0, atI_1, setI_1, atI_2, setI_2, atI_3, setI_3, atI_4, setI_4, atI_5, setI_5, atI_6, setI_6, tAsg, gName, tOp, tUn, tVar, tC, tCons, L2.tNil, tRet, tIfS, tTest, tCB, tCall, rI, rI0, rU, tNext, tB, tAnd, tOr, tNot, tAndV, tOrV, tNotV, tDrop, tIf, tPar, gSub, rIxL, rIxT, rEq, rNe, rSetL, tBits,
    L2.start, List.map_cons, List.map_nil, List.cons_append, List.nil_append, List.append_nil, List.length_cons, List.length_nil, List.replicate, Nat.reduceAdd, Nat.reduceSub, Nat.zero_add, List.getElem?_cons_zero, List.getElem?_cons_succ, List.set_cons_zero, List.set_cons_succ,
    Option.some.injEq, exists_eq_left', exists_eq_left, V.int.injEq, V.bl.injEq, V.ref.injEq, V.str.injEq, List.cons.injEq, reduceCtorEq, and_true, true_and, false_and, and_false, exists_false, or_false, false_or, or_true, true_or, exists_const, CMul, CDiv, CPow, and_assoc, exists_and_left, exists_and_right, Int.reducePow, Int.reduceNeg, Int.reduceLT, Int.reduceLE, Nat.reducePow, Nat.reduceLT, Int.reduceToNat, gt_iff_lt, ge_iff_le, decide_eq_true_eq, Bool.not_eq_true', decide_eq_false_iff_not, scal, ↓reduceIte, Bool.false_eq_true]
  exact fun p hp kp => k.new hp kp
theorem frOk_inv {H : Hp} {v : V} (h : frOk K H v = true) : ∃ a q, v = .ref a ∧ ob K H a = some (.tup [.int q.1, .int q.2]) ∧ Nf q := by
  cases v with
  | ref a =>
    simp only [frOk] at h
    split at h
    · rename_i n d hz
      simp only [Bool.and_eq_true, decide_eq_true_eq] at h
      exact ⟨_, (n, d), rfl, hz, h.1, h.2⟩
    · cases h
  | _ => cases h
/-- a place: a fraction of 0 or more, less than 1 -/
def plOk (K : PySem.W.Frag) (H : Hp) (v : V) : Bool := frOk K H v && match v with
  | .ref a => match ob K H a with
    | some (.tup [.int n, .int d]) => decide (0 ≤ n) && decide (n < d)
    | _ => false
  | _ => false
theorem plOk_no {H : Hp} {v : V} (h : frOk K H v = false) : plOk K H v = false := by unfold plOk; rw [h]; rfl
theorem plOk_fr {H : Hp} {a : Addr} {q : Qt} (h : ob K H a = some (.tup [.int q.1, .int q.2])) (hn : Nf q) : plOk K H (.ref a) = (decide (0 ≤ q.1) && decide (q.1 < q.2)) := by
  have e := frOk_fr (K := K) h hn
  unfold plOk
  rw [e]
  simp only [h, Bool.true_and]
def spIsPlace (K : PySem.W.Frag) : Sp := fun vs H Q _ => ∃ v, vs = [v] ∧ Tyd K H v ∧ Q (.bl (plOk K H v)) H
abbrev sIsPlace : Stmt := topS 24
theorem scIsPlace : FnScope ["value"] ["value"] (defScope sIsPlace) := ⟨rfl, rfl, rfl, by decide +kernel, rfl, by decide +kernel, by decide +kernel⟩
theorem k_IsPlace (T : Bt K mg) (D : Dfn K mg "is_place" sIsPlace ["value"]) (d_is_fraction : Kn P w K mg base 2 "is_fraction" ["value"] (spIsFraction K)) : Kn P w K mg base 3 "is_place" ["value"] (spIsPlace K) := by
  refine Kn.mk' D scIsPlace (fun vs H Q E h => ?_) (fun f cdv A outer s H vs Q E hr h => ?_)
  · obtain ⟨v, rfl, _⟩ := h
    rfl
  obtain ⟨v, rfl, hv, q⟩ := h
  refine ⟨_, (pss_one (ps_ret (pe_and (pe_kn d_is_fraction hr (by rfl) (pa_cons (pv 0) pa_nil)) (pe_one (pe_chain op_le op_lt pe_int (pe_ix ix_any (pv 0) pe_int (fun _ _ => rfl)) (pe_ix ix_any (pv 0) pe_int (fun _ _ => rfl))))))), ?_⟩
  refine ⟨_, rfl, v, rfl, hv, ?_⟩
  cases e : frOk K H v with
  | false =>
    rw [plOk_no e] at q
    exact ⟨false, rfl, q⟩
  | true =>
    obtain ⟨a, z, rfl, ho, hn⟩ := frOk_inv e
    rw [plOk_fr ho hn] at q
    refine ⟨true, rfl, ?_⟩
    rw [if_pos rfl]
    simp only [ho, tChain, cx_K, decide_true, decide_false, reduceCtorEq, gTp, gCons, gNil, ca_0, ca_1, ca_2, ca_3, ca_4, ca_5, ca_6, ca_7, ca_8, ca_9, ca_10, ca_11, ca_12, ca_13, ca_14, ca_15, ca_16, ca_17, ca_18, ca_19, ca_20, ca_21, ca_22, ca_23, ca_24, ca_25, ca_26, ca_27, ca_28, ca_29, ca_30, not_true_eq_false, not_false_eq_true, Int.reduceEq, Nat.reduceEqDiff, Nat.reduceLeDiff, rGcd, V.ty.injEq, eq_self, List.not_mem_nil, beq_self_eq_true, HO.lst.injEq, HO.tup.injEq, tFor_eq, iRng1, iList, iTup, nat10, tSeq, rIxA, rSetA, rIsN, rIsT, tTp, tLs, itsO_tup, itsO_lst, tyO_tup, tyO_lst, tyO_dK, tyN_non, tyN_bl, tyN_int, tyN_str, tyN_ref, tyNs_lt, isB, upd_same, upd_upd, sizeLine_eq, List.mem_cons, String.reduceBEq, String.reduceEq, Bool.or_false, Bool.or_true, Bool.and_false, Bool.false_or, Bool.and_self, Bool.false_and, Bool.not_false, Bool.not_true, List.any_cons, List.any_nil, atI_0, setI_0, atI_1, setI_1, atI_2, setI_2, atI_3, setI_3, atI_4, setI_4, atI_5, setI_5, atI_6, setI_6, tAsg, gName, tOp, tUn, tVar, tC, tCons, L2.tNil, tRet, tIfS, tTest, tCB, tCall, rI, rI0, rU, tNext, tB, tAnd, tOr, tNot, tAndV, tOrV, tNotV, tDrop, tIf, tPar, gSub, rIxL, rIxT, rEq, rNe, rSetL, tBits,
    L2.start, List.map_cons, List.map_nil, List.cons_append, List.nil_append, List.append_nil, List.length_cons, List.length_nil, List.replicate, Nat.reduceAdd, Nat.reduceSub, Nat.zero_add, List.getElem?_cons_zero, List.getElem?_cons_succ, List.set_cons_zero, List.set_cons_succ,
    Option.some.injEq, exists_eq_left', exists_eq_left, V.int.injEq, V.bl.injEq, V.ref.injEq, V.str.injEq, List.cons.injEq, reduceCtorEq, and_true, true_and, false_and, and_false, exists_false, or_false, false_or, or_true, true_or, exists_const, CMul, CDiv, CPow, and_assoc, exists_and_left, exists_and_right, Int.reducePow, Int.reduceNeg, Int.reduceLT, Int.reduceLE, Nat.reducePow, Nat.reduceLT, Int.reduceToNat, gt_iff_lt, ge_iff_le, decide_eq_true_eq, Bool.not_eq_true', decide_eq_false_iff_not, scal, ↓reduceIte, Bool.false_eq_true]
    refine ite2 (fun h => ?_) (fun h => ?_)
    · rw [decide_eq_true h, Bool.true_and] at q
      exact q
    · rw [decide_eq_false h, Bool.false_and] at q
      exact q
def spLPlace (K : PySem.W.Frag) : Sp := fun vs H Q _ => ∃ (a : Addr) (q : Qt), vs = [.ref a] ∧ Fq K H 8000 a q ∧ 0 ≤ q.1 ∧ q.1 < q.2 ∧ Q (.bl true) H
end
end My

namespace My
open PySem PySem.Spec PyProof.Rows L2
section
variable {P : Program} {w : World} {K : PySem.W.Frag} {mg : Str → Option Value} {base : Heap}
/-- an int that the draws gave; all but the store stands -/
def spPick (K : PySem.W.Frag) : Sp := fun vs H Q _ => ∃ (s r : Addr) (xs : List V), vs = [.ref s, .ref r] ∧ Sto K H s ∧ H r = some (.lst xs) ∧ s ≠ r ∧ 0 < xs.length ∧ xs.length < 1000 ∧ ∀ x H', x ∈ xs → Kp s H H' → Sto K H' s → Q x H'
theorem at_mem {α : Type} {xs : List α} {i : Int} (h0 : 0 ≤ i) (h : i < (xs.length : Int)) : ∃ v ∈ xs, atI xs i = some v := by
  have hk : i.toNat < xs.length := by omega
  have q : atI xs ((i.toNat : Nat) : Int) = some xs[i.toNat] := atI_nat (List.getElem?_eq_getElem hk)
  rw [show ((i.toNat : Nat) : Int) = i by omega] at q
  exact ⟨_, List.getElem_mem hk, q⟩
theorem Sto.at {H : Hp} {s : Addr} (h : Sto K H s) : ∃ ys, H s = some (.lst ys) := by
  obtain ⟨sc, ns, i, b, c, d, e, f, h⟩ := h
  exact ⟨_, h.1⟩
theorem Kp.at {s : Addr} {H H' : Hp} {r : Addr} {o : HO} (e : Kp s H H') (n : s ≠ r) (h : H r = some o) : H' r = some o := e _ _ (Ne.symm n) h
abbrev sPick : Stmt := topS 49
theorem scPick : FnScope ["_law_store_here", "_law_row"] ["_law_store_here", "_law_row"] (defScope sPick) := ⟨rfl, rfl, rfl, by decide +kernel, rfl, by decide +kernel, by decide +kernel⟩
theorem k_Pick (T : Bt K mg) (D : Dfn K mg "_law_pick" sPick ["_law_store_here", "_law_row"]) (d__law_take : Kn P w K mg base 2 "_law_take" ["_law_store_here", "_law_many"] (spTake K)) : Kn P w K mg base 3 "_law_pick" ["_law_store_here", "_law_row"] (spPick K) := by
  refine Kn.mk' D scPick (fun vs H Q E h => ?_) (fun f cdv A outer s H vs Q E hr h => ?_)
  · obtain ⟨s, r, xs, rfl, _⟩ := h
    rfl
  obtain ⟨s, r, xs, rfl, hS, hr', ne, hl0, hl1, k⟩ := h
  refine ⟨_, (pss_one (ps_ret (pe_ix ix_list (pv 1) (pe_kn d__law_take hr (by rfl) (pa_cons (pv 0) (pa_cons (pe_callB call_len_seq (by rfl) T.b_len PySem.boot_len (pa_cons (pv 1) pa_nil)) pa_nil))) (fun _ _ => rfl)))), ?_⟩
  simp only [cx_K, decide_true, decide_false, reduceCtorEq, gTp, gCons, gNil, ca_0, ca_1, ca_2, ca_3, ca_4, ca_5, ca_6, ca_7, ca_8, ca_9, ca_10, ca_11, ca_12, ca_13, ca_14, ca_15, ca_16, ca_17, ca_18, ca_19, ca_20, ca_21, ca_22, ca_23, ca_24, ca_25, ca_26, ca_27, ca_28, ca_29, ca_30, not_true_eq_false, not_false_eq_true, Int.reduceEq, Nat.reduceEqDiff, Nat.reduceLeDiff, rGcd, V.ty.injEq, eq_self, List.not_mem_nil, beq_self_eq_true, HO.lst.injEq, HO.tup.injEq, tFor_eq, iRng1, iList, iTup, nat10, tSeq, rIxA, rSetA, rIsN, rIsT, tTp, tLs, itsO_tup, itsO_lst, tyO_tup, tyO_lst, tyO_dK, tyN_non, tyN_bl, tyN_int, tyN_str, tyN_ref, tyNs_lt, isB, upd_same, upd_upd, sizeLine_eq, List.mem_cons, String.reduceBEq, String.reduceEq, Bool.or_false, Bool.or_true, Bool.and_false, Bool.false_or, Bool.and_self, Bool.false_and, Bool.not_false, Bool.not_true, List.any_cons, List.any_nil, atI_0, setI_0, atI_1, setI_1, atI_2, setI_2, atI_3, setI_3, atI_4, setI_4, atI_5, setI_5, atI_6, setI_6, tAsg, gName, tOp, tUn, tVar, tC, tCons, L2.tNil, tRet, tIfS, tTest, tCB, tCall, rI, rI0, rU, tNext, tB, tAnd, tOr, tNot, tAndV, tOrV, tNotV, tDrop, tIf, tPar, gSub, rIxL, rIxT, rEq, rNe, rSetL, tBits,
    L2.start, List.map_cons, List.map_nil, List.cons_append, List.nil_append, List.append_nil, List.length_cons, List.length_nil, List.replicate, Nat.reduceAdd, Nat.reduceSub, Nat.zero_add, List.getElem?_cons_zero, List.getElem?_cons_succ, List.set_cons_zero, List.set_cons_succ,
    Option.some.injEq, exists_eq_left', exists_eq_left, V.int.injEq, V.bl.injEq, V.ref.injEq, V.str.injEq, List.cons.injEq, reduceCtorEq, and_true, true_and, false_and, and_false, exists_false, or_false, false_or, or_true, true_or, exists_const, CMul, CDiv, CPow, and_assoc, exists_and_left, exists_and_right, Int.reducePow, Int.reduceNeg, Int.reduceLT, Int.reduceLE, Nat.reducePow, Nat.reduceLT, Int.reduceToNat, gt_iff_lt, ge_iff_le, decide_eq_true_eq, Bool.not_eq_true', decide_eq_false_iff_not, scal, ↓reduceIte, Bool.false_eq_true]
  refine ⟨xs, .inl (.of hr'), s, _, rfl, hS, by omega, fun i H' h0 h1 kp st => ?_⟩
  obtain ⟨v, hv, e⟩ := at_mem (xs := xs) (i := i) h0 (by omega)
  exact ⟨xs, i, rfl, .of (kp.at ne hr'), v, e, k v H' hv kp st⟩
def spInt (K : PySem.W.Frag) (R : Int → Prop) : Sp := fun vs H Q _ => ∃ (s : Addr), vs = [.ref s] ∧ Sto K H s ∧ ∀ n H', R n → Kp s H H' → Sto K H' s → Q (.int n) H'
def spLInt (K : PySem.W.Frag) : Sp := fun vs H Q _ => ∃ (s : Addr) (r : Int), vs = [.ref s, .int r] ∧ Sto K H s ∧ 1 ≤ r ∧ r < 2 ^ 190 ∧ ∀ n H', -r ≤ n → n ≤ r → Kp s H H' → Sto K H' s → Q (.int n) H'
theorem menu {xs : List V} {i : Int} {R : V → Prop} (h0 : 0 ≤ i) (h : i < (xs.length : Int)) (k : ∀ v ∈ xs, R v) : ∃ v, atI xs i = some v ∧ R v := by
  obtain ⟨v, hv, e⟩ := at_mem h0 h
  exact ⟨v, e, k v hv⟩
def GreatI (s : Addr) (spot : Int) (H1 : Hp) (_ : Nat) (σ : L2.St) (H' : Hp) : Prop := ∃ v y, σ = [some (.ref s), some (.int spot), some (.int v), y] ∧ H' = H1 ∧ 0 ≤ v ∧ v < 2 ^ 133
def spDFrac (K : PySem.W.Frag) (n : Nat) : Sp := fun vs H Q _ => ∃ (s : Addr), vs = [.ref s] ∧ Sto K H s ∧ ∀ a q H', Fq K H' n a q → Kp s H H' → Sto K H' s → Q (.ref a) H'
theorem nf01 : Nf (0, 1) := ⟨by decide, by decide⟩
theorem nf11 : Nf (1, 1) := ⟨by decide, by decide⟩
theorem nfm1 : Nf (-1, 1) := ⟨by decide, by decide⟩
theorem nf12 : Nf (1, 2) := ⟨by decide, by decide⟩
theorem nfm2 : Nf (-1, 2) := ⟨by decide, by decide⟩
theorem sz10 {x y : Int} (h1 : x.natAbs < 1024) (h2 : y.natAbs < 1024) : Sz 10 (x, y) := ⟨by show x.natAbs < _; omega, by show y.natAbs < _; omega⟩
/-- the script, read alone -/
def spStore (K : PySem.W.Frag) : Sp := fun vs H Q _ => ∃ (a : Addr) (ns : List Int), vs = [.ref a] ∧ SqL K H a (ns.map V.int) ∧ ∀ s H', Same H H' → Sto K H' s → Q (.ref s) H'
def StoreI (a : Addr) (H : Hp) (_ : Nat) (σ : L2.St) (H' : Hp) : Prop := ∃ (v : Int) (y : Option V), σ = [some (.ref a), some (.int v), y] ∧ H' = H
abbrev sStore : Stmt := topS 47
theorem scStore : FnScope ["_law_script", "_law_seed", "_law_cell"] ["_law_script"] (defScope sStore) := ⟨rfl, rfl, rfl, by decide +kernel, rfl, by decide +kernel, by decide +kernel⟩
theorem k_Store (T : Bt K mg) (D : Dfn K mg "_law_store" sStore ["_law_script"]) : Kn P w K mg base 1 "_law_store" ["_law_script"] (spStore K) := by
  refine Kn.mk' D scStore (fun vs H Q E h => ?_) (fun f cdv A outer s H vs Q E hr h => ?_)
  · obtain ⟨a, ns, rfl, _⟩ := h
    rfl
  obtain ⟨a, ns, rfl, hS, k⟩ := h
  refine ⟨_, (pss_cons (ps_set (i := 1) scStore.nd rfl (.inl rfl) (pe_op op_add (pe_callB call_len_seq (by rfl) T.b_len PySem.boot_len (pa_cons (pv 0) pa_nil)) pe_int))
      (pss_cons (ps_for PassesOwn.never rfl (pi_list (pv 0)) (pg_name (i := 2) scStore.nd rfl (.inl rfl)) (pss_one (ps_set (i := 1) scStore.nd rfl (.inl rfl) (pe_op op_mod (pe_op op_add (pe_op op_add (pe_op op_mul (pv 1) pe_int) (pe_op op_mod (pe_callTy call_int1 (by rfl) T.b_int (by decide +kernel) (pa_cons (pv 2) pa_nil)) pe_int)) pe_int) pe_int))))
      (pss_one (ps_ret (pe_ls (pa_cons (pe_callTy call_listK (by rfl) T.b_list (by decide +kernel) (pa_cons (pv 0) pa_nil)) (pa_cons pe_int (pa_cons pe_int (pa_cons pe_int (pa_cons (pv 1) (pa_cons pe_int (pa_cons pe_int pa_nil)))))))))))), ?_⟩
  simp only [cx_K, decide_true, decide_false, reduceCtorEq, gTp, gCons, gNil, ca_0, ca_1, ca_2, ca_3, ca_4, ca_5, ca_6, ca_7, ca_8, ca_9, ca_10, ca_11, ca_12, ca_13, ca_14, ca_15, ca_16, ca_17, ca_18, ca_19, ca_20, ca_21, ca_22, ca_23, ca_24, ca_25, ca_26, ca_27, ca_28, ca_29, ca_30, not_true_eq_false, not_false_eq_true, Int.reduceEq, Nat.reduceEqDiff, Nat.reduceLeDiff, rGcd, V.ty.injEq, eq_self, List.not_mem_nil, beq_self_eq_true, HO.lst.injEq, HO.tup.injEq, tFor_eq, iRng1, iList, iTup, nat10, tSeq, rIxA, rSetA, rIsN, rIsT, tTp, tLs, itsO_tup, itsO_lst, tyO_tup, tyO_lst, tyO_dK, tyN_non, tyN_bl, tyN_int, tyN_str, tyN_ref, tyNs_lt, isB, upd_same, upd_upd, sizeLine_eq, List.mem_cons, String.reduceBEq, String.reduceEq, Bool.or_false, Bool.or_true, Bool.and_false, Bool.false_or, Bool.and_self, Bool.false_and, Bool.not_false, Bool.not_true, List.any_cons, List.any_nil, atI_0, setI_0, atI_1, setI_1, atI_2, setI_2, atI_3, setI_3, atI_4, setI_4, atI_5, setI_5, atI_6, setI_6, tAsg, gName, tOp, tUn, tVar, tC, tCons, L2.tNil, tRet, tIfS, tTest, tCB, tCall, rI, rI0, rU, tNext, tB, tAnd, tOr, tNot, tAndV, tOrV, tNotV, tDrop, tIf, tPar, gSub, rIxL, rIxT, rEq, rNe, rSetL, tBits,
    L2.start, List.map_cons, List.map_nil, List.cons_append, List.nil_append, List.append_nil, List.length_cons, List.length_nil, List.replicate, Nat.reduceAdd, Nat.reduceSub, Nat.zero_add, List.getElem?_cons_zero, List.getElem?_cons_succ, List.set_cons_zero, List.set_cons_succ,
    Option.some.injEq, exists_eq_left', exists_eq_left, V.int.injEq, V.bl.injEq, V.ref.injEq, V.str.injEq, List.cons.injEq, reduceCtorEq, and_true, true_and, false_and, and_false, exists_false, or_false, false_or, or_true, true_or, exists_const, CMul, CDiv, CPow, and_assoc, exists_and_left, exists_and_right, Int.reducePow, Int.reduceNeg, Int.reduceLT, Int.reduceLE, Nat.reducePow, Nat.reduceLT, Int.reduceToNat, gt_iff_lt, ge_iff_le, decide_eq_true_eq, Bool.not_eq_true', decide_eq_false_iff_not, scal, ↓reduceIte, Bool.false_eq_true]
  refine ⟨_, .inl hS, ⟨_, hS⟩, forI_list (xs := ns.map V.int) (StoreI a H) ⟨_, none, rfl, rfl⟩ ?_ ?_ ?_⟩
  · rintro i σ H' _ ⟨v, y, rfl, rfl⟩
    exact hS
  · rintro i x σ H' hi ⟨v, y, rfl, rfl⟩
    obtain ⟨z, rfl⟩ : ∃ z, x = V.int z := by
      rw [List.getElem?_map] at hi
      cases e : ns[i]? with
      | none => rw [e] at hi; cases hi
      | some z => rw [e] at hi; exact ⟨z, (Option.some.inj hi).symm⟩
    simp only [cx_K, decide_true, decide_false, reduceCtorEq, gTp, gCons, gNil, ca_0, ca_1, ca_2, ca_3, ca_4, ca_5, ca_6, ca_7, ca_8, ca_9, ca_10, ca_11, ca_12, ca_13, ca_14, ca_15, ca_16, ca_17, ca_18, ca_19, ca_20, ca_21, ca_22, ca_23, ca_24, ca_25, ca_26, ca_27, ca_28, ca_29, ca_30, not_true_eq_false, not_false_eq_true, Int.reduceEq, Nat.reduceEqDiff, Nat.reduceLeDiff, rGcd, V.ty.injEq, eq_self, List.not_mem_nil, beq_self_eq_true, HO.lst.injEq, HO.tup.injEq, tFor_eq, iRng1, iList, iTup, nat10, tSeq, rIxA, rSetA, rIsN, rIsT, tTp, tLs, itsO_tup, itsO_lst, tyO_tup, tyO_lst, tyO_dK, tyN_non, tyN_bl, tyN_int, tyN_str, tyN_ref, tyNs_lt, isB, upd_same, upd_upd, sizeLine_eq, List.mem_cons, String.reduceBEq, String.reduceEq, Bool.or_false, Bool.or_true, Bool.and_false, Bool.false_or, Bool.and_self, Bool.false_and, Bool.not_false, Bool.not_true, List.any_cons, List.any_nil, atI_0, setI_0, atI_1, setI_1, atI_2, setI_2, atI_3, setI_3, atI_4, setI_4, atI_5, setI_5, atI_6, setI_6, tAsg, gName, tOp, tUn, tVar, tC, tCons, L2.tNil, tRet, tIfS, tTest, tCB, tCall, rI, rI0, rU, tNext, tB, tAnd, tOr, tNot, tAndV, tOrV, tNotV, tDrop, tIf, tPar, gSub, rIxL, rIxT, rEq, rNe, rSetL, tBits,
    L2.start, List.map_cons, List.map_nil, List.cons_append, List.nil_append, List.append_nil, List.length_cons, List.length_nil, List.replicate, Nat.reduceAdd, Nat.reduceSub, Nat.zero_add, List.getElem?_cons_zero, List.getElem?_cons_succ, List.set_cons_zero, List.set_cons_succ,
    Option.some.injEq, exists_eq_left', exists_eq_left, V.int.injEq, V.bl.injEq, V.ref.injEq, V.str.injEq, List.cons.injEq, reduceCtorEq, and_true, true_and, false_and, and_false, exists_false, or_false, false_or, or_true, true_or, exists_const, CMul, CDiv, CPow, and_assoc, exists_and_left, exists_and_right, Int.reducePow, Int.reduceNeg, Int.reduceLT, Int.reduceLE, Nat.reducePow, Nat.reduceLT, Int.reduceToNat, gt_iff_lt, ge_iff_le, decide_eq_true_eq, Bool.not_eq_true', decide_eq_false_iff_not, scal, ↓reduceIte, Bool.false_eq_true]
    exact ⟨_, _, rfl, rfl⟩
  · rintro σ H' ⟨v, y, rfl, rfl⟩
    simp only [cx_K, decide_true, decide_false, reduceCtorEq, gTp, gCons, gNil, ca_0, ca_1, ca_2, ca_3, ca_4, ca_5, ca_6, ca_7, ca_8, ca_9, ca_10, ca_11, ca_12, ca_13, ca_14, ca_15, ca_16, ca_17, ca_18, ca_19, ca_20, ca_21, ca_22, ca_23, ca_24, ca_25, ca_26, ca_27, ca_28, ca_29, ca_30, not_true_eq_false, not_false_eq_true, Int.reduceEq, Nat.reduceEqDiff, Nat.reduceLeDiff, rGcd, V.ty.injEq, eq_self, List.not_mem_nil, beq_self_eq_true, HO.lst.injEq, HO.tup.injEq, tFor_eq, iRng1, iList, iTup, nat10, tSeq, rIxA, rSetA, rIsN, rIsT, tTp, tLs, itsO_tup, itsO_lst, tyO_tup, tyO_lst, tyO_dK, tyN_non, tyN_bl, tyN_int, tyN_str, tyN_ref, tyNs_lt, isB, upd_same, upd_upd, sizeLine_eq, List.mem_cons, String.reduceBEq, String.reduceEq, Bool.or_false, Bool.or_true, Bool.and_false, Bool.false_or, Bool.and_self, Bool.false_and, Bool.not_false, Bool.not_true, List.any_cons, List.any_nil, atI_0, setI_0, atI_1, setI_1, atI_2, setI_2, atI_3, setI_3, atI_4, setI_4, atI_5, setI_5, atI_6, setI_6, tAsg, gName, tOp, tUn, tVar, tC, tCons, L2.tNil, tRet, tIfS, tTest, tCB, tCall, rI, rI0, rU, tNext, tB, tAnd, tOr, tNot, tAndV, tOrV, tNotV, tDrop, tIf, tPar, gSub, rIxL, rIxT, rEq, rNe, rSetL, tBits,
    L2.start, List.map_cons, List.map_nil, List.cons_append, List.nil_append, List.append_nil, List.length_cons, List.length_nil, List.replicate, Nat.reduceAdd, Nat.reduceSub, Nat.zero_add, List.getElem?_cons_zero, List.getElem?_cons_succ, List.set_cons_zero, List.set_cons_succ,
    Option.some.injEq, exists_eq_left', exists_eq_left, V.int.injEq, V.bl.injEq, V.ref.injEq, V.str.injEq, List.cons.injEq, reduceCtorEq, and_true, true_and, false_and, and_false, exists_false, or_false, false_or, or_true, true_or, exists_const, CMul, CDiv, CPow, and_assoc, exists_and_left, exists_and_right, Int.reducePow, Int.reduceNeg, Int.reduceLT, Int.reduceLE, Nat.reducePow, Nat.reduceLT, Int.reduceToNat, gt_iff_lt, ge_iff_le, decide_eq_true_eq, Bool.not_eq_true', decide_eq_false_iff_not, scal, ↓reduceIte, Bool.false_eq_true]
    refine ⟨_, .inl hS, fun l hl kl => ?_⟩
    intro s hs ks
    have s1 := Same.new hl (.lst (ns.map V.int))
    have e1 : upd H' l (.lst (ns.map V.int)) l = some (.lst (ns.map V.int)) := upd_same
    have n1 : s ≠ l := by rintro rfl; rw [upd_same] at hs; cases hs
    exact k s _ (s1.trans (Same.new hs _)) ⟨l, ns, 0, 0, 0, v, 0, 0, upd_same, by rw [upd_ne (Ne.symm n1)]; exact e1, n1, Int.le_refl 0, ks, kl⟩
end
end My

namespace My
open PySem PySem.Spec PyProof.Rows L2
section
variable {P : Program} {w : World} {K : PySem.W.Frag} {mg : Str → Option Value} {base : Heap}
/-- the same data, n levels deep at most; a dict takes two -/
def scv : V → Bool
  | .non => true
  | .bl _ => true
  | .int _ => true
  | .str _ => true
  | _ => false
theorem scv_kV (k : Key) : scv (kV k) = true := by cases k <;> rfl
def EqP (K : PySem.W.Frag) (H : Hp) : Nat → (V → V → Prop) × (V → V → Prop)
  | 0 => (fun x y => x = y ∧ scv x = true, fun _ _ => False)
  | n + 1 => (fun x y => (x = y ∧ scv x = true) ∨ (∃ (a b : Addr) (xs ys : List V), x = .ref a ∧ y = .ref b ∧ ((ob K H a = some (.tup xs) ∧ ob K H b = some (.tup ys)) ∨ (ob K H a = some (.lst xs) ∧ ob K H b = some (.lst ys))) ∧ xs.length = ys.length ∧ ys.length ≤ 1000 ∧
      ∀ (i : Nat) x y, xs[i]? = some x → ys[i]? = some y → (EqP K H n).1 x y) ∨
      (1 ≤ n ∧ ∃ (a b : Addr) (ks ls : List (Key × V)), x = .ref a ∧ y = .ref b ∧ ob K H a = some (.dK ks) ∧ ob K H b = some (.dK ls) ∧ ks.map (·.1) = ls.map (·.1) ∧ ls.length ≤ 1000 ∧ ∀ (i : Nat) p q, ks[i]? = some p → ls[i]? = some q → (EqP K H n).2 p.2 q.2), (EqP K H n).1)
def Eqv (K : PySem.W.Frag) (H : Hp) (n : Nat) (x y : V) : Prop := (EqP K H n).1 x y
theorem Eqv.same {H H' : Hp} (e : Same H H') : ∀ {n : Nat} {x y : V}, Eqv K H n x y → Eqv K H' n x y
  | 0, _, _, h => h
  | n + 1, x, y, h => by
    rcases h with h | ⟨a, b, xs, ys, h1, h2, h3, h4, h5, h6⟩ | ⟨l, a, b, ks, ls, h1, h2, h3, h4, h5, h6, h7⟩
    · exact Or.inl h
    · exact Or.inr (Or.inl ⟨a, b, xs, ys, h1, h2, h3.imp (fun z => ⟨ob_same e z.1, ob_same e z.2⟩) (fun z => ⟨ob_same e z.1, ob_same e z.2⟩), h4, h5, fun i x y hx hy => Eqv.same e (h6 i x y hx hy)⟩)
    · match n, l with
      | m + 1, l => exact Or.inr (Or.inr ⟨l, a, b, ks, ls, h1, h2, ob_same e h3, ob_same e h4, h5, h6, fun i p q hp hq => Eqv.same (n := m) e (h7 i p q hp hq)⟩)
theorem Eqv.up {H : Hp} : ∀ {n : Nat} {x y : V}, Eqv K H n x y → Eqv K H (n + 1) x y
  | 0, _, _, h => Or.inl h
  | n + 1, x, y, h => by
    rcases h with h | ⟨a, b, xs, ys, h1, h2, h3, h4, h5, h6⟩ | ⟨l, a, b, ks, ls, h1, h2, h3, h4, h5, h6, h7⟩
    · exact Or.inl h
    · exact Or.inr (Or.inl ⟨a, b, xs, ys, h1, h2, h3, h4, h5, fun i x y hx hy => Eqv.up (h6 i x y hx hy)⟩)
    · match n, l with
      | m + 1, l => exact Or.inr (Or.inr ⟨Nat.le_succ_of_le l, a, b, ks, ls, h1, h2, h3, h4, h5, h6, fun i p q hp hq => Eqv.up (n := m) (h7 i p q hp hq)⟩)
theorem Eqv.le {H : Hp} {n m : Nat} {x y : V} (h : Eqv K H n x y) (l : n ≤ m) : Eqv K H m x y := by
  induction l with
  | refl => exact h
  | step _ ih => exact ih.up
def spSame (K : PySem.W.Frag) : Nat → Sp
  | 0 => fun _ _ _ _ => False
  | n + 1 => fun vs H Q _ => ∃ x y, vs = [x, y] ∧ Eqv K H n x y ∧ ∀ H', Same H H' → Q (.bl true) H'
theorem Eqv.split {H : Hp} {n : Nat} {x y : V} (h : Eqv K H n x y) : (x = y ∧ scv x = true) ∨ (∃ m, n = m + 1 ∧ ∃ (a b : Addr) (xs ys : List V), x = .ref a ∧ y = .ref b ∧ ((ob K H a = some (.tup xs) ∧ ob K H b = some (.tup ys)) ∨ (ob K H a = some (.lst xs) ∧ ob K H b = some (.lst ys))) ∧ xs.length = ys.length ∧ ys.length ≤ 1000 ∧
    ∀ (i : Nat) x y, xs[i]? = some x → ys[i]? = some y → Eqv K H m x y) ∨ (∃ m, n = m + 2 ∧ ∃ (a b : Addr) (ks ls : List (Key × V)), x = .ref a ∧ y = .ref b ∧ ob K H a = some (.dK ks) ∧ ob K H b = some (.dK ls) ∧ ks.map (·.1) = ls.map (·.1) ∧ ls.length ≤ 1000 ∧ ∀ (i : Nat) p q, ks[i]? = some p → ls[i]? = some q → Eqv K H m p.2 q.2) := by
  match n, h with
  | 0, h => exact Or.inl h
  | n + 1, h =>
    rcases h with h | h | ⟨l, h⟩
    · exact Or.inl h
    · exact .inr (.inl ⟨n, rfl, h⟩)
    · match n, l with
      | m + 1, l => exact .inr (.inr ⟨m, rfl, h⟩)
def SameI (H : Hp) (a b : Addr) (_ : Nat) (σ : L2.St) (H' : Hp) : Prop := ∃ z, σ = [some (.ref a), some (.ref b), z] ∧ Same H H'
theorem Kn.none {x : Str} {ps : List Str} {st : Stmt} (D : Dfn K mg x st ps) : Kn P w K mg base 0 x ps (fun _ _ _ _ => False) := by
  obtain ⟨f, fd, F, m, b⟩ := D.ex
  exact ⟨f, fd, m, F.kp, b, ⟨fun vs H Q E h => h.elim, fun A outer s H args us vs Q E _ _ _ _ h => h.elim⟩⟩
abbrev sSame : Stmt := topS 58
theorem scSame : FnScope ["_law_told", "_law_due", "_law_k"] ["_law_told", "_law_due"] (defScope sSame) := ⟨rfl, rfl, rfl, by decide +kernel, rfl, by decide +kernel, by decide +kernel⟩
theorem k_Same (n : Nat) (T : Bt K mg) (D : Dfn K mg "_law_same" sSame ["_law_told", "_law_due"]) (d__law_is_whole : Kn P w K mg base 1 "_law_is_whole" ["_law_told"] (spWhole K)) (d__law_same : Kn P w K mg base (n + 1) "_law_same" ["_law_told", "_law_due"] (spSame K n)) : Kn P w K mg base (n + 2) "_law_same" ["_law_told", "_law_due"] (spSame K (n + 1)) := by
  refine Kn.mk' D scSame (fun vs H Q E h => ?_) (fun f cdv A outer s H vs Q E hr h => ?_)
  · obtain ⟨x, y, rfl, _⟩ := h
    rfl
  obtain ⟨x, y, rfl, he, k⟩ := h
  refine ⟨_, (pss_cons (ps_if (pt_cmpR op_isN (pv 1) pe_non (nomark _)) (pss_one (ps_ret (pe_cmpR op_isN (pv 0) pe_non (nomark _)))) pss_nil)
      (pss_cons (ps_if (pt_val (pe_callB call_isN (by rfl) T.b_isinstance (by decide +kernel) (pa_cons (pv 1) (pa_cons (pe_bltn (v := .ty "bool") (by rfl) T.b_bool (by decide +kernel) rfl) pa_nil)))) (pss_one (ps_ret (pe_and (pe_callB call_isN (by rfl) T.b_isinstance (by decide +kernel) (pa_cons (pv 0) (pa_cons (pe_bltn (v := .ty "bool") (by rfl) T.b_bool (by decide +kernel) rfl) pa_nil))) (pe_one (pe_cmpR op_eq (pv 0) (pv 1) (nomark _)))))) pss_nil)
      (pss_cons (ps_if (pt_val (pe_callB call_isN (by rfl) T.b_isinstance (by decide +kernel) (pa_cons (pv 1) (pa_cons (pe_bltn (v := .ty "int") (by rfl) T.b_int (by decide +kernel) rfl) pa_nil)))) (pss_one (ps_ret (pe_and (pe_kn d__law_is_whole hr (by rfl) (pa_cons (pv 0) pa_nil)) (pe_one (pe_cmpR op_eq (pv 0) (pv 1) (nomark _)))))) pss_nil)
      (pss_cons (ps_if (pt_val (pe_callB call_isN (by rfl) T.b_isinstance (by decide +kernel) (pa_cons (pv 1) (pa_cons (pe_bltn (v := .ty "str") (by rfl) T.b_str (by decide +kernel) rfl) pa_nil)))) (pss_one (ps_ret (pe_and (pe_callB call_isN (by rfl) T.b_isinstance (by decide +kernel) (pa_cons (pv 0) (pa_cons (pe_bltn (v := .ty "str") (by rfl) T.b_str (by decide +kernel) rfl) pa_nil))) (pe_one (pe_cmpR op_eq (pv 0) (pv 1) (nomark _)))))) pss_nil)
      (pss_cons (ps_if (pt_val (pe_callB call_isN (by rfl) T.b_isinstance (by decide +kernel) (pa_cons (pv 1) (pa_cons (pe_bltn (v := .ty "dict") (by rfl) T.b_dict (by decide +kernel) rfl) pa_nil)))) (pss_cons (ps_if (PW.pt (pw_or (pt_not (pt_val (pe_callB call_isN (by rfl) T.b_isinstance (by decide +kernel) (pa_cons (pv 0) (pa_cons (pe_bltn (v := .ty "dict") (by rfl) T.b_dict (by decide +kernel) rfl) pa_nil))))) (pw_or1 (pt_not (pt_val (pe_kn d__law_same hr (by rfl) (pa_cons (pe_fr (pe_callTy (call_list_dK rfl) (by rfl) T.b_list (by decide +kernel) (pa_cons (pv 0) pa_nil))) (pa_cons (pe_fr (pe_callTy (call_list_dK rfl) (by rfl) T.b_list (by decide +kernel) (pa_cons (pv 1) pa_nil))) pa_nil)))))))) (pss_one (ps_ret pe_bl)) pss_nil)
      (pss_one (ps_ret (pe_kn d__law_same hr (by rfl) (pa_cons (pe_listVals rfl (by rfl) T.b_list (pv 0)) (pa_cons (pe_listVals rfl (by rfl) T.b_list (pv 1)) pa_nil)))))) pss_nil)
      (pss_cons (ps_if (PW.pt (pw_and (pt_val (pe_callB call_isN (by rfl) T.b_isinstance (by decide +kernel) (pa_cons (pv 1) (pa_cons (pe_bltn (v := .ty "list") (by rfl) T.b_list (by decide +kernel) rfl) pa_nil)))) (pw_and1 (pt_not (pt_val (pe_callB call_isN (by rfl) T.b_isinstance (by decide +kernel) (pa_cons (pv 0) (pa_cons (pe_bltn (v := .ty "list") (by rfl) T.b_list (by decide +kernel) rfl) pa_nil)))))))) (pss_one (ps_ret pe_bl)) pss_nil)
      (pss_cons (ps_if (PW.pt (pw_and (pt_val (pe_callB call_isN (by rfl) T.b_isinstance (by decide +kernel) (pa_cons (pv 1) (pa_cons (pe_bltn (v := .ty "tuple") (by rfl) T.b_tuple (by decide +kernel) rfl) pa_nil)))) (pw_and1 (pt_not (pt_val (pe_callB call_isN (by rfl) T.b_isinstance (by decide +kernel) (pa_cons (pv 0) (pa_cons (pe_bltn (v := .ty "tuple") (by rfl) T.b_tuple (by decide +kernel) rfl) pa_nil)))))))) (pss_one (ps_ret pe_bl)) pss_nil)
      (pss_cons (ps_if (PW.pt (pw_or (pt_not (pt_val (pe_callB call_isT (by rfl) T.b_isinstance (by decide +kernel) (pa_cons (pv 1) (pa_cons (pe_tp (pa_cons (pe_bltn (v := .ty "list") (by rfl) T.b_list (by decide +kernel) rfl) (pa_cons (pe_bltn (v := .ty "tuple") (by rfl) T.b_tuple (by decide +kernel) rfl) pa_nil))) pa_nil))))) (pw_or1 (pt_cmpR op_ne (pe_callB call_lenA (by rfl) T.b_len PySem.boot_len (pa_cons (pv 0) pa_nil)) (pe_callB call_lenA (by rfl) T.b_len PySem.boot_len (pa_cons (pv 1) pa_nil)) (nomark _))))) (pss_one (ps_ret pe_bl)) pss_nil)
      (pss_cons (ps_for PassesOwn.never rfl (pi_range1 (by rfl) T.b_range (pa_cons (pe_callB call_lenA (by rfl) T.b_len PySem.boot_len (pa_cons (pv 1) pa_nil)) pa_nil)) (pg_name (i := 2) scSame.nd rfl (.inl rfl)) (pss_one (ps_if (pt_not (pt_val (pe_kn d__law_same hr (by rfl) (pa_cons (pe_ix ix_any (pv 0) (pv 2) (fun _ _ => rfl)) (pa_cons (pe_ix ix_any (pv 1) (pv 2) (fun _ _ => rfl)) pa_nil))))) (pss_one (ps_ret pe_bl)) pss_nil)))
      (pss_one (ps_ret pe_bl))))))))))), ?_⟩
  rcases he.split with ⟨rfl, hsc⟩ | ⟨m, rfl, a, b, xs, ys, rfl, rfl, ho, hl, h1000, hi⟩ | ⟨m, rfl, a, b, ks, ls, rfl, rfl, oa, oc, ek, hl, hi⟩
  · cases x with
    | non =>
      simp only [cx_K, decide_true, decide_false, reduceCtorEq, gTp, gCons, gNil, ca_0, ca_1, ca_2, ca_3, ca_4, ca_5, ca_6, ca_7, ca_8, ca_9, ca_10, ca_11, ca_12, ca_13, ca_14, ca_15, ca_16, ca_17, ca_18, ca_19, ca_20, ca_21, ca_22, ca_23, ca_24, ca_25, ca_26, ca_27, ca_28, ca_29, ca_30, not_true_eq_false, not_false_eq_true, Int.reduceEq, Nat.reduceEqDiff, Nat.reduceLeDiff, rGcd, V.ty.injEq, eq_self, List.not_mem_nil, beq_self_eq_true, HO.lst.injEq, HO.tup.injEq, tFor_eq, iRng1, iList, iTup, nat10, tSeq, rIxA, rSetA, rIsN, rIsT, tTp, tLs, itsO_tup, itsO_lst, tyO_tup, tyO_lst, tyO_dK, tyN_non, tyN_bl, tyN_int, tyN_str, tyN_ref, tyNs_lt, isB, upd_same, upd_upd, sizeLine_eq, List.mem_cons, String.reduceBEq, String.reduceEq, Bool.or_false, Bool.or_true, Bool.and_false, Bool.false_or, Bool.and_self, Bool.false_and, Bool.not_false, Bool.not_true, List.any_cons, List.any_nil, atI_0, setI_0, atI_1, setI_1, atI_2, setI_2, atI_3, setI_3, atI_4, setI_4, atI_5, setI_5, atI_6, setI_6, tAsg, gName, tOp, tUn, tVar, tC, tCons, L2.tNil, tRet, tIfS, tTest, tCB, tCall, rI, rI0, rU, tNext, tB, tAnd, tOr, tNot, tAndV, tOrV, tNotV, tDrop, tIf, tPar, gSub, rIxL, rIxT, rEq, rNe, rSetL, tBits,
    L2.start, List.map_cons, List.map_nil, List.cons_append, List.nil_append, List.append_nil, List.length_cons, List.length_nil, List.replicate, Nat.reduceAdd, Nat.reduceSub, Nat.zero_add, List.getElem?_cons_zero, List.getElem?_cons_succ, List.set_cons_zero, List.set_cons_succ,
    Option.some.injEq, exists_eq_left', exists_eq_left, V.int.injEq, V.bl.injEq, V.ref.injEq, V.str.injEq, List.cons.injEq, reduceCtorEq, and_true, true_and, false_and, and_false, exists_false, or_false, false_or, or_true, true_or, exists_const, CMul, CDiv, CPow, and_assoc, exists_and_left, exists_and_right, Int.reducePow, Int.reduceNeg, Int.reduceLT, Int.reduceLE, Nat.reducePow, Nat.reduceLT, Int.reduceToNat, gt_iff_lt, ge_iff_le, decide_eq_true_eq, Bool.not_eq_true', decide_eq_false_iff_not, scal, ↓reduceIte, Bool.false_eq_true]
      exact k H (Same.refl H)
    | bl b =>
      simp only [cx_K, decide_true, decide_false, reduceCtorEq, gTp, gCons, gNil, ca_0, ca_1, ca_2, ca_3, ca_4, ca_5, ca_6, ca_7, ca_8, ca_9, ca_10, ca_11, ca_12, ca_13, ca_14, ca_15, ca_16, ca_17, ca_18, ca_19, ca_20, ca_21, ca_22, ca_23, ca_24, ca_25, ca_26, ca_27, ca_28, ca_29, ca_30, not_true_eq_false, not_false_eq_true, Int.reduceEq, Nat.reduceEqDiff, Nat.reduceLeDiff, rGcd, V.ty.injEq, eq_self, List.not_mem_nil, beq_self_eq_true, HO.lst.injEq, HO.tup.injEq, tFor_eq, iRng1, iList, iTup, nat10, tSeq, rIxA, rSetA, rIsN, rIsT, tTp, tLs, itsO_tup, itsO_lst, tyO_tup, tyO_lst, tyO_dK, tyN_non, tyN_bl, tyN_int, tyN_str, tyN_ref, tyNs_lt, isB, upd_same, upd_upd, sizeLine_eq, List.mem_cons, String.reduceBEq, String.reduceEq, Bool.or_false, Bool.or_true, Bool.and_false, Bool.false_or, Bool.and_self, Bool.false_and, Bool.not_false, Bool.not_true, List.any_cons, List.any_nil, atI_0, setI_0, atI_1, setI_1, atI_2, setI_2, atI_3, setI_3, atI_4, setI_4, atI_5, setI_5, atI_6, setI_6, tAsg, gName, tOp, tUn, tVar, tC, tCons, L2.tNil, tRet, tIfS, tTest, tCB, tCall, rI, rI0, rU, tNext, tB, tAnd, tOr, tNot, tAndV, tOrV, tNotV, tDrop, tIf, tPar, gSub, rIxL, rIxT, rEq, rNe, rSetL, tBits,
    L2.start, List.map_cons, List.map_nil, List.cons_append, List.nil_append, List.append_nil, List.length_cons, List.length_nil, List.replicate, Nat.reduceAdd, Nat.reduceSub, Nat.zero_add, List.getElem?_cons_zero, List.getElem?_cons_succ, List.set_cons_zero, List.set_cons_succ,
    Option.some.injEq, exists_eq_left', exists_eq_left, V.int.injEq, V.bl.injEq, V.ref.injEq, V.str.injEq, List.cons.injEq, reduceCtorEq, and_true, true_and, false_and, and_false, exists_false, or_false, false_or, or_true, true_or, exists_const, CMul, CDiv, CPow, and_assoc, exists_and_left, exists_and_right, Int.reducePow, Int.reduceNeg, Int.reduceLT, Int.reduceLE, Nat.reducePow, Nat.reduceLT, Int.reduceToNat, gt_iff_lt, ge_iff_le, decide_eq_true_eq, Bool.not_eq_true', decide_eq_false_iff_not, scal, ↓reduceIte, Bool.false_eq_true]
      exact k H (Same.refl H)
    | int i =>
      simp only [cx_K, decide_true, decide_false, reduceCtorEq, gTp, gCons, gNil, ca_0, ca_1, ca_2, ca_3, ca_4, ca_5, ca_6, ca_7, ca_8, ca_9, ca_10, ca_11, ca_12, ca_13, ca_14, ca_15, ca_16, ca_17, ca_18, ca_19, ca_20, ca_21, ca_22, ca_23, ca_24, ca_25, ca_26, ca_27, ca_28, ca_29, ca_30, not_true_eq_false, not_false_eq_true, Int.reduceEq, Nat.reduceEqDiff, Nat.reduceLeDiff, rGcd, V.ty.injEq, eq_self, List.not_mem_nil, beq_self_eq_true, HO.lst.injEq, HO.tup.injEq, tFor_eq, iRng1, iList, iTup, nat10, tSeq, rIxA, rSetA, rIsN, rIsT, tTp, tLs, itsO_tup, itsO_lst, tyO_tup, tyO_lst, tyO_dK, tyN_non, tyN_bl, tyN_int, tyN_str, tyN_ref, tyNs_lt, isB, upd_same, upd_upd, sizeLine_eq, List.mem_cons, String.reduceBEq, String.reduceEq, Bool.or_false, Bool.or_true, Bool.and_false, Bool.false_or, Bool.and_self, Bool.false_and, Bool.not_false, Bool.not_true, List.any_cons, List.any_nil, atI_0, setI_0, atI_1, setI_1, atI_2, setI_2, atI_3, setI_3, atI_4, setI_4, atI_5, setI_5, atI_6, setI_6, tAsg, gName, tOp, tUn, tVar, tC, tCons, L2.tNil, tRet, tIfS, tTest, tCB, tCall, rI, rI0, rU, tNext, tB, tAnd, tOr, tNot, tAndV, tOrV, tNotV, tDrop, tIf, tPar, gSub, rIxL, rIxT, rEq, rNe, rSetL, tBits,
    L2.start, List.map_cons, List.map_nil, List.cons_append, List.nil_append, List.append_nil, List.length_cons, List.length_nil, List.replicate, Nat.reduceAdd, Nat.reduceSub, Nat.zero_add, List.getElem?_cons_zero, List.getElem?_cons_succ, List.set_cons_zero, List.set_cons_succ,
    Option.some.injEq, exists_eq_left', exists_eq_left, V.int.injEq, V.bl.injEq, V.ref.injEq, V.str.injEq, List.cons.injEq, reduceCtorEq, and_true, true_and, false_and, and_false, exists_false, or_false, false_or, or_true, true_or, exists_const, CMul, CDiv, CPow, and_assoc, exists_and_left, exists_and_right, Int.reducePow, Int.reduceNeg, Int.reduceLT, Int.reduceLE, Nat.reducePow, Nat.reduceLT, Int.reduceToNat, gt_iff_lt, ge_iff_le, decide_eq_true_eq, Bool.not_eq_true', decide_eq_false_iff_not, scal, ↓reduceIte, Bool.false_eq_true]
      exact ⟨_, rfl, rfl, true, rfl, k H (Same.refl H)⟩
    | str z =>
      simp only [cx_K, decide_true, decide_false, reduceCtorEq, gTp, gCons, gNil, ca_0, ca_1, ca_2, ca_3, ca_4, ca_5, ca_6, ca_7, ca_8, ca_9, ca_10, ca_11, ca_12, ca_13, ca_14, ca_15, ca_16, ca_17, ca_18, ca_19, ca_20, ca_21, ca_22, ca_23, ca_24, ca_25, ca_26, ca_27, ca_28, ca_29, ca_30, not_true_eq_false, not_false_eq_true, Int.reduceEq, Nat.reduceEqDiff, Nat.reduceLeDiff, rGcd, V.ty.injEq, eq_self, List.not_mem_nil, beq_self_eq_true, HO.lst.injEq, HO.tup.injEq, tFor_eq, iRng1, iList, iTup, nat10, tSeq, rIxA, rSetA, rIsN, rIsT, tTp, tLs, itsO_tup, itsO_lst, tyO_tup, tyO_lst, tyO_dK, tyN_non, tyN_bl, tyN_int, tyN_str, tyN_ref, tyNs_lt, isB, upd_same, upd_upd, sizeLine_eq, List.mem_cons, String.reduceBEq, String.reduceEq, Bool.or_false, Bool.or_true, Bool.and_false, Bool.false_or, Bool.and_self, Bool.false_and, Bool.not_false, Bool.not_true, List.any_cons, List.any_nil, atI_0, setI_0, atI_1, setI_1, atI_2, setI_2, atI_3, setI_3, atI_4, setI_4, atI_5, setI_5, atI_6, setI_6, tAsg, gName, tOp, tUn, tVar, tC, tCons, L2.tNil, tRet, tIfS, tTest, tCB, tCall, rI, rI0, rU, tNext, tB, tAnd, tOr, tNot, tAndV, tOrV, tNotV, tDrop, tIf, tPar, gSub, rIxL, rIxT, rEq, rNe, rSetL, tBits,
    L2.start, List.map_cons, List.map_nil, List.cons_append, List.nil_append, List.append_nil, List.length_cons, List.length_nil, List.replicate, Nat.reduceAdd, Nat.reduceSub, Nat.zero_add, List.getElem?_cons_zero, List.getElem?_cons_succ, List.set_cons_zero, List.set_cons_succ,
    Option.some.injEq, exists_eq_left', exists_eq_left, V.int.injEq, V.bl.injEq, V.ref.injEq, V.str.injEq, List.cons.injEq, reduceCtorEq, and_true, true_and, false_and, and_false, exists_false, or_false, false_or, or_true, true_or, exists_const, CMul, CDiv, CPow, and_assoc, exists_and_left, exists_and_right, Int.reducePow, Int.reduceNeg, Int.reduceLT, Int.reduceLE, Nat.reducePow, Nat.reduceLT, Int.reduceToNat, gt_iff_lt, ge_iff_le, decide_eq_true_eq, Bool.not_eq_true', decide_eq_false_iff_not, scal, ↓reduceIte, Bool.false_eq_true]
      exact k H (Same.refl H)
    | _ => cases hsc
  rcases ho with ⟨oa, oc⟩ | ⟨oa, oc⟩
  · simp only [oa, oc, cx_K, decide_true, decide_false, reduceCtorEq, gTp, gCons, gNil, ca_0, ca_1, ca_2, ca_3, ca_4, ca_5, ca_6, ca_7, ca_8, ca_9, ca_10, ca_11, ca_12, ca_13, ca_14, ca_15, ca_16, ca_17, ca_18, ca_19, ca_20, ca_21, ca_22, ca_23, ca_24, ca_25, ca_26, ca_27, ca_28, ca_29, ca_30, not_true_eq_false, not_false_eq_true, Int.reduceEq, Nat.reduceEqDiff, Nat.reduceLeDiff, rGcd, V.ty.injEq, eq_self, List.not_mem_nil, beq_self_eq_true, HO.lst.injEq, HO.tup.injEq, tFor_eq, iRng1, iList, iTup, nat10, tSeq, rIxA, rSetA, rIsN, rIsT, tTp, tLs, itsO_tup, itsO_lst, tyO_tup, tyO_lst, tyO_dK, tyN_non, tyN_bl, tyN_int, tyN_str, tyN_ref, tyNs_lt, isB, upd_same, upd_upd, sizeLine_eq, List.mem_cons, String.reduceBEq, String.reduceEq, Bool.or_false, Bool.or_true, Bool.and_false, Bool.false_or, Bool.and_self, Bool.false_and, Bool.not_false, Bool.not_true, List.any_cons, List.any_nil, atI_0, setI_0, atI_1, setI_1, atI_2, setI_2, atI_3, setI_3, atI_4, setI_4, atI_5, setI_5, atI_6, setI_6, tAsg, gName, tOp, tUn, tVar, tC, tCons, L2.tNil, tRet, tIfS, tTest, tCB, tCall, rI, rI0, rU, tNext, tB, tAnd, tOr, tNot, tAndV, tOrV, tNotV, tDrop, tIf, tPar, gSub, rIxL, rIxT, rEq, rNe, rSetL, tBits,
    L2.start, List.map_cons, List.map_nil, List.cons_append, List.nil_append, List.append_nil, List.length_cons, List.length_nil, List.replicate, Nat.reduceAdd, Nat.reduceSub, Nat.zero_add, List.getElem?_cons_zero, List.getElem?_cons_succ, List.set_cons_zero, List.set_cons_succ,
    Option.some.injEq, exists_eq_left', exists_eq_left, V.int.injEq, V.bl.injEq, V.ref.injEq, V.str.injEq, List.cons.injEq, reduceCtorEq, and_true, true_and, false_and, and_false, exists_false, or_false, false_or, or_true, true_or, exists_const, CMul, CDiv, CPow, and_assoc, exists_and_left, exists_and_right, Int.reducePow, Int.reduceNeg, Int.reduceLT, Int.reduceLE, Nat.reducePow, Nat.reduceLT, Int.reduceToNat, gt_iff_lt, ge_iff_le, decide_eq_true_eq, Bool.not_eq_true', decide_eq_false_iff_not, scal, ↓reduceIte, Bool.false_eq_true]
    intro p hp kp
    have s1 := Same.new hp (.tup [V.ty "list", V.ty "tuple"])
    generalize upd H p (.tup [V.ty "list", V.ty "tuple"]) = H1 at s1 ⊢
    have oa1 := ob_same s1 oa
    have oc1 := ob_same s1 oc
    simp only [oa1, oc1, cx_K, decide_true, decide_false, reduceCtorEq, gTp, gCons, gNil, ca_0, ca_1, ca_2, ca_3, ca_4, ca_5, ca_6, ca_7, ca_8, ca_9, ca_10, ca_11, ca_12, ca_13, ca_14, ca_15, ca_16, ca_17, ca_18, ca_19, ca_20, ca_21, ca_22, ca_23, ca_24, ca_25, ca_26, ca_27, ca_28, ca_29, ca_30, not_true_eq_false, not_false_eq_true, Int.reduceEq, Nat.reduceEqDiff, Nat.reduceLeDiff, rGcd, V.ty.injEq, eq_self, List.not_mem_nil, beq_self_eq_true, HO.lst.injEq, HO.tup.injEq, tFor_eq, iRng1, iList, iTup, nat10, tSeq, rIxA, rSetA, rIsN, rIsT, tTp, tLs, itsO_tup, itsO_lst, tyO_tup, tyO_lst, tyO_dK, tyN_non, tyN_bl, tyN_int, tyN_str, tyN_ref, tyNs_lt, isB, upd_same, upd_upd, sizeLine_eq, List.mem_cons, String.reduceBEq, String.reduceEq, Bool.or_false, Bool.or_true, Bool.and_false, Bool.false_or, Bool.and_self, Bool.false_and, Bool.not_false, Bool.not_true, List.any_cons, List.any_nil, atI_0, setI_0, atI_1, setI_1, atI_2, setI_2, atI_3, setI_3, atI_4, setI_4, atI_5, setI_5, atI_6, setI_6, tAsg, gName, tOp, tUn, tVar, tC, tCons, L2.tNil, tRet, tIfS, tTest, tCB, tCall, rI, rI0, rU, tNext, tB, tAnd, tOr, tNot, tAndV, tOrV, tNotV, tDrop, tIf, tPar, gSub, rIxL, rIxT, rEq, rNe, rSetL, tBits,
    L2.start, List.map_cons, List.map_nil, List.cons_append, List.nil_append, List.append_nil, List.length_cons, List.length_nil, List.replicate, Nat.reduceAdd, Nat.reduceSub, Nat.zero_add, List.getElem?_cons_zero, List.getElem?_cons_succ, List.set_cons_zero, List.set_cons_succ,
    Option.some.injEq, exists_eq_left', exists_eq_left, V.int.injEq, V.bl.injEq, V.ref.injEq, V.str.injEq, List.cons.injEq, reduceCtorEq, and_true, true_and, false_and, and_false, exists_false, or_false, false_or, or_true, true_or, exists_const, CMul, CDiv, CPow, and_assoc, exists_and_left, exists_and_right, Int.reducePow, Int.reduceNeg, Int.reduceLT, Int.reduceLE, Nat.reducePow, Nat.reduceLT, Int.reduceToNat, gt_iff_lt, ge_iff_le, decide_eq_true_eq, Bool.not_eq_true', decide_eq_false_iff_not, scal, ↓reduceIte, Bool.false_eq_true]
    rw [if_neg (show ¬ ¬ ((xs.length : Int) = (ys.length : Int)) by omega)]
    refine ⟨by omega, by omega, forI_range (SameI H a b) ⟨none, rfl, s1⟩ ?_ ?_⟩
    · rintro i σ H' hlt ⟨z, rfl, s2⟩
      have hx : i < xs.length := by omega
      have hy : i < ys.length := by omega
      have oa2 := ob_same s2 oa
      have oc2 := ob_same s2 oc
      have ex : atI xs (0 + (i : Int)) = some xs[i] := by rw [Int.zero_add]; exact atI_nat (List.getElem?_eq_getElem hx)
      have ey : atI ys (0 + (i : Int)) = some ys[i] := by rw [Int.zero_add]; exact atI_nat (List.getElem?_eq_getElem hy)
      simp only [oa2, oc2, ex, ey, cx_K, decide_true, decide_false, reduceCtorEq, gTp, gCons, gNil, ca_0, ca_1, ca_2, ca_3, ca_4, ca_5, ca_6, ca_7, ca_8, ca_9, ca_10, ca_11, ca_12, ca_13, ca_14, ca_15, ca_16, ca_17, ca_18, ca_19, ca_20, ca_21, ca_22, ca_23, ca_24, ca_25, ca_26, ca_27, ca_28, ca_29, ca_30, not_true_eq_false, not_false_eq_true, Int.reduceEq, Nat.reduceEqDiff, Nat.reduceLeDiff, rGcd, V.ty.injEq, eq_self, List.not_mem_nil, beq_self_eq_true, HO.lst.injEq, HO.tup.injEq, tFor_eq, iRng1, iList, iTup, nat10, tSeq, rIxA, rSetA, rIsN, rIsT, tTp, tLs, itsO_tup, itsO_lst, tyO_tup, tyO_lst, tyO_dK, tyN_non, tyN_bl, tyN_int, tyN_str, tyN_ref, tyNs_lt, isB, upd_same, upd_upd, sizeLine_eq, List.mem_cons, String.reduceBEq, String.reduceEq, Bool.or_false, Bool.or_true, Bool.and_false, Bool.false_or, Bool.and_self, Bool.false_and, Bool.not_false, Bool.not_true, List.any_cons, List.any_nil, atI_0, setI_0, atI_1, setI_1, atI_2, setI_2, atI_3, setI_3, atI_4, setI_4, atI_5, setI_5, atI_6, setI_6, tAsg, gName, tOp, tUn, tVar, tC, tCons, L2.tNil, tRet, tIfS, tTest, tCB, tCall, rI, rI0, rU, tNext, tB, tAnd, tOr, tNot, tAndV, tOrV, tNotV, tDrop, tIf, tPar, gSub, rIxL, rIxT, rEq, rNe, rSetL, tBits,
    L2.start, List.map_cons, List.map_nil, List.cons_append, List.nil_append, List.append_nil, List.length_cons, List.length_nil, List.replicate, Nat.reduceAdd, Nat.reduceSub, Nat.zero_add, List.getElem?_cons_zero, List.getElem?_cons_succ, List.set_cons_zero, List.set_cons_succ,
    Option.some.injEq, exists_eq_left', exists_eq_left, V.int.injEq, V.bl.injEq, V.ref.injEq, V.str.injEq, List.cons.injEq, reduceCtorEq, and_true, true_and, false_and, and_false, exists_false, or_false, false_or, or_true, true_or, exists_const, CMul, CDiv, CPow, and_assoc, exists_and_left, exists_and_right, Int.reducePow, Int.reduceNeg, Int.reduceLT, Int.reduceLE, Nat.reducePow, Nat.reduceLT, Int.reduceToNat, gt_iff_lt, ge_iff_le, decide_eq_true_eq, Bool.not_eq_true', decide_eq_false_iff_not, scal, ↓reduceIte, Bool.false_eq_true]
      refine ⟨_, _, rfl, (hi i _ _ (List.getElem?_eq_getElem hx) (List.getElem?_eq_getElem hy)).same s2, fun H2 s3 => ⟨true, rfl, ?_⟩⟩
      rw [if_neg Bool.noConfusion]
      exact ⟨_, rfl, s2.trans s3⟩
    · rintro σ H' ⟨z, rfl, s2⟩
      simp only [cx_K, decide_true, decide_false, reduceCtorEq, gTp, gCons, gNil, ca_0, ca_1, ca_2, ca_3, ca_4, ca_5, ca_6, ca_7, ca_8, ca_9, ca_10, ca_11, ca_12, ca_13, ca_14, ca_15, ca_16, ca_17, ca_18, ca_19, ca_20, ca_21, ca_22, ca_23, ca_24, ca_25, ca_26, ca_27, ca_28, ca_29, ca_30, not_true_eq_false, not_false_eq_true, Int.reduceEq, Nat.reduceEqDiff, Nat.reduceLeDiff, rGcd, V.ty.injEq, eq_self, List.not_mem_nil, beq_self_eq_true, HO.lst.injEq, HO.tup.injEq, tFor_eq, iRng1, iList, iTup, nat10, tSeq, rIxA, rSetA, rIsN, rIsT, tTp, tLs, itsO_tup, itsO_lst, tyO_tup, tyO_lst, tyO_dK, tyN_non, tyN_bl, tyN_int, tyN_str, tyN_ref, tyNs_lt, isB, upd_same, upd_upd, sizeLine_eq, List.mem_cons, String.reduceBEq, String.reduceEq, Bool.or_false, Bool.or_true, Bool.and_false, Bool.false_or, Bool.and_self, Bool.false_and, Bool.not_false, Bool.not_true, List.any_cons, List.any_nil, atI_0, setI_0, atI_1, setI_1, atI_2, setI_2, atI_3, setI_3, atI_4, setI_4, atI_5, setI_5, atI_6, setI_6, tAsg, gName, tOp, tUn, tVar, tC, tCons, L2.tNil, tRet, tIfS, tTest, tCB, tCall, rI, rI0, rU, tNext, tB, tAnd, tOr, tNot, tAndV, tOrV, tNotV, tDrop, tIf, tPar, gSub, rIxL, rIxT, rEq, rNe, rSetL, tBits,
    L2.start, List.map_cons, List.map_nil, List.cons_append, List.nil_append, List.append_nil, List.length_cons, List.length_nil, List.replicate, Nat.reduceAdd, Nat.reduceSub, Nat.zero_add, List.getElem?_cons_zero, List.getElem?_cons_succ, List.set_cons_zero, List.set_cons_succ,
    Option.some.injEq, exists_eq_left', exists_eq_left, V.int.injEq, V.bl.injEq, V.ref.injEq, V.str.injEq, List.cons.injEq, reduceCtorEq, and_true, true_and, false_and, and_false, exists_false, or_false, false_or, or_true, true_or, exists_const, CMul, CDiv, CPow, and_assoc, exists_and_left, exists_and_right, Int.reducePow, Int.reduceNeg, Int.reduceLT, Int.reduceLE, Nat.reducePow, Nat.reduceLT, Int.reduceToNat, gt_iff_lt, ge_iff_le, decide_eq_true_eq, Bool.not_eq_true', decide_eq_false_iff_not, scal, ↓reduceIte, Bool.false_eq_true]
      exact k H' s2
  · simp only [oa, oc, cx_K, decide_true, decide_false, reduceCtorEq, gTp, gCons, gNil, ca_0, ca_1, ca_2, ca_3, ca_4, ca_5, ca_6, ca_7, ca_8, ca_9, ca_10, ca_11, ca_12, ca_13, ca_14, ca_15, ca_16, ca_17, ca_18, ca_19, ca_20, ca_21, ca_22, ca_23, ca_24, ca_25, ca_26, ca_27, ca_28, ca_29, ca_30, not_true_eq_false, not_false_eq_true, Int.reduceEq, Nat.reduceEqDiff, Nat.reduceLeDiff, rGcd, V.ty.injEq, eq_self, List.not_mem_nil, beq_self_eq_true, HO.lst.injEq, HO.tup.injEq, tFor_eq, iRng1, iList, iTup, nat10, tSeq, rIxA, rSetA, rIsN, rIsT, tTp, tLs, itsO_tup, itsO_lst, tyO_tup, tyO_lst, tyO_dK, tyN_non, tyN_bl, tyN_int, tyN_str, tyN_ref, tyNs_lt, isB, upd_same, upd_upd, sizeLine_eq, List.mem_cons, String.reduceBEq, String.reduceEq, Bool.or_false, Bool.or_true, Bool.and_false, Bool.false_or, Bool.and_self, Bool.false_and, Bool.not_false, Bool.not_true, List.any_cons, List.any_nil, atI_0, setI_0, atI_1, setI_1, atI_2, setI_2, atI_3, setI_3, atI_4, setI_4, atI_5, setI_5, atI_6, setI_6, tAsg, gName, tOp, tUn, tVar, tC, tCons, L2.tNil, tRet, tIfS, tTest, tCB, tCall, rI, rI0, rU, tNext, tB, tAnd, tOr, tNot, tAndV, tOrV, tNotV, tDrop, tIf, tPar, gSub, rIxL, rIxT, rEq, rNe, rSetL, tBits,
    L2.start, List.map_cons, List.map_nil, List.cons_append, List.nil_append, List.append_nil, List.length_cons, List.length_nil, List.replicate, Nat.reduceAdd, Nat.reduceSub, Nat.zero_add, List.getElem?_cons_zero, List.getElem?_cons_succ, List.set_cons_zero, List.set_cons_succ,
    Option.some.injEq, exists_eq_left', exists_eq_left, V.int.injEq, V.bl.injEq, V.ref.injEq, V.str.injEq, List.cons.injEq, reduceCtorEq, and_true, true_and, false_and, and_false, exists_false, or_false, false_or, or_true, true_or, exists_const, CMul, CDiv, CPow, and_assoc, exists_and_left, exists_and_right, Int.reducePow, Int.reduceNeg, Int.reduceLT, Int.reduceLE, Nat.reducePow, Nat.reduceLT, Int.reduceToNat, gt_iff_lt, ge_iff_le, decide_eq_true_eq, Bool.not_eq_true', decide_eq_false_iff_not, scal, ↓reduceIte, Bool.false_eq_true]
    intro p hp kp
    have s1 := Same.new hp (.tup [V.ty "list", V.ty "tuple"])
    generalize upd H p (.tup [V.ty "list", V.ty "tuple"]) = H1 at s1 ⊢
    have oa1 := ob_same s1 oa
    have oc1 := ob_same s1 oc
    simp only [oa1, oc1, cx_K, decide_true, decide_false, reduceCtorEq, gTp, gCons, gNil, ca_0, ca_1, ca_2, ca_3, ca_4, ca_5, ca_6, ca_7, ca_8, ca_9, ca_10, ca_11, ca_12, ca_13, ca_14, ca_15, ca_16, ca_17, ca_18, ca_19, ca_20, ca_21, ca_22, ca_23, ca_24, ca_25, ca_26, ca_27, ca_28, ca_29, ca_30, not_true_eq_false, not_false_eq_true, Int.reduceEq, Nat.reduceEqDiff, Nat.reduceLeDiff, rGcd, V.ty.injEq, eq_self, List.not_mem_nil, beq_self_eq_true, HO.lst.injEq, HO.tup.injEq, tFor_eq, iRng1, iList, iTup, nat10, tSeq, rIxA, rSetA, rIsN, rIsT, tTp, tLs, itsO_tup, itsO_lst, tyO_tup, tyO_lst, tyO_dK, tyN_non, tyN_bl, tyN_int, tyN_str, tyN_ref, tyNs_lt, isB, upd_same, upd_upd, sizeLine_eq, List.mem_cons, String.reduceBEq, String.reduceEq, Bool.or_false, Bool.or_true, Bool.and_false, Bool.false_or, Bool.and_self, Bool.false_and, Bool.not_false, Bool.not_true, List.any_cons, List.any_nil, atI_0, setI_0, atI_1, setI_1, atI_2, setI_2, atI_3, setI_3, atI_4, setI_4, atI_5, setI_5, atI_6, setI_6, tAsg, gName, tOp, tUn, tVar, tC, tCons, L2.tNil, tRet, tIfS, tTest, tCB, tCall, rI, rI0, rU, tNext, tB, tAnd, tOr, tNot, tAndV, tOrV, tNotV, tDrop, tIf, tPar, gSub, rIxL, rIxT, rEq, rNe, rSetL, tBits,
    L2.start, List.map_cons, List.map_nil, List.cons_append, List.nil_append, List.append_nil, List.length_cons, List.length_nil, List.replicate, Nat.reduceAdd, Nat.reduceSub, Nat.zero_add, List.getElem?_cons_zero, List.getElem?_cons_succ, List.set_cons_zero, List.set_cons_succ,
    Option.some.injEq, exists_eq_left', exists_eq_left, V.int.injEq, V.bl.injEq, V.ref.injEq, V.str.injEq, List.cons.injEq, reduceCtorEq, and_true, true_and, false_and, and_false, exists_false, or_false, false_or, or_true, true_or, exists_const, CMul, CDiv, CPow, and_assoc, exists_and_left, exists_and_right, Int.reducePow, Int.reduceNeg, Int.reduceLT, Int.reduceLE, Nat.reducePow, Nat.reduceLT, Int.reduceToNat, gt_iff_lt, ge_iff_le, decide_eq_true_eq, Bool.not_eq_true', decide_eq_false_iff_not, scal, ↓reduceIte, Bool.false_eq_true]
    rw [if_neg (show ¬ ¬ ((xs.length : Int) = (ys.length : Int)) by omega)]
    refine ⟨by omega, by omega, forI_range (SameI H a b) ⟨none, rfl, s1⟩ ?_ ?_⟩
    · rintro i σ H' hlt ⟨z, rfl, s2⟩
      have hx : i < xs.length := by omega
      have hy : i < ys.length := by omega
      have oa2 := ob_same s2 oa
      have oc2 := ob_same s2 oc
      have ex : atI xs (0 + (i : Int)) = some xs[i] := by rw [Int.zero_add]; exact atI_nat (List.getElem?_eq_getElem hx)
      have ey : atI ys (0 + (i : Int)) = some ys[i] := by rw [Int.zero_add]; exact atI_nat (List.getElem?_eq_getElem hy)
      simp only [oa2, oc2, ex, ey, cx_K, decide_true, decide_false, reduceCtorEq, gTp, gCons, gNil, ca_0, ca_1, ca_2, ca_3, ca_4, ca_5, ca_6, ca_7, ca_8, ca_9, ca_10, ca_11, ca_12, ca_13, ca_14, ca_15, ca_16, ca_17, ca_18, ca_19, ca_20, ca_21, ca_22, ca_23, ca_24, ca_25, ca_26, ca_27, ca_28, ca_29, ca_30, not_true_eq_false, not_false_eq_true, Int.reduceEq, Nat.reduceEqDiff, Nat.reduceLeDiff, rGcd, V.ty.injEq, eq_self, List.not_mem_nil, beq_self_eq_true, HO.lst.injEq, HO.tup.injEq, tFor_eq, iRng1, iList, iTup, nat10, tSeq, rIxA, rSetA, rIsN, rIsT, tTp, tLs, itsO_tup, itsO_lst, tyO_tup, tyO_lst, tyO_dK, tyN_non, tyN_bl, tyN_int, tyN_str, tyN_ref, tyNs_lt, isB, upd_same, upd_upd, sizeLine_eq, List.mem_cons, String.reduceBEq, String.reduceEq, Bool.or_false, Bool.or_true, Bool.and_false, Bool.false_or, Bool.and_self, Bool.false_and, Bool.not_false, Bool.not_true, List.any_cons, List.any_nil, atI_0, setI_0, atI_1, setI_1, atI_2, setI_2, atI_3, setI_3, atI_4, setI_4, atI_5, setI_5, atI_6, setI_6, tAsg, gName, tOp, tUn, tVar, tC, tCons, L2.tNil, tRet, tIfS, tTest, tCB, tCall, rI, rI0, rU, tNext, tB, tAnd, tOr, tNot, tAndV, tOrV, tNotV, tDrop, tIf, tPar, gSub, rIxL, rIxT, rEq, rNe, rSetL, tBits,
    L2.start, List.map_cons, List.map_nil, List.cons_append, List.nil_append, List.append_nil, List.length_cons, List.length_nil, List.replicate, Nat.reduceAdd, Nat.reduceSub, Nat.zero_add, List.getElem?_cons_zero, List.getElem?_cons_succ, List.set_cons_zero, List.set_cons_succ,
    Option.some.injEq, exists_eq_left', exists_eq_left, V.int.injEq, V.bl.injEq, V.ref.injEq, V.str.injEq, List.cons.injEq, reduceCtorEq, and_true, true_and, false_and, and_false, exists_false, or_false, false_or, or_true, true_or, exists_const, CMul, CDiv, CPow, and_assoc, exists_and_left, exists_and_right, Int.reducePow, Int.reduceNeg, Int.reduceLT, Int.reduceLE, Nat.reducePow, Nat.reduceLT, Int.reduceToNat, gt_iff_lt, ge_iff_le, decide_eq_true_eq, Bool.not_eq_true', decide_eq_false_iff_not, scal, ↓reduceIte, Bool.false_eq_true]
      refine ⟨_, _, rfl, (hi i _ _ (List.getElem?_eq_getElem hx) (List.getElem?_eq_getElem hy)).same s2, fun H2 s3 => ⟨true, rfl, ?_⟩⟩
      rw [if_neg Bool.noConfusion]
      exact ⟨_, rfl, s2.trans s3⟩
    · rintro σ H' ⟨z, rfl, s2⟩
      simp only [cx_K, decide_true, decide_false, reduceCtorEq, gTp, gCons, gNil, ca_0, ca_1, ca_2, ca_3, ca_4, ca_5, ca_6, ca_7, ca_8, ca_9, ca_10, ca_11, ca_12, ca_13, ca_14, ca_15, ca_16, ca_17, ca_18, ca_19, ca_20, ca_21, ca_22, ca_23, ca_24, ca_25, ca_26, ca_27, ca_28, ca_29, ca_30, not_true_eq_false, not_false_eq_true, Int.reduceEq, Nat.reduceEqDiff, Nat.reduceLeDiff, rGcd, V.ty.injEq, eq_self, List.not_mem_nil, beq_self_eq_true, HO.lst.injEq, HO.tup.injEq, tFor_eq, iRng1, iList, iTup, nat10, tSeq, rIxA, rSetA, rIsN, rIsT, tTp, tLs, itsO_tup, itsO_lst, tyO_tup, tyO_lst, tyO_dK, tyN_non, tyN_bl, tyN_int, tyN_str, tyN_ref, tyNs_lt, isB, upd_same, upd_upd, sizeLine_eq, List.mem_cons, String.reduceBEq, String.reduceEq, Bool.or_false, Bool.or_true, Bool.and_false, Bool.false_or, Bool.and_self, Bool.false_and, Bool.not_false, Bool.not_true, List.any_cons, List.any_nil, atI_0, setI_0, atI_1, setI_1, atI_2, setI_2, atI_3, setI_3, atI_4, setI_4, atI_5, setI_5, atI_6, setI_6, tAsg, gName, tOp, tUn, tVar, tC, tCons, L2.tNil, tRet, tIfS, tTest, tCB, tCall, rI, rI0, rU, tNext, tB, tAnd, tOr, tNot, tAndV, tOrV, tNotV, tDrop, tIf, tPar, gSub, rIxL, rIxT, rEq, rNe, rSetL, tBits,
    L2.start, List.map_cons, List.map_nil, List.cons_append, List.nil_append, List.append_nil, List.length_cons, List.length_nil, List.replicate, Nat.reduceAdd, Nat.reduceSub, Nat.zero_add, List.getElem?_cons_zero, List.getElem?_cons_succ, List.set_cons_zero, List.set_cons_succ,
    Option.some.injEq, exists_eq_left', exists_eq_left, V.int.injEq, V.bl.injEq, V.ref.injEq, V.str.injEq, List.cons.injEq, reduceCtorEq, and_true, true_and, false_and, and_false, exists_false, or_false, false_or, or_true, true_or, exists_const, CMul, CDiv, CPow, and_assoc, exists_and_left, exists_and_right, Int.reducePow, Int.reduceNeg, Int.reduceLT, Int.reduceLE, Nat.reducePow, Nat.reduceLT, Int.reduceToNat, gt_iff_lt, ge_iff_le, decide_eq_true_eq, Bool.not_eq_true', decide_eq_false_iff_not, scal, ↓reduceIte, Bool.false_eq_true]
      exact k H' s2
  · have kl : ks.length = ls.length := by rw [← List.length_map (f := (·.1)), ek, List.length_map]
    simp only [oa, oc, cx_K, decide_true, decide_false, reduceCtorEq, gTp, gCons, gNil, ca_0, ca_1, ca_2, ca_3, ca_4, ca_5, ca_6, ca_7, ca_8, ca_9, ca_10, ca_11, ca_12, ca_13, ca_14, ca_15, ca_16, ca_17, ca_18, ca_19, ca_20, ca_21, ca_22, ca_23, ca_24, ca_25, ca_26, ca_27, ca_28, ca_29, ca_30, not_true_eq_false, not_false_eq_true, Int.reduceEq, Nat.reduceEqDiff, Nat.reduceLeDiff, rGcd, V.ty.injEq, eq_self, List.not_mem_nil, beq_self_eq_true, HO.lst.injEq, HO.tup.injEq, tFor_eq, iRng1, iList, iTup, nat10, tSeq, rIxA, rSetA, rIsN, rIsT, tTp, tLs, itsO_tup, itsO_lst, tyO_tup, tyO_lst, tyO_dK, tyN_non, tyN_bl, tyN_int, tyN_str, tyN_ref, tyNs_lt, isB, upd_same, upd_upd, sizeLine_eq, List.mem_cons, String.reduceBEq, String.reduceEq, Bool.or_false, Bool.or_true, Bool.and_false, Bool.false_or, Bool.and_self, Bool.false_and, Bool.not_false, Bool.not_true, List.any_cons, List.any_nil, atI_0, setI_0, atI_1, setI_1, atI_2, setI_2, atI_3, setI_3, atI_4, setI_4, atI_5, setI_5, atI_6, setI_6, tAsg, gName, tOp, tUn, tVar, tC, tCons, L2.tNil, tRet, tIfS, tTest, tCB, tCall, rI, rI0, rU, tNext, tB, tAnd, tOr, tNot, tAndV, tOrV, tNotV, tDrop, tIf, tPar, gSub, rIxL, rIxT, rEq, rNe, rSetL, tBits,
    L2.start, List.map_cons, List.map_nil, List.cons_append, List.nil_append, List.append_nil, List.length_cons, List.length_nil, List.replicate, Nat.reduceAdd, Nat.reduceSub, Nat.zero_add, List.getElem?_cons_zero, List.getElem?_cons_succ, List.set_cons_zero, List.set_cons_succ,
    Option.some.injEq, exists_eq_left', exists_eq_left, V.int.injEq, V.bl.injEq, V.ref.injEq, V.str.injEq, List.cons.injEq, reduceCtorEq, and_true, true_and, false_and, and_false, exists_false, or_false, false_or, or_true, true_or, exists_const, CMul, CDiv, CPow, and_assoc, exists_and_left, exists_and_right, Int.reducePow, Int.reduceNeg, Int.reduceLT, Int.reduceLE, Nat.reducePow, Nat.reduceLT, Int.reduceToNat, gt_iff_lt, ge_iff_le, decide_eq_true_eq, Bool.not_eq_true', decide_eq_false_iff_not, scal, ↓reduceIte, Bool.false_eq_true]
    refine ⟨_, rfl, a, ks, rfl, (ob_H oa fun _ z => by cases z).1, fun l1 hl1 fr1 => ?_⟩
    have s1 := Same.new hl1 (.lst (ks.map fun kv => kV kv.1))
    have o1 := ob_new (H := H) (o := .lst (ks.map fun kv => kV kv.1)) (fr1 l1 (by rw [upd_same]; simp))
    have hb1 := s1 _ _ (ob_H oc fun _ z => by cases z).1
    have oa1 := ob_same s1 oa
    have oc1 := ob_same s1 oc
    generalize upd H l1 (.lst (ks.map fun kv => kV kv.1)) = H1 at s1 o1 hb1 oa1 oc1 ⊢
    refine ⟨_, rfl, b, ls, rfl, hb1, fun l2 hl2 fr2 => ?_⟩
    have s2 : Same H1 (upd H1 l2 (.lst (ls.map fun kv => kV kv.1))) := Same.new hl2 _
    have o2 := ob_new (H := H1) (o := .lst (ls.map fun kv => kV kv.1)) (fr2 l2 (by rw [upd_same]; simp))
    have e1 : Eqv K (upd H1 l2 (.lst (ls.map fun kv => kV kv.1))) (m + 1) (.ref l1) (.ref l2) := Or.inr (Or.inl ⟨l1, l2, _, _, rfl, rfl, .inr ⟨ob_same s2 o1, o2⟩, by simp only [List.length_map, kl], by rw [List.length_map]; exact hl, fun i x y hx hy => ?_⟩)
    · refine ⟨_, _, rfl, e1, fun H3 s3 => ⟨true, rfl, ?_⟩⟩
      rw [if_neg Bool.noConfusion]
      have s13 := s2.trans s3
      have oa3 := ob_same s13 oa1
      have oc3 := ob_same s13 oc1
      refine ⟨_, rfl, a, ks, rfl, (ob_H oa3 fun _ z => by cases z).1, fun l3 hl3 kl3 => ?_⟩
      have s4 := Same.new hl3 (.lst (ks.map (·.2)))
      have o3 := ob_new (H := H3) (o := .lst (ks.map (·.2))) kl3
      have oc4 := ob_same s4 oc3
      generalize upd H3 l3 (.lst (ks.map (·.2))) = H4 at s4 o3 oc4 ⊢
      refine ⟨_, rfl, b, ls, rfl, (ob_H oc4 fun _ z => by cases z).1, fun l4 hl4 kl4 => ?_⟩
      have s5 := Same.new hl4 (.lst (ls.map (·.2)))
      have o4 := ob_new (H := H4) (o := .lst (ls.map (·.2))) kl4
      have s15 := s1.trans (s13.trans (s4.trans s5))
      have e2 : Eqv K (upd H4 l4 (.lst (ls.map (·.2)))) (m + 1) (.ref l3) (.ref l4) := Or.inr (Or.inl ⟨l3, l4, _, _, rfl, rfl, .inr ⟨ob_same s5 o3, o4⟩, by simp only [List.length_map, kl], by rw [List.length_map]; exact hl, fun i x y hx hy => ?_⟩)
      · exact ⟨_, _, rfl, e2, fun H5 s6 => k H5 (s15.trans s6)⟩
      · rw [List.getElem?_map] at hx hy
        obtain ⟨p, hp, rfl⟩ := Option.map_eq_some_iff.mp hx
        obtain ⟨r, hr, rfl⟩ := Option.map_eq_some_iff.mp hy
        exact (hi i p r hp hr).same s15
    · have ek2 : (ks.map fun kv => kV kv.1) = ls.map fun kv => kV kv.1 := by
        have := congrArg (List.map kV) ek
        rw [List.map_map, List.map_map] at this
        exact this
      rw [ek2, hy] at hx
      cases hx
      rw [List.getElem?_map] at hy
      obtain ⟨r, _, rfl⟩ := Option.map_eq_some_iff.mp hy
      cases m with
      | zero => exact ⟨rfl, scv_kV _⟩
      | succ m => exact Or.inl ⟨rfl, scv_kV _⟩
theorem k_same (T : Bt K mg) (D : Dfn K mg "_law_same" sSame ["_law_told", "_law_due"]) (d : Kn P w K mg base 1 "_law_is_whole" ["_law_told"] (spWhole K)) : ∀ n : Nat, Kn P w K mg base (n + 1) "_law_same" ["_law_told", "_law_due"] (spSame K n)
  | 0 => by
    obtain ⟨f, fd, m, kp, b, G⟩ := (Kn.none (P := P) (w := w) (base := base) D).ex
    exact ⟨f, fd, m, kp, b, (G.mono (Nat.zero_le _)).imp fun vs H Q E h => h.elim⟩
  | n + 1 => k_Same n T D d (k_same T D d n)
end
end My

namespace My
open PySem PySem.Spec PyProof.Rows L2
section
variable {P : Program} {w : World} {K : PySem.W.Frag} {mg : Str → Option Value} {base : Heap}
/-! ### what is no fraction -/
def fr2 : List V → Bool
  | [.int n, .int d] => decide (1 ≤ d) && decide (Int.gcd n d = 1)
  | _ => false
theorem frOk_tup {H : Hp} {a : Addr} {xs : List V} (o : ob K H a = some (.tup xs)) : frOk K H (.ref a) = fr2 xs := by
  simp only [frOk, o]
  unfold fr2
  split <;> simp_all
theorem tyN_same {H H' : Hp} {v : V} {t : String} (e : Same H H') (h : tyN K H v = some t) : tyN K H' v = some t := by
  cases v with
  | ref a =>
    have h1 : tyO (ob K H a) = some t := h
    show tyO (ob K H' a) = some t
    cases hz : ob K H a with
    | none => rw [hz] at h1; cases h1
    | some z => rw [ob_same e hz, ← hz]; exact h1
  | _ => exact h
theorem tyS_same {H H' : Hp} {v : V} (e : Same H H') (h : (tyN K H v).isSome) : (tyN K H' v).isSome := by
  obtain ⟨t, ht⟩ := Option.isSome_iff_exists.mp h
  rw [tyN_same e ht]
  rfl
theorem ob_back {H H' : Hp} {a : Addr} {z : HO} (e : Same H H') (h : (tyN K H (.ref a)).isSome) (o : ob K H' a = some z) : ob K H a = some z := by
  cases hz : ob K H a with
  | none =>
    rw [tyN_ref, hz] at h
    cases h
  | some y =>
    rw [← o, ob_same e hz]
structure Gd (K : PySem.W.Frag) (H : Hp) (v : V) : Prop where
  ty : Tyd K H v
  no : frOk K H v = false
theorem Gd.same {H H' : Hp} {v : V} (e : Same H H') (h : Gd K H v) : Gd K H' v := by
  refine ⟨⟨tyS_same e h.ty.1, fun a xs ev o x hx => ?_⟩, ?_⟩
  · subst ev
    exact tyS_same e (h.ty.2 a xs rfl (ob_back e h.ty.1 o) x hx)
  · cases v with
    | ref a =>
      cases hz : ob K H a with
      | none =>
        have := h.ty.1
        rw [tyN_ref, hz] at this
        cases this
      | some z =>
        have e2 : frOk K H' (.ref a) = frOk K H (.ref a) := by simp only [frOk, hz, ob_same e hz]
        rw [e2]
        exact h.no
    | _ => rfl
theorem gd_sc {H : Hp} {v : V} (h : scv v = true) : Gd K H v := by
  refine ⟨⟨?_, fun a xs e => ?_⟩, ?_⟩
  · cases v <;> first | rfl | cases h
  · subst e; cases h
  · cases v <;> first | rfl | cases h
theorem gd_tup {H : Hp} {a : Addr} {xs : List V} (o : ob K H a = some (.tup xs)) (hx : ∀ x ∈ xs, (tyN K H x).isSome) (f : fr2 xs = false) : Gd K H (.ref a) := by
  refine ⟨⟨by rw [tyN_ref, o]; rfl, fun b ys e o' => ?_⟩, by rw [frOk_tup o]; exact f⟩
  cases e
  rw [o] at o'
  cases o'
  exact hx
theorem gd_lst {H : Hp} {a : Addr} {xs : List V} (o : ob K H a = some (.lst xs)) : Gd K H (.ref a) := by
  refine ⟨⟨by rw [tyN_ref, o]; rfl, fun b ys e o' => ?_⟩, by simp only [frOk, o]⟩
  cases e
  rw [o] at o'
  cases o'
theorem gd_dict {H : Hp} {a : Addr} {xs : List (Key × V)} (o : ob K H a = some (.dK xs)) : Gd K H (.ref a) := by
  refine ⟨⟨by rw [tyN_ref, o]; rfl, fun b ys e o' => ?_⟩, by simp only [frOk, o]⟩
  cases e
  rw [o] at o'
  cases o'
/-! ### displays that only make -/
def Mk (R : Hp → V → Prop) (te : TE) : Prop := ∀ σ H Q, (∀ v H', Same H H' → R H' v → Q v H') → te σ H Q
def MkL (R : Hp → V → Prop) (n : Nat) (ta : TA) : Prop := ∀ σ H Q, (∀ vs H', Same H H' → vs.length = n → (∀ v ∈ vs, R H' v) → Q vs H') → ta σ H Q
theorem mkL_nil {R : Hp → V → Prop} : MkL R 0 L2.tNil := fun σ H Q k => k [] H (Same.refl H) rfl fun _ z => absurd z (by simp)
theorem mkL_cons {R : Hp → V → Prop} {n : Nat} {te : TE} {ta : TA} (mono : ∀ (H H' : Hp) (v : V), Same H H' → R H v → R H' v) (h1 : Mk R te) (h2 : MkL R n ta) : MkL R (n + 1) (tCons te ta) := fun σ H Q k =>
  h1 σ H _ fun v H1 s1 r1 => h2 σ H1 _ fun vs H2 s2 hn hr => k (v :: vs) H2 (s1.trans s2) (by rw [List.length_cons, hn]) fun x hx => by
    rcases List.mem_cons.mp hx with e | e
    · subst e; exact mono _ _ _ s2 r1
    · exact hr x e
theorem mk_c {v : V} (h : scv v = true) : Mk (Gd K) (tC v) := fun σ H Q k => k v H (Same.refl H) (gd_sc h)
theorem mk_tc {ta : TA} (xs : List V) (e : ∀ σ H Q, Q xs H → ta σ H Q) (hs : xs.all scv = true) (hf : fr2 xs = false) (hl : xs.length ≤ 100 := by decide) : Mk (Gd K) (tTp K ta) := fun σ H Q k => by
  refine e σ H _ ⟨by rw [sizeLine_eq]; omega, fun p hp kp => k _ _ (Same.new hp _) (gd_tup (ob_new kp) (fun x hx => ?_) hf)⟩
  exact (gd_sc (K := K) (H := upd H p (.tup xs)) (List.all_eq_true.mp hs x hx)).ty.1
theorem mk_ls {ta : TA} {n : Nat} {R : Hp → V → Prop} (h : MkL R n ta) (hl : n ≤ 100 := by decide) : Mk (Gd K) (tLs K ta) := fun σ H Q k =>
  h σ H _ fun vs H1 s1 hn _ => ⟨by rw [sizeLine_eq]; omega, fun p hp kp => k _ _ (s1.trans (Same.new hp _)) (gd_lst (ob_new kp))⟩
theorem mk_dn : Mk (Gd K) (tDn K) := fun σ H Q k p hp kp => k _ _ (Same.new hp _) (gd_dict (ob_new kp))
theorem mk_any {R : Hp → V → Prop} {te : TE} (h : Mk R te) : Mk (fun _ _ => True) te := fun σ H Q k => h σ H Q fun v H' s _ => k v H' s True.intro
theorem mk_tup {ta : TA} {n : Nat} {R : Hp → V → Prop} (h : MkL R n ta) (hl : n ≤ 100 := by decide) : Mk (fun _ _ => True) (tTp K ta) := fun σ H Q k =>
  h σ H _ fun vs H1 s1 hn _ => ⟨by rw [sizeLine_eq]; omega, fun p hp kp => k _ _ (s1.trans (Same.new hp _)) True.intro⟩
/-! the same where names are read -/
def MkA (σ : L2.St) (H0 : Hp) (R : Hp → V → Prop) (te : TE) : Prop := ∀ H, Same H0 H → ∀ Q, (∀ v H', Same H H' → R H' v → Q v H') → te σ H Q
def MkAL (σ : L2.St) (H0 : Hp) (R : Hp → V → Prop) (n : Nat) (ta : TA) : Prop := ∀ H, Same H0 H → ∀ Q, (∀ vs H', Same H H' → vs.length = n → (∀ v ∈ vs, R H' v) → Q vs H') → ta σ H Q
theorem mkA_nil {σ : L2.St} {H0 : Hp} {R : Hp → V → Prop} : MkAL σ H0 R 0 L2.tNil := fun H _ Q k => k [] H (Same.refl H) rfl fun _ z => absurd z (by simp)
theorem mkA_cons {σ : L2.St} {H0 : Hp} {R : Hp → V → Prop} {n : Nat} {te : TE} {ta : TA} (mono : ∀ (H H' : Hp) (v : V), Same H H' → R H v → R H' v) (h1 : MkA σ H0 R te) (h2 : MkAL σ H0 R n ta) : MkAL σ H0 R (n + 1) (tCons te ta) := fun H s Q k =>
  h1 H s _ fun v H1 s1 r1 => h2 H1 (s.trans s1) _ fun vs H2 s2 hn hr => k (v :: vs) H2 (s1.trans s2) (by rw [List.length_cons, hn]) fun x hx => by
    rcases List.mem_cons.mp hx with e | e
    · subst e; exact mono _ _ _ s2 r1
    · exact hr x e
theorem mkA_tc {σ : L2.St} {H0 : Hp} {ta : TA} (xs : List V) (e : ∀ H, Same H0 H → ∀ Q, Q xs H → ta σ H Q) (hs : ∀ x ∈ xs, (tyN K H0 x).isSome) (hf : fr2 xs = false) (hl : xs.length ≤ 100) : MkA σ H0 (Gd K) (tTp K ta) := fun H s Q k => by
  refine e H s _ ⟨by rw [sizeLine_eq]; omega, fun p hp kp => k _ _ (Same.new hp _) (gd_tup (ob_new kp) (fun x hx => ?_) hf)⟩
  exact tyS_same (s.trans (Same.new hp _)) (hs x hx)
theorem mkA_lc {σ : L2.St} {H0 : Hp} {ta : TA} (xs : List V) (e : ∀ H, Same H0 H → ∀ Q, Q xs H → ta σ H Q) (hl : xs.length ≤ 100) : MkA σ H0 (Gd K) (tLs K ta) := fun H s Q k => by
  exact e H s _ ⟨by rw [sizeLine_eq]; omega, fun p hp kp => k _ _ (Same.new hp _) (gd_lst (ob_new kp))⟩
theorem lsA {ta : TA} {n : Nat} {R : Hp → V → Prop} {σ : L2.St} {H : Hp} {Q : VK} (mono : ∀ (H H' : Hp) (v : V), Same H H' → R H v → R H' v) (h : MkAL σ H R n ta) (hl : n ≤ 100)
    (k : ∀ vs p H', Same H H' → H p = none → K.lookup p = none → vs.length = n → (∀ v ∈ vs, R H' v) → H' p = some (.lst vs) → Q (.ref p) H') : tLs K ta σ H Q :=
  h H (Same.refl H) _ fun vs H1 s1 hn hr => ⟨by rw [sizeLine_eq]; omega, fun p hp kp => k vs p _ (s1.trans (Same.new hp _)) (s1.free hp) kp hn (fun v hv => mono _ _ _ (Same.new hp _) (hr v hv)) upd_same⟩
/-! what is no fraction stays so while the draws go on -/
theorem ob_kp2 {H H' : Hp} {s a : Addr} {z : HO} (e : Kp s H H') (n : a ≠ s) (h : ob K H a = some z) : ob K H' a = some z := by
  unfold ob at h ⊢
  split
  · rename_i o q
    rw [q] at h
    exact h
  · rename_i q
    rw [q] at h
    exact e _ _ n h
theorem Sto.ob {H : Hp} {s : Addr} (h : Sto K H s) : ∃ ys, My.ob K H s = some (.lst ys) := by
  obtain ⟨sc, ns, i, b, c, d, e, f, h⟩ := h
  exact ⟨_, (ob_none h.2.2.2.2.1).trans h.1⟩
theorem tyS_kp {H H' : Hp} {s : Addr} {v : V} (e : Kp s H H') (t : Sto K H' s) (h : (tyN K H v).isSome) : (tyN K H' v).isSome := by
  cases v with
  | ref a =>
    by_cases ha : a = s
    · subst ha
      obtain ⟨ys, hy⟩ := t.ob
      rw [tyN_ref, hy]
      rfl
    · cases hz : ob K H a with
      | none => rw [tyN_ref, hz] at h; cases h
      | some z =>
        rw [tyN_ref, ob_kp2 e ha hz, ← hz]
        exact h
  | _ => exact h
theorem Gd.kp {H H' : Hp} {s : Addr} {v : V} (e : Kp s H H') (t : Sto K H' s) (h : Gd K H v) : Gd K H' v := by
  cases v with
  | ref a =>
    by_cases ha : a = s
    · subst ha
      obtain ⟨ys, hy⟩ := t.ob
      exact gd_lst hy
    · cases hz : ob K H a with
      | none =>
        have := h.ty.1
        rw [tyN_ref, hz] at this
        cases this
      | some z =>
        have hz' := ob_kp2 e ha hz
        refine ⟨⟨tyS_kp e t h.ty.1, fun b xs ev o x hx => ?_⟩, ?_⟩
        · cases ev
          rw [hz'] at o
          exact tyS_kp e t (h.ty.2 a xs rfl (hz.trans o) x hx)
        · have e2 : frOk K H' (.ref a) = frOk K H (.ref a) := by simp only [frOk, hz, hz']
          rw [e2]
          exact h.no
  | _ => exact ⟨⟨h.ty.1, fun _ _ e => by cases e⟩, h.no⟩
/-- a list display of such things -/
theorem lsX {ta : TA} {n : Nat} {R : Hp → V → Prop} {σ : L2.St} {H : Hp} {Q : VK} (mono : ∀ (H H' : Hp) (v : V), Same H H' → R H v → R H' v) (h : MkL R n ta) (hl : n ≤ 100)
    (k : ∀ vs p H', Same H H' → H p = none → K.lookup p = none → vs.length = n → (∀ v ∈ vs, R H' v) → H' p = some (.lst vs) → Q (.ref p) H') : tLs K ta σ H Q :=
  h σ H _ fun vs H1 s1 hn hr => ⟨by rw [sizeLine_eq]; omega, fun p hp kp => k vs p _ (s1.trans (Same.new hp _)) (s1.free hp) kp hn (fun v hv => mono _ _ _ (Same.new hp _) (hr v hv)) upd_same⟩
end
end My

namespace My
open PySem PySem.Spec PyProof.Rows L2
section
variable {P : Program} {w : World} {K : PySem.W.Frag} {mg : Str → Option Value} {base : Heap}
end
/-! ### a call that leaves the last parameter away -/
structure DfnD1 (K : PySem.W.Frag) (mg : Str → Option Value) (x : Str) (st : Stmt) (ps : List Str) (dv : V) : Prop where
  ex : ∃ f fd dvs ds, FunD K x x (defArgs st) (defBody st) (defScope st) dvs [] f fd ∧ mg x = some (.ref f) ∧ Vals [dv] ds ∧ Binds K fd ps ds
structure Kn1 (P : Program) (w : World) (K : PySem.W.Frag) (mg : Str → Option Value) (base : Heap) (k : Nat) (x : Str) (ps : List Str) (sp : Sp) (dv : V) : Prop where
  ex : ∃ f fd ds, mg x = some (.ref f) ∧ PySem.W.keepIn K (.ref f) = true ∧ Vals [dv] ds ∧ Binds K fd ps ds ∧ FnOk P w K mg base CX0 k f fd ps sp
theorem Kn1.mkD {P : Program} {w : World} {K : PySem.W.Frag} {mg : Str → Option Value} {base : Heap} {x : Str} {st : Stmt} {N ps : List Str} {k : Nat} {sp : Sp} {dv : V} (D : DfnD1 K mg x st ps dv) (S : FnScope N ps (defScope st)) (len : ∀ vs H Q E, sp vs H Q E → vs.length = ps.length)
    (hbody : ∀ (f : Addr) (cdv : Value) (A : Around) (outer : List Env) (s : Shared) (H : Hp) (vs : List V) (Q : VK) (E : XK), Room k (A.deeper (envOfC x (defScope st) s.heap.objs.size f cdv)) → sp vs H Q E →
      ∃ t, PSs (cxOf CX0 P w K mg base N x (defScope st) f cdv A outer s H E).nox (defBody st) t ∧ t { nx := fun _ H' => Q .non H', rt := Q } (start N vs) H) : Kn1 P w K mg base (k + 1) x ps sp dv := by
  obtain ⟨f, fd, dvs, ds, F, m, v, b⟩ := D.ex
  exact ⟨f, fd, ds, m, F.kp, v, b, F.ok S len fun cdv A outer s H vs Q E hr h => let ⟨t, a, c⟩ := hbody f cdv A outer s H vs Q E hr h; ⟨t, a.nox, c⟩⟩
section
variable {X : Cx}
theorem pe_kn1 {j k : Nat} {x : Str} {ps : List Str} {sp : Sp} {dv : V} {p pos : Pos} {e : Expr} {es : List Expr} {t : TA} (F : Kn1 X.prog X.w X.K X.mg X.base k x ps sp dv) (hr : Room j X.A) (hg : Gl X x) (ha : PA X (e :: es) t) (hj : k ≤ j := by omega)
    (hdb : (x == ("__debug__" : Str)) = false := by decide) (he : starEach (e :: es) X.env = (false, eval e X.env) :: starEach es X.env := by rfl) (hpl : (backTo pos (starEach es X.env)).any (·.1) = false := by rfl) :
    PE X (.Call (.Name x p) (e :: es) [] pos) (tCall sp [dv] E0 t) := by
  obtain ⟨f, fd, ds, m, kp, v, b, G⟩ := F.ex
  exact pe_call G (hr.mono hj) hg m kp b v pass0 ha hdb he hpl
end
section
variable {P : Program} {w : World} {K : PySem.W.Frag} {mg : Str → Option Value} {base : Heap}
theorem lt1 {u : Nat} (h : u + 64 < cLine) : u + 1 < cLine := by omega
theorem itsO_of {H : Hp} {a : Addr} {xs : List V} (h : ob K H a = some (.tup xs)) : itsO (ob K H a) = some xs := by rw [h]; rfl
theorem itsO_ofL {H : Hp} {a : Addr} {xs : List V} (h : ob K H a = some (.lst xs)) : itsO (ob K H a) = some xs := by rw [h]; rfl
theorem sz2 {n : Nat} (h : n ≤ 100) : n ≤ sizeLine := by rw [sizeLine_eq]; omega
theorem if_no {c : Bool} {A B : Prop} (e : c = false) (h : B) : if c = true then A else B := by
  rw [e, if_neg Bool.noConfusion]
  exact h
theorem if_yes {c : Bool} {A B : Prop} (e : c = true) (h : A) : if c = true then A else B := by
  rw [e, if_pos rfl]
  exact h
/-! ### data of some depth, and copies of it; a dict takes two levels -/
/-- its lists and dicts stand where N says -/
def ShpP (K : PySem.W.Frag) (N : Addr → Prop) (H : Hp) : Nat → (V → Prop) × (V → Prop)
  | 0 => (fun v => scv v = true, fun _ => False)
  | n + 1 => (fun v => scv v = true ∨ (∃ (a : Addr) (xs : List V), v = .ref a ∧ (ob K H a = some (.tup xs) ∨ (N a ∧ ob K H a = some (.lst xs))) ∧ xs.length ≤ 1000 ∧ ∀ x ∈ xs, (ShpP K N H n).1 x) ∨
      (1 ≤ n ∧ ∃ (a : Addr) (ks : List (Key × V)), v = .ref a ∧ N a ∧ ob K H a = some (.dK ks) ∧ ks.length ≤ 1000 ∧ (ks.map (·.1)).Nodup ∧ ∀ p ∈ ks, (ShpP K N H n).2 p.2), (ShpP K N H n).1)
def Shp (K : PySem.W.Frag) (N : Addr → Prop) (H : Hp) (n : Nat) (v : V) : Prop := (ShpP K N H n).1 v
def CpyP (K : PySem.W.Frag) (F : Addr → Prop) (H0 H : Hp) : Nat → (V → V → Prop) × (V → V → Prop)
  | 0 => (fun v w => v = w ∧ scv v = true, fun _ _ => False)
  | n + 1 => (fun v w => (v = w ∧ scv v = true) ∨ (∃ (a b : Addr) (xs ys : List V), v = .ref a ∧ w = .ref b ∧ F b ∧ K.lookup b = none ∧ ((ob K H0 a = some (.tup xs) ∧ H b = some (.tup ys)) ∨ (ob K H0 a = some (.lst xs) ∧ H b = some (.lst ys))) ∧ xs.length = ys.length ∧ ys.length ≤ 1000 ∧ ∀ (i : Nat) x y, xs[i]? = some x → ys[i]? = some y → (CpyP K F H0 H n).1 x y) ∨
      (1 ≤ n ∧ ∃ (a b : Addr) (ks ls : List (Key × V)), v = .ref a ∧ w = .ref b ∧ F b ∧ K.lookup b = none ∧ ob K H0 a = some (.dK ks) ∧ H b = some (.dK ls) ∧ ks.map (·.1) = ls.map (·.1) ∧ ls.length ≤ 1000 ∧ ∀ (i : Nat) p q, ks[i]? = some p → ls[i]? = some q → (CpyP K F H0 H n).2 p.2 q.2), (CpyP K F H0 H n).1)
def Cpy (K : PySem.W.Frag) (F : Addr → Prop) (H0 H : Hp) (n : Nat) (v w : V) : Prop := (CpyP K F H0 H n).1 v w
/-- the three kinds -/
theorem Shp.split {N : Addr → Prop} {H : Hp} {n : Nat} {v : V} (h : Shp K N H n v) : scv v = true ∨ (∃ m, n = m + 1 ∧ ∃ (a : Addr) (xs : List V), v = .ref a ∧ (ob K H a = some (.tup xs) ∨ (N a ∧ ob K H a = some (.lst xs))) ∧ xs.length ≤ 1000 ∧ ∀ x ∈ xs, Shp K N H m x) ∨
    ∃ m, n = m + 2 ∧ ∃ (a : Addr) (ks : List (Key × V)), v = .ref a ∧ N a ∧ ob K H a = some (.dK ks) ∧ ks.length ≤ 1000 ∧ (ks.map (·.1)).Nodup ∧ ∀ p ∈ ks, Shp K N H m p.2 := by
  match n, h with
  | 0, h => exact Or.inl h
  | n + 1, h =>
    rcases h with h | h | ⟨l, h⟩
    · exact Or.inl h
    · exact Or.inr (Or.inl ⟨n, rfl, h⟩)
    · match n, l with
      | m + 1, l => exact Or.inr (Or.inr ⟨m, rfl, h⟩)
theorem Shp.sc {N : Addr → Prop} {H : Hp} {n : Nat} {v : V} (h : scv v = true) : Shp K N H n v := by
  cases n with
  | zero => exact h
  | succ n => exact Or.inl h
theorem Shp.sq {N : Addr → Prop} {H : Hp} {n : Nat} {a : Addr} {xs : List V} (o : ob K H a = some (.tup xs) ∨ (N a ∧ ob K H a = some (.lst xs))) (l : xs.length ≤ 1000) (h : ∀ x ∈ xs, Shp K N H n x) : Shp K N H (n + 1) (.ref a) := Or.inr (Or.inl ⟨a, xs, rfl, o, l, h⟩)
theorem Shp.dk {N : Addr → Prop} {H : Hp} {n : Nat} {a : Addr} {ks : List (Key × V)} (na : N a) (o : ob K H a = some (.dK ks)) (l : ks.length ≤ 1000) (nd : (ks.map (·.1)).Nodup) (h : ∀ p ∈ ks, Shp K N H n p.2) : Shp K N H (n + 2) (.ref a) := Or.inr (Or.inr ⟨by omega, a, ks, rfl, na, o, l, nd, h⟩)
theorem Shp.map {N N' : Addr → Prop} {H H' : Hp} (f : ∀ a, N a → N' a) (e : ∀ (a : Addr) (z : HO), ((∃ xs, z = .tup xs) ∨ N a) → ob K H a = some z → (∀ ps, z ≠ .tbl ps) → ob K H' a = some z) : ∀ {n : Nat} {v : V}, Shp K N H n v → Shp K N' H' n v
  | n, v, h => by
    rcases h.split with h | ⟨m, rfl, a, xs, rfl, o, l, h⟩ | ⟨m, rfl, a, ks, rfl, na, o, l, nd, h⟩
    · exact Shp.sc h
    · exact Shp.sq (o.imp (fun z => e _ _ (.inl ⟨_, rfl⟩) z (fun _ z => by cases z)) (fun z => ⟨f _ z.1, e _ _ (.inr z.1) z.2 (fun _ z => by cases z)⟩)) l fun x hx => Shp.map f e (h x hx)
    · exact Shp.dk (f _ na) (e _ _ (.inr na) o (fun _ z => by cases z)) l nd fun p hp => Shp.map f e (h p hp)
theorem Shp.same {N : Addr → Prop} {H H' : Hp} (e : Same H H') {n : Nat} {v : V} (h : Shp K N H n v) : Shp K N H' n v := Shp.map (fun _ z => z) (fun _ _ _ o _ => ob_same e o) h
theorem Shp.weak {N N' : Addr → Prop} {H : Hp} (f : ∀ a, N a → N' a) {n : Nat} {v : V} (h : Shp K N H n v) : Shp K N' H n v := Shp.map f (fun _ _ _ o _ => o) h
theorem tup_ne {H : Hp} {s a : Addr} {xs : List V} (st : Sto K H s) (o : ob K H a = some (.tup xs)) : a ≠ s := by
  rintro rfl
  obtain ⟨ys, hy⟩ := st.ob
  rw [hy] at o
  cases o
theorem Shp.kp {N : Addr → Prop} {s : Addr} {H H' : Hp} (e : Kp s H H') (st : Sto K H s) (f : ∀ a, N a → a ≠ s) {n : Nat} {v : V} (h : Shp K N H n v) : Shp K N H' n v := Shp.map (fun _ z => z) (fun a z k o _ => ob_kp2 e (by
  rcases k with ⟨xs, rfl⟩ | k
  · exact tup_ne st o
  · exact f a k) o) h
theorem Shp.up {N : Addr → Prop} {H : Hp} : ∀ {n : Nat} {v : V}, Shp K N H n v → Shp K N H (n + 1) v
  | n, v, h => by
    rcases h.split with h | ⟨m, rfl, a, xs, rfl, o, l, h⟩ | ⟨m, rfl, a, ks, rfl, na, o, l, nd, h⟩
    · exact Shp.sc h
    · exact Shp.sq o l fun x hx => Shp.up (h x hx)
    · exact Shp.dk na o l nd fun p hp => Shp.up (h p hp)
theorem Shp.le {N : Addr → Prop} {H : Hp} {n m : Nat} {v : V} (h : Shp K N H n v) (l : n ≤ m) : Shp K N H m v := by
  induction l with
  | refl => exact h
  | step _ ih => exact ih.up
theorem Shp.ty {N : Addr → Prop} {H : Hp} {n : Nat} {v : V} (h : Shp K N H n v) : (tyN K H v).isSome := by
  rcases h.split with h | ⟨m, rfl, a, xs, rfl, o | ⟨_, o⟩, _⟩ | ⟨m, rfl, a, ks, rfl, na, o, _⟩
  · cases v <;> first | rfl | cases h
  · rw [tyN_ref, o]; rfl
  · rw [tyN_ref, o]; rfl
  · rw [tyN_ref, o]; rfl
theorem Shp.tyd {N : Addr → Prop} {H : Hp} {n : Nat} {v : V} (h : Shp K N H n v) : Tyd K H v := by
  refine ⟨h.ty, fun b ys e oy x hx => ?_⟩
  subst e
  rcases h.split with h | ⟨m, rfl, a, xs, e, o | ⟨_, o⟩, l, hs⟩ | ⟨m, rfl, a, ks, e, na, o, _⟩
  · cases h
  · cases e
    rw [o] at oy
    cases oy
    exact (hs x hx).ty
  · cases e
    rw [o] at oy
    cases oy
  · cases e
    rw [o] at oy
    cases oy
/-- a fraction, or any tuple of plain things -/
theorem Shp.tupsc {N : Addr → Prop} {H : Hp} {n : Nat} {a : Addr} {xs : List V} (o : ob K H a = some (.tup xs)) (l : xs.length ≤ 1000) (h : ∀ x ∈ xs, scv x = true) : Shp K N H (n + 1) (.ref a) := Shp.sq (.inl o) l fun x hx => Shp.sc (h x hx)
theorem Cpy.sc {F : Addr → Prop} {H0 H : Hp} {n : Nat} {v : V} (h : scv v = true) : Cpy K F H0 H n v v := by
  cases n with
  | zero => exact ⟨rfl, h⟩
  | succ n => exact Or.inl ⟨rfl, h⟩
theorem Cpy.split {F : Addr → Prop} {H0 H : Hp} {n : Nat} {v w : V} (h : Cpy K F H0 H n v w) : (v = w ∧ scv v = true) ∨ (∃ m, n = m + 1 ∧ ∃ (a b : Addr) (xs ys : List V), v = .ref a ∧ w = .ref b ∧ F b ∧ K.lookup b = none ∧ ((ob K H0 a = some (.tup xs) ∧ H b = some (.tup ys)) ∨ (ob K H0 a = some (.lst xs) ∧ H b = some (.lst ys))) ∧ xs.length = ys.length ∧ ys.length ≤ 1000 ∧ ∀ (i : Nat) x y, xs[i]? = some x → ys[i]? = some y → Cpy K F H0 H m x y) ∨
    ∃ m, n = m + 2 ∧ ∃ (a b : Addr) (ks ls : List (Key × V)), v = .ref a ∧ w = .ref b ∧ F b ∧ K.lookup b = none ∧ ob K H0 a = some (.dK ks) ∧ H b = some (.dK ls) ∧ ks.map (·.1) = ls.map (·.1) ∧ ls.length ≤ 1000 ∧ ∀ (i : Nat) p q, ks[i]? = some p → ls[i]? = some q → Cpy K F H0 H m p.2 q.2 := by
  match n, h with
  | 0, h => exact Or.inl h
  | n + 1, h =>
    rcases h with h | h | ⟨l, h⟩
    · exact Or.inl h
    · exact Or.inr (Or.inl ⟨n, rfl, h⟩)
    · match n, l with
      | m + 1, l => exact Or.inr (Or.inr ⟨m, rfl, h⟩)
theorem Cpy.sq {F : Addr → Prop} {H0 H : Hp} {n : Nat} {a b : Addr} {xs ys : List V} (f : F b) (kb : K.lookup b = none) (o : (ob K H0 a = some (.tup xs) ∧ H b = some (.tup ys)) ∨ (ob K H0 a = some (.lst xs) ∧ H b = some (.lst ys))) (l : xs.length = ys.length) (l2 : ys.length ≤ 1000) (h : ∀ (i : Nat) x y, xs[i]? = some x → ys[i]? = some y → Cpy K F H0 H n x y) : Cpy K F H0 H (n + 1) (.ref a) (.ref b) := Or.inr (Or.inl ⟨a, b, xs, ys, rfl, rfl, f, kb, o, l, l2, h⟩)
theorem Cpy.dk {F : Addr → Prop} {H0 H : Hp} {n : Nat} {a b : Addr} {ks ls : List (Key × V)} (f : F b) (kb : K.lookup b = none) (o : ob K H0 a = some (.dK ks)) (o2 : H b = some (.dK ls)) (l : ks.map (·.1) = ls.map (·.1)) (l2 : ls.length ≤ 1000) (h : ∀ (i : Nat) p q, ks[i]? = some p → ls[i]? = some q → Cpy K F H0 H n p.2 q.2) : Cpy K F H0 H (n + 2) (.ref a) (.ref b) := Or.inr (Or.inr ⟨by omega, a, b, ks, ls, rfl, rfl, f, kb, o, o2, l, l2, h⟩)
/-- the copy was made of what stood already -/
theorem Cpy.back {N : Addr → Prop} {F : Addr → Prop} {H H' H2 : Hp} (e : Same H H') : ∀ {n : Nat} {v w : V}, Shp K N H n v → Cpy K F H' H2 n v w → Cpy K F H H2 n v w
  | n, v, w, sh, c => by
    rcases c.split with ⟨rfl, h⟩ | ⟨m, rfl, a, b, xs, ys, rfl, rfl, f, kb, o, l, l2, h⟩ | ⟨m, rfl, a, b, ks, ls, rfl, rfl, f, kb, o, o2, l, l2, h⟩
    · exact Cpy.sc h
    · rcases sh.split with z | ⟨m', e', a', xs', ea, o', _, hs⟩ | ⟨m', e', a', ks', ea, na, o', _⟩
      · cases z
      · cases ea
        obtain rfl : m = m' := by omega
        have o' := o'.imp id And.right
        have ex : xs = xs' := by rcases o with o | o <;> rcases o' with o' | o' <;> (have z := (ob_same e o').symm.trans o.1; cases z <;> rfl)
        subst ex
        exact Cpy.sq f kb (by rcases o with o | o <;> rcases o' with o' | o' <;> first | exact Or.inl ⟨o', o.2⟩ | exact Or.inr ⟨o', o.2⟩ | (have z := (ob_same e o').symm.trans o.1; cases z)) l l2 fun i x y hx hy => Cpy.back e (hs x (List.mem_of_getElem? hx)) (h i x y hx hy)
      · cases ea
        rcases o with o | o <;> (have z := (ob_same e o').symm.trans o.1; cases z)
    · rcases sh.split with z | ⟨m', e', a', xs', ea, o', _, hs⟩ | ⟨m', e', a', ks', ea, na, o', _, _, hs⟩
      · cases z
      · cases ea
        rcases o' with o' | ⟨_, o'⟩ <;> (have z := (ob_same e o').symm.trans o; cases z)
      · cases ea
        obtain rfl : m = m' := by omega
        have z := (ob_same e o').symm.trans o
        cases z
        exact Cpy.dk f kb o' o2 l l2 fun i p q hp hq => Cpy.back e (hs p (List.mem_of_getElem? hp)) (h i p q hp hq)
/-- the copy's own objects stay -/
theorem Cpy.imp {F F' : Addr → Prop} {H0 H H' : Hp} (f : ∀ b, F b → F' b) (e : ∀ b o, F b → H b = some o → H' b = some o) : ∀ {n : Nat} {v w : V}, Cpy K F H0 H n v w → Cpy K F' H0 H' n v w
  | n, v, w, c => by
    rcases c.split with ⟨rfl, h⟩ | ⟨m, rfl, a, b, xs, ys, rfl, rfl, fb, kb, o, l, l2, h⟩ | ⟨m, rfl, a, b, ks, ls, rfl, rfl, fb, kb, o, o2, l, l2, h⟩
    · exact Cpy.sc h
    · exact Cpy.sq (f _ fb) kb (o.imp (fun z => ⟨z.1, e _ _ fb z.2⟩) (fun z => ⟨z.1, e _ _ fb z.2⟩)) l l2 fun i x y hx hy => Cpy.imp f e (h i x y hx hy)
    · exact Cpy.dk (f _ fb) kb o (e _ _ fb o2) l l2 fun i p q hp hq => Cpy.imp f e (h i p q hp hq)
theorem Cpy.eqv {F : Addr → Prop} {H0 H : Hp} (e : Same H0 H) : ∀ {n : Nat} {v w : V}, Cpy K F H0 H n v w → Eqv K H n v w
  | n, v, w, c => by
    rcases c.split with ⟨rfl, h⟩ | ⟨m, rfl, a, b, xs, ys, rfl, rfl, fb, kb, o, l, l2, h⟩ | ⟨m, rfl, a, b, ks, ls, rfl, rfl, fb, kb, o, o2, l, l2, h⟩
    · cases n with
      | zero => exact ⟨rfl, h⟩
      | succ n => exact Or.inl ⟨rfl, h⟩
    · exact Or.inr (Or.inl ⟨a, b, xs, ys, rfl, rfl, o.imp (fun z => ⟨ob_same e z.1, (ob_none kb).trans z.2⟩) (fun z => ⟨ob_same e z.1, (ob_none kb).trans z.2⟩), l, l2, fun i x y hx hy => Cpy.eqv e (h i x y hx hy)⟩)
    · exact Or.inr (Or.inr ⟨by omega, a, b, ks, ls, rfl, rfl, ob_same e o, (ob_none kb).trans o2, l, l2, fun i p q hp hq => Cpy.eqv e (h i p q hp hq)⟩)
def Dq (K : PySem.W.Frag) (H : Hp) : Nat → V → Prop
  | 0, v => scv v = true
  | q + 1, v => scv v = true ∨ (∃ (a : Addr) (xs : List V), v = .ref a ∧ (ob K H a = some (.tup xs) ∨ ob K H a = some (.lst xs)) ∧ ∀ x ∈ xs, Dq K H q x) ∨ ∃ (a : Addr) (ks : List (Key × V)), v = .ref a ∧ ob K H a = some (.dK ks) ∧ ∀ p ∈ ks, Dq K H q p.2
theorem Dq.sc {H : Hp} {v : V} (h : scv v = true) : ∀ q : Nat, Dq K H q v
  | 0 => h
  | _ + 1 => .inl h
theorem Dq.map {H H' : Hp} (e : ∀ (a : Addr) (z : HO), ob K H a = some z → (tyO (some z)).isSome → ob K H' a = some z) : ∀ {q : Nat} {v : V}, Dq K H q v → Dq K H' q v
  | 0, _, h => h
  | q + 1, _, .inl h => .inl h
  | q + 1, _, .inr (.inl ⟨a, xs, rfl, o, hx⟩) => .inr (.inl ⟨a, xs, rfl, o.imp (fun o => e a _ o rfl) (fun o => e a _ o rfl), fun x hx' => (hx x hx').map e⟩)
  | q + 1, _, .inr (.inr ⟨a, ks, rfl, o, hx⟩) => .inr (.inr ⟨a, ks, rfl, e a _ o rfl, fun p hp => (hx p hp).map e⟩)
theorem Dq.same {H H' : Hp} {q : Nat} {v : V} (h : Dq K H q v) (e : Same H H') : Dq K H' q v := h.map fun _ _ o _ => ob_same e o
theorem Dq.items {H : Hp} {q : Nat} {a : Addr} {xs : List V} (h : Dq K H q (.ref a)) (o : ob K H a = some (.tup xs) ∨ ob K H a = some (.lst xs)) : ∃ q', q = q' + 1 ∧ ∀ x ∈ xs, Dq K H q' x := by
  match q, h with
  | 0, h => cases h
  | q + 1, .inl h => cases h
  | q + 1, .inr (.inl ⟨b, ys, e, o', hx⟩) =>
    cases e
    refine ⟨q, rfl, ?_⟩
    rcases o with o | o <;> rcases o' with o' | o' <;> rw [o] at o' <;> cases o' <;> exact hx
  | q + 1, .inr (.inr ⟨b, ks, e, o', hx⟩) =>
    cases e
    rcases o with o | o <;> rw [o] at o' <;> cases o'
theorem Dq.vals {H : Hp} {q : Nat} {a : Addr} {ks : List (Key × V)} (h : Dq K H q (.ref a)) (o : ob K H a = some (.dK ks)) : ∃ q', q = q' + 1 ∧ ∀ p ∈ ks, Dq K H q' p.2 := by
  match q, h with
  | 0, h => cases h
  | q + 1, .inl h => cases h
  | q + 1, .inr (.inl ⟨b, ys, e, o', hx⟩) =>
    cases e
    rcases o' with o' | o' <;> rw [o] at o' <;> cases o'
  | q + 1, .inr (.inr ⟨b, ls, e, o', hx⟩) =>
    cases e
    rw [o] at o'
    cases o'
    exact ⟨q, rfl, hx⟩
def spK (K : PySem.W.Frag) (n : Nat) : Sp := fun vs H Q _ => ∃ (N : Addr → Prop) (v : V) (d : Int) (m q : Nat), vs = [v, .int d] ∧ m < n ∧ Shp K N H m v ∧ Dq K H q v ∧ (q : Int) < d ∧ ∀ w H', Same H H' → Cpy K (fun b => H b = none) H H' m v w → Q w H'
theorem valV_nd : ∀ {ks : List (Key × V)} {i : Nat} {r : Key × V}, (ks.map (·.1)).Nodup → ks[i]? = some r → valV ks r.1 = some r.2
  | [], i, r, _, h => by simp at h
  | p :: ks, 0, r, _, h => by
    cases h
    exact valV_pos rfl
  | p :: ks, i + 1, r, nd, h => by
    rw [List.map_cons, List.nodup_cons] at nd
    have h' : ks[i]? = some r := h
    rw [valV_neg (fun e => nd.1 (by rw [e]; exact List.mem_map.mpr ⟨r, List.mem_of_getElem? h', rfl⟩))]
    exact valV_nd nd.2 h'
theorem putK_new {acc : List (Key × V)} {k : Key} {v : V} (h : k ∉ acc.map (·.1)) : putK acc k v = acc ++ [(k, v)] := by
  unfold putK
  rw [if_neg]
  intro z
  obtain ⟨p, hp, e⟩ := List.any_eq_true.mp z
  exact h (List.mem_map.mpr ⟨p, hp, of_decide_eq_true e⟩)
theorem nd_take : ∀ {l : List Key} {i : Nat} {k : Key}, l.Nodup → l[i]? = some k → k ∉ l.take i
  | l, i, k, nd, h, hm => by
    obtain ⟨j, hj⟩ := List.mem_iff_getElem?.mp hm
    rw [List.getElem?_take] at hj
    split at hj
    · rename_i hlt
      have := (List.getElem?_inj (List.getElem?_eq_some_iff.mp hj).1 nd).mp (hj.trans h.symm)
      omega
    · cases hj
def KcI (K : PySem.W.Frag) (D : Addr) (xs : List V) (n : Nat) (H0 : Hp) (i : Nat) (H' : Hp) : Prop := ∃ acc : List V, acc.length = i ∧ H' D = some (.lst acc) ∧ Same H0 H' ∧ ∀ (j : Nat) x y, xs[j]? = some x → acc[j]? = some y → Cpy K (fun b => H0 b = none ∧ b ≠ D) H0 H' n x y
/-- the copied part of a dict -/
def KdI (K : PySem.W.Frag) (a p : Addr) (l : Addr) (d : Int) (ks : List (Key × V)) (n : Nat) (H0 : Hp) (i : Nat) (σ : L2.St) (H' : Hp) : Prop := ∃ (kv : Option V) (acc : List (Key × V)), σ = [some (.ref a), some (.int d), some (.ref p), kv, none] ∧ acc.map (·.1) = (ks.take i).map (·.1) ∧ H' p = some (.dK acc) ∧ H' l = some (.lst (ks.map fun kv => kV kv.1)) ∧ Same H0 H' ∧ ∀ (j : Nat) x y, ks[j]? = some x → acc[j]? = some y → Cpy K (fun b => H0 b = none ∧ b ≠ p) H0 H' n x.2 y.2
end
end My

namespace My
open PySem PySem.Spec PyProof.Rows L2
section
variable {P : Program} {w : World} {K : PySem.W.Frag} {mg : Str → Option Value} {base : Heap}
abbrev sKept : Stmt := topS 59
theorem scKept : FnScope ["_law_thing", "_law_deep", "_law_out", "_law_key", "_law_item"] ["_law_thing", "_law_deep"] (defScope sKept) := ⟨rfl, rfl, rfl, by decide +kernel, rfl, by decide +kernel, by decide +kernel⟩
theorem blk_scKept_0 : BlkOk ["_law_thing", "_law_deep", "_law_out", "_law_key", "_law_item"] (defScope sKept) { kind := .function, names := [(".0", .local), ("_law_item", .local), ("_law_kept", .globalImplicit), ("_law_deep", .free)], isGenerator := false, isCoroutine := false, more := [] } [("_law_item", 4)] := ⟨rfl, by decide +kernel, by decide +kernel, by decide +kernel, by decide +kernel⟩
theorem blk_scKept_1 : BlkOk ["_law_thing", "_law_deep", "_law_out", "_law_key", "_law_item"] (defScope sKept) { kind := .function, names := [(".0", .local), ("_law_item", .local), ("_law_kept", .globalImplicit), ("_law_deep", .free)], isGenerator := false, isCoroutine := false, more := [] } [("_law_item", 4)] := ⟨rfl, by decide +kernel, by decide +kernel, by decide +kernel, by decide +kernel⟩
theorem k_Kept (n : Nat) (T : Bt K mg) (D : DfnD K mg "_law_kept" sKept ["_law_thing", "_law_deep"]) (d__law_kept : Kn P w K mg base (n + 1) "_law_kept" ["_law_thing", "_law_deep"] (spK K n)) : Kn P w K mg base (n + 2) "_law_kept" ["_law_thing", "_law_deep"] (spK K (n + 1)) := by
  refine Kn.mkD D scKept (fun vs H Q E h => ?_) (fun f cdv A outer s H vs Q E hr h => ?_)
  · obtain ⟨N, v, d, m, q0, rfl, _⟩ := h
    rfl
  obtain ⟨N, v, d, m, q0, rfl, mn, hv, hq, hd, k⟩ := h
  refine ⟨_, (pss_cons (ps_if (pt_cmpR op_eq (pv 1) pe_int (nomark _)) (pss_one (ps_ret (pv 0))) pss_nil)
      (pss_cons (ps_if (pt_val (pe_callB call_isN (by rfl) T.b_isinstance (by decide +kernel) (pa_cons (pv 0) (pa_cons (pe_bltn (v := .ty "list") (by rfl) T.b_list (by decide +kernel) rfl) pa_nil)))) (pss_one (ps_ret (pe_fr (pe_lc (own := [("_law_item", 4)]) (g := gName 4) (te := (tCall (spK K n) [] E0 (tCons (tVar 4) (tCons (tOp (rI0 fun i j => V.int (i - j)) (tVar 1) (tC (.int 1))) L2.tNil)))) rfl scKept.nd (pi_list (pv 0)) blk_scKept_0 (fun _ _ _ _ _ => by exact pg_name (i := 4) scKept.nd rfl (.inl rfl)) (fun _ _ _ _ _ => pts_nil) (fun _ _ _ _ _ => by exact (pe_kn d__law_kept hr (by rfl) (pa_cons (pv 4) (pa_cons (pe_op op_sub (pv 1) pe_int) pa_nil)))))))) pss_nil)
      (pss_cons (ps_if (pt_val (pe_callB call_isN (by rfl) T.b_isinstance (by decide +kernel) (pa_cons (pv 0) (pa_cons (pe_bltn (v := .ty "tuple") (by rfl) T.b_tuple (by decide +kernel) rfl) pa_nil)))) (pss_one (ps_ret (pe_fr (pe_callTy call_tuple_of (by rfl) T.b_tuple (by decide +kernel) (pa_cons (pe_fr (pe_lc (own := [("_law_item", 4)]) (g := gName 4) (te := (tCall (spK K n) [] E0 (tCons (tVar 4) (tCons (tOp (rI0 fun i j => V.int (i - j)) (tVar 1) (tC (.int 1))) L2.tNil)))) rfl scKept.nd (pi_tup (pv 0)) blk_scKept_1 (fun _ _ _ _ _ => by exact pg_name (i := 4) scKept.nd rfl (.inl rfl)) (fun _ _ _ _ _ => pts_nil) (fun _ _ _ _ _ => by exact (pe_kn d__law_kept hr (by rfl) (pa_cons (pv 4) (pa_cons (pe_op op_sub (pv 1) pe_int) pa_nil)))))) pa_nil))))) pss_nil)
      (pss_cons (ps_if (pt_val (pe_callB call_isN (by rfl) T.b_isinstance (by decide +kernel) (pa_cons (pv 0) (pa_cons (pe_bltn (v := .ty "dict") (by rfl) T.b_dict (by decide +kernel) rfl) pa_nil)))) (pss_cons (ps_set (i := 2) scKept.nd rfl (.inl rfl) pe_dn)
      (pss_cons (ps_for PassesOwn.never rfl (pi_list (pe_fr (pe_callTy (call_list_dK rfl) (by rfl) T.b_list (by decide +kernel) (pa_cons (pv 0) pa_nil)))) (pg_name (i := 3) scKept.nd rfl (.inl rfl)) (pss_one (ps_dput (lt1 hr.units) (pv 2) (pv 3) (pe_kn d__law_kept hr (by rfl) (pa_cons (pe_dget (lt1 hr.units) (pv 0) (pv 3) (fun _ _ => rfl)) (pa_cons (pe_op op_sub (pv 1) pe_int) pa_nil))) rfl)))
      (pss_one (ps_ret (pv 2))))) pss_nil)
      (pss_one (ps_ret (pv 0))))))), ?_⟩
  have hd0 : d ≠ 0 := by omega
  refine ⟨_, rfl, rfl, _, rfl, if_no (decide_eq_false fun z => hd0 (V.int.inj z)) ?_⟩
  rcases hv.split with hs | ⟨m, rfl, a, xs, rfl, ho, hl, hx⟩ | ⟨m, rfl, a, ks, rfl, na, oa, hl, nd, hx⟩
  · have c : Cpy K (fun b => H b = none) H H m v v := Cpy.sc hs
    have ty : ∃ t, tyN K H v = some t ∧ isB t "list" = false ∧ isB t "tuple" = false ∧ isB t "dict" = false := by
      cases v with
      | non => exact ⟨_, rfl, rfl, rfl, rfl⟩
      | bl b => exact ⟨_, rfl, rfl, rfl, rfl⟩
      | int i => exact ⟨_, rfl, rfl, rfl, rfl⟩
      | str z => exact ⟨_, rfl, rfl, rfl, rfl⟩
      | _ => cases hs
    obtain ⟨t, ht, t1, t2, t3⟩ := ty
    refine ⟨_, rfl, _, _, rfl, by decide, _, ht, _, rfl, if_no t1 ⟨_, rfl, _, _, rfl, by decide, _, ht, _, rfl, if_no t2 ⟨_, rfl, _, _, rfl, by decide, _, ht, _, rfl, if_no t3 ⟨_, rfl, k v H (Same.refl H) c⟩⟩⟩⟩
  · rcases ho with oa | ⟨_, oa⟩
    · obtain ⟨q', rfl, hqx⟩ := hq.items (.inl oa)
      have ty : tyN K H (.ref a) = some "tuple" := by rw [tyN_ref, oa]; rfl
      refine ⟨_, rfl, _, _, rfl, by decide, _, ty, _, rfl, if_no rfl ⟨_, rfl, _, _, rfl, by decide, _, ty, _, rfl, if_yes rfl ?_⟩⟩
      have hsq := ob_tup oa
      refine ⟨_, rfl, a, rfl, ⟨xs, hsq⟩, fun D hD => lc_tup (xs := xs) (KcI K D xs m H) ⟨[], rfl, upd_same, Same.new hD _, fun j x y _ hy => by simp at hy⟩ (fun i H' _ h => ?_) ?_ ?_⟩
      · obtain ⟨_, _, _, s2, _⟩ := h
        exact Same.seqT s2 hsq
      · rintro i x H' hi ⟨acc, al, hacc, s2, hc⟩
        refine ⟨rfl, ?_⟩
        simp only [tYes, if_true]
        have il := (List.getElem?_eq_some_iff.mp hi).1
        have hxm := hx x (List.mem_of_getElem? hi)
        refine ⟨_, rfl, _, rfl, _, _, rfl, rfl, N, x, d - 1, m, q', rfl, by omega, hxm.same s2, (hqx x (List.mem_of_getElem? hi)).same s2, by omega, fun w H3 s3 cp => ?_⟩
        refine ⟨acc, s3 _ _ hacc, by rw [al, sizeLine_eq]; omega, acc ++ [w], by rw [List.length_append, al]; rfl, upd_same, fun c o e => by rw [upd_ne (ne_of_none e hD)]; exact s3 _ _ (s2 _ _ e), fun j x' y hj hy => ?_⟩
        rcases Nat.lt_or_ge j acc.length with hlt | hge
        · rw [List.getElem?_append_left hlt] at hy
          exact (hc j x' y hj hy).imp (fun b h => h) fun b o h e => by rw [upd_ne h.2]; exact s3 _ _ e
        · rw [List.getElem?_append_right hge] at hy
          have : j - acc.length = 0 := by
            have := (List.getElem?_eq_some_iff.mp hy).1
            rw [List.length_singleton] at this
            omega
          rw [this] at hy
          cases hy
          have ej : j = i := by omega
          subst ej
          rw [hi] at hj
          cases hj
          exact (Cpy.back s2 hxm cp).imp (fun b h => ⟨s2.free h, fun e => by rw [e, hacc] at h; cases h⟩) fun b o h e => by rw [upd_ne (fun z => by rw [z, hacc] at h; cases h)]; exact e
      · rintro H' ⟨acc, al, hacc, s2, hc⟩ fr1
        refine ⟨D, acc, rfl, .inl ⟨.of hacc, fun p hp fr2 => ?_⟩⟩
        have sp := Same.new hp (.tup acc)
        refine k (.ref p) _ (s2.trans sp) (Cpy.sq (s2.free hp) (fr2 p (by rw [upd_same]; simp)) (.inl ⟨oa, upd_same⟩) al.symm (by omega) fun i x y hxi hyi => (hc i x y hxi hyi).imp (fun b h => h.1) fun b o _ e => sp _ _ e)
    · obtain ⟨q', rfl, hqx⟩ := hq.items (.inr oa)
      have ty : tyN K H (.ref a) = some "list" := by rw [tyN_ref, oa]; rfl
      refine ⟨_, rfl, _, _, rfl, by decide, _, ty, _, rfl, if_yes rfl ?_⟩
      have hsq := ob_lst oa
      obtain ⟨ha, ka⟩ := ob_H oa fun _ z => by cases z
      refine ⟨_, rfl, a, rfl, ⟨xs, hsq⟩, fun D hD => lc_list (xs := xs) (KcI K D xs m H) ⟨[], rfl, upd_same, Same.new hD _, fun j x y _ hy => by simp at hy⟩ (fun i H' _ h => ?_) ?_ ?_⟩
      · obtain ⟨_, _, _, s2, _⟩ := h
        exact .of (s2 _ _ ha)
      · rintro i x H' hi ⟨acc, al, hacc, s2, hc⟩
        refine ⟨rfl, ?_⟩
        simp only [tYes, if_true]
        have il := (List.getElem?_eq_some_iff.mp hi).1
        have hxm := hx x (List.mem_of_getElem? hi)
        refine ⟨_, rfl, _, rfl, _, _, rfl, rfl, N, x, d - 1, m, q', rfl, by omega, hxm.same s2, (hqx x (List.mem_of_getElem? hi)).same s2, by omega, fun w H3 s3 cp => ?_⟩
        refine ⟨acc, s3 _ _ hacc, by rw [al, sizeLine_eq]; omega, acc ++ [w], by rw [List.length_append, al]; rfl, upd_same, fun c o e => by rw [upd_ne (ne_of_none e hD)]; exact s3 _ _ (s2 _ _ e), fun j x' y hj hy => ?_⟩
        rcases Nat.lt_or_ge j acc.length with hlt | hge
        · rw [List.getElem?_append_left hlt] at hy
          exact (hc j x' y hj hy).imp (fun b h => h) fun b o h e => by rw [upd_ne h.2]; exact s3 _ _ e
        · rw [List.getElem?_append_right hge] at hy
          have : j - acc.length = 0 := by
            have := (List.getElem?_eq_some_iff.mp hy).1
            rw [List.length_singleton] at this
            omega
          rw [this] at hy
          cases hy
          have ej : j = i := by omega
          subst ej
          rw [hi] at hj
          cases hj
          exact (Cpy.back s2 hxm cp).imp (fun b h => ⟨s2.free h, fun e => by rw [e, hacc] at h; cases h⟩) fun b o h e => by rw [upd_ne (fun z => by rw [z, hacc] at h; cases h)]; exact e
      · rintro H' ⟨acc, al, hacc, s2, hc⟩ fr1
        exact k (.ref D) H' s2 (Cpy.sq hD (fr1 D (by rw [hacc]; simp)) (.inr ⟨oa, hacc⟩) al.symm (by omega) fun i x y hxi hyi => (hc i x y hxi hyi).imp (fun b h => h.1) fun b o _ e => e)
  · obtain ⟨q', rfl, hqx⟩ := hq.vals oa
    have ty : tyN K H (.ref a) = some "dict" := by rw [tyN_ref, oa]; rfl
    obtain ⟨ha, ka⟩ := ob_H oa fun _ z => by cases z
    refine ⟨_, rfl, _, _, rfl, by decide, _, ty, _, rfl, if_no rfl ⟨_, rfl, _, _, rfl, by decide, _, ty, _, rfl, if_no rfl ⟨_, rfl, _, _, rfl, by decide, _, ty, _, rfl, if_yes rfl ?_⟩⟩⟩
    refine fun p hp kp => ?_
    have s1 := Same.new hp (.dK [])
    refine ⟨_, rfl, a, ks, rfl, s1 _ _ ha, fun l hl1 fr => ?_⟩
    have s2 := Same.new hl1 (.lst (ks.map fun kv => kV kv.1))
    have npl : p ≠ l := fun e => by rw [← e, upd_same] at hl1; cases hl1
    have hl0 : H l = none := s1.free hl1
    refine ⟨l, rfl, ⟨_, .of upd_same⟩, forI_list (xs := ks.map fun kv => kV kv.1) (KdI K a p l d ks m H) ⟨none, [], rfl, rfl, by rw [upd_ne npl, upd_same], upd_same, s1.trans s2, fun j x y _ hy => by simp at hy⟩ (fun i σ H' _ h => ?_) ?_ ?_⟩
    · obtain ⟨kv, acc, _, _, _, h5, _⟩ := h
      exact .of h5
    · rintro i x σ H' hi ⟨kv, acc, rfl, ek, hp', hl', s3, hc⟩
      rw [List.getElem?_map] at hi
      obtain ⟨r, hr, rfl⟩ := Option.map_eq_some_iff.mp hi
      have il := (List.getElem?_eq_some_iff.mp hr).1
      have al : acc.length = i := by
        have z := congrArg List.length ek
        rw [List.length_map, List.length_map, List.length_take] at z
        omega
      have hrm := hx r (List.mem_of_getElem? hr)
      have nk : r.1 ∉ acc.map (·.1) := by
        rw [ek, List.map_take]
        exact nd_take nd (by rw [List.getElem?_map, hr]; rfl)
      have dg : DGet H' a (kV r.1) (some r.2) := by
        have z := DGet.k (k := r.1) (s3 _ _ ha)
        rw [valV_nd nd hr] at z
        exact z
      refine ⟨_, rfl, _, rfl, a, r.2, rfl, dg, _, rfl, _, _, rfl, rfl, N, r.2, d - 1, m, q', rfl, by omega, hrm.same s3, (hqx r (List.mem_of_getElem? hr)).same s3, by omega, fun w H3 s4 cp => ⟨_, rfl, _, rfl, p, _, rfl, DPut.k (s4 _ _ hp') (by rw [al, sizeLine_eq]; omega), ?_⟩⟩
      rw [putK_new nk]
      have hp0 : ∀ o, H p = some o → False := fun o e => by rw [hp] at e; cases e
      refine ⟨_, acc ++ [(r.1, w)], rfl, ?_, upd_same, by rw [upd_ne (Ne.symm npl)]; exact s4 _ _ hl', fun c o e => by rw [upd_ne (ne_of_none e hp)]; exact s4 _ _ (s3 _ _ e), fun j x' y hj hy => ?_⟩
      · have e2 : ks.take (i + 1) = ks.take i ++ [r] := by rw [List.take_add_one, hr]; rfl
        rw [e2, List.map_append, List.map_append, ek]
        rfl
      rcases Nat.lt_or_ge j acc.length with hlt | hge
      · rw [List.getElem?_append_left hlt] at hy
        exact (hc j x' y hj hy).imp (fun b h => h) fun b o h e => by rw [upd_ne h.2]; exact s4 _ _ e
      · rw [List.getElem?_append_right hge] at hy
        have z0 : j - acc.length = 0 := by
          have := (List.getElem?_eq_some_iff.mp hy).1
          rw [List.length_singleton] at this
          omega
        rw [z0] at hy
        cases hy
        have ej : j = i := by omega
        subst ej
        rw [hr] at hj
        cases hj
        exact (Cpy.back s3 hrm cp).imp (fun b h => ⟨s3.free h, fun e => by rw [e, hp'] at h; cases h⟩) fun b o h e => by rw [upd_ne (fun z => by rw [z, hp'] at h; cases h)]; exact e
    · rintro σ H' ⟨kv, acc, rfl, ek, hp', hl', s3, hc⟩
      rw [List.length_map, List.take_length] at ek
      refine ⟨_, rfl, k (.ref p) H' s3 (Cpy.dk hp kp oa hp' ek.symm ?_ fun i x y hxi hyi => (hc i x y hxi hyi).imp (fun b h => h.1) fun b o _ e => e)⟩
      have z := congrArg List.length ek
      rw [List.length_map, List.length_map] at z
      omega

theorem k_Kept1 (n : Nat) (T : Bt K mg) (D : DfnD1 K mg "_law_kept" sKept ["_law_thing", "_law_deep"] (.int 24)) (d__law_kept : Kn P w K mg base (n + 1) "_law_kept" ["_law_thing", "_law_deep"] (spK K n)) : Kn1 P w K mg base (n + 2) "_law_kept" ["_law_thing", "_law_deep"] (spK K (n + 1)) (.int 24) := by
  refine Kn1.mkD D scKept (fun vs H Q E h => ?_) (fun f cdv A outer s H vs Q E hr h => ?_)
  · obtain ⟨N, v, d, m, q0, rfl, _⟩ := h
    rfl
  obtain ⟨N, v, d, m, q0, rfl, mn, hv, hq, hd, k⟩ := h
  refine ⟨_, (pss_cons (ps_if (pt_cmpR op_eq (pv 1) pe_int (nomark _)) (pss_one (ps_ret (pv 0))) pss_nil)
      (pss_cons (ps_if (pt_val (pe_callB call_isN (by rfl) T.b_isinstance (by decide +kernel) (pa_cons (pv 0) (pa_cons (pe_bltn (v := .ty "list") (by rfl) T.b_list (by decide +kernel) rfl) pa_nil)))) (pss_one (ps_ret (pe_fr (pe_lc (own := [("_law_item", 4)]) (g := gName 4) (te := (tCall (spK K n) [] E0 (tCons (tVar 4) (tCons (tOp (rI0 fun i j => V.int (i - j)) (tVar 1) (tC (.int 1))) L2.tNil)))) rfl scKept.nd (pi_list (pv 0)) blk_scKept_0 (fun _ _ _ _ _ => by exact pg_name (i := 4) scKept.nd rfl (.inl rfl)) (fun _ _ _ _ _ => pts_nil) (fun _ _ _ _ _ => by exact (pe_kn d__law_kept hr (by rfl) (pa_cons (pv 4) (pa_cons (pe_op op_sub (pv 1) pe_int) pa_nil)))))))) pss_nil)
      (pss_cons (ps_if (pt_val (pe_callB call_isN (by rfl) T.b_isinstance (by decide +kernel) (pa_cons (pv 0) (pa_cons (pe_bltn (v := .ty "tuple") (by rfl) T.b_tuple (by decide +kernel) rfl) pa_nil)))) (pss_one (ps_ret (pe_fr (pe_callTy call_tuple_of (by rfl) T.b_tuple (by decide +kernel) (pa_cons (pe_fr (pe_lc (own := [("_law_item", 4)]) (g := gName 4) (te := (tCall (spK K n) [] E0 (tCons (tVar 4) (tCons (tOp (rI0 fun i j => V.int (i - j)) (tVar 1) (tC (.int 1))) L2.tNil)))) rfl scKept.nd (pi_tup (pv 0)) blk_scKept_1 (fun _ _ _ _ _ => by exact pg_name (i := 4) scKept.nd rfl (.inl rfl)) (fun _ _ _ _ _ => pts_nil) (fun _ _ _ _ _ => by exact (pe_kn d__law_kept hr (by rfl) (pa_cons (pv 4) (pa_cons (pe_op op_sub (pv 1) pe_int) pa_nil)))))) pa_nil))))) pss_nil)
      (pss_cons (ps_if (pt_val (pe_callB call_isN (by rfl) T.b_isinstance (by decide +kernel) (pa_cons (pv 0) (pa_cons (pe_bltn (v := .ty "dict") (by rfl) T.b_dict (by decide +kernel) rfl) pa_nil)))) (pss_cons (ps_set (i := 2) scKept.nd rfl (.inl rfl) pe_dn)
      (pss_cons (ps_for PassesOwn.never rfl (pi_list (pe_fr (pe_callTy (call_list_dK rfl) (by rfl) T.b_list (by decide +kernel) (pa_cons (pv 0) pa_nil)))) (pg_name (i := 3) scKept.nd rfl (.inl rfl)) (pss_one (ps_dput (lt1 hr.units) (pv 2) (pv 3) (pe_kn d__law_kept hr (by rfl) (pa_cons (pe_dget (lt1 hr.units) (pv 0) (pv 3) (fun _ _ => rfl)) (pa_cons (pe_op op_sub (pv 1) pe_int) pa_nil))) rfl)))
      (pss_one (ps_ret (pv 2))))) pss_nil)
      (pss_one (ps_ret (pv 0))))))), ?_⟩
  have hd0 : d ≠ 0 := by omega
  refine ⟨_, rfl, rfl, _, rfl, if_no (decide_eq_false fun z => hd0 (V.int.inj z)) ?_⟩
  rcases hv.split with hs | ⟨m, rfl, a, xs, rfl, ho, hl, hx⟩ | ⟨m, rfl, a, ks, rfl, na, oa, hl, nd, hx⟩
  · have c : Cpy K (fun b => H b = none) H H m v v := Cpy.sc hs
    have ty : ∃ t, tyN K H v = some t ∧ isB t "list" = false ∧ isB t "tuple" = false ∧ isB t "dict" = false := by
      cases v with
      | non => exact ⟨_, rfl, rfl, rfl, rfl⟩
      | bl b => exact ⟨_, rfl, rfl, rfl, rfl⟩
      | int i => exact ⟨_, rfl, rfl, rfl, rfl⟩
      | str z => exact ⟨_, rfl, rfl, rfl, rfl⟩
      | _ => cases hs
    obtain ⟨t, ht, t1, t2, t3⟩ := ty
    refine ⟨_, rfl, _, _, rfl, by decide, _, ht, _, rfl, if_no t1 ⟨_, rfl, _, _, rfl, by decide, _, ht, _, rfl, if_no t2 ⟨_, rfl, _, _, rfl, by decide, _, ht, _, rfl, if_no t3 ⟨_, rfl, k v H (Same.refl H) c⟩⟩⟩⟩
  · rcases ho with oa | ⟨_, oa⟩
    · obtain ⟨q', rfl, hqx⟩ := hq.items (.inl oa)
      have ty : tyN K H (.ref a) = some "tuple" := by rw [tyN_ref, oa]; rfl
      refine ⟨_, rfl, _, _, rfl, by decide, _, ty, _, rfl, if_no rfl ⟨_, rfl, _, _, rfl, by decide, _, ty, _, rfl, if_yes rfl ?_⟩⟩
      have hsq := ob_tup oa
      refine ⟨_, rfl, a, rfl, ⟨xs, hsq⟩, fun D hD => lc_tup (xs := xs) (KcI K D xs m H) ⟨[], rfl, upd_same, Same.new hD _, fun j x y _ hy => by simp at hy⟩ (fun i H' _ h => ?_) ?_ ?_⟩
      · obtain ⟨_, _, _, s2, _⟩ := h
        exact Same.seqT s2 hsq
      · rintro i x H' hi ⟨acc, al, hacc, s2, hc⟩
        refine ⟨rfl, ?_⟩
        simp only [tYes, if_true]
        have il := (List.getElem?_eq_some_iff.mp hi).1
        have hxm := hx x (List.mem_of_getElem? hi)
        refine ⟨_, rfl, _, rfl, _, _, rfl, rfl, N, x, d - 1, m, q', rfl, by omega, hxm.same s2, (hqx x (List.mem_of_getElem? hi)).same s2, by omega, fun w H3 s3 cp => ?_⟩
        refine ⟨acc, s3 _ _ hacc, by rw [al, sizeLine_eq]; omega, acc ++ [w], by rw [List.length_append, al]; rfl, upd_same, fun c o e => by rw [upd_ne (ne_of_none e hD)]; exact s3 _ _ (s2 _ _ e), fun j x' y hj hy => ?_⟩
        rcases Nat.lt_or_ge j acc.length with hlt | hge
        · rw [List.getElem?_append_left hlt] at hy
          exact (hc j x' y hj hy).imp (fun b h => h) fun b o h e => by rw [upd_ne h.2]; exact s3 _ _ e
        · rw [List.getElem?_append_right hge] at hy
          have : j - acc.length = 0 := by
            have := (List.getElem?_eq_some_iff.mp hy).1
            rw [List.length_singleton] at this
            omega
          rw [this] at hy
          cases hy
          have ej : j = i := by omega
          subst ej
          rw [hi] at hj
          cases hj
          exact (Cpy.back s2 hxm cp).imp (fun b h => ⟨s2.free h, fun e => by rw [e, hacc] at h; cases h⟩) fun b o h e => by rw [upd_ne (fun z => by rw [z, hacc] at h; cases h)]; exact e
      · rintro H' ⟨acc, al, hacc, s2, hc⟩ fr1
        refine ⟨D, acc, rfl, .inl ⟨.of hacc, fun p hp fr2 => ?_⟩⟩
        have sp := Same.new hp (.tup acc)
        refine k (.ref p) _ (s2.trans sp) (Cpy.sq (s2.free hp) (fr2 p (by rw [upd_same]; simp)) (.inl ⟨oa, upd_same⟩) al.symm (by omega) fun i x y hxi hyi => (hc i x y hxi hyi).imp (fun b h => h.1) fun b o _ e => sp _ _ e)
    · obtain ⟨q', rfl, hqx⟩ := hq.items (.inr oa)
      have ty : tyN K H (.ref a) = some "list" := by rw [tyN_ref, oa]; rfl
      refine ⟨_, rfl, _, _, rfl, by decide, _, ty, _, rfl, if_yes rfl ?_⟩
      have hsq := ob_lst oa
      obtain ⟨ha, ka⟩ := ob_H oa fun _ z => by cases z
      refine ⟨_, rfl, a, rfl, ⟨xs, hsq⟩, fun D hD => lc_list (xs := xs) (KcI K D xs m H) ⟨[], rfl, upd_same, Same.new hD _, fun j x y _ hy => by simp at hy⟩ (fun i H' _ h => ?_) ?_ ?_⟩
      · obtain ⟨_, _, _, s2, _⟩ := h
        exact .of (s2 _ _ ha)
      · rintro i x H' hi ⟨acc, al, hacc, s2, hc⟩
        refine ⟨rfl, ?_⟩
        simp only [tYes, if_true]
        have il := (List.getElem?_eq_some_iff.mp hi).1
        have hxm := hx x (List.mem_of_getElem? hi)
        refine ⟨_, rfl, _, rfl, _, _, rfl, rfl, N, x, d - 1, m, q', rfl, by omega, hxm.same s2, (hqx x (List.mem_of_getElem? hi)).same s2, by omega, fun w H3 s3 cp => ?_⟩
        refine ⟨acc, s3 _ _ hacc, by rw [al, sizeLine_eq]; omega, acc ++ [w], by rw [List.length_append, al]; rfl, upd_same, fun c o e => by rw [upd_ne (ne_of_none e hD)]; exact s3 _ _ (s2 _ _ e), fun j x' y hj hy => ?_⟩
        rcases Nat.lt_or_ge j acc.length with hlt | hge
        · rw [List.getElem?_append_left hlt] at hy
          exact (hc j x' y hj hy).imp (fun b h => h) fun b o h e => by rw [upd_ne h.2]; exact s3 _ _ e
        · rw [List.getElem?_append_right hge] at hy
          have : j - acc.length = 0 := by
            have := (List.getElem?_eq_some_iff.mp hy).1
            rw [List.length_singleton] at this
            omega
          rw [this] at hy
          cases hy
          have ej : j = i := by omega
          subst ej
          rw [hi] at hj
          cases hj
          exact (Cpy.back s2 hxm cp).imp (fun b h => ⟨s2.free h, fun e => by rw [e, hacc] at h; cases h⟩) fun b o h e => by rw [upd_ne (fun z => by rw [z, hacc] at h; cases h)]; exact e
      · rintro H' ⟨acc, al, hacc, s2, hc⟩ fr1
        exact k (.ref D) H' s2 (Cpy.sq hD (fr1 D (by rw [hacc]; simp)) (.inr ⟨oa, hacc⟩) al.symm (by omega) fun i x y hxi hyi => (hc i x y hxi hyi).imp (fun b h => h.1) fun b o _ e => e)
  · obtain ⟨q', rfl, hqx⟩ := hq.vals oa
    have ty : tyN K H (.ref a) = some "dict" := by rw [tyN_ref, oa]; rfl
    obtain ⟨ha, ka⟩ := ob_H oa fun _ z => by cases z
    refine ⟨_, rfl, _, _, rfl, by decide, _, ty, _, rfl, if_no rfl ⟨_, rfl, _, _, rfl, by decide, _, ty, _, rfl, if_no rfl ⟨_, rfl, _, _, rfl, by decide, _, ty, _, rfl, if_yes rfl ?_⟩⟩⟩
    refine fun p hp kp => ?_
    have s1 := Same.new hp (.dK [])
    refine ⟨_, rfl, a, ks, rfl, s1 _ _ ha, fun l hl1 fr => ?_⟩
    have s2 := Same.new hl1 (.lst (ks.map fun kv => kV kv.1))
    have npl : p ≠ l := fun e => by rw [← e, upd_same] at hl1; cases hl1
    have hl0 : H l = none := s1.free hl1
    refine ⟨l, rfl, ⟨_, .of upd_same⟩, forI_list (xs := ks.map fun kv => kV kv.1) (KdI K a p l d ks m H) ⟨none, [], rfl, rfl, by rw [upd_ne npl, upd_same], upd_same, s1.trans s2, fun j x y _ hy => by simp at hy⟩ (fun i σ H' _ h => ?_) ?_ ?_⟩
    · obtain ⟨kv, acc, _, _, _, h5, _⟩ := h
      exact .of h5
    · rintro i x σ H' hi ⟨kv, acc, rfl, ek, hp', hl', s3, hc⟩
      rw [List.getElem?_map] at hi
      obtain ⟨r, hr, rfl⟩ := Option.map_eq_some_iff.mp hi
      have il := (List.getElem?_eq_some_iff.mp hr).1
      have al : acc.length = i := by
        have z := congrArg List.length ek
        rw [List.length_map, List.length_map, List.length_take] at z
        omega
      have hrm := hx r (List.mem_of_getElem? hr)
      have nk : r.1 ∉ acc.map (·.1) := by
        rw [ek, List.map_take]
        exact nd_take nd (by rw [List.getElem?_map, hr]; rfl)
      have dg : DGet H' a (kV r.1) (some r.2) := by
        have z := DGet.k (k := r.1) (s3 _ _ ha)
        rw [valV_nd nd hr] at z
        exact z
      refine ⟨_, rfl, _, rfl, a, r.2, rfl, dg, _, rfl, _, _, rfl, rfl, N, r.2, d - 1, m, q', rfl, by omega, hrm.same s3, (hqx r (List.mem_of_getElem? hr)).same s3, by omega, fun w H3 s4 cp => ⟨_, rfl, _, rfl, p, _, rfl, DPut.k (s4 _ _ hp') (by rw [al, sizeLine_eq]; omega), ?_⟩⟩
      rw [putK_new nk]
      have hp0 : ∀ o, H p = some o → False := fun o e => by rw [hp] at e; cases e
      refine ⟨_, acc ++ [(r.1, w)], rfl, ?_, upd_same, by rw [upd_ne (Ne.symm npl)]; exact s4 _ _ hl', fun c o e => by rw [upd_ne (ne_of_none e hp)]; exact s4 _ _ (s3 _ _ e), fun j x' y hj hy => ?_⟩
      · have e2 : ks.take (i + 1) = ks.take i ++ [r] := by rw [List.take_add_one, hr]; rfl
        rw [e2, List.map_append, List.map_append, ek]
        rfl
      rcases Nat.lt_or_ge j acc.length with hlt | hge
      · rw [List.getElem?_append_left hlt] at hy
        exact (hc j x' y hj hy).imp (fun b h => h) fun b o h e => by rw [upd_ne h.2]; exact s4 _ _ e
      · rw [List.getElem?_append_right hge] at hy
        have z0 : j - acc.length = 0 := by
          have := (List.getElem?_eq_some_iff.mp hy).1
          rw [List.length_singleton] at this
          omega
        rw [z0] at hy
        cases hy
        have ej : j = i := by omega
        subst ej
        rw [hr] at hj
        cases hj
        exact (Cpy.back s3 hrm cp).imp (fun b h => ⟨s3.free h, fun e => by rw [e, hp'] at h; cases h⟩) fun b o h e => by rw [upd_ne (fun z => by rw [z, hp'] at h; cases h)]; exact e
    · rintro σ H' ⟨kv, acc, rfl, ek, hp', hl', s3, hc⟩
      rw [List.length_map, List.take_length] at ek
      refine ⟨_, rfl, k (.ref p) H' s3 (Cpy.dk hp kp oa hp' ek.symm ?_ fun i x y hxi hyi => (hc i x y hxi hyi).imp (fun b h => h.1) fun b o _ e => e)⟩
      have z := congrArg List.length ek
      rw [List.length_map, List.length_map] at z
      omega

theorem k_kept (T : Bt K mg) (D0 : Kn P w K mg base 0 "_law_kept" ["_law_thing", "_law_deep"] (fun _ _ _ _ => False)) (D : DfnD K mg "_law_kept" sKept ["_law_thing", "_law_deep"]) : ∀ n : Nat, Kn P w K mg base (n + 1) "_law_kept" ["_law_thing", "_law_deep"] (spK K n)
  | 0 => by
    obtain ⟨f, fd, m, kp, b, G⟩ := D0.ex
    exact ⟨f, fd, m, kp, b, (G.mono (Nat.zero_le _)).imp fun vs H Q E ⟨_, _, _, _, _, _, h, _⟩ => absurd h (Nat.not_lt_zero _)⟩
  | n + 1 => k_Kept n T D (k_kept T D0 D n)
theorem DfnD.none {x : Str} {ps : List Str} {st : Stmt} (D : DfnD K mg x st ps) : Kn P w K mg base 0 x ps (fun _ _ _ _ => False) := by
  obtain ⟨f, fd, dvs, F, m, b⟩ := D.ex
  exact ⟨f, fd, m, F.kp, b, ⟨fun vs H Q E h => h.elim, fun A outer s H args us vs Q E _ _ _ _ h => h.elim⟩⟩
end
end My

namespace My
open PySem PySem.Spec PyProof.Rows L2
section
variable {P : Program} {w : World} {K : PySem.W.Frag} {mg : Str → Option Value} {base : Heap}
/-! ### displays of data, names read -/
theorem Shp.mono {N : Addr → Prop} {n : Nat} (H H' : Hp) (v : V) (e : Same H H') (h : Shp K N H n v) : Shp K N H' n v := h.same e
section
variable {N : Addr → Prop} {σ : L2.St} {H0 : Hp} {n m : Nat} {ta : TA} {te : TE}
theorem mkS_c {v : V} (h : scv v = true) : MkA σ H0 (fun H v => Shp K N H n v) (tC v) := fun H e Q k => k v H (Same.refl H) (Shp.sc h)
theorem mkS_v {i : Nat} {v : V} (hi : σ[i]? = some (some v)) (h : Shp K N H0 n v) : MkA σ H0 (fun H v => Shp K N H n v) (tVar i) := fun H e Q k => ⟨v, hi, k v H (Same.refl H) (h.same e)⟩
theorem mkS_i (e : ∀ H, Same H0 H → ∀ Q : VK, (∀ i : Int, Q (.int i) H) → te σ H Q) : MkA σ H0 (fun H v => Shp K N H n v) te := fun H s' Q k => e H s' Q fun i => k (.int i) H (Same.refl H) (Shp.sc rfl)
theorem mkS_x (e : ∀ H, Same H0 H → ∀ Q : VK, (∀ v : V, scv v = true → Q v H) → te σ H Q) : MkA σ H0 (fun H v => Shp K N H n v) te := fun H s' Q k => e H s' Q fun v hv => k v H (Same.refl H) (Shp.sc hv)
theorem mkS_t (h : MkAL σ H0 (fun H v => Shp K N H n v) m ta) (hl : m ≤ 100 := by decide) : MkA σ H0 (fun H v => Shp K N H (n + 1) v) (tTp K ta) := fun H e Q k =>
  h H e _ fun vs H1 s1 hn hv => ⟨by rw [sizeLine_eq]; omega, fun p hp kp => k _ _ (s1.trans (Same.new hp _)) (Shp.sq (.inl (ob_new kp)) (by omega) fun x hx => (hv x hx).same (Same.new hp _))⟩
theorem mkS_l (hs : ∀ p, H0 p = none → N p) (h : MkAL σ H0 (fun H v => Shp K N H n v) m ta) (hl : m ≤ 100 := by decide) : MkA σ H0 (fun H v => Shp K N H (n + 1) v) (tLs K ta) := fun H e Q k =>
  h H e _ fun vs H1 s1 hn hv => ⟨by rw [sizeLine_eq]; omega, fun p hp kp => k _ _ (s1.trans (Same.new hp _)) (Shp.sq (.inr ⟨hs p ((e.trans s1).free hp), ob_new kp⟩) (by omega) fun x hx => (hv x hx).same (Same.new hp _))⟩
theorem mkS_d (hs : ∀ p, H0 p = none → N p) : MkA σ H0 (fun H v => Shp K N H (n + 2) v) (tDn K) := fun H e Q k p hp kp => k _ _ (Same.new hp _) (Shp.dk (hs p (e.free hp)) (ob_new kp) (Nat.zero_le _) List.nodup_nil fun p hp => nomatch hp)
/-- a list display, read: its items -/
theorem lsS {Q : VK} (h : MkAL σ H0 (fun H v => Shp K N H n v) m ta) (hl : m ≤ 100)
    (k : ∀ vs p H', Same H0 H' → H0 p = none → K.lookup p = none → vs.length = m → (∀ v ∈ vs, Shp K N H' n v) → H' p = some (.lst vs) → Q (.ref p) H') : tLs K ta σ H0 Q :=
  lsA (R := fun H v => Shp K N H n v) Shp.mono h hl fun vs p H' e hp kp hn hv ho => k vs p H' e hp kp hn hv ho
end
theorem Sto.some {H : Hp} {s : Addr} (st : Sto K H s) : H s ≠ none := by
  obtain ⟨ys, hy⟩ := st.at
  rw [hy]
  exact fun e => by cases e
theorem Sto.ne0 {H : Hp} {s l : Addr} (st : Sto K H s) (hl : H l = none) : l ≠ s := by
  rintro rfl
  exact st.some hl
/-- the store, while -/
theorem Kp.free0 {H H' : Hp} {s p : Addr} (kp : Kp s H H') (st : Sto K H' s) (hp : H' p = none) : H p = none := by
  have ne := st.ne0 hp
  cases e : H p with
  | none => rfl
  | some o =>
    have := kp.1 p o ne e
    rw [hp] at this
    cases this
def spBadS (K : PySem.W.Frag) : Sp := fun vs H Q _ => ∃ s : Addr, vs = [.ref s] ∧ Sto K H s ∧ ∀ v H', Shp K (fun a => H a = none) H' 2 v → Kp s H H' → Sto K H' s → Q v H'
theorem Sto.ne' {H : Hp} {s l : Addr} (st : Sto K H s) (hl : H l = none) : l ≠ s := by
  rintro rfl
  obtain ⟨ys, hy⟩ := st.at
  rw [hy] at hl
  cases hl
theorem Kp.free {H H' : Hp} {s p : Addr} (kp : Kp s H H') (st : Sto K H' s) (hp : H' p = none) : H p = none := by
  have ne := st.ne' hp
  cases e : H p with
  | none => rfl
  | some o =>
    have := kp.1 p o ne e
    rw [hp] at this
    cases this
theorem Sto.ne {H : Hp} {s l : Addr} (st : Sto K H s) (hl : H l = none) : l ≠ s := by
  rintro rfl
  obtain ⟨ys, hy⟩ := st.at
  rw [hy] at hl
  cases hl
theorem Sto.mut {H0 H' : Hp} {s l : Addr} {o : HO} (st0 : Sto K H0 s) (hl : H0 l = none) (kp : Kp s H0 H') (st : Sto K H' s) : Sto K (upd H' l o) s ∧ Kp s H0 (upd H' l o) := by
  obtain ⟨sc0, ns0, i0, b0, c0, d0, e0, f0, g1, g2, g3⟩ := st0
  obtain ⟨sc, ns, i, b, c, d, e, f, h1, h2, h3⟩ := st
  obtain ⟨r', hr⟩ := kp.2 _ _ g1
  rw [h1] at hr
  cases hr
  have n1 : s ≠ l := by rintro rfl; rw [g1] at hl; cases hl
  have n2 : sc0 ≠ l := by rintro rfl; rw [g2] at hl; cases hl
  refine ⟨⟨sc0, ns, i, b, c, d, e, f, by rw [upd_ne n1]; exact h1, by rw [upd_ne n2]; exact h2, h3⟩, fun b o n e => ?_, fun x r e => ?_⟩
  · rw [upd_ne (ne_of_none e hl)]
    exact kp.1 b o n e
  · obtain ⟨r2, hr2⟩ := kp.2 x r e
    exact ⟨r2, by rw [upd_ne n1]; exact hr2⟩
theorem ob_upd {H : Hp} {D a : Addr} {o z : HO} {xs : List V} (hD : H D = some (.lst xs)) (h : ob K H a = some z) (n : a ≠ D ∨ ∃ ys, z = .tup ys) : ob K (upd H D o) a = some z := by
  unfold ob at h ⊢
  split
  · rename_i q
    rw [q] at h
    exact h
  · rename_i q
    rw [q] at h
    have h : H a = some z := h
    have na : a ≠ D := by
      rcases n with n | ⟨ys, rfl⟩
      · exact n
      · rintro rfl
        rw [hD] at h
        cases h
    exact (upd_ne na).trans h
end
end My

namespace My
open PySem PySem.Spec PyProof.Rows L2
section
variable {P : Program} {w : World} {K : PySem.W.Frag} {mg : Str → Option Value} {base : Heap}
theorem nf_int (w : Int) : Nf (w, 1) := ⟨by show (1 : Int) ≤ 1; omega, by show Int.gcd w 1 = 1; exact Int.gcd_one_right _⟩
theorem sz_of {x y : Int} {k : Nat} (h1 : x.natAbs < 2 ^ k) (h2 : y.natAbs < 2 ^ k) : Sz k (x, y) := ⟨h1, h2⟩
theorem ne_new {H : Hp} {s p : Addr} {ys : List V} (h : H s = some (.lst ys)) (hp : H p = none) : s ≠ p := ne_of_none h hp
/-- a place at a -/
structure Pq (K : PySem.W.Frag) (H : Hp) (n : Nat) (a : Addr) (q : Qt) : Prop where
  f : Fq K H n a q
  lo : 0 ≤ q.1
  hi : q.1 < q.2
theorem Pq.mono {H : Hp} {j n : Nat} {a : Addr} {q : Qt} (h : Pq K H j a q) (l : j ≤ n) : Pq K H n a q := ⟨h.f.mono l, h.lo, h.hi⟩
theorem Pq.same {H H' : Hp} {n : Nat} {a : Addr} {q : Qt} (h : Pq K H n a q) (s : Same H H') : Pq K H' n a q := ⟨h.f.same s, h.lo, h.hi⟩
theorem Pq.kp {H H' : Hp} {n : Nat} {a s : Addr} {q : Qt} {ys : List V} (h : Pq K H n a q) (e : Kp s H H') (hs : H s = some (.lst ys)) : Pq K H' n a q := ⟨h.f.kp e hs, h.lo, h.hi⟩
theorem is_in {q : Qt} {t b : Int} (h : Is q t b) (h0 : 0 ≤ t) (h1 : t < b) : 0 ≤ q.1 ∧ q.1 < q.2 := by
  have e := h.2
  have n := h.1.1
  have b0 : 0 < b := by omega
  refine ⟨Int.not_lt.mp fun c => ?_, Int.not_le.mp fun c => ?_⟩
  · have z1 : q.1 * b < 0 := Int.mul_neg_of_neg_of_pos c b0
    have z2 : 0 ≤ t * q.2 := Int.mul_nonneg h0 (by omega)
    omega
  · have z1 : q.2 * b ≤ q.1 * b := Int.mul_le_mul_of_nonneg_right c (by omega)
    have z2 : t * q.2 < b * q.2 := Int.mul_lt_mul_of_pos_right h1 (by omega)
    have z3 : q.2 * b = b * q.2 := Int.mul_comm _ _
    omega
def spDPlace (K : PySem.W.Frag) (n : Nat) : Sp := fun vs H Q _ => ∃ (s : Addr), vs = [.ref s] ∧ Sto K H s ∧ ∀ a q H', Pq K H' n a q → Kp s H H' → Sto K H' s → Q (.ref a) H'
theorem nf1112 : Nf (11, 12) := ⟨by decide, by decide⟩
theorem nf21 : Nf (2, 1) := ⟨by decide, by decide⟩
theorem nf112 : Nf (1, 12) := ⟨by decide, by decide⟩
def spDPos (K : PySem.W.Frag) : Sp := fun vs H Q _ => ∃ (s : Addr), vs = [.ref s] ∧ Sto K H s ∧ ∀ a q H', (Fq K H' 10 a q ∧ 0 < q.1) → Kp s H H' → Sto K H' s → Q (.ref a) H'
def spDNz (K : PySem.W.Frag) : Sp := fun vs H Q _ => ∃ (s : Addr), vs = [.ref s] ∧ Sto K H s ∧ ∀ a q H', Fq K H' 10 a q → q.1 ≠ 0 → Kp s H H' → Sto K H' s → Q (.ref a) H'
theorem is_pos {q : Qt} {t b : Int} (h : Is q t b) (h0 : 0 < t) (h1 : 0 < b) : 0 < q.1 := by
  have e := h.2
  have n := h.1.1
  refine Int.not_le.mp fun c => ?_
  have z1 : 0 < t * q.2 := Int.mul_pos h0 (by omega)
  have z2 : q.1 * b ≤ 0 := Int.mul_nonpos_of_nonpos_of_nonneg c (by omega)
  omega
def spMoment (K : PySem.W.Frag) : Sp := fun vs H Q _ => ∃ (s : Addr) (r : Int), vs = [.ref s, .int r] ∧ Sto K H s ∧ 1 ≤ r ∧ r < 2 ^ 60 ∧ ∀ a q H', Fq K H' 70 a q → Kp s H H' → Sto K H' s → Q (.ref a) H'
end
end My

namespace My
open PySem PySem.Spec PyProof.Rows L2
/-! ### C.m(..), m a static method -/
/-- C.m is a staticmethod: its record at p, its def at g -/
structure SMet (K : PySem.W.Frag) (C : Addr) (mc : Value) (m : Str) (p g : Addr) : Prop where
  at_ : PySem.W.findCls K (.ref C) mc m = some (.get (.builtin "staticmethod.__get__") (.ref p) .none (.ref C))
  rc : ∃ rest, PySem.W.recIn K p "staticmethod" = some (.ref g :: rest)
  kp : PySem.W.keepIn K (.ref g) = true
def tSMeth (C : Addr) (sp : Sp) (dvs : List V) (E : XK) (ta : TE) (t : TA) : TE := fun σ H Q => ta σ H fun x H1 => x = .ref C ∧ t σ H1 fun vs H2 => sp (vs ++ dvs) H2 Q E
section
variable {X : Cx} {CX : CXT} {k : Nat} {C p g : Addr} {mc : Value} {sp : Sp} {E : XK} {o e : Expr} {es : List Expr} {m : Str} {pos apos : Pos} {ta : TE} {t : TA} {pl : Sem Bool} {fd : FuncData} {ps : List Str} {ds : List Value} {dvs : List V}
theorem getsmet_ok {pins : List (Addr × Obj)} {σ : L2.St} {H : Hp} {s : Shared} {A : Around} {E : Value → Shared → Prop} {b : Bool} {Q : Value → Shared → Prop} (I : Inv X pins σ H s) (r : ClX.CRead X.K C mc) (c : SMet X.K C mc m p g)
    (h : ∀ s', Inv X pins σ H s' → Q (.ref g) s') : wpAny (model X.prog X.w) A (getAttr (.ref C) m b) Q E s := by
  obtain ⟨rest, hp⟩ := c.rc
  refine PySem.W.cls_bind I.kIn r.rd c.at_ ?_
  exact wpAny_call (PySem.W.sm_get (s := { s with toks := s.toks + 1 }) I.kIn hp (PySem.W.handed_on rfl (h _ (I.tok _))))
theorem pe_smeth (he : PE X o ta) (r : ClX.CRead X.K C mc) (c : SMet X.K C mc m p g) (F : FnOk X.prog X.w X.K X.mg X.base CX k g fd ps sp) (hr : Room k X.A) (hb : Binds X.K fd ps ds) (hd : Vals dvs ds) (hx : Passes CX X E) (ha : PA X (e :: es) t)
    (hst : starEach (e :: es) X.env = (false, eval e X.env) :: starEach es X.env := by rfl) (hpl : (backTo pos (starEach es X.env)).any (·.1) = false := by rfl)
    (ht : eval (.Call (.Attribute o m apos) (e :: es) [] pos) X.env = (do
      let ov ← eval o X.env
      standAt apos.atName
      let (f, first) ← holding [ov] (getMethod ov m pl)
      callWith pos f first (backTo pos (starEach (e :: es) X.env)) (backToKw pos (keywordEach [] X.env))) := by rfl) :
    PE X (.Call (.Attribute o m apos) (e :: es) [] pos) (tSMeth C sp dvs E ta t) := by
  refine ⟨fun pins s σ H Q I h => ?_⟩
  refine PySem.W.methodCall_KW (pl := pl) (thn (he.run pins s σ H _ I h) fun u s1 ⟨x, H1, I1, rx, ex, q⟩ => ?_) ht
  subst ex
  obtain rfl : u = Value.ref C := rx
  refine PySem.W.method_cls I1.kIn r.ga (getsmet_ok I1 r c fun s2 I2 => ?_)
  refine PySem.W.callWith_K (h₀ := X.base) I2.ok.mod.kin c.kp (thn (ha.run pos pins s2 σ H1 _ I2 q) fun us s3 ⟨vs, H2, I3, rv, q2⟩ => ⟨I3.kIn, ?_⟩) hst hpl
  exact run_fn F hr hb hd hx I3 rv q2
end
section
variable {P : Program} {w : World} {K : PySem.W.Frag} {mg : Str → Option Value} {base : Heap}
/-! ### the == of two fractions -/
def rEqF (K : PySem.W.Frag) : R2 := fun x y H Q => ∃ (a b : Addr) (p q : Qt), x = .ref a ∧ y = .ref b ∧ ob K H a = some (.tup [.int p.1, .int p.2]) ∧ ob K H b = some (.tup [.int q.1, .int q.2]) ∧ Q (.bl (decide (p = q))) H
def rNeF (K : PySem.W.Frag) : R2 := fun x y H Q => ∃ (a b : Addr) (p q : Qt), x = .ref a ∧ y = .ref b ∧ ob K H a = some (.tup [.int p.1, .int p.2]) ∧ ob K H b = some (.tup [.int q.1, .int q.2]) ∧ Q (.bl (!decide (p = q))) H
theorem dp_fr {H : Hp} {a : Addr} {p : Qt} (h : ob K H a = some (.tup [.int p.1, .int p.2])) : Dp K H (.ref a) (.tuple [.int p.1, .int p.2]) := .tup (ob_tup h) (.cons (.int _) (.cons (.int _) .nil))
theorem eqv_fr (p q : Qt) : PyData.eqv (.tuple [.int p.1, .int p.2]) (.tuple [.int q.1, .int q.2]) = decide (p = q) := by
  show ((p.1 == q.1) && ((p.2 == q.2) && true)) = decide (p = q)
  rw [Bool.and_true]
  by_cases h : p = q
  · subst h
    simp
  · rw [decide_eq_false h]
    by_cases h1 : p.1 = q.1
    · have h2 : p.2 ≠ q.2 := fun z => h (Prod.ext h1 z)
      simp [h1, h2]
    · simp [h1]
theorem op_eqF {X : Cx} {j : Nat} (hr : Room j X.A) : OpR X (compareOp .Eq) (rEqF X.K) := fun pins s σ H x y v u Q I rx ry h => by
  obtain ⟨a, b, p, q, ex, ey, oa, ob', k⟩ := h
  subst ex ey
  refine op_eqD (by have := hr.un; omega) pins s σ H _ _ v u Q I rx ry ⟨_, _, dp_fr oa, dp_fr ob', rfl, rfl, ?_⟩
  rw [eqv_fr]
  exact k
theorem op_neF {X : Cx} {j : Nat} (hr : Room j X.A) : OpR X (compareOp .NotEq) (rNeF X.K) := fun pins s σ H x y v u Q I rx ry h => by
  obtain ⟨a, b, p, q, ex, ey, oa, ob', k⟩ := h
  subst ex ey
  refine op_neD (by have := hr.un; omega) pins s σ H _ _ v u Q I rx ry ⟨_, _, dp_fr oa, dp_fr ob', rfl, rfl, ?_⟩
  rw [eqv_fr]
  exact k
end
end My

namespace My
open PySem PySem.Spec PyProof.Rows L2
/-! ### own == of instances with a dict, any answer -/
def rOwnD (K : PySem.W.Frag) (C : Addr) (sp : Sp) (E : XK) : R2 := fun x y H Q => ∃ a dx fs b C' dy gs, x = .ref a ∧ y = .ref b ∧ H a = some (.ins C dx fs) ∧ H b = some (.ins C' dy gs) ∧ PySem.W.notFirst K C (.ref C') = true ∧ sp [x, y] H Q E
theorem op_ownD {X : Cx} {CX : CXT} {n : Nat} {C g : Addr} {fd : FuncData} {ps : List Str} {sp : Sp} {E : XK} {op : CmpOp} (hop : ∀ a b, compareOp op a b = richCompare op a b) (hs : PySem.W.findIn X.K (.ref C) (cmpInfo op).2.1 = some (some (.ref g))) (hf : PySem.W.isFn X.K (.ref g) = true) (F : FnOk X.prog X.w X.K X.mg X.base CX n g fd ps sp) (hb : Binds X.K fd ps [])
    (hr : Room n X.A) (hx : Passes CX X E) : OpR X (compareOp op) (rOwnD X.K C sp E) := by
  intro pins s σ H x y v u Q I rx ry h
  obtain ⟨a, dx, fs, b, C', dy, gs, rfl, rfl, ha, hb', hn, q⟩ := h
  cases (show v = Value.ref a from rx)
  cases (show u = Value.ref b from ry)
  obtain ⟨mA, J, _⟩ := ins_get I.hok ha
  obtain ⟨mB, J', _⟩ := ins_get I.hok hb'
  obtain ⟨od, J, _⟩ := J.look
  obtain ⟨od', J', _⟩ := J'.look
  obtain ⟨m, hF⟩ := I.fr
  rw [hop]
  refine PySem.W.cmp_K (op := op) (tb := .ref C') hr.units0 hF I.ok.mod.kin J J'.type hn hs hf ?_
  refine wpAny_mono (run_fn (us := [.ref a, .ref b]) (vs := [.ref a, .ref b]) F hr hb .nil hx I (.cons rfl (.cons rfl .nil)) q) (fun w s' z => ?_) fun _ _ x => x
  obtain ⟨z', H', I', rz, qz⟩ := z
  exact SlX.cmpback rz ⟨z', H', I', rz, qz⟩
/-! ### own + and - of two instances of one class -/
def rBinD (C : Addr) (sp : Sp) (E : XK) : R2 := fun x y H Q => ∃ a dx fs b dy gs, x = .ref a ∧ y = .ref b ∧ H a = some (.ins C dx fs) ∧ H b = some (.ins C dy gs) ∧ sp [x, y] H Q E
theorem op_binD {X : Cx} {CX : CXT} {n : Nat} {C g : Addr} {fd : FuncData} {ps : List Str} {sp : Sp} {E : XK} {op : Operator} (hc : PySem.W.selfFirst X.K C = true) (hs : PySem.W.findIn X.K (.ref C) (PySem.dunder op.info.2) = some (some (.ref g))) (hf : PySem.W.isFn X.K (.ref g) = true) (F : FnOk X.prog X.w X.K X.mg X.base CX n g fd ps sp) (hb : Binds X.K fd ps [])
    (hr : Room n X.A) (hx : Passes CX X E) : OpR X (binaryOp op) (rBinD C sp E) := by
  intro pins s σ H x y v u Q I rx ry h
  obtain ⟨a, dx, fs, b, dy, gs, rfl, rfl, ha, hb', q⟩ := h
  cases (show v = Value.ref a from rx)
  cases (show u = Value.ref b from ry)
  obtain ⟨mA, J, _⟩ := ins_get I.hok ha
  obtain ⟨mB, J', _⟩ := ins_get I.hok hb'
  obtain ⟨od, J, _⟩ := J.look
  obtain ⟨od', J', _⟩ := J'.look
  obtain ⟨m, hF⟩ := I.fr
  refine PySem.W.binop_K (op := op) hF I.ok.mod.kin J J'.type hc hs hf ?_
  refine wpAny_mono (run_fn (us := [.ref a, .ref b]) (vs := [.ref a, .ref b]) F hr hb .nil hx I (.cons rfl (.cons rfl .nil)) q) (fun w s' z => ?_) fun _ _ x => x
  obtain ⟨z', H', I', rz, qz⟩ := z
  exact SlX.cmpback rz ⟨z', H', I', rz, qz⟩
/-- own - before an instance -/
def rNegD (C : Addr) (sp : Sp) (E : XK) : V → Hp → VK → Prop := fun x H Q => ∃ a dx fs, x = .ref a ∧ H a = some (.ins C dx fs) ∧ sp [x] H Q E
theorem un_negD {X : Cx} {CX : CXT} {n : Nat} {C g : Addr} {fd : FuncData} {ps : List Str} {sp : Sp} {E : XK} (hs : PySem.W.findIn X.K (.ref C) "__neg__" = some (some (.ref g))) (hf : PySem.W.isFn X.K (.ref g) = true) (F : FnOk X.prog X.w X.K X.mg X.base CX n g fd ps sp) (hb : Binds X.K fd ps [])
    (hr : Room n X.A) (hx : Passes CX X E) : UnR X (unaryOp .USub) (rNegD C sp E) := by
  intro pins s σ H x v Q I rx h
  obtain ⟨a, dx, fs, rfl, ha, q⟩ := h
  cases (show v = Value.ref a from rx)
  obtain ⟨mA, J, _⟩ := ins_get I.hok ha
  obtain ⟨od, J, _⟩ := J.look
  obtain ⟨m, hF⟩ := I.fr
  refine PySem.W.ksp_neg hF I.ok.mod.kin J hs hf ?_
  exact run_fn (us := [.ref a]) (vs := [.ref a]) F hr hb .nil hx I (.cons rfl .nil) q
end My

namespace My
open PySem PySem.Spec PySem.Calls PySem.W PyProof.Rows
/-! ### != of instances whose class has an own == alone -/
section
variable {prog : Program} {w : World} {A : Around} {E : Value → Shared → Prop} {s : Shared} {K : Frag} {x C L f : Addr} {h₀ : Heap} {m : Str → Option Value} {ox : Obj} {od : Option Obj}
theorem ifBound_B {M : Model} {id : String} {name : Str} {args : List Value} {Q : Option Value → Shared → Prop} (X : K.In s.heap) (I : InstAt s.heap x ox C od) (hs : findIn K (.ref C) name = some (some (.builtin id))) (hbind : bindSpecial (.builtin id) (.ref x) = pure (.builtin id, [.ref x]))
    (h : wpAny M A (call (.builtin id) (.ref x :: args)) (fun v => Q (some v)) E s) : wpAny M A (callSpecialIfBound? (.ref x) name args) Q E s := by
  simp only [callSpecialIfBound?, bindSpecialIfBound?]
  refine wpAny_holding (wpAny_bind (wpAny_bind (wpAny_bind (I.type.here ((looks_findIn X hs).here ?_)))))
  simp only [hbind]
  refine wpAny_bind (wpAny_askSetting (wpAny_ite ?_))
  have fin : wpAny M A (call (.builtin id) ([.ref x] ++ args) >>= fun v => pure (some v)) Q E s := wpAny_bind (wpAny_mono h (fun v s' h' => wpAny_pure h') fun _ _ h' => h')
  split
  · exact wpAny_bind (wpAny_pure (wpAny_pure fin))
  · exact wpAny_tryCatch (wpAny_bind (wpAny_pure (wpAny_pure fin)))
theorem ne_entry {b : Value} {Q : Fin → Shared → Prop} (hu : A.units < cLine) (X : K.In s.heap) (I : InstAt s.heap x ox C od) (hs : findIn K (.ref C) "__eq__" = some (some (.ref f))) (hf : isFn K (.ref f) = true)
    (h : wpAny (model prog w) A (call (.ref f) [.ref x, b]) (fun v s' => ∃ c, v = .bool c ∧ Q (.done (.ret (.bool !c))) s') E s) : wpAny (model prog w) A (Builtin.«object.__ne__» ⟨[.ref x, b], []⟩) Q E s := by
  unfold Builtin.«object.__ne__»
  refine wpAny_bind (wpAny_of_eq (show slotArgs "__ne__" 1 ⟨[.ref x, b], []⟩ = pure (Value.ref x, [b]) from rfl) ?_)
  dsimp only
  refine wpAny_bind (wpAny_cRoomFor hu (wpAny_bind (ifBound_K X I hs hf (wpAny_mono h (fun v s' hv => ?_) fun _ _ e => e))))
  obtain ⟨c, rfl, q⟩ := hv
  dsimp only
  exact wpAny_bind (wpAny_truthy_bool (wpAny_pure q))
/-- the call of object.__ne__ -/
theorem ne_call {b : Value} {Q : Value → Shared → Prop} (hu : A.units + 1 < cLine) (X : K.In s.heap) (I : InstAt s.heap x ox C od) (hp : plainOver K C = true) (hs : findIn K (.ref C) "__eq__" = some (some (.ref f))) (hf : isFn K (.ref f) = true)
    (h : wpAny (model prog w) A.in1 (call (.ref f) [.ref x, b]) (fun v s' => ∃ c, v = .bool c ∧ Q (.bool !c) s') E s) : wpAny (model prog w) A (call (.builtin "object.__ne__") [.ref x, b]) Q E s := by
  obtain ⟨cd, hc, ho⟩ := any_some hp
  have ne : cd.mro.isEmpty = false := by cases q : cd.mro with | nil => rw [q] at ho; cases ho | cons _ _ => rfl
  have sub : Looks (model prog w) s.heap (isInstance (.ref x) (.type "object")) true := I.type.andThen (looks_mroIn X (by unfold mroIn; rw [hc, Option.bind_some, if_neg (by rw [ne]; decide), only_has ho]))
  refine wpAny_call (codeAny_call_builtin F.cmp_object.ne.plain F.cmpEntry_ne (check_slot F.cmpKind_ne F.cmpSplit_ne sub (F.cmpArgs_ne _ _) ?_))
  refine ne_entry (A := A.in1) hu X I hs hf (wpAny_mono h (fun v s' hv => ?_) fun _ _ e => e)
  obtain ⟨c, rfl, q⟩ := hv
  exact ⟨c, rfl, q⟩
theorem ne_K {tb b : Value} {Q : Value → Shared → Prop} (hu : A.units + 1 < cLine) (F₀ : Fr h₀ L s.heap m) (X₀ : K.In h₀) (I : InstAt s.heap x ox C od) (hb : Looks (model prog w) s.heap (typeOf b) tb) (hn : notFirst K C tb = true) (hp : plainOver K C = true)
    (hne : findIn K (.ref C) "__ne__" = some (some (.builtin "object.__ne__"))) (hs : findIn K (.ref C) "__eq__" = some (some (.ref f))) (hf : isFn K (.ref f) = true)
    (h : wpAny (model prog w) A.in1 (call (.ref f) [.ref x, b]) (fun v s' => ∃ c, v = .bool c ∧ Q (.bool !c) s') E s) : wpAny (model prog w) A (richCompare .NotEq (.ref x) b) Q E s := by
  have X := X₀.keeps F₀.keep
  have one : wpAny (model prog w) A (tryCompare (.ref x) (cmpInfo .NotEq).2.1 b) (fun r s' => ∃ c, r = some (.bool c) ∧ Q (.bool c) s') E s := by
    unfold tryCompare
    refine wpAny_bind (ifBound_B X I hne (F.cmp_object.ne.bind _) (ne_call hu X I hp hs hf (wpAny_mono h (fun v s' hv => ?_) fun _ _ e => e)))
    obtain ⟨c, rfl, q⟩ := hv
    exact ⟨c, rfl, wpAny_pure ⟨_, rfl, q⟩⟩
  unfold richCompare
  simp only [oneThing_ref]
  refine wpAny_holding (wpAny_bind (wpAny_cRoomFor (by omega) ?_))
  refine wpAny_bind (I.type.here (wpAny_bind (hb.here ?_)))
  split
  · rename_i q
    have e : subIn K tb (.ref C) = some false := by
      rcases Bool.or_eq_true_iff.mp hn with e | e
      · rw [beq_iff_eq.mp e] at q; simp at q
      · exact beq_iff_eq.mp e
    refine wpAny_bind ((looks_subIn X e).here ?_)
    simp only [Bool.false_eq_true, if_false]
    refine wpAny_bind (wpAny_mono one (fun r s' z => ?_) fun _ _ e => e)
    obtain ⟨v, rfl, hq⟩ := z
    exact wpAny_pure hq
  · refine wpAny_bind (wpAny_pure ?_)
    simp only [Bool.false_eq_true, if_false]
    refine wpAny_bind (wpAny_mono one (fun r s' z => ?_) fun _ _ e => e)
    obtain ⟨v, rfl, hq⟩ := z
    exact wpAny_pure hq
end
end My
namespace My
open PySem PySem.Spec PyProof.Rows L2
def rNeOwnD (K : PySem.W.Frag) (C : Addr) (sp : Sp) (E : XK) : R2 := fun x y H Q => ∃ a dx fs b C' dy gs, x = .ref a ∧ y = .ref b ∧ H a = some (.ins C dx fs) ∧ H b = some (.ins C' dy gs) ∧ PySem.W.notFirst K C (.ref C') = true ∧ sp [x, y] H (fun v H' => ∃ c, v = .bl c ∧ Q (.bl !c) H') E
theorem op_neOwnD {X : Cx} {CX : CXT} {n : Nat} {C g : Addr} {fd : FuncData} {ps : List Str} {sp : Sp} {E : XK} (hp : PySem.W.plainOver X.K C = true) (hne : PySem.W.findIn X.K (.ref C) "__ne__" = some (some (.builtin "object.__ne__"))) (hs : PySem.W.findIn X.K (.ref C) "__eq__" = some (some (.ref g))) (hf : PySem.W.isFn X.K (.ref g) = true) (F : FnOk X.prog X.w X.K X.mg X.base CX n g fd ps sp) (hb : Binds X.K fd ps [])
    (hr : Room (n + 1) X.A) (hx : Passes CX X E) : OpR X (compareOp .NotEq) (rNeOwnD X.K C sp E) := by
  intro pins s σ H x y v u Q I rx ry h
  obtain ⟨a, dx, fs, b, C', dy, gs, rfl, rfl, ha, hb', hn, q⟩ := h
  cases (show v = Value.ref a from rx)
  cases (show u = Value.ref b from ry)
  obtain ⟨mA, J, _⟩ := ins_get I.hok ha
  obtain ⟨mB, J', _⟩ := ins_get I.hok hb'
  obtain ⟨od, J, _⟩ := J.look
  obtain ⟨od', J', _⟩ := J'.look
  obtain ⟨m, hF⟩ := I.fr
  show wpAny (model X.prog X.w) X.A (richCompare .NotEq (.ref a) (.ref b)) (EP X pins σ Q) X.xe s
  refine ne_K (tb := .ref C') (by have := hr.un; omega) hF I.ok.mod.kin J J'.type hn hp hne hs hf ?_
  have hl := F.len _ _ _ _ q
  have r2 : Vals [V.ref a, V.ref b] [Value.ref a, Value.ref b] := .cons rfl (.cons rfl .nil)
  refine wpAny_call (codeAny_mono (F.run X.A.in1 X.stack s H ⟨[.ref a, .ref b], []⟩ [.ref a, .ref b] [.ref a, .ref b] _ E hr.in1 I.env0.in1 (by
    have := hb s [.ref a, .ref b] I.kIn (by simpa using hl)
    simpa using this) r2 q) fun r s' hq => ?_)
  cases r with
  | error e => exact hx pins σ H s e s' I hq
  | ok fl =>
    cases fl with
    | ret w =>
      obtain ⟨z, H', I', rz, c, ez, qz⟩ := I.after hq
      subst ez
      cases rz
      exact ⟨c, rfl, .bl !c, H', I', rfl, qz⟩
    | next => exact False.elim hq
    | brk => exact False.elim hq
    | cont => exact False.elim hq
end My

namespace My
open PySem PySem.Spec PyProof.Rows L2
section
variable {P : Program} {w : World} {K : PySem.W.Frag} {mg : Str → Option Value} {base : Heap}
/-- the two numbers that the program names -/
structure Two01 (K : PySem.W.Frag) (mg : Str → Option Value) (z o : Addr) : Prop where
  g_ZERO : mg "ZERO" = some (.ref z)
  g_ONE : mg "ONE" = some (.ref o)
  oz : ∀ H, ob K H z = some (.tup [.int 0, .int 1])
  oo : ∀ H, ob K H o = some (.tup [.int 1, .int 1])
theorem sz01 {k : Nat} (h : 1 ≤ k) : Sz k (0, 1) := Sz.mono (a := 1) ⟨by decide, by decide⟩ h
theorem sz11 {k : Nat} (h : 1 ≤ k) : Sz k (1, 1) := Sz.mono (a := 1) ⟨by decide, by decide⟩ h
/-- the period of a rate -/
def PerOk (K : PySem.W.Frag) (n : Nat) (H : Hp) (p : Qt) (v : V) : Prop := (p.1 = 0 ∧ v = .non) ∨ (p.1 ≠ 0 ∧ ∃ c, v = .ref c ∧ Fq K H n c (p.2, (p.1.natAbs : Int)))
theorem PerOk.mono {n k : Nat} {H : Hp} {p : Qt} {v : V} (h : PerOk K n H p v) (l : n ≤ k) : PerOk K k H p v := h.imp id fun ⟨a, c, e, f⟩ => ⟨a, c, e, f.mono l⟩
theorem PerOk.same {n : Nat} {H H' : Hp} {p : Qt} {v : V} (h : PerOk K n H p v) (s : Same H H') : PerOk K n H' p v := h.imp id fun ⟨a, c, e, f⟩ => ⟨a, c, e, f.same s⟩
def spPeriod (K : PySem.W.Frag) : Sp := fun vs H Q _ => ∃ (a : Addr) (p : Qt) (n : Nat), vs = [.ref a] ∧ Fq K H n a p ∧ n ≤ 2900 ∧ ∀ v H', Same H H' → PerOk K n H' p v → Q v H'
theorem quo_one {p z : Qt} (hp : Nf p) (h0 : p.1 ≠ 0) (h : quo2 (1, 1) ((p.1.natAbs : Int), p.2) z) : z = (p.2, (p.1.natAbs : Int)) := by
  have n : (p.1.natAbs : Int) ≠ 0 := by omega
  have h' : Is z (1 * p.2) (1 * (p.1.natAbs : Int)) := h
  rw [Int.one_mul, Int.one_mul] at h'
  refine is_unique n h' ⟨⟨by show 1 ≤ (p.1.natAbs : Int); omega, ?_⟩, rfl⟩
  show Nat.gcd p.2.natAbs p.1.natAbs = 1
  rw [Nat.gcd_comm]
  exact hp.2
theorem nf_zero {p : Qt} (hp : Nf p) : p = (0, 1) ↔ p.1 = 0 := by
  refine ⟨fun h => by rw [h], fun h => ?_⟩
  have g := hp.2
  rw [h] at g
  have g1 : p.2.natAbs = 1 := by simpa using g
  have p2 := hp.1
  exact Prod.ext h (by show p.2 = 1; omega)
abbrev sPeriod : Stmt := topS 44
theorem scPeriod : FnScope ["rate"] ["rate"] (defScope sPeriod) := ⟨rfl, rfl, rfl, by decide +kernel, rfl, by decide +kernel, by decide +kernel⟩
theorem k_Period {z0 o0 : Addr} (C0 : Two01 K mg z0 o0) (T : Bt K mg) (D : Dfn K mg "_period_of" sPeriod ["rate"]) (d_magnitude : Kn P w K mg base 3 "magnitude" ["value"] (spUn K fun q => ((q.1.natAbs : Int), q.2))) (d_over : Kn P w K mg base 3 "over" ["left", "right"] (spQuo K)) : Kn P w K mg base 4 "_period_of" ["rate"] (spPeriod K) := by
  refine Kn.mk' D scPeriod (fun vs H Q E h => ?_) (fun f cdv A outer s H vs Q E hr h => ?_)
  · obtain ⟨a, p, n, rfl, _⟩ := h
    rfl
  obtain ⟨a, p, n, rfl, hp, hn, k⟩ := h
  refine ⟨_, (pss_cons (ps_if (pt_cmpR (op_eqF hr) (pv 0) (pe_glob (v := .ref z0) (by rfl) C0.g_ZERO rfl) (nomark _)) (pss_one (ps_ret pe_non)) pss_nil)
      (pss_one (ps_ret (pe_kn d_over hr (by rfl) (pa_cons (pe_glob (v := .ref o0) (by rfl) C0.g_ONE rfl) (pa_cons (pe_kn d_magnitude hr (by rfl) (pa_cons (pv 0) pa_nil)) pa_nil)))))), ?_⟩
  refine ⟨_, rfl, a, z0, p, (0, 1), rfl, rfl, hp.o, C0.oz _, _, rfl, ?_⟩
  refine ite2 (fun h => ?_) (fun h => ?_)
  · exact k _ H (Same.refl _) (.inl ⟨(nf_zero hp.nf).mp (of_decide_eq_true h), rfl⟩)
  · have h0 : p.1 ≠ 0 := fun z => h (decide_eq_true ((nf_zero hp.nf).mpr z))
    refine ⟨_, rfl, a, p, rfl, hp.mono (by omega), fun b H1 s1 o1 => ?_⟩
    have hz : Sz n ((p.1.natAbs : Int), p.2) := ⟨by show ((p.1.natAbs : Int)).natAbs < 2 ^ n; rw [Int.natAbs_natCast]; exact hp.sz.1, hp.sz.2⟩
    refine ⟨o0, b, (1, 1), ((p.1.natAbs : Int), p.2), rfl, ⟨C0.oo _, nf11, sz11 (by omega)⟩, ⟨o1, nf_abs hp.nf, hz.mono (by omega)⟩, by show (p.1.natAbs : Int) ≠ 0; omega, fun z hzq c H2 s2 o2 => ?_⟩
    rw [quo_one hp.nf h0 hzq] at o2
    exact k _ H2 (s1.trans s2) (.inr ⟨h0, c, rfl, o2, ⟨by show 1 ≤ (p.1.natAbs : Int); omega, by show Nat.gcd p.2.natAbs p.1.natAbs = 1; rw [Nat.gcd_comm]; exact hp.nf.2⟩, hz.2, hz.1⟩)
end
end My

namespace My
open PySem PySem.Spec PyProof.Rows L2
section
variable {P : Program} {w : World} {K : PySem.W.Frag} {mg : Str → Option Value} {base : Heap}
/-- what the text says of the class Cycle -/
structure CyC (K : PySem.W.Frag) (mg : Str → Option Value) (C : Addr) : Prop where
  cl : Cls K C
  nR : NoAttr K C "rate"
  nS : NoAttr K C "start"
  nP : NoAttr K C "period"
  g : mg "Cycle" = some (.ref C)
def cyF (a b : Addr) (v : V) : List (Str × V) := [("rate", .ref a), ("start", .ref b), ("period", v)]
/-- a Cycle at c with the rate p and the start q -/
def CyAt (K : PySem.W.Frag) (C : Addr) (n : Nat) (H : Hp) (c : Addr) (p q : Qt) : Prop := ∃ dx a b v, H c = some (.ins C dx (cyF a b v)) ∧ Fq K H n a p ∧ Pq K H n b q ∧ PerOk K n H p v
theorem CyAt.mono {C : Addr} {n k : Nat} {H : Hp} {c : Addr} {p q : Qt} (h : CyAt K C n H c p q) (l : n ≤ k) : CyAt K C k H c p q := by
  obtain ⟨dx, a, b, v, h1, h2, h3, h4⟩ := h
  exact ⟨dx, a, b, v, h1, h2.mono l, h3.mono l, h4.mono l⟩
theorem CyAt.same {C : Addr} {n : Nat} {H H' : Hp} {c : Addr} {p q : Qt} (h : CyAt K C n H c p q) (s : Same H H') : CyAt K C n H' c p q := by
  obtain ⟨dx, a, b, v, h1, h2, h3, h4⟩ := h
  exact ⟨dx, a, b, v, s _ _ h1, h2.same s, h3.same s, h4.same s⟩
theorem PerOk.kp {n : Nat} {H H' : Hp} {p : Qt} {v : V} {s : Addr} {ys : List V} (h : PerOk K n H p v) (e : Kp s H H') (hs : H s = some (.lst ys)) : PerOk K n H' p v := h.imp id fun ⟨a, c, z, f⟩ => ⟨a, c, z, f.kp e hs⟩
theorem CyAt.kp {C : Addr} {n : Nat} {H H' : Hp} {c s : Addr} {ys : List V} {p q : Qt} (h : CyAt K C n H c p q) (e : Kp s H H') (hs : H s = some (.lst ys)) : CyAt K C n H' c p q := by
  obtain ⟨dx, a, b, v, h1, h2, h3, h4⟩ := h
  exact ⟨dx, a, b, v, e _ _ (by rintro rfl; rw [hs] at h1; cases h1) h1, h2.kp e hs, h3.kp e hs, h4.kp e hs⟩
theorem cy_rate (a b : Addr) (v : V) : (cyF a b v).lookup ("rate" : Str) = some (.ref a) := rfl
theorem cy_start (a b : Addr) (v : V) : (cyF a b v).lookup ("start" : Str) = some (.ref b) := rfl
theorem cy_period (a b : Addr) (v : V) : (cyF a b v).lookup ("period" : Str) = some v := rfl
theorem cy_put1 (x y : V) : putF "start" y [(("rate" : Str), x)] = [(("rate" : Str), x), (("start" : Str), y)] := by
  show (if ("rate" : Str) = "start" then _ else _) = _
  rw [if_neg (by decide +kernel)]
  rfl
theorem cy_put2 (x y z : V) : putF "period" z [(("rate" : Str), x), (("start" : Str), y)] = [(("rate" : Str), x), (("start" : Str), y), (("period" : Str), z)] := by
  show (if ("rate" : Str) = "period" then _ else (("rate" : Str), x) :: (if ("start" : Str) = "period" then _ else _)) = _
  rw [if_neg (by decide +kernel), if_neg (by decide +kernel)]
  rfl
def spCyInit (K : PySem.W.Frag) (C : Addr) : Sp := fun vs H Q _ => ∃ (H0 : Hp) (c dx a b : Addr) (p q : Qt) (n : Nat), vs = [.ref c, .ref a, .ref b] ∧ Same H0 H ∧ H0 c = none ∧ H c = some (.ins C dx []) ∧ Fq K H0 n a p ∧ Pq K H0 n b q ∧ n ≤ 2900 ∧ ∀ H', Same H0 H' → CyAt K C n H' c p q → Q .non H'
theorem ob_put {H : Hp} {c a C dx : Addr} {fs : List (Str × V)} {o : HO} {xs : List V} (hc : H c = some (.ins C dx fs)) (h : ob K H a = some (.tup xs)) : ob K (upd H c o) a = some (.tup xs) := by
  unfold ob at h ⊢
  split
  · rename_i z hz
    rw [hz] at h
    exact h
  · rename_i hz
    rw [hz] at h
    rw [upd_ne (by rintro rfl; rw [hc] at h; cases h)]
    exact h
theorem PerOk.put {n : Nat} {H : Hp} {c C dx : Addr} {fs : List (Str × V)} {o : HO} {p : Qt} {v : V} (hc : H c = some (.ins C dx fs)) (h : PerOk K n H p v) : PerOk K n (upd H c o) p v := h.imp id fun ⟨a, d, z, f⟩ => ⟨a, d, z, ob_put hc f.o, f.nf, f.sz⟩
theorem same_put {H0 H : Hp} {c : Addr} {o : HO} (s : Same H0 H) (n : H0 c = none) : Same H0 (upd H c o) := fun b u e => by
  rw [upd_ne (ne_of_none e n)]
  exact s b u e
theorem pl_true {H : Hp} {a : Addr} {n : Nat} {q : Qt} (h : Pq K H n a q) : plOk K H (.ref a) = true := by
  rw [plOk_fr h.f.o h.f.nf, decide_eq_true h.lo, decide_eq_true h.hi]
  rfl
abbrev sCyInit : Stmt := inClass (topS 43) 0
theorem scCyInit : FnScope ["self", "rate", "start"] ["self", "rate", "start"] (defScope sCyInit) := ⟨rfl, rfl, rfl, by decide +kernel, rfl, by decide +kernel, by decide +kernel⟩
theorem ok_CyInit {C f : Addr} {fd : FuncData} (T : Bt K mg) (Y : CyC K mg C) (d_require : Kn P w K mg base 1 "require" ["well_formed", "what"] spRequire) (d_is_fraction : Kn P w K mg base 2 "is_fraction" ["value"] (spIsFraction K)) (d_is_place : Kn P w K mg base 3 "is_place" ["value"] (spIsPlace K)) (d__period_of : Kn P w K mg base 4 "_period_of" ["rate"] (spPeriod K)) {dvs : List V} (F : FunD K "__init__" "Cycle.__init__" (defArgs sCyInit) (defBody sCyInit) (defScope sCyInit) dvs [] f fd) : FnOk P w K mg base CX0 5 f fd ["self", "rate", "start"] (spCyInit K C) := by
  refine F.ok scCyInit (fun vs H Q E h => ?_) (fun cdv A outer s H vs Q E hr h => ?_)
  · obtain ⟨H0, c, dx, a, b, p, q, n, rfl, _⟩ := h
    rfl
  obtain ⟨H0, c, dx, a, b, p, q, n, rfl, s0, c0, hc, hp, hq, hn, k⟩ := h
  refine ⟨_, (pss_cons (ps_expr (pe_kn d_require hr (by rfl) (pa_cons (pe_kn d_is_fraction hr (by rfl) (pa_cons (pv 1) pa_nil)) (pa_cons pe_str pa_nil))))
      (pss_cons (ps_expr (pe_kn d_require hr (by rfl) (pa_cons (pe_kn d_is_place hr (by rfl) (pa_cons (pv 2) pa_nil)) (pa_cons pe_str pa_nil))))
      (pss_cons (ps_fld (pv 0) (pv 1) rfl)
      (pss_cons (ps_fld (pv 0) (pv 2) rfl)
      (pss_one (ps_fld (pv 0) (pe_kn d__period_of hr (by rfl) (pa_cons (pv 1) pa_nil)) rfl)))))), ?_⟩
  have ha := hp.same s0
  have hb := hq.same s0
  refine ⟨_, rfl, _, rfl, Tyd.fr ha.o, _, by rw [frOk_fr ha.o ha.nf]; rfl, _, rfl, _, rfl, Tyd.fr hb.f.o, _, by rw [pl_true hb]; rfl, ?_⟩
  refine ⟨_, rfl, _, rfl, c, C, dx, [], rfl, hc, Y.cl, Y.nR, (by show 0 < 1000; decide), _, rfl, _, rfl, c, C, dx, _, rfl, upd_same, Y.cl, Y.nS, (by show 1 < 1000; decide), ?_⟩
  have s2 : Same H0 (upd (upd H c (.ins C dx (putF "rate" (.ref a) []))) c (.ins C dx (putF "start" (.ref b) (putF "rate" (.ref a) [])))) := same_put (same_put s0 c0) c0
  have h2 := upd_same (H := upd H c (.ins C dx (putF "rate" (.ref a) []))) (a := c) (o := .ins C dx (putF "start" (.ref b) (putF "rate" (.ref a) [])))
  generalize upd (upd H c (.ins C dx (putF "rate" (.ref a) []))) c (.ins C dx (putF "start" (.ref b) (putF "rate" (.ref a) []))) = H2 at s2 h2 ⊢
  refine ⟨_, rfl, a, p, n, rfl, hp.same s2, hn, fun v H3 s3 hv => ⟨_, rfl, c, C, dx, _, rfl, s3 _ _ h2, Y.cl, Y.nP, (by show (putF "start" (V.ref b) [(("rate" : Str), V.ref a)]).length < 1000; rw [cy_put1]; show 2 < 1000; decide), ?_⟩⟩
  have s4 := s2.trans s3
  have s5 : Same H0 (upd H3 c (.ins C dx (putF "period" v (putF "start" (.ref b) (putF "rate" (.ref a) []))))) := same_put s4 c0
  have e : putF "period" v (putF "start" (.ref b) (putF "rate" (.ref a) [])) = cyF a b v := by
    show putF "period" v (putF "start" (.ref b) [(("rate" : Str), V.ref a)]) = _
    rw [cy_put1, cy_put2]
    rfl
  rw [e] at s5 ⊢
  refine k _ s5 ⟨dx, a, b, v, upd_same, hp.same s5, hq.same s5, hv.put (s3 _ _ h2)⟩
end
end My

namespace My
open PySem PySem.Spec PyProof.Rows L2
section
variable {P : Program} {w : World} {K : PySem.W.Frag} {mg : Str → Option Value} {base : Heap}
/-- the turns of a cycle of the rate p and the start q at the moment m -/
def Tur (p q m y : Qt) : Prop := ∃ t, pro2 p m t ∧ sum2 q t y
theorem szSub' : True := trivial
theorem sum_sz {p q z : Qt} {i j k : Nat} (h : sum2 p q z) (hp : Nf p) (hq : Nf q) (sp : Sz i p) (sq : Sz j q) (l : i + j < k) : Sz k z :=
  is_sz (mul_ne hp.1 hq.1) h (szAdd (szMul sp.1 sq.2) (szMul sq.1 sp.2) (by omega) (by omega)) (szMono (szMul sp.2 sq.2) (by omega))
theorem dif_sz {p q z : Qt} {i j k : Nat} (h : dif2 p q z) (hp : Nf p) (hq : Nf q) (sp : Sz i p) (sq : Sz j q) (l : i + j < k) : Sz k z :=
  is_sz (mul_ne hp.1 hq.1) h (szSub (szMul sp.1 sq.2) (szMul sq.1 sp.2) (by omega) (by omega)) (szMono (szMul sp.2 sq.2) (by omega))
theorem pro_sz {p q z : Qt} {i j k : Nat} (h : pro2 p q z) (hp : Nf p) (hq : Nf q) (sp : Sz i p) (sq : Sz j q) (l : i + j < k) : Sz k z :=
  is_sz (mul_ne hp.1 hq.1) h (szMono (szMul sp.1 sq.1) (by omega)) (szMono (szMul sp.2 sq.2) (by omega))
theorem quo_sz {p q z : Qt} {i j k : Nat} (h : quo2 p q z) (hp : Nf p) (h0 : q.1 ≠ 0) (sp : Sz i p) (sq : Sz j q) (l : i + j < k) : Sz k z :=
  is_sz (Int.mul_ne_zero hp.ne h0) h (szMono (szMul sp.1 sq.2) (by omega)) (szMono (szMul sp.2 sq.1) (by omega))
theorem Tur.unique {p q m y z : Qt} (hp : Nf p) (hq : Nf q) (hm : Nf m) (h1 : Tur p q m y) (h2 : Tur p q m z) : y = z := by
  obtain ⟨t, a, b⟩ := h1
  obtain ⟨u, c, d⟩ := h2
  obtain rfl := is_unique (mul_ne hp.1 hm.1) a c
  exact is_unique (mul_ne hq.1 a.1.1) b d
def spTurns (K : PySem.W.Frag) (C : Addr) : Sp := fun vs H Q _ => ∃ (c a : Addr) (p q m : Qt) (n j : Nat), vs = [.ref c, .ref a] ∧ CyAt K C n H c p q ∧ Fq K H j a m ∧ n + j ≤ 2900 ∧ ∀ y, Tur p q m y → Sz (2 * n + j + 3) y → Gv K H Q y
def spPlace (K : PySem.W.Frag) (C : Addr) : Sp := fun vs H Q _ => ∃ (c a : Addr) (p q m : Qt) (n j : Nat), vs = [.ref c, .ref a] ∧ CyAt K C n H c p q ∧ Fq K H j a m ∧ n + j ≤ 2900 ∧ ∀ y, Tur p q m y → Sz (2 * n + j + 3) y → Gv K H Q (y.1 % y.2, y.2)
abbrev sCyTurns : Stmt := inClass (topS 43) 6
theorem scCyTurns : FnScope ["self", "moment"] ["self", "moment"] (defScope sCyTurns) := ⟨rfl, rfl, rfl, by decide +kernel, rfl, by decide +kernel, by decide +kernel⟩
theorem ok_CyTurns {C f : Addr} {fd : FuncData} (T : Bt K mg) (Y : CyC K mg C) (d_require : Kn P w K mg base 1 "require" ["well_formed", "what"] spRequire) (d_is_fraction : Kn P w K mg base 2 "is_fraction" ["value"] (spIsFraction K)) (d_plus : Kn P w K mg base 3 "plus" ["left", "right"] (spBin K sum2)) (d_times : Kn P w K mg base 3 "times" ["left", "right"] (spBin K pro2)) (F : Fun K "turns" "Cycle.turns" sCyTurns f fd) : FnOk P w K mg base CX0 4 f fd ["self", "moment"] (spTurns K C) := by
  refine F.ok scCyTurns (fun vs H Q E h => ?_) (fun cdv A outer s H vs Q E hr h => ?_)
  · obtain ⟨c, a, p, q, m, n, j, rfl, _⟩ := h
    rfl
  obtain ⟨c, a, p, q, m, n, j, rfl, hc, hm, hj, k⟩ := h
  refine ⟨_, (pss_cons (ps_expr (pe_kn d_require hr (by rfl) (pa_cons (pe_kn d_is_fraction hr (by rfl) (pa_cons (pv 1) pa_nil)) (pa_cons pe_str pa_nil))))
      (pss_one (ps_ret (pe_kn d_plus hr (by rfl) (pa_cons (pe_fld (pv 0) rfl) (pa_cons (pe_kn d_times hr (by rfl) (pa_cons (pe_fld (pv 0) rfl) (pa_cons (pv 1) pa_nil))) pa_nil)))))), ?_⟩
  obtain ⟨dx, ra, sb, v, hc, hp, hq, hv⟩ := hc
  refine ⟨_, rfl, _, rfl, Tyd.fr hm.o, _, by rw [frOk_fr hm.o hm.nf]; rfl, ?_⟩
  refine ⟨_, rfl, c, C, dx, _, _, rfl, hc, Y.cl, Y.nS, cy_start _ _ _, _, rfl, c, C, dx, _, _, rfl, hc, Y.cl, Y.nR, cy_rate _ _ _, _, rfl, ?_⟩
  refine ⟨ra, a, p, m, rfl, hp.mono (by omega), hm.mono (by omega), fun t ht d H1 s1 o1 => ?_⟩
  have st : Sz (n + j + 1) t := pro_sz ht hp.nf hm.nf hp.sz hm.sz (by omega)
  exact ⟨sb, d, q, t, rfl, (hq.f.same s1).mono (by omega), ⟨o1, ht.1, st.mono (by omega)⟩, fun y hy e H2 s2 o2 => k y ⟨t, ht, hy⟩ (sum_sz hy hq.f.nf ht.1 hq.f.sz (pro_sz (k := n + j + 1) ht hp.nf hm.nf hp.sz hm.sz (by omega)) (by omega)) e H2 (s1.trans s2) o2⟩
abbrev sCyPlace : Stmt := inClass (topS 43) 7
theorem scCyPlace : FnScope ["self", "moment"] ["self", "moment"] (defScope sCyPlace) := ⟨rfl, rfl, rfl, by decide +kernel, rfl, by decide +kernel, by decide +kernel⟩
theorem ok_CyPlace {C f : Addr} {fd : FuncData} (T : Bt K mg) (Y : CyC K mg C) (m_turns : C8.Met P w K mg base 4 C "turns" (spTurns K C) []) (d_require : Kn P w K mg base 1 "require" ["well_formed", "what"] spRequire) (d_is_fraction : Kn P w K mg base 2 "is_fraction" ["value"] (spIsFraction K)) (d_part_of : Kn P w K mg base 3 "part_of" ["value"] (spUn K fun q => (q.1 % q.2, q.2))) (F : Fun K "place" "Cycle.place" sCyPlace f fd) : FnOk P w K mg base CX0 5 f fd ["self", "moment"] (spPlace K C) := by
  refine F.ok scCyPlace (fun vs H Q E h => ?_) (fun cdv A outer s H vs Q E hr h => ?_)
  · obtain ⟨c, a, p, q, m, n, j, rfl, _⟩ := h
    rfl
  obtain ⟨c, a, p, q, m, n, j, rfl, hc, hm, hj, k⟩ := h
  refine ⟨_, (pss_cons (ps_expr (pe_kn d_require hr (by rfl) (pa_cons (pe_kn d_is_fraction hr (by rfl) (pa_cons (pv 1) pa_nil)) (pa_cons pe_str pa_nil))))
      (pss_one (ps_ret (pe_kn d_part_of hr (by rfl) (pa_cons (C8.pe_mt m_turns hr (by omega) (pv 0) (pa_cons (pv 1) pa_nil)) pa_nil))))), ?_⟩
  refine ⟨_, rfl, _, rfl, Tyd.fr hm.o, _, by rw [frOk_fr hm.o hm.nf]; rfl, ?_⟩
  have hc' := hc
  obtain ⟨dx, ra, sb, v, hi, hp, hq, hv⟩ := hc
  refine ⟨_, rfl, c, dx, _, rfl, hi, rfl, _, rfl, c, a, p, q, m, n, j, rfl, hc', hm, hj, fun y hy sy b H1 s1 o1 => ?_⟩
  obtain ⟨t, ht, hz⟩ := id hy
  exact ⟨b, y, rfl, ⟨o1, hz.1, sy.mono (by omega)⟩, fun e H2 s2 o2 => k y hy sy e H2 (s1.trans s2) o2⟩
theorem same_make {H : Hp} {c dx C : Addr} (h1 : H c = none) (h2 : H dx = none) : Same H (upd (upd H dx (.own c)) c (.ins C dx [])) := fun b o e => by
  rw [upd_ne (ne_of_none e h1), upd_ne (ne_of_none e h2)]
  exact e
def spWith (K : PySem.W.Frag) (C : Addr) : Sp := fun vs H Q _ => ∃ (a b : Addr) (p q : Qt), vs = [.ref a, .ref b] ∧ Fq K H 140 a p ∧ p.1 ≠ 0 ∧ Pq K H 140 b q ∧ ∀ z c H', quo2 (1, 1) p z → Same H H' → CyAt K C 300 H' c z q → Q (.ref c) H'
end
end My

namespace My
open PySem PySem.Spec PyProof.Rows L2
/-- a comprehension over zip of two lists, the second one not the longer -/
theorem lc_zip {K : PySem.W.Frag} {a b : Addr} {xs ys : List V} {g : TG} {tt : TT} {te : TE} {vs : List Nat} {σ : L2.St} {H1 : Hp} {D : Addr} {Qd : Hp → Prop} (hle : ys.length ≤ xs.length) (Pv : Nat → Hp → Prop) (h0 : Pv 0 (upd H1 D (.lst []))) (hl : ∀ i H, i ≤ ys.length → Pv i H → SqL K H a xs ∧ SqL K H b ys)
    (hs : ∀ (i : Nat) (x y : V) (T : Addr) (H : Hp), xs[i]? = some x → ys[i]? = some y → Pv i H → H T = none → g (.ref T) (wipe σ vs) (upd H T (.tup [x, y])) fun σ2 H2 => wipe σ2 vs = wipe σ vs ∧ tt σ2 H2 fun b H3 =>
      if b = true then te σ2 H3 fun y H4 => ∃ acc, H4 D = some (.lst acc) ∧ acc.length < sizeLine ∧ Pv (i + 1) (upd H4 D (.lst (acc ++ [y]))) else Pv (i + 1) H3) (hd : ∀ H, Pv ys.length H → Qd H) :
    ∃ W : Nat → Nat → Hp → Prop, (∃ m, W 0 m (upd H1 D (.lst []))) ∧ ∀ i m H, W i m H →
      ((Itz K a b).stop i H ∧ Qd H) ∨ ((Itz K a b).go i H ∧ ∃ Nx : Hp → Prop, (∀ H', Nx H' → ∃ m', m' < m ∧ W (i + 1) m' H') ∧ ∀ x H', (Itz K a b).yld i H x H' → g x (wipe σ vs) H' fun σ2 H2 => wipe σ2 vs = wipe σ vs ∧ tt σ2 H2 fun b H3 =>
        if b = true then te σ2 H3 fun y H4 => ∃ acc, H4 D = some (.lst acc) ∧ acc.length < sizeLine ∧ Nx (upd H4 D (.lst (acc ++ [y]))) else Nx H3) := by
  refine ⟨fun i m H => m = ys.length - i ∧ i ≤ ys.length ∧ Pv i H, ⟨ys.length, by simp, Nat.zero_le _, h0⟩, ?_⟩
  rintro i m H ⟨rfl, hi, p⟩
  obtain ⟨qx, qy⟩ := hl i H hi p
  by_cases hlt : i < ys.length
  · have hx : xs[i]? = some xs[i] := List.getElem?_eq_getElem (by omega)
    have hy : ys[i]? = some ys[i] := List.getElem?_eq_getElem hlt
    refine .inr ⟨⟨xs, ys, _, _, qx, qy, hx, hy⟩, Pv (i + 1), fun H' p' => ⟨ys.length - (i + 1), by omega, rfl, hlt, p'⟩, fun v H' y => ?_⟩
    obtain ⟨T, x', y', rfl, hT, rfl, f1, f2⟩ := y
    exact hs i x' y' T H (f1 xs qx) (f2 ys qy) p hT
  · have e : i = ys.length := by omega
    subst e
    exact .inl ⟨⟨xs, ys, qx, qy, Or.inr (Nat.le_refl _)⟩, hd H p⟩
end My

namespace MyZ
open PySem PySem.Calls PyProof.Rows RZ
section
variable {prog : Program} {w : World} {A : Around} {E : Value → Shared → Prop} {s : Shared}
theorem zip_no_len : typeLookup (.type "zip") "__len__" = pure none := am_miss_of_fast (by decide +kernel)
theorem zip_no_hint : typeLookup (.type "zip") "__length_hint__" = pure none := am_miss_of_fast (by decide +kernel)
/-- the next pair of two tuples, while the pair before is held -/
theorem next_item {z TI TO T i1 i2 l1 l2 : Addr} {f : Bool} {oT : Obj} {k1 k2 : Nat} {xs ys : Array Value} {x y : Value} {Q : Option Value → Shared → Prop} (D : ZipApart z TI TO i1 i2 l1 l2)
    (hz : IsZipHeld s.heap z TI TO T f) (hT : s.heap.get? T = some oT) (hTI : IsPair s.heap TI (.ref i1) (.ref i2))
    (h1 : s.heap.IsTupleIter i1 l1 k1) (h2 : s.heap.IsTupleIter i2 l2 k2) (hl1 : s.heap.IsTuple l1 xs) (hl2 : s.heap.IsTuple l2 ys) (hx : xs[k1]? = some x) (hy : ys[k2]? = some y)
    (hQ : ∀ h', IsZipHeld h' z TI TO T true → h'.IsTupleIter i1 l1 (k1 + 1) → h'.IsTupleIter i2 l2 (k2 + 1) → IsPair h' s.heap.objs.size x y → h'.objs.size = s.heap.objs.size + 1 →
      (∀ c o, c ≠ z → c ≠ i1 → c ≠ i2 → s.heap.get? c = some o → h'.get? c = some o) → Q (some (.ref s.heap.objs.size)) { s with heap := h' }) :
    wpAny (model prog w) A (pyNext (.ref z)) Q E s := by
  have hTy : s.TypeIs (.ref z) "zip" := ⟨_, hz, rfl⟩
  unfold pyNext
  refine wpAny_bind (wpAny_attempt (wpAny_callSpecial?_slot (name := Str.ofString "__next__") hTy F.slot_zip_next
    (wpAny_call_entry F.slot_zip_next hTy F.entry_zip_next ?_ (F.args_zip_next_1 _))))
  show wpAny _ _ (field (.ref z) 2 >>= _) _ _ _
  refine wpAny_bind (wpAny_field hz rfl (x := .bool false) rfl ?_)
  show wpAny _ _ (field (.ref z) 3 >>= _) _ _ _
  refine wpAny_bind (wpAny_field hz rfl (x := .ref TI) rfl ?_)
  refine wpAny_bind (wpAny_seqItems hTI rfl ?_)
  show wpAny _ _ (Builtin.SmallTypes.ownedTupleIsFree (.ref z) >>= _) _ _ _
  refine wpAny_bind (wpAny_tupleHeld_zip hz hT fun g1 z1 b1 => ?_)
  simp only [Bool.false_eq_true, if_false]
  refine wpAny_bind ?_
  rw [← Array.forIn_toList]
  simp only [List.forIn_cons, List.forIn_nil]
  refine wpAny_bind (wpAny_bind (wpAny_holding ?_))
  show wpAny _ _ (Builtin.SmallTypes.nextOf (.ref i1) >>= _) _ _ _
  refine wpAny_bind (nextOf_tuple_item (s := { s with heap := g1 }) (h1.extBut b1.extBut D.i1z) (hl1.extBut b1.extBut D.l1z) hx fun g2 n1 b2 => wpAny_pure ?_)
  refine wpAny_pure ?_
  refine wpAny_bind (wpAny_bind (wpAny_holding ?_))
  show wpAny _ _ (Builtin.SmallTypes.nextOf (.ref i2) >>= _) _ _ _
  refine wpAny_bind (nextOf_tuple_item (s := { s with heap := g2 }) ((h2.extBut b1.extBut D.i2z).extBut b2.extBut D.i12.symm) ((hl2.extBut b1.extBut D.l2z).extBut b2.extBut D.l2i1) hy fun g3 n2 b3 => wpAny_pure ?_)
  refine wpAny_pure (wpAny_pure ?_)
  show wpAny _ _ (newTuple [x, y] >>= _) _ _ _
  refine wpAny_bind (wpAny_newTuple ?_)
  have hsz : g3.objs.size = s.heap.objs.size := by rw [b3.1, b2.1, b1.1]
  have z3 : IsZipHeld g3 z TI TO T true := b3.extBut _ _ D.i2z.symm (b2.extBut _ _ D.i1z.symm z1)
  have hk : ∀ c o, c ≠ z → c ≠ i1 → c ≠ i2 → s.heap.get? c = some o → g3.get? c = some o := fun c o c1 c2 c3 e => b3.extBut _ _ c3 (b2.extBut _ _ c2 (b1.extBut _ _ c1 e))
  have m1 : g3.IsTupleIter i1 l1 (k1 + 1) := n1.extBut b3.extBut D.i12
  refine wpAny_pure ⟨_, rfl, wpAny_pure ?_⟩
  show Q (some (.ref g3.objs.size)) _
  have hp : IsPair (g3.push { cls := .type "tuple", data := .seq #[x, y] }) g3.objs.size x y := Heap.get?_push_size _ rfl
  have z4 : (g3.push { cls := .type "tuple", data := .seq #[x, y] }).objs.size = g3.objs.size + 1 := Heap.size_push ..
  rw [hsz] at hp z4 ⊢
  exact hQ _ (Heap.get?_push_of_some _ z3) (m1.at fun o e => Heap.get?_push_of_some _ e) (n2.at fun o e => Heap.get?_push_of_some _ e) hp z4 fun c o c1 c2 c3 e => Heap.get?_push_of_some _ (hk c o c1 c2 c3 e)
theorem next_end {z TI TO T i1 i2 l1 l2 : Addr} {f : Bool} {oT : Obj} {k1 k2 : Nat} {xs ys : Array Value} {Q : Option Value → Shared → Prop} (hh : A.handled = none) (D : ZipApart z TI TO i1 i2 l1 l2)
    (hz : IsZipHeld s.heap z TI TO T f) (hT : s.heap.get? T = some oT) (hTI : IsPair s.heap TI (.ref i1) (.ref i2))
    (h1 : s.heap.IsTupleIter i1 l1 k1) (hl1 : s.heap.IsTuple l1 xs) (hend : xs[k1]? = none)
    (hQ : ∀ h', (∀ c o, c ≠ z → c ≠ i1 → c ≠ i2 → s.heap.get? c = some o → h'.get? c = some o) → Q none { s with heap := h' }) :
    wpAny (model prog w) A (pyNext (.ref z)) Q E s := by
  have hTy : s.TypeIs (.ref z) "zip" := ⟨_, hz, rfl⟩
  unfold pyNext
  refine wpAny_bind (wpAny_attempt (wpAny_callSpecial?_slot (name := Str.ofString "__next__") hTy F.slot_zip_next
    (wpAny_call_entry F.slot_zip_next hTy F.entry_zip_next ?_ (F.args_zip_next_1 _))))
  show wpAny _ _ (field (.ref z) 2 >>= _) _ _ _
  refine wpAny_bind (wpAny_field hz rfl (x := .bool false) rfl ?_)
  show wpAny _ _ (field (.ref z) 3 >>= _) _ _ _
  refine wpAny_bind (wpAny_field hz rfl (x := .ref TI) rfl ?_)
  refine wpAny_bind (wpAny_seqItems hTI rfl ?_)
  show wpAny _ _ (Builtin.SmallTypes.ownedTupleIsFree (.ref z) >>= _) _ _ _
  refine wpAny_bind (wpAny_tupleHeld_zip hz hT fun g1 z1 b1 => ?_)
  simp only [Bool.false_eq_true, if_false]
  refine wpAny_bind ?_
  rw [← Array.forIn_toList]
  simp only [List.forIn_cons, List.forIn_nil]
  refine wpAny_bind (wpAny_bind (wpAny_holding ?_))
  show wpAny _ _ (Builtin.SmallTypes.nextOf (.ref i1) >>= _) _ _ _
  refine wpAny_bind (nextOf_tuple_end (s := { s with heap := g1 }) hh (h1.extBut b1.extBut D.i1z) (hl1.extBut b1.extBut D.l1z) hend fun g2 e b2 he => ?_)
  obtain ⟨o, ho, hc⟩ := he
  refine wpAny_bind (wpAny_isInstance (T := "StopIteration") (b := true) ⟨o, ho, hc⟩ isSubtype_stop ?_)
  exact wpAny_pure (hQ _ fun c o c1 c2 _ x => b2 _ _ c2 (b1.extBut _ _ c1 x))
end
end MyZ

namespace MyZ
open PySem PySem.Calls PyProof.Rows RZ
/-- the pairs that have been given out -/
structure PS (n0 : Nat) (xs ys : Array Value) (i : Nat) (acc : List Addr) (h : Heap) : Prop where
  len : acc.length = i
  asc : acc.Pairwise (· < ·)
  lo : ∀ T ∈ acc, n0 ≤ T
  lt : ∀ T ∈ acc, T < h.objs.size
  prs : ∀ (j : Nat) T u v, acc[j]? = some T → xs[j]? = some u → ys[j]? = some v → IsPair h T u v
theorem PS.keep {n0 : Nat} {xs ys : Array Value} {i : Nat} {acc : List Addr} {h h' : Heap} (p : PS n0 xs ys i acc h) (hs : h.objs.size ≤ h'.objs.size) (k : ∀ b o, n0 ≤ b → h.get? b = some o → h'.get? b = some o) : PS n0 xs ys i acc h' :=
  ⟨p.len, p.asc, p.lo, fun T hT => Nat.lt_of_lt_of_le (p.lt T hT) hs, fun j T u v a b c => k T _ (p.lo T (List.mem_of_getElem? a)) (p.prs j T u v a b c)⟩
theorem PS.snoc {n0 : Nat} {xs ys : Array Value} {i T : Nat} {u v : Value} {acc : List Addr} {h : Heap} (p : PS n0 xs ys i acc h) (hT : ∀ x ∈ acc, x < T) (h0 : n0 ≤ T) (h1 : T < h.objs.size) (hx : xs[i]? = some u) (hy : ys[i]? = some v) (hp : IsPair h T u v) : PS n0 xs ys (i + 1) (acc ++ [T]) h := by
  refine ⟨by rw [List.length_append, p.len]; rfl, ?_, ?_, ?_, ?_⟩
  · rw [List.pairwise_append]
    refine ⟨p.asc, List.pairwise_singleton _ _, fun a ha b hb => ?_⟩
    rw [List.mem_singleton] at hb
    subst hb
    exact hT a ha
  · intro x hx
    rcases List.mem_append.mp hx with hx | hx
    · exact p.lo x hx
    · rw [List.mem_singleton] at hx
      subst hx
      exact h0
  · intro x hx
    rcases List.mem_append.mp hx with hx | hx
    · exact p.lt x hx
    · rw [List.mem_singleton] at hx
      subst hx
      exact h1
  · intro j T' a b e1 e2 e3
    rcases Nat.lt_or_ge j acc.length with z | z
    · rw [List.getElem?_append_left z] at e1
      exact p.prs j T' a b e1 e2 e3
    · rw [List.getElem?_append_right z] at e1
      have l := (List.getElem?_eq_some_iff.mp e1).1
      rw [List.length_singleton] at l
      have ej : j = i := by
        rw [p.len] at l z
        omega
      rw [ej, p.len, Nat.sub_self] at e1
      cases e1
      rw [ej, hx] at e2
      rw [ej, hy] at e3
      cases e2
      cases e3
      exact hp
/-- the zip of two tuples, i pairs given out -/
structure ZS (n0 : Nat) (z TI TO i1 i2 l1 l2 : Addr) (xs ys : Array Value) (i : Nat) (acc : List Addr) (h : Heap) : Prop where
  ti : IsPair h TI (.ref i1) (.ref i2)
  a1 : h.IsTupleIter i1 l1 i
  a2 : h.IsTupleIter i2 l2 i
  b1 : h.IsTuple l1 xs
  b2 : h.IsTuple l2 ys
  zz : (IsZip h z TI TO .none ∧ ∃ a b, IsPair h TO a b) ∨ ∃ T f oT, IsZipHeld h z TI TO T f ∧ h.get? T = some oT ∧ n0 ≤ T
  ps : PS n0 xs ys i acc h
structure Low (n0 : Nat) (z TI TO i1 i2 l1 l2 S : Addr) : Prop where
  lz : z < n0
  lTI : TI < n0
  lTO : TO < n0
  li1 : i1 < n0
  li2 : i2 < n0
  ll1 : l1 < n0
  ll2 : l2 < n0
  lS : S < n0
  Sz : S ≠ z
  STI : S ≠ TI
  STO : S ≠ TO
  Si1 : S ≠ i1
  Si2 : S ≠ i2
  Sl1 : S ≠ l1
  Sl2 : S ≠ l2
section
variable {prog : Program} {w : World} {A : Around} {R : Result → Shared → Prop} {n0 : Nat} {z TI TO i1 i2 l1 l2 S : Addr} {xs ys : Array Value} {n : Nat}
theorem zs_step {i : Nat} {acc : List Addr} {s : Shared} {x y : Value} {Q : Option Value → Shared → Prop} {E : Value → Shared → Prop} (D : ZipApart z TI TO i1 i2 l1 l2) (L : Low n0 z TI TO i1 i2 l1 l2 S) (st : ZS n0 z TI TO i1 i2 l1 l2 xs ys i acc s.heap) (h0 : n0 ≤ s.heap.objs.size) (hx : xs[i]? = some x) (hy : ys[i]? = some y)
    (hQ : ∀ h', ZS n0 z TI TO i1 i2 l1 l2 xs ys (i + 1) (acc ++ [s.heap.objs.size]) h' → h'.objs.size = s.heap.objs.size + 1 → (∀ c o, c ≠ z → c ≠ TO → c ≠ i1 → c ≠ i2 → s.heap.get? c = some o → h'.get? c = some o) → Q (some (.ref s.heap.objs.size)) { s with heap := h' }) :
    wpAny (model prog w) A (pyNext (.ref z)) Q E s := by
  have nz : ∀ b, n0 ≤ b → b ≠ z ∧ b ≠ TO ∧ b ≠ i1 ∧ b ≠ i2 := fun b hb => ⟨Nat.ne_of_gt (Nat.lt_of_lt_of_le L.lz hb), Nat.ne_of_gt (Nat.lt_of_lt_of_le L.lTO hb), Nat.ne_of_gt (Nat.lt_of_lt_of_le L.li1 hb), Nat.ne_of_gt (Nat.lt_of_lt_of_le L.li2 hb)⟩
  have fin : ∀ h', (IsZip h' z TI TO .none ∧ ∃ a b, IsPair h' TO a b) ∨ (∃ T f oT, IsZipHeld h' z TI TO T f ∧ h'.get? T = some oT ∧ n0 ≤ T) → h'.IsTupleIter i1 l1 (i + 1) → h'.IsTupleIter i2 l2 (i + 1) → IsPair h' s.heap.objs.size x y → h'.objs.size = s.heap.objs.size + 1 →
      (∀ c o, c ≠ z → c ≠ TO → c ≠ i1 → c ≠ i2 → s.heap.get? c = some o → h'.get? c = some o) → Q (some (.ref s.heap.objs.size)) { s with heap := h' } := fun h' c1 c2 c3 c4 c5 c6 => by
    refine hQ h' ⟨c6 _ _ D.TIz D.TITO D.TIi1 D.TIi2 st.ti, c2, c3, st.b1.at fun o e => c6 _ _ D.l1z D.l1TO D.l1i1 D.l1i2 e, st.b2.at fun o e => c6 _ _ D.l2z D.l2TO D.l2i1 D.l2i2 e, c1, ?_⟩ c5 c6
    refine (st.ps.keep (by omega) fun b o hb e => ?_).snoc st.ps.lt h0 (by omega) hx hy c4
    obtain ⟨d1, d2, d3, d4⟩ := nz b hb
    exact c6 b o d1 d2 d3 d4 e
  rcases st.zz with ⟨hz, a, b, hTO⟩ | ⟨T, f, oT, hz, hT, nT⟩
  · refine pyNext_zipT_item D hz st.ti hTO st.a1 st.a2 st.b1 st.b2 hx hy fun h' c1 c2 c3 c4 c5 c6 c7 => ?_
    exact fin h' (.inr ⟨s.heap.objs.size, false, _, c1, c5, h0⟩) c3 c4 c5 c6 c7
  · refine next_item D hz hT st.ti st.a1 st.a2 st.b1 st.b2 hx hy fun h' c1 c2 c3 c4 c5 c6 => ?_
    obtain ⟨d1, d2, d3, d4⟩ := nz T nT
    exact fin h' (.inr ⟨T, true, oT, c1, c6 T oT d1 d3 d4 hT, nT⟩) c2 c3 c4 c5 fun c o e1 _ e3 e4 e => c6 c o e1 e3 e4 e
theorem zs_end {acc : List Addr} {s : Shared} {Q : Option Value → Shared → Prop} {E : Value → Shared → Prop} (hh : A.handled = none) (D : ZipApart z TI TO i1 i2 l1 l2) (L : Low n0 z TI TO i1 i2 l1 l2 S) (st : ZS n0 z TI TO i1 i2 l1 l2 xs ys n acc s.heap) (hx : xs.size = n)
    (hQ : ∀ h', (∀ c o, c ≠ z → c ≠ TO → c ≠ i1 → c ≠ i2 → s.heap.get? c = some o → h'.get? c = some o) → Q none { s with heap := h' }) :
    wpAny (model prog w) A (pyNext (.ref z)) Q E s := by
  have he : xs[n]? = none := by rw [Array.getElem?_eq_none (by omega)]
  rcases st.zz with ⟨hz, a, b, hTO⟩ | ⟨T, f, oT, hz, hT, nT⟩
  · exact pyNext_zipT_end hh D hz st.ti hTO st.a1 st.a2 st.b1 st.b2 (.inl he) hQ
  · exact next_end (k2 := n) (ys := ys) hh D hz hT st.ti st.a1 st.b1 he fun h' c => hQ h' fun c' o e1 _ e3 e4 e => c c' o e1 e3 e4 e
end
end MyZ

namespace MyZ
open PySem PySem.Calls PyProof.Rows RZ
/-- a plain list's object -/
abbrev lsO (acc : List Addr) (c : Nat) : Obj := { cls := .type "list", dict := none, data := .seq (acc.map Value.ref).toArray c, slots := #[] }
def FK (z TO i1 i2 S : Addr) (h h' : Heap) : Prop := ∀ b o, b ≠ S → b ≠ z → b ≠ TO → b ≠ i1 → b ≠ i2 → h.get? b = some o → h'.get? b = some o
section
variable {prog : Program} {w : World} {A : Around} {R : Result → Shared → Prop} {n0 : Nat} {z TI TO i1 i2 l1 l2 S : Addr} {xs ys : Array Value} {n : Nat}
theorem ZS.keep {i : Nat} {acc : List Addr} {h h' : Heap} (L : Low n0 z TI TO i1 i2 l1 l2 S) (st : ZS n0 z TI TO i1 i2 l1 l2 xs ys i acc h) (hs : h.objs.size ≤ h'.objs.size) (k : ∀ b o, b ≠ S → h.get? b = some o → h'.get? b = some o) : ZS n0 z TI TO i1 i2 l1 l2 xs ys i acc h' := by
  have hi : ∀ b, n0 ≤ b → b ≠ S := fun b hb => Nat.ne_of_gt (Nat.lt_of_lt_of_le L.lS hb)
  refine ⟨k _ _ L.STI.symm st.ti, st.a1.at fun o e => k _ _ L.Si1.symm e, st.a2.at fun o e => k _ _ L.Si2.symm e, st.b1.at fun o e => k _ _ L.Sl1.symm e, st.b2.at fun o e => k _ _ L.Sl2.symm e, ?_, st.ps.keep hs fun b o hb e => k b o (hi b hb) e⟩
  rcases st.zz with ⟨hz, a, b, hTO⟩ | ⟨T, f, oT, hz, hT, nT⟩
  · exact .inl ⟨k _ _ L.Sz.symm hz, a, b, k _ _ L.STO.symm hTO⟩
  · exact .inr ⟨T, f, oT, k _ _ L.Sz.symm hz, k _ _ (hi T nT) hT, nT⟩
theorem zs_loop (hh : A.in1.handled = none) (D : ZipApart z TI TO i1 i2 l1 l2) (L : Low n0 z TI TO i1 i2 l1 l2 S) (hxs : xs.size = n) (hys : ys.size = n) (hn : n ≤ sizeLine) (res : Value) :
    ∀ (k i : Nat) (s : Shared) (acc : List Addr) (c : Nat), n - i = k → i ≤ n → ZS n0 z TI TO i1 i2 l1 l2 xs ys i acc s.heap → n0 ≤ s.heap.objs.size → s.heap.get? S = some (lsO acc c) →
    (∀ h' acc' c', FK z TO i1 i2 S s.heap h' → PS n0 xs ys n acc' h' → h'.get? S = some (lsO acc' c') → R (.ok (.ret res)) { s with heap := h' }) →
    codeAny (model prog w) A (.builtin "list.extend.loop" ⟨[.ref S, .ref z, res], []⟩) R s := by
  intro k
  induction k with
  | zero =>
    intro i s acc c hk hi st h0 hS hR
    have hin : i = n := by omega
    subst hin
    refine codeAny_builtin F.entry_extend_loop ?_
    rw [Around.under_plainId F.plain_extend_loop _]
    show wpAny _ A.in1 (pyNext (.ref z) >>= _) _ _ s
    refine wpAny_bind (zs_end hh D L st hxs fun h' hk => ?_)
    have hi : ∀ b, n0 ≤ b → b ≠ z ∧ b ≠ TO ∧ b ≠ i1 ∧ b ≠ i2 := fun b hb => ⟨Nat.ne_of_gt (Nat.lt_of_lt_of_le L.lz hb), Nat.ne_of_gt (Nat.lt_of_lt_of_le L.lTO hb), Nat.ne_of_gt (Nat.lt_of_lt_of_le L.li1 hb), Nat.ne_of_gt (Nat.lt_of_lt_of_le L.li2 hb)⟩
    have pk : PS n0 xs ys i acc h' := by
      refine ⟨st.ps.len, st.ps.asc, st.ps.lo, fun T hT => ?_, fun j T u v a b c => ?_⟩
      · obtain ⟨j, hj, e⟩ := List.getElem_of_mem hT
        have e1 : acc[j]? = some T := by rw [List.getElem?_eq_getElem hj, e]
        have lj : j < i := by rw [← st.ps.len]; exact hj
        have e2 : xs[j]? = some xs[j] := Array.getElem?_eq_getElem (by omega)
        have e3 : ys[j]? = some ys[j] := Array.getElem?_eq_getElem (by omega)
        have hp := st.ps.prs j T _ _ e1 e2 e3
        obtain ⟨d1, d2, d3, d4⟩ := hi T (st.ps.lo T hT)
        exact Heap.lt_size (hk T _ d1 d2 d3 d4 hp)
      · obtain ⟨d1, d2, d3, d4⟩ := hi T (st.ps.lo T (List.mem_of_getElem? a))
        exact hk T _ d1 d2 d3 d4 (st.ps.prs j T u v a b c)
    exact wpAny_pure (hR h' acc c (fun b o _ c1 c2 c3 c4 e => hk b o c1 c2 c3 c4 e) pk (hk S _ L.Sz L.STO L.Si1 L.Si2 hS))
  | succ k ih =>
    intro i s acc c hk hi st h0 hS hR
    have hlt : i < n := by omega
    refine codeAny_builtin F.entry_extend_loop ?_
    rw [Around.under_plainId F.plain_extend_loop _]
    show wpAny _ A.in1 (pyNext (.ref z) >>= _) _ _ s
    have e2 : xs[i]? = some xs[i] := Array.getElem?_eq_getElem (by omega)
    have e3 : ys[i]? = some ys[i] := Array.getElem?_eq_getElem (by omega)
    refine wpAny_bind (zs_step D L st h0 e2 e3 fun h1 st1 sz1 fk1 => ?_)
    have hS1 := fk1 S _ L.Sz L.STO L.Si1 L.Si2 hS
    show wpAny _ A.in1 (updateSeq S (·.push (.ref s.heap.objs.size)) >>= _) _ _ _
    refine wpAny_bind ?_
    have la := st.ps.len
    have hU := Heap.get?_update_self (Obj.mapSeq (·.push (Value.ref s.heap.objs.size))) hS1 rfl
    have eU : Obj.mapSeq (·.push (Value.ref s.heap.objs.size)) (lsO acc c) = lsO (acc ++ [s.heap.objs.size]) (if ((acc.map Value.ref).toArray.push (Value.ref s.heap.objs.size)).size == (acc.map Value.ref).toArray.size then c else c + 1) := by
      simp only [Obj.mapSeq, lsO, List.map_append, List.map_cons, List.map_nil, List.push_toArray]
    rw [eU] at hU
    refine wpAny_updateSeq hS1 rfl (wpAny_pure ⟨plainId_quiet F.plain_extend_loop _, ih (i + 1) _ (acc ++ [s.heap.objs.size]) _ (by omega) hlt (ZS.keep L st1 (by show h1.objs.size ≤ (h1.update S _).objs.size; rw [Heap.size_update]; exact Nat.le_refl _) fun b o hb e => ?_) (by show n0 ≤ (h1.update S _).objs.size; rw [Heap.size_update]; omega) hU fun h' acc' c' fk ps' hS' => ?_⟩)
      (by rw [List.size_toArray, List.length_map]; omega) (by simp only [Array.size_push, List.size_toArray, List.length_map]; omega)
    · exact (Heap.get?_update_other _ _ (Ne.symm hb)).trans e
    · refine hR h' acc' c' (fun b o c0 c1 c2 c3 c4 e => fk b o c0 c1 c2 c3 c4 ?_) ps' hS'
      exact (Heap.get?_update_other _ _ (Ne.symm c0)).trans (fk1 b o c1 c2 c3 c4 e)
end
end MyZ

namespace MyZ
open PySem PySem.Calls PyProof.Rows RZ
section
variable {prog : Program} {w : World} {A : Around} {R : Result → Shared → Prop} {n0 : Nat} {z TI TO i1 i2 l1 l2 S : Addr} {xs ys : Array Value} {n : Nat} {s : Shared}
theorem zs_extend (hh : A.in1.handled = none) (D : ZipApart z TI TO i1 i2 l1 l2) (L : Low n0 z TI TO i1 i2 l1 l2 S) (hxs : xs.size = n) (hys : ys.size = n) (hn : n ≤ sizeLine) (res : Value) (c : Nat)
    (hz : IsZip s.heap z TI TO .none) (st : ZS n0 z TI TO i1 i2 l1 l2 xs ys 0 [] s.heap) (h0 : n0 ≤ s.heap.objs.size) (hS : s.heap.get? S = some (lsO [] c))
    (hR : ∀ h' acc' c', FK z TO i1 i2 S s.heap h' → PS n0 xs ys n acc' h' → h'.get? S = some (lsO acc' c') → R (.ok (.ret res)) { s with heap := h' }) :
    wpAny (model prog w) A.in1 (Builtin.List.listExtendWith (.ref S) (.ref z) res)
      (fun fin s' => match fin with | .done f => R (.ok f) s' | .again c' => c'.quiet = true ∧ codeAny (model prog w) A c' R s') (fun e s' => R (.error e) s') s := by
  have hT : s.TypeIs (.ref z) "zip" := ⟨_, hz, rfl⟩
  unfold Builtin.List.listExtendWith
  refine wpAny_bind (wpAny_typeOf hT ?_)
  have t1 : Builtin.List.listSameRef (.ref S) (.ref z) = false := by simp [Builtin.List.listSameRef, L.Sz]
  have t2 : (Value.type "zip" == Value.type "list") = false := by decide
  have t3 : (Value.type "zip" == Value.type "tuple") = false := by decide
  simp only [t1, t2, t3, Bool.or_false, Bool.false_eq_true, if_false]
  refine wpAny_bind (wpAny_pyIter_zip hz ?_)
  refine wpAny_bind (wpAny_holding ?_)
  unfold Builtin.List.listLengthHint
  refine wpAny_bind (wpAny_specialOf hT zip_no_len ?_)
  show wpAny _ A.in1 (specialOf (Value.ref z) (Str.ofString "__length_hint__") >>= _) _ _ _
  refine wpAny_bind (wpAny_specialOf hT zip_no_hint ?_)
  refine wpAny_pure ?_
  show wpAny _ A.in1 (rule "list.extend.makes-room" >>= fun _ => Builtin.List.listTouch (.ref S) >>= fun _ =>
    again (.builtin "list.extend.loop" ⟨[.ref S, .ref z, res], []⟩)) _ _ _
  refine wpAny_bind (wpAny_rule ?_)
  refine wpAny_bind ?_
  show wpAny _ A.in1 (updateSeq S (·.push .none) >>= fun _ => updateSeq S (·.pop)) _ _ _
  refine wpAny_bind (wpAny_updateSeq (hz := by seq_fits) hS rfl ?_)
  have hS2 := Heap.get?_update_self (Obj.mapSeq (·.push Value.none)) hS rfl
  refine wpAny_updateSeq (hz := by seq_fits) hS2 rfl ?_
  have hS3 := Heap.get?_update_self (Obj.mapSeq (·.pop)) hS2 rfl
  have oth : ∀ b o, b ≠ S → s.heap.get? b = some o → ((s.heap.update S (Obj.mapSeq (·.push Value.none))).update S (Obj.mapSeq (·.pop))).get? b = some o :=
    fun b o hb e => (Heap.get?_update_other _ _ (Ne.symm hb)).trans ((Heap.get?_update_other _ _ (Ne.symm hb)).trans e)
  refine wpAny_pure ⟨plainId_quiet F.plain_extend_loop _, zs_loop hh D L hxs hys hn res n 0 _ [] (c + 1 + 1) rfl (Nat.zero_le _) (ZS.keep L st ?_ oth) ?_ hS3 fun h' acc' c' fk ps' hS' => ?_⟩
  · show s.heap.objs.size ≤ ((s.heap.update S _).update S _).objs.size
    rw [Heap.size_update, Heap.size_update]
    exact Nat.le_refl _
  · show n0 ≤ ((s.heap.update S _).update S _).objs.size
    rw [Heap.size_update, Heap.size_update]
    exact h0
  · exact hR h' acc' c' (fun b o c0 c1 c2 c3 c4 e => fk b o c0 c1 c2 c3 c4 (oth b o c0 e)) ps' hS'
theorem zs_init (hh : A.in1.handled = none) (D : ZipApart z TI TO i1 i2 l1 l2) (L : Low n0 z TI TO i1 i2 l1 l2 S) (hxs : xs.size = n) (hys : ys.size = n) (hn : n ≤ sizeLine)
    (hz : IsZip s.heap z TI TO .none) (st : ZS n0 z TI TO i1 i2 l1 l2 xs ys 0 [] s.heap) (h0 : n0 ≤ s.heap.objs.size) (hS : s.heap.get? S = some { cls := .type "list", data := .seq #[] })
    (hR : ∀ h' acc' c', FK z TO i1 i2 S s.heap h' → PS n0 xs ys n acc' h' → h'.get? S = some (lsO acc' c') → R (.ok (.ret .none)) { s with heap := h' }) :
    wpAny (model prog w) A.in1 (Builtin.«list.__init__» ⟨[.ref S, .ref z], []⟩)
      (fun fin s' => match fin with | .done f => R (.ok f) s' | .again c' => c'.quiet = true ∧ codeAny (model prog w) A c' R s') (fun e s' => R (.error e) s') s := by
  show wpAny _ A.in1 (do let old ← Builtin.List.listItems (.ref S); Builtin.List.listUpdate (.ref S) (fun _ => #[]); letGo old.toList.reverse; Builtin.List.listExtendWith (.ref S) (.ref z) .none) _ _ s
  refine wpAny_bind ?_
  unfold Builtin.List.listItems
  refine wpAny_bind (wpAny_seqItems hS rfl (wpAny_pure ?_))
  show wpAny _ A.in1 (updateSeq S (fun _ => #[]) >>= fun _ => letGo (#[] : Array Value).toList.reverse >>= fun _ => Builtin.List.listExtendWith (.ref S) (.ref z) .none) _ _ s
  refine wpAny_bind (wpAny_updateSeq hS rfl ?_)
  have hS2 := Heap.get?_update_self (Obj.mapSeq (fun _ => (#[] : Array Value))) hS rfl
  have oth : ∀ b o, b ≠ S → s.heap.get? b = some o → (s.heap.update S (Obj.mapSeq (fun _ => (#[] : Array Value)))).get? b = some o :=
    fun b o hb e => (Heap.get?_update_other _ _ (Ne.symm hb)).trans e
  refine wpAny_bind (wpAny_letGo ?_)
  refine zs_extend hh D L hxs hys hn .none 0 (oth _ _ L.Sz.symm hz) (ZS.keep L st ?_ oth) ?_ hS2 fun h' acc' c' fk ps' hS' => ?_
  · show s.heap.objs.size ≤ (s.heap.update S _).objs.size
    rw [Heap.size_update]
    exact Nat.le_refl _
  · show n0 ≤ (s.heap.update S _).objs.size
    rw [Heap.size_update]
    exact h0
  · exact hR h' acc' c' (fun b o c0 c1 c2 c3 c4 e => fk b o c0 c1 c2 c3 c4 (oth b o c0 e)) ps' hS'
end
/-- list(z), z a zip of two tuples of one length -/
theorem call_listZip {prog : Program} {w : World} {A : Around} {E : Value → Shared → Prop} {s : Shared} {z TI TO i1 i2 l1 l2 : Addr} {xs ys : Array Value} {n : Nat} {Q : Value → Shared → Prop} (hh : A.handled = none) (D : ZipApart z TI TO i1 i2 l1 l2) (hxs : xs.size = n) (hys : ys.size = n) (hn : n ≤ sizeLine)
    (hz : IsZip s.heap z TI TO .none) (hTI : IsPair s.heap TI (.ref i1) (.ref i2)) {a b : Value} (hTO : IsPair s.heap TO a b) (a1 : s.heap.IsTupleIter i1 l1 0) (a2 : s.heap.IsTupleIter i2 l2 0) (b1 : s.heap.IsTuple l1 xs) (b2 : s.heap.IsTuple l2 ys)
    (hQ : ∀ h' acc c', (∀ b o, b ≠ z → b ≠ TO → b ≠ i1 → b ≠ i2 → s.heap.get? b = some o → h'.get? b = some o) → PS (s.heap.objs.size + 1) xs ys n acc h' → h'.get? s.heap.objs.size = some (lsO acc c') → Q (.ref s.heap.objs.size) { s with heap := h' }) :
    wpAny (model prog w) A (call (.type "list") [.ref z]) Q E s := by
  refine callType_codes (Q₁ := fun obj s₁ => obj = .ref s.heap.objs.size ∧ s₁ = { s with heap := s.heap.push { cls := .type "list", data := .seq #[] } }) PySem.F.called_list (PySem.F.typeCall_list_1 _) PySem.F.entry_list_init
    (code_list_new _ ⟨rfl, rfl⟩) fun obj s₁ h₁ => ?_
  obtain ⟨rfl, rfl⟩ := h₁
  have hS : (s.heap.push { cls := .type "list", data := .seq #[] }).get? s.heap.objs.size = some { cls := .type "list", data := .seq #[] } := Heap.get?_push_size _ rfl
  have up : ∀ b o, s.heap.get? b = some o → (s.heap.push { cls := .type "list", data := .seq #[] }).get? b = some o := fun b o e => Heap.get?_push_of_some _ e
  have g1 := Heap.lt_size hz
  have g2 := Heap.lt_size hTI
  have g3 := Heap.lt_size hTO
  have g4 : i1 < s.heap.objs.size := by obtain ⟨_, e, _⟩ := a1; exact Heap.lt_size e
  have g5 : i2 < s.heap.objs.size := by obtain ⟨_, e, _⟩ := a2; exact Heap.lt_size e
  have g6 : l1 < s.heap.objs.size := by obtain ⟨_, e, _⟩ := b1; exact Heap.lt_size e
  have g7 : l2 < s.heap.objs.size := by obtain ⟨_, e, _⟩ := b2; exact Heap.lt_size e
  have sz := Heap.size_push s.heap { cls := .type "list", data := .seq #[] }
  have L : Low (s.heap.objs.size + 1) z TI TO i1 i2 l1 l2 s.heap.objs.size := ⟨Nat.lt_succ_of_lt g1, Nat.lt_succ_of_lt g2, Nat.lt_succ_of_lt g3, Nat.lt_succ_of_lt g4, Nat.lt_succ_of_lt g5, Nat.lt_succ_of_lt g6, Nat.lt_succ_of_lt g7, Nat.lt_succ_self _,
    Nat.ne_of_gt g1, Nat.ne_of_gt g2, Nat.ne_of_gt g3, Nat.ne_of_gt g4, Nat.ne_of_gt g5, Nat.ne_of_gt g6, Nat.ne_of_gt g7⟩
  refine ⟨⟨_, hS, rfl⟩, PySem.F.args_list_init_2 _ _, zs_init (A := A.in1) hh D L hxs hys hn (up _ _ hz)
    ⟨up _ _ hTI, a1.at fun o e => up _ _ e, a2.at fun o e => up _ _ e, b1.at fun o e => up _ _ e, b2.at fun o e => up _ _ e, .inl ⟨up _ _ hz, a, b, up _ _ hTO⟩, ⟨rfl, List.Pairwise.nil, fun T h => (by cases h), fun T h => (by cases h), fun j T u v h => (by simp at h)⟩⟩ (Nat.le_of_eq sz.symm) hS fun h' acc' c' fk ps' hS' => ?_⟩
  exact ⟨rfl, hQ h' acc' c' (fun b o c1 c2 c3 c4 e => fk b o (Nat.ne_of_lt (Heap.lt_size e)) c1 c2 c3 c4 (up b o e)) ps' hS'⟩
end MyZ

namespace My
open PySem PySem.Spec PyProof.Rows L2 RZ
/-- the heap with the pairs and their list -/
def zipH (H : Hp) (S : Addr) (acc : List Addr) (xs ys : List V) : Hp := fun b =>
  if b = S then some (.lst (acc.map V.ref)) else if b ∈ acc then some (.tup [xs.getD (acc.idxOf b) .non, ys.getD (acc.idxOf b) .non]) else H b
theorem zipH_S {H : Hp} {S : Addr} {acc : List Addr} {xs ys : List V} : zipH H S acc xs ys S = some (.lst (acc.map V.ref)) := if_pos rfl
theorem zipH_old {H : Hp} {S b n : Addr} {acc : List Addr} {xs ys : List V} (hb : b < n) (hS : n ≤ S) (ha : ∀ T ∈ acc, n ≤ T) : zipH H S acc xs ys b = H b := by
  unfold zipH
  rw [if_neg (fun e => absurd hb (by rw [e]; exact Nat.not_lt.mpr hS)), if_neg (fun e => absurd hb (Nat.not_lt.mpr (ha b e)))]
theorem idx_asc {acc : List Addr} (h : acc.Pairwise (· < ·)) {i : Nat} {T : Addr} (e : acc[i]? = some T) : acc.idxOf T = i := by
  have nd : acc.Nodup := h.imp fun h => Nat.ne_of_lt h
  obtain ⟨hi, e⟩ := List.getElem?_eq_some_iff.mp e
  subst e
  exact nd.idxOf_getElem i hi
theorem zipH_T {H : Hp} {S T : Addr} {acc : List Addr} {xs ys : List V} {i : Nat} {x y : V} (h : acc.Pairwise (· < ·)) (e : acc[i]? = some T) (n : T ≠ S) (hx : xs[i]? = some x) (hy : ys[i]? = some y) : zipH H S acc xs ys T = some (.tup [x, y]) := by
  unfold zipH
  rw [if_neg n, if_pos (List.mem_of_getElem? e), idx_asc h e]
  simp [List.getD, hx, hy]
theorem vals_refs : ∀ acc : List Addr, Vals (acc.map V.ref) (acc.map Value.ref)
  | [] => .nil
  | a :: r => .cons rfl (vals_refs r)
def tListZip (K : PySem.W.Frag) (ta : TA) : TE := fun σ H Q => ta σ H fun vs H1 => ∃ a b xs ys, vs = [V.ref a, .ref b] ∧ SqT K H1 a xs ∧ SqT K H1 b ys ∧ xs.length = ys.length ∧
  ∀ S (ts : List Addr) H', H1 S = none → Same H1 H' → H' S = some (.lst (ts.map V.ref)) → ts.length = xs.length → (∀ (i : Nat) T x y, ts[i]? = some T → xs[i]? = some x → ys[i]? = some y → H' T = some (.tup [x, y])) → Q (.ref S) H'
section
variable {X : Cx} {e e2 : Expr} {ta : TA} {p p2 pos qos : Pos}
theorem pe_listZip (hc : X.calm = true) (hg : Gl X "list") (hm : X.mg "list" = none) (hg2 : Gl X "zip") (hm2 : X.mg "zip" = none) (ha : PA X [e, e2] ta)
    (hs : starEach [e, e2] X.env = (false, eval e X.env) :: starEach [e2] X.env := by rfl) (hpl : (backTo qos (starEach [e2] X.env)).any (·.1) = false := by rfl)
    (hse : starEach [Expr.Call (.Name "zip" p2) [e, e2] [] qos] X.env = [(false, eval (Expr.Call (.Name "zip" p2) [e, e2] [] qos) X.env)] := by rfl) :
    PE X (.Call (.Name "list" p) [.Call (.Name "zip" p2) [e, e2] [] qos] [] pos) (tListZip X.K ta) := by
  refine ⟨fun pins s σ H Q I h => ?_⟩
  refine wpAny_Call_Name_kw (ld_blt I hg hm (u := .type "list") (by first | rfl | decide +kernel) ?_ (by first | decide +kernel | decide) (by first | decide +kernel | decide))
  rw [hse]
  refine PySem.callWith_type1 ?_
  refine Call_ (ld_blt I hg2 hm2 PyProof.Rows.boot_zip (PyProof.Rows.callWith_type1 (thn (ha.run qos pins s σ H _ I h) fun us s1 ⟨vs, H1, I1, r1, q1⟩ => ?_) hs hpl))
  obtain ⟨a, b, xs, ys, ex, hqx, hqy, hl, q⟩ := q1
  subst ex
  cases r1 with
  | cons r rr =>
    cases rr with
    | cons r' rr =>
      cases rr
      cases r
      cases r'
      obtain ⟨its, rv, b1, z1⟩ := I1.tuple hqx
      obtain ⟨its2, rv2, b2, z2⟩ := I1.tuple hqy
      have l1 := rv.length
      have l2 := rv2.length
      refine RZ.call_zipT b1 b2 fun h1 hz hTI hTO a1 a2 hsz hk => ?_
      have g4 : a < s1.heap.objs.size := by obtain ⟨_, e, _⟩ := b1; exact Heap.lt_size e
      have g5 : b < s1.heap.objs.size := by obtain ⟨_, e, _⟩ := b2; exact Heap.lt_size e
      have a1' : h1.IsTuple a its.toArray := let ⟨o, e, r⟩ := b1; ⟨o, hk _ _ e, r⟩
      have b2' : h1.IsTuple b its2.toArray := let ⟨o, e, r⟩ := b2; ⟨o, hk _ _ e, r⟩
      refine MyZ.call_listZip (s := { s1 with heap := h1 }) (n := xs.length) (I1.ok.hd hc) (PySem.W.ktu_apart s1.heap.objs.size a b g4 g5) (by rw [List.size_toArray]; omega) (by rw [List.size_toArray]; omega) z1 hz hTI hTO a1 a2 a1' b2' fun h2 acc c' fk ps hS => ?_
      have n5 : h1.objs.size = s1.heap.objs.size + 5 := hsz
      have k : ∀ c o, s1.heap.get? c = some o → h2.get? c = some o := fun c o ec => by
        have lc := Heap.lt_size ec
        exact fk c o (fun z => by rw [z] at lc; exact absurd lc (Nat.not_lt.mpr (Nat.le_add_right _ _))) (fun z => by rw [z] at lc; exact absurd lc (Nat.not_lt.mpr (Nat.le_add_right _ _))) (fun z => by rw [z] at lc; exact absurd lc (Nat.lt_irrefl _)) (fun z => by rw [z] at lc; exact absurd lc (Nat.not_lt.mpr (Nat.le_add_right _ _))) (hk c o ec)
      have lS : s1.heap.objs.size ≤ h1.objs.size := by omega
      have lT : ∀ T ∈ acc, s1.heap.objs.size ≤ T := fun T hT => Nat.le_trans (by show s1.heap.objs.size ≤ h1.objs.size + 1; omega) (ps.lo T hT)
      have nT : ∀ T ∈ acc, T ≠ h1.objs.size := fun T hT => Nat.ne_of_gt (ps.lo T hT)
      have old : ∀ c, c < s1.heap.objs.size → zipH H1 h1.objs.size acc xs ys c = H1 c := fun c lc => zipH_old lc lS lT
      have el : ∀ (i : Nat) T, acc[i]? = some T → ∃ x y u v, xs[i]? = some x ∧ ys[i]? = some y ∧ RelV x u ∧ RelV y v ∧ IsPair h2 T u v := fun i T eT => by
        have hi := (List.getElem?_eq_some_iff.mp eT).1
        have la := ps.len
        have hx : xs[i]? = some xs[i] := List.getElem?_eq_getElem (by omega)
        have hy : ys[i]? = some ys[i] := List.getElem?_eq_getElem (by omega)
        obtain ⟨u, hu, ru⟩ := rv.get hx
        obtain ⟨v, hv, rv'⟩ := rv2.get hy
        exact ⟨_, _, u, v, hx, hy, ru, rv', ps.prs i T u v eT (by simpa using hu) (by simpa using hv)⟩
      have un : Un X.fs [] H1 (zipH H1 h1.objs.size acc xs ys) s1.heap h2 := ⟨fun c o ec _ _ _ => k c o ec, fun c o ec _ _ _ => ⟨o.slots, k c o ec⟩, fun c o ec n _ => (old c (Heap.lt_size ec)).trans n, fun c o ec _ => ⟨o, k c o ec⟩,
        fun c zs ec => (old c (I1.hok.lt ec)).trans ec, fun c o u ec => (old c (I1.hok.lt ec)).trans ec, fun c pz ec => ⟨#[], by rw [old c (I1.hok.lt ec), ec]; simp⟩⟩
      have hok : HOk X.prog X.w (zipH H1 h1.objs.size acc xs ys) h2 := fun c o ec => by
        by_cases lc : c < s1.heap.objs.size
        · rw [old c lc] at ec
          exact (I1.hok c o ec).stay (fun b u _ q => k b u q) (fun b q => (old b (I1.hok.lt q)).trans q) fun b zs q => (old b (I1.hok.lt q)).trans q
        · by_cases cS : c = h1.objs.size
          · rw [cS, zipH_S] at ec
            cases ec
            rw [cS]
            exact ⟨by rw [List.length_map, ps.len]; exact z1, acc.map Value.ref, c', vals_refs acc, hS⟩
          · by_cases cm : c ∈ acc
            · obtain ⟨i, hi, ei⟩ := List.getElem_of_mem cm
              have eT : acc[i]? = some c := by rw [List.getElem?_eq_getElem hi, ei]
              obtain ⟨x, y, u, v, hx, hy, ru, rv', pr⟩ := el i c eT
              rw [zipH_T ps.asc eT cS hx hy] at ec
              cases ec
              exact ⟨by show 2 ≤ sizeLine; decide, [u, v], .cons ru (.cons rv' .nil), ⟨_, pr, rfl, _, rfl⟩⟩
            · exfalso
              unfold zipH at ec
              rw [if_neg cS, if_neg cm] at ec
              exact lc (I1.hok.lt ec)
      exact ⟨.ref h1.objs.size, _, I1.un (t' := s1.toks) un hok, rfl, q h1.objs.size acc _ (I1.hok.fresh lS) (fun c o ec => (old c (I1.hok.lt ec)).trans ec) zipH_S (by rw [ps.len]) fun i T x y eT hx hy => zipH_T ps.asc eT (nT T (List.mem_of_getElem? eT)) hx hy⟩
end
end My

namespace My
open PySem PySem.Spec PyProof.Rows L2
/-! ### what kind a value is of -/
/-- its kind answers to the built-in types as f says -/
def Kd (K : PySem.W.Frag) (H : Hp) (v : V) (f : String → Bool) : Prop := ∃ t, TyX K H v t ∧ ∀ n ∈ ["int", "bool", "str", "list", "tuple", "dict"], PySem.W.kitOne K t (.type n) = some (f n)
def rIsD (K : PySem.W.Frag) : List V → Hp → VK → Prop := fun xs H Q => ∃ x n, xs = [x, .ty n] ∧ n ∈ ["int", "bool", "str", "list", "tuple", "dict"] ∧ ∃ f, Kd K H x f ∧ Q (.bl (f n)) H
theorem call_isD {X : Cx} : CallR X (.builtin "isinstance") (rIsD X.K) := fun pins s σ H xs us Q I r h => by
  obtain ⟨x, n, rfl, hn, f, ⟨t, ty, hk⟩, q⟩ := h
  exact call_isi pins s σ H _ us Q I r ⟨x, .ty n, t, .type n, f n, rfl, .ty n, ty, hk n hn, q⟩
section
variable {P : Program} {w : World} {K : PySem.W.Frag} {mg : Str → Option Value} {base : Heap}
theorem Kd.ty {H : Hp} {v : V} {t : String} (h : tyN K H v = some t) : Kd K H v (isB t) := ⟨.type t, tyN_X h, fun n hn => kit_ty (kit_all t (tyN_mem h) n hn)⟩
/-- a value whose being a whole number is told by itself -/
def Wh (K : PySem.W.Frag) (H : Hp) (v : V) : Prop := ∃ f, Kd K H v f ∧ (f "int" && !f "bool") = wholeV v
theorem Wh.ty {H : Hp} {v : V} {t : String} (h : tyN K H v = some t) : Wh K H v := ⟨_, Kd.ty h, by
  rw [wholeV_ty h]
  have mt := tyN_mem h
  simp only [List.mem_cons, List.not_mem_nil, or_false] at mt
  rcases mt with rfl | rfl | rfl | rfl | rfl | rfl | rfl <;> rfl⟩
theorem Wh.int {H : Hp} (n : Int) : Wh K H (.int n) := Wh.ty (t := "int") rfl
theorem tyX_same {H H' : Hp} {x : V} {t : Value} (s : Same H H') (h : TyX K H x t) : TyX K H' x t := by
  cases h with
  | base b =>
    cases b with
    | non => exact .base .non
    | bl y => exact .base (.bl y)
    | int y => exact .base (.int y)
    | str y => exact .base (.str y)
    | flt y => exact .base (.flt y)
    | lst e => exact .base (.lst (s _ _ e))
    | frz e => exact .base (.frz (s _ _ e))
    | tup e => exact .base (.tup (s _ _ e))
    | dK e => exact .base (.dK (s _ _ e))
    | dT e => exact .base (.dT (s _ _ e))
    | ins e a b c d f => exact .base (.ins (s _ _ e) a b c d f)
  | byt b => exact .byt b
  | set e => exact .set (s _ _ e)
  | kList e c => exact .kList e c
  | kTuple e c => exact .kTuple e c
  | kDict e c => exact .kDict e c
  | fTuple e => exact .fTuple (s _ _ e)
  | fDict e => exact .fDict (s _ _ e)
theorem Kd.same {H H' : Hp} {v : V} {f : String → Bool} (h : Kd K H v f) (s : Same H H') : Kd K H' v f := by
  obtain ⟨t, a, b⟩ := h
  exact ⟨t, tyX_same s a, b⟩
theorem Wh.same {H H' : Hp} {v : V} (h : Wh K H v) (s : Same H H') : Wh K H' v := by
  obtain ⟨f, a, b⟩ := h
  exact ⟨f, a.same s, b⟩
def inB (a b : Int) : V → Bool
  | .int n => decide (a ≤ n) && decide (n ≤ b)
  | _ => false
theorem whole_or (v : V) : wholeV v = false ∨ ∃ n, v = .int n := by
  cases v with
  | int n => exact .inr ⟨n, rfl⟩
  | _ => exact .inl rfl
theorem inB_no {a b : Int} {v : V} (h : wholeV v = false) : inB a b v = false := by
  cases v with
  | int n => cases h
  | _ => rfl
def spWholeU (K : PySem.W.Frag) : Sp := fun vs H Q _ => ∃ v, vs = [v] ∧ Wh K H v ∧ Q (.bl (wholeV v)) H
def spWithin (K : PySem.W.Frag) : Sp := fun vs H Q _ => ∃ (v : V) (a b : Int), vs = [v, .int a, .int b] ∧ Wh K H v ∧ Q (.bl (inB a b v)) H
abbrev sWholeU : Stmt := topS 17
theorem scWholeU : FnScope ["value"] ["value"] (defScope sWholeU) := ⟨rfl, rfl, rfl, by decide +kernel, rfl, by decide +kernel, by decide +kernel⟩
theorem k_WholeU (T : Bt K mg) (D : Dfn K mg "is_whole" sWholeU ["value"]) : Kn P w K mg base 1 "is_whole" ["value"] (spWholeU K) := by
  refine Kn.mk' D scWholeU (fun vs H Q E h => ?_) (fun f cdv A outer s H vs Q E hr h => ?_)
  · obtain ⟨v, rfl, _⟩ := h
    rfl
  obtain ⟨v, rfl, hv, q⟩ := h
  refine ⟨_, (pss_one (ps_ret (pe_and (pe_callB call_isD (by rfl) T.b_isinstance (by decide +kernel) (pa_cons (pv 0) (pa_cons (pe_bltn (v := .ty "int") (by rfl) T.b_int (by decide +kernel) rfl) pa_nil))) (pe_one (pe_not (pe_callB call_isD (by rfl) T.b_isinstance (by decide +kernel) (pa_cons (pv 0) (pa_cons (pe_bltn (v := .ty "bool") (by rfl) T.b_bool (by decide +kernel) rfl) pa_nil)))))))), ?_⟩
  obtain ⟨f, hf, e⟩ := hv
  refine ⟨_, rfl, v, "int", rfl, by decide, f, hf, f "int", rfl, ?_⟩
  rw [← e] at q
  cases hi : f "int" with
  | false =>
    rw [hi] at q
    exact if_no rfl q
  | true =>
    rw [hi] at q
    refine if_yes rfl ⟨_, rfl, v, "bool", rfl, by decide, f, hf, f "bool", rfl, ?_⟩
    exact q
abbrev sWithin : Stmt := topS 18
theorem scWithin : FnScope ["value", "least", "most"] ["value", "least", "most"] (defScope sWithin) := ⟨rfl, rfl, rfl, by decide +kernel, rfl, by decide +kernel, by decide +kernel⟩
theorem k_Within (T : Bt K mg) (D : Dfn K mg "is_whole_within" sWithin ["value", "least", "most"]) (d_is_whole : Kn P w K mg base 1 "is_whole" ["value"] (spWholeU K)) : Kn P w K mg base 2 "is_whole_within" ["value", "least", "most"] (spWithin K) := by
  refine Kn.mk' D scWithin (fun vs H Q E h => ?_) (fun f cdv A outer s H vs Q E hr h => ?_)
  · obtain ⟨v, a, b, rfl, _⟩ := h
    rfl
  obtain ⟨v, a, b, rfl, hv, k⟩ := h
  refine ⟨_, (pss_one (ps_ret (pe_and (pe_kn d_is_whole hr (by rfl) (pa_cons (pv 0) pa_nil)) (pe_one (pe_chain op_le op_le (pv 1) (pv 0) (pv 2)))))), ?_⟩
  rcases whole_or v with hw | ⟨n, rfl⟩
  · refine ⟨_, rfl, v, rfl, hv, _, rfl, ?_⟩
    rw [hw, if_neg Bool.noConfusion]
    rw [inB_no hw] at k
    exact k
  have k : Q (.bl (decide (a ≤ n) && decide (n ≤ b))) H := k
  refine ⟨_, rfl, .int n, rfl, hv, true, rfl, ?_⟩
  rw [if_pos rfl]
  simp only [tChain, cx_K, decide_true, decide_false, reduceCtorEq, gTp, gCons, gNil, ca_0, ca_1, ca_2, ca_3, ca_4, ca_5, ca_6, ca_7, ca_8, ca_9, ca_10, ca_11, ca_12, ca_13, ca_14, ca_15, ca_16, ca_17, ca_18, ca_19, ca_20, ca_21, ca_22, ca_23, ca_24, ca_25, ca_26, ca_27, ca_28, ca_29, ca_30, not_true_eq_false, not_false_eq_true, Int.reduceEq, Nat.reduceEqDiff, Nat.reduceLeDiff, rGcd, V.ty.injEq, eq_self, List.not_mem_nil, beq_self_eq_true, HO.lst.injEq, HO.tup.injEq, tFor_eq, iRng1, iList, iTup, nat10, tSeq, rIxA, rSetA, rIsN, rIsT, tTp, tLs, itsO_tup, itsO_lst, tyO_tup, tyO_lst, tyO_dK, tyN_non, tyN_bl, tyN_int, tyN_str, tyN_ref, tyNs_lt, isB, upd_same, upd_upd, sizeLine_eq, List.mem_cons, String.reduceBEq, String.reduceEq, Bool.or_false, Bool.or_true, Bool.and_false, Bool.false_or, Bool.and_self, Bool.false_and, Bool.not_false, Bool.not_true, List.any_cons, List.any_nil, atI_0, setI_0, atI_1, setI_1, atI_2, setI_2, atI_3, setI_3, atI_4, setI_4, atI_5, setI_5, atI_6, setI_6, tAsg, gName, tOp, tUn, tVar, tC, tCons, L2.tNil, tRet, tIfS, tTest, tCB, tCall, rI, rI0, rU, tNext, tB, tAnd, tOr, tNot, tAndV, tOrV, tNotV, tDrop, tIf, tPar, gSub, rIxL, rIxT, rEq, rNe, rSetL, tBits,
    L2.start, List.map_cons, List.map_nil, List.cons_append, List.nil_append, List.append_nil, List.length_cons, List.length_nil, List.replicate, Nat.reduceAdd, Nat.reduceSub, Nat.zero_add, List.getElem?_cons_zero, List.getElem?_cons_succ, List.set_cons_zero, List.set_cons_succ,
    Option.some.injEq, exists_eq_left', exists_eq_left, V.int.injEq, V.bl.injEq, V.ref.injEq, V.str.injEq, List.cons.injEq, reduceCtorEq, and_true, true_and, false_and, and_false, exists_false, or_false, false_or, or_true, true_or, exists_const, CMul, CDiv, CPow, and_assoc, exists_and_left, exists_and_right, Int.reducePow, Int.reduceNeg, Int.reduceLT, Int.reduceLE, Nat.reducePow, Nat.reduceLT, Int.reduceToNat, gt_iff_lt, ge_iff_le, decide_eq_true_eq, Bool.not_eq_true', decide_eq_false_iff_not, scal, ↓reduceIte, Bool.false_eq_true]
  refine ite2 (fun h => ?_) (fun h => ?_)
  · rw [decide_eq_true h, Bool.true_and] at k
    exact k
  · rw [decide_eq_false h, Bool.false_and] at k
    exact k
end
end My

namespace My
open PySem PySem.Spec PyProof.Rows L2
section
variable {P : Program} {w : World} {K : PySem.W.Frag} {mg : Str → Option Value} {base : Heap}
/-- the word of h long ones in n, from the turn t on: its first m items -/
def lw (h n t : Int) (m : Nat) : List Int := (List.range m).map fun (i : Nat) => (((i : Int) + 1) * h + t) / n - ((i : Int) * h + t) / n
def sm (h n t : Int) (m : Nat) : List Int := (List.range m).map fun (i : Nat) => ((i : Int) * h + t) / n
theorem sm_len (h n t : Int) (m : Nat) : (sm h n t m).length = m := by unfold sm; rw [List.length_map, List.length_range]
theorem lw_len (h n t : Int) (m : Nat) : (lw h n t m).length = m := by unfold lw; rw [List.length_map, List.length_range]
theorem sm_s (h n t : Int) (m : Nat) : sm h n t (m + 1) = sm h n t m ++ [((m : Int) * h + t) / n] := by unfold sm; rw [List.range_succ, List.map_append]; rfl
theorem lw_s (h n t : Int) (m : Nat) : lw h n t (m + 1) = lw h n t m ++ [(((m : Int) + 1) * h + t) / n - ((m : Int) * h + t) / n] := by unfold lw; rw [List.range_succ, List.map_append]; rfl
theorem sm_at {h n t : Int} {m i : Nat} (hi : i < m) : (sm h n t m)[i]? = some (((i : Int) * h + t) / n) := by unfold sm; rw [List.getElem?_map, List.getElem?_range hi]; rfl
theorem lw_at {h n t : Int} {m i : Nat} (hi : i < m) : (lw h n t m)[i]? = some ((((i : Int) + 1) * h + t) / n - ((i : Int) * h + t) / n) := by unfold lw; rw [List.getElem?_map, List.getElem?_range hi]; rfl
/-- a word at a -/
def Wd (K : PySem.W.Frag) (H : Hp) (a : Addr) (w : List Int) : Prop := ob K H a = some (.tup (w.map V.int))
theorem Wd.same {H H' : Hp} {a : Addr} {w : List Int} (h : Wd K H a w) (s : Same H H') : Wd K H' a w := ob_same s h
def spLeap (K : PySem.W.Frag) : Sp := fun vs H Q _ => ∃ (h n t : Int), vs = [.int h, .int n, .int t] ∧ 0 ≤ h ∧ h ≤ 101 ∧ 1 ≤ n ∧ n ≤ 101 ∧ 0 ≤ t ∧ t ≤ 101 ∧ ∀ a H', Same H H' → H a = none → Wd K H' a (lw h n t n.toNat) → Q (.ref a) H'
abbrev sLeap : Stmt := topS 40
theorem scLeap : FnScope ["longs", "length", "turn", "sums", "index", "before", "after"] ["longs", "length", "turn"] (defScope sLeap) := ⟨rfl, rfl, rfl, by decide +kernel, rfl, by decide +kernel, by decide +kernel⟩
theorem blk_scLeap_0 : BlkOk ["longs", "length", "turn", "sums", "index", "before", "after"] (defScope sLeap) { kind := .function, names := [(".0", .local), ("index", .local), ("length", .free), ("longs", .free), ("turn", .free)], isGenerator := false, isCoroutine := false, more := [] } [("index", 4)] := ⟨rfl, by decide +kernel, by decide +kernel, by decide +kernel, by decide +kernel⟩
theorem blk_scLeap_1 : BlkOk ["longs", "length", "turn", "sums", "index", "before", "after"] (defScope sLeap) { kind := .function, names := [(".0", .local), ("before", .local), ("after", .local)], isGenerator := false, isCoroutine := false, more := [] } [("before", 5), ("after", 6)] := ⟨rfl, by decide +kernel, by decide +kernel, by decide +kernel, by decide +kernel⟩
theorem k_Leap (zZ : mg "zip" = none) (T : Bt K mg) (D : Dfn K mg "_leap_word" sLeap ["longs", "length", "turn"]) : Kn P w K mg base 1 "_leap_word" ["longs", "length", "turn"] (spLeap K) := by
  refine Kn.mk' D scLeap (fun vs H Q E h => ?_) (fun f cdv A outer s H vs Q E hr h => ?_)
  · obtain ⟨h, n, t, rfl, _⟩ := h
    rfl
  obtain ⟨h, n, t, rfl, h0, h1, n1, n2, t0, t1, k⟩ := h
  refine ⟨_, (pss_cons (ps_setLcF (i := 3) (own := [("index", 4)]) (g := gName 4) (te := (tOp (rI CDivX fun i j => V.int (i.fdiv j)) (tOp (rI0 fun i j => V.int (i + j)) (tOp (rI CMulW fun i j => V.int (i * j)) (tVar 4) (tVar 0)) (tVar 2)) (tVar 1))) rfl scLeap.nd rfl rfl (sw_true rfl rfl rfl rfl) (pi_range1 (by rfl) T.b_range (pa_cons (pe_op op_add (pv 1) pe_int) pa_nil)) blk_scLeap_0 (fun _ _ _ _ _ => by exact pg_name (i := 4) scLeap.nd rfl (.inl rfl)) (fun _ _ _ _ _ => pts_nil) (fun _ _ _ _ _ => by exact (pe_op op_fdivX (pe_op op_add (pe_op op_mulW (pv 4) (pv 0)) (pv 2)) (pv 1))))
      (pss_one (ps_ret (pe_fr (pe_callTy call_tuple_of (by rfl) T.b_tuple (by decide +kernel) (pa_cons (pe_fr (pe_lc (own := [("before", 5), ("after", 6)]) (g := gTup K 2 (gCons (gName 5) (gCons (gName 6) gNil))) (te := (tOp (rI0 fun i j => V.int (i - j)) (tVar 6) (tVar 5))) rfl scLeap.nd (pi_zip (by rfl) zZ (pa_cons (pv 3) (pa_cons (pe_fr (pe_slice sl_list (pv 3) (po_some pe_int) po_none)) pa_nil))) blk_scLeap_1 (fun _ _ _ _ _ => by exact pg_tup rfl (pgs_cons (pg_name (i := 5) scLeap.nd rfl (.inl rfl)) (pgs_cons (pg_name (i := 6) scLeap.nd rfl (.inl rfl)) pgs_nil))) (fun _ _ _ _ _ => pts_nil) (fun _ _ _ _ _ => by exact (pe_op op_sub (pv 6) (pv 5))))) pa_nil)))))), ?_⟩
  have hf : ∀ x : Int, x.fdiv n = x / n := fun x => Int.fdiv_eq_ediv_of_nonneg x (by omega)
  refine ⟨_, rfl, _, _, rfl, rfl, _, rfl, by show -(2 ^ 62) ≤ n + 1; omega, by show n + 1 < 2 ^ 62; omega, fun D hD => lc_range (lo := 0) (n := (n + 1).toNat) (fun i H' => H' D = some (.lst ((sm h n t i).map V.int)) ∧ Same H H') ⟨upd_same, Same.new hD _⟩ ?_ ?_⟩
  · rintro i H' hi ⟨e1, s1⟩
    refine ⟨rfl, ?_⟩
    simp only [tYes, if_true]
    have hi' : i < 102 := by omega
    refine ⟨_, rfl, _, rfl, _, _, rfl, rfl, mulW (a := 10) (b := 10) (by omega) (by omega) (by decide), _, rfl, _, _, rfl, rfl, _, rfl, _, _, rfl, rfl, ⟨by omega, szMono (a := 10) (by omega) (by decide)⟩, _, e1, by rw [List.length_map, sm_len, sizeLine_eq]; omega, ?_, fun b o e => ?_⟩
    · rw [upd_same]
      show some (HO.lst ((sm h n t i).map V.int ++ [V.int (((0 + (i : Int)) * h + t).fdiv n)])) = _
      rw [hf, sm_s, List.map_append, Int.zero_add]
      rfl
    · rw [upd_ne (ne_of_none e hD)]
      exact s1 _ _ e
  · rintro H1 ⟨e1, s1⟩ fr
    have sl : (sm h n t (n + 1).toNat).length = (n + 1).toNat := sm_len ..
    refine ⟨_, rfl, _, rfl, _, rfl, D, _, rfl, .of e1, ?_⟩
    have ec : cutV ((sm h n t (n + 1).toNat).map V.int) (some ((fun i => i) 1)) none = ((sm h n t (n + 1).toNat).map V.int).drop 1 := cut_from _ 1 (by rw [List.length_map]; omega)
    rw [show cutV ((sm h n t (n + 1).toNat).map V.int) (some 1) none = ((sm h n t (n + 1).toNat).map V.int).drop 1 from ec]
    intro l2 hl2 fr2
    have s2 := Same.new hl2 (.lst (((sm h n t (n + 1).toNat).map V.int).drop 1))
    have hl3 : upd H1 l2 (.lst (((sm h n t (n + 1).toNat).map V.int).drop 1)) l2 = some (.lst (((sm h n t (n + 1).toNat).map V.int).drop 1)) := upd_same
    have s0 := s1.trans s2
    generalize upd H1 l2 (.lst (((sm h n t (n + 1).toNat).map V.int).drop 1)) = H2 at s2 hl3 s0 ⊢
    have ha2 := s2 _ _ e1
    have yl : (((sm h n t (n + 1).toNat).map V.int).drop 1).length = n.toNat := by rw [List.length_drop, List.length_map, sl]; omega
    refine ⟨D, l2, _, _, rfl, .of ha2, .of hl3, fun D2 hD2 => lc_zip (xs := (sm h n t (n + 1).toNat).map V.int) (ys := ((sm h n t (n + 1).toNat).map V.int).drop 1) (by rw [yl, List.length_map, sl]; omega) (fun i H' => H' D2 = some (.lst ((lw h n t i).map V.int)) ∧ Same H2 H') ⟨upd_same, Same.new hD2 _⟩ (fun i H5 _ h => ⟨.of (h.2 _ _ ha2), .of (h.2 _ _ hl3)⟩) ?_ ?_⟩
    · intro i x y T H5 hx hy hB5 hT
      rw [List.getElem?_drop, Nat.add_comm] at hy
      have hi1 := (List.getElem?_eq_some_iff.mp hy).1
      rw [List.length_map, sl] at hi1
      rw [List.getElem?_map, sm_at (by omega)] at hx hy
      cases hx
      cases hy
      have sT := Same.new hT (.tup [.int (((i : Int) * h + t) / n), .int ((((i + 1 : Nat) : Int) * h + t) / n)])
      refine ⟨T, _, rfl, .inl (.inl upd_same), rfl, _, _, rfl, _, _, rfl, rfl, rfl, ?_⟩
      simp only [tYes, if_true]
      refine ⟨_, rfl, _, rfl, _, _, rfl, rfl, _, sT _ _ hB5.1, by rw [List.length_map, lw_len, sizeLine_eq]; omega, ?_, fun b o e => ?_⟩
      · rw [upd_same, lw_s, List.map_append]
        rfl
      · rw [upd_ne (ne_of_none e hD2)]
        exact sT _ _ (hB5.2 _ _ e)
    · rintro H5 ⟨e5, s5⟩ fr5
      rw [yl] at e5
      refine ⟨D2, _, rfl, .inl ⟨.of e5, fun a ha fr6 => ?_⟩⟩
      have ka : K.lookup a = none := fr6 a (by rw [upd_same]; simp)
      exact k a _ (s0.trans (s5.trans (Same.new ha _))) (Same.free (s0.trans s5) ha) ((ob_none ka).trans upd_same)

end
end My

namespace My
open PySem PySem.Spec PyProof.Rows L2
section
variable {P : Program} {w : World} {K : PySem.W.Frag} {mg : Str → Option Value} {base : Heap}
theorem lay_ints : ∀ ns : List Int, PyData.canLayAll0 (ns.map PyData.int) = true
  | [] => rfl
  | n :: r => by
    show (true && PyData.canLayAll0 (r.map PyData.int)) = true
    rw [lay_ints r]
    rfl
theorem depth_ints : ∀ ns : List Int, PyData.depthAll (ns.map PyData.int) = 0
  | [] => rfl
  | n :: r => by
    show max 0 (PyData.depthAll (r.map PyData.int)) = 0
    rw [depth_ints r]
    rfl
theorem dpAll_ints {H : Hp} : ∀ ns : List Int, DpAll K H (ns.map V.int) (ns.map PyData.int)
  | [] => .nil
  | n :: r => .cons (.int n) (dpAll_ints r)
theorem shaped_intsT (ns : List Int) : SeqAt.shaped (.tuple (ns.map PyData.int)) = true := by
  unfold SeqAt.shaped
  rw [show PyData.canLay0 (.tuple (ns.map PyData.int)) = PyData.canLayAll0 (ns.map PyData.int) from rfl, lay_ints, show PyData.depth (.tuple (ns.map PyData.int)) = PyData.depthAll (ns.map PyData.int) + 1 from rfl, depth_ints]
  rfl
theorem eqv_ints : ∀ (ks rs : List Int), PyData.eqvAll (ks.map PyData.int) (rs.map PyData.int) = decide (ks = rs)
  | [], [] => rfl
  | k :: ks, r :: rs => by
    show ((k == r) && PyData.eqvAll (ks.map PyData.int) (rs.map PyData.int)) = _
    rw [eqv_ints ks rs]
    by_cases h : k = r
    · subst h
      simp
    · simp [h]
  | [], r :: rs => by simp [PyData.eqvAll]
  | k :: ks, [] => by simp [PyData.eqvAll]
end
section
variable {K : PySem.W.Frag}
/-- == of two words -/
def rEqW (K : PySem.W.Frag) : R2 := fun x y H Q => ∃ (a b : Addr) (w u : List Int), x = .ref a ∧ y = .ref b ∧ Wd K H a w ∧ Wd K H b u ∧ Q (.bl (decide (w = u))) H
theorem op_eqW {X : Cx} {j : Nat} (hr : Room j X.A) : OpR X (compareOp .Eq) (rEqW X.K) := fun pins s σ H x y v u Q I rx ry h => by
  obtain ⟨a, b, w, z, ex, ey, oa, ob', k⟩ := h
  subst ex ey
  refine op_eqD (by have := hr.un; omega) pins s σ H _ _ v u Q I rx ry ⟨.tuple (w.map .int), .tuple (z.map .int), .tup (ob_tup oa) (dpAll_ints w), .tup (ob_tup ob') (dpAll_ints z), shaped_intsT w, shaped_intsT z, ?_⟩
  rw [show PyData.eqv (.tuple (w.map .int)) (.tuple (z.map .int)) = PyData.eqvAll (w.map PyData.int) (z.map PyData.int) from rfl, eqv_ints]
  exact k
/-- sum of a word -/
def rSumT (K : PySem.W.Frag) : List V → Hp → VK → Prop := fun vs H Q => ∃ (a : Addr) (ns : List Int), vs = [V.ref a] ∧ SqT K H a (ns.map V.int) ∧ Q (.int ns.sum) H
theorem cr_sumT {X : Cx} (hc : X.calm = true) : CallR X (.builtin "sum") (rSumT X.K) := by
  intro pins s σ H vs us Q I r h
  obtain ⟨a, ns, rfl, hs, q⟩ := h
  obtain ⟨its, rv, hl, _⟩ := I.tuple hs
  rw [Vals.ref1 r]
  obtain ⟨xs, e⟩ := rv.ints.allInts.items
  have hn : numsOf (intItems xs).toList = ns := by rw [← e]; exact rv.ints.numsOf
  rw [nums_intItems] at hn
  rw [e] at hl
  refine PySem.W.ktm_sumG (I.ok.hd hc) hl fun h' tk t' hk => ?_
  rw [preSum_eq, List.take_of_length_le (by simp), hn]
  exact ⟨.int _, H, I.kept hk, ⟨_, rfl⟩, q⟩
end
section
variable {P : Program} {w : World} {K : PySem.W.Frag} {mg : Str → Option Value} {base : Heap}
end
end My

namespace My
open PySem PySem.Spec PyProof.Rows L2
section
variable {P : Program} {w : World} {K : PySem.W.Frag} {mg : Str → Option Value} {base : Heap}
def spIsW (lo hi : Int) (K : PySem.W.Frag) : Sp := fun vs H Q _ => ∃ v, vs = [v] ∧ Wh K H v ∧ Q (.bl (inB lo hi v)) H
/-- a value that is judged as a word -/
def WdJ (K : PySem.W.Frag) (H : Hp) (v : V) (b : Bool) : Prop := (∃ f, Kd K H v f ∧ f "tuple" = false ∧ b = false) ∨ ∃ a xs, v = .ref a ∧ ob K H a = some (.tup xs) ∧ (((xs.length = 0 ∨ 100 < xs.length) ∧ xs.length ≤ 1000 ∧ b = false) ∨ (1 ≤ xs.length ∧ xs.length ≤ 100 ∧ (∀ x ∈ xs, Wh K H x) ∧ b = xs.all (inB 0 1)))
def spWord (K : PySem.W.Frag) : Sp := fun vs H Q _ => ∃ v b, vs = [v] ∧ WdJ K H v b ∧ ∀ H', Same H H' → Q (.bl b) H'
/-- items of a word -/
def Wv (w : List Int) : Prop := (∀ x ∈ w, x = 0 ∨ x = 1) ∧ 1 ≤ w.length ∧ w.length ≤ 100
theorem wd_judge {H : Hp} {a : Addr} {w : List Int} (h : Wd K H a w) (wv : Wv w) : WdJ K H (.ref a) true := by
  refine .inr ⟨a, _, rfl, h, .inr ⟨by rw [List.length_map]; exact wv.2.1, by rw [List.length_map]; exact wv.2.2, fun x hx => ?_, ?_⟩⟩
  · obtain ⟨n, _, rfl⟩ := List.mem_map.mp hx
    exact Wh.int n
  · refine (List.all_eq_true.mpr fun x hx => ?_).symm
    obtain ⟨n, hn, rfl⟩ := List.mem_map.mp hx
    rcases wv.1 n hn with rfl | rfl <;> rfl
/-- the least turn of a word -/
def etO (w : List Int) : Option Nat := (List.range w.length).find? fun t => lw w.sum w.length t w.length == w
def etV (w : List Int) : V := match etO w with
  | some t => .int t
  | none => .non
def spEt (K : PySem.W.Frag) : Sp := fun vs H Q _ => ∃ a w, vs = [.ref a] ∧ Wd K H a w ∧ Wv w ∧ ∀ H', Same H H' → Q (etV w) H'
theorem sum_wv : ∀ {w : List Int}, (∀ x ∈ w, x = 0 ∨ x = 1) → 0 ≤ w.sum ∧ w.sum ≤ w.length
  | [], _ => ⟨by decide, by decide⟩
  | x :: w, h => by
    obtain ⟨h1, h2⟩ := sum_wv (w := w) fun y hy => h y (List.mem_cons_of_mem _ hy)
    rw [List.sum_cons, List.length_cons]
    rcases h x List.mem_cons_self with rfl | rfl <;> omega
theorem find_range_none {p : Nat → Bool} {n : Nat} (h : ∀ i, i < n → p i = false) : (List.range n).find? p = none := List.find?_eq_none.mpr fun i hi => by
  rw [h i (List.mem_range.mp hi)]
  decide
theorem find_range_some {p : Nat → Bool} {n i : Nat} (hi : i < n) (hp : p i = true) (h : ∀ j, j < i → p j = false) : (List.range n).find? p = some i := by
  refine List.find?_range_eq_some.mpr ⟨hp, List.mem_range.mpr hi, fun j hj => ?_⟩
  rw [h j hj]
  rfl
abbrev sLongs : Stmt := topS 38
theorem scLongs : FnScope ["value"] ["value"] (defScope sLongs) := ⟨rfl, rfl, rfl, by decide +kernel, rfl, by decide +kernel, by decide +kernel⟩
theorem k_Longs {tkW : Tok} (gLW : mg "LONGEST_WORD" = some (.int 100 tkW)) (T : Bt K mg) (D : Dfn K mg "_is_longs" sLongs ["value"]) (d_is_whole_within : Kn P w K mg base 2 "is_whole_within" ["value", "least", "most"] (spWithin K)) : Kn P w K mg base 3 "_is_longs" ["value"] (spIsW 0 100 K) := by
  refine Kn.mk' D scLongs (fun vs H Q E h => ?_) (fun f cdv A outer s H vs Q E hr h => ?_)
  · obtain ⟨v, rfl, _⟩ := h
    rfl
  obtain ⟨v, rfl, hv, k⟩ := h
  refine ⟨_, (pss_one (ps_ret (pe_kn d_is_whole_within hr (by rfl) (pa_cons (pv 0) (pa_cons pe_int (pa_cons (pe_glob (v := .int 100) (by rfl) gLW ⟨_, rfl⟩) pa_nil)))))), ?_⟩
  exact ⟨_, rfl, v, 0, 100, rfl, hv, k⟩
abbrev sLength : Stmt := topS 39
theorem scLength : FnScope ["value"] ["value"] (defScope sLength) := ⟨rfl, rfl, rfl, by decide +kernel, rfl, by decide +kernel, by decide +kernel⟩
theorem k_Length {tkW : Tok} (gLW : mg "LONGEST_WORD" = some (.int 100 tkW)) (T : Bt K mg) (D : Dfn K mg "_is_length" sLength ["value"]) (d_is_whole_within : Kn P w K mg base 2 "is_whole_within" ["value", "least", "most"] (spWithin K)) : Kn P w K mg base 3 "_is_length" ["value"] (spIsW 1 100 K) := by
  refine Kn.mk' D scLength (fun vs H Q E h => ?_) (fun f cdv A outer s H vs Q E hr h => ?_)
  · obtain ⟨v, rfl, _⟩ := h
    rfl
  obtain ⟨v, rfl, hv, k⟩ := h
  refine ⟨_, (pss_one (ps_ret (pe_kn d_is_whole_within hr (by rfl) (pa_cons (pv 0) (pa_cons pe_int (pa_cons (pe_glob (v := .int 100) (by rfl) gLW ⟨_, rfl⟩) pa_nil)))))), ?_⟩
  exact ⟨_, rfl, v, 1, 100, rfl, hv, k⟩
abbrev sWord : Stmt := topS 34
theorem scWord : FnScope ["value", "item"] ["value"] (defScope sWord) := ⟨rfl, rfl, rfl, by decide +kernel, rfl, by decide +kernel, by decide +kernel⟩
theorem blk_scWord_0 : BlkOk ["value", "item"] (defScope sWord) { kind := .function, names := [(".0", .local), ("item", .local), ("is_whole_within", .globalImplicit)], isGenerator := false, isCoroutine := false, more := [] } [("item", 1)] := ⟨rfl, by decide +kernel, by decide +kernel, by decide +kernel, by decide +kernel⟩
theorem k_Word {tkW : Tok} (gLW : mg "LONGEST_WORD" = some (.int 100 tkW)) (zA : mg "all" = none) (T : Bt K mg) (D : Dfn K mg "is_word" sWord ["value"]) (d_is_whole_within : Kn P w K mg base 2 "is_whole_within" ["value", "least", "most"] (spWithin K)) : Kn P w K mg base 3 "is_word" ["value"] (spWord K) := by
  refine Kn.mk' D scWord (fun vs H Q E h => ?_) (fun f cdv A outer s H vs Q E hr h => ?_)
  · obtain ⟨v, b, rfl, _⟩ := h
    rfl
  obtain ⟨v, b, rfl, h, k⟩ := h
  refine ⟨_, (pss_cons (ps_if (PW.pt (pw_or (pt_not (pt_val (pe_callB call_isD (by rfl) T.b_isinstance (by decide +kernel) (pa_cons (pv 0) (pa_cons (pe_bltn (v := .ty "tuple") (by rfl) T.b_tuple (by decide +kernel) rfl) pa_nil))))) (pw_or1 (pt_not (pt_chain op_le op_le pe_int (pe_callB call_lenA (by rfl) T.b_len PySem.boot_len (pa_cons (pv 0) pa_nil)) (pe_glob (v := .int 100) (by rfl) gLW ⟨_, rfl⟩)))))) (pss_one (ps_ret pe_bl)) pss_nil)
      (pss_one (ps_ret (pe_callB (cr_all rfl) (by rfl) zA (by decide +kernel) (pa_cons (pe_fr (pe_lc (own := [("item", 1)]) (g := gName 1) (te := (tCall (spWithin K) [] E0 (tCons (tVar 1) (tCons (tC (.int 0)) (tCons (tC (.int 1)) L2.tNil))))) rfl scWord.nd (pi_tup (pv 0)) blk_scWord_0 (fun _ _ _ _ _ => by exact pg_name (i := 1) scWord.nd rfl (.inl rfl)) (fun _ _ _ _ _ => pts_nil) (fun _ _ _ _ _ => by exact (pe_kn d_is_whole_within hr (by rfl) (pa_cons (pv 1) (pa_cons pe_int (pa_cons pe_int pa_nil))))))) pa_nil))))), ?_⟩
  rcases h with ⟨f, hf, ft, rfl⟩ | ⟨a, xs, rfl, o, h⟩
  · refine ⟨_, rfl, v, "tuple", rfl, by decide, f, hf, _, rfl, ?_⟩
    rw [ft]
    exact if_yes rfl (k H (Same.refl H))
  · have ty : tyN K H (.ref a) = some "tuple" := by rw [tyN_ref, o]; rfl
    refine ⟨_, rfl, .ref a, "tuple", rfl, by decide, _, Kd.ty ty, _, rfl, if_no rfl ?_⟩
    have oi := itsO_of o
    simp only [tChain, oi, cx_K, decide_true, decide_false, reduceCtorEq, gTp, gCons, gNil, ca_0, ca_1, ca_2, ca_3, ca_4, ca_5, ca_6, ca_7, ca_8, ca_9, ca_10, ca_11, ca_12, ca_13, ca_14, ca_15, ca_16, ca_17, ca_18, ca_19, ca_20, ca_21, ca_22, ca_23, ca_24, ca_25, ca_26, ca_27, ca_28, ca_29, ca_30, not_true_eq_false, not_false_eq_true, Int.reduceEq, Nat.reduceEqDiff, Nat.reduceLeDiff, rGcd, V.ty.injEq, eq_self, List.not_mem_nil, beq_self_eq_true, HO.lst.injEq, HO.tup.injEq, tFor_eq, iRng1, iList, iTup, nat10, tSeq, rIxA, rSetA, rIsN, rIsT, tTp, tLs, itsO_tup, itsO_lst, tyO_tup, tyO_lst, tyO_dK, tyN_non, tyN_bl, tyN_int, tyN_str, tyN_ref, tyNs_lt, isB, upd_same, upd_upd, sizeLine_eq, List.mem_cons, String.reduceBEq, String.reduceEq, Bool.or_false, Bool.or_true, Bool.and_false, Bool.false_or, Bool.and_self, Bool.false_and, Bool.not_false, Bool.not_true, List.any_cons, List.any_nil, atI_0, setI_0, atI_1, setI_1, atI_2, setI_2, atI_3, setI_3, atI_4, setI_4, atI_5, setI_5, atI_6, setI_6, tAsg, gName, tOp, tUn, tVar, tC, tCons, L2.tNil, tRet, tIfS, tTest, tCB, tCall, rI, rI0, rU, tNext, tB, tAnd, tOr, tNot, tAndV, tOrV, tNotV, tDrop, tIf, tPar, gSub, rIxL, rIxT, rEq, rNe, rSetL, tBits,
    L2.start, List.map_cons, List.map_nil, List.cons_append, List.nil_append, List.append_nil, List.length_cons, List.length_nil, List.replicate, Nat.reduceAdd, Nat.reduceSub, Nat.zero_add, List.getElem?_cons_zero, List.getElem?_cons_succ, List.set_cons_zero, List.set_cons_succ,
    Option.some.injEq, exists_eq_left', exists_eq_left, V.int.injEq, V.bl.injEq, V.ref.injEq, V.str.injEq, List.cons.injEq, reduceCtorEq, and_true, true_and, false_and, and_false, exists_false, or_false, false_or, or_true, true_or, exists_const, CMul, CDiv, CPow, and_assoc, exists_and_left, exists_and_right, Int.reducePow, Int.reduceNeg, Int.reduceLT, Int.reduceLE, Nat.reducePow, Nat.reduceLT, Int.reduceToNat, gt_iff_lt, ge_iff_le, decide_eq_true_eq, Bool.not_eq_true', decide_eq_false_iff_not, scal, ↓reduceIte, Bool.false_eq_true]
    rcases h with ⟨hl, _, rfl⟩ | ⟨h1, h2, hx, rfl⟩
    · by_cases c : (1 : Int) ≤ xs.length
      · rw [if_pos c, if_pos (by omega)]
        exact k H (Same.refl H)
      · rw [if_neg c]
        exact k H (Same.refl H)
    · rw [if_pos (by omega), if_neg (by omega)]
      refine ⟨_, rfl, a, rfl, ⟨xs, ob_tup o⟩, fun D hD => lc_tup (xs := xs) (fun i H' => H' D = some (.lst (((xs.take i).map (inB 0 1)).map V.bl)) ∧ Same H H') ⟨upd_same, Same.new hD _⟩ (fun i H' _ h => ob_tup (ob_same h.2 o)) ?_ ?_⟩
      · rintro i x H' hi ⟨e1, s1⟩
        refine ⟨rfl, ?_⟩
        simp only [tYes, if_true]
        have li := (List.getElem?_eq_some_iff.mp hi).1
        refine ⟨_, rfl, x, 0, 1, rfl, (hx x (List.mem_of_getElem? hi)).same s1, _, e1, by rw [List.length_map, List.length_map, List.length_take, sizeLine_eq]; omega, ?_, fun b o e => ?_⟩
        · rw [upd_same, List.take_succ, hi, List.map_append, List.map_append]
          rfl
        · rw [upd_ne (ne_of_none e hD)]
          exact s1 _ _ e
      · rintro H1 ⟨e1, s1⟩ fr
        rw [List.take_length] at e1
        refine ⟨D, xs.map (inB 0 1), rfl, .of e1, ?_⟩
        rw [List.all_map]
        exact k H1 s1

end
end My

namespace My
open PySem PySem.Spec PyProof.Rows L2
section
variable {P : Program} {w : World} {K : PySem.W.Frag} {mg : Str → Option Value} {base : Heap}
end
/-! ### what a def that raises keeps -/
structure KnX (P : Program) (w : World) (K : PySem.W.Frag) (mg : Str → Option Value) (base : Heap) (k : Nat) (x : Str) (ps : List Str) (sp : Sp) : Prop where
  ex : ∃ f fd, mg x = some (.ref f) ∧ PySem.W.keepIn K (.ref f) = true ∧ Binds K fd ps [] ∧ FnOk P w K mg base (L2.CX P w) k f fd ps sp
theorem KnX.mk' {P : Program} {w : World} {K : PySem.W.Frag} {mg : Str → Option Value} {base : Heap} {x : Str} {st : Stmt} {N ps : List Str} {k : Nat} {sp : Sp} (D : Dfn K mg x st ps) (S : FnScope N ps (defScope st)) (len : ∀ vs H Q E, sp vs H Q E → vs.length = ps.length)
    (hbody : ∀ (f : Addr) (cdv : Value) (A : Around) (outer : List Env) (s : Shared) (H : Hp) (vs : List V) (Q : VK) (E : XK), Room k (A.deeper (envOfC x (defScope st) s.heap.objs.size f cdv)) → sp vs H Q E →
      ∃ t, PSs (cxOf (L2.CX P w) P w K mg base N x (defScope st) f cdv A outer s H E) (defBody st) t ∧ t { nx := fun _ H' => Q .non H', rt := Q } (start N vs) H) : KnX P w K mg base (k + 1) x ps sp := by
  obtain ⟨f, fd, F, m, b⟩ := D.ex
  exact ⟨f, fd, m, F.kp, b, F.okX S len (hbody f)⟩
section
variable {X : Cx}
theorem pe_knX {j k : Nat} {x : Str} {ps : List Str} {sp : Sp} {p pos : Pos} {e : Expr} {es : List Expr} {t : TA} {W : WX} (E : XK) (F : KnX X.prog X.w X.K X.mg X.base k x ps sp) (hr : Room j X.A) (hg : Gl X x) (tk : Takes X W) (hW : ∀ cls d σ H, E cls d H → W cls d σ H) (ha : PA X (e :: es) t) (hj : k ≤ j := by omega)
    (hdb : (x == ("__debug__" : Str)) = false := by decide) (he : starEach (e :: es) X.env = (false, eval e X.env) :: starEach es X.env := by rfl) (hpl : (backTo pos (starEach es X.env)).any (·.1) = false := by rfl) :
    PE X (.Call (.Name x p) (e :: es) [] pos) (tCall sp [] E t) := by
  obtain ⟨f, fd, m, kp, b, G⟩ := F.ex
  exact pe_call G (hr.mono hj) hg m kp b .nil (passes_call tk hW) ha hdb he hpl
end
/-! ### BadValue -/
structure BvT (K : PySem.W.Frag) (mg : Str → Option Value) (C : Addr) : Prop where
  g : mg "BadValue" = some (.ref C)
  ox : OexC K C
  no : PySem.W.findIn K (.ref C) "what" = some none
  ini : ∃ fI fd, PySem.W.findIn K (.ref C) "__init__" = some (some (.ref fI)) ∧ PySem.W.typeIn K (.ref fI) = some (.type "function") ∧ Fun K "__init__" "BadValue.__init__" (inClass (topS 4) 0) fI fd ∧ Binds K fd ["self", "what"] []
def spInit (C : Addr) : Sp := fun vs H Q _ => ∃ (a : Addr) (y : V), vs = [.ref a, y] ∧ H a = some (exo a C none) ∧ ∀ dx, H dx = none → dx ≠ a → Q .non (upd (upd H dx (exd dx [("what", y)])) a (exo a C (some dx)))
/-- an error of BadValue: its own dict d, what it names -/
def Bv (K : PySem.W.Frag) (C : Addr) (H : Hp) (E : XK) (y : V) : Prop := ∀ (d : Addr) (H' : Hp), Same H H' → H' d = some (.xd [("what", y)]) → E (.ref C) (some d) H'
def spRequireX (K : PySem.W.Frag) (C : Addr) : Sp := fun vs H _ E => ∃ y : V, vs = [.bl false, y] ∧ Bv K C H E y
section
variable {P : Program} {w : World} {K : PySem.W.Frag} {mg : Str → Option Value} {base : Heap}
abbrev sInitB : Stmt := inClass (topS 4) 0
theorem scInitB : FnScope ["self", "what"] ["self", "what"] (defScope sInitB) := ⟨rfl, rfl, rfl, by decide +kernel, rfl, by decide +kernel, by decide +kernel⟩
theorem ok_initB {C fI : Addr} {fd : FuncData} (B : BvT K mg C) (F : Fun K "__init__" "BadValue.__init__" sInitB fI fd) : FnOk P w K mg base CX0 1 fI fd ["self", "what"] (spInit C) := by
  refine F.ok scInitB (fun vs H Q E h => ?_) (fun cdv A outer s H vs Q E hr h => ?_)
  · obtain ⟨a, y, rfl, _⟩ := h
    rfl
  obtain ⟨a, y, rfl, ha, k⟩ := h
  refine ⟨_, pss_one (ps_ost (pv 0) (pv 1)), ?_⟩
  exact ⟨_, rfl, _, rfl, a, C, rfl, B.ox, B.no, .inl ⟨ha, k⟩⟩
theorem kx_Require {C : Addr} (B : BvT K mg C) (D : Dfn K mg "require" sRequire ["well_formed", "what"]) : KnX P w K mg base 3 "require" ["well_formed", "what"] (spRequireX K C) := by
  refine KnX.mk' D scRequire (fun vs H Q E h => ?_) (fun f cdv A outer s H vs Q E hr h => ?_)
  · obtain ⟨y, rfl, _⟩ := h
    rfl
  obtain ⟨y, rfl, k⟩ := h
  obtain ⟨fI, fd, iC, tI, F, b⟩ := B.ini
  refine ⟨_, (pss_one (ps_if (pt_not (pt_val (pv 0))) (pss_one (ps_raise rfl (takes_of rfl rfl rfl rfl) (pmk_oex B.ox iC tI (ok_initB B F) hr b .nil pass0 (by rfl) B.g (pa_cons (pv 1) pa_nil)))) pss_nil)), ?_⟩
  refine ⟨_, rfl, _, rfl, iteT ?_⟩
  refine ⟨_, rfl, by show 1 ≤ 1000; decide, fun a na => ⟨a, y, rfl, upd_same, fun dx ndx ne => ⟨rfl, dx, [("what", y)], upd_same, ?_, ?_, ?_⟩⟩⟩
  · rw [upd_ne ne, upd_same]
  · rw [upd_ne ne] at ndx
    exact ndx
  · rw [upd_ne ne] at ndx
    refine k dx _ (fun b o e => ?_) upd_same
    rw [upd_ne (ne_of_none e ndx), del_ne (ne_of_none e na), upd_ne (ne_of_none e na), upd_ne (ne_of_none e ndx), upd_ne (ne_of_none e na)]
    exact e
end
/-- X(), X an own exception class without own __init__ -/
theorem pmk_own0 {X : Cx} {C : Addr} {bmB : List Value} {B newId initId : String} {x : Str} {p pos : Pos} (F : ExcBaseFacts B newId initId bmB) (q : PySem.W.excIn X.K C bmB newId = true) (gC : X.mg x = some (.ref C)) (kC : PySem.W.keepIn X.K (.ref C) = true) (r : Raises X (.ref C)) (hg : Gl X x)
    (hdb : (x == ("__debug__" : Str)) = false := by decide) : PMk X (.Call (.Name x p) [] [] pos) (fun _ H Q => Q (.ref C) none H) := by
  intro pins s σ H Q I h
  refine wpAny_Call_Name_kw (ld_glob I hg gC ?_ hdb)
  refine PySem.W.callWith_K0 I.kIn kC ?_
  show wpAny _ _ (call (.ref C) []) _ _ _
  obtain ⟨bm, N, nm, qn, bs, hdct, sn, sub, ab, col, dd, k0, k1, k2, k3, k5, mN, hC, hN, hni, T⟩ := exc_obj I.kIn q
  refine wpAny_call_exc_subT F T hC hN hni (fun h' e hm => ?_) (by show 0 ≤ sizeLine; rw [sizeLine_eq]; omega)
  exact mk_of I hm r h (I.hok.gone hm.new)
/-- what the written part says of Mismatch -/
structure MiT (K : PySem.W.Frag) (mg : Str → Option Value) (M : Addr) : Prop where
  g : mg "Mismatch" = some (.ref M)
  kp : PySem.W.keepIn K (.ref M) = true
  ex : ∃ B newId initId bmB, ExcBaseFacts B newId initId bmB ∧ PySem.W.excIn K M bmB newId = true
  sb : PySem.W.subIn K (.ref M) (.type "BaseException") = some true
  ty : PySem.W.typeIn K (.ref M) = some (.type "type")
section
variable {P : Program} {w : World} {K : PySem.W.Frag} {mg : Str → Option Value} {base : Heap}
theorem Bv.same {C : Addr} {H H' : Hp} {E : XK} {y : V} (h : Bv K C H E y) (s : Same H H') : Bv K C H' E y := fun d H'' s2 hd => h d H'' (s.trans s2) hd
theorem inB_yes {a b n : Int} (h0 : a ≤ n) (h1 : n ≤ b) : inB a b (.int n) = true := by
  show (decide (a ≤ n) && decide (n ≤ b)) = true
  rw [decide_eq_true h0, decide_eq_true h1]
  rfl
end
end My

namespace My
open PySem PySem.Spec PyProof.Rows L2
section
variable {P : Program} {w : World} {K : PySem.W.Frag} {mg : Str → Option Value} {base : Heap}
end
/-- what the written part says of the errors' classes: C is BadValue, S SkyError, A the eleven by name -/
structure AskT (K : PySem.W.Frag) (mg : Str → Option Value) (C S : Addr) (A : String → Addr) : Prop where
  sky : mg "SkyError" = some (.ref S)
  exm : PySem.W.exmOne K (.ref C) (.ref S) = some true
  g : ∀ n ∈ ["BadValue", "Mismatch", "Still", "Endless", "TooMany", "NoName", "Taken", "Locked", "Looped", "Broken", "ReadError"], mg (Str.ofString n) = some (.ref (A n))
  k : ∀ n ∈ ["BadValue", "Mismatch", "Still", "Endless", "TooMany", "NoName", "Taken", "Locked", "Looped", "Broken", "ReadError"], PySem.W.kitOne K (.ref C) (.ref (A n)) = some (n == "BadValue")
  ve : PySem.W.kitOne K (.ref C) (.type "ValueError") = some true
  b_VE : mg "ValueError" = none
  hcl : (PySem.W.clsIn K C).isSome = true
  hga : PySem.W.findIn K (.ref C) "__getattribute__" = some (some (.builtin "BaseException.__getattribute__"))
  hgt : PySem.W.findIn K (.ref C) "__getattr__" = some none
  hsub : PySem.W.subIn K (.ref C) (.type "BaseException") = some true
  ha : PySem.W.findIn K (.ref C) "__class__" = some (some (.builtin "object.__class__"))
  hn : PySem.W.specialIn K (.builtin "object.__class__") "__get__" = some (some (.builtin "getset_descriptor.__get__"))
  htk : PySem.W.takesIn K (.builtin "object.__class__") = some true
  hm : PySem.W.mroIn K C (.type "object") = some true
  xf : XfC K C
/-- isinstance of a caught error that has its dict -/
def kitV (K : PySem.W.Frag) (C : Addr) : V → Option Bool
  | .ref D => PySem.W.kitOne K (.ref C) (.ref D)
  | .ty n => PySem.W.kitOne K (.ref C) (.type n)
  | _ => none
def rIsX (K : PySem.W.Frag) (C a : Addr) (cls : Value) (d : Option Addr) : List V → Hp → VK → Prop := fun xs H Q => ∃ c, xs = [.ref a, c] ∧ cls = .ref C ∧ ∃ dd, d = some dd ∧ (∃ fs, H dd = some (.xd fs)) ∧ ∃ b, kitV K C c = some b ∧ Q (.bl b) H
theorem call_isX {X : Cx} {C S a : Addr} {A : String → Addr} {oe : Obj} {cls : Value} {d : Option Addr} {pn : List (Addr × Obj)} (T : AskT X.K X.mg C S A) (hz : Zc cls d oe) (hf : ∃ vs, oe.data = .fields vs) : CallR (X.suite a ((a, oe) :: pn)) (.builtin "isinstance") (rIsX X.K C a cls d) := fun pins s σ H xs us Q I r h => by
  obtain ⟨c, rfl, rfl, dd, rfl, ⟨fs, hfs⟩, b, hb, q⟩ := h
  obtain ⟨u1, u2, rfl, r1, r2⟩ := vals2 r
  cases r1
  obtain ⟨hget, _⟩ := I.pin (a, oe) (List.mem_append.mpr (.inl List.mem_cons_self))
  obtain ⟨vs, hv⟩ := hf
  obtain ⟨mA, ⟨od, es, ep, ho, hr0⟩, hr⟩ := (show ObjOk X.prog X.w H s.heap dd (.xd fs) from I.hok dd _ hfs)
  have J : PySem.W.InstAt s.heap a oe C (some od) := ⟨hget, hz.1, by unfold PySem.W.notCls; rw [hv] <;> rfl, by rw [hz.2]; exact ho⟩
  have Z := PySem.W.kitx_exc (K := X.K) (C := C) (x := a) (ox := oe) (od := some od) T.hcl T.hga T.hgt T.hsub T.ha T.hn T.htk T.hm
  cases c with
  | ref D =>
    obtain rfl : u2 = Value.ref D := r2
    exact PySem.W.kia_one Z I.kIn J hb (fun z => nomatch z) fun tk => ⟨.bl b, H, I.kept (t' := tk) fun _ _ z => z, rfl, q⟩
  | ty n =>
    obtain rfl : u2 = Value.type n := r2
    exact PySem.W.kia_one Z I.kIn J hb (fun z => nomatch z) fun tk => ⟨.bl b, H, I.kept (t' := tk) fun _ _ z => z, rfl, q⟩
  | _ => cases hb
def rLenA (K : PySem.W.Frag) : List V → Hp → VK → Prop := fun xs H Q => ∃ p, xs = [.ref p] ∧ ∃ ys, itsO (ob K H p) = some ys ∧ Q (.int ys.length) H
/-- a wish of the right number of slots is wish enough -/
theorem takes_len {X : Cx} {W : WX} (t : Takes X W) : Takes X (fun cls d σ H => σ.length = X.N.length → W cls d σ H) := fun u s' ⟨a, B, sI, pins, σ, H, cls, d, e, I, nb, up, sky, na, os, ag, w⟩ =>
  t u s' ⟨a, B, sI, pins, σ, H, cls, d, e, I, nb, up, sky, na, os, ag, w I.len⟩
/-- what the law's asking makes of a call: told, or BadValue and what it names -/
def TAsk (K : PySem.W.Frag) (C : Addr) : (XK → Hp → VK → Prop) → Hp → VK → Prop := fun tl H Q =>
  tl (fun cls d H' => cls = .ref C ∧ ∃ dd y, d = some dd ∧ H' dd = some (.xd [("what", y)]) ∧ ∀ p H'', Same H' H'' → ob K H'' p = some (.tup [.str "BadValue", y]) → Q (.ref p) H'') H
    (fun v H1 => ([V.str "told", v] : List V).length ≤ sizeLine ∧ ∀ p, H1 p = none → K.lookup p = none → Q (.ref p) (upd H1 p (.tup [.str "told", v])))
abbrev sAsked : Stmt := topS 66
theorem scAsked : FnScope ["_law_call", "e", "_law_kinds"] ["_law_call"] (defScope sAsked) := ⟨rfl, rfl, rfl, by decide +kernel, rfl, by decide +kernel, by decide +kernel⟩

theorem asked_gives {X : Cx} {C S : Addr} {A : String → Addr} {g : Addr} {cdg : Value} {q : Str} (Z : Bt X.K X.mg) (B : BvT X.K X.mg C) (T : AskT X.K X.mg C S A) : LamX.GivesTo X ["_law_call", "e", "_law_kinds"] "_law_asked" (defScope sAsked) g cdg (defBody sAsked) "_law_call" q (TAsk X.K C) := by
  intro f c' s H Q tl act hc h
  refine ⟨_, pss_one (ps_try_as (X := (cxOf C8.CX0 X.prog X.w X.K X.mg X.base ["_law_call", "e", "_law_kinds"] "_law_asked" (defScope sAsked) g cdg X.A X.stack s H C8.E0).nox) (i := 1) (c := .ref S)
      (tb := fun W D σ H => ∃ Ech : XK, (∀ cls d σ' H', Ech cls d H' → σ'.length = 3 → W cls d σ' H') ∧ tRet (tTp X.K (tCons (tC (.str "told")) (tCons (fun σZ HZ Q => σZ[0]? = some (some (.ref f)) ∧ HZ c' = some (LamX.CodeO c' q) ∧ tl Ech HZ Q) L2.tNil))) D σ H)
      rfl rfl scAsked.nd rfl rfl ⟨rfl, by decide, .inl T.sky⟩ takes0 (fun W pn xe tk _ => ?_) (fun a oe cls d pn hz hf => (pss_cons (ps_set (i := 2) scAsked.nd rfl (.inl rfl) (show PE (Cx.suite (cxOf C8.CX0 X.prog X.w X.K X.mg X.base ["_law_call", "e", "_law_kinds"] "_law_asked" (defScope sAsked) g cdg X.A X.stack s H C8.E0).nox a ((a, oe) :: pn)) _ (tLs X.K L2.tNil) from pe_ls pa_nil))
      (pss_cons (ps_if (pt_val (pe_callB (call_isX (X := (cxOf C8.CX0 X.prog X.w X.K X.mg X.base ["_law_call", "e", "_law_kinds"] "_law_asked" (defScope sAsked) g cdg X.A X.stack s H C8.E0).nox) (a := a) (pn := pn) T hz hf) (by rfl) Z.b_isinstance (by decide +kernel) (pa_cons (pv 1) (pa_cons (pe_glob (v := .ref (A "BadValue")) (by rfl) (T.g "BadValue" (by decide)) rfl) pa_nil)))) (pss_one (ps_expr (show PE (Cx.suite (cxOf C8.CX0 X.prog X.w X.K X.mg X.base ["_law_call", "e", "_law_kinds"] "_law_asked" (defScope sAsked) g cdg X.A X.stack s H C8.E0).nox a ((a, oe) :: pn)) _ (tBM X.K "list" rAppend (tVar 2) (tCons (tTp X.K (tCons (tC (.str "BadValue")) (tCons (tXf a cls d C "what" (tVar 1)) L2.tNil))) L2.tNil)) from pe_bm PySem.F.plainAttrs_list PySem.F.slot_list_append PySem.F.type_list_append mt_append (pv 2) (pa_cons (pe_tp (pa_cons pe_str (pa_cons (pe_xf (X := (cxOf C8.CX0 X.prog X.w X.K X.mg X.base ["_law_call", "e", "_law_kinds"] "_law_asked" (defScope sAsked) g cdg X.A X.stack s H C8.E0).nox) (a := a) (pn := pn) T.xf B.no hz hf (pv 1)) pa_nil))) pa_nil)))) pss_nil)
      (pss_cons (ps_if (pt_val (pe_callB (call_isX (X := (cxOf C8.CX0 X.prog X.w X.K X.mg X.base ["_law_call", "e", "_law_kinds"] "_law_asked" (defScope sAsked) g cdg X.A X.stack s H C8.E0).nox) (a := a) (pn := pn) T hz hf) (by rfl) Z.b_isinstance (by decide +kernel) (pa_cons (pv 1) (pa_cons (pe_glob (v := .ref (A "Mismatch")) (by rfl) (T.g "Mismatch" (by decide)) rfl) pa_nil)))) (pss_one ps_never) pss_nil)
      (pss_cons (ps_if (pt_val (pe_callB (call_isX (X := (cxOf C8.CX0 X.prog X.w X.K X.mg X.base ["_law_call", "e", "_law_kinds"] "_law_asked" (defScope sAsked) g cdg X.A X.stack s H C8.E0).nox) (a := a) (pn := pn) T hz hf) (by rfl) Z.b_isinstance (by decide +kernel) (pa_cons (pv 1) (pa_cons (pe_glob (v := .ref (A "Still")) (by rfl) (T.g "Still" (by decide)) rfl) pa_nil)))) (pss_one ps_never) pss_nil)
      (pss_cons (ps_if (pt_val (pe_callB (call_isX (X := (cxOf C8.CX0 X.prog X.w X.K X.mg X.base ["_law_call", "e", "_law_kinds"] "_law_asked" (defScope sAsked) g cdg X.A X.stack s H C8.E0).nox) (a := a) (pn := pn) T hz hf) (by rfl) Z.b_isinstance (by decide +kernel) (pa_cons (pv 1) (pa_cons (pe_glob (v := .ref (A "Endless")) (by rfl) (T.g "Endless" (by decide)) rfl) pa_nil)))) (pss_one ps_never) pss_nil)
      (pss_cons (ps_if (pt_val (pe_callB (call_isX (X := (cxOf C8.CX0 X.prog X.w X.K X.mg X.base ["_law_call", "e", "_law_kinds"] "_law_asked" (defScope sAsked) g cdg X.A X.stack s H C8.E0).nox) (a := a) (pn := pn) T hz hf) (by rfl) Z.b_isinstance (by decide +kernel) (pa_cons (pv 1) (pa_cons (pe_glob (v := .ref (A "TooMany")) (by rfl) (T.g "TooMany" (by decide)) rfl) pa_nil)))) (pss_one ps_never) pss_nil)
      (pss_cons (ps_if (pt_val (pe_callB (call_isX (X := (cxOf C8.CX0 X.prog X.w X.K X.mg X.base ["_law_call", "e", "_law_kinds"] "_law_asked" (defScope sAsked) g cdg X.A X.stack s H C8.E0).nox) (a := a) (pn := pn) T hz hf) (by rfl) Z.b_isinstance (by decide +kernel) (pa_cons (pv 1) (pa_cons (pe_glob (v := .ref (A "NoName")) (by rfl) (T.g "NoName" (by decide)) rfl) pa_nil)))) (pss_one ps_never) pss_nil)
      (pss_cons (ps_if (pt_val (pe_callB (call_isX (X := (cxOf C8.CX0 X.prog X.w X.K X.mg X.base ["_law_call", "e", "_law_kinds"] "_law_asked" (defScope sAsked) g cdg X.A X.stack s H C8.E0).nox) (a := a) (pn := pn) T hz hf) (by rfl) Z.b_isinstance (by decide +kernel) (pa_cons (pv 1) (pa_cons (pe_glob (v := .ref (A "Taken")) (by rfl) (T.g "Taken" (by decide)) rfl) pa_nil)))) (pss_one ps_never) pss_nil)
      (pss_cons (ps_if (pt_val (pe_callB (call_isX (X := (cxOf C8.CX0 X.prog X.w X.K X.mg X.base ["_law_call", "e", "_law_kinds"] "_law_asked" (defScope sAsked) g cdg X.A X.stack s H C8.E0).nox) (a := a) (pn := pn) T hz hf) (by rfl) Z.b_isinstance (by decide +kernel) (pa_cons (pv 1) (pa_cons (pe_glob (v := .ref (A "Locked")) (by rfl) (T.g "Locked" (by decide)) rfl) pa_nil)))) (pss_one ps_never) pss_nil)
      (pss_cons (ps_if (pt_val (pe_callB (call_isX (X := (cxOf C8.CX0 X.prog X.w X.K X.mg X.base ["_law_call", "e", "_law_kinds"] "_law_asked" (defScope sAsked) g cdg X.A X.stack s H C8.E0).nox) (a := a) (pn := pn) T hz hf) (by rfl) Z.b_isinstance (by decide +kernel) (pa_cons (pv 1) (pa_cons (pe_glob (v := .ref (A "Looped")) (by rfl) (T.g "Looped" (by decide)) rfl) pa_nil)))) (pss_one ps_never) pss_nil)
      (pss_cons (ps_if (pt_val (pe_callB (call_isX (X := (cxOf C8.CX0 X.prog X.w X.K X.mg X.base ["_law_call", "e", "_law_kinds"] "_law_asked" (defScope sAsked) g cdg X.A X.stack s H C8.E0).nox) (a := a) (pn := pn) T hz hf) (by rfl) Z.b_isinstance (by decide +kernel) (pa_cons (pv 1) (pa_cons (pe_glob (v := .ref (A "Broken")) (by rfl) (T.g "Broken" (by decide)) rfl) pa_nil)))) (pss_one ps_never) pss_nil)
      (pss_cons (ps_if (pt_val (pe_callB (call_isX (X := (cxOf C8.CX0 X.prog X.w X.K X.mg X.base ["_law_call", "e", "_law_kinds"] "_law_asked" (defScope sAsked) g cdg X.A X.stack s H C8.E0).nox) (a := a) (pn := pn) T hz hf) (by rfl) Z.b_isinstance (by decide +kernel) (pa_cons (pv 1) (pa_cons (pe_glob (v := .ref (A "ReadError")) (by rfl) (T.g "ReadError" (by decide)) rfl) pa_nil)))) (pss_one ps_never) pss_nil)
      (pss_cons (ps_if (PW.pt (pw_or (pt_cmpR op_ne (pe_callB (show CallR (Cx.suite (cxOf C8.CX0 X.prog X.w X.K X.mg X.base ["_law_call", "e", "_law_kinds"] "_law_asked" (defScope sAsked) g cdg X.A X.stack s H C8.E0).nox a ((a, oe) :: pn)) (.builtin "len") (rLenA X.K) from call_lenA) (by rfl) Z.b_len PySem.boot_len (pa_cons (pv 2) pa_nil)) pe_int (nomark _)) (pw_or1 (pt_not (pt_val (pe_callB (call_isX (X := (cxOf C8.CX0 X.prog X.w X.K X.mg X.base ["_law_call", "e", "_law_kinds"] "_law_asked" (defScope sAsked) g cdg X.A X.stack s H C8.E0).nox) (a := a) (pn := pn) T hz hf) (by rfl) Z.b_isinstance (by decide +kernel) (pa_cons (pv 1) (pa_cons (pe_bltn (v := .ty "ValueError") (by rfl) T.b_VE (by decide +kernel) rfl) pa_nil)))))))) (pss_one ps_never) pss_nil)
      (pss_one (ps_ret (pe_ix (show IxR (Cx.suite (cxOf C8.CX0 X.prog X.w X.K X.mg X.base ["_law_call", "e", "_law_kinds"] "_law_asked" (defScope sAsked) g cdg X.A X.stack s H C8.E0).nox a ((a, oe) :: pn)) (rIxA X.K) from ix_any) (pv 2) pe_int (fun _ _ => rfl))))))))))))))))))), ?_⟩
  · refine ⟨fun pins s' σ H' D I h' => ?_⟩
    obtain ⟨Ech, hW, h2⟩ := h'
    exact (pss_one (ps_ret (pe_tp (pa_cons pe_str (pa_cons (act _ pn xe Ech _ _ (takes_len tk) (fun cls d σ' H' e l => hW cls d σ' H' e l)) pa_nil))))).run pins s' σ H' D I h2
  · refine ⟨fun cls d H' => cls = .ref C ∧ ∃ dd y, d = some dd ∧ H' dd = some (.xd [("what", y)]) ∧ ∀ p H'', Same H' H'' → ob X.K H'' p = some (.tup [.str "BadValue", y]) → Q (.ref p) H'', fun cls d σ' H' e l => ?_, rfl, hc, h⟩
    obtain ⟨rfl, dd, y, rfl, hd, k⟩ := e
    obtain ⟨x0, x1, x2, rfl⟩ : ∃ x0 x1 x2, σ' = [x0, x1, x2] := by
      match σ', l with
      | [x0, x1, x2], _ => exact ⟨x0, x1, x2, rfl⟩
    refine ⟨true, T.exm, fun _ a ha => ?_, fun z => nomatch z⟩
    refine ⟨Nat.zero_le _, fun l hl kl => ?_⟩
    have nl : dd ≠ l := ne_of_none hd hl
    have hd1 : upd H' l (.lst []) dd = some (.xd [("what", y)]) := by rw [upd_ne nl]; exact hd
    refine ⟨_, rfl, .ref (A "BadValue"), rfl, rfl, dd, rfl, ⟨_, hd1⟩, true, (T.k "BadValue" (by decide)).trans rfl, true, rfl, iteT ?_⟩
    refine ⟨_, rfl, .inl ⟨rfl, _, .of upd_same⟩, _, rfl, rfl, rfl, dd, _, y, rfl, hd1, rfl, by rw [sizeLine_eq]; show 2 ≤ 16777216; decide, fun p hp kp => ?_⟩
    have npl : p ≠ l := by rintro rfl; rw [upd_same] at hp; cases hp
    have npd : dd ≠ p := ne_of_none hd1 hp
    refine ⟨l, [], .ref p, rfl, rfl, by rw [upd_ne (Ne.symm npl), upd_same], by rw [sizeLine_eq]; decide, ?_⟩
    have hp0 : H' p = none := by rw [upd_ne npl] at hp; exact hp
    have hd3 : upd (upd (upd H' l (.lst [])) p (.tup [.str "BadValue", y])) l (.lst ([] ++ [.ref p])) dd = some (.xd [("what", y)]) := by rw [upd_ne nl, upd_ne npd]; exact hd1
    have s3 : Same H' (upd (upd (upd H' l (.lst [])) p (.tup [.str "BadValue", y])) l (.lst ([] ++ [.ref p]))) := fun b o e => by
      rw [upd_ne (ne_of_none e hl), upd_ne (ne_of_none e hp0), upd_ne (ne_of_none e hl)]
      exact e
    have ol : ob X.K (upd (upd (upd H' l (.lst [])) p (.tup [.str "BadValue", y])) l (.lst ([] ++ [.ref p]))) l = some (.lst [.ref p]) := ob_new kl
    have op : ob X.K (upd (upd (upd H' l (.lst [])) p (.tup [.str "BadValue", y])) l (.lst ([] ++ [.ref p]))) p = some (.tup [.str "BadValue", y]) := by rw [ob_none kp, upd_ne npl, upd_same]
    generalize upd (upd (upd H' l (.lst [])) p (.tup [.str "BadValue", y])) l (.lst ([] ++ [.ref p])) = H3 at hd3 s3 ol op ⊢
    refine ⟨_, rfl, .ref (A "Mismatch"), rfl, rfl, dd, rfl, ⟨_, hd3⟩, false, (T.k "Mismatch" (by decide)).trans rfl, false, rfl, iteF ?_⟩
    refine ⟨_, rfl, .ref (A "Still"), rfl, rfl, dd, rfl, ⟨_, hd3⟩, false, (T.k "Still" (by decide)).trans rfl, false, rfl, iteF ?_⟩
    refine ⟨_, rfl, .ref (A "Endless"), rfl, rfl, dd, rfl, ⟨_, hd3⟩, false, (T.k "Endless" (by decide)).trans rfl, false, rfl, iteF ?_⟩
    refine ⟨_, rfl, .ref (A "TooMany"), rfl, rfl, dd, rfl, ⟨_, hd3⟩, false, (T.k "TooMany" (by decide)).trans rfl, false, rfl, iteF ?_⟩
    refine ⟨_, rfl, .ref (A "NoName"), rfl, rfl, dd, rfl, ⟨_, hd3⟩, false, (T.k "NoName" (by decide)).trans rfl, false, rfl, iteF ?_⟩
    refine ⟨_, rfl, .ref (A "Taken"), rfl, rfl, dd, rfl, ⟨_, hd3⟩, false, (T.k "Taken" (by decide)).trans rfl, false, rfl, iteF ?_⟩
    refine ⟨_, rfl, .ref (A "Locked"), rfl, rfl, dd, rfl, ⟨_, hd3⟩, false, (T.k "Locked" (by decide)).trans rfl, false, rfl, iteF ?_⟩
    refine ⟨_, rfl, .ref (A "Looped"), rfl, rfl, dd, rfl, ⟨_, hd3⟩, false, (T.k "Looped" (by decide)).trans rfl, false, rfl, iteF ?_⟩
    refine ⟨_, rfl, .ref (A "Broken"), rfl, rfl, dd, rfl, ⟨_, hd3⟩, false, (T.k "Broken" (by decide)).trans rfl, false, rfl, iteF ?_⟩
    refine ⟨_, rfl, .ref (A "ReadError"), rfl, rfl, dd, rfl, ⟨_, hd3⟩, false, (T.k "ReadError" (by decide)).trans rfl, false, rfl, iteF ?_⟩
    refine ⟨_, rfl, l, rfl, _, (by rw [ol]; rfl), rfl, false, rfl, iteF ?_⟩
    refine ⟨_, rfl, .ty "ValueError", rfl, rfl, dd, rfl, ⟨_, hd3⟩, true, T.ve, true, rfl, iteF ?_⟩
    exact ⟨_, rfl, l, 0, rfl, rfl, [.ref p], (by rw [ol]; rfl), .ref p, rfl, k p H3 s3 op⟩
end My

namespace My
open PySem PySem.Spec PyProof.Rows L2
section
variable {P : Program} {w : World} {K : PySem.W.Frag} {mg : Str → Option Value} {base : Heap}
end
/-- what the written part says of a caught Mismatch, that has no dict -/
structure AskM (K : PySem.W.Frag) (M S : Addr) (A : String → Addr) : Prop where
  exm : PySem.W.exmOne K (.ref M) (.ref S) = some true
  k : ∀ n ∈ ["BadValue", "Mismatch", "Still", "Endless", "TooMany", "NoName", "Taken", "Locked", "Looped", "Broken", "ReadError"], PySem.W.kitOne K (.ref M) (.ref (A n)) = some (n == "Mismatch")
  ve : PySem.W.kitOne K (.ref M) (.type "ValueError") = some true
  e : ExcC K M
def rIsX2 (K : PySem.W.Frag) (C M a : Addr) (cls : Value) (d : Option Addr) : List V → Hp → VK → Prop := fun xs H Q => rIsX K C a cls d xs H Q ∨ (cls = .ref M ∧ d = none ∧ ∃ c b, xs = [.ref a, c] ∧ kitV K M c = some b ∧ Q (.bl b) H)
theorem call_isX2 {X : Cx} {C M S a : Addr} {A : String → Addr} {oe : Obj} {cls : Value} {d : Option Addr} {pn : List (Addr × Obj)} (T : AskT X.K X.mg C S A) (TM : AskM X.K M S A) (hz : Zc cls d oe) (hf : ∃ vs, oe.data = .fields vs) : CallR (X.suite a ((a, oe) :: pn)) (.builtin "isinstance") (rIsX2 X.K C M a cls d) := fun pins s σ H xs us Q I r h => by
  rcases h with h | ⟨rfl, rfl, c, b, rfl, hb, q⟩
  · exact call_isX T hz hf pins s σ H xs us Q I r h
  · refine call_isE TM.e hz hf pins s σ H _ us Q I r ?_
    cases c with
    | ref D => exact ⟨_, .ref D, b, rfl, fun u hu => hu, hb, q⟩
    | ty n => exact ⟨_, .type n, b, rfl, fun u hu => hu, hb, q⟩
    | _ => cases hb
/-- what the asking makes of a call: told, BadValue and what it names, or Mismatch -/
def TAsk2 (K : PySem.W.Frag) (C M : Addr) : (XK → Hp → VK → Prop) → Hp → VK → Prop := fun tl H Q =>
  tl (fun cls d H' => (cls = .ref C ∧ ∃ dd y, d = some dd ∧ H' dd = some (.xd [("what", y)]) ∧ ∀ p H'', Same H' H'' → ob K H'' p = some (.tup [.str "BadValue", y]) → Q (.ref p) H'') ∨ (cls = .ref M ∧ d = none ∧ ∀ p H'', Same H' H'' → ob K H'' p = some (.tup [.str "Mismatch", .non]) → Q (.ref p) H'')) H
    (fun v H1 => ([V.str "told", v] : List V).length ≤ sizeLine ∧ ∀ p, H1 p = none → K.lookup p = none → Q (.ref p) (upd H1 p (.tup [.str "told", v])))

theorem asked_gives2 {X : Cx} {C M S : Addr} {A : String → Addr} {g : Addr} {cdg : Value} {q : Str} (Z : Bt X.K X.mg) (B : BvT X.K X.mg C) (T : AskT X.K X.mg C S A) (TM : AskM X.K M S A) : LamX.GivesTo X ["_law_call", "e", "_law_kinds"] "_law_asked" (defScope sAsked) g cdg (defBody sAsked) "_law_call" q (TAsk2 X.K C M) := by
  intro f c' s H Q tl act hc h
  refine ⟨_, pss_one (ps_try_as (X := (cxOf C8.CX0 X.prog X.w X.K X.mg X.base ["_law_call", "e", "_law_kinds"] "_law_asked" (defScope sAsked) g cdg X.A X.stack s H C8.E0).nox) (i := 1) (c := .ref S)
      (tb := fun W D σ H => ∃ Ech : XK, (∀ cls d σ' H', Ech cls d H' → σ'.length = 3 → W cls d σ' H') ∧ tRet (tTp X.K (tCons (tC (.str "told")) (tCons (fun σZ HZ Q => σZ[0]? = some (some (.ref f)) ∧ HZ c' = some (LamX.CodeO c' q) ∧ tl Ech HZ Q) L2.tNil))) D σ H)
      rfl rfl scAsked.nd rfl rfl ⟨rfl, by decide, .inl T.sky⟩ takes0 (fun W pn xe tk _ => ?_) (fun a oe cls d pn hz hf => (pss_cons (ps_set (i := 2) scAsked.nd rfl (.inl rfl) (show PE (Cx.suite (cxOf C8.CX0 X.prog X.w X.K X.mg X.base ["_law_call", "e", "_law_kinds"] "_law_asked" (defScope sAsked) g cdg X.A X.stack s H C8.E0).nox a ((a, oe) :: pn)) _ (tLs X.K L2.tNil) from pe_ls pa_nil))
      (pss_cons (ps_if (pt_val (pe_callB (call_isX2 (X := (cxOf C8.CX0 X.prog X.w X.K X.mg X.base ["_law_call", "e", "_law_kinds"] "_law_asked" (defScope sAsked) g cdg X.A X.stack s H C8.E0).nox) (a := a) (pn := pn) T TM hz hf) (by rfl) Z.b_isinstance (by decide +kernel) (pa_cons (pv 1) (pa_cons (pe_glob (v := .ref (A "BadValue")) (by rfl) (T.g "BadValue" (by decide)) rfl) pa_nil)))) (pss_one (ps_expr (show PE (Cx.suite (cxOf C8.CX0 X.prog X.w X.K X.mg X.base ["_law_call", "e", "_law_kinds"] "_law_asked" (defScope sAsked) g cdg X.A X.stack s H C8.E0).nox a ((a, oe) :: pn)) _ (tBM X.K "list" rAppend (tVar 2) (tCons (tTp X.K (tCons (tC (.str "BadValue")) (tCons (tXf a cls d C "what" (tVar 1)) L2.tNil))) L2.tNil)) from pe_bm PySem.F.plainAttrs_list PySem.F.slot_list_append PySem.F.type_list_append mt_append (pv 2) (pa_cons (pe_tp (pa_cons pe_str (pa_cons (pe_xf (X := (cxOf C8.CX0 X.prog X.w X.K X.mg X.base ["_law_call", "e", "_law_kinds"] "_law_asked" (defScope sAsked) g cdg X.A X.stack s H C8.E0).nox) (a := a) (pn := pn) T.xf B.no hz hf (pv 1)) pa_nil))) pa_nil)))) pss_nil)
      (pss_cons (ps_if (pt_val (pe_callB (call_isX2 (X := (cxOf C8.CX0 X.prog X.w X.K X.mg X.base ["_law_call", "e", "_law_kinds"] "_law_asked" (defScope sAsked) g cdg X.A X.stack s H C8.E0).nox) (a := a) (pn := pn) T TM hz hf) (by rfl) Z.b_isinstance (by decide +kernel) (pa_cons (pv 1) (pa_cons (pe_glob (v := .ref (A "Mismatch")) (by rfl) (T.g "Mismatch" (by decide)) rfl) pa_nil)))) (pss_one (ps_expr (show PE (Cx.suite (cxOf C8.CX0 X.prog X.w X.K X.mg X.base ["_law_call", "e", "_law_kinds"] "_law_asked" (defScope sAsked) g cdg X.A X.stack s H C8.E0).nox a ((a, oe) :: pn)) _ (tBM X.K "list" rAppend (tVar 2) (tCons (tTp X.K (tCons (tC (.str "Mismatch")) (tCons (tC .non) L2.tNil))) L2.tNil)) from pe_bm PySem.F.plainAttrs_list PySem.F.slot_list_append PySem.F.type_list_append mt_append (pv 2) (pa_cons (pe_tp (pa_cons pe_str (pa_cons pe_non pa_nil))) pa_nil)))) pss_nil)
      (pss_cons (ps_if (pt_val (pe_callB (call_isX2 (X := (cxOf C8.CX0 X.prog X.w X.K X.mg X.base ["_law_call", "e", "_law_kinds"] "_law_asked" (defScope sAsked) g cdg X.A X.stack s H C8.E0).nox) (a := a) (pn := pn) T TM hz hf) (by rfl) Z.b_isinstance (by decide +kernel) (pa_cons (pv 1) (pa_cons (pe_glob (v := .ref (A "Still")) (by rfl) (T.g "Still" (by decide)) rfl) pa_nil)))) (pss_one ps_never) pss_nil)
      (pss_cons (ps_if (pt_val (pe_callB (call_isX2 (X := (cxOf C8.CX0 X.prog X.w X.K X.mg X.base ["_law_call", "e", "_law_kinds"] "_law_asked" (defScope sAsked) g cdg X.A X.stack s H C8.E0).nox) (a := a) (pn := pn) T TM hz hf) (by rfl) Z.b_isinstance (by decide +kernel) (pa_cons (pv 1) (pa_cons (pe_glob (v := .ref (A "Endless")) (by rfl) (T.g "Endless" (by decide)) rfl) pa_nil)))) (pss_one ps_never) pss_nil)
      (pss_cons (ps_if (pt_val (pe_callB (call_isX2 (X := (cxOf C8.CX0 X.prog X.w X.K X.mg X.base ["_law_call", "e", "_law_kinds"] "_law_asked" (defScope sAsked) g cdg X.A X.stack s H C8.E0).nox) (a := a) (pn := pn) T TM hz hf) (by rfl) Z.b_isinstance (by decide +kernel) (pa_cons (pv 1) (pa_cons (pe_glob (v := .ref (A "TooMany")) (by rfl) (T.g "TooMany" (by decide)) rfl) pa_nil)))) (pss_one ps_never) pss_nil)
      (pss_cons (ps_if (pt_val (pe_callB (call_isX2 (X := (cxOf C8.CX0 X.prog X.w X.K X.mg X.base ["_law_call", "e", "_law_kinds"] "_law_asked" (defScope sAsked) g cdg X.A X.stack s H C8.E0).nox) (a := a) (pn := pn) T TM hz hf) (by rfl) Z.b_isinstance (by decide +kernel) (pa_cons (pv 1) (pa_cons (pe_glob (v := .ref (A "NoName")) (by rfl) (T.g "NoName" (by decide)) rfl) pa_nil)))) (pss_one ps_never) pss_nil)
      (pss_cons (ps_if (pt_val (pe_callB (call_isX2 (X := (cxOf C8.CX0 X.prog X.w X.K X.mg X.base ["_law_call", "e", "_law_kinds"] "_law_asked" (defScope sAsked) g cdg X.A X.stack s H C8.E0).nox) (a := a) (pn := pn) T TM hz hf) (by rfl) Z.b_isinstance (by decide +kernel) (pa_cons (pv 1) (pa_cons (pe_glob (v := .ref (A "Taken")) (by rfl) (T.g "Taken" (by decide)) rfl) pa_nil)))) (pss_one ps_never) pss_nil)
      (pss_cons (ps_if (pt_val (pe_callB (call_isX2 (X := (cxOf C8.CX0 X.prog X.w X.K X.mg X.base ["_law_call", "e", "_law_kinds"] "_law_asked" (defScope sAsked) g cdg X.A X.stack s H C8.E0).nox) (a := a) (pn := pn) T TM hz hf) (by rfl) Z.b_isinstance (by decide +kernel) (pa_cons (pv 1) (pa_cons (pe_glob (v := .ref (A "Locked")) (by rfl) (T.g "Locked" (by decide)) rfl) pa_nil)))) (pss_one ps_never) pss_nil)
      (pss_cons (ps_if (pt_val (pe_callB (call_isX2 (X := (cxOf C8.CX0 X.prog X.w X.K X.mg X.base ["_law_call", "e", "_law_kinds"] "_law_asked" (defScope sAsked) g cdg X.A X.stack s H C8.E0).nox) (a := a) (pn := pn) T TM hz hf) (by rfl) Z.b_isinstance (by decide +kernel) (pa_cons (pv 1) (pa_cons (pe_glob (v := .ref (A "Looped")) (by rfl) (T.g "Looped" (by decide)) rfl) pa_nil)))) (pss_one ps_never) pss_nil)
      (pss_cons (ps_if (pt_val (pe_callB (call_isX2 (X := (cxOf C8.CX0 X.prog X.w X.K X.mg X.base ["_law_call", "e", "_law_kinds"] "_law_asked" (defScope sAsked) g cdg X.A X.stack s H C8.E0).nox) (a := a) (pn := pn) T TM hz hf) (by rfl) Z.b_isinstance (by decide +kernel) (pa_cons (pv 1) (pa_cons (pe_glob (v := .ref (A "Broken")) (by rfl) (T.g "Broken" (by decide)) rfl) pa_nil)))) (pss_one ps_never) pss_nil)
      (pss_cons (ps_if (pt_val (pe_callB (call_isX2 (X := (cxOf C8.CX0 X.prog X.w X.K X.mg X.base ["_law_call", "e", "_law_kinds"] "_law_asked" (defScope sAsked) g cdg X.A X.stack s H C8.E0).nox) (a := a) (pn := pn) T TM hz hf) (by rfl) Z.b_isinstance (by decide +kernel) (pa_cons (pv 1) (pa_cons (pe_glob (v := .ref (A "ReadError")) (by rfl) (T.g "ReadError" (by decide)) rfl) pa_nil)))) (pss_one ps_never) pss_nil)
      (pss_cons (ps_if (PW.pt (pw_or (pt_cmpR op_ne (pe_callB (show CallR (Cx.suite (cxOf C8.CX0 X.prog X.w X.K X.mg X.base ["_law_call", "e", "_law_kinds"] "_law_asked" (defScope sAsked) g cdg X.A X.stack s H C8.E0).nox a ((a, oe) :: pn)) (.builtin "len") (rLenA X.K) from call_lenA) (by rfl) Z.b_len PySem.boot_len (pa_cons (pv 2) pa_nil)) pe_int (nomark _)) (pw_or1 (pt_not (pt_val (pe_callB (call_isX2 (X := (cxOf C8.CX0 X.prog X.w X.K X.mg X.base ["_law_call", "e", "_law_kinds"] "_law_asked" (defScope sAsked) g cdg X.A X.stack s H C8.E0).nox) (a := a) (pn := pn) T TM hz hf) (by rfl) Z.b_isinstance (by decide +kernel) (pa_cons (pv 1) (pa_cons (pe_bltn (v := .ty "ValueError") (by rfl) T.b_VE (by decide +kernel) rfl) pa_nil)))))))) (pss_one ps_never) pss_nil)
      (pss_one (ps_ret (pe_ix (show IxR (Cx.suite (cxOf C8.CX0 X.prog X.w X.K X.mg X.base ["_law_call", "e", "_law_kinds"] "_law_asked" (defScope sAsked) g cdg X.A X.stack s H C8.E0).nox a ((a, oe) :: pn)) (rIxA X.K) from ix_any) (pv 2) pe_int (fun _ _ => rfl))))))))))))))))))), ?_⟩
  · refine ⟨fun pins s' σ H' D I h' => ?_⟩
    obtain ⟨Ech, hW, h2⟩ := h'
    exact (pss_one (ps_ret (pe_tp (pa_cons pe_str (pa_cons (act _ pn xe Ech _ _ (takes_len tk) (fun cls d σ' H' e l => hW cls d σ' H' e l)) pa_nil))))).run pins s' σ H' D I h2
  · refine ⟨fun cls d H' => (cls = .ref C ∧ ∃ dd y, d = some dd ∧ H' dd = some (.xd [("what", y)]) ∧ ∀ p H'', Same H' H'' → ob X.K H'' p = some (.tup [.str "BadValue", y]) → Q (.ref p) H'') ∨ (cls = .ref M ∧ d = none ∧ ∀ p H'', Same H' H'' → ob X.K H'' p = some (.tup [.str "Mismatch", .non]) → Q (.ref p) H''), fun cls d σ' H' e l => ?_, rfl, hc, h⟩
    obtain ⟨x0, x1, x2, rfl⟩ : ∃ x0 x1 x2, σ' = [x0, x1, x2] := by
      match σ', l with
      | [x0, x1, x2], _ => exact ⟨x0, x1, x2, rfl⟩
    rcases e with ⟨rfl, dd, y, rfl, hd, k⟩ | ⟨rfl, rfl, k⟩
    · refine ⟨true, T.exm, fun _ a ha => ?_, fun z => nomatch z⟩
      refine ⟨Nat.zero_le _, fun l hl kl => ?_⟩
      have nl : dd ≠ l := ne_of_none hd hl
      have hd1 : upd H' l (.lst []) dd = some (.xd [("what", y)]) := by rw [upd_ne nl]; exact hd
      refine ⟨_, rfl, .inl ⟨.ref (A "BadValue"), rfl, rfl, dd, rfl, ⟨_, hd1⟩, true, (T.k "BadValue" (by decide)).trans rfl, true, rfl, iteT ?_⟩⟩
      refine ⟨_, rfl, .inl ⟨rfl, _, .of upd_same⟩, _, rfl, rfl, rfl, dd, _, y, rfl, hd1, rfl, by rw [sizeLine_eq]; show 2 ≤ 16777216; decide, fun p hp kp => ?_⟩
      have npd : dd ≠ p := ne_of_none hd1 hp
      have npl : p ≠ l := by rintro rfl; rw [upd_same] at hp; cases hp
      refine ⟨l, [], .ref p, rfl, rfl, by rw [upd_ne (Ne.symm npl), upd_same], by rw [sizeLine_eq]; decide, ?_⟩
      have hp0 : H' p = none := by rw [upd_ne npl] at hp; exact hp
      have s3 : Same H' (upd (upd (upd H' l (.lst [])) p (.tup [.str "BadValue", y])) l (.lst ([] ++ [.ref p]))) := fun b o e => by
        rw [upd_ne (ne_of_none e hl), upd_ne (ne_of_none e hp0), upd_ne (ne_of_none e hl)]
        exact e
      have ol : ob X.K (upd (upd (upd H' l (.lst [])) p (.tup [.str "BadValue", y])) l (.lst ([] ++ [.ref p]))) l = some (.lst [.ref p]) := ob_new kl
      have op : ob X.K (upd (upd (upd H' l (.lst [])) p (.tup [.str "BadValue", y])) l (.lst ([] ++ [.ref p]))) p = some (.tup [.str "BadValue", y]) := by rw [ob_none kp, upd_ne npl, upd_same]
      have hd3 : upd (upd (upd H' l (.lst [])) p (.tup [.str "BadValue", y])) l (.lst ([] ++ [.ref p])) dd = some (.xd [("what", y)]) := by rw [upd_ne nl, upd_ne npd]; exact hd1
      generalize upd (upd (upd H' l (.lst [])) p (.tup [.str "BadValue", y])) l (.lst ([] ++ [.ref p])) = H3 at hd3 s3 ol op ⊢
      refine ⟨_, rfl, .inl ⟨.ref (A "Mismatch"), rfl, rfl, dd, rfl, ⟨_, hd3⟩, false, (T.k "Mismatch" (by decide)).trans rfl, false, rfl, iteF ?_⟩⟩
      refine ⟨_, rfl, .inl ⟨.ref (A "Still"), rfl, rfl, dd, rfl, ⟨_, hd3⟩, false, (T.k "Still" (by decide)).trans rfl, false, rfl, iteF ?_⟩⟩
      refine ⟨_, rfl, .inl ⟨.ref (A "Endless"), rfl, rfl, dd, rfl, ⟨_, hd3⟩, false, (T.k "Endless" (by decide)).trans rfl, false, rfl, iteF ?_⟩⟩
      refine ⟨_, rfl, .inl ⟨.ref (A "TooMany"), rfl, rfl, dd, rfl, ⟨_, hd3⟩, false, (T.k "TooMany" (by decide)).trans rfl, false, rfl, iteF ?_⟩⟩
      refine ⟨_, rfl, .inl ⟨.ref (A "NoName"), rfl, rfl, dd, rfl, ⟨_, hd3⟩, false, (T.k "NoName" (by decide)).trans rfl, false, rfl, iteF ?_⟩⟩
      refine ⟨_, rfl, .inl ⟨.ref (A "Taken"), rfl, rfl, dd, rfl, ⟨_, hd3⟩, false, (T.k "Taken" (by decide)).trans rfl, false, rfl, iteF ?_⟩⟩
      refine ⟨_, rfl, .inl ⟨.ref (A "Locked"), rfl, rfl, dd, rfl, ⟨_, hd3⟩, false, (T.k "Locked" (by decide)).trans rfl, false, rfl, iteF ?_⟩⟩
      refine ⟨_, rfl, .inl ⟨.ref (A "Looped"), rfl, rfl, dd, rfl, ⟨_, hd3⟩, false, (T.k "Looped" (by decide)).trans rfl, false, rfl, iteF ?_⟩⟩
      refine ⟨_, rfl, .inl ⟨.ref (A "Broken"), rfl, rfl, dd, rfl, ⟨_, hd3⟩, false, (T.k "Broken" (by decide)).trans rfl, false, rfl, iteF ?_⟩⟩
      refine ⟨_, rfl, .inl ⟨.ref (A "ReadError"), rfl, rfl, dd, rfl, ⟨_, hd3⟩, false, (T.k "ReadError" (by decide)).trans rfl, false, rfl, iteF ?_⟩⟩
      refine ⟨_, rfl, l, rfl, _, (by rw [ol]; rfl), rfl, false, rfl, iteF ?_⟩
      refine ⟨_, rfl, .inl ⟨.ty "ValueError", rfl, rfl, dd, rfl, ⟨_, hd3⟩, true, T.ve, true, rfl, iteF ?_⟩⟩
      exact ⟨_, rfl, l, 0, rfl, rfl, [.ref p], (by rw [ol]; rfl), .ref p, rfl, k p H3 s3 op⟩
    · refine ⟨true, TM.exm, fun _ a ha => ?_, fun z => nomatch z⟩
      refine ⟨Nat.zero_le _, fun l hl kl => ?_⟩
      refine ⟨_, rfl, .inr ⟨rfl, rfl, .ref (A "BadValue"), false, rfl, (TM.k "BadValue" (by decide)).trans rfl, false, rfl, iteF ?_⟩⟩
      refine ⟨_, rfl, .inr ⟨rfl, rfl, .ref (A "Mismatch"), true, rfl, (TM.k "Mismatch" (by decide)).trans rfl, true, rfl, iteT ?_⟩⟩
      refine ⟨_, rfl, .inl ⟨rfl, _, .of upd_same⟩, sz2 (by show 2 ≤ 100; decide), fun p hp kp => ?_⟩
      have npl : p ≠ l := by rintro rfl; rw [upd_same] at hp; cases hp
      refine ⟨l, [], .ref p, rfl, rfl, by rw [upd_ne (Ne.symm npl), upd_same], by rw [sizeLine_eq]; decide, ?_⟩
      have hp0 : H' p = none := by rw [upd_ne npl] at hp; exact hp
      have s3 : Same H' (upd (upd (upd H' l (.lst [])) p (.tup [.str "Mismatch", .non])) l (.lst ([] ++ [.ref p]))) := fun b o e => by
        rw [upd_ne (ne_of_none e hl), upd_ne (ne_of_none e hp0), upd_ne (ne_of_none e hl)]
        exact e
      have ol : ob X.K (upd (upd (upd H' l (.lst [])) p (.tup [.str "Mismatch", .non])) l (.lst ([] ++ [.ref p]))) l = some (.lst [.ref p]) := ob_new kl
      have op : ob X.K (upd (upd (upd H' l (.lst [])) p (.tup [.str "Mismatch", .non])) l (.lst ([] ++ [.ref p]))) p = some (.tup [.str "Mismatch", .non]) := by rw [ob_none kp, upd_ne npl, upd_same]
      generalize upd (upd (upd H' l (.lst [])) p (.tup [.str "Mismatch", .non])) l (.lst ([] ++ [.ref p])) = H3 at s3 ol op ⊢
      refine ⟨_, rfl, .inr ⟨rfl, rfl, .ref (A "Still"), false, rfl, (TM.k "Still" (by decide)).trans rfl, false, rfl, iteF ?_⟩⟩
      refine ⟨_, rfl, .inr ⟨rfl, rfl, .ref (A "Endless"), false, rfl, (TM.k "Endless" (by decide)).trans rfl, false, rfl, iteF ?_⟩⟩
      refine ⟨_, rfl, .inr ⟨rfl, rfl, .ref (A "TooMany"), false, rfl, (TM.k "TooMany" (by decide)).trans rfl, false, rfl, iteF ?_⟩⟩
      refine ⟨_, rfl, .inr ⟨rfl, rfl, .ref (A "NoName"), false, rfl, (TM.k "NoName" (by decide)).trans rfl, false, rfl, iteF ?_⟩⟩
      refine ⟨_, rfl, .inr ⟨rfl, rfl, .ref (A "Taken"), false, rfl, (TM.k "Taken" (by decide)).trans rfl, false, rfl, iteF ?_⟩⟩
      refine ⟨_, rfl, .inr ⟨rfl, rfl, .ref (A "Locked"), false, rfl, (TM.k "Locked" (by decide)).trans rfl, false, rfl, iteF ?_⟩⟩
      refine ⟨_, rfl, .inr ⟨rfl, rfl, .ref (A "Looped"), false, rfl, (TM.k "Looped" (by decide)).trans rfl, false, rfl, iteF ?_⟩⟩
      refine ⟨_, rfl, .inr ⟨rfl, rfl, .ref (A "Broken"), false, rfl, (TM.k "Broken" (by decide)).trans rfl, false, rfl, iteF ?_⟩⟩
      refine ⟨_, rfl, .inr ⟨rfl, rfl, .ref (A "ReadError"), false, rfl, (TM.k "ReadError" (by decide)).trans rfl, false, rfl, iteF ?_⟩⟩
      refine ⟨_, rfl, l, rfl, _, (by rw [ol]; rfl), rfl, false, rfl, iteF ?_⟩
      refine ⟨_, rfl, .inr ⟨rfl, rfl, .ty "ValueError", true, rfl, TM.ve, true, rfl, iteF ?_⟩⟩
      exact ⟨_, rfl, l, 0, rfl, rfl, [.ref p], (by rw [ol]; rfl), .ref p, rfl, k p H3 s3 op⟩
end My

namespace My
open PySem PySem.Spec PyProof.Rows L2
section
variable {P : Program} {w : World} {K : PySem.W.Frag} {mg : Str → Option Value} {base : Heap}
/-! ### the tables, while the draws go on -/
theorem tabs_kp {T : List (Addr × Str)} {H H' : Hp} {s : Addr} {ys : List V} (e : Kp s H H') (hs : H s = some (.lst ys)) (t : LamX.Tabs T H) : LamX.Tabs T H' := fun p hp => by
  obtain ⟨ps, h1, h2, h3⟩ := t p hp
  refine ⟨ps, e _ _ (by rintro z; rw [z, hs] at h1; cases h1) h1, h2, fun pos cv hc => ?_⟩
  obtain ⟨c, e1, e2⟩ := h3 pos cv hc
  exact ⟨c, e1, e _ _ (by rintro z; rw [z, hs] at e2; unfold LamX.CodeO at e2; cases e2) e2⟩
theorem tabs_same {T : List (Addr × Str)} {H H' : Hp} (e : Same H H') (t : LamX.Tabs T H) : LamX.Tabs T H' := t.ext e
/-- all but the store and the tables stands -/
def Bg (s : Addr) (H H' : Hp) : Prop := ∀ b o, b ≠ s → (∀ ps, o ≠ .tbl ps) → H b = some o → H' b = some o
theorem Bg.refl (s : Addr) (H : Hp) : Bg s H H := fun _ _ _ _ h => h
theorem Bg.trans {s : Addr} {H H1 H2 : Hp} (a : Bg s H H1) (b : Bg s H1 H2) : Bg s H H2 := fun c o n m h => b c o n m (a c o n m h)
theorem Bg.kp {s : Addr} {H H1 : Hp} (a : Kp s H H1) : Bg s H H1 := fun c o n _ h => a c o n h
theorem Bg.same {s : Addr} {H H1 : Hp} (a : Same H H1) : Bg s H H1 := fun c o _ _ h => a c o h
theorem Bg.ext {s : Addr} {H H1 : Hp} (a : LamX.ExtN H H1) : Bg s H H1 := fun c o _ m h => a c o h m
theorem ob_bg {H H' : Hp} {s a : Addr} {ys xs : List V} (e : Bg s H H') (hs : H s = some (.lst ys)) (h : ob K H a = some (.tup xs)) : ob K H' a = some (.tup xs) := by
  unfold ob at h ⊢
  split
  · rename_i o q
    rw [q] at h
    exact h
  · rename_i q
    rw [q] at h
    exact e _ _ (by rintro rfl; rw [hs] at h; cases h) (fun ps z => by cases z) h
theorem Fq.bg {H H' : Hp} {s a : Addr} {n : Nat} {ys : List V} {q : Qt} (h : Fq K H n a q) (e : Bg s H H') (hs : H s = some (.lst ys)) : Fq K H' n a q := ⟨ob_bg e hs h.o, h.nf, h.sz⟩
theorem Sto.ext {H H' : Hp} {s : Addr} (h : Sto K H s) (e : LamX.ExtN H H') : Sto K H' s := by
  obtain ⟨sc, ns, i, b, c, d, x, f, h1, h2, h3⟩ := h
  exact ⟨sc, ns, i, b, c, d, x, f, e _ _ h1 (fun ps z => by cases z), e _ _ h2 (fun ps z => by cases z), h3⟩
theorem ob_ext {H H' : Hp} {a : Addr} {z : HO} (e : LamX.ExtN H H') (n : ∀ ps, z ≠ .tbl ps) (h : ob K H a = some z) : ob K H' a = some z := by
  unfold ob at h ⊢
  split
  · rename_i o q
    rw [q] at h
    exact h
  · rename_i q
    rw [q] at h
    exact e _ _ h n
theorem tyO_ntbl {z : HO} (h : (tyO (some z)).isSome) : ∀ ps, z ≠ .tbl ps := fun ps e => by subst e; cases h
theorem tyS_ext {H H' : Hp} {v : V} (e : LamX.ExtN H H') (h : (tyN K H v).isSome) : (tyN K H' v).isSome := by
  cases v with
  | ref a =>
    cases hz : ob K H a with
    | none => rw [tyN_ref, hz] at h; cases h
    | some z =>
      rw [tyN_ref, hz] at h
      rw [tyN_ref, ob_ext e (tyO_ntbl h) hz]
      exact h
  | _ => exact h
theorem Gd.ext {H H' : Hp} {v : V} (e : LamX.ExtN H H') (h : Gd K H v) : Gd K H' v := by
  cases v with
  | ref a =>
    cases hz : ob K H a with
    | none =>
      have := h.ty.1
      rw [tyN_ref, hz] at this
      cases this
    | some z =>
      have nz : ∀ ps, z ≠ .tbl ps := tyO_ntbl (by have := h.ty.1; rw [tyN_ref, hz] at this; exact this)
      have hz' := ob_ext e nz hz
      refine ⟨⟨tyS_ext e h.ty.1, fun b xs ev o x hx => ?_⟩, ?_⟩
      · cases ev
        rw [hz'] at o
        exact tyS_ext e (h.ty.2 a xs rfl (hz.trans o) x hx)
      · have e2 : frOk K H' (.ref a) = frOk K H (.ref a) := by simp only [frOk, hz, hz']
        rw [e2]
        exact h.no
  | _ => exact ⟨⟨h.ty.1, fun _ _ e => by cases e⟩, h.no⟩
structure LawS (K : PySem.W.Frag) (T : List (Addr × Str)) (H : Hp) (s : Addr) : Prop where
  st : Sto K H s
  tb : LamX.Tabs T H
theorem LawS.same {T : List (Addr × Str)} {H H' : Hp} {s : Addr} (h : LawS K T H s) (e : Same H H') : LawS K T H' s := ⟨h.st.same e, tabs_same e h.tb⟩
theorem LawS.kp {T : List (Addr × Str)} {H H' : Hp} {s : Addr} (h : LawS K T H s) (e : Kp s H H') (st : Sto K H' s) : LawS K T H' s := by
  obtain ⟨ys, hy⟩ := h.st.at
  exact ⟨st, tabs_kp e hy h.tb⟩
end
section
variable {P : Program} {w : World} {K : PySem.W.Frag} {mg : Str → Option Value} {base : Heap}
theorem eqv_tup {H : Hp} {a b : Addr} {xs : List V} (oa : ob K H a = some (.tup xs)) (ob' : ob K H b = some (.tup xs)) (hs : xs.all scv = true) (hl : xs.length ≤ 1000) : Eqv K H 1 (.ref a) (.ref b) := by
  refine Or.inr (Or.inl ⟨a, b, xs, xs, rfl, rfl, .inl ⟨oa, ob'⟩, rfl, hl, fun i x y hx hy => ?_⟩)
  rw [hx] at hy
  cases hy
  exact ⟨rfl, List.all_eq_true.mp hs x (List.mem_of_getElem? hx)⟩
theorem eqv_sc {H : Hp} {v : V} (h : scv v = true) : ∀ n, Eqv K H n v v
  | 0 => ⟨rfl, h⟩
  | n + 1 => Or.inl ⟨rfl, h⟩
theorem tyN_ext {H H' : Hp} {v : V} {t : String} (e : LamX.ExtN H H') (h : tyN K H v = some t) : tyN K H' v = some t := by
  cases v with
  | ref a =>
    have h1 : tyO (ob K H a) = some t := h
    show tyO (ob K H' a) = some t
    cases hz : ob K H a with
    | none => rw [hz] at h1; cases h1
    | some z =>
      rw [hz] at h1
      rw [ob_ext e (fun ps ez => by rw [ez] at h1; cases h1) hz]
      exact h1
  | _ => exact h
theorem Eqv.ext {H H' : Hp} (e : LamX.ExtN H H') : ∀ {n : Nat} {x y : V}, Eqv K H n x y → Eqv K H' n x y
  | 0, _, _, h => h
  | n + 1, x, y, h => by
    rcases h with h | ⟨a, b, xs, ys, h1, h2, h3, h4, h5, h6⟩ | ⟨l, a, b, ks, ls, h1, h2, h3, h4, h5, h6, h7⟩
    · exact Or.inl h
    · exact Or.inr (Or.inl ⟨a, b, xs, ys, h1, h2, h3.imp (fun z => ⟨ob_ext e (fun _ q => by cases q) z.1, ob_ext e (fun _ q => by cases q) z.2⟩) (fun z => ⟨ob_ext e (fun _ q => by cases q) z.1, ob_ext e (fun _ q => by cases q) z.2⟩), h4, h5, fun i x y hx hy => Eqv.ext e (h6 i x y hx hy)⟩)
    · match n, l with
      | m + 1, l => exact Or.inr (Or.inr ⟨l, a, b, ks, ls, h1, h2, ob_ext e (fun _ q => by cases q) h3, ob_ext e (fun _ q => by cases q) h4, h5, h6, fun i p q hp hq => Eqv.ext (n := m) e (h7 i p q hp hq)⟩)
/-! ### what stays while the addresses of F are written -/
def Kx (F : Addr → Prop) (H H' : Hp) : Prop := ∀ b o, ¬F b → (∀ ps, o ≠ HO.tbl ps) → H b = some o → H' b = some o
theorem Kx.refl (F : Addr → Prop) (H : Hp) : Kx F H H := fun _ _ _ _ h => h
theorem Kx.trans {F : Addr → Prop} {H H1 H2 : Hp} (a : Kx F H H1) (b : Kx F H1 H2) : Kx F H H2 := fun c o n m h => b c o n m (a c o n m h)
theorem Kx.same {F : Addr → Prop} {H H' : Hp} (e : Same H H') : Kx F H H' := fun c o _ _ h => e c o h
theorem Kx.ext {F : Addr → Prop} {H H' : Hp} (e : LamX.ExtN H H') : Kx F H H' := fun c o _ m h => e c o h m
theorem Kx.kp {F : Addr → Prop} {H H' : Hp} {s : Addr} (hF : F s) (e : Kp s H H') : Kx F H H' := fun c o n _ h => e c o (by rintro rfl; exact n hF) h
theorem Kx.put {F : Addr → Prop} {H : Hp} {D : Addr} {o : HO} (hF : F D) : Kx F H (upd H D o) := fun c u n _ h => by rw [upd_ne (by rintro rfl; exact n hF)]; exact h
/-- the store, and the list that is told -/
def Fz (s D : Addr) : Addr → Prop := fun a => a = s ∨ a = D
theorem Kx.weak {s D : Addr} {H H' : Hp} (hD : H D = none) (e : Kx (Fz s D) H H') : Kx (Fz s s) H H' := fun c o n m h => e c o (fun z => z.elim (fun z => n (.inl z)) (ne_of_none h hD)) m h
theorem ob_kx {F : Addr → Prop} {H H' : Hp} {a : Addr} {z : HO} (e : Kx F H H') (n : ¬F a) (t : ∀ ps, z ≠ HO.tbl ps) (h : ob K H a = some z) : ob K H' a = some z := by
  unfold ob at h ⊢
  split
  · rename_i o q
    rw [q] at h
    exact h
  · rename_i q
    rw [q] at h
    exact e _ _ n t h
/-- the addresses of F hold lists -/
def Fl (F : Addr → Prop) (H : Hp) : Prop := ∀ a, F a → ∃ ys, H a = some (.lst ys)
theorem tup_kx {F : Addr → Prop} {H H' : Hp} {a : Addr} {xs : List V} (fl : Fl F H) (e : Kx F H H') (h : ob K H a = some (.tup xs)) : ob K H' a = some (.tup xs) := by
  unfold ob at h ⊢
  split
  · rename_i o q
    rw [q] at h
    exact h
  · rename_i q
    rw [q] at h
    refine e _ _ (fun z => ?_) (fun ps z => by cases z) h
    obtain ⟨ys, hy⟩ := fl _ z
    rw [hy] at h
    cases h
/-- no integer from lo to hi, whatever comes -/
def SbI (K : PySem.W.Frag) (F : Addr → Prop) (lo hi : Int) (H : Hp) (v : V) : Prop := ∀ H', Kx F H H' → Wh K H' v ∧ inB lo hi v = false
theorem SbI.kx {F : Addr → Prop} {lo hi : Int} {H H' : Hp} {v : V} (h : SbI K F lo hi H v) (e : Kx F H H') : SbI K F lo hi H' v := fun G g => h G (e.trans g)
theorem SbI.now {F : Addr → Prop} {lo hi : Int} {H : Hp} {v : V} (h : SbI K F lo hi H v) : Wh K H v ∧ inB lo hi v = false := h H (Kx.refl F H)
theorem sbI_sc {F : Addr → Prop} {lo hi : Int} {H : Hp} {v : V} {t : String} (h : ∀ G, tyN K G v = some t) (n : inB lo hi v = false) : SbI K F lo hi H v := fun G _ => ⟨Wh.ty (h G), n⟩
theorem sbI_tup {F : Addr → Prop} {lo hi : Int} {H : Hp} {a : Addr} {xs : List V} (n : ¬F a) (h : ob K H a = some (.tup xs)) : SbI K F lo hi H (.ref a) := fun G g => ⟨Wh.ty (t := "tuple") (by rw [tyN_ref, ob_kx g n (fun _ z => by cases z) h]; rfl), rfl⟩
theorem sbI_lst {F : Addr → Prop} {lo hi : Int} {H : Hp} {a : Addr} {xs : List V} (n : ¬F a) (h : ob K H a = some (.lst xs)) : SbI K F lo hi H (.ref a) := fun G g => ⟨Wh.ty (t := "list") (by rw [tyN_ref, ob_kx g n (fun _ z => by cases z) h]; rfl), rfl⟩
/-- no word, whatever comes -/
def SbW (K : PySem.W.Frag) (F : Addr → Prop) (H : Hp) (v : V) : Prop := ∀ H', Kx F H H' → WdJ K H' v false
theorem SbW.kx {F : Addr → Prop} {H H' : Hp} {v : V} (h : SbW K F H v) (e : Kx F H H') : SbW K F H' v := fun G g => h G (e.trans g)
theorem SbW.now {F : Addr → Prop} {H : Hp} {v : V} (h : SbW K F H v) : WdJ K H v false := h H (Kx.refl F H)
theorem sbW_ty {F : Addr → Prop} {H : Hp} {v : V} {t : String} (h : ∀ G, Kx F H G → tyN K G v = some t) (n : isB t "tuple" = false) : SbW K F H v := fun G g => .inl ⟨_, Kd.ty (h G g), n, rfl⟩
theorem sbW_lst {F : Addr → Prop} {H : Hp} {a : Addr} {xs : List V} (n : ¬F a) (h : ob K H a = some (.lst xs)) : SbW K F H (.ref a) := sbW_ty (t := "list") (fun G g => by rw [tyN_ref, ob_kx g n (fun _ z => by cases z) h]; rfl) rfl
theorem sbW_len {F : Addr → Prop} {H : Hp} {a : Addr} {xs : List V} (n : ¬F a) (h : ob K H a = some (.tup xs)) (l : xs.length = 0 ∨ 100 < xs.length) (l2 : xs.length ≤ 1000) : SbW K F H (.ref a) := fun G g => .inr ⟨a, xs, rfl, ob_kx g n (fun _ z => by cases z) h, .inl ⟨l, l2, rfl⟩⟩
/-- a tuple with an item that is neither 0 nor 1 -/
theorem sbW_item {F : Addr → Prop} {H : Hp} {a : Addr} {us ws : List Int} {v : V} (n : ¬F a) (h : ob K H a = some (.tup (us.map V.int ++ [v] ++ ws.map V.int))) (hv : SbI K F 0 1 H v) (l : us.length + ws.length < 100) : SbW K F H (.ref a) := fun G g => by
  refine .inr ⟨a, _, rfl, ob_kx g n (fun _ z => by cases z) h, .inr ⟨by simp only [List.length_append, List.length_map, List.length_cons, List.length_nil]; omega, by simp only [List.length_append, List.length_map, List.length_cons, List.length_nil]; omega, fun x hx => ?_, ?_⟩⟩
  · simp only [List.mem_append, List.mem_map, List.mem_cons, List.not_mem_nil, or_false] at hx
    rcases hx with (⟨m, _, rfl⟩ | rfl) | ⟨m, _, rfl⟩
    · exact Wh.int m
    · exact (hv G g).1
    · exact Wh.int m
  · refine (List.all_eq_false.mpr ⟨v, by simp, ?_⟩).symm
    rw [(hv G g).2]
    exact Bool.false_ne_true
/-- a Cycle, or any object whose class is none of the plain kinds -/
def CyN (K : PySem.W.Frag) (C : Addr) : Prop := ∀ n ∈ ["int", "bool", "str", "list", "tuple", "dict"], PySem.W.kitOne K (.ref C) (.type n) = some false
theorem kd_ins {H : Hp} {C c dx : Addr} {fs : List (Str × V)} (hN : CyN K C) (hI : C8.InsC K C) (h : H c = some (.ins C dx fs)) : Kd K H (.ref c) (fun _ => false) := ⟨.ref C, .base (.ins h hI.cl hI.ha hI.hn hI.htk hI.hm), hN⟩
theorem sbI_ins {F : Addr → Prop} {lo hi : Int} {H : Hp} {C c dx : Addr} {fs : List (Str × V)} (hN : CyN K C) (hI : C8.InsC K C) (n : ¬F c) (h : H c = some (.ins C dx fs)) : SbI K F lo hi H (.ref c) := fun G g => ⟨⟨_, kd_ins hN hI (g c _ n (fun _ z => by cases z) h), rfl⟩, rfl⟩
theorem sbW_ins {F : Addr → Prop} {H : Hp} {C c dx : Addr} {fs : List (Str × V)} (hN : CyN K C) (hI : C8.InsC K C) (n : ¬F c) (h : H c = some (.ins C dx fs)) : SbW K F H (.ref c) := fun G g => .inl ⟨_, kd_ins hN hI (g c _ n (fun _ z => by cases z) h), rfl, rfl⟩
theorem sbW_dK {F : Addr → Prop} {H : Hp} {a : Addr} {ks : List (Key × V)} (n : ¬F a) (h : ob K H a = some (.dK ks)) : SbW K F H (.ref a) := sbW_ty (t := "dict") (fun G g => by rw [tyN_ref, ob_kx g n (fun _ z => by cases z) h]; rfl) rfl
theorem LawS.nf {T : List (Addr × Str)} {H : Hp} {s a : Addr} (h : LawS K T H s) (n : H a = none) : ¬Fz s s a := fun z => by
  have z : a = s := z.elim id id
  exact h.st.ne n z
theorem LawS.nt {T : List (Addr × Str)} {H : Hp} {s a : Addr} {xs : List V} (h : LawS K T H s) (o : ob K H a = some (.tup xs)) : ¬Fz s s a := fun z => by
  have z : a = s := z.elim id id
  exact tup_ne h.st o z
structure AskD (K : PySem.W.Frag) (mg : Str → Option Value) (g : Addr) (oc : Value) (od : Option Addr) (dV kV doc pm : Value) (an : Option Addr) (cdv ct : Value) (osl : Array (Option Value)) : Prop where
  m : mg "_law_asked" = some (.ref g)
  kp : PySem.W.keepIn K (.ref g) = true
  lk : K.lookup g = some ⟨oc, od, .func (PySem.W.fnOf "_law_asked" "_law_asked" (defArgs sAsked) (defBody sAsked) (defScope sAsked) dV kV doc pm an cdv ct), osl⟩
  cd : PySem.W.codeIn K cdv "_law_asked" = true
  b : Binds K (PySem.W.fnOf "_law_asked" "_law_asked" (defArgs sAsked) (defBody sAsked) (defScope sAsked) dV kV doc pm an cdv ct) ["_law_call"] []
/-- data the store is no part of, that is no integer from lo to hi -/
theorem sbI_shp {s : Addr} {lo hi : Int} {H : Hp} {n : Nat} {v : V} (st : Sto K H s) (h : Shp K (fun a => a ≠ s) H n v) (w : inB lo hi v = false) : SbI K (Fz s s) lo hi H v := by
  rcases Shp.split h with c | ⟨m, rfl, a, xs, rfl, o, l, hx⟩ | ⟨m, rfl, a, ks, rfl, na, o, _⟩
  · cases v with
    | non => exact sbI_sc (t := "NoneType") (fun _ => rfl) w
    | bl b => exact sbI_sc (t := "bool") (fun _ => rfl) w
    | int b => exact sbI_sc (t := "int") (fun _ => rfl) w
    | str b => exact sbI_sc (t := "str") (fun _ => rfl) w
    | _ => cases c
  · rcases o with o | ⟨na, o⟩
    · exact sbI_tup (fun z => tup_ne st o (z.elim id id)) o
    · exact sbI_lst (fun z => na (z.elim id id)) o
  · exact fun G g => ⟨Wh.ty (t := "dict") (by rw [tyN_ref, ob_kx g (fun z => na (z.elim id id)) (fun _ z => by cases z) o]; rfl), rfl⟩
end
end My

namespace My
open PySem PySem.Spec PyProof.Rows L2
section
variable {P : Program} {w : World} {K : PySem.W.Frag} {mg : Str → Option Value} {base : Heap}
def spRange (K : PySem.W.Frag) : Sp := fun vs H Q _ => ∃ (s : Addr) (lo hi : Int), vs = [.ref s, .int lo, .int hi] ∧ Sto K H s ∧ 0 ≤ lo ∧ hi < 2 ^ 100 ∧ ∀ r H', lo ≤ r → (r ≤ hi ∨ (hi ≤ lo ∧ r = lo)) → (hi ≤ lo → r = lo) → Kp s H H' → Sto K H' s → Q (.int r) H'
abbrev sRange : Stmt := topS 50
theorem scRange : FnScope ["_law_store_here", "_law_low", "_law_high", "_law_spot"] ["_law_store_here", "_law_low", "_law_high"] (defScope sRange) := ⟨rfl, rfl, rfl, by decide +kernel, rfl, by decide +kernel, by decide +kernel⟩
theorem k_Range (T : Bt K mg) (D : Dfn K mg "_law_range" sRange ["_law_store_here", "_law_low", "_law_high"]) (d__law_take : Kn P w K mg base 2 "_law_take" ["_law_store_here", "_law_many"] (spTake K)) : Kn P w K mg base 3 "_law_range" ["_law_store_here", "_law_low", "_law_high"] (spRange K) := by
  refine Kn.mk' D scRange (fun vs H Q E h => ?_) (fun f cdv A outer s H vs Q E hr h => ?_)
  · obtain ⟨s, lo, hi, rfl, _⟩ := h
    rfl
  obtain ⟨s, lo, hi, rfl, hS, l0, h1, k⟩ := h
  refine ⟨_, (pss_cons (ps_set (i := 3) scRange.nd rfl (.inl rfl) (pe_kn d__law_take hr (by rfl) (pa_cons (pv 0) (pa_cons pe_int pa_nil))))
      (pss_cons (ps_if (PW.pt (pw_or (pt_cmpR op_eq (pv 3) pe_int (nomark _)) (pw_or1 (pt_cmpR op_le (pv 2) (pv 1) (nomark _))))) (pss_one (ps_ret (pv 1))) pss_nil)
      (pss_cons (ps_if (pt_cmpR op_eq (pv 3) pe_int (nomark _)) (pss_one (ps_ret (pv 2))) pss_nil)
      (pss_one (ps_ret (pe_op op_add (pv 1) (pe_kn d__law_take hr (by rfl) (pa_cons (pv 0) (pa_cons (pe_op op_add (pe_op op_sub (pv 2) (pv 1)) pe_int) pa_nil))))))))), ?_⟩
  refine ⟨_, rfl, s, 6, rfl, hS, by omega, fun i H1 i0 i1 kp st => ?_⟩
  refine ⟨_, rfl, rfl, _, rfl, ite2 (fun h => ?_) (fun h => ?_)⟩
  · exact ⟨_, rfl, k lo H1 (Int.le_refl _) (by omega) (fun _ => rfl) kp st⟩
  refine ⟨_, rfl, _, rfl, _, _, rfl, rfl, _, rfl, ite2 (fun h2 => ?_) (fun h2 => ?_)⟩
  · exact ⟨_, rfl, k lo H1 (Int.le_refl _) (.inr ⟨of_decide_eq_true h2, rfl⟩) (fun _ => rfl) kp st⟩
  have h2 : ¬ hi ≤ lo := fun z => h2 (decide_eq_true z)
  refine ⟨_, rfl, rfl, _, rfl, ite2 (fun h => ?_) (fun h => ?_)⟩
  · exact ⟨_, rfl, k hi H1 (by omega) (by omega) (fun z => absurd z h2) kp st⟩
  refine ⟨_, rfl, _, rfl, _, rfl, _, rfl, _, _, rfl, rfl, _, _, rfl, rfl, s, _, rfl, st, by omega, fun j H2 j0 j1 kp2 st2 => ⟨_, _, rfl, rfl, ?_⟩⟩
  exact k (lo + j) H2 (by omega) (by omega) (fun z => absurd z h2) (kp.trans kp2) st2
def spLongs (K : PySem.W.Frag) : Sp := fun vs H Q _ => ∃ (s : Addr), vs = [.ref s] ∧ Sto K H s ∧ ∀ p H' (h n : Int), ob K H' p = some (.tup [.int h, .int n]) → 0 ≤ h → h ≤ n → 1 ≤ n → n ≤ 100 → Kp s H H' → Sto K H' s → Q (.ref p) H'
def spLIt (K : PySem.W.Frag) : Sp := fun vs H Q _ => ∃ (h n t : Int), vs = [.int h, .int n, .int t] ∧ 0 ≤ h ∧ h ≤ 101 ∧ 1 ≤ n ∧ n ≤ 200 ∧ 0 ≤ t ∧ t ≤ 200 ∧ ∀ a H', Same H H' → Wd K H' a (lw h n t n.toNat) → Q (.ref a) H'
abbrev sLLongs : Stmt := topS 62
theorem scLLongs : FnScope ["_law_store_here", "_law_length"] ["_law_store_here"] (defScope sLLongs) := ⟨rfl, rfl, rfl, by decide +kernel, rfl, by decide +kernel, by decide +kernel⟩
theorem k_LLongs (T : Bt K mg) (D : Dfn K mg "_law_longs" sLLongs ["_law_store_here"]) (d__law_take : Kn P w K mg base 2 "_law_take" ["_law_store_here", "_law_many"] (spTake K)) (d__law_pick : Kn P w K mg base 3 "_law_pick" ["_law_store_here", "_law_row"] (spPick K)) (d__law_range : Kn P w K mg base 3 "_law_range" ["_law_store_here", "_law_low", "_law_high"] (spRange K)) : Kn P w K mg base 4 "_law_longs" ["_law_store_here"] (spLongs K) := by
  refine Kn.mk' D scLLongs (fun vs H Q E h => ?_) (fun f cdv A outer s H vs Q E hr h => ?_)
  · obtain ⟨s, rfl, _⟩ := h
    rfl
  obtain ⟨s, rfl, hS, k⟩ := h
  refine ⟨_, (pss_cons (ps_set (i := 1) scLLongs.nd rfl (.inl rfl) (pe_kn d__law_pick hr (by rfl) (pa_cons (pv 0) (pa_cons (pe_ls (pa_cons pe_int (pa_cons pe_int (pa_cons (pe_op op_add pe_int (pe_kn d__law_take hr (by rfl) (pa_cons (pv 0) (pa_cons pe_int pa_nil)))) (pa_cons (pe_op op_add pe_int (pe_kn d__law_take hr (by rfl) (pa_cons (pv 0) (pa_cons pe_int pa_nil)))) (pa_cons (pe_op op_add pe_int (pe_kn d__law_take hr (by rfl) (pa_cons (pv 0) (pa_cons pe_int pa_nil)))) pa_nil)))))) pa_nil))))
      (C8.pss_cut (ps_if (pt_cmpR op_eq (pe_kn d__law_take hr (by rfl) (pa_cons (pv 0) (pa_cons pe_int pa_nil))) pe_int (nomark _)) (pss_one (ps_set (i := 1) scLLongs.nd rfl (.inl rfl) (pe_op op_add pe_int (pe_kn d__law_take hr (by rfl) (pa_cons (pv 0) (pa_cons pe_int pa_nil)))))) pss_nil)
      (pss_one (ps_ret (pe_tp (pa_cons (pe_kn d__law_range hr (by rfl) (pa_cons (pv 0) (pa_cons pe_int (pa_cons (pv 1) pa_nil)))) (pa_cons (pv 1) pa_nil))))))), ?_⟩
  refine ⟨_, rfl, _, rfl, s, 12, rfl, hS, by omega, fun r1 H1 a0 a1 kp1 st1 => ⟨_, _, rfl, rfl, ?_⟩⟩
  refine ⟨_, rfl, s, 12, rfl, st1, by omega, fun r2 H2 b0 b1 kp2 st2 => ⟨_, _, rfl, rfl, ?_⟩⟩
  refine ⟨_, rfl, s, 100, rfl, st2, by omega, fun r3 H3 c0 c1 kp3 st3 => ⟨_, _, rfl, rfl, ?_⟩⟩
  refine ⟨sz2 (by show 5 ≤ 100; decide), fun P hP kP => ?_⟩
  have s4 := Same.new hP (.lst [.int 1, .int 100, .int (1 + r1), .int (1 + r2), .int (1 + r3)])
  have e4 : upd H3 P (.lst [.int 1, .int 100, .int (1 + r1), .int (1 + r2), .int (1 + r3)]) P = some (.lst [.int 1, .int 100, .int (1 + r1), .int (1 + r2), .int (1 + r3)]) := upd_same
  have nP : s ≠ P := (st3.ne' hP).symm
  have kp4 := kp1.trans (kp2.trans (kp3.trans (Kp.same s4)))
  have st4 := st3.same s4
  refine ⟨s, P, _, rfl, st4, e4, nP, by show 0 < 5; decide, by show 5 < 1000; decide, fun x H5 hx kp5 st5 => ?_⟩
  have hm : ∃ m : Int, x = .int m ∧ 1 ≤ m ∧ m ≤ 100 := by
    simp only [List.mem_cons, List.not_mem_nil, or_false] at hx
    rcases hx with rfl | rfl | rfl | rfl | rfl
    · exact ⟨_, rfl, by omega, by omega⟩
    · exact ⟨_, rfl, by omega, by omega⟩
    · exact ⟨_, rfl, by omega, by omega⟩
    · exact ⟨_, rfl, by omega, by omega⟩
    · exact ⟨_, rfl, by omega, by omega⟩
  obtain ⟨m, rfl, m0, m1⟩ := hm
  have kp5 := kp4.trans kp5
  clear hx e4 s4 nP kP hP kp4 st4 kp1 kp2 kp3 st1 st2 st3
  refine ⟨fun σ H' => ∃ m : Int, σ = [some (V.ref s), some (.int m)] ∧ 1 ≤ m ∧ m ≤ 100 ∧ Kp s H H' ∧ Sto K H' s, ?_, ?_⟩
  · refine ⟨_, rfl, s, 2, rfl, st5, by omega, fun r4 H6 d0 d1 kp6 st6 => ⟨rfl, _, rfl, ite2 (fun _ => ?_) (fun _ => ?_)⟩⟩
    · refine ⟨_, rfl, s, 12, rfl, st6, by omega, fun r5 H7 f0 f1 kp7 st7 => ⟨_, _, rfl, rfl, ?_⟩⟩
      exact ⟨1 + r5, rfl, by omega, by omega, kp5.trans (kp6.trans kp7), st7⟩
    · exact ⟨m, rfl, m0, m1, kp5.trans kp6, st6⟩
  · rintro σ H6 ⟨m, rfl, m0, m1, kp6, st6⟩
    refine ⟨_, rfl, _, rfl, s, 0, m, rfl, st6, by decide, by omega, fun r H7 lo hi _ kp7 st7 => ⟨_, rfl, sz2 (by show 2 ≤ 100; decide), fun p hp kkp => ?_⟩⟩
    have s8 := Same.new hp (.tup [.int r, .int m])
    exact k p _ r m (ob_new kkp) lo (by omega) m0 m1 (kp6.trans (kp7.trans (Kp.same s8))) (st7.same s8)

abbrev sLIt : Stmt := topS 63
theorem scLIt : FnScope ["_law_longs_here", "_law_length", "_law_turn", "_law_k"] ["_law_longs_here", "_law_length", "_law_turn"] (defScope sLIt) := ⟨rfl, rfl, rfl, by decide +kernel, rfl, by decide +kernel, by decide +kernel⟩
theorem blk_scLIt_0 : BlkOk ["_law_longs_here", "_law_length", "_law_turn", "_law_k"] (defScope sLIt) { kind := .function, names := [(".0", .local), ("_law_k", .local), ("_law_length", .free), ("_law_longs_here", .free), ("_law_turn", .free)], isGenerator := false, isCoroutine := false, more := [] } [("_law_k", 3)] := ⟨rfl, by decide +kernel, by decide +kernel, by decide +kernel, by decide +kernel⟩
theorem k_LIt (T : Bt K mg) (D : Dfn K mg "_law_leap_items" sLIt ["_law_longs_here", "_law_length", "_law_turn"]) : Kn P w K mg base 1 "_law_leap_items" ["_law_longs_here", "_law_length", "_law_turn"] (spLIt K) := by
  refine Kn.mk' D scLIt (fun vs H Q E h => ?_) (fun f cdv A outer s H vs Q E hr h => ?_)
  · obtain ⟨h, n, t, rfl, _⟩ := h
    rfl
  obtain ⟨h, n, t, rfl, h0, h1, n1, n2, t0, t1, k⟩ := h
  refine ⟨_, (pss_one (ps_ret (pe_fr (pe_callTy call_tuple_of (by rfl) T.b_tuple (by decide +kernel) (pa_cons (pe_fr (pe_lc (own := [("_law_k", 3)]) (g := gName 3) (te := (tOp (rI0 fun i j => V.int (i - j)) (tOp (rI CDivX fun i j => V.int (i.fdiv j)) (tOp (rI0 fun i j => V.int (i + j)) (tOp (rI CMulW fun i j => V.int (i * j)) (tOp (rI0 fun i j => V.int (i + j)) (tVar 3) (tC (.int 1))) (tVar 0)) (tVar 2)) (tVar 1)) (tOp (rI CDivX fun i j => V.int (i.fdiv j)) (tOp (rI0 fun i j => V.int (i + j)) (tOp (rI CMulW fun i j => V.int (i * j)) (tVar 3) (tVar 0)) (tVar 2)) (tVar 1)))) rfl scLIt.nd (pi_range1 (by rfl) T.b_range (pa_cons (pv 1) pa_nil)) blk_scLIt_0 (fun _ _ _ _ _ => by exact pg_name (i := 3) scLIt.nd rfl (.inl rfl)) (fun _ _ _ _ _ => pts_nil) (fun _ _ _ _ _ => by exact (pe_op op_sub (pe_op op_fdivX (pe_op op_add (pe_op op_mulW (pe_op op_add (pv 3) pe_int) (pv 0)) (pv 2)) (pv 1)) (pe_op op_fdivX (pe_op op_add (pe_op op_mulW (pv 3) (pv 0)) (pv 2)) (pv 1)))))) pa_nil))))), ?_⟩
  simp only [cx_K]
  have hf : ∀ x : Int, x.fdiv n = x / n := fun x => Int.fdiv_eq_ediv_of_nonneg x (by omega)
  refine ⟨_, rfl, _, rfl, by show -(2 ^ 62) ≤ n; omega, by show n < 2 ^ 62; omega, fun D hD => lc_range (lo := 0) (n := n.toNat) (fun i H' => H' D = some (.lst ((lw h n t i).map V.int)) ∧ Same H H') ⟨upd_same, Same.new hD _⟩ ?_ ?_⟩
  · rintro i H' hi ⟨e1, s1⟩
    refine ⟨rfl, ?_⟩
    simp only [tYes, if_true]
    have hi' : i < 200 := by omega
    refine ⟨_, rfl, _, _, rfl, rfl, _, rfl, _, _, rfl, rfl, mulW (a := 10) (b := 10) (by omega) (by omega) (by decide), _, rfl, _, _, rfl, rfl, _, rfl, _, _, rfl, rfl, ⟨by omega, szMono (a := 10) (by omega) (by decide)⟩, ?_⟩
    refine ⟨_, rfl, _, rfl, _, _, rfl, rfl, mulW (a := 10) (b := 10) (by omega) (by omega) (by decide), _, rfl, _, _, rfl, rfl, _, rfl, _, _, rfl, rfl, ⟨by omega, szMono (a := 10) (by omega) (by decide)⟩, ?_⟩
    refine ⟨_, _, rfl, rfl, _, e1, by rw [List.length_map, lw_len, sizeLine_eq]; omega, ?_, fun b o e => ?_⟩
    · rw [upd_same]
      show some (HO.lst ((lw h n t i).map V.int ++ [V.int ((((0 + (i : Int)) + 1) * h + t).fdiv n - ((0 + (i : Int)) * h + t).fdiv n)])) = _
      rw [hf, hf, lw_s, List.map_append, Int.zero_add]
      rfl
    · rw [upd_ne (ne_of_none e hD)]
      exact s1 _ _ e
  · rintro H1 ⟨e1, s1⟩ fr
    refine ⟨D, _, rfl, .inl ⟨.of e1, fun a ha fr6 => ?_⟩⟩
    have ka : K.lookup a = none := fr6 a (by rw [upd_same]; simp)
    exact k a _ (s1.trans (Same.new ha _)) ((ob_none ka).trans upd_same)

theorem cut_all {xs : List V} {lo hi : Option Int} (h : HT.sIx xs.length 0 lo = 0 ∧ HT.sIx xs.length xs.length hi = xs.length) : cutV xs lo hi = xs := by
  unfold cutV
  rw [h.1, h.2, List.drop_zero, Nat.sub_zero, List.take_length]
theorem sl_get {a : Addr} {xs : List V} {lo hi : Option Int} {H : Hp} {Q : VK} (o : ob K H a = some (.tup xs)) (k : ∀ p H', Same H H' → ob K H' p = some (.tup (cutV xs lo hi)) → Q (.ref p) H') : rSlA K (.ref a) lo hi H fun v H' => (∀ x, H' x ≠ none → K.lookup x = none) → Q v H' :=
  ⟨a, xs, rfl, ob_tup o, fun h _ => k a H (Same.refl H) (by rw [cut_all h]; exact o), fun _ p hp fr => k p _ (Same.new hp _) ((ob_none (fr p (by rw [upd_same]; simp))).trans upd_same)⟩
theorem cat_get {a b : Addr} {xs ys : List V} {H : Hp} {Q : VK} (o : ob K H a = some (.tup xs)) (o' : ob K H b = some (.tup ys)) (hz : xs.length + ys.length ≤ 1000) (k : ∀ p H', Same H H' → ob K H' p = some (.tup (xs ++ ys)) → Q (.ref p) H') : rCatA K (.ref a) (.ref b) H fun v H' => (∀ x, H' x ≠ none → K.lookup x = none) → Q v H' :=
  ⟨a, b, xs, ys, rfl, rfl, ob_tup o, ob_tup o', by rw [sizeLine_eq]; omega, fun h _ => k b H (Same.refl H) (by rw [h]; exact o'), fun _ h _ => k a H (Same.refl H) (by rw [h, List.append_nil]; exact o), fun _ _ p hp fr => k p _ (Same.new hp _) ((ob_none (fr p (by rw [upd_same]; simp))).trans upd_same)⟩
theorem div_add {n q s : Int} (n1 : 1 ≤ n) : (n * q + s) / n = q + s / n := by
  rw [Int.add_comm, Int.add_mul_ediv_left _ _ (by omega), Int.add_comm]
theorem lw_step {h n x : Int} (n1 : 1 ≤ n) (h0 : 0 ≤ h) (h1 : h ≤ n) : (x + h) / n - x / n = (if n ≤ x % n + h then 1 else 0) ∧ (x + h) % n = (if n ≤ x % n + h then x % n + h - n else x % n + h) := by
  have e := Int.mul_ediv_add_emod x n
  have r0 := Int.emod_nonneg x (show n ≠ 0 by omega)
  have r1 := Int.emod_lt_of_pos x (show 0 < n by omega)
  generalize x / n = q at *
  generalize x % n = r at *
  subst e
  have d : (n * q + r + h) / n = q + (r + h) / n := by rw [Int.add_assoc, div_add n1]
  have f := Int.mul_ediv_add_emod (n * q + r + h) n
  rw [d] at f ⊢
  by_cases c : n ≤ r + h
  · have g : (r + h) / n = 1 := by
      rw [show r + h = n * 1 + (r + h - n) by omega, div_add n1, Int.ediv_eq_zero_of_lt (by omega) (by omega)]
      rfl
    rw [if_pos c, if_pos c, g]
    rw [g, Int.mul_add, Int.mul_one] at f
    omega
  · have g : (r + h) / n = 0 := Int.ediv_eq_zero_of_lt (by omega) (by omega)
    rw [if_neg c, if_neg c, g]
    rw [g, Int.add_zero] at f
    omega
theorem lw_wv {h n t : Int} (h0 : 0 ≤ h) (h1 : h ≤ n) (n1 : 1 ≤ n) (n2 : n ≤ 100) : Wv (lw h n t n.toNat) := by
  refine ⟨fun x hx => ?_, by rw [lw_len]; omega, by rw [lw_len]; omega⟩
  unfold lw at hx
  obtain ⟨i, _, rfl⟩ := List.mem_map.mp hx
  obtain ⟨m1, _⟩ := lw_step (x := (i : Int) * h + t) n1 h0 h1
  rw [show ((i : Int) + 1) * h + t = (i : Int) * h + t + h by rw [Int.add_mul, Int.one_mul]; omega, m1]
  split
  · exact .inr rfl
  · exact .inl rfl
theorem wv_set {w : List Int} {i : Nat} {x : Int} (wv : Wv w) (hx : x = 0 ∨ x = 1) : Wv (w.set i x) := by
  refine ⟨fun y hy => ?_, by rw [List.length_set]; exact wv.2.1, by rw [List.length_set]; exact wv.2.2⟩
  rcases List.mem_or_eq_of_mem_set hy with z | rfl
  · exact wv.1 y z
  · exact hx
def spDWd (K : PySem.W.Frag) : Sp := fun vs H Q _ => ∃ (s : Addr), vs = [.ref s] ∧ Sto K H s ∧ ∀ a w H', Wd K H' a w → Wv w → Kp s H H' → Sto K H' s → Q (.ref a) H'
abbrev sDWd : Stmt := topS 64
theorem scDWd : FnScope ["_law_store_here", "_law_longs_here", "_law_length", "_law_kind", "_law_row", "_law_spot", "_law_other", "_law_k"] ["_law_store_here"] (defScope sDWd) := ⟨rfl, rfl, rfl, by decide +kernel, rfl, by decide +kernel, by decide +kernel⟩
theorem blk_scDWd_0 : BlkOk ["_law_store_here", "_law_longs_here", "_law_length", "_law_kind", "_law_row", "_law_spot", "_law_other", "_law_k"] (defScope sDWd) { kind := .function, names := [(".0", .local), ("_law_k", .local), ("_law_kind", .free)], isGenerator := false, isCoroutine := false, more := [] } [("_law_k", 7)] := ⟨rfl, by decide +kernel, by decide +kernel, by decide +kernel, by decide +kernel⟩
theorem blk_scDWd_1 : BlkOk ["_law_store_here", "_law_longs_here", "_law_length", "_law_kind", "_law_row", "_law_spot", "_law_other", "_law_k"] (defScope sDWd) { kind := .function, names := [(".0", .local), ("_law_k", .local), ("_law_take", .globalImplicit), ("_law_store_here", .free)], isGenerator := false, isCoroutine := false, more := [] } [("_law_k", 7)] := ⟨rfl, by decide +kernel, by decide +kernel, by decide +kernel, by decide +kernel⟩
theorem k_DWd (T : Bt K mg) (D : Dfn K mg "_law_word" sDWd ["_law_store_here"]) (d__law_longs : Kn P w K mg base 4 "_law_longs" ["_law_store_here"] (spLongs K)) (d__law_take : Kn P w K mg base 2 "_law_take" ["_law_store_here", "_law_many"] (spTake K)) (d__law_leap_items : Kn P w K mg base 1 "_law_leap_items" ["_law_longs_here", "_law_length", "_law_turn"] (spLIt K)) : Kn P w K mg base 5 "_law_word" ["_law_store_here"] (spDWd K) := by
  refine Kn.mk' D scDWd (fun vs H Q E h => ?_) (fun f cdv A outer s H vs Q E hr h => ?_)
  · obtain ⟨s, rfl, _⟩ := h
    rfl
  obtain ⟨s, rfl, hS, k⟩ := h
  refine ⟨_, (pss_cons (ps_asg (pe_kn d__law_longs hr (by rfl) (pa_cons (pv 0) pa_nil)) (pg_tp 2 (by rfl) (pgs_cons (pg_name (i := 1) scDWd.nd rfl (.inl rfl)) (pgs_cons (pg_name (i := 2) scDWd.nd rfl (.inl rfl)) pgs_nil))))
      (pss_cons (ps_set (i := 3) scDWd.nd rfl (.inr rfl) (pe_kn d__law_take hr (by rfl) (pa_cons (pv 0) (pa_cons pe_int pa_nil))))
      (pss_cons (ps_if (pt_cmpR op_lt (pv 3) pe_int (nomark _)) (pss_one (ps_ret (pe_fr (pe_callTy call_tuple_of (by rfl) T.b_tuple (by decide +kernel) (pa_cons (pe_fr (pe_lc (own := [("_law_k", 7)]) (g := gName 7) (te := (tVar 3)) rfl scDWd.nd (pi_range1 (by rfl) T.b_range (pa_cons (pv 2) pa_nil)) blk_scDWd_0 (fun _ _ _ _ _ => by exact pg_name (i := 7) scDWd.nd rfl (.inl rfl)) (fun _ _ _ _ _ => pts_nil) (fun _ _ _ _ _ => by exact (pv 3)))) pa_nil))))) pss_nil)
      (pss_cons (ps_if (pt_cmpR op_gt (pv 3) pe_int (nomark _)) (pss_one (ps_ret (pe_fr (pe_callTy call_tuple_of (by rfl) T.b_tuple (by decide +kernel) (pa_cons (pe_fr (pe_lc (own := [("_law_k", 7)]) (g := gName 7) (te := (tCall (spTake K) [] E0 (tCons (tVar 0) (tCons (tC (.int 2)) L2.tNil)))) rfl scDWd.nd (pi_range1 (by rfl) T.b_range (pa_cons (pv 2) pa_nil)) blk_scDWd_1 (fun _ _ _ _ _ => by exact pg_name (i := 7) scDWd.nd rfl (.inl rfl)) (fun _ _ _ _ _ => pts_nil) (fun _ _ _ _ _ => by exact (pe_kn d__law_take hr (by rfl) (pa_cons (pv 0) (pa_cons pe_int pa_nil)))))) pa_nil))))) pss_nil)
      (pss_cons (ps_set (i := 4) scDWd.nd rfl (.inl rfl) (pe_fr (pe_callTy call_list_of (by rfl) T.b_list (by decide +kernel) (pa_cons (pe_kn d__law_leap_items hr (by rfl) (pa_cons (pv 1) (pa_cons (pv 2) (pa_cons (pe_kn d__law_take hr (by rfl) (pa_cons (pv 0) (pa_cons (pv 2) pa_nil))) pa_nil)))) pa_nil))))
      (pss_cons (ps_set (i := 5) scDWd.nd rfl (.inl rfl) (pe_kn d__law_take hr (by rfl) (pa_cons (pv 0) (pa_cons (pv 2) pa_nil))))
      (pss_cons (ps_set (i := 6) scDWd.nd rfl (.inl rfl) (pe_kn d__law_take hr (by rfl) (pa_cons (pv 0) (pa_cons (pv 2) pa_nil))))
      (C8.pss_cut (ps_if (pt_cmpR op_eq (pv 3) pe_int (nomark _)) (pss_one (ps_asg (pe_op op_sub pe_int (pe_ix ix_any (pv 4) (pv 5) (fun _ _ => rfl))) (pg_sub (pv 4) (pv 5) set_any))) (pss_one (ps_if (pt_cmpR op_eq (pv 3) pe_int (nomark _)) (pss_one (ps_asg (pe_tp (pa_cons (pe_ix ix_any (pv 4) (pv 6) (fun _ _ => rfl)) (pa_cons (pe_ix ix_any (pv 4) (pv 5) (fun _ _ => rfl)) pa_nil))) (pg_tp 2 (by rfl) (pgs_cons (pg_sub (pv 4) (pv 5) set_any) (pgs_cons (pg_sub (pv 4) (pv 6) set_any) pgs_nil))))) pss_nil)))
      (pss_one (ps_ret (pe_fr (pe_callTy call_tuple_of (by rfl) T.b_tuple (by decide +kernel) (pa_cons (pv 4) pa_nil))))))))))))), ?_⟩
  simp only [cx_K]
  refine ⟨_, rfl, s, rfl, hS, fun p0 H1 h n op h0 h1 n1 n2 kp1 st1 => ?_⟩
  refine ⟨p0, rfl, _, op, rfl, ?_⟩
  refine ⟨_, _, rfl, _, _, rfl, rfl, ?_⟩
  clear op
  refine ⟨_, rfl, s, 10, rfl, st1, by decide, fun kd H2 k0 k1 kp2 st2 => ?_⟩
  have kpA := kp1.trans kp2
  clear kp1 kp2 st1
  refine ⟨_, rfl, _, _, rfl, rfl, _, rfl, ite2 (fun c => ?_) (fun c => ?_)⟩
  · have c := of_decide_eq_true c
    refine ⟨_, rfl, _, rfl, by omega, by omega, fun D hD => lc_range (lo := 0) (n := n.toNat) (fun i H' => H' D = some (.lst ((List.replicate i kd).map V.int)) ∧ Same H2 H') ⟨upd_same, Same.new hD _⟩ ?_ ?_⟩
    · rintro i H' hi ⟨e1, s1⟩
      refine ⟨rfl, ?_⟩
      simp only [tYes, if_true]
      refine ⟨_, rfl, _, e1, by rw [List.length_map, List.length_replicate, sizeLine_eq]; omega, ?_, fun b o e => ?_⟩
      · rw [upd_same, List.replicate_succ', List.map_append]
        rfl
      · rw [upd_ne (ne_of_none e hD)]
        exact s1 _ _ e
    · rintro H3 ⟨e1, s1⟩ fr
      refine ⟨D, _, rfl, .inl ⟨.of e1, fun a ha fr6 => ?_⟩⟩
      have ka : K.lookup a = none := fr6 a (by rw [upd_same]; simp)
      have s3 := s1.trans (Same.new ha (.tup ((List.replicate n.toNat kd).map V.int)))
      refine k a _ _ ((ob_none ka).trans upd_same) ⟨fun x hx => ?_, ?_, ?_⟩ (kpA.trans (Kp.same s3)) (st2.same s3)
      · have := (List.mem_replicate.mp hx).2
        omega
      · rw [List.length_replicate]
        omega
      · rw [List.length_replicate]
        omega
  refine ⟨_, rfl, _, _, rfl, rfl, _, rfl, ite2 (fun c' => ?_) (fun c' => ?_)⟩
  · refine ⟨_, rfl, _, rfl, by omega, by omega, fun D hD => lc_range (lo := 0) (n := n.toNat) (fun i H' => ∃ ws : List Int, ws.length = i ∧ (∀ x ∈ ws, x = 0 ∨ x = 1) ∧ H' D = some (.lst (ws.map V.int)) ∧ Kp s H2 H' ∧ Sto K H' s) ⟨[], rfl, (fun x hx => by cases hx), upd_same, Kp.same (Same.new hD _), st2.same (Same.new hD _)⟩ ?_ ?_⟩
    · rintro i H' hi ⟨ws, lw', w01, e1, kp, st⟩
      refine ⟨rfl, ?_⟩
      simp only [tYes, if_true]
      refine ⟨_, rfl, s, 2, rfl, st, by decide, fun q H4 q0 q1 kp4 st4 => ⟨_, kp4 _ _ (st2.ne hD) e1, by rw [List.length_map, sizeLine_eq]; omega, ws ++ [q], by rw [List.length_append, lw']; rfl, fun x hx => ?_, ?_, ?_⟩⟩
      · rcases List.mem_append.mp hx with z | z
        · exact w01 x z
        · rw [List.mem_singleton] at z
          omega
      · rw [upd_same, List.map_append]
        rfl
      · obtain ⟨m1, m2⟩ := st2.mut (o := .lst (ws.map V.int ++ [.int q])) hD (kp.trans kp4) st4
        exact ⟨m2, m1⟩
    · rintro H3 ⟨ws, lw', w01, e1, kp, st⟩ fr
      refine ⟨D, _, rfl, .inl ⟨.of e1, fun a ha fr6 => ?_⟩⟩
      have ka : K.lookup a = none := fr6 a (by rw [upd_same]; simp)
      exact k a ws _ ((ob_none ka).trans upd_same) ⟨w01, by omega, by omega⟩ (kpA.trans (kp.trans (Kp.same (Same.new ha _)))) (st.same (Same.new ha _))
  refine ⟨_, rfl, _, rfl, _, rfl, _, rfl, s, n, rfl, st2, by omega, fun t H3 t0 t1 kp3 st3 => ⟨h, n, t, rfl, h0, by omega, n1, by omega, t0, by omega, fun b H4 s4 hb => ?_⟩⟩
  have t2 : t < n := by omega
  have wv := lw_wv (h := h) (n := n) (t := t) h0 h1 n1 n2
  have ln : (lw h n t n.toNat).length = n.toNat := lw_len ..
  generalize lw h n t n.toNat = W at hb wv ln
  refine ⟨b, _, rfl, .inr (ob_tup hb), fun R hR frR => ?_⟩
  have kR : K.lookup R = none := frR R (by rw [upd_same]; simp)
  clear frR
  have st4 := st3.same s4
  have s5 := Same.new hR (.lst (W.map V.int))
  have e5 : upd H4 R (.lst (W.map V.int)) R = some (.lst (W.map V.int)) := upd_same
  have nR := st4.ne hR
  have kp4 := kpA.trans (kp3.trans (Kp.same s4))
  generalize hH5 : upd H4 R (.lst (W.map V.int)) = H5 at s5 e5 ⊢
  refine ⟨_, rfl, _, rfl, s, n, rfl, st4.same s5, by omega, fun q1 H6 a0 a1 kp6 st6 => ?_⟩
  refine ⟨_, rfl, _, rfl, s, n, rfl, st6, by omega, fun q2 H7 b0 b1 kp7 st7 => ?_⟩
  obtain ⟨j, rfl⟩ := Int.eq_ofNat_of_zero_le a0
  obtain ⟨i, rfl⟩ := Int.eq_ofNat_of_zero_le b0
  have jl : j < W.length := by omega
  have il : i < W.length := by omega
  have e7 := kp7 _ _ nR (kp6 _ _ nR e5)
  have kp57 : Kp s H4 H7 := (Kp.same s5).trans (kp6.trans kp7)
  have wi := wv.1 W[i] (List.getElem_mem il)
  have wj := wv.1 W[j] (List.getElem_mem jl)
  have oR := (ob_none kR).trans e7
  have ei : atI (W.map V.int) i = some (.int W[i]) := atI_nat (by rw [List.getElem?_map, List.getElem?_eq_getElem il]; rfl)
  have ej : atI (W.map V.int) j = some (.int W[j]) := atI_nat (by rw [List.getElem?_map, List.getElem?_eq_getElem jl]; rfl)
  refine ⟨fun σ H' => ∃ w x5 x6, σ = [some (V.ref s), some (.int h), some (.int n), some (.int kd), some (.ref R), x5, x6, none] ∧ H' R = some (.lst (w.map V.int)) ∧ Wv w ∧ Kp s H4 H' ∧ Sto K H' s, ?_, ?_⟩
  · refine ⟨_, rfl, rfl, _, rfl, ite2 (fun c6 => ?_) (fun c6 => ?_)⟩
    · have sl3 : setI (W.map V.int) (j : Int) (.int (1 - W[j])) = some ((W.set j (1 - W[j])).map V.int) := setI_nat (by rw [List.length_map]; exact jl) (by rw [List.map_set])
      obtain ⟨m1, p1⟩ := st4.mut (o := .lst ((W.set j (1 - W[j])).map V.int)) hR kp57 st7
      refine ⟨_, rfl, _, rfl, R, j, rfl, rfl, _, itsO_ofL oR, _, ej, _, _, rfl, rfl, ?_⟩
      refine ⟨_, rfl, _, rfl, R, j, rfl, rfl, _, e7, _, sl3, ?_⟩
      exact ⟨_, _, _, rfl, upd_same, wv_set wv (by omega), p1, m1⟩
    · refine ⟨_, rfl, rfl, _, rfl, ite2 (fun c7 => ?_) (fun c7 => ?_)⟩
      · refine ⟨_, rfl, _, rfl, R, i, rfl, rfl, _, itsO_ofL oR, _, ei, _, rfl, _, rfl, R, j, rfl, rfl, _, itsO_ofL oR, _, ej, sz2 (by show 2 ≤ 100; decide), fun T hT kT => ?_⟩
        have sT := Same.new hT (.tup [.int W[i], .int W[j]])
        have oT := ob_new (K := K) (H := H7) (o := .tup [.int W[i], .int W[j]]) kT
        have e8 := sT _ _ e7
        generalize upd H7 T (.tup [.int W[i], .int W[j]]) = H8 at sT oT e8 ⊢
        refine ⟨T, rfl, _, oT, rfl, ?_⟩
        have sl1 : setI (W.map V.int) (j : Int) (.int W[i]) = some ((W.set j W[i]).map V.int) := setI_nat (by rw [List.length_map]; exact jl) (by rw [List.map_set])
        have sl2 : setI ((W.set j W[i]).map V.int) (i : Int) (.int W[j]) = some (((W.set j W[i]).set i W[j]).map V.int) := setI_nat (by rw [List.length_map, List.length_set]; exact il) (by simp [List.map_set])
        obtain ⟨m1, p1⟩ := st4.mut (o := .lst ((W.set j W[i]).map V.int)) hR (kp57.trans (Kp.same sT)) (st7.same sT)
        obtain ⟨m2, p2⟩ := st4.mut (o := .lst (((W.set j W[i]).set i W[j]).map V.int)) hR p1 m1
        refine ⟨_, _, rfl, _, rfl, _, rfl, R, j, rfl, rfl, _, e8, _, sl1, ?_⟩
        refine ⟨_, _, rfl, _, rfl, _, rfl, R, i, rfl, rfl, _, upd_same, _, sl2, rfl, ?_⟩
        exact ⟨_, _, _, rfl, upd_same, wv_set (wv_set wv wi) wj, p2, m2⟩
      · exact ⟨W, _, _, rfl, e7, wv, kp57, st7⟩
  · rintro σ H8 ⟨w', x5, x6, rfl, e8, wv8, kp8, st8⟩
    refine ⟨_, rfl, R, _, rfl, .inl ⟨.of e8, fun p hp frp => ?_⟩⟩
    have kp : K.lookup p = none := frp p (by rw [upd_same]; simp)
    have sp := Same.new hp (.tup (w'.map V.int))
    exact k p w' _ ((ob_none kp).trans upd_same) wv8 (kp4.trans (kp8.trans (Kp.same sp))) (st8.same sp)

end
end My

namespace My
open PySem PySem.Spec PyProof.Rows L2
section
variable {P : Program} {w : World} {K : PySem.W.Frag} {mg : Str → Option Value} {base : Heap}
def Vd (K : PySem.W.Frag) (s : Addr) (H : Hp) (n : Nat) (v : V) : Prop := Shp K (fun a => a ≠ s) H n v
theorem Vd.same {s : Addr} {H H' : Hp} {n : Nat} {v : V} (h : Vd K s H n v) (e : Same H H') : Vd K s H' n v := Shp.same e h
theorem Vd.kp {s : Addr} {H H' : Hp} {n : Nat} {v : V} (h : Vd K s H n v) (e : Kp s H H') (st : Sto K H s) : Vd K s H' n v := Shp.kp e st (fun _ n => n) h
theorem Vd.wd {s a : Addr} {H : Hp} {w : List Int} {n : Nat} (h : Wd K H a w) (l : w.length ≤ 1000) : Vd K s H (n + 1) (.ref a) := Shp.tupsc h (by rw [List.length_map]; exact l) fun x hx => by
  obtain ⟨m, _, rfl⟩ := List.mem_map.mp hx
  rfl
/-- no word, data that the store is no part of -/
def Bw (K : PySem.W.Frag) (s : Addr) (H : Hp) (v : V) : Prop := Vd K s H 3 v ∧ SbW K (Fz s s) H v
theorem Bw.same {s : Addr} {H H' : Hp} {v : V} (h : Bw K s H v) (e : Same H H') : Bw K s H' v := ⟨h.1.same e, h.2.kx (Kx.same e)⟩
theorem Bw.kp {s : Addr} {H H' : Hp} {v : V} (h : Bw K s H v) (e : Kp s H H') (st : Sto K H s) : Bw K s H' v := ⟨h.1.kp e st, h.2.kx (Kx.kp (.inl rfl) e)⟩
def spBWd (K : PySem.W.Frag) : Sp := fun vs H Q _ => ∃ (s : Addr), vs = [.ref s] ∧ Sto K H s ∧ ∀ v H', Bw K s H' v → Kp s H H' → Sto K H' s → Q v H'
abbrev sBWd : Stmt := topS 65
theorem scBWd : FnScope ["_law_store_here", "_law_word_here", "_law_spot", "_law_item", "_law_spoilt"] ["_law_store_here"] (defScope sBWd) := ⟨rfl, rfl, rfl, by decide +kernel, rfl, by decide +kernel, by decide +kernel⟩
theorem k_BWd (T : Bt K mg) (D : Dfn K mg "_law_bad_word" sBWd ["_law_store_here"]) (d__law_word : Kn P w K mg base 5 "_law_word" ["_law_store_here"] (spDWd K)) (d__law_take : Kn P w K mg base 2 "_law_take" ["_law_store_here", "_law_many"] (spTake K)) (d__law_pick : Kn P w K mg base 3 "_law_pick" ["_law_store_here", "_law_row"] (spPick K)) : Kn P w K mg base 6 "_law_bad_word" ["_law_store_here"] (spBWd K) := by
  refine Kn.mk' D scBWd (fun vs H Q E h => ?_) (fun f cdv A outer s H vs Q E hr h => ?_)
  · obtain ⟨s, rfl, _⟩ := h
    rfl
  obtain ⟨s, rfl, hS, k⟩ := h
  refine ⟨_, (pss_cons (ps_set (i := 1) scBWd.nd rfl (.inl rfl) (pe_kn d__law_word hr (by rfl) (pa_cons (pv 0) pa_nil)))
      (pss_cons (ps_set (i := 2) scBWd.nd rfl (.inl rfl) (pe_kn d__law_take hr (by rfl) (pa_cons (pv 0) (pa_cons (pe_callB call_lenA (by rfl) T.b_len PySem.boot_len (pa_cons (pv 1) pa_nil)) pa_nil))))
      (pss_cons (ps_set (i := 3) scBWd.nd rfl (.inl rfl) (pe_kn d__law_pick hr (by rfl) (pa_cons (pv 0) (pa_cons (pe_ls (pa_cons pe_int (pa_cons (pe_un un_neg pe_int) (pa_cons pe_bl (pa_cons pe_bl (pa_cons pe_non (pa_cons pe_str (pa_cons (pe_tp (pa_cons pe_int pa_nil)) pa_nil)))))))) pa_nil))))
      (pss_cons (ps_set (i := 4) scBWd.nd rfl (.inl rfl) (pe_fr (pe_op op_catA (pe_fr (pe_op op_catA (pe_fr (pe_slice sl_tupA (pv 1) po_none (po_some (pv 2)))) (pe_tp (pa_cons (pv 3) pa_nil)))) (pe_fr (pe_slice sl_tupA (pv 1) (po_some (pe_op op_add (pv 2) pe_int)) po_none)))))
      (pss_one (ps_ret (pe_kn d__law_pick hr (by rfl) (pa_cons (pv 0) (pa_cons (pe_ls (pa_cons (pv 4) (pa_cons (pv 4) (pa_cons (pv 4) (pa_cons (pe_tp pa_nil) (pa_cons (pe_fr (pe_callTy call_tuple_of (by rfl) T.b_tuple (by decide +kernel) (pa_cons (pe_fr (pe_op op_rep (pe_ls (pa_cons pe_int pa_nil)) pe_int)) pa_nil))) (pa_cons (pe_fr (pe_callTy call_list_of (by rfl) T.b_list (by decide +kernel) (pa_cons (pv 1) pa_nil))) (pa_cons pe_non (pa_cons pe_int (pa_cons pe_str (pa_cons pe_dn pa_nil))))))))))) pa_nil))))))))), ?_⟩
  simp only [cx_K]
  refine ⟨_, rfl, s, rfl, hS, fun wa W H1 hw wv kp1 st1 => ?_⟩
  have n1 := wv.2.1
  have n2 := wv.2.2
  have hl : (W.map V.int).length = W.length := List.length_map _
  refine ⟨_, rfl, _, rfl, wa, rfl, _, itsO_of hw, s, _, rfl, st1, by rw [hl]; omega, fun r H2 r0 r1 kp2 st2 => ?_⟩
  rw [hl] at r1
  have hw := ob_kp2 kp2 (tup_ne st1 hw) hw
  obtain ⟨j, rfl⟩ := Int.eq_ofNat_of_zero_le r0
  have jl : j < W.length := by omega
  refine ⟨_, rfl, _, rfl, sz2 (by show 1 ≤ 100; decide), fun p hp kq => ⟨sz2 (by show 7 ≤ 100; decide), fun l hl' kl => ?_⟩⟩
  have sT := Same.new hp (.tup [.int 1])
  have sL := Same.new hl' (.lst [.int 2, .int (-1), .bl true, .bl false, .non, .str "1", .ref p])
  have sA := sT.trans sL
  have stA := st2.same sA
  have all : ∀ v ∈ ([.int 2, .int (-1), .bl true, .bl false, .non, .str "1", .ref p] : List V), Vd K s (upd (upd H2 p (.tup [.int 1])) l (.lst [.int 2, .int (-1), .bl true, .bl false, .non, .str "1", .ref p])) 2 v := fun v hv => by
    simp only [List.mem_cons, List.not_mem_nil, or_false] at hv
    rcases hv with rfl | rfl | rfl | rfl | rfl | rfl | rfl
    · exact Shp.sc rfl
    · exact Shp.sc rfl
    · exact Shp.sc rfl
    · exact Shp.sc rfl
    · exact Shp.sc rfl
    · exact Shp.sc rfl
    · exact Shp.tupsc (ob_same sL (ob_new kq)) (by decide) (by decide)
  refine ⟨s, l, [.int 2, .int (-1), .bl true, .bl false, .non, .str "1", .ref p], rfl, stA, upd_same, ((st2.same sT).ne hl').symm, by show 0 < 7; decide, by show 7 < 1000; decide, fun it H3 hv kpn st3 => ?_⟩
  have vi := (all it hv).kp kpn stA
  have wi : inB 0 1 it = false := by
    simp only [List.mem_cons, List.not_mem_nil, or_false] at hv
    rcases hv with rfl | rfl | rfl | rfl | rfl | rfl | rfl <;> rfl
  have kp3 := (Kp.same sA).trans kpn
  have hw := ob_kp2 kp3 (tup_ne st2 hw) hw
  have kpA := kp1.trans (kp2.trans kp3)
  clear all hv kpn stA sA sL sT hp kq hl' kl l p kp1 kp2 kp3 st1 st2
  refine ⟨_, rfl, ?_⟩
  simp only [tNoPart]
  refine ⟨_, rfl, _, rfl, ?_⟩
  change rSlA K (.ref wa) none (some (j : Int)) H3 _
  refine sl_get hw fun p1 J1 t1 o1 => ?_
  rw [cut_to _ j (by rw [List.length_map]; omega)] at o1
  refine ⟨_, rfl, sz2 (by show 1 ≤ 100; decide), fun p2 hp2 k2 => ?_⟩
  have t2 := Same.new hp2 (.tup [it])
  have o2 := ob_new (K := K) (H := J1) (o := .tup [it]) k2
  refine cat_get (ob_same t2 o1) o2 (by simp only [List.length_take, List.length_map, List.length_cons, List.length_nil]; omega) fun p3 J3 t3 o3 => ?_
  have t13 := t1.trans (t2.trans t3)
  refine ⟨_, rfl, ?_⟩
  simp only [tNoPart]
  refine ⟨_, rfl, _, _, rfl, rfl, _, rfl, ?_⟩
  change rSlA K (.ref wa) (some ((j + 1 : Nat) : Int)) none J3 _
  refine sl_get (ob_same t13 hw) fun p4 J4 t4 o4 => ?_
  rw [cut_from _ (j + 1) (by rw [List.length_map]; omega)] at o4
  refine cat_get (ob_same t4 o3) o4 (by simp only [List.length_append, List.length_drop, List.length_take, List.length_map, List.length_cons, List.length_nil]; omega) fun p5 J5 t5 o5 => ?_
  have tA := t13.trans (t4.trans t5)
  have st5 := st3.same tA
  have hw := ob_same tA hw
  have u0 : Vd K s J5 3 (.ref p5) := Shp.sq (.inl o5) (by simp only [List.length_append, List.length_drop, List.length_take, List.length_map, List.length_cons, List.length_nil]; omega) fun x hx => by
    rcases List.mem_append.mp hx with z | z
    · rcases List.mem_append.mp z with z | z
      · obtain ⟨m, _, rfl⟩ := List.mem_map.mp (List.mem_of_mem_take z)
        exact Shp.sc rfl
      · rw [List.mem_singleton] at z
        subst z
        exact vi.same tA
    · obtain ⟨m, _, rfl⟩ := List.mem_map.mp (List.mem_of_mem_drop z)
      exact Shp.sc rfl
  have ii : SbI K (Fz s s) 0 1 J5 it := sbI_shp st5 (vi.same tA) wi
  have w0 : Bw K s J5 (.ref p5) := ⟨u0, sbW_item (us := W.take j) (ws := W.drop (j + 1)) (fun z => tup_ne st5 o5 (z.elim id id)) (by rw [o5, List.map_take, List.map_drop]) ii (by rw [List.length_take, List.length_drop]; omega)⟩
  have kpB := kpA.trans (Kp.same tA)
  clear t13 t1 t2 t3 t4 t5 o1 o2 o3 o4 o5 hp2 k2
  refine ⟨_, rfl, _, rfl, _, rfl, _, rfl, sz2 (by show 0 ≤ 100; decide), fun q1 hq1 kq1 => ?_⟩
  have t1 := Same.new hq1 (.tup [])
  have hw := ob_same t1 hw
  have w0 := w0.same t1
  have ox := ob_new (K := K) (H := J5) (o := .tup []) kq1
  have w1 : Bw K s (upd J5 q1 (.tup [])) (.ref q1) := ⟨Shp.tupsc ox (by decide) (by decide), sbW_len (fun z => tup_ne (st5.same t1) ox (z.elim id id)) ox (.inl rfl) (by decide)⟩
  have st6 := st5.same t1
  have kpB := kpB.trans (Kp.same t1)
  generalize upd J5 q1 (.tup []) = J6 at hw w0 w1 st6 kpB ⊢
  clear t1 hq1 kq1 ox
  refine ⟨sz2 (by show 1 ≤ 100; decide), fun l1 hl1 kl1 => ⟨l1, 101, [.int 0], rfl, rfl, upd_same, by decide, by decide, by rw [sizeLine_eq]; decide, fun l2 hl2 _ => ⟨l2, _, rfl, .inl ⟨.of upd_same, fun l3 hl3 fr3 => ?_⟩⟩⟩⟩
  have k3 : K.lookup l3 = none := fr3 l3 (by rw [upd_same]; simp)
  have t1 := (Same.new hl1 (.lst [.int 0])).trans ((Same.new hl2 (.lst (List.replicate (101 : Int).toNat ([.int 0] : List V)).flatten)).trans (Same.new hl3 (.tup (List.replicate (101 : Int).toNat ([.int 0] : List V)).flatten)))
  have hw := ob_same t1 hw
  have w0 := w0.same t1
  have w1 := w1.same t1
  have ox := ob_new (K := K) (H := upd (upd J6 l1 (.lst [.int 0])) l2 (.lst (List.replicate (101 : Int).toNat ([.int 0] : List V)).flatten)) (o := .tup (List.replicate (101 : Int).toNat ([.int 0] : List V)).flatten) k3
  have w2 : Bw K s _ (.ref l3) := ⟨Shp.tupsc ox (by decide) (by decide), sbW_len (fun z => tup_ne (st6.same t1) ox (z.elim id id)) ox (.inr (by decide)) (by decide)⟩
  have st7 := st6.same t1
  have kpB := kpB.trans (Kp.same t1)
  generalize upd (upd (upd J6 l1 (.lst [.int 0])) l2 (.lst (List.replicate (101 : Int).toNat ([.int 0] : List V)).flatten)) l3 (.tup (List.replicate (101 : Int).toNat ([.int 0] : List V)).flatten) = J7 at hw w0 w1 w2 st7 kpB ⊢
  clear t1 hl1 hl2 hl3 kl1 k3 fr3 ox
  refine ⟨_, rfl, wa, _, rfl, .inr (ob_tup hw), fun l4 hl4 fr4 => ?_⟩
  have k4 : K.lookup l4 = none := fr4 l4 (by rw [upd_same]; simp)
  have t1 := Same.new hl4 (.lst (W.map V.int))
  have n4 := st7.ne hl4
  have hw := ob_same t1 hw
  have w0 := w0.same t1
  have w1 := w1.same t1
  have w2 := w2.same t1
  have ox := ob_new (K := K) (H := J7) (o := .lst (W.map V.int)) k4
  have u3 : Vd K s _ 3 (.ref l4) := Shp.sq (.inr ⟨n4, ox⟩) (by rw [hl]; omega) fun x hx => by
    obtain ⟨m, _, rfl⟩ := List.mem_map.mp hx
    exact Shp.sc rfl
  have w3 : Bw K s _ (.ref l4) := ⟨u3, sbW_lst (fun z => n4 (z.elim id id)) ox⟩
  have st8 := st7.same t1
  have kpB := kpB.trans (Kp.same t1)
  generalize upd J7 l4 (.lst (W.map V.int)) = J8 at hw w0 w1 w2 w3 st8 kpB ⊢
  clear t1 hl4 k4 fr4 n4 ox
  refine fun d hd kd => ⟨sz2 (by show 10 ≤ 100; decide), fun l hl' kl => ?_⟩
  have t1 := Same.new hd (.dK [])
  have t2 := Same.new hl' (.lst [.ref p5, .ref p5, .ref p5, .ref q1, .ref l3, .ref l4, .non, .int 1, .str "01", .ref d])
  have tt := t1.trans t2
  have st9 := st8.same tt
  have all : ∀ v ∈ ([.ref p5, .ref p5, .ref p5, .ref q1, .ref l3, .ref l4, .non, .int 1, .str "01", .ref d] : List V), Bw K s (upd (upd J8 d (.dK [])) l (.lst [.ref p5, .ref p5, .ref p5, .ref q1, .ref l3, .ref l4, .non, .int 1, .str "01", .ref d])) v := fun v hv => by
    simp only [List.mem_cons, List.not_mem_nil, or_false] at hv
    rcases hv with rfl | rfl | rfl | rfl | rfl | rfl | rfl | rfl | rfl | rfl
    · exact w0.same tt
    · exact w0.same tt
    · exact w0.same tt
    · exact w1.same tt
    · exact w2.same tt
    · exact w3.same tt
    · exact ⟨Shp.sc rfl, sbW_ty (t := "NoneType") (fun _ _ => rfl) rfl⟩
    · exact ⟨Shp.sc rfl, sbW_ty (t := "int") (fun _ _ => rfl) rfl⟩
    · exact ⟨Shp.sc rfl, sbW_ty (t := "str") (fun _ _ => rfl) rfl⟩
    · exact ⟨Shp.dk (st8.ne hd) (ob_same t2 (ob_new kd)) (by decide) List.nodup_nil (fun p hp => nomatch hp), sbW_dK (fun z => st8.ne hd (z.elim id id)) (ob_same t2 (ob_new kd))⟩
  refine ⟨s, l, [.ref p5, .ref p5, .ref p5, .ref q1, .ref l3, .ref l4, .non, .int 1, .str "01", .ref d], rfl, st9, upd_same, ((st8.same t1).ne hl').symm, by show 0 < 10; decide, by show 10 < 1000; decide, fun v H' hv kpn st' => ?_⟩
  exact k v H' ((all v hv).kp kpn st9) (kpB.trans ((Kp.same tt).trans kpn)) st'

theorem shp_tup {N : Addr → Prop} {p : Addr} {H : Hp} {xs : List V} (o : ob K H p = some (.tup xs)) (_ : N p) (l : xs.length ≤ 1000) (h : ∀ x ∈ xs, scv x = true) : Shp K N H 2 (.ref p) := Shp.sq (.inl o) l fun x hx => Shp.sc (h x hx)
theorem shp_lst {N : Addr → Prop} {p : Addr} {H : Hp} {xs : List V} (o : ob K H p = some (.lst xs)) (n : N p) (l : xs.length ≤ 1000) (h : ∀ x ∈ xs, scv x = true) : Shp K N H 2 (.ref p) := Shp.sq (.inr ⟨n, o⟩) l fun x hx => Shp.sc (h x hx)
theorem shp_dn {N : Addr → Prop} {p : Addr} {H : Hp} (o : ob K H p = some (.dK [])) (n : N p) : Shp K N H 2 (.ref p) := Shp.dk n o (Nat.zero_le _) List.nodup_nil fun p hp => nomatch hp
theorem shp_sc {N : Addr → Prop} {H : Hp} {v : V} (h : scv v = true) : Shp K N H 2 v := Shp.sc h
theorem sc_ints {ns : List Int} : ∀ x ∈ ns.map V.int, scv x = true := fun x hx => by
  obtain ⟨u, _, rfl⟩ := List.mem_map.mp hx
  rfl
def spBW (K : PySem.W.Frag) : Sp := fun vs H Q _ => ∃ s : Addr, vs = [.ref s] ∧ Sto K H s ∧ ∀ v H', (tyN K H' v).isSome → wholeV v = false → Shp K (fun a => H a = none) H' 2 v → Kp s H H' → Sto K H' s → Q v H'
abbrev sBW : Stmt := topS 60
theorem scBW : FnScope ["_law_store_here"] ["_law_store_here"] (defScope sBW) := ⟨rfl, rfl, rfl, by decide +kernel, rfl, by decide +kernel, by decide +kernel⟩
theorem k_BW (T : Bt K mg) (D : Dfn K mg "_law_bad_whole" sBW ["_law_store_here"]) (d__law_pick : Kn P w K mg base 3 "_law_pick" ["_law_store_here", "_law_row"] (spPick K)) : Kn P w K mg base 4 "_law_bad_whole" ["_law_store_here"] (spBW K) := by
  refine Kn.mk' D scBW (fun vs H Q E h => ?_) (fun f cdv A outer s H vs Q E hr h => ?_)
  · obtain ⟨s, rfl, _⟩ := h
    rfl
  obtain ⟨s, rfl, hS, k⟩ := h
  refine ⟨_, (pss_one (ps_ret (pe_kn d__law_pick hr (by rfl) (pa_cons (pv 0) (pa_cons (pe_ls (pa_cons pe_non (pa_cons pe_bl (pa_cons pe_bl (pa_cons pe_str (pa_cons pe_str (pa_cons (pe_tp (pa_cons pe_int (pa_cons pe_int pa_nil))) (pa_cons (pe_tp (pa_cons pe_int pa_nil)) (pa_cons (pe_ls (pa_cons pe_int pa_nil)) (pa_cons pe_dn pa_nil)))))))))) pa_nil))))), ?_⟩
  refine ⟨_, rfl, sz2 (by show 2 ≤ 100; decide), fun p1 hp1 kp1 => ?_⟩
  have n1 : H p1 = none := hp1
  have s1 := Same.new hp1 (.tup [.int 1, .int 1])
  have o1 := ob_new (H := H) (o := .tup [.int 1, .int 1]) kp1
  have st1 := hS.same s1
  generalize upd H p1 (.tup [.int 1, .int 1]) = H1 at s1 o1 st1 ⊢
  refine ⟨sz2 (by show 1 ≤ 100; decide), fun p2 hp2 kp2 => ?_⟩
  have n2 : H p2 = none := s1.free hp2
  have s2 := Same.new hp2 (.tup [.int 1])
  have o2 := ob_new (H := H1) (o := .tup [.int 1]) kp2
  have st2 := st1.same s2
  have o1 := ob_same s2 o1
  generalize upd H1 p2 (.tup [.int 1]) = H2 at s2 o1 o2 st2 ⊢
  refine ⟨sz2 (by show 1 ≤ 100; decide), fun p3 hp3 kp3 => ?_⟩
  have n3 : H p3 = none := (s1.trans s2).free hp3
  have s3 := Same.new hp3 (.lst [.int 1])
  have o3 := ob_new (H := H2) (o := .lst [.int 1]) kp3
  have st3 := st2.same s3
  have o1 := ob_same s3 o1
  have o2 := ob_same s3 o2
  generalize upd H2 p3 (.lst [.int 1]) = H3 at s3 o1 o2 o3 st3 ⊢
  refine fun p4 hp4 kp4 => ?_
  have n4 : H p4 = none := (s1.trans (s2.trans s3)).free hp4
  have s4 := Same.new hp4 (.dK [])
  have o4 := ob_new (H := H3) (o := .dK []) kp4
  have st4 := st3.same s4
  have o1 := ob_same s4 o1
  have o2 := ob_same s4 o2
  have o3 := ob_same s4 o3
  generalize upd H3 p4 (.dK []) = H4 at s4 o1 o2 o3 o4 st4 ⊢
  refine ⟨sz2 (by show 9 ≤ 100; decide), fun p5 hp5 kp5 => ?_⟩
  have s5 := Same.new hp5 (.lst [.non, .bl true, .bl false, .str "1", .str "", .ref p1, .ref p2, .ref p3, .ref p4])
  have st5 := st4.same s5
  have sA := s1.trans (s2.trans (s3.trans (s4.trans s5)))
  refine ⟨s, p5, _, rfl, st5, upd_same, Ne.symm (st4.ne hp5), by show 0 < 9; decide, by show 9 < 1000; decide, fun v H6 hv kp6 st6 => ?_⟩
  have kpA := (Kp.same sA).trans kp6
  have fin : ∀ (p : Addr) (z : HO), ob K H4 p = some z → H p = none → (tyO (some z)).isSome → Shp K (fun a => H a = none) H4 2 (.ref p) → Q (.ref p) H6 := fun p z o n ty sh => by
    have o6 := ob_kp2 kp6 (hS.ne0 n) (ob_same s5 o)
    exact k (.ref p) H6 (by rw [tyN_ref, o6]; exact ty) rfl ((sh.same s5).kp kp6 st5 fun a ha => hS.ne0 ha) kpA st6
  simp only [List.mem_cons, List.not_mem_nil, or_false] at hv
  rcases hv with rfl | rfl | rfl | rfl | rfl | rfl | rfl | rfl | rfl
  · exact k _ H6 rfl rfl (shp_sc rfl) kpA st6
  · exact k _ H6 rfl rfl (shp_sc rfl) kpA st6
  · exact k _ H6 rfl rfl (shp_sc rfl) kpA st6
  · exact k _ H6 rfl rfl (shp_sc rfl) kpA st6
  · exact k _ H6 rfl rfl (shp_sc rfl) kpA st6
  · exact fin p1 _ o1 n1 rfl (shp_tup o1 n1 (by decide) (fun x hx => by simp only [List.mem_cons, List.not_mem_nil, or_false] at hx; rcases hx with rfl | rfl <;> rfl))
  · exact fin p2 _ o2 n2 rfl (shp_tup o2 n2 (by decide) (fun x hx => by simp only [List.mem_cons, List.not_mem_nil, or_false] at hx; rw [hx]; rfl))
  · exact fin p3 _ o3 n3 rfl (shp_lst o3 n3 (by decide) (fun x hx => by simp only [List.mem_cons, List.not_mem_nil, or_false] at hx; rw [hx]; rfl))
  · exact fin p4 _ o4 n4 rfl (shp_dn o4 n4)

theorem inB_out {a b u : Int} (h : u < a ∨ b < u) : inB a b (.int u) = false := by
  show (decide (a ≤ u) && decide (u ≤ b)) = false
  rcases h with h | h
  · rw [decide_eq_false (by omega)]
    rfl
  · rw [decide_eq_false (show ¬ u ≤ b by omega), Bool.and_false]
/-- a value that is no integer from lo to hi -/
def spBy (K : PySem.W.Frag) : Sp := fun vs H Q _ => ∃ (s : Addr) (lo hi : Int), vs = [.ref s, .int lo, .int hi] ∧ Sto K H s ∧ 0 ≤ lo ∧ lo ≤ hi ∧ 1 ≤ hi ∧ hi ≤ 100 ∧ ∀ v H', SbI K (Fz s s) lo hi H' v → Kp s H H' → Sto K H' s → Q v H'
abbrev sBy : Stmt := topS 61
theorem scBy : FnScope ["_law_store_here", "_law_low", "_law_high"] ["_law_store_here", "_law_low", "_law_high"] (defScope sBy) := ⟨rfl, rfl, rfl, by decide +kernel, rfl, by decide +kernel, by decide +kernel⟩
theorem k_By (T : Bt K mg) (D : Dfn K mg "_law_beyond" sBy ["_law_store_here", "_law_low", "_law_high"]) (d__law_take : Kn P w K mg base 2 "_law_take" ["_law_store_here", "_law_many"] (spTake K)) (d__law_pick : Kn P w K mg base 3 "_law_pick" ["_law_store_here", "_law_row"] (spPick K)) (d__law_bad_whole : Kn P w K mg base 4 "_law_bad_whole" ["_law_store_here"] (spBW K)) : Kn P w K mg base 5 "_law_beyond" ["_law_store_here", "_law_low", "_law_high"] (spBy K) := by
  refine Kn.mk' D scBy (fun vs H Q E h => ?_) (fun f cdv A outer s H vs Q E hr h => ?_)
  · obtain ⟨s, lo, hi, rfl, _⟩ := h
    rfl
  obtain ⟨s, lo, hi, rfl, hS, h0, h1, h2, h3, k⟩ := h
  refine ⟨_, (pss_cons (ps_if (pt_cmpR op_eq (pe_kn d__law_take hr (by rfl) (pa_cons (pv 0) (pa_cons pe_int pa_nil))) pe_int (nomark _)) (pss_one (ps_ret (pe_kn d__law_bad_whole hr (by rfl) (pa_cons (pv 0) pa_nil)))) pss_nil)
      (pss_one (ps_ret (pe_kn d__law_pick hr (by rfl) (pa_cons (pv 0) (pa_cons (pe_ls (pa_cons (pe_op op_sub (pv 1) pe_int) (pa_cons (pe_op op_add (pv 2) pe_int) (pa_cons (pe_op op_sub (pe_un un_neg pe_int) (pv 2)) (pa_cons (pe_op op_add (pe_op op_mul pe_int (pv 2)) pe_int) (pa_cons (pe_un un_neg (pe_op op_pow pe_int pe_int)) (pa_cons (pe_op op_pow pe_int pe_int) pa_nil))))))) pa_nil)))))), ?_⟩
  have c39 : CPow 10 39 := by unfold CPow; decide
  refine ⟨_, rfl, s, 3, rfl, hS, by omega, fun i H1 i0 i1 kp1 st1 => ⟨rfl, _, rfl, ite2 (fun h => ?_) (fun h => ?_)⟩⟩
  · refine ⟨_, rfl, s, rfl, st1, fun v H2 ty w sh kp2 st2 => ?_⟩
    exact k v H2 (sbI_shp st2 (Shp.weak (fun a ha => st1.ne ha) sh) (inB_no w)) (kp1.trans kp2) st2
  refine ⟨_, rfl, _, rfl, _, _, rfl, rfl, _, rfl, _, _, rfl, rfl, _, rfl, _, rfl, _, _, rfl, rfl, _, rfl, _, _, rfl, rfl, by unfold CMul; omega, _, _, rfl, rfl, _, _, rfl, rfl, c39, _, rfl, _, _, rfl, rfl, c39, sz2 (by show 6 ≤ 100; decide), fun p hp kp => ?_⟩
  have s2 := Same.new hp (.lst [V.int (lo - 1), .int (hi + 1), .int (-1 - hi), .int (2 * hi + 1), .int (-(10 ^ (39 : Int).toNat)), .int (10 ^ (39 : Int).toNat)])
  refine ⟨s, p, _, rfl, st1.same s2, upd_same, Ne.symm (st1.ne hp), by show 0 < 6; decide, by show 6 < 1000; decide, fun v H3 hv kp3 st3 => ?_⟩
  have kpA := (kp1.trans (Kp.same s2)).trans kp3
  have e39 : (10 : Int) ^ (39 : Int).toNat = 1000000000000000000000000000000000000000 := by decide
  have go : ∀ u : Int, (u < lo ∨ hi < u) → SbI K (Fz s s) lo hi H3 (.int u) := fun u h => sbI_sc (t := "int") (fun _ => rfl) (inB_out h)
  simp only [List.mem_cons, List.not_mem_nil, or_false] at hv
  rcases hv with rfl | rfl | rfl | rfl | rfl | rfl
  · exact k _ H3 (go _ (.inl (by omega))) kpA st3
  · exact k _ H3 (go _ (.inr (by omega))) kpA st3
  · exact k _ H3 (go _ (.inl (by omega))) kpA st3
  · exact k _ H3 (go _ (.inr (by omega))) kpA st3
  · exact k _ H3 (go _ (.inl (by rw [e39]; omega))) kpA st3
  · exact k _ H3 (go _ (.inr (by rw [e39]; omega))) kpA st3

end
end My

namespace L2
open PySem PySem.Spec PyProof.Rows
/-- the tuple at a, each item in a new pair with its number, from k on -/
def Itet (K : PySem.W.Frag) (a : Addr) (k : Int) : It :=
  ⟨fun i H => ∃ (xs : List V) (x : V), SqT K H a xs ∧ xs[i]? = some x, fun i H v H' => ∃ T x, v = .ref T ∧ H T = none ∧ H' = upd H T (.tup [.int (k + (i : Int)), x]) ∧ ∀ xs, SqT K H a xs → xs[i]? = some x, fun i H => ∃ xs : List V, SqT K H a xs ∧ xs.length = i⟩
theorem turn_enumT {P : Program} {w : World} {K : PySem.W.Frag} {elts : List Expr} {kk : Nat} {tpos : Pos} (a e it : Addr) (k : Int) :
    Turn P w K (.Tuple elts kk tpos) (Itet K a k) [e, it] e (fun i h => (∃ old, IsEnum h e it (k + (i : Int)) old) ∧ h.IsTupleIter it a i ∧ e ≠ it ∧ a ≠ e ∧ a ≠ it) where
  mem := by simp
  obj := fun i h st b hb => by
    obtain ⟨⟨old, he⟩, ⟨o, ho, hc, hd⟩, _⟩ := st
    have e' : b = e ∨ b = it := by simpa using hb
    rcases e' with z | z
    · rw [z]; exact ⟨_, he, fun v q => nomatch q⟩
    · rw [z]; exact ⟨o, ho, fun v q => by rw [hd] at q; cases q⟩
  keep := fun i h h' st k => let ⟨⟨old, he⟩, hi, hne⟩ := st; ⟨⟨old, k e (by simp) _ he⟩, hi.at fun o q => k it (by simp) o q, hne⟩
  item := by
    intro X hP hw hK hc i pins s σ H E I hf st hg
    subst hP hw hK
    obtain ⟨⟨old, he⟩, hit, hne, na, nb⟩ := st
    obtain ⟨xs, x, hq, hx⟩ := hg
    obtain ⟨its, rv, p, hz⟩ := I.tuple hq
    obtain ⟨u, hu, ru⟩ := rv.get hx
    have hhd : X.A.handled = none := I.ok.hd hc
    have D := Draws.tuple (prog := X.prog) (w := X.w) (A := X.A.in1) hhd it a nb its.toArray
    have W := GoesN.enumFrom (prog := X.prog) (w := X.w) (A := X.A) (elts := elts) (x1 := kk) (pos := tpos) k D e hne (by simp [hne, Ne.symm na]) (by simp)
    have hlt : i < its.toArray.size := by
      have := (List.getElem?_eq_some_iff.mp hu).1
      simpa using this
    refine W.goes i s (fun u s2 => ∃ x H', Inv X pins σ H' s2 ∧ RelV x u ∧ (Itet X.K a k).yld i H x H' ∧ ((∃ old, IsEnum s2.heap e it (k + ((i + 1 : Nat) : Int)) old) ∧ s2.heap.IsTupleIter it a (i + 1) ∧ e ≠ it ∧ a ≠ e ∧ a ≠ it) ∧ ∀ b ∈ [e, it], H' b = none) E hlt ⟨⟨old, he⟩, hit, p⟩ fun v h' tk hY hst hk htk => ?_
    obtain ⟨T, t, x', rfl, hT, hx', hTT⟩ := hY
    obtain rfl : x' = u := by
      have : its.toArray[i]? = some u := by simpa using hu
      rw [this] at hx'
      exact (Option.some.inj hx').symm
    have new : ObjOk X.prog X.w (upd H T (.tup [.int (k + (i : Int)), x])) h' T (.tup [.int (k + (i : Int)), x]) :=
      ⟨by show 2 ≤ sizeLine; rw [sizeLine_eq]; decide, [.int (k + (i : Int)) t, x'], .cons ⟨_, rfl⟩ (.cons ru .nil), hTT⟩
    have I1 : Inv X pins σ (upd H T (.tup [.int (k + (i : Int)), x])) { s with heap := h', toks := tk } :=
      I.turnedNew (ch := [e, it]) hk hf hT new
    refine ⟨.ref T, _, I1, rfl, ⟨T, x, rfl, I.hok.fresh hT, rfl, fun ys hy => by rw [I.tuple_inj hy hq]; exact hx⟩, ⟨hst.1, hst.2.1, hne, na, nb⟩, fun b hb => ?_⟩
    have hb' : b < s.heap.objs.size := by
      have e' : b = e ∨ b = it := by simpa using hb
      rcases e' with z | z
      · rw [z]; exact Heap.lt_size he
      · rw [z]; obtain ⟨_, q, _⟩ := hit; exact Heap.lt_size q
    rw [upd_ne (Nat.ne_of_lt (Nat.lt_of_lt_of_le hb' hT))]
    exact (hf b hb).1
  done := by
    intro X hP hw hK hc i pins s σ H E I hf st hg
    subst hP hw hK
    obtain ⟨⟨old, he⟩, hit, hne, na, nb⟩ := st
    obtain ⟨xs, hq, hx⟩ := hg
    obtain ⟨its, rv, p, hz⟩ := I.tuple hq
    have hl := rv.length
    have hhd : X.A.handled = none := I.ok.hd hc
    have D := Draws.tuple (prog := X.prog) (w := X.w) (A := X.A.in1) hhd it a nb its.toArray
    have W := GoesN.enumFrom (prog := X.prog) (w := X.w) (A := X.A) (elts := elts) (x1 := kk) (pos := tpos) k D e hne (by simp [hne, Ne.symm na]) (by simp)
    have hn : its.toArray.size = i := by simp; omega
    rw [hn] at W
    refine W.stops s (fun s1 => Inv X pins σ H s1) E ⟨⟨old, he⟩, hit, p⟩ fun h' tk hk _ => ?_
    have g1 := hf e (by simp)
    have g2 := hf it (by simp)
    refine I.step (g' := s.gens) (d' := s.drawn) (ch := [e, it]) (fun b hb => ⟨(hf b hb).2.2.2.1, (hf b hb).2.1, (hf b hb).2.2.2.2.1, (hf b hb).2.2.2.2.2⟩) (fun b o _ _ hc e _ => hk b o hc e) (fun b o _ _ hc e _ => ⟨o.slots, hk b o hc e⟩) (fun _ _ _ _ n => n)
      (fun b o hc e => ⟨o, hk b o hc e⟩) (fun _ _ e => e) (fun _ _ _ e => e) (fun b ps e => ⟨#[], by rw [e]; simp⟩) (fun m hm => ?_) (fun b u eb => ?_) I.bare
    · obtain ⟨o, es, ep, ho, r⟩ := hm
      exact ⟨o, es, ep, hk _ o (fun z => (hf _ z).2.1 rfl) ho, r⟩
    · have nit : ∀ c v, H c = some v → c ∉ [e, it] := fun c v ec z => by
        have q := (hf c z).1
        rw [q] at ec
        cases ec
      refine (I.hok b u eb).stay (fun c v hc q => hk c v ?_ q) (fun _ q => q) fun _ _ q => q
      rcases hc with z | z
      · rw [z]; exact nit b u eb
      · exact nit c _ z
  self := fun A i s Q E st h => let ⟨⟨_, he⟩, _⟩ := st; wpAny_pyIter_enum he h
theorem callWith_typeKw {M : Model} {A : Around} {E : Value → Shared → Prop} {s : Shared} {env : Env} {pos : Pos} {T : String} {e : Expr} {rest : List Expr} {kws : List Keyword} {Q : Value → Shared → Prop}
    (h : wpAny M A (spliced (backTo pos (starEach (e :: rest) env))) (fun vs s₁ => wpAny M A (evalAll ((backToKw pos (keywordEach kws env)).map (·.2)))
      (fun kvs s₂ => wpAny M A (call (.type T) vs (((backToKw pos (keywordEach kws env)).filterMap (·.1)).zip kvs)) Q E s₂) E s₁) E s)
    (he : backTo pos (starEach (e :: rest) env) = (false, eval e env) :: backTo pos (starEach rest env) := by rfl)
    (hplain : (backTo pos (starEach (e :: rest) env)).any (·.1) = false := by rfl)
    (hall : (backToKw pos (keywordEach kws env)).all (·.1.isSome) = true := by rfl)
    (hkw : (backToKw pos (keywordEach kws env)).any (·.1.isNone) = false := by rfl) :
    wpAny M A (callWith pos (.type T) [] (backTo pos (starEach (e :: rest) env)) (backToKw pos (keywordEach kws env))) Q E s := by
  unfold callWith
  refine wpAny_bind (wpAny_holding (wpAny_mono (Q := fun a s₁ => wpAny M A (call (.type T) ([] ++ a.pos) a.kw) Q E s₁) ?_ (fun a s₁ h₁ => wpAny_bind (wpAny_standAt ?_)) fun _ _ x => x))
  · rw [he] at h ⊢
    exact evalArgs_kwB hall h
  · simp only [hplain, hkw, Bool.or_false]
    refine wpAny_bind (wpAny_pure ?_)
    exact wpAny_bind (wpAny_mono h₁ (fun r s₂ hr => wpAny_bind (wpAny_holding (wpAny_point (wpAny_pure hr)))) fun _ _ x => x)
def iEnumT (K : PySem.W.Frag) (ta tk : TA) : TI := fun σ H R => ta σ H fun vs H1 => ∃ a xs, vs = [.ref a] ∧ SqT K H1 a xs ∧ tk σ H1 fun ws H2 => ∃ k : Int, ws = [.int k] ∧ -(2 ^ 63) ≤ k ∧ k < 2 ^ 63 ∧ SqT K H2 a xs ∧ R (Itet K a k) H2
theorem pi_enumT {X : Cx} {e : Expr} {ta tk : TA} {p pos tpos : Pos} {elts : List Expr} {kk : Nat} {kws : List Keyword} (hg : Gl X "enumerate") (hm : X.mg "enumerate" = none) (ha : PA X [e] ta) (hkw : PK X kws tk)
    (hks : (backToKw pos (keywordEach kws X.env)).filterMap (·.1) = [Str.ofString "start"] := by rfl)
    (he : backTo pos (starEach [e] X.env) = [(false, eval e X.env)] := by rfl) (hpl : (backTo pos (starEach [e] X.env)).any (·.1) = false := by rfl)
    (hall : (backToKw pos (keywordEach kws X.env)).all (·.1.isSome) = true := by rfl) (hkn : (backToKw pos (keywordEach kws X.env)).any (·.1.isNone) = false := by rfl) :
    PI X (.Tuple elts kk tpos) (.Call (.Name "enumerate" p) [e] kws pos) (iEnumT X.K ta tk) := by
  refine ⟨fun pins s σ H R I h => ?_⟩
  refine wpAny_Call_Name_kw (ld_blt I hg hm boot_enumerate (callWith_typeKw (thn (ha.run pos pins s σ H _ I h) fun us s1 ⟨vs, H1, I1, r1, q1⟩ => ?_) he hpl hall hkn))
  obtain ⟨a, xs, ex, hq, q⟩ := q1
  subst ex
  refine thn (hkw.run pos pins s1 σ H1 _ I1 q) fun ws s2 ⟨zs, H2, I2, rz, q2⟩ => ?_
  obtain ⟨k, ez, k0, k1, hq2, q3⟩ := q2
  subst ez
  rw [hks]
  cases r1 with
  | cons r rr =>
    cases rr
    cases r
    cases rz with
    | cons r2 rr2 =>
      cases rr2
      obtain ⟨tk, rfl⟩ := r2
      obtain ⟨its, rv, p', hz⟩ := I2.tuple hq2
      refine enum_begins_start (begins_tuple a its.toArray) p' k0 k1 fun h' he hit hsz hk => wpAny_pyIter_enum he ?_
      have I3 : Inv X pins σ H2 { s2 with heap := h' } := I2.kept (t' := s2.toks) hk
      obtain ⟨oa, eoa, _⟩ := p'
      have la : a < s2.heap.objs.size := Heap.lt_size eoa
      refine ⟨s2.heap.objs.size + 1, [s2.heap.objs.size + 1, s2.heap.objs.size], _, _, H2, rfl, I3, turn_enumT a (s2.heap.objs.size + 1) s2.heap.objs.size k, ⟨⟨.none, by simpa using he⟩, ⟨_, hit, rfl, rfl⟩, Nat.succ_ne_self _, Nat.ne_of_lt (Nat.lt_succ_of_lt la), Nat.ne_of_lt la⟩, fun b hb => ?_, q3⟩
      have e' : b = s2.heap.objs.size + 1 ∨ b = s2.heap.objs.size := by simpa using hb
      have hle : s2.heap.objs.size ≤ b := by
        rcases e' with z | z
        · rw [z]; exact Nat.le_add_right _ _
        · rw [z]; exact Nat.le_refl _
      exact I2.fpOk hle (I2.hok.fresh hle)
theorem walk_enumT {K : PySem.W.Frag} {a : Addr} {xs : List V} {k : Int} : Walk (Itet K a k) xs.length (fun H => SqT K H a xs) (YPair (fun i => some (.int (k + (i : Int)))) (fun i => xs[i]?)) := by
  refine ⟨fun i _ hi q => ⟨xs, xs[i], q, by simp [hi]⟩, fun _ q => ⟨xs, q, rfl⟩, fun i H v H' _ q y => ?_⟩
  obtain ⟨T, x, h1, h2, h3, h4⟩ := y
  exact ⟨T, .int (k + (i : Int)), x, h1, h2, h3, rfl, h4 xs q⟩
end L2
namespace My
open PySem PySem.Spec PyProof.Rows L2
theorem forI_enumT {g : TG} {tb : TS} {D : Ends} {σ : L2.St} {H : Hp} {K : PySem.W.Frag} {a : Addr} {xs : List V} {k : Int} (Pv : Nat → L2.St → Hp → Prop) (h0 : Pv 0 σ H) (hl : ∀ i σ H, i ≤ xs.length → Pv i σ H → SqT K H a xs)
    (hs : ∀ (i : Nat) (x : V) (T : Addr) σ H, xs[i]? = some x → Pv i σ H → H T = none → g (.ref T) σ (upd H T (.tup [.int (k + (i : Int)), x])) fun σ2 H2 => tb { D with nx := Pv (i + 1), ct := Pv (i + 1), bk := D.nx } σ2 H2) (hd : ∀ σ H, Pv xs.length σ H → D.nx σ H) : ForI (Itet K a k) g tb D σ H :=
  for_it walk_enumT Pv h0 hl (fun i x σ H H' hi p y => by
    obtain ⟨T, u, z, rfl, hT, rfl, e1, e2⟩ := y
    cases e1
    exact hs i z T σ H e2 p hT) hd
end My

namespace L2
open PySem PySem.Spec PyProof.Rows
/-- no part of what is tracked -/
def Off (X : Cx) (pins : List (Addr × Obj)) (b : Addr) : Prop := b ≠ X.env.locals ∧ b ∉ X.fs ∧ (b ∈ X.ex ∨ X.s_0.heap.objs.size ≤ b) ∧ (∀ x c, X.env.cells.lookup x = some c → c ≠ b) ∧ ∀ p ∈ X.pn ++ pins, p.1 ≠ b
theorem Inv.off {X : Cx} {pins : List (Addr × Obj)} {σ : St} {H : Hp} {s : Shared} {b : Addr} {h' : Heap} {t' : Nat} (I : Inv X pins σ H s) (O : Off X pins b) (n : H b = none) (k : ∀ c o, c ≠ b → s.heap.get? c = some o → h'.get? c = some o) : Inv X pins σ H { s with heap := h', toks := t' } :=
  I.turned (it := b) k n O.1 O.2.2.1 O.2.2.2.1 O.2.2.2.2
def MinEnd (X : Cx) (pins : List (Addr × Obj)) (σ : St) (Q : VK) (r : Result) (s' : Shared) : Prop := match r with
  | .ok (.ret v) => EP X pins σ Q v s'
  | .ok _ => False
  | .error e => X.xe e s'
/-- the key of one item is asked -/
theorem ask_key {X : Cx} {pins : List (Addr × Obj)} {σ : St} {H : Hp} {s : Shared} {k : Nat} {f : Addr} {fd : FuncData} {ps : List Str} {sp : Sp} {y : V} {u : Value} {Q : VK} (F : FnOk X.prog X.w X.K X.mg X.base CX0 k f fd ps sp) (hr : Room k X.A.in1) (hb : Binds X.K fd ps []) (I : Inv X pins σ H s) (r : RelV y u) (h : sp [y] H Q E0) :
    wpAny (model X.prog X.w) X.A.in1 (call (.ref f) [u]) (EP X pins σ Q) (fun _ _ => False) s := by
  have hl : ([u] ++ []).length = ps.length := by
    have := F.len _ _ _ _ h
    simpa using this
  refine wpAny_call (codeAny_mono (F.run X.A.in1 X.stack s H ⟨[u], []⟩ [u] [y] Q E0 hr I.env0.in1 (hb s [u] I.kIn hl) (.cons r .nil) h) fun r s' hq => ?_)
  cases r with
  | error e => exact False.elim hq
  | ok fl =>
    cases fl with
    | ret u => exact I.after hq
    | next => exact False.elim hq
    | brk => exact False.elim hq
    | cont => exact False.elim hq
theorem sqL_same {K : PySem.W.Frag} {H H' : Hp} {a : Addr} {xs : List V} (e : ∀ b o, H b = some o → H' b = some o) (h : SqL K H a xs) : SqL K H' a xs := by
  rcases h with (h | ⟨o, h⟩) | h
  · exact .inl (.inl (e _ _ h))
  · exact .inl (.inr ⟨o, e _ _ h⟩)
  · exact .inr h

section
variable {X : Cx} {pins : List (Addr × Obj)} {σ : St} {H0 : Hp} {ys : List V} {f l st it : Addr} {fd : FuncData} {ps : List Str} {sp : Sp} {k : Nat} {Q : VK}
/-- what is pinned while the key is asked -/
theorem Inv.two {H : Hp} {s : Shared} {o1 o2 : Obj} (I : Inv X pins σ H s) (O1 : Off X pins st) (O2 : Off X pins it) (n1 : H st = none) (n2 : H it = none) (e1 : s.heap.get? st = some o1) (e2 : s.heap.get? it = some o2) (d1 : ∀ v, o1.data ≠ .cell v) (d2 : ∀ v, o2.data ≠ .cell v) :
    Inv X (pins ++ [(st, o1), (it, o2)]) σ H s := I.pins_of fun p hp => by
  rcases List.mem_append.mp hp with hp | hp
  · obtain ⟨a, b, c, d, e⟩ := I.pin p (List.mem_append_right _ hp)
    exact ⟨a, b, c, d, e⟩
  · rcases List.mem_cons.mp hp with rfl | hp
    · exact ⟨e1, n1, O1.1, O1.2.1, d1⟩
    · rw [List.mem_singleton.mp hp]
      exact ⟨e2, n2, O2.1, O2.2.1, d2⟩
theorem minF_loop (kf : Nat → Int) (hc : X.calm = true) (F : FnOk X.prog X.w X.K X.mg X.base CX0 k f fd ps sp) (hr : Room (k + 1) X.A) (hb : Binds X.K fd ps [])
    (key : ∀ (i : Nat) (y : V) (H' : Hp), ys[i]? = some y → (∀ b o, H0 b = some o → H' b = some o) → sp [y] H' (fun v H'' => v = .int (kf i) ∧ ∀ b o, H' b = some o → H'' b = some o) E0)
    (fin : ∀ (i : Nat) (y : V) (H' : Hp), ys[i]? = some y → (∀ j, j < ys.length → kf i ≤ kf j ∧ (j < i → kf i < kf j)) → (∀ b o, H0 b = some o → H' b = some o) → Q y H')
    (hl0 : SqL X.K H0 l ys) (nli : l ≠ it) (nsi : st ≠ it) (O1 : Off X pins st) (O2 : Off X pins it) :
    ∀ (r j i : Nat) (H : Hp) (s : Shared) (yb : V) (vb : Value) (tb : Tok) (c : Nat), ys.length - (j + 1) = r → j + 1 ≤ ys.length → Inv X pins σ H s → (∀ b o, H0 b = some o → H b = some o) → H st = none → H it = none →
      s.heap.get? st = some (seqObj "list" #[vb, .int (kf i) tb] c) → s.heap.IsListIter it l (j + 1) → ys[i]? = some yb → RelV yb vb → i ≤ j → (∀ j', j' ≤ j → kf i ≤ kf j' ∧ (j' < i → kf i < kf j')) →
      codeAny (model X.prog X.w) X.A (.builtin "min.loop" ⟨[.ref it, .ref f, .ref st], []⟩) (MinEnd X pins σ Q) s := by
  have hname : (toString "min" ++ toString ".loop" : String) = "min.loop" := by decide
  intro r
  induction r with
  | zero =>
    intro j i H s yb vb tb c hr0 hj I e0 n1 n2 es hit hyb rb hij hbest
    have hin : j + 1 = ys.length := by omega
    obtain ⟨its, rv, p, _⟩ := I.list (sqL_same e0 hl0)
    have W := Walks.list (prog := X.prog) (w := X.w) (A := X.A.in1) (I.ok.hd hc) it l nli its.toArray
    have hsz : its.toArray.size = ys.length := by have := rv.length; simp; omega
    refine codeAny_builtin PySem.F.entry_min_loop ?_
    rw [Around.under_plainId PySem.F.plain_min_loop _]
    show wpAny _ X.A.in1 (seqItems? (.ref st) >>= _) _ _ _
    refine wpAny_bind (wpAny_seqItems es rfl ?_)
    show wpAny _ X.A.in1 (tryCatch (pyNext (.ref it)) _ >>= _) _ _ _
    refine wpAny_bind (wpAny_tryCatch (W.done _ _ _ ⟨by rw [hsz, ← hin]; exact hit, p.isList⟩ fun h' tk' hk' => ?_))
    have I1 : Inv X pins σ H { s with heap := h', toks := tk' } := I.off O2 n2 fun b o nb e => hk' b o (by simpa using nb) e
    have es' := hk' st _ (by simpa using nsi) es
    have s1 := Heap.SameBut.update h' st (Obj.mapSeq fun _ => (#[] : Array Value))
    have I2 : Inv X pins σ H { s with heap := h'.update st (Obj.mapSeq fun _ => (#[] : Array Value)), toks := tk' } := I1.off O1 n1 fun b o nb e => (s1.2 b nb).trans e
    show wpAny _ X.A.in1 (updateSeq st (fun _ => #[]) >>= _) _ _ _
    refine wpAny_bind ?_
    refine wpAny_updateSeq es' rfl (wpAny_bind (wpAny_letGo (wpAny_pure ?_)))
    exact ⟨yb, H, I2, rb, fin i yb H hyb (fun j' hj' => hbest j' (by omega)) e0⟩
  | succ r ih =>
    intro j i H s yb vb tb c hr0 hj I e0 n1 n2 es hit hyb rb hij hbest
    have hlt : j + 1 < ys.length := by omega
    obtain ⟨its, rv, p, _⟩ := I.list (sqL_same e0 hl0)
    have W := Walks.list (prog := X.prog) (w := X.w) (A := X.A.in1) (I.ok.hd hc) it l nli its.toArray
    have hsz : its.toArray.size = ys.length := by have := rv.length; simp; omega
    obtain ⟨y, hy⟩ : ∃ y, ys[j + 1]? = some y := ⟨_, List.getElem?_eq_getElem hlt⟩
    obtain ⟨u, hu, ru⟩ := rv.get hy
    refine codeAny_builtin PySem.F.entry_min_loop ?_
    rw [Around.under_plainId PySem.F.plain_min_loop _]
    show wpAny _ X.A.in1 (seqItems? (.ref st) >>= _) _ _ _
    refine wpAny_bind (wpAny_seqItems es rfl ?_)
    show wpAny _ X.A.in1 (tryCatch (pyNext (.ref it)) _ >>= _) _ _ _
    refine wpAny_bind (wpAny_tryCatch (W.item (j + 1) _ _ _ (by rw [hsz]; exact hlt) ⟨hit, p.isList⟩ fun v h' tk' hP hst' hk' => ?_))
    have ev : v = u := by
      have : its.toArray[j + 1]? = some u := by simpa using hu
      rw [this] at hP
      exact (Option.some.inj hP).symm
    subst ev
    obtain ⟨oI', hoI', hoc, hod⟩ := id hst'.1
    have I1 : Inv X pins σ H { s with heap := h', toks := tk' } := I.off O2 n2 fun b o nb e => hk' b o (by simpa using nb) e
    have es' := hk' st _ (by simpa using nsi) es
    have Ip := I1.two O1 O2 n1 n2 es' hoI' (fun v z => by cases z) (fun v z => by rw [hod] at z; cases z)
    show wpAny _ X.A.in1 (tryCatch (holding [v] (call (.ref f) [v])) _ >>= _) _ _ _
    refine wpAny_bind (wpAny_tryCatch (wpAny_holding (wpAny_mono (ask_key F hr.in1 hb Ip ru (key (j + 1) y H hy e0)) (fun x s2 he => ?_) fun _ _ hF => hF.elim)))
    obtain ⟨z, H2, I2, rz, rfl, e2⟩ := he
    obtain ⟨t2, rfl⟩ := rz
    have P1 := I2.pin (st, seqObj "list" #[vb, .int (kf i) tb] c) (by simp)
    have P2 := I2.pin (it, oI') (by simp)
    have hit2 : s2.heap.IsListIter it l (j + 1 + 1) := ⟨oI', P2.1, hoc, hod⟩
    have I2' : Inv X pins σ H2 s2 := I2.pins_of fun p hp => I2.pin p (by
      rcases List.mem_append.mp (List.mem_append_right X.pn hp) with z | z
      · exact List.mem_append_left _ z
      · exact List.mem_append_right _ (List.mem_append_left _ z))
    have e02 : ∀ b o, H0 b = some o → H2 b = some o := fun b o e => e2 b o (e0 b o e)
    show wpAny _ X.A.in1 (tryCatch (holding [v, .int (kf (j + 1)) t2] (richCompare .Lt (.int (kf (j + 1)) t2) (.int (kf i) tb) >>= _)) _ >>= _) _ _ _
    refine wpAny_bind (wpAny_tryCatch (wpAny_holding (wpAny_bind (CmpOf.ints_lt (prog := X.prog) (w := X.w) (A := X.A.in1) (P := fun i v => ∃ t, v = .int (kf i) t) kf (fun i v h => h) (j + 1) i _ _ _ _ _ ⟨t2, rfl⟩ ⟨tb, rfl⟩ ?_))))
    refine wpAny_bind (wpAny_holding (wpAny_truthy_bool ?_))
    refine wpAny_bind (wpAny_letGo (wpAny_pure ?_))
    by_cases hb' : kf (j + 1) < kf i
    · have s1 := Heap.SameBut.update s2.heap st (Obj.mapSeq fun _ => #[v, .int (kf (j + 1)) t2])
      have es3 : (s2.heap.update st (Obj.mapSeq fun _ => #[v, .int (kf (j + 1)) t2])).get? st = some (seqObj "list" #[v, .int (kf (j + 1)) t2] _) := get?_update_seq P1.1 fun _ => #[v, .int (kf (j + 1)) t2]
      have I3 : Inv X pins σ H2 { s2 with heap := s2.heap.update st (Obj.mapSeq fun _ => #[v, .int (kf (j + 1)) t2]), toks := s2.toks } := I2'.off O1 P1.2.1 fun b o nb e => (s1.2 b nb).trans e
      simp only [hb', decide_true, if_true]
      refine wpAny_bind ?_
      refine wpAny_updateSeq P1.1 rfl (wpAny_bind (wpAny_letGo ?_))
      rw [hname]
      refine wpAny_pure ⟨plainId_quiet PySem.F.plain_min_loop _, ih (j + 1) (j + 1) H2 _ y v t2 _ (by omega) hlt I3 e02 P1.2.1 P2.2.1 es3 ⟨oI', (s1.2 it nsi.symm).trans P2.1, hoc, hod⟩ hy ru (Nat.le_refl _) fun j' hj' => ?_⟩
      by_cases e : j' = j + 1
      · subst e
        exact ⟨by omega, fun _ => by omega⟩
      · have hb1 := hbest j' (by omega)
        have hb2 := hb1.1
        exact ⟨by omega, fun _ => by omega⟩
    · simp only [hb', decide_false, Bool.false_eq_true, if_false]
      refine wpAny_bind (wpAny_letGo ?_)
      rw [hname]
      refine wpAny_pure ⟨plainId_quiet PySem.F.plain_min_loop _, ih (j + 1) i H2 _ yb vb tb c (by omega) hlt I2' e02 P1.2.1 P2.2.1 P1.1 hit2 hyb rb (by omega) fun j' hj' => ?_⟩
      by_cases e : j' = j + 1
      · subst e
        exact ⟨by omega, fun _ => by omega⟩
      · exact hbest j' (by omega)
end

/-- min(xs, key=f), f a def of the top -/
def rMinF (K : PySem.W.Frag) (f : Addr) (sp : Sp) : List V → List V → Hp → VK → Prop := fun xs zs H Q => ∃ (l : Addr) (ys : List V) (kf : Nat → Int), xs = [.ref l] ∧ zs = [.ref f] ∧ SqL K H l ys ∧ 0 < ys.length ∧
  (∀ (i : Nat) (y : V) (H' : Hp), ys[i]? = some y → (∀ b o, H b = some o → H' b = some o) → sp [y] H' (fun v H'' => v = .int (kf i) ∧ ∀ b o, H' b = some o → H'' b = some o) E0) ∧
  ∀ (i : Nat) (y : V) (H' : Hp), ys[i]? = some y → (∀ j, j < ys.length → kf i ≤ kf j ∧ (j < i → kf i < kf j)) → (∀ b o, H b = some o → H' b = some o) → Q y H'
theorem crk_minF {X : Cx} {f : Addr} {fd : FuncData} {ps : List Str} {sp : Sp} {k : Nat} (hc : X.calm = true) (F : FnOk X.prog X.w X.K X.mg X.base CX0 k f fd ps sp) (hr : Room (k + 1) X.A) (hb : Binds X.K fd ps []) : CallRK X (.builtin "min") [Str.ofString "key"] (rMinF X.K f sp) := by
  intro pins s σ H xs zs us ws Q I rx rz h
  obtain ⟨l, ys, kf, rfl, rfl, hl0, hne, key, fin⟩ := h
  rw [Vals.ref1 rx, Vals.ref1 rz]
  have hname : (toString "min" ++ toString ".loop" : String) = "min.loop" := by decide
  obtain ⟨its, rv, p, _⟩ := I.list hl0
  obtain ⟨ol, hol, _⟩ := id p.isList
  have hll : l < s.heap.objs.size := Heap.lt_size hol
  show wpAny _ X.A (call (.builtin "min") [.ref l] [(Str.ofString "key", .ref f)]) _ _ s
  refine kmk_tree PySem.F.kind_min PySem.F.plain_min PySem.F.entry_min (kmk_min_key _ _) ?_
  show wpAny _ X.A.in1 (Builtin.Builtins.bindParams "min" ["key", "default"] 0 ⟨[], [(Str.ofString "key", .ref f)]⟩ >>= _) _ _ s
  refine wpAny_bind (wpAny_of_eq (show Builtin.Builtins.bindParams "min" ["key", "default"] 0 ⟨[], [(Str.ofString "key", .ref f)]⟩ = pure [some (.ref f), none] from rfl) ?_)
  refine wpAny_bind (wpAny_pure ?_)
  refine wpAny_bind (wpAny_pyIter_list p.isList ?_)
  refine wpAny_bind (wpAny_newList ?_ (Nat.zero_le _))
  rw [hname]
  obtain ⟨it, hit0⟩ : ∃ it, it = s.heap.objs.size := ⟨_, rfl⟩
  obtain ⟨oit, hoit⟩ : ∃ o : Obj, o = { cls := .type "list_iterator", data := .fields #[.ref l, .int 0 0] } := ⟨_, rfl⟩
  rw [← hit0, ← hoit]
  have hS : (s.heap.push oit).objs.size = it + 1 := by rw [hit0]; exact Heap.size_push ..
  obtain ⟨st, hst0⟩ : ∃ st, st = (s.heap.push oit).objs.size := ⟨_, rfl⟩
  rw [← hst0]
  have est : st = it + 1 := hst0.trans hS
  have nli : l ≠ it := by rw [hit0]; exact Nat.ne_of_lt hll
  have nsi : st ≠ it := by rw [est]; exact Nat.succ_ne_self _
  have n2 : H it = none := I.hok.fresh (Nat.le_of_eq hit0.symm)
  have n1 : H st = none := I.hok.fresh (by rw [est, hit0]; exact Nat.le_succ _)
  have O2 : Off X pins it := (I.fpOk (Nat.le_of_eq hit0.symm) n2).2
  have O1 : Off X pins st := (I.fpOk (by rw [est, hit0]; exact Nat.le_succ _) n1).2
  refine wpAny_pure ⟨plainId_quiet PySem.F.plain_min_loop _, ?_⟩
  have gI : ((s.heap.push oit).push (seqObj "list" #[] 0)).get? it = some oit := Heap.get?_push_of_some _ (by rw [hit0]; exact Heap.get?_push_size _ (by rw [hoit]; rfl))
  have gS : ((s.heap.push oit).push (seqObj "list" #[] 0)).get? st = some (seqObj "list" #[] 0) := by rw [hst0]; exact Heap.get?_push_size _ rfl
  have I0 : Inv X pins σ H { s with heap := (s.heap.push oit).push (seqObj "list" #[] 0), toks := s.toks } := I.kept fun b u e => Heap.get?_push_of_some _ (Heap.get?_push_of_some _ e)
  have pl : ((s.heap.push oit).push (seqObj "list" #[] 0)).IsList l its.toArray := p.isList.at fun o e => Heap.get?_push_of_some _ (Heap.get?_push_of_some _ e)
  have W := Walks.list (prog := X.prog) (w := X.w) (A := X.A.in1) (I.ok.hd hc) it l nli its.toArray
  have hsz : its.toArray.size = ys.length := by have := rv.length; simp; omega
  obtain ⟨y, hy⟩ : ∃ y, ys[0]? = some y := ⟨_, List.getElem?_eq_getElem hne⟩
  obtain ⟨u, hu, ru⟩ := rv.get hy
  refine codeAny_builtin PySem.F.entry_min_loop ?_
  rw [Around.under_plainId PySem.F.plain_min_loop _]
  show wpAny _ X.A.in1 (seqItems? (.ref st) >>= _) _ _ _
  refine wpAny_bind (wpAny_seqItems gS rfl ?_)
  show wpAny _ X.A.in1 (tryCatch (pyNext (.ref it)) _ >>= _) _ _ _
  refine wpAny_bind (wpAny_tryCatch (W.item 0 _ _ _ (by rw [hsz]; exact hne) ⟨⟨_, gI, by rw [hoit], by rw [hoit]; rfl⟩, pl⟩ fun v h' tk' hP hst' hk' => ?_))
  have ev : v = u := by
    have : its.toArray[0]? = some u := by simpa using hu
    rw [this] at hP
    exact (Option.some.inj hP).symm
  subst ev
  obtain ⟨oI', hoI', hoc, hod⟩ := id hst'.1
  have I1 : Inv X pins σ H { s with heap := h', toks := tk' } := I0.off O2 n2 fun b o nb e => hk' b o (by simpa using nb) e
  have es' := hk' st _ (by simpa using nsi) gS
  have Ip := I1.two O1 O2 n1 n2 es' hoI' (fun v z => by cases z) (fun v z => by rw [hod] at z; cases z)
  show wpAny _ X.A.in1 (tryCatch (holding [v] (call (.ref f) [v])) _ >>= _) _ _ _
  refine wpAny_bind (wpAny_tryCatch (wpAny_holding (wpAny_mono (ask_key F hr.in1 hb Ip ru (key 0 y H hy (fun _ _ e => e))) (fun x s2 he => ?_) fun _ _ hF => hF.elim)))
  obtain ⟨z, H2, I2, rz2, rfl, e2⟩ := he
  obtain ⟨t2, rfl⟩ := rz2
  have P1 := I2.pin (st, seqObj "list" #[] 0) (by simp)
  have P2 := I2.pin (it, oI') (by simp)
  have I2' : Inv X pins σ H2 s2 := I2.pins_of fun p hp => I2.pin p (by
    rcases List.mem_append.mp (List.mem_append_right X.pn hp) with z | z
    · exact List.mem_append_left _ z
    · exact List.mem_append_right _ (List.mem_append_left _ z))
  have s1 := Heap.SameBut.update s2.heap st (Obj.mapSeq fun _ => #[v, .int (kf 0) t2])
  have es3 : (s2.heap.update st (Obj.mapSeq fun _ => #[v, .int (kf 0) t2])).get? st = some (seqObj "list" #[v, .int (kf 0) t2] _) := get?_update_seq P1.1 fun _ => #[v, .int (kf 0) t2]
  have I3 : Inv X pins σ H2 { s2 with heap := s2.heap.update st (Obj.mapSeq fun _ => #[v, .int (kf 0) t2]), toks := s2.toks } := I2'.off O1 P1.2.1 fun b o nb e => (s1.2 b nb).trans e
  show wpAny _ X.A.in1 (updateSeq st (fun _ => #[v, .int (kf 0) t2]) >>= _) _ _ _
  refine wpAny_bind ?_
  refine wpAny_updateSeq P1.1 rfl ?_
  rw [hname]
  refine wpAny_pure ⟨plainId_quiet PySem.F.plain_min_loop _, minF_loop kf hc F hr hb key fin hl0 nli nsi O1 O2 _ 0 0 H2 _ y v t2 _ rfl hne I3 e2 P1.2.1 P2.2.1 es3 ⟨oI', (s1.2 it nsi.symm).trans P2.1, hoc, hod⟩ hy ru (Nat.le_refl _) fun j' hj' => ?_⟩
  have e : j' = 0 := by omega
  subst e
  exact ⟨by omega, fun h => absurd h (Nat.lt_irrefl _)⟩
end L2

namespace My
open PySem PySem.Spec PyProof.Rows L2
section
variable {P : Program} {w : World} {K : PySem.W.Frag} {mg : Str → Option Value} {base : Heap}
theorem lw_take (h n t : Int) {m j : Nat} (hj : j ≤ m) : (lw h n t m).take j = lw h n t j := by
  unfold lw
  rw [← List.map_take, List.take_range, Nat.min_eq_left hj]
theorem lw_sum (h n t : Int) : ∀ m : Nat, (lw h n t m).sum = ((m : Int) * h + t) / n - t / n
  | 0 => by
    show (0 : Int) = ((((0 : Nat) : Int)) * h + t) / n - t / n
    rw [show (((0 : Nat) : Int)) = 0 from rfl, Int.zero_mul, Int.zero_add]
    omega
  | m + 1 => by
    rw [lw_s, List.sum_append, lw_sum h n t m]
    simp only [List.sum_cons, List.sum_nil]
    rw [show (((m + 1 : Nat) : Int)) = (m : Int) + 1 by omega]
    omega
theorem lw_total {h n t : Int} (n1 : 1 ≤ n) (t0 : 0 ≤ t) (t1 : t < n) : (lw h n t n.toNat).sum = h := by
  rw [lw_sum, Int.ediv_eq_zero_of_lt t0 t1, show ((n.toNat : Nat) : Int) = n by omega, div_add n1, Int.ediv_eq_zero_of_lt t0 t1]
  omega
/-! ### how far a word errs -/
theorem bez : ∀ (a b : Nat), ∃ x y : Int, x * a + y * b = (Nat.gcd a b : Nat) := by
  intro a b
  induction a, b using Nat.gcd.induction with
  | H0 n => exact ⟨0, 1, by simp⟩
  | H1 m n hm ih =>
    obtain ⟨x, y, e⟩ := ih
    refine ⟨y - x * ((n / m : Nat) : Int), x, ?_⟩
    rw [Nat.gcd_rec m n, ← e]
    have h1 : (n : Int) = (m : Int) * ((n / m : Nat) : Int) + ((n % m : Nat) : Int) := by
      have := Nat.div_add_mod n m
      omega
    have h2 : ((n % m : Nat) : Int) = (n : Int) - (m : Int) * ((n / m : Nat) : Int) := by omega
    rw [h2]
    grind
/-- the words' numbers: h long ones in n, g their common divisor, n = g m -/
structure Num (h n g m : Int) : Prop where
  n1 : 1 ≤ n
  g1 : 1 ≤ g
  m1 : 1 ≤ m
  e : n = g * m
  dv : ∃ c, h = g * c
  bz : ∃ x y, x * h + y * n = g
theorem num_of {h n : Int} (h0 : 0 ≤ h) (n1 : 1 ≤ n) : Num h n (Int.gcd h n : Nat) (n / (Int.gcd h n : Nat)) := by
  have gp : 0 < Int.gcd h n := Int.gcd_pos_of_ne_zero_right _ (by omega)
  obtain ⟨c, hc⟩ := Int.gcd_dvd_left h n
  obtain ⟨d, hd⟩ := Int.gcd_dvd_right h n
  have g1 : (1 : Int) ≤ (Int.gcd h n : Nat) := by omega
  have e : n / (Int.gcd h n : Nat) = d := by
    conv => lhs; lhs; rw [hd]
    exact Int.mul_ediv_cancel_left _ (by omega)
  rw [e]
  refine ⟨n1, g1, ?_, hd, ⟨c, hc⟩, ?_⟩
  · rcases Int.lt_or_le d 1 with z | z
    · have : (Int.gcd h n : Nat) * d ≤ 0 := Int.mul_nonpos_of_nonneg_of_nonpos (by omega) (by omega)
      omega
    · exact z
  · obtain ⟨x, y, hxy⟩ := bez h.natAbs n.natAbs
    refine ⟨x, y, ?_⟩
    rw [show (h.natAbs : Int) = h by omega, show (n.natAbs : Int) = n by omega] at hxy
    exact hxy
/-- each multiple of g is met by the turns -/
theorem Num.meet {h n g m : Int} (N : Num h n g m) (a : Int) (s : Int) : ∃ k : Int, s ≤ k ∧ k < s + n ∧ ∃ z, k * h + z * n = a * g := by
  obtain ⟨x, y, hxy⟩ := N.bz
  refine ⟨s + (a * x - s) % n, by have := Int.emod_nonneg (a * x - s) (show n ≠ 0 by have := N.n1; omega); omega, by have := Int.emod_lt_of_pos (a * x - s) (show 0 < n by have := N.n1; omega); omega, ?_⟩
  have e := Int.emod_add_mul_ediv (a * x - s) n
  refine ⟨a * y + ((a * x - s) / n) * h, ?_⟩
  have e2 : (a * x - s) % n = a * x - s - n * ((a * x - s) / n) := by omega
  rw [e2]
  grind
theorem Num.mod_mul {h n g m : Int} (N : Num h n g m) (x : Int) (hx : ∃ c, x = g * c) : ∃ j, 0 ≤ j ∧ j < m ∧ x % n = g * j := by
  obtain ⟨c, rfl⟩ := hx
  refine ⟨c % m, Int.emod_nonneg _ (by have := N.m1; omega), Int.emod_lt_of_pos _ (by have := N.m1; omega), ?_⟩
  rw [N.e]
  exact Int.mul_emod_mul_of_pos _ _ (by have := N.g1; omega)
theorem modu {x r n z : Int} (e : x = r + n * z) (h0 : 0 ≤ r) (h1 : r < n) : x % n = r := by
  rw [e, Int.add_mul_emod_self_left, Int.emod_eq_of_lt h0 h1]
def iab (n : Int) : Int := if n < 0 then -n else n
def imx (a b : Int) : Int := if b > a then b else a
theorem iab_le {n b : Int} : iab n ≤ b ↔ n ≤ b ∧ -n ≤ b := by unfold iab; split <;> omega
theorem iab_nn (n : Int) : 0 ≤ iab n := by unfold iab; split <;> omega
theorem imx_le {a b c : Int} : imx a b ≤ c ↔ a ≤ c ∧ b ≤ c := by unfold imx; split <;> omega
theorem imx_or (a b : Int) : imx a b = a ∨ imx a b = b := by unfold imx; split <;> simp
def tk (w : List Int) (k : Nat) : Int := (w.take k).sum
/-- how far the first k items of a word are off, times its length -/
def er (w : List Int) (k : Nat) : Int := iab (tk w k * w.length - k * w.sum)
def serT (w : List Int) : Nat → Int
  | 0 => 0
  | i + 1 => imx (serT w i) (er w (i + 1))
def ser (w : List Int) : Int := serT w w.length
theorem serT_le {w : List Int} {b : Int} (b0 : 0 ≤ b) : ∀ {i : Nat}, serT w i ≤ b ↔ ∀ k : Nat, 1 ≤ k → k ≤ i → er w k ≤ b
  | 0 => ⟨fun _ k h1 h2 => absurd h2 (by omega), fun _ => b0⟩
  | i + 1 => by
    show imx (serT w i) (er w (i + 1)) ≤ b ↔ _
    rw [imx_le, serT_le b0]
    constructor
    · rintro ⟨h1, h2⟩ k k1 k2
      by_cases e : k = i + 1
      · rw [e]; exact h2
      · exact h1 k k1 (by omega)
    · intro h
      exact ⟨fun k k1 k2 => h k k1 (by omega), h (i + 1) (by omega) (Nat.le_refl _)⟩
theorem serT_nn (w : List Int) : ∀ i : Nat, 0 ≤ serT w i
  | 0 => Int.le_refl 0
  | i + 1 => by
    have := serT_nn w i
    have := (imx_le (a := serT w i) (b := er w (i + 1)) (c := serT w (i + 1))).mp (Int.le_refl _)
    omega
theorem ser_nn (w : List Int) : 0 ≤ ser w := serT_nn w _
theorem ser_ge {w : List Int} {k : Nat} (k1 : 1 ≤ k) (k2 : k ≤ w.length) : er w k ≤ ser w := (serT_le (ser_nn w)).mp (Int.le_refl _) k k1 k2
theorem ser_le {w : List Int} {b : Int} (b0 : 0 ≤ b) (h : ∀ k : Nat, 1 ≤ k → k ≤ w.length → er w k ≤ b) : ser w ≤ b := (serT_le b0).mpr h
/-- what a leap word's first items are off -/
theorem lw_er {h n t : Int} (n1 : 1 ≤ n) (t0 : 0 ≤ t) (t1 : t < n) {k : Nat} (hk : (k : Int) ≤ n) : er (lw h n t n.toNat) k = iab (t - ((k : Int) * h + t) % n) := by
  unfold er tk
  rw [lw_total n1 t0 t1, lw_len, lw_take _ _ _ (by omega), lw_sum, Int.ediv_eq_zero_of_lt t0 t1, show ((n.toNat : Nat) : Int) = n by omega]
  congr 1
  have := Int.emod_add_mul_ediv ((k : Int) * h + t) n
  have e2 : ((k : Int) * h + t) / n * n = n * (((k : Int) * h + t) / n) := Int.mul_comm _ _
  rw [Int.sub_zero, e2]
  omega
theorem Num.lw_ser {h n g m t : Int} (N : Num h n g m) (t0 : 0 ≤ t) (t1 : t < n) : ser (lw h n t n.toNat) = imx (t / g * g) (n - g - t / g * g) := by
  have n1 := N.n1
  have g1 := N.g1
  have m1 := N.m1
  have hq := Int.emod_add_mul_ediv t g
  have r0 := Int.emod_nonneg t (show g ≠ 0 by omega)
  have r1 := Int.emod_lt_of_pos t (show 0 < g by omega)
  have q0 : 0 ≤ t / g := Int.ediv_nonneg t0 (by omega)
  generalize hr : t % g = r at hq r0 r1
  generalize t / g = q at hq q0 ⊢
  have hgq : 0 ≤ q * g := Int.mul_nonneg q0 (by omega)
  have qm : q < m := by
    rcases Int.lt_or_le q m with z | z
    · exact z
    · have h1 : g * m ≤ g * q := Int.mul_le_mul_of_nonneg_left z (by omega)
      have := N.e
      omega
  have nq : q * g ≤ n - g := by
    have h1 : g * (q + 1) ≤ g * m := Int.mul_le_mul_of_nonneg_left (by omega) (by omega)
    have := N.e
    grind
  have b0 : 0 ≤ imx (q * g) (n - g - q * g) := by
    have := (imx_le (a := q * g) (b := n - g - q * g)).mp (Int.le_refl _)
    omega
  have hl : ((lw h n t n.toNat).length : Int) = n := by rw [lw_len]; omega
  refine Int.le_antisymm (ser_le b0 fun k k1 k2 => ?_) (imx_le.mpr ⟨?_, ?_⟩)
  · rw [lw_er n1 t0 t1 (by omega)]
    obtain ⟨c, hc⟩ := N.dv
    obtain ⟨j, j0, j1, hj⟩ := N.mod_mul (g * ((k : Int) * c + q)) ⟨_, rfl⟩
    have ex : ((k : Int) * h + t) % n = g * j + r := by
      refine modu (z := g * ((k : Int) * c + q) / n) ?_ ?_ ?_
      · have := Int.emod_add_mul_ediv (g * ((k : Int) * c + q)) n
        rw [hj] at this
        rw [hc]
        grind
      · have : 0 ≤ g * j := Int.mul_nonneg (by omega) j0
        omega
      · have h1 : g * (j + 1) ≤ g * m := Int.mul_le_mul_of_nonneg_left (by omega) (by omega)
        have := N.e
        grind
    rw [ex, iab_le]
    have a1 : 0 ≤ g * j := Int.mul_nonneg (by omega) j0
    have a2 : g * (j + 1) ≤ g * m := Int.mul_le_mul_of_nonneg_left (by omega) (by omega)
    have hm := (imx_le (a := q * g) (b := n - g - q * g)).mp (Int.le_refl _)
    have e1 := N.e
    have e2 : g * (j + 1) = g * j + g := by grind
    have e3 : g * q = q * g := Int.mul_comm _ _
    omega
  · obtain ⟨k, k1, k2, z, hz⟩ := N.meet (-q) 1
    obtain ⟨kk, rfl⟩ := Int.eq_ofNat_of_zero_le (show 0 ≤ k by omega)
    refine Int.le_trans ?_ (ser_ge (k := kk) (by omega) (by omega))
    rw [lw_er n1 t0 t1 (by omega), modu (r := r) (z := -z) (by grind) r0 (by have : g * 1 ≤ g * m := Int.mul_le_mul_of_nonneg_left m1 (by omega); have := N.e; omega)]
    unfold iab
    have e3 : g * q = q * g := Int.mul_comm _ _
    split <;> omega
  · obtain ⟨k, k1, k2, z, hz⟩ := N.meet (m - 1 - q) 1
    obtain ⟨kk, rfl⟩ := Int.eq_ofNat_of_zero_le (show 0 ≤ k by omega)
    refine Int.le_trans ?_ (ser_ge (k := kk) (by omega) (by omega))
    have e1 := N.e
    have e3 : g * q = q * g := Int.mul_comm _ _
    rw [lw_er n1 t0 t1 (by omega), modu (r := n - g + r) (z := -z) (by grind) (by omega) (by omega)]
    unfold iab
    split <;> omega
/-- the least that a word of n items and h long ones errs -/
theorem Num.least {h n g m : Int} (N : Num h n g m) {w : List Int} (l : (w.length : Int) = n) (hs : w.sum = h) : g * (m / 2) ≤ ser w := by
  have n1 := N.n1
  have g1 := N.g1
  have m1 := N.m1
  obtain ⟨k, k1, k2, z, hz⟩ := N.meet (m / 2) 1
  obtain ⟨kk, rfl⟩ := Int.eq_ofNat_of_zero_le (show 0 ≤ k by omega)
  refine Int.le_trans ?_ (ser_ge (k := kk) (by omega) (by omega))
  unfold er
  rw [l, hs]
  have e1 := N.e
  have e2 : tk w kk * n - (kk : Int) * h = g * (m * (tk w kk + z) - m / 2) := by grind
  rw [e2]
  generalize tk w kk + z = y
  have hm2 : 0 ≤ m / 2 := by omega
  rcases Int.lt_or_le 0 y with c | c
  · have h1 : m * 1 ≤ m * y := Int.mul_le_mul_of_nonneg_left (by omega) (by omega)
    have h2 : g * (m / 2) ≤ g * (m * y - m / 2) := Int.mul_le_mul_of_nonneg_left (by omega) (by omega)
    unfold iab
    split <;> omega
  · have h1 : m * y ≤ 0 := Int.mul_nonpos_of_nonneg_of_nonpos (by omega) (by omega)
    have h2 : g * (m / 2) ≤ g * (-(m * y - m / 2)) := Int.mul_le_mul_of_nonneg_left (by omega) (by omega)
    have h3 : g * (-(m * y - m / 2)) = -(g * (m * y - m / 2)) := by grind
    unfold iab
    split <;> omega
/-- the first turn that errs least -/
theorem Num.first {h n g m : Int} (N : Num h n g m) {i : Nat} (hi : (i : Int) < n) (hb : ∀ j : Nat, (j : Int) < n → ser (lw h n i n.toNat) ≤ ser (lw h n j n.toNat) ∧ (j < i → ser (lw h n i n.toNat) < ser (lw h n j n.toNat))) :
    (i : Int) = (m - 1) / 2 * g ∧ ser (lw h n i n.toNat) = g * (m / 2) := by
  have n1 := N.n1
  have g1 := N.g1
  have m1 := N.m1
  have e1 := N.e
  have q0 : 0 ≤ (m - 1) / 2 * g := Int.mul_nonneg (by omega) (by omega)
  have q1 : (m - 1) / 2 * g < n := by
    have : g * ((m - 1) / 2 + 1) ≤ g * m := Int.mul_le_mul_of_nonneg_left (by omega) (by omega)
    grind
  obtain ⟨p, hp⟩ := Int.eq_ofNat_of_zero_le q0
  have sp : ser (lw h n p n.toNat) = g * (m / 2) := by
    rw [N.lw_ser (by omega) (by omega), ← hp, Int.mul_ediv_cancel _ (by omega)]
    have e2 : n - g - (m - 1) / 2 * g = (m - 1 - (m - 1) / 2) * g := by grind
    have e3 : m - 1 - (m - 1) / 2 = m / 2 := by omega
    rw [e2, e3]
    have : (m - 1) / 2 * g ≤ m / 2 * g := Int.mul_le_mul_of_nonneg_right (by omega) (by omega)
    have e4 : m / 2 * g = g * (m / 2) := Int.mul_comm _ _
    unfold imx
    split <;> omega
  have low : ∀ j : Nat, (j : Int) < p → g * (m / 2) < ser (lw h n j n.toNat) := fun j hj => by
    rw [N.lw_ser (by omega) (by omega)]
    have hq : (j : Int) / g < (m - 1) / 2 := by
      refine (Int.ediv_lt_iff_lt_mul (by omega)).mpr ?_
      omega
    have h1 : ((j : Int) / g) * g ≤ ((m - 1) / 2 - 1) * g := Int.mul_le_mul_of_nonneg_right (by omega) (by omega)
    have e2 : ((m - 1) / 2 - 1) * g = (m - 1) / 2 * g - g := by grind
    have e3 : n - g - (m - 1) / 2 * g = (m - 1 - (m - 1) / 2) * g := by grind
    have e5 : m - 1 - (m - 1) / 2 = m / 2 := by omega
    rw [e5] at e3
    have e4 : m / 2 * g = g * (m / 2) := Int.mul_comm _ _
    have := (imx_le (a := (j : Int) / g * g) (b := n - g - (j : Int) / g * g)).mp (Int.le_refl _)
    omega
  have eq : i = p := by
    rcases Nat.lt_trichotomy i p with c | c | c
    · have := low i (by omega)
      have := (hb p (by omega)).1
      omega
    · exact c
    · have h1 := (hb p (by omega)).2 c
      have hl : ((lw h n i n.toNat).length : Int) = n := by rw [lw_len]; omega
      have h2 := N.least hl (lw_total n1 (by omega) hi)
      omega
  subst eq
  exact ⟨hp.symm, sp⟩
end
end My

namespace My
open PySem PySem.Spec PyProof.Rows L2
section
variable {P : Program} {w : World} {K : PySem.W.Frag} {mg : Str → Option Value} {base : Heap}
theorem tk_s {w : List Int} {i : Nat} {y : Int} (h : w[i]? = some y) : tk w (i + 1) = tk w i + y := by
  unfold tk
  rw [List.take_succ, h, List.sum_append]
  simp
theorem tk_le {w : List Int} (h : ∀ x ∈ w, x = 0 ∨ x = 1) (i : Nat) : 0 ≤ tk w i ∧ tk w i ≤ w.length := by
  obtain ⟨h1, h2⟩ := sum_wv (w := w.take i) fun x hx => h x (List.mem_of_mem_take hx)
  unfold tk
  have : (w.take i).length ≤ w.length := by rw [List.length_take]; omega
  omega
def spSer (K : PySem.W.Frag) : Sp := fun vs H Q _ => ∃ a w, vs = [.ref a] ∧ Wd K H a w ∧ Wv w ∧ ∀ H', Same H H' → Q (.int (ser w)) H'
abbrev sSer : Stmt := topS 41
theorem scSer : FnScope ["word", "most", "reached", "index", "item"] ["word"] (defScope sSer) := ⟨rfl, rfl, rfl, by decide +kernel, rfl, by decide +kernel, by decide +kernel⟩
theorem k_Ser (zU : mg "sum" = none) (zE : mg "enumerate" = none) (T : Bt K mg) (D : Dfn K mg "_scaled_error" sSer ["word"]) : Kn P w K mg base 1 "_scaled_error" ["word"] (spSer K) := by
  refine Kn.mk' D scSer (fun vs H Q E h => ?_) (fun f cdv A outer s H vs Q E hr h => ?_)
  · obtain ⟨a, w, rfl, _⟩ := h
    rfl
  obtain ⟨a, w, rfl, hw, wv, k⟩ := h
  refine ⟨_, (pss_cons (ps_set (i := 1) scSer.nd rfl (.inl rfl) pe_int)
      (pss_cons (ps_set (i := 2) scSer.nd rfl (.inl rfl) pe_int)
      (pss_cons (ps_for PassesOwn.never rfl (pi_enumT (by rfl) zE (pa_cons (pv 0) pa_nil) (pk_cons pe_int pk_nil)) (pg_tup (n := 2) (by rfl) (pgs_cons (pg_name (i := 3) scSer.nd rfl (.inl rfl)) (pgs_cons (pg_name (i := 4) scSer.nd rfl (.inl rfl)) pgs_nil)) (by rfl) (by rfl)) (pss_cons (ps_set (i := 2) scSer.nd rfl (.inl rfl) (pe_op op_add (pv 2) (pv 4)))
      (pss_one (ps_set (i := 1) scSer.nd rfl (.inl rfl) (pe_callB (call_max2 rfl) (by rfl) T.b_max (by decide +kernel) (pa_cons (pv 1) (pa_cons (pe_callB call_abs (by rfl) T.b_abs (by decide +kernel) (pa_cons (pe_op op_sub (pe_op op_mulW (pv 2) (pe_callB call_lenA (by rfl) T.b_len PySem.boot_len (pa_cons (pv 0) pa_nil))) (pe_op op_mulW (pv 3) (pe_callB (cr_sumT rfl) (by rfl) zU (by decide +kernel) (pa_cons (pv 0) pa_nil)))) pa_nil)) pa_nil)))))))
      (pss_one (ps_ret (pv 1)))))), ?_⟩
  simp only [cx_K]
  have hl := wv.2.1
  have hl2 := wv.2.2
  obtain ⟨s0, s1'⟩ := sum_wv wv.1
  have hw0 := hw
  refine ⟨_, rfl, a, _, rfl, ob_tup hw, 1, rfl, by decide, by decide, ob_tup hw, ?_⟩
  refine forI_enumT (xs := w.map V.int) (fun (i : Nat) (σ : L2.St) (H' : Hp) => ∃ (x3 x4 : Option V), σ = [some (.ref a), some (.int (serT w i)), some (.int (tk w i)), x3, x4] ∧ Same H H') ⟨none, none, rfl, Same.refl H⟩ (fun i σ H' _ h => ?_) ?_ ?_
  · obtain ⟨_, _, _, e⟩ := h
    exact ob_tup (ob_same e hw)
  · rintro i x T σ H' hi ⟨x3, x4, rfl, e⟩ hT
    rw [List.getElem?_map] at hi
    obtain ⟨y, hy, rfl⟩ := Option.map_eq_some_iff.mp hi
    have li := (List.getElem?_eq_some_iff.mp hy).1
    have sT := Same.new hT (.tup [.int (1 + (i : Int)), .int y])
    have hw2 := ob_same (e.trans sT) hw
    refine ⟨T, _, rfl, .inl (.inl upd_same), rfl, ?_⟩
    obtain ⟨b0, b1⟩ := tk_le wv.1 i
    obtain ⟨c0, c1⟩ := tk_le wv.1 (i + 1)
    rw [tk_s hy] at c0 c1
    refine ⟨_, _, rfl, _, _, rfl, rfl, ?_⟩
    refine ⟨_, rfl, _, rfl, _, _, rfl, rfl, ?_⟩
    refine ⟨_, rfl, _, rfl, _, rfl, a, rfl, _, itsO_of hw2, _, _, rfl, rfl, wide_mul (a := 20) (b := 20) (by omega) (by rw [List.length_map]; omega) (by omega) (by omega) (by omega), _, rfl, _, rfl, a, _, rfl, ob_tup hw2, _, _, rfl, rfl, wide_mul (a := 20) (b := 20) (by omega) (by omega) (by omega) (by omega) (by omega), _, _, rfl, rfl, _, rfl, _, _, rfl, ?_⟩
    refine ⟨some (.int (1 + (i : Int))), some (.int y), ?_, e.trans sT⟩
    show [some (V.ref a), some (V.int (imx (serT w i) (iab ((tk w i + y) * ((w.map V.int).length : Int) - (1 + (i : Int)) * w.sum)))), some (V.int (tk w i + y)), some (.int (1 + (i : Int))), some (.int y)] = _
    rw [← tk_s hy, List.length_map, show (1 + (i : Int)) = ((i + 1 : Nat) : Int) by omega]
    rfl
  · rintro σ H' ⟨x3, x4, rfl, e⟩
    rw [List.length_map]
    exact ⟨_, rfl, k H' e⟩

theorem er_le {w : List Int} (wv : Wv w) {k : Nat} (hk : k ≤ w.length) : er w k ≤ 10000 := by
  obtain ⟨a0, a1⟩ := tk_le wv.1 k
  obtain ⟨b0, b1⟩ := sum_wv wv.1
  have l := wv.2.2
  unfold er
  rw [iab_le]
  have h1 : tk w k * w.length ≤ 100 * 100 := Int.mul_le_mul (by omega) (by omega) (by omega) (by omega)
  have h2 : (k : Int) * w.sum ≤ 100 * 100 := Int.mul_le_mul (by omega) (by omega) (by omega) (by omega)
  have h3 : 0 ≤ tk w k * w.length := Int.mul_nonneg a0 (by omega)
  have h4 : 0 ≤ (k : Int) * w.sum := Int.mul_nonneg (by omega) b0
  omega
theorem ser_small {w : List Int} (wv : Wv w) : ser w ≤ 10000 := ser_le (by omega) fun k _ k2 => er_le wv k2
def spWE (K : PySem.W.Frag) : Sp := fun vs H Q _ => ∃ a w, vs = [.ref a] ∧ Wd K H a w ∧ Wv w ∧ ∀ q, Is q (ser w) w.length → Gv K H Q q
abbrev sWE : Stmt := topS 35
theorem scWE : FnScope ["word"] ["word"] (defScope sWE) := ⟨rfl, rfl, rfl, by decide +kernel, rfl, by decide +kernel, by decide +kernel⟩
theorem k_WE (T : Bt K mg) (D : Dfn K mg "word_error" sWE ["word"]) (d_require : Kn P w K mg base 1 "require" ["well_formed", "what"] spRequire) (d_is_word : Kn P w K mg base 3 "is_word" ["value"] (spWord K)) (d_fraction : Kn P w K mg base 2 "fraction" ["numerator", "denominator"] (spFraction K)) (d__scaled_error : Kn P w K mg base 1 "_scaled_error" ["word"] (spSer K)) : Kn P w K mg base 4 "word_error" ["word"] (spWE K) := by
  refine Kn.mk' D scWE (fun vs H Q E h => ?_) (fun f cdv A outer s H vs Q E hr h => ?_)
  · obtain ⟨a, w, rfl, _⟩ := h
    rfl
  obtain ⟨a, w, rfl, hw, wv, k⟩ := h
  refine ⟨_, (pss_cons (ps_expr (pe_kn d_require hr (by rfl) (pa_cons (pe_kn d_is_word hr (by rfl) (pa_cons (pv 0) pa_nil)) (pa_cons pe_str pa_nil))))
      (pss_one (ps_ret (pe_kn d_fraction hr (by rfl) (pa_cons (pe_kn d__scaled_error hr (by rfl) (pa_cons (pv 0) pa_nil)) (pa_cons (pe_callB call_lenA (by rfl) T.b_len PySem.boot_len (pa_cons (pv 0) pa_nil)) pa_nil)))))), ?_⟩
  simp only [cx_K]
  have hl := wv.2.1
  have hl2 := wv.2.2
  refine ⟨_, rfl, .ref a, true, rfl, wd_judge hw wv, fun H1 s1 => ⟨_, rfl, ?_⟩⟩
  have hw1 := hw.same s1
  refine ⟨_, rfl, a, w, rfl, hw1, wv, fun H2 s2 => ⟨_, rfl, a, rfl, _, itsO_of (hw1.same s2), ser w, _, rfl, by rw [List.length_map]; omega, by rw [List.length_map]; exact Nat.lt_of_le_of_lt (show ((w.length : Int)).natAbs ≤ 2 ^ 7 by omega) (Nat.pow_lt_pow_right (by decide) (by decide)), fun q hq p H3 s3 o3 => ?_⟩⟩
  rw [List.length_map] at hq
  exact k q hq p H3 (s1.trans (s2.trans s3)) o3

abbrev sED : Stmt := topS 69
theorem scED : FnScope ["_law_word_here", "_law_worst", "_law_total", "_law_k"] ["_law_word_here"] (defScope sED) := ⟨rfl, rfl, rfl, by decide +kernel, rfl, by decide +kernel, by decide +kernel⟩
theorem k_ED (zU : mg "sum" = none) (T : Bt K mg) (D : Dfn K mg "_law_error_due" sED ["_law_word_here"]) (d__law_lowest : Kn P w K mg base 2 "_law_lowest" ["_law_top", "_law_bottom"] (spLowest K)) : Kn P w K mg base 3 "_law_error_due" ["_law_word_here"] (spWE K) := by
  refine Kn.mk' D scED (fun vs H Q E h => ?_) (fun f cdv A outer s H vs Q E hr h => ?_)
  · obtain ⟨a, w, rfl, _⟩ := h
    rfl
  obtain ⟨a, w, rfl, hw, wv, k⟩ := h
  refine ⟨_, (pss_cons (ps_set (i := 1) scED.nd rfl (.inl rfl) pe_int)
      (pss_cons (ps_set (i := 2) scED.nd rfl (.inl rfl) pe_int)
      (pss_cons (ps_for PassesOwn.never rfl (pi_range1 (by rfl) T.b_range (pa_cons (pe_callB call_lenA (by rfl) T.b_len PySem.boot_len (pa_cons (pv 0) pa_nil)) pa_nil)) (pg_name (i := 3) scED.nd rfl (.inl rfl)) (pss_cons (ps_set (i := 2) scED.nd rfl (.inl rfl) (pe_op op_add (pv 2) (pe_ix ix_any (pv 0) (pv 3) (fun _ _ => rfl))))
      (pss_one (ps_set (i := 1) scED.nd rfl (.inl rfl) (pe_callB (call_max2 rfl) (by rfl) T.b_max (by decide +kernel) (pa_cons (pv 1) (pa_cons (pe_callB call_abs (by rfl) T.b_abs (by decide +kernel) (pa_cons (pe_op op_sub (pe_op op_mulW (pv 2) (pe_callB call_lenA (by rfl) T.b_len PySem.boot_len (pa_cons (pv 0) pa_nil))) (pe_op op_mulW (pe_op op_add (pv 3) pe_int) (pe_callB (cr_sumT rfl) (by rfl) zU (by decide +kernel) (pa_cons (pv 0) pa_nil)))) pa_nil)) pa_nil)))))))
      (pss_one (ps_ret (pe_kn d__law_lowest hr (by rfl) (pa_cons (pv 1) (pa_cons (pe_callB call_lenA (by rfl) T.b_len PySem.boot_len (pa_cons (pv 0) pa_nil)) pa_nil)))))))), ?_⟩
  simp only [cx_K]
  have hl := wv.2.1
  have hl2 := wv.2.2
  obtain ⟨s0, s1'⟩ := sum_wv wv.1
  refine ⟨_, rfl, a, rfl, _, itsO_of hw, _, rfl, by omega, by rw [List.length_map]; omega, forI_range (lo := 0) (n := ((w.map V.int).length : Int).toNat) (fun i σ H' => ∃ x3, σ = [some (V.ref a), some (.int (serT w i)), some (.int (tk w i)), x3] ∧ H' = H) ⟨none, rfl, rfl⟩ ?_ ?_⟩
  · rintro i σ H' hi ⟨x3, rfl, rfl⟩
    have li : i < w.length := by
      rw [List.length_map] at hi
      omega
    have hy : w[i]? = some w[i] := List.getElem?_eq_getElem li
    obtain ⟨b0, b1⟩ := tk_le wv.1 i
    obtain ⟨c0, c1⟩ := tk_le wv.1 (i + 1)
    rw [tk_s hy] at c0 c1
    rw [Int.zero_add]
    have hat : atI (w.map V.int) (i : Int) = some (.int w[i]) := atI_nat (by rw [List.getElem?_map, hy]; rfl)
    refine ⟨_, rfl, _, rfl, _, rfl, a, i, rfl, rfl, _, itsO_of hw, _, hat, _, _, rfl, rfl, ?_⟩
    refine ⟨_, rfl, _, rfl, _, rfl, a, rfl, _, itsO_of hw, _, _, rfl, rfl, wide_mul (a := 20) (b := 20) (by omega) (by rw [List.length_map]; omega) (by omega) (by omega) (by omega), _, rfl, _, _, rfl, rfl, _, rfl, a, _, rfl, ob_tup hw, _, _, rfl, rfl, wide_mul (a := 20) (b := 20) (by omega) (by omega) (by omega) (by omega) (by omega), _, _, rfl, rfl, _, rfl, _, _, rfl, ?_⟩
    refine ⟨some (.int (i : Int)), ?_, rfl⟩
    show [some (V.ref a), some (V.int (imx (serT w i) (iab ((tk w i + w[i]) * ((w.map V.int).length : Int) - ((i : Int) + 1) * w.sum)))), some (V.int (tk w i + w[i])), some (.int (i : Int))] = _
    rw [← tk_s hy, List.length_map, show ((i : Int) + 1) = ((i + 1 : Nat) : Int) by omega]
    rfl
  · rintro σ H' ⟨x3, rfl, rfl⟩
    rw [show ((w.map V.int).length : Int).toNat = w.length by rw [List.length_map]; omega]
    refine ⟨_, rfl, _, rfl, a, rfl, _, itsO_of hw, ser w, _, rfl, by rw [List.length_map]; exact Nat.lt_of_le_of_lt (show ((w.length : Int)).natAbs ≤ 2 ^ 7 by omega) (Nat.pow_lt_pow_right (by decide) (by decide)), fun q hq => ?_⟩
    rw [List.length_map] at hq
    exact k q (hq.2 (by omega))

def spSgn (K : PySem.W.Frag) : Sp := fun vs H Q _ => ∃ (a b : Addr) (p q : Qt), vs = [.ref a, .ref b] ∧ Fq K H 4000 a p ∧ Fq K H 4000 b q ∧ ∀ s : Int, (0 ≤ p.1 * q.2 - q.1 * p.2 → 0 ≤ s) → Q (.int s) H
abbrev sSgn : Stmt := topS 54
theorem scSgn : FnScope ["_law_left", "_law_right", "_law_gap"] ["_law_left", "_law_right"] (defScope sSgn) := ⟨rfl, rfl, rfl, by decide +kernel, rfl, by decide +kernel, by decide +kernel⟩
theorem k_Sgn (T : Bt K mg) (D : Dfn K mg "_law_sign" sSgn ["_law_left", "_law_right"]) : Kn P w K mg base 1 "_law_sign" ["_law_left", "_law_right"] (spSgn K) := by
  refine Kn.mk' D scSgn (fun vs H Q E h => ?_) (fun f cdv A outer s H vs Q E hr h => ?_)
  · obtain ⟨a, b, p, q, rfl, _⟩ := h
    rfl
  obtain ⟨a, b, p, q, rfl, hp, hq, k⟩ := h
  refine ⟨_, (pss_cons (ps_set (i := 2) scSgn.nd rfl (.inl rfl) (pe_op op_sub (pe_op op_mulW (pe_ix ix_any (pv 0) pe_int (fun _ _ => rfl)) (pe_ix ix_any (pv 1) pe_int (fun _ _ => rfl))) (pe_op op_mulW (pe_ix ix_any (pv 1) pe_int (fun _ _ => rfl)) (pe_ix ix_any (pv 0) pe_int (fun _ _ => rfl)))))
      (pss_one (ps_ret (pe_op op_sub (pe_callTy call_int1 (by rfl) T.b_int (by decide +kernel) (pa_cons (pe_cmpR op_gt (pv 2) pe_int (nomark _)) pa_nil)) (pe_callTy call_int1 (by rfl) T.b_int (by decide +kernel) (pa_cons (pe_cmpR op_lt (pv 2) pe_int (nomark _)) pa_nil)))))), ?_⟩
  have o1 := hp.o
  have o2 := hq.o
  refine ⟨_, rfl, a, 0, rfl, rfl, _, itsO_of o1, _, atI_0 _ _, _, rfl, b, 1, rfl, rfl, _, itsO_of o2, _, atI_1 _ _ _, _, _, rfl, rfl, mulW hp.sz.1 hq.sz.2 (by omega), _, rfl, b, 0, rfl, rfl, _, itsO_of o2, _, atI_0 _ _, _, rfl, a, 1, rfl, rfl, _, itsO_of o1, _, atI_1 _ _ _, _, _, rfl, rfl, mulW hq.sz.1 hp.sz.2 (by omega), _, _, rfl, rfl, ?_⟩
  simp only [cx_K, decide_true, decide_false, reduceCtorEq, gTp, gCons, gNil, ca_0, ca_1, ca_2, ca_3, ca_4, ca_5, ca_6, ca_7, ca_8, ca_9, ca_10, ca_11, ca_12, ca_13, ca_14, ca_15, ca_16, ca_17, ca_18, ca_19, ca_20, ca_21, ca_22, ca_23, ca_24, ca_25, ca_26, ca_27, ca_28, ca_29, ca_30, not_true_eq_false, not_false_eq_true, Int.reduceEq, Nat.reduceEqDiff, Nat.reduceLeDiff, rGcd, V.ty.injEq, eq_self, List.not_mem_nil, beq_self_eq_true, HO.lst.injEq, HO.tup.injEq, tFor_eq, iRng1, iList, iTup, nat10, tSeq, rIxA, rSetA, rIsN, rIsT, tTp, tLs, itsO_tup, itsO_lst, tyO_tup, tyO_lst, tyO_dK, tyN_non, tyN_bl, tyN_int, tyN_str, tyN_ref, tyNs_lt, isB, upd_same, upd_upd, sizeLine_eq, List.mem_cons, String.reduceBEq, String.reduceEq, Bool.or_false, Bool.or_true, Bool.and_false, Bool.false_or, Bool.and_self, Bool.false_and, Bool.not_false, Bool.not_true, List.any_cons, List.any_nil, atI_0, setI_0, atI_1, setI_1, atI_2, setI_2, atI_3, setI_3, atI_4, setI_4, atI_5, setI_5, atI_6, setI_6, tAsg, gName, tOp, tUn, tVar, tC, tCons, L2.tNil, tRet, tIfS, tTest, tCB, tCall, rI, rI0, rU, tNext, tB, tAnd, tOr, tNot, tAndV, tOrV, tNotV, tDrop, tIf, tPar, gSub, rIxL, rIxT, rEq, rNe, rSetL, tBits,
    L2.start, List.map_cons, List.map_nil, List.cons_append, List.nil_append, List.append_nil, List.length_cons, List.length_nil, List.replicate, Nat.reduceAdd, Nat.reduceSub, Nat.zero_add, List.getElem?_cons_zero, List.getElem?_cons_succ, List.set_cons_zero, List.set_cons_succ,
    Option.some.injEq, exists_eq_left', exists_eq_left, V.int.injEq, V.bl.injEq, V.ref.injEq, V.str.injEq, List.cons.injEq, reduceCtorEq, and_true, true_and, false_and, and_false, exists_false, or_false, false_or, or_true, true_or, exists_const, CMul, CDiv, CPow, and_assoc, exists_and_left, exists_and_right, Int.reducePow, Int.reduceNeg, Int.reduceLT, Int.reduceLE, Nat.reducePow, Nat.reduceLT, Int.reduceToNat, gt_iff_lt, ge_iff_le, decide_eq_true_eq, Bool.not_eq_true', decide_eq_false_iff_not, scal, ↓reduceIte, Bool.false_eq_true]
  refine k _ fun h => ?_
  split <;> split <;> omega
def spDist (K : PySem.W.Frag) : Sp := fun vs H Q _ => ∃ (a : Addr) (q : Qt), vs = [.ref a] ∧ Fq K H 3000 a q ∧ Gv K H Q (iab (off q).1, q.2)
abbrev sDist : Stmt := topS 56
theorem scDist : FnScope ["_law_value", "_law_offset_here"] ["_law_value"] (defScope sDist) := ⟨rfl, rfl, rfl, by decide +kernel, rfl, by decide +kernel, by decide +kernel⟩
theorem k_Dist (T : Bt K mg) (D : Dfn K mg "_law_distance" sDist ["_law_value"]) (d__law_offset : Kn P w K mg base 3 "_law_offset" ["_law_value"] (spUn K off)) : Kn P w K mg base 4 "_law_distance" ["_law_value"] (spDist K) := by
  refine Kn.mk' D scDist (fun vs H Q E h => ?_) (fun f cdv A outer s H vs Q E hr h => ?_)
  · obtain ⟨a, q, rfl, _⟩ := h
    rfl
  obtain ⟨a, q, rfl, hq, k⟩ := h
  refine ⟨_, (pss_cons (ps_set (i := 1) scDist.nd rfl (.inl rfl) (pe_kn d__law_offset hr (by rfl) (pa_cons (pv 0) pa_nil)))
      (pss_one (ps_ret (pe_tp (pa_cons (pe_callB call_abs (by rfl) T.b_abs (by decide +kernel) (pa_cons (pe_ix ix_any (pv 1) pe_int (fun _ _ => rfl)) pa_nil)) (pa_cons (pe_ix ix_any (pv 1) pe_int (fun _ _ => rfl)) pa_nil)))))), ?_⟩
  simp only [cx_K]
  have bo : (off q).1.natAbs < 2 ^ 3001 ∧ q.2.natAbs < 2 ^ 3000 := ⟨by
    have := (szOff hq.nf hq.sz).1
    exact Nat.lt_of_lt_of_le this (Nat.pow_le_pow_right (by decide) (by omega)), hq.sz.2⟩
  clear bo
  refine ⟨_, rfl, a, q, rfl, hq.mono (by omega), fun p H1 s1 o1 => ?_⟩
  refine ⟨_, rfl, p, 0, rfl, rfl, _, itsO_of o1, _, atI_0 _ _, _, rfl, _, rfl, p, 1, rfl, rfl, _, itsO_of o1, _, atI_1 _ _ _, sz2 (by show 2 ≤ 100; decide), fun p2 hp2 k2 => ?_⟩
  exact k p2 _ (s1.trans (Same.new hp2 _)) (ob_new k2)

end
end My

namespace My
open PySem PySem.Spec PyProof.Rows L2
section
variable {P : Program} {w : World} {K : PySem.W.Frag} {mg : Str → Option Value} {base : Heap}
def spBX (K : PySem.W.Frag) (C M : Addr) : Sp := fun vs H _ E => (∃ a b, vs = [a, b] ∧ Wh K H a ∧ inB 0 100 a = false ∧ Bv K C H E (.str "longs"))
  ∨ (∃ (h : Int) (b : V), vs = [.int h, b] ∧ 0 ≤ h ∧ h ≤ 100 ∧ Wh K H b ∧ inB 1 100 b = false ∧ Bv K C H E (.str "length"))
  ∨ (∃ (h n : Int), vs = [.int h, .int n] ∧ 0 ≤ h ∧ h ≤ 100 ∧ 1 ≤ n ∧ n ≤ 100 ∧ n < h ∧ E (.ref M) none H)
/-- the turn of the word that errs least -/
def bt (h n : Int) : Int := (n / (Int.gcd h n : Nat) - 1) / 2 * (Int.gcd h n : Nat)
def spBest (K : PySem.W.Frag) : Sp := fun vs H Q _ => ∃ h n : Int, vs = [.int h, .int n] ∧ 0 ≤ h ∧ h ≤ n ∧ 1 ≤ n ∧ n ≤ 100 ∧ ∀ a H', Same H H' → Wd K H' a (lw h n (bt h n) n.toNat) → Q (.ref a) H'
abbrev sBest : Stmt := topS 36
theorem scBest : FnScope ["longs", "length", "turn"] ["longs", "length"] (defScope sBest) := ⟨rfl, rfl, rfl, by decide +kernel, rfl, by decide +kernel, by decide +kernel⟩
theorem blk_scBest_0 : BlkOk ["longs", "length", "turn"] (defScope sBest) { kind := .function, names := [(".0", .local), ("turn", .local), ("_leap_word", .globalImplicit), ("length", .free), ("longs", .free)], isGenerator := false, isCoroutine := false, more := [] } [("turn", 2)] := ⟨rfl, by decide +kernel, by decide +kernel, by decide +kernel, by decide +kernel⟩
theorem k_Best (T : Bt K mg) (D : Dfn K mg "best_word" sBest ["longs", "length"]) (d_require : Kn P w K mg base 1 "require" ["well_formed", "what"] spRequire) (d__is_longs : Kn P w K mg base 3 "_is_longs" ["value"] (spIsW 0 100 K)) (d__is_length : Kn P w K mg base 3 "_is_length" ["value"] (spIsW 1 100 K)) (d__leap_word : Kn P w K mg base 1 "_leap_word" ["longs", "length", "turn"] (spLeap K)) (d__scaled_error : Kn P w K mg base 1 "_scaled_error" ["word"] (spSer K)) : Kn P w K mg base 4 "best_word" ["longs", "length"] (spBest K) := by
  refine Kn.mk' D scBest (fun vs H Q E h => ?_) (fun f cdv A outer s H vs Q E hr h => ?_)
  · obtain ⟨h, n, rfl, _⟩ := h
    rfl
  obtain ⟨fs, fds, ms, ks, bs, GS⟩ := d__scaled_error.ex
  obtain ⟨h, n, rfl, h0, h1, n1, n2, k⟩ := h
  refine ⟨_, (pss_cons (ps_expr (pe_kn d_require hr (by rfl) (pa_cons (pe_kn d__is_longs hr (by rfl) (pa_cons (pv 0) pa_nil)) (pa_cons pe_str pa_nil))))
      (pss_cons (ps_expr (pe_kn d_require hr (by rfl) (pa_cons (pe_kn d__is_length hr (by rfl) (pa_cons (pv 1) pa_nil)) (pa_cons pe_str pa_nil))))
      (pss_cons (ps_if (pt_cmpR op_gt (pv 0) (pv 1) (nomark _)) (pss_one ps_never) pss_nil)
      (pss_one (ps_ret (pe_callBK (crk_minF (by rfl) GS (hr.mono (by omega)) bs) (by rfl) T.b_min (by decide +kernel) (pa_cons (pe_fr (pe_lc (own := [("turn", 2)]) (g := gName 2) (te := (tCall (spLeap K) [] E0 (tCons (tVar 0) (tCons (tVar 1) (tCons (tVar 2) L2.tNil))))) rfl scBest.nd (pi_range1 (by rfl) T.b_range (pa_cons (pv 1) pa_nil)) blk_scBest_0 (fun _ _ _ _ _ => by exact pg_name (i := 2) scBest.nd rfl (.inl rfl)) (fun _ _ _ _ _ => pts_nil) (fun _ _ _ _ _ => by exact (pe_kn d__leap_word hr (by rfl) (pa_cons (pv 0) (pa_cons (pv 1) (pa_cons (pv 2) pa_nil))))))) pa_nil) (pk_cons (pe_glob (v := .ref fs) (by rfl) ms rfl) pk_nil))))))), ?_⟩
  simp only [cx_K]
  refine ⟨_, rfl, _, rfl, Wh.int h, ?_⟩
  rw [inB_yes h0 (show h ≤ 100 by omega)]
  refine ⟨_, rfl, ?_⟩
  refine ⟨_, rfl, _, rfl, Wh.int n, ?_⟩
  rw [inB_yes n1 n2]
  refine ⟨_, rfl, ?_⟩
  refine ⟨_, rfl, _, rfl, _, _, rfl, rfl, _, rfl, if_no (decide_eq_false (by omega)) ?_⟩
  refine ⟨_, rfl, _, rfl, by show -(2 ^ 62) ≤ n; omega, by show n < 2 ^ 62; omega, fun D hD => lc_range (lo := 0) (n := n.toNat) (fun i H' => ∃ as : List Addr, as.length = i ∧ H' D = some (.lst (as.map V.ref)) ∧ Same H H' ∧ ∀ (j : Nat) (a : Addr), as[j]? = some a → Wd K H' a (lw h n j n.toNat)) ⟨[], rfl, upd_same, Same.new hD _, fun j a h => by cases h⟩ ?_ ?_⟩
  · rintro i H' hi ⟨as, al, e1, s1, aw⟩
    refine ⟨rfl, ?_⟩
    simp only [tYes, if_true]
    rw [Int.zero_add]
    refine ⟨_, rfl, _, rfl, _, rfl, h, n, i, rfl, h0, by omega, n1, by omega, by omega, by omega, fun a H2 s2 na wa => ?_⟩
    have e2 := s2 _ _ e1
    refine ⟨_, e2, by rw [List.length_map, al, sizeLine_eq]; omega, ⟨as ++ [a], by rw [List.length_append, al]; rfl, by rw [upd_same, List.map_append]; rfl, fun b o e => ?_, fun j b hj => ?_⟩⟩
    · rw [upd_ne (ne_of_none e hD)]
      exact s2 _ _ (s1 _ _ e)
    · have keep : ∀ (b : Addr) (w : List Int), Wd K H2 b w → Wd K (upd H2 D (.lst (as.map V.ref ++ [.ref a]))) b w := fun b w hb => by
        unfold Wd ob at hb ⊢
        split
        · rename_i o q
          rw [q] at hb
          exact hb
        · rename_i q
          rw [q] at hb
          rw [upd_ne (by rintro rfl; rw [e2] at hb; cases hb)]
          exact hb
      by_cases c : j < as.length
      · rw [List.getElem?_append_left c] at hj
        exact keep _ _ ((aw j b hj).same s2)
      · rw [List.getElem?_append_right (by omega)] at hj
        have jj : j - as.length = 0 := by
          have := (List.getElem?_eq_some_iff.mp hj).1
          simp at this
          omega
        rw [jj] at hj
        cases hj
        have : j = i := by omega
        subst this
        exact keep _ _ wa
  · rintro H1 ⟨as, al, e1, s1, aw⟩ fr
    have N := num_of h0 n1
    refine ⟨D, as.map V.ref, fun i => ser (lw h n i n.toNat), rfl, rfl, .of e1, by rw [List.length_map]; omega, fun i y H2 hy e => ?_, fun i y H2 hy hb e => ?_⟩
    · rw [List.getElem?_map] at hy
      obtain ⟨a, ha, rfl⟩ := Option.map_eq_some_iff.mp hy
      have li := (List.getElem?_eq_some_iff.mp ha).1
      exact ⟨a, _, rfl, (aw i a ha).same e, lw_wv h0 h1 n1 n2, fun H3 s3 => ⟨rfl, s3⟩⟩
    · rw [List.getElem?_map] at hy
      obtain ⟨a, ha, rfl⟩ := Option.map_eq_some_iff.mp hy
      have li := (List.getElem?_eq_some_iff.mp ha).1
      have f := N.first (i := i) (by omega) fun j hj => hb j (by rw [List.length_map]; omega)
      have hw := (aw i a ha).same e
      rw [f.1] at hw
      exact k a H2 (s1.trans e) hw

theorem kx_Best {C M : Addr} (Mi : MiT K mg M) (D : Dfn K mg "best_word" sBest ["longs", "length"]) (d_x : KnX P w K mg base 3 "require" ["well_formed", "what"] (spRequireX K C)) (d_require : Kn P w K mg base 1 "require" ["well_formed", "what"] spRequire) (d__is_longs : Kn P w K mg base 3 "_is_longs" ["value"] (spIsW 0 100 K)) (d__is_length : Kn P w K mg base 3 "_is_length" ["value"] (spIsW 1 100 K)) : KnX P w K mg base 4 "best_word" ["longs", "length"] (spBX K C M) := by
  refine KnX.mk' D scBest (fun vs H Q E h => ?_) (fun f cdv A outer s H vs Q E hr h => ?_)
  · rcases h with ⟨a, b, rfl, _⟩ | ⟨h, b, rfl, _⟩ | ⟨h, n, rfl, _⟩ <;> rfl
  rcases h with ⟨a, b, rfl, ha, hb, k⟩ | ⟨h, b, rfl, h0, h1, hb, nb, k⟩ | ⟨h, n, rfl, h0, h1, n0, n1, hm, k⟩
  · refine ⟨_, (pss_cons (ps_expr (pe_knX E d_x hr (by rfl) (takes_of rfl rfl rfl rfl) (fun _ _ _ _ h => h) (pa_cons (pe_kn d__is_longs hr (by rfl) (pa_cons (pv 0) pa_nil)) (pa_cons pe_str pa_nil)))) (pss_cons ps_never (pss_cons ps_never (pss_one ps_never)))), ?_⟩
    refine ⟨_, rfl, a, rfl, ha, ?_⟩
    rw [hb]
    exact ⟨_, rfl, k⟩
  · refine ⟨_, (pss_cons (ps_expr (pe_kn d_require hr (by rfl) (pa_cons (pe_kn d__is_longs hr (by rfl) (pa_cons (pv 0) pa_nil)) (pa_cons pe_str pa_nil)))) (pss_cons (ps_expr (pe_knX E d_x hr (by rfl) (takes_of rfl rfl rfl rfl) (fun _ _ _ _ h => h) (pa_cons (pe_kn d__is_length hr (by rfl) (pa_cons (pv 1) pa_nil)) (pa_cons pe_str pa_nil)))) (pss_cons ps_never (pss_one ps_never)))), ?_⟩
    refine ⟨_, rfl, _, rfl, Wh.int h, ?_⟩
    rw [inB_yes h0 h1]
    refine ⟨_, rfl, ?_⟩
    refine ⟨_, rfl, b, rfl, hb, ?_⟩
    rw [nb]
    exact ⟨_, rfl, k⟩
  · obtain ⟨Bb, newId, initId, bmB, F0, q0⟩ := Mi.ex
    refine ⟨_, (pss_cons (ps_expr (pe_kn d_require hr (by rfl) (pa_cons (pe_kn d__is_longs hr (by rfl) (pa_cons (pv 0) pa_nil)) (pa_cons pe_str pa_nil)))) (pss_cons (ps_expr (pe_kn d_require hr (by rfl) (pa_cons (pe_kn d__is_length hr (by rfl) (pa_cons (pv 1) pa_nil)) (pa_cons pe_str pa_nil)))) (pss_cons (ps_if (pt_cmpR op_gt (pv 0) (pv 1) (nomark _)) (pss_one (ps_raise rfl (takes_of rfl rfl rfl rfl) (pmk_own0 F0 q0 Mi.g Mi.kp (raises_own Mi.sb Mi.ty) (by rfl)))) pss_nil) (pss_one ps_never)))), ?_⟩
    refine ⟨_, rfl, _, rfl, Wh.int h, ?_⟩
    rw [inB_yes h0 h1]
    refine ⟨_, rfl, ?_⟩
    refine ⟨_, rfl, _, rfl, Wh.int n, ?_⟩
    rw [inB_yes n0 n1]
    refine ⟨_, rfl, ?_⟩
    exact ⟨_, rfl, _, rfl, _, _, rfl, rfl, _, rfl, if_yes (decide_eq_true hm) k⟩
end
end My

namespace My
open PySem PySem.Spec PyProof.Rows L2
section
variable {P : Program} {w : World} {K : PySem.W.Frag} {mg : Str → Option Value} {base : Heap}
/-- how far k times the longs are from a multiple of the length -/
def gapv (h n : Int) (k : Nat) : Int := if n - ((k : Int) * h) % n < ((k : Int) * h) % n then n - ((k : Int) * h) % n else ((k : Int) * h) % n
def gapL (h n : Int) (i : Nat) : List Int := (List.range i).map (gapv h n)
theorem gapL_len (h n : Int) (i : Nat) : (gapL h n i).length = i := by unfold gapL; rw [List.length_map, List.length_range]
theorem gapL_s (h n : Int) (i : Nat) : gapL h n (i + 1) = gapL h n i ++ [gapv h n i] := by unfold gapL; rw [List.range_succ, List.map_append]; rfl
theorem gapL_at {h n : Int} {i k : Nat} (hk : k < i) : (gapL h n i)[k]? = some (gapv h n k) := by unfold gapL; rw [List.getElem?_map, List.getElem?_range hk]; rfl
theorem gapL_mem {h n x : Int} {i : Nat} (hx : x ∈ gapL h n i) : ∃ k, k < i ∧ x = gapv h n k := by
  unfold gapL at hx
  obtain ⟨k, hk, rfl⟩ := List.mem_map.mp hx
  exact ⟨k, List.mem_range.mp hk, rfl⟩
theorem gapL_in {h n : Int} {i k : Nat} (hk : k < i) : gapv h n k ∈ gapL h n i := List.mem_of_getElem? (gapL_at hk)
theorem neg_mod {x n : Int} (n1 : 1 ≤ n) : (-x) % n = if x % n = 0 then 0 else n - x % n := by
  have h0 := Int.emod_nonneg x (show n ≠ 0 by omega)
  have h1 := Int.emod_lt_of_pos x (show 0 < n by omega)
  have e := Int.emod_add_mul_ediv x n
  split
  · rename_i z
    exact modu (z := -(x / n)) (by rw [z] at e; grind) (Int.le_refl 0) (by omega)
  · exact modu (z := -(x / n) - 1) (by grind) (by omega) (by omega)
/-- the first that is farthest -/
def GI (h n : Int) (j : Nat) : Prop := (j : Int) < n ∧ gapv h n j = (Int.gcd h n : Nat) * (n / (Int.gcd h n : Nat) / 2) ∧ ∀ i, i < j → gapv h n i ≠ (Int.gcd h n : Nat) * (n / (Int.gcd h n : Nat) / 2)
theorem GI.uniq {h n : Int} {i j : Nat} (a : GI h n i) (b : GI h n j) : i = j := by
  rcases Nat.lt_trichotomy i j with c | c | c
  · exact absurd a.2.1 (b.2.2 i c)
  · exact c
  · exact absurd b.2.1 (a.2.2 j c)
theorem Num.gap_le {h n g m : Int} (N : Num h n g m) (k : Nat) : gapv h n k ≤ g * (m / 2) := by
  obtain ⟨c, hc⟩ := N.dv
  obtain ⟨j, j0, j1, hj⟩ := N.mod_mul ((k : Int) * h) ⟨(k : Int) * c, by rw [hc]; grind⟩
  have e1 := N.e
  have g1 := N.g1
  unfold gapv
  rw [hj]
  have hcase : j ≤ m / 2 ∨ m - j ≤ m / 2 := by omega
  rcases hcase with z | z
  · have h1 : g * j ≤ g * (m / 2) := Int.mul_le_mul_of_nonneg_left z (by omega)
    split <;> omega
  · have h1 : g * (m - j) ≤ g * (m / 2) := Int.mul_le_mul_of_nonneg_left z (by omega)
    have e2 : g * (m - j) = n - g * j := by grind
    split <;> omega
theorem Num.gap_in {h n g m : Int} (N : Num h n g m) : ∃ k : Nat, (k : Int) < n ∧ gapv h n k = g * (m / 2) := by
  obtain ⟨k, k0, k1, z, hz⟩ := N.meet (m / 2) 0
  obtain ⟨kk, rfl⟩ := Int.eq_ofNat_of_zero_le k0
  have e1 := N.e
  have g1 := N.g1
  have m1 := N.m1
  have a0 : 0 ≤ g * (m / 2) := Int.mul_nonneg (by omega) (by omega)
  have a1 : g * (m / 2 + m / 2) ≤ g * m := Int.mul_le_mul_of_nonneg_left (by omega) (by omega)
  have a2 : g * (m / 2 + 1) ≤ g * m := Int.mul_le_mul_of_nonneg_left (by omega) (by omega)
  have e3 : g * (m / 2 + m / 2) = g * (m / 2) + g * (m / 2) := by grind
  have e4 : g * (m / 2 + 1) = g * (m / 2) + g := by grind
  refine ⟨kk, by omega, ?_⟩
  unfold gapv
  rw [modu (x := (kk : Int) * h) (r := g * (m / 2)) (z := -z) (by grind) a0 (by omega)]
  split <;> omega
theorem first_of {p : Nat → Prop} [DecidablePred p] : ∀ {k : Nat}, p k → ∃ j, j ≤ k ∧ p j ∧ ∀ i, i < j → ¬ p i := by
  intro k
  induction k using Nat.strongRecOn with
  | ind k ih =>
    intro hk
    by_cases c : ∃ i, i < k ∧ p i
    · obtain ⟨i, hi, hp⟩ := c
      obtain ⟨j, h1, h2, h3⟩ := ih i hi hp
      exact ⟨j, by omega, h2, h3⟩
    · exact ⟨k, Nat.le_refl _, hk, fun i hi hp => c ⟨i, hi, hp⟩⟩
theorem gi_ex {h n : Int} (h0 : 0 ≤ h) (n1 : 1 ≤ n) : ∃ j, GI h n j := by
  have N := num_of h0 n1
  obtain ⟨k, k1, k2⟩ := N.gap_in
  obtain ⟨j, j1, j2, j3⟩ := first_of (p := fun k => gapv h n k = (Int.gcd h n : Nat) * (n / (Int.gcd h n : Nat) / 2)) k2
  exact ⟨j, by omega, j2, j3⟩
/-- the place of the greatest gap -/
theorem gi_index {h n m : Int} (h0 : 0 ≤ h) (n1 : 1 ≤ n) (hm : m ∈ gapL h n n.toNat) (hle : ∀ y, y ∈ gapL h n n.toNat → y ≤ m) : ∃ j, GI h n j ∧ j < n.toNat ∧ gapv h n j = m ∧ ∀ i, i < j → gapv h n i ≠ m := by
  have N := num_of h0 n1
  obtain ⟨j, hj⟩ := gi_ex h0 n1
  obtain ⟨k, k1, rfl⟩ := gapL_mem hm
  have jl := hj.1
  have e : gapv h n k = (Int.gcd h n : Nat) * (n / (Int.gcd h n : Nat) / 2) := by
    have a := hle _ (gapL_in (show j < n.toNat by omega))
    rw [hj.2.1] at a
    have b := N.gap_le k
    omega
  exact ⟨j, hj, by omega, by rw [e]; exact hj.2.1, fun i hi => by rw [e]; exact hj.2.2 i hi⟩
def spIdx (K : PySem.W.Frag) : Sp := fun vs H Q _ => ∃ h n : Int, vs = [.int h, .int n] ∧ 0 ≤ h ∧ h ≤ n ∧ 1 ≤ n ∧ n ≤ 100 ∧ ∀ j H', Same H H' → GI h n j → Q (.int (j : Int)) H'
abbrev sIdx : Stmt := topS 37
theorem scIdx : FnScope ["longs", "length", "distances", "index"] ["longs", "length"] (defScope sIdx) := ⟨rfl, rfl, rfl, by decide +kernel, rfl, by decide +kernel, by decide +kernel⟩
theorem blk_scIdx_0 : BlkOk ["longs", "length", "distances", "index"] (defScope sIdx) { kind := .function, names := [(".0", .local), ("index", .local), ("min", .globalImplicit), ("length", .free), ("longs", .free)], isGenerator := false, isCoroutine := false, more := [] } [("index", 3)] := ⟨rfl, by decide +kernel, by decide +kernel, by decide +kernel, by decide +kernel⟩
theorem k_Idx (T : Bt K mg) (D : Dfn K mg "best_index" sIdx ["longs", "length"]) (d_require : Kn P w K mg base 1 "require" ["well_formed", "what"] spRequire) (d__is_longs : Kn P w K mg base 3 "_is_longs" ["value"] (spIsW 0 100 K)) (d__is_length : Kn P w K mg base 3 "_is_length" ["value"] (spIsW 1 100 K)) : Kn P w K mg base 4 "best_index" ["longs", "length"] (spIdx K) := by
  refine Kn.mk' D scIdx (fun vs H Q E h => ?_) (fun f cdv A outer s H vs Q E hr h => ?_)
  · obtain ⟨h, n, rfl, _⟩ := h
    rfl
  obtain ⟨h, n, rfl, h0, h1, n1, n2, k⟩ := h
  refine ⟨_, (pss_cons (ps_expr (pe_kn d_require hr (by rfl) (pa_cons (pe_kn d__is_longs hr (by rfl) (pa_cons (pv 0) pa_nil)) (pa_cons pe_str pa_nil))))
      (pss_cons (ps_expr (pe_kn d_require hr (by rfl) (pa_cons (pe_kn d__is_length hr (by rfl) (pa_cons (pv 1) pa_nil)) (pa_cons pe_str pa_nil))))
      (pss_cons (ps_if (pt_cmpR op_gt (pv 0) (pv 1) (nomark _)) (pss_one ps_never) pss_nil)
      (pss_cons (ps_setLcF (i := 2) (own := [("index", 3)]) (g := gName 3) (te := (tCB (fun xs H Q => ∃ i j, xs = [V.int i, V.int j] ∧ Q (V.int (if j < i then j else i)) H) (tCons (tOp (rI (fun _ j => j ≠ 0) fun i j => V.int (i.fmod j)) (tOp (rI CMulW fun i j => V.int (i * j)) (tVar 3) (tVar 0)) (tVar 1)) (tCons (tOp (rI (fun _ j => j ≠ 0) fun i j => V.int (i.fmod j)) (tOp (rI CMulW fun i j => V.int (i * j)) (tUn (rU fun i => V.int (-i)) (tVar 3)) (tVar 0)) (tVar 1)) L2.tNil)))) rfl scIdx.nd rfl rfl (sw_true rfl rfl rfl rfl) (pi_range1 (by rfl) T.b_range (pa_cons (pv 1) pa_nil)) blk_scIdx_0 (fun _ _ _ _ _ => by exact pg_name (i := 3) scIdx.nd rfl (.inl rfl)) (fun _ _ _ _ _ => pts_nil) (fun _ _ _ _ _ => by exact (pe_callB (call_min2 rfl) (by rfl) T.b_min (by decide +kernel) (pa_cons (pe_op op_modN (pe_op op_mulW (pv 3) (pv 0)) (pv 1)) (pa_cons (pe_op op_modN (pe_op op_mulW (pe_un un_neg (pv 3)) (pv 0)) (pv 1)) pa_nil)))))
      (pss_one (ps_ret (pe_bm PySem.F.plainAttrs_list PySem.F.slot_list_index PySem.F.type_list_index mt_index (pv 2) (pa_cons (pe_callB (cr_max rfl) (by rfl) T.b_max (by decide +kernel) (pa_cons (pv 2) pa_nil)) pa_nil)))))))), ?_⟩
  simp only [cx_K]
  refine ⟨_, rfl, _, rfl, Wh.int h, ?_⟩
  rw [inB_yes h0 (show h ≤ 100 by omega)]
  refine ⟨_, rfl, ?_⟩
  refine ⟨_, rfl, _, rfl, Wh.int n, ?_⟩
  rw [inB_yes n1 n2]
  refine ⟨_, rfl, ?_⟩
  refine ⟨_, rfl, _, rfl, _, _, rfl, rfl, _, rfl, if_no (decide_eq_false (by omega)) ?_⟩
  refine ⟨_, rfl, _, rfl, by show -(2 ^ 62) ≤ n; omega, by show n < 2 ^ 62; omega, fun D hD => lc_range (lo := 0) (n := n.toNat) (fun i H' => H' D = some (.lst ((gapL h n i).map V.int)) ∧ Same H H') ⟨upd_same, Same.new hD _⟩ ?_ ?_⟩
  · rintro i H' hi ⟨e1, s1⟩
    refine ⟨rfl, ?_⟩
    simp only [tYes, if_true]
    rw [Int.zero_add]
    refine ⟨_, rfl, _, rfl, _, _, rfl, rfl, mulW (a := 10) (b := 10) (by omega) (by omega) (by decide), _, rfl, _, _, rfl, rfl, by omega, _, rfl, _, rfl, _, rfl, _, _, rfl, rfl, mulW (a := 10) (b := 10) (by omega) (by omega) (by decide), _, rfl, _, _, rfl, rfl, by omega, _, _, rfl, _, e1, by rw [List.length_map, gapL_len, sizeLine_eq]; omega, ?_, fun b o e => ?_⟩
    · rw [upd_same, gapL_s, List.map_append]
      have e : (if ((-(i : Int)) * h).fmod n < ((i : Int) * h).fmod n then ((-(i : Int)) * h).fmod n else ((i : Int) * h).fmod n) = gapv h n i := by
        rw [Int.fmod_eq_emod_of_nonneg _ (by omega), Int.fmod_eq_emod_of_nonneg _ (by omega), Int.neg_mul, neg_mod n1]
        have h2 := Int.emod_nonneg ((i : Int) * h) (show n ≠ 0 by omega)
        have h3 := Int.emod_lt_of_pos ((i : Int) * h) (show 0 < n by omega)
        unfold gapv
        repeat' split
        all_goals omega
      show some (HO.lst ((gapL h n i).map V.int ++ [V.int (if ((-(i : Int)) * h).fmod n < ((i : Int) * h).fmod n then ((-(i : Int)) * h).fmod n else ((i : Int) * h).fmod n)])) = _
      rw [e]
      rfl
    · rw [upd_ne (ne_of_none e hD)]
      exact s1 _ _ e
  · rintro H1 ⟨e1, s1⟩ fr
    refine ⟨_, rfl, .inl ⟨rfl, _, .of e1⟩, _, rfl, D, gapL h n n.toNat, rfl, .of e1, by rw [gapL_len]; omega, fun m hm hle => ?_⟩
    obtain ⟨j, hj, jl, je, jn⟩ := gi_index h0 n1 hm hle
    refine ⟨D, (gapL h n n.toNat).map V.int, .int m, j, .int (gapv h n j), rfl, rfl, .of e1, rfl, ?_, ?_, ?_, fun i z hi hz => ?_, k j _ s1 hj⟩
    · exact List.all_eq_true.mpr fun x hx => by
        obtain ⟨u, _, rfl⟩ := List.mem_map.mp hx
        rfl
    · rw [List.getElem?_map, gapL_at jl]
      rfl
    · rw [je]
      exact beq_self_eq_true m
    · rw [List.getElem?_map, gapL_at (show i < n.toNat by omega)] at hz
      cases hz
      exact beq_eq_false_iff_ne.mpr (jn i hi)

theorem kx_Idx {C M : Addr} (Mi : MiT K mg M) (D : Dfn K mg "best_index" sIdx ["longs", "length"]) (d_x : KnX P w K mg base 3 "require" ["well_formed", "what"] (spRequireX K C)) (d_require : Kn P w K mg base 1 "require" ["well_formed", "what"] spRequire) (d__is_longs : Kn P w K mg base 3 "_is_longs" ["value"] (spIsW 0 100 K)) (d__is_length : Kn P w K mg base 3 "_is_length" ["value"] (spIsW 1 100 K)) : KnX P w K mg base 4 "best_index" ["longs", "length"] (spBX K C M) := by
  refine KnX.mk' D scIdx (fun vs H Q E h => ?_) (fun f cdv A outer s H vs Q E hr h => ?_)
  · rcases h with ⟨a, b, rfl, _⟩ | ⟨h, b, rfl, _⟩ | ⟨h, n, rfl, _⟩ <;> rfl
  rcases h with ⟨a, b, rfl, ha, hb, k⟩ | ⟨h, b, rfl, h0, h1, hb, nb, k⟩ | ⟨h, n, rfl, h0, h1, n0, n1, hm, k⟩
  · refine ⟨_, (pss_cons (ps_expr (pe_knX E d_x hr (by rfl) (takes_of rfl rfl rfl rfl) (fun _ _ _ _ h => h) (pa_cons (pe_kn d__is_longs hr (by rfl) (pa_cons (pv 0) pa_nil)) (pa_cons pe_str pa_nil)))) (pss_cons ps_never (pss_cons ps_never (pss_cons ps_never (pss_one ps_never))))), ?_⟩
    refine ⟨_, rfl, a, rfl, ha, ?_⟩
    rw [hb]
    exact ⟨_, rfl, k⟩
  · refine ⟨_, (pss_cons (ps_expr (pe_kn d_require hr (by rfl) (pa_cons (pe_kn d__is_longs hr (by rfl) (pa_cons (pv 0) pa_nil)) (pa_cons pe_str pa_nil)))) (pss_cons (ps_expr (pe_knX E d_x hr (by rfl) (takes_of rfl rfl rfl rfl) (fun _ _ _ _ h => h) (pa_cons (pe_kn d__is_length hr (by rfl) (pa_cons (pv 1) pa_nil)) (pa_cons pe_str pa_nil)))) (pss_cons ps_never (pss_cons ps_never (pss_one ps_never))))), ?_⟩
    refine ⟨_, rfl, _, rfl, Wh.int h, ?_⟩
    rw [inB_yes h0 h1]
    refine ⟨_, rfl, ?_⟩
    refine ⟨_, rfl, b, rfl, hb, ?_⟩
    rw [nb]
    exact ⟨_, rfl, k⟩
  · obtain ⟨Bb, newId, initId, bmB, F0, q0⟩ := Mi.ex
    refine ⟨_, (pss_cons (ps_expr (pe_kn d_require hr (by rfl) (pa_cons (pe_kn d__is_longs hr (by rfl) (pa_cons (pv 0) pa_nil)) (pa_cons pe_str pa_nil)))) (pss_cons (ps_expr (pe_kn d_require hr (by rfl) (pa_cons (pe_kn d__is_length hr (by rfl) (pa_cons (pv 1) pa_nil)) (pa_cons pe_str pa_nil)))) (pss_cons (ps_if (pt_cmpR op_gt (pv 0) (pv 1) (nomark _)) (pss_one (ps_raise rfl (takes_of rfl rfl rfl rfl) (pmk_own0 F0 q0 Mi.g Mi.kp (raises_own Mi.sb Mi.ty) (by rfl)))) pss_nil) (pss_cons ps_never (pss_one ps_never))))), ?_⟩
    refine ⟨_, rfl, _, rfl, Wh.int h, ?_⟩
    rw [inB_yes h0 h1]
    refine ⟨_, rfl, ?_⟩
    refine ⟨_, rfl, _, rfl, Wh.int n, ?_⟩
    rw [inB_yes n0 n1]
    refine ⟨_, rfl, ?_⟩
    exact ⟨_, rfl, _, rfl, _, _, rfl, rfl, _, rfl, if_yes (decide_eq_true hm) k⟩
abbrev sIxD : Stmt := topS 68
theorem scIxD : FnScope ["_law_longs_here", "_law_length", "_law_rests", "_law_gaps", "_law_k", "_law_rest"] ["_law_longs_here", "_law_length"] (defScope sIxD) := ⟨rfl, rfl, rfl, by decide +kernel, rfl, by decide +kernel, by decide +kernel⟩
theorem blk_scIxD_0 : BlkOk ["_law_longs_here", "_law_length", "_law_rests", "_law_gaps", "_law_k", "_law_rest"] (defScope sIxD) { kind := .function, names := [(".0", .local), ("_law_k", .local), ("int", .globalImplicit), ("_law_length", .free), ("_law_longs_here", .free)], isGenerator := false, isCoroutine := false, more := [] } [("_law_k", 4)] := ⟨rfl, by decide +kernel, by decide +kernel, by decide +kernel, by decide +kernel⟩
theorem blk_scIxD_1 : BlkOk ["_law_longs_here", "_law_length", "_law_rests", "_law_gaps", "_law_k", "_law_rest"] (defScope sIxD) { kind := .function, names := [(".0", .local), ("_law_rest", .local), ("min", .globalImplicit), ("_law_length", .free)], isGenerator := false, isCoroutine := false, more := [] } [("_law_rest", 5)] := ⟨rfl, by decide +kernel, by decide +kernel, by decide +kernel, by decide +kernel⟩
theorem k_IxD (T : Bt K mg) (D : Dfn K mg "_law_index_due" sIxD ["_law_longs_here", "_law_length"]) : Kn P w K mg base 1 "_law_index_due" ["_law_longs_here", "_law_length"] (spIdx K) := by
  refine Kn.mk' D scIxD (fun vs H Q E h => ?_) (fun f cdv A outer s H vs Q E hr h => ?_)
  · obtain ⟨h, n, rfl, _⟩ := h
    rfl
  obtain ⟨h, n, rfl, h0, h1, n1, n2, k⟩ := h
  refine ⟨_, (pss_cons (ps_setLcF (i := 2) (own := [("_law_k", 4)]) (g := gName 4) (te := (tOp (rI (fun _ j => j ≠ 0) fun i j => V.int (i.fmod j)) (tCB (fun xs H Q => (∃ i, xs = [V.int i] ∧ Q (V.int i) H) ∨ ∃ k, xs = [V.bl k] ∧ Q (V.int (if k then 1 else 0)) H) (tCons (tOp (rI CMulW fun i j => V.int (i * j)) (tVar 4) (tVar 0)) L2.tNil)) (tVar 1))) rfl scIxD.nd rfl rfl (sw_true rfl rfl rfl rfl) (pi_range1 (by rfl) T.b_range (pa_cons (pv 1) pa_nil)) blk_scIxD_0 (fun _ _ _ _ _ => by exact pg_name (i := 4) scIxD.nd rfl (.inl rfl)) (fun _ _ _ _ _ => pts_nil) (fun _ _ _ _ _ => by exact (pe_op op_modN (pe_callTy call_int1 (by rfl) T.b_int (by decide +kernel) (pa_cons (pe_op op_mulW (pv 4) (pv 0)) pa_nil)) (pv 1))))
      (pss_cons (ps_setLcF (i := 3) (own := [("_law_rest", 5)]) (g := gName 5) (te := (tCB (fun xs H Q => ∃ i j, xs = [V.int i, V.int j] ∧ Q (V.int (if j < i then j else i)) H) (tCons (tVar 5) (tCons (tOp (rI0 fun i j => V.int (i - j)) (tVar 1) (tVar 5)) L2.tNil)))) rfl scIxD.nd rfl rfl (sw_true rfl rfl rfl rfl) (pi_list (pv 2)) blk_scIxD_1 (fun _ _ _ _ _ => by exact pg_name (i := 5) scIxD.nd rfl (.inl rfl)) (fun _ _ _ _ _ => pts_nil) (fun _ _ _ _ _ => by exact (pe_callB (call_min2 rfl) (by rfl) T.b_min (by decide +kernel) (pa_cons (pv 5) (pa_cons (pe_op op_sub (pv 1) (pv 5)) pa_nil)))))
      (pss_one (ps_ret (pe_bm PySem.F.plainAttrs_list PySem.F.slot_list_index PySem.F.type_list_index mt_index (pv 3) (pa_cons (pe_callB (cr_max rfl) (by rfl) T.b_max (by decide +kernel) (pa_cons (pv 3) pa_nil)) pa_nil)))))), ?_⟩
  simp only [cx_K]
  refine ⟨_, rfl, _, rfl, by show -(2 ^ 62) ≤ n; omega, by show n < 2 ^ 62; omega, fun D0 hD0 => lc_range (lo := 0) (n := n.toNat) (fun i H' => H' D0 = some (.lst (((List.range i).map fun (k : Nat) => ((k : Int) * h) % n).map V.int)) ∧ Same H H') ⟨upd_same, Same.new hD0 _⟩ ?_ ?_⟩
  · rintro i H' hi ⟨e1, s1⟩
    refine ⟨rfl, ?_⟩
    simp only [tYes, if_true]
    rw [Int.zero_add]
    refine ⟨_, rfl, _, rfl, _, _, rfl, rfl, mulW (a := 10) (b := 10) (by omega) (by omega) (by decide), .inl ⟨_, rfl, _, rfl, _, _, rfl, rfl, by omega, _, e1, by rw [List.length_map, List.length_map, List.length_range, sizeLine_eq]; omega, ?_, fun b o e => ?_⟩⟩
    · rw [upd_same, List.range_succ, List.map_append, List.map_append]
      show some (HO.lst (_ ++ [V.int (((i : Int) * h).fmod n)])) = _
      rw [Int.fmod_eq_emod_of_nonneg _ (by omega)]
      rfl
    · rw [upd_ne (ne_of_none e hD0)]
      exact s1 _ _ e
  rintro H1 ⟨e0, s0⟩ fr0
  have l0 : ((List.range n.toNat).map fun (k : Nat) => ((k : Int) * h) % n).length = n.toNat := by rw [List.length_map, List.length_range]
  refine ⟨_, rfl, D0, rfl, ⟨_, .of e0⟩, fun D hD => lc_list (xs := ((List.range n.toNat).map fun (k : Nat) => ((k : Int) * h) % n).map V.int) (fun i H' => H' D = some (.lst ((gapL h n i).map V.int)) ∧ Same H1 H') ⟨upd_same, Same.new hD _⟩ (fun i H' _ h => .of (h.2 _ _ e0)) ?_ ?_⟩
  · rintro i x H' hi ⟨e1, s1⟩
    have li := (List.getElem?_eq_some_iff.mp hi).1
    rw [List.length_map, l0] at li
    have hx : x = .int (((i : Int) * h) % n) := by
      rw [List.getElem?_map, List.getElem?_map, List.getElem?_range li] at hi
      exact (Option.some.inj hi).symm
    subst hx
    refine ⟨rfl, ?_⟩
    simp only [tYes, if_true]
    refine ⟨_, rfl, _, rfl, _, rfl, _, _, rfl, rfl, _, _, rfl, _, e1, by rw [List.length_map, gapL_len, sizeLine_eq]; omega, ?_, fun b o e => ?_⟩
    · rw [upd_same, gapL_s, List.map_append]
      rfl
    · rw [upd_ne (ne_of_none e hD)]
      exact s1 _ _ e
  · rintro H2 ⟨e1, s1⟩ fr
    rw [List.length_map, l0] at e1
    refine ⟨_, rfl, .inl ⟨rfl, _, .of e1⟩, _, rfl, D, gapL h n n.toNat, rfl, .of e1, by rw [gapL_len]; omega, fun m hm hle => ?_⟩
    obtain ⟨j, hj, jl, je, jn⟩ := gi_index h0 n1 hm hle
    refine ⟨D, (gapL h n n.toNat).map V.int, .int m, j, .int (gapv h n j), rfl, rfl, .of e1, rfl, ?_, ?_, ?_, fun i z hi hz => ?_, k j _ (s0.trans s1) hj⟩
    · exact List.all_eq_true.mpr fun x hx => by
        obtain ⟨u, _, rfl⟩ := List.mem_map.mp hx
        rfl
    · rw [List.getElem?_map, gapL_at jl]
      rfl
    · rw [je]
      exact beq_self_eq_true m
    · rw [List.getElem?_map, gapL_at (show i < n.toNat by omega)] at hz
      cases hz
      exact beq_eq_false_iff_ne.mpr (jn i hi)

abbrev sBsD : Stmt := topS 67
theorem scBsD : FnScope ["_law_longs_here", "_law_length", "_law_common"] ["_law_longs_here", "_law_length"] (defScope sBsD) := ⟨rfl, rfl, rfl, by decide +kernel, rfl, by decide +kernel, by decide +kernel⟩
theorem k_BsD (T : Bt K mg) (D : Dfn K mg "_law_best_due" sBsD ["_law_longs_here", "_law_length"]) (d__law_gcd : Kn P w K mg base 1 "_law_gcd" ["_law_left", "_law_right"] spGcd) (d__law_leap_items : Kn P w K mg base 1 "_law_leap_items" ["_law_longs_here", "_law_length", "_law_turn"] (spLIt K)) : Kn P w K mg base 2 "_law_best_due" ["_law_longs_here", "_law_length"] (spBest K) := by
  refine Kn.mk' D scBsD (fun vs H Q E h => ?_) (fun f cdv A outer s H vs Q E hr h => ?_)
  · obtain ⟨h, n, rfl, _⟩ := h
    rfl
  obtain ⟨h, n, rfl, h0, h1, n1, n2, k⟩ := h
  refine ⟨_, (pss_cons (ps_set (i := 2) scBsD.nd rfl (.inl rfl) (pe_kn d__law_gcd hr (by rfl) (pa_cons (pv 0) (pa_cons (pv 1) pa_nil))))
      (pss_one (ps_ret (pe_kn d__law_leap_items hr (by rfl) (pa_cons (pv 0) (pa_cons (pv 1) (pa_cons (pe_op op_mulW (pe_op op_fdiv (pe_op op_sub (pe_op op_fdivX (pv 1) (pv 2)) pe_int) pe_int) (pv 2)) pa_nil))))))), ?_⟩
  have N := num_of h0 n1
  have g1 := N.g1
  have m1 := N.m1
  have e1 := N.e
  have gle : (Int.gcd h n : Nat) ≤ n := by
    have : (Int.gcd h n : Nat) * 1 ≤ (Int.gcd h n : Nat) * (n / (Int.gcd h n : Nat)) := Int.mul_le_mul_of_nonneg_left m1 (by omega)
    omega
  refine ⟨_, rfl, _, rfl, h, n, rfl, ?_⟩
  have hf : n.fdiv (Int.gcd h n : Nat) = n / (Int.gcd h n : Nat) := Int.fdiv_eq_ediv_of_nonneg n (by omega)
  have mn : n / (Int.gcd h n : Nat) ≤ n := Int.ediv_le_self _ (by omega)
  have b0 : 0 ≤ bt h n := Int.mul_nonneg (by omega) (by omega)
  have b1 : bt h n ≤ n := by
    have : (Int.gcd h n : Nat) * ((n / (Int.gcd h n : Nat) - 1) / 2) ≤ (Int.gcd h n : Nat) * (n / (Int.gcd h n : Nat)) := Int.mul_le_mul_of_nonneg_left (by omega) (by omega)
    have e : bt h n = (Int.gcd h n : Nat) * ((n / (Int.gcd h n : Nat) - 1) / 2) := Int.mul_comm _ _
    omega
  refine ⟨_, rfl, _, rfl, _, rfl, _, rfl, _, _, rfl, rfl, ⟨by omega, szMono (a := 10) (by omega) (by decide)⟩, _, _, rfl, rfl, _, _, rfl, rfl, by unfold CDiv; omega, _, rfl, _, _, rfl, rfl, ?_⟩
  rw [hf]
  refine ⟨mulW (a := 10) (b := 10) (by omega) (by omega) (by decide), h, n, bt h n, rfl, h0, by omega, n1, by omega, b0, by omega, fun a H' s hw => k a H' s hw⟩

end
end My

namespace MyRT
open PySem PyProof.Rows HT
section
variable {prog : Program} {w : World} {A : Around} {E : Value → Shared → Prop} {s : Shared}
theorem adjust_rev (n : Nat) : Builtin.Slice.sliceAdjust none none (-1) (n : Int) = ((n : Int) - 1, -1) := rfl
theorem places_rev (n : Nat) : Builtin.Slice.slicePlaces ((n : Int) - 1) (-1) (-1) = n := by
  unfold Builtin.Slice.slicePlaces
  rw [if_neg (by decide)]
  have e : (- (-1 : Int)) = 1 := by decide
  rw [e, Int.ediv_one]
  split <;> omega
theorem applied_rev {sl : Addr} {vl vu vs : Value} {n : Nat} {Q : Int × Int × Nat → Shared → Prop} (hs : s.heap.IsSliceOf sl vl vu vs) (pl : IsPart vl none) (pu : IsPart vu none) (ps : IsPart vs (some (-1)))
    (h : Q ((n : Int) - 1, -1, n) s) : wpAny (model prog w) A (Builtin.Slice.sliceApplied (.ref sl) (pure (n : Int))) Q E s := by
  obtain ⟨os, hos, hcs, hds⟩ := id hs
  unfold Builtin.Slice.sliceApplied Builtin.Slice.sliceFields
  refine wpAny_bind (wpAny_bind (wpAny_field hos hds (x := vl) rfl (wpAny_bind (wpAny_field hos hds (x := vu) rfl (wpAny_bind (wpAny_field hos hds (x := vs) rfl (wpAny_pure ?_)))))))
  refine wpAny_bind (slicePart_ ps ?_)
  show wpAny _ _ (if ((-1 : Int) == 0) = true then _ else _) _ _ s
  rw [if_neg (by decide)]
  refine wpAny_bind (slicePart_ pl (wpAny_bind (slicePart_ pu (wpAny_bind (wpAny_pure ?_)))))
  show wpAny _ _ (match Builtin.Slice.sliceAdjust none none (-1) (n : Int) with | (lo, hi) => pure (lo, (-1 : Int), Builtin.Slice.slicePlaces lo hi (-1))) _ _ s
  rw [adjust_rev]
  show wpAny _ _ (pure ((n : Int) - 1, (-1 : Int), Builtin.Slice.slicePlaces ((n : Int) - 1) (-1) (-1))) _ _ s
  rw [places_rev]
  exact wpAny_pure h
theorem fm_congr2 {α β : Type} {f g : α → Option β} : ∀ {l : List α}, (∀ x ∈ l, f x = g x) → l.filterMap f = l.filterMap g
  | [], _ => rfl
  | x :: l, h => by
    rw [List.filterMap_cons, List.filterMap_cons, h x List.mem_cons_self, fm_congr2 (l := l) fun y hy => h y (List.mem_cons_of_mem _ hy)]
theorem pick_rev (xs : Array Value) : ((List.range xs.size).filterMap fun (k : Nat) => xs[((xs.size : Int) - 1 + (k : Int) * (-1)).toNat]?).toArray = xs.toList.reverse.toArray := by
  have e : ((List.range xs.size).filterMap fun (k : Nat) => xs[((xs.size : Int) - 1 + (k : Int) * (-1)).toNat]?) = ((List.range xs.size).map (fun k => xs.size - 1 - k)).filterMap (xs[·]?) := by
    rw [List.filterMap_map]
    refine fm_congr2 fun k hk => ?_
    have := List.mem_range.mp hk
    have e2 : ((xs.size : Int) - 1 + (k : Int) * (-1)).toNat = xs.size - 1 - k := by omega
    rw [e2]
    rfl
  rw [e, PySem.W.krv_range, List.filterMap_reverse]
  have := PySem.W.krv_all xs
  rw [this]
theorem getItem_rev {t sl : Addr} {items : Array Value} {vl vu vs : Value} {Q : Value → Shared → Prop} (ht : IsTup s.heap t items) (hs : s.heap.IsSliceOf sl vl vu vs) (pl : IsPart vl none) (pu : IsPart vu none) (ps : IsPart vs (some (-1)))
    (h : Q (.ref s.heap.objs.size) { s with heap := s.heap.push { cls := .type "tuple", data := .seq items.toList.reverse.toArray } })
    (hsz : items.size ≤ sizeLine) : wpAny (model prog w) A (getItem (.ref t) (.ref sl)) Q E s := by
  have htake : sizeOk (.seq items.toList.reverse.toArray) := by
    show items.toList.reverse.toArray.size ≤ sizeLine
    rw [List.size_toArray, List.length_reverse, Array.length_toList]
    exact hsz
  obtain ⟨os, hos, hcs, hds⟩ := id hs
  have hTs : s.TypeIs (.ref sl) "slice" := ⟨os, hos, hcs⟩
  unfold getItem
  try with_reducible refine wpAny_holding ?_
  first | refine wpAny_bind (wpAny_pure ?_) | skip
  refine wpAny_bind (wpAny_sequenceKey ht.typeIs (by decide) ?_)
  refine wpAny_bind (wpAny_callSpecial?_slot (name := Str.ofString "__getitem__") ht.typeIs PyProof.Rows.slot_tuple_getitem
    (wpAny_call_entry PyProof.Rows.slot_tuple_getitem ht.typeIs entry_tuple_getitem ?_ (args_tuple_getitem _ _)))
  show wpAny _ _ (Builtin.Tuple.tupleItemsOf (.ref t) >>= _) _ _ s
  refine wpAny_bind (tupleItemsOf_ ht ?_)
  refine wpAny_bind (wpAny_typeOf hTs ?_)
  rw [if_pos (by decide)]
  refine wpAny_bind (applied_rev hs pl pu ps ?_)
  have hno : ¬ ((((items.size : Int) - 1) == 0 && (-1 : Int) == 1 && items.size == items.size) = true) := by
    intro q
    rw [Bool.and_eq_true, Bool.and_eq_true] at q
    exact absurd (eq_of_beq q.1.2) (by decide)
  show wpAny _ _ (if (((items.size : Int) - 1) == 0 && (-1 : Int) == 1 && items.size == items.size) = true then _ else _) _ _ s
  rw [if_neg hno, pick_rev]
  first
    | exact wpAny_bind (m := Builtin.Tuple.tupleExact _) (wpAny_newObj_type (wpAny_pure ⟨_, rfl, wpAny_pure h⟩) htake)
    | exact wpAny_bind (m := Builtin.Tuple.tupleExact _) (wpAny_newObj_type (wpAny_bind (wpAny_pure (wpAny_pure ⟨_, rfl, wpAny_pure h⟩))) htake)
    | exact wpAny_bind (wpAny_bind (m := Builtin.Tuple.tupleExact _) (wpAny_newObj_type (wpAny_pure (wpAny_pure ⟨_, rfl, wpAny_pure h⟩)) htake))
    | exact wpAny_bind (wpAny_bind (m := Builtin.Tuple.tupleExact _) (wpAny_newObj_type (wpAny_pure ⟨_, rfl, wpAny_pure h⟩) htake))
end
end MyRT
namespace L2
open PySem PySem.Spec PyProof.Rows
/-! ### t[::-1] -/
def tRevT (K : PySem.W.Frag) (te : TE) : TE := fun σ H Q => te σ H fun x H1 => ∃ a xs, x = .ref a ∧ SqT K H1 a xs ∧ ∀ p, H1 p = none → Q (.ref p) (upd H1 p (.tup xs.reverse))
theorem pe_revT {X : Cx} {e : Expr} {te : TE} {k : Nat} {p1 p2 p3 pos : Pos} (he : PE X e te) : PE X (.Subscript e (.Slice none none (some (.UnaryOp .USub (.Constant (.int 1) k p1) p2)) p3) pos) (tRevT X.K te) := by
  refine ⟨fun pins s σ H Q I h => ?_⟩
  refine Subscript_ (thn (he.run pins s σ H _ I h) fun v s1 ⟨x, H1, I1, r1, q1⟩ => ?_)
  obtain ⟨a, xs, ex, hx, q⟩ := q1
  subst ex
  cases r1
  have hst : PO X (some (.UnaryOp .USub (.Constant (.int 1) k p1) p2)) (tPart (tUn (rU fun i => .int (-i)) (tC (.int 1)))) := po_some (pe_un un_neg pe_int)
  refine wpAny_Slice (thn (po_none.run pins s1 σ H1 (fun o H2 => o = none ∧ H2 = H1) I1 ⟨rfl, rfl⟩) fun vl s2 ⟨l, H2, I2, pl, el, e2⟩ => ?_)
  subst el e2
  refine thn (po_none.run pins s2 σ H2 (fun o H3 => o = none ∧ H3 = H2) I2 ⟨rfl, rfl⟩) fun vu s3 ⟨u, H3, I3, pu, eu, e3⟩ => ?_
  subst eu e3
  refine thn (hst.run pins s3 σ H3 (fun o H4 => o = some (-1) ∧ H4 = H3) I3 ⟨1, rfl, -1, rfl, rfl, rfl⟩) fun vs s4 ⟨o, H4, I4, ps, eo, e4⟩ => ?_
  subst eo e4
  have I5 : Inv X pins σ H4 { s4 with heap := s4.heap.push { cls := .type "slice", data := .fields #[vl, vu, vs] } } := I4.kept (t' := s4.toks) fun b ob q => Heap.get?_push_of_some _ q
  obtain ⟨its, r, ht, hz⟩ := I5.tuple hx
  have hlen := r.length
  show wpAny (model X.prog X.w) X.A (subscriptTail e (.Slice none none (some (.UnaryOp .USub (.Constant (.int 1) k p1) p2)) p3) (.ref a) (.ref s4.heap.objs.size)) (EP X pins σ Q) X.xe { s4 with heap := s4.heap.push { cls := .type "slice", data := .fields #[vl, vu, vs] } }
  refine tail_any (ops := [.ref a, .ref s4.heap.objs.size]) ht.typeIs (PyProof.Rows.slot_tuple_getitem.lookup) ?_ (by with_unfolding_all rfl)
  refine MyRT.getItem_rev ht (Heap.IsSliceOf.new _ vl vu vs) pl pu ps ?_ (by rw [List.size_toArray]; omega)
  refine ⟨.ref _, _, I5.laid (t' := s4.toks) (o := .tup xs.reverse) (fun b ob q => Heap.get?_push_of_some _ q) (Nat.le_refl _) ?_, rfl, q _ (I5.hok.fresh (Nat.le_refl _))⟩
  exact ⟨by rw [List.length_reverse]; exact hz, _, r.reverse, ⟨_, Heap.get?_push_size _ rfl, rfl, 0, rfl⟩⟩
end L2

namespace My
open PySem PySem.Spec PyProof.Rows L2
section
variable {P : Program} {w : World} {K : PySem.W.Frag} {mg : Str → Option Value} {base : Heap}
theorem perm_eraseIdx {α : Type} (l : List α) (i : Nat) (h : i < l.length) : (l[i] :: l.eraseIdx i).Perm l := by
  rw [List.eraseIdx_eq_take_drop_succ]
  have e : l = l.take i ++ l[i] :: l.drop (i + 1) := by simp
  exact (List.perm_middle.symm).trans (List.Perm.of_eq e.symm)
def spShuf (K : PySem.W.Frag) : Sp := fun vs H Q _ => ∃ (s r : Addr) (xs : List V), vs = [.ref s, .ref r] ∧ Sto K H s ∧ ob K H r = some (.tup xs) ∧ xs.length ≤ 100 ∧ ∀ D ys H', ys.Perm xs → H' D = some (.lst ys) → H D = none → K.lookup D = none → Kp s H H' → Sto K H' s → Q (.ref D) H'
abbrev sShuf : Stmt := topS 51
theorem scShuf : FnScope ["_law_store_here", "_law_row", "_law_rest", "_law_out", "_law_k"] ["_law_store_here", "_law_row"] (defScope sShuf) := ⟨rfl, rfl, rfl, by decide +kernel, rfl, by decide +kernel, by decide +kernel⟩
theorem k_Shuf (T : Bt K mg) (D : Dfn K mg "_law_shuffled" sShuf ["_law_store_here", "_law_row"]) (d__law_take : Kn P w K mg base 2 "_law_take" ["_law_store_here", "_law_many"] (spTake K)) : Kn P w K mg base 3 "_law_shuffled" ["_law_store_here", "_law_row"] (spShuf K) := by
  refine Kn.mk' D scShuf (fun vs H Q E h => ?_) (fun f cdv A outer s H vs Q E hr h => ?_)
  · obtain ⟨s, r, xs, rfl, _⟩ := h
    rfl
  obtain ⟨s, r, xs, rfl, hS, hr0, l, k⟩ := h
  refine ⟨_, (pss_cons (ps_set (i := 2) scShuf.nd rfl (.inl rfl) (pe_fr (pe_callTy call_list_of (by rfl) T.b_list (by decide +kernel) (pa_cons (pv 1) pa_nil))))
      (pss_cons (ps_set (i := 3) scShuf.nd rfl (.inl rfl) (pe_ls pa_nil))
      (pss_cons (ps_for PassesOwn.never rfl (pi_range1 (by rfl) T.b_range (pa_cons (pe_callB call_lenA (by rfl) T.b_len PySem.boot_len (pa_cons (pv 1) pa_nil)) pa_nil)) (pg_name (i := 4) scShuf.nd rfl (.inl rfl)) (pss_one (ps_expr (pe_bm PySem.F.plainAttrs_list PySem.F.slot_list_append PySem.F.type_list_append mt_append (pv 3) (pa_cons (pe_bm PySem.F.plainAttrs_list PySem.F.slot_list_pop PySem.F.type_list_pop mt_popAt (pv 2) (pa_cons (pe_kn d__law_take hr (by rfl) (pa_cons (pv 0) (pa_cons (pe_callB call_lenA (by rfl) T.b_len PySem.boot_len (pa_cons (pv 2) pa_nil)) pa_nil))) pa_nil)) pa_nil)))))
      (pss_one (ps_ret (pv 3)))))), ?_⟩
  simp only [cx_K]
  refine ⟨_, rfl, r, xs, rfl, (.inr (ob_tup hr0)), fun L hL frL => ?_⟩
  have kL : K.lookup L = none := frL L (by rw [upd_same]; simp)
  clear frL
  have s1 := Same.new hL (.lst xs)
  have e1 : upd H L (.lst xs) L = some (.lst xs) := upd_same
  generalize upd H L (.lst xs) = H1 at s1 e1 ⊢
  refine ⟨sz2 (by show 0 ≤ 100; decide), fun D hD kD => ?_⟩
  have nLD : L ≠ D := ne_of_none e1 hD
  have hD0 : H D = none := Same.free s1 hD
  have s2 := s1.trans (Same.new hD (.lst []))
  have e2 : upd H1 D (.lst []) L = some (.lst xs) := by rw [upd_ne nLD]; exact e1
  have e3 : upd H1 D (.lst []) D = some (.lst []) := upd_same
  generalize upd H1 D (.lst []) = H2 at s2 e2 e3 ⊢
  clear s1 e1 hD
  have hr2 := ob_same s2 hr0
  refine ⟨_, rfl, r, rfl, xs, itsO_of hr2, _, rfl, by omega, by omega, forI_range (lo := 0) (n := (xs.length : Int).toNat) (fun i σ H' => ∃ x4 rest out, σ = [some (V.ref s), some (.ref r), some (.ref L), some (.ref D), x4] ∧ H' L = some (.lst rest) ∧ H' D = some (.lst out) ∧ rest.length + i = xs.length ∧ out.length = i ∧ (rest ++ out).Perm xs ∧ Kp s H H' ∧ Sto K H' s) ⟨none, xs, [], rfl, e2, e3, rfl, rfl, (by rw [List.append_nil]), Kp.same s2, hS.same s2⟩ ?_ ?_⟩
  · rintro i σ H' hi ⟨x4, rest, out, rfl, eL, eD, ln, lo, mp, kp, st⟩
    have nL := hS.ne hL
    have nD := hS.ne hD0
    refine ⟨_, rfl, .inl ⟨rfl, _, .of eD⟩, _, rfl, .inl ⟨rfl, _, .of eL⟩, _, rfl, _, rfl, L, rfl, rest, itsO_ofL ((ob_none kL).trans eL), s, rest.length, rfl, st, by omega, fun q H3 q0 q1 kp3 st3 => ?_⟩
    have hq : q.toNat < rest.length := by omega
    obtain ⟨y, hy⟩ : ∃ y, rest[q.toNat]? = some y := ⟨_, List.getElem?_eq_getElem hq⟩
    have eL3 := kp3 _ _ nL eL
    have eD3 := kp3 _ _ nD eD
    refine ⟨L, rest, q, q.toNat, y, rfl, rfl, eL3, by omega, by omega, ?_, hy, ?_⟩
    · unfold seqIndex?
      show (if (decide (0 ≤ (if q < 0 then q + (rest.length : Int) else q)) && decide ((if q < 0 then q + (rest.length : Int) else q) < rest.length)) = true then some (if q < 0 then q + (rest.length : Int) else q).toNat else none) = _
      rw [if_neg (show ¬ q < 0 by omega), decide_eq_true q0, decide_eq_true (show q < (rest.length : Int) by omega)]
      rfl
    · obtain ⟨m1, m2⟩ := hS.mut (o := .lst (rest.eraseIdx q.toNat)) hL (kp.trans kp3) st3
      have f1 : upd H3 L (.lst (rest.eraseIdx q.toNat)) L = some (.lst (rest.eraseIdx q.toNat)) := upd_same
      have f2 : upd H3 L (.lst (rest.eraseIdx q.toNat)) D = some (.lst out) := by rw [upd_ne (Ne.symm nLD)]; exact eD3
      generalize upd H3 L (.lst (rest.eraseIdx q.toNat)) = H4 at m1 m2 f1 f2 ⊢
      obtain ⟨m3, m4⟩ := hS.mut (o := .lst (out ++ [y])) hD0 m2 m1
      refine ⟨D, out, y, rfl, rfl, f2, by rw [sizeLine_eq]; omega, _, rest.eraseIdx q.toNat, out ++ [y], rfl, by rw [upd_ne nLD]; exact f1, upd_same, by rw [List.length_eraseIdx_of_lt hq]; omega, by rw [List.length_append, lo]; rfl, ?_, m4, m3⟩
      have hy' : rest[q.toNat]'hq = y := (List.getElem?_eq_some_iff.mp hy).2
      have p1 : (y :: rest.eraseIdx q.toNat).Perm rest := by rw [← hy']; exact perm_eraseIdx _ _ hq
      have p2 : (rest.eraseIdx q.toNat ++ (out ++ [y])).Perm (y :: (rest.eraseIdx q.toNat ++ out)) := by
        rw [← List.append_assoc]
        exact List.perm_append_singleton y _
      exact p2.trans ((p1.append_right out).trans mp)
  · rintro σ H' ⟨x4, rest, out, rfl, eL, eD, ln, lo, mp, kp, st⟩
    exact ⟨_, rfl, k D out H' (by
      have : rest = [] := List.length_eq_zero_iff.mp (by omega)
      rw [this] at mp
      exact mp) eD hD0 kD kp st⟩

def gint : V → Int
  | .int n => n
  | _ => 0
theorem perm_ints {ys : List V} {W : List Int} (h : ys.Perm (W.map V.int)) : ∃ W1 : List Int, ys = W1.map V.int ∧ W1.Perm W := by
  refine ⟨ys.map gint, ?_, ?_⟩
  · rw [List.map_map]
    refine (List.map_id ys).symm.trans (List.map_congr_left fun y hy => ?_)
    obtain ⟨n, _, rfl⟩ := List.mem_map.mp (h.mem_iff.mp hy)
    rfl
  · have := h.map gint
    rw [List.map_map] at this
    have e : W.map (gint ∘ V.int) = W := (List.map_congr_left fun _ _ => rfl).trans (List.map_id W)
    rw [e] at this
    exact this
theorem perm_sum {a b : List Int} (h : a.Perm b) : a.sum = b.sum := by
  induction h with
  | nil => rfl
  | cons x _ ih => rw [List.sum_cons, List.sum_cons, ih]
  | swap x y l => rw [List.sum_cons, List.sum_cons, List.sum_cons, List.sum_cons]; omega
  | trans _ _ ih1 ih2 => exact ih1.trans ih2
theorem perm_wn {h n : Int} {H : Hp} {a : Addr} {w W : List Int} (p : w.Perm W) (hw : Wd K H a w) (v : Wv W) (l : (W.length : Int) = n) (s : W.sum = h) : ∃ a' w', V.ref a = .ref a' ∧ Wd K H a' w' ∧ Wv w' ∧ (w'.length : Int) = n ∧ w'.sum = h :=
  ⟨a, w, rfl, hw, ⟨fun x hx => v.1 x (p.mem_iff.mp hx), by rw [p.length_eq]; exact v.2.1, by rw [p.length_eq]; exact v.2.2⟩, by rw [p.length_eq]; exact l, by rw [perm_sum p]; exact s⟩
/-- a word of n items and h long ones -/
def Wn (K : PySem.W.Frag) (h n : Int) (H : Hp) (v : V) : Prop := ∃ a w, v = .ref a ∧ Wd K H a w ∧ Wv w ∧ (w.length : Int) = n ∧ w.sum = h
theorem Wn.same {h n : Int} {H H' : Hp} {v : V} (x : Wn K h n H v) (e : Same H H') : Wn K h n H' v := by
  obtain ⟨a, w, rfl, b, c⟩ := x
  exact ⟨a, w, rfl, b.same e, c⟩
def spOth (K : PySem.W.Frag) : Sp := fun vs H Q _ => ∃ (s : Addr) (h n : Int), vs = [.ref s, .int h, .int n] ∧ Sto K H s ∧ 0 ≤ h ∧ h ≤ n ∧ 1 ≤ n ∧ n ≤ 100 ∧ ∀ D ys H', H' D = some (.lst ys) → (∀ y ∈ ys, Wn K h n H' y) → D ≠ s → Kp s H H' → Sto K H' s → Q (.ref D) H'
abbrev sOth : Stmt := topS 70
theorem scOth : FnScope ["_law_store_here", "_law_longs_here", "_law_length", "_law_last", "_law_spot"] ["_law_store_here", "_law_longs_here", "_law_length"] (defScope sOth) := ⟨rfl, rfl, rfl, by decide +kernel, rfl, by decide +kernel, by decide +kernel⟩
theorem k_Oth (T : Bt K mg) (D : Dfn K mg "_law_others" sOth ["_law_store_here", "_law_longs_here", "_law_length"]) (d__law_take : Kn P w K mg base 2 "_law_take" ["_law_store_here", "_law_many"] (spTake K)) (d__law_shuffled : Kn P w K mg base 3 "_law_shuffled" ["_law_store_here", "_law_row"] (spShuf K)) (d__law_leap_items : Kn P w K mg base 1 "_law_leap_items" ["_law_longs_here", "_law_length", "_law_turn"] (spLIt K)) : Kn P w K mg base 4 "_law_others" ["_law_store_here", "_law_longs_here", "_law_length"] (spOth K) := by
  refine Kn.mk' D scOth (fun vs H Q E h => ?_) (fun f cdv A outer s H vs Q E hr h => ?_)
  · obtain ⟨s, h, n, rfl, _⟩ := h
    rfl
  obtain ⟨s, h, n, rfl, hS, h0, h1, n1, n2, k⟩ := h
  refine ⟨_, (pss_cons (ps_set (i := 3) scOth.nd rfl (.inl rfl) (pe_fr (pe_callTy call_tuple_of (by rfl) T.b_tuple (by decide +kernel) (pa_cons (pe_fr (pe_op op_cat (pe_fr (pe_op op_rep (pe_ls (pa_cons pe_int pa_nil)) (pe_op op_sub (pv 2) (pv 1)))) (pe_fr (pe_op op_rep (pe_ls (pa_cons pe_int pa_nil)) (pv 1))))) pa_nil))))
      (pss_cons (ps_set (i := 4) scOth.nd rfl (.inl rfl) (pe_kn d__law_take hr (by rfl) (pa_cons (pv 0) (pa_cons (pv 2) pa_nil))))
      (pss_one (ps_ret (pe_ls (pa_cons (pe_fr (pe_callTy call_tuple_of (by rfl) T.b_tuple (by decide +kernel) (pa_cons (pe_kn d__law_shuffled hr (by rfl) (pa_cons (pv 0) (pa_cons (pv 3) pa_nil))) pa_nil))) (pa_cons (pv 3) (pa_cons (pe_fr (pe_revT (pv 3))) (pa_cons (pe_kn d__law_leap_items hr (by rfl) (pa_cons (pv 1) (pa_cons (pv 2) (pa_cons (pv 4) pa_nil)))) pa_nil))))))))), ?_⟩
  simp only [cx_K]
  have fl : ∀ (x : V) (k : Nat), (List.replicate k [x]).flatten = List.replicate k x := fun x k => List.flatten_replicate_singleton
  refine ⟨sz2 (by show 1 ≤ 100; decide), fun l1 hl1 kl1 => ⟨_, rfl, _, rfl, _, _, rfl, rfl, l1, n - h, [.int 0], rfl, rfl, upd_same, by omega, by omega, by rw [sizeLine_eq]; show 1 * (n - h).toNat ≤ _; omega, fun l2 hl2 fr2 => ?_⟩⟩
  have u12 := (Same.new hl1 (.lst [.int 0])).trans (Same.new hl2 (.lst (List.replicate (n - h).toNat ([.int 0] : List V)).flatten))
  have e2 : upd (upd H l1 (.lst [.int 0])) l2 (.lst (List.replicate (n - h).toNat ([.int 0] : List V)).flatten) l2 = some (.lst (List.replicate (n - h).toNat (.int 0))) := by rw [upd_same, fl]
  generalize upd (upd H l1 (.lst [.int 0])) l2 (.lst (List.replicate (n - h).toNat ([.int 0] : List V)).flatten) = H2 at u12 e2 ⊢
  refine ⟨sz2 (by show 1 ≤ 100; decide), fun l3 hl3 kl3 => ⟨_, rfl, l3, h, [.int 1], rfl, rfl, upd_same, by omega, by omega, by rw [sizeLine_eq]; show 1 * h.toNat ≤ _; omega, fun l4 hl4 fr4 => ?_⟩⟩
  have u34 := (Same.new hl3 (.lst [.int 1])).trans (Same.new hl4 (.lst (List.replicate h.toNat ([.int 1] : List V)).flatten))
  have e4 : upd (upd H2 l3 (.lst [.int 1])) l4 (.lst (List.replicate h.toNat ([.int 1] : List V)).flatten) l4 = some (.lst (List.replicate h.toNat (.int 1))) := by rw [upd_same, fl]
  generalize upd (upd H2 l3 (.lst [.int 1])) l4 (.lst (List.replicate h.toNat ([.int 1] : List V)).flatten) = H4 at u34 e4 ⊢
  refine ⟨l2, l4, _, _, rfl, rfl, u34 _ _ e2, e4, by rw [sizeLine_eq, List.length_replicate, List.length_replicate]; omega, fun l5 hl5 fr5 => ⟨l5, _, rfl, .inl ⟨.of upd_same, fun wa hwa frw => ?_⟩⟩⟩
  have kw : K.lookup wa = none := frw wa (by rw [upd_same]; simp)
  obtain ⟨W, hW⟩ : ∃ W, W = List.replicate (n - h).toNat (0 : Int) ++ List.replicate h.toNat 1 := ⟨_, rfl⟩
  have mW : (List.replicate (n - h).toNat (.int 0) ++ List.replicate h.toNat (.int 1) : List V) = W.map V.int := by rw [hW, List.map_append, List.map_replicate, List.map_replicate]
  have lW : W.length = n.toNat := by rw [hW, List.length_append, List.length_replicate, List.length_replicate]; omega
  have sW : W.sum = h := by
    have r0 : ∀ k : Nat, (List.replicate k (0 : Int)).sum = 0 := fun k => by
      induction k with
      | zero => rfl
      | succ k ih => rw [List.replicate_succ, List.sum_cons, ih]; rfl
    have r1 : ∀ k : Nat, (List.replicate k (1 : Int)).sum = k := fun k => by
      induction k with
      | zero => rfl
      | succ k ih => rw [List.replicate_succ, List.sum_cons, ih]; omega
    rw [hW, List.sum_append, r0, r1]
    omega
  have vW : Wv W := by
    refine ⟨fun x hx => ?_, by omega, by omega⟩
    rw [hW] at hx
    rcases List.mem_append.mp hx with z | z
    · exact .inl (List.eq_of_mem_replicate z)
    · exact .inr (List.eq_of_mem_replicate z)
  rw [mW] at hwa ⊢
  have u56 := (Same.new hl5 (.lst (W.map V.int))).trans (Same.new hwa (.tup (W.map V.int)))
  have hw : Wd K (upd (upd H4 l5 (.lst (W.map V.int))) wa (.tup (W.map V.int))) wa W := (ob_none kw).trans upd_same
  have u6 := u12.trans (u34.trans u56)
  generalize upd (upd H4 l5 (.lst (W.map V.int))) wa (.tup (W.map V.int)) = H6 at u6 hw ⊢
  have st6 := hS.same u6
  clear u12 u34 u56 e2 e4 hl1 hl2 hl3 hl4 hl5 hwa frw fr2 fr4 fr5
  refine ⟨_, rfl, _, rfl, s, n, rfl, st6, by omega, fun r H7 r0 r1 kp7 st7 => ?_⟩
  have hw := ob_kp2 kp7 (tup_ne st6 hw) hw
  refine ⟨_, rfl, _, rfl, s, wa, W.map V.int, rfl, st7, hw, by rw [List.length_map]; omega, fun D1 ys H8 py eD nD kD kp8 st8 => ?_⟩
  have hw := ob_kp2 kp8 (tup_ne st7 hw) hw
  obtain ⟨W1, rfl, pW⟩ := perm_ints py
  refine ⟨D1, _, rfl, .inl ⟨.of eD, fun p1 hp1 fr1 => ?_⟩⟩
  have k1 : K.lookup p1 = none := fr1 p1 (by rw [upd_same]; simp)
  have t1 := Same.new hp1 (.tup (W1.map V.int))
  have b1 : Wn K h n (upd H8 p1 (.tup (W1.map V.int))) (.ref p1) := perm_wn pW ((ob_none k1).trans upd_same) vW (by omega) sW
  have hw := ob_same t1 hw
  generalize upd H8 p1 (.tup (W1.map V.int)) = H9 at t1 b1 hw ⊢
  refine ⟨_, rfl, ?_⟩
  refine ⟨_, rfl, wa, _, rfl, ob_tup hw, fun p2 hp2 fr2 => ?_⟩
  have k2 : K.lookup p2 = none := fr2 p2 (by rw [upd_same]; simp)
  have t2 := Same.new hp2 (.tup (W.map V.int).reverse)
  have b2 : Wn K h n (upd H9 p2 (.tup (W.map V.int).reverse)) (.ref p2) := perm_wn (w := W.reverse) (List.reverse_perm W) (by unfold Wd; rw [List.map_reverse]; exact (ob_none k2).trans upd_same) vW (by omega) sW
  have hw := ob_same t2 hw
  have b1 := b1.same t2
  generalize upd H9 p2 (.tup (W.map V.int).reverse) = H10 at t2 b1 b2 hw ⊢
  have rn : r < n := by omega
  refine ⟨_, rfl, _, rfl, _, rfl, h, n, r, rfl, h0, by omega, n1, by omega, r0, by omega, fun p3 H11 t3 hw3 => ?_⟩
  have b3 : Wn K h n H11 (.ref p3) := ⟨p3, _, rfl, hw3, lw_wv h0 h1 n1 n2, by rw [lw_len]; omega, lw_total n1 r0 rn⟩
  have bw : Wn K h n H11 (.ref wa) := ⟨wa, W, rfl, ob_same t3 hw, vW, by omega, sW⟩
  have b1 := b1.same t3
  have b2 := b2.same t3
  have stA := st8.same (t1.trans (t2.trans t3))
  refine ⟨sz2 (by show 4 ≤ 100; decide), fun L hL kL => ?_⟩
  have t4 := Same.new hL (.lst [.ref p1, .ref wa, .ref p2, .ref p3])
  refine k L [.ref p1, .ref wa, .ref p2, .ref p3] _ upd_same (fun y hy => ?_) (stA.ne hL) ((Kp.same u6).trans (kp7.trans (kp8.trans (Kp.same (t1.trans (t2.trans (t3.trans t4))))))) (stA.same t4)
  simp only [List.mem_cons, List.not_mem_nil, or_false] at hy
  rcases hy with rfl | rfl | rfl | rfl
  · exact b1.same t4
  · exact bw.same t4
  · exact b2.same t4
  · exact b3.same t4

end
end My

namespace My
open PySem PySem.Spec PyProof.Rows L2
section
variable {P : Program} {w : World} {K : PySem.W.Frag} {mg : Str → Option Value} {base : Heap}
theorem Num.at {h n g m : Int} (N : Num h n g m) : ser (lw h n ((m - 1) / 2 * g) n.toNat) = g * (m / 2) := by
  have n1 := N.n1
  have g1 := N.g1
  have m1 := N.m1
  have e1 := N.e
  have q0 : 0 ≤ (m - 1) / 2 * g := Int.mul_nonneg (by omega) (by omega)
  have q1 : (m - 1) / 2 * g < n := by
    have : g * ((m - 1) / 2 + 1) ≤ g * m := Int.mul_le_mul_of_nonneg_left (by omega) (by omega)
    grind
  rw [N.lw_ser q0 q1, Int.mul_ediv_cancel _ (by omega)]
  have e2 : n - g - (m - 1) / 2 * g = (m - 1 - (m - 1) / 2) * g := by grind
  have e3 : m - 1 - (m - 1) / 2 = m / 2 := by omega
  rw [e2, e3]
  have : (m - 1) / 2 * g ≤ m / 2 * g := Int.mul_le_mul_of_nonneg_right (by omega) (by omega)
  have e4 : m / 2 * g = g * (m / 2) := Int.mul_comm _ _
  unfold imx
  split <;> omega
theorem iab_nat (x : Int) : iab x = (x.natAbs : Int) := by unfold iab; split <;> omega
theorem dist_is {q : Qt} {h n : Int} {k : Nat} (n1 : 1 ≤ n) (hq : Is q ((k : Int) * h) n) : Is (iab (off q).1, q.2) (gapv h n k) n := by
  obtain ⟨nf, e⟩ := hq
  have hb : 1 ≤ q.2 := nf.1
  refine ⟨by rw [iab_nat]; exact nf_abs (nf_off nf), ?_⟩
  show iab (off q).1 * n = gapv h n k * q.2
  have r0 := Int.emod_nonneg q.1 (show q.2 ≠ 0 by omega)
  have r1 := Int.emod_lt_of_pos q.1 (show 0 < q.2 by omega)
  have R0 := Int.emod_nonneg ((k : Int) * h) (show n ≠ 0 by omega)
  have R1 := Int.emod_lt_of_pos ((k : Int) * h) (show 0 < n by omega)
  have c1 : n * (q.1 % q.2) = (((k : Int) * h) % n) * q.2 := by
    have a : n * q.1 % (n * q.2) = n * (q.1 % q.2) := Int.mul_emod_mul_of_pos _ _ (by omega)
    have b : q.2 * ((k : Int) * h) % (q.2 * n) = q.2 * (((k : Int) * h) % n) := Int.mul_emod_mul_of_pos _ _ (by omega)
    have e1 : n * q.1 = q.2 * ((k : Int) * h) := by grind
    have e2 : n * q.2 = q.2 * n := Int.mul_comm _ _
    rw [e1, e2, b] at a
    rw [← a]
    exact Int.mul_comm _ _
  unfold off gapv
  generalize q.1 % q.2 = r at c1 r0 r1 ⊢
  generalize ((k : Int) * h) % n = R at c1 R0 R1 ⊢
  have cond : q.2 < 2 * r ↔ n - R < R := by
    have t1 : (2 * R - n) * q.2 = n * (2 * r - q.2) := by grind
    constructor
    · intro z
      have p1 : 0 < n * (2 * r - q.2) := Int.mul_pos (by omega) (by omega)
      rcases Int.lt_or_le 0 (2 * R - n) with y | y
      · omega
      · have := Int.mul_nonpos_of_nonpos_of_nonneg y (show 0 ≤ q.2 by omega)
        omega
    · intro z
      have p1 : 0 < (2 * R - n) * q.2 := Int.mul_pos (by omega) (by omega)
      rcases Int.lt_or_le 0 (2 * r - q.2) with y | y
      · omega
      · have := Int.mul_nonpos_of_nonneg_of_nonpos (show 0 ≤ n by omega) y
        omega
  by_cases z : q.2 < 2 * r
  · rw [if_pos z, if_pos (cond.mp z)]
    have e3 : iab (r - q.2) = q.2 - r := by unfold iab; split <;> omega
    show iab (r - q.2) * n = _
    rw [e3]
    grind
  · rw [if_neg z, if_neg (fun y => z (cond.mpr y))]
    have e3 : iab r = r := by unfold iab; split <;> omega
    show iab r * n = _
    rw [e3]
    grind
def spBR (K : PySem.W.Frag) : Sp := fun vs H Q _ => ∃ (s : Addr) (h n : Int), vs = [.ref s, .int h, .int n] ∧ Sto K H s ∧ 0 ≤ h ∧ h ≤ n ∧ 1 ≤ n ∧ n ≤ 100 ∧ ∀ H', Kp s H H' → Sto K H' s → Q (.bl true) H'
abbrev sBR : Stmt := topS 71
theorem scBR : FnScope ["_law_store_here", "_law_longs_here", "_law_length", "_law_word_here", "_law_index", "_law_error", "_law_other", "_law_told"] ["_law_store_here", "_law_longs_here", "_law_length"] (defScope sBR) := ⟨rfl, rfl, rfl, by decide +kernel, rfl, by decide +kernel, by decide +kernel⟩
theorem k_BR (T : Bt K mg) (D : Dfn K mg "_law_best_right" sBR ["_law_store_here", "_law_longs_here", "_law_length"]) (d_best_word : Kn P w K mg base 4 "best_word" ["longs", "length"] (spBest K)) (d_best_index : Kn P w K mg base 4 "best_index" ["longs", "length"] (spIdx K)) (d__law_best_due : Kn P w K mg base 2 "_law_best_due" ["_law_longs_here", "_law_length"] (spBest K)) (d__law_index_due : Kn P w K mg base 1 "_law_index_due" ["_law_longs_here", "_law_length"] (spIdx K)) (d__law_same : Kn P w K mg base 4 "_law_same" ["_law_told", "_law_due"] (spSame K 3)) (d_word_error : Kn P w K mg base 4 "word_error" ["word"] (spWE K)) (d__law_distance : Kn P w K mg base 4 "_law_distance" ["_law_value"] (spDist K)) (d__law_lowest : Kn P w K mg base 2 "_law_lowest" ["_law_top", "_law_bottom"] (spLowest K)) (d__law_others : Kn P w K mg base 4 "_law_others" ["_law_store_here", "_law_longs_here", "_law_length"] (spOth K)) (d__law_error_due : Kn P w K mg base 3 "_law_error_due" ["_law_word_here"] (spWE K)) (d__law_sign : Kn P w K mg base 1 "_law_sign" ["_law_left", "_law_right"] (spSgn K)) : Kn P w K mg base 5 "_law_best_right" ["_law_store_here", "_law_longs_here", "_law_length"] (spBR K) := by
  refine Kn.mk' D scBR (fun vs H Q E h => ?_) (fun f cdv A outer s H vs Q E hr h => ?_)
  · obtain ⟨s, h, n, rfl, _⟩ := h
    rfl
  obtain ⟨s, h, n, rfl, hS, h0, h1, n1, n2, k⟩ := h
  refine ⟨_, (pss_cons (ps_set (i := 3) scBR.nd rfl (.inl rfl) (pe_kn d_best_word hr (by rfl) (pa_cons (pv 1) (pa_cons (pv 2) pa_nil))))
      (pss_cons (ps_set (i := 4) scBR.nd rfl (.inl rfl) (pe_kn d_best_index hr (by rfl) (pa_cons (pv 1) (pa_cons (pv 2) pa_nil))))
      (pss_cons (ps_if (PW.pt (pw_or (pt_not (pt_val (pe_kn d__law_same hr (by rfl) (pa_cons (pv 3) (pa_cons (pe_kn d__law_best_due hr (by rfl) (pa_cons (pv 1) (pa_cons (pv 2) pa_nil))) pa_nil))))) (pw_or1 (pt_not (pt_val (pe_kn d__law_same hr (by rfl) (pa_cons (pv 4) (pa_cons (pe_kn d__law_index_due hr (by rfl) (pa_cons (pv 1) (pa_cons (pv 2) pa_nil))) pa_nil)))))))) (pss_one (ps_ret pe_bl)) pss_nil)
      (pss_cons (ps_set (i := 5) scBR.nd rfl (.inl rfl) (pe_kn d_word_error hr (by rfl) (pa_cons (pv 3) pa_nil)))
      (pss_cons (ps_if (pt_not (pt_val (pe_kn d__law_same hr (by rfl) (pa_cons (pv 5) (pa_cons (pe_kn d__law_distance hr (by rfl) (pa_cons (pe_kn d__law_lowest hr (by rfl) (pa_cons (pe_op op_mulW (pv 4) (pv 1)) (pa_cons (pv 2) pa_nil))) pa_nil)) pa_nil))))) (pss_one (ps_ret pe_bl)) pss_nil)
      (pss_cons (ps_for PassesOwn.never rfl (pi_list (pe_kn d__law_others hr (by rfl) (pa_cons (pv 0) (pa_cons (pv 1) (pa_cons (pv 2) pa_nil))))) (pg_name (i := 6) scBR.nd rfl (.inl rfl)) (pss_cons (ps_set (i := 7) scBR.nd rfl (.inl rfl) (pe_kn d_word_error hr (by rfl) (pa_cons (pv 6) pa_nil)))
      (pss_one (ps_if (PW.pt (pw_or (pt_not (pt_val (pe_kn d__law_same hr (by rfl) (pa_cons (pv 7) (pa_cons (pe_kn d__law_error_due hr (by rfl) (pa_cons (pv 6) pa_nil)) pa_nil))))) (pw_or1 (pt_cmpR op_lt (pe_kn d__law_sign hr (by rfl) (pa_cons (pv 7) (pa_cons (pv 5) pa_nil))) pe_int (nomark _))))) (pss_one (ps_ret pe_bl)) pss_nil))))
      (pss_one (ps_ret (pe_kn d__law_same hr (by rfl) (pa_cons (pe_kn d_word_error hr (by rfl) (pa_cons (pv 3) pa_nil)) (pa_cons (pv 5) pa_nil))))))))))), ?_⟩
  simp only [cx_K]
  have N := num_of h0 n1
  have wv := lw_wv (t := bt h n) h0 h1 n1 n2
  have l0 : ((lw h n (bt h n) n.toNat).length : Int) = n := by rw [lw_len]; omega
  have sE : ser (lw h n (bt h n) n.toNat) = (Int.gcd h n : Nat) * (n / (Int.gcd h n : Nat) / 2) := N.at
  obtain ⟨W, hW⟩ : ∃ W, W = lw h n (bt h n) n.toNat := ⟨_, rfl⟩
  rw [← hW] at wv l0 sE
  refine ⟨_, rfl, _, rfl, h, n, rfl, h0, h1, n1, n2, fun a H1 s1 hw => ?_⟩
  rw [← hW] at hw
  refine ⟨_, rfl, _, rfl, h, n, rfl, h0, h1, n1, n2, fun j H2 s2 gj => ?_⟩
  refine ⟨_, rfl, _, rfl, _, rfl, h, n, rfl, h0, h1, n1, n2, fun b H3 s3 hw2 => ?_⟩
  rw [← hW] at hw2
  refine ⟨_, _, rfl, (eqv_tup (ob_same (s2.trans s3) hw) hw2 (List.all_eq_true.mpr fun x hx => by
    obtain ⟨u, _, rfl⟩ := List.mem_map.mp hx
    rfl) (by rw [List.length_map]; have := wv.2.2; omega)).le (by decide), fun H4 s4 => ⟨true, rfl, if_no rfl ?_⟩⟩
  refine ⟨_, rfl, _, rfl, _, rfl, h, n, rfl, h0, h1, n1, n2, fun j2 H5 s5 gj2 => ?_⟩
  have ej := GI.uniq gj gj2
  subst ej
  refine ⟨_, _, rfl, eqv_sc rfl 2, fun H6 s6 => ⟨true, rfl, if_no rfl ?_⟩⟩
  have s16 := s2.trans (s3.trans (s4.trans (s5.trans s6)))
  have hw6 := ob_same s16 hw
  have sA := s1.trans s16
  clear hw hw2 s1 s2 s3 s4 s5 s6 s16 gj2
  refine ⟨_, rfl, a, W, rfl, hw6, wv, fun q1 hq1 p1 H7 s7 o1 => ?_⟩
  rw [l0, sE] at hq1
  have jl := gj.1
  have n2' : n.natAbs < 2 ^ 3000 := szMono (a := 10) (by omega) (by decide)
  have jb : ((j : Int) * h).natAbs < 2 ^ 20 := by
    have a1 : (j : Int) * h ≤ 100 * 100 := Int.mul_le_mul (by omega) (by omega) (by omega) (by omega)
    have a2 : 0 ≤ (j : Int) * h := Int.mul_nonneg (by omega) h0
    have : (2 : Nat) ^ 20 = 1048576 := by decide
    omega
  refine ⟨_, rfl, _, rfl, _, rfl, _, _, rfl, rfl, mulW (a := 10) (b := 10) (by omega) (by omega) (by decide), _, rfl, _, _, rfl, szMono (a := 10) (by omega) (by decide), fun q2 hq2 p2 H8 s8 o2 => ?_⟩
  have iq2 := hq2.2 (by omega)
  refine ⟨p2, q2, rfl, ⟨o2, iq2.1, is_sz (by omega) iq2 (szMono jb (by decide)) n2'⟩, fun p3 H9 s9 o3 => ?_⟩
  have iq3 := dist_is n1 iq2
  rw [gj.2.1] at iq3
  have eq3 := is_unique (show n ≠ 0 by omega) hq1 iq3
  rw [← eq3] at o3
  refine ⟨_, _, rfl, (eqv_tup (ob_same (s8.trans s9) o1) o3 rfl (by show 2 ≤ 1000; decide)).le (by decide), fun H10 s10 => ⟨true, rfl, if_no rfl ?_⟩⟩
  have s710 := s8.trans (s9.trans s10)
  have sB := sA.trans (s7.trans s710)
  have hw10 := ob_same (s7.trans s710) hw6
  have o10 := ob_same s710 o1
  have st10 := hS.same sB
  clear s8 s9 s10 s7 s710 o1 o2 o3 hw6 hq2 iq2 iq3 eq3
  refine ⟨_, rfl, _, rfl, _, rfl, s, h, n, rfl, st10, h0, h1, n1, n2, fun D ys H11 eD yw nD kp11 st11 => ?_⟩
  have hw11 := ob_kp2 kp11 (tup_ne st10 hw10) hw10
  have o11 := ob_kp2 kp11 (tup_ne st10 o10) o10
  have z1 : Sz 3000 q1 := is_sz (by omega) hq1 (by
    rw [← sE]
    have a1 := ser_small wv
    have a2 := ser_nn W
    exact szMono (a := 20) (by have : (2 : Nat) ^ 20 = 1048576 := by decide
                               omega) (by decide)) n2'
  refine ⟨D, rfl, ⟨_, .of eD⟩, forI_list (xs := ys) (fun (_ : Nat) (σ : L2.St) (H' : Hp) => ∃ (x6 x7 : Option V), σ = [some (.ref s), some (.int h), some (.int n), some (.ref a), some (.int j), some (.ref p1), x6, x7] ∧ Same H11 H') ⟨_, _, rfl, Same.refl _⟩ (fun i σ H' _ h => ?_) ?_ ?_⟩
  · obtain ⟨_, _, _, e⟩ := h
    exact .of (e _ _ eD)
  · rintro i x σ H' hi ⟨x6, x7, rfl, e⟩
    obtain ⟨u, U, rfl, hu, uv, ul, us⟩ := (yw x (List.mem_of_getElem? hi)).same e
    refine ⟨_, rfl, u, U, rfl, hu, uv, fun q4 hq4 p4 H12 s12 o4 => ?_⟩
    refine ⟨_, rfl, _, rfl, u, U, rfl, hu.same s12, uv, fun q5 hq5 p5 H13 s13 o5 => ?_⟩
    rw [is_unique (show (U.length : Int) ≠ 0 by omega) hq5 hq4] at o5
    refine ⟨_, _, rfl, (eqv_tup (ob_same s13 o4) o5 rfl (by show 2 ≤ 1000; decide)).le (by decide), fun H14 s14 => ⟨true, rfl, if_no rfl ?_⟩⟩
    rw [ul] at hq4
    have z4 : Sz 3000 q4 := is_sz (by omega) hq4 (by
      have a1 := ser_small uv
      have a2 := ser_nn U
      exact szMono (a := 20) (by have : (2 : Nat) ^ 20 = 1048576 := by decide
                                 omega) (by decide)) n2'
    have least := N.least ul us
    refine ⟨_, rfl, _, rfl, p4, p1, q4, q1, rfl, ⟨ob_same (s13.trans s14) o4, hq4.1, z4.mono (by omega)⟩, ⟨ob_same (e.trans (s12.trans (s13.trans s14))) o11, hq1.1, z1.mono (by omega)⟩, fun sg hsg => ⟨_, _, rfl, rfl, _, rfl, if_no (decide_eq_false ?_) ?_⟩⟩
    · have c1 := hq4.2
      have c2 := hq1.2
      have d1 := hq4.1.1
      have d2 := hq1.1.1
      have key : 0 ≤ n * (q4.1 * q1.2 - q1.1 * q4.2) := by
        have e1 : n * (q4.1 * q1.2 - q1.1 * q4.2) = (ser U - (Int.gcd h n : Nat) * (n / (Int.gcd h n : Nat) / 2)) * (q4.2 * q1.2) := by grind
        rw [e1]
        exact Int.mul_nonneg (by omega) (Int.mul_nonneg (by omega) (by omega))
      have : 0 ≤ q4.1 * q1.2 - q1.1 * q4.2 := by
        rcases Int.lt_or_le (q4.1 * q1.2 - q1.1 * q4.2) 0 with y | y
        · have := Int.mul_neg_of_pos_of_neg (show 0 < n by omega) y
          omega
        · exact y
      have := hsg this
      omega
    · exact ⟨_, _, rfl, e.trans (s12.trans (s13.trans s14))⟩
  · rintro σ H' ⟨x6, x7, rfl, e⟩
    refine ⟨_, rfl, a, W, rfl, ob_same e hw11, wv, fun q4 hq4 p4 H12 s12 o4 => ?_⟩
    rw [l0, sE] at hq4
    rw [is_unique (show n ≠ 0 by omega) hq4 hq1] at o4
    refine ⟨_, rfl, _, _, rfl, (eqv_tup o4 (ob_same (e.trans s12) o11) rfl (by show 2 ≤ 1000; decide)).le (by decide), fun H13 s13 => ?_⟩
    exact k H13 ((Kp.same sB).trans (kp11.trans (Kp.same (e.trans (s12.trans s13))))) (st11.same (e.trans (s12.trans s13)))

end
end My

namespace My
open PySem PySem.Spec PyProof.Rows L2
section
variable {P : Program} {w : World} {K : PySem.W.Frag} {mg : Str → Option Value} {base : Heap}
theorem Dq.up {H : Hp} : ∀ {q : Nat} {v : V}, Dq K H q v → Dq K H (q + 1) v
  | 0, _, h => .inl h
  | q + 1, _, .inl h => .inl h
  | q + 1, _, .inr (.inl ⟨a, xs, e, o, hx⟩) => .inr (.inl ⟨a, xs, e, o, fun x hx' => (hx x hx').up⟩)
  | q + 1, _, .inr (.inr ⟨a, ks, e, o, hx⟩) => .inr (.inr ⟨a, ks, e, o, fun p hp => (hx p hp).up⟩)
theorem Dq.le {H : Hp} {q r : Nat} {v : V} (h : Dq K H q v) (l : q ≤ r) : Dq K H r v := by
  obtain ⟨k, rfl⟩ := Nat.exists_eq_add_of_le l
  clear l
  induction k with
  | zero => exact h
  | succ k ih => exact ih.up
theorem Shp.dq {N : Addr → Prop} {H : Hp} : ∀ {n : Nat} {v : V}, Shp K N H n v → Dq K H n v
  | n, v, h => by
    rcases Shp.split h with c | ⟨m, rfl, a, xs, rfl, o, l, hx⟩ | ⟨m, rfl, a, ks, rfl, _, o, _, _, hx⟩
    · exact Dq.sc c _
    · exact .inr (.inl ⟨a, xs, rfl, o.imp id (fun o => o.2), fun x hx' => (hx x hx').dq⟩)
    · exact Dq.up (q := m + 1) (.inr (.inr ⟨a, ks, rfl, o, fun p hp => (hx p hp).dq⟩))
def spWEX (K : PySem.W.Frag) (C : Addr) : Sp := fun vs H _ E => ∃ v, vs = [v] ∧ WdJ K H v false ∧ Bv K C H E (.str "word")
theorem kx_WE {C : Addr} (D : Dfn K mg "word_error" sWE ["word"]) (d_x : KnX P w K mg base 3 "require" ["well_formed", "what"] (spRequireX K C)) (d_is_word : Kn P w K mg base 3 "is_word" ["value"] (spWord K)) : KnX P w K mg base 4 "word_error" ["word"] (spWEX K C) := by
  refine KnX.mk' D scWE (fun vs H Q E h => ?_) (fun f cdv A outer s H vs Q E hr h => ?_)
  · obtain ⟨v, rfl, _⟩ := h
    rfl
  obtain ⟨v, rfl, hw, k⟩ := h
  refine ⟨_, (pss_cons (ps_expr (pe_knX E d_x hr (by rfl) (takes_of rfl rfl rfl rfl) (fun _ _ _ _ h => h) (pa_cons (pe_kn d_is_word hr (by rfl) (pa_cons (pv 0) pa_nil)) (pa_cons pe_str pa_nil)))) (pss_one ps_never)), ?_⟩
  exact ⟨_, rfl, v, false, rfl, hw, fun H' s' => ⟨_, rfl, k.same s'⟩⟩
/-- what best_word and best_index refuse, and how -/
def Rf (K : PySem.W.Frag) (s : Addr) (H : Hp) (a b x y : V) : Prop := (SbI K (Fz s s) 0 100 H a ∧ x = .str "BadValue" ∧ y = .str "longs") ∨ (∃ h, a = .int h ∧ 0 ≤ h ∧ h ≤ 100 ∧ SbI K (Fz s s) 1 100 H b ∧ x = .str "BadValue" ∧ y = .str "length")
  ∨ (∃ h n, a = .int h ∧ b = .int n ∧ 0 ≤ h ∧ h ≤ 100 ∧ 1 ≤ n ∧ n ≤ 100 ∧ n < h ∧ x = .str "Mismatch" ∧ y = .non)
theorem Rf.kx {s : Addr} {H H' : Hp} {a b x y : V} (h : Rf K s H a b x y) (e : Kx (Fz s s) H H') : Rf K s H' a b x y := by
  rcases h with ⟨h, c⟩ | ⟨n, e1, h0, h1, h, c⟩ | h
  · exact .inl ⟨h.kx e, c⟩
  · exact .inr (.inl ⟨n, e1, h0, h1, h.kx e, c⟩)
  · exact .inr (.inr h)
theorem rf_ask {s C M : Addr} {H : Hp} {a b x y : V} (h : Rf K s H a b x y) {Q : VK} {E : XK} (kb : ∀ d Hb, x = .str "BadValue" → Same H Hb → Hb d = some (.xd [("what", y)]) → E (.ref C) (some d) Hb) (km : x = .str "Mismatch" → y = .non → E (.ref M) none H) : spBX K C M [a, b] H Q E := by
  rcases h with ⟨h, rfl, rfl⟩ | ⟨n, rfl, h0, h1, h, rfl, rfl⟩ | ⟨h, n, rfl, rfl, h0, h1, n0, n1, lt, rfl, rfl⟩
  · exact .inl ⟨a, b, rfl, h.now.1, h.now.2, fun d Hb sb hd => kb d Hb rfl sb hd⟩
  · exact .inr (.inl ⟨n, b, rfl, h0, h1, h.now.1, h.now.2, fun d Hb sb hd => kb d Hb rfl sb hd⟩)
  · exact .inr (.inr ⟨h, n, rfl, h0, h1, n0, n1, lt, km rfl rfl⟩) 
def qRf : Str := ("_law_refuse" ++ ".<locals>.") ++ "<lambda>"
def qRd : Str := ("_law_refused" ++ ".<locals>.") ++ "<lambda>"
def qOb : Str := ("_law_objects_refused" ++ ".<locals>.") ++ "<lambda>"
def Tt (P1 P2 P3 : Addr) : List (Addr × Str) := [(P1, qRf), (P2, qRd), (P3, qOb)]
def spRfs (K : PySem.W.Frag) (TT : List (Addr × Str)) : Sp := fun vs H Q _ => ∃ (s d : Addr) (a b x y : V), vs = [a, b, .ref d] ∧ ob K H d = some (.tup [x, y]) ∧ Rf K s H a b x y ∧ LawS K TT H s ∧ ∀ H', LamX.ExtN H H' → LawS K TT H' s → Q (.bl true) H'
abbrev sRfs : Stmt := topS 72
theorem scRfs : FnScope ["_law_longs_here", "_law_length", "_law_due"] ["_law_longs_here", "_law_length", "_law_due"] (defScope sRfs) := ⟨rfl, rfl, rfl, by decide +kernel, rfl, by decide +kernel, by decide +kernel⟩
theorem ok_Rfs {CB MM S fa g c P1 P2 P3 : Addr} {A : String → Addr} {oc dV kV doc pm cdv ct oc' dV' kV' doc' pm' ct' : Value} {od an od' an' : Option Addr} {osl osl' : Array (Option Value)} (T : Bt K mg) (B : BvT K mg CB) (AT : AskT K mg CB S A) (AM : AskM K MM S A) (AS : AskD K mg g oc od dV kV doc pm an cdv ct osl)
    (lkR : K.lookup fa = some ⟨oc', od', .func (PySem.W.fnOf "_law_refuse" "_law_refuse" (defArgs sRfs) (defBody sRfs) (defScope sRfs) dV' kV' doc' pm' an' (.ref c) ct'), osl'⟩) (cdR : PySem.W.codeIn K (.ref c) "_law_refuse" = true) (TB : LamX.TabB base mg c P1) (n12 : P1 ≠ P2) (n13 : P1 ≠ P3) (n23 : P2 ≠ P3)
     (XBW : KnX P w K mg base 4 "best_word" ["longs", "length"] (spBX K CB MM)) (XBI : KnX P w K mg base 4 "best_index" ["longs", "length"] (spBX K CB MM))
    (d__law_same : Kn P w K mg base 5 "_law_same" ["_law_told", "_law_due"] (spSame K 4)) : FnOk P w K mg base CX0 8 fa (PySem.W.fnOf "_law_refuse" "_law_refuse" (defArgs sRfs) (defBody sRfs) (defScope sRfs) dV' kV' doc' pm' an' (.ref c) ct') ["_law_longs_here", "_law_length", "_law_due"] (spRfs K (Tt P1 P2 P3)) := by
  refine fn_of lkR cdR scRfs (fun vs H Q E h => ?_) fun A outer s H vs Q E hr h => ?_
  · obtain ⟨s, d, a, b, x, y, rfl, _⟩ := h
    rfl
  obtain ⟨s, d, a, b, x, y, rfl, od, rf, LS, k⟩ := h
  refine ⟨_, PSs.nox (pss_cons (ps_if (pt_not (pt_val (pe_kn d__law_same hr (by rfl) (pa_cons (LamX.pe_lamcall (T := Tt P1 P2 P3) (TT := TAsk2 K CB MM) (t := fun E => tCall (spBX K CB MM) [] E (tCons (tVar 0) (tCons (tVar 1) L2.tNil))) (by rfl) AS.m AS.kp AS.lk AS.cd AS.b scAsked rfl (.inl rfl) (asked_gives2 T B AT AM) TB rfl (List.mem_cons_self ..) (fun p hp hh => by
      simp only [Tt, List.mem_cons, List.not_mem_nil, or_false] at hp
      rcases hp with rfl | rfl | rfl
      · exact rfl
      · exact absurd hh (by first | exact n12 | exact Ne.symm n12)
      · exact absurd hh (by first | exact n13 | exact Ne.symm n13)
) hr (LamX.lamS_by (by show LamX.lamSB (defScope sRfs) _ = true; decide +kernel)) rfl (fun _ _ _ _ _ => rfl) (fun A outer s H E f c' hr' => pe_knX E XBW hr' (by rfl) (takes_of rfl rfl rfl rfl) (fun _ _ _ _ h => h) (pa_cons (pv 0) (pa_cons (pv 1) pa_nil)))) (pa_cons (pv 2) pa_nil))))) (pss_one (ps_ret pe_bl)) pss_nil)
      (pss_one (ps_ret (pe_kn d__law_same hr (by rfl) (pa_cons (LamX.pe_lamcall (T := Tt P1 P2 P3) (TT := TAsk2 K CB MM) (t := fun E => tCall (spBX K CB MM) [] E (tCons (tVar 0) (tCons (tVar 1) L2.tNil))) (by rfl) AS.m AS.kp AS.lk AS.cd AS.b scAsked rfl (.inl rfl) (asked_gives2 T B AT AM) TB rfl (List.mem_cons_self ..) (fun p hp hh => by
      simp only [Tt, List.mem_cons, List.not_mem_nil, or_false] at hp
      rcases hp with rfl | rfl | rfl
      · exact rfl
      · exact absurd hh (by first | exact n12 | exact Ne.symm n12)
      · exact absurd hh (by first | exact n13 | exact Ne.symm n13)
) hr (LamX.lamS_by (by show LamX.lamSB (defScope sRfs) _ = true; decide +kernel)) rfl (fun _ _ _ _ _ => rfl) (fun A outer s H E f c' hr' => pe_knX E XBI hr' (by rfl) (takes_of rfl rfl rfl rfl) (fun _ _ _ _ h => h) (pa_cons (pv 0) (pa_cons (pv 1) pa_nil)))) (pa_cons (pv 2) pa_nil)))))), ?_⟩
  try simp only [cx_K]
  have sx : ([x, y] : List V).all scv = true := by
    rcases rf with ⟨_, rfl, rfl⟩ | ⟨_, _, _, _, _, rfl, rfl⟩ | ⟨_, _, _, _, _, _, _, _, _, rfl, rfl⟩ <;> rfl
  refine ⟨LS.tb, fun H1 e1 t1 => ?_⟩
  have rf1 := rf.kx (Kx.ext e1)
  have od1 := ob_ext e1 (fun _ q => by cases q) od
  refine ⟨_, rfl, _, rfl, rf_ask (Q := fun _ _ => True) rf1 (fun d Hb hx sb hd => .inl ⟨rfl, d, _, rfl, hd, fun p H2 sc op0 => ?_⟩) (fun hx hy => .inr ⟨rfl, rfl, fun p H2 sc op0 => ?_⟩)⟩
  · have s2 := sb.trans sc
    have op : ob K H2 p = some (.tup [x, y]) := by rw [hx]; exact op0
    clear op0 sc sb hd hx
    refine ⟨_, rfl, _, _, rfl, (eqv_tup op (ob_same s2 od1) sx (by show 2 ≤ 1000; decide)).le (by decide), fun H3 s3 => ⟨true, rfl, if_no rfl ?_⟩⟩
    have s13 := s2.trans s3
    have rf3 := rf1.kx (Kx.same s13)
    have od3 := ob_same s13 od1
    refine ⟨tabs_same s13 t1, fun H4 e4 t4 => ?_⟩
    have rf4 := rf3.kx (Kx.ext e4)
    have od4 := ob_ext e4 (fun _ q => by cases q) od3
    refine ⟨_, rfl, _, rfl, rf_ask (Q := fun _ _ => True) rf4 (fun d Hb hx sb hd => .inl ⟨rfl, d, _, rfl, hd, fun p H5 sc op0 => ?_⟩) (fun hx hy => .inr ⟨rfl, rfl, fun p H5 sc op0 => ?_⟩)⟩
    · have s5 := sb.trans sc
      have op2 : ob K H5 p = some (.tup [x, y]) := by rw [hx]; exact op0
      clear op0 sc sb hd hx
      refine ⟨_, rfl, _, _, rfl, (eqv_tup op2 (ob_same s5 od4) sx (by show 2 ≤ 1000; decide)).le (by decide), fun H6 s6 => ?_⟩
      have ea := LamX.ExtN.trans e1 (LamX.ExtN.trans (LamX.ExtN.of s13) e4)
      exact k H6 (LamX.ExtN.trans ea (LamX.ExtN.of (s5.trans s6))) ⟨(LS.st.ext ea).same (s5.trans s6), tabs_same (s5.trans s6) t4⟩
    · have s5 := sc
      have op2 : ob K H5 p = some (.tup [x, y]) := by rw [hx, hy]; exact op0
      clear op0 sc hx hy
      refine ⟨_, rfl, _, _, rfl, (eqv_tup op2 (ob_same s5 od4) sx (by show 2 ≤ 1000; decide)).le (by decide), fun H6 s6 => ?_⟩
      have ea := LamX.ExtN.trans e1 (LamX.ExtN.trans (LamX.ExtN.of s13) e4)
      exact k H6 (LamX.ExtN.trans ea (LamX.ExtN.of (s5.trans s6))) ⟨(LS.st.ext ea).same (s5.trans s6), tabs_same (s5.trans s6) t4⟩
  · have s2 := sc
    have op : ob K H2 p = some (.tup [x, y]) := by rw [hx, hy]; exact op0
    clear op0 sc hx hy
    refine ⟨_, rfl, _, _, rfl, (eqv_tup op (ob_same s2 od1) sx (by show 2 ≤ 1000; decide)).le (by decide), fun H3 s3 => ⟨true, rfl, if_no rfl ?_⟩⟩
    have s13 := s2.trans s3
    have rf3 := rf1.kx (Kx.same s13)
    have od3 := ob_same s13 od1
    refine ⟨tabs_same s13 t1, fun H4 e4 t4 => ?_⟩
    have rf4 := rf3.kx (Kx.ext e4)
    have od4 := ob_ext e4 (fun _ q => by cases q) od3
    refine ⟨_, rfl, _, rfl, rf_ask (Q := fun _ _ => True) rf4 (fun d Hb hx sb hd => .inl ⟨rfl, d, _, rfl, hd, fun p H5 sc op0 => ?_⟩) (fun hx hy => .inr ⟨rfl, rfl, fun p H5 sc op0 => ?_⟩)⟩
    · have s5 := sb.trans sc
      have op2 : ob K H5 p = some (.tup [x, y]) := by rw [hx]; exact op0
      clear op0 sc sb hd hx
      refine ⟨_, rfl, _, _, rfl, (eqv_tup op2 (ob_same s5 od4) sx (by show 2 ≤ 1000; decide)).le (by decide), fun H6 s6 => ?_⟩
      have ea := LamX.ExtN.trans e1 (LamX.ExtN.trans (LamX.ExtN.of s13) e4)
      exact k H6 (LamX.ExtN.trans ea (LamX.ExtN.of (s5.trans s6))) ⟨(LS.st.ext ea).same (s5.trans s6), tabs_same (s5.trans s6) t4⟩
    · have s5 := sc
      have op2 : ob K H5 p = some (.tup [x, y]) := by rw [hx, hy]; exact op0
      clear op0 sc hx hy
      refine ⟨_, rfl, _, _, rfl, (eqv_tup op2 (ob_same s5 od4) sx (by show 2 ≤ 1000; decide)).le (by decide), fun H6 s6 => ?_⟩
      have ea := LamX.ExtN.trans e1 (LamX.ExtN.trans (LamX.ExtN.of s13) e4)
      exact k H6 (LamX.ExtN.trans ea (LamX.ExtN.of (s5.trans s6))) ⟨(LS.st.ext ea).same (s5.trans s6), tabs_same (s5.trans s6) t4⟩

end
end My

namespace My
open PySem PySem.Spec PyProof.Rows L2
section
variable {P : Program} {w : World} {K : PySem.W.Frag} {mg : Str → Option Value} {base : Heap}
def spRfd (K : PySem.W.Frag) (TT : List (Addr × Str)) : Sp := fun vs H Q _ => ∃ (s : Addr) (h n : Int), vs = [.ref s, .int h, .int n] ∧ LawS K TT H s ∧ 0 ≤ h ∧ h ≤ n ∧ 1 ≤ n ∧ n ≤ 100 ∧ ∀ H', Kx (Fz s s) H H' → LawS K TT H' s → Q (.bl true) H'
theorem LawS.kx {T : List (Addr × Str)} {H H' : Hp} {s : Addr} (h : LawS K T H s) : Kx (Fz s s) H H := Kx.refl _ _
theorem lw_full {n : Int} (n1 : 1 ≤ n) (t : Int) : ∀ m : Nat, lw n n t m = List.replicate m 1
  | 0 => rfl
  | m + 1 => by
    rw [lw_s, lw_full n1 t m, List.replicate_succ']
    congr 1
    have e : ((m : Int) + 1) * n + t = ((m : Int) * n + t) + 1 * n := by grind
    rw [e, Int.add_mul_ediv_right _ _ (by omega)]
    congr 1
    omega
theorem gi_zero {n : Int} (n1 : 1 ≤ n) : GI 0 n 0 := by
  refine ⟨by omega, ?_, fun i hi => absurd hi (Nat.not_lt_zero i)⟩
  have e : (Int.gcd 0 n : Nat) = n.natAbs := by rw [Int.gcd_zero_left]
  have e2 : ((Int.gcd 0 n : Nat) : Int) = n := by rw [e]; omega
  rw [e2, Int.ediv_self (by omega)]
  unfold gapv
  rw [Int.mul_zero, Int.zero_emod, if_neg (by omega)]
  simp
abbrev sRfd : Stmt := topS 73
theorem scRfd : FnScope ["_law_store_here", "_law_longs_here", "_law_length", "_law_bad", "_law_worse", "_law_above", "_law_kept_here", "_law_told", "_law_none"] ["_law_store_here", "_law_longs_here", "_law_length"] (defScope sRfd) := ⟨rfl, rfl, rfl, by decide +kernel, rfl, by decide +kernel, by decide +kernel⟩
theorem ok_Rfd {CB MM S fa g c P1 P2 P3 : Addr} {A : String → Addr} {oc dV kV doc pm cdv ct oc' dV' kV' doc' pm' ct' : Value} {od an od' an' : Option Addr} {osl osl' : Array (Option Value)} (T : Bt K mg) (B : BvT K mg CB) (AT : AskT K mg CB S A) (AM : AskM K MM S A) (AS : AskD K mg g oc od dV kV doc pm an cdv ct osl)
    (lkR : K.lookup fa = some ⟨oc', od', .func (PySem.W.fnOf "_law_refused" "_law_refused" (defArgs sRfd) (defBody sRfd) (defScope sRfd) dV' kV' doc' pm' an' (.ref c) ct'), osl'⟩) (cdR : PySem.W.codeIn K (.ref c) "_law_refused" = true) (TB : LamX.TabB base mg c P2) (n12 : P1 ≠ P2) (n13 : P1 ≠ P3) (n23 : P2 ≠ P3)
     (XWE : KnX P w K mg base 4 "word_error" ["word"] (spWEX K CB))
    (d_kept : Kn1 P w K mg base 5 "_law_kept" ["_law_thing", "_law_deep"] (spK K 4) (.int 24))
    (d__law_beyond : Kn P w K mg base 5 "_law_beyond" ["_law_store_here", "_law_low", "_law_high"] (spBy K)) (d__law_pick : Kn P w K mg base 3 "_law_pick" ["_law_store_here", "_law_row"] (spPick K)) (d__law_take : Kn P w K mg base 2 "_law_take" ["_law_store_here", "_law_many"] (spTake K)) (d__law_refuse : Kn P w K mg base 8 "_law_refuse" ["_law_longs_here", "_law_length", "_law_due"] (spRfs K (Tt P1 P2 P3))) (d_best_word : Kn P w K mg base 4 "best_word" ["longs", "length"] (spBest K)) (d_best_index : Kn P w K mg base 4 "best_index" ["longs", "length"] (spIdx K)) (d__law_same : Kn P w K mg base 5 "_law_same" ["_law_told", "_law_due"] (spSame K 4)) (d__law_bad_word : Kn P w K mg base 6 "_law_bad_word" ["_law_store_here"] (spBWd K)) : FnOk P w K mg base CX0 9 fa (PySem.W.fnOf "_law_refused" "_law_refused" (defArgs sRfd) (defBody sRfd) (defScope sRfd) dV' kV' doc' pm' an' (.ref c) ct') ["_law_store_here", "_law_longs_here", "_law_length"] (spRfd K (Tt P1 P2 P3)) := by
  refine fn_of lkR cdR scRfd (fun vs H Q E h => ?_) fun A outer s H vs Q E hr h => ?_
  · obtain ⟨s, h, n, rfl, _⟩ := h
    rfl
  obtain ⟨s, h, n, rfl, LS0, h0, h1, n1, n2, k⟩ := h
  refine ⟨_, PSs.nox (pss_cons (ps_set (i := 3) scRfd.nd rfl (.inl rfl) (pe_kn d__law_beyond hr (by rfl) (pa_cons (pv 0) (pa_cons pe_int (pa_cons pe_int pa_nil)))))
      (pss_cons (ps_set (i := 4) scRfd.nd rfl (.inl rfl) (pe_kn d__law_beyond hr (by rfl) (pa_cons (pv 0) (pa_cons pe_int (pa_cons pe_int pa_nil)))))
      (pss_cons (ps_if (pt_not (pt_val (pe_kn d__law_refuse hr (by rfl) (pa_cons (pv 3) (pa_cons (pe_kn d__law_pick hr (by rfl) (pa_cons (pv 0) (pa_cons (pe_ls (pa_cons (pv 2) (pa_cons (pv 4) (pa_cons pe_int pa_nil)))) pa_nil))) (pa_cons (pe_tp (pa_cons pe_str (pa_cons pe_str pa_nil))) pa_nil)))))) (pss_one (ps_ret pe_bl)) pss_nil)
      (pss_cons (ps_if (pt_not (pt_val (pe_kn d__law_refuse hr (by rfl) (pa_cons (pe_kn d__law_pick hr (by rfl) (pa_cons (pv 0) (pa_cons (pe_ls (pa_cons (pv 1) (pa_cons pe_int (pa_cons pe_int pa_nil)))) pa_nil))) (pa_cons (pv 4) (pa_cons (pe_tp (pa_cons pe_str (pa_cons pe_str pa_nil))) pa_nil)))))) (pss_one (ps_ret pe_bl)) pss_nil)
      (C8.pss_cut (ps_if (pt_cmpR op_lt (pv 2) pe_int (nomark _)) (pss_cons (ps_set (i := 5) scRfd.nd rfl (.inl rfl) (pe_kn d__law_pick hr (by rfl) (pa_cons (pv 0) (pa_cons (pe_ls (pa_cons (pe_op op_add (pv 2) pe_int) (pa_cons pe_int (pa_cons (pe_op op_add (pe_op op_add (pv 2) pe_int) (pe_kn d__law_take hr (by rfl) (pa_cons (pv 0) (pa_cons (pe_op op_sub pe_int (pv 2)) pa_nil)))) pa_nil)))) pa_nil))))
      (pss_one (ps_if (pt_not (pt_val (pe_kn d__law_refuse hr (by rfl) (pa_cons (pv 5) (pa_cons (pv 2) (pa_cons (pe_tp (pa_cons pe_str (pa_cons pe_non pa_nil))) pa_nil)))))) (pss_one (ps_ret pe_bl)) pss_nil))) pss_nil)
      (pss_cons (ps_if (PW.pt (pw_or (pt_not (pt_val (pe_kn d__law_same hr (by rfl) (pa_cons (pe_kn d_best_word hr (by rfl) (pa_cons (pv 2) (pa_cons (pv 2) pa_nil))) (pa_cons (pe_fr (pe_callTy call_tuple_of (by rfl) T.b_tuple (by decide +kernel) (pa_cons (pe_fr (pe_op op_rep (pe_ls (pa_cons pe_int pa_nil)) (pv 2))) pa_nil))) pa_nil))))) (pw_or1 (pt_not (pt_val (pe_kn d__law_same hr (by rfl) (pa_cons (pe_kn d_best_index hr (by rfl) (pa_cons pe_int (pa_cons (pv 2) pa_nil))) (pa_cons pe_int pa_nil)))))))) (pss_one (ps_ret pe_bl)) pss_nil)
      (pss_cons (ps_set (i := 8) scRfd.nd rfl (.inr rfl) (pe_kn d__law_bad_word hr (by rfl) (pa_cons (pv 0) pa_nil)))
      (pss_cons (ps_set (i := 6) scRfd.nd rfl (.inl rfl) (pe_kn1 d_kept hr (by rfl) (pa_cons (pv 8) pa_nil)))
      (pss_cons (ps_set (i := 7) scRfd.nd rfl (.inl rfl) (LamX.pe_lamcall (T := Tt P1 P2 P3) (TT := TAsk2 K CB MM) (t := fun E => tCall (spWEX K CB) [] E (tCons (tVar 8) L2.tNil)) (by rfl) AS.m AS.kp AS.lk AS.cd AS.b scAsked rfl (.inl rfl) (asked_gives2 T B AT AM) TB rfl (List.mem_cons_of_mem _ (List.mem_cons_self ..)) (fun p hp hh => by
      simp only [Tt, List.mem_cons, List.not_mem_nil, or_false] at hp
      rcases hp with rfl | rfl | rfl
      · exact absurd hh (by first | exact n12 | exact Ne.symm n12)
      · exact rfl
      · exact absurd hh (by first | exact n23 | exact Ne.symm n23)
) hr (LamX.lamS_by (by show LamX.lamSB (defScope sRfd) _ = true; decide +kernel)) rfl (fun _ _ _ _ _ => rfl) (fun A outer s H E f c' hr' => pe_knX E XWE hr' (by rfl) (takes_of rfl rfl rfl rfl) (fun _ _ _ _ h => h) (pa_cons (pv 8) pa_nil))))
      (pss_one (ps_ret (pe_and (pe_kn d__law_same hr (by rfl) (pa_cons (pv 7) (pa_cons (pe_tp (pa_cons pe_str (pa_cons pe_str pa_nil))) pa_nil))) (pe_one (pe_kn d__law_same hr (by rfl) (pa_cons (pv 8) (pa_cons (pv 6) pa_nil)))))))))))))))), ?_⟩
  try simp only [cx_K]
  refine ⟨_, rfl, s, 0, 100, rfl, LS0.st, by decide, by decide, by decide, by decide, fun bl H1 sbl kp1 st1 => ?_⟩
  have LS1 := LS0.kp kp1 st1
  refine ⟨_, rfl, s, 1, 100, rfl, st1, by decide, by decide, by decide, by decide, fun wo H2 swo kp2 st2 => ?_⟩
  have LS2 := LS1.kp kp2 st2
  have K2 : Kx (Fz s s) H H2 := (Kx.kp (.inl rfl) kp1).trans (Kx.kp (.inl rfl) kp2)
  have sbl := sbl.kx (Kx.kp (.inl rfl) kp2)
  clear kp1 kp2 st1 LS1
  refine ⟨_, rfl, _, rfl, _, rfl, _, rfl, sz2 (by show 3 ≤ 100; decide), fun l3 hl3 kl3 => ?_⟩
  have u3 := Same.new hl3 (.lst [.int n, wo, .int 1])
  refine ⟨s, l3, _, rfl, st2.same u3, upd_same, (st2.ne hl3).symm, by show 0 < 3; decide, by show 3 < 1000; decide, fun d H4 hd kp4 st4 => ⟨sz2 (by show 2 ≤ 100; decide), fun p4 hp4 kq4 => ?_⟩⟩
  have u4 := Same.new hp4 (.tup [.str "BadValue", .str "longs"])
  have k24 : Kx (Fz s s) H2 (upd H4 p4 (.tup [.str "BadValue", .str "longs"])) := (Kx.same u3).trans ((Kx.kp (.inl rfl) kp4).trans (Kx.same u4))
  have LS4 := ((LS2.same u3).kp kp4 st4).same u4
  have K4 := K2.trans k24
  have sbl := sbl.kx k24
  have swo := swo.kx k24
  refine ⟨s, p4, bl, d, .str "BadValue", .str "longs", rfl, ob_new kq4, .inl ⟨sbl, rfl, rfl⟩, LS4, fun H5 e5 LS5 => ⟨true, rfl, if_no rfl ?_⟩⟩
  have K5 := K4.trans (Kx.ext e5)
  have swo := swo.kx (Kx.ext e5)
  clear kp4 st2 st4 u3 u4 k24 sbl K2 K4 LS2 LS4 hd hl3 hp4
  refine ⟨_, rfl, _, rfl, sz2 (by show 3 ≤ 100; decide), fun l6 hl6 kl6 => ?_⟩
  have u6 := Same.new hl6 (.lst [.int h, .int 0, .int 100])
  refine ⟨s, l6, _, rfl, LS5.st.same u6, upd_same, (LS5.st.ne hl6).symm, by show 0 < 3; decide, by show 3 < 1000; decide, fun d6 H6 hd6 kp6 st6 => ⟨_, rfl, sz2 (by show 2 ≤ 100; decide), fun p6 hp6 kq6 => ?_⟩⟩
  have u7 := Same.new hp6 (.tup [.str "BadValue", .str "length"])
  have k57 : Kx (Fz s s) H5 (upd H6 p6 (.tup [.str "BadValue", .str "length"])) := (Kx.same u6).trans ((Kx.kp (.inl rfl) kp6).trans (Kx.same u7))
  have LS7 := ((LS5.same u6).kp kp6 st6).same u7
  have K7 := K5.trans k57
  have swo := swo.kx k57
  have hh : ∃ h' : Int, d6 = .int h' ∧ 0 ≤ h' ∧ h' ≤ 100 := by
    simp only [List.mem_cons, List.not_mem_nil, or_false] at hd6
    rcases hd6 with rfl | rfl | rfl
    · exact ⟨_, rfl, h0, by omega⟩
    · exact ⟨_, rfl, by decide, by decide⟩
    · exact ⟨_, rfl, by decide, by decide⟩
  obtain ⟨h', rfl, g0, g1⟩ := hh
  refine ⟨s, p6, .int h', wo, .str "BadValue", .str "length", rfl, ob_new kq6, .inr (.inl ⟨h', rfl, g0, g1, swo, rfl, rfl⟩), LS7, fun H8 e8 LS8 => ⟨true, rfl, if_no rfl ?_⟩⟩
  have K8 := K7.trans (Kx.ext e8)
  clear swo K5 K7 k57 LS5 LS7 u6 u7 kp6 st6 hd6 hl6 hp6
  refine ⟨fun σ H' => ∃ x5, σ = [some (.ref s), some (.int h), some (.int n), some bl, some wo, x5, none, none, none] ∧ Kx (Fz s s) H H' ∧ LawS K (Tt P1 P2 P3) H' s, ?_, ?_⟩
  · refine ⟨_, rfl, _, _, rfl, rfl, _, rfl, ite2 (fun hlt => ?_) (fun _ => ⟨_, rfl, K8, LS8⟩)⟩
    have hlt := of_decide_eq_true hlt
    refine ⟨_, rfl, _, rfl, _, _, rfl, rfl, ?_⟩
    refine ⟨_, rfl, _, _, rfl, rfl, _, rfl, _, rfl, _, _, rfl, rfl, s, 100 - n, rfl, LS8.st, by omega, fun r H9 r0 r1 kp9 st9 => ⟨_, _, rfl, rfl, sz2 (by show 3 ≤ 100; decide), fun l hl kl => ?_⟩⟩
    have u9 := Same.new hl (.lst [.int (n + 1), .int 100, .int (n + 1 + r)])
    refine ⟨s, l, _, rfl, st9.same u9, upd_same, (st9.ne hl).symm, by show 0 < 3; decide, by show 3 < 1000; decide, fun d H10 hd kp10 st10 => ?_⟩
    have hh : ∃ h' : Int, d = .int h' ∧ n < h' ∧ h' ≤ 100 := by
      simp only [List.mem_cons, List.not_mem_nil, or_false] at hd
      rcases hd with rfl | rfl | rfl
      · exact ⟨_, rfl, by omega, by omega⟩
      · exact ⟨_, rfl, by omega, by omega⟩
      · exact ⟨_, rfl, by omega, by omega⟩
    obtain ⟨h', rfl, g0, g1⟩ := hh
    have LS10 := ((LS8.kp kp9 st9).same u9).kp kp10 st10
    have K10 := K8.trans ((Kx.kp (.inl rfl) kp9).trans ((Kx.same u9).trans (Kx.kp (.inl rfl) kp10)))
    refine ⟨_, rfl, _, rfl, sz2 (by show 2 ≤ 100; decide), fun p hp kq => ?_⟩
    have u11 := Same.new hp (.tup [.str "Mismatch", .non])
    refine ⟨s, p, .int h', .int n, .str "Mismatch", .non, rfl, ob_new kq, .inr (.inr ⟨h', n, rfl, rfl, by omega, g1, n1, n2, g0, rfl, rfl⟩), LS10.same u11, fun H12 e12 LS12 => ⟨true, rfl, if_no rfl ?_⟩⟩
    exact ⟨_, rfl, K10.trans ((Kx.same u11).trans (Kx.ext e12)), LS12⟩
  rintro σ H9 ⟨x5, rfl, K9, LS9⟩
  refine ⟨_, rfl, _, rfl, n, n, rfl, by omega, Int.le_refl _, n1, n2, fun a H10 s10 hw => ?_⟩
  rw [lw_full n1] at hw
  refine ⟨sz2 (by show 1 ≤ 100; decide), fun l1 hl1 kl1 => ⟨_, rfl, l1, n, [.int 1], rfl, rfl, upd_same, by omega, by omega, by rw [sizeLine_eq]; show 1 * n.toNat ≤ _; omega, fun l2 hl2 fr2 => ⟨l2, _, rfl, .inl ⟨.of upd_same, fun wa hwa frw => ?_⟩⟩⟩⟩
  have kw : K.lookup wa = none := frw wa (by rw [upd_same]; simp)
  have ew : (List.replicate n.toNat ([.int 1] : List V)).flatten = (List.replicate n.toNat (1 : Int)).map V.int := by rw [List.flatten_replicate_singleton, List.map_replicate]
  rw [ew] at hwa ⊢
  have u1 := (Same.new hl1 (.lst [.int 1])).trans ((Same.new hl2 (.lst ((List.replicate n.toNat (1 : Int)).map V.int))).trans (Same.new hwa (.tup ((List.replicate n.toNat (1 : Int)).map V.int))))
  refine ⟨_, _, rfl, (eqv_tup (ob_same u1 hw) ((ob_none kw).trans upd_same) (List.all_eq_true.mpr fun x hx => by
    obtain ⟨u, _, rfl⟩ := List.mem_map.mp hx
    rfl) (by rw [List.length_map, List.length_replicate]; omega)).le (by decide), fun H11 s11 => ⟨true, rfl, if_no rfl ?_⟩⟩
  have sA := s10.trans (u1.trans s11)
  refine ⟨_, rfl, 0, n, rfl, by decide, by omega, n1, n2, fun j H12 s12 gj => ?_⟩
  have ej := GI.uniq gj (gi_zero n1)
  subst ej
  refine ⟨_, _, rfl, eqv_sc rfl 3, fun H13 s13 => ⟨true, rfl, if_no rfl ?_⟩⟩
  have sB := sA.trans (s12.trans s13)
  have LS13 := LS9.same sB
  have K13 := K9.trans (Kx.same sB)
  clear sA sB s10 s11 s12 s13 u1 hw hl1 hl2 hwa frw fr2
  refine ⟨_, rfl, s, rfl, LS13.st, fun v H14 bv kp14 st14 => ?_⟩
  have LS14 := LS13.kp kp14 st14
  have K14 := K13.trans (Kx.kp (.inl rfl) kp14)
  refine ⟨_, rfl, _, v, 24, 3, 3, rfl, by omega, bv.1, Shp.dq bv.1, by omega, fun y H15 s15 cp => ?_⟩
  have ce := cp.eqv s15
  have bv := bv.same s15
  have LS15 := LS14.same s15
  have K15 := K14.trans (Kx.same s15)
  refine ⟨LS15.tb, fun H16 e16 t16 => ?_⟩
  refine ⟨_, rfl, v, rfl, (bv.2.kx (Kx.ext e16)).now, fun d Hb sb hd => .inl ⟨rfl, d, _, rfl, hd, fun p Hc sc op => ?_⟩⟩
  refine ⟨_, rfl, sz2 (by show 2 ≤ 100; decide), fun q hq kq => ?_⟩
  have u5 := Same.new hq (.tup [.str "BadValue", .str "word"])
  refine ⟨_, _, rfl, (eqv_tup (ob_same u5 op) (ob_new kq) rfl (by show 2 ≤ 1000; decide)).le (by decide), fun H17 s17 => ⟨true, rfl, if_yes rfl ?_⟩⟩
  have sC := (sb.trans sc).trans (u5.trans s17)
  refine ⟨_, rfl, _, rfl, _, _, rfl, ce.ext (LamX.ExtN.trans e16 (LamX.ExtN.of sC)), fun H18 s18 => ?_⟩
  have sD := sC.trans s18
  exact k H18 (K15.trans ((Kx.ext e16).trans (Kx.same sD))) ⟨(LS15.st.ext e16).same sD, tabs_same sD t16⟩

end
end My

namespace My
open PySem PySem.Spec PyProof.Rows L2
section
variable {P : Program} {w : World} {K : PySem.W.Frag} {mg : Str → Option Value} {base : Heap}
def spObj (K : PySem.W.Frag) (TT : List (Addr × Str)) : Sp := fun vs H Q _ => ∃ (s wa : Addr) (W : List Int), vs = [.ref wa] ∧ LawS K TT H s ∧ Wd K H wa W ∧ Wv W ∧ ∀ H', Kx (Fz s s) H H' → LawS K TT H' s → Q (.bl true) H'
abbrev sObj : Stmt := topS 74
theorem scObj : FnScope ["_law_word_here", "_law_one"] ["_law_word_here"] (defScope sObj) := ⟨rfl, rfl, rfl, by decide +kernel, rfl, by decide +kernel, by decide +kernel⟩
theorem ok_Obj {C zd CB MM S fa g c P1 P2 P3 : Addr} {A : String → Addr} {oc dV kV doc pm cdv ct oc' dV' kV' doc' pm' ct' : Value} {od an od' an' : Option Addr} {osl osl' : Array (Option Value)} (T : Bt K mg) (B : BvT K mg CB) (AT : AskT K mg CB S A) (AM : AskM K MM S A) (AS : AskD K mg g oc od dV kV doc pm an cdv ct osl)
    (lkR : K.lookup fa = some ⟨oc', od', .func (PySem.W.fnOf "_law_objects_refused" "_law_objects_refused" (defArgs sObj) (defBody sObj) (defScope sObj) dV' kV' doc' pm' an' (.ref c) ct'), osl'⟩) (cdR : PySem.W.codeIn K (.ref c) "_law_objects_refused" = true) (TB : LamX.TabB base mg c P3) (hN : CyN K C) (hI : C8.InsC K C) (mkC : C8.Mak P w K mg base 5 "Cycle" C (spCyInit K C) [.ref zd]) (ozd : ∀ H, ob K H zd = some (.tup [.int 0, .int 1])) (n12 : P1 ≠ P2) (n13 : P1 ≠ P3) (n23 : P2 ≠ P3)
     (XWE : KnX P w K mg base 4 "word_error" ["word"] (spWEX K CB))
    (d__law_refuse : Kn P w K mg base 8 "_law_refuse" ["_law_longs_here", "_law_length", "_law_due"] (spRfs K (Tt P1 P2 P3))) (d__law_same : Kn P w K mg base 5 "_law_same" ["_law_told", "_law_due"] (spSame K 4)) : FnOk P w K mg base CX0 9 fa (PySem.W.fnOf "_law_objects_refused" "_law_objects_refused" (defArgs sObj) (defBody sObj) (defScope sObj) dV' kV' doc' pm' an' (.ref c) ct') ["_law_word_here"] (spObj K (Tt P1 P2 P3)) := by
  refine fn_of lkR cdR scObj (fun vs H Q E h => ?_) fun A outer s H vs Q E hr h => ?_
  · obtain ⟨s, wa, W, rfl, _⟩ := h
    rfl
  obtain ⟨s, wa, W, rfl, LS0, hw, wv, k⟩ := h
  refine ⟨_, PSs.nox (pss_cons (ps_set (i := 1) scObj.nd rfl (.inr rfl) (C8.pe_mk mkC hr (by omega) (by rfl) (pa_cons (pe_tp (pa_cons pe_int (pa_cons pe_int pa_nil))) pa_nil)))
      (pss_cons (ps_if (PW.pt (pw_or (pt_not (pt_val (pe_kn d__law_refuse hr (by rfl) (pa_cons (pv 1) (pa_cons (pv 1) (pa_cons (pe_tp (pa_cons pe_str (pa_cons pe_str pa_nil))) pa_nil)))))) (pw_or1 (pt_not (pt_val (pe_kn d__law_refuse hr (by rfl) (pa_cons (pe_callB call_lenA (by rfl) T.b_len PySem.boot_len (pa_cons (pv 0) pa_nil)) (pa_cons (pv 1) (pa_cons (pe_tp (pa_cons pe_str (pa_cons pe_str pa_nil))) pa_nil))))))))) (pss_one (ps_ret pe_bl)) pss_nil)
      (pss_cons (ps_if (pt_not (pt_val (pe_kn d__law_same hr (by rfl) (pa_cons (LamX.pe_lamcall (T := Tt P1 P2 P3) (TT := TAsk2 K CB MM) (t := fun E => tCall (spWEX K CB) [] E (tCons (tVar 1) L2.tNil)) (by rfl) AS.m AS.kp AS.lk AS.cd AS.b scAsked rfl (.inl rfl) (asked_gives2 T B AT AM) TB rfl (List.mem_cons_of_mem _ (List.mem_cons_of_mem _ (List.mem_cons_self ..))) (fun p hp hh => by
      simp only [Tt, List.mem_cons, List.not_mem_nil, or_false] at hp
      rcases hp with rfl | rfl | rfl
      · exact absurd hh (by first | exact n13 | exact Ne.symm n13)
      · exact absurd hh (by first | exact n23 | exact Ne.symm n23)
      · exact rfl
) hr (LamX.lamS_by (by show LamX.lamSB (defScope sObj) _ = true; decide +kernel)) rfl (fun _ _ _ _ _ => rfl) (fun A outer s H E f c' hr' => pe_knX E XWE hr' (by rfl) (takes_of rfl rfl rfl rfl) (fun _ _ _ _ h => h) (pa_cons (pv 1) pa_nil))) (pa_cons (pe_tp (pa_cons pe_str (pa_cons pe_str pa_nil))) pa_nil))))) (pss_one (ps_ret pe_bl)) pss_nil)
      (pss_one (ps_ret (pe_kn d__law_same hr (by rfl) (pa_cons (LamX.pe_lamcall (T := Tt P1 P2 P3) (TT := TAsk2 K CB MM) (t := fun E => tCall (spWEX K CB) [] E (tCons (tFr K (tOp (rCatA K) (tFr K (tSl (rSlA K) (tVar 0) (tPart (tC (.int 1))) L2.tNoPart)) (tTp K (tCons (tVar 1) L2.tNil)))) L2.tNil)) (by rfl) AS.m AS.kp AS.lk AS.cd AS.b scAsked rfl (.inl rfl) (asked_gives2 T B AT AM) TB rfl (List.mem_cons_of_mem _ (List.mem_cons_of_mem _ (List.mem_cons_self ..))) (fun p hp hh => by
      simp only [Tt, List.mem_cons, List.not_mem_nil, or_false] at hp
      rcases hp with rfl | rfl | rfl
      · exact absurd hh (by first | exact n13 | exact Ne.symm n13)
      · exact absurd hh (by first | exact n23 | exact Ne.symm n23)
      · exact rfl
) hr (LamX.lamS_by (by show LamX.lamSB (defScope sObj) _ = true; decide +kernel)) rfl (fun _ _ _ _ _ => rfl) (fun A outer s H E f c' hr' => pe_knX E XWE hr' (by rfl) (takes_of rfl rfl rfl rfl) (fun _ _ _ _ h => h) (pa_cons (pe_fr (pe_op op_catA (pe_fr (pe_slice sl_tupA (pv 0) (po_some pe_int) po_none)) (pe_tp (pa_cons (pv 1) pa_nil)))) pa_nil))) (pa_cons (pe_tp (pa_cons pe_str (pa_cons pe_str pa_nil))) pa_nil)))))))), ?_⟩
  try simp only [cx_K]
  have hl : (W.map V.int).length = W.length := List.length_map _
  have n1 := wv.2.1
  have n2 := wv.2.2
  refine ⟨sz2 (by show 2 ≤ 100; decide), fun q1 hq1 kq1 => fun c1 dx1 hc1 hd1 ne1 => ?_⟩
  have t1 := Same.new hq1 (.tup [.int 1, .int 2])
  have oq := ob_new (K := K) (H := H) (o := .tup [.int 1, .int 2]) kq1
  have LS1 := LS0.same t1
  have hw := ob_same t1 hw
  generalize upd H q1 (.tup [.int 1, .int 2]) = J at oq hc1 hd1 hw LS1 t1 ⊢
  have nc1 := LS1.nf hc1
  refine ⟨J, c1, dx1, q1, zd, (1, 2), (0, 1), 2, rfl, same_make hc1 hd1, hc1, upd_same, ⟨oq, ⟨by decide, by decide⟩, ⟨by decide, by decide⟩⟩, ⟨⟨ozd _, nf01, sz01 (by decide)⟩, by decide, by decide⟩, by decide, fun H1 s1 hcy => ⟨rfl, ?_⟩⟩
  obtain ⟨dxc, a_, b_, v_, hins, _⟩ := hcy
  have hw := ob_same s1 hw
  have LS1 := LS1.same s1
  have K1 : Kx (Fz s s) H H1 := Kx.same (t1.trans s1)
  clear t1 oq hq1 kq1 hc1 hd1 ne1 s1
  refine ⟨_, rfl, _, rfl, sz2 (by show 2 ≤ 100; decide), fun p2 hp2 kq2 => ?_⟩
  have u2 := Same.new hp2 (.tup [.str "BadValue", .str "longs"])
  have hins2 := u2 _ _ hins
  refine ⟨s, p2, .ref c1, .ref c1, .str "BadValue", .str "longs", rfl, ob_new kq2, .inl ⟨sbI_ins hN hI nc1 hins2, rfl, rfl⟩, LS1.same u2, fun H3 e3 LS3 => ⟨true, rfl, if_no rfl ?_⟩⟩
  have K3 := K1.trans ((Kx.same u2).trans (Kx.ext e3))
  have hins3 := e3 _ _ hins2 (fun _ z => by cases z)
  have hw3 := ob_ext e3 (fun _ q => by cases q) (ob_same u2 hw)
  clear K1 u2 hins hins2 hw LS1 e3
  refine ⟨_, rfl, wa, rfl, _, itsO_of hw3, _, rfl, sz2 (by show 2 ≤ 100; decide), fun p4 hp4 kq4 => ?_⟩
  have u4 := Same.new hp4 (.tup [.str "BadValue", .str "length"])
  have hins4 := u4 _ _ hins3
  refine ⟨s, p4, .int ((W.map V.int).length : Int), .ref c1, .str "BadValue", .str "length", rfl, ob_new kq4, .inr (.inl ⟨_, rfl, by omega, by rw [hl]; omega, sbI_ins hN hI nc1 hins4, rfl, rfl⟩), LS3.same u4, fun H5 e5 LS5 => ⟨true, rfl, if_no rfl ?_⟩⟩
  have K5 := K3.trans ((Kx.same u4).trans (Kx.ext e5))
  have hins5 := e5 _ _ hins4 (fun _ z => by cases z)
  have hw5 := ob_ext e5 (fun _ q => by cases q) (ob_same u4 hw3)
  clear K3 u4 hins3 hins4 hw3 LS3 e5
  refine ⟨LS5.tb, fun H6 e6 t6 => ?_⟩
  have hins6 := e6 _ _ hins5 (fun _ z => by cases z)
  have hw6 := ob_ext e6 (fun _ q => by cases q) hw5
  refine ⟨_, rfl, .ref c1, rfl, (sbW_ins (F := Fz s s) hN hI nc1 hins6).now, fun d Hb sb hd => .inl ⟨rfl, d, _, rfl, hd, fun p Hc sc op => ?_⟩⟩
  refine ⟨sz2 (by show 2 ≤ 100; decide), fun q hq kq => ?_⟩
  have u5 := Same.new hq (.tup [.str "BadValue", .str "word"])
  refine ⟨_, _, rfl, (eqv_tup (ob_same u5 op) (ob_new kq) rfl (by show 2 ≤ 1000; decide)).le (by decide), fun H7 s7 => ⟨true, rfl, if_no rfl ?_⟩⟩
  have s67 := (sb.trans sc).trans (u5.trans s7)
  have LS7 : LawS K (Tt P1 P2 P3) H7 s := ⟨(LS5.st.ext e6).same s67, tabs_same s67 t6⟩
  have K7 := K5.trans ((Kx.ext e6).trans (Kx.same s67))
  have hins7 := s67 _ _ hins6
  have hw7 := ob_same s67 hw6
  clear K5 LS5 hins5 hins6 hw5 hw6 e6 t6 sb sc op u5 hq s7 s67 hd
  refine ⟨LS7.tb, fun H8 e8 t8 => ?_⟩
  have hins8 := e8 _ _ hins7 (fun _ z => by cases z)
  have hw8 := ob_ext e8 (fun _ q => by cases q) hw7
  refine ⟨_, rfl, ?_⟩
  simp only [tNoPart]
  refine ⟨_, rfl, ?_⟩
  change rSlA K (.ref wa) (some ((1 : Nat) : Int)) none H8 _
  refine sl_get hw8 fun p3 J1 v1 o3 => ?_
  rw [cut_from _ 1 (by rw [hl]; omega)] at o3
  refine ⟨_, rfl, sz2 (by show 1 ≤ 100; decide), fun p4 hp4 kq4 => ?_⟩
  have v2 := Same.new hp4 (.tup [.ref c1])
  have o4 := ob_new (K := K) (H := J1) (o := .tup [.ref c1]) kq4
  refine cat_get (ob_same v2 o3) o4 (by simp only [List.length_drop, List.length_map, List.length_cons, List.length_nil]; omega) fun p5 J2 v3 o5 => ?_
  have v13 := v1.trans (v2.trans v3)
  have hins9 := v13 _ _ hins8
  have o5' : ob K J2 p5 = some (.tup ((W.drop 1).map V.int ++ [.ref c1] ++ ([] : List Int).map V.int)) := by rw [o5, List.map_drop]; simp
  have np5 : ¬Fz s s p5 := fun z => tup_ne ((LS7.st.ext e8).same v13) o5 (z.elim id id)
  refine ⟨.ref p5, rfl, (sbW_item (F := Fz s s) np5 o5' (sbI_ins hN hI nc1 hins9) (by rw [List.length_drop]; show W.length - 1 + 0 < 100; omega)).now, fun d Hb sb hd => .inl ⟨rfl, d, _, rfl, hd, fun p Hc sc op => ?_⟩⟩
  refine ⟨sz2 (by show 2 ≤ 100; decide), fun q hq kq => ?_⟩
  have u5 := Same.new hq (.tup [.str "BadValue", .str "word"])
  refine ⟨_, _, rfl, (eqv_tup (ob_same u5 op) (ob_new kq) rfl (by show 2 ≤ 1000; decide)).le (by decide), fun H9 s9 => ?_⟩
  have s89 := v13.trans ((sb.trans sc).trans (u5.trans s9))
  exact k H9 (K7.trans ((Kx.ext e8).trans (Kx.same s89))) ⟨(LS7.st.ext e8).same s89, tabs_same s89 t8⟩

end
end My

namespace My
open PySem PySem.Spec PyProof.Rows L2
section
variable {P : Program} {w : World} {K : PySem.W.Frag} {mg : Str → Option Value} {base : Heap}
def spLaw (K : PySem.W.Frag) (P1 P2 P3 : Addr) : Sp := fun vs H Q _ => ∃ (a : Addr) (ns : List Int), vs = [.ref a] ∧ SqL K H a (ns.map V.int) ∧ H P1 = some (.tbl #[]) ∧ H P2 = some (.tbl #[]) ∧ H P3 = some (.tbl #[]) ∧ ∀ H', Q (.bl true) H'
abbrev sLaw : Stmt := topS 75
theorem scLaw : FnScope ["_law_script", "_law_store_here", "_law_first", "_law_second", "_law_free", "_law_longs_here", "_law_length"] ["_law_script"] (defScope sLaw) := ⟨rfl, rfl, rfl, by decide +kernel, rfl, by decide +kernel, by decide +kernel⟩
theorem ok_law {fa P1 P2 P3 : Addr} {fd : FuncData} (F : Fun K "law" "law" sLaw fa fd) (T : Bt K mg) (d__law_store : Kn P w K mg base 1 "_law_store" ["_law_script"] (spStore K)) (d__law_longs : Kn P w K mg base 4 "_law_longs" ["_law_store_here"] (spLongs K)) (d__law_word : Kn P w K mg base 5 "_law_word" ["_law_store_here"] (spDWd K)) (d__law_same : Kn P w K mg base 5 "_law_same" ["_law_told", "_law_due"] (spSame K 4)) (d_word_error : Kn P w K mg base 4 "word_error" ["word"] (spWE K)) (d__law_error_due : Kn P w K mg base 3 "_law_error_due" ["_law_word_here"] (spWE K)) (d__law_refused : Kn P w K mg base 9 "_law_refused" ["_law_store_here", "_law_longs_here", "_law_length"] (spRfd K (Tt P1 P2 P3))) (d__law_objects_refused : Kn P w K mg base 9 "_law_objects_refused" ["_law_word_here"] (spObj K (Tt P1 P2 P3))) (d__law_best_right : Kn P w K mg base 5 "_law_best_right" ["_law_store_here", "_law_longs_here", "_law_length"] (spBR K)) : FnOk P w K mg base CX0 10 fa fd ["_law_script"] (spLaw K P1 P2 P3) := by
  refine F.ok scLaw (fun vs H Q E h => ?_) (fun cdv A outer s H vs Q E hr h => ?_)
  · obtain ⟨sa, ns, rfl, _⟩ := h
    rfl
  obtain ⟨sa, ns, rfl, hsa, hP1, hP2, hP3, q⟩ := h
  refine ⟨_, (pss_cons (ps_set (i := 1) scLaw.nd rfl (.inl rfl) (pe_kn d__law_store hr (by rfl) (pa_cons (pv 0) pa_nil)))
      (pss_cons (ps_set (i := 2) scLaw.nd rfl (.inl rfl) (pe_kn d__law_longs hr (by rfl) (pa_cons (pv 1) pa_nil)))
      (pss_cons (ps_set (i := 3) scLaw.nd rfl (.inl rfl) (pe_kn d__law_longs hr (by rfl) (pa_cons (pv 1) pa_nil)))
      (pss_cons (ps_set (i := 4) scLaw.nd rfl (.inl rfl) (pe_kn d__law_word hr (by rfl) (pa_cons (pv 1) pa_nil)))
      (pss_cons (ps_if (pt_not (pt_val (pe_kn d__law_same hr (by rfl) (pa_cons (pe_kn d_word_error hr (by rfl) (pa_cons (pv 4) pa_nil)) (pa_cons (pe_kn d__law_error_due hr (by rfl) (pa_cons (pv 4) pa_nil)) pa_nil))))) (pss_one (ps_ret pe_bl)) pss_nil)
      (pss_cons (ps_if (PW.pt (pw_or (pt_not (pt_val (pe_kn d__law_refused hr (by rfl) (pa_cons (pv 1) (pa_cons (pe_ix ix_any (pv 3) pe_int (fun _ _ => rfl)) (pa_cons (pe_ix ix_any (pv 3) pe_int (fun _ _ => rfl)) pa_nil)))))) (pw_or1 (pt_not (pt_val (pe_kn d__law_objects_refused hr (by rfl) (pa_cons (pv 4) pa_nil))))))) (pss_one (ps_ret pe_bl)) pss_nil)
      (pss_cons (ps_for PassesOwn.never rfl (pi_list (pe_ls (pa_cons (pv 2) (pa_cons (pv 3) (pa_cons (pv 2) pa_nil))))) (pg_tp 2 (by rfl) (pgs_cons (pg_name (i := 5) scLaw.nd rfl (.inl rfl)) (pgs_cons (pg_name (i := 6) scLaw.nd rfl (.inl rfl)) pgs_nil))) (pss_one (ps_if (pt_not (pt_val (pe_kn d__law_best_right hr (by rfl) (pa_cons (pv 1) (pa_cons (pv 5) (pa_cons (pv 6) pa_nil)))))) (pss_one (ps_ret pe_bl)) pss_nil)))
      (pss_one (ps_ret (pe_kn d__law_same hr (by rfl) (pa_cons (pe_kn d_word_error hr (by rfl) (pa_cons (pv 4) pa_nil)) (pa_cons (pe_kn d__law_error_due hr (by rfl) (pa_cons (pv 4) pa_nil)) pa_nil)))))))))))), ?_⟩
  have TBL : ∀ H1, Same H H1 → LamX.Tabs (Tt P1 P2 P3) H1 := fun H1 s1 p hp => by
    simp only [Tt, List.mem_cons, List.not_mem_nil, or_false] at hp
    rcases hp with rfl | rfl | rfl
    · exact LamX.TabS.nil (s1 _ _ hP1)
    · exact LamX.TabS.nil (s1 _ _ hP2)
    · exact LamX.TabS.nil (s1 _ _ hP3)
  simp only [cx_K]
  refine ⟨_, rfl, sa, ns, rfl, hsa, fun s H1 s1 st1 => ?_⟩
  have LS1 : LawS K (Tt P1 P2 P3) H1 s := ⟨st1, TBL H1 s1⟩
  clear TBL hP1 hP2 hP3 hsa s1
  refine ⟨_, rfl, s, rfl, st1, fun p1 H2 a1 b1 o1 a0 ab b0 b2 kp2 st2 => ?_⟩
  have LS2 := LS1.kp kp2 st2
  refine ⟨_, rfl, s, rfl, st2, fun p2 H3 c1 d1 o2 c0 cd d0 d2 kp3 st3 => ?_⟩
  have LS3 := LS2.kp kp3 st3
  have o1 := ob_kp2 kp3 (tup_ne st2 o1) o1
  refine ⟨_, rfl, s, rfl, st3, fun wa W H4 hw wv kp4 st4 => ?_⟩
  have LS4 := LS3.kp kp4 st4
  have o1 := ob_kp2 kp4 (tup_ne st3 o1) o1
  have o2 := ob_kp2 kp4 (tup_ne st3 o2) o2
  clear kp2 kp3 kp4 st1 st2 st3 LS1 LS2 LS3
  have ln : ((W.length : Int)) ≠ 0 := by have := wv.2.1; omega
  refine ⟨_, rfl, wa, W, rfl, hw, wv, fun q5 hq5 p5 H5 s5 o5 => ?_⟩
  refine ⟨_, rfl, wa, W, rfl, hw.same s5, wv, fun q6 hq6 p6 H6 s6 o6 => ?_⟩
  rw [is_unique ln hq6 hq5] at o6
  refine ⟨_, _, rfl, (eqv_tup (ob_same s6 o5) o6 rfl (by show 2 ≤ 1000; decide)).le (by decide), fun H7 s7 => ⟨true, rfl, if_no rfl ?_⟩⟩
  have s47 := s5.trans (s6.trans s7)
  have LS7 := LS4.same s47
  have o1 := ob_same s47 o1
  have o2 := ob_same s47 o2
  have hw := ob_same s47 hw
  clear s5 s6 s7 s47 LS4 st4 o5 o6 hq5 hq6
  refine ⟨_, rfl, _, rfl, p2, 0, rfl, rfl, _, itsO_of o2, _, atI_0 _ _, _, rfl, p2, 1, rfl, rfl, _, itsO_of o2, _, atI_1 _ _ _, s, c1, d1, rfl, LS7, c0, cd, d0, d2, fun H8 k8 LS8 => ⟨true, rfl, if_no rfl ?_⟩⟩
  have up : ∀ {a : Addr} {xs : List V}, ob K H7 a = some (.tup xs) → ob K H8 a = some (.tup xs) := fun o => ob_kx k8 (LS7.nt o) (fun _ z => by cases z) o
  have o1 := up o1
  have o2 := up o2
  have hw := up hw
  clear up
  refine ⟨_, rfl, s, wa, W, rfl, LS8, hw, wv, fun H9 k9 LS9 => ⟨true, rfl, if_no rfl ?_⟩⟩
  have up : ∀ {a : Addr} {xs : List V}, ob K H8 a = some (.tup xs) → ob K H9 a = some (.tup xs) := fun o => ob_kx k9 (LS8.nt o) (fun _ z => by cases z) o
  have o1 := up o1
  have o2 := up o2
  have hw := up hw
  clear up k8 k9 LS7 LS8
  refine ⟨_, rfl, _, rfl, _, rfl, sz2 (by show 3 ≤ 100; decide), fun l hl' kl => ?_⟩
  have u1 := Same.new hl' (.lst [.ref p1, .ref p2, .ref p1])
  have eL : upd H9 l (.lst [.ref p1, .ref p2, .ref p1]) l = some (.lst [.ref p1, .ref p2, .ref p1]) := upd_same
  have nL := LS9.st.ne hl'
  have stL := LS9.st.same u1
  have o1 := ob_same u1 o1
  have o2 := ob_same u1 o2
  have hw := ob_same u1 hw
  generalize upd H9 l (.lst [.ref p1, .ref p2, .ref p1]) = HL at u1 eL stL o1 o2 hw ⊢
  refine ⟨l, rfl, ⟨_, .of eL⟩, forI_list (xs := [.ref p1, .ref p2, .ref p1]) (fun (_ : Nat) (σ : L2.St) (H' : Hp) => ∃ (x5 x6 : Option V), σ = [some (.ref sa), some (.ref s), some (.ref p1), some (.ref p2), some (.ref wa), x5, x6] ∧ Kp s HL H' ∧ Sto K H' s) ⟨_, _, rfl, Kp.refl _ _, stL⟩ (fun i σ H' _ h => ?_) ?_ ?_⟩
  · obtain ⟨_, _, _, e, _⟩ := h
    exact .of (e.1 _ _ nL eL)
  · rintro i x σ H' hi ⟨x5, x6, rfl, e, st⟩
    have hx : ∃ (p : Addr) (h n : Int), x = .ref p ∧ ob K H' p = some (.tup [.int h, .int n]) ∧ 0 ≤ h ∧ h ≤ n ∧ 1 ≤ n ∧ n ≤ 100 := by
      have hm := List.mem_of_getElem? hi
      simp only [List.mem_cons, List.not_mem_nil, or_false] at hm
      rcases hm with rfl | rfl | rfl
      · exact ⟨_, _, _, rfl, ob_kp2 e (tup_ne stL o1) o1, a0, ab, b0, b2⟩
      · exact ⟨_, _, _, rfl, ob_kp2 e (tup_ne stL o2) o2, c0, cd, d0, d2⟩
      · exact ⟨_, _, _, rfl, ob_kp2 e (tup_ne stL o1) o1, a0, ab, b0, b2⟩
    obtain ⟨p, h, n, rfl, op, h0, h1, n1, n2⟩ := hx
    refine ⟨p, rfl, _, op, rfl, ?_⟩
    refine ⟨_, _, rfl, _, _, rfl, rfl, ?_⟩
    refine ⟨_, rfl, _, rfl, _, rfl, s, h, n, rfl, st, h0, h1, n1, n2, fun H2 kp2 st2 => ⟨true, rfl, if_no rfl ?_⟩⟩
    exact ⟨_, _, rfl, e.trans kp2, st2⟩
  · rintro σ H' ⟨x5, x6, rfl, e, st⟩
    have hw := ob_kp2 e (tup_ne stL hw) hw
    refine ⟨_, rfl, wa, W, rfl, hw, wv, fun q5 hq5 p5 H5 s5 o5 => ?_⟩
    refine ⟨_, rfl, wa, W, rfl, Wd.same hw s5, wv, fun q6 hq6 p6 H6 s6 o6 => ?_⟩
    rw [is_unique ln hq6 hq5] at o6
    exact ⟨_, _, rfl, (eqv_tup (ob_same s6 o5) o6 rfl (by show 2 ≤ 1000; decide)).le (by decide), fun H7 s7 => q H7⟩

end
end My

namespace My
open PySem PySem.Spec PyProof.Rows L2
theorem ob_con {K : PySem.W.Frag} {z : Addr} {dd : Option Addr} {x y : Int} {t0 t1 : Tok} {n : Nat} {sl : Array (Option Value)} (h : K.lookup z = some ⟨.type "tuple", dd, .seq #[.int x t0, .int y t1] n, sl⟩) (H : Hp) : ob K H z = some (.tup [.int x, .int y]) := by
  unfold ob obK
  rw [h]
  show (if 2 ≤ sizeLine then _ else _) = _
  rw [if_pos (by rw [sizeLine_eq]; omega)]
  rfl
/-! ### the end: what the top has written -/
theorem dfn_mk {K : PySem.W.Frag} {h : Heap} {mg : Str → Option Value} {x : Str} {st : Stmt} {ps : List Str} {f : Addr} {oc kV doc pm cd ct : Value} {od an : Option Addr} {sl : Array (Option Value)} (X : K.In h) (G : h.Ns mainGlobals mg)
    (a : PySem.W.nsIn K mainGlobals x = some (some (.ref f))) (l : K.lookup f = some ⟨oc, od, .func (PySem.W.fnOf x x (defArgs st) (defBody st) (defScope st) .none kV doc pm an cd ct), sl⟩) (c : PySem.W.codeIn K cd x = true) (k : PySem.W.keepIn K (.ref f) = true)
    (hb : ∀ (kV doc pm : Value) (an : Option Addr) (cdv ct : Value) (us : List Value), us.length = ps.length → bindArgs (PySem.W.fnOf x x (defArgs st) (defBody st) (defScope st) .none kV doc pm an cdv ct) ⟨us, []⟩ = pure (ps.zip us)) : Dfn K mg x st ps :=
  ⟨f, _, fun_mk l c k, PySem.W.mg_of X G a, (fun_mk l c k).binds hb⟩
theorem all_mk {P : Program} {w : World} {K : PySem.W.Frag} {h : Heap} {mg : Str → Option Value} {fa : Addr} (X : K.In h) (G : h.Ns mainGlobals mg) (hfa : mg "law" = some (.ref fa)) {C S fI : Addr} {nm qn : Str} {N0 : Addr} {bs bm : List Value} {sn : List Str} {sub : List Value} {ab : Bool} {col : Option Bool} {dd : Option Addr} {m0 m1 m2 m3 m5 : Option Value} {ocI kVI dcI pmI cdI ctI : Value} {odI anI : Option Addr} {slI : Array (Option Value)} {C_Mismatch : Addr} {C_Still : Addr} {C_Endless : Addr} {C_TooMany : Addr} {C_NoName : Addr} {C_Taken : Addr} {C_Locked : Addr} {C_Looped : Addr} {C_Broken : Addr} {C_ReadError : Addr} {f_A : Addr} {oc_A kV_A dc_A pm_A cd_A ct_A : Value} {od_A an_A : Option Addr} {sl_A : Array (Option Value)} {f_R1 c_R1 : Addr} {oc_R1 kV_R1 dc_R1 pm_R1 ct_R1 : Value} {od_R1 an_R1 : Option Addr} {sl_R1 : Array (Option Value)} {f_R2 c_R2 : Addr} {oc_R2 kV_R2 dc_R2 pm_R2 ct_R2 : Value} {od_R2 an_R2 : Option Addr} {sl_R2 : Array (Option Value)} {f_R3 c_R3 : Addr} {oc_R3 kV_R3 dc_R3 pm_R3 ct_R3 : Value} {od_R3 an_R3 : Option Addr} {sl_R3 : Array (Option Value)} {fL : Addr} {ocL kVL dcL pmL cdvL ctL : Value} {odL anL : Option Addr} {slL : Array (Option Value)} {z0 : Addr} {ddZ : Option Addr} {taZ tbZ : Tok} {nnZ : Nat} {ssZ : Array (Option Value)} {o0 : Addr} {ddO : Option Addr} {taO tbO : Tok} {nnO : Nat} {ssO : Array (Option Value)} {CY : Addr} {fWI tY : Addr} {ocTY : Value} {odTY : Option Addr} {slTY : Array (Option Value)} {nTY : Nat} {ocWI kVWI dcWI pmWI cdWI ctWI : Value} {odWI anWI : Option Addr} {slWI : Array (Option Value)} {zi : Addr} {ddI : Option Addr} {taI tbI : Tok} {nnI : Nat} {ssI : Array (Option Value)} {f0Store : Addr} {oc0Store kV0Store dc0Store pm0Store cd0Store ct0Store : Value} {od0Store an0Store : Option Addr} {sl0Store : Array (Option Value)} {f0LLongs : Addr} {oc0LLongs kV0LLongs dc0LLongs pm0LLongs cd0LLongs ct0LLongs : Value} {od0LLongs an0LLongs : Option Addr} {sl0LLongs : Array (Option Value)} {f0Take : Addr} {oc0Take kV0Take dc0Take pm0Take cd0Take ct0Take : Value} {od0Take an0Take : Option Addr} {sl0Take : Array (Option Value)} {f0Mixed : Addr} {oc0Mixed kV0Mixed dc0Mixed pm0Mixed cd0Mixed ct0Mixed : Value} {od0Mixed an0Mixed : Option Addr} {sl0Mixed : Array (Option Value)} {f0Pick : Addr} {oc0Pick kV0Pick dc0Pick pm0Pick cd0Pick ct0Pick : Value} {od0Pick an0Pick : Option Addr} {sl0Pick : Array (Option Value)} {f0Range : Addr} {oc0Range kV0Range dc0Range pm0Range cd0Range ct0Range : Value} {od0Range an0Range : Option Addr} {sl0Range : Array (Option Value)} {f0DWd : Addr} {oc0DWd kV0DWd dc0DWd pm0DWd cd0DWd ct0DWd : Value} {od0DWd an0DWd : Option Addr} {sl0DWd : Array (Option Value)} {f0LIt : Addr} {oc0LIt kV0LIt dc0LIt pm0LIt cd0LIt ct0LIt : Value} {od0LIt an0LIt : Option Addr} {sl0LIt : Array (Option Value)} {f0Same : Addr} {oc0Same kV0Same dc0Same pm0Same cd0Same ct0Same : Value} {od0Same an0Same : Option Addr} {sl0Same : Array (Option Value)} {f0LWhole : Addr} {oc0LWhole kV0LWhole dc0LWhole pm0LWhole cd0LWhole ct0LWhole : Value} {od0LWhole an0LWhole : Option Addr} {sl0LWhole : Array (Option Value)} {f0WE : Addr} {oc0WE kV0WE dc0WE pm0WE cd0WE ct0WE : Value} {od0WE an0WE : Option Addr} {sl0WE : Array (Option Value)} {f0Require : Addr} {oc0Require kV0Require dc0Require pm0Require cd0Require ct0Require : Value} {od0Require an0Require : Option Addr} {sl0Require : Array (Option Value)} {tkLONGEST_WORD : Tok} {f0Word : Addr} {oc0Word kV0Word dc0Word pm0Word cd0Word ct0Word : Value} {od0Word an0Word : Option Addr} {sl0Word : Array (Option Value)} {f0Within : Addr} {oc0Within kV0Within dc0Within pm0Within cd0Within ct0Within : Value} {od0Within an0Within : Option Addr} {sl0Within : Array (Option Value)} {f0WholeU : Addr} {oc0WholeU kV0WholeU dc0WholeU pm0WholeU cd0WholeU ct0WholeU : Value} {od0WholeU an0WholeU : Option Addr} {sl0WholeU : Array (Option Value)} {t0Fraction : Addr} {ocT0Fraction : Value} {odT0Fraction : Option Addr} {slT0Fraction : Array (Option Value)} {tk0Fraction : Tok} {nT0Fraction : Nat} {f0Fraction : Addr} {oc0Fraction kV0Fraction dc0Fraction pm0Fraction cd0Fraction ct0Fraction : Value} {od0Fraction an0Fraction : Option Addr} {sl0Fraction : Array (Option Value)} {f0Whole : Addr} {oc0Whole kV0Whole dc0Whole pm0Whole cd0Whole ct0Whole : Value} {od0Whole an0Whole : Option Addr} {sl0Whole : Array (Option Value)} {f0Ser : Addr} {oc0Ser kV0Ser dc0Ser pm0Ser cd0Ser ct0Ser : Value} {od0Ser an0Ser : Option Addr} {sl0Ser : Array (Option Value)} {f0ED : Addr} {oc0ED kV0ED dc0ED pm0ED cd0ED ct0ED : Value} {od0ED an0ED : Option Addr} {sl0ED : Array (Option Value)} {f0Lowest : Addr} {oc0Lowest kV0Lowest dc0Lowest pm0Lowest cd0Lowest ct0Lowest : Value} {od0Lowest an0Lowest : Option Addr} {sl0Lowest : Array (Option Value)} {f0Gcd : Addr} {oc0Gcd kV0Gcd dc0Gcd pm0Gcd cd0Gcd ct0Gcd : Value} {od0Gcd an0Gcd : Option Addr} {sl0Gcd : Array (Option Value)} {t0Kept : Addr} {ocT0Kept : Value} {odT0Kept : Option Addr} {slT0Kept : Array (Option Value)} {tk0Kept : Tok} {nT0Kept : Nat} {f0Kept : Addr} {oc0Kept kV0Kept dc0Kept pm0Kept cd0Kept ct0Kept : Value} {od0Kept an0Kept : Option Addr} {sl0Kept : Array (Option Value)} {f0By : Addr} {oc0By kV0By dc0By pm0By cd0By ct0By : Value} {od0By an0By : Option Addr} {sl0By : Array (Option Value)} {f0BW : Addr} {oc0BW kV0BW dc0BW pm0BW cd0BW ct0BW : Value} {od0BW an0BW : Option Addr} {sl0BW : Array (Option Value)} {f0Best : Addr} {oc0Best kV0Best dc0Best pm0Best cd0Best ct0Best : Value} {od0Best an0Best : Option Addr} {sl0Best : Array (Option Value)} {f0Longs : Addr} {oc0Longs kV0Longs dc0Longs pm0Longs cd0Longs ct0Longs : Value} {od0Longs an0Longs : Option Addr} {sl0Longs : Array (Option Value)} {f0Length : Addr} {oc0Length kV0Length dc0Length pm0Length cd0Length ct0Length : Value} {od0Length an0Length : Option Addr} {sl0Length : Array (Option Value)} {f0Idx : Addr} {oc0Idx kV0Idx dc0Idx pm0Idx cd0Idx ct0Idx : Value} {od0Idx an0Idx : Option Addr} {sl0Idx : Array (Option Value)} {f0Leap : Addr} {oc0Leap kV0Leap dc0Leap pm0Leap cd0Leap ct0Leap : Value} {od0Leap an0Leap : Option Addr} {sl0Leap : Array (Option Value)} {f0BWd : Addr} {oc0BWd kV0BWd dc0BWd pm0BWd cd0BWd ct0BWd : Value} {od0BWd an0BWd : Option Addr} {sl0BWd : Array (Option Value)} {f0IsFraction : Addr} {oc0IsFraction kV0IsFraction dc0IsFraction pm0IsFraction cd0IsFraction ct0IsFraction : Value} {od0IsFraction an0IsFraction : Option Addr} {sl0IsFraction : Array (Option Value)} {f0IsPlace : Addr} {oc0IsPlace kV0IsPlace dc0IsPlace pm0IsPlace cd0IsPlace ct0IsPlace : Value} {od0IsPlace an0IsPlace : Option Addr} {sl0IsPlace : Array (Option Value)} {f0Period : Addr} {oc0Period kV0Period dc0Period pm0Period cd0Period ct0Period : Value} {od0Period an0Period : Option Addr} {sl0Period : Array (Option Value)} {f0Magn : Addr} {oc0Magn kV0Magn dc0Magn pm0Magn cd0Magn ct0Magn : Value} {od0Magn an0Magn : Option Addr} {sl0Magn : Array (Option Value)} {f0Over : Addr} {oc0Over kV0Over dc0Over pm0Over cd0Over ct0Over : Value} {od0Over an0Over : Option Addr} {sl0Over : Array (Option Value)} {f0BR : Addr} {oc0BR kV0BR dc0BR pm0BR cd0BR ct0BR : Value} {od0BR an0BR : Option Addr} {sl0BR : Array (Option Value)} {f0BsD : Addr} {oc0BsD kV0BsD dc0BsD pm0BsD cd0BsD ct0BsD : Value} {od0BsD an0BsD : Option Addr} {sl0BsD : Array (Option Value)} {f0IxD : Addr} {oc0IxD kV0IxD dc0IxD pm0IxD cd0IxD ct0IxD : Value} {od0IxD an0IxD : Option Addr} {sl0IxD : Array (Option Value)} {f0Dist : Addr} {oc0Dist kV0Dist dc0Dist pm0Dist cd0Dist ct0Dist : Value} {od0Dist an0Dist : Option Addr} {sl0Dist : Array (Option Value)} {f0LOffset : Addr} {oc0LOffset kV0LOffset dc0LOffset pm0LOffset cd0LOffset ct0LOffset : Value} {od0LOffset an0LOffset : Option Addr} {sl0LOffset : Array (Option Value)} {f0Oth : Addr} {oc0Oth kV0Oth dc0Oth pm0Oth cd0Oth ct0Oth : Value} {od0Oth an0Oth : Option Addr} {sl0Oth : Array (Option Value)} {f0Shuf : Addr} {oc0Shuf kV0Shuf dc0Shuf pm0Shuf cd0Shuf ct0Shuf : Value} {od0Shuf an0Shuf : Option Addr} {sl0Shuf : Array (Option Value)} {f0Sgn : Addr} {oc0Sgn kV0Sgn dc0Sgn pm0Sgn cd0Sgn ct0Sgn : Value} {od0Sgn an0Sgn : Option Addr} {sl0Sgn : Array (Option Value)}
    (z_int : PySem.W.nsIn K mainGlobals "int" = some none)
    (z_len : PySem.W.nsIn K mainGlobals "len" = some none)
    (z_list : PySem.W.nsIn K mainGlobals "list" = some none)
    (z_abs : PySem.W.nsIn K mainGlobals "abs" = some none)
    (z_range : PySem.W.nsIn K mainGlobals "range" = some none)
    (z_min : PySem.W.nsIn K mainGlobals "min" = some none)
    (z_max : PySem.W.nsIn K mainGlobals "max" = some none)
    (z_isinstance : PySem.W.nsIn K mainGlobals "isinstance" = some none)
    (z_bool : PySem.W.nsIn K mainGlobals "bool" = some none)
    (z_str : PySem.W.nsIn K mainGlobals "str" = some none)
    (z_dict : PySem.W.nsIn K mainGlobals "dict" = some none)
    (z_tuple : PySem.W.nsIn K mainGlobals "tuple" = some none)
    (z_gcd : PySem.W.nsIn K mainGlobals "gcd" = some (some (.builtin "math.gcd")))
    (z_VE : PySem.W.nsIn K mainGlobals "ValueError" = some none)
    (aC : PySem.W.nsIn K mainGlobals "BadValue" = some (some (.ref C)))
    (aS : PySem.W.nsIn K mainGlobals "SkyError" = some (some (.ref S)))
    (xL : K.lookup C = some (excClassObj nm qn C N0 bs bm true sn sub ab col dd m0 m1 m2 m3 m5 "ValueError.__new__"))
    (hbm : PySem.HandSPX.refsVE bm = true)
    (sa : PySem.W.findIn K (.ref C) "__setattr__" = some (some (.builtin "object.__setattr__")))
    (ga : PySem.W.findIn K (.ref C) "__getattribute__" = some (some (.builtin "BaseException.__getattribute__")))
    (gg : PySem.W.findIn K (.ref C) "__getattr__" = some none)
    (gc : PySem.W.findIn K (.ref C) "__class__" = some (some (.builtin "object.__class__")))
    (nw : PySem.W.findIn K (.ref C) "what" = some none)
    (aI : PySem.W.findIn K (.ref C) "__init__" = some (some (.ref fI)))
    (tI : PySem.W.typeIn K (.ref fI) = some (.type "function"))
    (lI : K.lookup fI = some ⟨ocI, odI, .func (PySem.W.fnOf "__init__" "BadValue.__init__" (defArgs sInitB) (defBody sInitB) (defScope sInitB) .none kVI dcI pmI anI cdI ctI), slI⟩)
    (cI : PySem.W.codeIn K cdI "BadValue.__init__" = true)
    (kI : PySem.W.keepIn K (.ref fI) = true)
    (kC : PySem.W.keepIn K (.ref C) = true)
    (eC : PySem.W.subIn K (.ref C) (.type "BaseException") = some true)
    (tC : PySem.W.typeIn K (.ref C) = some (.type "type"))
    (hC : PySem.W.hasDictIn K C = true)
    (mC : PySem.W.mroIn K C (.type "object") = some true)
    (vC : PySem.W.subIn K (.ref C) (.type "ValueError") = some true)
    (spc : PySem.W.specialIn K (.builtin "object.__class__") "__get__" = some (some (.builtin "getset_descriptor.__get__")))
    (tkc : PySem.W.takesIn K (.builtin "object.__class__") = some true)
    (eS : PySem.W.subIn K (.ref S) (.type "BaseException") = some true)
    (hS : PySem.W.hasDictIn K S = true)
    (tS : PySem.W.typeIn K (.ref S) = some (.type "type"))
    (cS : PySem.W.subIn K (.ref C) (.ref S) = some true)
    (a_Mismatch : PySem.W.nsIn K mainGlobals "Mismatch" = some (some (.ref C_Mismatch)))
    (t_Mismatch : PySem.W.typeIn K (.ref C_Mismatch) = some (.type "type"))
    (h_Mismatch : PySem.W.hasDictIn K C_Mismatch = true)
    (s_Mismatch : PySem.W.subIn K (.ref C) (.ref C_Mismatch) = some false)
    (n_Mismatch : (Value.ref C == Value.ref C_Mismatch) = false)
    (a_Still : PySem.W.nsIn K mainGlobals "Still" = some (some (.ref C_Still)))
    (t_Still : PySem.W.typeIn K (.ref C_Still) = some (.type "type"))
    (h_Still : PySem.W.hasDictIn K C_Still = true)
    (s_Still : PySem.W.subIn K (.ref C) (.ref C_Still) = some false)
    (n_Still : (Value.ref C == Value.ref C_Still) = false)
    (a_Endless : PySem.W.nsIn K mainGlobals "Endless" = some (some (.ref C_Endless)))
    (t_Endless : PySem.W.typeIn K (.ref C_Endless) = some (.type "type"))
    (h_Endless : PySem.W.hasDictIn K C_Endless = true)
    (s_Endless : PySem.W.subIn K (.ref C) (.ref C_Endless) = some false)
    (n_Endless : (Value.ref C == Value.ref C_Endless) = false)
    (a_TooMany : PySem.W.nsIn K mainGlobals "TooMany" = some (some (.ref C_TooMany)))
    (t_TooMany : PySem.W.typeIn K (.ref C_TooMany) = some (.type "type"))
    (h_TooMany : PySem.W.hasDictIn K C_TooMany = true)
    (s_TooMany : PySem.W.subIn K (.ref C) (.ref C_TooMany) = some false)
    (n_TooMany : (Value.ref C == Value.ref C_TooMany) = false)
    (a_NoName : PySem.W.nsIn K mainGlobals "NoName" = some (some (.ref C_NoName)))
    (t_NoName : PySem.W.typeIn K (.ref C_NoName) = some (.type "type"))
    (h_NoName : PySem.W.hasDictIn K C_NoName = true)
    (s_NoName : PySem.W.subIn K (.ref C) (.ref C_NoName) = some false)
    (n_NoName : (Value.ref C == Value.ref C_NoName) = false)
    (a_Taken : PySem.W.nsIn K mainGlobals "Taken" = some (some (.ref C_Taken)))
    (t_Taken : PySem.W.typeIn K (.ref C_Taken) = some (.type "type"))
    (h_Taken : PySem.W.hasDictIn K C_Taken = true)
    (s_Taken : PySem.W.subIn K (.ref C) (.ref C_Taken) = some false)
    (n_Taken : (Value.ref C == Value.ref C_Taken) = false)
    (a_Locked : PySem.W.nsIn K mainGlobals "Locked" = some (some (.ref C_Locked)))
    (t_Locked : PySem.W.typeIn K (.ref C_Locked) = some (.type "type"))
    (h_Locked : PySem.W.hasDictIn K C_Locked = true)
    (s_Locked : PySem.W.subIn K (.ref C) (.ref C_Locked) = some false)
    (n_Locked : (Value.ref C == Value.ref C_Locked) = false)
    (a_Looped : PySem.W.nsIn K mainGlobals "Looped" = some (some (.ref C_Looped)))
    (t_Looped : PySem.W.typeIn K (.ref C_Looped) = some (.type "type"))
    (h_Looped : PySem.W.hasDictIn K C_Looped = true)
    (s_Looped : PySem.W.subIn K (.ref C) (.ref C_Looped) = some false)
    (n_Looped : (Value.ref C == Value.ref C_Looped) = false)
    (a_Broken : PySem.W.nsIn K mainGlobals "Broken" = some (some (.ref C_Broken)))
    (t_Broken : PySem.W.typeIn K (.ref C_Broken) = some (.type "type"))
    (h_Broken : PySem.W.hasDictIn K C_Broken = true)
    (s_Broken : PySem.W.subIn K (.ref C) (.ref C_Broken) = some false)
    (n_Broken : (Value.ref C == Value.ref C_Broken) = false)
    (a_ReadError : PySem.W.nsIn K mainGlobals "ReadError" = some (some (.ref C_ReadError)))
    (t_ReadError : PySem.W.typeIn K (.ref C_ReadError) = some (.type "type"))
    (h_ReadError : PySem.W.hasDictIn K C_ReadError = true)
    (s_ReadError : PySem.W.subIn K (.ref C) (.ref C_ReadError) = some false)
    (n_ReadError : (Value.ref C == Value.ref C_ReadError) = false)
    (a_A : PySem.W.nsIn K mainGlobals "_law_asked" = some (some (.ref f_A)))
    (l_A : K.lookup f_A = some ⟨oc_A, od_A, .func (PySem.W.fnOf "_law_asked" "_law_asked" (defArgs sAsked) (defBody sAsked) (defScope sAsked) .none kV_A dc_A pm_A an_A cd_A ct_A), sl_A⟩)
    (c_A : PySem.W.codeIn K cd_A "_law_asked" = true)
    (k_A : PySem.W.keepIn K (.ref f_A) = true)
    (a_R1 : PySem.W.nsIn K mainGlobals "_law_refuse" = some (some (.ref f_R1)))
    (l_R1 : K.lookup f_R1 = some ⟨oc_R1, od_R1, .func (PySem.W.fnOf "_law_refuse" "_law_refuse" (defArgs sRfs) (defBody sRfs) (defScope sRfs) .none kV_R1 dc_R1 pm_R1 an_R1 (.ref c_R1) ct_R1), sl_R1⟩)
    (cd_R1 : PySem.W.codeIn K (.ref c_R1) "_law_refuse" = true)
    (k_R1 : PySem.W.keepIn K (.ref f_R1) = true)
    (a_R2 : PySem.W.nsIn K mainGlobals "_law_refused" = some (some (.ref f_R2)))
    (l_R2 : K.lookup f_R2 = some ⟨oc_R2, od_R2, .func (PySem.W.fnOf "_law_refused" "_law_refused" (defArgs sRfd) (defBody sRfd) (defScope sRfd) .none kV_R2 dc_R2 pm_R2 an_R2 (.ref c_R2) ct_R2), sl_R2⟩)
    (cd_R2 : PySem.W.codeIn K (.ref c_R2) "_law_refused" = true)
    (k_R2 : PySem.W.keepIn K (.ref f_R2) = true)
    (a_R3 : PySem.W.nsIn K mainGlobals "_law_objects_refused" = some (some (.ref f_R3)))
    (l_R3 : K.lookup f_R3 = some ⟨oc_R3, od_R3, .func (PySem.W.fnOf "_law_objects_refused" "_law_objects_refused" (defArgs sObj) (defBody sObj) (defScope sObj) .none kV_R3 dc_R3 pm_R3 an_R3 (.ref c_R3) ct_R3), sl_R3⟩)
    (cd_R3 : PySem.W.codeIn K (.ref c_R3) "_law_objects_refused" = true)
    (k_R3 : PySem.W.keepIn K (.ref f_R3) = true)
    (aL : PySem.W.nsIn K mainGlobals "law" = some (some (.ref fL)))
    (lL : K.lookup fL = some ⟨ocL, odL, .func (PySem.W.fnOf "law" "law" (defArgs sLaw) (defBody sLaw) (defScope sLaw) .none kVL dcL pmL anL cdvL ctL), slL⟩)
    (cL : PySem.W.codeIn K cdvL "law" = true)
    (kL : PySem.W.keepIn K (.ref fL) = true)
    (aZ : PySem.W.nsIn K mainGlobals "ZERO" = some (some (.ref z0)))
    (o_Z : K.lookup z0 = some ⟨.type "tuple", ddZ, .seq #[.int 0 taZ, .int 1 tbZ] nnZ, ssZ⟩)
    (aO : PySem.W.nsIn K mainGlobals "ONE" = some (some (.ref o0)))
    (o_O : K.lookup o0 = some ⟨.type "tuple", ddO, .seq #[.int 1 taO, .int 1 tbO] nnO, ssO⟩)
    (aCY : PySem.W.nsIn K mainGlobals "Cycle" = some (some (.ref CY)))
    (wpg : PySem.W.plainGet K CY Str.empty = true)
    (whd : PySem.W.hasDictIn K CY = true)
    (wpo : PySem.W.plainOver K CY = true)
    (wsa : PySem.W.findIn K (.ref CY) "__setattr__" = some (some (.builtin "object.__setattr__")))
    (wn_rate : PySem.W.findIn K (.ref CY) "rate" = some none)
    (wn_start : PySem.W.findIn K (.ref CY) "start" = some none)
    (wn_period : PySem.W.findIn K (.ref CY) "period" = some none)
    (wmk : PySem.W.makesIn K CY = true)
    (wkp : PySem.W.keepIn K (.ref CY) = true)
    (wca : PySem.W.findIn K (.ref CY) "__class__" = some (some (.builtin "object.__class__")))
    (wro : PySem.W.mroIn K CY (.type "object") = some true)
    (w1 : PySem.W.findIn K (.ref CY) "__init__" = some (some (.ref fWI)))
    (w2 : PySem.W.isFn K (.ref fWI) = true)
    (lWI : K.lookup fWI = some ⟨ocWI, odWI, .func (PySem.W.fnOf "__init__" "Cycle.__init__" (defArgs sCyInit) (defBody sCyInit) (defScope sCyInit) (.ref tY) kVWI dcWI pmWI anWI cdWI ctWI), slWI⟩)
    (cWI : PySem.W.codeIn K cdWI "Cycle.__init__" = true)
    (kWI : PySem.W.keepIn K (.ref fWI) = true)
    (lTY : K.lookup tY = some ⟨ocTY, odTY, .seq #[.ref zi] nTY, slTY⟩)
    (o_I : K.lookup zi = some ⟨.type "tuple", ddI, .seq #[.int 0 taI, .int 1 tbI] nnI, ssI⟩)
    (kd_int : PySem.W.subIn K (.ref CY) (.type "int") = some false)
    (kd_bool : PySem.W.subIn K (.ref CY) (.type "bool") = some false)
    (kd_str : PySem.W.subIn K (.ref CY) (.type "str") = some false)
    (kd_list : PySem.W.subIn K (.ref CY) (.type "list") = some false)
    (kd_tuple : PySem.W.subIn K (.ref CY) (.type "tuple") = some false)
    (kd_dict : PySem.W.subIn K (.ref CY) (.type "dict") = some false)
    (a0Store : PySem.W.nsIn K mainGlobals "_law_store" = some (some (.ref f0Store)))
    (l0Store : K.lookup f0Store = some ⟨oc0Store, od0Store, .func (PySem.W.fnOf "_law_store" "_law_store" (defArgs sStore) (defBody sStore) (defScope sStore) .none kV0Store dc0Store pm0Store an0Store cd0Store ct0Store), sl0Store⟩)
    (c0Store : PySem.W.codeIn K cd0Store "_law_store" = true)
    (k0Store : PySem.W.keepIn K (.ref f0Store) = true)
    (a0LLongs : PySem.W.nsIn K mainGlobals "_law_longs" = some (some (.ref f0LLongs)))
    (l0LLongs : K.lookup f0LLongs = some ⟨oc0LLongs, od0LLongs, .func (PySem.W.fnOf "_law_longs" "_law_longs" (defArgs sLLongs) (defBody sLLongs) (defScope sLLongs) .none kV0LLongs dc0LLongs pm0LLongs an0LLongs cd0LLongs ct0LLongs), sl0LLongs⟩)
    (c0LLongs : PySem.W.codeIn K cd0LLongs "_law_longs" = true)
    (k0LLongs : PySem.W.keepIn K (.ref f0LLongs) = true)
    (a0Take : PySem.W.nsIn K mainGlobals "_law_take" = some (some (.ref f0Take)))
    (l0Take : K.lookup f0Take = some ⟨oc0Take, od0Take, .func (PySem.W.fnOf "_law_take" "_law_take" (defArgs sTake) (defBody sTake) (defScope sTake) .none kV0Take dc0Take pm0Take an0Take cd0Take ct0Take), sl0Take⟩)
    (c0Take : PySem.W.codeIn K cd0Take "_law_take" = true)
    (k0Take : PySem.W.keepIn K (.ref f0Take) = true)
    (a0Mixed : PySem.W.nsIn K mainGlobals "_law_mixed" = some (some (.ref f0Mixed)))
    (l0Mixed : K.lookup f0Mixed = some ⟨oc0Mixed, od0Mixed, .func (PySem.W.fnOf "_law_mixed" "_law_mixed" (defArgs sMixed) (defBody sMixed) (defScope sMixed) .none kV0Mixed dc0Mixed pm0Mixed an0Mixed cd0Mixed ct0Mixed), sl0Mixed⟩)
    (c0Mixed : PySem.W.codeIn K cd0Mixed "_law_mixed" = true)
    (k0Mixed : PySem.W.keepIn K (.ref f0Mixed) = true)
    (a0Pick : PySem.W.nsIn K mainGlobals "_law_pick" = some (some (.ref f0Pick)))
    (l0Pick : K.lookup f0Pick = some ⟨oc0Pick, od0Pick, .func (PySem.W.fnOf "_law_pick" "_law_pick" (defArgs sPick) (defBody sPick) (defScope sPick) .none kV0Pick dc0Pick pm0Pick an0Pick cd0Pick ct0Pick), sl0Pick⟩)
    (c0Pick : PySem.W.codeIn K cd0Pick "_law_pick" = true)
    (k0Pick : PySem.W.keepIn K (.ref f0Pick) = true)
    (a0Range : PySem.W.nsIn K mainGlobals "_law_range" = some (some (.ref f0Range)))
    (l0Range : K.lookup f0Range = some ⟨oc0Range, od0Range, .func (PySem.W.fnOf "_law_range" "_law_range" (defArgs sRange) (defBody sRange) (defScope sRange) .none kV0Range dc0Range pm0Range an0Range cd0Range ct0Range), sl0Range⟩)
    (c0Range : PySem.W.codeIn K cd0Range "_law_range" = true)
    (k0Range : PySem.W.keepIn K (.ref f0Range) = true)
    (a0DWd : PySem.W.nsIn K mainGlobals "_law_word" = some (some (.ref f0DWd)))
    (l0DWd : K.lookup f0DWd = some ⟨oc0DWd, od0DWd, .func (PySem.W.fnOf "_law_word" "_law_word" (defArgs sDWd) (defBody sDWd) (defScope sDWd) .none kV0DWd dc0DWd pm0DWd an0DWd cd0DWd ct0DWd), sl0DWd⟩)
    (c0DWd : PySem.W.codeIn K cd0DWd "_law_word" = true)
    (k0DWd : PySem.W.keepIn K (.ref f0DWd) = true)
    (a0LIt : PySem.W.nsIn K mainGlobals "_law_leap_items" = some (some (.ref f0LIt)))
    (l0LIt : K.lookup f0LIt = some ⟨oc0LIt, od0LIt, .func (PySem.W.fnOf "_law_leap_items" "_law_leap_items" (defArgs sLIt) (defBody sLIt) (defScope sLIt) .none kV0LIt dc0LIt pm0LIt an0LIt cd0LIt ct0LIt), sl0LIt⟩)
    (c0LIt : PySem.W.codeIn K cd0LIt "_law_leap_items" = true)
    (k0LIt : PySem.W.keepIn K (.ref f0LIt) = true)
    (a0Same : PySem.W.nsIn K mainGlobals "_law_same" = some (some (.ref f0Same)))
    (l0Same : K.lookup f0Same = some ⟨oc0Same, od0Same, .func (PySem.W.fnOf "_law_same" "_law_same" (defArgs sSame) (defBody sSame) (defScope sSame) .none kV0Same dc0Same pm0Same an0Same cd0Same ct0Same), sl0Same⟩)
    (c0Same : PySem.W.codeIn K cd0Same "_law_same" = true)
    (k0Same : PySem.W.keepIn K (.ref f0Same) = true)
    (a0LWhole : PySem.W.nsIn K mainGlobals "_law_is_whole" = some (some (.ref f0LWhole)))
    (l0LWhole : K.lookup f0LWhole = some ⟨oc0LWhole, od0LWhole, .func (PySem.W.fnOf "_law_is_whole" "_law_is_whole" (defArgs sLWhole) (defBody sLWhole) (defScope sLWhole) .none kV0LWhole dc0LWhole pm0LWhole an0LWhole cd0LWhole ct0LWhole), sl0LWhole⟩)
    (c0LWhole : PySem.W.codeIn K cd0LWhole "_law_is_whole" = true)
    (k0LWhole : PySem.W.keepIn K (.ref f0LWhole) = true)
    (a0WE : PySem.W.nsIn K mainGlobals "word_error" = some (some (.ref f0WE)))
    (l0WE : K.lookup f0WE = some ⟨oc0WE, od0WE, .func (PySem.W.fnOf "word_error" "word_error" (defArgs sWE) (defBody sWE) (defScope sWE) .none kV0WE dc0WE pm0WE an0WE cd0WE ct0WE), sl0WE⟩)
    (c0WE : PySem.W.codeIn K cd0WE "word_error" = true)
    (k0WE : PySem.W.keepIn K (.ref f0WE) = true)
    (a0Require : PySem.W.nsIn K mainGlobals "require" = some (some (.ref f0Require)))
    (l0Require : K.lookup f0Require = some ⟨oc0Require, od0Require, .func (PySem.W.fnOf "require" "require" (defArgs sRequire) (defBody sRequire) (defScope sRequire) .none kV0Require dc0Require pm0Require an0Require cd0Require ct0Require), sl0Require⟩)
    (c0Require : PySem.W.codeIn K cd0Require "require" = true)
    (k0Require : PySem.W.keepIn K (.ref f0Require) = true)
    (g_LONGEST_WORD : PySem.W.nsIn K mainGlobals "LONGEST_WORD" = some (some (.int 100 tkLONGEST_WORD)))
    (z_all : PySem.W.nsIn K mainGlobals "all" = some none)
    (a0Word : PySem.W.nsIn K mainGlobals "is_word" = some (some (.ref f0Word)))
    (l0Word : K.lookup f0Word = some ⟨oc0Word, od0Word, .func (PySem.W.fnOf "is_word" "is_word" (defArgs sWord) (defBody sWord) (defScope sWord) .none kV0Word dc0Word pm0Word an0Word cd0Word ct0Word), sl0Word⟩)
    (c0Word : PySem.W.codeIn K cd0Word "is_word" = true)
    (k0Word : PySem.W.keepIn K (.ref f0Word) = true)
    (a0Within : PySem.W.nsIn K mainGlobals "is_whole_within" = some (some (.ref f0Within)))
    (l0Within : K.lookup f0Within = some ⟨oc0Within, od0Within, .func (PySem.W.fnOf "is_whole_within" "is_whole_within" (defArgs sWithin) (defBody sWithin) (defScope sWithin) .none kV0Within dc0Within pm0Within an0Within cd0Within ct0Within), sl0Within⟩)
    (c0Within : PySem.W.codeIn K cd0Within "is_whole_within" = true)
    (k0Within : PySem.W.keepIn K (.ref f0Within) = true)
    (a0WholeU : PySem.W.nsIn K mainGlobals "is_whole" = some (some (.ref f0WholeU)))
    (l0WholeU : K.lookup f0WholeU = some ⟨oc0WholeU, od0WholeU, .func (PySem.W.fnOf "is_whole" "is_whole" (defArgs sWholeU) (defBody sWholeU) (defScope sWholeU) .none kV0WholeU dc0WholeU pm0WholeU an0WholeU cd0WholeU ct0WholeU), sl0WholeU⟩)
    (c0WholeU : PySem.W.codeIn K cd0WholeU "is_whole" = true)
    (k0WholeU : PySem.W.keepIn K (.ref f0WholeU) = true)
    (a0Fraction : PySem.W.nsIn K mainGlobals "fraction" = some (some (.ref f0Fraction)))
    (l0Fraction : K.lookup f0Fraction = some ⟨oc0Fraction, od0Fraction, .func (PySem.W.fnOf "fraction" "fraction" (defArgs sFraction) (defBody sFraction) (defScope sFraction) (.ref t0Fraction) kV0Fraction dc0Fraction pm0Fraction an0Fraction cd0Fraction ct0Fraction), sl0Fraction⟩)
    (c0Fraction : PySem.W.codeIn K cd0Fraction "fraction" = true)
    (k0Fraction : PySem.W.keepIn K (.ref f0Fraction) = true)
    (lT0Fraction : K.lookup t0Fraction = some ⟨ocT0Fraction, odT0Fraction, .seq #[.int 1 tk0Fraction] nT0Fraction, slT0Fraction⟩)
    (a0Whole : PySem.W.nsIn K mainGlobals "is_whole" = some (some (.ref f0Whole)))
    (l0Whole : K.lookup f0Whole = some ⟨oc0Whole, od0Whole, .func (PySem.W.fnOf "is_whole" "is_whole" (defArgs sWhole) (defBody sWhole) (defScope sWhole) .none kV0Whole dc0Whole pm0Whole an0Whole cd0Whole ct0Whole), sl0Whole⟩)
    (c0Whole : PySem.W.codeIn K cd0Whole "is_whole" = true)
    (k0Whole : PySem.W.keepIn K (.ref f0Whole) = true)
    (z_sum : PySem.W.nsIn K mainGlobals "sum" = some none)
    (z_enumerate : PySem.W.nsIn K mainGlobals "enumerate" = some none)
    (a0Ser : PySem.W.nsIn K mainGlobals "_scaled_error" = some (some (.ref f0Ser)))
    (l0Ser : K.lookup f0Ser = some ⟨oc0Ser, od0Ser, .func (PySem.W.fnOf "_scaled_error" "_scaled_error" (defArgs sSer) (defBody sSer) (defScope sSer) .none kV0Ser dc0Ser pm0Ser an0Ser cd0Ser ct0Ser), sl0Ser⟩)
    (c0Ser : PySem.W.codeIn K cd0Ser "_scaled_error" = true)
    (k0Ser : PySem.W.keepIn K (.ref f0Ser) = true)
    (a0ED : PySem.W.nsIn K mainGlobals "_law_error_due" = some (some (.ref f0ED)))
    (l0ED : K.lookup f0ED = some ⟨oc0ED, od0ED, .func (PySem.W.fnOf "_law_error_due" "_law_error_due" (defArgs sED) (defBody sED) (defScope sED) .none kV0ED dc0ED pm0ED an0ED cd0ED ct0ED), sl0ED⟩)
    (c0ED : PySem.W.codeIn K cd0ED "_law_error_due" = true)
    (k0ED : PySem.W.keepIn K (.ref f0ED) = true)
    (a0Lowest : PySem.W.nsIn K mainGlobals "_law_lowest" = some (some (.ref f0Lowest)))
    (l0Lowest : K.lookup f0Lowest = some ⟨oc0Lowest, od0Lowest, .func (PySem.W.fnOf "_law_lowest" "_law_lowest" (defArgs sLowest) (defBody sLowest) (defScope sLowest) .none kV0Lowest dc0Lowest pm0Lowest an0Lowest cd0Lowest ct0Lowest), sl0Lowest⟩)
    (c0Lowest : PySem.W.codeIn K cd0Lowest "_law_lowest" = true)
    (k0Lowest : PySem.W.keepIn K (.ref f0Lowest) = true)
    (a0Gcd : PySem.W.nsIn K mainGlobals "_law_gcd" = some (some (.ref f0Gcd)))
    (l0Gcd : K.lookup f0Gcd = some ⟨oc0Gcd, od0Gcd, .func (PySem.W.fnOf "_law_gcd" "_law_gcd" (defArgs sGcd) (defBody sGcd) (defScope sGcd) .none kV0Gcd dc0Gcd pm0Gcd an0Gcd cd0Gcd ct0Gcd), sl0Gcd⟩)
    (c0Gcd : PySem.W.codeIn K cd0Gcd "_law_gcd" = true)
    (k0Gcd : PySem.W.keepIn K (.ref f0Gcd) = true)
    (mm_k : PySem.W.keepIn K (.ref C_Mismatch) = true)
    (mm_x : PySem.W.excIn K C_Mismatch [.type "ValueError", .type "Exception", .type "BaseException", .type "object"] "ValueError.__new__" = true)
    (mm_s : PySem.W.subIn K (.ref C_Mismatch) (.type "BaseException") = some true)
    (mm_v : PySem.W.subIn K (.ref C_Mismatch) (.type "ValueError") = some true)
    (mm_y : PySem.W.subIn K (.ref C_Mismatch) (.ref S) = some true)
    (mm_g : PySem.W.findIn K (.ref C_Mismatch) "__getattribute__" = some (some (.builtin "BaseException.__getattribute__")))
    (mm_t : PySem.W.findIn K (.ref C_Mismatch) "__getattr__" = some none)
    (mm_c : PySem.W.findIn K (.ref C_Mismatch) "__class__" = some (some (.builtin "object.__class__")))
    (mm_o : PySem.W.mroIn K C_Mismatch (.type "object") = some true)
    (ms_BadValue : PySem.W.subIn K (.ref C_Mismatch) (.ref C) = some false)
    (n_mBadValue : (Value.ref C_Mismatch == Value.ref C) = false)
    (ms_Still : PySem.W.subIn K (.ref C_Mismatch) (.ref C_Still) = some false)
    (n_mStill : (Value.ref C_Mismatch == Value.ref C_Still) = false)
    (ms_Endless : PySem.W.subIn K (.ref C_Mismatch) (.ref C_Endless) = some false)
    (n_mEndless : (Value.ref C_Mismatch == Value.ref C_Endless) = false)
    (ms_TooMany : PySem.W.subIn K (.ref C_Mismatch) (.ref C_TooMany) = some false)
    (n_mTooMany : (Value.ref C_Mismatch == Value.ref C_TooMany) = false)
    (ms_NoName : PySem.W.subIn K (.ref C_Mismatch) (.ref C_NoName) = some false)
    (n_mNoName : (Value.ref C_Mismatch == Value.ref C_NoName) = false)
    (ms_Taken : PySem.W.subIn K (.ref C_Mismatch) (.ref C_Taken) = some false)
    (n_mTaken : (Value.ref C_Mismatch == Value.ref C_Taken) = false)
    (ms_Locked : PySem.W.subIn K (.ref C_Mismatch) (.ref C_Locked) = some false)
    (n_mLocked : (Value.ref C_Mismatch == Value.ref C_Locked) = false)
    (ms_Looped : PySem.W.subIn K (.ref C_Mismatch) (.ref C_Looped) = some false)
    (n_mLooped : (Value.ref C_Mismatch == Value.ref C_Looped) = false)
    (ms_Broken : PySem.W.subIn K (.ref C_Mismatch) (.ref C_Broken) = some false)
    (n_mBroken : (Value.ref C_Mismatch == Value.ref C_Broken) = false)
    (ms_ReadError : PySem.W.subIn K (.ref C_Mismatch) (.ref C_ReadError) = some false)
    (n_mReadError : (Value.ref C_Mismatch == Value.ref C_ReadError) = false)
    (a0Kept : PySem.W.nsIn K mainGlobals "_law_kept" = some (some (.ref f0Kept)))
    (l0Kept : K.lookup f0Kept = some ⟨oc0Kept, od0Kept, .func (PySem.W.fnOf "_law_kept" "_law_kept" (defArgs sKept) (defBody sKept) (defScope sKept) (.ref t0Kept) kV0Kept dc0Kept pm0Kept an0Kept cd0Kept ct0Kept), sl0Kept⟩)
    (c0Kept : PySem.W.codeIn K cd0Kept "_law_kept" = true)
    (k0Kept : PySem.W.keepIn K (.ref f0Kept) = true)
    (lT0Kept : K.lookup t0Kept = some ⟨ocT0Kept, odT0Kept, .seq #[.int 24 tk0Kept] nT0Kept, slT0Kept⟩)
    (a0By : PySem.W.nsIn K mainGlobals "_law_beyond" = some (some (.ref f0By)))
    (l0By : K.lookup f0By = some ⟨oc0By, od0By, .func (PySem.W.fnOf "_law_beyond" "_law_beyond" (defArgs sBy) (defBody sBy) (defScope sBy) .none kV0By dc0By pm0By an0By cd0By ct0By), sl0By⟩)
    (c0By : PySem.W.codeIn K cd0By "_law_beyond" = true)
    (k0By : PySem.W.keepIn K (.ref f0By) = true)
    (a0BW : PySem.W.nsIn K mainGlobals "_law_bad_whole" = some (some (.ref f0BW)))
    (l0BW : K.lookup f0BW = some ⟨oc0BW, od0BW, .func (PySem.W.fnOf "_law_bad_whole" "_law_bad_whole" (defArgs sBW) (defBody sBW) (defScope sBW) .none kV0BW dc0BW pm0BW an0BW cd0BW ct0BW), sl0BW⟩)
    (c0BW : PySem.W.codeIn K cd0BW "_law_bad_whole" = true)
    (k0BW : PySem.W.keepIn K (.ref f0BW) = true)
    (a0Best : PySem.W.nsIn K mainGlobals "best_word" = some (some (.ref f0Best)))
    (l0Best : K.lookup f0Best = some ⟨oc0Best, od0Best, .func (PySem.W.fnOf "best_word" "best_word" (defArgs sBest) (defBody sBest) (defScope sBest) .none kV0Best dc0Best pm0Best an0Best cd0Best ct0Best), sl0Best⟩)
    (c0Best : PySem.W.codeIn K cd0Best "best_word" = true)
    (k0Best : PySem.W.keepIn K (.ref f0Best) = true)
    (a0Longs : PySem.W.nsIn K mainGlobals "_is_longs" = some (some (.ref f0Longs)))
    (l0Longs : K.lookup f0Longs = some ⟨oc0Longs, od0Longs, .func (PySem.W.fnOf "_is_longs" "_is_longs" (defArgs sLongs) (defBody sLongs) (defScope sLongs) .none kV0Longs dc0Longs pm0Longs an0Longs cd0Longs ct0Longs), sl0Longs⟩)
    (c0Longs : PySem.W.codeIn K cd0Longs "_is_longs" = true)
    (k0Longs : PySem.W.keepIn K (.ref f0Longs) = true)
    (a0Length : PySem.W.nsIn K mainGlobals "_is_length" = some (some (.ref f0Length)))
    (l0Length : K.lookup f0Length = some ⟨oc0Length, od0Length, .func (PySem.W.fnOf "_is_length" "_is_length" (defArgs sLength) (defBody sLength) (defScope sLength) .none kV0Length dc0Length pm0Length an0Length cd0Length ct0Length), sl0Length⟩)
    (c0Length : PySem.W.codeIn K cd0Length "_is_length" = true)
    (k0Length : PySem.W.keepIn K (.ref f0Length) = true)
    (a0Idx : PySem.W.nsIn K mainGlobals "best_index" = some (some (.ref f0Idx)))
    (l0Idx : K.lookup f0Idx = some ⟨oc0Idx, od0Idx, .func (PySem.W.fnOf "best_index" "best_index" (defArgs sIdx) (defBody sIdx) (defScope sIdx) .none kV0Idx dc0Idx pm0Idx an0Idx cd0Idx ct0Idx), sl0Idx⟩)
    (c0Idx : PySem.W.codeIn K cd0Idx "best_index" = true)
    (k0Idx : PySem.W.keepIn K (.ref f0Idx) = true)
    (z_zip : PySem.W.nsIn K mainGlobals "zip" = some none)
    (a0Leap : PySem.W.nsIn K mainGlobals "_leap_word" = some (some (.ref f0Leap)))
    (l0Leap : K.lookup f0Leap = some ⟨oc0Leap, od0Leap, .func (PySem.W.fnOf "_leap_word" "_leap_word" (defArgs sLeap) (defBody sLeap) (defScope sLeap) .none kV0Leap dc0Leap pm0Leap an0Leap cd0Leap ct0Leap), sl0Leap⟩)
    (c0Leap : PySem.W.codeIn K cd0Leap "_leap_word" = true)
    (k0Leap : PySem.W.keepIn K (.ref f0Leap) = true)
    (a0BWd : PySem.W.nsIn K mainGlobals "_law_bad_word" = some (some (.ref f0BWd)))
    (l0BWd : K.lookup f0BWd = some ⟨oc0BWd, od0BWd, .func (PySem.W.fnOf "_law_bad_word" "_law_bad_word" (defArgs sBWd) (defBody sBWd) (defScope sBWd) .none kV0BWd dc0BWd pm0BWd an0BWd cd0BWd ct0BWd), sl0BWd⟩)
    (c0BWd : PySem.W.codeIn K cd0BWd "_law_bad_word" = true)
    (k0BWd : PySem.W.keepIn K (.ref f0BWd) = true)
    (a0IsFraction : PySem.W.nsIn K mainGlobals "is_fraction" = some (some (.ref f0IsFraction)))
    (l0IsFraction : K.lookup f0IsFraction = some ⟨oc0IsFraction, od0IsFraction, .func (PySem.W.fnOf "is_fraction" "is_fraction" (defArgs sIsFraction) (defBody sIsFraction) (defScope sIsFraction) .none kV0IsFraction dc0IsFraction pm0IsFraction an0IsFraction cd0IsFraction ct0IsFraction), sl0IsFraction⟩)
    (c0IsFraction : PySem.W.codeIn K cd0IsFraction "is_fraction" = true)
    (k0IsFraction : PySem.W.keepIn K (.ref f0IsFraction) = true)
    (a0IsPlace : PySem.W.nsIn K mainGlobals "is_place" = some (some (.ref f0IsPlace)))
    (l0IsPlace : K.lookup f0IsPlace = some ⟨oc0IsPlace, od0IsPlace, .func (PySem.W.fnOf "is_place" "is_place" (defArgs sIsPlace) (defBody sIsPlace) (defScope sIsPlace) .none kV0IsPlace dc0IsPlace pm0IsPlace an0IsPlace cd0IsPlace ct0IsPlace), sl0IsPlace⟩)
    (c0IsPlace : PySem.W.codeIn K cd0IsPlace "is_place" = true)
    (k0IsPlace : PySem.W.keepIn K (.ref f0IsPlace) = true)
    (a0Period : PySem.W.nsIn K mainGlobals "_period_of" = some (some (.ref f0Period)))
    (l0Period : K.lookup f0Period = some ⟨oc0Period, od0Period, .func (PySem.W.fnOf "_period_of" "_period_of" (defArgs sPeriod) (defBody sPeriod) (defScope sPeriod) .none kV0Period dc0Period pm0Period an0Period cd0Period ct0Period), sl0Period⟩)
    (c0Period : PySem.W.codeIn K cd0Period "_period_of" = true)
    (k0Period : PySem.W.keepIn K (.ref f0Period) = true)
    (a0Magn : PySem.W.nsIn K mainGlobals "magnitude" = some (some (.ref f0Magn)))
    (l0Magn : K.lookup f0Magn = some ⟨oc0Magn, od0Magn, .func (PySem.W.fnOf "magnitude" "magnitude" (defArgs sMagn) (defBody sMagn) (defScope sMagn) .none kV0Magn dc0Magn pm0Magn an0Magn cd0Magn ct0Magn), sl0Magn⟩)
    (c0Magn : PySem.W.codeIn K cd0Magn "magnitude" = true)
    (k0Magn : PySem.W.keepIn K (.ref f0Magn) = true)
    (a0Over : PySem.W.nsIn K mainGlobals "over" = some (some (.ref f0Over)))
    (l0Over : K.lookup f0Over = some ⟨oc0Over, od0Over, .func (PySem.W.fnOf "over" "over" (defArgs sOver) (defBody sOver) (defScope sOver) .none kV0Over dc0Over pm0Over an0Over cd0Over ct0Over), sl0Over⟩)
    (c0Over : PySem.W.codeIn K cd0Over "over" = true)
    (k0Over : PySem.W.keepIn K (.ref f0Over) = true)
    (a0BR : PySem.W.nsIn K mainGlobals "_law_best_right" = some (some (.ref f0BR)))
    (l0BR : K.lookup f0BR = some ⟨oc0BR, od0BR, .func (PySem.W.fnOf "_law_best_right" "_law_best_right" (defArgs sBR) (defBody sBR) (defScope sBR) .none kV0BR dc0BR pm0BR an0BR cd0BR ct0BR), sl0BR⟩)
    (c0BR : PySem.W.codeIn K cd0BR "_law_best_right" = true)
    (k0BR : PySem.W.keepIn K (.ref f0BR) = true)
    (a0BsD : PySem.W.nsIn K mainGlobals "_law_best_due" = some (some (.ref f0BsD)))
    (l0BsD : K.lookup f0BsD = some ⟨oc0BsD, od0BsD, .func (PySem.W.fnOf "_law_best_due" "_law_best_due" (defArgs sBsD) (defBody sBsD) (defScope sBsD) .none kV0BsD dc0BsD pm0BsD an0BsD cd0BsD ct0BsD), sl0BsD⟩)
    (c0BsD : PySem.W.codeIn K cd0BsD "_law_best_due" = true)
    (k0BsD : PySem.W.keepIn K (.ref f0BsD) = true)
    (a0IxD : PySem.W.nsIn K mainGlobals "_law_index_due" = some (some (.ref f0IxD)))
    (l0IxD : K.lookup f0IxD = some ⟨oc0IxD, od0IxD, .func (PySem.W.fnOf "_law_index_due" "_law_index_due" (defArgs sIxD) (defBody sIxD) (defScope sIxD) .none kV0IxD dc0IxD pm0IxD an0IxD cd0IxD ct0IxD), sl0IxD⟩)
    (c0IxD : PySem.W.codeIn K cd0IxD "_law_index_due" = true)
    (k0IxD : PySem.W.keepIn K (.ref f0IxD) = true)
    (a0Dist : PySem.W.nsIn K mainGlobals "_law_distance" = some (some (.ref f0Dist)))
    (l0Dist : K.lookup f0Dist = some ⟨oc0Dist, od0Dist, .func (PySem.W.fnOf "_law_distance" "_law_distance" (defArgs sDist) (defBody sDist) (defScope sDist) .none kV0Dist dc0Dist pm0Dist an0Dist cd0Dist ct0Dist), sl0Dist⟩)
    (c0Dist : PySem.W.codeIn K cd0Dist "_law_distance" = true)
    (k0Dist : PySem.W.keepIn K (.ref f0Dist) = true)
    (a0LOffset : PySem.W.nsIn K mainGlobals "_law_offset" = some (some (.ref f0LOffset)))
    (l0LOffset : K.lookup f0LOffset = some ⟨oc0LOffset, od0LOffset, .func (PySem.W.fnOf "_law_offset" "_law_offset" (defArgs sLOffset) (defBody sLOffset) (defScope sLOffset) .none kV0LOffset dc0LOffset pm0LOffset an0LOffset cd0LOffset ct0LOffset), sl0LOffset⟩)
    (c0LOffset : PySem.W.codeIn K cd0LOffset "_law_offset" = true)
    (k0LOffset : PySem.W.keepIn K (.ref f0LOffset) = true)
    (a0Oth : PySem.W.nsIn K mainGlobals "_law_others" = some (some (.ref f0Oth)))
    (l0Oth : K.lookup f0Oth = some ⟨oc0Oth, od0Oth, .func (PySem.W.fnOf "_law_others" "_law_others" (defArgs sOth) (defBody sOth) (defScope sOth) .none kV0Oth dc0Oth pm0Oth an0Oth cd0Oth ct0Oth), sl0Oth⟩)
    (c0Oth : PySem.W.codeIn K cd0Oth "_law_others" = true)
    (k0Oth : PySem.W.keepIn K (.ref f0Oth) = true)
    (a0Shuf : PySem.W.nsIn K mainGlobals "_law_shuffled" = some (some (.ref f0Shuf)))
    (l0Shuf : K.lookup f0Shuf = some ⟨oc0Shuf, od0Shuf, .func (PySem.W.fnOf "_law_shuffled" "_law_shuffled" (defArgs sShuf) (defBody sShuf) (defScope sShuf) .none kV0Shuf dc0Shuf pm0Shuf an0Shuf cd0Shuf ct0Shuf), sl0Shuf⟩)
    (c0Shuf : PySem.W.codeIn K cd0Shuf "_law_shuffled" = true)
    (k0Shuf : PySem.W.keepIn K (.ref f0Shuf) = true)
    (a0Sgn : PySem.W.nsIn K mainGlobals "_law_sign" = some (some (.ref f0Sgn)))
    (l0Sgn : K.lookup f0Sgn = some ⟨oc0Sgn, od0Sgn, .func (PySem.W.fnOf "_law_sign" "_law_sign" (defArgs sSgn) (defBody sSgn) (defScope sSgn) .none kV0Sgn dc0Sgn pm0Sgn an0Sgn cd0Sgn ct0Sgn), sl0Sgn⟩)
    (c0Sgn : PySem.W.codeIn K cd0Sgn "_law_sign" = true)
    (k0Sgn : PySem.W.keepIn K (.ref f0Sgn) = true) :
    ∃ fd : FuncData, (∀ (s : Shared) (v : Value), BindsTo s fd ⟨[v], []⟩ [("_law_script", v)]) ∧ ∀ base : Heap, K.In base → base.Ns mainGlobals mg → ∀ P1 : Addr, ∀ P2 : Addr, ∀ P3 : Addr, LamX.TabB base mg c_R1 P1 → LamX.TabB base mg c_R2 P2 → LamX.TabB base mg c_R3 P3 → P1 ≠ P2 → P1 ≠ P3 → P2 ≠ P3 → FnOk P w K mg base CX0 10 fa fd ["_law_script"] (spLaw K P1 P2 P3) := by
  have T : Bt K mg := ⟨PySem.W.mg_none_of X G z_int, PySem.W.mg_none_of X G z_len, PySem.W.mg_none_of X G z_list, PySem.W.mg_none_of X G z_abs, PySem.W.mg_none_of X G z_range, PySem.W.mg_none_of X G z_min, PySem.W.mg_none_of X G z_max, PySem.W.mg_none_of X G z_isinstance, PySem.W.mg_none_of X G z_bool, PySem.W.mg_none_of X G z_str, PySem.W.mg_none_of X G z_dict, PySem.W.mg_none_of X G z_tuple, PySem.W.mg_of X G z_gcd⟩
  have FI := fun_mk (st := sInitB) lI cI kI
  have bI := FI.binds (ps := ["self", "what"]) fun _ _ _ _ _ _ us hl => match us, hl with | [_, _], _ => rfl
  have B : BvT K mg C := ⟨PySem.W.mg_of X G aC, ⟨⟨nm, qn, N0, bs, bm, sn, sub, ab, col, dd, m0, m1, m2, m3, m5, xL, hbm⟩, sa, eC, tC, kC⟩, nw, fI, _, aI, tI, FI, bI⟩
  have icC : (PySem.W.clsIn K C).isSome = true := by
    obtain ⟨cd, hc, _⟩ := PySem.W.any_some hC
    rw [hc]; rfl
  let A : String → Addr := fun n => if n = "Mismatch" then C_Mismatch else if n = "Still" then C_Still else if n = "Endless" then C_Endless else if n = "TooMany" then C_TooMany else if n = "NoName" then C_NoName else if n = "Taken" then C_Taken else if n = "Locked" then C_Locked else if n = "Looped" then C_Looped else if n = "Broken" then C_Broken else if n = "ReadError" then C_ReadError else C
  have kit : ∀ D : Addr, PySem.W.typeIn K (.ref D) = some (.type "type") → PySem.W.hasDictIn K D = true → PySem.W.subIn K (.ref C) (.ref D) = some false → (Value.ref C == Value.ref D) = false → PySem.W.kitOne K (.ref C) (.ref D) = some false := fun D h1 h2 h3 h4 => by
    obtain ⟨cd, hc, _⟩ := PySem.W.any_some h2
    unfold PySem.W.kitOne PySem.W.kitCls
    rw [h4, if_neg Bool.false_ne_true]
    show (if ((PySem.W.clsIn K D).isSome && PySem.W.typeIn K (.ref D) == some (.type "type")) = true then PySem.W.subIn K (.ref C) (.ref D) else none) = some false
    rw [hc, h1, if_pos (by rfl)]
    exact h3
  have AT : AskT K mg C S A := {
    sky := PySem.W.mg_of X G aS
    exm := PySem.W.exm_ref eS hS tS cS
    g := fun n hn => by
      simp only [List.mem_cons, List.not_mem_nil, or_false] at hn
      rcases hn with rfl | rfl | rfl | rfl | rfl | rfl | rfl | rfl | rfl | rfl | rfl
      · exact PySem.W.mg_of X G aC
      · exact PySem.W.mg_of X G a_Mismatch
      · exact PySem.W.mg_of X G a_Still
      · exact PySem.W.mg_of X G a_Endless
      · exact PySem.W.mg_of X G a_TooMany
      · exact PySem.W.mg_of X G a_NoName
      · exact PySem.W.mg_of X G a_Taken
      · exact PySem.W.mg_of X G a_Locked
      · exact PySem.W.mg_of X G a_Looped
      · exact PySem.W.mg_of X G a_Broken
      · exact PySem.W.mg_of X G a_ReadError
    k := fun n hn => by
      simp only [List.mem_cons, List.not_mem_nil, or_false] at hn
      rcases hn with rfl | rfl | rfl | rfl | rfl | rfl | rfl | rfl | rfl | rfl | rfl
      · show PySem.W.kitOne K (.ref C) (.ref C) = some true
        unfold PySem.W.kitOne
        rw [if_pos (by simp)]
      · exact kit C_Mismatch t_Mismatch h_Mismatch s_Mismatch n_Mismatch
      · exact kit C_Still t_Still h_Still s_Still n_Still
      · exact kit C_Endless t_Endless h_Endless s_Endless n_Endless
      · exact kit C_TooMany t_TooMany h_TooMany s_TooMany n_TooMany
      · exact kit C_NoName t_NoName h_NoName s_NoName n_NoName
      · exact kit C_Taken t_Taken h_Taken s_Taken n_Taken
      · exact kit C_Locked t_Locked h_Locked s_Locked n_Locked
      · exact kit C_Looped t_Looped h_Looped s_Looped n_Looped
      · exact kit C_Broken t_Broken h_Broken s_Broken n_Broken
      · exact kit C_ReadError t_ReadError h_ReadError s_ReadError n_ReadError
    ve := by
      unfold PySem.W.kitOne PySem.W.kitCls
      rw [if_neg (by simp)]
      show (if PySem.W.kitMeta "ValueError" = true then PySem.W.subIn K (.ref C) (.type "ValueError") else none) = some true
      rw [if_pos (by decide +kernel)]
      exact vC
    b_VE := PySem.W.mg_none_of X G z_VE
    hcl := icC
    hga := ga
    hgt := gg
    hsub := eC
    ha := gc
    hn := spc
    htk := tkc
    hm := mC
    xf := ⟨ga, gg, eC, hC⟩ }
  have FA := fun_mk (st := sAsked) l_A c_A k_A
  have AS : AskD K mg f_A oc_A od_A .none kV_A dc_A pm_A an_A cd_A ct_A sl_A := ⟨PySem.W.mg_of X G a_A, k_A, l_A, c_A, FA.binds (ps := ["_law_call"]) fun _ _ _ _ _ _ us hl => match us, hl with | [_], _ => rfl⟩
  have F_R1 := fun_mk (st := sRfs) l_R1 cd_R1 k_R1
  have b_R1 := F_R1.binds (ps := ["_law_longs_here", "_law_length", "_law_due"]) fun _ _ _ _ _ _ us hl => match us, hl with | [_, _, _], _ => rfl
  have F_R2 := fun_mk (st := sRfd) l_R2 cd_R2 k_R2
  have b_R2 := F_R2.binds (ps := ["_law_store_here", "_law_longs_here", "_law_length"]) fun _ _ _ _ _ _ us hl => match us, hl with | [_, _, _], _ => rfl
  have F_R3 := fun_mk (st := sObj) l_R3 cd_R3 k_R3
  have b_R3 := F_R3.binds (ps := ["_law_word_here"]) fun _ _ _ _ _ _ us hl => match us, hl with | [_], _ => rfl
  have C0 : Two01 K mg z0 o0 := ⟨PySem.W.mg_of X G aZ, PySem.W.mg_of X G aO, ob_con o_Z, ob_con o_O⟩
  have wC : Cls K CY := ⟨wpg, whd, wpo, wsa⟩
  have wI : C8.InsC K CY := ⟨wC, wca, spc, tkc, wro, by
    unfold PySem.W.kitOne
    rw [if_pos (by simp)]⟩
  have W : CyC K mg CY := ⟨wC, wn_rate, wn_start, wn_period, PySem.W.mg_of X G aCY⟩
  have WM : L2.Mk K CY fWI := ⟨wmk, w1, w2, wkp⟩
  have FWI : FunD K "__init__" "Cycle.__init__" (defArgs sCyInit) (defBody sCyInit) (defScope sCyInit) [.ref zi] [] fWI _ := ⟨⟨ocWI, odWI, _, kVWI, dcWI, pmWI, anWI, cdWI, ctWI, slWI, rfl, lWI, cWI, .inr ⟨by simp, tY, _, [.ref zi], nTY, rfl, lTY, rfl, .cons rfl .nil⟩, .inl rfl⟩, kWI⟩
  obtain ⟨dsY1, vY1, bY1⟩ := FWI.binds1 (ps := ["self", "rate", "start"]) 2 0 (by simp) rfl fun T kV doc pm an cdv ct us its hu hi => match us, its, hu, hi with
    | [u1, u2], [i1], _, _ => ⟨_, rfl, rfl⟩
  have ozi := ob_con o_I
  have hN : CyN K CY := fun n hn => by
    have go : ∀ n : String, PySem.W.kitMeta n = true → PySem.W.subIn K (.ref CY) (.type n) = some false → PySem.W.kitOne K (.ref CY) (.type n) = some false := fun n h1 h2 => by
      unfold PySem.W.kitOne PySem.W.kitCls
      rw [if_neg (by simp)]
      show (if PySem.W.kitMeta n = true then PySem.W.subIn K (.ref CY) (.type n) else none) = some false
      rw [if_pos h1]
      exact h2
    simp only [List.mem_cons, List.not_mem_nil, or_false] at hn
    rcases hn with rfl | rfl | rfl | rfl | rfl | rfl
    · exact go _ (by decide +kernel) kd_int
    · exact go _ (by decide +kernel) kd_bool
    · exact go _ (by decide +kernel) kd_str
    · exact go _ (by decide +kernel) kd_list
    · exact go _ (by decide +kernel) kd_tuple
    · exact go _ (by decide +kernel) kd_dict
  have DStore : Dfn K mg "_law_store" sStore ["_law_script"] := dfn_mk X G a0Store l0Store c0Store k0Store fun _ _ _ _ _ _ us hl => match us, hl with | [_], _ => rfl
  have DLLongs : Dfn K mg "_law_longs" sLLongs ["_law_store_here"] := dfn_mk X G a0LLongs l0LLongs c0LLongs k0LLongs fun _ _ _ _ _ _ us hl => match us, hl with | [_], _ => rfl
  have DTake : Dfn K mg "_law_take" sTake ["_law_store_here", "_law_many"] := dfn_mk X G a0Take l0Take c0Take k0Take fun _ _ _ _ _ _ us hl => match us, hl with | [_, _], _ => rfl
  have DMixed : Dfn K mg "_law_mixed" sMixed ["_law_number", "_law_turn"] := dfn_mk X G a0Mixed l0Mixed c0Mixed k0Mixed fun _ _ _ _ _ _ us hl => match us, hl with | [_, _], _ => rfl
  have DPick : Dfn K mg "_law_pick" sPick ["_law_store_here", "_law_row"] := dfn_mk X G a0Pick l0Pick c0Pick k0Pick fun _ _ _ _ _ _ us hl => match us, hl with | [_, _], _ => rfl
  have DRange : Dfn K mg "_law_range" sRange ["_law_store_here", "_law_low", "_law_high"] := dfn_mk X G a0Range l0Range c0Range k0Range fun _ _ _ _ _ _ us hl => match us, hl with | [_, _, _], _ => rfl
  have DDWd : Dfn K mg "_law_word" sDWd ["_law_store_here"] := dfn_mk X G a0DWd l0DWd c0DWd k0DWd fun _ _ _ _ _ _ us hl => match us, hl with | [_], _ => rfl
  have DLIt : Dfn K mg "_law_leap_items" sLIt ["_law_longs_here", "_law_length", "_law_turn"] := dfn_mk X G a0LIt l0LIt c0LIt k0LIt fun _ _ _ _ _ _ us hl => match us, hl with | [_, _, _], _ => rfl
  have DSame : Dfn K mg "_law_same" sSame ["_law_told", "_law_due"] := dfn_mk X G a0Same l0Same c0Same k0Same fun _ _ _ _ _ _ us hl => match us, hl with | [_, _], _ => rfl
  have DLWhole : Dfn K mg "_law_is_whole" sLWhole ["_law_told"] := dfn_mk X G a0LWhole l0LWhole c0LWhole k0LWhole fun _ _ _ _ _ _ us hl => match us, hl with | [_], _ => rfl
  have DWE : Dfn K mg "word_error" sWE ["word"] := dfn_mk X G a0WE l0WE c0WE k0WE fun _ _ _ _ _ _ us hl => match us, hl with | [_], _ => rfl
  have DRequire : Dfn K mg "require" sRequire ["well_formed", "what"] := dfn_mk X G a0Require l0Require c0Require k0Require fun _ _ _ _ _ _ us hl => match us, hl with | [_, _], _ => rfl
  have DWord : Dfn K mg "is_word" sWord ["value"] := dfn_mk X G a0Word l0Word c0Word k0Word fun _ _ _ _ _ _ us hl => match us, hl with | [_], _ => rfl
  have DWithin : Dfn K mg "is_whole_within" sWithin ["value", "least", "most"] := dfn_mk X G a0Within l0Within c0Within k0Within fun _ _ _ _ _ _ us hl => match us, hl with | [_, _, _], _ => rfl
  have DWholeU : Dfn K mg "is_whole" sWholeU ["value"] := dfn_mk X G a0WholeU l0WholeU c0WholeU k0WholeU fun _ _ _ _ _ _ us hl => match us, hl with | [_], _ => rfl
  have FDFraction : FunD K "fraction" "fraction" (defArgs sFraction) (defBody sFraction) (defScope sFraction) [.int 1] [] f0Fraction _ := ⟨⟨oc0Fraction, od0Fraction, _, kV0Fraction, dc0Fraction, pm0Fraction, an0Fraction, cd0Fraction, ct0Fraction, sl0Fraction, rfl, l0Fraction, c0Fraction, .inr ⟨by simp, t0Fraction, _, [.int 1 tk0Fraction], nT0Fraction, rfl, lT0Fraction, rfl, .cons ⟨tk0Fraction, rfl⟩ .nil⟩, .inl rfl⟩, k0Fraction⟩
  have DFraction : DfnD K mg "fraction" sFraction ["numerator", "denominator"] := by
    obtain ⟨ds, hv, hb⟩ := FDFraction.binds1 (ps := ["numerator", "denominator"]) 2 1 (by simp) rfl fun T kV doc pm an cdv ct us its hu hi => match us, its, hu, hi with
      | [u0, u1], [i1], _, _ => ⟨_, rfl, rfl⟩
    cases hv
    exact ⟨f0Fraction, _, _, FDFraction, PySem.W.mg_of X G a0Fraction, hb⟩
  have DWhole : Dfn K mg "is_whole" sWhole ["value"] := dfn_mk X G a0Whole l0Whole c0Whole k0Whole fun _ _ _ _ _ _ us hl => match us, hl with | [_], _ => rfl
  have DSer : Dfn K mg "_scaled_error" sSer ["word"] := dfn_mk X G a0Ser l0Ser c0Ser k0Ser fun _ _ _ _ _ _ us hl => match us, hl with | [_], _ => rfl
  have DED : Dfn K mg "_law_error_due" sED ["_law_word_here"] := dfn_mk X G a0ED l0ED c0ED k0ED fun _ _ _ _ _ _ us hl => match us, hl with | [_], _ => rfl
  have DLowest : Dfn K mg "_law_lowest" sLowest ["_law_top", "_law_bottom"] := dfn_mk X G a0Lowest l0Lowest c0Lowest k0Lowest fun _ _ _ _ _ _ us hl => match us, hl with | [_, _], _ => rfl
  have DGcd : Dfn K mg "_law_gcd" sGcd ["_law_left", "_law_right"] := dfn_mk X G a0Gcd l0Gcd c0Gcd k0Gcd fun _ _ _ _ _ _ us hl => match us, hl with | [_, _], _ => rfl
  have Mi : MiT K mg C_Mismatch := ⟨PySem.W.mg_of X G a_Mismatch, mm_k, ⟨_, _, _, _, PySem.F.excBase_ValueError, mm_x⟩, mm_s, t_Mismatch⟩
  have kitM : ∀ D : Addr, PySem.W.typeIn K (.ref D) = some (.type "type") → PySem.W.hasDictIn K D = true → PySem.W.subIn K (.ref C_Mismatch) (.ref D) = some false → (Value.ref C_Mismatch == Value.ref D) = false → PySem.W.kitOne K (.ref C_Mismatch) (.ref D) = some false := fun D h1 h2 h3 h4 => by
    obtain ⟨cd, hc, _⟩ := PySem.W.any_some h2
    unfold PySem.W.kitOne PySem.W.kitCls
    rw [h4, if_neg Bool.false_ne_true]
    show (if ((PySem.W.clsIn K D).isSome && PySem.W.typeIn K (.ref D) == some (.type "type")) = true then PySem.W.subIn K (.ref C_Mismatch) (.ref D) else none) = some false
    rw [hc, h1, if_pos (by rfl)]
    exact h3
  have AM : AskM K C_Mismatch S A := {
    exm := PySem.W.exm_ref eS hS tS mm_y
    k := fun n hn => by
      simp only [List.mem_cons, List.not_mem_nil, or_false] at hn
      rcases hn with rfl | rfl | rfl | rfl | rfl | rfl | rfl | rfl | rfl | rfl | rfl
      · exact kitM C tC hC ms_BadValue n_mBadValue
      · show PySem.W.kitOne K (.ref C_Mismatch) (.ref C_Mismatch) = some true
        unfold PySem.W.kitOne
        rw [if_pos (by simp)]
      · exact kitM C_Still t_Still h_Still ms_Still n_mStill
      · exact kitM C_Endless t_Endless h_Endless ms_Endless n_mEndless
      · exact kitM C_TooMany t_TooMany h_TooMany ms_TooMany n_mTooMany
      · exact kitM C_NoName t_NoName h_NoName ms_NoName n_mNoName
      · exact kitM C_Taken t_Taken h_Taken ms_Taken n_mTaken
      · exact kitM C_Locked t_Locked h_Locked ms_Locked n_mLocked
      · exact kitM C_Looped t_Looped h_Looped ms_Looped n_mLooped
      · exact kitM C_Broken t_Broken h_Broken ms_Broken n_mBroken
      · exact kitM C_ReadError t_ReadError h_ReadError ms_ReadError n_mReadError
    ve := by
      unfold PySem.W.kitOne PySem.W.kitCls
      rw [if_neg (by simp)]
      show (if PySem.W.kitMeta "ValueError" = true then PySem.W.subIn K (.ref C_Mismatch) (.type "ValueError") else none) = some true
      rw [if_pos (by decide +kernel)]
      exact mm_v
    e := ⟨mm_g, mm_t, mm_s, h_Mismatch, mm_c, spc, tkc, mm_o⟩ }
  have FDKept : FunD K "_law_kept" "_law_kept" (defArgs sKept) (defBody sKept) (defScope sKept) [.int 24] [] f0Kept _ := ⟨⟨oc0Kept, od0Kept, _, kV0Kept, dc0Kept, pm0Kept, an0Kept, cd0Kept, ct0Kept, sl0Kept, rfl, l0Kept, c0Kept, .inr ⟨by simp, t0Kept, _, [.int 24 tk0Kept], nT0Kept, rfl, lT0Kept, rfl, .cons ⟨tk0Kept, rfl⟩ .nil⟩, .inl rfl⟩, k0Kept⟩
  have DKept : DfnD K mg "_law_kept" sKept ["_law_thing", "_law_deep"] := by
    obtain ⟨ds, hv, hb⟩ := FDKept.binds1 (ps := ["_law_thing", "_law_deep"]) 2 1 (by simp) rfl fun T kV doc pm an cdv ct us its hu hi => match us, its, hu, hi with
      | [u0, u1], [i1], _, _ => ⟨_, rfl, rfl⟩
    cases hv
    exact ⟨f0Kept, _, _, FDKept, PySem.W.mg_of X G a0Kept, hb⟩
  have D1Kept : DfnD1 K mg "_law_kept" sKept ["_law_thing", "_law_deep"] (.int 24) := by
    obtain ⟨ds, hv, hb⟩ := FDKept.binds1 (ps := ["_law_thing", "_law_deep"]) 1 0 (by simp) rfl fun T kV doc pm an cdv ct us its hu hi => match us, its, hu, hi with
      | [u0], [i1], _, _ => ⟨_, rfl, rfl⟩
    exact ⟨f0Kept, _, _, ds, FDKept, PySem.W.mg_of X G a0Kept, hv, hb⟩
  have DBy : Dfn K mg "_law_beyond" sBy ["_law_store_here", "_law_low", "_law_high"] := dfn_mk X G a0By l0By c0By k0By fun _ _ _ _ _ _ us hl => match us, hl with | [_, _, _], _ => rfl
  have DBW : Dfn K mg "_law_bad_whole" sBW ["_law_store_here"] := dfn_mk X G a0BW l0BW c0BW k0BW fun _ _ _ _ _ _ us hl => match us, hl with | [_], _ => rfl
  have DBest : Dfn K mg "best_word" sBest ["longs", "length"] := dfn_mk X G a0Best l0Best c0Best k0Best fun _ _ _ _ _ _ us hl => match us, hl with | [_, _], _ => rfl
  have DLongs : Dfn K mg "_is_longs" sLongs ["value"] := dfn_mk X G a0Longs l0Longs c0Longs k0Longs fun _ _ _ _ _ _ us hl => match us, hl with | [_], _ => rfl
  have DLength : Dfn K mg "_is_length" sLength ["value"] := dfn_mk X G a0Length l0Length c0Length k0Length fun _ _ _ _ _ _ us hl => match us, hl with | [_], _ => rfl
  have DIdx : Dfn K mg "best_index" sIdx ["longs", "length"] := dfn_mk X G a0Idx l0Idx c0Idx k0Idx fun _ _ _ _ _ _ us hl => match us, hl with | [_, _], _ => rfl
  have DLeap : Dfn K mg "_leap_word" sLeap ["longs", "length", "turn"] := dfn_mk X G a0Leap l0Leap c0Leap k0Leap fun _ _ _ _ _ _ us hl => match us, hl with | [_, _, _], _ => rfl
  have DBWd : Dfn K mg "_law_bad_word" sBWd ["_law_store_here"] := dfn_mk X G a0BWd l0BWd c0BWd k0BWd fun _ _ _ _ _ _ us hl => match us, hl with | [_], _ => rfl
  have DIsFraction : Dfn K mg "is_fraction" sIsFraction ["value"] := dfn_mk X G a0IsFraction l0IsFraction c0IsFraction k0IsFraction fun _ _ _ _ _ _ us hl => match us, hl with | [_], _ => rfl
  have DIsPlace : Dfn K mg "is_place" sIsPlace ["value"] := dfn_mk X G a0IsPlace l0IsPlace c0IsPlace k0IsPlace fun _ _ _ _ _ _ us hl => match us, hl with | [_], _ => rfl
  have DPeriod : Dfn K mg "_period_of" sPeriod ["rate"] := dfn_mk X G a0Period l0Period c0Period k0Period fun _ _ _ _ _ _ us hl => match us, hl with | [_], _ => rfl
  have DMagn : Dfn K mg "magnitude" sMagn ["value"] := dfn_mk X G a0Magn l0Magn c0Magn k0Magn fun _ _ _ _ _ _ us hl => match us, hl with | [_], _ => rfl
  have DOver : Dfn K mg "over" sOver ["left", "right"] := dfn_mk X G a0Over l0Over c0Over k0Over fun _ _ _ _ _ _ us hl => match us, hl with | [_, _], _ => rfl
  have DBR : Dfn K mg "_law_best_right" sBR ["_law_store_here", "_law_longs_here", "_law_length"] := dfn_mk X G a0BR l0BR c0BR k0BR fun _ _ _ _ _ _ us hl => match us, hl with | [_, _, _], _ => rfl
  have DBsD : Dfn K mg "_law_best_due" sBsD ["_law_longs_here", "_law_length"] := dfn_mk X G a0BsD l0BsD c0BsD k0BsD fun _ _ _ _ _ _ us hl => match us, hl with | [_, _], _ => rfl
  have DIxD : Dfn K mg "_law_index_due" sIxD ["_law_longs_here", "_law_length"] := dfn_mk X G a0IxD l0IxD c0IxD k0IxD fun _ _ _ _ _ _ us hl => match us, hl with | [_, _], _ => rfl
  have DDist : Dfn K mg "_law_distance" sDist ["_law_value"] := dfn_mk X G a0Dist l0Dist c0Dist k0Dist fun _ _ _ _ _ _ us hl => match us, hl with | [_], _ => rfl
  have DLOffset : Dfn K mg "_law_offset" sLOffset ["_law_value"] := dfn_mk X G a0LOffset l0LOffset c0LOffset k0LOffset fun _ _ _ _ _ _ us hl => match us, hl with | [_], _ => rfl
  have DOth : Dfn K mg "_law_others" sOth ["_law_store_here", "_law_longs_here", "_law_length"] := dfn_mk X G a0Oth l0Oth c0Oth k0Oth fun _ _ _ _ _ _ us hl => match us, hl with | [_, _, _], _ => rfl
  have DShuf : Dfn K mg "_law_shuffled" sShuf ["_law_store_here", "_law_row"] := dfn_mk X G a0Shuf l0Shuf c0Shuf k0Shuf fun _ _ _ _ _ _ us hl => match us, hl with | [_, _], _ => rfl
  have DSgn : Dfn K mg "_law_sign" sSgn ["_law_left", "_law_right"] := dfn_mk X G a0Sgn l0Sgn c0Sgn k0Sgn fun _ _ _ _ _ _ us hl => match us, hl with | [_, _], _ => rfl
  have FL := fun_mk (st := sLaw) lL cL kL
  refine ⟨PySem.W.fnOf "law" "law" (defArgs sLaw) (defBody sLaw) (defScope sLaw) .none kVL dcL pmL anL cdvL ctL, fun s v => .of_eq rfl, fun base _ _ P1 P2 P3 TB1 TB2 TB3 n12 n13 n23 => ?_⟩
  have e := hfa.symm.trans (PySem.W.mg_of X G aL)
  cases e
  have kStore := k_Store (P := P) (w := w) (base := base) T DStore
  have kMixed := k_Mixed (P := P) (w := w) (base := base) T DMixed
  have kTake := k_Take (P := P) (w := w) (base := base) T DTake kMixed
  have kPick := k_Pick (P := P) (w := w) (base := base) T DPick kTake
  have kRange := k_Range (P := P) (w := w) (base := base) T DRange kTake
  have kLLongs := k_LLongs (P := P) (w := w) (base := base) T DLLongs kTake kPick kRange
  have kLIt := k_LIt (P := P) (w := w) (base := base) T DLIt
  have kDWd := k_DWd (P := P) (w := w) (base := base) T DDWd kLLongs kTake kLIt
  have kLWhole := k_LWhole (P := P) (w := w) (base := base) T DLWhole
  have kSame4 := k_same (P := P) (w := w) (base := base) T DSame kLWhole 4
  have kRequire := k_Require (P := P) (w := w) (base := base) T DRequire
  have kWholeU := k_WholeU (P := P) (w := w) (base := base) T DWholeU
  have kWithin := k_Within (P := P) (w := w) (base := base) T DWithin kWholeU
  have kWord := k_Word (P := P) (w := w) (base := base) (PySem.W.mg_of X G g_LONGEST_WORD) (PySem.W.mg_none_of X G z_all) T DWord kWithin
  have kWhole := k_Whole (P := P) (w := w) (base := base) T DWhole
  have kFraction := k_Fraction (P := P) (w := w) (base := base) T DFraction kRequire kWhole
  have kSer := k_Ser (P := P) (w := w) (base := base) (PySem.W.mg_none_of X G z_sum) (PySem.W.mg_none_of X G z_enumerate) T DSer
  have kWE := k_WE (P := P) (w := w) (base := base) T DWE kRequire kWord kFraction kSer
  have kGcd := k_Gcd (P := P) (w := w) (base := base) T DGcd
  have kLowest := k_Lowest (P := P) (w := w) (base := base) T DLowest kGcd
  have kED := k_ED (P := P) (w := w) (base := base) (PySem.W.mg_none_of X G z_sum) T DED kLowest
  have kxRequire := kx_Require (P := P) (w := w) (base := base) B DRequire
  have kxWE := kx_WE (P := P) (w := w) (base := base) DWE kxRequire kWord
  have kKept1 := k_Kept1 (P := P) (w := w) (base := base) 3 T D1Kept (k_kept (P := P) (w := w) (base := base) T (DfnD.none (P := P) (w := w) (base := base) DKept) DKept 3)
  have kBW := k_BW (P := P) (w := w) (base := base) T DBW kPick
  have kBy := k_By (P := P) (w := w) (base := base) T DBy kTake kPick kBW
  have kLongs := k_Longs (P := P) (w := w) (base := base) (PySem.W.mg_of X G g_LONGEST_WORD) T DLongs kWithin
  have kLength := k_Length (P := P) (w := w) (base := base) (PySem.W.mg_of X G g_LONGEST_WORD) T DLength kWithin
  have kxBest := kx_Best (P := P) (w := w) (base := base) Mi DBest kxRequire kRequire kLongs kLength
  have kxIdx := kx_Idx (P := P) (w := w) (base := base) Mi DIdx kxRequire kRequire kLongs kLength
  have kR1 : Kn P w K mg base 8 "_law_refuse" ["_law_longs_here", "_law_length", "_law_due"] (spRfs K (Tt P1 P2 P3)) := ⟨f_R1, _, PySem.W.mg_of X G a_R1, k_R1, b_R1, ok_Rfs T B AT AM AS l_R1 cd_R1 TB1 n12 n13 n23 kxBest kxIdx kSame4⟩
  have kLeap := k_Leap (P := P) (w := w) (base := base) (PySem.W.mg_none_of X G z_zip) T DLeap
  have kBest := k_Best (P := P) (w := w) (base := base) T DBest kRequire kLongs kLength kLeap kSer
  have kIdx := k_Idx (P := P) (w := w) (base := base) T DIdx kRequire kLongs kLength
  have kBWd := k_BWd (P := P) (w := w) (base := base) T DBWd kDWd kTake kPick
  have kR2 : Kn P w K mg base 9 "_law_refused" ["_law_store_here", "_law_longs_here", "_law_length"] (spRfd K (Tt P1 P2 P3)) := ⟨f_R2, _, PySem.W.mg_of X G a_R2, k_R2, b_R2, ok_Rfd T B AT AM AS l_R2 cd_R2 TB2 n12 n13 n23 kxWE kKept1 kBy kPick kTake kR1 kBest kIdx kSame4 kBWd⟩
  have kIsFraction := k_IsFraction (P := P) (w := w) (base := base) T DIsFraction kWhole
  have kIsPlace := k_IsPlace (P := P) (w := w) (base := base) T DIsPlace kIsFraction
  have kMagn := k_Magn (P := P) (w := w) (base := base) T DMagn kRequire kIsFraction
  have kOver := k_Over (P := P) (w := w) (base := base) T DOver kRequire kIsFraction kFraction
  have kPeriod := k_Period (P := P) (w := w) (base := base) C0 T DPeriod kMagn kOver
  have mkC : C8.Mak P w K mg base 5 "Cycle" CY (spCyInit K CY) [.ref zi] := ⟨fWI, _, _, dsY1, WM, ok_CyInit T W kRequire kIsFraction kIsPlace kPeriod FWI, W.g, bY1, vY1⟩
  have kR3 : Kn P w K mg base 9 "_law_objects_refused" ["_law_word_here"] (spObj K (Tt P1 P2 P3)) := ⟨f_R3, _, PySem.W.mg_of X G a_R3, k_R3, b_R3, ok_Obj T B AT AM AS l_R3 cd_R3 TB3 hN wI mkC ozi n12 n13 n23 kxWE kR1 kSame4⟩
  have kBsD := k_BsD (P := P) (w := w) (base := base) T DBsD kGcd kLIt
  have kIxD := k_IxD (P := P) (w := w) (base := base) T DIxD
  have kSame3 := k_same (P := P) (w := w) (base := base) T DSame kLWhole 3
  have kLOffset := k_LOffset (P := P) (w := w) (base := base) T DLOffset kLowest
  have kDist := k_Dist (P := P) (w := w) (base := base) T DDist kLOffset
  have kShuf := k_Shuf (P := P) (w := w) (base := base) T DShuf kTake
  have kOth := k_Oth (P := P) (w := w) (base := base) T DOth kTake kShuf kLIt
  have kSgn := k_Sgn (P := P) (w := w) (base := base) T DSgn
  have kBR := k_BR (P := P) (w := w) (base := base) T DBR kBest kIdx kBsD kIxD kSame3 kWE kDist kLowest kOth kED kSgn
  exact ok_law FL T kStore kLLongs kDWd kSame4 kWE kED kR2 kR3 kBR
end My

namespace My
open PySem PySem.Spec PyProof.Rows L2
/-- the end as the head asks for it -/
theorem law_at {l : PySem.W.OpenLaw} {w : World} {K : PySem.W.Frag} {h : Heap} {mg : Str → Option Value} {fa c1 c2 c3 P1 P2 P3 : Addr} (hT1 : h.get? P1 = some { cls := .none, data := .fields #[] }) (hT2 : h.get? P2 = some { cls := .none, data := .fields #[] }) (hT3 : h.get? P3 = some { cls := .none, data := .fields #[] }) (nP1 : K.lookup P1 = none) (nP2 : K.lookup P2 = none) (nP3 : K.lookup P3 = none)
    (C1 : PySem.W.CodeHd h c1 P1) (C2 : PySem.W.CodeHd h c2 P2) (C3 : PySem.W.CodeHd h c3 P3) (n12 : P1 ≠ P2) (n13 : P1 ≠ P3) (n23 : P2 ≠ P3)
    (R : ∃ fd : FuncData, (∀ (s : Shared) (v : Value), BindsTo s fd ⟨[v], []⟩ [("_law_script", v)]) ∧ ∀ base : Heap, K.In base → base.Ns mainGlobals mg → ∀ P1 : Addr, ∀ P2 : Addr, ∀ P3 : Addr, LamX.TabB base mg c1 P1 → LamX.TabB base mg c2 P2 → LamX.TabB base mg c3 P3 → P1 ≠ P2 → P1 ≠ P3 → P2 ≠ P3 → FnOk l.prog w K mg base CX0 10 fa fd ["_law_script"] (spLaw K P1 P2 P3)) :
    LamX.LawAtS l w K CX0 10 63 "_law_script" mg fa h := by
  obtain ⟨fd, hb, F⟩ := R
  have m1 : (c1, P1) ∈ [(c1, P1), (c2, P2), (c3, P3)] := List.mem_cons_self ..
  have m2 : (c2, P2) ∈ [(c1, P1), (c2, P2), (c3, P3)] := List.mem_cons_of_mem _ (List.mem_cons_self ..)
  have m3 : (c3, P3) ∈ [(c1, P1), (c2, P2), (c3, P3)] := List.mem_cons_of_mem _ (List.mem_cons_of_mem _ (List.mem_cons_self ..))
  have all : ∀ {p : Addr × Addr} {q : Addr × Addr → Prop}, q (c1, P1) → q (c2, P2) → q (c3, P3) → p ∈ [(c1, P1), (c2, P2), (c3, P3)] → q p := fun {p q} h1 h2 h3 hp => by
    simp only [List.mem_cons, List.not_mem_nil, or_false] at hp
    rcases hp with rfl | rfl | rfl
    · exact h1
    · exact h2
    · exact h3
  refine ⟨fd, [(c1, P1), (c2, P2), (c3, P3)], spLaw K P1 P2 P3, fun p hp => all (q := fun p => h.get? p.2 = _) hT1 hT2 hT3 hp, fun p hp => all (q := fun p => K.lookup p.2 = none) nP1 nP2 nP3 hp, fun p hp => all (q := fun p => PySem.W.CodeHd h p.1 p.2) C1 C2 C3 hp, hb, fun H a ns hl hbits hH hS => ?_, fun base X G TB => F base X G P1 P2 P3 (TB _ m1) (TB _ m2) (TB _ m3) n12 n13 n23⟩
  exact ⟨a, ns, rfl, hS, hH _ m1, hH _ m2, hH _ m3, fun _ => rfl⟩
theorem walk_mk {l : PySem.W.OpenLaw} {q : Program} {loose : List Str} {XP : (Str → Option Value) → Heap → Prop} {YP : World → Heap → Prop} {d : DefRec} {K : Params → PySem.W.Frag} (hn : l.most = some 63) (hdf : d.params.defaults = [])
    (hY : ∀ (w : World) (h : Heap), YP w h → (K w.params).In h)
    (F : ∀ (w : World) (mg : Str → Option Value) (fa : Addr) (h : Heap), YP w h → (K w.params).In h → h.Ns mainGlobals mg → mg d.name = some (.ref fa) → LamX.LawAtS l w (K w.params) CX0 10 63 "_law_script" mg fa h) :
    PySem.W.WalkO q loose XP YP l.row.toRowW d [] (fun f vs => PySem.call f vs) :=
  LamX.walk_ofTs (CX := fun _ => CX0) hn (by decide) hdf ⟨rfl, by decide, by decide⟩ hY F fun _ _ _ _ _ z => z
end My
open PySem PySem.W PyProof.Rows
set_option maxRecDepth 100000 in
set_option maxHeartbeats 0 in
theorem PySem.Challenge.cw_wheelsky_k51_best_word_errs_least_holds : PySem.Challenge.rw_wheelsky_k51_best_word_errs_least.Holds := by
  w_on; o_law; k_head; (case hw => w_witness2)
  k_fill
  refine My.walk_mk (l := PySem.Challenge.rw_wheelsky_k51_best_word_errs_least) rfl rfl (fun w h Y => km_in_of Y) ?F
  case F =>
    intro w mg fa h Y KX G hmg
    refine' My.law_at (km_tabs_of Y _ (List.mem_cons_of_mem _ (List.mem_cons_self ..))) (km_tabs_of Y _ (List.mem_cons_of_mem _ (List.mem_cons_of_mem _ (List.mem_cons_self ..)))) (km_tabs_of Y _ (List.mem_cons_self ..)) ?nP1 ?nP2 ?nP3 ?cH1 ?cH2 ?cH3 ?d12 ?d13 ?d23 (My.all_mk KX G hmg ?z_int ?z_len ?z_list ?z_abs ?z_range ?z_min ?z_max ?z_isinstance ?z_bool ?z_str ?z_dict ?z_tuple ?z_gcd ?z_VE ?aC ?aS ?xL ?hbm ?sa ?ga ?gg ?gc ?nw ?aI ?tI ?lI ?cI ?kI ?kC ?eC ?tC ?hC ?mC ?vC ?spc ?tkc ?eS ?hS ?tS ?cS ?a_Mismatch ?t_Mismatch ?h_Mismatch ?s_Mismatch ?n_Mismatch ?a_Still ?t_Still ?h_Still ?s_Still ?n_Still ?a_Endless ?t_Endless ?h_Endless ?s_Endless ?n_Endless ?a_TooMany ?t_TooMany ?h_TooMany ?s_TooMany ?n_TooMany ?a_NoName ?t_NoName ?h_NoName ?s_NoName ?n_NoName ?a_Taken ?t_Taken ?h_Taken ?s_Taken ?n_Taken ?a_Locked ?t_Locked ?h_Locked ?s_Locked ?n_Locked ?a_Looped ?t_Looped ?h_Looped ?s_Looped ?n_Looped ?a_Broken ?t_Broken ?h_Broken ?s_Broken ?n_Broken ?a_ReadError ?t_ReadError ?h_ReadError ?s_ReadError ?n_ReadError ?a_A ?l_A ?c_A ?k_A ?a_R1 ?l_R1 ?cd_R1 ?k_R1 ?a_R2 ?l_R2 ?cd_R2 ?k_R2 ?a_R3 ?l_R3 ?cd_R3 ?k_R3 ?aL ?lL ?cL ?kL ?aZ ?o_Z ?aO ?o_O ?aCY ?wpg ?whd ?wpo ?wsa ?wn_rate ?wn_start ?wn_period ?wmk ?wkp ?wca ?wro ?w1 ?w2 ?lWI ?cWI ?kWI ?lTY ?o_I ?kd_int ?kd_bool ?kd_str ?kd_list ?kd_tuple ?kd_dict ?a0Store ?l0Store ?c0Store ?k0Store ?a0LLongs ?l0LLongs ?c0LLongs ?k0LLongs ?a0Take ?l0Take ?c0Take ?k0Take ?a0Mixed ?l0Mixed ?c0Mixed ?k0Mixed ?a0Pick ?l0Pick ?c0Pick ?k0Pick ?a0Range ?l0Range ?c0Range ?k0Range ?a0DWd ?l0DWd ?c0DWd ?k0DWd ?a0LIt ?l0LIt ?c0LIt ?k0LIt ?a0Same ?l0Same ?c0Same ?k0Same ?a0LWhole ?l0LWhole ?c0LWhole ?k0LWhole ?a0WE ?l0WE ?c0WE ?k0WE ?a0Require ?l0Require ?c0Require ?k0Require ?g_LONGEST_WORD ?z_all ?a0Word ?l0Word ?c0Word ?k0Word ?a0Within ?l0Within ?c0Within ?k0Within ?a0WholeU ?l0WholeU ?c0WholeU ?k0WholeU ?a0Fraction ?l0Fraction ?c0Fraction ?k0Fraction ?lT0Fraction ?a0Whole ?l0Whole ?c0Whole ?k0Whole ?z_sum ?z_enumerate ?a0Ser ?l0Ser ?c0Ser ?k0Ser ?a0ED ?l0ED ?c0ED ?k0ED ?a0Lowest ?l0Lowest ?c0Lowest ?k0Lowest ?a0Gcd ?l0Gcd ?c0Gcd ?k0Gcd ?mm_k ?mm_x ?mm_s ?mm_v ?mm_y ?mm_g ?mm_t ?mm_c ?mm_o ?ms_BadValue ?n_mBadValue ?ms_Still ?n_mStill ?ms_Endless ?n_mEndless ?ms_TooMany ?n_mTooMany ?ms_NoName ?n_mNoName ?ms_Taken ?n_mTaken ?ms_Locked ?n_mLocked ?ms_Looped ?n_mLooped ?ms_Broken ?n_mBroken ?ms_ReadError ?n_mReadError ?a0Kept ?l0Kept ?c0Kept ?k0Kept ?lT0Kept ?a0By ?l0By ?c0By ?k0By ?a0BW ?l0BW ?c0BW ?k0BW ?a0Best ?l0Best ?c0Best ?k0Best ?a0Longs ?l0Longs ?c0Longs ?k0Longs ?a0Length ?l0Length ?c0Length ?k0Length ?a0Idx ?l0Idx ?c0Idx ?k0Idx ?z_zip ?a0Leap ?l0Leap ?c0Leap ?k0Leap ?a0BWd ?l0BWd ?c0BWd ?k0BWd ?a0IsFraction ?l0IsFraction ?c0IsFraction ?k0IsFraction ?a0IsPlace ?l0IsPlace ?c0IsPlace ?k0IsPlace ?a0Period ?l0Period ?c0Period ?k0Period ?a0Magn ?l0Magn ?c0Magn ?k0Magn ?a0Over ?l0Over ?c0Over ?k0Over ?a0BR ?l0BR ?c0BR ?k0BR ?a0BsD ?l0BsD ?c0BsD ?k0BsD ?a0IxD ?l0IxD ?c0IxD ?k0IxD ?a0Dist ?l0Dist ?c0Dist ?k0Dist ?a0LOffset ?l0LOffset ?c0LOffset ?k0LOffset ?a0Oth ?l0Oth ?c0Oth ?k0Oth ?a0Shuf ?l0Shuf ?c0Shuf ?k0Shuf ?a0Sgn ?l0Sgn ?c0Sgn ?k0Sgn)
    (case z_int => k_is); (case z_len => k_is); (case z_list => k_is); (case z_abs => k_is); (case z_range => k_is); (case z_min => k_is); (case z_max => k_is); (case z_isinstance => k_is)
    (case z_bool => k_is); (case z_str => k_is); (case z_dict => k_is); (case z_tuple => k_is); (case z_gcd => k_is); (case z_VE => k_is); (case aC => k_is); (case aS => k_is)
    (case xL => k_is); (case hbm => decide +kernel); (case sa => k_is); (case ga => k_is); (case gg => k_is); (case gc => k_is); (case nw => k_is); (case aI => k_is)
    (case tI => k_is); (case lI => k_is); (case cI => k_is); (case kI => k_is); (case kC => k_is); (case eC => k_is); (case tC => k_is); (case hC => k_is)
    (case mC => k_is); (case vC => k_is); (case spc => k_is); (case tkc => k_is); (case eS => k_is); (case hS => k_is); (case tS => k_is); (case cS => k_is)
    (case a_Mismatch => k_is); (case t_Mismatch => k_is); (case h_Mismatch => k_is); (case s_Mismatch => k_is); (case n_Mismatch => decide +kernel); (case a_Still => k_is); (case t_Still => k_is); (case h_Still => k_is)
    (case s_Still => k_is); (case n_Still => decide +kernel); (case a_Endless => k_is); (case t_Endless => k_is); (case h_Endless => k_is); (case s_Endless => k_is); (case n_Endless => decide +kernel); (case a_TooMany => k_is)
    (case t_TooMany => k_is); (case h_TooMany => k_is); (case s_TooMany => k_is); (case n_TooMany => decide +kernel); (case a_NoName => k_is); (case t_NoName => k_is); (case h_NoName => k_is); (case s_NoName => k_is)
    (case n_NoName => decide +kernel); (case a_Taken => k_is); (case t_Taken => k_is); (case h_Taken => k_is); (case s_Taken => k_is); (case n_Taken => decide +kernel); (case a_Locked => k_is); (case t_Locked => k_is)
    (case h_Locked => k_is); (case s_Locked => k_is); (case n_Locked => decide +kernel); (case a_Looped => k_is); (case t_Looped => k_is); (case h_Looped => k_is); (case s_Looped => k_is); (case n_Looped => decide +kernel)
    (case a_Broken => k_is); (case t_Broken => k_is); (case h_Broken => k_is); (case s_Broken => k_is); (case n_Broken => decide +kernel); (case a_ReadError => k_is); (case t_ReadError => k_is); (case h_ReadError => k_is)
    (case s_ReadError => k_is); (case n_ReadError => decide +kernel); (case a_A => k_is); (case l_A => k_is); (case c_A => k_is); (case k_A => k_is); (case a_R1 => k_is); (case l_R1 => k_is)
    (case cd_R1 => k_is); (case k_R1 => k_is); (case a_R2 => k_is); (case l_R2 => k_is); (case cd_R2 => k_is); (case k_R2 => k_is); (case a_R3 => k_is); (case l_R3 => k_is)
    (case cd_R3 => k_is); (case k_R3 => k_is); (case aL => k_is); (case lL => k_is); (case cL => k_is); (case kL => k_is); (case aZ => k_is); (case o_Z => k_is)
    (case aO => k_is); (case o_O => k_is); (case aCY => k_is); (case wpg => k_is); (case whd => k_is); (case wpo => k_is); (case wsa => k_is); (case wn_rate => k_is)
    (case wn_start => k_is); (case wn_period => k_is); (case wmk => k_is); (case wkp => k_is); (case wca => k_is); (case wro => k_is); (case w1 => k_is); (case w2 => k_is)
    (case lWI => k_is); (case cWI => k_is); (case kWI => k_is); (case lTY => k_is); (case o_I => k_is); (case kd_int => k_is); (case kd_bool => k_is); (case kd_str => k_is)
    (case kd_list => k_is); (case kd_tuple => k_is); (case kd_dict => k_is); (case a0Store => k_is); (case l0Store => k_is); (case c0Store => k_is); (case k0Store => k_is); (case a0LLongs => k_is)
    (case l0LLongs => k_is); (case c0LLongs => k_is); (case k0LLongs => k_is); (case a0Take => k_is); (case l0Take => k_is); (case c0Take => k_is); (case k0Take => k_is); (case a0Mixed => k_is)
    (case l0Mixed => k_is); (case c0Mixed => k_is); (case k0Mixed => k_is); (case a0Pick => k_is); (case l0Pick => k_is); (case c0Pick => k_is); (case k0Pick => k_is); (case a0Range => k_is)
    (case l0Range => k_is); (case c0Range => k_is); (case k0Range => k_is); (case a0DWd => k_is); (case l0DWd => k_is); (case c0DWd => k_is); (case k0DWd => k_is); (case a0LIt => k_is)
    (case l0LIt => k_is); (case c0LIt => k_is); (case k0LIt => k_is); (case a0Same => k_is); (case l0Same => k_is); (case c0Same => k_is); (case k0Same => k_is); (case a0LWhole => k_is)
    (case l0LWhole => k_is); (case c0LWhole => k_is); (case k0LWhole => k_is); (case a0WE => k_is); (case l0WE => k_is); (case c0WE => k_is); (case k0WE => k_is); (case a0Require => k_is)
    (case l0Require => k_is); (case c0Require => k_is); (case k0Require => k_is); (case g_LONGEST_WORD => k_is); (case z_all => k_is); (case a0Word => k_is); (case l0Word => k_is); (case c0Word => k_is)
    (case k0Word => k_is); (case a0Within => k_is); (case l0Within => k_is); (case c0Within => k_is); (case k0Within => k_is); (case a0WholeU => k_is); (case l0WholeU => k_is); (case c0WholeU => k_is)
    (case k0WholeU => k_is); (case a0Fraction => k_is); (case l0Fraction => k_is); (case c0Fraction => k_is); (case k0Fraction => k_is); (case lT0Fraction => k_is); (case a0Whole => k_is); (case l0Whole => k_is)
    (case c0Whole => k_is); (case k0Whole => k_is); (case z_sum => k_is); (case z_enumerate => k_is); (case a0Ser => k_is); (case l0Ser => k_is); (case c0Ser => k_is); (case k0Ser => k_is)
    (case a0ED => k_is); (case l0ED => k_is); (case c0ED => k_is); (case k0ED => k_is); (case a0Lowest => k_is); (case l0Lowest => k_is); (case c0Lowest => k_is); (case k0Lowest => k_is)
    (case a0Gcd => k_is); (case l0Gcd => k_is); (case c0Gcd => k_is); (case k0Gcd => k_is); (case mm_k => k_is); (case mm_x => k_exc); (case mm_s => k_is); (case mm_v => k_is)
    (case mm_y => k_is); (case mm_g => k_is); (case mm_t => k_is); (case mm_c => k_is); (case mm_o => k_is); (case ms_BadValue => k_is); (case n_mBadValue => decide +kernel); (case ms_Still => k_is)
    (case n_mStill => decide +kernel); (case ms_Endless => k_is); (case n_mEndless => decide +kernel); (case ms_TooMany => k_is); (case n_mTooMany => decide +kernel); (case ms_NoName => k_is); (case n_mNoName => decide +kernel); (case ms_Taken => k_is)
    (case n_mTaken => decide +kernel); (case ms_Locked => k_is); (case n_mLocked => decide +kernel); (case ms_Looped => k_is); (case n_mLooped => decide +kernel); (case ms_Broken => k_is); (case n_mBroken => decide +kernel); (case ms_ReadError => k_is)
    (case n_mReadError => decide +kernel); (case a0Kept => k_is); (case l0Kept => k_is); (case c0Kept => k_is); (case k0Kept => k_is); (case lT0Kept => k_is); (case a0By => k_is); (case l0By => k_is)
    (case c0By => k_is); (case k0By => k_is); (case a0BW => k_is); (case l0BW => k_is); (case c0BW => k_is); (case k0BW => k_is); (case a0Best => k_is); (case l0Best => k_is)
    (case c0Best => k_is); (case k0Best => k_is); (case a0Longs => k_is); (case l0Longs => k_is); (case c0Longs => k_is); (case k0Longs => k_is); (case a0Length => k_is); (case l0Length => k_is)
    (case c0Length => k_is); (case k0Length => k_is); (case a0Idx => k_is); (case l0Idx => k_is); (case c0Idx => k_is); (case k0Idx => k_is); (case z_zip => k_is); (case a0Leap => k_is)
    (case l0Leap => k_is); (case c0Leap => k_is); (case k0Leap => k_is); (case a0BWd => k_is); (case l0BWd => k_is); (case c0BWd => k_is); (case k0BWd => k_is); (case a0IsFraction => k_is)
    (case l0IsFraction => k_is); (case c0IsFraction => k_is); (case k0IsFraction => k_is); (case a0IsPlace => k_is); (case l0IsPlace => k_is); (case c0IsPlace => k_is); (case k0IsPlace => k_is); (case a0Period => k_is)
    (case l0Period => k_is); (case c0Period => k_is); (case k0Period => k_is); (case a0Magn => k_is); (case l0Magn => k_is); (case c0Magn => k_is); (case k0Magn => k_is); (case a0Over => k_is)
    (case l0Over => k_is); (case c0Over => k_is); (case k0Over => k_is); (case a0BR => k_is); (case l0BR => k_is); (case c0BR => k_is); (case k0BR => k_is); (case a0BsD => k_is)
    (case l0BsD => k_is); (case c0BsD => k_is); (case k0BsD => k_is); (case a0IxD => k_is); (case l0IxD => k_is); (case c0IxD => k_is); (case k0IxD => k_is); (case a0Dist => k_is)
    (case l0Dist => k_is); (case c0Dist => k_is); (case k0Dist => k_is); (case a0LOffset => k_is); (case l0LOffset => k_is); (case c0LOffset => k_is); (case k0LOffset => k_is); (case a0Oth => k_is)
    (case l0Oth => k_is); (case c0Oth => k_is); (case k0Oth => k_is); (case a0Shuf => k_is); (case l0Shuf => k_is); (case c0Shuf => k_is); (case k0Shuf => k_is); (case a0Sgn => k_is)
    (case l0Sgn => k_is); (case c0Sgn => k_is); (case k0Sgn => k_is)
    (case cH1 => exact codeHd_of_K KX (by kernel_rfl))
    (case cH2 => exact codeHd_of_K KX (by kernel_rfl))
    (case cH3 => exact codeHd_of_K KX (by kernel_rfl))
    (case nP1 => kernel_rfl)
    (case nP2 => kernel_rfl)
    (case nP3 => kernel_rfl)
    (case d12 => decide +kernel)
    (case d13 => decide +kernel)
    (case d23 => decide +kernel)
