import PyProof.Rows.All
import Wide.All
import OpenK.AllK
import Wide.FinOn
import HandS.ForMost
import HandS.Exc
import HandS.Codes
import HandS.Wide
import HandS.WideBits
import HandS.Gcd
import HandS.IsInst
import HandS.Defaults
import HandS.Conv
import HandS.Sort
import HandS.List
import KE.KDictList
import HandS.Zip
import KE.KDictZip
import HandS.ClsMeth
import HandS.SlotsOwn
import KE.KOpsOwn
import PyProof.InstEq
import KE.KTupSum
import HandS.Style
import HandS.TupLe
import HandS.TupAny
import HandS.Lambda
import HandS.Small
import HandS.ForExc
import HandS.ExcInit
import HandS.ExcField
import HandS.ExcIs
import KE.KExcIs
import HandS.CallLocal
import HandS.Comp
import HandS.EndTab
import PySem.Challenge.RW_wheelsky_k49_leap_words
set_option Elab.async false
set_option linter.all false
set_option maxRecDepth 100000
set_option maxHeartbeats 4000000
namespace My
open PySem PySem.Spec PyProof.Rows L2
def topS (i : Nat) : Stmt := PySem.Challenge.pw_wheelsky_k49_leap_words.main.body.getD i (.Pass ⟨0, 0, 0, 0⟩)
/-! ### a def of the top, and what it is known to keep -/
structure Dfn (K : PySem.W.Frag) (mg : Str → Option Value) (x : Str) (st : Stmt) (ps : List Str) : Prop where
  ex : ∃ f fd, Fun K x x st f fd ∧ mg x = some (.ref f) ∧ Binds K fd ps []
structure Kn (P : Program) (w : World) (K : PySem.W.Frag) (mg : Str → Option Value) (base : Heap) (k : Nat) (x : Str) (ps : List Str) (sp : Sp) : Prop where
  ex : ∃ f fd, mg x = some (.ref f) ∧ PySem.W.keepIn K (.ref f) = true ∧ Binds K fd ps [] ∧ FnOk P w K mg base CX0 k f fd ps sp
theorem Kn.mk' {P : Program} {w : World} {K : PySem.W.Frag} {mg : Str → Option Value} {base : Heap} {x : Str} {st : Stmt} {N ps : List Str} {k : Nat} {sp : Sp} (D : Dfn K mg x st ps) (S : FnScope N ps (defScope st)) (len : ∀ vs H Q E, sp vs H Q E → vs.length = ps.length)
    (hbody : ∀ (f : Addr) (cdv : Value) (A : Around) (outer : List Env) (s : Shared) (H : Hp) (vs : List V) (Q : VK) (E : XK), Room k (A.deeper (envOfC x (defScope st) s.heap.objs.size f cdv)) → sp vs H Q E →
      ∃ t, PSs (cxOf CX0 P w K mg base N x (defScope st) f cdv A outer s H E).nox (defBody st) t ∧ t { nx := fun _ H' => Q .non H', rt := Q } (start N vs) H) : Kn P w K mg base (k + 1) x ps sp := by
  obtain ⟨f, fd, F, m, b⟩ := D.ex
  exact ⟨f, fd, m, F.kp, b, F.ok S len (hbody f)⟩
section
variable {X : Cx}
theorem pe_kn {j k : Nat} {x : Str} {ps : List Str} {sp : Sp} {p pos : Pos} {e : Expr} {es : List Expr} {t : TA} (F : Kn X.prog X.w X.K X.mg X.base k x ps sp) (hr : Room j X.A) (hg : Gl X x) (ha : PA X (e :: es) t) (hj : k ≤ j := by omega)
    (hdb : (x == ("__debug__" : Str)) = false := by decide) (he : starEach (e :: es) X.env = (false, eval e X.env) :: starEach es X.env := by rfl) (hpl : (backTo pos (starEach es X.env)).any (·.1) = false := by rfl) :
    PE X (.Call (.Name x p) (e :: es) [] pos) (tCall sp [] E0 t) := by
  obtain ⟨f, fd, m, kp, b, G⟩ := F.ex
  exact pe_call G (hr.mono hj) hg m kp b .nil pass0 ha hdb he hpl
end
/-! ### heaps -/
/-- all but s stands -/
def Kp (s : Addr) (H H' : Hp) : Prop := (∀ b o, b ≠ s → H b = some o → H' b = some o) ∧ ∀ x r, H s = some (.lst (x :: r)) → ∃ r', H' s = some (.lst (x :: r'))
instance {s : Addr} {H H' : Hp} : CoeFun (Kp s H H') (fun _ => ∀ b o, b ≠ s → H b = some o → H' b = some o) := ⟨fun h => h.1⟩
theorem Kp.refl (s : Addr) (H : Hp) : Kp s H H := ⟨fun _ _ _ e => e, fun _ r e => ⟨r, e⟩⟩
theorem Kp.trans {s : Addr} {H H1 H2 : Hp} (a : Kp s H H1) (b : Kp s H1 H2) : Kp s H H2 := ⟨fun c o n e => b.1 c o n (a.1 c o n e), fun x r e => by
  obtain ⟨r', e'⟩ := a.2 x r e
  exact b.2 x r' e'⟩
theorem Kp.same {s : Addr} {H H1 : Hp} (a : Same H H1) : Kp s H H1 := ⟨fun b o _ e => a b o e, fun x r e => ⟨r, a _ _ e⟩⟩
theorem Same.new {H : Hp} {p : Addr} (h : H p = none) (o : HO) : Same H (upd H p o) := fun b u q => by rw [upd_ne (ne_of_none q h)]; exact q
theorem Kp.put {s : Addr} {H : Hp} {x : V} {r r' : List V} (h : H s = some (.lst (x :: r))) : Kp s H (upd H s (.lst (x :: r'))) := ⟨fun b u n e => by rw [upd_ne n]; exact e, fun y q e => by
  rw [h] at e
  cases e
  exact ⟨r', upd_same⟩⟩
/-- the store of the draws at s -/
def Sr (K : PySem.W.Frag) (H : Hp) (s : Addr) (sc : Addr) (ns : List Int) (i b c d e f : Int) : Prop :=
  H s = some (.lst [.ref sc, .int i, .int b, .int c, .int d, .int e, .int f]) ∧ H sc = some (.lst (ns.map V.int)) ∧ s ≠ sc ∧ 0 ≤ i ∧ K.lookup s = none ∧ K.lookup sc = none
def Sto (K : PySem.W.Frag) (H : Hp) (s : Addr) : Prop := ∃ sc ns i b c d e f, Sr K H s sc ns i b c d e f
theorem Sr.same {K : PySem.W.Frag} {H H1 : Hp} {s sc : Addr} {ns : List Int} {i b c d e f : Int} (h : Sr K H s sc ns i b c d e f) (a : Same H H1) : Sr K H1 s sc ns i b c d e f := ⟨a _ _ h.1, a _ _ h.2.1, h.2.2⟩
theorem Sto.same {K : PySem.W.Frag} {H H1 : Hp} {s : Addr} (h : Sto K H s) (a : Same H H1) : Sto K H1 s := by
  obtain ⟨sc, ns, i, b, c, d, e, f, h⟩ := h
  exact ⟨sc, ns, i, b, c, d, e, f, h.same a⟩
theorem Sr.put {K : PySem.W.Frag} {H : Hp} {s sc : Addr} {ns : List Int} {i b c d e f i' b' c' d' e' f' : Int} (h : Sr K H s sc ns i b c d e f) (hi : 0 ≤ i') :
    Sr K (upd H s (.lst [.ref sc, .int i', .int b', .int c', .int d', .int e', .int f'])) s sc ns i' b' c' d' e' f' :=
  ⟨upd_same, by rw [upd_ne (Ne.symm h.2.2.1)]; exact h.2.1, h.2.2.1, hi, h.2.2.2.2⟩
theorem Kp.seqT {s : Addr} {K : PySem.W.Frag} {H H' : Hp} {a : Addr} {xs ys : List V} (e : Kp s H H') (hs : H s = some (.lst ys)) (h : SqT K H a xs) : SqT K H' a xs := by
  rcases h with (h | ⟨o, h⟩) | h
  · exact .inl (.inl (e _ _ (by rintro rfl; rw [hs] at h; cases h) h))
  · exact .inl (.inr ⟨o, e _ _ (by rintro rfl; rw [hs] at h; cases h) h⟩)
  · exact .inr h
theorem Same.seqT {K : PySem.W.Frag} {H H' : Hp} {a : Addr} {xs : List V} (e : Same H H') (h : SqT K H a xs) : SqT K H' a xs := by
  rcases h with (h | ⟨o, h⟩) | h
  · exact .inl (.inl (e _ _ h))
  · exact .inl (.inr ⟨o, e _ _ h⟩)
  · exact .inr h
/-- the built-ins' names, unbound -/
structure Bt (K : PySem.W.Frag) (mg : Str → Option Value) : Prop where
  b_int : mg "int" = none
  b_len : mg "len" = none
  b_list : mg "list" = none
  b_abs : mg "abs" = none
  b_range : mg "range" = none
  b_min : mg "min" = none
  b_max : mg "max" = none
  b_isinstance : mg "isinstance" = none
  b_bool : mg "bool" = none
  b_str : mg "str" = none
  b_dict : mg "dict" = none
  b_tuple : mg "tuple" = none
  g_gcd : mg "gcd" = some (.builtin "math.gcd")
end My

namespace My
open PySem PySem.Spec PyProof.Rows L2
theorem cx_K {CX : CXT} {P : Program} {w : World} {K : PySem.W.Frag} {mg : Str → Option Value} {base : Heap} {N : List Str} {qual : Str} {scope : Scope} {f : Addr} {cd : Value} {A : Around} {outer : List Env} {s : Shared} {H : Hp} {E : XK} : (cxOf CX P w K mg base N qual scope f cd A outer s H E).K = K := rfl
/-! ### what stands at an address, the written part first -/
def obK (o : Obj) : Option HO := match o.cls, o.data with
  | .type "tuple", .seq its _ => if its.size ≤ sizeLine then (its.toList.mapM absV).map HO.tup else none
  | _, _ => none
def ob (K : PySem.W.Frag) (H : Hp) (a : Addr) : Option HO := match K.lookup a with
  | some o => obK o
  | none => H a
theorem absV_rel {u : Value} {x : V} (h : absV u = some x) : RelV x u := by
  cases u <;> simp only [absV, Option.some.injEq, reduceCtorEq] at h <;> subst h
  all_goals first | exact rfl | exact ⟨_, rfl⟩
theorem absV_all : ∀ {us : List Value} {xs : List V}, us.mapM absV = some xs → Vals xs us
  | [], xs, h => by
    simp at h
    subst h
    exact .nil
  | u :: us, xs, h => by
    rw [List.mapM_cons] at h
    cases e1 : absV u with
    | none => simp [e1] at h
    | some x =>
      cases e2 : us.mapM absV with
      | none => simp [e1, e2] at h
      | some r =>
        simp [e1, e2] at h
        subst h
        exact .cons (absV_rel e1) (absV_all e2)
theorem obK_tup {o : Obj} {z : HO} (h : obK o = some z) : ∃ xs its n, z = .tup xs ∧ o.cls = .type "tuple" ∧ o.data = .seq its n ∧ its.size ≤ sizeLine ∧ Vals xs its.toList := by
  unfold obK at h
  split at h
  · rename_i its n e1 e2
    split at h
    · rename_i hz
      cases e : its.toList.mapM absV with
      | none => rw [e] at h; cases h
      | some xs =>
        rw [e] at h
        exact ⟨xs, its, n, (Option.some.inj h).symm, e1, e2, hz, absV_all e⟩
    · cases h
  · cases h
theorem ob_none {K : PySem.W.Frag} {H : Hp} {a : Addr} (h : K.lookup a = none) : ob K H a = H a := by unfold ob; rw [h]
theorem ob_tup {K : PySem.W.Frag} {H : Hp} {a : Addr} {xs : List V} (h : ob K H a = some (.tup xs)) : SqT K H a xs := by
  unfold ob at h
  split at h
  · rename_i o e
    obtain ⟨ys, its, n, z, h1, h2, h3, h4⟩ := obK_tup h
    cases z
    exact .inr ⟨o, its, n, e, h1, h2, h3, h4⟩
  · exact .inl (.inl h)
theorem ob_H {K : PySem.W.Frag} {H : Hp} {a : Addr} {z : HO} (h : ob K H a = some z) (n : ∀ xs, z ≠ .tup xs) : H a = some z ∧ K.lookup a = none := by
  unfold ob at h
  split at h
  · obtain ⟨ys, its, n', z', _⟩ := obK_tup h
    exact absurd z' (n ys)
  · rename_i e
    exact ⟨h, e⟩
theorem ob_lst {K : PySem.W.Frag} {H : Hp} {a : Addr} {xs : List V} (h : ob K H a = some (.lst xs)) : SqL K H a xs := .of (ob_H h (fun _ z => by cases z)).1
theorem ob_same {K : PySem.W.Frag} {H H' : Hp} {a : Addr} {z : HO} (e : Same H H') (h : ob K H a = some z) : ob K H' a = some z := by
  unfold ob at h ⊢
  split
  · rename_i o q
    rw [q] at h
    exact h
  · rename_i q
    rw [q] at h
    exact e _ _ h
theorem ob_kp {K : PySem.W.Frag} {H H' : Hp} {s a : Addr} {ys : List V} {z : HO} (e : Kp s H H') (hs : H s = some (.lst ys)) (n : ∀ ys, z ≠ .lst ys) (h : ob K H a = some z) : ob K H' a = some z := by
  unfold ob at h ⊢
  split
  · rename_i o q
    rw [q] at h
    exact h
  · rename_i q
    rw [q] at h
    exact e _ _ (by rintro rfl; rw [hs] at h; exact n _ (Option.some.inj h).symm) h
theorem ob_new {K : PySem.W.Frag} {H : Hp} {p : Addr} {o : HO} (k : K.lookup p = none) : ob K (upd H p o) p = some o := by rw [ob_none k, upd_same]
/-- a built-in type's name, of what stands somewhere -/
def tyO : Option HO → Option String
  | some (.tup _) => some "tuple"
  | some (.lst _) => some "list"
  | some (.dK _) => some "dict"
  | _ => none
def tyN (K : PySem.W.Frag) (H : Hp) : V → Option String
  | .non => some "NoneType"
  | .bl _ => some "bool"
  | .int _ => some "int"
  | .str _ => some "str"
  | .ref a => tyO (ob K H a)
  | _ => none
theorem tyO_tup (xs : List V) : tyO (some (.tup xs)) = some "tuple" := rfl
theorem tyO_lst (xs : List V) : tyO (some (.lst xs)) = some "list" := rfl
theorem tyO_dK (xs : List (Key × V)) : tyO (some (.dK xs)) = some "dict" := rfl
theorem tyN_non {K : PySem.W.Frag} {H : Hp} : tyN K H .non = some "NoneType" := rfl
theorem tyN_bl {K : PySem.W.Frag} {H : Hp} (b : Bool) : tyN K H (.bl b) = some "bool" := rfl
theorem tyN_int {K : PySem.W.Frag} {H : Hp} (b : Int) : tyN K H (.int b) = some "int" := rfl
theorem tyN_str {K : PySem.W.Frag} {H : Hp} (b : Str) : tyN K H (.str b) = some "str" := rfl
theorem tyN_ref {K : PySem.W.Frag} {H : Hp} (a : Addr) : tyN K H (.ref a) = tyO (ob K H a) := rfl
theorem tyN_X {K : PySem.W.Frag} {H : Hp} {x : V} {t : String} (h : tyN K H x = some t) : TyX K H x (.type t) := by
  cases x with
  | non => cases h; exact .base .non
  | bl b => cases h; exact .base (.bl b)
  | int i => cases h; exact .base (.int i)
  | str z => cases h; exact .base (.str z)
  | byt _ => cases h
  | flt _ => cases h
  | ty _ => cases h
  | ref a =>
    have h1 : tyO (ob K H a) = some t := h
    cases e : ob K H a with
    | none => rw [e] at h1; cases h1
    | some z =>
      rw [e] at h1
      cases z with
      | tup xs =>
        cases h1
        unfold ob at e
        split at e
        · rename_i o q
          obtain ⟨_, _, _, _, c, _⟩ := obK_tup e
          exact .kTuple q c
        · exact .base (.tup e)
      | lst xs => cases h1; exact .base (.lst (ob_H e (fun _ z => by cases z)).1)
      | dK kvs => cases h1; exact .base (.dK (ob_H e (fun _ z => by cases z)).1)
      | _ => cases h1
/-- isinstance(x, T) by names -/
def isB (a b : String) : Bool := a == b || (a == "bool" && b == "int")
def rIsN (K : PySem.W.Frag) : List V → Hp → VK → Prop := fun xs H Q => ∃ x n, xs = [x, .ty n] ∧ n ∈ ["int", "bool", "str", "list", "tuple", "dict"] ∧ ∃ t, tyN K H x = some t ∧ Q (.bl (isB t n)) H
theorem tyN_mem {K : PySem.W.Frag} {H : Hp} {x : V} {t : String} (h : tyN K H x = some t) : t ∈ ["NoneType", "bool", "int", "str", "tuple", "list", "dict"] := by
  cases x with
  | non => cases h; decide
  | bl b => cases h; decide
  | int i => cases h; decide
  | str z => cases h; decide
  | byt _ => cases h
  | flt _ => cases h
  | ty _ => cases h
  | ref a =>
    have h1 : tyO (ob K H a) = some t := h
    unfold tyO at h1
    split at h1 <;> first | (cases h1; decide) | cases h1
theorem kit_all : ∀ t ∈ ["NoneType", "bool", "int", "str", "tuple", "list", "dict"], ∀ n ∈ ["int", "bool", "str", "list", "tuple", "dict"], kitB t n = some (isB t n) := by decide +kernel
/-- isinstance(x, (T, ..)) -/
def tyNs : List V → Option (List String)
  | [] => some []
  | .ty n :: r => if n ∈ ["int", "bool", "str", "list", "tuple", "dict"] then (tyNs r).map (n :: ·) else none
  | _ :: _ => none
theorem tyNs_of : ∀ {cs : List V} {ns : List String}, tyNs cs = some ns → cs = ns.map V.ty ∧ ∀ n ∈ ns, n ∈ ["int", "bool", "str", "list", "tuple", "dict"]
  | [], ns, h => by cases h; exact ⟨rfl, fun _ z => absurd z (by simp)⟩
  | c :: r, ns, h => by
    cases c with
    | ty n =>
      unfold tyNs at h
      split at h
      · rename_i hn
        cases e : tyNs r with
        | none => rw [e] at h; cases h
        | some ms =>
          rw [e] at h
          cases h
          obtain ⟨h1, h2⟩ := tyNs_of e
          refine ⟨by rw [h1]; rfl, fun m hm => ?_⟩
          rcases List.mem_cons.mp hm with z | z
          · rw [z]; exact hn
          · exact h2 m z
      · cases h
    | _ => cases h
theorem tyNs_lt : tyNs [.ty "list", .ty "tuple"] = some ["list", "tuple"] := by decide
def rIsT (K : PySem.W.Frag) : List V → Hp → VK → Prop := fun xs H Q => ∃ x tp, xs = [x, .ref tp] ∧ ∃ cs, H tp = some (.tup cs) ∧ ∃ ns, tyNs cs = some ns ∧ ∃ t, tyN K H x = some t ∧ Q (.bl (ns.any (isB t))) H
section
variable {X : Cx}
theorem call_isN : CallR X (.builtin "isinstance") (rIsN X.K) := fun pins s σ H xs us Q I r h => by
  obtain ⟨x, n, rfl, hn, t, ht, q⟩ := h
  exact call_isi pins s σ H _ us Q I r ⟨x, .ty n, .type t, .type n, isB t n, rfl, .ty n, tyN_X ht, kit_ty (kit_all t (tyN_mem ht) n hn), q⟩
theorem kitAny_of {K : PySem.W.Frag} {t : String} (ht : t ∈ ["NoneType", "bool", "int", "str", "tuple", "list", "dict"]) : ∀ {ns : List String}, (∀ n ∈ ns, n ∈ ["int", "bool", "str", "list", "tuple", "dict"]) → PySem.W.kitAny K (.type t) (ns.map Value.type) = some (ns.any (isB t))
  | [], _ => rfl
  | n :: ns, h => by
    have e1 : PySem.W.kitOne K (.type t) (.type n) = some (isB t n) := kit_ty (kit_all t ht n (h n List.mem_cons_self))
    have e2 := kitAny_of (K := K) ht (ns := ns) fun m hm => h m (List.mem_cons_of_mem _ hm)
    rw [List.map_cons, List.any_cons]
    unfold PySem.W.kitAny
    rw [e1]
    cases isB t n
    · simpa using e2
    · rfl
theorem clsV_all : ∀ ns : List String, Paired ClsV (ns.map V.ty) (ns.map Value.type)
  | [] => .nil
  | n :: ns => .cons (.ty n) (clsV_all ns)
theorem call_isT : CallR X (.builtin "isinstance") (rIsT X.K) := fun pins s σ H xs us Q I r h => by
  obtain ⟨x, tp, rfl, cs, hT, ns, hns, t, ht, q⟩ := h
  obtain ⟨rfl, hn⟩ := tyNs_of hns
  exact call_isiT pins s σ H _ us Q I r ⟨x, tp, _, .type t, _, _, rfl, hT, clsV_all ns, tyN_X ht, kitAny_of (tyN_mem ht) hn, q⟩
/-- xs[i], t[i] -/
def itsO : Option HO → Option (List V)
  | some (.tup xs) => some xs
  | some (.lst xs) => some xs
  | _ => none
theorem itsO_tup (xs : List V) : itsO (some (.tup xs)) = some xs := rfl
theorem itsO_lst (xs : List V) : itsO (some (.lst xs)) = some xs := rfl
theorem itsO_or {K : PySem.W.Frag} {H : Hp} {a : Addr} {xs : List V} (h : itsO (ob K H a) = some xs) : SqL K H a xs ∨ SqT K H a xs := by
  cases e : ob K H a with
  | none => rw [e] at h; cases h
  | some z =>
    rw [e] at h
    cases z with
    | tup ys => cases h; exact .inr (ob_tup e)
    | lst ys => cases h; exact .inl (ob_lst e)
    | _ => cases h
def rIxA (K : PySem.W.Frag) : R2 := fun x y H Q => ∃ p i, x = .ref p ∧ y = .int i ∧ ∃ xs, itsO (ob K H p) = some xs ∧ ∃ v, atI xs i = some v ∧ Q v H
theorem ix_any : IxR X (rIxA X.K) := fun value slice pins s σ H x y v u Q I rx ry h hs => by
  obtain ⟨p, i, rfl, rfl, xs, hx, w, hw, q⟩ := h
  rcases itsO_or hx with z | z
  · exact ix_list value slice pins s σ H _ _ v u Q I rx ry ⟨p, xs, i, w, rfl, rfl, z, hw, q⟩ hs
  · exact ix_tup value slice pins s σ H _ _ v u Q I rx ry ⟨p, xs, i, w, rfl, rfl, z, hw, q⟩ hs
theorem call_lenA : CallR X (.builtin "len") (fun xs H Q => ∃ p, xs = [.ref p] ∧ ∃ ys, itsO (ob X.K H p) = some ys ∧ Q (.int ys.length) H) := fun pins s σ H xs us Q I r h => by
  obtain ⟨p, rfl, ys, hy, q⟩ := h
  exact call_len_seq pins s σ H _ us Q I r ⟨p, ys, rfl, itsO_or hy, q⟩
/-! new tuples and lists, away from the written part -/
variable {es : List Expr} {t : TA} {pos : Pos}
def tTp (K : PySem.W.Frag) (t : TA) : TE := fun σ H Q => t σ H fun xs H1 => xs.length ≤ sizeLine ∧ ∀ p, H1 p = none → K.lookup p = none → Q (.ref p) (upd H1 p (.tup xs))
def tLs (K : PySem.W.Frag) (t : TA) : TE := fun σ H Q => t σ H fun xs H1 => xs.length ≤ sizeLine ∧ ∀ p, H1 p = none → K.lookup p = none → Q (.ref p) (upd H1 p (.lst xs))
theorem new_K {pins : List (Addr × Obj)} {σ : L2.St} {H : Hp} {s : Shared} (I : Inv X pins σ H s) : X.K.lookup s.heap.objs.size = none := by
  cases e : X.K.lookup s.heap.objs.size with
  | none => rfl
  | some o => exact absurd (Heap.lt_size (I.kIn _ _ e)) (Nat.lt_irrefl _)
theorem pe_tp {x1} (h : PA X es t) : PE X (.Tuple es x1 pos) (tTp X.K t) := by
  refine ⟨fun pins s σ H Q I hq => ?_⟩
  refine wpAny_Tuple_spliced (thn (h.run pos pins s σ H _ I hq) fun us s1 ⟨xs, H1, I1, r, z, q⟩ => ⟨by rw [← r.length]; exact z, ?_⟩)
  have hf : H1 s1.heap.objs.size = none := I1.hok.fresh (Nat.le_refl _)
  refine ⟨.ref s1.heap.objs.size, upd H1 s1.heap.objs.size (.tup xs), I1.laid (t' := s1.toks) (fun b u e => Heap.get?_push_of_some _ e) (Nat.le_refl _) ?_, rfl, q _ hf (new_K I1)⟩
  exact ⟨z, us, r, ⟨_, Heap.get?_push_size _ rfl, rfl, _, rfl⟩⟩
theorem pe_ls (h : PA X es t) : PE X (.List es pos) (tLs X.K t) := by
  refine ⟨fun pins s σ H Q I hq => ?_⟩
  refine wpAny_List_spliced (thn (h.run pos pins s σ H _ I hq) fun us s1 ⟨xs, H1, I1, r, z, q⟩ => ⟨by rw [← r.length]; exact z, ?_⟩)
  have hf : H1 s1.heap.objs.size = none := I1.hok.fresh (Nat.le_refl _)
  refine ⟨.ref s1.heap.objs.size, upd H1 s1.heap.objs.size (.lst xs), I1.laid (t' := s1.toks) (fun b u e => Heap.get?_push_of_some _ e) (Nat.le_refl _) ?_, rfl, q _ hf (new_K I1)⟩
  exact ⟨z, us, 0, r, Heap.get?_push_size _ rfl⟩
end
/-- a, b = t -/
def gTp (K : PySem.W.Frag) (n : Nat) (t : TGs) : TG := fun v σ H Q => ∃ a, v = .ref a ∧ ∃ xs, ob K H a = some (.tup xs) ∧ xs.length = n ∧ t xs σ H Q
theorem pg_tp {X : Cx} {pos : Pos} {es : List Expr} {k : Nat} {t : TGs} (n : Nat) (hc : X.calm = true) (h : PGs X es t) (hn : (assignEach es X.env).length = n := by rfl) (hst : (assignEach es X.env).findIdx? (·.1) = none := by rfl) : PG X (.Tuple es k pos) (gTp X.K n t) :=
  ⟨fun pins s σ H v u Q I r hw => by
    obtain ⟨a, e, xs, hx, hl, q⟩ := hw
    exact (pg_tup (n := n) hc h hn hst).run pins s σ H v u Q I r ⟨a, xs, e, ob_tup hx, hl, q⟩⟩
/-- {} -/
def tDn (K : PySem.W.Frag) : TE := fun _ H Q => ∀ p, H p = none → K.lookup p = none → Q (.ref p) (upd H p (.dK []))
theorem pe_dn {X : Cx} {pos : Pos} : PE X (.Dict [] [] pos) (tDn X.K) := ⟨fun pins s σ H Q I h => by
  refine wpAny_Dict_empty ⟨.ref s.heap.objs.size, upd H s.heap.objs.size (.dK []), ?_, rfl, h _ (I.hok.fresh (Nat.le_refl _)) (new_K I)⟩
  exact I.laid (t' := s.toks) (fun _ _ e => Heap.get?_push_of_some _ e) (Nat.le_refl _) (dk_empty s.heap I.big)⟩
/-! ### loops -/
def ForI (J : It) (g : TG) (tb : TS) (D : Ends) (σ : L2.St) (H : Hp) : Prop := ∃ W : Nat → Nat → L2.St → Hp → Prop, (∃ m, W 0 m σ H) ∧ ∀ i m σ H, W i m σ H →
  (J.stop i H ∧ D.nx σ H) ∨ (J.go i H ∧ ∃ N : L2.St → Hp → Prop, (∀ σ' H', N σ' H' → ∃ m', m' < m ∧ W (i + 1) m' σ' H') ∧ ∀ x H', J.yld i H x H' → g x σ H' fun σ2 H2 => tb { D with nx := N, ct := N, bk := D.nx } σ2 H2)
theorem tFor_eq (wi : TI) (g : TG) (tb : TS) (D : Ends) (σ : L2.St) (H : Hp) : tFor wi g tb D σ H = wi σ H fun J H1 => ForI J g tb D σ H1 := rfl
section
variable {g : TG} {tb : TS} {D : Ends} {σ : L2.St} {H : Hp}
theorem forI_range {lo : Int} {n : Nat} (Pv : Nat → L2.St → Hp → Prop) (h0 : Pv 0 σ H)
    (hs : ∀ i σ H, i < n → Pv i σ H → g (.int (lo + i)) σ H fun σ2 H2 => tb { D with nx := Pv (i + 1), ct := Pv (i + 1), bk := D.nx } σ2 H2) (hd : ∀ σ H, Pv n σ H → D.nx σ H) : ForI (Itr lo n) g tb D σ H := for_range Pv h0 hs hd
theorem forI_list {K : PySem.W.Frag} {a : Addr} {xs : List V} (Pv : Nat → L2.St → Hp → Prop) (h0 : Pv 0 σ H) (hl : ∀ i σ H, i ≤ xs.length → Pv i σ H → SqL K H a xs)
    (hs : ∀ i x σ H, xs[i]? = some x → Pv i σ H → g x σ H fun σ2 H2 => tb { D with nx := Pv (i + 1), ct := Pv (i + 1), bk := D.nx } σ2 H2) (hd : ∀ σ H, Pv xs.length σ H → D.nx σ H) : ForI (Itl K a) g tb D σ H := for_list Pv h0 hl hs hd
theorem forI_tup {K : PySem.W.Frag} {a : Addr} {xs : List V} (Pv : Nat → L2.St → Hp → Prop) (h0 : Pv 0 σ H) (hl : ∀ i σ H, i ≤ xs.length → Pv i σ H → SqT K H a xs)
    (hs : ∀ i x σ H, xs[i]? = some x → Pv i σ H → g x σ H fun σ2 H2 => tb { D with nx := Pv (i + 1), ct := Pv (i + 1), bk := D.nx } σ2 H2) (hd : ∀ σ H, Pv xs.length σ H → D.nx σ H) : ForI (Itt K a) g tb D σ H := for_tup Pv h0 hl hs hd
end
theorem ca_0 : ((0 : Nat) : Int) = 0 := rfl
theorem ca_1 : ((1 : Nat) : Int) = 1 := rfl
theorem ca_2 : ((2 : Nat) : Int) = 2 := rfl
theorem ca_3 : ((3 : Nat) : Int) = 3 := rfl
theorem ca_4 : ((4 : Nat) : Int) = 4 := rfl
theorem ca_5 : ((5 : Nat) : Int) = 5 := rfl
theorem ca_6 : ((6 : Nat) : Int) = 6 := rfl
theorem ca_7 : ((7 : Nat) : Int) = 7 := rfl
theorem ca_8 : ((8 : Nat) : Int) = 8 := rfl
theorem ca_9 : ((9 : Nat) : Int) = 9 := rfl
theorem ca_10 : ((10 : Nat) : Int) = 10 := rfl
theorem ca_11 : ((11 : Nat) : Int) = 11 := rfl
theorem ca_12 : ((12 : Nat) : Int) = 12 := rfl
theorem ca_13 : ((13 : Nat) : Int) = 13 := rfl
theorem ca_14 : ((14 : Nat) : Int) = 14 := rfl
theorem ca_15 : ((15 : Nat) : Int) = 15 := rfl
theorem ca_16 : ((16 : Nat) : Int) = 16 := rfl
theorem ca_17 : ((17 : Nat) : Int) = 17 := rfl
theorem ca_18 : ((18 : Nat) : Int) = 18 := rfl
theorem ca_19 : ((19 : Nat) : Int) = 19 := rfl
theorem ca_20 : ((20 : Nat) : Int) = 20 := rfl
theorem ca_21 : ((21 : Nat) : Int) = 21 := rfl
theorem ca_22 : ((22 : Nat) : Int) = 22 := rfl
theorem ca_23 : ((23 : Nat) : Int) = 23 := rfl
theorem ca_24 : ((24 : Nat) : Int) = 24 := rfl
theorem ca_25 : ((25 : Nat) : Int) = 25 := rfl
theorem ca_26 : ((26 : Nat) : Int) = 26 := rfl
theorem ca_27 : ((27 : Nat) : Int) = 27 := rfl
theorem ca_28 : ((28 : Nat) : Int) = 28 := rfl
theorem ca_29 : ((29 : Nat) : Int) = 29 := rfl
theorem ca_30 : ((30 : Nat) : Int) = 30 := rfl
theorem nat10 : (10 : Int).natAbs = 10 := rfl
/-- list(xs), away from the written part -/
theorem call_listK {X : Cx} : CallR X (.type "list") (fun xs H Q => ∃ p, xs = [.ref p] ∧ ∃ ys, (SqL X.K H p ys ∨ SqT X.K H p ys) ∧ ∀ l, H l = none → X.K.lookup l = none → Q (.ref l) (upd H l (.lst ys))) := fun pins s σ H xs us Q I r h => by
  obtain ⟨p, e0, ys, hy, k⟩ := h
  subst e0
  obtain ⟨u, e1, ru⟩ := vals1 r
  subst e1
  cases ru
  have laid (its : List Value) (rv : Vals ys its) (hz : ys.length ≤ sizeLine) (hh : Heap) (cap : Nat) (kp : ∀ b o, s.heap.get? b = some o → hh.get? b = some o)
      (e : hh.get? s.heap.objs.size = some { cls := .type "list", dict := none, data := .seq its.toArray cap, slots := #[] }) : EP X pins σ Q (.ref s.heap.objs.size) { s with heap := hh } := by
    have ok : ObjOk X.prog X.w (upd H s.heap.objs.size (.lst ys)) hh s.heap.objs.size (.lst ys) := ⟨hz, its, cap, rv, e⟩
    exact ⟨.ref s.heap.objs.size, _, I.laid (t' := s.toks) kp (Nat.le_refl _) ok, rfl, k _ (I.hok.fresh (Nat.le_refl _)) (new_K I)⟩
  cases hy with
  | inl hy =>
    obtain ⟨its, rv, pl, hz⟩ := I.list hy
    obtain ⟨o, ho, hc, n, hd⟩ := pl.isList
    have hl := rv.length
    exact call_list_seq p (.inl rfl) ho hc hd (laid its rv hz) (by simp only [List.size_toArray]; omega)
  | inr hy =>
    obtain ⟨its, rv, pl, hz⟩ := I.tuple hy
    obtain ⟨o, ho, hc, n, hd⟩ := pl
    have hl := rv.length
    exact call_list_seq p (.inr rfl) ho hc hd (laid its rv hz) (by simp only [List.size_toArray]; omega)
/-- xs[i] = v -/
def setI (xs : List V) (i : Int) (v : V) : Option (List V) := (ixN xs.length i).map fun j => xs.set j v
theorem setI_nat {xs ys : List V} {j : Nat} {v : V} (h : j < xs.length) (e : xs.set j v = ys) : setI xs (j : Int) v = some ys := by
  have e1 : ixN xs.length (j : Int) = some j := by
    unfold ixN
    rw [if_pos (by omega), if_pos (by omega)]
    simp
  unfold setI
  rw [e1, ← e]
  rfl
def rSetA : V → V → V → Hp → (Hp → Prop) → Prop := fun o i v H Q => ∃ p k, o = .ref p ∧ i = .int k ∧ ∃ xs, H p = some (.lst xs) ∧ ∃ ys, setI xs k v = some ys ∧ Q (upd H p (.lst ys))
section
variable {X : Cx}
theorem set_any : PSet X rSetA := by
  intro pins s σ H o i v uo ui uv Q I ro ri rv h
  obtain ⟨p, k, rfl, rfl, xs, hx, ys, hy, q⟩ := h
  unfold setI at hy
  cases e : ixN xs.length k with
  | none => rw [e] at hy; cases hy
  | some j =>
    rw [e] at hy
    cases hy
    exact set_list pins s σ H _ _ _ uo ui uv Q I ro ri rv ⟨p, xs, k, j, rfl, rfl, hx, e, q⟩
end
theorem atI_0 {α : Type} (x0 : α) (l : List α) : atI (x0 :: l) 0 = some x0 := atI_nat (j := 0) rfl
theorem setI_0 (x0 v : V) (l : List V) : setI (x0 :: l) 0 v = some (v :: l) := setI_nat (j := 0) (by simp) (by rfl)
theorem atI_1 {α : Type} (x0 x1 : α) (l : List α) : atI (x0 :: x1 :: l) 1 = some x1 := atI_nat (j := 1) rfl
theorem setI_1 (x0 x1 v : V) (l : List V) : setI (x0 :: x1 :: l) 1 v = some (x0 :: v :: l) := setI_nat (j := 1) (by simp) (by rfl)
theorem atI_2 {α : Type} (x0 x1 x2 : α) (l : List α) : atI (x0 :: x1 :: x2 :: l) 2 = some x2 := atI_nat (j := 2) rfl
theorem setI_2 (x0 x1 x2 v : V) (l : List V) : setI (x0 :: x1 :: x2 :: l) 2 v = some (x0 :: x1 :: v :: l) := setI_nat (j := 2) (by simp) (by rfl)
theorem atI_3 {α : Type} (x0 x1 x2 x3 : α) (l : List α) : atI (x0 :: x1 :: x2 :: x3 :: l) 3 = some x3 := atI_nat (j := 3) rfl
theorem setI_3 (x0 x1 x2 x3 v : V) (l : List V) : setI (x0 :: x1 :: x2 :: x3 :: l) 3 v = some (x0 :: x1 :: x2 :: v :: l) := setI_nat (j := 3) (by simp) (by rfl)
theorem atI_4 {α : Type} (x0 x1 x2 x3 x4 : α) (l : List α) : atI (x0 :: x1 :: x2 :: x3 :: x4 :: l) 4 = some x4 := atI_nat (j := 4) rfl
theorem setI_4 (x0 x1 x2 x3 x4 v : V) (l : List V) : setI (x0 :: x1 :: x2 :: x3 :: x4 :: l) 4 v = some (x0 :: x1 :: x2 :: x3 :: v :: l) := setI_nat (j := 4) (by simp) (by rfl)
theorem atI_5 {α : Type} (x0 x1 x2 x3 x4 x5 : α) (l : List α) : atI (x0 :: x1 :: x2 :: x3 :: x4 :: x5 :: l) 5 = some x5 := atI_nat (j := 5) rfl
theorem setI_5 (x0 x1 x2 x3 x4 x5 v : V) (l : List V) : setI (x0 :: x1 :: x2 :: x3 :: x4 :: x5 :: l) 5 v = some (x0 :: x1 :: x2 :: x3 :: x4 :: v :: l) := setI_nat (j := 5) (by simp) (by rfl)
theorem atI_6 {α : Type} (x0 x1 x2 x3 x4 x5 x6 : α) (l : List α) : atI (x0 :: x1 :: x2 :: x3 :: x4 :: x5 :: x6 :: l) 6 = some x6 := atI_nat (j := 6) rfl
theorem setI_6 (x0 x1 x2 x3 x4 x5 x6 v : V) (l : List V) : setI (x0 :: x1 :: x2 :: x3 :: x4 :: x5 :: x6 :: l) 6 v = some (x0 :: x1 :: x2 :: x3 :: x4 :: x5 :: v :: l) := setI_nat (j := 6) (by simp) (by rfl)
end My

namespace My
open PySem PySem.Spec PyProof.Rows L2
section
variable {X : Cx}
/-- any(xs), a list of ints -/
def rAnyI (K : PySem.W.Frag) : List V → Hp → VK → Prop := fun vs H Q => ∃ (a : Addr) (ns : List Int), vs = [V.ref a] ∧ SqL K H a (ns.map V.int) ∧ Q (.bl (ns.any fun n => decide (n ≠ 0))) H
theorem vals_int_at : ∀ {ns : List Int} {us : List Value} {i : Nat} {v : Value}, Vals (ns.map V.int) us → us[i]? = some v → ∃ (n : Int) (t : Tok), ns[i]? = some n ∧ v = .int n t
  | [], us, i, v, h, e => by
    cases h
    cases e
  | n :: ns, us, i, v, h, e => by
    cases h with
    | cons a b =>
      cases i with
      | zero =>
        cases e
        obtain ⟨t, et⟩ := a
        exact ⟨n, t, rfl, et⟩
      | succ i => exact vals_int_at (ns := ns) (i := i) b e
theorem any_rangeI : ∀ ns : List Int, (List.range ns.length).any (fun i => decide (ns.getD i 0 ≠ 0)) = ns.any fun n => decide (n ≠ 0)
  | [] => rfl
  | n :: ns => by
    rw [List.length_cons, List.range_succ_eq_map, List.any_cons, List.any_map, List.any_cons, ← any_rangeI ns]
    all_goals rfl
theorem cr_anyI (hc : X.calm = true) : CallR X (.builtin "any") (rAnyI X.K) := by
  intro pins s σ H vs us Q I r h
  obtain ⟨a, ns, rfl, hs, q⟩ := h
  obtain ⟨its, rv, hl, _⟩ := I.list hs
  rw [Vals.ref1 r]
  have hlen := rv.length
  rw [List.length_map] at hlen
  refine call_any_walk (iter_any hl.isList fun s₂ e2 st hne => ?_)
  subst e2
  refine ⟨_, _, _, _, _, _, _, rfl, Walks.list (A := X.A.in1) (I.ok.hd hc) _ a hne its.toArray, st, (fun i v s Q E hv hq => ?_ : TruthOf X.prog X.w X.A.in1 (fun i v => its.toArray[i]? = some v) (fun i => decide (ns.getD i 0 ≠ 0))), fun h' tk hk => ?_⟩
  · have hv' : its[i]? = some v := by simpa using hv
    obtain ⟨n, t, hn, rfl⟩ := vals_int_at rv hv'
    have hg : ns.getD i 0 = n := by rw [List.getD_eq_getElem?_getD, hn] <;> rfl
    have hq' : Q (decide (ns.getD i 0 ≠ 0)) s := hq
    rw [hg, show decide (n ≠ 0) = (n != 0) from by by_cases h : n = 0 <;> simp [h]] at hq'
    exact PySem.P.truthy_int hq'
  · refine ⟨.bl _, H, I.kept fun b o eo => hk b o (fun hmem => ?_) (Heap.get?_push_of_some _ eo), ?_, q⟩
    · rcases List.mem_cons.mp hmem with e1 | hmem
      · exact absurd (e1 ▸ Heap.lt_size eo) (Nat.lt_irrefl _)
      · cases hmem
    · show Value.bool _ = Value.bool _
      rw [← any_rangeI, List.size_toArray, ← hlen]
/-- list(o.values()) -/
def tListVals (K : PySem.W.Frag) (td : TE) : TE := fun σ H Q => td σ H fun x H1 => ∃ a kvs, x = V.ref a ∧ H1 a = some (.dK kvs) ∧ ∀ p, H1 p = none → K.lookup p = none → Q (.ref p) (upd H1 p (.lst (kvs.map (·.2))))
variable {o : Expr} {p pos apos mpos : Pos} {td : TE}
theorem pe_listVals (hc : X.calm = true) (hg : Gl X "list") (hm : X.mg "list" = none) (hd : PE X o td) (hbase : attributeBase o "values" X.env (eval o X.env) = eval o X.env := by rfl) (hline : (apos.endLine == mpos.line) = true := by rfl)
    (hse : starEach [Expr.Call (.Attribute o "values" apos) [] [] mpos] X.env = [(false, eval (Expr.Call (.Attribute o "values" apos) [] [] mpos) X.env)] := by rfl) :
    PE X (.Call (.Name "list" p) [.Call (.Attribute o "values" apos) [] [] mpos] [] pos) (tListVals X.K td) := by
  refine ⟨fun pins s σ H Q I h => ?_⟩
  refine wpAny_Call_Name_kw (ld_blt I hg hm (u := .type "list") (by first | rfl | decide +kernel) ?_ (by first | decide +kernel | decide) (by first | decide +kernel | decide))
  rw [hse]
  refine PySem.callWith_type1 (wpAny_Call_method0_late hbase hline (thn (hd.run pins s σ H _ I h) fun v s1 ⟨x, H1, I1, r1, a, kvs, ex, ha, q⟩ => ?_))
  subst ex
  obtain rfl : v = Value.ref a := r1
  obtain ⟨_, hsys, vs, rel, dof⟩ := dk_of I1.hok ha
  obtain ⟨z, _, _, _, _⟩ := (show ObjOk X.prog X.w H1 s1.heap a (.dK kvs) from I1.hok a _ ha)
  obtain ⟨ep, dat⟩ := dof.dictAt
  have dat' := dat
  obtain ⟨ob, es, ho, ex, hdat, hko, hpr, hnd⟩ := dat'
  refine ⟨"dict", "dict.values", F.plainAttrs_dict, F.slot_dict_values, F.type_dict_values, ⟨ob, ho, ex.1⟩, fun b e => ?_, Calls.callWith_builtin rfl (PySem.evalArgs_none ?_)⟩
  · cases e
    exact ⟨ob, ho, ex.2.1⟩
  refine call_meetsIn F.slot_dict_values ⟨ob, ho, ex.1⟩ F.entry_dict_values (F.args_dict_values_1 _) (meets_dict_values (mixKind X.prog X.w) a hsys) ⟨⟨vs, dof⟩, ?_⟩
  have k1 : ∀ b u, s1.heap.get? b = some u → (s1.heap.push { cls := .type "dict_values", data := .fields #[.ref a] }).get? b = some u := fun b u e => Heap.get?_push_of_some _ e
  have dat1 : (s1.heap.push { cls := .type "dict_values", data := .fields #[.ref a] }).DictAt (mixKind X.prog X.w) a vs ep := dat.keep k1
  have hl : kvs.length = vs.length := Paired.length rel
  have I2 : Inv X pins σ H1 { s1 with heap := s1.heap.push { cls := .type "dict_values", data := .fields #[.ref a] } } := I1.kept (t' := s1.toks) fun b u e => Heap.get?_push_of_some _ e
  refine PySem.W.kdl_call (PySem.W.kdl_values (knd := mixKind X.prog X.w) (kvs := vs) (ep := ep) (r := s1.heap.objs.size) (d := a)) (I.ok.hd hc) ⟨⟨_, Heap.get?_push_size _ rfl, rfl, rfl⟩, dat1⟩ (by rw [← hl]; exact z) fun h' tk acc' c' hkeep hS hacc => ?_
  have hsz : (s1.heap.push { cls := .type "dict_values", data := .fields #[.ref a] }).objs.size = s1.heap.objs.size + 1 := Heap.size_push _ _
  have fr := I2.hok.fresh (a := (s1.heap.push { cls := .type "dict_values", data := .fields #[.ref a] }).objs.size) (Nat.le_refl _)
  refine ⟨.ref (s1.heap.push { cls := .type "dict_values", data := .fields #[.ref a] }).objs.size, upd H1 (s1.heap.push { cls := .type "dict_values", data := .fields #[.ref a] }).objs.size (.lst (kvs.map (·.2))), I2.laid hkeep (Nat.le_refl _) (show ObjOk X.prog X.w _ _ _ (.lst (kvs.map (·.2))) from ⟨by rw [List.length_map]; exact z, acc'.toList, c', ?_, ?_⟩), rfl, q _ fr (new_K I2)⟩
  · have el : acc'.toList.length = acc'.size := by simp
    refine vals_of_at (by rw [List.length_map, el, hacc.1, hl]) fun j x w h1 h2 => ?_
    obtain ⟨k, hky⟩ := hacc.2 j w (by rw [← Array.getElem?_toList]; exact h2)
    obtain ⟨y, e1, e2⟩ := KV.at' rel hky
    rw [List.getElem?_map, e1] at h1
    cases h1
    exact e2
  · exact hS
end
section
variable {X : Cx}
/-- what is tracked is none of the written part's -/
def tFr (K : PySem.W.Frag) (t : TE) : TE := fun σ H Q => t σ H fun v H' => (∀ a, H' a ≠ none → K.lookup a = none) → Q v H'
theorem pe_fr {e : Expr} {t : TE} (h : PE X e t) : PE X e (tFr X.K t) := ⟨fun pins s σ H Q I hw => thn (h.run pins s σ H _ I hw) fun u s1 ⟨v, H1, I1, r, q⟩ => ⟨v, H1, I1, r, q fun a ha => by
  cases z : X.K.lookup a with
  | none => rfl
  | some o => exact absurd (I1.bs a o (I1.ok.mod.kin a o z)).2 ha⟩⟩
end
/-- name = [..] on one line; what is tracked is none of the written part's -/
theorem ps_setLcF {X : Cx} {i : Nat} {y : Str} {py : Pos} {elt tg iter : Expr} {ifs : List Expr} {scope : Scope} {own : List (Str × Nat)} {pos spos : Pos} {wi : TI} {g : TG} {tt : TT} {te : TE} (hc : X.calm = true) (hN : X.N.Nodup) (hy : X.N[i]? = some y) (hyl : X.env.scope.names.lookup y = some .local)
    (hsw : swapsWith (.ListComp elt [⟨tg, iter, ifs, 0⟩] scope pos) (some (.Name y py)) spos.line X.env = pure true) (hi : PI X tg iter wi) (ok : BlkOk X.N X.env.scope scope own)
    (hg : ∀ (s : Shared) (H : Hp) (C : Addr) (cl : List (Str × Addr)) (fp : List Addr), PG (X.blk s H scope (compEnvC scope cl C X.env) fp) tg g) (ht : ∀ (s : Shared) (H : Hp) (C : Addr) (cl : List (Str × Addr)) (fp : List Addr), PTs (X.blk s H scope (compEnvC scope cl C X.env) fp) ifs tt)
    (he : ∀ (s : Shared) (H : Hp) (C : Addr) (cl : List (Str × Addr)) (fp : List Addr), PE (X.blk s H scope (compEnvC scope cl C X.env) fp) elt te) (hs : ∀ x, foldedSetIterable iter X.env x = pure x := by intro _; rfl) :
    PS X (.Assign [.Name y py] (.ListComp elt [⟨tg, iter, ifs, 0⟩] scope pos) spos) (tAsg (tFr X.K (tLc wi g tt te (own.map (·.2)))) (gName i)) := by
  refine ⟨fun pins s σ H D I h => ?_⟩
  rw [exec_Assign_Name_used _ _ _ _ hsw]
  refine wpAny_bind (wpAny_standAt (wpAny_bind ?_))
  show wpAny _ X.A (do let _ ← comprehension (.ListComp elt [⟨tg, iter, ifs, 0⟩] scope pos) scope X.env (firstIterPos [⟨tg, iter, ifs, 0⟩] pos) (newList []) false (eval iter X.env) (some (assign (.Name y py) X.env))) _ _ s
  have h : tLc wi g tt te (own.map (·.2)) σ H (fun x H1 => (∀ a, H1 a ≠ none → X.K.lookup a = none) → gName i x σ H1 D.nx) := h
  refine wpAny_bind (thn (lc_core (Qf := fun _ s' => SP X pins D .next s') hc hN I hi ok hg ht he hs h fun L C s' m H' I' q hn f => ?_) fun _ s' hq => wpAny_pure (wpAny_pure hq))
  have fr : ∀ a, H' a ≠ none → X.K.lookup a = none := fun a ha => by
    cases z : X.K.lookup a with
    | none => rfl
    | some o => exact absurd (I'.bs a o (I'.ok.mod.kin a o z)).2 ha
  show wpAny _ _ (assign (.Name y py) X.env (.ref L)) _ _ _
  refine wpAny_assign_Name (store_ok2 (v := V.ref L) I' hN hy (.inl hyl) rfl (fun s2 I2 ⟨a, sb, ha⟩ => ?_) (.inr hyl))
  obtain ⟨f0, f1, f2, f3, f4, f5⟩ := f
  have haC : C ≠ a := by
    rcases ha with z | z
    · rw [z]; exact f1
    · exact fun e => f4 y a z e.symm
  refine ⟨m, hn.sameBut sb haC, fun h3 sb3 => ?_⟩
  exact ⟨_, H', I2.turned (t' := s2.toks) (fun b o hb e => (sb3.2 b hb).trans e) f0 f1 f3 f4 f5, q fr⟩
theorem cut_to (xs : List V) (j : Nat) (hj : j ≤ xs.length) : cutV xs none (some (j : Int)) = xs.take j := by
  have e := HT.sIx_nat xs.length xs.length j
  unfold cutV
  rw [e, HT.sIx_none, List.drop_zero, Nat.sub_zero, Nat.min_eq_left hj]
theorem cut_from (xs : List V) (j : Nat) (hj : j ≤ xs.length) : cutV xs (some (j : Int)) none = xs.drop j := by
  have e := HT.sIx_nat xs.length 0 j
  unfold cutV
  rw [e, HT.sIx_none, Nat.min_eq_left hj, List.take_of_length_le (by rw [List.length_drop]; omega)]
end My

namespace My
open PySem PySem.Spec PyProof.Rows L2
/-- a comprehension over zip of two lists, the second one not the longer -/
theorem lc_zip {K : PySem.W.Frag} {a b : Addr} {xs ys : List V} {g : TG} {tt : TT} {te : TE} {vs : List Nat} {σ : L2.St} {H1 : Hp} {D : Addr} {Qd : Hp → Prop} (hle : ys.length ≤ xs.length) (Pv : Nat → Hp → Prop) (h0 : Pv 0 (upd H1 D (.lst []))) (hl : ∀ i H, i ≤ ys.length → Pv i H → SqL K H a xs ∧ SqL K H b ys)
    (hs : ∀ (i : Nat) (x y : V) (T : Addr) (H : Hp), xs[i]? = some x → ys[i]? = some y → Pv i H → H T = none → g (.ref T) (wipe σ vs) (upd H T (.tup [x, y])) fun σ2 H2 => wipe σ2 vs = wipe σ vs ∧ tt σ2 H2 fun b H3 =>
      if b = true then te σ2 H3 fun y H4 => ∃ acc, H4 D = some (.lst acc) ∧ acc.length < sizeLine ∧ Pv (i + 1) (upd H4 D (.lst (acc ++ [y]))) else Pv (i + 1) H3) (hd : ∀ H, Pv ys.length H → Qd H) :
    ∃ W : Nat → Nat → Hp → Prop, (∃ m, W 0 m (upd H1 D (.lst []))) ∧ ∀ i m H, W i m H →
      ((Itz K a b).stop i H ∧ Qd H) ∨ ((Itz K a b).go i H ∧ ∃ Nx : Hp → Prop, (∀ H', Nx H' → ∃ m', m' < m ∧ W (i + 1) m' H') ∧ ∀ x H', (Itz K a b).yld i H x H' → g x (wipe σ vs) H' fun σ2 H2 => wipe σ2 vs = wipe σ vs ∧ tt σ2 H2 fun b H3 =>
        if b = true then te σ2 H3 fun y H4 => ∃ acc, H4 D = some (.lst acc) ∧ acc.length < sizeLine ∧ Nx (upd H4 D (.lst (acc ++ [y]))) else Nx H3) := by
  refine ⟨fun i m H => m = ys.length - i ∧ i ≤ ys.length ∧ Pv i H, ⟨ys.length, by simp, Nat.zero_le _, h0⟩, ?_⟩
  rintro i m H ⟨rfl, hi, p⟩
  obtain ⟨qx, qy⟩ := hl i H hi p
  by_cases hlt : i < ys.length
  · have hx : xs[i]? = some xs[i] := List.getElem?_eq_getElem (by omega)
    have hy : ys[i]? = some ys[i] := List.getElem?_eq_getElem hlt
    refine .inr ⟨⟨xs, ys, _, _, qx, qy, hx, hy⟩, Pv (i + 1), fun H' p' => ⟨ys.length - (i + 1), by omega, rfl, hlt, p'⟩, fun v H' y => ?_⟩
    obtain ⟨T, x', y', rfl, hT, rfl, f1, f2⟩ := y
    exact hs i x' y' T H (f1 xs qx) (f2 ys qy) p hT
  · have e : i = ys.length := by omega
    subst e
    exact .inl ⟨⟨xs, ys, qx, qy, Or.inr (Nat.le_refl _)⟩, hd H p⟩
end My

namespace MyZ
open PySem PySem.Calls PyProof.Rows RZ
section
variable {prog : Program} {w : World} {A : Around} {E : Value → Shared → Prop} {s : Shared}
theorem zip_no_len : typeLookup (.type "zip") "__len__" = pure none := am_miss_of_fast (by decide +kernel)
theorem zip_no_hint : typeLookup (.type "zip") "__length_hint__" = pure none := am_miss_of_fast (by decide +kernel)
/-- the next pair of two tuples, while the pair before is held -/
theorem next_item {z TI TO T i1 i2 l1 l2 : Addr} {f : Bool} {oT : Obj} {k1 k2 : Nat} {xs ys : Array Value} {x y : Value} {Q : Option Value → Shared → Prop} (D : ZipApart z TI TO i1 i2 l1 l2)
    (hz : IsZipHeld s.heap z TI TO T f) (hT : s.heap.get? T = some oT) (hTI : IsPair s.heap TI (.ref i1) (.ref i2))
    (h1 : s.heap.IsTupleIter i1 l1 k1) (h2 : s.heap.IsTupleIter i2 l2 k2) (hl1 : s.heap.IsTuple l1 xs) (hl2 : s.heap.IsTuple l2 ys) (hx : xs[k1]? = some x) (hy : ys[k2]? = some y)
    (hQ : ∀ h', IsZipHeld h' z TI TO T true → h'.IsTupleIter i1 l1 (k1 + 1) → h'.IsTupleIter i2 l2 (k2 + 1) → IsPair h' s.heap.objs.size x y → h'.objs.size = s.heap.objs.size + 1 →
      (∀ c o, c ≠ z → c ≠ i1 → c ≠ i2 → s.heap.get? c = some o → h'.get? c = some o) → Q (some (.ref s.heap.objs.size)) { s with heap := h' }) :
    wpAny (model prog w) A (pyNext (.ref z)) Q E s := by
  have hTy : s.TypeIs (.ref z) "zip" := ⟨_, hz, rfl⟩
  unfold pyNext
  refine wpAny_bind (wpAny_attempt (wpAny_callSpecial?_slot (name := Str.ofString "__next__") hTy F.slot_zip_next
    (wpAny_call_entry F.slot_zip_next hTy F.entry_zip_next ?_ (F.args_zip_next_1 _))))
  show wpAny _ _ (field (.ref z) 2 >>= _) _ _ _
  refine wpAny_bind (wpAny_field hz rfl (x := .bool false) rfl ?_)
  show wpAny _ _ (field (.ref z) 3 >>= _) _ _ _
  refine wpAny_bind (wpAny_field hz rfl (x := .ref TI) rfl ?_)
  refine wpAny_bind (wpAny_seqItems hTI rfl ?_)
  show wpAny _ _ (Builtin.SmallTypes.ownedTupleIsFree (.ref z) >>= _) _ _ _
  refine wpAny_bind (wpAny_tupleHeld_zip hz hT fun g1 z1 b1 => ?_)
  simp only [Bool.false_eq_true, if_false]
  refine wpAny_bind ?_
  rw [← Array.forIn_toList]
  simp only [List.forIn_cons, List.forIn_nil]
  refine wpAny_bind (wpAny_bind (wpAny_holding ?_))
  show wpAny _ _ (Builtin.SmallTypes.nextOf (.ref i1) >>= _) _ _ _
  refine wpAny_bind (nextOf_tuple_item (s := { s with heap := g1 }) (h1.extBut b1.extBut D.i1z) (hl1.extBut b1.extBut D.l1z) hx fun g2 n1 b2 => wpAny_pure ?_)
  refine wpAny_pure ?_
  refine wpAny_bind (wpAny_bind (wpAny_holding ?_))
  show wpAny _ _ (Builtin.SmallTypes.nextOf (.ref i2) >>= _) _ _ _
  refine wpAny_bind (nextOf_tuple_item (s := { s with heap := g2 }) ((h2.extBut b1.extBut D.i2z).extBut b2.extBut D.i12.symm) ((hl2.extBut b1.extBut D.l2z).extBut b2.extBut D.l2i1) hy fun g3 n2 b3 => wpAny_pure ?_)
  refine wpAny_pure (wpAny_pure ?_)
  show wpAny _ _ (newTuple [x, y] >>= _) _ _ _
  refine wpAny_bind (wpAny_newTuple ?_)
  have hsz : g3.objs.size = s.heap.objs.size := by rw [b3.1, b2.1, b1.1]
  have z3 : IsZipHeld g3 z TI TO T true := b3.extBut _ _ D.i2z.symm (b2.extBut _ _ D.i1z.symm z1)
  have hk : ∀ c o, c ≠ z → c ≠ i1 → c ≠ i2 → s.heap.get? c = some o → g3.get? c = some o := fun c o c1 c2 c3 e => b3.extBut _ _ c3 (b2.extBut _ _ c2 (b1.extBut _ _ c1 e))
  have m1 : g3.IsTupleIter i1 l1 (k1 + 1) := n1.extBut b3.extBut D.i12
  refine wpAny_pure ⟨_, rfl, wpAny_pure ?_⟩
  show Q (some (.ref g3.objs.size)) _
  have hp : IsPair (g3.push { cls := .type "tuple", data := .seq #[x, y] }) g3.objs.size x y := Heap.get?_push_size _ rfl
  have z4 : (g3.push { cls := .type "tuple", data := .seq #[x, y] }).objs.size = g3.objs.size + 1 := Heap.size_push ..
  rw [hsz] at hp z4 ⊢
  exact hQ _ (Heap.get?_push_of_some _ z3) (m1.at fun o e => Heap.get?_push_of_some _ e) (n2.at fun o e => Heap.get?_push_of_some _ e) hp z4 fun c o c1 c2 c3 e => Heap.get?_push_of_some _ (hk c o c1 c2 c3 e)
theorem next_end {z TI TO T i1 i2 l1 l2 : Addr} {f : Bool} {oT : Obj} {k1 k2 : Nat} {xs ys : Array Value} {Q : Option Value → Shared → Prop} (hh : A.handled = none) (D : ZipApart z TI TO i1 i2 l1 l2)
    (hz : IsZipHeld s.heap z TI TO T f) (hT : s.heap.get? T = some oT) (hTI : IsPair s.heap TI (.ref i1) (.ref i2))
    (h1 : s.heap.IsTupleIter i1 l1 k1) (hl1 : s.heap.IsTuple l1 xs) (hend : xs[k1]? = none)
    (hQ : ∀ h', (∀ c o, c ≠ z → c ≠ i1 → c ≠ i2 → s.heap.get? c = some o → h'.get? c = some o) → Q none { s with heap := h' }) :
    wpAny (model prog w) A (pyNext (.ref z)) Q E s := by
  have hTy : s.TypeIs (.ref z) "zip" := ⟨_, hz, rfl⟩
  unfold pyNext
  refine wpAny_bind (wpAny_attempt (wpAny_callSpecial?_slot (name := Str.ofString "__next__") hTy F.slot_zip_next
    (wpAny_call_entry F.slot_zip_next hTy F.entry_zip_next ?_ (F.args_zip_next_1 _))))
  show wpAny _ _ (field (.ref z) 2 >>= _) _ _ _
  refine wpAny_bind (wpAny_field hz rfl (x := .bool false) rfl ?_)
  show wpAny _ _ (field (.ref z) 3 >>= _) _ _ _
  refine wpAny_bind (wpAny_field hz rfl (x := .ref TI) rfl ?_)
  refine wpAny_bind (wpAny_seqItems hTI rfl ?_)
  show wpAny _ _ (Builtin.SmallTypes.ownedTupleIsFree (.ref z) >>= _) _ _ _
  refine wpAny_bind (wpAny_tupleHeld_zip hz hT fun g1 z1 b1 => ?_)
  simp only [Bool.false_eq_true, if_false]
  refine wpAny_bind ?_
  rw [← Array.forIn_toList]
  simp only [List.forIn_cons, List.forIn_nil]
  refine wpAny_bind (wpAny_bind (wpAny_holding ?_))
  show wpAny _ _ (Builtin.SmallTypes.nextOf (.ref i1) >>= _) _ _ _
  refine wpAny_bind (nextOf_tuple_end (s := { s with heap := g1 }) hh (h1.extBut b1.extBut D.i1z) (hl1.extBut b1.extBut D.l1z) hend fun g2 e b2 he => ?_)
  obtain ⟨o, ho, hc⟩ := he
  refine wpAny_bind (wpAny_isInstance (T := "StopIteration") (b := true) ⟨o, ho, hc⟩ isSubtype_stop ?_)
  exact wpAny_pure (hQ _ fun c o c1 c2 _ x => b2 _ _ c2 (b1.extBut _ _ c1 x))
end
end MyZ

namespace MyZ
open PySem PySem.Calls PyProof.Rows RZ
/-- the pairs that have been given out -/
structure PS (n0 : Nat) (xs ys : Array Value) (i : Nat) (acc : List Addr) (h : Heap) : Prop where
  len : acc.length = i
  asc : acc.Pairwise (· < ·)
  lo : ∀ T ∈ acc, n0 ≤ T
  lt : ∀ T ∈ acc, T < h.objs.size
  prs : ∀ (j : Nat) T u v, acc[j]? = some T → xs[j]? = some u → ys[j]? = some v → IsPair h T u v
theorem PS.keep {n0 : Nat} {xs ys : Array Value} {i : Nat} {acc : List Addr} {h h' : Heap} (p : PS n0 xs ys i acc h) (hs : h.objs.size ≤ h'.objs.size) (k : ∀ b o, n0 ≤ b → h.get? b = some o → h'.get? b = some o) : PS n0 xs ys i acc h' :=
  ⟨p.len, p.asc, p.lo, fun T hT => Nat.lt_of_lt_of_le (p.lt T hT) hs, fun j T u v a b c => k T _ (p.lo T (List.mem_of_getElem? a)) (p.prs j T u v a b c)⟩
theorem PS.snoc {n0 : Nat} {xs ys : Array Value} {i T : Nat} {u v : Value} {acc : List Addr} {h : Heap} (p : PS n0 xs ys i acc h) (hT : ∀ x ∈ acc, x < T) (h0 : n0 ≤ T) (h1 : T < h.objs.size) (hx : xs[i]? = some u) (hy : ys[i]? = some v) (hp : IsPair h T u v) : PS n0 xs ys (i + 1) (acc ++ [T]) h := by
  refine ⟨by rw [List.length_append, p.len]; rfl, ?_, ?_, ?_, ?_⟩
  · rw [List.pairwise_append]
    refine ⟨p.asc, List.pairwise_singleton _ _, fun a ha b hb => ?_⟩
    rw [List.mem_singleton] at hb
    subst hb
    exact hT a ha
  · intro x hx
    rcases List.mem_append.mp hx with hx | hx
    · exact p.lo x hx
    · rw [List.mem_singleton] at hx
      subst hx
      exact h0
  · intro x hx
    rcases List.mem_append.mp hx with hx | hx
    · exact p.lt x hx
    · rw [List.mem_singleton] at hx
      subst hx
      exact h1
  · intro j T' a b e1 e2 e3
    rcases Nat.lt_or_ge j acc.length with z | z
    · rw [List.getElem?_append_left z] at e1
      exact p.prs j T' a b e1 e2 e3
    · rw [List.getElem?_append_right z] at e1
      have l := (List.getElem?_eq_some_iff.mp e1).1
      rw [List.length_singleton] at l
      have ej : j = i := by
        rw [p.len] at l z
        omega
      rw [ej, p.len, Nat.sub_self] at e1
      cases e1
      rw [ej, hx] at e2
      rw [ej, hy] at e3
      cases e2
      cases e3
      exact hp
/-- the zip of two tuples, i pairs given out -/
structure ZS (n0 : Nat) (z TI TO i1 i2 l1 l2 : Addr) (xs ys : Array Value) (i : Nat) (acc : List Addr) (h : Heap) : Prop where
  ti : IsPair h TI (.ref i1) (.ref i2)
  a1 : h.IsTupleIter i1 l1 i
  a2 : h.IsTupleIter i2 l2 i
  b1 : h.IsTuple l1 xs
  b2 : h.IsTuple l2 ys
  zz : (IsZip h z TI TO .none ∧ ∃ a b, IsPair h TO a b) ∨ ∃ T f oT, IsZipHeld h z TI TO T f ∧ h.get? T = some oT ∧ n0 ≤ T
  ps : PS n0 xs ys i acc h
structure Low (n0 : Nat) (z TI TO i1 i2 l1 l2 S : Addr) : Prop where
  lz : z < n0
  lTI : TI < n0
  lTO : TO < n0
  li1 : i1 < n0
  li2 : i2 < n0
  ll1 : l1 < n0
  ll2 : l2 < n0
  lS : S < n0
  Sz : S ≠ z
  STI : S ≠ TI
  STO : S ≠ TO
  Si1 : S ≠ i1
  Si2 : S ≠ i2
  Sl1 : S ≠ l1
  Sl2 : S ≠ l2
section
variable {prog : Program} {w : World} {A : Around} {R : Result → Shared → Prop} {n0 : Nat} {z TI TO i1 i2 l1 l2 S : Addr} {xs ys : Array Value} {n : Nat}
theorem zs_step {i : Nat} {acc : List Addr} {s : Shared} {x y : Value} {Q : Option Value → Shared → Prop} {E : Value → Shared → Prop} (D : ZipApart z TI TO i1 i2 l1 l2) (L : Low n0 z TI TO i1 i2 l1 l2 S) (st : ZS n0 z TI TO i1 i2 l1 l2 xs ys i acc s.heap) (h0 : n0 ≤ s.heap.objs.size) (hx : xs[i]? = some x) (hy : ys[i]? = some y)
    (hQ : ∀ h', ZS n0 z TI TO i1 i2 l1 l2 xs ys (i + 1) (acc ++ [s.heap.objs.size]) h' → h'.objs.size = s.heap.objs.size + 1 → (∀ c o, c ≠ z → c ≠ TO → c ≠ i1 → c ≠ i2 → s.heap.get? c = some o → h'.get? c = some o) → Q (some (.ref s.heap.objs.size)) { s with heap := h' }) :
    wpAny (model prog w) A (pyNext (.ref z)) Q E s := by
  have nz : ∀ b, n0 ≤ b → b ≠ z ∧ b ≠ TO ∧ b ≠ i1 ∧ b ≠ i2 := fun b hb => ⟨Nat.ne_of_gt (Nat.lt_of_lt_of_le L.lz hb), Nat.ne_of_gt (Nat.lt_of_lt_of_le L.lTO hb), Nat.ne_of_gt (Nat.lt_of_lt_of_le L.li1 hb), Nat.ne_of_gt (Nat.lt_of_lt_of_le L.li2 hb)⟩
  have fin : ∀ h', (IsZip h' z TI TO .none ∧ ∃ a b, IsPair h' TO a b) ∨ (∃ T f oT, IsZipHeld h' z TI TO T f ∧ h'.get? T = some oT ∧ n0 ≤ T) → h'.IsTupleIter i1 l1 (i + 1) → h'.IsTupleIter i2 l2 (i + 1) → IsPair h' s.heap.objs.size x y → h'.objs.size = s.heap.objs.size + 1 →
      (∀ c o, c ≠ z → c ≠ TO → c ≠ i1 → c ≠ i2 → s.heap.get? c = some o → h'.get? c = some o) → Q (some (.ref s.heap.objs.size)) { s with heap := h' } := fun h' c1 c2 c3 c4 c5 c6 => by
    refine hQ h' ⟨c6 _ _ D.TIz D.TITO D.TIi1 D.TIi2 st.ti, c2, c3, st.b1.at fun o e => c6 _ _ D.l1z D.l1TO D.l1i1 D.l1i2 e, st.b2.at fun o e => c6 _ _ D.l2z D.l2TO D.l2i1 D.l2i2 e, c1, ?_⟩ c5 c6
    refine (st.ps.keep (by omega) fun b o hb e => ?_).snoc st.ps.lt h0 (by omega) hx hy c4
    obtain ⟨d1, d2, d3, d4⟩ := nz b hb
    exact c6 b o d1 d2 d3 d4 e
  rcases st.zz with ⟨hz, a, b, hTO⟩ | ⟨T, f, oT, hz, hT, nT⟩
  · refine pyNext_zipT_item D hz st.ti hTO st.a1 st.a2 st.b1 st.b2 hx hy fun h' c1 c2 c3 c4 c5 c6 c7 => ?_
    exact fin h' (.inr ⟨s.heap.objs.size, false, _, c1, c5, h0⟩) c3 c4 c5 c6 c7
  · refine next_item D hz hT st.ti st.a1 st.a2 st.b1 st.b2 hx hy fun h' c1 c2 c3 c4 c5 c6 => ?_
    obtain ⟨d1, d2, d3, d4⟩ := nz T nT
    exact fin h' (.inr ⟨T, true, oT, c1, c6 T oT d1 d3 d4 hT, nT⟩) c2 c3 c4 c5 fun c o e1 _ e3 e4 e => c6 c o e1 e3 e4 e
theorem zs_end {acc : List Addr} {s : Shared} {Q : Option Value → Shared → Prop} {E : Value → Shared → Prop} (hh : A.handled = none) (D : ZipApart z TI TO i1 i2 l1 l2) (L : Low n0 z TI TO i1 i2 l1 l2 S) (st : ZS n0 z TI TO i1 i2 l1 l2 xs ys n acc s.heap) (hx : xs.size = n)
    (hQ : ∀ h', (∀ c o, c ≠ z → c ≠ TO → c ≠ i1 → c ≠ i2 → s.heap.get? c = some o → h'.get? c = some o) → Q none { s with heap := h' }) :
    wpAny (model prog w) A (pyNext (.ref z)) Q E s := by
  have he : xs[n]? = none := by rw [Array.getElem?_eq_none (by omega)]
  rcases st.zz with ⟨hz, a, b, hTO⟩ | ⟨T, f, oT, hz, hT, nT⟩
  · exact pyNext_zipT_end hh D hz st.ti hTO st.a1 st.a2 st.b1 st.b2 (.inl he) hQ
  · exact next_end (k2 := n) (ys := ys) hh D hz hT st.ti st.a1 st.b1 he fun h' c => hQ h' fun c' o e1 _ e3 e4 e => c c' o e1 e3 e4 e
end
end MyZ

namespace MyZ
open PySem PySem.Calls PyProof.Rows RZ
/-- a plain list's object -/
abbrev lsO (acc : List Addr) (c : Nat) : Obj := { cls := .type "list", dict := none, data := .seq (acc.map Value.ref).toArray c, slots := #[] }
def FK (z TO i1 i2 S : Addr) (h h' : Heap) : Prop := ∀ b o, b ≠ S → b ≠ z → b ≠ TO → b ≠ i1 → b ≠ i2 → h.get? b = some o → h'.get? b = some o
section
variable {prog : Program} {w : World} {A : Around} {R : Result → Shared → Prop} {n0 : Nat} {z TI TO i1 i2 l1 l2 S : Addr} {xs ys : Array Value} {n : Nat}
theorem ZS.keep {i : Nat} {acc : List Addr} {h h' : Heap} (L : Low n0 z TI TO i1 i2 l1 l2 S) (st : ZS n0 z TI TO i1 i2 l1 l2 xs ys i acc h) (hs : h.objs.size ≤ h'.objs.size) (k : ∀ b o, b ≠ S → h.get? b = some o → h'.get? b = some o) : ZS n0 z TI TO i1 i2 l1 l2 xs ys i acc h' := by
  have hi : ∀ b, n0 ≤ b → b ≠ S := fun b hb => Nat.ne_of_gt (Nat.lt_of_lt_of_le L.lS hb)
  refine ⟨k _ _ L.STI.symm st.ti, st.a1.at fun o e => k _ _ L.Si1.symm e, st.a2.at fun o e => k _ _ L.Si2.symm e, st.b1.at fun o e => k _ _ L.Sl1.symm e, st.b2.at fun o e => k _ _ L.Sl2.symm e, ?_, st.ps.keep hs fun b o hb e => k b o (hi b hb) e⟩
  rcases st.zz with ⟨hz, a, b, hTO⟩ | ⟨T, f, oT, hz, hT, nT⟩
  · exact .inl ⟨k _ _ L.Sz.symm hz, a, b, k _ _ L.STO.symm hTO⟩
  · exact .inr ⟨T, f, oT, k _ _ L.Sz.symm hz, k _ _ (hi T nT) hT, nT⟩
theorem zs_loop (hh : A.in1.handled = none) (D : ZipApart z TI TO i1 i2 l1 l2) (L : Low n0 z TI TO i1 i2 l1 l2 S) (hxs : xs.size = n) (hys : ys.size = n) (hn : n ≤ sizeLine) (res : Value) :
    ∀ (k i : Nat) (s : Shared) (acc : List Addr) (c : Nat), n - i = k → i ≤ n → ZS n0 z TI TO i1 i2 l1 l2 xs ys i acc s.heap → n0 ≤ s.heap.objs.size → s.heap.get? S = some (lsO acc c) →
    (∀ h' acc' c', FK z TO i1 i2 S s.heap h' → PS n0 xs ys n acc' h' → h'.get? S = some (lsO acc' c') → R (.ok (.ret res)) { s with heap := h' }) →
    codeAny (model prog w) A (.builtin "list.extend.loop" ⟨[.ref S, .ref z, res], []⟩) R s := by
  intro k
  induction k with
  | zero =>
    intro i s acc c hk hi st h0 hS hR
    have hin : i = n := by omega
    subst hin
    refine codeAny_builtin F.entry_extend_loop ?_
    rw [Around.under_plainId F.plain_extend_loop _]
    show wpAny _ A.in1 (pyNext (.ref z) >>= _) _ _ s
    refine wpAny_bind (zs_end hh D L st hxs fun h' hk => ?_)
    have hi : ∀ b, n0 ≤ b → b ≠ z ∧ b ≠ TO ∧ b ≠ i1 ∧ b ≠ i2 := fun b hb => ⟨Nat.ne_of_gt (Nat.lt_of_lt_of_le L.lz hb), Nat.ne_of_gt (Nat.lt_of_lt_of_le L.lTO hb), Nat.ne_of_gt (Nat.lt_of_lt_of_le L.li1 hb), Nat.ne_of_gt (Nat.lt_of_lt_of_le L.li2 hb)⟩
    have pk : PS n0 xs ys i acc h' := by
      refine ⟨st.ps.len, st.ps.asc, st.ps.lo, fun T hT => ?_, fun j T u v a b c => ?_⟩
      · obtain ⟨j, hj, e⟩ := List.getElem_of_mem hT
        have e1 : acc[j]? = some T := by rw [List.getElem?_eq_getElem hj, e]
        have lj : j < i := by rw [← st.ps.len]; exact hj
        have e2 : xs[j]? = some xs[j] := Array.getElem?_eq_getElem (by omega)
        have e3 : ys[j]? = some ys[j] := Array.getElem?_eq_getElem (by omega)
        have hp := st.ps.prs j T _ _ e1 e2 e3
        obtain ⟨d1, d2, d3, d4⟩ := hi T (st.ps.lo T hT)
        exact Heap.lt_size (hk T _ d1 d2 d3 d4 hp)
      · obtain ⟨d1, d2, d3, d4⟩ := hi T (st.ps.lo T (List.mem_of_getElem? a))
        exact hk T _ d1 d2 d3 d4 (st.ps.prs j T u v a b c)
    exact wpAny_pure (hR h' acc c (fun b o _ c1 c2 c3 c4 e => hk b o c1 c2 c3 c4 e) pk (hk S _ L.Sz L.STO L.Si1 L.Si2 hS))
  | succ k ih =>
    intro i s acc c hk hi st h0 hS hR
    have hlt : i < n := by omega
    refine codeAny_builtin F.entry_extend_loop ?_
    rw [Around.under_plainId F.plain_extend_loop _]
    show wpAny _ A.in1 (pyNext (.ref z) >>= _) _ _ s
    have e2 : xs[i]? = some xs[i] := Array.getElem?_eq_getElem (by omega)
    have e3 : ys[i]? = some ys[i] := Array.getElem?_eq_getElem (by omega)
    refine wpAny_bind (zs_step D L st h0 e2 e3 fun h1 st1 sz1 fk1 => ?_)
    have hS1 := fk1 S _ L.Sz L.STO L.Si1 L.Si2 hS
    show wpAny _ A.in1 (updateSeq S (·.push (.ref s.heap.objs.size)) >>= _) _ _ _
    refine wpAny_bind ?_
    have la := st.ps.len
    have hU := Heap.get?_update_self (Obj.mapSeq (·.push (Value.ref s.heap.objs.size))) hS1 rfl
    have eU : Obj.mapSeq (·.push (Value.ref s.heap.objs.size)) (lsO acc c) = lsO (acc ++ [s.heap.objs.size]) (if ((acc.map Value.ref).toArray.push (Value.ref s.heap.objs.size)).size == (acc.map Value.ref).toArray.size then c else c + 1) := by
      simp only [Obj.mapSeq, lsO, List.map_append, List.map_cons, List.map_nil, List.push_toArray]
    rw [eU] at hU
    refine wpAny_updateSeq hS1 rfl (wpAny_pure ⟨plainId_quiet F.plain_extend_loop _, ih (i + 1) _ (acc ++ [s.heap.objs.size]) _ (by omega) hlt (ZS.keep L st1 (by show h1.objs.size ≤ (h1.update S _).objs.size; rw [Heap.size_update]; exact Nat.le_refl _) fun b o hb e => ?_) (by show n0 ≤ (h1.update S _).objs.size; rw [Heap.size_update]; omega) hU fun h' acc' c' fk ps' hS' => ?_⟩)
      (by rw [List.size_toArray, List.length_map]; omega) (by simp only [Array.size_push, List.size_toArray, List.length_map]; omega)
    · exact (Heap.get?_update_other _ _ (Ne.symm hb)).trans e
    · refine hR h' acc' c' (fun b o c0 c1 c2 c3 c4 e => fk b o c0 c1 c2 c3 c4 ?_) ps' hS'
      exact (Heap.get?_update_other _ _ (Ne.symm c0)).trans (fk1 b o c1 c2 c3 c4 e)
end
end MyZ

namespace MyZ
open PySem PySem.Calls PyProof.Rows RZ
section
variable {prog : Program} {w : World} {A : Around} {R : Result → Shared → Prop} {n0 : Nat} {z TI TO i1 i2 l1 l2 S : Addr} {xs ys : Array Value} {n : Nat} {s : Shared}
theorem zs_extend (hh : A.in1.handled = none) (D : ZipApart z TI TO i1 i2 l1 l2) (L : Low n0 z TI TO i1 i2 l1 l2 S) (hxs : xs.size = n) (hys : ys.size = n) (hn : n ≤ sizeLine) (res : Value) (c : Nat)
    (hz : IsZip s.heap z TI TO .none) (st : ZS n0 z TI TO i1 i2 l1 l2 xs ys 0 [] s.heap) (h0 : n0 ≤ s.heap.objs.size) (hS : s.heap.get? S = some (lsO [] c))
    (hR : ∀ h' acc' c', FK z TO i1 i2 S s.heap h' → PS n0 xs ys n acc' h' → h'.get? S = some (lsO acc' c') → R (.ok (.ret res)) { s with heap := h' }) :
    wpAny (model prog w) A.in1 (Builtin.List.listExtendWith (.ref S) (.ref z) res)
      (fun fin s' => match fin with | .done f => R (.ok f) s' | .again c' => c'.quiet = true ∧ codeAny (model prog w) A c' R s') (fun e s' => R (.error e) s') s := by
  have hT : s.TypeIs (.ref z) "zip" := ⟨_, hz, rfl⟩
  unfold Builtin.List.listExtendWith
  refine wpAny_bind (wpAny_typeOf hT ?_)
  have t1 : Builtin.List.listSameRef (.ref S) (.ref z) = false := by simp [Builtin.List.listSameRef, L.Sz]
  have t2 : (Value.type "zip" == Value.type "list") = false := by decide
  have t3 : (Value.type "zip" == Value.type "tuple") = false := by decide
  simp only [t1, t2, t3, Bool.or_false, Bool.false_eq_true, if_false]
  refine wpAny_bind (wpAny_pyIter_zip hz ?_)
  refine wpAny_bind (wpAny_holding ?_)
  unfold Builtin.List.listLengthHint
  refine wpAny_bind (wpAny_specialOf hT zip_no_len ?_)
  show wpAny _ A.in1 (specialOf (Value.ref z) (Str.ofString "__length_hint__") >>= _) _ _ _
  refine wpAny_bind (wpAny_specialOf hT zip_no_hint ?_)
  refine wpAny_pure ?_
  show wpAny _ A.in1 (rule "list.extend.makes-room" >>= fun _ => Builtin.List.listTouch (.ref S) >>= fun _ =>
    again (.builtin "list.extend.loop" ⟨[.ref S, .ref z, res], []⟩)) _ _ _
  refine wpAny_bind (wpAny_rule ?_)
  refine wpAny_bind ?_
  show wpAny _ A.in1 (updateSeq S (·.push .none) >>= fun _ => updateSeq S (·.pop)) _ _ _
  refine wpAny_bind (wpAny_updateSeq (hz := by seq_fits) hS rfl ?_)
  have hS2 := Heap.get?_update_self (Obj.mapSeq (·.push Value.none)) hS rfl
  refine wpAny_updateSeq (hz := by seq_fits) hS2 rfl ?_
  have hS3 := Heap.get?_update_self (Obj.mapSeq (·.pop)) hS2 rfl
  have oth : ∀ b o, b ≠ S → s.heap.get? b = some o → ((s.heap.update S (Obj.mapSeq (·.push Value.none))).update S (Obj.mapSeq (·.pop))).get? b = some o :=
    fun b o hb e => (Heap.get?_update_other _ _ (Ne.symm hb)).trans ((Heap.get?_update_other _ _ (Ne.symm hb)).trans e)
  refine wpAny_pure ⟨plainId_quiet F.plain_extend_loop _, zs_loop hh D L hxs hys hn res n 0 _ [] (c + 1 + 1) rfl (Nat.zero_le _) (ZS.keep L st ?_ oth) ?_ hS3 fun h' acc' c' fk ps' hS' => ?_⟩
  · show s.heap.objs.size ≤ ((s.heap.update S _).update S _).objs.size
    rw [Heap.size_update, Heap.size_update]
    exact Nat.le_refl _
  · show n0 ≤ ((s.heap.update S _).update S _).objs.size
    rw [Heap.size_update, Heap.size_update]
    exact h0
  · exact hR h' acc' c' (fun b o c0 c1 c2 c3 c4 e => fk b o c0 c1 c2 c3 c4 (oth b o c0 e)) ps' hS'
theorem zs_init (hh : A.in1.handled = none) (D : ZipApart z TI TO i1 i2 l1 l2) (L : Low n0 z TI TO i1 i2 l1 l2 S) (hxs : xs.size = n) (hys : ys.size = n) (hn : n ≤ sizeLine)
    (hz : IsZip s.heap z TI TO .none) (st : ZS n0 z TI TO i1 i2 l1 l2 xs ys 0 [] s.heap) (h0 : n0 ≤ s.heap.objs.size) (hS : s.heap.get? S = some { cls := .type "list", data := .seq #[] })
    (hR : ∀ h' acc' c', FK z TO i1 i2 S s.heap h' → PS n0 xs ys n acc' h' → h'.get? S = some (lsO acc' c') → R (.ok (.ret .none)) { s with heap := h' }) :
    wpAny (model prog w) A.in1 (Builtin.«list.__init__» ⟨[.ref S, .ref z], []⟩)
      (fun fin s' => match fin with | .done f => R (.ok f) s' | .again c' => c'.quiet = true ∧ codeAny (model prog w) A c' R s') (fun e s' => R (.error e) s') s := by
  show wpAny _ A.in1 (do let old ← Builtin.List.listItems (.ref S); Builtin.List.listUpdate (.ref S) (fun _ => #[]); letGo old.toList.reverse; Builtin.List.listExtendWith (.ref S) (.ref z) .none) _ _ s
  refine wpAny_bind ?_
  unfold Builtin.List.listItems
  refine wpAny_bind (wpAny_seqItems hS rfl (wpAny_pure ?_))
  show wpAny _ A.in1 (updateSeq S (fun _ => #[]) >>= fun _ => letGo (#[] : Array Value).toList.reverse >>= fun _ => Builtin.List.listExtendWith (.ref S) (.ref z) .none) _ _ s
  refine wpAny_bind (wpAny_updateSeq hS rfl ?_)
  have hS2 := Heap.get?_update_self (Obj.mapSeq (fun _ => (#[] : Array Value))) hS rfl
  have oth : ∀ b o, b ≠ S → s.heap.get? b = some o → (s.heap.update S (Obj.mapSeq (fun _ => (#[] : Array Value)))).get? b = some o :=
    fun b o hb e => (Heap.get?_update_other _ _ (Ne.symm hb)).trans e
  refine wpAny_bind (wpAny_letGo ?_)
  refine zs_extend hh D L hxs hys hn .none 0 (oth _ _ L.Sz.symm hz) (ZS.keep L st ?_ oth) ?_ hS2 fun h' acc' c' fk ps' hS' => ?_
  · show s.heap.objs.size ≤ (s.heap.update S _).objs.size
    rw [Heap.size_update]
    exact Nat.le_refl _
  · show n0 ≤ (s.heap.update S _).objs.size
    rw [Heap.size_update]
    exact h0
  · exact hR h' acc' c' (fun b o c0 c1 c2 c3 c4 e => fk b o c0 c1 c2 c3 c4 (oth b o c0 e)) ps' hS'
end
/-- list(z), z a zip of two tuples of one length -/
theorem call_listZip {prog : Program} {w : World} {A : Around} {E : Value → Shared → Prop} {s : Shared} {z TI TO i1 i2 l1 l2 : Addr} {xs ys : Array Value} {n : Nat} {Q : Value → Shared → Prop} (hh : A.handled = none) (D : ZipApart z TI TO i1 i2 l1 l2) (hxs : xs.size = n) (hys : ys.size = n) (hn : n ≤ sizeLine)
    (hz : IsZip s.heap z TI TO .none) (hTI : IsPair s.heap TI (.ref i1) (.ref i2)) {a b : Value} (hTO : IsPair s.heap TO a b) (a1 : s.heap.IsTupleIter i1 l1 0) (a2 : s.heap.IsTupleIter i2 l2 0) (b1 : s.heap.IsTuple l1 xs) (b2 : s.heap.IsTuple l2 ys)
    (hQ : ∀ h' acc c', (∀ b o, b ≠ z → b ≠ TO → b ≠ i1 → b ≠ i2 → s.heap.get? b = some o → h'.get? b = some o) → PS (s.heap.objs.size + 1) xs ys n acc h' → h'.get? s.heap.objs.size = some (lsO acc c') → Q (.ref s.heap.objs.size) { s with heap := h' }) :
    wpAny (model prog w) A (call (.type "list") [.ref z]) Q E s := by
  refine callType_codes (Q₁ := fun obj s₁ => obj = .ref s.heap.objs.size ∧ s₁ = { s with heap := s.heap.push { cls := .type "list", data := .seq #[] } }) PySem.F.called_list (PySem.F.typeCall_list_1 _) PySem.F.entry_list_init
    (code_list_new _ ⟨rfl, rfl⟩) fun obj s₁ h₁ => ?_
  obtain ⟨rfl, rfl⟩ := h₁
  have hS : (s.heap.push { cls := .type "list", data := .seq #[] }).get? s.heap.objs.size = some { cls := .type "list", data := .seq #[] } := Heap.get?_push_size _ rfl
  have up : ∀ b o, s.heap.get? b = some o → (s.heap.push { cls := .type "list", data := .seq #[] }).get? b = some o := fun b o e => Heap.get?_push_of_some _ e
  have g1 := Heap.lt_size hz
  have g2 := Heap.lt_size hTI
  have g3 := Heap.lt_size hTO
  have g4 : i1 < s.heap.objs.size := by obtain ⟨_, e, _⟩ := a1; exact Heap.lt_size e
  have g5 : i2 < s.heap.objs.size := by obtain ⟨_, e, _⟩ := a2; exact Heap.lt_size e
  have g6 : l1 < s.heap.objs.size := by obtain ⟨_, e, _⟩ := b1; exact Heap.lt_size e
  have g7 : l2 < s.heap.objs.size := by obtain ⟨_, e, _⟩ := b2; exact Heap.lt_size e
  have sz := Heap.size_push s.heap { cls := .type "list", data := .seq #[] }
  have L : Low (s.heap.objs.size + 1) z TI TO i1 i2 l1 l2 s.heap.objs.size := ⟨Nat.lt_succ_of_lt g1, Nat.lt_succ_of_lt g2, Nat.lt_succ_of_lt g3, Nat.lt_succ_of_lt g4, Nat.lt_succ_of_lt g5, Nat.lt_succ_of_lt g6, Nat.lt_succ_of_lt g7, Nat.lt_succ_self _,
    Nat.ne_of_gt g1, Nat.ne_of_gt g2, Nat.ne_of_gt g3, Nat.ne_of_gt g4, Nat.ne_of_gt g5, Nat.ne_of_gt g6, Nat.ne_of_gt g7⟩
  refine ⟨⟨_, hS, rfl⟩, PySem.F.args_list_init_2 _ _, zs_init (A := A.in1) hh D L hxs hys hn (up _ _ hz)
    ⟨up _ _ hTI, a1.at fun o e => up _ _ e, a2.at fun o e => up _ _ e, b1.at fun o e => up _ _ e, b2.at fun o e => up _ _ e, .inl ⟨up _ _ hz, a, b, up _ _ hTO⟩, ⟨rfl, List.Pairwise.nil, fun T h => (by cases h), fun T h => (by cases h), fun j T u v h => (by simp at h)⟩⟩ (Nat.le_of_eq sz.symm) hS fun h' acc' c' fk ps' hS' => ?_⟩
  exact ⟨rfl, hQ h' acc' c' (fun b o c1 c2 c3 c4 e => fk b o (Nat.ne_of_lt (Heap.lt_size e)) c1 c2 c3 c4 (up b o e)) ps' hS'⟩
end MyZ

namespace My
open PySem PySem.Spec PyProof.Rows L2 RZ
/-- the heap with the pairs and their list -/
def zipH (H : Hp) (S : Addr) (acc : List Addr) (xs ys : List V) : Hp := fun b =>
  if b = S then some (.lst (acc.map V.ref)) else if b ∈ acc then some (.tup [xs.getD (acc.idxOf b) .non, ys.getD (acc.idxOf b) .non]) else H b
theorem zipH_S {H : Hp} {S : Addr} {acc : List Addr} {xs ys : List V} : zipH H S acc xs ys S = some (.lst (acc.map V.ref)) := if_pos rfl
theorem zipH_old {H : Hp} {S b n : Addr} {acc : List Addr} {xs ys : List V} (hb : b < n) (hS : n ≤ S) (ha : ∀ T ∈ acc, n ≤ T) : zipH H S acc xs ys b = H b := by
  unfold zipH
  rw [if_neg (fun e => absurd hb (by rw [e]; exact Nat.not_lt.mpr hS)), if_neg (fun e => absurd hb (Nat.not_lt.mpr (ha b e)))]
theorem idx_asc {acc : List Addr} (h : acc.Pairwise (· < ·)) {i : Nat} {T : Addr} (e : acc[i]? = some T) : acc.idxOf T = i := by
  have nd : acc.Nodup := h.imp fun h => Nat.ne_of_lt h
  obtain ⟨hi, e⟩ := List.getElem?_eq_some_iff.mp e
  subst e
  exact nd.idxOf_getElem i hi
theorem zipH_T {H : Hp} {S T : Addr} {acc : List Addr} {xs ys : List V} {i : Nat} {x y : V} (h : acc.Pairwise (· < ·)) (e : acc[i]? = some T) (n : T ≠ S) (hx : xs[i]? = some x) (hy : ys[i]? = some y) : zipH H S acc xs ys T = some (.tup [x, y]) := by
  unfold zipH
  rw [if_neg n, if_pos (List.mem_of_getElem? e), idx_asc h e]
  simp [List.getD, hx, hy]
theorem vals_refs : ∀ acc : List Addr, Vals (acc.map V.ref) (acc.map Value.ref)
  | [] => .nil
  | a :: r => .cons rfl (vals_refs r)
def tListZip (K : PySem.W.Frag) (ta : TA) : TE := fun σ H Q => ta σ H fun vs H1 => ∃ a b xs ys, vs = [V.ref a, .ref b] ∧ SqT K H1 a xs ∧ SqT K H1 b ys ∧ xs.length = ys.length ∧
  ∀ S (ts : List Addr) H', H1 S = none → Same H1 H' → H' S = some (.lst (ts.map V.ref)) → ts.length = xs.length → (∀ (i : Nat) T x y, ts[i]? = some T → xs[i]? = some x → ys[i]? = some y → H' T = some (.tup [x, y])) → Q (.ref S) H'
section
variable {X : Cx} {e e2 : Expr} {ta : TA} {p p2 pos qos : Pos}
theorem pe_listZip (hc : X.calm = true) (hg : Gl X "list") (hm : X.mg "list" = none) (hg2 : Gl X "zip") (hm2 : X.mg "zip" = none) (ha : PA X [e, e2] ta)
    (hs : starEach [e, e2] X.env = (false, eval e X.env) :: starEach [e2] X.env := by rfl) (hpl : (backTo qos (starEach [e2] X.env)).any (·.1) = false := by rfl)
    (hse : starEach [Expr.Call (.Name "zip" p2) [e, e2] [] qos] X.env = [(false, eval (Expr.Call (.Name "zip" p2) [e, e2] [] qos) X.env)] := by rfl) :
    PE X (.Call (.Name "list" p) [.Call (.Name "zip" p2) [e, e2] [] qos] [] pos) (tListZip X.K ta) := by
  refine ⟨fun pins s σ H Q I h => ?_⟩
  refine wpAny_Call_Name_kw (ld_blt I hg hm (u := .type "list") (by first | rfl | decide +kernel) ?_ (by first | decide +kernel | decide) (by first | decide +kernel | decide))
  rw [hse]
  refine PySem.callWith_type1 ?_
  refine Call_ (ld_blt I hg2 hm2 PyProof.Rows.boot_zip (PyProof.Rows.callWith_type1 (thn (ha.run qos pins s σ H _ I h) fun us s1 ⟨vs, H1, I1, r1, q1⟩ => ?_) hs hpl))
  obtain ⟨a, b, xs, ys, ex, hqx, hqy, hl, q⟩ := q1
  subst ex
  cases r1 with
  | cons r rr =>
    cases rr with
    | cons r' rr =>
      cases rr
      cases r
      cases r'
      obtain ⟨its, rv, b1, z1⟩ := I1.tuple hqx
      obtain ⟨its2, rv2, b2, z2⟩ := I1.tuple hqy
      have l1 := rv.length
      have l2 := rv2.length
      refine RZ.call_zipT b1 b2 fun h1 hz hTI hTO a1 a2 hsz hk => ?_
      have g4 : a < s1.heap.objs.size := by obtain ⟨_, e, _⟩ := b1; exact Heap.lt_size e
      have g5 : b < s1.heap.objs.size := by obtain ⟨_, e, _⟩ := b2; exact Heap.lt_size e
      have a1' : h1.IsTuple a its.toArray := let ⟨o, e, r⟩ := b1; ⟨o, hk _ _ e, r⟩
      have b2' : h1.IsTuple b its2.toArray := let ⟨o, e, r⟩ := b2; ⟨o, hk _ _ e, r⟩
      refine MyZ.call_listZip (s := { s1 with heap := h1 }) (n := xs.length) (I1.ok.hd hc) (PySem.W.ktu_apart s1.heap.objs.size a b g4 g5) (by rw [List.size_toArray]; omega) (by rw [List.size_toArray]; omega) z1 hz hTI hTO a1 a2 a1' b2' fun h2 acc c' fk ps hS => ?_
      have n5 : h1.objs.size = s1.heap.objs.size + 5 := hsz
      have k : ∀ c o, s1.heap.get? c = some o → h2.get? c = some o := fun c o ec => by
        have lc := Heap.lt_size ec
        exact fk c o (fun z => by rw [z] at lc; exact absurd lc (Nat.not_lt.mpr (Nat.le_add_right _ _))) (fun z => by rw [z] at lc; exact absurd lc (Nat.not_lt.mpr (Nat.le_add_right _ _))) (fun z => by rw [z] at lc; exact absurd lc (Nat.lt_irrefl _)) (fun z => by rw [z] at lc; exact absurd lc (Nat.not_lt.mpr (Nat.le_add_right _ _))) (hk c o ec)
      have lS : s1.heap.objs.size ≤ h1.objs.size := by omega
      have lT : ∀ T ∈ acc, s1.heap.objs.size ≤ T := fun T hT => Nat.le_trans (by show s1.heap.objs.size ≤ h1.objs.size + 1; omega) (ps.lo T hT)
      have nT : ∀ T ∈ acc, T ≠ h1.objs.size := fun T hT => Nat.ne_of_gt (ps.lo T hT)
      have old : ∀ c, c < s1.heap.objs.size → zipH H1 h1.objs.size acc xs ys c = H1 c := fun c lc => zipH_old lc lS lT
      have el : ∀ (i : Nat) T, acc[i]? = some T → ∃ x y u v, xs[i]? = some x ∧ ys[i]? = some y ∧ RelV x u ∧ RelV y v ∧ IsPair h2 T u v := fun i T eT => by
        have hi := (List.getElem?_eq_some_iff.mp eT).1
        have la := ps.len
        have hx : xs[i]? = some xs[i] := List.getElem?_eq_getElem (by omega)
        have hy : ys[i]? = some ys[i] := List.getElem?_eq_getElem (by omega)
        obtain ⟨u, hu, ru⟩ := rv.get hx
        obtain ⟨v, hv, rv'⟩ := rv2.get hy
        exact ⟨_, _, u, v, hx, hy, ru, rv', ps.prs i T u v eT (by simpa using hu) (by simpa using hv)⟩
      have un : Un X.fs [] H1 (zipH H1 h1.objs.size acc xs ys) s1.heap h2 := ⟨fun c o ec _ _ _ => k c o ec, fun c o ec _ _ _ => ⟨o.slots, k c o ec⟩, fun c o ec n _ => (old c (Heap.lt_size ec)).trans n, fun c o ec _ => ⟨o, k c o ec⟩,
        fun c zs ec => (old c (I1.hok.lt ec)).trans ec, fun c o u ec => (old c (I1.hok.lt ec)).trans ec, fun c pz ec => ⟨#[], by rw [old c (I1.hok.lt ec), ec]; simp⟩⟩
      have hok : HOk X.prog X.w (zipH H1 h1.objs.size acc xs ys) h2 := fun c o ec => by
        by_cases lc : c < s1.heap.objs.size
        · rw [old c lc] at ec
          exact (I1.hok c o ec).stay (fun b u _ q => k b u q) (fun b q => (old b (I1.hok.lt q)).trans q) fun b zs q => (old b (I1.hok.lt q)).trans q
        · by_cases cS : c = h1.objs.size
          · rw [cS, zipH_S] at ec
            cases ec
            rw [cS]
            exact ⟨by rw [List.length_map, ps.len]; exact z1, acc.map Value.ref, c', vals_refs acc, hS⟩
          · by_cases cm : c ∈ acc
            · obtain ⟨i, hi, ei⟩ := List.getElem_of_mem cm
              have eT : acc[i]? = some c := by rw [List.getElem?_eq_getElem hi, ei]
              obtain ⟨x, y, u, v, hx, hy, ru, rv', pr⟩ := el i c eT
              rw [zipH_T ps.asc eT cS hx hy] at ec
              cases ec
              exact ⟨by show 2 ≤ sizeLine; decide, [u, v], .cons ru (.cons rv' .nil), ⟨_, pr, rfl, _, rfl⟩⟩
            · exfalso
              unfold zipH at ec
              rw [if_neg cS, if_neg cm] at ec
              exact lc (I1.hok.lt ec)
      exact ⟨.ref h1.objs.size, _, I1.un (t' := s1.toks) un hok, rfl, q h1.objs.size acc _ (I1.hok.fresh lS) (fun c o ec => (old c (I1.hok.lt ec)).trans ec) zipH_S (by rw [ps.len]) fun i T x y eT hx hy => zipH_T ps.asc eT (nT T (List.mem_of_getElem? eT)) hx hy⟩
end
end My

namespace My
open PySem PySem.Spec PyProof.Rows L2
/-! ### numbers: fractions in lowest terms -/
abbrev Qt := Int × Int
def Nf (q : Qt) : Prop := 1 ≤ q.2 ∧ Int.gcd q.1 q.2 = 1
/-- q is t / b in lowest terms -/
def Is (q : Qt) (t b : Int) : Prop := Nf q ∧ q.1 * b = t * q.2
def Sz (k : Nat) (q : Qt) : Prop := q.1.natAbs < 2 ^ k ∧ q.2.natAbs < 2 ^ k
theorem nf_cop {q : Qt} (h : Nf q) : Nat.Coprime q.1.natAbs q.2.natAbs := h.2
theorem nf_unique {p q : Qt} (hp : Nf p) (hq : Nf q) (h : p.1 * q.2 = q.1 * p.2) : p = q := by
  have h1 : p.1.natAbs * q.2.natAbs = q.1.natAbs * p.2.natAbs := by rw [← Int.natAbs_mul, ← Int.natAbs_mul, h]
  have d1 : p.2.natAbs ∣ q.2.natAbs := (nf_cop hp).symm.dvd_of_dvd_mul_left (n := q.2.natAbs) (m := p.1.natAbs) (by rw [h1]; exact Nat.dvd_mul_left _ _)
  have d2 : q.2.natAbs ∣ p.2.natAbs := (nf_cop hq).symm.dvd_of_dvd_mul_left (n := p.2.natAbs) (m := q.1.natAbs) (by rw [← h1]; exact Nat.dvd_mul_left _ _)
  have e := Nat.dvd_antisymm d1 d2
  have a1 := hp.1
  have a2 := hq.1
  have e2 : p.2 = q.2 := by omega
  rw [e2] at h
  have e1 : p.1 = q.1 := Int.eq_of_mul_eq_mul_right (show q.2 ≠ 0 by omega) h
  exact Prod.ext e1 e2
theorem is_unique {p q : Qt} {t b : Int} (hb : b ≠ 0) (hp : Is p t b) (hq : Is q t b) : p = q := by
  refine nf_unique hp.1 hq.1 ?_
  have h1 := hp.2
  have h2 := hq.2
  have h3 : b * (p.1 * q.2) = b * (q.1 * p.2) := by
    have e1 : b * (p.1 * q.2) = (p.1 * b) * q.2 := by rw [Int.mul_comm p.1 b, Int.mul_assoc]
    have e2 : b * (q.1 * p.2) = (q.1 * b) * p.2 := by rw [Int.mul_comm q.1 b, Int.mul_assoc]
    rw [e1, e2, h1, h2, Int.mul_assoc, Int.mul_assoc, Int.mul_comm p.2 q.2]
  exact Int.eq_of_mul_eq_mul_left hb h3
theorem is_le {q : Qt} {t b : Int} (hb : b ≠ 0) (h : Is q t b) : q.1.natAbs ≤ t.natAbs ∧ q.2.natAbs ≤ b.natAbs := by
  have h1 : q.1.natAbs * b.natAbs = t.natAbs * q.2.natAbs := by rw [← Int.natAbs_mul, ← Int.natAbs_mul, h.2]
  have d : q.2.natAbs ∣ b.natAbs := (nf_cop h.1).symm.dvd_of_dvd_mul_left (n := b.natAbs) (m := q.1.natAbs) (by rw [h1]; exact Nat.dvd_mul_left _ _)
  have hb' : 0 < b.natAbs := by omega
  have le2 := Nat.le_of_dvd hb' d
  refine ⟨?_, le2⟩
  have q2 : 0 < q.2.natAbs := by have := h.1.1; omega
  have h2 : q.1.natAbs * q.2.natAbs ≤ t.natAbs * q.2.natAbs := by rw [← h1]; exact Nat.mul_le_mul_left _ le2
  exact Nat.le_of_mul_le_mul_right h2 q2
theorem is_sz {q : Qt} {t b : Int} {k : Nat} (hb : b ≠ 0) (h : Is q t b) (ht : t.natAbs < 2 ^ k) (hk : b.natAbs < 2 ^ k) : Sz k q :=
  ⟨Nat.lt_of_le_of_lt (is_le hb h).1 ht, Nat.lt_of_le_of_lt (is_le hb h).2 hk⟩
/-- exact division by the greatest common divisor -/
theorem gcd_pos {t b : Int} (hb : b ≠ 0) : 0 < Int.gcd t b := Nat.gcd_pos_of_pos_right _ (by omega)
theorem gcd_le {t b : Int} (hb : b ≠ 0) : Int.gcd t b ≤ b.natAbs := Nat.le_of_dvd (by omega) (Nat.gcd_dvd_right _ _)
theorem is_div {t b : Int} (hb : 0 < b) : Is (t / (Int.gcd t b : Nat), b / (Int.gcd t b : Nat)) t b := by
  have hg := gcd_pos (t := t) (b := b) (by omega)
  obtain ⟨x, hx⟩ := Int.gcd_dvd_left (a := t) (b := b)
  obtain ⟨y, hy⟩ := Int.gcd_dvd_right (a := t) (b := b)
  have hg' : ((Int.gcd t b : Nat) : Int) ≠ 0 := by omega
  have e1 : t / (Int.gcd t b : Nat) = x := by conv => lhs; lhs; rw [hx]
                                              exact Int.mul_ediv_cancel_left _ hg'
  have e2 : b / (Int.gcd t b : Nat) = y := by conv => lhs; lhs; rw [hy]
                                              exact Int.mul_ediv_cancel_left _ hg'
  rw [e1, e2]
  have hy0 : 0 < y := by
    rcases Int.lt_trichotomy y 0 with z | z | z
    · have := Int.mul_neg_of_pos_of_neg (show (0 : Int) < (Int.gcd t b : Nat) by omega) z
      omega
    · rw [z, Int.mul_zero] at hy
      omega
    · exact z
  refine ⟨⟨by show 1 ≤ y; omega, ?_⟩, ?_⟩
  · show Int.gcd x y = 1
    have h : Int.gcd t b = Int.gcd t b * Int.gcd x y := by
      have k : Int.gcd (((Int.gcd t b : Nat) : Int) * x) (((Int.gcd t b : Nat) : Int) * y) = Int.gcd t b * Int.gcd x y := by rw [Int.gcd_mul_left, Int.natAbs_natCast]
      rwa [← hx, ← hy] at k
    exact Nat.eq_of_mul_eq_mul_left hg (by rw [← h, Nat.mul_one])
  · show x * b = t * y
    conv => lhs; rw [hy]
    conv => rhs; rw [hx]
    rw [← Int.mul_assoc, Int.mul_comm x]
theorem is_neg {q : Qt} {t b : Int} (h : Is q (-t) (-b)) : Is q t b := ⟨h.1, by have := h.2; rw [Int.mul_neg, Int.neg_mul] at this; omega⟩
theorem gcd_neg2 (t b : Int) : Int.gcd (-t) (-b) = Int.gcd t b := by rw [Int.gcd_neg, Int.neg_gcd]
/-- what fraction hands back -/
theorem is_fdiv {t b : Int} (hb : b ≠ 0) : Is (t.fdiv (if b < 0 then -((Int.gcd t b : Nat) : Int) else (Int.gcd t b : Nat)), b.fdiv (if b < 0 then -((Int.gcd t b : Nat) : Int) else (Int.gcd t b : Nat))) t b := by
  by_cases h : b < 0
  · rw [if_pos h]
    have e := is_div (t := -t) (b := -b) (by omega)
    rw [gcd_neg2] at e
    have k : ∀ x : Int, x.fdiv (-((Int.gcd t b : Nat) : Int)) = (-x) / ((Int.gcd t b : Nat) : Int) := fun x => by
      rw [← Int.fdiv_eq_ediv_of_nonneg _ (by omega), ← Int.neg_fdiv_neg (-x), Int.neg_neg]
    rw [k, k]
    exact is_neg e
  · rw [if_neg h, Int.fdiv_eq_ediv_of_nonneg _ (by omega), Int.fdiv_eq_ediv_of_nonneg _ (by omega)]
    exact is_div (by omega)
theorem mulW {i j : Int} {a b : Nat} (ha : i.natAbs < 2 ^ a) (hb : j.natAbs < 2 ^ b) (h : a + b ≤ 900000) : CMulW i j := by
  refine wide_mul (a := a + 1) (b := b + 1) (Nat.lt_of_lt_of_le ha (Nat.pow_le_pow_right (by omega) (by omega))) (Nat.lt_of_lt_of_le hb (Nat.pow_le_pow_right (by omega) (by omega))) (by omega) (by omega) (by omega)
theorem szMul {i j : Int} {a b : Nat} (ha : i.natAbs < 2 ^ a) (hb : j.natAbs < 2 ^ b) : (i * j).natAbs < 2 ^ (a + b) := wide_lt ha hb
theorem szAdd {i j : Int} {a b c : Nat} (ha : i.natAbs < 2 ^ a) (hb : j.natAbs < 2 ^ b) (h1 : a + 1 ≤ c) (h2 : b + 1 ≤ c) : (i + j).natAbs < 2 ^ c := by
  have e1 : 2 ^ (a + 1) ≤ 2 ^ c := Nat.pow_le_pow_right (by omega) h1
  have e2 : 2 ^ (b + 1) ≤ 2 ^ c := Nat.pow_le_pow_right (by omega) h2
  rw [Nat.pow_succ] at e1 e2
  have := Int.natAbs_add_le i j
  omega
theorem szSub {i j : Int} {a b c : Nat} (ha : i.natAbs < 2 ^ a) (hb : j.natAbs < 2 ^ b) (h1 : a + 1 ≤ c) (h2 : b + 1 ≤ c) : (i - j).natAbs < 2 ^ c := by
  rw [Int.sub_eq_add_neg]
  exact szAdd ha (by rw [Int.natAbs_neg]; exact hb) h1 h2
theorem szMono {i : Int} {a b : Nat} (ha : i.natAbs < 2 ^ a) (h : a ≤ b) : i.natAbs < 2 ^ b := Nat.lt_of_lt_of_le ha (Nat.pow_le_pow_right (by omega) h)
theorem Sz.mono {q : Qt} {a b : Nat} (ha : Sz a q) (h : a ≤ b) : Sz b q := ⟨szMono ha.1 h, szMono ha.2 h⟩
/-- // by any number of a bounded size -/
def CDivX (_ j : Int) : Prop := j ≠ 0 ∧ j.natAbs < 2 ^ 8999
theorem op_fdivX {X : Cx} : OpR X (binaryOp .FloorDiv) (rI CDivX fun i j => .int (i.fdiv j)) := by
  intro pins s σ H x y v u Q I rx ry h
  obtain ⟨i, j, rfl, rfl, hc, q⟩ := h
  obtain ⟨t, rfl⟩ := rx
  obtain ⟨t', rfl⟩ := ry
  exact floordiv_int hc.1 ⟨.int _, H, I.tok _, ⟨_, rfl⟩, q⟩ (.inl (PyProof.noPylong_of_log2 (Nat.lt_of_lt_of_le (PySem.Flt.log2_lt_of (by omega) hc.2) (by omega))))
/-! ### fractions as values -/
def frt (q : Qt) : HO := .tup [.int q.1, .int q.2]
end My

namespace My
open PySem PySem.Spec PyProof.Rows L2
section
variable {P : Program} {w : World} {K : PySem.W.Frag} {mg : Str → Option Value} {base : Heap}
def spMixed : Sp := fun vs H Q _ => ∃ a b : Int, vs = [.int a, .int b] ∧ ∀ r : Int, Q (.int r) H
theorem mulW_mod {i : Int} {n : Int} (h0 : 0 < n) (h : n < 2 ^ 64) : CMulW (i % n) (i % n) := by
  have h1 := Int.emod_nonneg i (show n ≠ 0 by omega)
  have h2 := Int.emod_lt_of_pos i h0
  exact wide_mul (a := 64) (b := 64) (by omega) (by omega) (by omega) (by omega) (by omega)
abbrev sMixed : Stmt := topS 45
theorem scMixed : FnScope ["_law_number", "_law_turn", "_law_value"] ["_law_number", "_law_turn"] (defScope sMixed) := ⟨rfl, rfl, rfl, by decide +kernel, rfl, by decide +kernel, by decide +kernel⟩
theorem k_Mixed (T : Bt K mg) (D : Dfn K mg "_law_mixed" sMixed ["_law_number", "_law_turn"]) : Kn P w K mg base 1 "_law_mixed" ["_law_number", "_law_turn"] spMixed := by
  refine Kn.mk' D scMixed (fun vs H Q E h => ?_) (fun f cdv A outer s H vs Q E hr h => ?_)
  · obtain ⟨a, b, rfl, _⟩ := h
    rfl
  obtain ⟨a, b, rfl, q⟩ := h
  refine ⟨_, (pss_cons (ps_set (i := 2) scMixed.nd rfl (.inl rfl) (pe_op op_mod (pe_op op_add (pe_op op_add (pe_op op_mul (pe_op op_mod (pe_callTy call_int1 (by rfl) T.b_int (by decide +kernel) (pa_cons (pv 0) pa_nil)) pe_int) pe_int) (pe_op op_mul (pv 1) pe_int)) pe_int) pe_int))
      (pss_cons (ps_set (i := 2) scMixed.nd rfl (.inl rfl) (pe_op op_mod (pe_op op_add (pe_op op_add (pe_op op_add (pe_op op_mulW (pv 2) (pv 2)) (pe_op op_mul (pv 2) pe_int)) (pe_op op_mul (pv 1) pe_int)) pe_int) pe_int))
      (pss_cons (ps_set (i := 2) scMixed.nd rfl (.inl rfl) (pe_op op_mod (pe_op op_add (pe_op op_add (pe_op op_mul (pv 2) pe_int) (pe_op op_fdiv (pv 2) pe_int)) pe_int) pe_int))
      (pss_cons (ps_set (i := 2) scMixed.nd rfl (.inl rfl) (pe_op op_mod (pe_op op_add (pe_op op_mulW (pv 2) (pv 2)) (pv 1)) pe_int))
      (pss_one (ps_ret (pe_op op_fdiv (pv 2) pe_int))))))), ?_⟩
  simp only [cx_K, decide_true, decide_false, reduceCtorEq, gTp, gCons, gNil, ca_0, ca_1, ca_2, ca_3, ca_4, ca_5, ca_6, ca_7, ca_8, ca_9, ca_10, ca_11, ca_12, ca_13, ca_14, ca_15, ca_16, ca_17, ca_18, ca_19, ca_20, ca_21, ca_22, ca_23, ca_24, ca_25, ca_26, ca_27, ca_28, ca_29, ca_30, not_true_eq_false, not_false_eq_true, Int.reduceEq, Nat.reduceEqDiff, Nat.reduceLeDiff, rGcd, V.ty.injEq, eq_self, List.not_mem_nil, beq_self_eq_true, HO.lst.injEq, HO.tup.injEq, tFor_eq, iRng1, iList, iTup, nat10, tSeq, rIxA, rSetA, rIsN, rIsT, tTp, tLs, itsO_tup, itsO_lst, tyO_tup, tyO_lst, tyO_dK, tyN_non, tyN_bl, tyN_int, tyN_str, tyN_ref, tyNs_lt, isB, upd_same, upd_upd, sizeLine_eq, List.mem_cons, String.reduceBEq, String.reduceEq, Bool.or_false, Bool.or_true, Bool.and_false, Bool.false_or, Bool.and_self, Bool.false_and, Bool.not_false, Bool.not_true, List.any_cons, List.any_nil, atI_0, setI_0, atI_1, setI_1, atI_2, setI_2, atI_3, setI_3, atI_4, setI_4, atI_5, setI_5, atI_6, setI_6, tAsg, gName, tOp, tUn, tVar, tC, tCons, L2.tNil, tRet, tIfS, tTest, tCB, tCall, rI, rI0, rU, tNext, tB, tAnd, tOr, tNot, tAndV, tOrV, tNotV, tDrop, tIf, tPar, gSub, rIxL, rIxT, rEq, rNe, rSetL, tBits,
    L2.start, List.map_cons, List.map_nil, List.cons_append, List.nil_append, List.append_nil, List.length_cons, List.length_nil, List.replicate, Nat.reduceAdd, Nat.reduceSub, Nat.zero_add, List.getElem?_cons_zero, List.getElem?_cons_succ, List.set_cons_zero, List.set_cons_succ,
    Option.some.injEq, exists_eq_left', exists_eq_left, V.int.injEq, V.bl.injEq, V.ref.injEq, V.str.injEq, List.cons.injEq, reduceCtorEq, and_true, true_and, false_and, and_false, exists_false, or_false, false_or, or_true, true_or, exists_const, CMul, CDiv, CPow, and_assoc, exists_and_left, exists_and_right, Int.reducePow, Int.reduceNeg, Int.reduceLT, Int.reduceLE, Nat.reducePow, Nat.reduceLT, Int.reduceToNat, gt_iff_lt, ge_iff_le, decide_eq_true_eq, Bool.not_eq_true', decide_eq_false_iff_not, scal, ↓reduceIte, Bool.false_eq_true]
  exact ⟨mulW_mod (by omega) (by omega), mulW_mod (by omega) (by omega), q _⟩
theorem at_ints {ns : List Int} {i : Int} (h0 : 0 ≤ i) (h : i < (ns.length : Int)) : ∃ z, atI (ns.map V.int) i = some (.int z) := by
  have hk : i.toNat < ns.length := by omega
  have q : atI (ns.map V.int) ((i.toNat : Nat) : Int) = some (.int ns[i.toNat]) := atI_nat (by rw [List.getElem?_map, List.getElem?_eq_getElem hk] <;> rfl)
  rw [show ((i.toNat : Nat) : Int) = i by omega] at q
  exact ⟨_, q⟩
theorem bits_le {m : Int} (h : m.natAbs < 2 ^ 200) : Builtin.Int.intBits m ≤ 200 := by
  unfold Builtin.Int.intBits
  split
  · omega
  · have := PySem.Flt.log2_lt_of (show 0 < 200 by omega) h
    omega
def TakeA (K : PySem.W.Frag) (s : Addr) (m : Int) (H : Hp) (σ' : L2.St) (H' : Hp) : Prop := ∃ x, σ' = [some (.ref s), some (.int m), x, none, none, none, none] ∧ Kp s H H' ∧ Sto K H' s
def TakeB (K : PySem.W.Frag) (s : Addr) (m : Int) (H : Hp) (σ' : L2.St) (H' : Hp) : Prop := ∃ x n, σ' = [some (.ref s), some (.int m), x, none, some (.int n), none, none] ∧ Kp s H H' ∧ Sto K H' s
def TakeC (s : Addr) (m : Int) (x : Option V) (n : Int) (H3 : Hp) (k : Nat) (σ : L2.St) (H' : Hp) : Prop := ∃ v y, σ = [some (.ref s), some (.int m), x, none, some (.int n), some (.int v), y] ∧ H' = H3
def spTake (K : PySem.W.Frag) : Sp := fun vs H Q _ => ∃ (s : Addr) (m : Int), vs = [.ref s, .int m] ∧ Sto K H s ∧ m < 2 ^ 200 ∧ ∀ r H', 0 ≤ r → (r < m ∨ r = 0) → Kp s H H' → Sto K H' s → Q (.int r) H'
abbrev sTake : Stmt := topS 47
theorem scTake : FnScope ["_law_store_here", "_law_many", "_law_cell", "_law_digit", "_law_number", "_law_value", "_law_k"] ["_law_store_here", "_law_many"] (defScope sTake) := ⟨rfl, rfl, rfl, by decide +kernel, rfl, by decide +kernel, by decide +kernel⟩
theorem k_Take (T : Bt K mg) (D : Dfn K mg "_law_take" sTake ["_law_store_here", "_law_many"]) (d__law_mixed : Kn P w K mg base 1 "_law_mixed" ["_law_number", "_law_turn"] spMixed) : Kn P w K mg base 2 "_law_take" ["_law_store_here", "_law_many"] (spTake K) := by
  refine Kn.mk' D scTake (fun vs H Q E h => ?_) (fun f cdv A outer s H vs Q E hr h => ?_)
  · obtain ⟨a, m, rfl, _⟩ := h
    rfl
  obtain ⟨s, m, rfl, hS, hm, q⟩ := h
  refine ⟨_, (pss_cons (ps_if (pt_cmpR op_lt (pv 1) pe_int (nomark _)) (pss_one (ps_ret pe_int)) pss_nil)
      (pss_cons (ps_asg (pe_op op_add (pe_ix ix_any (pv 0) pe_int (fun _ _ => rfl)) pe_int) (pg_sub (pv 0) pe_int set_any))
      (C8.pss_cut (ps_if (PW.pt (pw_and (pt_cmpR op_lt (pe_ix ix_any (pv 0) pe_int (fun _ _ => rfl)) pe_int (nomark _)) (pw_and (pt_cmpR op_lt (pe_ix ix_any (pv 0) pe_int (fun _ _ => rfl)) pe_int (nomark _)) (pw_and1 (pt_cmpR op_lt (pe_ix ix_any (pv 0) pe_int (fun _ _ => rfl)) (pe_callB call_lenA (by rfl) T.b_len PySem.boot_len (pa_cons (pe_ix ix_any (pv 0) pe_int (fun _ _ => rfl)) pa_nil)) (nomark _)))))) (pss_cons (ps_set (i := 2) scTake.nd rfl (.inl rfl) (pe_callTy call_int1 (by rfl) T.b_int (by decide +kernel) (pa_cons (pe_ix ix_any (pe_ix ix_any (pv 0) pe_int (fun _ _ => rfl)) (pe_ix ix_any (pv 0) pe_int (fun _ _ => rfl)) (fun _ _ => rfl)) pa_nil)))
      (pss_cons (ps_asg (pe_op op_add (pe_ix ix_any (pv 0) pe_int (fun _ _ => rfl)) pe_int) (pg_sub (pv 0) pe_int set_any))
      (pss_one (ps_if (pt_cmpR op_lt (pe_callB call_abs (by rfl) T.b_abs (by decide +kernel) (pa_cons (pv 2) pa_nil)) (pe_op op_pow pe_int pe_int) (nomark _)) (pss_cons (ps_asg pe_int (pg_sub (pv 0) pe_int set_any))
      (pss_one (ps_asg (pv 2) (pg_sub (pv 0) pe_int set_any)))) (pss_one (ps_asg (pe_callB call_abs (by rfl) T.b_abs (by decide +kernel) (pa_cons (pv 2) pa_nil)) (pg_sub (pv 0) pe_int set_any))))))) pss_nil)
      (pss_cons (ps_if (pt_cmpR op_gt (pe_ix ix_any (pv 0) pe_int (fun _ _ => rfl)) pe_int (nomark _)) (pss_cons (ps_set (i := 3) scTake.nd rfl (.inl rfl) (pe_op op_modN (pe_callTy call_int1 (by rfl) T.b_int (by decide +kernel) (pa_cons (pe_ix ix_any (pv 0) pe_int (fun _ _ => rfl)) pa_nil)) (pv 1)))
      (pss_cons (ps_asg (pe_op op_fdivW (pe_ix ix_any (pv 0) pe_int (fun _ _ => rfl)) (pv 1)) (pg_sub (pv 0) pe_int set_any))
      (pss_one (ps_ret (pv 3))))) pss_nil)
      (pss_cons (ps_set (i := 4) scTake.nd rfl (.inl rfl) (pe_ix ix_any (pv 0) pe_int (fun _ _ => rfl)))
      (C8.pss_cut (ps_if (pt_cmpR op_gt (pe_ix ix_any (pv 0) pe_int (fun _ _ => rfl)) pe_int (nomark _)) (pss_cons (ps_asg (pe_op op_sub (pe_ix ix_any (pv 0) pe_int (fun _ _ => rfl)) pe_int) (pg_sub (pv 0) pe_int set_any))
      (pss_one (ps_set (i := 4) scTake.nd rfl (.inl rfl) (pe_ix ix_any (pv 0) pe_int (fun _ _ => rfl))))) pss_nil)
      (pss_cons (ps_set (i := 5) scTake.nd rfl (.inl rfl) pe_int)
      (pss_cons (ps_for PassesOwn.never rfl (pi_range1 (by rfl) T.b_range (pa_cons (pe_op op_add pe_int (pe_op op_fdiv (pe_bits (pv 1)) pe_int)) pa_nil)) (pg_name (i := 6) scTake.nd rfl (.inl rfl)) (pss_one (ps_set (i := 5) scTake.nd rfl (.inl rfl) (pe_op op_add (pe_op op_mul (pv 5) pe_int) (pe_kn d__law_mixed hr (by rfl) (pa_cons (pv 4) (pa_cons (pe_op op_add (pe_op op_mul (pe_ix ix_any (pv 0) pe_int (fun _ _ => rfl)) pe_int) (pv 6)) pa_nil)))))))
      (pss_one (ps_ret (pe_op op_modN (pv 5) (pv 1)))))))))))), ?_⟩
  obtain ⟨sc, ns, i, b, c, d, e, f, hs, hsc, hne, hi, ks, ksc⟩ := hS
  have o1 := (ob_none ks).trans hs
  simp only [o1, hs, cx_K, decide_true, decide_false, reduceCtorEq, gTp, gCons, gNil, ca_0, ca_1, ca_2, ca_3, ca_4, ca_5, ca_6, ca_7, ca_8, ca_9, ca_10, ca_11, ca_12, ca_13, ca_14, ca_15, ca_16, ca_17, ca_18, ca_19, ca_20, ca_21, ca_22, ca_23, ca_24, ca_25, ca_26, ca_27, ca_28, ca_29, ca_30, not_true_eq_false, not_false_eq_true, Int.reduceEq, Nat.reduceEqDiff, Nat.reduceLeDiff, rGcd, V.ty.injEq, eq_self, List.not_mem_nil, beq_self_eq_true, HO.lst.injEq, HO.tup.injEq, tFor_eq, iRng1, iList, iTup, nat10, tSeq, rIxA, rSetA, rIsN, rIsT, tTp, tLs, itsO_tup, itsO_lst, tyO_tup, tyO_lst, tyO_dK, tyN_non, tyN_bl, tyN_int, tyN_str, tyN_ref, tyNs_lt, isB, upd_same, upd_upd, sizeLine_eq, List.mem_cons, String.reduceBEq, String.reduceEq, Bool.or_false, Bool.or_true, Bool.and_false, Bool.false_or, Bool.and_self, Bool.false_and, Bool.not_false, Bool.not_true, List.any_cons, List.any_nil, atI_0, setI_0, atI_1, setI_1, atI_2, setI_2, atI_3, setI_3, atI_4, setI_4, atI_5, setI_5, atI_6, setI_6, tAsg, gName, tOp, tUn, tVar, tC, tCons, L2.tNil, tRet, tIfS, tTest, tCB, tCall, rI, rI0, rU, tNext, tB, tAnd, tOr, tNot, tAndV, tOrV, tNotV, tDrop, tIf, tPar, gSub, rIxL, rIxT, rEq, rNe, rSetL, tBits,
    L2.start, List.map_cons, List.map_nil, List.cons_append, List.nil_append, List.append_nil, List.length_cons, List.length_nil, List.replicate, Nat.reduceAdd, Nat.reduceSub, Nat.zero_add, List.getElem?_cons_zero, List.getElem?_cons_succ, List.set_cons_zero, List.set_cons_succ,
    Option.some.injEq, exists_eq_left', exists_eq_left, V.int.injEq, V.bl.injEq, V.ref.injEq, V.str.injEq, List.cons.injEq, reduceCtorEq, and_true, true_and, false_and, and_false, exists_false, or_false, false_or, or_true, true_or, exists_const, CMul, CDiv, CPow, and_assoc, exists_and_left, exists_and_right, Int.reducePow, Int.reduceNeg, Int.reduceLT, Int.reduceLE, Nat.reducePow, Nat.reduceLT, Int.reduceToNat, gt_iff_lt, ge_iff_le, decide_eq_true_eq, Bool.not_eq_true', decide_eq_false_iff_not, scal, ↓reduceIte, Bool.false_eq_true]
  refine ite2 (fun h2 => ?_) (fun h2 => ?_)
  · exact q 0 H (Int.le_refl 0) (.inr rfl) (Kp.refl _ _) ⟨sc, ns, i, b, c, d, e, f, hs, hsc, hne, hi, ks, ksc⟩
  have S1 := Sr.put (i' := i) (b' := b) (c' := c + 1) (d' := d) (e' := e) (f' := f) (⟨hs, hsc, hne, hi, ks, ksc⟩ : Sr K H s sc ns i b c d e f) hi
  have kp1 : Kp s H (upd H s (.lst [.ref sc, .int i, .int b, .int (c + 1), .int d, .int e, .int f])) := Kp.put hs
  generalize upd H s (.lst [.ref sc, .int i, .int b, .int (c + 1), .int d, .int e, .int f]) = H1 at S1 kp1 ⊢
  refine ⟨TakeA K s m H, ?_, ?_⟩
  · obtain ⟨hs, hsc, hne, hi, ks, ksc⟩ := id S1
    have o1 := (ob_none ks).trans hs
    have o2 := (ob_none ksc).trans hsc
    have no : TakeA K s m H [some (.ref s), some (.int m), none, none, none, none, none] H1 := ⟨none, rfl, kp1, _, _, _, _, _, _, _, _, S1⟩
    simp only [o1, o2, hs, List.length_map, cx_K, decide_true, decide_false, reduceCtorEq, gTp, gCons, gNil, ca_0, ca_1, ca_2, ca_3, ca_4, ca_5, ca_6, ca_7, ca_8, ca_9, ca_10, ca_11, ca_12, ca_13, ca_14, ca_15, ca_16, ca_17, ca_18, ca_19, ca_20, ca_21, ca_22, ca_23, ca_24, ca_25, ca_26, ca_27, ca_28, ca_29, ca_30, not_true_eq_false, not_false_eq_true, Int.reduceEq, Nat.reduceEqDiff, Nat.reduceLeDiff, rGcd, V.ty.injEq, eq_self, List.not_mem_nil, beq_self_eq_true, HO.lst.injEq, HO.tup.injEq, tFor_eq, iRng1, iList, iTup, nat10, tSeq, rIxA, rSetA, rIsN, rIsT, tTp, tLs, itsO_tup, itsO_lst, tyO_tup, tyO_lst, tyO_dK, tyN_non, tyN_bl, tyN_int, tyN_str, tyN_ref, tyNs_lt, isB, upd_same, upd_upd, sizeLine_eq, List.mem_cons, String.reduceBEq, String.reduceEq, Bool.or_false, Bool.or_true, Bool.and_false, Bool.false_or, Bool.and_self, Bool.false_and, Bool.not_false, Bool.not_true, List.any_cons, List.any_nil, atI_0, setI_0, atI_1, setI_1, atI_2, setI_2, atI_3, setI_3, atI_4, setI_4, atI_5, setI_5, atI_6, setI_6, tAsg, gName, tOp, tUn, tVar, tC, tCons, L2.tNil, tRet, tIfS, tTest, tCB, tCall, rI, rI0, rU, tNext, tB, tAnd, tOr, tNot, tAndV, tOrV, tNotV, tDrop, tIf, tPar, gSub, rIxL, rIxT, rEq, rNe, rSetL, tBits,
    L2.start, List.map_cons, List.map_nil, List.cons_append, List.nil_append, List.append_nil, List.length_cons, List.length_nil, List.replicate, Nat.reduceAdd, Nat.reduceSub, Nat.zero_add, List.getElem?_cons_zero, List.getElem?_cons_succ, List.set_cons_zero, List.set_cons_succ,
    Option.some.injEq, exists_eq_left', exists_eq_left, V.int.injEq, V.bl.injEq, V.ref.injEq, V.str.injEq, List.cons.injEq, reduceCtorEq, and_true, true_and, false_and, and_false, exists_false, or_false, false_or, or_true, true_or, exists_const, CMul, CDiv, CPow, and_assoc, exists_and_left, exists_and_right, Int.reducePow, Int.reduceNeg, Int.reduceLT, Int.reduceLE, Nat.reducePow, Nat.reduceLT, Int.reduceToNat, gt_iff_lt, ge_iff_le, decide_eq_true_eq, Bool.not_eq_true', decide_eq_false_iff_not, scal, ↓reduceIte, Bool.false_eq_true]
    refine ite2 (fun _ => ?_) (fun _ => no)
    refine ite2 (fun _ => ?_) (fun _ => no)
    refine ite2 (fun hlt => ?_) (fun _ => no)
    obtain ⟨z, hz⟩ := at_ints hi hlt
    simp only [hz, cx_K, decide_true, decide_false, reduceCtorEq, gTp, gCons, gNil, ca_0, ca_1, ca_2, ca_3, ca_4, ca_5, ca_6, ca_7, ca_8, ca_9, ca_10, ca_11, ca_12, ca_13, ca_14, ca_15, ca_16, ca_17, ca_18, ca_19, ca_20, ca_21, ca_22, ca_23, ca_24, ca_25, ca_26, ca_27, ca_28, ca_29, ca_30, not_true_eq_false, not_false_eq_true, Int.reduceEq, Nat.reduceEqDiff, Nat.reduceLeDiff, rGcd, V.ty.injEq, eq_self, List.not_mem_nil, beq_self_eq_true, HO.lst.injEq, HO.tup.injEq, tFor_eq, iRng1, iList, iTup, nat10, tSeq, rIxA, rSetA, rIsN, rIsT, tTp, tLs, itsO_tup, itsO_lst, tyO_tup, tyO_lst, tyO_dK, tyN_non, tyN_bl, tyN_int, tyN_str, tyN_ref, tyNs_lt, isB, upd_same, upd_upd, sizeLine_eq, List.mem_cons, String.reduceBEq, String.reduceEq, Bool.or_false, Bool.or_true, Bool.and_false, Bool.false_or, Bool.and_self, Bool.false_and, Bool.not_false, Bool.not_true, List.any_cons, List.any_nil, atI_0, setI_0, atI_1, setI_1, atI_2, setI_2, atI_3, setI_3, atI_4, setI_4, atI_5, setI_5, atI_6, setI_6, tAsg, gName, tOp, tUn, tVar, tC, tCons, L2.tNil, tRet, tIfS, tTest, tCB, tCall, rI, rI0, rU, tNext, tB, tAnd, tOr, tNot, tAndV, tOrV, tNotV, tDrop, tIf, tPar, gSub, rIxL, rIxT, rEq, rNe, rSetL, tBits,
    L2.start, List.map_cons, List.map_nil, List.cons_append, List.nil_append, List.append_nil, List.length_cons, List.length_nil, List.replicate, Nat.reduceAdd, Nat.reduceSub, Nat.zero_add, List.getElem?_cons_zero, List.getElem?_cons_succ, List.set_cons_zero, List.set_cons_succ,
    Option.some.injEq, exists_eq_left', exists_eq_left, V.int.injEq, V.bl.injEq, V.ref.injEq, V.str.injEq, List.cons.injEq, reduceCtorEq, and_true, true_and, false_and, and_false, exists_false, or_false, false_or, or_true, true_or, exists_const, CMul, CDiv, CPow, and_assoc, exists_and_left, exists_and_right, Int.reducePow, Int.reduceNeg, Int.reduceLT, Int.reduceLE, Nat.reducePow, Nat.reduceLT, Int.reduceToNat, gt_iff_lt, ge_iff_le, decide_eq_true_eq, Bool.not_eq_true', decide_eq_false_iff_not, scal, ↓reduceIte, Bool.false_eq_true]
    refine ite2 (fun _ => ?_) (fun _ => ?_)
    · have S2 := S1.put (i' := i + 1) (b' := b) (c' := c + 1) (d' := d) (e' := 2) (f' := z) (by omega)
      exact ⟨_, rfl, kp1.trans (Kp.put hs), _, _, _, _, _, _, _, _, S2⟩
    · have S2 := S1.put (i' := i + 1) (b' := if z < 0 then -z else z) (c' := c + 1) (d' := d) (e' := e) (f' := f) (by omega)
      exact ⟨_, rfl, kp1.trans (Kp.put hs), _, _, _, _, _, _, _, _, S2⟩
  rintro σ' H2 ⟨x, rfl, kp2, sc, ns, i, b, c, d, e, f, S2⟩
  obtain ⟨hs, hsc, hne, hi, ks, ksc⟩ := id S2
  have o1 := (ob_none ks).trans hs
  simp only [o1, hs, cx_K, decide_true, decide_false, reduceCtorEq, gTp, gCons, gNil, ca_0, ca_1, ca_2, ca_3, ca_4, ca_5, ca_6, ca_7, ca_8, ca_9, ca_10, ca_11, ca_12, ca_13, ca_14, ca_15, ca_16, ca_17, ca_18, ca_19, ca_20, ca_21, ca_22, ca_23, ca_24, ca_25, ca_26, ca_27, ca_28, ca_29, ca_30, not_true_eq_false, not_false_eq_true, Int.reduceEq, Nat.reduceEqDiff, Nat.reduceLeDiff, rGcd, V.ty.injEq, eq_self, List.not_mem_nil, beq_self_eq_true, HO.lst.injEq, HO.tup.injEq, tFor_eq, iRng1, iList, iTup, nat10, tSeq, rIxA, rSetA, rIsN, rIsT, tTp, tLs, itsO_tup, itsO_lst, tyO_tup, tyO_lst, tyO_dK, tyN_non, tyN_bl, tyN_int, tyN_str, tyN_ref, tyNs_lt, isB, upd_same, upd_upd, sizeLine_eq, List.mem_cons, String.reduceBEq, String.reduceEq, Bool.or_false, Bool.or_true, Bool.and_false, Bool.false_or, Bool.and_self, Bool.false_and, Bool.not_false, Bool.not_true, List.any_cons, List.any_nil, atI_0, setI_0, atI_1, setI_1, atI_2, setI_2, atI_3, setI_3, atI_4, setI_4, atI_5, setI_5, atI_6, setI_6, tAsg, gName, tOp, tUn, tVar, tC, tCons, L2.tNil, tRet, tIfS, tTest, tCB, tCall, rI, rI0, rU, tNext, tB, tAnd, tOr, tNot, tAndV, tOrV, tNotV, tDrop, tIf, tPar, gSub, rIxL, rIxT, rEq, rNe, rSetL, tBits,
    L2.start, List.map_cons, List.map_nil, List.cons_append, List.nil_append, List.append_nil, List.length_cons, List.length_nil, List.replicate, Nat.reduceAdd, Nat.reduceSub, Nat.zero_add, List.getElem?_cons_zero, List.getElem?_cons_succ, List.set_cons_zero, List.set_cons_succ,
    Option.some.injEq, exists_eq_left', exists_eq_left, V.int.injEq, V.bl.injEq, V.ref.injEq, V.str.injEq, List.cons.injEq, reduceCtorEq, and_true, true_and, false_and, and_false, exists_false, or_false, false_or, or_true, true_or, exists_const, CMul, CDiv, CPow, and_assoc, exists_and_left, exists_and_right, Int.reducePow, Int.reduceNeg, Int.reduceLT, Int.reduceLE, Nat.reducePow, Nat.reduceLT, Int.reduceToNat, gt_iff_lt, ge_iff_le, decide_eq_true_eq, Bool.not_eq_true', decide_eq_false_iff_not, scal, ↓reduceIte, Bool.false_eq_true]
  have hm0 : m ≠ 0 := by omega
  refine ite2 (fun hb => ?_) (fun hb => ?_)
  · have S3 := S2.put (i' := i) (b' := b / m) (c' := c) (d' := d) (e' := e) (f' := f) hi
    refine ⟨hm0, wide_div (b := 200) (by omega) (by omega) (by omega) (by omega), q _ _ ?_ (.inl ?_) (kp2.trans (Kp.put hs)) ⟨_, _, _, _, _, _, _, _, S3⟩⟩
    · rw [Int.fmod_eq_emod_of_nonneg b (by omega)]
      exact Int.emod_nonneg _ hm0
    · rw [Int.fmod_eq_emod_of_nonneg b (by omega)]
      exact Int.emod_lt_of_pos _ (by omega)
  refine ⟨TakeB K s m H, ?_, ?_⟩
  · simp only [o1, hs, cx_K, decide_true, decide_false, reduceCtorEq, gTp, gCons, gNil, ca_0, ca_1, ca_2, ca_3, ca_4, ca_5, ca_6, ca_7, ca_8, ca_9, ca_10, ca_11, ca_12, ca_13, ca_14, ca_15, ca_16, ca_17, ca_18, ca_19, ca_20, ca_21, ca_22, ca_23, ca_24, ca_25, ca_26, ca_27, ca_28, ca_29, ca_30, not_true_eq_false, not_false_eq_true, Int.reduceEq, Nat.reduceEqDiff, Nat.reduceLeDiff, rGcd, V.ty.injEq, eq_self, List.not_mem_nil, beq_self_eq_true, HO.lst.injEq, HO.tup.injEq, tFor_eq, iRng1, iList, iTup, nat10, tSeq, rIxA, rSetA, rIsN, rIsT, tTp, tLs, itsO_tup, itsO_lst, tyO_tup, tyO_lst, tyO_dK, tyN_non, tyN_bl, tyN_int, tyN_str, tyN_ref, tyNs_lt, isB, upd_same, upd_upd, sizeLine_eq, List.mem_cons, String.reduceBEq, String.reduceEq, Bool.or_false, Bool.or_true, Bool.and_false, Bool.false_or, Bool.and_self, Bool.false_and, Bool.not_false, Bool.not_true, List.any_cons, List.any_nil, atI_0, setI_0, atI_1, setI_1, atI_2, setI_2, atI_3, setI_3, atI_4, setI_4, atI_5, setI_5, atI_6, setI_6, tAsg, gName, tOp, tUn, tVar, tC, tCons, L2.tNil, tRet, tIfS, tTest, tCB, tCall, rI, rI0, rU, tNext, tB, tAnd, tOr, tNot, tAndV, tOrV, tNotV, tDrop, tIf, tPar, gSub, rIxL, rIxT, rEq, rNe, rSetL, tBits,
    L2.start, List.map_cons, List.map_nil, List.cons_append, List.nil_append, List.append_nil, List.length_cons, List.length_nil, List.replicate, Nat.reduceAdd, Nat.reduceSub, Nat.zero_add, List.getElem?_cons_zero, List.getElem?_cons_succ, List.set_cons_zero, List.set_cons_succ,
    Option.some.injEq, exists_eq_left', exists_eq_left, V.int.injEq, V.bl.injEq, V.ref.injEq, V.str.injEq, List.cons.injEq, reduceCtorEq, and_true, true_and, false_and, and_false, exists_false, or_false, false_or, or_true, true_or, exists_const, CMul, CDiv, CPow, and_assoc, exists_and_left, exists_and_right, Int.reducePow, Int.reduceNeg, Int.reduceLT, Int.reduceLE, Nat.reducePow, Nat.reduceLT, Int.reduceToNat, gt_iff_lt, ge_iff_le, decide_eq_true_eq, Bool.not_eq_true', decide_eq_false_iff_not, scal, ↓reduceIte, Bool.false_eq_true]
    refine ite2 (fun he => ?_) (fun he => ?_)
    · have S3 := S2.put (i' := i) (b' := b) (c' := c) (d' := d) (e' := e - 1) (f' := f) hi
      have o3 := (ob_none ks).trans S3.1
      simp only [o3, cx_K, decide_true, decide_false, reduceCtorEq, gTp, gCons, gNil, ca_0, ca_1, ca_2, ca_3, ca_4, ca_5, ca_6, ca_7, ca_8, ca_9, ca_10, ca_11, ca_12, ca_13, ca_14, ca_15, ca_16, ca_17, ca_18, ca_19, ca_20, ca_21, ca_22, ca_23, ca_24, ca_25, ca_26, ca_27, ca_28, ca_29, ca_30, not_true_eq_false, not_false_eq_true, Int.reduceEq, Nat.reduceEqDiff, Nat.reduceLeDiff, rGcd, V.ty.injEq, eq_self, List.not_mem_nil, beq_self_eq_true, HO.lst.injEq, HO.tup.injEq, tFor_eq, iRng1, iList, iTup, nat10, tSeq, rIxA, rSetA, rIsN, rIsT, tTp, tLs, itsO_tup, itsO_lst, tyO_tup, tyO_lst, tyO_dK, tyN_non, tyN_bl, tyN_int, tyN_str, tyN_ref, tyNs_lt, isB, upd_same, upd_upd, sizeLine_eq, List.mem_cons, String.reduceBEq, String.reduceEq, Bool.or_false, Bool.or_true, Bool.and_false, Bool.false_or, Bool.and_self, Bool.false_and, Bool.not_false, Bool.not_true, List.any_cons, List.any_nil, atI_0, setI_0, atI_1, setI_1, atI_2, setI_2, atI_3, setI_3, atI_4, setI_4, atI_5, setI_5, atI_6, setI_6, tAsg, gName, tOp, tUn, tVar, tC, tCons, L2.tNil, tRet, tIfS, tTest, tCB, tCall, rI, rI0, rU, tNext, tB, tAnd, tOr, tNot, tAndV, tOrV, tNotV, tDrop, tIf, tPar, gSub, rIxL, rIxT, rEq, rNe, rSetL, tBits,
    L2.start, List.map_cons, List.map_nil, List.cons_append, List.nil_append, List.append_nil, List.length_cons, List.length_nil, List.replicate, Nat.reduceAdd, Nat.reduceSub, Nat.zero_add, List.getElem?_cons_zero, List.getElem?_cons_succ, List.set_cons_zero, List.set_cons_succ,
    Option.some.injEq, exists_eq_left', exists_eq_left, V.int.injEq, V.bl.injEq, V.ref.injEq, V.str.injEq, List.cons.injEq, reduceCtorEq, and_true, true_and, false_and, and_false, exists_false, or_false, false_or, or_true, true_or, exists_const, CMul, CDiv, CPow, and_assoc, exists_and_left, exists_and_right, Int.reducePow, Int.reduceNeg, Int.reduceLT, Int.reduceLE, Nat.reducePow, Nat.reduceLT, Int.reduceToNat, gt_iff_lt, ge_iff_le, decide_eq_true_eq, Bool.not_eq_true', decide_eq_false_iff_not, scal, ↓reduceIte, Bool.false_eq_true]
      exact ⟨_, _, rfl, kp2.trans (Kp.put hs), _, _, _, _, _, _, _, _, S3⟩
    · exact ⟨_, _, rfl, kp2, _, _, _, _, _, _, _, _, S2⟩
  rintro σ' H3 ⟨x, n, rfl, kp3, sc, ns, i, b, c, d, e, f, S3⟩
  obtain ⟨hs, hsc, hne, hi, ks, ksc⟩ := id S3
  have o1 := (ob_none ks).trans hs
  simp only [o1, hs, cx_K, decide_true, decide_false, reduceCtorEq, gTp, gCons, gNil, ca_0, ca_1, ca_2, ca_3, ca_4, ca_5, ca_6, ca_7, ca_8, ca_9, ca_10, ca_11, ca_12, ca_13, ca_14, ca_15, ca_16, ca_17, ca_18, ca_19, ca_20, ca_21, ca_22, ca_23, ca_24, ca_25, ca_26, ca_27, ca_28, ca_29, ca_30, not_true_eq_false, not_false_eq_true, Int.reduceEq, Nat.reduceEqDiff, Nat.reduceLeDiff, rGcd, V.ty.injEq, eq_self, List.not_mem_nil, beq_self_eq_true, HO.lst.injEq, HO.tup.injEq, tFor_eq, iRng1, iList, iTup, nat10, tSeq, rIxA, rSetA, rIsN, rIsT, tTp, tLs, itsO_tup, itsO_lst, tyO_tup, tyO_lst, tyO_dK, tyN_non, tyN_bl, tyN_int, tyN_str, tyN_ref, tyNs_lt, isB, upd_same, upd_upd, sizeLine_eq, List.mem_cons, String.reduceBEq, String.reduceEq, Bool.or_false, Bool.or_true, Bool.and_false, Bool.false_or, Bool.and_self, Bool.false_and, Bool.not_false, Bool.not_true, List.any_cons, List.any_nil, atI_0, setI_0, atI_1, setI_1, atI_2, setI_2, atI_3, setI_3, atI_4, setI_4, atI_5, setI_5, atI_6, setI_6, tAsg, gName, tOp, tUn, tVar, tC, tCons, L2.tNil, tRet, tIfS, tTest, tCB, tCall, rI, rI0, rU, tNext, tB, tAnd, tOr, tNot, tAndV, tOrV, tNotV, tDrop, tIf, tPar, gSub, rIxL, rIxT, rEq, rNe, rSetL, tBits,
    L2.start, List.map_cons, List.map_nil, List.cons_append, List.nil_append, List.append_nil, List.length_cons, List.length_nil, List.replicate, Nat.reduceAdd, Nat.reduceSub, Nat.zero_add, List.getElem?_cons_zero, List.getElem?_cons_succ, List.set_cons_zero, List.set_cons_succ,
    Option.some.injEq, exists_eq_left', exists_eq_left, V.int.injEq, V.bl.injEq, V.ref.injEq, V.str.injEq, List.cons.injEq, reduceCtorEq, and_true, true_and, false_and, and_false, exists_false, or_false, false_or, or_true, true_or, exists_const, CMul, CDiv, CPow, and_assoc, exists_and_left, exists_and_right, Int.reducePow, Int.reduceNeg, Int.reduceLT, Int.reduceLE, Nat.reducePow, Nat.reduceLT, Int.reduceToNat, gt_iff_lt, ge_iff_le, decide_eq_true_eq, Bool.not_eq_true', decide_eq_false_iff_not, scal, ↓reduceIte, Bool.false_eq_true]
  have hbits : Builtin.Int.intBits m ≤ 200 := bits_le (by omega)
  refine ⟨by omega, by omega, forI_range (TakeC s m x n H3) ⟨0, none, rfl, rfl⟩ ?_ ?_⟩
  · rintro k σ H' hk ⟨v, y, rfl, rfl⟩
    simp only [o1, hs, cx_K, decide_true, decide_false, reduceCtorEq, gTp, gCons, gNil, ca_0, ca_1, ca_2, ca_3, ca_4, ca_5, ca_6, ca_7, ca_8, ca_9, ca_10, ca_11, ca_12, ca_13, ca_14, ca_15, ca_16, ca_17, ca_18, ca_19, ca_20, ca_21, ca_22, ca_23, ca_24, ca_25, ca_26, ca_27, ca_28, ca_29, ca_30, not_true_eq_false, not_false_eq_true, Int.reduceEq, Nat.reduceEqDiff, Nat.reduceLeDiff, rGcd, V.ty.injEq, eq_self, List.not_mem_nil, beq_self_eq_true, HO.lst.injEq, HO.tup.injEq, tFor_eq, iRng1, iList, iTup, nat10, tSeq, rIxA, rSetA, rIsN, rIsT, tTp, tLs, itsO_tup, itsO_lst, tyO_tup, tyO_lst, tyO_dK, tyN_non, tyN_bl, tyN_int, tyN_str, tyN_ref, tyNs_lt, isB, upd_same, upd_upd, sizeLine_eq, List.mem_cons, String.reduceBEq, String.reduceEq, Bool.or_false, Bool.or_true, Bool.and_false, Bool.false_or, Bool.and_self, Bool.false_and, Bool.not_false, Bool.not_true, List.any_cons, List.any_nil, atI_0, setI_0, atI_1, setI_1, atI_2, setI_2, atI_3, setI_3, atI_4, setI_4, atI_5, setI_5, atI_6, setI_6, tAsg, gName, tOp, tUn, tVar, tC, tCons, L2.tNil, tRet, tIfS, tTest, tCB, tCall, rI, rI0, rU, tNext, tB, tAnd, tOr, tNot, tAndV, tOrV, tNotV, tDrop, tIf, tPar, gSub, rIxL, rIxT, rEq, rNe, rSetL, tBits,
    L2.start, List.map_cons, List.map_nil, List.cons_append, List.nil_append, List.append_nil, List.length_cons, List.length_nil, List.replicate, Nat.reduceAdd, Nat.reduceSub, Nat.zero_add, List.getElem?_cons_zero, List.getElem?_cons_succ, List.set_cons_zero, List.set_cons_succ,
    Option.some.injEq, exists_eq_left', exists_eq_left, V.int.injEq, V.bl.injEq, V.ref.injEq, V.str.injEq, List.cons.injEq, reduceCtorEq, and_true, true_and, false_and, and_false, exists_false, or_false, false_or, or_true, true_or, exists_const, CMul, CDiv, CPow, and_assoc, exists_and_left, exists_and_right, Int.reducePow, Int.reduceNeg, Int.reduceLT, Int.reduceLE, Nat.reducePow, Nat.reduceLT, Int.reduceToNat, gt_iff_lt, ge_iff_le, decide_eq_true_eq, Bool.not_eq_true', decide_eq_false_iff_not, scal, ↓reduceIte, Bool.false_eq_true]
    refine ⟨_, _, rfl, fun r => ?_⟩
    simp only [cx_K, decide_true, decide_false, reduceCtorEq, gTp, gCons, gNil, ca_0, ca_1, ca_2, ca_3, ca_4, ca_5, ca_6, ca_7, ca_8, ca_9, ca_10, ca_11, ca_12, ca_13, ca_14, ca_15, ca_16, ca_17, ca_18, ca_19, ca_20, ca_21, ca_22, ca_23, ca_24, ca_25, ca_26, ca_27, ca_28, ca_29, ca_30, not_true_eq_false, not_false_eq_true, Int.reduceEq, Nat.reduceEqDiff, Nat.reduceLeDiff, rGcd, V.ty.injEq, eq_self, List.not_mem_nil, beq_self_eq_true, HO.lst.injEq, HO.tup.injEq, tFor_eq, iRng1, iList, iTup, nat10, tSeq, rIxA, rSetA, rIsN, rIsT, tTp, tLs, itsO_tup, itsO_lst, tyO_tup, tyO_lst, tyO_dK, tyN_non, tyN_bl, tyN_int, tyN_str, tyN_ref, tyNs_lt, isB, upd_same, upd_upd, sizeLine_eq, List.mem_cons, String.reduceBEq, String.reduceEq, Bool.or_false, Bool.or_true, Bool.and_false, Bool.false_or, Bool.and_self, Bool.false_and, Bool.not_false, Bool.not_true, List.any_cons, List.any_nil, atI_0, setI_0, atI_1, setI_1, atI_2, setI_2, atI_3, setI_3, atI_4, setI_4, atI_5, setI_5, atI_6, setI_6, tAsg, gName, tOp, tUn, tVar, tC, tCons, L2.tNil, tRet, tIfS, tTest, tCB, tCall, rI, rI0, rU, tNext, tB, tAnd, tOr, tNot, tAndV, tOrV, tNotV, tDrop, tIf, tPar, gSub, rIxL, rIxT, rEq, rNe, rSetL, tBits,
    L2.start, List.map_cons, List.map_nil, List.cons_append, List.nil_append, List.append_nil, List.length_cons, List.length_nil, List.replicate, Nat.reduceAdd, Nat.reduceSub, Nat.zero_add, List.getElem?_cons_zero, List.getElem?_cons_succ, List.set_cons_zero, List.set_cons_succ,
    Option.some.injEq, exists_eq_left', exists_eq_left, V.int.injEq, V.bl.injEq, V.ref.injEq, V.str.injEq, List.cons.injEq, reduceCtorEq, and_true, true_and, false_and, and_false, exists_false, or_false, false_or, or_true, true_or, exists_const, CMul, CDiv, CPow, and_assoc, exists_and_left, exists_and_right, Int.reducePow, Int.reduceNeg, Int.reduceLT, Int.reduceLE, Nat.reducePow, Nat.reduceLT, Int.reduceToNat, gt_iff_lt, ge_iff_le, decide_eq_true_eq, Bool.not_eq_true', decide_eq_false_iff_not, scal, ↓reduceIte, Bool.false_eq_true]
    exact ⟨_, _, rfl, rfl⟩
  · rintro σ H' ⟨v, y, rfl, rfl⟩
    simp only [cx_K, decide_true, decide_false, reduceCtorEq, gTp, gCons, gNil, ca_0, ca_1, ca_2, ca_3, ca_4, ca_5, ca_6, ca_7, ca_8, ca_9, ca_10, ca_11, ca_12, ca_13, ca_14, ca_15, ca_16, ca_17, ca_18, ca_19, ca_20, ca_21, ca_22, ca_23, ca_24, ca_25, ca_26, ca_27, ca_28, ca_29, ca_30, not_true_eq_false, not_false_eq_true, Int.reduceEq, Nat.reduceEqDiff, Nat.reduceLeDiff, rGcd, V.ty.injEq, eq_self, List.not_mem_nil, beq_self_eq_true, HO.lst.injEq, HO.tup.injEq, tFor_eq, iRng1, iList, iTup, nat10, tSeq, rIxA, rSetA, rIsN, rIsT, tTp, tLs, itsO_tup, itsO_lst, tyO_tup, tyO_lst, tyO_dK, tyN_non, tyN_bl, tyN_int, tyN_str, tyN_ref, tyNs_lt, isB, upd_same, upd_upd, sizeLine_eq, List.mem_cons, String.reduceBEq, String.reduceEq, Bool.or_false, Bool.or_true, Bool.and_false, Bool.false_or, Bool.and_self, Bool.false_and, Bool.not_false, Bool.not_true, List.any_cons, List.any_nil, atI_0, setI_0, atI_1, setI_1, atI_2, setI_2, atI_3, setI_3, atI_4, setI_4, atI_5, setI_5, atI_6, setI_6, tAsg, gName, tOp, tUn, tVar, tC, tCons, L2.tNil, tRet, tIfS, tTest, tCB, tCall, rI, rI0, rU, tNext, tB, tAnd, tOr, tNot, tAndV, tOrV, tNotV, tDrop, tIf, tPar, gSub, rIxL, rIxT, rEq, rNe, rSetL, tBits,
    L2.start, List.map_cons, List.map_nil, List.cons_append, List.nil_append, List.append_nil, List.length_cons, List.length_nil, List.replicate, Nat.reduceAdd, Nat.reduceSub, Nat.zero_add, List.getElem?_cons_zero, List.getElem?_cons_succ, List.set_cons_zero, List.set_cons_succ,
    Option.some.injEq, exists_eq_left', exists_eq_left, V.int.injEq, V.bl.injEq, V.ref.injEq, V.str.injEq, List.cons.injEq, reduceCtorEq, and_true, true_and, false_and, and_false, exists_false, or_false, false_or, or_true, true_or, exists_const, CMul, CDiv, CPow, and_assoc, exists_and_left, exists_and_right, Int.reducePow, Int.reduceNeg, Int.reduceLT, Int.reduceLE, Nat.reducePow, Nat.reduceLT, Int.reduceToNat, gt_iff_lt, ge_iff_le, decide_eq_true_eq, Bool.not_eq_true', decide_eq_false_iff_not, scal, ↓reduceIte, Bool.false_eq_true]
    refine ⟨hm0, q _ _ ?_ (.inl ?_) kp3 ⟨_, _, _, _, _, _, _, _, S3⟩⟩
    · rw [Int.fmod_eq_emod_of_nonneg v (by omega)]
      exact Int.emod_nonneg _ hm0
    · rw [Int.fmod_eq_emod_of_nonneg v (by omega)]
      exact Int.emod_lt_of_pos _ (by omega)
end
end My

namespace My
open PySem PySem.Spec PyProof.Rows L2
section
variable {P : Program} {w : World} {K : PySem.W.Frag} {mg : Str → Option Value} {base : Heap}
theorem abs_if (n : Int) : (if n < 0 then -n else n) = (n.natAbs : Int) := by split <;> omega
def spGcd : Sp := fun vs H Q _ => ∃ a b : Int, vs = [.int a, .int b] ∧ Q (.int ((Int.gcd a b : Nat) : Int)) H
def GcdW (a b : Int) (H : Hp) (σ : L2.St) (H' : Hp) : Prop := ∃ l r : Int, σ = [some (.int l), some (.int r)] ∧ H' = H ∧ 0 ≤ l ∧ 0 ≤ r ∧ Int.gcd l r = Int.gcd a b
def GcdM (σ : L2.St) (_ : Hp) : Nat := match σ with
  | [_, some (.int r)] => r.toNat
  | _ => 0
/-- the law's own lowest terms; 0 beneath gives 0 -/
def Lw (q : Qt) (t b : Int) : Prop := (b = 0 → q = (0, 1)) ∧ (b ≠ 0 → Is q t b)
/-- hands back a fraction, all else as it was -/
def Gv (K : PySem.W.Frag) (H : Hp) (Q : VK) (q : Qt) : Prop := ∀ (p : Addr) (H' : Hp), Same H H' → ob K H' p = some (frt q) → Q (.ref p) H'
theorem Gv.new {K : PySem.W.Frag} {H : Hp} {Q : VK} {q : Qt} (h : Gv K H Q q) {p : Addr} (hp : H p = none) (kp : K.lookup p = none) : Q (.ref p) (upd H p (.tup [.int q.1, .int q.2])) := h p _ (Same.new hp _) (ob_new kp)
def spLowest (K : PySem.W.Frag) : Sp := fun vs H Q _ => ∃ t b : Int, vs = [.int t, .int b] ∧ b.natAbs < 2 ^ 8000 ∧ ∀ q, Lw q t b → Gv K H Q q
end
end My

namespace My
open PySem PySem.Spec PyProof.Rows L2
section
variable {P : Program} {w : World} {K : PySem.W.Frag} {mg : Str → Option Value} {base : Heap}
end
structure DfnD (K : PySem.W.Frag) (mg : Str → Option Value) (x : Str) (st : Stmt) (ps : List Str) : Prop where
  ex : ∃ f fd dvs, FunD K x x (defArgs st) (defBody st) (defScope st) dvs [] f fd ∧ mg x = some (.ref f) ∧ Binds K fd ps []
theorem Kn.mkD {P : Program} {w : World} {K : PySem.W.Frag} {mg : Str → Option Value} {base : Heap} {x : Str} {st : Stmt} {N ps : List Str} {k : Nat} {sp : Sp} (D : DfnD K mg x st ps) (S : FnScope N ps (defScope st)) (len : ∀ vs H Q E, sp vs H Q E → vs.length = ps.length)
    (hbody : ∀ (f : Addr) (cdv : Value) (A : Around) (outer : List Env) (s : Shared) (H : Hp) (vs : List V) (Q : VK) (E : XK), Room k (A.deeper (envOfC x (defScope st) s.heap.objs.size f cdv)) → sp vs H Q E →
      ∃ t, PSs (cxOf CX0 P w K mg base N x (defScope st) f cdv A outer s H E).nox (defBody st) t ∧ t { nx := fun _ H' => Q .non H', rt := Q } (start N vs) H) : Kn P w K mg base (k + 1) x ps sp := by
  obtain ⟨f, fd, dvs, F, m, b⟩ := D.ex
  exact ⟨f, fd, m, F.kp, b, F.ok S len fun cdv A outer s H vs Q E hr h => let ⟨t, a, c⟩ := hbody f cdv A outer s H vs Q E hr h; ⟨t, a.nox, c⟩⟩
section
variable {P : Program} {w : World} {K : PySem.W.Frag} {mg : Str → Option Value} {base : Heap}
def spRequire : Sp := fun vs H Q _ => ∃ x : V, vs = [.bl true, x] ∧ Q .non H
abbrev sRequire : Stmt := topS 16
theorem scRequire : FnScope ["well_formed", "what"] ["well_formed", "what"] (defScope sRequire) := ⟨rfl, rfl, rfl, by decide +kernel, rfl, by decide +kernel, by decide +kernel⟩
theorem k_Require (T : Bt K mg) (D : Dfn K mg "require" sRequire ["well_formed", "what"]) : Kn P w K mg base 1 "require" ["well_formed", "what"] spRequire := by
  refine Kn.mk' D scRequire (fun vs H Q E h => ?_) (fun f cdv A outer s H vs Q E hr h => ?_)
  · obtain ⟨x, rfl, _⟩ := h
    rfl
  obtain ⟨x, rfl, q⟩ := h
  refine ⟨_, (pss_one (ps_if (pt_not (pt_val (pv 0))) (pss_one ps_never) pss_nil)), ?_⟩
  simp only [cx_K, decide_true, decide_false, reduceCtorEq, gTp, gCons, gNil, ca_0, ca_1, ca_2, ca_3, ca_4, ca_5, ca_6, ca_7, ca_8, ca_9, ca_10, ca_11, ca_12, ca_13, ca_14, ca_15, ca_16, ca_17, ca_18, ca_19, ca_20, ca_21, ca_22, ca_23, ca_24, ca_25, ca_26, ca_27, ca_28, ca_29, ca_30, not_true_eq_false, not_false_eq_true, Int.reduceEq, Nat.reduceEqDiff, Nat.reduceLeDiff, rGcd, V.ty.injEq, eq_self, List.not_mem_nil, beq_self_eq_true, HO.lst.injEq, HO.tup.injEq, tFor_eq, iRng1, iList, iTup, nat10, tSeq, rIxA, rSetA, rIsN, rIsT, tTp, tLs, itsO_tup, itsO_lst, tyO_tup, tyO_lst, tyO_dK, tyN_non, tyN_bl, tyN_int, tyN_str, tyN_ref, tyNs_lt, isB, upd_same, upd_upd, sizeLine_eq, List.mem_cons, String.reduceBEq, String.reduceEq, Bool.or_false, Bool.or_true, Bool.and_false, Bool.false_or, Bool.and_self, Bool.false_and, Bool.not_false, Bool.not_true, List.any_cons, List.any_nil, atI_0, setI_0, atI_1, setI_1, atI_2, setI_2, atI_3, setI_3, atI_4, setI_4, atI_5, setI_5, atI_6, setI_6, tAsg, gName, tOp, tUn, tVar, tC, tCons, L2.tNil, tRet, tIfS, tTest, tCB, tCall, rI, rI0, rU, tNext, tB, tAnd, tOr, tNot, tAndV, tOrV, tNotV, tDrop, tIf, tPar, gSub, rIxL, rIxT, rEq, rNe, rSetL, tBits,
    L2.start, List.map_cons, List.map_nil, List.cons_append, List.nil_append, List.append_nil, List.length_cons, List.length_nil, List.replicate, Nat.reduceAdd, Nat.reduceSub, Nat.zero_add, List.getElem?_cons_zero, List.getElem?_cons_succ, List.set_cons_zero, List.set_cons_succ,
    Option.some.injEq, exists_eq_left', exists_eq_left, V.int.injEq, V.bl.injEq, V.ref.injEq, V.str.injEq, List.cons.injEq, reduceCtorEq, and_true, true_and, false_and, and_false, exists_false, or_false, false_or, or_true, true_or, exists_const, CMul, CDiv, CPow, and_assoc, exists_and_left, exists_and_right, Int.reducePow, Int.reduceNeg, Int.reduceLT, Int.reduceLE, Nat.reducePow, Nat.reduceLT, Int.reduceToNat, gt_iff_lt, ge_iff_le, decide_eq_true_eq, Bool.not_eq_true', decide_eq_false_iff_not, scal, ↓reduceIte, Bool.false_eq_true]
  exact q
def wholeV : V → Bool
  | .int _ => true
  | _ => false
theorem wholeV_ty {H : Hp} {v : V} {t : String} (h : tyN K H v = some t) : wholeV v = (t == "int") := by
  cases v with
  | ref a =>
    have h1 : tyO (ob K H a) = some t := h
    unfold tyO at h1
    split at h1 <;> first | (cases h1; rfl) | cases h1
  | _ => first | (cases h; rfl) | cases h
def spWhole (K : PySem.W.Frag) : Sp := fun vs H Q _ => ∃ v, vs = [v] ∧ (tyN K H v).isSome ∧ Q (.bl (wholeV v)) H
abbrev sWhole : Stmt := topS 17
theorem scWhole : FnScope ["value"] ["value"] (defScope sWhole) := ⟨rfl, rfl, rfl, by decide +kernel, rfl, by decide +kernel, by decide +kernel⟩
theorem k_Whole (T : Bt K mg) (D : Dfn K mg "is_whole" sWhole ["value"]) : Kn P w K mg base 1 "is_whole" ["value"] (spWhole K) := by
  refine Kn.mk' D scWhole (fun vs H Q E h => ?_) (fun f cdv A outer s H vs Q E hr h => ?_)
  · obtain ⟨v, rfl, _⟩ := h
    rfl
  obtain ⟨v, rfl, hv, q⟩ := h
  refine ⟨_, (pss_one (ps_ret (pe_and (pe_callB call_isN (by rfl) T.b_isinstance (by decide +kernel) (pa_cons (pv 0) (pa_cons (pe_bltn (v := .ty "int") (by rfl) T.b_int (by decide +kernel) rfl) pa_nil))) (pe_one (pe_not (pe_callB call_isN (by rfl) T.b_isinstance (by decide +kernel) (pa_cons (pv 0) (pa_cons (pe_bltn (v := .ty "bool") (by rfl) T.b_bool (by decide +kernel) rfl) pa_nil)))))))), ?_⟩
  obtain ⟨t, ht⟩ := Option.isSome_iff_exists.mp hv
  rw [wholeV_ty ht] at q
  have mt := tyN_mem ht
  simp only [List.mem_cons, List.not_mem_nil, or_false] at mt
  rcases mt with rfl | rfl | rfl | rfl | rfl | rfl | rfl <;> (simp only [ht, cx_K, decide_true, decide_false, reduceCtorEq, gTp, gCons, gNil, ca_0, ca_1, ca_2, ca_3, ca_4, ca_5, ca_6, ca_7, ca_8, ca_9, ca_10, ca_11, ca_12, ca_13, ca_14, ca_15, ca_16, ca_17, ca_18, ca_19, ca_20, ca_21, ca_22, ca_23, ca_24, ca_25, ca_26, ca_27, ca_28, ca_29, ca_30, not_true_eq_false, not_false_eq_true, Int.reduceEq, Nat.reduceEqDiff, Nat.reduceLeDiff, rGcd, V.ty.injEq, eq_self, List.not_mem_nil, beq_self_eq_true, HO.lst.injEq, HO.tup.injEq, tFor_eq, iRng1, iList, iTup, nat10, tSeq, rIxA, rSetA, rIsN, rIsT, tTp, tLs, itsO_tup, itsO_lst, tyO_tup, tyO_lst, tyO_dK, tyN_non, tyN_bl, tyN_int, tyN_str, tyN_ref, tyNs_lt, isB, upd_same, upd_upd, sizeLine_eq, List.mem_cons, String.reduceBEq, String.reduceEq, Bool.or_false, Bool.or_true, Bool.and_false, Bool.false_or, Bool.and_self, Bool.false_and, Bool.not_false, Bool.not_true, List.any_cons, List.any_nil, atI_0, setI_0, atI_1, setI_1, atI_2, setI_2, atI_3, setI_3, atI_4, setI_4, atI_5, setI_5, atI_6, setI_6, tAsg, gName, tOp, tUn, tVar, tC, tCons, L2.tNil, tRet, tIfS, tTest, tCB, tCall, rI, rI0, rU, tNext, tB, tAnd, tOr, tNot, tAndV, tOrV, tNotV, tDrop, tIf, tPar, gSub, rIxL, rIxT, rEq, rNe, rSetL, tBits,
    L2.start, List.map_cons, List.map_nil, List.cons_append, List.nil_append, List.append_nil, List.length_cons, List.length_nil, List.replicate, Nat.reduceAdd, Nat.reduceSub, Nat.zero_add, List.getElem?_cons_zero, List.getElem?_cons_succ, List.set_cons_zero, List.set_cons_succ,
    Option.some.injEq, exists_eq_left', exists_eq_left, V.int.injEq, V.bl.injEq, V.ref.injEq, V.str.injEq, List.cons.injEq, reduceCtorEq, and_true, true_and, false_and, and_false, exists_false, or_false, false_or, or_true, true_or, exists_const, CMul, CDiv, CPow, and_assoc, exists_and_left, exists_and_right, Int.reducePow, Int.reduceNeg, Int.reduceLT, Int.reduceLE, Nat.reducePow, Nat.reduceLT, Int.reduceToNat, gt_iff_lt, ge_iff_le, decide_eq_true_eq, Bool.not_eq_true', decide_eq_false_iff_not, scal, ↓reduceIte, Bool.false_eq_true]; simpa using q)
abbrev sLWhole : Stmt := topS 50
theorem scLWhole : FnScope ["_law_told"] ["_law_told"] (defScope sLWhole) := ⟨rfl, rfl, rfl, by decide +kernel, rfl, by decide +kernel, by decide +kernel⟩
theorem k_LWhole (T : Bt K mg) (D : Dfn K mg "_law_is_whole" sLWhole ["_law_told"]) : Kn P w K mg base 1 "_law_is_whole" ["_law_told"] (spWhole K) := by
  refine Kn.mk' D scLWhole (fun vs H Q E h => ?_) (fun f cdv A outer s H vs Q E hr h => ?_)
  · obtain ⟨v, rfl, _⟩ := h
    rfl
  obtain ⟨v, rfl, hv, q⟩ := h
  refine ⟨_, (pss_one (ps_ret (pe_and (pe_callB call_isN (by rfl) T.b_isinstance (by decide +kernel) (pa_cons (pv 0) (pa_cons (pe_bltn (v := .ty "int") (by rfl) T.b_int (by decide +kernel) rfl) pa_nil))) (pe_one (pe_not (pe_callB call_isN (by rfl) T.b_isinstance (by decide +kernel) (pa_cons (pv 0) (pa_cons (pe_bltn (v := .ty "bool") (by rfl) T.b_bool (by decide +kernel) rfl) pa_nil)))))))), ?_⟩
  obtain ⟨t, ht⟩ := Option.isSome_iff_exists.mp hv
  rw [wholeV_ty ht] at q
  have mt := tyN_mem ht
  simp only [List.mem_cons, List.not_mem_nil, or_false] at mt
  rcases mt with rfl | rfl | rfl | rfl | rfl | rfl | rfl <;> (simp only [ht, cx_K, decide_true, decide_false, reduceCtorEq, gTp, gCons, gNil, ca_0, ca_1, ca_2, ca_3, ca_4, ca_5, ca_6, ca_7, ca_8, ca_9, ca_10, ca_11, ca_12, ca_13, ca_14, ca_15, ca_16, ca_17, ca_18, ca_19, ca_20, ca_21, ca_22, ca_23, ca_24, ca_25, ca_26, ca_27, ca_28, ca_29, ca_30, not_true_eq_false, not_false_eq_true, Int.reduceEq, Nat.reduceEqDiff, Nat.reduceLeDiff, rGcd, V.ty.injEq, eq_self, List.not_mem_nil, beq_self_eq_true, HO.lst.injEq, HO.tup.injEq, tFor_eq, iRng1, iList, iTup, nat10, tSeq, rIxA, rSetA, rIsN, rIsT, tTp, tLs, itsO_tup, itsO_lst, tyO_tup, tyO_lst, tyO_dK, tyN_non, tyN_bl, tyN_int, tyN_str, tyN_ref, tyNs_lt, isB, upd_same, upd_upd, sizeLine_eq, List.mem_cons, String.reduceBEq, String.reduceEq, Bool.or_false, Bool.or_true, Bool.and_false, Bool.false_or, Bool.and_self, Bool.false_and, Bool.not_false, Bool.not_true, List.any_cons, List.any_nil, atI_0, setI_0, atI_1, setI_1, atI_2, setI_2, atI_3, setI_3, atI_4, setI_4, atI_5, setI_5, atI_6, setI_6, tAsg, gName, tOp, tUn, tVar, tC, tCons, L2.tNil, tRet, tIfS, tTest, tCB, tCall, rI, rI0, rU, tNext, tB, tAnd, tOr, tNot, tAndV, tOrV, tNotV, tDrop, tIf, tPar, gSub, rIxL, rIxT, rEq, rNe, rSetL, tBits,
    L2.start, List.map_cons, List.map_nil, List.cons_append, List.nil_append, List.append_nil, List.length_cons, List.length_nil, List.replicate, Nat.reduceAdd, Nat.reduceSub, Nat.zero_add, List.getElem?_cons_zero, List.getElem?_cons_succ, List.set_cons_zero, List.set_cons_succ,
    Option.some.injEq, exists_eq_left', exists_eq_left, V.int.injEq, V.bl.injEq, V.ref.injEq, V.str.injEq, List.cons.injEq, reduceCtorEq, and_true, true_and, false_and, and_false, exists_false, or_false, false_or, or_true, true_or, exists_const, CMul, CDiv, CPow, and_assoc, exists_and_left, exists_and_right, Int.reducePow, Int.reduceNeg, Int.reduceLT, Int.reduceLE, Nat.reducePow, Nat.reduceLT, Int.reduceToNat, gt_iff_lt, ge_iff_le, decide_eq_true_eq, Bool.not_eq_true', decide_eq_false_iff_not, scal, ↓reduceIte, Bool.false_eq_true]; simpa using q)
def spFraction (K : PySem.W.Frag) : Sp := fun vs H Q _ => ∃ n d : Int, vs = [.int n, .int d] ∧ d ≠ 0 ∧ d.natAbs < 2 ^ 8000 ∧ ∀ q, Is q n d → Gv K H Q q
theorem gcdX {n d : Int} (h0 : d ≠ 0) (hz : d.natAbs < 2 ^ 8000) (x : Int) : CDivX x (if d < 0 then -((Int.gcd n d : Nat) : Int) else (Int.gcd n d : Nat)) := by
  have g0 := gcd_pos (t := n) (b := d) h0
  have g1 := gcd_le (t := n) (b := d) h0
  have e : 2 ^ 8000 ≤ 2 ^ 8999 := Nat.pow_le_pow_right (by omega) (by omega)
  unfold CDivX
  split <;> refine ⟨by omega, by omega⟩
abbrev sFraction : Stmt := topS 22
theorem scFraction : FnScope ["numerator", "denominator", "divisor"] ["numerator", "denominator"] (defScope sFraction) := ⟨rfl, rfl, rfl, by decide +kernel, rfl, by decide +kernel, by decide +kernel⟩
theorem k_Fraction (T : Bt K mg) (D : DfnD K mg "fraction" sFraction ["numerator", "denominator"]) (d_require : Kn P w K mg base 1 "require" ["well_formed", "what"] spRequire) (d_is_whole : Kn P w K mg base 1 "is_whole" ["value"] (spWhole K)) : Kn P w K mg base 2 "fraction" ["numerator", "denominator"] (spFraction K) := by
  refine Kn.mkD D scFraction (fun vs H Q E h => ?_) (fun f cdv A outer s H vs Q E hr h => ?_)
  · obtain ⟨n, d, rfl, _⟩ := h
    rfl
  obtain ⟨n, d, rfl, h0, hz, q⟩ := h
  refine ⟨_, (pss_cons (ps_expr (pe_kn d_require hr (by rfl) (pa_cons (pe_kn d_is_whole hr (by rfl) (pa_cons (pv 0) pa_nil)) (pa_cons pe_str pa_nil))))
      (pss_cons (ps_expr (pe_kn d_require hr (by rfl) (pa_cons (pe_and (pe_kn d_is_whole hr (by rfl) (pa_cons (pv 1) pa_nil)) (pe_one (pe_cmpR op_ne (pv 1) pe_int (nomark _)))) (pa_cons pe_str pa_nil))))
      (pss_cons (ps_set (i := 2) scFraction.nd rfl (.inl rfl) (pe_callBfun cr_gcd (by rfl) T.g_gcd (pa_cons (pv 0) (pa_cons (pv 1) pa_nil))))
      (pss_cons (ps_if (pt_cmpR op_lt (pv 1) pe_int (nomark _)) (pss_one (ps_set (i := 2) scFraction.nd rfl (.inl rfl) (pe_un un_neg (pv 2)))) pss_nil)
      (pss_one (ps_ret (pe_tp (pa_cons (pe_op op_fdivX (pv 0) (pv 2)) (pa_cons (pe_op op_fdivX (pv 1) (pv 2)) pa_nil))))))))), ?_⟩
  simp only [cx_K, decide_true, decide_false, reduceCtorEq, gTp, gCons, gNil, ca_0, ca_1, ca_2, ca_3, ca_4, ca_5, ca_6, ca_7, ca_8, ca_9, ca_10, ca_11, ca_12, ca_13, ca_14, ca_15, ca_16, ca_17, ca_18, ca_19, ca_20, ca_21, ca_22, ca_23, ca_24, ca_25, ca_26, ca_27, ca_28, ca_29, ca_30, not_true_eq_false, not_false_eq_true, Int.reduceEq, Nat.reduceEqDiff, Nat.reduceLeDiff, rGcd, V.ty.injEq, eq_self, List.not_mem_nil, beq_self_eq_true, HO.lst.injEq, HO.tup.injEq, tFor_eq, iRng1, iList, iTup, nat10, tSeq, rIxA, rSetA, rIsN, rIsT, tTp, tLs, itsO_tup, itsO_lst, tyO_tup, tyO_lst, tyO_dK, tyN_non, tyN_bl, tyN_int, tyN_str, tyN_ref, tyNs_lt, isB, upd_same, upd_upd, sizeLine_eq, List.mem_cons, String.reduceBEq, String.reduceEq, Bool.or_false, Bool.or_true, Bool.and_false, Bool.false_or, Bool.and_self, Bool.false_and, Bool.not_false, Bool.not_true, List.any_cons, List.any_nil, atI_0, setI_0, atI_1, setI_1, atI_2, setI_2, atI_3, setI_3, atI_4, setI_4, atI_5, setI_5, atI_6, setI_6, tAsg, gName, tOp, tUn, tVar, tC, tCons, L2.tNil, tRet, tIfS, tTest, tCB, tCall, rI, rI0, rU, tNext, tB, tAnd, tOr, tNot, tAndV, tOrV, tNotV, tDrop, tIf, tPar, gSub, rIxL, rIxT, rEq, rNe, rSetL, tBits,
    L2.start, List.map_cons, List.map_nil, List.cons_append, List.nil_append, List.append_nil, List.length_cons, List.length_nil, List.replicate, Nat.reduceAdd, Nat.reduceSub, Nat.zero_add, List.getElem?_cons_zero, List.getElem?_cons_succ, List.set_cons_zero, List.set_cons_succ,
    Option.some.injEq, exists_eq_left', exists_eq_left, V.int.injEq, V.bl.injEq, V.ref.injEq, V.str.injEq, List.cons.injEq, reduceCtorEq, and_true, true_and, false_and, and_false, exists_false, or_false, false_or, or_true, true_or, exists_const, CMul, CDiv, CPow, and_assoc, exists_and_left, exists_and_right, Int.reducePow, Int.reduceNeg, Int.reduceLT, Int.reduceLE, Nat.reducePow, Nat.reduceLT, Int.reduceToNat, gt_iff_lt, ge_iff_le, decide_eq_true_eq, Bool.not_eq_true', decide_eq_false_iff_not, scal, ↓reduceIte, Bool.false_eq_true]
  refine ⟨_, rfl, rfl, ⟨_, rfl, ⟨_, rfl, rfl, ⟨true, rfl, ?_⟩⟩⟩⟩
  rw [if_pos rfl]
  refine ⟨_, by rw [decide_eq_false h0]; rfl, ?_⟩
  simp only [cx_K, decide_true, decide_false, reduceCtorEq, gTp, gCons, gNil, ca_0, ca_1, ca_2, ca_3, ca_4, ca_5, ca_6, ca_7, ca_8, ca_9, ca_10, ca_11, ca_12, ca_13, ca_14, ca_15, ca_16, ca_17, ca_18, ca_19, ca_20, ca_21, ca_22, ca_23, ca_24, ca_25, ca_26, ca_27, ca_28, ca_29, ca_30, not_true_eq_false, not_false_eq_true, Int.reduceEq, Nat.reduceEqDiff, Nat.reduceLeDiff, rGcd, V.ty.injEq, eq_self, List.not_mem_nil, beq_self_eq_true, HO.lst.injEq, HO.tup.injEq, tFor_eq, iRng1, iList, iTup, nat10, tSeq, rIxA, rSetA, rIsN, rIsT, tTp, tLs, itsO_tup, itsO_lst, tyO_tup, tyO_lst, tyO_dK, tyN_non, tyN_bl, tyN_int, tyN_str, tyN_ref, tyNs_lt, isB, upd_same, upd_upd, sizeLine_eq, List.mem_cons, String.reduceBEq, String.reduceEq, Bool.or_false, Bool.or_true, Bool.and_false, Bool.false_or, Bool.and_self, Bool.false_and, Bool.not_false, Bool.not_true, List.any_cons, List.any_nil, atI_0, setI_0, atI_1, setI_1, atI_2, setI_2, atI_3, setI_3, atI_4, setI_4, atI_5, setI_5, atI_6, setI_6, tAsg, gName, tOp, tUn, tVar, tC, tCons, L2.tNil, tRet, tIfS, tTest, tCB, tCall, rI, rI0, rU, tNext, tB, tAnd, tOr, tNot, tAndV, tOrV, tNotV, tDrop, tIf, tPar, gSub, rIxL, rIxT, rEq, rNe, rSetL, tBits,
    L2.start, List.map_cons, List.map_nil, List.cons_append, List.nil_append, List.append_nil, List.length_cons, List.length_nil, List.replicate, Nat.reduceAdd, Nat.reduceSub, Nat.zero_add, List.getElem?_cons_zero, List.getElem?_cons_succ, List.set_cons_zero, List.set_cons_succ,
    Option.some.injEq, exists_eq_left', exists_eq_left, V.int.injEq, V.bl.injEq, V.ref.injEq, V.str.injEq, List.cons.injEq, reduceCtorEq, and_true, true_and, false_and, and_false, exists_false, or_false, false_or, or_true, true_or, exists_const, CMul, CDiv, CPow, and_assoc, exists_and_left, exists_and_right, Int.reducePow, Int.reduceNeg, Int.reduceLT, Int.reduceLE, Nat.reducePow, Nat.reduceLT, Int.reduceToNat, gt_iff_lt, ge_iff_le, decide_eq_true_eq, Bool.not_eq_true', decide_eq_false_iff_not, scal, ↓reduceIte, Bool.false_eq_true]
  have k := gcdX (n := n) h0 hz
  have v := is_fdiv (t := n) h0
  refine ite2 (fun h => ?_) (fun h => ?_)
  · rw [if_pos h] at v
    simp only [if_pos h] at k
    exact ⟨k _, k _, fun p hp kp => (q _ v).new hp kp⟩
  · rw [if_neg h] at v
    simp only [if_neg h] at k
    exact ⟨k _, k _, fun p hp kp => (q _ v).new hp kp⟩
def frOk (K : PySem.W.Frag) (H : Hp) : V → Bool
  | .ref a => match ob K H a with
    | some (.tup [.int n, .int d]) => decide (1 ≤ d) && decide (Int.gcd n d = 1)
    | _ => false
  | _ => false
theorem frOk_fr {H : Hp} {a : Addr} {q : Qt} (h : ob K H a = some (frt q)) (hn : Nf q) : frOk K H (.ref a) = true := by
  simp only [frOk, h, frt]
  show (decide (1 ≤ q.2) && decide (Int.gcd q.1 q.2 = 1)) = true
  rw [decide_eq_true hn.1, decide_eq_true hn.2]
  rfl
/-- v and, if it is a tuple, its items are of known kinds -/
def Tyd (K : PySem.W.Frag) (H : Hp) (v : V) : Prop := (tyN K H v).isSome ∧ ∀ a xs, v = .ref a → ob K H a = some (.tup xs) → ∀ x ∈ xs, (tyN K H x).isSome
theorem Tyd.fr {H : Hp} {a : Addr} {q : Qt} (h : ob K H a = some (frt q)) : Tyd K H (.ref a) := by
  refine ⟨by rw [tyN_ref, h]; rfl, fun b xs e hx x hm => ?_⟩
  cases e
  rw [h] at hx
  cases hx
  simp only [List.mem_cons, List.not_mem_nil, or_false] at hm
  rcases hm with rfl | rfl <;> rfl
theorem tyN_tuple {H : Hp} {v : V} (h : tyN K H v = some "tuple") : ∃ a xs, v = .ref a ∧ ob K H a = some (.tup xs) := by
  cases v with
  | ref a =>
    have h1 : tyO (ob K H a) = some "tuple" := h
    unfold tyO at h1
    split at h1 <;> first | exact ⟨a, _, rfl, by assumption⟩ | (exfalso; revert h1; decide)
  | _ => exfalso; revert h; simp only [tyN]; decide
def spIsFraction (K : PySem.W.Frag) : Sp := fun vs H Q _ => ∃ v, vs = [v] ∧ Tyd K H v ∧ Q (.bl (frOk K H v)) H
abbrev sIsFraction : Stmt := topS 23
theorem scIsFraction : FnScope ["value", "numerator", "denominator"] ["value"] (defScope sIsFraction) := ⟨rfl, rfl, rfl, by decide +kernel, rfl, by decide +kernel, by decide +kernel⟩
theorem k_IsFraction (T : Bt K mg) (D : Dfn K mg "is_fraction" sIsFraction ["value"]) (d_is_whole : Kn P w K mg base 1 "is_whole" ["value"] (spWhole K)) : Kn P w K mg base 2 "is_fraction" ["value"] (spIsFraction K) := by
  refine Kn.mk' D scIsFraction (fun vs H Q E h => ?_) (fun f cdv A outer s H vs Q E hr h => ?_)
  · obtain ⟨v, rfl, _⟩ := h
    rfl
  obtain ⟨v, rfl, hv, q⟩ := h
  refine ⟨_, (pss_cons (ps_if (PW.pt (pw_or (pt_not (pt_val (pe_callB call_isN (by rfl) T.b_isinstance (by decide +kernel) (pa_cons (pv 0) (pa_cons (pe_bltn (v := .ty "tuple") (by rfl) T.b_tuple (by decide +kernel) rfl) pa_nil))))) (pw_or1 (pt_cmpR op_ne (pe_callB call_lenA (by rfl) T.b_len PySem.boot_len (pa_cons (pv 0) pa_nil)) pe_int (nomark _))))) (pss_one (ps_ret pe_bl)) pss_nil)
      (pss_cons (ps_asg (pv 0) (pg_tp 2 (by rfl) (pgs_cons (pg_name (i := 1) scIsFraction.nd rfl (.inl rfl)) (pgs_cons (pg_name (i := 2) scIsFraction.nd rfl (.inl rfl)) pgs_nil))))
      (pss_cons (ps_if (PW.pt (pw_or (pt_not (pt_val (pe_kn d_is_whole hr (by rfl) (pa_cons (pv 1) pa_nil)))) (pw_or1 (pt_not (pt_val (pe_kn d_is_whole hr (by rfl) (pa_cons (pv 2) pa_nil))))))) (pss_one (ps_ret pe_bl)) pss_nil)
      (pss_one (ps_ret (pe_and (pe_cmpR op_ge (pv 2) pe_int (nomark _)) (pe_one (pe_cmpR op_eq (pe_callBfun cr_gcd (by rfl) T.g_gcd (pa_cons (pv 1) (pa_cons (pv 2) pa_nil))) pe_int (nomark _))))))))), ?_⟩
  obtain ⟨t, ht⟩ := Option.isSome_iff_exists.mp hv.1
  by_cases e : t = "tuple"
  · subst e
    obtain ⟨a, xs, rfl, ha⟩ := tyN_tuple ht
    have hx := hv.2 a xs rfl ha
    match xs, ha, hx with
    | [], ha, hx =>
      have e : frOk K H (.ref a) = false := by simp only [frOk, ha]
      rw [e] at q
      simp only [ha, cx_K, decide_true, decide_false, reduceCtorEq, gTp, gCons, gNil, ca_0, ca_1, ca_2, ca_3, ca_4, ca_5, ca_6, ca_7, ca_8, ca_9, ca_10, ca_11, ca_12, ca_13, ca_14, ca_15, ca_16, ca_17, ca_18, ca_19, ca_20, ca_21, ca_22, ca_23, ca_24, ca_25, ca_26, ca_27, ca_28, ca_29, ca_30, not_true_eq_false, not_false_eq_true, Int.reduceEq, Nat.reduceEqDiff, Nat.reduceLeDiff, rGcd, V.ty.injEq, eq_self, List.not_mem_nil, beq_self_eq_true, HO.lst.injEq, HO.tup.injEq, tFor_eq, iRng1, iList, iTup, nat10, tSeq, rIxA, rSetA, rIsN, rIsT, tTp, tLs, itsO_tup, itsO_lst, tyO_tup, tyO_lst, tyO_dK, tyN_non, tyN_bl, tyN_int, tyN_str, tyN_ref, tyNs_lt, isB, upd_same, upd_upd, sizeLine_eq, List.mem_cons, String.reduceBEq, String.reduceEq, Bool.or_false, Bool.or_true, Bool.and_false, Bool.false_or, Bool.and_self, Bool.false_and, Bool.not_false, Bool.not_true, List.any_cons, List.any_nil, atI_0, setI_0, atI_1, setI_1, atI_2, setI_2, atI_3, setI_3, atI_4, setI_4, atI_5, setI_5, atI_6, setI_6, tAsg, gName, tOp, tUn, tVar, tC, tCons, L2.tNil, tRet, tIfS, tTest, tCB, tCall, rI, rI0, rU, tNext, tB, tAnd, tOr, tNot, tAndV, tOrV, tNotV, tDrop, tIf, tPar, gSub, rIxL, rIxT, rEq, rNe, rSetL, tBits,
    L2.start, List.map_cons, List.map_nil, List.cons_append, List.nil_append, List.append_nil, List.length_cons, List.length_nil, List.replicate, Nat.reduceAdd, Nat.reduceSub, Nat.zero_add, List.getElem?_cons_zero, List.getElem?_cons_succ, List.set_cons_zero, List.set_cons_succ,
    Option.some.injEq, exists_eq_left', exists_eq_left, V.int.injEq, V.bl.injEq, V.ref.injEq, V.str.injEq, List.cons.injEq, reduceCtorEq, and_true, true_and, false_and, and_false, exists_false, or_false, false_or, or_true, true_or, exists_const, CMul, CDiv, CPow, and_assoc, exists_and_left, exists_and_right, Int.reducePow, Int.reduceNeg, Int.reduceLT, Int.reduceLE, Nat.reducePow, Nat.reduceLT, Int.reduceToNat, gt_iff_lt, ge_iff_le, decide_eq_true_eq, Bool.not_eq_true', decide_eq_false_iff_not, scal, ↓reduceIte, Bool.false_eq_true]
      exact q
    | [x], ha, hx =>
      have e : frOk K H (.ref a) = false := by simp only [frOk, ha]
      rw [e] at q
      simp only [ha, cx_K, decide_true, decide_false, reduceCtorEq, gTp, gCons, gNil, ca_0, ca_1, ca_2, ca_3, ca_4, ca_5, ca_6, ca_7, ca_8, ca_9, ca_10, ca_11, ca_12, ca_13, ca_14, ca_15, ca_16, ca_17, ca_18, ca_19, ca_20, ca_21, ca_22, ca_23, ca_24, ca_25, ca_26, ca_27, ca_28, ca_29, ca_30, not_true_eq_false, not_false_eq_true, Int.reduceEq, Nat.reduceEqDiff, Nat.reduceLeDiff, rGcd, V.ty.injEq, eq_self, List.not_mem_nil, beq_self_eq_true, HO.lst.injEq, HO.tup.injEq, tFor_eq, iRng1, iList, iTup, nat10, tSeq, rIxA, rSetA, rIsN, rIsT, tTp, tLs, itsO_tup, itsO_lst, tyO_tup, tyO_lst, tyO_dK, tyN_non, tyN_bl, tyN_int, tyN_str, tyN_ref, tyNs_lt, isB, upd_same, upd_upd, sizeLine_eq, List.mem_cons, String.reduceBEq, String.reduceEq, Bool.or_false, Bool.or_true, Bool.and_false, Bool.false_or, Bool.and_self, Bool.false_and, Bool.not_false, Bool.not_true, List.any_cons, List.any_nil, atI_0, setI_0, atI_1, setI_1, atI_2, setI_2, atI_3, setI_3, atI_4, setI_4, atI_5, setI_5, atI_6, setI_6, tAsg, gName, tOp, tUn, tVar, tC, tCons, L2.tNil, tRet, tIfS, tTest, tCB, tCall, rI, rI0, rU, tNext, tB, tAnd, tOr, tNot, tAndV, tOrV, tNotV, tDrop, tIf, tPar, gSub, rIxL, rIxT, rEq, rNe, rSetL, tBits,
    L2.start, List.map_cons, List.map_nil, List.cons_append, List.nil_append, List.append_nil, List.length_cons, List.length_nil, List.replicate, Nat.reduceAdd, Nat.reduceSub, Nat.zero_add, List.getElem?_cons_zero, List.getElem?_cons_succ, List.set_cons_zero, List.set_cons_succ,
    Option.some.injEq, exists_eq_left', exists_eq_left, V.int.injEq, V.bl.injEq, V.ref.injEq, V.str.injEq, List.cons.injEq, reduceCtorEq, and_true, true_and, false_and, and_false, exists_false, or_false, false_or, or_true, true_or, exists_const, CMul, CDiv, CPow, and_assoc, exists_and_left, exists_and_right, Int.reducePow, Int.reduceNeg, Int.reduceLT, Int.reduceLE, Nat.reducePow, Nat.reduceLT, Int.reduceToNat, gt_iff_lt, ge_iff_le, decide_eq_true_eq, Bool.not_eq_true', decide_eq_false_iff_not, scal, ↓reduceIte, Bool.false_eq_true]
      exact q
    | [x, y], ha, hx =>
      have hx1 := hx x (by simp)
      have hx2 := hx y (by simp)
      simp only [ha, cx_K, decide_true, decide_false, reduceCtorEq, gTp, gCons, gNil, ca_0, ca_1, ca_2, ca_3, ca_4, ca_5, ca_6, ca_7, ca_8, ca_9, ca_10, ca_11, ca_12, ca_13, ca_14, ca_15, ca_16, ca_17, ca_18, ca_19, ca_20, ca_21, ca_22, ca_23, ca_24, ca_25, ca_26, ca_27, ca_28, ca_29, ca_30, not_true_eq_false, not_false_eq_true, Int.reduceEq, Nat.reduceEqDiff, Nat.reduceLeDiff, rGcd, V.ty.injEq, eq_self, List.not_mem_nil, beq_self_eq_true, HO.lst.injEq, HO.tup.injEq, tFor_eq, iRng1, iList, iTup, nat10, tSeq, rIxA, rSetA, rIsN, rIsT, tTp, tLs, itsO_tup, itsO_lst, tyO_tup, tyO_lst, tyO_dK, tyN_non, tyN_bl, tyN_int, tyN_str, tyN_ref, tyNs_lt, isB, upd_same, upd_upd, sizeLine_eq, List.mem_cons, String.reduceBEq, String.reduceEq, Bool.or_false, Bool.or_true, Bool.and_false, Bool.false_or, Bool.and_self, Bool.false_and, Bool.not_false, Bool.not_true, List.any_cons, List.any_nil, atI_0, setI_0, atI_1, setI_1, atI_2, setI_2, atI_3, setI_3, atI_4, setI_4, atI_5, setI_5, atI_6, setI_6, tAsg, gName, tOp, tUn, tVar, tC, tCons, L2.tNil, tRet, tIfS, tTest, tCB, tCall, rI, rI0, rU, tNext, tB, tAnd, tOr, tNot, tAndV, tOrV, tNotV, tDrop, tIf, tPar, gSub, rIxL, rIxT, rEq, rNe, rSetL, tBits,
    L2.start, List.map_cons, List.map_nil, List.cons_append, List.nil_append, List.append_nil, List.length_cons, List.length_nil, List.replicate, Nat.reduceAdd, Nat.reduceSub, Nat.zero_add, List.getElem?_cons_zero, List.getElem?_cons_succ, List.set_cons_zero, List.set_cons_succ,
    Option.some.injEq, exists_eq_left', exists_eq_left, V.int.injEq, V.bl.injEq, V.ref.injEq, V.str.injEq, List.cons.injEq, reduceCtorEq, and_true, true_and, false_and, and_false, exists_false, or_false, false_or, or_true, true_or, exists_const, CMul, CDiv, CPow, and_assoc, exists_and_left, exists_and_right, Int.reducePow, Int.reduceNeg, Int.reduceLT, Int.reduceLE, Nat.reducePow, Nat.reduceLT, Int.reduceToNat, gt_iff_lt, ge_iff_le, decide_eq_true_eq, Bool.not_eq_true', decide_eq_false_iff_not, scal, ↓reduceIte, Bool.false_eq_true]
      refine ⟨_, rfl, hx1, ?_⟩
      cases x with
      | int n =>
        refine ⟨true, rfl, ?_⟩
        rw [if_neg Bool.noConfusion]
        refine ⟨_, rfl, hx2, ?_⟩
        cases y with
        | int d =>
          refine ⟨true, rfl, ?_⟩
          rw [if_neg Bool.noConfusion]
          simp only [ha, cx_K, decide_true, decide_false, reduceCtorEq, gTp, gCons, gNil, ca_0, ca_1, ca_2, ca_3, ca_4, ca_5, ca_6, ca_7, ca_8, ca_9, ca_10, ca_11, ca_12, ca_13, ca_14, ca_15, ca_16, ca_17, ca_18, ca_19, ca_20, ca_21, ca_22, ca_23, ca_24, ca_25, ca_26, ca_27, ca_28, ca_29, ca_30, not_true_eq_false, not_false_eq_true, Int.reduceEq, Nat.reduceEqDiff, Nat.reduceLeDiff, rGcd, V.ty.injEq, eq_self, List.not_mem_nil, beq_self_eq_true, HO.lst.injEq, HO.tup.injEq, tFor_eq, iRng1, iList, iTup, nat10, tSeq, rIxA, rSetA, rIsN, rIsT, tTp, tLs, itsO_tup, itsO_lst, tyO_tup, tyO_lst, tyO_dK, tyN_non, tyN_bl, tyN_int, tyN_str, tyN_ref, tyNs_lt, isB, upd_same, upd_upd, sizeLine_eq, List.mem_cons, String.reduceBEq, String.reduceEq, Bool.or_false, Bool.or_true, Bool.and_false, Bool.false_or, Bool.and_self, Bool.false_and, Bool.not_false, Bool.not_true, List.any_cons, List.any_nil, atI_0, setI_0, atI_1, setI_1, atI_2, setI_2, atI_3, setI_3, atI_4, setI_4, atI_5, setI_5, atI_6, setI_6, tAsg, gName, tOp, tUn, tVar, tC, tCons, L2.tNil, tRet, tIfS, tTest, tCB, tCall, rI, rI0, rU, tNext, tB, tAnd, tOr, tNot, tAndV, tOrV, tNotV, tDrop, tIf, tPar, gSub, rIxL, rIxT, rEq, rNe, rSetL, tBits,
    L2.start, List.map_cons, List.map_nil, List.cons_append, List.nil_append, List.append_nil, List.length_cons, List.length_nil, List.replicate, Nat.reduceAdd, Nat.reduceSub, Nat.zero_add, List.getElem?_cons_zero, List.getElem?_cons_succ, List.set_cons_zero, List.set_cons_succ,
    Option.some.injEq, exists_eq_left', exists_eq_left, V.int.injEq, V.bl.injEq, V.ref.injEq, V.str.injEq, List.cons.injEq, reduceCtorEq, and_true, true_and, false_and, and_false, exists_false, or_false, false_or, or_true, true_or, exists_const, CMul, CDiv, CPow, and_assoc, exists_and_left, exists_and_right, Int.reducePow, Int.reduceNeg, Int.reduceLT, Int.reduceLE, Nat.reducePow, Nat.reduceLT, Int.reduceToNat, gt_iff_lt, ge_iff_le, decide_eq_true_eq, Bool.not_eq_true', decide_eq_false_iff_not, scal, ↓reduceIte, Bool.false_eq_true]
          refine ite2 (fun h => ?_) (fun h => ?_)
          · have e : frOk K H (.ref a) = decide (((n.natAbs.gcd d.natAbs : Nat) : Int) = 1) := by
              simp only [frOk, ha]
              rw [decide_eq_true h, Bool.true_and]
              show decide (Nat.gcd n.natAbs d.natAbs = 1) = _
              exact decide_eq_decide.mpr (by omega)
            rw [e] at q
            exact q
          · have e : frOk K H (.ref a) = false := by
              simp only [frOk, ha]
              rw [decide_eq_false h, Bool.false_and]
            rw [e] at q
            exact q
        | _ =>
          refine ⟨false, rfl, ?_⟩
          rw [if_pos rfl]
          have e : frOk K H (.ref a) = false := by simp only [frOk, ha]
          rw [e] at q
          exact q
      | _ =>
        refine ⟨false, rfl, ?_⟩
        rw [if_pos rfl]
        have e : frOk K H (.ref a) = false := by simp only [frOk, ha]
        rw [e] at q
        exact q
    | x :: y :: z :: r, ha, hx =>
      have e : frOk K H (.ref a) = false := by simp only [frOk, ha]
      rw [e] at q
      simp only [ha, cx_K, decide_true, decide_false, reduceCtorEq, gTp, gCons, gNil, ca_0, ca_1, ca_2, ca_3, ca_4, ca_5, ca_6, ca_7, ca_8, ca_9, ca_10, ca_11, ca_12, ca_13, ca_14, ca_15, ca_16, ca_17, ca_18, ca_19, ca_20, ca_21, ca_22, ca_23, ca_24, ca_25, ca_26, ca_27, ca_28, ca_29, ca_30, not_true_eq_false, not_false_eq_true, Int.reduceEq, Nat.reduceEqDiff, Nat.reduceLeDiff, rGcd, V.ty.injEq, eq_self, List.not_mem_nil, beq_self_eq_true, HO.lst.injEq, HO.tup.injEq, tFor_eq, iRng1, iList, iTup, nat10, tSeq, rIxA, rSetA, rIsN, rIsT, tTp, tLs, itsO_tup, itsO_lst, tyO_tup, tyO_lst, tyO_dK, tyN_non, tyN_bl, tyN_int, tyN_str, tyN_ref, tyNs_lt, isB, upd_same, upd_upd, sizeLine_eq, List.mem_cons, String.reduceBEq, String.reduceEq, Bool.or_false, Bool.or_true, Bool.and_false, Bool.false_or, Bool.and_self, Bool.false_and, Bool.not_false, Bool.not_true, List.any_cons, List.any_nil, atI_0, setI_0, atI_1, setI_1, atI_2, setI_2, atI_3, setI_3, atI_4, setI_4, atI_5, setI_5, atI_6, setI_6, tAsg, gName, tOp, tUn, tVar, tC, tCons, L2.tNil, tRet, tIfS, tTest, tCB, tCall, rI, rI0, rU, tNext, tB, tAnd, tOr, tNot, tAndV, tOrV, tNotV, tDrop, tIf, tPar, gSub, rIxL, rIxT, rEq, rNe, rSetL, tBits,
    L2.start, List.map_cons, List.map_nil, List.cons_append, List.nil_append, List.append_nil, List.length_cons, List.length_nil, List.replicate, Nat.reduceAdd, Nat.reduceSub, Nat.zero_add, List.getElem?_cons_zero, List.getElem?_cons_succ, List.set_cons_zero, List.set_cons_succ,
    Option.some.injEq, exists_eq_left', exists_eq_left, V.int.injEq, V.bl.injEq, V.ref.injEq, V.str.injEq, List.cons.injEq, reduceCtorEq, and_true, true_and, false_and, and_false, exists_false, or_false, false_or, or_true, true_or, exists_const, CMul, CDiv, CPow, and_assoc, exists_and_left, exists_and_right, Int.reducePow, Int.reduceNeg, Int.reduceLT, Int.reduceLE, Nat.reducePow, Nat.reduceLT, Int.reduceToNat, gt_iff_lt, ge_iff_le, decide_eq_true_eq, Bool.not_eq_true', decide_eq_false_iff_not, scal, ↓reduceIte, Bool.false_eq_true]
      refine ite2 (fun h => q) (fun h => ?_)
      exfalso
      omega
  · have e1 : frOk K H v = false := by
      cases v with
      | ref a =>
        have h1 : tyO (ob K H a) = some t := ht
        cases hz : ob K H a with
        | none => simp only [frOk, hz]
        | some z =>
          cases z with
          | tup xs =>
            rw [hz] at h1
            exact absurd (Option.some.inj h1).symm e
          | _ => simp only [frOk, hz]
      | _ => rfl
    rw [e1] at q
    have mt := tyN_mem ht
    simp only [List.mem_cons, List.not_mem_nil, or_false] at mt
    rcases mt with rfl | rfl | rfl | rfl | rfl | rfl | rfl <;> first | exact absurd rfl e | (simp only [ht, cx_K, decide_true, decide_false, reduceCtorEq, gTp, gCons, gNil, ca_0, ca_1, ca_2, ca_3, ca_4, ca_5, ca_6, ca_7, ca_8, ca_9, ca_10, ca_11, ca_12, ca_13, ca_14, ca_15, ca_16, ca_17, ca_18, ca_19, ca_20, ca_21, ca_22, ca_23, ca_24, ca_25, ca_26, ca_27, ca_28, ca_29, ca_30, not_true_eq_false, not_false_eq_true, Int.reduceEq, Nat.reduceEqDiff, Nat.reduceLeDiff, rGcd, V.ty.injEq, eq_self, List.not_mem_nil, beq_self_eq_true, HO.lst.injEq, HO.tup.injEq, tFor_eq, iRng1, iList, iTup, nat10, tSeq, rIxA, rSetA, rIsN, rIsT, tTp, tLs, itsO_tup, itsO_lst, tyO_tup, tyO_lst, tyO_dK, tyN_non, tyN_bl, tyN_int, tyN_str, tyN_ref, tyNs_lt, isB, upd_same, upd_upd, sizeLine_eq, List.mem_cons, String.reduceBEq, String.reduceEq, Bool.or_false, Bool.or_true, Bool.and_false, Bool.false_or, Bool.and_self, Bool.false_and, Bool.not_false, Bool.not_true, List.any_cons, List.any_nil, atI_0, setI_0, atI_1, setI_1, atI_2, setI_2, atI_3, setI_3, atI_4, setI_4, atI_5, setI_5, atI_6, setI_6, tAsg, gName, tOp, tUn, tVar, tC, tCons, L2.tNil, tRet, tIfS, tTest, tCB, tCall, rI, rI0, rU, tNext, tB, tAnd, tOr, tNot, tAndV, tOrV, tNotV, tDrop, tIf, tPar, gSub, rIxL, rIxT, rEq, rNe, rSetL, tBits,
    L2.start, List.map_cons, List.map_nil, List.cons_append, List.nil_append, List.append_nil, List.length_cons, List.length_nil, List.replicate, Nat.reduceAdd, Nat.reduceSub, Nat.zero_add, List.getElem?_cons_zero, List.getElem?_cons_succ, List.set_cons_zero, List.set_cons_succ,
    Option.some.injEq, exists_eq_left', exists_eq_left, V.int.injEq, V.bl.injEq, V.ref.injEq, V.str.injEq, List.cons.injEq, reduceCtorEq, and_true, true_and, false_and, and_false, exists_false, or_false, false_or, or_true, true_or, exists_const, CMul, CDiv, CPow, and_assoc, exists_and_left, exists_and_right, Int.reducePow, Int.reduceNeg, Int.reduceLT, Int.reduceLE, Nat.reducePow, Nat.reduceLT, Int.reduceToNat, gt_iff_lt, ge_iff_le, decide_eq_true_eq, Bool.not_eq_true', decide_eq_false_iff_not, scal, ↓reduceIte, Bool.false_eq_true]; exact q)
end
end My

namespace My
open PySem PySem.Spec PyProof.Rows L2
section
variable {P : Program} {w : World} {K : PySem.W.Frag} {mg : Str → Option Value} {base : Heap}
theorem nf_part {q : Qt} (h : Nf q) : Nf (q.1 % q.2, q.2) := by
  refine ⟨h.1, ?_⟩
  show Int.gcd (q.1 % q.2) q.2 = 1
  have e : q.1 % q.2 = q.1 + (-(q.1 / q.2)) * q.2 := by
    have := Int.emod_add_mul_ediv q.1 q.2
    rw [Int.neg_mul, Int.mul_comm]
    omega
  rw [e, Int.gcd_add_mul_right_left]
  exact h.2
theorem nf_abs {q : Qt} (h : Nf q) : Nf ((q.1.natAbs : Int), q.2) := ⟨h.1, by
  show Int.gcd (q.1.natAbs : Int) q.2 = 1
  rw [← h.2]
  rfl⟩
theorem nf_neg {q : Qt} (h : Nf q) : Nf (-q.1, q.2) := ⟨h.1, by
  show Int.gcd (-q.1) q.2 = 1
  rw [Int.neg_gcd]
  exact h.2⟩
def off (q : Qt) : Qt := (if q.2 < 2 * (q.1 % q.2) then q.1 % q.2 - q.2 else q.1 % q.2, q.2)
theorem nf_off {q : Qt} (h : Nf q) : Nf (off q) := by
  have k := nf_part h
  unfold off
  split
  · refine ⟨h.1, ?_⟩
    show Int.gcd (q.1 % q.2 - q.2) q.2 = 1
    rw [show q.1 % q.2 - q.2 = q.1 % q.2 + (-1) * q.2 by omega, Int.gcd_add_mul_right_left]
    exact k.2
  · exact k
theorem is_self {q : Qt} (h : Nf q) : Is q q.1 q.2 := ⟨h, rfl⟩
def sum2 (p q : Qt) (z : Qt) : Prop := Is z (p.1 * q.2 + q.1 * p.2) (p.2 * q.2)
theorem Nf.ne {q : Qt} (h : Nf q) : q.2 ≠ 0 := by have := h.1; omega
theorem mul_ne {a b : Int} (h1 : 1 ≤ a) (h2 : 1 ≤ b) : a * b ≠ 0 := Int.mul_ne_zero (by omega) (by omega)
theorem szPart {q : Qt} {k : Nat} (h : Nf q) (hz : Sz k q) : Sz k (q.1 % q.2, q.2) := by
  refine ⟨?_, hz.2⟩
  have h1 := Int.emod_nonneg q.1 h.ne
  have h2 := Int.emod_lt_of_pos q.1 (show 0 < q.2 by have := h.1; omega)
  have := hz.2
  show (q.1 % q.2).natAbs < 2 ^ k
  omega
theorem szOff {q : Qt} {k : Nat} (h : Nf q) (hz : Sz k q) : Sz k (off q) := by
  have h1 := Int.emod_nonneg q.1 h.ne
  have h2 := Int.emod_lt_of_pos q.1 (show 0 < q.2 by have := h.1; omega)
  have h3 := hz.2
  have h4 := h.1
  unfold off
  refine ⟨?_, h3⟩
  show (if q.2 < 2 * (q.1 % q.2) then q.1 % q.2 - q.2 else q.1 % q.2).natAbs < 2 ^ k
  split <;> omega
/-- a fraction at a, in lowest terms, of a bounded size -/
structure Fq (K : PySem.W.Frag) (H : Hp) (k : Nat) (a : Addr) (q : Qt) : Prop where
  o : ob K H a = some (.tup [.int q.1, .int q.2])
  nf : Nf q
  sz : Sz k q
theorem Fq.same {H H' : Hp} {k : Nat} {a : Addr} {q : Qt} (h : Fq K H k a q) (s : Same H H') : Fq K H' k a q := ⟨ob_same s h.o, h.nf, h.sz⟩
theorem Fq.kp {H H' : Hp} {k : Nat} {a s : Addr} {q : Qt} {ys : List V} (h : Fq K H k a q) (e : Kp s H H') (hs : H s = some (.lst ys)) : Fq K H' k a q := ⟨ob_kp e hs (fun _ z => by cases z) h.o, h.nf, h.sz⟩
theorem Fq.mono {H : Hp} {j k : Nat} {a : Addr} {q : Qt} (h : Fq K H j a q) (l : j ≤ k) : Fq K H k a q := ⟨h.o, h.nf, h.sz.mono l⟩
def spBin (K : PySem.W.Frag) (R : Qt → Qt → Qt → Prop) : Sp := fun vs H Q _ => ∃ (a b : Addr) (p q : Qt), vs = [.ref a, .ref b] ∧ Fq K H 3000 a p ∧ Fq K H 3000 b q ∧ ∀ z, R p q z → Gv K H Q z
def spUn (K : PySem.W.Frag) (g : Qt → Qt) : Sp := fun vs H Q _ => ∃ (a : Addr) (q : Qt), vs = [.ref a] ∧ Fq K H 8000 a q ∧ Gv K H Q (g q)
def spFloor (K : PySem.W.Frag) : Sp := fun vs H Q _ => ∃ (a : Addr) (q : Qt), vs = [.ref a] ∧ Fq K H 8000 a q ∧ Q (.int (q.1 / q.2)) H
abbrev sPlus : Stmt := topS 25
theorem scPlus : FnScope ["left", "right"] ["left", "right"] (defScope sPlus) := ⟨rfl, rfl, rfl, by decide +kernel, rfl, by decide +kernel, by decide +kernel⟩
theorem k_Plus (T : Bt K mg) (D : Dfn K mg "plus" sPlus ["left", "right"]) (d_require : Kn P w K mg base 1 "require" ["well_formed", "what"] spRequire) (d_is_fraction : Kn P w K mg base 2 "is_fraction" ["value"] (spIsFraction K)) (d_fraction : Kn P w K mg base 2 "fraction" ["numerator", "denominator"] (spFraction K)) : Kn P w K mg base 3 "plus" ["left", "right"] (spBin K sum2) := by
  refine Kn.mk' D scPlus (fun vs H Q E h => ?_) (fun f cdv A outer s H vs Q E hr h => ?_)
  · obtain ⟨a, b, p, q, rfl, _⟩ := h
    rfl
  obtain ⟨a, b, p, q, rfl, hp, hq, k⟩ := h
  refine ⟨_, (pss_cons (ps_expr (pe_kn d_require hr (by rfl) (pa_cons (pe_kn d_is_fraction hr (by rfl) (pa_cons (pv 0) pa_nil)) (pa_cons pe_str pa_nil))))
      (pss_cons (ps_expr (pe_kn d_require hr (by rfl) (pa_cons (pe_kn d_is_fraction hr (by rfl) (pa_cons (pv 1) pa_nil)) (pa_cons pe_str pa_nil))))
      (pss_one (ps_ret (pe_kn d_fraction hr (by rfl) (pa_cons (pe_op op_add (pe_op op_mulW (pe_ix ix_any (pv 0) pe_int (fun _ _ => rfl)) (pe_ix ix_any (pv 1) pe_int (fun _ _ => rfl))) (pe_op op_mulW (pe_ix ix_any (pv 1) pe_int (fun _ _ => rfl)) (pe_ix ix_any (pv 0) pe_int (fun _ _ => rfl)))) (pa_cons (pe_op op_mulW (pe_ix ix_any (pv 0) pe_int (fun _ _ => rfl)) (pe_ix ix_any (pv 1) pe_int (fun _ _ => rfl))) pa_nil))))))), ?_⟩
  simp only [cx_K, decide_true, decide_false, reduceCtorEq, gTp, gCons, gNil, ca_0, ca_1, ca_2, ca_3, ca_4, ca_5, ca_6, ca_7, ca_8, ca_9, ca_10, ca_11, ca_12, ca_13, ca_14, ca_15, ca_16, ca_17, ca_18, ca_19, ca_20, ca_21, ca_22, ca_23, ca_24, ca_25, ca_26, ca_27, ca_28, ca_29, ca_30, not_true_eq_false, not_false_eq_true, Int.reduceEq, Nat.reduceEqDiff, Nat.reduceLeDiff, rGcd, V.ty.injEq, eq_self, List.not_mem_nil, beq_self_eq_true, HO.lst.injEq, HO.tup.injEq, tFor_eq, iRng1, iList, iTup, nat10, tSeq, rIxA, rSetA, rIsN, rIsT, tTp, tLs, itsO_tup, itsO_lst, tyO_tup, tyO_lst, tyO_dK, tyN_non, tyN_bl, tyN_int, tyN_str, tyN_ref, tyNs_lt, isB, upd_same, upd_upd, sizeLine_eq, List.mem_cons, String.reduceBEq, String.reduceEq, Bool.or_false, Bool.or_true, Bool.and_false, Bool.false_or, Bool.and_self, Bool.false_and, Bool.not_false, Bool.not_true, List.any_cons, List.any_nil, atI_0, setI_0, atI_1, setI_1, atI_2, setI_2, atI_3, setI_3, atI_4, setI_4, atI_5, setI_5, atI_6, setI_6, tAsg, gName, tOp, tUn, tVar, tC, tCons, L2.tNil, tRet, tIfS, tTest, tCB, tCall, rI, rI0, rU, tNext, tB, tAnd, tOr, tNot, tAndV, tOrV, tNotV, tDrop, tIf, tPar, gSub, rIxL, rIxT, rEq, rNe, rSetL, tBits,
    L2.start, List.map_cons, List.map_nil, List.cons_append, List.nil_append, List.append_nil, List.length_cons, List.length_nil, List.replicate, Nat.reduceAdd, Nat.reduceSub, Nat.zero_add, List.getElem?_cons_zero, List.getElem?_cons_succ, List.set_cons_zero, List.set_cons_succ,
    Option.some.injEq, exists_eq_left', exists_eq_left, V.int.injEq, V.bl.injEq, V.ref.injEq, V.str.injEq, List.cons.injEq, reduceCtorEq, and_true, true_and, false_and, and_false, exists_false, or_false, false_or, or_true, true_or, exists_const, CMul, CDiv, CPow, and_assoc, exists_and_left, exists_and_right, Int.reducePow, Int.reduceNeg, Int.reduceLT, Int.reduceLE, Nat.reducePow, Nat.reduceLT, Int.reduceToNat, gt_iff_lt, ge_iff_le, decide_eq_true_eq, Bool.not_eq_true', decide_eq_false_iff_not, scal, ↓reduceIte, Bool.false_eq_true]
  refine ⟨_, rfl, Tyd.fr hp.o, _, by rw [frOk_fr hp.o hp.nf], _, rfl, Tyd.fr hq.o, _, by rw [frOk_fr hq.o hq.nf], ?_⟩
  simp only [hp.o, hq.o, cx_K, decide_true, decide_false, reduceCtorEq, gTp, gCons, gNil, ca_0, ca_1, ca_2, ca_3, ca_4, ca_5, ca_6, ca_7, ca_8, ca_9, ca_10, ca_11, ca_12, ca_13, ca_14, ca_15, ca_16, ca_17, ca_18, ca_19, ca_20, ca_21, ca_22, ca_23, ca_24, ca_25, ca_26, ca_27, ca_28, ca_29, ca_30, not_true_eq_false, not_false_eq_true, Int.reduceEq, Nat.reduceEqDiff, Nat.reduceLeDiff, rGcd, V.ty.injEq, eq_self, List.not_mem_nil, beq_self_eq_true, HO.lst.injEq, HO.tup.injEq, tFor_eq, iRng1, iList, iTup, nat10, tSeq, rIxA, rSetA, rIsN, rIsT, tTp, tLs, itsO_tup, itsO_lst, tyO_tup, tyO_lst, tyO_dK, tyN_non, tyN_bl, tyN_int, tyN_str, tyN_ref, tyNs_lt, isB, upd_same, upd_upd, sizeLine_eq, List.mem_cons, String.reduceBEq, String.reduceEq, Bool.or_false, Bool.or_true, Bool.and_false, Bool.false_or, Bool.and_self, Bool.false_and, Bool.not_false, Bool.not_true, List.any_cons, List.any_nil, atI_0, setI_0, atI_1, setI_1, atI_2, setI_2, atI_3, setI_3, atI_4, setI_4, atI_5, setI_5, atI_6, setI_6, tAsg, gName, tOp, tUn, tVar, tC, tCons, L2.tNil, tRet, tIfS, tTest, tCB, tCall, rI, rI0, rU, tNext, tB, tAnd, tOr, tNot, tAndV, tOrV, tNotV, tDrop, tIf, tPar, gSub, rIxL, rIxT, rEq, rNe, rSetL, tBits,
    L2.start, List.map_cons, List.map_nil, List.cons_append, List.nil_append, List.append_nil, List.length_cons, List.length_nil, List.replicate, Nat.reduceAdd, Nat.reduceSub, Nat.zero_add, List.getElem?_cons_zero, List.getElem?_cons_succ, List.set_cons_zero, List.set_cons_succ,
    Option.some.injEq, exists_eq_left', exists_eq_left, V.int.injEq, V.bl.injEq, V.ref.injEq, V.str.injEq, List.cons.injEq, reduceCtorEq, and_true, true_and, false_and, and_false, exists_false, or_false, false_or, or_true, true_or, exists_const, CMul, CDiv, CPow, and_assoc, exists_and_left, exists_and_right, Int.reducePow, Int.reduceNeg, Int.reduceLT, Int.reduceLE, Nat.reducePow, Nat.reduceLT, Int.reduceToNat, gt_iff_lt, ge_iff_le, decide_eq_true_eq, Bool.not_eq_true', decide_eq_false_iff_not, scal, ↓reduceIte, Bool.false_eq_true]
  exact ⟨mulW hp.sz.1 hq.sz.2 (by omega), mulW hq.sz.1 hp.sz.2 (by omega), mulW hp.sz.2 hq.sz.2 (by omega), _, _, rfl, mul_ne hp.nf.1 hq.nf.1, szMono (szMul hp.sz.2 hq.sz.2) (by omega), k⟩
def spLFrac (K : PySem.W.Frag) : Sp := fun vs H Q _ => ∃ (a : Addr) (q : Qt), vs = [.ref a] ∧ Fq K H 8000 a q ∧ Q (.bl true) H
def dif2 (p q : Qt) (z : Qt) : Prop := Is z (p.1 * q.2 - q.1 * p.2) (p.2 * q.2)
def pro2 (p q : Qt) (z : Qt) : Prop := Is z (p.1 * q.1) (p.2 * q.2)
def quo2 (p q : Qt) (z : Qt) : Prop := Is z (p.1 * q.2) (p.2 * q.1)
def cmp2 (p q : Qt) : Int := if p.1 * q.2 = q.1 * p.2 then 0 else if p.1 * q.2 < q.1 * p.2 then -1 else 1
def spQuo (K : PySem.W.Frag) : Sp := fun vs H Q _ => ∃ (a b : Addr) (p q : Qt), vs = [.ref a, .ref b] ∧ Fq K H 3000 a p ∧ Fq K H 3000 b q ∧ q.1 ≠ 0 ∧ ∀ z, quo2 p q z → Gv K H Q z
def spCmp (K : PySem.W.Frag) : Sp := fun vs H Q _ => ∃ (a b : Addr) (p q : Qt), vs = [.ref a, .ref b] ∧ Fq K H 3000 a p ∧ Fq K H 3000 b q ∧ Q (.int (cmp2 p q)) H
abbrev sMinus : Stmt := topS 26
theorem scMinus : FnScope ["left", "right"] ["left", "right"] (defScope sMinus) := ⟨rfl, rfl, rfl, by decide +kernel, rfl, by decide +kernel, by decide +kernel⟩
theorem k_Minus (T : Bt K mg) (D : Dfn K mg "minus" sMinus ["left", "right"]) (d_require : Kn P w K mg base 1 "require" ["well_formed", "what"] spRequire) (d_is_fraction : Kn P w K mg base 2 "is_fraction" ["value"] (spIsFraction K)) (d_fraction : Kn P w K mg base 2 "fraction" ["numerator", "denominator"] (spFraction K)) : Kn P w K mg base 3 "minus" ["left", "right"] (spBin K dif2) := by
  refine Kn.mk' D scMinus (fun vs H Q E h => ?_) (fun f cdv A outer s H vs Q E hr h => ?_)
  · obtain ⟨a, b, p, q, rfl, _⟩ := h
    rfl
  obtain ⟨a, b, p, q, rfl, hp, hq, k⟩ := h
  refine ⟨_, (pss_cons (ps_expr (pe_kn d_require hr (by rfl) (pa_cons (pe_kn d_is_fraction hr (by rfl) (pa_cons (pv 0) pa_nil)) (pa_cons pe_str pa_nil))))
      (pss_cons (ps_expr (pe_kn d_require hr (by rfl) (pa_cons (pe_kn d_is_fraction hr (by rfl) (pa_cons (pv 1) pa_nil)) (pa_cons pe_str pa_nil))))
      (pss_one (ps_ret (pe_kn d_fraction hr (by rfl) (pa_cons (pe_op op_sub (pe_op op_mulW (pe_ix ix_any (pv 0) pe_int (fun _ _ => rfl)) (pe_ix ix_any (pv 1) pe_int (fun _ _ => rfl))) (pe_op op_mulW (pe_ix ix_any (pv 1) pe_int (fun _ _ => rfl)) (pe_ix ix_any (pv 0) pe_int (fun _ _ => rfl)))) (pa_cons (pe_op op_mulW (pe_ix ix_any (pv 0) pe_int (fun _ _ => rfl)) (pe_ix ix_any (pv 1) pe_int (fun _ _ => rfl))) pa_nil))))))), ?_⟩
  simp only [cx_K, decide_true, decide_false, reduceCtorEq, gTp, gCons, gNil, ca_0, ca_1, ca_2, ca_3, ca_4, ca_5, ca_6, ca_7, ca_8, ca_9, ca_10, ca_11, ca_12, ca_13, ca_14, ca_15, ca_16, ca_17, ca_18, ca_19, ca_20, ca_21, ca_22, ca_23, ca_24, ca_25, ca_26, ca_27, ca_28, ca_29, ca_30, not_true_eq_false, not_false_eq_true, Int.reduceEq, Nat.reduceEqDiff, Nat.reduceLeDiff, rGcd, V.ty.injEq, eq_self, List.not_mem_nil, beq_self_eq_true, HO.lst.injEq, HO.tup.injEq, tFor_eq, iRng1, iList, iTup, nat10, tSeq, rIxA, rSetA, rIsN, rIsT, tTp, tLs, itsO_tup, itsO_lst, tyO_tup, tyO_lst, tyO_dK, tyN_non, tyN_bl, tyN_int, tyN_str, tyN_ref, tyNs_lt, isB, upd_same, upd_upd, sizeLine_eq, List.mem_cons, String.reduceBEq, String.reduceEq, Bool.or_false, Bool.or_true, Bool.and_false, Bool.false_or, Bool.and_self, Bool.false_and, Bool.not_false, Bool.not_true, List.any_cons, List.any_nil, atI_0, setI_0, atI_1, setI_1, atI_2, setI_2, atI_3, setI_3, atI_4, setI_4, atI_5, setI_5, atI_6, setI_6, tAsg, gName, tOp, tUn, tVar, tC, tCons, L2.tNil, tRet, tIfS, tTest, tCB, tCall, rI, rI0, rU, tNext, tB, tAnd, tOr, tNot, tAndV, tOrV, tNotV, tDrop, tIf, tPar, gSub, rIxL, rIxT, rEq, rNe, rSetL, tBits,
    L2.start, List.map_cons, List.map_nil, List.cons_append, List.nil_append, List.append_nil, List.length_cons, List.length_nil, List.replicate, Nat.reduceAdd, Nat.reduceSub, Nat.zero_add, List.getElem?_cons_zero, List.getElem?_cons_succ, List.set_cons_zero, List.set_cons_succ,
    Option.some.injEq, exists_eq_left', exists_eq_left, V.int.injEq, V.bl.injEq, V.ref.injEq, V.str.injEq, List.cons.injEq, reduceCtorEq, and_true, true_and, false_and, and_false, exists_false, or_false, false_or, or_true, true_or, exists_const, CMul, CDiv, CPow, and_assoc, exists_and_left, exists_and_right, Int.reducePow, Int.reduceNeg, Int.reduceLT, Int.reduceLE, Nat.reducePow, Nat.reduceLT, Int.reduceToNat, gt_iff_lt, ge_iff_le, decide_eq_true_eq, Bool.not_eq_true', decide_eq_false_iff_not, scal, ↓reduceIte, Bool.false_eq_true]
  refine ⟨_, rfl, Tyd.fr hp.o, _, by rw [frOk_fr hp.o hp.nf], _, rfl, Tyd.fr hq.o, _, by rw [frOk_fr hq.o hq.nf], ?_⟩
  simp only [hp.o, hq.o, cx_K, decide_true, decide_false, reduceCtorEq, gTp, gCons, gNil, ca_0, ca_1, ca_2, ca_3, ca_4, ca_5, ca_6, ca_7, ca_8, ca_9, ca_10, ca_11, ca_12, ca_13, ca_14, ca_15, ca_16, ca_17, ca_18, ca_19, ca_20, ca_21, ca_22, ca_23, ca_24, ca_25, ca_26, ca_27, ca_28, ca_29, ca_30, not_true_eq_false, not_false_eq_true, Int.reduceEq, Nat.reduceEqDiff, Nat.reduceLeDiff, rGcd, V.ty.injEq, eq_self, List.not_mem_nil, beq_self_eq_true, HO.lst.injEq, HO.tup.injEq, tFor_eq, iRng1, iList, iTup, nat10, tSeq, rIxA, rSetA, rIsN, rIsT, tTp, tLs, itsO_tup, itsO_lst, tyO_tup, tyO_lst, tyO_dK, tyN_non, tyN_bl, tyN_int, tyN_str, tyN_ref, tyNs_lt, isB, upd_same, upd_upd, sizeLine_eq, List.mem_cons, String.reduceBEq, String.reduceEq, Bool.or_false, Bool.or_true, Bool.and_false, Bool.false_or, Bool.and_self, Bool.false_and, Bool.not_false, Bool.not_true, List.any_cons, List.any_nil, atI_0, setI_0, atI_1, setI_1, atI_2, setI_2, atI_3, setI_3, atI_4, setI_4, atI_5, setI_5, atI_6, setI_6, tAsg, gName, tOp, tUn, tVar, tC, tCons, L2.tNil, tRet, tIfS, tTest, tCB, tCall, rI, rI0, rU, tNext, tB, tAnd, tOr, tNot, tAndV, tOrV, tNotV, tDrop, tIf, tPar, gSub, rIxL, rIxT, rEq, rNe, rSetL, tBits,
    L2.start, List.map_cons, List.map_nil, List.cons_append, List.nil_append, List.append_nil, List.length_cons, List.length_nil, List.replicate, Nat.reduceAdd, Nat.reduceSub, Nat.zero_add, List.getElem?_cons_zero, List.getElem?_cons_succ, List.set_cons_zero, List.set_cons_succ,
    Option.some.injEq, exists_eq_left', exists_eq_left, V.int.injEq, V.bl.injEq, V.ref.injEq, V.str.injEq, List.cons.injEq, reduceCtorEq, and_true, true_and, false_and, and_false, exists_false, or_false, false_or, or_true, true_or, exists_const, CMul, CDiv, CPow, and_assoc, exists_and_left, exists_and_right, Int.reducePow, Int.reduceNeg, Int.reduceLT, Int.reduceLE, Nat.reducePow, Nat.reduceLT, Int.reduceToNat, gt_iff_lt, ge_iff_le, decide_eq_true_eq, Bool.not_eq_true', decide_eq_false_iff_not, scal, ↓reduceIte, Bool.false_eq_true]
  exact ⟨mulW hp.sz.1 hq.sz.2 (by omega), mulW hq.sz.1 hp.sz.2 (by omega), mulW hp.sz.2 hq.sz.2 (by omega), _, _, rfl, mul_ne hp.nf.1 hq.nf.1, szMono (szMul hp.sz.2 hq.sz.2) (by omega), k⟩
abbrev sTimes : Stmt := topS 27
theorem scTimes : FnScope ["left", "right"] ["left", "right"] (defScope sTimes) := ⟨rfl, rfl, rfl, by decide +kernel, rfl, by decide +kernel, by decide +kernel⟩
theorem k_Times (T : Bt K mg) (D : Dfn K mg "times" sTimes ["left", "right"]) (d_require : Kn P w K mg base 1 "require" ["well_formed", "what"] spRequire) (d_is_fraction : Kn P w K mg base 2 "is_fraction" ["value"] (spIsFraction K)) (d_fraction : Kn P w K mg base 2 "fraction" ["numerator", "denominator"] (spFraction K)) : Kn P w K mg base 3 "times" ["left", "right"] (spBin K pro2) := by
  refine Kn.mk' D scTimes (fun vs H Q E h => ?_) (fun f cdv A outer s H vs Q E hr h => ?_)
  · obtain ⟨a, b, p, q, rfl, _⟩ := h
    rfl
  obtain ⟨a, b, p, q, rfl, hp, hq, k⟩ := h
  refine ⟨_, (pss_cons (ps_expr (pe_kn d_require hr (by rfl) (pa_cons (pe_kn d_is_fraction hr (by rfl) (pa_cons (pv 0) pa_nil)) (pa_cons pe_str pa_nil))))
      (pss_cons (ps_expr (pe_kn d_require hr (by rfl) (pa_cons (pe_kn d_is_fraction hr (by rfl) (pa_cons (pv 1) pa_nil)) (pa_cons pe_str pa_nil))))
      (pss_one (ps_ret (pe_kn d_fraction hr (by rfl) (pa_cons (pe_op op_mulW (pe_ix ix_any (pv 0) pe_int (fun _ _ => rfl)) (pe_ix ix_any (pv 1) pe_int (fun _ _ => rfl))) (pa_cons (pe_op op_mulW (pe_ix ix_any (pv 0) pe_int (fun _ _ => rfl)) (pe_ix ix_any (pv 1) pe_int (fun _ _ => rfl))) pa_nil))))))), ?_⟩
  simp only [cx_K, decide_true, decide_false, reduceCtorEq, gTp, gCons, gNil, ca_0, ca_1, ca_2, ca_3, ca_4, ca_5, ca_6, ca_7, ca_8, ca_9, ca_10, ca_11, ca_12, ca_13, ca_14, ca_15, ca_16, ca_17, ca_18, ca_19, ca_20, ca_21, ca_22, ca_23, ca_24, ca_25, ca_26, ca_27, ca_28, ca_29, ca_30, not_true_eq_false, not_false_eq_true, Int.reduceEq, Nat.reduceEqDiff, Nat.reduceLeDiff, rGcd, V.ty.injEq, eq_self, List.not_mem_nil, beq_self_eq_true, HO.lst.injEq, HO.tup.injEq, tFor_eq, iRng1, iList, iTup, nat10, tSeq, rIxA, rSetA, rIsN, rIsT, tTp, tLs, itsO_tup, itsO_lst, tyO_tup, tyO_lst, tyO_dK, tyN_non, tyN_bl, tyN_int, tyN_str, tyN_ref, tyNs_lt, isB, upd_same, upd_upd, sizeLine_eq, List.mem_cons, String.reduceBEq, String.reduceEq, Bool.or_false, Bool.or_true, Bool.and_false, Bool.false_or, Bool.and_self, Bool.false_and, Bool.not_false, Bool.not_true, List.any_cons, List.any_nil, atI_0, setI_0, atI_1, setI_1, atI_2, setI_2, atI_3, setI_3, atI_4, setI_4, atI_5, setI_5, atI_6, setI_6, tAsg, gName, tOp, tUn, tVar, tC, tCons, L2.tNil, tRet, tIfS, tTest, tCB, tCall, rI, rI0, rU, tNext, tB, tAnd, tOr, tNot, tAndV, tOrV, tNotV, tDrop, tIf, tPar, gSub, rIxL, rIxT, rEq, rNe, rSetL, tBits,
    L2.start, List.map_cons, List.map_nil, List.cons_append, List.nil_append, List.append_nil, List.length_cons, List.length_nil, List.replicate, Nat.reduceAdd, Nat.reduceSub, Nat.zero_add, List.getElem?_cons_zero, List.getElem?_cons_succ, List.set_cons_zero, List.set_cons_succ,
    Option.some.injEq, exists_eq_left', exists_eq_left, V.int.injEq, V.bl.injEq, V.ref.injEq, V.str.injEq, List.cons.injEq, reduceCtorEq, and_true, true_and, false_and, and_false, exists_false, or_false, false_or, or_true, true_or, exists_const, CMul, CDiv, CPow, and_assoc, exists_and_left, exists_and_right, Int.reducePow, Int.reduceNeg, Int.reduceLT, Int.reduceLE, Nat.reducePow, Nat.reduceLT, Int.reduceToNat, gt_iff_lt, ge_iff_le, decide_eq_true_eq, Bool.not_eq_true', decide_eq_false_iff_not, scal, ↓reduceIte, Bool.false_eq_true]
  refine ⟨_, rfl, Tyd.fr hp.o, _, by rw [frOk_fr hp.o hp.nf], _, rfl, Tyd.fr hq.o, _, by rw [frOk_fr hq.o hq.nf], ?_⟩
  simp only [hp.o, hq.o, cx_K, decide_true, decide_false, reduceCtorEq, gTp, gCons, gNil, ca_0, ca_1, ca_2, ca_3, ca_4, ca_5, ca_6, ca_7, ca_8, ca_9, ca_10, ca_11, ca_12, ca_13, ca_14, ca_15, ca_16, ca_17, ca_18, ca_19, ca_20, ca_21, ca_22, ca_23, ca_24, ca_25, ca_26, ca_27, ca_28, ca_29, ca_30, not_true_eq_false, not_false_eq_true, Int.reduceEq, Nat.reduceEqDiff, Nat.reduceLeDiff, rGcd, V.ty.injEq, eq_self, List.not_mem_nil, beq_self_eq_true, HO.lst.injEq, HO.tup.injEq, tFor_eq, iRng1, iList, iTup, nat10, tSeq, rIxA, rSetA, rIsN, rIsT, tTp, tLs, itsO_tup, itsO_lst, tyO_tup, tyO_lst, tyO_dK, tyN_non, tyN_bl, tyN_int, tyN_str, tyN_ref, tyNs_lt, isB, upd_same, upd_upd, sizeLine_eq, List.mem_cons, String.reduceBEq, String.reduceEq, Bool.or_false, Bool.or_true, Bool.and_false, Bool.false_or, Bool.and_self, Bool.false_and, Bool.not_false, Bool.not_true, List.any_cons, List.any_nil, atI_0, setI_0, atI_1, setI_1, atI_2, setI_2, atI_3, setI_3, atI_4, setI_4, atI_5, setI_5, atI_6, setI_6, tAsg, gName, tOp, tUn, tVar, tC, tCons, L2.tNil, tRet, tIfS, tTest, tCB, tCall, rI, rI0, rU, tNext, tB, tAnd, tOr, tNot, tAndV, tOrV, tNotV, tDrop, tIf, tPar, gSub, rIxL, rIxT, rEq, rNe, rSetL, tBits,
    L2.start, List.map_cons, List.map_nil, List.cons_append, List.nil_append, List.append_nil, List.length_cons, List.length_nil, List.replicate, Nat.reduceAdd, Nat.reduceSub, Nat.zero_add, List.getElem?_cons_zero, List.getElem?_cons_succ, List.set_cons_zero, List.set_cons_succ,
    Option.some.injEq, exists_eq_left', exists_eq_left, V.int.injEq, V.bl.injEq, V.ref.injEq, V.str.injEq, List.cons.injEq, reduceCtorEq, and_true, true_and, false_and, and_false, exists_false, or_false, false_or, or_true, true_or, exists_const, CMul, CDiv, CPow, and_assoc, exists_and_left, exists_and_right, Int.reducePow, Int.reduceNeg, Int.reduceLT, Int.reduceLE, Nat.reducePow, Nat.reduceLT, Int.reduceToNat, gt_iff_lt, ge_iff_le, decide_eq_true_eq, Bool.not_eq_true', decide_eq_false_iff_not, scal, ↓reduceIte, Bool.false_eq_true]
  exact ⟨mulW hp.sz.1 hq.sz.1 (by omega), mulW hp.sz.2 hq.sz.2 (by omega), _, _, rfl, mul_ne hp.nf.1 hq.nf.1, szMono (szMul hp.sz.2 hq.sz.2) (by omega), k⟩
abbrev sOver : Stmt := topS 28
theorem scOver : FnScope ["left", "right"] ["left", "right"] (defScope sOver) := ⟨rfl, rfl, rfl, by decide +kernel, rfl, by decide +kernel, by decide +kernel⟩
theorem k_Over (T : Bt K mg) (D : Dfn K mg "over" sOver ["left", "right"]) (d_require : Kn P w K mg base 1 "require" ["well_formed", "what"] spRequire) (d_is_fraction : Kn P w K mg base 2 "is_fraction" ["value"] (spIsFraction K)) (d_fraction : Kn P w K mg base 2 "fraction" ["numerator", "denominator"] (spFraction K)) : Kn P w K mg base 3 "over" ["left", "right"] (spQuo K) := by
  refine Kn.mk' D scOver (fun vs H Q E h => ?_) (fun f cdv A outer s H vs Q E hr h => ?_)
  · obtain ⟨a, b, p, q, rfl, _⟩ := h
    rfl
  obtain ⟨a, b, p, q, rfl, hp, hq, h0, k⟩ := h
  refine ⟨_, (pss_cons (ps_expr (pe_kn d_require hr (by rfl) (pa_cons (pe_kn d_is_fraction hr (by rfl) (pa_cons (pv 0) pa_nil)) (pa_cons pe_str pa_nil))))
      (pss_cons (ps_expr (pe_kn d_require hr (by rfl) (pa_cons (pe_and (pe_kn d_is_fraction hr (by rfl) (pa_cons (pv 1) pa_nil)) (pe_one (pe_cmpR op_ne (pe_ix ix_any (pv 1) pe_int (fun _ _ => rfl)) pe_int (nomark _)))) (pa_cons pe_str pa_nil))))
      (pss_one (ps_ret (pe_kn d_fraction hr (by rfl) (pa_cons (pe_op op_mulW (pe_ix ix_any (pv 0) pe_int (fun _ _ => rfl)) (pe_ix ix_any (pv 1) pe_int (fun _ _ => rfl))) (pa_cons (pe_op op_mulW (pe_ix ix_any (pv 0) pe_int (fun _ _ => rfl)) (pe_ix ix_any (pv 1) pe_int (fun _ _ => rfl))) pa_nil))))))), ?_⟩
  simp only [cx_K, decide_true, decide_false, reduceCtorEq, gTp, gCons, gNil, ca_0, ca_1, ca_2, ca_3, ca_4, ca_5, ca_6, ca_7, ca_8, ca_9, ca_10, ca_11, ca_12, ca_13, ca_14, ca_15, ca_16, ca_17, ca_18, ca_19, ca_20, ca_21, ca_22, ca_23, ca_24, ca_25, ca_26, ca_27, ca_28, ca_29, ca_30, not_true_eq_false, not_false_eq_true, Int.reduceEq, Nat.reduceEqDiff, Nat.reduceLeDiff, rGcd, V.ty.injEq, eq_self, List.not_mem_nil, beq_self_eq_true, HO.lst.injEq, HO.tup.injEq, tFor_eq, iRng1, iList, iTup, nat10, tSeq, rIxA, rSetA, rIsN, rIsT, tTp, tLs, itsO_tup, itsO_lst, tyO_tup, tyO_lst, tyO_dK, tyN_non, tyN_bl, tyN_int, tyN_str, tyN_ref, tyNs_lt, isB, upd_same, upd_upd, sizeLine_eq, List.mem_cons, String.reduceBEq, String.reduceEq, Bool.or_false, Bool.or_true, Bool.and_false, Bool.false_or, Bool.and_self, Bool.false_and, Bool.not_false, Bool.not_true, List.any_cons, List.any_nil, atI_0, setI_0, atI_1, setI_1, atI_2, setI_2, atI_3, setI_3, atI_4, setI_4, atI_5, setI_5, atI_6, setI_6, tAsg, gName, tOp, tUn, tVar, tC, tCons, L2.tNil, tRet, tIfS, tTest, tCB, tCall, rI, rI0, rU, tNext, tB, tAnd, tOr, tNot, tAndV, tOrV, tNotV, tDrop, tIf, tPar, gSub, rIxL, rIxT, rEq, rNe, rSetL, tBits,
    L2.start, List.map_cons, List.map_nil, List.cons_append, List.nil_append, List.append_nil, List.length_cons, List.length_nil, List.replicate, Nat.reduceAdd, Nat.reduceSub, Nat.zero_add, List.getElem?_cons_zero, List.getElem?_cons_succ, List.set_cons_zero, List.set_cons_succ,
    Option.some.injEq, exists_eq_left', exists_eq_left, V.int.injEq, V.bl.injEq, V.ref.injEq, V.str.injEq, List.cons.injEq, reduceCtorEq, and_true, true_and, false_and, and_false, exists_false, or_false, false_or, or_true, true_or, exists_const, CMul, CDiv, CPow, and_assoc, exists_and_left, exists_and_right, Int.reducePow, Int.reduceNeg, Int.reduceLT, Int.reduceLE, Nat.reducePow, Nat.reduceLT, Int.reduceToNat, gt_iff_lt, ge_iff_le, decide_eq_true_eq, Bool.not_eq_true', decide_eq_false_iff_not, scal, ↓reduceIte, Bool.false_eq_true]
  refine ⟨_, rfl, Tyd.fr hp.o, _, by rw [frOk_fr hp.o hp.nf], _, rfl, Tyd.fr hq.o, true, by rw [frOk_fr hq.o hq.nf], ?_⟩
  rw [if_pos rfl]
  simp only [hq.o, cx_K, decide_true, decide_false, reduceCtorEq, gTp, gCons, gNil, ca_0, ca_1, ca_2, ca_3, ca_4, ca_5, ca_6, ca_7, ca_8, ca_9, ca_10, ca_11, ca_12, ca_13, ca_14, ca_15, ca_16, ca_17, ca_18, ca_19, ca_20, ca_21, ca_22, ca_23, ca_24, ca_25, ca_26, ca_27, ca_28, ca_29, ca_30, not_true_eq_false, not_false_eq_true, Int.reduceEq, Nat.reduceEqDiff, Nat.reduceLeDiff, rGcd, V.ty.injEq, eq_self, List.not_mem_nil, beq_self_eq_true, HO.lst.injEq, HO.tup.injEq, tFor_eq, iRng1, iList, iTup, nat10, tSeq, rIxA, rSetA, rIsN, rIsT, tTp, tLs, itsO_tup, itsO_lst, tyO_tup, tyO_lst, tyO_dK, tyN_non, tyN_bl, tyN_int, tyN_str, tyN_ref, tyNs_lt, isB, upd_same, upd_upd, sizeLine_eq, List.mem_cons, String.reduceBEq, String.reduceEq, Bool.or_false, Bool.or_true, Bool.and_false, Bool.false_or, Bool.and_self, Bool.false_and, Bool.not_false, Bool.not_true, List.any_cons, List.any_nil, atI_0, setI_0, atI_1, setI_1, atI_2, setI_2, atI_3, setI_3, atI_4, setI_4, atI_5, setI_5, atI_6, setI_6, tAsg, gName, tOp, tUn, tVar, tC, tCons, L2.tNil, tRet, tIfS, tTest, tCB, tCall, rI, rI0, rU, tNext, tB, tAnd, tOr, tNot, tAndV, tOrV, tNotV, tDrop, tIf, tPar, gSub, rIxL, rIxT, rEq, rNe, rSetL, tBits,
    L2.start, List.map_cons, List.map_nil, List.cons_append, List.nil_append, List.append_nil, List.length_cons, List.length_nil, List.replicate, Nat.reduceAdd, Nat.reduceSub, Nat.zero_add, List.getElem?_cons_zero, List.getElem?_cons_succ, List.set_cons_zero, List.set_cons_succ,
    Option.some.injEq, exists_eq_left', exists_eq_left, V.int.injEq, V.bl.injEq, V.ref.injEq, V.str.injEq, List.cons.injEq, reduceCtorEq, and_true, true_and, false_and, and_false, exists_false, or_false, false_or, or_true, true_or, exists_const, CMul, CDiv, CPow, and_assoc, exists_and_left, exists_and_right, Int.reducePow, Int.reduceNeg, Int.reduceLT, Int.reduceLE, Nat.reducePow, Nat.reduceLT, Int.reduceToNat, gt_iff_lt, ge_iff_le, decide_eq_true_eq, Bool.not_eq_true', decide_eq_false_iff_not, scal, ↓reduceIte, Bool.false_eq_true]
  refine ⟨_, by rw [decide_eq_false h0]; rfl, ?_⟩
  simp only [hp.o, hq.o, cx_K, decide_true, decide_false, reduceCtorEq, gTp, gCons, gNil, ca_0, ca_1, ca_2, ca_3, ca_4, ca_5, ca_6, ca_7, ca_8, ca_9, ca_10, ca_11, ca_12, ca_13, ca_14, ca_15, ca_16, ca_17, ca_18, ca_19, ca_20, ca_21, ca_22, ca_23, ca_24, ca_25, ca_26, ca_27, ca_28, ca_29, ca_30, not_true_eq_false, not_false_eq_true, Int.reduceEq, Nat.reduceEqDiff, Nat.reduceLeDiff, rGcd, V.ty.injEq, eq_self, List.not_mem_nil, beq_self_eq_true, HO.lst.injEq, HO.tup.injEq, tFor_eq, iRng1, iList, iTup, nat10, tSeq, rIxA, rSetA, rIsN, rIsT, tTp, tLs, itsO_tup, itsO_lst, tyO_tup, tyO_lst, tyO_dK, tyN_non, tyN_bl, tyN_int, tyN_str, tyN_ref, tyNs_lt, isB, upd_same, upd_upd, sizeLine_eq, List.mem_cons, String.reduceBEq, String.reduceEq, Bool.or_false, Bool.or_true, Bool.and_false, Bool.false_or, Bool.and_self, Bool.false_and, Bool.not_false, Bool.not_true, List.any_cons, List.any_nil, atI_0, setI_0, atI_1, setI_1, atI_2, setI_2, atI_3, setI_3, atI_4, setI_4, atI_5, setI_5, atI_6, setI_6, tAsg, gName, tOp, tUn, tVar, tC, tCons, L2.tNil, tRet, tIfS, tTest, tCB, tCall, rI, rI0, rU, tNext, tB, tAnd, tOr, tNot, tAndV, tOrV, tNotV, tDrop, tIf, tPar, gSub, rIxL, rIxT, rEq, rNe, rSetL, tBits,
    L2.start, List.map_cons, List.map_nil, List.cons_append, List.nil_append, List.append_nil, List.length_cons, List.length_nil, List.replicate, Nat.reduceAdd, Nat.reduceSub, Nat.zero_add, List.getElem?_cons_zero, List.getElem?_cons_succ, List.set_cons_zero, List.set_cons_succ,
    Option.some.injEq, exists_eq_left', exists_eq_left, V.int.injEq, V.bl.injEq, V.ref.injEq, V.str.injEq, List.cons.injEq, reduceCtorEq, and_true, true_and, false_and, and_false, exists_false, or_false, false_or, or_true, true_or, exists_const, CMul, CDiv, CPow, and_assoc, exists_and_left, exists_and_right, Int.reducePow, Int.reduceNeg, Int.reduceLT, Int.reduceLE, Nat.reducePow, Nat.reduceLT, Int.reduceToNat, gt_iff_lt, ge_iff_le, decide_eq_true_eq, Bool.not_eq_true', decide_eq_false_iff_not, scal, ↓reduceIte, Bool.false_eq_true]
  exact ⟨mulW hp.sz.1 hq.sz.2 (by omega), mulW hp.sz.2 hq.sz.1 (by omega), _, _, rfl, Int.mul_ne_zero hp.nf.ne h0, szMono (szMul hp.sz.2 hq.sz.1) (by omega), k⟩
def spQuot (K : PySem.W.Frag) : Sp := fun vs H Q _ => ∃ (a : Addr) (z : Qt) (t b : Int), vs = [.ref a, .int t, .int b] ∧ Fq K H 3000 a z ∧ Is z t b ∧ t.natAbs < 2 ^ 3000 ∧ b.natAbs < 2 ^ 3000 ∧ Q (.bl true) H
abbrev sPart : Stmt := topS 31
theorem scPart : FnScope ["value"] ["value"] (defScope sPart) := ⟨rfl, rfl, rfl, by decide +kernel, rfl, by decide +kernel, by decide +kernel⟩
theorem k_Part (T : Bt K mg) (D : Dfn K mg "part_of" sPart ["value"]) (d_require : Kn P w K mg base 1 "require" ["well_formed", "what"] spRequire) (d_is_fraction : Kn P w K mg base 2 "is_fraction" ["value"] (spIsFraction K)) : Kn P w K mg base 3 "part_of" ["value"] (spUn K fun q => (q.1 % q.2, q.2)) := by
  refine Kn.mk' D scPart (fun vs H Q E h => ?_) (fun f cdv A outer s H vs Q E hr h => ?_)
  · obtain ⟨a, q, rfl, _⟩ := h
    rfl
  obtain ⟨a, q, rfl, hq, k⟩ := h
  refine ⟨_, (pss_cons (ps_expr (pe_kn d_require hr (by rfl) (pa_cons (pe_kn d_is_fraction hr (by rfl) (pa_cons (pv 0) pa_nil)) (pa_cons pe_str pa_nil))))
      (pss_one (ps_ret (pe_tp (pa_cons (pe_op op_modN (pe_ix ix_any (pv 0) pe_int (fun _ _ => rfl)) (pe_ix ix_any (pv 0) pe_int (fun _ _ => rfl))) (pa_cons (pe_ix ix_any (pv 0) pe_int (fun _ _ => rfl)) pa_nil)))))), ?_⟩
  simp only [cx_K, decide_true, decide_false, reduceCtorEq, gTp, gCons, gNil, ca_0, ca_1, ca_2, ca_3, ca_4, ca_5, ca_6, ca_7, ca_8, ca_9, ca_10, ca_11, ca_12, ca_13, ca_14, ca_15, ca_16, ca_17, ca_18, ca_19, ca_20, ca_21, ca_22, ca_23, ca_24, ca_25, ca_26, ca_27, ca_28, ca_29, ca_30, not_true_eq_false, not_false_eq_true, Int.reduceEq, Nat.reduceEqDiff, Nat.reduceLeDiff, rGcd, V.ty.injEq, eq_self, List.not_mem_nil, beq_self_eq_true, HO.lst.injEq, HO.tup.injEq, tFor_eq, iRng1, iList, iTup, nat10, tSeq, rIxA, rSetA, rIsN, rIsT, tTp, tLs, itsO_tup, itsO_lst, tyO_tup, tyO_lst, tyO_dK, tyN_non, tyN_bl, tyN_int, tyN_str, tyN_ref, tyNs_lt, isB, upd_same, upd_upd, sizeLine_eq, List.mem_cons, String.reduceBEq, String.reduceEq, Bool.or_false, Bool.or_true, Bool.and_false, Bool.false_or, Bool.and_self, Bool.false_and, Bool.not_false, Bool.not_true, List.any_cons, List.any_nil, atI_0, setI_0, atI_1, setI_1, atI_2, setI_2, atI_3, setI_3, atI_4, setI_4, atI_5, setI_5, atI_6, setI_6, tAsg, gName, tOp, tUn, tVar, tC, tCons, L2.tNil, tRet, tIfS, tTest, tCB, tCall, rI, rI0, rU, tNext, tB, tAnd, tOr, tNot, tAndV, tOrV, tNotV, tDrop, tIf, tPar, gSub, rIxL, rIxT, rEq, rNe, rSetL, tBits,
    L2.start, List.map_cons, List.map_nil, List.cons_append, List.nil_append, List.append_nil, List.length_cons, List.length_nil, List.replicate, Nat.reduceAdd, Nat.reduceSub, Nat.zero_add, List.getElem?_cons_zero, List.getElem?_cons_succ, List.set_cons_zero, List.set_cons_succ,
    Option.some.injEq, exists_eq_left', exists_eq_left, V.int.injEq, V.bl.injEq, V.ref.injEq, V.str.injEq, List.cons.injEq, reduceCtorEq, and_true, true_and, false_and, and_false, exists_false, or_false, false_or, or_true, true_or, exists_const, CMul, CDiv, CPow, and_assoc, exists_and_left, exists_and_right, Int.reducePow, Int.reduceNeg, Int.reduceLT, Int.reduceLE, Nat.reducePow, Nat.reduceLT, Int.reduceToNat, gt_iff_lt, ge_iff_le, decide_eq_true_eq, Bool.not_eq_true', decide_eq_false_iff_not, scal, ↓reduceIte, Bool.false_eq_true]
  refine ⟨_, rfl, Tyd.fr hq.o, _, by rw [frOk_fr hq.o hq.nf], ?_⟩
  have fm : q.1.fmod q.2 = q.1 % q.2 := Int.fmod_eq_emod_of_nonneg _ (by have := hq.nf.1; omega)
  simp only [hq.o, fm, cx_K, decide_true, decide_false, reduceCtorEq, gTp, gCons, gNil, ca_0, ca_1, ca_2, ca_3, ca_4, ca_5, ca_6, ca_7, ca_8, ca_9, ca_10, ca_11, ca_12, ca_13, ca_14, ca_15, ca_16, ca_17, ca_18, ca_19, ca_20, ca_21, ca_22, ca_23, ca_24, ca_25, ca_26, ca_27, ca_28, ca_29, ca_30, not_true_eq_false, not_false_eq_true, Int.reduceEq, Nat.reduceEqDiff, Nat.reduceLeDiff, rGcd, V.ty.injEq, eq_self, List.not_mem_nil, beq_self_eq_true, HO.lst.injEq, HO.tup.injEq, tFor_eq, iRng1, iList, iTup, nat10, tSeq, rIxA, rSetA, rIsN, rIsT, tTp, tLs, itsO_tup, itsO_lst, tyO_tup, tyO_lst, tyO_dK, tyN_non, tyN_bl, tyN_int, tyN_str, tyN_ref, tyNs_lt, isB, upd_same, upd_upd, sizeLine_eq, List.mem_cons, String.reduceBEq, String.reduceEq, Bool.or_false, Bool.or_true, Bool.and_false, Bool.false_or, Bool.and_self, Bool.false_and, Bool.not_false, Bool.not_true, List.any_cons, List.any_nil, atI_0, setI_0, atI_1, setI_1, atI_2, setI_2, atI_3, setI_3, atI_4, setI_4, atI_5, setI_5, atI_6, setI_6, tAsg, gName, tOp, tUn, tVar, tC, tCons, L2.tNil, tRet, tIfS, tTest, tCB, tCall, rI, rI0, rU, tNext, tB, tAnd, tOr, tNot, tAndV, tOrV, tNotV, tDrop, tIf, tPar, gSub, rIxL, rIxT, rEq, rNe, rSetL, tBits,
    L2.start, List.map_cons, List.map_nil, List.cons_append, List.nil_append, List.append_nil, List.length_cons, List.length_nil, List.replicate, Nat.reduceAdd, Nat.reduceSub, Nat.zero_add, List.getElem?_cons_zero, List.getElem?_cons_succ, List.set_cons_zero, List.set_cons_succ,
    Option.some.injEq, exists_eq_left', exists_eq_left, V.int.injEq, V.bl.injEq, V.ref.injEq, V.str.injEq, List.cons.injEq, reduceCtorEq, and_true, true_and, false_and, and_false, exists_false, or_false, false_or, or_true, true_or, exists_const, CMul, CDiv, CPow, and_assoc, exists_and_left, exists_and_right, Int.reducePow, Int.reduceNeg, Int.reduceLT, Int.reduceLE, Nat.reducePow, Nat.reduceLT, Int.reduceToNat, gt_iff_lt, ge_iff_le, decide_eq_true_eq, Bool.not_eq_true', decide_eq_false_iff_not, scal, ↓reduceIte, Bool.false_eq_true]
  exact ⟨hq.nf.ne, fun p hp kp => k.new hp kp⟩
abbrev sMagn : Stmt := topS 30
theorem scMagn : FnScope ["value"] ["value"] (defScope sMagn) := ⟨rfl, rfl, rfl, by decide +kernel, rfl, by decide +kernel, by decide +kernel⟩
theorem k_Magn (T : Bt K mg) (D : Dfn K mg "magnitude" sMagn ["value"]) (d_require : Kn P w K mg base 1 "require" ["well_formed", "what"] spRequire) (d_is_fraction : Kn P w K mg base 2 "is_fraction" ["value"] (spIsFraction K)) : Kn P w K mg base 3 "magnitude" ["value"] (spUn K fun q => ((q.1.natAbs : Int), q.2)) := by
  refine Kn.mk' D scMagn (fun vs H Q E h => ?_) (fun f cdv A outer s H vs Q E hr h => ?_)
  · obtain ⟨a, q, rfl, _⟩ := h
    rfl
  obtain ⟨a, q, rfl, hq, k⟩ := h
  refine ⟨_, (pss_cons (ps_expr (pe_kn d_require hr (by rfl) (pa_cons (pe_kn d_is_fraction hr (by rfl) (pa_cons (pv 0) pa_nil)) (pa_cons pe_str pa_nil))))
      (pss_one (ps_ret (pe_tp (pa_cons (pe_callB call_abs (by rfl) T.b_abs (by decide +kernel) (pa_cons (pe_ix ix_any (pv 0) pe_int (fun _ _ => rfl)) pa_nil)) (pa_cons (pe_ix ix_any (pv 0) pe_int (fun _ _ => rfl)) pa_nil)))))), ?_⟩
  simp only [cx_K, decide_true, decide_false, reduceCtorEq, gTp, gCons, gNil, ca_0, ca_1, ca_2, ca_3, ca_4, ca_5, ca_6, ca_7, ca_8, ca_9, ca_10, ca_11, ca_12, ca_13, ca_14, ca_15, ca_16, ca_17, ca_18, ca_19, ca_20, ca_21, ca_22, ca_23, ca_24, ca_25, ca_26, ca_27, ca_28, ca_29, ca_30, not_true_eq_false, not_false_eq_true, Int.reduceEq, Nat.reduceEqDiff, Nat.reduceLeDiff, rGcd, V.ty.injEq, eq_self, List.not_mem_nil, beq_self_eq_true, HO.lst.injEq, HO.tup.injEq, tFor_eq, iRng1, iList, iTup, nat10, tSeq, rIxA, rSetA, rIsN, rIsT, tTp, tLs, itsO_tup, itsO_lst, tyO_tup, tyO_lst, tyO_dK, tyN_non, tyN_bl, tyN_int, tyN_str, tyN_ref, tyNs_lt, isB, upd_same, upd_upd, sizeLine_eq, List.mem_cons, String.reduceBEq, String.reduceEq, Bool.or_false, Bool.or_true, Bool.and_false, Bool.false_or, Bool.and_self, Bool.false_and, Bool.not_false, Bool.not_true, List.any_cons, List.any_nil, atI_0, setI_0, atI_1, setI_1, atI_2, setI_2, atI_3, setI_3, atI_4, setI_4, atI_5, setI_5, atI_6, setI_6, tAsg, gName, tOp, tUn, tVar, tC, tCons, L2.tNil, tRet, tIfS, tTest, tCB, tCall, rI, rI0, rU, tNext, tB, tAnd, tOr, tNot, tAndV, tOrV, tNotV, tDrop, tIf, tPar, gSub, rIxL, rIxT, rEq, rNe, rSetL, tBits,
    L2.start, List.map_cons, List.map_nil, List.cons_append, List.nil_append, List.append_nil, List.length_cons, List.length_nil, List.replicate, Nat.reduceAdd, Nat.reduceSub, Nat.zero_add, List.getElem?_cons_zero, List.getElem?_cons_succ, List.set_cons_zero, List.set_cons_succ,
    Option.some.injEq, exists_eq_left', exists_eq_left, V.int.injEq, V.bl.injEq, V.ref.injEq, V.str.injEq, List.cons.injEq, reduceCtorEq, and_true, true_and, false_and, and_false, exists_false, or_false, false_or, or_true, true_or, exists_const, CMul, CDiv, CPow, and_assoc, exists_and_left, exists_and_right, Int.reducePow, Int.reduceNeg, Int.reduceLT, Int.reduceLE, Nat.reducePow, Nat.reduceLT, Int.reduceToNat, gt_iff_lt, ge_iff_le, decide_eq_true_eq, Bool.not_eq_true', decide_eq_false_iff_not, scal, ↓reduceIte, Bool.false_eq_true]
  refine ⟨_, rfl, Tyd.fr hq.o, _, by rw [frOk_fr hq.o hq.nf], ?_⟩
  simp only [hq.o, abs_if, cx_K, decide_true, decide_false, reduceCtorEq, gTp, gCons, gNil, ca_0, ca_1, ca_2, ca_3, ca_4, ca_5, ca_6, ca_7, ca_8, ca_9, ca_10, ca_11, ca_12, ca_13, ca_14, ca_15, ca_16, ca_17, ca_18, ca_19, ca_20, ca_21, ca_22, ca_23, ca_24, ca_25, ca_26, ca_27, ca_28, ca_29, ca_30, not_true_eq_false, not_false_eq_true, Int.reduceEq, Nat.reduceEqDiff, Nat.reduceLeDiff, rGcd, V.ty.injEq, eq_self, List.not_mem_nil, beq_self_eq_true, HO.lst.injEq, HO.tup.injEq, tFor_eq, iRng1, iList, iTup, nat10, tSeq, rIxA, rSetA, rIsN, rIsT, tTp, tLs, itsO_tup, itsO_lst, tyO_tup, tyO_lst, tyO_dK, tyN_non, tyN_bl, tyN_int, tyN_str, tyN_ref, tyNs_lt, isB, upd_same, upd_upd, sizeLine_eq, List.mem_cons, String.reduceBEq, String.reduceEq, Bool.or_false, Bool.or_true, Bool.and_false, Bool.false_or, Bool.and_self, Bool.false_and, Bool.not_false, Bool.not_true, List.any_cons, List.any_nil, atI_0, setI_0, atI_1, setI_1, atI_2, setI_2, atI_3, setI_3, atI_4, setI_4, atI_5, setI_5, atI_6, setI_6, tAsg, gName, tOp, tUn, tVar, tC, tCons, L2.tNil, tRet, tIfS, tTest, tCB, tCall, rI, rI0, rU, tNext, tB, tAnd, tOr, tNot, tAndV, tOrV, tNotV, tDrop, tIf, tPar, gSub, rIxL, rIxT, rEq, rNe, rSetL, tBits,
    L2.start, List.map_cons, List.map_nil, List.cons_append, List.nil_append, List.append_nil, List.length_cons, List.length_nil, List.replicate, Nat.reduceAdd, Nat.reduceSub, Nat.zero_add, List.getElem?_cons_zero, List.getElem?_cons_succ, List.set_cons_zero, List.set_cons_succ,
    Option.some.injEq, exists_eq_left', exists_eq_left, V.int.injEq, V.bl.injEq, V.ref.injEq, V.str.injEq, List.cons.injEq, reduceCtorEq, and_true, true_and, false_and, and_false, exists_false, or_false, false_or, or_true, true_or, exists_const, CMul, CDiv, CPow, and_assoc, exists_and_left, exists_and_right, Int.reducePow, Int.reduceNeg, Int.reduceLT, Int.reduceLE, Nat.reducePow, Nat.reduceLT, Int.reduceToNat, gt_iff_lt, ge_iff_le, decide_eq_true_eq, Bool.not_eq_true', decide_eq_false_iff_not, scal, ↓reduceIte, Bool.false_eq_true]
  exact fun p hp kp => k.new hp kp
def spLFracs (K : PySem.W.Frag) : Sp := fun vs H Q _ => ∃ (l : Addr) (xs : List V), vs = [.ref l] ∧ H l = some (.lst xs) ∧ K.lookup l = none ∧ (∀ x ∈ xs, ∃ a q, x = .ref a ∧ Fq K H 8000 a q) ∧ Q (.bl true) H
def FracsI (l : Addr) (H : Hp) (_ : Nat) (σ : L2.St) (H' : Hp) : Prop := ∃ y, σ = [some (.ref l), y] ∧ H' = H
def spLeaves (K : PySem.W.Frag) : Sp := fun vs H Q _ => ∃ (a b : Addr) (p q : Qt), vs = [.ref a, .ref b] ∧ Fq K H 8000 a p ∧ Fq K H 8000 b q ∧ Q (.bl (decide (q.2 = p.2) && decide ((p.1 - q.1) % p.2 = 0))) H
abbrev sNegated : Stmt := topS 29
theorem scNegated : FnScope ["value"] ["value"] (defScope sNegated) := ⟨rfl, rfl, rfl, by decide +kernel, rfl, by decide +kernel, by decide +kernel⟩
theorem k_Negated (T : Bt K mg) (D : Dfn K mg "negated" sNegated ["value"]) (d_require : Kn P w K mg base 1 "require" ["well_formed", "what"] spRequire) (d_is_fraction : Kn P w K mg base 2 "is_fraction" ["value"] (spIsFraction K)) : Kn P w K mg base 3 "negated" ["value"] (spUn K fun q => (-q.1, q.2)) := by
  refine Kn.mk' D scNegated (fun vs H Q E h => ?_) (fun f cdv A outer s H vs Q E hr h => ?_)
  · obtain ⟨a, q, rfl, _⟩ := h
    rfl
  obtain ⟨a, q, rfl, hq, k⟩ := h
  refine ⟨_, (pss_cons (ps_expr (pe_kn d_require hr (by rfl) (pa_cons (pe_kn d_is_fraction hr (by rfl) (pa_cons (pv 0) pa_nil)) (pa_cons pe_str pa_nil))))
      (pss_one (ps_ret (pe_tp (pa_cons (pe_un un_neg (pe_ix ix_any (pv 0) pe_int (fun _ _ => rfl))) (pa_cons (pe_ix ix_any (pv 0) pe_int (fun _ _ => rfl)) pa_nil)))))), ?_⟩
  simp only [cx_K, decide_true, decide_false, reduceCtorEq, gTp, gCons, gNil, ca_0, ca_1, ca_2, ca_3, ca_4, ca_5, ca_6, ca_7, ca_8, ca_9, ca_10, ca_11, ca_12, ca_13, ca_14, ca_15, ca_16, ca_17, ca_18, ca_19, ca_20, ca_21, ca_22, ca_23, ca_24, ca_25, ca_26, ca_27, ca_28, ca_29, ca_30, not_true_eq_false, not_false_eq_true, Int.reduceEq, Nat.reduceEqDiff, Nat.reduceLeDiff, rGcd, V.ty.injEq, eq_self, List.not_mem_nil, beq_self_eq_true, HO.lst.injEq, HO.tup.injEq, tFor_eq, iRng1, iList, iTup, nat10, tSeq, rIxA, rSetA, rIsN, rIsT, tTp, tLs, itsO_tup, itsO_lst, tyO_tup, tyO_lst, tyO_dK, tyN_non, tyN_bl, tyN_int, tyN_str, tyN_ref, tyNs_lt, isB, upd_same, upd_upd, sizeLine_eq, List.mem_cons, String.reduceBEq, String.reduceEq, Bool.or_false, Bool.or_true, Bool.and_false, Bool.false_or, Bool.and_self, Bool.false_and, Bool.not_false, Bool.not_true, List.any_cons, List.any_nil, atI_0, setI_0, atI_1, setI_1, atI_2, setI_2, atI_3, setI_3, atI_4, setI_4, atI_5, setI_5, atI_6, setI_6, tAsg, gName, tOp, tUn, tVar, tC, tCons, L2.tNil, tRet, tIfS, tTest, tCB, tCall, rI, rI0, rU, tNext, tB, tAnd, tOr, tNot, tAndV, tOrV, tNotV, tDrop, tIf, tPar, gSub, rIxL, rIxT, rEq, rNe, rSetL, tBits,
    L2.start, List.map_cons, List.map_nil, List.cons_append, List.nil_append, List.append_nil, List.length_cons, List.length_nil, List.replicate, Nat.reduceAdd, Nat.reduceSub, Nat.zero_add, List.getElem?_cons_zero, List.getElem?_cons_succ, List.set_cons_zero, List.set_cons_succ,
    Option.some.injEq, exists_eq_left', exists_eq_left, V.int.injEq, V.bl.injEq, V.ref.injEq, V.str.injEq, List.cons.injEq, reduceCtorEq, and_true, true_and, false_and, and_false, exists_false, or_false, false_or, or_true, true_or, exists_const, CMul, CDiv, CPow, and_assoc, exists_and_left, exists_and_right, Int.reducePow, Int.reduceNeg, Int.reduceLT, Int.reduceLE, Nat.reducePow, Nat.reduceLT, Int.reduceToNat, gt_iff_lt, ge_iff_le, decide_eq_true_eq, Bool.not_eq_true', decide_eq_false_iff_not, scal, ↓reduceIte, Bool.false_eq_true]
  refine ⟨_, rfl, Tyd.fr hq.o, _, by rw [frOk_fr hq.o hq.nf], ?_⟩
  simp only [hq.o, cx_K, decide_true, decide_false, reduceCtorEq, gTp, gCons, gNil, ca_0, ca_1, ca_2, ca_3, ca_4, ca_5, ca_6, ca_7, ca_8, ca_9, ca_10, ca_11, ca_12, ca_13, ca_14, ca_15, ca_16, ca_17, ca_18, ca_19, ca_20, ca_21, ca_22, ca_23, ca_24, ca_25, ca_26, ca_27, ca_28, ca_29, ca_30, not_true_eq_false, not_false_eq_true, Int.reduceEq, Nat.reduceEqDiff, Nat.reduceLeDiff, rGcd, V.ty.injEq, eq_self, List.not_mem_nil, beq_self_eq_true, HO.lst.injEq, HO.tup.injEq, tFor_eq, iRng1, iList, iTup, nat10, tSeq, rIxA, rSetA, rIsN, rIsT, tTp, tLs, itsO_tup, itsO_lst, tyO_tup, tyO_lst, tyO_dK, tyN_non, tyN_bl, tyN_int, tyN_str, tyN_ref, tyNs_lt, isB, upd_same, upd_upd, sizeLine_eq, List.mem_cons, String.reduceBEq, String.reduceEq, Bool.or_false, Bool.or_true, Bool.and_false, Bool.false_or, Bool.and_self, Bool.false_and, Bool.not_false, Bool.not_true, List.any_cons, List.any_nil, atI_0, setI_0, atI_1, setI_1, atI_2, setI_2, atI_3, setI_3, atI_4, setI_4, atI_5, setI_5, atI_6, setI_6, tAsg, gName, tOp, tUn, tVar, tC, tCons, L2.tNil, tRet, tIfS, tTest, tCB, tCall, rI, rI0, rU, tNext, tB, tAnd, tOr, tNot, tAndV, tOrV, tNotV, tDrop, tIf, tPar, gSub, rIxL, rIxT, rEq, rNe, rSetL, tBits,
    L2.start, List.map_cons, List.map_nil, List.cons_append, List.nil_append, List.append_nil, List.length_cons, List.length_nil, List.replicate, Nat.reduceAdd, Nat.reduceSub, Nat.zero_add, List.getElem?_cons_zero, List.getElem?_cons_succ, List.set_cons_zero, List.set_cons_succ,
    Option.some.injEq, exists_eq_left', exists_eq_left, V.int.injEq, V.bl.injEq, V.ref.injEq, V.str.injEq, List.cons.injEq, reduceCtorEq, and_true, true_and, false_and, and_false, exists_false, or_false, false_or, or_true, true_or, exists_const, CMul, CDiv, CPow, and_assoc, exists_and_left, exists_and_right, Int.reducePow, Int.reduceNeg, Int.reduceLT, Int.reduceLE, Nat.reducePow, Nat.reduceLT, Int.reduceToNat, gt_iff_lt, ge_iff_le, decide_eq_true_eq, Bool.not_eq_true', decide_eq_false_iff_not, scal, ↓reduceIte, Bool.false_eq_true]
  exact fun p hp kp => k.new hp kp
theorem frOk_inv {H : Hp} {v : V} (h : frOk K H v = true) : ∃ a q, v = .ref a ∧ ob K H a = some (.tup [.int q.1, .int q.2]) ∧ Nf q := by
  cases v with
  | ref a =>
    simp only [frOk] at h
    split at h
    · rename_i n d hz
      simp only [Bool.and_eq_true, decide_eq_true_eq] at h
      exact ⟨_, (n, d), rfl, hz, h.1, h.2⟩
    · cases h
  | _ => cases h
/-- a place: a fraction of 0 or more, less than 1 -/
def plOk (K : PySem.W.Frag) (H : Hp) (v : V) : Bool := frOk K H v && match v with
  | .ref a => match ob K H a with
    | some (.tup [.int n, .int d]) => decide (0 ≤ n) && decide (n < d)
    | _ => false
  | _ => false
theorem plOk_no {H : Hp} {v : V} (h : frOk K H v = false) : plOk K H v = false := by unfold plOk; rw [h]; rfl
theorem plOk_fr {H : Hp} {a : Addr} {q : Qt} (h : ob K H a = some (.tup [.int q.1, .int q.2])) (hn : Nf q) : plOk K H (.ref a) = (decide (0 ≤ q.1) && decide (q.1 < q.2)) := by
  have e := frOk_fr (K := K) h hn
  unfold plOk
  rw [e]
  simp only [h, Bool.true_and]
def spIsPlace (K : PySem.W.Frag) : Sp := fun vs H Q _ => ∃ v, vs = [v] ∧ Tyd K H v ∧ Q (.bl (plOk K H v)) H
abbrev sIsPlace : Stmt := topS 24
theorem scIsPlace : FnScope ["value"] ["value"] (defScope sIsPlace) := ⟨rfl, rfl, rfl, by decide +kernel, rfl, by decide +kernel, by decide +kernel⟩
theorem k_IsPlace (T : Bt K mg) (D : Dfn K mg "is_place" sIsPlace ["value"]) (d_is_fraction : Kn P w K mg base 2 "is_fraction" ["value"] (spIsFraction K)) : Kn P w K mg base 3 "is_place" ["value"] (spIsPlace K) := by
  refine Kn.mk' D scIsPlace (fun vs H Q E h => ?_) (fun f cdv A outer s H vs Q E hr h => ?_)
  · obtain ⟨v, rfl, _⟩ := h
    rfl
  obtain ⟨v, rfl, hv, q⟩ := h
  refine ⟨_, (pss_one (ps_ret (pe_and (pe_kn d_is_fraction hr (by rfl) (pa_cons (pv 0) pa_nil)) (pe_one (pe_chain op_le op_lt pe_int (pe_ix ix_any (pv 0) pe_int (fun _ _ => rfl)) (pe_ix ix_any (pv 0) pe_int (fun _ _ => rfl))))))), ?_⟩
  refine ⟨_, rfl, v, rfl, hv, ?_⟩
  cases e : frOk K H v with
  | false =>
    rw [plOk_no e] at q
    exact ⟨false, rfl, q⟩
  | true =>
    obtain ⟨a, z, rfl, ho, hn⟩ := frOk_inv e
    rw [plOk_fr ho hn] at q
    refine ⟨true, rfl, ?_⟩
    rw [if_pos rfl]
    simp only [ho, tChain, cx_K, decide_true, decide_false, reduceCtorEq, gTp, gCons, gNil, ca_0, ca_1, ca_2, ca_3, ca_4, ca_5, ca_6, ca_7, ca_8, ca_9, ca_10, ca_11, ca_12, ca_13, ca_14, ca_15, ca_16, ca_17, ca_18, ca_19, ca_20, ca_21, ca_22, ca_23, ca_24, ca_25, ca_26, ca_27, ca_28, ca_29, ca_30, not_true_eq_false, not_false_eq_true, Int.reduceEq, Nat.reduceEqDiff, Nat.reduceLeDiff, rGcd, V.ty.injEq, eq_self, List.not_mem_nil, beq_self_eq_true, HO.lst.injEq, HO.tup.injEq, tFor_eq, iRng1, iList, iTup, nat10, tSeq, rIxA, rSetA, rIsN, rIsT, tTp, tLs, itsO_tup, itsO_lst, tyO_tup, tyO_lst, tyO_dK, tyN_non, tyN_bl, tyN_int, tyN_str, tyN_ref, tyNs_lt, isB, upd_same, upd_upd, sizeLine_eq, List.mem_cons, String.reduceBEq, String.reduceEq, Bool.or_false, Bool.or_true, Bool.and_false, Bool.false_or, Bool.and_self, Bool.false_and, Bool.not_false, Bool.not_true, List.any_cons, List.any_nil, atI_0, setI_0, atI_1, setI_1, atI_2, setI_2, atI_3, setI_3, atI_4, setI_4, atI_5, setI_5, atI_6, setI_6, tAsg, gName, tOp, tUn, tVar, tC, tCons, L2.tNil, tRet, tIfS, tTest, tCB, tCall, rI, rI0, rU, tNext, tB, tAnd, tOr, tNot, tAndV, tOrV, tNotV, tDrop, tIf, tPar, gSub, rIxL, rIxT, rEq, rNe, rSetL, tBits,
    L2.start, List.map_cons, List.map_nil, List.cons_append, List.nil_append, List.append_nil, List.length_cons, List.length_nil, List.replicate, Nat.reduceAdd, Nat.reduceSub, Nat.zero_add, List.getElem?_cons_zero, List.getElem?_cons_succ, List.set_cons_zero, List.set_cons_succ,
    Option.some.injEq, exists_eq_left', exists_eq_left, V.int.injEq, V.bl.injEq, V.ref.injEq, V.str.injEq, List.cons.injEq, reduceCtorEq, and_true, true_and, false_and, and_false, exists_false, or_false, false_or, or_true, true_or, exists_const, CMul, CDiv, CPow, and_assoc, exists_and_left, exists_and_right, Int.reducePow, Int.reduceNeg, Int.reduceLT, Int.reduceLE, Nat.reducePow, Nat.reduceLT, Int.reduceToNat, gt_iff_lt, ge_iff_le, decide_eq_true_eq, Bool.not_eq_true', decide_eq_false_iff_not, scal, ↓reduceIte, Bool.false_eq_true]
    refine ite2 (fun h => ?_) (fun h => ?_)
    · rw [decide_eq_true h, Bool.true_and] at q
      exact q
    · rw [decide_eq_false h, Bool.false_and] at q
      exact q
def spLPlace (K : PySem.W.Frag) : Sp := fun vs H Q _ => ∃ (a : Addr) (q : Qt), vs = [.ref a] ∧ Fq K H 8000 a q ∧ 0 ≤ q.1 ∧ q.1 < q.2 ∧ Q (.bl true) H
end
end My

namespace My
open PySem PySem.Spec PyProof.Rows L2
section
variable {P : Program} {w : World} {K : PySem.W.Frag} {mg : Str → Option Value} {base : Heap}
/-- an int that the draws gave; all but the store stands -/
def spPick (K : PySem.W.Frag) : Sp := fun vs H Q _ => ∃ (s r : Addr) (xs : List V), vs = [.ref s, .ref r] ∧ Sto K H s ∧ H r = some (.lst xs) ∧ s ≠ r ∧ 0 < xs.length ∧ xs.length < 1000 ∧ ∀ x H', x ∈ xs → Kp s H H' → Sto K H' s → Q x H'
theorem at_mem {α : Type} {xs : List α} {i : Int} (h0 : 0 ≤ i) (h : i < (xs.length : Int)) : ∃ v ∈ xs, atI xs i = some v := by
  have hk : i.toNat < xs.length := by omega
  have q : atI xs ((i.toNat : Nat) : Int) = some xs[i.toNat] := atI_nat (List.getElem?_eq_getElem hk)
  rw [show ((i.toNat : Nat) : Int) = i by omega] at q
  exact ⟨_, List.getElem_mem hk, q⟩
theorem Sto.at {H : Hp} {s : Addr} (h : Sto K H s) : ∃ ys, H s = some (.lst ys) := by
  obtain ⟨sc, ns, i, b, c, d, e, f, h⟩ := h
  exact ⟨_, h.1⟩
theorem Kp.at {s : Addr} {H H' : Hp} {r : Addr} {o : HO} (e : Kp s H H') (n : s ≠ r) (h : H r = some o) : H' r = some o := e _ _ (Ne.symm n) h
abbrev sPick : Stmt := topS 48
theorem scPick : FnScope ["_law_store_here", "_law_row"] ["_law_store_here", "_law_row"] (defScope sPick) := ⟨rfl, rfl, rfl, by decide +kernel, rfl, by decide +kernel, by decide +kernel⟩
theorem k_Pick (T : Bt K mg) (D : Dfn K mg "_law_pick" sPick ["_law_store_here", "_law_row"]) (d__law_take : Kn P w K mg base 2 "_law_take" ["_law_store_here", "_law_many"] (spTake K)) : Kn P w K mg base 3 "_law_pick" ["_law_store_here", "_law_row"] (spPick K) := by
  refine Kn.mk' D scPick (fun vs H Q E h => ?_) (fun f cdv A outer s H vs Q E hr h => ?_)
  · obtain ⟨s, r, xs, rfl, _⟩ := h
    rfl
  obtain ⟨s, r, xs, rfl, hS, hr', ne, hl0, hl1, k⟩ := h
  refine ⟨_, (pss_one (ps_ret (pe_ix ix_list (pv 1) (pe_kn d__law_take hr (by rfl) (pa_cons (pv 0) (pa_cons (pe_callB call_len_seq (by rfl) T.b_len PySem.boot_len (pa_cons (pv 1) pa_nil)) pa_nil))) (fun _ _ => rfl)))), ?_⟩
  simp only [cx_K, decide_true, decide_false, reduceCtorEq, gTp, gCons, gNil, ca_0, ca_1, ca_2, ca_3, ca_4, ca_5, ca_6, ca_7, ca_8, ca_9, ca_10, ca_11, ca_12, ca_13, ca_14, ca_15, ca_16, ca_17, ca_18, ca_19, ca_20, ca_21, ca_22, ca_23, ca_24, ca_25, ca_26, ca_27, ca_28, ca_29, ca_30, not_true_eq_false, not_false_eq_true, Int.reduceEq, Nat.reduceEqDiff, Nat.reduceLeDiff, rGcd, V.ty.injEq, eq_self, List.not_mem_nil, beq_self_eq_true, HO.lst.injEq, HO.tup.injEq, tFor_eq, iRng1, iList, iTup, nat10, tSeq, rIxA, rSetA, rIsN, rIsT, tTp, tLs, itsO_tup, itsO_lst, tyO_tup, tyO_lst, tyO_dK, tyN_non, tyN_bl, tyN_int, tyN_str, tyN_ref, tyNs_lt, isB, upd_same, upd_upd, sizeLine_eq, List.mem_cons, String.reduceBEq, String.reduceEq, Bool.or_false, Bool.or_true, Bool.and_false, Bool.false_or, Bool.and_self, Bool.false_and, Bool.not_false, Bool.not_true, List.any_cons, List.any_nil, atI_0, setI_0, atI_1, setI_1, atI_2, setI_2, atI_3, setI_3, atI_4, setI_4, atI_5, setI_5, atI_6, setI_6, tAsg, gName, tOp, tUn, tVar, tC, tCons, L2.tNil, tRet, tIfS, tTest, tCB, tCall, rI, rI0, rU, tNext, tB, tAnd, tOr, tNot, tAndV, tOrV, tNotV, tDrop, tIf, tPar, gSub, rIxL, rIxT, rEq, rNe, rSetL, tBits,
    L2.start, List.map_cons, List.map_nil, List.cons_append, List.nil_append, List.append_nil, List.length_cons, List.length_nil, List.replicate, Nat.reduceAdd, Nat.reduceSub, Nat.zero_add, List.getElem?_cons_zero, List.getElem?_cons_succ, List.set_cons_zero, List.set_cons_succ,
    Option.some.injEq, exists_eq_left', exists_eq_left, V.int.injEq, V.bl.injEq, V.ref.injEq, V.str.injEq, List.cons.injEq, reduceCtorEq, and_true, true_and, false_and, and_false, exists_false, or_false, false_or, or_true, true_or, exists_const, CMul, CDiv, CPow, and_assoc, exists_and_left, exists_and_right, Int.reducePow, Int.reduceNeg, Int.reduceLT, Int.reduceLE, Nat.reducePow, Nat.reduceLT, Int.reduceToNat, gt_iff_lt, ge_iff_le, decide_eq_true_eq, Bool.not_eq_true', decide_eq_false_iff_not, scal, ↓reduceIte, Bool.false_eq_true]
  refine ⟨xs, .inl (.of hr'), s, _, rfl, hS, by omega, fun i H' h0 h1 kp st => ?_⟩
  obtain ⟨v, hv, e⟩ := at_mem (xs := xs) (i := i) h0 (by omega)
  exact ⟨xs, i, rfl, .of (kp.at ne hr'), v, e, k v H' hv kp st⟩
def spInt (K : PySem.W.Frag) (R : Int → Prop) : Sp := fun vs H Q _ => ∃ (s : Addr), vs = [.ref s] ∧ Sto K H s ∧ ∀ n H', R n → Kp s H H' → Sto K H' s → Q (.int n) H'
def spLInt (K : PySem.W.Frag) : Sp := fun vs H Q _ => ∃ (s : Addr) (r : Int), vs = [.ref s, .int r] ∧ Sto K H s ∧ 1 ≤ r ∧ r < 2 ^ 190 ∧ ∀ n H', -r ≤ n → n ≤ r → Kp s H H' → Sto K H' s → Q (.int n) H'
theorem menu {xs : List V} {i : Int} {R : V → Prop} (h0 : 0 ≤ i) (h : i < (xs.length : Int)) (k : ∀ v ∈ xs, R v) : ∃ v, atI xs i = some v ∧ R v := by
  obtain ⟨v, hv, e⟩ := at_mem h0 h
  exact ⟨v, e, k v hv⟩
def GreatI (s : Addr) (spot : Int) (H1 : Hp) (_ : Nat) (σ : L2.St) (H' : Hp) : Prop := ∃ v y, σ = [some (.ref s), some (.int spot), some (.int v), y] ∧ H' = H1 ∧ 0 ≤ v ∧ v < 2 ^ 133
def spDFrac (K : PySem.W.Frag) (n : Nat) : Sp := fun vs H Q _ => ∃ (s : Addr), vs = [.ref s] ∧ Sto K H s ∧ ∀ a q H', Fq K H' n a q → Kp s H H' → Sto K H' s → Q (.ref a) H'
theorem nf01 : Nf (0, 1) := ⟨by decide, by decide⟩
theorem nf11 : Nf (1, 1) := ⟨by decide, by decide⟩
theorem nfm1 : Nf (-1, 1) := ⟨by decide, by decide⟩
theorem nf12 : Nf (1, 2) := ⟨by decide, by decide⟩
theorem nfm2 : Nf (-1, 2) := ⟨by decide, by decide⟩
theorem sz10 {x y : Int} (h1 : x.natAbs < 1024) (h2 : y.natAbs < 1024) : Sz 10 (x, y) := ⟨by show x.natAbs < _; omega, by show y.natAbs < _; omega⟩
/-- the script, read alone -/
def spStore (K : PySem.W.Frag) : Sp := fun vs H Q _ => ∃ (a : Addr) (ns : List Int), vs = [.ref a] ∧ SqL K H a (ns.map V.int) ∧ ∀ s H', Same H H' → Sto K H' s → Q (.ref s) H'
def StoreI (a : Addr) (H : Hp) (_ : Nat) (σ : L2.St) (H' : Hp) : Prop := ∃ (v : Int) (y : Option V), σ = [some (.ref a), some (.int v), y] ∧ H' = H
abbrev sStore : Stmt := topS 46
theorem scStore : FnScope ["_law_script", "_law_seed", "_law_cell"] ["_law_script"] (defScope sStore) := ⟨rfl, rfl, rfl, by decide +kernel, rfl, by decide +kernel, by decide +kernel⟩
theorem k_Store (T : Bt K mg) (D : Dfn K mg "_law_store" sStore ["_law_script"]) : Kn P w K mg base 1 "_law_store" ["_law_script"] (spStore K) := by
  refine Kn.mk' D scStore (fun vs H Q E h => ?_) (fun f cdv A outer s H vs Q E hr h => ?_)
  · obtain ⟨a, ns, rfl, _⟩ := h
    rfl
  obtain ⟨a, ns, rfl, hS, k⟩ := h
  refine ⟨_, (pss_cons (ps_set (i := 1) scStore.nd rfl (.inl rfl) (pe_op op_add (pe_callB call_len_seq (by rfl) T.b_len PySem.boot_len (pa_cons (pv 0) pa_nil)) pe_int))
      (pss_cons (ps_for PassesOwn.never rfl (pi_list (pv 0)) (pg_name (i := 2) scStore.nd rfl (.inl rfl)) (pss_one (ps_set (i := 1) scStore.nd rfl (.inl rfl) (pe_op op_mod (pe_op op_add (pe_op op_add (pe_op op_mul (pv 1) pe_int) (pe_op op_mod (pe_callTy call_int1 (by rfl) T.b_int (by decide +kernel) (pa_cons (pv 2) pa_nil)) pe_int)) pe_int) pe_int))))
      (pss_one (ps_ret (pe_ls (pa_cons (pe_callTy call_listK (by rfl) T.b_list (by decide +kernel) (pa_cons (pv 0) pa_nil)) (pa_cons pe_int (pa_cons pe_int (pa_cons pe_int (pa_cons (pv 1) (pa_cons pe_int (pa_cons pe_int pa_nil)))))))))))), ?_⟩
  simp only [cx_K, decide_true, decide_false, reduceCtorEq, gTp, gCons, gNil, ca_0, ca_1, ca_2, ca_3, ca_4, ca_5, ca_6, ca_7, ca_8, ca_9, ca_10, ca_11, ca_12, ca_13, ca_14, ca_15, ca_16, ca_17, ca_18, ca_19, ca_20, ca_21, ca_22, ca_23, ca_24, ca_25, ca_26, ca_27, ca_28, ca_29, ca_30, not_true_eq_false, not_false_eq_true, Int.reduceEq, Nat.reduceEqDiff, Nat.reduceLeDiff, rGcd, V.ty.injEq, eq_self, List.not_mem_nil, beq_self_eq_true, HO.lst.injEq, HO.tup.injEq, tFor_eq, iRng1, iList, iTup, nat10, tSeq, rIxA, rSetA, rIsN, rIsT, tTp, tLs, itsO_tup, itsO_lst, tyO_tup, tyO_lst, tyO_dK, tyN_non, tyN_bl, tyN_int, tyN_str, tyN_ref, tyNs_lt, isB, upd_same, upd_upd, sizeLine_eq, List.mem_cons, String.reduceBEq, String.reduceEq, Bool.or_false, Bool.or_true, Bool.and_false, Bool.false_or, Bool.and_self, Bool.false_and, Bool.not_false, Bool.not_true, List.any_cons, List.any_nil, atI_0, setI_0, atI_1, setI_1, atI_2, setI_2, atI_3, setI_3, atI_4, setI_4, atI_5, setI_5, atI_6, setI_6, tAsg, gName, tOp, tUn, tVar, tC, tCons, L2.tNil, tRet, tIfS, tTest, tCB, tCall, rI, rI0, rU, tNext, tB, tAnd, tOr, tNot, tAndV, tOrV, tNotV, tDrop, tIf, tPar, gSub, rIxL, rIxT, rEq, rNe, rSetL, tBits,
    L2.start, List.map_cons, List.map_nil, List.cons_append, List.nil_append, List.append_nil, List.length_cons, List.length_nil, List.replicate, Nat.reduceAdd, Nat.reduceSub, Nat.zero_add, List.getElem?_cons_zero, List.getElem?_cons_succ, List.set_cons_zero, List.set_cons_succ,
    Option.some.injEq, exists_eq_left', exists_eq_left, V.int.injEq, V.bl.injEq, V.ref.injEq, V.str.injEq, List.cons.injEq, reduceCtorEq, and_true, true_and, false_and, and_false, exists_false, or_false, false_or, or_true, true_or, exists_const, CMul, CDiv, CPow, and_assoc, exists_and_left, exists_and_right, Int.reducePow, Int.reduceNeg, Int.reduceLT, Int.reduceLE, Nat.reducePow, Nat.reduceLT, Int.reduceToNat, gt_iff_lt, ge_iff_le, decide_eq_true_eq, Bool.not_eq_true', decide_eq_false_iff_not, scal, ↓reduceIte, Bool.false_eq_true]
  refine ⟨_, .inl hS, ⟨_, hS⟩, forI_list (xs := ns.map V.int) (StoreI a H) ⟨_, none, rfl, rfl⟩ ?_ ?_ ?_⟩
  · rintro i σ H' _ ⟨v, y, rfl, rfl⟩
    exact hS
  · rintro i x σ H' hi ⟨v, y, rfl, rfl⟩
    obtain ⟨z, rfl⟩ : ∃ z, x = V.int z := by
      rw [List.getElem?_map] at hi
      cases e : ns[i]? with
      | none => rw [e] at hi; cases hi
      | some z => rw [e] at hi; exact ⟨z, (Option.some.inj hi).symm⟩
    simp only [cx_K, decide_true, decide_false, reduceCtorEq, gTp, gCons, gNil, ca_0, ca_1, ca_2, ca_3, ca_4, ca_5, ca_6, ca_7, ca_8, ca_9, ca_10, ca_11, ca_12, ca_13, ca_14, ca_15, ca_16, ca_17, ca_18, ca_19, ca_20, ca_21, ca_22, ca_23, ca_24, ca_25, ca_26, ca_27, ca_28, ca_29, ca_30, not_true_eq_false, not_false_eq_true, Int.reduceEq, Nat.reduceEqDiff, Nat.reduceLeDiff, rGcd, V.ty.injEq, eq_self, List.not_mem_nil, beq_self_eq_true, HO.lst.injEq, HO.tup.injEq, tFor_eq, iRng1, iList, iTup, nat10, tSeq, rIxA, rSetA, rIsN, rIsT, tTp, tLs, itsO_tup, itsO_lst, tyO_tup, tyO_lst, tyO_dK, tyN_non, tyN_bl, tyN_int, tyN_str, tyN_ref, tyNs_lt, isB, upd_same, upd_upd, sizeLine_eq, List.mem_cons, String.reduceBEq, String.reduceEq, Bool.or_false, Bool.or_true, Bool.and_false, Bool.false_or, Bool.and_self, Bool.false_and, Bool.not_false, Bool.not_true, List.any_cons, List.any_nil, atI_0, setI_0, atI_1, setI_1, atI_2, setI_2, atI_3, setI_3, atI_4, setI_4, atI_5, setI_5, atI_6, setI_6, tAsg, gName, tOp, tUn, tVar, tC, tCons, L2.tNil, tRet, tIfS, tTest, tCB, tCall, rI, rI0, rU, tNext, tB, tAnd, tOr, tNot, tAndV, tOrV, tNotV, tDrop, tIf, tPar, gSub, rIxL, rIxT, rEq, rNe, rSetL, tBits,
    L2.start, List.map_cons, List.map_nil, List.cons_append, List.nil_append, List.append_nil, List.length_cons, List.length_nil, List.replicate, Nat.reduceAdd, Nat.reduceSub, Nat.zero_add, List.getElem?_cons_zero, List.getElem?_cons_succ, List.set_cons_zero, List.set_cons_succ,
    Option.some.injEq, exists_eq_left', exists_eq_left, V.int.injEq, V.bl.injEq, V.ref.injEq, V.str.injEq, List.cons.injEq, reduceCtorEq, and_true, true_and, false_and, and_false, exists_false, or_false, false_or, or_true, true_or, exists_const, CMul, CDiv, CPow, and_assoc, exists_and_left, exists_and_right, Int.reducePow, Int.reduceNeg, Int.reduceLT, Int.reduceLE, Nat.reducePow, Nat.reduceLT, Int.reduceToNat, gt_iff_lt, ge_iff_le, decide_eq_true_eq, Bool.not_eq_true', decide_eq_false_iff_not, scal, ↓reduceIte, Bool.false_eq_true]
    exact ⟨_, _, rfl, rfl⟩
  · rintro σ H' ⟨v, y, rfl, rfl⟩
    simp only [cx_K, decide_true, decide_false, reduceCtorEq, gTp, gCons, gNil, ca_0, ca_1, ca_2, ca_3, ca_4, ca_5, ca_6, ca_7, ca_8, ca_9, ca_10, ca_11, ca_12, ca_13, ca_14, ca_15, ca_16, ca_17, ca_18, ca_19, ca_20, ca_21, ca_22, ca_23, ca_24, ca_25, ca_26, ca_27, ca_28, ca_29, ca_30, not_true_eq_false, not_false_eq_true, Int.reduceEq, Nat.reduceEqDiff, Nat.reduceLeDiff, rGcd, V.ty.injEq, eq_self, List.not_mem_nil, beq_self_eq_true, HO.lst.injEq, HO.tup.injEq, tFor_eq, iRng1, iList, iTup, nat10, tSeq, rIxA, rSetA, rIsN, rIsT, tTp, tLs, itsO_tup, itsO_lst, tyO_tup, tyO_lst, tyO_dK, tyN_non, tyN_bl, tyN_int, tyN_str, tyN_ref, tyNs_lt, isB, upd_same, upd_upd, sizeLine_eq, List.mem_cons, String.reduceBEq, String.reduceEq, Bool.or_false, Bool.or_true, Bool.and_false, Bool.false_or, Bool.and_self, Bool.false_and, Bool.not_false, Bool.not_true, List.any_cons, List.any_nil, atI_0, setI_0, atI_1, setI_1, atI_2, setI_2, atI_3, setI_3, atI_4, setI_4, atI_5, setI_5, atI_6, setI_6, tAsg, gName, tOp, tUn, tVar, tC, tCons, L2.tNil, tRet, tIfS, tTest, tCB, tCall, rI, rI0, rU, tNext, tB, tAnd, tOr, tNot, tAndV, tOrV, tNotV, tDrop, tIf, tPar, gSub, rIxL, rIxT, rEq, rNe, rSetL, tBits,
    L2.start, List.map_cons, List.map_nil, List.cons_append, List.nil_append, List.append_nil, List.length_cons, List.length_nil, List.replicate, Nat.reduceAdd, Nat.reduceSub, Nat.zero_add, List.getElem?_cons_zero, List.getElem?_cons_succ, List.set_cons_zero, List.set_cons_succ,
    Option.some.injEq, exists_eq_left', exists_eq_left, V.int.injEq, V.bl.injEq, V.ref.injEq, V.str.injEq, List.cons.injEq, reduceCtorEq, and_true, true_and, false_and, and_false, exists_false, or_false, false_or, or_true, true_or, exists_const, CMul, CDiv, CPow, and_assoc, exists_and_left, exists_and_right, Int.reducePow, Int.reduceNeg, Int.reduceLT, Int.reduceLE, Nat.reducePow, Nat.reduceLT, Int.reduceToNat, gt_iff_lt, ge_iff_le, decide_eq_true_eq, Bool.not_eq_true', decide_eq_false_iff_not, scal, ↓reduceIte, Bool.false_eq_true]
    refine ⟨_, .inl hS, fun l hl kl => ?_⟩
    intro s hs ks
    have s1 := Same.new hl (.lst (ns.map V.int))
    have e1 : upd H' l (.lst (ns.map V.int)) l = some (.lst (ns.map V.int)) := upd_same
    have n1 : s ≠ l := by rintro rfl; rw [upd_same] at hs; cases hs
    exact k s _ (s1.trans (Same.new hs _)) ⟨l, ns, 0, 0, 0, v, 0, 0, upd_same, by rw [upd_ne (Ne.symm n1)]; exact e1, n1, Int.le_refl 0, ks, kl⟩
end
end My

namespace My
open PySem PySem.Spec PyProof.Rows L2
section
variable {P : Program} {w : World} {K : PySem.W.Frag} {mg : Str → Option Value} {base : Heap}
/-- the same data, n levels deep at most -/
def scv : V → Bool
  | .non => true
  | .bl _ => true
  | .int _ => true
  | .str _ => true
  | _ => false
def Eqv (K : PySem.W.Frag) (H : Hp) : Nat → V → V → Prop
  | 0, x, y => x = y ∧ scv x = true
  | n + 1, x, y => (x = y ∧ scv x = true) ∨ ∃ (a b : Addr) (xs ys : List V), x = .ref a ∧ y = .ref b ∧ ((ob K H a = some (.tup xs) ∧ ob K H b = some (.tup ys)) ∨ (ob K H a = some (.lst xs) ∧ ob K H b = some (.lst ys))) ∧ xs.length = ys.length ∧ ys.length ≤ 1000 ∧
      ∀ (i : Nat) x y, xs[i]? = some x → ys[i]? = some y → Eqv K H n x y
theorem Eqv.same {H H' : Hp} (e : Same H H') : ∀ {n : Nat} {x y : V}, Eqv K H n x y → Eqv K H' n x y
  | 0, _, _, h => h
  | n + 1, x, y, .inl h => .inl h
  | n + 1, x, y, .inr ⟨a, b, xs, ys, h1, h2, h3, h4, h5, h6⟩ =>
    .inr ⟨a, b, xs, ys, h1, h2, h3.imp (fun z => ⟨ob_same e z.1, ob_same e z.2⟩) (fun z => ⟨ob_same e z.1, ob_same e z.2⟩), h4, h5, fun i x y hx hy => (h6 i x y hx hy).same e⟩
theorem Eqv.up {H : Hp} : ∀ {n : Nat} {x y : V}, Eqv K H n x y → Eqv K H (n + 1) x y
  | 0, _, _, h => .inl h
  | n + 1, x, y, .inl h => .inl h
  | n + 1, x, y, .inr ⟨a, b, xs, ys, h1, h2, h3, h4, h5, h6⟩ => .inr ⟨a, b, xs, ys, h1, h2, h3, h4, h5, fun i x y hx hy => (h6 i x y hx hy).up⟩
def spSame (K : PySem.W.Frag) : Nat → Sp
  | 0 => fun _ _ _ _ => False
  | n + 1 => fun vs H Q _ => ∃ x y, vs = [x, y] ∧ Eqv K H n x y ∧ ∀ H', Same H H' → Q (.bl true) H'
theorem Eqv.split {H : Hp} {n : Nat} {x y : V} (h : Eqv K H n x y) : (x = y ∧ scv x = true) ∨ ∃ m, n = m + 1 ∧ ∃ (a b : Addr) (xs ys : List V), x = .ref a ∧ y = .ref b ∧ ((ob K H a = some (.tup xs) ∧ ob K H b = some (.tup ys)) ∨ (ob K H a = some (.lst xs) ∧ ob K H b = some (.lst ys))) ∧ xs.length = ys.length ∧ ys.length ≤ 1000 ∧
    ∀ (i : Nat) x y, xs[i]? = some x → ys[i]? = some y → Eqv K H m x y := by
  cases n with
  | zero => exact .inl h
  | succ m =>
    rcases h with h | h
    · exact .inl h
    · exact .inr ⟨m, rfl, h⟩
def SameI (H : Hp) (a b : Addr) (_ : Nat) (σ : L2.St) (H' : Hp) : Prop := ∃ z, σ = [some (.ref a), some (.ref b), z] ∧ Same H H'
theorem Kn.none {x : Str} {ps : List Str} {st : Stmt} (D : Dfn K mg x st ps) : Kn P w K mg base 0 x ps (fun _ _ _ _ => False) := by
  obtain ⟨f, fd, F, m, b⟩ := D.ex
  exact ⟨f, fd, m, F.kp, b, ⟨fun vs H Q E h => h.elim, fun A outer s H args us vs Q E _ _ _ _ h => h.elim⟩⟩
end
end My

namespace My
open PySem PySem.Spec PyProof.Rows L2
section
variable {P : Program} {w : World} {K : PySem.W.Frag} {mg : Str → Option Value} {base : Heap}
/-! ### what is no fraction -/
def fr2 : List V → Bool
  | [.int n, .int d] => decide (1 ≤ d) && decide (Int.gcd n d = 1)
  | _ => false
theorem frOk_tup {H : Hp} {a : Addr} {xs : List V} (o : ob K H a = some (.tup xs)) : frOk K H (.ref a) = fr2 xs := by
  simp only [frOk, o]
  unfold fr2
  split <;> simp_all
theorem tyN_same {H H' : Hp} {v : V} {t : String} (e : Same H H') (h : tyN K H v = some t) : tyN K H' v = some t := by
  cases v with
  | ref a =>
    have h1 : tyO (ob K H a) = some t := h
    show tyO (ob K H' a) = some t
    cases hz : ob K H a with
    | none => rw [hz] at h1; cases h1
    | some z => rw [ob_same e hz, ← hz]; exact h1
  | _ => exact h
theorem tyS_same {H H' : Hp} {v : V} (e : Same H H') (h : (tyN K H v).isSome) : (tyN K H' v).isSome := by
  obtain ⟨t, ht⟩ := Option.isSome_iff_exists.mp h
  rw [tyN_same e ht]
  rfl
theorem ob_back {H H' : Hp} {a : Addr} {z : HO} (e : Same H H') (h : (tyN K H (.ref a)).isSome) (o : ob K H' a = some z) : ob K H a = some z := by
  cases hz : ob K H a with
  | none =>
    rw [tyN_ref, hz] at h
    cases h
  | some y =>
    rw [← o, ob_same e hz]
structure Gd (K : PySem.W.Frag) (H : Hp) (v : V) : Prop where
  ty : Tyd K H v
  no : frOk K H v = false
theorem Gd.same {H H' : Hp} {v : V} (e : Same H H') (h : Gd K H v) : Gd K H' v := by
  refine ⟨⟨tyS_same e h.ty.1, fun a xs ev o x hx => ?_⟩, ?_⟩
  · subst ev
    exact tyS_same e (h.ty.2 a xs rfl (ob_back e h.ty.1 o) x hx)
  · cases v with
    | ref a =>
      cases hz : ob K H a with
      | none =>
        have := h.ty.1
        rw [tyN_ref, hz] at this
        cases this
      | some z =>
        have e2 : frOk K H' (.ref a) = frOk K H (.ref a) := by simp only [frOk, hz, ob_same e hz]
        rw [e2]
        exact h.no
    | _ => rfl
theorem gd_sc {H : Hp} {v : V} (h : scv v = true) : Gd K H v := by
  refine ⟨⟨?_, fun a xs e => ?_⟩, ?_⟩
  · cases v <;> first | rfl | cases h
  · subst e; cases h
  · cases v <;> first | rfl | cases h
theorem gd_tup {H : Hp} {a : Addr} {xs : List V} (o : ob K H a = some (.tup xs)) (hx : ∀ x ∈ xs, (tyN K H x).isSome) (f : fr2 xs = false) : Gd K H (.ref a) := by
  refine ⟨⟨by rw [tyN_ref, o]; rfl, fun b ys e o' => ?_⟩, by rw [frOk_tup o]; exact f⟩
  cases e
  rw [o] at o'
  cases o'
  exact hx
theorem gd_lst {H : Hp} {a : Addr} {xs : List V} (o : ob K H a = some (.lst xs)) : Gd K H (.ref a) := by
  refine ⟨⟨by rw [tyN_ref, o]; rfl, fun b ys e o' => ?_⟩, by simp only [frOk, o]⟩
  cases e
  rw [o] at o'
  cases o'
theorem gd_dict {H : Hp} {a : Addr} {xs : List (Key × V)} (o : ob K H a = some (.dK xs)) : Gd K H (.ref a) := by
  refine ⟨⟨by rw [tyN_ref, o]; rfl, fun b ys e o' => ?_⟩, by simp only [frOk, o]⟩
  cases e
  rw [o] at o'
  cases o'
/-! ### displays that only make -/
def Mk (R : Hp → V → Prop) (te : TE) : Prop := ∀ σ H Q, (∀ v H', Same H H' → R H' v → Q v H') → te σ H Q
def MkL (R : Hp → V → Prop) (n : Nat) (ta : TA) : Prop := ∀ σ H Q, (∀ vs H', Same H H' → vs.length = n → (∀ v ∈ vs, R H' v) → Q vs H') → ta σ H Q
theorem mkL_nil {R : Hp → V → Prop} : MkL R 0 L2.tNil := fun σ H Q k => k [] H (Same.refl H) rfl fun _ z => absurd z (by simp)
theorem mkL_cons {R : Hp → V → Prop} {n : Nat} {te : TE} {ta : TA} (mono : ∀ (H H' : Hp) (v : V), Same H H' → R H v → R H' v) (h1 : Mk R te) (h2 : MkL R n ta) : MkL R (n + 1) (tCons te ta) := fun σ H Q k =>
  h1 σ H _ fun v H1 s1 r1 => h2 σ H1 _ fun vs H2 s2 hn hr => k (v :: vs) H2 (s1.trans s2) (by rw [List.length_cons, hn]) fun x hx => by
    rcases List.mem_cons.mp hx with e | e
    · subst e; exact mono _ _ _ s2 r1
    · exact hr x e
theorem mk_c {v : V} (h : scv v = true) : Mk (Gd K) (tC v) := fun σ H Q k => k v H (Same.refl H) (gd_sc h)
theorem mk_tc {ta : TA} (xs : List V) (e : ∀ σ H Q, Q xs H → ta σ H Q) (hs : xs.all scv = true) (hf : fr2 xs = false) (hl : xs.length ≤ 100 := by decide) : Mk (Gd K) (tTp K ta) := fun σ H Q k => by
  refine e σ H _ ⟨by rw [sizeLine_eq]; omega, fun p hp kp => k _ _ (Same.new hp _) (gd_tup (ob_new kp) (fun x hx => ?_) hf)⟩
  exact (gd_sc (K := K) (H := upd H p (.tup xs)) (List.all_eq_true.mp hs x hx)).ty.1
theorem mk_ls {ta : TA} {n : Nat} {R : Hp → V → Prop} (h : MkL R n ta) (hl : n ≤ 100 := by decide) : Mk (Gd K) (tLs K ta) := fun σ H Q k =>
  h σ H _ fun vs H1 s1 hn _ => ⟨by rw [sizeLine_eq]; omega, fun p hp kp => k _ _ (s1.trans (Same.new hp _)) (gd_lst (ob_new kp))⟩
theorem mk_dn : Mk (Gd K) (tDn K) := fun σ H Q k p hp kp => k _ _ (Same.new hp _) (gd_dict (ob_new kp))
theorem mk_any {R : Hp → V → Prop} {te : TE} (h : Mk R te) : Mk (fun _ _ => True) te := fun σ H Q k => h σ H Q fun v H' s _ => k v H' s True.intro
theorem mk_tup {ta : TA} {n : Nat} {R : Hp → V → Prop} (h : MkL R n ta) (hl : n ≤ 100 := by decide) : Mk (fun _ _ => True) (tTp K ta) := fun σ H Q k =>
  h σ H _ fun vs H1 s1 hn _ => ⟨by rw [sizeLine_eq]; omega, fun p hp kp => k _ _ (s1.trans (Same.new hp _)) True.intro⟩
/-! the same where names are read -/
def MkA (σ : L2.St) (H0 : Hp) (R : Hp → V → Prop) (te : TE) : Prop := ∀ H, Same H0 H → ∀ Q, (∀ v H', Same H H' → R H' v → Q v H') → te σ H Q
def MkAL (σ : L2.St) (H0 : Hp) (R : Hp → V → Prop) (n : Nat) (ta : TA) : Prop := ∀ H, Same H0 H → ∀ Q, (∀ vs H', Same H H' → vs.length = n → (∀ v ∈ vs, R H' v) → Q vs H') → ta σ H Q
theorem mkA_nil {σ : L2.St} {H0 : Hp} {R : Hp → V → Prop} : MkAL σ H0 R 0 L2.tNil := fun H _ Q k => k [] H (Same.refl H) rfl fun _ z => absurd z (by simp)
theorem mkA_cons {σ : L2.St} {H0 : Hp} {R : Hp → V → Prop} {n : Nat} {te : TE} {ta : TA} (mono : ∀ (H H' : Hp) (v : V), Same H H' → R H v → R H' v) (h1 : MkA σ H0 R te) (h2 : MkAL σ H0 R n ta) : MkAL σ H0 R (n + 1) (tCons te ta) := fun H s Q k =>
  h1 H s _ fun v H1 s1 r1 => h2 H1 (s.trans s1) _ fun vs H2 s2 hn hr => k (v :: vs) H2 (s1.trans s2) (by rw [List.length_cons, hn]) fun x hx => by
    rcases List.mem_cons.mp hx with e | e
    · subst e; exact mono _ _ _ s2 r1
    · exact hr x e
theorem mkA_tc {σ : L2.St} {H0 : Hp} {ta : TA} (xs : List V) (e : ∀ H, Same H0 H → ∀ Q, Q xs H → ta σ H Q) (hs : ∀ x ∈ xs, (tyN K H0 x).isSome) (hf : fr2 xs = false) (hl : xs.length ≤ 100) : MkA σ H0 (Gd K) (tTp K ta) := fun H s Q k => by
  refine e H s _ ⟨by rw [sizeLine_eq]; omega, fun p hp kp => k _ _ (Same.new hp _) (gd_tup (ob_new kp) (fun x hx => ?_) hf)⟩
  exact tyS_same (s.trans (Same.new hp _)) (hs x hx)
theorem mkA_lc {σ : L2.St} {H0 : Hp} {ta : TA} (xs : List V) (e : ∀ H, Same H0 H → ∀ Q, Q xs H → ta σ H Q) (hl : xs.length ≤ 100) : MkA σ H0 (Gd K) (tLs K ta) := fun H s Q k => by
  exact e H s _ ⟨by rw [sizeLine_eq]; omega, fun p hp kp => k _ _ (Same.new hp _) (gd_lst (ob_new kp))⟩
theorem lsA {ta : TA} {n : Nat} {R : Hp → V → Prop} {σ : L2.St} {H : Hp} {Q : VK} (mono : ∀ (H H' : Hp) (v : V), Same H H' → R H v → R H' v) (h : MkAL σ H R n ta) (hl : n ≤ 100)
    (k : ∀ vs p H', Same H H' → H p = none → K.lookup p = none → vs.length = n → (∀ v ∈ vs, R H' v) → H' p = some (.lst vs) → Q (.ref p) H') : tLs K ta σ H Q :=
  h H (Same.refl H) _ fun vs H1 s1 hn hr => ⟨by rw [sizeLine_eq]; omega, fun p hp kp => k vs p _ (s1.trans (Same.new hp _)) (s1.free hp) kp hn (fun v hv => mono _ _ _ (Same.new hp _) (hr v hv)) upd_same⟩
/-! what is no fraction stays so while the draws go on -/
theorem ob_kp2 {H H' : Hp} {s a : Addr} {z : HO} (e : Kp s H H') (n : a ≠ s) (h : ob K H a = some z) : ob K H' a = some z := by
  unfold ob at h ⊢
  split
  · rename_i o q
    rw [q] at h
    exact h
  · rename_i q
    rw [q] at h
    exact e _ _ n h
theorem Sto.ob {H : Hp} {s : Addr} (h : Sto K H s) : ∃ ys, My.ob K H s = some (.lst ys) := by
  obtain ⟨sc, ns, i, b, c, d, e, f, h⟩ := h
  exact ⟨_, (ob_none h.2.2.2.2.1).trans h.1⟩
theorem tyS_kp {H H' : Hp} {s : Addr} {v : V} (e : Kp s H H') (t : Sto K H' s) (h : (tyN K H v).isSome) : (tyN K H' v).isSome := by
  cases v with
  | ref a =>
    by_cases ha : a = s
    · subst ha
      obtain ⟨ys, hy⟩ := t.ob
      rw [tyN_ref, hy]
      rfl
    · cases hz : ob K H a with
      | none => rw [tyN_ref, hz] at h; cases h
      | some z =>
        rw [tyN_ref, ob_kp2 e ha hz, ← hz]
        exact h
  | _ => exact h
theorem Gd.kp {H H' : Hp} {s : Addr} {v : V} (e : Kp s H H') (t : Sto K H' s) (h : Gd K H v) : Gd K H' v := by
  cases v with
  | ref a =>
    by_cases ha : a = s
    · subst ha
      obtain ⟨ys, hy⟩ := t.ob
      exact gd_lst hy
    · cases hz : ob K H a with
      | none =>
        have := h.ty.1
        rw [tyN_ref, hz] at this
        cases this
      | some z =>
        have hz' := ob_kp2 e ha hz
        refine ⟨⟨tyS_kp e t h.ty.1, fun b xs ev o x hx => ?_⟩, ?_⟩
        · cases ev
          rw [hz'] at o
          exact tyS_kp e t (h.ty.2 a xs rfl (hz.trans o) x hx)
        · have e2 : frOk K H' (.ref a) = frOk K H (.ref a) := by simp only [frOk, hz, hz']
          rw [e2]
          exact h.no
  | _ => exact ⟨⟨h.ty.1, fun _ _ e => by cases e⟩, h.no⟩
/-- a list display of such things -/
theorem lsX {ta : TA} {n : Nat} {R : Hp → V → Prop} {σ : L2.St} {H : Hp} {Q : VK} (mono : ∀ (H H' : Hp) (v : V), Same H H' → R H v → R H' v) (h : MkL R n ta) (hl : n ≤ 100)
    (k : ∀ vs p H', Same H H' → H p = none → K.lookup p = none → vs.length = n → (∀ v ∈ vs, R H' v) → H' p = some (.lst vs) → Q (.ref p) H') : tLs K ta σ H Q :=
  h σ H _ fun vs H1 s1 hn hr => ⟨by rw [sizeLine_eq]; omega, fun p hp kp => k vs p _ (s1.trans (Same.new hp _)) (s1.free hp) kp hn (fun v hv => mono _ _ _ (Same.new hp _) (hr v hv)) upd_same⟩
end
end My

namespace My
open PySem PySem.Spec PyProof.Rows L2
section
variable {P : Program} {w : World} {K : PySem.W.Frag} {mg : Str → Option Value} {base : Heap}
theorem nf_int (w : Int) : Nf (w, 1) := ⟨by show (1 : Int) ≤ 1; omega, by show Int.gcd w 1 = 1; exact Int.gcd_one_right _⟩
theorem sz_of {x y : Int} {k : Nat} (h1 : x.natAbs < 2 ^ k) (h2 : y.natAbs < 2 ^ k) : Sz k (x, y) := ⟨h1, h2⟩
theorem ne_new {H : Hp} {s p : Addr} {ys : List V} (h : H s = some (.lst ys)) (hp : H p = none) : s ≠ p := ne_of_none h hp
/-- a place at a -/
structure Pq (K : PySem.W.Frag) (H : Hp) (n : Nat) (a : Addr) (q : Qt) : Prop where
  f : Fq K H n a q
  lo : 0 ≤ q.1
  hi : q.1 < q.2
theorem Pq.mono {H : Hp} {j n : Nat} {a : Addr} {q : Qt} (h : Pq K H j a q) (l : j ≤ n) : Pq K H n a q := ⟨h.f.mono l, h.lo, h.hi⟩
theorem Pq.same {H H' : Hp} {n : Nat} {a : Addr} {q : Qt} (h : Pq K H n a q) (s : Same H H') : Pq K H' n a q := ⟨h.f.same s, h.lo, h.hi⟩
theorem Pq.kp {H H' : Hp} {n : Nat} {a s : Addr} {q : Qt} {ys : List V} (h : Pq K H n a q) (e : Kp s H H') (hs : H s = some (.lst ys)) : Pq K H' n a q := ⟨h.f.kp e hs, h.lo, h.hi⟩
theorem is_in {q : Qt} {t b : Int} (h : Is q t b) (h0 : 0 ≤ t) (h1 : t < b) : 0 ≤ q.1 ∧ q.1 < q.2 := by
  have e := h.2
  have n := h.1.1
  have b0 : 0 < b := by omega
  refine ⟨Int.not_lt.mp fun c => ?_, Int.not_le.mp fun c => ?_⟩
  · have z1 : q.1 * b < 0 := Int.mul_neg_of_neg_of_pos c b0
    have z2 : 0 ≤ t * q.2 := Int.mul_nonneg h0 (by omega)
    omega
  · have z1 : q.2 * b ≤ q.1 * b := Int.mul_le_mul_of_nonneg_right c (by omega)
    have z2 : t * q.2 < b * q.2 := Int.mul_lt_mul_of_pos_right h1 (by omega)
    have z3 : q.2 * b = b * q.2 := Int.mul_comm _ _
    omega
def spDPlace (K : PySem.W.Frag) (n : Nat) : Sp := fun vs H Q _ => ∃ (s : Addr), vs = [.ref s] ∧ Sto K H s ∧ ∀ a q H', Pq K H' n a q → Kp s H H' → Sto K H' s → Q (.ref a) H'
theorem nf1112 : Nf (11, 12) := ⟨by decide, by decide⟩
theorem nf21 : Nf (2, 1) := ⟨by decide, by decide⟩
theorem nf112 : Nf (1, 12) := ⟨by decide, by decide⟩
def spDPos (K : PySem.W.Frag) : Sp := fun vs H Q _ => ∃ (s : Addr), vs = [.ref s] ∧ Sto K H s ∧ ∀ a q H', (Fq K H' 10 a q ∧ 0 < q.1) → Kp s H H' → Sto K H' s → Q (.ref a) H'
def spDNz (K : PySem.W.Frag) : Sp := fun vs H Q _ => ∃ (s : Addr), vs = [.ref s] ∧ Sto K H s ∧ ∀ a q H', Fq K H' 10 a q → q.1 ≠ 0 → Kp s H H' → Sto K H' s → Q (.ref a) H'
theorem is_pos {q : Qt} {t b : Int} (h : Is q t b) (h0 : 0 < t) (h1 : 0 < b) : 0 < q.1 := by
  have e := h.2
  have n := h.1.1
  refine Int.not_le.mp fun c => ?_
  have z1 : 0 < t * q.2 := Int.mul_pos h0 (by omega)
  have z2 : q.1 * b ≤ 0 := Int.mul_nonpos_of_nonpos_of_nonneg c (by omega)
  omega
def spMoment (K : PySem.W.Frag) : Sp := fun vs H Q _ => ∃ (s : Addr) (r : Int), vs = [.ref s, .int r] ∧ Sto K H s ∧ 1 ≤ r ∧ r < 2 ^ 60 ∧ ∀ a q H', Fq K H' 70 a q → Kp s H H' → Sto K H' s → Q (.ref a) H'
end
end My

namespace My
open PySem PySem.Spec PyProof.Rows L2
/-! ### C.m(..), m a static method -/
/-- C.m is a staticmethod: its record at p, its def at g -/
structure SMet (K : PySem.W.Frag) (C : Addr) (mc : Value) (m : Str) (p g : Addr) : Prop where
  at_ : PySem.W.findCls K (.ref C) mc m = some (.get (.builtin "staticmethod.__get__") (.ref p) .none (.ref C))
  rc : ∃ rest, PySem.W.recIn K p "staticmethod" = some (.ref g :: rest)
  kp : PySem.W.keepIn K (.ref g) = true
def tSMeth (C : Addr) (sp : Sp) (dvs : List V) (E : XK) (ta : TE) (t : TA) : TE := fun σ H Q => ta σ H fun x H1 => x = .ref C ∧ t σ H1 fun vs H2 => sp (vs ++ dvs) H2 Q E
section
variable {X : Cx} {CX : CXT} {k : Nat} {C p g : Addr} {mc : Value} {sp : Sp} {E : XK} {o e : Expr} {es : List Expr} {m : Str} {pos apos : Pos} {ta : TE} {t : TA} {pl : Sem Bool} {fd : FuncData} {ps : List Str} {ds : List Value} {dvs : List V}
theorem getsmet_ok {pins : List (Addr × Obj)} {σ : L2.St} {H : Hp} {s : Shared} {A : Around} {E : Value → Shared → Prop} {b : Bool} {Q : Value → Shared → Prop} (I : Inv X pins σ H s) (r : ClX.CRead X.K C mc) (c : SMet X.K C mc m p g)
    (h : ∀ s', Inv X pins σ H s' → Q (.ref g) s') : wpAny (model X.prog X.w) A (getAttr (.ref C) m b) Q E s := by
  obtain ⟨rest, hp⟩ := c.rc
  refine PySem.W.cls_bind I.kIn r.rd c.at_ ?_
  exact wpAny_call (PySem.W.sm_get (s := { s with toks := s.toks + 1 }) I.kIn hp (PySem.W.handed_on rfl (h _ (I.tok _))))
theorem pe_smeth (he : PE X o ta) (r : ClX.CRead X.K C mc) (c : SMet X.K C mc m p g) (F : FnOk X.prog X.w X.K X.mg X.base CX k g fd ps sp) (hr : Room k X.A) (hb : Binds X.K fd ps ds) (hd : Vals dvs ds) (hx : Passes CX X E) (ha : PA X (e :: es) t)
    (hst : starEach (e :: es) X.env = (false, eval e X.env) :: starEach es X.env := by rfl) (hpl : (backTo pos (starEach es X.env)).any (·.1) = false := by rfl)
    (ht : eval (.Call (.Attribute o m apos) (e :: es) [] pos) X.env = (do
      let ov ← eval o X.env
      standAt apos.atName
      let (f, first) ← holding [ov] (getMethod ov m pl)
      callWith pos f first (backTo pos (starEach (e :: es) X.env)) (backToKw pos (keywordEach [] X.env))) := by rfl) :
    PE X (.Call (.Attribute o m apos) (e :: es) [] pos) (tSMeth C sp dvs E ta t) := by
  refine ⟨fun pins s σ H Q I h => ?_⟩
  refine PySem.W.methodCall_KW (pl := pl) (thn (he.run pins s σ H _ I h) fun u s1 ⟨x, H1, I1, rx, ex, q⟩ => ?_) ht
  subst ex
  obtain rfl : u = Value.ref C := rx
  refine PySem.W.method_cls I1.kIn r.ga (getsmet_ok I1 r c fun s2 I2 => ?_)
  refine PySem.W.callWith_K (h₀ := X.base) I2.ok.mod.kin c.kp (thn (ha.run pos pins s2 σ H1 _ I2 q) fun us s3 ⟨vs, H2, I3, rv, q2⟩ => ⟨I3.kIn, ?_⟩) hst hpl
  exact run_fn F hr hb hd hx I3 rv q2
end
section
variable {P : Program} {w : World} {K : PySem.W.Frag} {mg : Str → Option Value} {base : Heap}
/-! ### the == of two fractions -/
def rEqF (K : PySem.W.Frag) : R2 := fun x y H Q => ∃ (a b : Addr) (p q : Qt), x = .ref a ∧ y = .ref b ∧ ob K H a = some (.tup [.int p.1, .int p.2]) ∧ ob K H b = some (.tup [.int q.1, .int q.2]) ∧ Q (.bl (decide (p = q))) H
def rNeF (K : PySem.W.Frag) : R2 := fun x y H Q => ∃ (a b : Addr) (p q : Qt), x = .ref a ∧ y = .ref b ∧ ob K H a = some (.tup [.int p.1, .int p.2]) ∧ ob K H b = some (.tup [.int q.1, .int q.2]) ∧ Q (.bl (!decide (p = q))) H
theorem dp_fr {H : Hp} {a : Addr} {p : Qt} (h : ob K H a = some (.tup [.int p.1, .int p.2])) : Dp K H (.ref a) (.tuple [.int p.1, .int p.2]) := .tup (ob_tup h) (.cons (.int _) (.cons (.int _) .nil))
theorem eqv_fr (p q : Qt) : PyData.eqv (.tuple [.int p.1, .int p.2]) (.tuple [.int q.1, .int q.2]) = decide (p = q) := by
  show ((p.1 == q.1) && ((p.2 == q.2) && true)) = decide (p = q)
  rw [Bool.and_true]
  by_cases h : p = q
  · subst h
    simp
  · rw [decide_eq_false h]
    by_cases h1 : p.1 = q.1
    · have h2 : p.2 ≠ q.2 := fun z => h (Prod.ext h1 z)
      simp [h1, h2]
    · simp [h1]
theorem op_eqF {X : Cx} {j : Nat} (hr : Room j X.A) : OpR X (compareOp .Eq) (rEqF X.K) := fun pins s σ H x y v u Q I rx ry h => by
  obtain ⟨a, b, p, q, ex, ey, oa, ob', k⟩ := h
  subst ex ey
  refine op_eqD (by have := hr.un; omega) pins s σ H _ _ v u Q I rx ry ⟨_, _, dp_fr oa, dp_fr ob', rfl, rfl, ?_⟩
  rw [eqv_fr]
  exact k
theorem op_neF {X : Cx} {j : Nat} (hr : Room j X.A) : OpR X (compareOp .NotEq) (rNeF X.K) := fun pins s σ H x y v u Q I rx ry h => by
  obtain ⟨a, b, p, q, ex, ey, oa, ob', k⟩ := h
  subst ex ey
  refine op_neD (by have := hr.un; omega) pins s σ H _ _ v u Q I rx ry ⟨_, _, dp_fr oa, dp_fr ob', rfl, rfl, ?_⟩
  rw [eqv_fr]
  exact k
end
end My

namespace My
open PySem PySem.Spec PyProof.Rows L2
/-! ### own == of instances with a dict, any answer -/
def rOwnD (K : PySem.W.Frag) (C : Addr) (sp : Sp) (E : XK) : R2 := fun x y H Q => ∃ a dx fs b C' dy gs, x = .ref a ∧ y = .ref b ∧ H a = some (.ins C dx fs) ∧ H b = some (.ins C' dy gs) ∧ PySem.W.notFirst K C (.ref C') = true ∧ sp [x, y] H Q E
theorem op_ownD {X : Cx} {CX : CXT} {n : Nat} {C g : Addr} {fd : FuncData} {ps : List Str} {sp : Sp} {E : XK} {op : CmpOp} (hop : ∀ a b, compareOp op a b = richCompare op a b) (hs : PySem.W.findIn X.K (.ref C) (cmpInfo op).2.1 = some (some (.ref g))) (hf : PySem.W.isFn X.K (.ref g) = true) (F : FnOk X.prog X.w X.K X.mg X.base CX n g fd ps sp) (hb : Binds X.K fd ps [])
    (hr : Room n X.A) (hx : Passes CX X E) : OpR X (compareOp op) (rOwnD X.K C sp E) := by
  intro pins s σ H x y v u Q I rx ry h
  obtain ⟨a, dx, fs, b, C', dy, gs, rfl, rfl, ha, hb', hn, q⟩ := h
  cases (show v = Value.ref a from rx)
  cases (show u = Value.ref b from ry)
  obtain ⟨mA, J, _⟩ := ins_get I.hok ha
  obtain ⟨mB, J', _⟩ := ins_get I.hok hb'
  obtain ⟨od, J, _⟩ := J.look
  obtain ⟨od', J', _⟩ := J'.look
  obtain ⟨m, hF⟩ := I.fr
  rw [hop]
  refine PySem.W.cmp_K (op := op) (tb := .ref C') hr.units0 hF I.ok.mod.kin J J'.type hn hs hf ?_
  refine wpAny_mono (run_fn (us := [.ref a, .ref b]) (vs := [.ref a, .ref b]) F hr hb .nil hx I (.cons rfl (.cons rfl .nil)) q) (fun w s' z => ?_) fun _ _ x => x
  obtain ⟨z', H', I', rz, qz⟩ := z
  exact SlX.cmpback rz ⟨z', H', I', rz, qz⟩
/-! ### own + and - of two instances of one class -/
def rBinD (C : Addr) (sp : Sp) (E : XK) : R2 := fun x y H Q => ∃ a dx fs b dy gs, x = .ref a ∧ y = .ref b ∧ H a = some (.ins C dx fs) ∧ H b = some (.ins C dy gs) ∧ sp [x, y] H Q E
theorem op_binD {X : Cx} {CX : CXT} {n : Nat} {C g : Addr} {fd : FuncData} {ps : List Str} {sp : Sp} {E : XK} {op : Operator} (hc : PySem.W.selfFirst X.K C = true) (hs : PySem.W.findIn X.K (.ref C) (PySem.dunder op.info.2) = some (some (.ref g))) (hf : PySem.W.isFn X.K (.ref g) = true) (F : FnOk X.prog X.w X.K X.mg X.base CX n g fd ps sp) (hb : Binds X.K fd ps [])
    (hr : Room n X.A) (hx : Passes CX X E) : OpR X (binaryOp op) (rBinD C sp E) := by
  intro pins s σ H x y v u Q I rx ry h
  obtain ⟨a, dx, fs, b, dy, gs, rfl, rfl, ha, hb', q⟩ := h
  cases (show v = Value.ref a from rx)
  cases (show u = Value.ref b from ry)
  obtain ⟨mA, J, _⟩ := ins_get I.hok ha
  obtain ⟨mB, J', _⟩ := ins_get I.hok hb'
  obtain ⟨od, J, _⟩ := J.look
  obtain ⟨od', J', _⟩ := J'.look
  obtain ⟨m, hF⟩ := I.fr
  refine PySem.W.binop_K (op := op) hF I.ok.mod.kin J J'.type hc hs hf ?_
  refine wpAny_mono (run_fn (us := [.ref a, .ref b]) (vs := [.ref a, .ref b]) F hr hb .nil hx I (.cons rfl (.cons rfl .nil)) q) (fun w s' z => ?_) fun _ _ x => x
  obtain ⟨z', H', I', rz, qz⟩ := z
  exact SlX.cmpback rz ⟨z', H', I', rz, qz⟩
/-- own - before an instance -/
def rNegD (C : Addr) (sp : Sp) (E : XK) : V → Hp → VK → Prop := fun x H Q => ∃ a dx fs, x = .ref a ∧ H a = some (.ins C dx fs) ∧ sp [x] H Q E
theorem un_negD {X : Cx} {CX : CXT} {n : Nat} {C g : Addr} {fd : FuncData} {ps : List Str} {sp : Sp} {E : XK} (hs : PySem.W.findIn X.K (.ref C) "__neg__" = some (some (.ref g))) (hf : PySem.W.isFn X.K (.ref g) = true) (F : FnOk X.prog X.w X.K X.mg X.base CX n g fd ps sp) (hb : Binds X.K fd ps [])
    (hr : Room n X.A) (hx : Passes CX X E) : UnR X (unaryOp .USub) (rNegD C sp E) := by
  intro pins s σ H x v Q I rx h
  obtain ⟨a, dx, fs, rfl, ha, q⟩ := h
  cases (show v = Value.ref a from rx)
  obtain ⟨mA, J, _⟩ := ins_get I.hok ha
  obtain ⟨od, J, _⟩ := J.look
  obtain ⟨m, hF⟩ := I.fr
  refine PySem.W.ksp_neg hF I.ok.mod.kin J hs hf ?_
  exact run_fn (us := [.ref a]) (vs := [.ref a]) F hr hb .nil hx I (.cons rfl .nil) q
end My

namespace My
open PySem PySem.Spec PySem.Calls PySem.W PyProof.Rows
/-! ### != of instances whose class has an own == alone -/
section
variable {prog : Program} {w : World} {A : Around} {E : Value → Shared → Prop} {s : Shared} {K : Frag} {x C L f : Addr} {h₀ : Heap} {m : Str → Option Value} {ox : Obj} {od : Option Obj}
theorem ifBound_B {M : Model} {id : String} {name : Str} {args : List Value} {Q : Option Value → Shared → Prop} (X : K.In s.heap) (I : InstAt s.heap x ox C od) (hs : findIn K (.ref C) name = some (some (.builtin id))) (hbind : bindSpecial (.builtin id) (.ref x) = pure (.builtin id, [.ref x]))
    (h : wpAny M A (call (.builtin id) (.ref x :: args)) (fun v => Q (some v)) E s) : wpAny M A (callSpecialIfBound? (.ref x) name args) Q E s := by
  simp only [callSpecialIfBound?, bindSpecialIfBound?]
  refine wpAny_holding (wpAny_bind (wpAny_bind (wpAny_bind (I.type.here ((looks_findIn X hs).here ?_)))))
  simp only [hbind]
  refine wpAny_bind (wpAny_askSetting (wpAny_ite ?_))
  have fin : wpAny M A (call (.builtin id) ([.ref x] ++ args) >>= fun v => pure (some v)) Q E s := wpAny_bind (wpAny_mono h (fun v s' h' => wpAny_pure h') fun _ _ h' => h')
  split
  · exact wpAny_bind (wpAny_pure (wpAny_pure fin))
  · exact wpAny_tryCatch (wpAny_bind (wpAny_pure (wpAny_pure fin)))
theorem ne_entry {b : Value} {Q : Fin → Shared → Prop} (hu : A.units < cLine) (X : K.In s.heap) (I : InstAt s.heap x ox C od) (hs : findIn K (.ref C) "__eq__" = some (some (.ref f))) (hf : isFn K (.ref f) = true)
    (h : wpAny (model prog w) A (call (.ref f) [.ref x, b]) (fun v s' => ∃ c, v = .bool c ∧ Q (.done (.ret (.bool !c))) s') E s) : wpAny (model prog w) A (Builtin.«object.__ne__» ⟨[.ref x, b], []⟩) Q E s := by
  unfold Builtin.«object.__ne__»
  refine wpAny_bind (wpAny_of_eq (show slotArgs "__ne__" 1 ⟨[.ref x, b], []⟩ = pure (Value.ref x, [b]) from rfl) ?_)
  dsimp only
  refine wpAny_bind (wpAny_cRoomFor hu (wpAny_bind (ifBound_K X I hs hf (wpAny_mono h (fun v s' hv => ?_) fun _ _ e => e))))
  obtain ⟨c, rfl, q⟩ := hv
  dsimp only
  exact wpAny_bind (wpAny_truthy_bool (wpAny_pure q))
/-- the call of object.__ne__ -/
theorem ne_call {b : Value} {Q : Value → Shared → Prop} (hu : A.units + 1 < cLine) (X : K.In s.heap) (I : InstAt s.heap x ox C od) (hp : plainOver K C = true) (hs : findIn K (.ref C) "__eq__" = some (some (.ref f))) (hf : isFn K (.ref f) = true)
    (h : wpAny (model prog w) A.in1 (call (.ref f) [.ref x, b]) (fun v s' => ∃ c, v = .bool c ∧ Q (.bool !c) s') E s) : wpAny (model prog w) A (call (.builtin "object.__ne__") [.ref x, b]) Q E s := by
  obtain ⟨cd, hc, ho⟩ := any_some hp
  have ne : cd.mro.isEmpty = false := by cases q : cd.mro with | nil => rw [q] at ho; cases ho | cons _ _ => rfl
  have sub : Looks (model prog w) s.heap (isInstance (.ref x) (.type "object")) true := I.type.andThen (looks_mroIn X (by unfold mroIn; rw [hc, Option.bind_some, if_neg (by rw [ne]; decide), only_has ho]))
  refine wpAny_call (codeAny_call_builtin F.cmp_object.ne.plain F.cmpEntry_ne (check_slot F.cmpKind_ne F.cmpSplit_ne sub (F.cmpArgs_ne _ _) ?_))
  refine ne_entry (A := A.in1) hu X I hs hf (wpAny_mono h (fun v s' hv => ?_) fun _ _ e => e)
  obtain ⟨c, rfl, q⟩ := hv
  exact ⟨c, rfl, q⟩
theorem ne_K {tb b : Value} {Q : Value → Shared → Prop} (hu : A.units + 1 < cLine) (F₀ : Fr h₀ L s.heap m) (X₀ : K.In h₀) (I : InstAt s.heap x ox C od) (hb : Looks (model prog w) s.heap (typeOf b) tb) (hn : notFirst K C tb = true) (hp : plainOver K C = true)
    (hne : findIn K (.ref C) "__ne__" = some (some (.builtin "object.__ne__"))) (hs : findIn K (.ref C) "__eq__" = some (some (.ref f))) (hf : isFn K (.ref f) = true)
    (h : wpAny (model prog w) A.in1 (call (.ref f) [.ref x, b]) (fun v s' => ∃ c, v = .bool c ∧ Q (.bool !c) s') E s) : wpAny (model prog w) A (richCompare .NotEq (.ref x) b) Q E s := by
  have X := X₀.keeps F₀.keep
  have one : wpAny (model prog w) A (tryCompare (.ref x) (cmpInfo .NotEq).2.1 b) (fun r s' => ∃ c, r = some (.bool c) ∧ Q (.bool c) s') E s := by
    unfold tryCompare
    refine wpAny_bind (ifBound_B X I hne (F.cmp_object.ne.bind _) (ne_call hu X I hp hs hf (wpAny_mono h (fun v s' hv => ?_) fun _ _ e => e)))
    obtain ⟨c, rfl, q⟩ := hv
    exact ⟨c, rfl, wpAny_pure ⟨_, rfl, q⟩⟩
  unfold richCompare
  simp only [oneThing_ref]
  refine wpAny_holding (wpAny_bind (wpAny_cRoomFor (by omega) ?_))
  refine wpAny_bind (I.type.here (wpAny_bind (hb.here ?_)))
  split
  · rename_i q
    have e : subIn K tb (.ref C) = some false := by
      rcases Bool.or_eq_true_iff.mp hn with e | e
      · rw [beq_iff_eq.mp e] at q; simp at q
      · exact beq_iff_eq.mp e
    refine wpAny_bind ((looks_subIn X e).here ?_)
    simp only [Bool.false_eq_true, if_false]
    refine wpAny_bind (wpAny_mono one (fun r s' z => ?_) fun _ _ e => e)
    obtain ⟨v, rfl, hq⟩ := z
    exact wpAny_pure hq
  · refine wpAny_bind (wpAny_pure ?_)
    simp only [Bool.false_eq_true, if_false]
    refine wpAny_bind (wpAny_mono one (fun r s' z => ?_) fun _ _ e => e)
    obtain ⟨v, rfl, hq⟩ := z
    exact wpAny_pure hq
end
end My
namespace My
open PySem PySem.Spec PyProof.Rows L2
def rNeOwnD (K : PySem.W.Frag) (C : Addr) (sp : Sp) (E : XK) : R2 := fun x y H Q => ∃ a dx fs b C' dy gs, x = .ref a ∧ y = .ref b ∧ H a = some (.ins C dx fs) ∧ H b = some (.ins C' dy gs) ∧ PySem.W.notFirst K C (.ref C') = true ∧ sp [x, y] H (fun v H' => ∃ c, v = .bl c ∧ Q (.bl !c) H') E
theorem op_neOwnD {X : Cx} {CX : CXT} {n : Nat} {C g : Addr} {fd : FuncData} {ps : List Str} {sp : Sp} {E : XK} (hp : PySem.W.plainOver X.K C = true) (hne : PySem.W.findIn X.K (.ref C) "__ne__" = some (some (.builtin "object.__ne__"))) (hs : PySem.W.findIn X.K (.ref C) "__eq__" = some (some (.ref g))) (hf : PySem.W.isFn X.K (.ref g) = true) (F : FnOk X.prog X.w X.K X.mg X.base CX n g fd ps sp) (hb : Binds X.K fd ps [])
    (hr : Room (n + 1) X.A) (hx : Passes CX X E) : OpR X (compareOp .NotEq) (rNeOwnD X.K C sp E) := by
  intro pins s σ H x y v u Q I rx ry h
  obtain ⟨a, dx, fs, b, C', dy, gs, rfl, rfl, ha, hb', hn, q⟩ := h
  cases (show v = Value.ref a from rx)
  cases (show u = Value.ref b from ry)
  obtain ⟨mA, J, _⟩ := ins_get I.hok ha
  obtain ⟨mB, J', _⟩ := ins_get I.hok hb'
  obtain ⟨od, J, _⟩ := J.look
  obtain ⟨od', J', _⟩ := J'.look
  obtain ⟨m, hF⟩ := I.fr
  show wpAny (model X.prog X.w) X.A (richCompare .NotEq (.ref a) (.ref b)) (EP X pins σ Q) X.xe s
  refine ne_K (tb := .ref C') (by have := hr.un; omega) hF I.ok.mod.kin J J'.type hn hp hne hs hf ?_
  have hl := F.len _ _ _ _ q
  have r2 : Vals [V.ref a, V.ref b] [Value.ref a, Value.ref b] := .cons rfl (.cons rfl .nil)
  refine wpAny_call (codeAny_mono (F.run X.A.in1 X.stack s H ⟨[.ref a, .ref b], []⟩ [.ref a, .ref b] [.ref a, .ref b] _ E hr.in1 I.env0.in1 (by
    have := hb s [.ref a, .ref b] I.kIn (by simpa using hl)
    simpa using this) r2 q) fun r s' hq => ?_)
  cases r with
  | error e => exact hx pins σ H s e s' I hq
  | ok fl =>
    cases fl with
    | ret w =>
      obtain ⟨z, H', I', rz, c, ez, qz⟩ := I.after hq
      subst ez
      cases rz
      exact ⟨c, rfl, .bl !c, H', I', rfl, qz⟩
    | next => exact False.elim hq
    | brk => exact False.elim hq
    | cont => exact False.elim hq
end My

namespace My
open PySem PySem.Spec PyProof.Rows L2
section
variable {P : Program} {w : World} {K : PySem.W.Frag} {mg : Str → Option Value} {base : Heap}
/-- the two numbers that the program names -/
structure Two01 (K : PySem.W.Frag) (mg : Str → Option Value) (z o : Addr) : Prop where
  g_ZERO : mg "ZERO" = some (.ref z)
  g_ONE : mg "ONE" = some (.ref o)
  oz : ∀ H, ob K H z = some (.tup [.int 0, .int 1])
  oo : ∀ H, ob K H o = some (.tup [.int 1, .int 1])
theorem sz01 {k : Nat} (h : 1 ≤ k) : Sz k (0, 1) := Sz.mono (a := 1) ⟨by decide, by decide⟩ h
theorem sz11 {k : Nat} (h : 1 ≤ k) : Sz k (1, 1) := Sz.mono (a := 1) ⟨by decide, by decide⟩ h
/-- the period of a rate -/
def PerOk (K : PySem.W.Frag) (n : Nat) (H : Hp) (p : Qt) (v : V) : Prop := (p.1 = 0 ∧ v = .non) ∨ (p.1 ≠ 0 ∧ ∃ c, v = .ref c ∧ Fq K H n c (p.2, (p.1.natAbs : Int)))
theorem PerOk.mono {n k : Nat} {H : Hp} {p : Qt} {v : V} (h : PerOk K n H p v) (l : n ≤ k) : PerOk K k H p v := h.imp id fun ⟨a, c, e, f⟩ => ⟨a, c, e, f.mono l⟩
theorem PerOk.same {n : Nat} {H H' : Hp} {p : Qt} {v : V} (h : PerOk K n H p v) (s : Same H H') : PerOk K n H' p v := h.imp id fun ⟨a, c, e, f⟩ => ⟨a, c, e, f.same s⟩
def spPeriod (K : PySem.W.Frag) : Sp := fun vs H Q _ => ∃ (a : Addr) (p : Qt) (n : Nat), vs = [.ref a] ∧ Fq K H n a p ∧ n ≤ 2900 ∧ ∀ v H', Same H H' → PerOk K n H' p v → Q v H'
theorem quo_one {p z : Qt} (hp : Nf p) (h0 : p.1 ≠ 0) (h : quo2 (1, 1) ((p.1.natAbs : Int), p.2) z) : z = (p.2, (p.1.natAbs : Int)) := by
  have n : (p.1.natAbs : Int) ≠ 0 := by omega
  have h' : Is z (1 * p.2) (1 * (p.1.natAbs : Int)) := h
  rw [Int.one_mul, Int.one_mul] at h'
  refine is_unique n h' ⟨⟨by show 1 ≤ (p.1.natAbs : Int); omega, ?_⟩, rfl⟩
  show Nat.gcd p.2.natAbs p.1.natAbs = 1
  rw [Nat.gcd_comm]
  exact hp.2
theorem nf_zero {p : Qt} (hp : Nf p) : p = (0, 1) ↔ p.1 = 0 := by
  refine ⟨fun h => by rw [h], fun h => ?_⟩
  have g := hp.2
  rw [h] at g
  have g1 : p.2.natAbs = 1 := by simpa using g
  have p2 := hp.1
  exact Prod.ext h (by show p.2 = 1; omega)
abbrev sPeriod : Stmt := topS 43
theorem scPeriod : FnScope ["rate"] ["rate"] (defScope sPeriod) := ⟨rfl, rfl, rfl, by decide +kernel, rfl, by decide +kernel, by decide +kernel⟩
theorem k_Period {z0 o0 : Addr} (C0 : Two01 K mg z0 o0) (T : Bt K mg) (D : Dfn K mg "_period_of" sPeriod ["rate"]) (d_magnitude : Kn P w K mg base 3 "magnitude" ["value"] (spUn K fun q => ((q.1.natAbs : Int), q.2))) (d_over : Kn P w K mg base 3 "over" ["left", "right"] (spQuo K)) : Kn P w K mg base 4 "_period_of" ["rate"] (spPeriod K) := by
  refine Kn.mk' D scPeriod (fun vs H Q E h => ?_) (fun f cdv A outer s H vs Q E hr h => ?_)
  · obtain ⟨a, p, n, rfl, _⟩ := h
    rfl
  obtain ⟨a, p, n, rfl, hp, hn, k⟩ := h
  refine ⟨_, (pss_cons (ps_if (pt_cmpR (op_eqF hr) (pv 0) (pe_glob (v := .ref z0) (by rfl) C0.g_ZERO rfl) (nomark _)) (pss_one (ps_ret pe_non)) pss_nil)
      (pss_one (ps_ret (pe_kn d_over hr (by rfl) (pa_cons (pe_glob (v := .ref o0) (by rfl) C0.g_ONE rfl) (pa_cons (pe_kn d_magnitude hr (by rfl) (pa_cons (pv 0) pa_nil)) pa_nil)))))), ?_⟩
  refine ⟨_, rfl, a, z0, p, (0, 1), rfl, rfl, hp.o, C0.oz _, _, rfl, ?_⟩
  refine ite2 (fun h => ?_) (fun h => ?_)
  · exact k _ H (Same.refl _) (.inl ⟨(nf_zero hp.nf).mp (of_decide_eq_true h), rfl⟩)
  · have h0 : p.1 ≠ 0 := fun z => h (decide_eq_true ((nf_zero hp.nf).mpr z))
    refine ⟨_, rfl, a, p, rfl, hp.mono (by omega), fun b H1 s1 o1 => ?_⟩
    have hz : Sz n ((p.1.natAbs : Int), p.2) := ⟨by show ((p.1.natAbs : Int)).natAbs < 2 ^ n; rw [Int.natAbs_natCast]; exact hp.sz.1, hp.sz.2⟩
    refine ⟨o0, b, (1, 1), ((p.1.natAbs : Int), p.2), rfl, ⟨C0.oo _, nf11, sz11 (by omega)⟩, ⟨o1, nf_abs hp.nf, hz.mono (by omega)⟩, by show (p.1.natAbs : Int) ≠ 0; omega, fun z hzq c H2 s2 o2 => ?_⟩
    rw [quo_one hp.nf h0 hzq] at o2
    exact k _ H2 (s1.trans s2) (.inr ⟨h0, c, rfl, o2, ⟨by show 1 ≤ (p.1.natAbs : Int); omega, by show Nat.gcd p.2.natAbs p.1.natAbs = 1; rw [Nat.gcd_comm]; exact hp.nf.2⟩, hz.2, hz.1⟩)
end
end My

namespace My
open PySem PySem.Spec PyProof.Rows L2
section
variable {P : Program} {w : World} {K : PySem.W.Frag} {mg : Str → Option Value} {base : Heap}
/-- what the text says of the class Cycle -/
structure CyC (K : PySem.W.Frag) (mg : Str → Option Value) (C : Addr) : Prop where
  cl : Cls K C
  nR : NoAttr K C "rate"
  nS : NoAttr K C "start"
  nP : NoAttr K C "period"
  g : mg "Cycle" = some (.ref C)
def cyF (a b : Addr) (v : V) : List (Str × V) := [("rate", .ref a), ("start", .ref b), ("period", v)]
/-- a Cycle at c with the rate p and the start q -/
def CyAt (K : PySem.W.Frag) (C : Addr) (n : Nat) (H : Hp) (c : Addr) (p q : Qt) : Prop := ∃ dx a b v, H c = some (.ins C dx (cyF a b v)) ∧ Fq K H n a p ∧ Pq K H n b q ∧ PerOk K n H p v
theorem CyAt.mono {C : Addr} {n k : Nat} {H : Hp} {c : Addr} {p q : Qt} (h : CyAt K C n H c p q) (l : n ≤ k) : CyAt K C k H c p q := by
  obtain ⟨dx, a, b, v, h1, h2, h3, h4⟩ := h
  exact ⟨dx, a, b, v, h1, h2.mono l, h3.mono l, h4.mono l⟩
theorem CyAt.same {C : Addr} {n : Nat} {H H' : Hp} {c : Addr} {p q : Qt} (h : CyAt K C n H c p q) (s : Same H H') : CyAt K C n H' c p q := by
  obtain ⟨dx, a, b, v, h1, h2, h3, h4⟩ := h
  exact ⟨dx, a, b, v, s _ _ h1, h2.same s, h3.same s, h4.same s⟩
theorem PerOk.kp {n : Nat} {H H' : Hp} {p : Qt} {v : V} {s : Addr} {ys : List V} (h : PerOk K n H p v) (e : Kp s H H') (hs : H s = some (.lst ys)) : PerOk K n H' p v := h.imp id fun ⟨a, c, z, f⟩ => ⟨a, c, z, f.kp e hs⟩
theorem CyAt.kp {C : Addr} {n : Nat} {H H' : Hp} {c s : Addr} {ys : List V} {p q : Qt} (h : CyAt K C n H c p q) (e : Kp s H H') (hs : H s = some (.lst ys)) : CyAt K C n H' c p q := by
  obtain ⟨dx, a, b, v, h1, h2, h3, h4⟩ := h
  exact ⟨dx, a, b, v, e _ _ (by rintro rfl; rw [hs] at h1; cases h1) h1, h2.kp e hs, h3.kp e hs, h4.kp e hs⟩
theorem cy_rate (a b : Addr) (v : V) : (cyF a b v).lookup ("rate" : Str) = some (.ref a) := rfl
theorem cy_start (a b : Addr) (v : V) : (cyF a b v).lookup ("start" : Str) = some (.ref b) := rfl
theorem cy_period (a b : Addr) (v : V) : (cyF a b v).lookup ("period" : Str) = some v := rfl
theorem cy_put1 (x y : V) : putF "start" y [(("rate" : Str), x)] = [(("rate" : Str), x), (("start" : Str), y)] := by
  show (if ("rate" : Str) = "start" then _ else _) = _
  rw [if_neg (by decide +kernel)]
  rfl
theorem cy_put2 (x y z : V) : putF "period" z [(("rate" : Str), x), (("start" : Str), y)] = [(("rate" : Str), x), (("start" : Str), y), (("period" : Str), z)] := by
  show (if ("rate" : Str) = "period" then _ else (("rate" : Str), x) :: (if ("start" : Str) = "period" then _ else _)) = _
  rw [if_neg (by decide +kernel), if_neg (by decide +kernel)]
  rfl
def spCyInit (K : PySem.W.Frag) (C : Addr) : Sp := fun vs H Q _ => ∃ (H0 : Hp) (c dx a b : Addr) (p q : Qt) (n : Nat), vs = [.ref c, .ref a, .ref b] ∧ Same H0 H ∧ H0 c = none ∧ H c = some (.ins C dx []) ∧ Fq K H0 n a p ∧ Pq K H0 n b q ∧ n ≤ 2900 ∧ ∀ H', Same H0 H' → CyAt K C n H' c p q → Q .non H'
theorem ob_put {H : Hp} {c a C dx : Addr} {fs : List (Str × V)} {o : HO} {xs : List V} (hc : H c = some (.ins C dx fs)) (h : ob K H a = some (.tup xs)) : ob K (upd H c o) a = some (.tup xs) := by
  unfold ob at h ⊢
  split
  · rename_i z hz
    rw [hz] at h
    exact h
  · rename_i hz
    rw [hz] at h
    rw [upd_ne (by rintro rfl; rw [hc] at h; cases h)]
    exact h
theorem PerOk.put {n : Nat} {H : Hp} {c C dx : Addr} {fs : List (Str × V)} {o : HO} {p : Qt} {v : V} (hc : H c = some (.ins C dx fs)) (h : PerOk K n H p v) : PerOk K n (upd H c o) p v := h.imp id fun ⟨a, d, z, f⟩ => ⟨a, d, z, ob_put hc f.o, f.nf, f.sz⟩
theorem same_put {H0 H : Hp} {c : Addr} {o : HO} (s : Same H0 H) (n : H0 c = none) : Same H0 (upd H c o) := fun b u e => by
  rw [upd_ne (ne_of_none e n)]
  exact s b u e
theorem pl_true {H : Hp} {a : Addr} {n : Nat} {q : Qt} (h : Pq K H n a q) : plOk K H (.ref a) = true := by
  rw [plOk_fr h.f.o h.f.nf, decide_eq_true h.lo, decide_eq_true h.hi]
  rfl
abbrev sCyInit : Stmt := inClass (topS 42) 0
theorem scCyInit : FnScope ["self", "rate", "start"] ["self", "rate", "start"] (defScope sCyInit) := ⟨rfl, rfl, rfl, by decide +kernel, rfl, by decide +kernel, by decide +kernel⟩
theorem ok_CyInit {C f : Addr} {fd : FuncData} (T : Bt K mg) (Y : CyC K mg C) (d_require : Kn P w K mg base 1 "require" ["well_formed", "what"] spRequire) (d_is_fraction : Kn P w K mg base 2 "is_fraction" ["value"] (spIsFraction K)) (d_is_place : Kn P w K mg base 3 "is_place" ["value"] (spIsPlace K)) (d__period_of : Kn P w K mg base 4 "_period_of" ["rate"] (spPeriod K)) {dvs : List V} (F : FunD K "__init__" "Cycle.__init__" (defArgs sCyInit) (defBody sCyInit) (defScope sCyInit) dvs [] f fd) : FnOk P w K mg base CX0 5 f fd ["self", "rate", "start"] (spCyInit K C) := by
  refine F.ok scCyInit (fun vs H Q E h => ?_) (fun cdv A outer s H vs Q E hr h => ?_)
  · obtain ⟨H0, c, dx, a, b, p, q, n, rfl, _⟩ := h
    rfl
  obtain ⟨H0, c, dx, a, b, p, q, n, rfl, s0, c0, hc, hp, hq, hn, k⟩ := h
  refine ⟨_, (pss_cons (ps_expr (pe_kn d_require hr (by rfl) (pa_cons (pe_kn d_is_fraction hr (by rfl) (pa_cons (pv 1) pa_nil)) (pa_cons pe_str pa_nil))))
      (pss_cons (ps_expr (pe_kn d_require hr (by rfl) (pa_cons (pe_kn d_is_place hr (by rfl) (pa_cons (pv 2) pa_nil)) (pa_cons pe_str pa_nil))))
      (pss_cons (ps_fld (pv 0) (pv 1) rfl)
      (pss_cons (ps_fld (pv 0) (pv 2) rfl)
      (pss_one (ps_fld (pv 0) (pe_kn d__period_of hr (by rfl) (pa_cons (pv 1) pa_nil)) rfl)))))), ?_⟩
  have ha := hp.same s0
  have hb := hq.same s0
  refine ⟨_, rfl, _, rfl, Tyd.fr ha.o, _, by rw [frOk_fr ha.o ha.nf]; rfl, _, rfl, _, rfl, Tyd.fr hb.f.o, _, by rw [pl_true hb]; rfl, ?_⟩
  refine ⟨_, rfl, _, rfl, c, C, dx, [], rfl, hc, Y.cl, Y.nR, (by show 0 < 1000; decide), _, rfl, _, rfl, c, C, dx, _, rfl, upd_same, Y.cl, Y.nS, (by show 1 < 1000; decide), ?_⟩
  have s2 : Same H0 (upd (upd H c (.ins C dx (putF "rate" (.ref a) []))) c (.ins C dx (putF "start" (.ref b) (putF "rate" (.ref a) [])))) := same_put (same_put s0 c0) c0
  have h2 := upd_same (H := upd H c (.ins C dx (putF "rate" (.ref a) []))) (a := c) (o := .ins C dx (putF "start" (.ref b) (putF "rate" (.ref a) [])))
  generalize upd (upd H c (.ins C dx (putF "rate" (.ref a) []))) c (.ins C dx (putF "start" (.ref b) (putF "rate" (.ref a) []))) = H2 at s2 h2 ⊢
  refine ⟨_, rfl, a, p, n, rfl, hp.same s2, hn, fun v H3 s3 hv => ⟨_, rfl, c, C, dx, _, rfl, s3 _ _ h2, Y.cl, Y.nP, (by show (putF "start" (V.ref b) [(("rate" : Str), V.ref a)]).length < 1000; rw [cy_put1]; show 2 < 1000; decide), ?_⟩⟩
  have s4 := s2.trans s3
  have s5 : Same H0 (upd H3 c (.ins C dx (putF "period" v (putF "start" (.ref b) (putF "rate" (.ref a) []))))) := same_put s4 c0
  have e : putF "period" v (putF "start" (.ref b) (putF "rate" (.ref a) [])) = cyF a b v := by
    show putF "period" v (putF "start" (.ref b) [(("rate" : Str), V.ref a)]) = _
    rw [cy_put1, cy_put2]
    rfl
  rw [e] at s5 ⊢
  refine k _ s5 ⟨dx, a, b, v, upd_same, hp.same s5, hq.same s5, hv.put (s3 _ _ h2)⟩
end
end My

namespace My
open PySem PySem.Spec PyProof.Rows L2
section
variable {P : Program} {w : World} {K : PySem.W.Frag} {mg : Str → Option Value} {base : Heap}
/-- the turns of a cycle of the rate p and the start q at the moment m -/
def Tur (p q m y : Qt) : Prop := ∃ t, pro2 p m t ∧ sum2 q t y
theorem szSub' : True := trivial
theorem sum_sz {p q z : Qt} {i j k : Nat} (h : sum2 p q z) (hp : Nf p) (hq : Nf q) (sp : Sz i p) (sq : Sz j q) (l : i + j < k) : Sz k z :=
  is_sz (mul_ne hp.1 hq.1) h (szAdd (szMul sp.1 sq.2) (szMul sq.1 sp.2) (by omega) (by omega)) (szMono (szMul sp.2 sq.2) (by omega))
theorem dif_sz {p q z : Qt} {i j k : Nat} (h : dif2 p q z) (hp : Nf p) (hq : Nf q) (sp : Sz i p) (sq : Sz j q) (l : i + j < k) : Sz k z :=
  is_sz (mul_ne hp.1 hq.1) h (szSub (szMul sp.1 sq.2) (szMul sq.1 sp.2) (by omega) (by omega)) (szMono (szMul sp.2 sq.2) (by omega))
theorem pro_sz {p q z : Qt} {i j k : Nat} (h : pro2 p q z) (hp : Nf p) (hq : Nf q) (sp : Sz i p) (sq : Sz j q) (l : i + j < k) : Sz k z :=
  is_sz (mul_ne hp.1 hq.1) h (szMono (szMul sp.1 sq.1) (by omega)) (szMono (szMul sp.2 sq.2) (by omega))
theorem quo_sz {p q z : Qt} {i j k : Nat} (h : quo2 p q z) (hp : Nf p) (h0 : q.1 ≠ 0) (sp : Sz i p) (sq : Sz j q) (l : i + j < k) : Sz k z :=
  is_sz (Int.mul_ne_zero hp.ne h0) h (szMono (szMul sp.1 sq.2) (by omega)) (szMono (szMul sp.2 sq.1) (by omega))
theorem Tur.unique {p q m y z : Qt} (hp : Nf p) (hq : Nf q) (hm : Nf m) (h1 : Tur p q m y) (h2 : Tur p q m z) : y = z := by
  obtain ⟨t, a, b⟩ := h1
  obtain ⟨u, c, d⟩ := h2
  obtain rfl := is_unique (mul_ne hp.1 hm.1) a c
  exact is_unique (mul_ne hq.1 a.1.1) b d
def spTurns (K : PySem.W.Frag) (C : Addr) : Sp := fun vs H Q _ => ∃ (c a : Addr) (p q m : Qt) (n j : Nat), vs = [.ref c, .ref a] ∧ CyAt K C n H c p q ∧ Fq K H j a m ∧ n + j ≤ 2900 ∧ ∀ y, Tur p q m y → Sz (2 * n + j + 3) y → Gv K H Q y
def spPlace (K : PySem.W.Frag) (C : Addr) : Sp := fun vs H Q _ => ∃ (c a : Addr) (p q m : Qt) (n j : Nat), vs = [.ref c, .ref a] ∧ CyAt K C n H c p q ∧ Fq K H j a m ∧ n + j ≤ 2900 ∧ ∀ y, Tur p q m y → Sz (2 * n + j + 3) y → Gv K H Q (y.1 % y.2, y.2)
abbrev sCyTurns : Stmt := inClass (topS 42) 6
theorem scCyTurns : FnScope ["self", "moment"] ["self", "moment"] (defScope sCyTurns) := ⟨rfl, rfl, rfl, by decide +kernel, rfl, by decide +kernel, by decide +kernel⟩
theorem ok_CyTurns {C f : Addr} {fd : FuncData} (T : Bt K mg) (Y : CyC K mg C) (d_require : Kn P w K mg base 1 "require" ["well_formed", "what"] spRequire) (d_is_fraction : Kn P w K mg base 2 "is_fraction" ["value"] (spIsFraction K)) (d_plus : Kn P w K mg base 3 "plus" ["left", "right"] (spBin K sum2)) (d_times : Kn P w K mg base 3 "times" ["left", "right"] (spBin K pro2)) (F : Fun K "turns" "Cycle.turns" sCyTurns f fd) : FnOk P w K mg base CX0 4 f fd ["self", "moment"] (spTurns K C) := by
  refine F.ok scCyTurns (fun vs H Q E h => ?_) (fun cdv A outer s H vs Q E hr h => ?_)
  · obtain ⟨c, a, p, q, m, n, j, rfl, _⟩ := h
    rfl
  obtain ⟨c, a, p, q, m, n, j, rfl, hc, hm, hj, k⟩ := h
  refine ⟨_, (pss_cons (ps_expr (pe_kn d_require hr (by rfl) (pa_cons (pe_kn d_is_fraction hr (by rfl) (pa_cons (pv 1) pa_nil)) (pa_cons pe_str pa_nil))))
      (pss_one (ps_ret (pe_kn d_plus hr (by rfl) (pa_cons (pe_fld (pv 0) rfl) (pa_cons (pe_kn d_times hr (by rfl) (pa_cons (pe_fld (pv 0) rfl) (pa_cons (pv 1) pa_nil))) pa_nil)))))), ?_⟩
  obtain ⟨dx, ra, sb, v, hc, hp, hq, hv⟩ := hc
  refine ⟨_, rfl, _, rfl, Tyd.fr hm.o, _, by rw [frOk_fr hm.o hm.nf]; rfl, ?_⟩
  refine ⟨_, rfl, c, C, dx, _, _, rfl, hc, Y.cl, Y.nS, cy_start _ _ _, _, rfl, c, C, dx, _, _, rfl, hc, Y.cl, Y.nR, cy_rate _ _ _, _, rfl, ?_⟩
  refine ⟨ra, a, p, m, rfl, hp.mono (by omega), hm.mono (by omega), fun t ht d H1 s1 o1 => ?_⟩
  have st : Sz (n + j + 1) t := pro_sz ht hp.nf hm.nf hp.sz hm.sz (by omega)
  exact ⟨sb, d, q, t, rfl, (hq.f.same s1).mono (by omega), ⟨o1, ht.1, st.mono (by omega)⟩, fun y hy e H2 s2 o2 => k y ⟨t, ht, hy⟩ (sum_sz hy hq.f.nf ht.1 hq.f.sz (pro_sz (k := n + j + 1) ht hp.nf hm.nf hp.sz hm.sz (by omega)) (by omega)) e H2 (s1.trans s2) o2⟩
abbrev sCyPlace : Stmt := inClass (topS 42) 7
theorem scCyPlace : FnScope ["self", "moment"] ["self", "moment"] (defScope sCyPlace) := ⟨rfl, rfl, rfl, by decide +kernel, rfl, by decide +kernel, by decide +kernel⟩
theorem ok_CyPlace {C f : Addr} {fd : FuncData} (T : Bt K mg) (Y : CyC K mg C) (m_turns : C8.Met P w K mg base 4 C "turns" (spTurns K C) []) (d_require : Kn P w K mg base 1 "require" ["well_formed", "what"] spRequire) (d_is_fraction : Kn P w K mg base 2 "is_fraction" ["value"] (spIsFraction K)) (d_part_of : Kn P w K mg base 3 "part_of" ["value"] (spUn K fun q => (q.1 % q.2, q.2))) (F : Fun K "place" "Cycle.place" sCyPlace f fd) : FnOk P w K mg base CX0 5 f fd ["self", "moment"] (spPlace K C) := by
  refine F.ok scCyPlace (fun vs H Q E h => ?_) (fun cdv A outer s H vs Q E hr h => ?_)
  · obtain ⟨c, a, p, q, m, n, j, rfl, _⟩ := h
    rfl
  obtain ⟨c, a, p, q, m, n, j, rfl, hc, hm, hj, k⟩ := h
  refine ⟨_, (pss_cons (ps_expr (pe_kn d_require hr (by rfl) (pa_cons (pe_kn d_is_fraction hr (by rfl) (pa_cons (pv 1) pa_nil)) (pa_cons pe_str pa_nil))))
      (pss_one (ps_ret (pe_kn d_part_of hr (by rfl) (pa_cons (C8.pe_mt m_turns hr (by omega) (pv 0) (pa_cons (pv 1) pa_nil)) pa_nil))))), ?_⟩
  refine ⟨_, rfl, _, rfl, Tyd.fr hm.o, _, by rw [frOk_fr hm.o hm.nf]; rfl, ?_⟩
  have hc' := hc
  obtain ⟨dx, ra, sb, v, hi, hp, hq, hv⟩ := hc
  refine ⟨_, rfl, c, dx, _, rfl, hi, rfl, _, rfl, c, a, p, q, m, n, j, rfl, hc', hm, hj, fun y hy sy b H1 s1 o1 => ?_⟩
  obtain ⟨t, ht, hz⟩ := id hy
  exact ⟨b, y, rfl, ⟨o1, hz.1, sy.mono (by omega)⟩, fun e H2 s2 o2 => k y hy sy e H2 (s1.trans s2) o2⟩
theorem same_make {H : Hp} {c dx C : Addr} (h1 : H c = none) (h2 : H dx = none) : Same H (upd (upd H dx (.own c)) c (.ins C dx [])) := fun b o e => by
  rw [upd_ne (ne_of_none e h1), upd_ne (ne_of_none e h2)]
  exact e
def spWith (K : PySem.W.Frag) (C : Addr) : Sp := fun vs H Q _ => ∃ (a b : Addr) (p q : Qt), vs = [.ref a, .ref b] ∧ Fq K H 140 a p ∧ p.1 ≠ 0 ∧ Pq K H 140 b q ∧ ∀ z c H', quo2 (1, 1) p z → Same H H' → CyAt K C 300 H' c z q → Q (.ref c) H'
end
end My

namespace My
open PySem PySem.Spec PyProof.Rows L2
/-! ### what kind a value is of -/
/-- its kind answers to the built-in types as f says -/
def Kd (K : PySem.W.Frag) (H : Hp) (v : V) (f : String → Bool) : Prop := ∃ t, TyX K H v t ∧ ∀ n ∈ ["int", "bool", "str", "list", "tuple", "dict"], PySem.W.kitOne K t (.type n) = some (f n)
def rIsD (K : PySem.W.Frag) : List V → Hp → VK → Prop := fun xs H Q => ∃ x n, xs = [x, .ty n] ∧ n ∈ ["int", "bool", "str", "list", "tuple", "dict"] ∧ ∃ f, Kd K H x f ∧ Q (.bl (f n)) H
theorem call_isD {X : Cx} : CallR X (.builtin "isinstance") (rIsD X.K) := fun pins s σ H xs us Q I r h => by
  obtain ⟨x, n, rfl, hn, f, ⟨t, ty, hk⟩, q⟩ := h
  exact call_isi pins s σ H _ us Q I r ⟨x, .ty n, t, .type n, f n, rfl, .ty n, ty, hk n hn, q⟩
section
variable {P : Program} {w : World} {K : PySem.W.Frag} {mg : Str → Option Value} {base : Heap}
theorem Kd.ty {H : Hp} {v : V} {t : String} (h : tyN K H v = some t) : Kd K H v (isB t) := ⟨.type t, tyN_X h, fun n hn => kit_ty (kit_all t (tyN_mem h) n hn)⟩
/-- a value whose being a whole number is told by itself -/
def Wh (K : PySem.W.Frag) (H : Hp) (v : V) : Prop := ∃ f, Kd K H v f ∧ (f "int" && !f "bool") = wholeV v
theorem Wh.ty {H : Hp} {v : V} {t : String} (h : tyN K H v = some t) : Wh K H v := ⟨_, Kd.ty h, by
  rw [wholeV_ty h]
  have mt := tyN_mem h
  simp only [List.mem_cons, List.not_mem_nil, or_false] at mt
  rcases mt with rfl | rfl | rfl | rfl | rfl | rfl | rfl <;> rfl⟩
theorem Wh.int {H : Hp} (n : Int) : Wh K H (.int n) := Wh.ty (t := "int") rfl
theorem tyX_same {H H' : Hp} {x : V} {t : Value} (s : Same H H') (h : TyX K H x t) : TyX K H' x t := by
  cases h with
  | base b =>
    cases b with
    | non => exact .base .non
    | bl y => exact .base (.bl y)
    | int y => exact .base (.int y)
    | str y => exact .base (.str y)
    | flt y => exact .base (.flt y)
    | lst e => exact .base (.lst (s _ _ e))
    | frz e => exact .base (.frz (s _ _ e))
    | tup e => exact .base (.tup (s _ _ e))
    | dK e => exact .base (.dK (s _ _ e))
    | dT e => exact .base (.dT (s _ _ e))
    | ins e a b c d f => exact .base (.ins (s _ _ e) a b c d f)
  | byt b => exact .byt b
  | set e => exact .set (s _ _ e)
  | kList e c => exact .kList e c
  | kTuple e c => exact .kTuple e c
  | kDict e c => exact .kDict e c
  | fTuple e => exact .fTuple (s _ _ e)
  | fDict e => exact .fDict (s _ _ e)
theorem Kd.same {H H' : Hp} {v : V} {f : String → Bool} (h : Kd K H v f) (s : Same H H') : Kd K H' v f := by
  obtain ⟨t, a, b⟩ := h
  exact ⟨t, tyX_same s a, b⟩
theorem Wh.same {H H' : Hp} {v : V} (h : Wh K H v) (s : Same H H') : Wh K H' v := by
  obtain ⟨f, a, b⟩ := h
  exact ⟨f, a.same s, b⟩
def inB (a b : Int) : V → Bool
  | .int n => decide (a ≤ n) && decide (n ≤ b)
  | _ => false
theorem whole_or (v : V) : wholeV v = false ∨ ∃ n, v = .int n := by
  cases v with
  | int n => exact .inr ⟨n, rfl⟩
  | _ => exact .inl rfl
theorem inB_no {a b : Int} {v : V} (h : wholeV v = false) : inB a b v = false := by
  cases v with
  | int n => cases h
  | _ => rfl
def spWholeU (K : PySem.W.Frag) : Sp := fun vs H Q _ => ∃ v, vs = [v] ∧ Wh K H v ∧ Q (.bl (wholeV v)) H
def spWithin (K : PySem.W.Frag) : Sp := fun vs H Q _ => ∃ (v : V) (a b : Int), vs = [v, .int a, .int b] ∧ Wh K H v ∧ Q (.bl (inB a b v)) H
theorem Sto.ne' {H : Hp} {s l : Addr} (st : Sto K H s) (hl : H l = none) : l ≠ s := by
  rintro rfl
  obtain ⟨ys, hy⟩ := st.at
  rw [hy] at hl
  cases hl
theorem sz2 {n : Nat} (h : n ≤ 100) : n ≤ sizeLine := by rw [sizeLine_eq]; omega
theorem itsO_of {H : Hp} {a : Addr} {xs : List V} (h : ob K H a = some (.tup xs)) : itsO (ob K H a) = some xs := by rw [h]; rfl
theorem itsO_ofL {H : Hp} {a : Addr} {xs : List V} (h : ob K H a = some (.lst xs)) : itsO (ob K H a) = some xs := by rw [h]; rfl
theorem if_yes {c : Bool} {A B : Prop} (e : c = true) (h : A) : if c = true then A else B := by
  rw [e, if_pos rfl]
  exact h
theorem if_no {c : Bool} {A B : Prop} (e : c = false) (h : B) : if c = true then A else B := by
  rw [e, if_neg Bool.noConfusion]
  exact h
abbrev sWholeU : Stmt := topS 17
theorem scWholeU : FnScope ["value"] ["value"] (defScope sWholeU) := ⟨rfl, rfl, rfl, by decide +kernel, rfl, by decide +kernel, by decide +kernel⟩
theorem k_WholeU (T : Bt K mg) (D : Dfn K mg "is_whole" sWholeU ["value"]) : Kn P w K mg base 1 "is_whole" ["value"] (spWholeU K) := by
  refine Kn.mk' D scWholeU (fun vs H Q E h => ?_) (fun f cdv A outer s H vs Q E hr h => ?_)
  · obtain ⟨v, rfl, _⟩ := h
    rfl
  obtain ⟨v, rfl, hv, q⟩ := h
  refine ⟨_, (pss_one (ps_ret (pe_and (pe_callB call_isD (by rfl) T.b_isinstance (by decide +kernel) (pa_cons (pv 0) (pa_cons (pe_bltn (v := .ty "int") (by rfl) T.b_int (by decide +kernel) rfl) pa_nil))) (pe_one (pe_not (pe_callB call_isD (by rfl) T.b_isinstance (by decide +kernel) (pa_cons (pv 0) (pa_cons (pe_bltn (v := .ty "bool") (by rfl) T.b_bool (by decide +kernel) rfl) pa_nil)))))))), ?_⟩
  obtain ⟨f, hf, e⟩ := hv
  refine ⟨_, rfl, v, "int", rfl, by decide, f, hf, f "int", rfl, ?_⟩
  rw [← e] at q
  cases hi : f "int" with
  | false =>
    rw [hi] at q
    exact if_no rfl q
  | true =>
    rw [hi] at q
    refine if_yes rfl ⟨_, rfl, v, "bool", rfl, by decide, f, hf, f "bool", rfl, ?_⟩
    exact q
abbrev sWithin : Stmt := topS 18
theorem scWithin : FnScope ["value", "least", "most"] ["value", "least", "most"] (defScope sWithin) := ⟨rfl, rfl, rfl, by decide +kernel, rfl, by decide +kernel, by decide +kernel⟩
theorem k_Within (T : Bt K mg) (D : Dfn K mg "is_whole_within" sWithin ["value", "least", "most"]) (d_is_whole : Kn P w K mg base 1 "is_whole" ["value"] (spWholeU K)) : Kn P w K mg base 2 "is_whole_within" ["value", "least", "most"] (spWithin K) := by
  refine Kn.mk' D scWithin (fun vs H Q E h => ?_) (fun f cdv A outer s H vs Q E hr h => ?_)
  · obtain ⟨v, a, b, rfl, _⟩ := h
    rfl
  obtain ⟨v, a, b, rfl, hv, k⟩ := h
  refine ⟨_, (pss_one (ps_ret (pe_and (pe_kn d_is_whole hr (by rfl) (pa_cons (pv 0) pa_nil)) (pe_one (pe_chain op_le op_le (pv 1) (pv 0) (pv 2)))))), ?_⟩
  rcases whole_or v with hw | ⟨n, rfl⟩
  · refine ⟨_, rfl, v, rfl, hv, _, rfl, ?_⟩
    rw [hw, if_neg Bool.noConfusion]
    rw [inB_no hw] at k
    exact k
  have k : Q (.bl (decide (a ≤ n) && decide (n ≤ b))) H := k
  refine ⟨_, rfl, .int n, rfl, hv, true, rfl, ?_⟩
  rw [if_pos rfl]
  simp only [tChain, cx_K, decide_true, decide_false, reduceCtorEq, gTp, gCons, gNil, ca_0, ca_1, ca_2, ca_3, ca_4, ca_5, ca_6, ca_7, ca_8, ca_9, ca_10, ca_11, ca_12, ca_13, ca_14, ca_15, ca_16, ca_17, ca_18, ca_19, ca_20, ca_21, ca_22, ca_23, ca_24, ca_25, ca_26, ca_27, ca_28, ca_29, ca_30, not_true_eq_false, not_false_eq_true, Int.reduceEq, Nat.reduceEqDiff, Nat.reduceLeDiff, rGcd, V.ty.injEq, eq_self, List.not_mem_nil, beq_self_eq_true, HO.lst.injEq, HO.tup.injEq, tFor_eq, iRng1, iList, iTup, nat10, tSeq, rIxA, rSetA, rIsN, rIsT, tTp, tLs, itsO_tup, itsO_lst, tyO_tup, tyO_lst, tyO_dK, tyN_non, tyN_bl, tyN_int, tyN_str, tyN_ref, tyNs_lt, isB, upd_same, upd_upd, sizeLine_eq, List.mem_cons, String.reduceBEq, String.reduceEq, Bool.or_false, Bool.or_true, Bool.and_false, Bool.false_or, Bool.and_self, Bool.false_and, Bool.not_false, Bool.not_true, List.any_cons, List.any_nil, atI_0, setI_0, atI_1, setI_1, atI_2, setI_2, atI_3, setI_3, atI_4, setI_4, atI_5, setI_5, atI_6, setI_6, tAsg, gName, tOp, tUn, tVar, tC, tCons, L2.tNil, tRet, tIfS, tTest, tCB, tCall, rI, rI0, rU, tNext, tB, tAnd, tOr, tNot, tAndV, tOrV, tNotV, tDrop, tIf, tPar, gSub, rIxL, rIxT, rEq, rNe, rSetL, tBits,
    L2.start, List.map_cons, List.map_nil, List.cons_append, List.nil_append, List.append_nil, List.length_cons, List.length_nil, List.replicate, Nat.reduceAdd, Nat.reduceSub, Nat.zero_add, List.getElem?_cons_zero, List.getElem?_cons_succ, List.set_cons_zero, List.set_cons_succ,
    Option.some.injEq, exists_eq_left', exists_eq_left, V.int.injEq, V.bl.injEq, V.ref.injEq, V.str.injEq, List.cons.injEq, reduceCtorEq, and_true, true_and, false_and, and_false, exists_false, or_false, false_or, or_true, true_or, exists_const, CMul, CDiv, CPow, and_assoc, exists_and_left, exists_and_right, Int.reducePow, Int.reduceNeg, Int.reduceLT, Int.reduceLE, Nat.reducePow, Nat.reduceLT, Int.reduceToNat, gt_iff_lt, ge_iff_le, decide_eq_true_eq, Bool.not_eq_true', decide_eq_false_iff_not, scal, ↓reduceIte, Bool.false_eq_true]
  refine ite2 (fun h => ?_) (fun h => ?_)
  · rw [decide_eq_true h, Bool.true_and] at k
    exact k
  · rw [decide_eq_false h, Bool.false_and] at k
    exact k
end
end My

namespace My
open PySem PySem.Spec PyProof.Rows L2
section
variable {P : Program} {w : World} {K : PySem.W.Frag} {mg : Str → Option Value} {base : Heap}
/-- the word of h long ones in n, from the turn t on: its first m items -/
def lw (h n t : Int) (m : Nat) : List Int := (List.range m).map fun (i : Nat) => (((i : Int) + 1) * h + t) / n - ((i : Int) * h + t) / n
def sm (h n t : Int) (m : Nat) : List Int := (List.range m).map fun (i : Nat) => ((i : Int) * h + t) / n
theorem sm_len (h n t : Int) (m : Nat) : (sm h n t m).length = m := by unfold sm; rw [List.length_map, List.length_range]
theorem lw_len (h n t : Int) (m : Nat) : (lw h n t m).length = m := by unfold lw; rw [List.length_map, List.length_range]
theorem sm_s (h n t : Int) (m : Nat) : sm h n t (m + 1) = sm h n t m ++ [((m : Int) * h + t) / n] := by unfold sm; rw [List.range_succ, List.map_append]; rfl
theorem lw_s (h n t : Int) (m : Nat) : lw h n t (m + 1) = lw h n t m ++ [(((m : Int) + 1) * h + t) / n - ((m : Int) * h + t) / n] := by unfold lw; rw [List.range_succ, List.map_append]; rfl
theorem sm_at {h n t : Int} {m i : Nat} (hi : i < m) : (sm h n t m)[i]? = some (((i : Int) * h + t) / n) := by unfold sm; rw [List.getElem?_map, List.getElem?_range hi]; rfl
theorem lw_at {h n t : Int} {m i : Nat} (hi : i < m) : (lw h n t m)[i]? = some ((((i : Int) + 1) * h + t) / n - ((i : Int) * h + t) / n) := by unfold lw; rw [List.getElem?_map, List.getElem?_range hi]; rfl
/-- a word at a -/
def Wd (K : PySem.W.Frag) (H : Hp) (a : Addr) (w : List Int) : Prop := ob K H a = some (.tup (w.map V.int))
theorem Wd.same {H H' : Hp} {a : Addr} {w : List Int} (h : Wd K H a w) (s : Same H H') : Wd K H' a w := ob_same s h
def spLeap (K : PySem.W.Frag) : Sp := fun vs H Q _ => ∃ (h n t : Int), vs = [.int h, .int n, .int t] ∧ 0 ≤ h ∧ h ≤ 101 ∧ 1 ≤ n ∧ n ≤ 101 ∧ 0 ≤ t ∧ t ≤ 101 ∧ ∀ a H', Same H H' → H a = none → Wd K H' a (lw h n t n.toNat) → Q (.ref a) H'
abbrev sLeap : Stmt := topS 40
theorem scLeap : FnScope ["longs", "length", "turn", "sums", "index", "before", "after"] ["longs", "length", "turn"] (defScope sLeap) := ⟨rfl, rfl, rfl, by decide +kernel, rfl, by decide +kernel, by decide +kernel⟩
theorem blk_scLeap_0 : BlkOk ["longs", "length", "turn", "sums", "index", "before", "after"] (defScope sLeap) { kind := .function, names := [(".0", .local), ("index", .local), ("length", .free), ("longs", .free), ("turn", .free)], isGenerator := false, isCoroutine := false, more := [] } [("index", 4)] := ⟨rfl, by decide +kernel, by decide +kernel, by decide +kernel, by decide +kernel⟩
theorem blk_scLeap_1 : BlkOk ["longs", "length", "turn", "sums", "index", "before", "after"] (defScope sLeap) { kind := .function, names := [(".0", .local), ("before", .local), ("after", .local)], isGenerator := false, isCoroutine := false, more := [] } [("before", 5), ("after", 6)] := ⟨rfl, by decide +kernel, by decide +kernel, by decide +kernel, by decide +kernel⟩
theorem k_Leap (zZ : mg "zip" = none) (T : Bt K mg) (D : Dfn K mg "_leap_word" sLeap ["longs", "length", "turn"]) : Kn P w K mg base 1 "_leap_word" ["longs", "length", "turn"] (spLeap K) := by
  refine Kn.mk' D scLeap (fun vs H Q E h => ?_) (fun f cdv A outer s H vs Q E hr h => ?_)
  · obtain ⟨h, n, t, rfl, _⟩ := h
    rfl
  obtain ⟨h, n, t, rfl, h0, h1, n1, n2, t0, t1, k⟩ := h
  refine ⟨_, (pss_cons (ps_setLcF (i := 3) (own := [("index", 4)]) (g := gName 4) (te := (tOp (rI CDivX fun i j => V.int (i.fdiv j)) (tOp (rI0 fun i j => V.int (i + j)) (tOp (rI CMulW fun i j => V.int (i * j)) (tVar 4) (tVar 0)) (tVar 2)) (tVar 1))) rfl scLeap.nd rfl rfl (sw_true rfl rfl rfl rfl) (pi_range1 (by rfl) T.b_range (pa_cons (pe_op op_add (pv 1) pe_int) pa_nil)) blk_scLeap_0 (fun _ _ _ _ _ => by exact pg_name (i := 4) scLeap.nd rfl (.inl rfl)) (fun _ _ _ _ _ => pts_nil) (fun _ _ _ _ _ => by exact (pe_op op_fdivX (pe_op op_add (pe_op op_mulW (pv 4) (pv 0)) (pv 2)) (pv 1))))
      (pss_one (ps_ret (pe_fr (pe_callTy call_tuple_of (by rfl) T.b_tuple (by decide +kernel) (pa_cons (pe_fr (pe_lc (own := [("before", 5), ("after", 6)]) (g := gTup K 2 (gCons (gName 5) (gCons (gName 6) gNil))) (te := (tOp (rI0 fun i j => V.int (i - j)) (tVar 6) (tVar 5))) rfl scLeap.nd (pi_zip (by rfl) zZ (pa_cons (pv 3) (pa_cons (pe_fr (pe_slice sl_list (pv 3) (po_some pe_int) po_none)) pa_nil))) blk_scLeap_1 (fun _ _ _ _ _ => by exact pg_tup rfl (pgs_cons (pg_name (i := 5) scLeap.nd rfl (.inl rfl)) (pgs_cons (pg_name (i := 6) scLeap.nd rfl (.inl rfl)) pgs_nil))) (fun _ _ _ _ _ => pts_nil) (fun _ _ _ _ _ => by exact (pe_op op_sub (pv 6) (pv 5))))) pa_nil)))))), ?_⟩
  have hf : ∀ x : Int, x.fdiv n = x / n := fun x => Int.fdiv_eq_ediv_of_nonneg x (by omega)
  refine ⟨_, rfl, _, _, rfl, rfl, _, rfl, by show -(2 ^ 62) ≤ n + 1; omega, by show n + 1 < 2 ^ 62; omega, fun D hD => lc_range (lo := 0) (n := (n + 1).toNat) (fun i H' => H' D = some (.lst ((sm h n t i).map V.int)) ∧ Same H H') ⟨upd_same, Same.new hD _⟩ ?_ ?_⟩
  · rintro i H' hi ⟨e1, s1⟩
    refine ⟨rfl, ?_⟩
    simp only [tYes, if_true]
    have hi' : i < 102 := by omega
    refine ⟨_, rfl, _, rfl, _, _, rfl, rfl, mulW (a := 10) (b := 10) (by omega) (by omega) (by decide), _, rfl, _, _, rfl, rfl, _, rfl, _, _, rfl, rfl, ⟨by omega, szMono (a := 10) (by omega) (by decide)⟩, _, e1, by rw [List.length_map, sm_len, sizeLine_eq]; omega, ?_, fun b o e => ?_⟩
    · rw [upd_same]
      show some (HO.lst ((sm h n t i).map V.int ++ [V.int (((0 + (i : Int)) * h + t).fdiv n)])) = _
      rw [hf, sm_s, List.map_append, Int.zero_add]
      rfl
    · rw [upd_ne (ne_of_none e hD)]
      exact s1 _ _ e
  · rintro H1 ⟨e1, s1⟩ fr
    have sl : (sm h n t (n + 1).toNat).length = (n + 1).toNat := sm_len ..
    refine ⟨_, rfl, _, rfl, _, rfl, D, _, rfl, .of e1, ?_⟩
    have ec : cutV ((sm h n t (n + 1).toNat).map V.int) (some ((fun i => i) 1)) none = ((sm h n t (n + 1).toNat).map V.int).drop 1 := cut_from _ 1 (by rw [List.length_map]; omega)
    rw [show cutV ((sm h n t (n + 1).toNat).map V.int) (some 1) none = ((sm h n t (n + 1).toNat).map V.int).drop 1 from ec]
    intro l2 hl2 fr2
    have s2 := Same.new hl2 (.lst (((sm h n t (n + 1).toNat).map V.int).drop 1))
    have hl3 : upd H1 l2 (.lst (((sm h n t (n + 1).toNat).map V.int).drop 1)) l2 = some (.lst (((sm h n t (n + 1).toNat).map V.int).drop 1)) := upd_same
    have s0 := s1.trans s2
    generalize upd H1 l2 (.lst (((sm h n t (n + 1).toNat).map V.int).drop 1)) = H2 at s2 hl3 s0 ⊢
    have ha2 := s2 _ _ e1
    have yl : (((sm h n t (n + 1).toNat).map V.int).drop 1).length = n.toNat := by rw [List.length_drop, List.length_map, sl]; omega
    refine ⟨D, l2, _, _, rfl, .of ha2, .of hl3, fun D2 hD2 => lc_zip (xs := (sm h n t (n + 1).toNat).map V.int) (ys := ((sm h n t (n + 1).toNat).map V.int).drop 1) (by rw [yl, List.length_map, sl]; omega) (fun i H' => H' D2 = some (.lst ((lw h n t i).map V.int)) ∧ Same H2 H') ⟨upd_same, Same.new hD2 _⟩ (fun i H5 _ h => ⟨.of (h.2 _ _ ha2), .of (h.2 _ _ hl3)⟩) ?_ ?_⟩
    · intro i x y T H5 hx hy hB5 hT
      rw [List.getElem?_drop, Nat.add_comm] at hy
      have hi1 := (List.getElem?_eq_some_iff.mp hy).1
      rw [List.length_map, sl] at hi1
      rw [List.getElem?_map, sm_at (by omega)] at hx hy
      cases hx
      cases hy
      have sT := Same.new hT (.tup [.int (((i : Int) * h + t) / n), .int ((((i + 1 : Nat) : Int) * h + t) / n)])
      refine ⟨T, _, rfl, .inl (.inl upd_same), rfl, _, _, rfl, _, _, rfl, rfl, rfl, ?_⟩
      simp only [tYes, if_true]
      refine ⟨_, rfl, _, rfl, _, _, rfl, rfl, _, sT _ _ hB5.1, by rw [List.length_map, lw_len, sizeLine_eq]; omega, ?_, fun b o e => ?_⟩
      · rw [upd_same, lw_s, List.map_append]
        rfl
      · rw [upd_ne (ne_of_none e hD2)]
        exact sT _ _ (hB5.2 _ _ e)
    · rintro H5 ⟨e5, s5⟩ fr5
      rw [yl] at e5
      refine ⟨D2, _, rfl, .inl ⟨.of e5, fun a ha fr6 => ?_⟩⟩
      have ka : K.lookup a = none := fr6 a (by rw [upd_same]; simp)
      exact k a _ (s0.trans (s5.trans (Same.new ha _))) (Same.free (s0.trans s5) ha) ((ob_none ka).trans upd_same)

end
end My

namespace My
open PySem PySem.Spec PyProof.Rows L2
section
variable {P : Program} {w : World} {K : PySem.W.Frag} {mg : Str → Option Value} {base : Heap}
theorem lay_ints : ∀ ns : List Int, PyData.canLayAll0 (ns.map PyData.int) = true
  | [] => rfl
  | n :: r => by
    show (true && PyData.canLayAll0 (r.map PyData.int)) = true
    rw [lay_ints r]
    rfl
theorem depth_ints : ∀ ns : List Int, PyData.depthAll (ns.map PyData.int) = 0
  | [] => rfl
  | n :: r => by
    show max 0 (PyData.depthAll (r.map PyData.int)) = 0
    rw [depth_ints r]
    rfl
theorem dpAll_ints {H : Hp} : ∀ ns : List Int, DpAll K H (ns.map V.int) (ns.map PyData.int)
  | [] => .nil
  | n :: r => .cons (.int n) (dpAll_ints r)
theorem shaped_intsT (ns : List Int) : SeqAt.shaped (.tuple (ns.map PyData.int)) = true := by
  unfold SeqAt.shaped
  rw [show PyData.canLay0 (.tuple (ns.map PyData.int)) = PyData.canLayAll0 (ns.map PyData.int) from rfl, lay_ints, show PyData.depth (.tuple (ns.map PyData.int)) = PyData.depthAll (ns.map PyData.int) + 1 from rfl, depth_ints]
  rfl
theorem eqv_ints : ∀ (ks rs : List Int), PyData.eqvAll (ks.map PyData.int) (rs.map PyData.int) = decide (ks = rs)
  | [], [] => rfl
  | k :: ks, r :: rs => by
    show ((k == r) && PyData.eqvAll (ks.map PyData.int) (rs.map PyData.int)) = _
    rw [eqv_ints ks rs]
    by_cases h : k = r
    · subst h
      simp
    · simp [h]
  | [], r :: rs => by simp [PyData.eqvAll]
  | k :: ks, [] => by simp [PyData.eqvAll]
end
section
variable {K : PySem.W.Frag}
/-- == of two words -/
def rEqW (K : PySem.W.Frag) : R2 := fun x y H Q => ∃ (a b : Addr) (w u : List Int), x = .ref a ∧ y = .ref b ∧ Wd K H a w ∧ Wd K H b u ∧ Q (.bl (decide (w = u))) H
theorem op_eqW {X : Cx} {j : Nat} (hr : Room j X.A) : OpR X (compareOp .Eq) (rEqW X.K) := fun pins s σ H x y v u Q I rx ry h => by
  obtain ⟨a, b, w, z, ex, ey, oa, ob', k⟩ := h
  subst ex ey
  refine op_eqD (by have := hr.un; omega) pins s σ H _ _ v u Q I rx ry ⟨.tuple (w.map .int), .tuple (z.map .int), .tup (ob_tup oa) (dpAll_ints w), .tup (ob_tup ob') (dpAll_ints z), shaped_intsT w, shaped_intsT z, ?_⟩
  rw [show PyData.eqv (.tuple (w.map .int)) (.tuple (z.map .int)) = PyData.eqvAll (w.map PyData.int) (z.map PyData.int) from rfl, eqv_ints]
  exact k
/-- sum of a word -/
def rSumT (K : PySem.W.Frag) : List V → Hp → VK → Prop := fun vs H Q => ∃ (a : Addr) (ns : List Int), vs = [V.ref a] ∧ SqT K H a (ns.map V.int) ∧ Q (.int ns.sum) H
theorem cr_sumT {X : Cx} (hc : X.calm = true) : CallR X (.builtin "sum") (rSumT X.K) := by
  intro pins s σ H vs us Q I r h
  obtain ⟨a, ns, rfl, hs, q⟩ := h
  obtain ⟨its, rv, hl, _⟩ := I.tuple hs
  rw [Vals.ref1 r]
  obtain ⟨xs, e⟩ := rv.ints.allInts.items
  have hn : numsOf (intItems xs).toList = ns := by rw [← e]; exact rv.ints.numsOf
  rw [nums_intItems] at hn
  rw [e] at hl
  refine PySem.W.ktm_sumG (I.ok.hd hc) hl fun h' tk t' hk => ?_
  rw [preSum_eq, List.take_of_length_le (by simp), hn]
  exact ⟨.int _, H, I.kept hk, ⟨_, rfl⟩, q⟩
end
section
variable {P : Program} {w : World} {K : PySem.W.Frag} {mg : Str → Option Value} {base : Heap}
end
end My

namespace My
open PySem PySem.Spec PyProof.Rows L2
section
variable {P : Program} {w : World} {K : PySem.W.Frag} {mg : Str → Option Value} {base : Heap}
def spIsW (lo hi : Int) (K : PySem.W.Frag) : Sp := fun vs H Q _ => ∃ v, vs = [v] ∧ Wh K H v ∧ Q (.bl (inB lo hi v)) H
/-- a value that is judged as a word -/
def WdJ (K : PySem.W.Frag) (H : Hp) (v : V) (b : Bool) : Prop := (∃ f, Kd K H v f ∧ f "tuple" = false ∧ b = false) ∨ ∃ a xs, v = .ref a ∧ ob K H a = some (.tup xs) ∧ (((xs.length = 0 ∨ 100 < xs.length) ∧ xs.length ≤ 1000 ∧ b = false) ∨ (1 ≤ xs.length ∧ xs.length ≤ 100 ∧ (∀ x ∈ xs, Wh K H x) ∧ b = xs.all (inB 0 1)))
def spWord (K : PySem.W.Frag) : Sp := fun vs H Q _ => ∃ v b, vs = [v] ∧ WdJ K H v b ∧ ∀ H', Same H H' → Q (.bl b) H'
/-- items of a word -/
def Wv (w : List Int) : Prop := (∀ x ∈ w, x = 0 ∨ x = 1) ∧ 1 ≤ w.length ∧ w.length ≤ 100
theorem wd_judge {H : Hp} {a : Addr} {w : List Int} (h : Wd K H a w) (wv : Wv w) : WdJ K H (.ref a) true := by
  refine .inr ⟨a, _, rfl, h, .inr ⟨by rw [List.length_map]; exact wv.2.1, by rw [List.length_map]; exact wv.2.2, fun x hx => ?_, ?_⟩⟩
  · obtain ⟨n, _, rfl⟩ := List.mem_map.mp hx
    exact Wh.int n
  · refine (List.all_eq_true.mpr fun x hx => ?_).symm
    obtain ⟨n, hn, rfl⟩ := List.mem_map.mp hx
    rcases wv.1 n hn with rfl | rfl <;> rfl
/-- the least turn of a word -/
def etO (w : List Int) : Option Nat := (List.range w.length).find? fun t => lw w.sum w.length t w.length == w
def etV (w : List Int) : V := match etO w with
  | some t => .int t
  | none => .non
def spEt (K : PySem.W.Frag) : Sp := fun vs H Q _ => ∃ a w, vs = [.ref a] ∧ Wd K H a w ∧ Wv w ∧ ∀ H', Same H H' → Q (etV w) H'
theorem sum_wv : ∀ {w : List Int}, (∀ x ∈ w, x = 0 ∨ x = 1) → 0 ≤ w.sum ∧ w.sum ≤ w.length
  | [], _ => ⟨by decide, by decide⟩
  | x :: w, h => by
    obtain ⟨h1, h2⟩ := sum_wv (w := w) fun y hy => h y (List.mem_cons_of_mem _ hy)
    rw [List.sum_cons, List.length_cons]
    rcases h x List.mem_cons_self with rfl | rfl <;> omega
theorem find_range_none {p : Nat → Bool} {n : Nat} (h : ∀ i, i < n → p i = false) : (List.range n).find? p = none := List.find?_eq_none.mpr fun i hi => by
  rw [h i (List.mem_range.mp hi)]
  decide
theorem find_range_some {p : Nat → Bool} {n i : Nat} (hi : i < n) (hp : p i = true) (h : ∀ j, j < i → p j = false) : (List.range n).find? p = some i := by
  refine List.find?_range_eq_some.mpr ⟨hp, List.mem_range.mpr hi, fun j hj => ?_⟩
  rw [h j hj]
  rfl
abbrev sLongs : Stmt := topS 38
theorem scLongs : FnScope ["value"] ["value"] (defScope sLongs) := ⟨rfl, rfl, rfl, by decide +kernel, rfl, by decide +kernel, by decide +kernel⟩
theorem k_Longs {tkW : Tok} (gLW : mg "LONGEST_WORD" = some (.int 100 tkW)) (T : Bt K mg) (D : Dfn K mg "_is_longs" sLongs ["value"]) (d_is_whole_within : Kn P w K mg base 2 "is_whole_within" ["value", "least", "most"] (spWithin K)) : Kn P w K mg base 3 "_is_longs" ["value"] (spIsW 0 100 K) := by
  refine Kn.mk' D scLongs (fun vs H Q E h => ?_) (fun f cdv A outer s H vs Q E hr h => ?_)
  · obtain ⟨v, rfl, _⟩ := h
    rfl
  obtain ⟨v, rfl, hv, k⟩ := h
  refine ⟨_, (pss_one (ps_ret (pe_kn d_is_whole_within hr (by rfl) (pa_cons (pv 0) (pa_cons pe_int (pa_cons (pe_glob (v := .int 100) (by rfl) gLW ⟨_, rfl⟩) pa_nil)))))), ?_⟩
  exact ⟨_, rfl, v, 0, 100, rfl, hv, k⟩
abbrev sLength : Stmt := topS 39
theorem scLength : FnScope ["value"] ["value"] (defScope sLength) := ⟨rfl, rfl, rfl, by decide +kernel, rfl, by decide +kernel, by decide +kernel⟩
theorem k_Length {tkW : Tok} (gLW : mg "LONGEST_WORD" = some (.int 100 tkW)) (T : Bt K mg) (D : Dfn K mg "_is_length" sLength ["value"]) (d_is_whole_within : Kn P w K mg base 2 "is_whole_within" ["value", "least", "most"] (spWithin K)) : Kn P w K mg base 3 "_is_length" ["value"] (spIsW 1 100 K) := by
  refine Kn.mk' D scLength (fun vs H Q E h => ?_) (fun f cdv A outer s H vs Q E hr h => ?_)
  · obtain ⟨v, rfl, _⟩ := h
    rfl
  obtain ⟨v, rfl, hv, k⟩ := h
  refine ⟨_, (pss_one (ps_ret (pe_kn d_is_whole_within hr (by rfl) (pa_cons (pv 0) (pa_cons pe_int (pa_cons (pe_glob (v := .int 100) (by rfl) gLW ⟨_, rfl⟩) pa_nil)))))), ?_⟩
  exact ⟨_, rfl, v, 1, 100, rfl, hv, k⟩
abbrev sWord : Stmt := topS 34
theorem scWord : FnScope ["value", "item"] ["value"] (defScope sWord) := ⟨rfl, rfl, rfl, by decide +kernel, rfl, by decide +kernel, by decide +kernel⟩
theorem blk_scWord_0 : BlkOk ["value", "item"] (defScope sWord) { kind := .function, names := [(".0", .local), ("item", .local), ("is_whole_within", .globalImplicit)], isGenerator := false, isCoroutine := false, more := [] } [("item", 1)] := ⟨rfl, by decide +kernel, by decide +kernel, by decide +kernel, by decide +kernel⟩
theorem k_Word {tkW : Tok} (gLW : mg "LONGEST_WORD" = some (.int 100 tkW)) (zA : mg "all" = none) (T : Bt K mg) (D : Dfn K mg "is_word" sWord ["value"]) (d_is_whole_within : Kn P w K mg base 2 "is_whole_within" ["value", "least", "most"] (spWithin K)) : Kn P w K mg base 3 "is_word" ["value"] (spWord K) := by
  refine Kn.mk' D scWord (fun vs H Q E h => ?_) (fun f cdv A outer s H vs Q E hr h => ?_)
  · obtain ⟨v, b, rfl, _⟩ := h
    rfl
  obtain ⟨v, b, rfl, h, k⟩ := h
  refine ⟨_, (pss_cons (ps_if (PW.pt (pw_or (pt_not (pt_val (pe_callB call_isD (by rfl) T.b_isinstance (by decide +kernel) (pa_cons (pv 0) (pa_cons (pe_bltn (v := .ty "tuple") (by rfl) T.b_tuple (by decide +kernel) rfl) pa_nil))))) (pw_or1 (pt_not (pt_chain op_le op_le pe_int (pe_callB call_lenA (by rfl) T.b_len PySem.boot_len (pa_cons (pv 0) pa_nil)) (pe_glob (v := .int 100) (by rfl) gLW ⟨_, rfl⟩)))))) (pss_one (ps_ret pe_bl)) pss_nil)
      (pss_one (ps_ret (pe_callB (cr_all rfl) (by rfl) zA (by decide +kernel) (pa_cons (pe_fr (pe_lc (own := [("item", 1)]) (g := gName 1) (te := (tCall (spWithin K) [] E0 (tCons (tVar 1) (tCons (tC (.int 0)) (tCons (tC (.int 1)) L2.tNil))))) rfl scWord.nd (pi_tup (pv 0)) blk_scWord_0 (fun _ _ _ _ _ => by exact pg_name (i := 1) scWord.nd rfl (.inl rfl)) (fun _ _ _ _ _ => pts_nil) (fun _ _ _ _ _ => by exact (pe_kn d_is_whole_within hr (by rfl) (pa_cons (pv 1) (pa_cons pe_int (pa_cons pe_int pa_nil))))))) pa_nil))))), ?_⟩
  rcases h with ⟨f, hf, ft, rfl⟩ | ⟨a, xs, rfl, o, h⟩
  · refine ⟨_, rfl, v, "tuple", rfl, by decide, f, hf, _, rfl, ?_⟩
    rw [ft]
    exact if_yes rfl (k H (Same.refl H))
  · have ty : tyN K H (.ref a) = some "tuple" := by rw [tyN_ref, o]; rfl
    refine ⟨_, rfl, .ref a, "tuple", rfl, by decide, _, Kd.ty ty, _, rfl, if_no rfl ?_⟩
    have oi := itsO_of o
    simp only [tChain, oi, cx_K, decide_true, decide_false, reduceCtorEq, gTp, gCons, gNil, ca_0, ca_1, ca_2, ca_3, ca_4, ca_5, ca_6, ca_7, ca_8, ca_9, ca_10, ca_11, ca_12, ca_13, ca_14, ca_15, ca_16, ca_17, ca_18, ca_19, ca_20, ca_21, ca_22, ca_23, ca_24, ca_25, ca_26, ca_27, ca_28, ca_29, ca_30, not_true_eq_false, not_false_eq_true, Int.reduceEq, Nat.reduceEqDiff, Nat.reduceLeDiff, rGcd, V.ty.injEq, eq_self, List.not_mem_nil, beq_self_eq_true, HO.lst.injEq, HO.tup.injEq, tFor_eq, iRng1, iList, iTup, nat10, tSeq, rIxA, rSetA, rIsN, rIsT, tTp, tLs, itsO_tup, itsO_lst, tyO_tup, tyO_lst, tyO_dK, tyN_non, tyN_bl, tyN_int, tyN_str, tyN_ref, tyNs_lt, isB, upd_same, upd_upd, sizeLine_eq, List.mem_cons, String.reduceBEq, String.reduceEq, Bool.or_false, Bool.or_true, Bool.and_false, Bool.false_or, Bool.and_self, Bool.false_and, Bool.not_false, Bool.not_true, List.any_cons, List.any_nil, atI_0, setI_0, atI_1, setI_1, atI_2, setI_2, atI_3, setI_3, atI_4, setI_4, atI_5, setI_5, atI_6, setI_6, tAsg, gName, tOp, tUn, tVar, tC, tCons, L2.tNil, tRet, tIfS, tTest, tCB, tCall, rI, rI0, rU, tNext, tB, tAnd, tOr, tNot, tAndV, tOrV, tNotV, tDrop, tIf, tPar, gSub, rIxL, rIxT, rEq, rNe, rSetL, tBits,
    L2.start, List.map_cons, List.map_nil, List.cons_append, List.nil_append, List.append_nil, List.length_cons, List.length_nil, List.replicate, Nat.reduceAdd, Nat.reduceSub, Nat.zero_add, List.getElem?_cons_zero, List.getElem?_cons_succ, List.set_cons_zero, List.set_cons_succ,
    Option.some.injEq, exists_eq_left', exists_eq_left, V.int.injEq, V.bl.injEq, V.ref.injEq, V.str.injEq, List.cons.injEq, reduceCtorEq, and_true, true_and, false_and, and_false, exists_false, or_false, false_or, or_true, true_or, exists_const, CMul, CDiv, CPow, and_assoc, exists_and_left, exists_and_right, Int.reducePow, Int.reduceNeg, Int.reduceLT, Int.reduceLE, Nat.reducePow, Nat.reduceLT, Int.reduceToNat, gt_iff_lt, ge_iff_le, decide_eq_true_eq, Bool.not_eq_true', decide_eq_false_iff_not, scal, ↓reduceIte, Bool.false_eq_true]
    rcases h with ⟨hl, _, rfl⟩ | ⟨h1, h2, hx, rfl⟩
    · by_cases c : (1 : Int) ≤ xs.length
      · rw [if_pos c, if_pos (by omega)]
        exact k H (Same.refl H)
      · rw [if_neg c]
        exact k H (Same.refl H)
    · rw [if_pos (by omega), if_neg (by omega)]
      refine ⟨_, rfl, a, rfl, ⟨xs, ob_tup o⟩, fun D hD => lc_tup (xs := xs) (fun i H' => H' D = some (.lst (((xs.take i).map (inB 0 1)).map V.bl)) ∧ Same H H') ⟨upd_same, Same.new hD _⟩ (fun i H' _ h => ob_tup (ob_same h.2 o)) ?_ ?_⟩
      · rintro i x H' hi ⟨e1, s1⟩
        refine ⟨rfl, ?_⟩
        simp only [tYes, if_true]
        have li := (List.getElem?_eq_some_iff.mp hi).1
        refine ⟨_, rfl, x, 0, 1, rfl, (hx x (List.mem_of_getElem? hi)).same s1, _, e1, by rw [List.length_map, List.length_map, List.length_take, sizeLine_eq]; omega, ?_, fun b o e => ?_⟩
        · rw [upd_same, List.take_succ, hi, List.map_append, List.map_append]
          rfl
        · rw [upd_ne (ne_of_none e hD)]
          exact s1 _ _ e
      · rintro H1 ⟨e1, s1⟩ fr
        rw [List.take_length] at e1
        refine ⟨D, xs.map (inB 0 1), rfl, .of e1, ?_⟩
        rw [List.all_map]
        exact k H1 s1

abbrev sEt : Stmt := topS 37
theorem scEt : FnScope ["word", "turn"] ["word"] (defScope sEt) := ⟨rfl, rfl, rfl, by decide +kernel, rfl, by decide +kernel, by decide +kernel⟩
theorem k_Et (zU : mg "sum" = none) (T : Bt K mg) (D : Dfn K mg "even_turn" sEt ["word"]) (d_require : Kn P w K mg base 1 "require" ["well_formed", "what"] spRequire) (d_is_word : Kn P w K mg base 3 "is_word" ["value"] (spWord K)) (d__leap_word : Kn P w K mg base 1 "_leap_word" ["longs", "length", "turn"] (spLeap K)) : Kn P w K mg base 4 "even_turn" ["word"] (spEt K) := by
  refine Kn.mk' D scEt (fun vs H Q E h => ?_) (fun f cdv A outer s H vs Q E hr h => ?_)
  · obtain ⟨a, w, rfl, _⟩ := h
    rfl
  obtain ⟨a, w, rfl, hw, wv, k⟩ := h
  refine ⟨_, (pss_cons (ps_expr (pe_kn d_require hr (by rfl) (pa_cons (pe_kn d_is_word hr (by rfl) (pa_cons (pv 0) pa_nil)) (pa_cons pe_str pa_nil))))
      (pss_cons (ps_for PassesOwn.never rfl (pi_range1 (by rfl) T.b_range (pa_cons (pe_callB call_lenA (by rfl) T.b_len PySem.boot_len (pa_cons (pv 0) pa_nil)) pa_nil)) (pg_name (i := 1) scEt.nd rfl (.inl rfl)) (pss_one (ps_if (pt_cmpR (op_eqW hr) (pe_kn d__leap_word hr (by rfl) (pa_cons (pe_callB (cr_sumT rfl) (by rfl) zU (by decide +kernel) (pa_cons (pv 0) pa_nil)) (pa_cons (pe_callB call_lenA (by rfl) T.b_len PySem.boot_len (pa_cons (pv 0) pa_nil)) (pa_cons (pv 1) pa_nil)))) (pv 0) (nomark _)) (pss_one (ps_ret (pv 1))) pss_nil)))
      (pss_one (ps_ret pe_non)))), ?_⟩
  have hl := wv.2.1
  have hl2 := wv.2.2
  obtain ⟨s0, s1'⟩ := sum_wv wv.1
  refine ⟨_, rfl, .ref a, true, rfl, wd_judge hw wv, fun H1 s1 => ⟨_, rfl, ?_⟩⟩
  have hw1 := hw.same s1
  refine ⟨_, rfl, a, rfl, _, itsO_of hw1, _, rfl, by rw [List.length_map]; omega, by rw [List.length_map]; omega, ?_⟩
  have ll : ((w.map V.int).length : Int) = w.length := by rw [List.length_map]
  rw [ll]
  refine forI_range (lo := 0) (n := (w.length : Int).toNat) (fun i σ H' => ∃ x1, σ = [some (V.ref a), x1] ∧ Same H1 H' ∧ ∀ j : Nat, j < i → lw w.sum w.length j w.length ≠ w) ⟨none, rfl, Same.refl _, fun j h => absurd h (Nat.not_lt_zero _)⟩ ?_ ?_
  · rintro i σ H' hi ⟨x1, rfl, s2, no⟩
    have hw2 := hw1.same s2
    have il : i < w.length := by omega
    refine ⟨_, rfl, a, w, rfl, ob_tup hw2, _, rfl, a, rfl, _, itsO_of hw2, _, rfl, w.sum, _, _, rfl, s0, by omega, by rw [ll]; omega, by rw [ll]; omega, by omega, by omega, fun b H3 s3 _ hb => ⟨_, rfl, b, a, _, w, rfl, rfl, hb, hw2.same s3, _, rfl, ite2 (fun he => ?_) (fun he => ?_)⟩⟩
    · have he := of_decide_eq_true he
      rw [ll, Int.zero_add] at he
      have ev : etV w = .int (0 + (i : Int)) := by
        unfold etV etO
        rw [find_range_some (i := i) il (by simpa using he) fun j hj => by simpa using no j hj, Int.zero_add]
      refine ⟨_, rfl, ?_⟩
      rw [← ev]
      exact k H3 (s1.trans (s2.trans s3))
    · have he : lw w.sum w.length i w.length ≠ w := by simpa using he
      refine ⟨_, rfl, s2.trans s3, fun j hj => ?_⟩
      rcases Nat.eq_or_lt_of_le (show j ≤ i by omega) with e | e
      · rw [e]
        exact he
      · exact no j e
  · rintro σ H' ⟨x1, rfl, s2, no⟩
    have ev : etV w = .non := by
      unfold etV etO
      rw [find_range_none fun j hj => by simpa using no j (by omega)]
    show Q .non H'
    rw [← ev]
    exact k H' (s1.trans s2)

end
end My

namespace My
open PySem PySem.Spec PyProof.Rows L2
/-! ### calls by keyword and without it -/
def kw3 {α : Type} (us ws : List α) : List α := match us, ws with
  | [u, v], [w] => [u, v, w]
  | _, _ => []
theorem kw3_rel {vs : List V} {us : List Value} {zs : List V} {ws : List Value} (h : Vals vs us) (g : Vals zs ws) : Vals (kw3 vs zs) (kw3 us ws) := by
  cases h with
  | nil => exact .nil
  | cons a b =>
    cases b with
    | nil => exact .nil
    | cons a2 b2 =>
      cases b2 with
      | nil =>
        cases g with
        | nil => exact .nil
        | cons c d =>
          cases d with
          | nil => exact .cons a (.cons a2 (.cons c .nil))
          | cons _ _ => exact .nil
      | cons _ _ => exact .nil
theorem kb3 {K : PySem.W.Frag} {fd : FuncData} {x y z : Str} (h : ∀ (s : Shared) (u v w : Value), BindsTo s fd ⟨[u, v], [(z, w)]⟩ [(x, u), (y, v), (z, w)]) : KBinds K fd [x, y, z] [z] kw3 kw3 where
  to := fun s us ws _ hl => by
    match us, ws, hl with
    | [u, v], [w], _ => exact h s u v w
    | [], _, hl => cases hl
    | [u], _, hl => cases hl
    | [u, v], [], hl => cases hl
    | [u, v], _ :: _ :: _, hl => cases hl
    | _ :: _ :: _ :: _, _, hl => cases hl
  rel := fun h g => kw3_rel h g
structure KnK3 (P : Program) (w : World) (K : PySem.W.Frag) (mg : Str → Option Value) (base : Heap) (k : Nat) (x : Str) (ps ks : List Str) (sp : Sp) : Prop where
  ex : ∃ f fd, mg x = some (.ref f) ∧ PySem.W.keepIn K (.ref f) = true ∧ KBinds K fd ps ks kw3 kw3 ∧ FnOk P w K mg base CX0 k f fd ps sp
structure Kn1 (P : Program) (w : World) (K : PySem.W.Frag) (mg : Str → Option Value) (base : Heap) (k : Nat) (x : Str) (ps : List Str) (sp : Sp) (dv : V) : Prop where
  ex : ∃ f fd ds, mg x = some (.ref f) ∧ PySem.W.keepIn K (.ref f) = true ∧ Vals [dv] ds ∧ Binds K fd ps ds ∧ FnOk P w K mg base CX0 k f fd ps sp
section
variable {X : Cx}
theorem pe_knK3 {j k : Nat} {x : Str} {ps ks : List Str} {sp : Sp} {p pos : Pos} {e : Expr} {es : List Expr} {kws : List Keyword} {t tk : TA} (F : KnK3 X.prog X.w X.K X.mg X.base k x ps ks sp) (hr : Room j X.A) (hg : Gl X x) (ha : PA X (e :: es) t) (hkw : PK X kws tk) (hj : k ≤ j := by omega)
    (hall : (backToKw pos (keywordEach kws X.env)).all (·.1.isSome) = true := by rfl) (hks : (backToKw pos (keywordEach kws X.env)).filterMap (·.1) = ks := by rfl)
    (hdb : (x == ("__debug__" : Str)) = false := by decide) (he : starEach (e :: es) X.env = (false, eval e X.env) :: starEach es X.env := by rfl)
    (hpl : ((backTo pos (starEach (e :: es) X.env)).any (·.1) || (backToKw pos (keywordEach kws X.env)).any (·.1.isNone)) = false := by rfl) :
    PE X (.Call (.Name x p) (e :: es) kws pos) (tCallK sp kw3 E0 t tk) := by
  obtain ⟨f, fd, m, kp, b, G⟩ := F.ex
  exact pe_callK G (hr.mono hj) hg m kp b pass0 ha hkw hall hks hdb he hpl
theorem pe_kn1 {j k : Nat} {x : Str} {ps : List Str} {sp : Sp} {dv : V} {p pos : Pos} {e : Expr} {es : List Expr} {t : TA} (F : Kn1 X.prog X.w X.K X.mg X.base k x ps sp dv) (hr : Room j X.A) (hg : Gl X x) (ha : PA X (e :: es) t) (hj : k ≤ j := by omega)
    (hdb : (x == ("__debug__" : Str)) = false := by decide) (he : starEach (e :: es) X.env = (false, eval e X.env) :: starEach es X.env := by rfl) (hpl : (backTo pos (starEach es X.env)).any (·.1) = false := by rfl) :
    PE X (.Call (.Name x p) (e :: es) [] pos) (tCall sp [dv] E0 t) := by
  obtain ⟨f, fd, ds, m, kp, v, b, G⟩ := F.ex
  exact pe_call G (hr.mono hj) hg m kp b v pass0 ha hdb he hpl
end
/-- a def whose last parameter may be given by keyword or left away -/
structure LwK (P : Program) (w : World) (K : PySem.W.Frag) (mg : Str → Option Value) (base : Heap) (k : Nat) (x : Str) (ps ks : List Str) (sp : Sp) (dv : V) : Prop where
  ex : ∃ f fd ds, mg x = some (.ref f) ∧ PySem.W.keepIn K (.ref f) = true ∧ KBinds K fd ps ks kw3 kw3 ∧ Vals [dv] ds ∧ Binds K fd ps ds ∧ FnOk P w K mg base CX0 k f fd ps sp
theorem LwK.k3 {P : Program} {w : World} {K : PySem.W.Frag} {mg : Str → Option Value} {base : Heap} {k : Nat} {x : Str} {ps ks : List Str} {sp : Sp} {dv : V} (h : LwK P w K mg base k x ps ks sp dv) : KnK3 P w K mg base k x ps ks sp := by
  obtain ⟨f, fd, ds, a, b, c, d, e, F⟩ := h.ex
  exact ⟨f, fd, a, b, c, F⟩
theorem LwK.d1 {P : Program} {w : World} {K : PySem.W.Frag} {mg : Str → Option Value} {base : Heap} {k : Nat} {x : Str} {ps ks : List Str} {sp : Sp} {dv : V} (h : LwK P w K mg base k x ps ks sp dv) : Kn1 P w K mg base k x ps sp dv := by
  obtain ⟨f, fd, ds, a, b, c, d, e, F⟩ := h.ex
  exact ⟨f, fd, ds, a, b, d, e, F⟩
section
variable {P : Program} {w : World} {K : PySem.W.Frag} {mg : Str → Option Value} {base : Heap}
def spLW (K : PySem.W.Frag) : Sp := fun vs H Q _ => ∃ (h n t : Int), vs = [.int h, .int n, .int t] ∧ 0 ≤ h ∧ h ≤ n ∧ 1 ≤ n ∧ n ≤ 100 ∧ 0 ≤ t ∧ t < n ∧ ∀ a H', Same H H' → H a = none → Wd K H' a (lw h n t n.toNat) → Q (.ref a) H'
def spIE (K : PySem.W.Frag) : Sp := fun vs H Q _ => ∃ v, vs = [v] ∧ ((WdJ K H v false ∧ ∀ H', Same H H' → Q (.bl false) H') ∨ ∃ a w, v = .ref a ∧ Wd K H a w ∧ Wv w ∧ ∀ H', Same H H' → Q (.bl (etO w).isSome) H')
abbrev sLW : Stmt := topS 35
theorem scLW : FnScope ["longs", "length", "turn"] ["longs", "length", "turn"] (defScope sLW) := ⟨rfl, rfl, rfl, by decide +kernel, rfl, by decide +kernel, by decide +kernel⟩
theorem ok_LW {f : Addr} {fd : FuncData} {dvs : List V} {kws : List (Str × V)} {tkW : Tok} (gLW : mg "LONGEST_WORD" = some (.int 100 tkW)) (T : Bt K mg) (F : FunD K "leap_word" "leap_word" (defArgs sLW) (defBody sLW) (defScope sLW) dvs kws f fd) (d_require : Kn P w K mg base 1 "require" ["well_formed", "what"] spRequire) (d__is_longs : Kn P w K mg base 3 "_is_longs" ["value"] (spIsW 0 100 K)) (d__is_length : Kn P w K mg base 3 "_is_length" ["value"] (spIsW 1 100 K)) (d_is_whole_within : Kn P w K mg base 2 "is_whole_within" ["value", "least", "most"] (spWithin K)) (d__leap_word : Kn P w K mg base 1 "_leap_word" ["longs", "length", "turn"] (spLeap K)) : FnOk P w K mg base CX0 4 f fd ["longs", "length", "turn"] (spLW K) := by
  refine F.ok scLW (fun vs H Q E h => ?_) (fun cdv A outer s H vs Q E hr h => ?_)
  · obtain ⟨h, n, t, rfl, _⟩ := h
    rfl
  obtain ⟨h, n, t, rfl, h0, h1, n1, n2, t0, t1, k⟩ := h
  refine ⟨_, (pss_cons (ps_expr (pe_kn d_require hr (by rfl) (pa_cons (pe_kn d__is_longs hr (by rfl) (pa_cons (pv 0) pa_nil)) (pa_cons pe_str pa_nil))))
      (pss_cons (ps_expr (pe_kn d_require hr (by rfl) (pa_cons (pe_kn d__is_length hr (by rfl) (pa_cons (pv 1) pa_nil)) (pa_cons pe_str pa_nil))))
      (pss_cons (ps_expr (pe_kn d_require hr (by rfl) (pa_cons (pe_kn d_is_whole_within hr (by rfl) (pa_cons (pv 2) (pa_cons pe_int (pa_cons (pe_op op_sub (pe_glob (v := .int 100) (by rfl) gLW ⟨_, rfl⟩) pe_int) pa_nil)))) (pa_cons pe_str pa_nil))))
      (pss_cons (ps_if (PW.pt (pw_or (pt_cmpR op_gt (pv 0) (pv 1) (nomark _)) (pw_or1 (pt_cmpR op_ge (pv 2) (pv 1) (nomark _))))) (pss_one ps_never) pss_nil)
      (pss_one (ps_ret (pe_kn d__leap_word hr (by rfl) (pa_cons (pv 0) (pa_cons (pv 1) (pa_cons (pv 2) pa_nil)))))))))), ?_⟩
  have y1 : inB 0 100 (.int h) = true := by show (decide _ && decide _) = true; rw [decide_eq_true (by omega), decide_eq_true (by omega)]; rfl
  have y2 : inB 1 100 (.int n) = true := by show (decide _ && decide _) = true; rw [decide_eq_true (by omega), decide_eq_true (by omega)]; rfl
  have y3 : inB 0 99 (.int t) = true := by show (decide _ && decide _) = true; rw [decide_eq_true (by omega), decide_eq_true (by omega)]; rfl
  refine ⟨_, rfl, .int h, rfl, Wh.int h, ?_⟩
  rw [y1]
  refine ⟨_, rfl, ?_⟩
  refine ⟨_, rfl, .int n, rfl, Wh.int n, ?_⟩
  rw [y2]
  refine ⟨_, rfl, ?_⟩
  refine ⟨_, rfl, _, _, rfl, rfl, .int t, 0, 99, rfl, Wh.int t, ?_⟩
  rw [y3]
  refine ⟨_, rfl, ?_⟩
  refine ⟨_, rfl, _, rfl, _, _, rfl, rfl, _, rfl, if_no (decide_eq_false (by omega)) ?_⟩
  refine ⟨_, rfl, _, rfl, _, _, rfl, rfl, _, rfl, if_no (decide_eq_false (by omega)) ?_⟩
  exact ⟨_, rfl, _, rfl, _, rfl, h, n, t, rfl, h0, by omega, n1, by omega, t0, by omega, fun a H' s f w => k a H' s f w⟩

abbrev sIE : Stmt := topS 36
theorem scIE : FnScope ["word"] ["word"] (defScope sIE) := ⟨rfl, rfl, rfl, by decide +kernel, rfl, by decide +kernel, by decide +kernel⟩
theorem k_IE (T : Bt K mg) (D : Dfn K mg "is_even_word" sIE ["word"]) (d_is_word : Kn P w K mg base 3 "is_word" ["value"] (spWord K)) (d_even_turn : Kn P w K mg base 4 "even_turn" ["word"] (spEt K)) : Kn P w K mg base 5 "is_even_word" ["word"] (spIE K) := by
  refine Kn.mk' D scIE (fun vs H Q E h => ?_) (fun f cdv A outer s H vs Q E hr h => ?_)
  · obtain ⟨v, rfl, _⟩ := h
    rfl
  obtain ⟨v, rfl, h⟩ := h
  refine ⟨_, (pss_one (ps_ret (pe_and (pe_kn d_is_word hr (by rfl) (pa_cons (pv 0) pa_nil)) (pe_one (pe_cmpR op_notN (pe_kn d_even_turn hr (by rfl) (pa_cons (pv 0) pa_nil)) pe_non (nomark _)))))), ?_⟩
  rcases h with ⟨hb, k⟩ | ⟨a, w, rfl, hw, wv, k⟩
  · exact ⟨_, rfl, v, false, rfl, hb, fun H1 s1 => ⟨_, rfl, if_no rfl (k H1 s1)⟩⟩
  · refine ⟨_, rfl, .ref a, true, rfl, wd_judge hw wv, fun H1 s1 => ⟨_, rfl, if_yes rfl ?_⟩⟩
    refine ⟨_, rfl, a, w, rfl, hw.same s1, wv, fun H2 s2 => ⟨rfl, ?_⟩⟩
    have e : (!decide (etV w = .non)) = (etO w).isSome := by
      unfold etV
      cases etO w <;> rfl
    rw [e]
    exact k H2 (s1.trans s2)

end
end My

namespace My
open PySem PySem.Spec PyProof.Rows L2
section
variable {P : Program} {w : World} {K : PySem.W.Frag} {mg : Str → Option Value} {base : Heap}
/-- the same data without booleans, n levels deep at most -/
def sc3 : V → Bool
  | .non => true
  | .int _ => true
  | .str _ => true
  | _ => false
def Eqa (K : PySem.W.Frag) (H : Hp) : Nat → V → V → Prop
  | 0, x, y => x = y ∧ sc3 x = true
  | n + 1, x, y => (x = y ∧ sc3 x = true) ∨ ∃ (a b : Addr) (xs ys : List V), x = .ref a ∧ y = .ref b ∧ ((ob K H a = some (.tup xs) ∧ ob K H b = some (.tup ys)) ∨ (ob K H a = some (.lst xs) ∧ ob K H b = some (.lst ys))) ∧ xs.length = ys.length ∧ ys.length ≤ 1000 ∧
      ∀ (i : Nat) x y, xs[i]? = some x → ys[i]? = some y → Eqa K H n x y
theorem Eqa.same {H H' : Hp} (e : Same H H') : ∀ {n : Nat} {x y : V}, Eqa K H n x y → Eqa K H' n x y
  | 0, _, _, h => h
  | n + 1, x, y, .inl h => .inl h
  | n + 1, x, y, .inr ⟨a, b, xs, ys, h1, h2, h3, h4, h5, h6⟩ =>
    .inr ⟨a, b, xs, ys, h1, h2, h3.imp (fun z => ⟨ob_same e z.1, ob_same e z.2⟩) (fun z => ⟨ob_same e z.1, ob_same e z.2⟩), h4, h5, fun i x y hx hy => (h6 i x y hx hy).same e⟩
theorem Eqa.up {H : Hp} : ∀ {n : Nat} {x y : V}, Eqa K H n x y → Eqa K H (n + 1) x y
  | 0, _, _, h => .inl h
  | n + 1, x, y, .inl h => .inl h
  | n + 1, x, y, .inr ⟨a, b, xs, ys, h1, h2, h3, h4, h5, h6⟩ => .inr ⟨a, b, xs, ys, h1, h2, h3, h4, h5, fun i x y hx hy => (h6 i x y hx hy).up⟩
def spAlike (K : PySem.W.Frag) : Nat → Sp
  | 0 => fun _ _ _ _ => False
  | n + 1 => fun vs H Q _ => ∃ x y, vs = [x, y] ∧ Eqa K H n x y ∧ ∀ H', Same H H' → Q (.bl true) H'
theorem Eqa.split {H : Hp} {n : Nat} {x y : V} (h : Eqa K H n x y) : (x = y ∧ sc3 x = true) ∨ ∃ m, n = m + 1 ∧ ∃ (a b : Addr) (xs ys : List V), x = .ref a ∧ y = .ref b ∧ ((ob K H a = some (.tup xs) ∧ ob K H b = some (.tup ys)) ∨ (ob K H a = some (.lst xs) ∧ ob K H b = some (.lst ys))) ∧ xs.length = ys.length ∧ ys.length ≤ 1000 ∧
    ∀ (i : Nat) x y, xs[i]? = some x → ys[i]? = some y → Eqa K H m x y := by
  cases n with
  | zero => exact .inl h
  | succ m =>
    rcases h with h | h
    · exact .inl h
    · exact .inr ⟨m, rfl, h⟩
abbrev sAlike : Stmt := topS 52
theorem scAlike : FnScope ["_law_told", "_law_due", "_law_k"] ["_law_told", "_law_due"] (defScope sAlike) := ⟨rfl, rfl, rfl, by decide +kernel, rfl, by decide +kernel, by decide +kernel⟩
theorem k_Alike (n : Nat) (T : Bt K mg) (D : Dfn K mg "_law_alike" sAlike ["_law_told", "_law_due"]) (d__law_is_whole : Kn P w K mg base 1 "_law_is_whole" ["_law_told"] (spWhole K)) (d__law_alike : Kn P w K mg base (n + 1) "_law_alike" ["_law_told", "_law_due"] (spAlike K n)) : Kn P w K mg base (n + 2) "_law_alike" ["_law_told", "_law_due"] (spAlike K (n + 1)) := by
  refine Kn.mk' D scAlike (fun vs H Q E h => ?_) (fun f cdv A outer s H vs Q E hr h => ?_)
  · obtain ⟨x, y, rfl, _⟩ := h
    rfl
  obtain ⟨x, y, rfl, he, k⟩ := h
  refine ⟨_, (pss_cons (ps_if (pt_val (pe_callB call_isT (by rfl) T.b_isinstance (by decide +kernel) (pa_cons (pv 1) (pa_cons (pe_tp (pa_cons (pe_bltn (v := .ty "list") (by rfl) T.b_list (by decide +kernel) rfl) (pa_cons (pe_bltn (v := .ty "tuple") (by rfl) T.b_tuple (by decide +kernel) rfl) pa_nil))) pa_nil)))) (pss_cons (ps_if (PW.pt (pw_or (pt_cmpR op_ne (pe_callB call_isN (by rfl) T.b_isinstance (by decide +kernel) (pa_cons (pv 0) (pa_cons (pe_bltn (v := .ty "list") (by rfl) T.b_list (by decide +kernel) rfl) pa_nil))) (pe_callB call_isN (by rfl) T.b_isinstance (by decide +kernel) (pa_cons (pv 1) (pa_cons (pe_bltn (v := .ty "list") (by rfl) T.b_list (by decide +kernel) rfl) pa_nil))) (nomark _)) (pw_or1 (pt_cmpR op_ne (pe_callB call_isN (by rfl) T.b_isinstance (by decide +kernel) (pa_cons (pv 0) (pa_cons (pe_bltn (v := .ty "tuple") (by rfl) T.b_tuple (by decide +kernel) rfl) pa_nil))) (pe_callB call_isN (by rfl) T.b_isinstance (by decide +kernel) (pa_cons (pv 1) (pa_cons (pe_bltn (v := .ty "tuple") (by rfl) T.b_tuple (by decide +kernel) rfl) pa_nil))) (nomark _))))) (pss_one (ps_ret pe_bl)) pss_nil)
      (pss_cons (ps_if (pt_cmpR op_ne (pe_callB call_lenA (by rfl) T.b_len PySem.boot_len (pa_cons (pv 0) pa_nil)) (pe_callB call_lenA (by rfl) T.b_len PySem.boot_len (pa_cons (pv 1) pa_nil)) (nomark _)) (pss_one (ps_ret pe_bl)) pss_nil)
      (pss_cons (ps_for PassesOwn.never rfl (pi_range1 (by rfl) T.b_range (pa_cons (pe_callB call_lenA (by rfl) T.b_len PySem.boot_len (pa_cons (pv 1) pa_nil)) pa_nil)) (pg_name (i := 2) scAlike.nd rfl (.inl rfl)) (pss_one (ps_if (pt_not (pt_val (pe_kn d__law_alike hr (by rfl) (pa_cons (pe_ix ix_any (pv 0) (pv 2) (fun _ _ => rfl)) (pa_cons (pe_ix ix_any (pv 1) (pv 2) (fun _ _ => rfl)) pa_nil))))) (pss_one (ps_ret pe_bl)) pss_nil)))
      (pss_one (ps_ret pe_bl))))) pss_nil)
      (pss_cons (ps_if (PW.pt (pw_or (pt_cmpR op_isN (pv 1) pe_non (nomark _)) (pw_or1 (pt_cmpR op_isN (pv 0) pe_non (nomark _))))) (pss_one (ps_ret (pe_and (pe_cmpR op_isN (pv 1) pe_non (nomark _)) (pe_one (pe_cmpR op_isN (pv 0) pe_non (nomark _)))))) pss_nil)
      (pss_cons (ps_if (pt_val (pe_callB call_isN (by rfl) T.b_isinstance (by decide +kernel) (pa_cons (pv 1) (pa_cons (pe_bltn (v := .ty "str") (by rfl) T.b_str (by decide +kernel) rfl) pa_nil)))) (pss_one (ps_ret (pe_and (pe_callB call_isN (by rfl) T.b_isinstance (by decide +kernel) (pa_cons (pv 0) (pa_cons (pe_bltn (v := .ty "str") (by rfl) T.b_str (by decide +kernel) rfl) pa_nil))) (pe_one (pe_cmpR op_eq (pv 0) (pv 1) (nomark _)))))) pss_nil)
      (pss_one (ps_ret (pe_and (pe_kn d__law_is_whole hr (by rfl) (pa_cons (pv 0) pa_nil)) (pe_one (pe_cmpR op_eq (pv 0) (pv 1) (nomark _))))))))), ?_⟩
  rcases he.split with ⟨rfl, hsc⟩ | ⟨m, rfl, a, b, xs, ys, rfl, rfl, ho, hl, h1000, hi⟩
  · cases x with
    | non =>
      simp only [cx_K, decide_true, decide_false, reduceCtorEq, gTp, gCons, gNil, ca_0, ca_1, ca_2, ca_3, ca_4, ca_5, ca_6, ca_7, ca_8, ca_9, ca_10, ca_11, ca_12, ca_13, ca_14, ca_15, ca_16, ca_17, ca_18, ca_19, ca_20, ca_21, ca_22, ca_23, ca_24, ca_25, ca_26, ca_27, ca_28, ca_29, ca_30, not_true_eq_false, not_false_eq_true, Int.reduceEq, Nat.reduceEqDiff, Nat.reduceLeDiff, rGcd, V.ty.injEq, eq_self, List.not_mem_nil, beq_self_eq_true, HO.lst.injEq, HO.tup.injEq, tFor_eq, iRng1, iList, iTup, nat10, tSeq, rIxA, rSetA, rIsN, rIsT, tTp, tLs, itsO_tup, itsO_lst, tyO_tup, tyO_lst, tyO_dK, tyN_non, tyN_bl, tyN_int, tyN_str, tyN_ref, tyNs_lt, isB, upd_same, upd_upd, sizeLine_eq, List.mem_cons, String.reduceBEq, String.reduceEq, Bool.or_false, Bool.or_true, Bool.and_false, Bool.false_or, Bool.and_self, Bool.false_and, Bool.not_false, Bool.not_true, List.any_cons, List.any_nil, atI_0, setI_0, atI_1, setI_1, atI_2, setI_2, atI_3, setI_3, atI_4, setI_4, atI_5, setI_5, atI_6, setI_6, tAsg, gName, tOp, tUn, tVar, tC, tCons, L2.tNil, tRet, tIfS, tTest, tCB, tCall, rI, rI0, rU, tNext, tB, tAnd, tOr, tNot, tAndV, tOrV, tNotV, tDrop, tIf, tPar, gSub, rIxL, rIxT, rEq, rNe, rSetL, tBits,
    L2.start, List.map_cons, List.map_nil, List.cons_append, List.nil_append, List.append_nil, List.length_cons, List.length_nil, List.replicate, Nat.reduceAdd, Nat.reduceSub, Nat.zero_add, List.getElem?_cons_zero, List.getElem?_cons_succ, List.set_cons_zero, List.set_cons_succ,
    Option.some.injEq, exists_eq_left', exists_eq_left, V.int.injEq, V.bl.injEq, V.ref.injEq, V.str.injEq, List.cons.injEq, reduceCtorEq, and_true, true_and, false_and, and_false, exists_false, or_false, false_or, or_true, true_or, exists_const, CMul, CDiv, CPow, and_assoc, exists_and_left, exists_and_right, Int.reducePow, Int.reduceNeg, Int.reduceLT, Int.reduceLE, Nat.reducePow, Nat.reduceLT, Int.reduceToNat, gt_iff_lt, ge_iff_le, decide_eq_true_eq, Bool.not_eq_true', decide_eq_false_iff_not, scal, ↓reduceIte, Bool.false_eq_true]
      intro p hp kp
      exact k _ (Same.new hp _)
    | int i =>
      simp only [cx_K, decide_true, decide_false, reduceCtorEq, gTp, gCons, gNil, ca_0, ca_1, ca_2, ca_3, ca_4, ca_5, ca_6, ca_7, ca_8, ca_9, ca_10, ca_11, ca_12, ca_13, ca_14, ca_15, ca_16, ca_17, ca_18, ca_19, ca_20, ca_21, ca_22, ca_23, ca_24, ca_25, ca_26, ca_27, ca_28, ca_29, ca_30, not_true_eq_false, not_false_eq_true, Int.reduceEq, Nat.reduceEqDiff, Nat.reduceLeDiff, rGcd, V.ty.injEq, eq_self, List.not_mem_nil, beq_self_eq_true, HO.lst.injEq, HO.tup.injEq, tFor_eq, iRng1, iList, iTup, nat10, tSeq, rIxA, rSetA, rIsN, rIsT, tTp, tLs, itsO_tup, itsO_lst, tyO_tup, tyO_lst, tyO_dK, tyN_non, tyN_bl, tyN_int, tyN_str, tyN_ref, tyNs_lt, isB, upd_same, upd_upd, sizeLine_eq, List.mem_cons, String.reduceBEq, String.reduceEq, Bool.or_false, Bool.or_true, Bool.and_false, Bool.false_or, Bool.and_self, Bool.false_and, Bool.not_false, Bool.not_true, List.any_cons, List.any_nil, atI_0, setI_0, atI_1, setI_1, atI_2, setI_2, atI_3, setI_3, atI_4, setI_4, atI_5, setI_5, atI_6, setI_6, tAsg, gName, tOp, tUn, tVar, tC, tCons, L2.tNil, tRet, tIfS, tTest, tCB, tCall, rI, rI0, rU, tNext, tB, tAnd, tOr, tNot, tAndV, tOrV, tNotV, tDrop, tIf, tPar, gSub, rIxL, rIxT, rEq, rNe, rSetL, tBits,
    L2.start, List.map_cons, List.map_nil, List.cons_append, List.nil_append, List.append_nil, List.length_cons, List.length_nil, List.replicate, Nat.reduceAdd, Nat.reduceSub, Nat.zero_add, List.getElem?_cons_zero, List.getElem?_cons_succ, List.set_cons_zero, List.set_cons_succ,
    Option.some.injEq, exists_eq_left', exists_eq_left, V.int.injEq, V.bl.injEq, V.ref.injEq, V.str.injEq, List.cons.injEq, reduceCtorEq, and_true, true_and, false_and, and_false, exists_false, or_false, false_or, or_true, true_or, exists_const, CMul, CDiv, CPow, and_assoc, exists_and_left, exists_and_right, Int.reducePow, Int.reduceNeg, Int.reduceLT, Int.reduceLE, Nat.reducePow, Nat.reduceLT, Int.reduceToNat, gt_iff_lt, ge_iff_le, decide_eq_true_eq, Bool.not_eq_true', decide_eq_false_iff_not, scal, ↓reduceIte, Bool.false_eq_true]
      intro p hp kp
      have s1 := Same.new hp (.tup [V.ty "list", V.ty "tuple"])
      generalize upd H p (.tup [V.ty "list", V.ty "tuple"]) = H1 at s1 ⊢
      exact ⟨_, rfl, rfl, true, rfl, k H1 s1⟩
    | str z =>
      simp only [cx_K, decide_true, decide_false, reduceCtorEq, gTp, gCons, gNil, ca_0, ca_1, ca_2, ca_3, ca_4, ca_5, ca_6, ca_7, ca_8, ca_9, ca_10, ca_11, ca_12, ca_13, ca_14, ca_15, ca_16, ca_17, ca_18, ca_19, ca_20, ca_21, ca_22, ca_23, ca_24, ca_25, ca_26, ca_27, ca_28, ca_29, ca_30, not_true_eq_false, not_false_eq_true, Int.reduceEq, Nat.reduceEqDiff, Nat.reduceLeDiff, rGcd, V.ty.injEq, eq_self, List.not_mem_nil, beq_self_eq_true, HO.lst.injEq, HO.tup.injEq, tFor_eq, iRng1, iList, iTup, nat10, tSeq, rIxA, rSetA, rIsN, rIsT, tTp, tLs, itsO_tup, itsO_lst, tyO_tup, tyO_lst, tyO_dK, tyN_non, tyN_bl, tyN_int, tyN_str, tyN_ref, tyNs_lt, isB, upd_same, upd_upd, sizeLine_eq, List.mem_cons, String.reduceBEq, String.reduceEq, Bool.or_false, Bool.or_true, Bool.and_false, Bool.false_or, Bool.and_self, Bool.false_and, Bool.not_false, Bool.not_true, List.any_cons, List.any_nil, atI_0, setI_0, atI_1, setI_1, atI_2, setI_2, atI_3, setI_3, atI_4, setI_4, atI_5, setI_5, atI_6, setI_6, tAsg, gName, tOp, tUn, tVar, tC, tCons, L2.tNil, tRet, tIfS, tTest, tCB, tCall, rI, rI0, rU, tNext, tB, tAnd, tOr, tNot, tAndV, tOrV, tNotV, tDrop, tIf, tPar, gSub, rIxL, rIxT, rEq, rNe, rSetL, tBits,
    L2.start, List.map_cons, List.map_nil, List.cons_append, List.nil_append, List.append_nil, List.length_cons, List.length_nil, List.replicate, Nat.reduceAdd, Nat.reduceSub, Nat.zero_add, List.getElem?_cons_zero, List.getElem?_cons_succ, List.set_cons_zero, List.set_cons_succ,
    Option.some.injEq, exists_eq_left', exists_eq_left, V.int.injEq, V.bl.injEq, V.ref.injEq, V.str.injEq, List.cons.injEq, reduceCtorEq, and_true, true_and, false_and, and_false, exists_false, or_false, false_or, or_true, true_or, exists_const, CMul, CDiv, CPow, and_assoc, exists_and_left, exists_and_right, Int.reducePow, Int.reduceNeg, Int.reduceLT, Int.reduceLE, Nat.reducePow, Nat.reduceLT, Int.reduceToNat, gt_iff_lt, ge_iff_le, decide_eq_true_eq, Bool.not_eq_true', decide_eq_false_iff_not, scal, ↓reduceIte, Bool.false_eq_true]
      intro p hp kp
      exact k _ (Same.new hp _)
    | _ => cases hsc
  rcases ho with ⟨oa, oc⟩ | ⟨oa, oc⟩
  · simp only [oa, oc, cx_K, decide_true, decide_false, reduceCtorEq, gTp, gCons, gNil, ca_0, ca_1, ca_2, ca_3, ca_4, ca_5, ca_6, ca_7, ca_8, ca_9, ca_10, ca_11, ca_12, ca_13, ca_14, ca_15, ca_16, ca_17, ca_18, ca_19, ca_20, ca_21, ca_22, ca_23, ca_24, ca_25, ca_26, ca_27, ca_28, ca_29, ca_30, not_true_eq_false, not_false_eq_true, Int.reduceEq, Nat.reduceEqDiff, Nat.reduceLeDiff, rGcd, V.ty.injEq, eq_self, List.not_mem_nil, beq_self_eq_true, HO.lst.injEq, HO.tup.injEq, tFor_eq, iRng1, iList, iTup, nat10, tSeq, rIxA, rSetA, rIsN, rIsT, tTp, tLs, itsO_tup, itsO_lst, tyO_tup, tyO_lst, tyO_dK, tyN_non, tyN_bl, tyN_int, tyN_str, tyN_ref, tyNs_lt, isB, upd_same, upd_upd, sizeLine_eq, List.mem_cons, String.reduceBEq, String.reduceEq, Bool.or_false, Bool.or_true, Bool.and_false, Bool.false_or, Bool.and_self, Bool.false_and, Bool.not_false, Bool.not_true, List.any_cons, List.any_nil, atI_0, setI_0, atI_1, setI_1, atI_2, setI_2, atI_3, setI_3, atI_4, setI_4, atI_5, setI_5, atI_6, setI_6, tAsg, gName, tOp, tUn, tVar, tC, tCons, L2.tNil, tRet, tIfS, tTest, tCB, tCall, rI, rI0, rU, tNext, tB, tAnd, tOr, tNot, tAndV, tOrV, tNotV, tDrop, tIf, tPar, gSub, rIxL, rIxT, rEq, rNe, rSetL, tBits,
    L2.start, List.map_cons, List.map_nil, List.cons_append, List.nil_append, List.append_nil, List.length_cons, List.length_nil, List.replicate, Nat.reduceAdd, Nat.reduceSub, Nat.zero_add, List.getElem?_cons_zero, List.getElem?_cons_succ, List.set_cons_zero, List.set_cons_succ,
    Option.some.injEq, exists_eq_left', exists_eq_left, V.int.injEq, V.bl.injEq, V.ref.injEq, V.str.injEq, List.cons.injEq, reduceCtorEq, and_true, true_and, false_and, and_false, exists_false, or_false, false_or, or_true, true_or, exists_const, CMul, CDiv, CPow, and_assoc, exists_and_left, exists_and_right, Int.reducePow, Int.reduceNeg, Int.reduceLT, Int.reduceLE, Nat.reducePow, Nat.reduceLT, Int.reduceToNat, gt_iff_lt, ge_iff_le, decide_eq_true_eq, Bool.not_eq_true', decide_eq_false_iff_not, scal, ↓reduceIte, Bool.false_eq_true]
    intro p hp kp
    have s1 := Same.new hp (.tup [V.ty "list", V.ty "tuple"])
    generalize upd H p (.tup [V.ty "list", V.ty "tuple"]) = H1 at s1 ⊢
    have oa1 := ob_same s1 oa
    have oc1 := ob_same s1 oc
    simp only [oa1, oc1, cx_K, decide_true, decide_false, reduceCtorEq, gTp, gCons, gNil, ca_0, ca_1, ca_2, ca_3, ca_4, ca_5, ca_6, ca_7, ca_8, ca_9, ca_10, ca_11, ca_12, ca_13, ca_14, ca_15, ca_16, ca_17, ca_18, ca_19, ca_20, ca_21, ca_22, ca_23, ca_24, ca_25, ca_26, ca_27, ca_28, ca_29, ca_30, not_true_eq_false, not_false_eq_true, Int.reduceEq, Nat.reduceEqDiff, Nat.reduceLeDiff, rGcd, V.ty.injEq, eq_self, List.not_mem_nil, beq_self_eq_true, HO.lst.injEq, HO.tup.injEq, tFor_eq, iRng1, iList, iTup, nat10, tSeq, rIxA, rSetA, rIsN, rIsT, tTp, tLs, itsO_tup, itsO_lst, tyO_tup, tyO_lst, tyO_dK, tyN_non, tyN_bl, tyN_int, tyN_str, tyN_ref, tyNs_lt, isB, upd_same, upd_upd, sizeLine_eq, List.mem_cons, String.reduceBEq, String.reduceEq, Bool.or_false, Bool.or_true, Bool.and_false, Bool.false_or, Bool.and_self, Bool.false_and, Bool.not_false, Bool.not_true, List.any_cons, List.any_nil, atI_0, setI_0, atI_1, setI_1, atI_2, setI_2, atI_3, setI_3, atI_4, setI_4, atI_5, setI_5, atI_6, setI_6, tAsg, gName, tOp, tUn, tVar, tC, tCons, L2.tNil, tRet, tIfS, tTest, tCB, tCall, rI, rI0, rU, tNext, tB, tAnd, tOr, tNot, tAndV, tOrV, tNotV, tDrop, tIf, tPar, gSub, rIxL, rIxT, rEq, rNe, rSetL, tBits,
    L2.start, List.map_cons, List.map_nil, List.cons_append, List.nil_append, List.append_nil, List.length_cons, List.length_nil, List.replicate, Nat.reduceAdd, Nat.reduceSub, Nat.zero_add, List.getElem?_cons_zero, List.getElem?_cons_succ, List.set_cons_zero, List.set_cons_succ,
    Option.some.injEq, exists_eq_left', exists_eq_left, V.int.injEq, V.bl.injEq, V.ref.injEq, V.str.injEq, List.cons.injEq, reduceCtorEq, and_true, true_and, false_and, and_false, exists_false, or_false, false_or, or_true, true_or, exists_const, CMul, CDiv, CPow, and_assoc, exists_and_left, exists_and_right, Int.reducePow, Int.reduceNeg, Int.reduceLT, Int.reduceLE, Nat.reducePow, Nat.reduceLT, Int.reduceToNat, gt_iff_lt, ge_iff_le, decide_eq_true_eq, Bool.not_eq_true', decide_eq_false_iff_not, scal, ↓reduceIte, Bool.false_eq_true]
    rw [if_neg (show ¬ ¬ ((xs.length : Int) = (ys.length : Int)) by omega)]
    refine ⟨by omega, by omega, forI_range (SameI H a b) ⟨none, rfl, s1⟩ ?_ ?_⟩
    · rintro i σ H' hlt ⟨z, rfl, s2⟩
      have hx : i < xs.length := by omega
      have hy : i < ys.length := by omega
      have oa2 := ob_same s2 oa
      have oc2 := ob_same s2 oc
      have ex : atI xs (0 + (i : Int)) = some xs[i] := by rw [Int.zero_add]; exact atI_nat (List.getElem?_eq_getElem hx)
      have ey : atI ys (0 + (i : Int)) = some ys[i] := by rw [Int.zero_add]; exact atI_nat (List.getElem?_eq_getElem hy)
      simp only [oa2, oc2, ex, ey, cx_K, decide_true, decide_false, reduceCtorEq, gTp, gCons, gNil, ca_0, ca_1, ca_2, ca_3, ca_4, ca_5, ca_6, ca_7, ca_8, ca_9, ca_10, ca_11, ca_12, ca_13, ca_14, ca_15, ca_16, ca_17, ca_18, ca_19, ca_20, ca_21, ca_22, ca_23, ca_24, ca_25, ca_26, ca_27, ca_28, ca_29, ca_30, not_true_eq_false, not_false_eq_true, Int.reduceEq, Nat.reduceEqDiff, Nat.reduceLeDiff, rGcd, V.ty.injEq, eq_self, List.not_mem_nil, beq_self_eq_true, HO.lst.injEq, HO.tup.injEq, tFor_eq, iRng1, iList, iTup, nat10, tSeq, rIxA, rSetA, rIsN, rIsT, tTp, tLs, itsO_tup, itsO_lst, tyO_tup, tyO_lst, tyO_dK, tyN_non, tyN_bl, tyN_int, tyN_str, tyN_ref, tyNs_lt, isB, upd_same, upd_upd, sizeLine_eq, List.mem_cons, String.reduceBEq, String.reduceEq, Bool.or_false, Bool.or_true, Bool.and_false, Bool.false_or, Bool.and_self, Bool.false_and, Bool.not_false, Bool.not_true, List.any_cons, List.any_nil, atI_0, setI_0, atI_1, setI_1, atI_2, setI_2, atI_3, setI_3, atI_4, setI_4, atI_5, setI_5, atI_6, setI_6, tAsg, gName, tOp, tUn, tVar, tC, tCons, L2.tNil, tRet, tIfS, tTest, tCB, tCall, rI, rI0, rU, tNext, tB, tAnd, tOr, tNot, tAndV, tOrV, tNotV, tDrop, tIf, tPar, gSub, rIxL, rIxT, rEq, rNe, rSetL, tBits,
    L2.start, List.map_cons, List.map_nil, List.cons_append, List.nil_append, List.append_nil, List.length_cons, List.length_nil, List.replicate, Nat.reduceAdd, Nat.reduceSub, Nat.zero_add, List.getElem?_cons_zero, List.getElem?_cons_succ, List.set_cons_zero, List.set_cons_succ,
    Option.some.injEq, exists_eq_left', exists_eq_left, V.int.injEq, V.bl.injEq, V.ref.injEq, V.str.injEq, List.cons.injEq, reduceCtorEq, and_true, true_and, false_and, and_false, exists_false, or_false, false_or, or_true, true_or, exists_const, CMul, CDiv, CPow, and_assoc, exists_and_left, exists_and_right, Int.reducePow, Int.reduceNeg, Int.reduceLT, Int.reduceLE, Nat.reducePow, Nat.reduceLT, Int.reduceToNat, gt_iff_lt, ge_iff_le, decide_eq_true_eq, Bool.not_eq_true', decide_eq_false_iff_not, scal, ↓reduceIte, Bool.false_eq_true]
      refine ⟨_, _, rfl, (hi i _ _ (List.getElem?_eq_getElem hx) (List.getElem?_eq_getElem hy)).same s2, fun H2 s3 => ⟨true, rfl, ?_⟩⟩
      rw [if_neg Bool.noConfusion]
      exact ⟨_, rfl, s2.trans s3⟩
    · rintro σ H' ⟨z, rfl, s2⟩
      simp only [cx_K, decide_true, decide_false, reduceCtorEq, gTp, gCons, gNil, ca_0, ca_1, ca_2, ca_3, ca_4, ca_5, ca_6, ca_7, ca_8, ca_9, ca_10, ca_11, ca_12, ca_13, ca_14, ca_15, ca_16, ca_17, ca_18, ca_19, ca_20, ca_21, ca_22, ca_23, ca_24, ca_25, ca_26, ca_27, ca_28, ca_29, ca_30, not_true_eq_false, not_false_eq_true, Int.reduceEq, Nat.reduceEqDiff, Nat.reduceLeDiff, rGcd, V.ty.injEq, eq_self, List.not_mem_nil, beq_self_eq_true, HO.lst.injEq, HO.tup.injEq, tFor_eq, iRng1, iList, iTup, nat10, tSeq, rIxA, rSetA, rIsN, rIsT, tTp, tLs, itsO_tup, itsO_lst, tyO_tup, tyO_lst, tyO_dK, tyN_non, tyN_bl, tyN_int, tyN_str, tyN_ref, tyNs_lt, isB, upd_same, upd_upd, sizeLine_eq, List.mem_cons, String.reduceBEq, String.reduceEq, Bool.or_false, Bool.or_true, Bool.and_false, Bool.false_or, Bool.and_self, Bool.false_and, Bool.not_false, Bool.not_true, List.any_cons, List.any_nil, atI_0, setI_0, atI_1, setI_1, atI_2, setI_2, atI_3, setI_3, atI_4, setI_4, atI_5, setI_5, atI_6, setI_6, tAsg, gName, tOp, tUn, tVar, tC, tCons, L2.tNil, tRet, tIfS, tTest, tCB, tCall, rI, rI0, rU, tNext, tB, tAnd, tOr, tNot, tAndV, tOrV, tNotV, tDrop, tIf, tPar, gSub, rIxL, rIxT, rEq, rNe, rSetL, tBits,
    L2.start, List.map_cons, List.map_nil, List.cons_append, List.nil_append, List.append_nil, List.length_cons, List.length_nil, List.replicate, Nat.reduceAdd, Nat.reduceSub, Nat.zero_add, List.getElem?_cons_zero, List.getElem?_cons_succ, List.set_cons_zero, List.set_cons_succ,
    Option.some.injEq, exists_eq_left', exists_eq_left, V.int.injEq, V.bl.injEq, V.ref.injEq, V.str.injEq, List.cons.injEq, reduceCtorEq, and_true, true_and, false_and, and_false, exists_false, or_false, false_or, or_true, true_or, exists_const, CMul, CDiv, CPow, and_assoc, exists_and_left, exists_and_right, Int.reducePow, Int.reduceNeg, Int.reduceLT, Int.reduceLE, Nat.reducePow, Nat.reduceLT, Int.reduceToNat, gt_iff_lt, ge_iff_le, decide_eq_true_eq, Bool.not_eq_true', decide_eq_false_iff_not, scal, ↓reduceIte, Bool.false_eq_true]
      exact k H' s2
  · simp only [oa, oc, cx_K, decide_true, decide_false, reduceCtorEq, gTp, gCons, gNil, ca_0, ca_1, ca_2, ca_3, ca_4, ca_5, ca_6, ca_7, ca_8, ca_9, ca_10, ca_11, ca_12, ca_13, ca_14, ca_15, ca_16, ca_17, ca_18, ca_19, ca_20, ca_21, ca_22, ca_23, ca_24, ca_25, ca_26, ca_27, ca_28, ca_29, ca_30, not_true_eq_false, not_false_eq_true, Int.reduceEq, Nat.reduceEqDiff, Nat.reduceLeDiff, rGcd, V.ty.injEq, eq_self, List.not_mem_nil, beq_self_eq_true, HO.lst.injEq, HO.tup.injEq, tFor_eq, iRng1, iList, iTup, nat10, tSeq, rIxA, rSetA, rIsN, rIsT, tTp, tLs, itsO_tup, itsO_lst, tyO_tup, tyO_lst, tyO_dK, tyN_non, tyN_bl, tyN_int, tyN_str, tyN_ref, tyNs_lt, isB, upd_same, upd_upd, sizeLine_eq, List.mem_cons, String.reduceBEq, String.reduceEq, Bool.or_false, Bool.or_true, Bool.and_false, Bool.false_or, Bool.and_self, Bool.false_and, Bool.not_false, Bool.not_true, List.any_cons, List.any_nil, atI_0, setI_0, atI_1, setI_1, atI_2, setI_2, atI_3, setI_3, atI_4, setI_4, atI_5, setI_5, atI_6, setI_6, tAsg, gName, tOp, tUn, tVar, tC, tCons, L2.tNil, tRet, tIfS, tTest, tCB, tCall, rI, rI0, rU, tNext, tB, tAnd, tOr, tNot, tAndV, tOrV, tNotV, tDrop, tIf, tPar, gSub, rIxL, rIxT, rEq, rNe, rSetL, tBits,
    L2.start, List.map_cons, List.map_nil, List.cons_append, List.nil_append, List.append_nil, List.length_cons, List.length_nil, List.replicate, Nat.reduceAdd, Nat.reduceSub, Nat.zero_add, List.getElem?_cons_zero, List.getElem?_cons_succ, List.set_cons_zero, List.set_cons_succ,
    Option.some.injEq, exists_eq_left', exists_eq_left, V.int.injEq, V.bl.injEq, V.ref.injEq, V.str.injEq, List.cons.injEq, reduceCtorEq, and_true, true_and, false_and, and_false, exists_false, or_false, false_or, or_true, true_or, exists_const, CMul, CDiv, CPow, and_assoc, exists_and_left, exists_and_right, Int.reducePow, Int.reduceNeg, Int.reduceLT, Int.reduceLE, Nat.reducePow, Nat.reduceLT, Int.reduceToNat, gt_iff_lt, ge_iff_le, decide_eq_true_eq, Bool.not_eq_true', decide_eq_false_iff_not, scal, ↓reduceIte, Bool.false_eq_true]
    intro p hp kp
    have s1 := Same.new hp (.tup [V.ty "list", V.ty "tuple"])
    generalize upd H p (.tup [V.ty "list", V.ty "tuple"]) = H1 at s1 ⊢
    have oa1 := ob_same s1 oa
    have oc1 := ob_same s1 oc
    simp only [oa1, oc1, cx_K, decide_true, decide_false, reduceCtorEq, gTp, gCons, gNil, ca_0, ca_1, ca_2, ca_3, ca_4, ca_5, ca_6, ca_7, ca_8, ca_9, ca_10, ca_11, ca_12, ca_13, ca_14, ca_15, ca_16, ca_17, ca_18, ca_19, ca_20, ca_21, ca_22, ca_23, ca_24, ca_25, ca_26, ca_27, ca_28, ca_29, ca_30, not_true_eq_false, not_false_eq_true, Int.reduceEq, Nat.reduceEqDiff, Nat.reduceLeDiff, rGcd, V.ty.injEq, eq_self, List.not_mem_nil, beq_self_eq_true, HO.lst.injEq, HO.tup.injEq, tFor_eq, iRng1, iList, iTup, nat10, tSeq, rIxA, rSetA, rIsN, rIsT, tTp, tLs, itsO_tup, itsO_lst, tyO_tup, tyO_lst, tyO_dK, tyN_non, tyN_bl, tyN_int, tyN_str, tyN_ref, tyNs_lt, isB, upd_same, upd_upd, sizeLine_eq, List.mem_cons, String.reduceBEq, String.reduceEq, Bool.or_false, Bool.or_true, Bool.and_false, Bool.false_or, Bool.and_self, Bool.false_and, Bool.not_false, Bool.not_true, List.any_cons, List.any_nil, atI_0, setI_0, atI_1, setI_1, atI_2, setI_2, atI_3, setI_3, atI_4, setI_4, atI_5, setI_5, atI_6, setI_6, tAsg, gName, tOp, tUn, tVar, tC, tCons, L2.tNil, tRet, tIfS, tTest, tCB, tCall, rI, rI0, rU, tNext, tB, tAnd, tOr, tNot, tAndV, tOrV, tNotV, tDrop, tIf, tPar, gSub, rIxL, rIxT, rEq, rNe, rSetL, tBits,
    L2.start, List.map_cons, List.map_nil, List.cons_append, List.nil_append, List.append_nil, List.length_cons, List.length_nil, List.replicate, Nat.reduceAdd, Nat.reduceSub, Nat.zero_add, List.getElem?_cons_zero, List.getElem?_cons_succ, List.set_cons_zero, List.set_cons_succ,
    Option.some.injEq, exists_eq_left', exists_eq_left, V.int.injEq, V.bl.injEq, V.ref.injEq, V.str.injEq, List.cons.injEq, reduceCtorEq, and_true, true_and, false_and, and_false, exists_false, or_false, false_or, or_true, true_or, exists_const, CMul, CDiv, CPow, and_assoc, exists_and_left, exists_and_right, Int.reducePow, Int.reduceNeg, Int.reduceLT, Int.reduceLE, Nat.reducePow, Nat.reduceLT, Int.reduceToNat, gt_iff_lt, ge_iff_le, decide_eq_true_eq, Bool.not_eq_true', decide_eq_false_iff_not, scal, ↓reduceIte, Bool.false_eq_true]
    rw [if_neg (show ¬ ¬ ((xs.length : Int) = (ys.length : Int)) by omega)]
    refine ⟨by omega, by omega, forI_range (SameI H a b) ⟨none, rfl, s1⟩ ?_ ?_⟩
    · rintro i σ H' hlt ⟨z, rfl, s2⟩
      have hx : i < xs.length := by omega
      have hy : i < ys.length := by omega
      have oa2 := ob_same s2 oa
      have oc2 := ob_same s2 oc
      have ex : atI xs (0 + (i : Int)) = some xs[i] := by rw [Int.zero_add]; exact atI_nat (List.getElem?_eq_getElem hx)
      have ey : atI ys (0 + (i : Int)) = some ys[i] := by rw [Int.zero_add]; exact atI_nat (List.getElem?_eq_getElem hy)
      simp only [oa2, oc2, ex, ey, cx_K, decide_true, decide_false, reduceCtorEq, gTp, gCons, gNil, ca_0, ca_1, ca_2, ca_3, ca_4, ca_5, ca_6, ca_7, ca_8, ca_9, ca_10, ca_11, ca_12, ca_13, ca_14, ca_15, ca_16, ca_17, ca_18, ca_19, ca_20, ca_21, ca_22, ca_23, ca_24, ca_25, ca_26, ca_27, ca_28, ca_29, ca_30, not_true_eq_false, not_false_eq_true, Int.reduceEq, Nat.reduceEqDiff, Nat.reduceLeDiff, rGcd, V.ty.injEq, eq_self, List.not_mem_nil, beq_self_eq_true, HO.lst.injEq, HO.tup.injEq, tFor_eq, iRng1, iList, iTup, nat10, tSeq, rIxA, rSetA, rIsN, rIsT, tTp, tLs, itsO_tup, itsO_lst, tyO_tup, tyO_lst, tyO_dK, tyN_non, tyN_bl, tyN_int, tyN_str, tyN_ref, tyNs_lt, isB, upd_same, upd_upd, sizeLine_eq, List.mem_cons, String.reduceBEq, String.reduceEq, Bool.or_false, Bool.or_true, Bool.and_false, Bool.false_or, Bool.and_self, Bool.false_and, Bool.not_false, Bool.not_true, List.any_cons, List.any_nil, atI_0, setI_0, atI_1, setI_1, atI_2, setI_2, atI_3, setI_3, atI_4, setI_4, atI_5, setI_5, atI_6, setI_6, tAsg, gName, tOp, tUn, tVar, tC, tCons, L2.tNil, tRet, tIfS, tTest, tCB, tCall, rI, rI0, rU, tNext, tB, tAnd, tOr, tNot, tAndV, tOrV, tNotV, tDrop, tIf, tPar, gSub, rIxL, rIxT, rEq, rNe, rSetL, tBits,
    L2.start, List.map_cons, List.map_nil, List.cons_append, List.nil_append, List.append_nil, List.length_cons, List.length_nil, List.replicate, Nat.reduceAdd, Nat.reduceSub, Nat.zero_add, List.getElem?_cons_zero, List.getElem?_cons_succ, List.set_cons_zero, List.set_cons_succ,
    Option.some.injEq, exists_eq_left', exists_eq_left, V.int.injEq, V.bl.injEq, V.ref.injEq, V.str.injEq, List.cons.injEq, reduceCtorEq, and_true, true_and, false_and, and_false, exists_false, or_false, false_or, or_true, true_or, exists_const, CMul, CDiv, CPow, and_assoc, exists_and_left, exists_and_right, Int.reducePow, Int.reduceNeg, Int.reduceLT, Int.reduceLE, Nat.reducePow, Nat.reduceLT, Int.reduceToNat, gt_iff_lt, ge_iff_le, decide_eq_true_eq, Bool.not_eq_true', decide_eq_false_iff_not, scal, ↓reduceIte, Bool.false_eq_true]
      refine ⟨_, _, rfl, (hi i _ _ (List.getElem?_eq_getElem hx) (List.getElem?_eq_getElem hy)).same s2, fun H2 s3 => ⟨true, rfl, ?_⟩⟩
      rw [if_neg Bool.noConfusion]
      exact ⟨_, rfl, s2.trans s3⟩
    · rintro σ H' ⟨z, rfl, s2⟩
      simp only [cx_K, decide_true, decide_false, reduceCtorEq, gTp, gCons, gNil, ca_0, ca_1, ca_2, ca_3, ca_4, ca_5, ca_6, ca_7, ca_8, ca_9, ca_10, ca_11, ca_12, ca_13, ca_14, ca_15, ca_16, ca_17, ca_18, ca_19, ca_20, ca_21, ca_22, ca_23, ca_24, ca_25, ca_26, ca_27, ca_28, ca_29, ca_30, not_true_eq_false, not_false_eq_true, Int.reduceEq, Nat.reduceEqDiff, Nat.reduceLeDiff, rGcd, V.ty.injEq, eq_self, List.not_mem_nil, beq_self_eq_true, HO.lst.injEq, HO.tup.injEq, tFor_eq, iRng1, iList, iTup, nat10, tSeq, rIxA, rSetA, rIsN, rIsT, tTp, tLs, itsO_tup, itsO_lst, tyO_tup, tyO_lst, tyO_dK, tyN_non, tyN_bl, tyN_int, tyN_str, tyN_ref, tyNs_lt, isB, upd_same, upd_upd, sizeLine_eq, List.mem_cons, String.reduceBEq, String.reduceEq, Bool.or_false, Bool.or_true, Bool.and_false, Bool.false_or, Bool.and_self, Bool.false_and, Bool.not_false, Bool.not_true, List.any_cons, List.any_nil, atI_0, setI_0, atI_1, setI_1, atI_2, setI_2, atI_3, setI_3, atI_4, setI_4, atI_5, setI_5, atI_6, setI_6, tAsg, gName, tOp, tUn, tVar, tC, tCons, L2.tNil, tRet, tIfS, tTest, tCB, tCall, rI, rI0, rU, tNext, tB, tAnd, tOr, tNot, tAndV, tOrV, tNotV, tDrop, tIf, tPar, gSub, rIxL, rIxT, rEq, rNe, rSetL, tBits,
    L2.start, List.map_cons, List.map_nil, List.cons_append, List.nil_append, List.append_nil, List.length_cons, List.length_nil, List.replicate, Nat.reduceAdd, Nat.reduceSub, Nat.zero_add, List.getElem?_cons_zero, List.getElem?_cons_succ, List.set_cons_zero, List.set_cons_succ,
    Option.some.injEq, exists_eq_left', exists_eq_left, V.int.injEq, V.bl.injEq, V.ref.injEq, V.str.injEq, List.cons.injEq, reduceCtorEq, and_true, true_and, false_and, and_false, exists_false, or_false, false_or, or_true, true_or, exists_const, CMul, CDiv, CPow, and_assoc, exists_and_left, exists_and_right, Int.reducePow, Int.reduceNeg, Int.reduceLT, Int.reduceLE, Nat.reducePow, Nat.reduceLT, Int.reduceToNat, gt_iff_lt, ge_iff_le, decide_eq_true_eq, Bool.not_eq_true', decide_eq_false_iff_not, scal, ↓reduceIte, Bool.false_eq_true]
      exact k H' s2
theorem k_alike (T : Bt K mg) (D : Dfn K mg "_law_alike" sAlike ["_law_told", "_law_due"]) (d : Kn P w K mg base 1 "_law_is_whole" ["_law_told"] (spWhole K)) : ∀ n : Nat, Kn P w K mg base (n + 1) "_law_alike" ["_law_told", "_law_due"] (spAlike K n)
  | 0 => by
    obtain ⟨f, fd, m, kp, b, G⟩ := (Kn.none (P := P) (w := w) (base := base) D).ex
    exact ⟨f, fd, m, kp, b, (G.mono (Nat.zero_le _)).imp fun vs H Q E h => h.elim⟩
  | n + 1 => k_Alike n T D d (k_alike T D d n)
end
end My

namespace My
open PySem PySem.Spec PyProof.Rows L2
section
variable {P : Program} {w : World} {K : PySem.W.Frag} {mg : Str → Option Value} {base : Heap}
def spRange (K : PySem.W.Frag) : Sp := fun vs H Q _ => ∃ (s : Addr) (lo hi : Int), vs = [.ref s, .int lo, .int hi] ∧ Sto K H s ∧ 0 ≤ lo ∧ hi < 2 ^ 100 ∧ ∀ r H', lo ≤ r → (r ≤ hi ∨ (hi ≤ lo ∧ r = lo)) → (hi ≤ lo → r = lo) → Kp s H H' → Sto K H' s → Q (.int r) H'
abbrev sRange : Stmt := topS 49
theorem scRange : FnScope ["_law_store_here", "_law_low", "_law_high", "_law_spot"] ["_law_store_here", "_law_low", "_law_high"] (defScope sRange) := ⟨rfl, rfl, rfl, by decide +kernel, rfl, by decide +kernel, by decide +kernel⟩
theorem k_Range (T : Bt K mg) (D : Dfn K mg "_law_range" sRange ["_law_store_here", "_law_low", "_law_high"]) (d__law_take : Kn P w K mg base 2 "_law_take" ["_law_store_here", "_law_many"] (spTake K)) : Kn P w K mg base 3 "_law_range" ["_law_store_here", "_law_low", "_law_high"] (spRange K) := by
  refine Kn.mk' D scRange (fun vs H Q E h => ?_) (fun f cdv A outer s H vs Q E hr h => ?_)
  · obtain ⟨s, lo, hi, rfl, _⟩ := h
    rfl
  obtain ⟨s, lo, hi, rfl, hS, l0, h1, k⟩ := h
  refine ⟨_, (pss_cons (ps_set (i := 3) scRange.nd rfl (.inl rfl) (pe_kn d__law_take hr (by rfl) (pa_cons (pv 0) (pa_cons pe_int pa_nil))))
      (pss_cons (ps_if (PW.pt (pw_or (pt_cmpR op_eq (pv 3) pe_int (nomark _)) (pw_or1 (pt_cmpR op_le (pv 2) (pv 1) (nomark _))))) (pss_one (ps_ret (pv 1))) pss_nil)
      (pss_cons (ps_if (pt_cmpR op_eq (pv 3) pe_int (nomark _)) (pss_one (ps_ret (pv 2))) pss_nil)
      (pss_one (ps_ret (pe_op op_add (pv 1) (pe_kn d__law_take hr (by rfl) (pa_cons (pv 0) (pa_cons (pe_op op_add (pe_op op_sub (pv 2) (pv 1)) pe_int) pa_nil))))))))), ?_⟩
  refine ⟨_, rfl, s, 6, rfl, hS, by omega, fun i H1 i0 i1 kp st => ?_⟩
  refine ⟨_, rfl, rfl, _, rfl, ite2 (fun h => ?_) (fun h => ?_)⟩
  · exact ⟨_, rfl, k lo H1 (Int.le_refl _) (by omega) (fun _ => rfl) kp st⟩
  refine ⟨_, rfl, _, rfl, _, _, rfl, rfl, _, rfl, ite2 (fun h2 => ?_) (fun h2 => ?_)⟩
  · exact ⟨_, rfl, k lo H1 (Int.le_refl _) (.inr ⟨of_decide_eq_true h2, rfl⟩) (fun _ => rfl) kp st⟩
  have h2 : ¬ hi ≤ lo := fun z => h2 (decide_eq_true z)
  refine ⟨_, rfl, rfl, _, rfl, ite2 (fun h => ?_) (fun h => ?_)⟩
  · exact ⟨_, rfl, k hi H1 (by omega) (by omega) (fun z => absurd z h2) kp st⟩
  refine ⟨_, rfl, _, rfl, _, rfl, _, rfl, _, _, rfl, rfl, _, _, rfl, rfl, s, _, rfl, st, by omega, fun j H2 j0 j1 kp2 st2 => ⟨_, _, rfl, rfl, ?_⟩⟩
  exact k (lo + j) H2 (by omega) (by omega) (fun z => absurd z h2) (kp.trans kp2) st2
theorem div_add {n q s : Int} (n1 : 1 ≤ n) : (n * q + s) / n = q + s / n := by
  rw [Int.add_comm, Int.add_mul_ediv_left _ _ (by omega), Int.add_comm]
theorem lw_step {h n x : Int} (n1 : 1 ≤ n) (h0 : 0 ≤ h) (h1 : h ≤ n) : (x + h) / n - x / n = (if n ≤ x % n + h then 1 else 0) ∧ (x + h) % n = (if n ≤ x % n + h then x % n + h - n else x % n + h) := by
  have e := Int.mul_ediv_add_emod x n
  have r0 := Int.emod_nonneg x (show n ≠ 0 by omega)
  have r1 := Int.emod_lt_of_pos x (show 0 < n by omega)
  generalize x / n = q at *
  generalize x % n = r at *
  subst e
  have d : (n * q + r + h) / n = q + (r + h) / n := by rw [Int.add_assoc, div_add n1]
  have f := Int.mul_ediv_add_emod (n * q + r + h) n
  rw [d] at f ⊢
  by_cases c : n ≤ r + h
  · have g : (r + h) / n = 1 := by
      rw [show r + h = n * 1 + (r + h - n) by omega, div_add n1, Int.ediv_eq_zero_of_lt (by omega) (by omega)]
      rfl
    rw [if_pos c, if_pos c, g]
    rw [g, Int.mul_add, Int.mul_one] at f
    omega
  · have g : (r + h) / n = 0 := Int.ediv_eq_zero_of_lt (by omega) (by omega)
    rw [if_neg c, if_neg c, g]
    rw [g, Int.add_zero] at f
    omega
theorem lw_sum (h n t : Int) : ∀ m : Nat, (lw h n t m).sum = ((m : Int) * h + t) / n - t / n
  | 0 => by
    show (0 : Int) = ((((0 : Nat) : Int)) * h + t) / n - t / n
    rw [show (((0 : Nat) : Int)) = 0 from rfl, Int.zero_mul, Int.zero_add]
    omega
  | m + 1 => by
    rw [lw_s, List.sum_append, lw_sum h n t m]
    simp only [List.sum_cons, List.sum_nil]
    rw [show (((m + 1 : Nat) : Int)) = (m : Int) + 1 by omega]
    omega
theorem lw_take (h n t : Int) {m j : Nat} (hj : j ≤ m) : (lw h n t m).take j = lw h n t j := by
  unfold lw
  rw [← List.map_take, List.take_range, Nat.min_eq_left hj]
theorem quo_of {n P x : Int} (n1 : 1 ≤ n) (a : P * n ≤ x) (b : x ≤ P * n + n - 1) : x / n = P := by
  have e : x = n * P + (x - n * P) := by omega
  rw [e, div_add n1, Int.ediv_eq_zero_of_lt (by rw [Int.mul_comm]; omega) (by rw [Int.mul_comm]; omega), Int.add_zero]
theorem quo_bd {n x : Int} (n1 : 1 ≤ n) : x / n * n ≤ x ∧ x ≤ x / n * n + n - 1 := by
  have e := Int.mul_ediv_add_emod x n
  have r0 := Int.emod_nonneg x (show n ≠ 0 by omega)
  have r1 := Int.emod_lt_of_pos x (show 0 < n by omega)
  rw [Int.mul_comm]
  omega
/-- when a word is the leap word of a turn -/
theorem lw_iff {w : List Int} {t : Int} (h1 : 1 ≤ w.length) (t0 : 0 ≤ t) (t1 : t < w.length) : lw w.sum w.length t w.length = w ↔ ∀ j : Nat, j < w.length → (w.take (j + 1)).sum * w.length ≤ ((j : Int) + 1) * w.sum + t ∧ ((j : Int) + 1) * w.sum + t ≤ (w.take (j + 1)).sum * w.length + w.length - 1 := by
  have z : t / (w.length : Int) = 0 := Int.ediv_eq_zero_of_lt t0 t1
  have n1 : (1 : Int) ≤ w.length := by omega
  constructor
  · intro e j hj
    have p : (w.take (j + 1)).sum = (((j : Int) + 1) * w.sum + t) / w.length := by
      conv => lhs; rw [← e]
      rw [lw_take _ _ _ (by omega), lw_sum, z, show (((j + 1 : Nat) : Int)) = (j : Int) + 1 by omega, Int.sub_zero]
    rw [p]
    exact quo_bd n1
  · intro hb
    have p : ∀ j : Nat, j ≤ w.length → ((j : Int) * w.sum + t) / w.length = (w.take j).sum := fun j hj => by
      cases j with
      | zero =>
        rw [show (((0 : Nat) : Int)) = 0 from rfl, Int.zero_mul, Int.zero_add, z, List.take_zero]
        rfl
      | succ j =>
        obtain ⟨a, b⟩ := hb j (by omega)
        rw [show (((j + 1 : Nat) : Int)) = (j : Int) + 1 by omega]
        exact quo_of n1 a b
    refine List.ext_getElem? fun i => ?_
    by_cases hi : i < w.length
    · rw [lw_at hi, show (i : Int) + 1 = ((i + 1 : Nat) : Int) by omega, p (i + 1) (by omega), p i (by omega), List.getElem?_eq_getElem hi, List.take_succ, List.getElem?_eq_getElem hi, List.sum_append]
      simp only [Option.toList, List.sum_cons, List.sum_nil]
      congr 1
      omega
    · rw [List.getElem?_eq_none (by rw [lw_len]; omega), List.getElem?_eq_none (by omega)]
/-- the least turn's bounds after i items -/
structure Bnd (w : List Int) (i : Nat) (low high : Int) : Prop where
  l0 : 0 ≤ low
  la : ∀ j : Nat, j < i → (w.take (j + 1)).sum * w.length - ((j : Int) + 1) * w.sum ≤ low
  lx : low = 0 ∨ ∃ j : Nat, j < i ∧ low = (w.take (j + 1)).sum * w.length - ((j : Int) + 1) * w.sum
  h0 : high ≤ w.length - 1
  ha : ∀ j : Nat, j < i → high ≤ (w.take (j + 1)).sum * w.length + w.length - 1 - ((j : Int) + 1) * w.sum
  hx : high = w.length - 1 ∨ ∃ j : Nat, j < i ∧ high = (w.take (j + 1)).sum * w.length + w.length - 1 - ((j : Int) + 1) * w.sum
theorem bnd_0 {w : List Int} (h1 : 1 ≤ w.length) : Bnd w 0 0 (w.length - 1) := ⟨by omega, fun j h => absurd h (Nat.not_lt_zero _), .inl rfl, by omega, fun j h => absurd h (Nat.not_lt_zero _), .inl rfl⟩
theorem Bnd.step {w : List Int} {i : Nat} {low high x y : Int} (b : Bnd w i low high) (ex : x = (w.take (i + 1)).sum * w.length - ((i : Int) + 1) * w.sum) (ey : y = (w.take (i + 1)).sum * w.length + w.length - 1 - ((i : Int) + 1) * w.sum) : Bnd w (i + 1) (if x > low then x else low) (if y < high then y else high) := by
  obtain ⟨l0, la, lx, h0, ha, hx⟩ := b
  refine ⟨by split <;> omega, fun j hj => ?_, ?_, by split <;> omega, fun j hj => ?_, ?_⟩
  · rcases Nat.eq_or_lt_of_le (show j ≤ i by omega) with e | e
    · subst e
      split <;> omega
    · have := la j e
      split <;> omega
  · split
    · exact .inr ⟨i, by omega, ex⟩
    · exact lx.imp id fun ⟨j, hj, e⟩ => ⟨j, by omega, e⟩
  · rcases Nat.eq_or_lt_of_le (show j ≤ i by omega) with e | e
    · subst e
      split <;> omega
    · have := ha j e
      split <;> omega
  · split
    · exact .inr ⟨i, by omega, ey⟩
    · exact hx.imp id fun ⟨j, hj, e⟩ => ⟨j, by omega, e⟩
theorem et_of {w : List Int} {low high : Int} (wv : Wv w) (b : Bnd w w.length low high) : etV w = if low ≤ high then .int low else .non := by
  have h1 := wv.2.1
  obtain ⟨l0, la, lx, h0, ha, hx⟩ := b
  have v : ∀ t : Int, 0 ≤ t → t < w.length → (lw w.sum w.length t w.length = w ↔ low ≤ t ∧ t ≤ high) := fun t t0 t1 => by
    rw [lw_iff h1 t0 t1]
    constructor
    · intro hb
      constructor
      · rcases lx with e | ⟨j, hj, e⟩
        · omega
        · have := (hb j hj).1
          omega
      · rcases hx with e | ⟨j, hj, e⟩
        · omega
        · have := (hb j hj).2
          omega
    · rintro ⟨a, c⟩ j hj
      have := la j hj
      have := ha j hj
      omega
  by_cases c : low ≤ high
  · rw [if_pos c]
    unfold etV etO
    have e : ((low.toNat : Nat) : Int) = low := by omega
    rw [find_range_some (i := low.toNat) (by omega) (by simpa using (v _ (by omega) (by omega)).mpr ⟨by omega, by omega⟩) fun j hj => by
      have z : ¬ lw w.sum w.length j w.length = w := fun z => by
        have := (v j (by omega) (by omega)).mp z
        omega
      simpa using z]
    show V.int _ = _
    rw [e]
  · rw [if_neg c]
    unfold etV etO
    rw [find_range_none fun j hj => by
      have z : ¬ lw w.sum w.length j w.length = w := fun z => by
        have := (v j (by omega) (by omega)).mp z
        omega
      simpa using z]
theorem pre_wv {w : List Int} (h : ∀ x ∈ w, x = 0 ∨ x = 1) (i : Nat) : 0 ≤ (w.take i).sum ∧ (w.take i).sum ≤ w.length := by
  obtain ⟨a, b⟩ := sum_wv (w := w.take i) fun x hx => h x (List.mem_of_mem_take hx)
  rw [List.length_take] at b
  omega
def spLongs (K : PySem.W.Frag) : Sp := fun vs H Q _ => ∃ (s : Addr), vs = [.ref s] ∧ Sto K H s ∧ ∀ p H' (h n : Int), ob K H' p = some (.tup [.int h, .int n]) → 0 ≤ h → h ≤ n → 1 ≤ n → n ≤ 100 → Kp s H H' → Sto K H' s → Q (.ref p) H'
def spAdd (K : PySem.W.Frag) : Sp := fun vs H Q _ => ∃ (h n t : Int), vs = [.int h, .int n, .int t] ∧ 0 ≤ h ∧ h ≤ n ∧ 1 ≤ n ∧ n ≤ 100 ∧ 0 ≤ t ∧ t < n ∧ ∀ a H', Same H H' → H a = none → Wd K H' a (lw h n t n.toNat) → Q (.ref a) H'
def spLT (K : PySem.W.Frag) : Sp := fun vs H Q _ => ∃ a w, vs = [.ref a] ∧ Wd K H a w ∧ Wv w ∧ Q (etV w) H
abbrev sLLongs : Stmt := topS 51
theorem scLLongs : FnScope ["_law_store_here", "_law_length"] ["_law_store_here"] (defScope sLLongs) := ⟨rfl, rfl, rfl, by decide +kernel, rfl, by decide +kernel, by decide +kernel⟩
theorem k_LLongs (T : Bt K mg) (D : Dfn K mg "_law_longs" sLLongs ["_law_store_here"]) (d__law_take : Kn P w K mg base 2 "_law_take" ["_law_store_here", "_law_many"] (spTake K)) (d__law_pick : Kn P w K mg base 3 "_law_pick" ["_law_store_here", "_law_row"] (spPick K)) (d__law_range : Kn P w K mg base 3 "_law_range" ["_law_store_here", "_law_low", "_law_high"] (spRange K)) : Kn P w K mg base 4 "_law_longs" ["_law_store_here"] (spLongs K) := by
  refine Kn.mk' D scLLongs (fun vs H Q E h => ?_) (fun f cdv A outer s H vs Q E hr h => ?_)
  · obtain ⟨s, rfl, _⟩ := h
    rfl
  obtain ⟨s, rfl, hS, k⟩ := h
  refine ⟨_, (pss_cons (ps_set (i := 1) scLLongs.nd rfl (.inl rfl) (pe_kn d__law_pick hr (by rfl) (pa_cons (pv 0) (pa_cons (pe_ls (pa_cons pe_int (pa_cons pe_int (pa_cons (pe_op op_add pe_int (pe_kn d__law_take hr (by rfl) (pa_cons (pv 0) (pa_cons pe_int pa_nil)))) (pa_cons (pe_op op_add pe_int (pe_kn d__law_take hr (by rfl) (pa_cons (pv 0) (pa_cons pe_int pa_nil)))) (pa_cons (pe_op op_add pe_int (pe_kn d__law_take hr (by rfl) (pa_cons (pv 0) (pa_cons pe_int pa_nil)))) pa_nil)))))) pa_nil))))
      (C8.pss_cut (ps_if (pt_cmpR op_eq (pe_kn d__law_take hr (by rfl) (pa_cons (pv 0) (pa_cons pe_int pa_nil))) pe_int (nomark _)) (pss_one (ps_set (i := 1) scLLongs.nd rfl (.inl rfl) (pe_op op_add pe_int (pe_kn d__law_take hr (by rfl) (pa_cons (pv 0) (pa_cons pe_int pa_nil)))))) pss_nil)
      (pss_one (ps_ret (pe_tp (pa_cons (pe_kn d__law_range hr (by rfl) (pa_cons (pv 0) (pa_cons pe_int (pa_cons (pv 1) pa_nil)))) (pa_cons (pv 1) pa_nil))))))), ?_⟩
  refine ⟨_, rfl, _, rfl, s, 12, rfl, hS, by omega, fun r1 H1 a0 a1 kp1 st1 => ⟨_, _, rfl, rfl, ?_⟩⟩
  refine ⟨_, rfl, s, 12, rfl, st1, by omega, fun r2 H2 b0 b1 kp2 st2 => ⟨_, _, rfl, rfl, ?_⟩⟩
  refine ⟨_, rfl, s, 100, rfl, st2, by omega, fun r3 H3 c0 c1 kp3 st3 => ⟨_, _, rfl, rfl, ?_⟩⟩
  refine ⟨sz2 (by show 5 ≤ 100; decide), fun P hP kP => ?_⟩
  have s4 := Same.new hP (.lst [.int 1, .int 100, .int (1 + r1), .int (1 + r2), .int (1 + r3)])
  have e4 : upd H3 P (.lst [.int 1, .int 100, .int (1 + r1), .int (1 + r2), .int (1 + r3)]) P = some (.lst [.int 1, .int 100, .int (1 + r1), .int (1 + r2), .int (1 + r3)]) := upd_same
  have nP : s ≠ P := (st3.ne' hP).symm
  have kp4 := kp1.trans (kp2.trans (kp3.trans (Kp.same s4)))
  have st4 := st3.same s4
  refine ⟨s, P, _, rfl, st4, e4, nP, by show 0 < 5; decide, by show 5 < 1000; decide, fun x H5 hx kp5 st5 => ?_⟩
  have hm : ∃ m : Int, x = .int m ∧ 1 ≤ m ∧ m ≤ 100 := by
    simp only [List.mem_cons, List.not_mem_nil, or_false] at hx
    rcases hx with rfl | rfl | rfl | rfl | rfl
    · exact ⟨_, rfl, by omega, by omega⟩
    · exact ⟨_, rfl, by omega, by omega⟩
    · exact ⟨_, rfl, by omega, by omega⟩
    · exact ⟨_, rfl, by omega, by omega⟩
    · exact ⟨_, rfl, by omega, by omega⟩
  obtain ⟨m, rfl, m0, m1⟩ := hm
  have kp5 := kp4.trans kp5
  clear hx e4 s4 nP kP hP kp4 st4 kp1 kp2 kp3 st1 st2 st3
  refine ⟨fun σ H' => ∃ m : Int, σ = [some (V.ref s), some (.int m)] ∧ 1 ≤ m ∧ m ≤ 100 ∧ Kp s H H' ∧ Sto K H' s, ?_, ?_⟩
  · refine ⟨_, rfl, s, 2, rfl, st5, by omega, fun r4 H6 d0 d1 kp6 st6 => ⟨rfl, _, rfl, ite2 (fun _ => ?_) (fun _ => ?_)⟩⟩
    · refine ⟨_, rfl, s, 12, rfl, st6, by omega, fun r5 H7 f0 f1 kp7 st7 => ⟨_, _, rfl, rfl, ?_⟩⟩
      exact ⟨1 + r5, rfl, by omega, by omega, kp5.trans (kp6.trans kp7), st7⟩
    · exact ⟨m, rfl, m0, m1, kp5.trans kp6, st6⟩
  · rintro σ H6 ⟨m, rfl, m0, m1, kp6, st6⟩
    refine ⟨_, rfl, _, rfl, s, 0, m, rfl, st6, by decide, by omega, fun r H7 lo hi _ kp7 st7 => ⟨_, rfl, sz2 (by show 2 ≤ 100; decide), fun p hp kkp => ?_⟩⟩
    have s8 := Same.new hp (.tup [.int r, .int m])
    exact k p _ r m (ob_new kkp) lo (by omega) m0 m1 (kp6.trans (kp7.trans (Kp.same s8))) (st7.same s8)

abbrev sAdd : Stmt := topS 54
theorem scAdd : FnScope ["_law_longs_here", "_law_length", "_law_turn", "_law_items", "_law_k"] ["_law_longs_here", "_law_length", "_law_turn"] (defScope sAdd) := ⟨rfl, rfl, rfl, by decide +kernel, rfl, by decide +kernel, by decide +kernel⟩
theorem k_Add (T : Bt K mg) (D : Dfn K mg "_law_added_up" sAdd ["_law_longs_here", "_law_length", "_law_turn"]) : Kn P w K mg base 1 "_law_added_up" ["_law_longs_here", "_law_length", "_law_turn"] (spAdd K) := by
  refine Kn.mk' D scAdd (fun vs H Q E h => ?_) (fun f cdv A outer s H vs Q E hr h => ?_)
  · obtain ⟨h, n, t, rfl, _⟩ := h
    rfl
  obtain ⟨h, n, t, rfl, h0, h1, n1, n2, t0, t1, k⟩ := h
  refine ⟨_, (pss_cons (ps_set (i := 3) scAdd.nd rfl (.inl rfl) (pe_ls pa_nil))
      (pss_cons (ps_for PassesOwn.never rfl (pi_range1 (by rfl) T.b_range (pa_cons (pv 1) pa_nil)) (pg_name (i := 4) scAdd.nd rfl (.inl rfl)) (pss_cons (ps_set (i := 2) scAdd.nd rfl (.inl rfl) (pe_op op_add (pv 2) (pv 0)))
      (pss_cons (ps_expr (pe_bm PySem.F.plainAttrs_list PySem.F.slot_list_append PySem.F.type_list_append mt_append (pv 3) (pa_cons (pe_callTy call_int1 (by rfl) T.b_int (by decide +kernel) (pa_cons (pe_cmpR op_ge (pv 2) (pv 1) (nomark _)) pa_nil)) pa_nil)))
      (pss_one (ps_if (pt_cmpR op_ge (pv 2) (pv 1) (nomark _)) (pss_one (ps_set (i := 2) scAdd.nd rfl (.inl rfl) (pe_op op_sub (pv 2) (pv 1)))) pss_nil)))))
      (pss_one (ps_ret (pe_fr (pe_callTy call_tuple_of (by rfl) T.b_tuple (by decide +kernel) (pa_cons (pv 3) pa_nil))))))), ?_⟩
  refine ⟨sz2 (by show 0 ≤ 100; decide), fun D hD kD => ?_⟩
  have s1 := Same.new hD (.lst [])
  have e1 : upd H D (.lst []) D = some (.lst []) := upd_same
  refine ⟨_, rfl, _, rfl, by omega, by omega, forI_range (lo := 0) (n := n.toNat) (fun i σ H' => ∃ x4, σ = [some (V.int h), some (.int n), some (.int ((t + (i : Int) * h) % n)), some (.ref D), x4] ∧ H' D = some (.lst ((lw h n t i).map V.int)) ∧ Same H H') ⟨none, by rw [show (t + ((0 : Nat) : Int) * h) % n = t by rw [show ((0 : Nat) : Int) = 0 from rfl, Int.zero_mul, Int.add_zero]; exact Int.emod_eq_of_lt t0 t1]; rfl, e1, s1⟩ ?_ ?_⟩
  · rintro i σ H' hi ⟨x4, rfl, e2, s2⟩
    obtain ⟨m1, m2⟩ := lw_step (x := t + (i : Int) * h) n1 h0 h1
    have mm : (t + ((i + 1 : Nat) : Int) * h) % n = (if n ≤ (t + (i : Int) * h) % n + h then (t + (i : Int) * h) % n + h - n else (t + (i : Int) * h) % n + h) := by
      rw [← m2, show (((i + 1 : Nat) : Int)) = (i : Int) + 1 by omega, Int.add_mul, Int.one_mul, Int.add_assoc]
    have dd : (((i : Int) + 1) * h + t) / n - ((i : Int) * h + t) / n = (if n ≤ (t + (i : Int) * h) % n + h then 1 else 0) := by
      rw [← m1, Int.add_comm ((i : Int) * h) t, show ((i : Int) + 1) * h + t = t + (i : Int) * h + h by rw [Int.add_mul, Int.one_mul]; omega]
    refine ⟨_, rfl, _, rfl, _, _, rfl, rfl, ?_⟩
    refine ⟨_, rfl, .inl ⟨rfl, _, .of e2⟩, _, rfl, _, rfl, _, _, rfl, rfl, .inr ⟨_, rfl, D, _, _, rfl, rfl, e2, by rw [List.length_map, lw_len, sizeLine_eq]; omega, ?_⟩⟩
    have e3 : upd H' D (.lst ((lw h n t i).map V.int ++ [V.int (if decide (n ≤ (fun i j => i + j) ((t + (i : Int) * h) % n) h) = true then 1 else 0)])) D = some (.lst ((lw h n t (i + 1)).map V.int)) := by
      rw [upd_same, lw_s, List.map_append, dd]
      by_cases c : n ≤ (t + (i : Int) * h) % n + h
      · rw [if_pos c, if_pos (decide_eq_true c)]
        rfl
      · rw [if_neg c, if_neg (by simpa using c)]
        rfl
    have s3 : Same H (upd H' D (.lst ((lw h n t i).map V.int ++ [V.int (if decide (n ≤ (fun i j => i + j) ((t + (i : Int) * h) % n) h) = true then 1 else 0)]))) := fun b o e => by
      rw [upd_ne (ne_of_none e hD)]
      exact s2 _ _ e
    refine ⟨_, rfl, _, rfl, _, _, rfl, rfl, _, rfl, ite2 (fun c => ?_) (fun c => ?_)⟩
    · have c : n ≤ (t + (i : Int) * h) % n + h := of_decide_eq_true c
      rw [if_pos c] at mm
      exact ⟨_, rfl, _, rfl, _, _, rfl, rfl, some (.int (0 + (i : Int))), by rw [mm]; rfl, e3, s3⟩
    · have c : ¬ n ≤ (t + (i : Int) * h) % n + h := by simpa using c
      rw [if_neg c] at mm
      exact ⟨some (.int (0 + (i : Int))), by rw [mm]; rfl, e3, s3⟩
  · rintro σ H' ⟨x4, rfl, e2, s2⟩
    refine ⟨_, rfl, D, _, rfl, .inl ⟨.of e2, fun a ha fr => ?_⟩⟩
    have ka : K.lookup a = none := fr a (by rw [upd_same]; simp)
    exact k a _ (s2.trans (Same.new ha _)) (Same.free s2 ha) ((ob_none ka).trans upd_same)

abbrev sLT : Stmt := topS 55
theorem scLT : FnScope ["_law_word", "_law_longs_here", "_law_length", "_law_low", "_law_high", "_law_count", "_law_k"] ["_law_word"] (defScope sLT) := ⟨rfl, rfl, rfl, by decide +kernel, rfl, by decide +kernel, by decide +kernel⟩
theorem k_LT (zU : mg "sum" = none) (T : Bt K mg) (D : Dfn K mg "_law_least_turn" sLT ["_law_word"]) : Kn P w K mg base 1 "_law_least_turn" ["_law_word"] (spLT K) := by
  refine Kn.mk' D scLT (fun vs H Q E h => ?_) (fun f cdv A outer s H vs Q E hr h => ?_)
  · obtain ⟨a, w, rfl, _⟩ := h
    rfl
  obtain ⟨a, w, rfl, hw, wv, k⟩ := h
  refine ⟨_, (pss_cons (ps_set (i := 1) scLT.nd rfl (.inl rfl) (pe_callB (cr_sumT rfl) (by rfl) zU (by decide +kernel) (pa_cons (pv 0) pa_nil)))
      (pss_cons (ps_set (i := 2) scLT.nd rfl (.inl rfl) (pe_callB call_lenA (by rfl) T.b_len PySem.boot_len (pa_cons (pv 0) pa_nil)))
      (pss_cons (ps_set (i := 3) scLT.nd rfl (.inl rfl) pe_int)
      (pss_cons (ps_set (i := 4) scLT.nd rfl (.inl rfl) (pe_op op_sub (pv 2) pe_int))
      (pss_cons (ps_set (i := 5) scLT.nd rfl (.inl rfl) pe_int)
      (pss_cons (ps_for PassesOwn.never rfl (pi_range1 (by rfl) T.b_range (pa_cons (pv 2) pa_nil)) (pg_name (i := 6) scLT.nd rfl (.inl rfl)) (pss_cons (ps_set (i := 5) scLT.nd rfl (.inl rfl) (pe_op op_add (pv 5) (pe_ix ix_any (pv 0) (pv 6) (fun _ _ => rfl))))
      (pss_cons (ps_set (i := 3) scLT.nd rfl (.inl rfl) (pe_callB (call_max2 rfl) (by rfl) T.b_max (by decide +kernel) (pa_cons (pv 3) (pa_cons (pe_op op_sub (pe_op op_mulW (pv 5) (pv 2)) (pe_op op_mulW (pe_op op_add (pv 6) pe_int) (pv 1))) pa_nil))))
      (pss_one (ps_set (i := 4) scLT.nd rfl (.inl rfl) (pe_callB (call_min2 rfl) (by rfl) T.b_min (by decide +kernel) (pa_cons (pv 4) (pa_cons (pe_op op_sub (pe_op op_sub (pe_op op_add (pe_op op_mulW (pv 5) (pv 2)) (pv 2)) pe_int) (pe_op op_mulW (pe_op op_add (pv 6) pe_int) (pv 1))) pa_nil))))))))
      (pss_one (ps_ret (pe_ifExp (pt_cmpR op_le (pv 3) (pv 4) (nomark _)) (pv 3) pe_non))))))))), ?_⟩
  have hl := wv.2.1
  have hl2 := wv.2.2
  obtain ⟨s0, s1'⟩ := sum_wv wv.1
  have ll : (w.map V.int).length = w.length := List.length_map _
  refine ⟨_, rfl, a, w, rfl, ob_tup hw, ?_⟩
  refine ⟨_, rfl, a, rfl, _, itsO_of hw, ?_⟩
  refine ⟨_, rfl, _, _, rfl, rfl, ?_⟩
  rw [ll]
  refine ⟨_, rfl, _, rfl, by omega, by omega, forI_range (lo := 0) (n := (w.length : Int).toNat) (fun i σ H' => ∃ low high x6, σ = [some (V.ref a), some (.int w.sum), some (.int w.length), some (.int low), some (.int high), some (.int (w.take i).sum), x6] ∧ H' = H ∧ Bnd w i low high) ⟨0, (w.length : Int) - 1, none, by rw [List.take_zero]; rfl, rfl, bnd_0 hl⟩ ?_ ?_⟩
  · rintro i σ H' hi ⟨low, high, x6, rfl, rfl, bd⟩
    have il : i < w.length := by omega
    have hx : w[i]? = some w[i] := List.getElem?_eq_getElem il
    have ex : atI (w.map V.int) (0 + (i : Int)) = some (.int w[i]) := by rw [Int.zero_add]; exact atI_nat (by rw [List.getElem?_map, hx]; rfl)
    have pc : (w.take i).sum + w[i] = (w.take (i + 1)).sum := by rw [List.take_succ, hx, List.sum_append]; simp
    obtain ⟨c0, c1⟩ := pre_wv wv.1 (i + 1)
    refine ⟨_, rfl, _, rfl, _, rfl, a, _, rfl, rfl, _, itsO_of hw, _, ex, _, _, rfl, rfl, ?_⟩
    rw [show (fun i j => V.int (i + j)) (w.take i).sum w[i] = V.int (w.take (i + 1)).sum from congrArg V.int pc]
    have b1 : ((w.take (i + 1)).sum).natAbs < 2 ^ 10 := by omega
    have b2 : ((w.length : Int)).natAbs < 2 ^ 10 := by omega
    have b3 : (0 + (i : Int) + 1).natAbs < 2 ^ 10 := by omega
    have b4 : (w.sum).natAbs < 2 ^ 10 := by omega
    refine ⟨_, rfl, _, rfl, _, rfl, _, _, rfl, rfl, mulW b1 b2 (by decide), _, rfl, _, _, rfl, rfl, _, rfl, _, _, rfl, rfl, mulW b3 b4 (by decide), _, _, rfl, rfl, _, _, rfl, ?_⟩
    refine ⟨_, rfl, _, rfl, _, rfl, _, _, rfl, rfl, mulW b1 b2 (by decide), _, rfl, _, _, rfl, rfl, _, _, rfl, rfl, _, rfl, _, _, rfl, rfl, _, rfl, _, _, rfl, rfl, mulW b3 b4 (by decide), _, _, rfl, rfl, _, _, rfl, ?_⟩
    exact ⟨_, _, some (.int (0 + (i : Int))), rfl, rfl, bd.step (by show _ * _ - (0 + (i : Int) + 1) * _ = _; rw [Int.zero_add]) (by show _ * _ + _ - 1 - (0 + (i : Int) + 1) * _ = _; rw [Int.zero_add])⟩
  · rintro σ H' ⟨low, high, x6, rfl, rfl, bd⟩
    rw [et_of wv (by rw [show (w.length : Int).toNat = w.length by omega] at bd; exact bd)] at k
    refine ⟨_, rfl, _, rfl, _, _, rfl, rfl, _, rfl, ite2 (fun c => ?_) (fun c => ?_)⟩
    · have c : low ≤ high := of_decide_eq_true c
      rw [if_pos c] at k
      exact ⟨_, rfl, k⟩
    · have c : ¬ low ≤ high := by simpa using c
      rw [if_neg c] at k
      exact k

end
end My

namespace My
open PySem PySem.Spec PyProof.Rows L2
section
variable {P : Program} {w : World} {K : PySem.W.Frag} {mg : Str → Option Value} {base : Heap}
theorem et_some {w : List Int} {t : Nat} (h : etO w = some t) : t < w.length ∧ lw w.sum w.length t w.length = w := by
  unfold etO at h
  exact ⟨List.mem_range.mp (List.mem_of_find?_eq_some h), by simpa using List.find?_some h⟩
/-- two words of the same items -/
theorem eqa_wd {H : Hp} {a b : Addr} {w : List Int} (ha : Wd K H a w) (hb : Wd K H b w) (hl : w.length ≤ 1000) : Eqa K H 1 (.ref a) (.ref b) := by
  refine .inr ⟨a, b, _, _, rfl, rfl, .inl ⟨ha, hb⟩, rfl, by rw [List.length_map]; exact hl, fun i x y hx hy => ?_⟩
  rw [hx] at hy
  cases hy
  obtain ⟨n, _, rfl⟩ := List.mem_map.mp (List.mem_of_getElem? hx)
  exact ⟨rfl, rfl⟩
theorem eqa_et (H : Hp) (w : List Int) (n : Nat) : Eqa K H n (etV w) (etV w) := by
  have h : etV w = etV w ∧ sc3 (etV w) = true := ⟨rfl, by unfold etV; cases etO w <;> rfl⟩
  cases n with
  | zero => exact h
  | succ n => exact .inl h
theorem eqa_et2 (H : Hp) {w : List Int} {v : V} (h : etV w = v) : Eqa K H 2 v v := by
  rw [← h]
  exact eqa_et H w 2
def spWH (K : PySem.W.Frag) : Sp := fun vs H Q _ => ∃ a w, vs = [.ref a] ∧ Wd K H a w ∧ Wv w ∧ ∀ H', Same H H' → Q (.bl true) H'
abbrev sWH : Stmt := topS 56
theorem scWH : FnScope ["_law_word", "_law_due", "_law_told"] ["_law_word"] (defScope sWH) := ⟨rfl, rfl, rfl, by decide +kernel, rfl, by decide +kernel, by decide +kernel⟩
theorem k_WH (zU : mg "sum" = none) (lwk : LwK P w K mg base 4 "leap_word" ["longs", "length", "turn"] ["turn"] (spLW K) (.int 0)) (T : Bt K mg) (D : Dfn K mg "_law_word_holds" sWH ["_law_word"]) (d__law_least_turn : Kn P w K mg base 1 "_law_least_turn" ["_law_word"] (spLT K)) (d_is_even_word : Kn P w K mg base 5 "is_even_word" ["word"] (spIE K)) (d__law_alike : Kn P w K mg base 4 "_law_alike" ["_law_told", "_law_due"] (spAlike K 3)) (d_even_turn : Kn P w K mg base 4 "even_turn" ["word"] (spEt K)) : Kn P w K mg base 6 "_law_word_holds" ["_law_word"] (spWH K) := by
  refine Kn.mk' D scWH (fun vs H Q E h => ?_) (fun f cdv A outer s H vs Q E hr h => ?_)
  · obtain ⟨a, w, rfl, _⟩ := h
    rfl
  obtain ⟨a, w, rfl, hw, wv, k⟩ := h
  refine ⟨_, (pss_cons (ps_set (i := 1) scWH.nd rfl (.inl rfl) (pe_kn d__law_least_turn hr (by rfl) (pa_cons (pv 0) pa_nil)))
      (pss_cons (ps_set (i := 2) scWH.nd rfl (.inl rfl) (pe_kn d_is_even_word hr (by rfl) (pa_cons (pv 0) pa_nil)))
      (pss_cons (ps_if (PW.pt (pw_or (PW.pt (pw_and (pt_cmpR op_notBl (pv 2) pe_bl (nomark _)) (pw_and1 (pt_cmpR op_notBl (pv 2) pe_bl (nomark _))))) (pw_or1 (pt_cmpR op_ne (pv 2) (pe_cmpR op_notN (pv 1) pe_non (nomark _)) (nomark _))))) (pss_one (ps_ret pe_bl)) pss_nil)
      (pss_cons (ps_if (pt_not (pt_val (pe_kn d__law_alike hr (by rfl) (pa_cons (pe_kn d_even_turn hr (by rfl) (pa_cons (pv 0) pa_nil)) (pa_cons (pv 1) pa_nil))))) (pss_one (ps_ret pe_bl)) pss_nil)
      (pss_one (ps_ret (pe_or (pe_cmpR op_isN (pv 1) pe_non (nomark _)) (pe_one (pe_kn d__law_alike hr (by rfl) (pa_cons (pe_knK3 (LwK.k3 lwk) hr (by rfl) (pa_cons (pe_callB (cr_sumT rfl) (by rfl) zU (by decide +kernel) (pa_cons (pv 0) pa_nil)) (pa_cons (pe_callB call_lenA (by rfl) T.b_len PySem.boot_len (pa_cons (pv 0) pa_nil)) pa_nil)) (pk_cons (pv 1) pk_nil)) (pa_cons (pv 0) pa_nil))))))))))), ?_⟩
  have hl := wv.2.1
  have hl2 := wv.2.2
  obtain ⟨s0, s1'⟩ := sum_wv wv.1
  refine ⟨_, rfl, a, w, rfl, hw, wv, ?_⟩
  refine ⟨_, rfl, .ref a, rfl, .inr ⟨a, w, rfl, hw, wv, fun H1 s1 => ?_⟩⟩
  have hw1 := hw.same s1
  cases he : etO w with
  | none =>
    have ev : etV w = .non := by unfold etV; rw [he]
    have q0 : Eqa K H1 2 (etV w) (etV w) := eqa_et H1 w 2
    rw [ev] at q0 ⊢
    refine ⟨_, rfl, false, true, rfl, rfl, _, rfl, if_yes rfl ?_⟩
    refine ⟨_, rfl, false, false, rfl, rfl, _, rfl, if_no rfl ?_⟩
    refine ⟨_, rfl, _, rfl, rfl, rfl, _, rfl, if_no rfl ?_⟩
    refine ⟨_, rfl, a, w, rfl, hw1, wv, fun H2 s2 => ?_⟩
    rw [ev]
    refine ⟨_, rfl, _, _, rfl, eqa_et2 H2 ev, fun H3 s3 => ⟨_, rfl, if_no rfl ?_⟩⟩
    refine ⟨_, rfl, rfl, _, rfl, if_yes rfl ?_⟩
    exact k H3 (s1.trans (s2.trans s3))
  | some t =>
    have ev : etV w = .int t := by unfold etV; rw [he]
    obtain ⟨tl, tw⟩ := et_some he
    rw [ev]
    refine ⟨_, rfl, true, true, rfl, rfl, _, rfl, if_no rfl ?_⟩
    refine if_no rfl ?_
    refine ⟨_, rfl, _, rfl, rfl, rfl, _, rfl, if_no rfl ?_⟩
    refine ⟨_, rfl, a, w, rfl, hw1, wv, fun H2 s2 => ?_⟩
    rw [ev]
    refine ⟨_, rfl, _, _, rfl, eqa_et2 H2 ev, fun H3 s3 => ⟨_, rfl, if_no rfl ?_⟩⟩
    refine ⟨_, rfl, rfl, _, rfl, if_no rfl ?_⟩
    have hw3 := (hw1.same s2).same s3
    have ll : (w.map V.int).length = w.length := List.length_map _
    refine ⟨_, rfl, a, w, rfl, ob_tup hw3, _, rfl, a, rfl, _, itsO_of hw3, _, rfl, w.sum, _, t, rfl, s0, by rw [ll]; omega, by rw [ll]; omega, by rw [ll]; omega, by omega, by rw [ll]; omega, fun b H4 s4 _ hb => ?_⟩
    rw [ll] at hb
    have hb : Wd K H4 b w := by
      rw [show ((w.length : Int)).toNat = w.length by omega, tw] at hb
      exact hb
    refine ⟨_, rfl, _, _, rfl, (eqa_wd hb (hw3.same s4) (by omega)).up, fun H5 s5 => ?_⟩
    exact k H5 (s1.trans (s2.trans (s3.trans (s4.trans s5))))

end
end My

namespace My
open PySem PySem.Spec PyProof.Rows L2
section
variable {P : Program} {w : World} {K : PySem.W.Frag} {mg : Str → Option Value} {base : Heap}
theorem lw_wv {h n t : Int} (h0 : 0 ≤ h) (h1 : h ≤ n) (n1 : 1 ≤ n) (n2 : n ≤ 100) : Wv (lw h n t n.toNat) := by
  refine ⟨fun x hx => ?_, by rw [lw_len]; omega, by rw [lw_len]; omega⟩
  unfold lw at hx
  obtain ⟨i, _, rfl⟩ := List.mem_map.mp hx
  obtain ⟨m1, _⟩ := lw_step (x := (i : Int) * h + t) n1 h0 h1
  rw [show ((i : Int) + 1) * h + t = (i : Int) * h + t + h by rw [Int.add_mul, Int.one_mul]; omega, m1]
  split
  · exact .inr rfl
  · exact .inl rfl
theorem lw_total {h n t : Int} (n1 : 1 ≤ n) (t0 : 0 ≤ t) (t1 : t < n) : (lw h n t n.toNat).sum = h := by
  rw [lw_sum, Int.ediv_eq_zero_of_lt t0 t1, show ((n.toNat : Nat) : Int) = n by omega, div_add n1, Int.ediv_eq_zero_of_lt t0 t1]
  omega
/-- a leap word has a turn, and none greater than its own -/
theorem et_lw {h n t : Int} (h0 : 0 ≤ h) (h1 : h ≤ n) (n1 : 1 ≤ n) (n2 : n ≤ 100) (t0 : 0 ≤ t) (t1 : t < n) : ∃ u : Nat, etO (lw h n t n.toNat) = some u ∧ (u : Int) ≤ t := by
  have hs := lw_total (h := h) n1 t0 t1
  have hl : (lw h n t n.toNat).length = n.toNat := lw_len ..
  have hn : ((n.toNat : Nat) : Int) = n := by omega
  have hw : lw (lw h n t n.toNat).sum (lw h n t n.toNat).length t (lw h n t n.toNat).length = lw h n t n.toNat := by rw [hs, hl, hn]
  cases e : etO (lw h n t n.toNat) with
  | none =>
    unfold etO at e
    have := List.find?_eq_none.mp e t.toNat (List.mem_range.mpr (by rw [hl]; omega))
    rw [show ((t.toNat : Nat) : Int) = t by omega] at this
    exact absurd (by simpa using hw) this
  | some u =>
    refine ⟨u, rfl, ?_⟩
    unfold etO at e
    obtain ⟨_, _, hf⟩ := List.find?_range_eq_some.mp e
    by_cases c : (u : Int) ≤ t
    · exact c
    · have := hf t.toNat (by omega)
      rw [show ((t.toNat : Nat) : Int) = t by omega] at this
      simp only [hw, beq_self_eq_true, Bool.not_true] at this
      cases this
/-- a leap word turned is a leap word -/
theorem lw_rot {h n : Int} {j : Nat} (h0 : 0 ≤ h) (n1 : 1 ≤ n) (hj : (j : Int) < n) : (lw h n 0 n.toNat).drop j ++ (lw h n 0 n.toNat).take j = lw h n (((j : Int) * h) % n) n.toNat := by
  have e := Int.mul_ediv_add_emod ((j : Int) * h) n
  generalize ((j : Int) * h) / n = q at e
  generalize hr : ((j : Int) * h) % n = r at *
  have l1 : ((lw h n 0 n.toNat).drop j).length = n.toNat - j := by rw [List.length_drop, lw_len]
  refine List.ext_getElem? fun i => ?_
  by_cases c : i < n.toNat
  · rw [lw_at c]
    by_cases c2 : i < n.toNat - j
    · rw [List.getElem?_append_left (by rw [l1]; exact c2), List.getElem?_drop, lw_at (by omega)]
      have a1 : ((j + i : Nat) : Int) * h + 0 = n * q + ((i : Int) * h + r) := by
        rw [show ((j + i : Nat) : Int) = (j : Int) + i by omega, Int.add_mul, ← e]
        omega
      have a2 : (((j + i : Nat) : Int) + 1) * h + 0 = n * q + (((i : Int) + 1) * h + r) := by
        rw [show ((j + i : Nat) : Int) + 1 = (j : Int) + ((i : Int) + 1) by omega, Int.add_mul, ← e]
        omega
      rw [a1, a2, div_add n1, div_add n1]
      congr 1
      omega
    · rw [List.getElem?_append_right (by rw [l1]; omega), l1, List.getElem?_take, if_pos (by omega), lw_at (by omega)]
      have ei : ((i - (n.toNat - j) : Nat) : Int) = (i : Int) + j - n := by omega
      have a1 : ((i - (n.toNat - j) : Nat) : Int) * h + 0 = n * (q - h) + ((i : Int) * h + r) := by
        rw [ei, Int.sub_mul, Int.add_mul, ← e, Int.mul_sub]
        omega
      have a2 : (((i - (n.toNat - j) : Nat) : Int) + 1) * h + 0 = n * (q - h) + (((i : Int) + 1) * h + r) := by
        rw [ei, show (i : Int) + j - n + 1 = ((i : Int) + 1) + j - n by omega, Int.sub_mul, Int.add_mul, ← e, Int.mul_sub]
        omega
      rw [a1, a2, div_add n1, div_add n1]
      congr 1
      omega
  · rw [List.getElem?_eq_none (by rw [List.length_append, l1, List.length_take, lw_len]; omega), List.getElem?_eq_none (by rw [lw_len]; omega)]
theorem wv_set {w : List Int} {i : Nat} {x : Int} (wv : Wv w) (hx : x = 0 ∨ x = 1) : Wv (w.set i x) := by
  refine ⟨fun y hy => ?_, by rw [List.length_set]; exact wv.2.1, by rw [List.length_set]; exact wv.2.2⟩
  rcases List.mem_or_eq_of_mem_set hy with z | rfl
  · exact wv.1 y z
  · exact hx
theorem cut_all {xs : List V} {lo hi : Option Int} (h : HT.sIx xs.length 0 lo = 0 ∧ HT.sIx xs.length xs.length hi = xs.length) : cutV xs lo hi = xs := by
  unfold cutV
  rw [h.1, h.2, List.drop_zero, Nat.sub_zero, List.take_length]
theorem sl_get {a : Addr} {xs : List V} {lo hi : Option Int} {H : Hp} {Q : VK} (o : ob K H a = some (.tup xs)) (k : ∀ p H', Same H H' → ob K H' p = some (.tup (cutV xs lo hi)) → Q (.ref p) H') : rSlA K (.ref a) lo hi H fun v H' => (∀ x, H' x ≠ none → K.lookup x = none) → Q v H' :=
  ⟨a, xs, rfl, ob_tup o, fun h _ => k a H (Same.refl H) (by rw [cut_all h]; exact o), fun _ p hp fr => k p _ (Same.new hp _) ((ob_none (fr p (by rw [upd_same]; simp))).trans upd_same)⟩
theorem cat_get {a b : Addr} {xs ys : List V} {H : Hp} {Q : VK} (o : ob K H a = some (.tup xs)) (o' : ob K H b = some (.tup ys)) (hz : xs.length + ys.length ≤ 1000) (k : ∀ p H', Same H H' → ob K H' p = some (.tup (xs ++ ys)) → Q (.ref p) H') : rCatA K (.ref a) (.ref b) H fun v H' => (∀ x, H' x ≠ none → K.lookup x = none) → Q v H' :=
  ⟨a, b, xs, ys, rfl, rfl, ob_tup o, ob_tup o', by rw [sizeLine_eq]; omega, fun h _ => k b H (Same.refl H) (by rw [h]; exact o'), fun _ h _ => k a H (Same.refl H) (by rw [h, List.append_nil]; exact o), fun _ _ p hp fr => k p _ (Same.new hp _) ((ob_none (fr p (by rw [upd_same]; simp))).trans upd_same)⟩
theorem Sto.mut {H0 H' : Hp} {s l : Addr} {o : HO} (st0 : Sto K H0 s) (hl : H0 l = none) (kp : Kp s H0 H') (st : Sto K H' s) : Sto K (upd H' l o) s ∧ Kp s H0 (upd H' l o) := by
  obtain ⟨sc0, ns0, i0, b0, c0, d0, e0, f0, g1, g2, g3⟩ := st0
  obtain ⟨sc, ns, i, b, c, d, e, f, h1, h2, h3⟩ := st
  obtain ⟨r', hr⟩ := kp.2 _ _ g1
  rw [h1] at hr
  cases hr
  have n1 : s ≠ l := by rintro rfl; rw [g1] at hl; cases hl
  have n2 : sc0 ≠ l := by rintro rfl; rw [g2] at hl; cases hl
  refine ⟨⟨sc0, ns, i, b, c, d, e, f, by rw [upd_ne n1]; exact h1, by rw [upd_ne n2]; exact h2, h3⟩, fun b o n e => ?_, fun x r e => ?_⟩
  · rw [upd_ne (ne_of_none e hl)]
    exact kp.1 b o n e
  · obtain ⟨r2, hr2⟩ := kp.2 x r e
    exact ⟨r2, by rw [upd_ne n1]; exact hr2⟩
theorem Wd.put {H : Hp} {a D : Addr} {w : List Int} {ys : List V} {o : HO} (h : Wd K H a w) (hD : H D = some (.lst ys)) : Wd K (upd H D o) a w := by
  unfold Wd ob at h ⊢
  split
  · rename_i z hz
    rw [hz] at h
    exact h
  · rename_i hz
    rw [hz] at h
    rw [upd_ne (by rintro rfl; rw [hD] at h; cases h)]
    exact h
def WsM (K : PySem.W.Frag) (s : Addr) (h n : Int) (H : Hp) (σ : L2.St) (H' : Hp) : Prop := ∃ (L : Addr) (ts : List Int), σ = [some (V.ref s), some (.int h), some (.int n), some (.ref L), none, none, none, none, none] ∧ H' L = some (.lst (ts.map V.int)) ∧ (∀ t ∈ ts, 0 ≤ t ∧ t < n) ∧ Kp s H H' ∧ Sto K H' s
def spWs (K : PySem.W.Frag) : Sp := fun vs H Q _ => ∃ (s : Addr) (h n : Int), vs = [.ref s, .int h, .int n] ∧ Sto K H s ∧ 0 ≤ h ∧ h ≤ n ∧ 1 ≤ n ∧ n ≤ 100 ∧ ∀ H', Kp s H H' → Sto K H' s → Q (.bl true) H'
abbrev sWs : Stmt := topS 57
theorem scWs : FnScope ["_law_store_here", "_law_longs_here", "_law_length", "_law_turns", "_law_turn", "_law_word", "_law_spot", "_law_other", "_law_row"] ["_law_store_here", "_law_longs_here", "_law_length"] (defScope sWs) := ⟨rfl, rfl, rfl, by decide +kernel, rfl, by decide +kernel, by decide +kernel⟩
theorem k_Ws (zU : mg "sum" = none) (lwk : LwK P w K mg base 4 "leap_word" ["longs", "length", "turn"] ["turn"] (spLW K) (.int 0)) (T : Bt K mg) (D : Dfn K mg "_law_words_hold" sWs ["_law_store_here", "_law_longs_here", "_law_length"]) (d__law_take : Kn P w K mg base 2 "_law_take" ["_law_store_here", "_law_many"] (spTake K)) (d__law_alike : Kn P w K mg base 4 "_law_alike" ["_law_told", "_law_due"] (spAlike K 3)) (d__law_added_up : Kn P w K mg base 1 "_law_added_up" ["_law_longs_here", "_law_length", "_law_turn"] (spAdd K)) (d__law_word_holds : Kn P w K mg base 6 "_law_word_holds" ["_law_word"] (spWH K)) (d_even_turn : Kn P w K mg base 4 "even_turn" ["word"] (spEt K)) (d_is_even_word : Kn P w K mg base 5 "is_even_word" ["word"] (spIE K)) : Kn P w K mg base 7 "_law_words_hold" ["_law_store_here", "_law_longs_here", "_law_length"] (spWs K) := by
  refine Kn.mk' D scWs (fun vs H Q E h => ?_) (fun f cdv A outer s H vs Q E hr h => ?_)
  · obtain ⟨s, h, n, rfl, _⟩ := h
    rfl
  obtain ⟨s, h, n, rfl, hS, h0, h1, n1, n2, k⟩ := h
  refine ⟨_, (pss_cons (ps_set (i := 3) scWs.nd rfl (.inl rfl) (pe_fr (pe_listRg rfl (by rfl) T.b_list (prg_1 (by rfl) T.b_range (pv 2)))))
      (C8.pss_cut (ps_if (pt_cmpR op_gt (pv 2) pe_int (nomark _)) (pss_one (ps_set (i := 3) scWs.nd rfl (.inl rfl) (pe_ls (pa_cons pe_int (pa_cons (pe_op op_sub (pv 2) pe_int) (pa_cons (pe_kn d__law_take hr (by rfl) (pa_cons (pv 0) (pa_cons (pv 2) pa_nil))) (pa_cons (pe_kn d__law_take hr (by rfl) (pa_cons (pv 0) (pa_cons (pv 2) pa_nil))) pa_nil))))))) pss_nil)
      (C8.pss_cut (ps_for PassesOwn.never rfl (pi_list (pv 3)) (pg_name (i := 4) scWs.nd rfl (.inl rfl)) (pss_cons (ps_set (i := 5) scWs.nd rfl (.inl rfl) (pe_knK3 (LwK.k3 lwk) hr (by rfl) (pa_cons (pv 1) (pa_cons (pv 2) pa_nil)) (pk_cons (pv 4) pk_nil)))
      (pss_cons (ps_if (PW.pt (pw_or (pt_not (pt_val (pe_kn d__law_alike hr (by rfl) (pa_cons (pv 5) (pa_cons (pe_kn d__law_added_up hr (by rfl) (pa_cons (pv 1) (pa_cons (pv 2) (pa_cons (pv 4) pa_nil)))) pa_nil))))) (pw_or1 (pt_cmpR op_ne (pe_callB (cr_sumT rfl) (by rfl) zU (by decide +kernel) (pa_cons (pv 5) pa_nil)) (pv 1) (nomark _))))) (pss_one (ps_ret pe_bl)) pss_nil)
      (pss_one (ps_if (PW.pt (pw_or (pt_not (pt_val (pe_kn d__law_word_holds hr (by rfl) (pa_cons (pv 5) pa_nil)))) (pw_or1 (pt_cmpR op_gt (pe_kn d_even_turn hr (by rfl) (pa_cons (pv 5) pa_nil)) (pv 4) (nomark _))))) (pss_one (ps_ret pe_bl)) pss_nil)))))
      (pss_cons (ps_set (i := 6) scWs.nd rfl (.inl rfl) (pe_kn d__law_take hr (by rfl) (pa_cons (pv 0) (pa_cons (pv 2) pa_nil))))
      (pss_cons (ps_set (i := 7) scWs.nd rfl (.inl rfl) (pe_kn d__law_take hr (by rfl) (pa_cons (pv 0) (pa_cons (pv 2) pa_nil))))
      (pss_cons (ps_set (i := 5) scWs.nd rfl (.inl rfl) (pe_kn1 (LwK.d1 lwk) hr (by rfl) (pa_cons (pv 1) (pa_cons (pv 2) pa_nil))))
      (pss_cons (ps_if (PW.pt (pw_or (pt_not (pt_val (pe_kn d__law_alike hr (by rfl) (pa_cons (pv 5) (pa_cons (pe_kn d__law_added_up hr (by rfl) (pa_cons (pv 1) (pa_cons (pv 2) (pa_cons pe_int pa_nil)))) pa_nil))))) (pw_or1 (pt_not (pt_val (pe_kn d__law_word_holds hr (by rfl) (pa_cons (pe_fr (pe_op op_catA (pe_fr (pe_slice sl_tupA (pv 5) (po_some (pv 6)) po_none)) (pe_fr (pe_slice sl_tupA (pv 5) po_none (po_some (pv 6)))))) pa_nil))))))) (pss_one (ps_ret pe_bl)) pss_nil)
      (pss_cons (ps_if (pt_cmpR op_notBl (pe_kn d_is_even_word hr (by rfl) (pa_cons (pe_fr (pe_op op_catA (pe_fr (pe_slice sl_tupA (pv 5) (po_some (pv 6)) po_none)) (pe_fr (pe_slice sl_tupA (pv 5) po_none (po_some (pv 6)))))) pa_nil)) pe_bl (nomark _)) (pss_one (ps_ret pe_bl)) pss_nil)
      (pss_cons (ps_set (i := 8) scWs.nd rfl (.inl rfl) (pe_fr (pe_callTy call_list_of (by rfl) T.b_list (by decide +kernel) (pa_cons (pv 5) pa_nil))))
      (pss_cons (ps_asg (pe_tp (pa_cons (pe_ix ix_any (pv 8) (pv 7) (fun _ _ => rfl)) (pa_cons (pe_ix ix_any (pv 8) (pv 6) (fun _ _ => rfl)) pa_nil))) (pg_tp 2 (by rfl) (pgs_cons (pg_sub (pv 8) (pv 6) set_any) (pgs_cons (pg_sub (pv 8) (pv 7) set_any) pgs_nil))))
      (pss_cons (ps_if (pt_not (pt_val (pe_kn d__law_word_holds hr (by rfl) (pa_cons (pe_fr (pe_callTy call_tuple_of (by rfl) T.b_tuple (by decide +kernel) (pa_cons (pv 8) pa_nil))) pa_nil)))) (pss_one (ps_ret pe_bl)) pss_nil)
      (pss_cons (ps_asg (pe_op op_sub pe_int (pe_ix ix_any (pv 8) (pv 6) (fun _ _ => rfl))) (pg_sub (pv 8) (pv 6) set_any))
      (pss_one (ps_ret (pe_and (pe_kn d__law_word_holds hr (by rfl) (pa_cons (pe_fr (pe_callTy call_tuple_of (by rfl) T.b_tuple (by decide +kernel) (pa_cons (pv 8) pa_nil))) pa_nil)) (pe_and (pe_cmpR op_is_bl (pe_kn d_is_even_word hr (by rfl) (pa_cons (pv 8) pa_nil)) pe_bl (nomark _)) (pe_one (pe_not (pe_kn d_is_even_word hr (by rfl) (pa_cons (pe_fr (pe_op op_catA (pv 5) (pe_tp (pa_cons pe_int pa_nil)))) pa_nil)))))))))))))))))))), ?_⟩
  simp only [cx_K]
  refine ⟨_, rfl, n, rfl, RgOk.of_le (by decide) (by omega) (by decide) (by omega), fun L hL frL => ?_⟩
  have sL := Same.new hL (.lst (rgV 0 n))
  have eL : upd H L (.lst (rgV 0 n)) L = some (.lst (rgV 0 n)) := upd_same
  have nL := hS.ne' hL
  generalize upd H L (.lst (rgV 0 n)) = H1 at sL eL ⊢
  clear frL
  have st1 := hS.same sL
  have er : rgV 0 n = ((List.range (n - 0).toNat).map fun i : Nat => (0 : Int) + (i : Int)).map V.int := by
    unfold rgV
    rw [List.map_map]
    rfl
  refine ⟨WsM K s h n H, ?_, ?_⟩
  · refine ⟨_, rfl, _, _, rfl, rfl, _, rfl, ite2 (fun _ => ?_) (fun _ => ?_)⟩
    · refine ⟨_, rfl, _, _, rfl, rfl, ?_⟩
      refine ⟨_, rfl, _, rfl, s, n, rfl, st1, by omega, fun r1 H2 a0 a1 kp2 st2 => ?_⟩
      refine ⟨_, rfl, _, rfl, s, n, rfl, st2, by omega, fun r2 H3 b0 b1 kp3 st3 => ?_⟩
      refine ⟨sz2 (by show 4 ≤ 100; decide), fun L2' hL2 kL2 => ?_⟩
      have s4 := Same.new hL2 (.lst [.int 0, .int (n - 1), .int r1, .int r2])
      refine ⟨L2', [0, n - 1, r1, r2], rfl, upd_same, fun t ht => ?_, (Kp.same sL).trans (kp2.trans (kp3.trans (Kp.same s4))), st3.same s4⟩
      simp only [List.mem_cons, List.not_mem_nil, or_false] at ht
      omega
    · refine ⟨L, _, rfl, by rw [← er]; exact eL, fun t ht => ?_, Kp.same sL, st1⟩
      obtain ⟨i, hi, rfl⟩ := List.mem_map.mp ht
      have := List.mem_range.mp hi
      omega
  · rintro σ H2 ⟨L, ts, rfl, eL, hts, kp2, st2⟩
    refine ⟨fun σ H' => ∃ (L : Addr) (x4 x5 : Option V), σ = [some (V.ref s), some (.int h), some (.int n), some (.ref L), x4, x5, none, none, none] ∧ Kp s H H' ∧ Sto K H' s, ?_, ?_⟩
    · refine ⟨_, rfl, L, rfl, ⟨_, .of eL⟩, forI_list (xs := ts.map V.int) (fun i σ H' => ∃ x4 x5, σ = [some (V.ref s), some (.int h), some (.int n), some (.ref L), x4, x5, none, none, none] ∧ Same H2 H') ⟨none, none, rfl, Same.refl _⟩ ?_ ?_ ?_⟩
      · rintro i σ H' _ ⟨x4, x5, rfl, sD⟩
        exact .of (sD _ _ eL)
      · rintro i v σ H' hv ⟨x4, x5, rfl, sD⟩
        obtain ⟨t, ht, rfl⟩ := List.mem_map.mp (List.mem_of_getElem? hv)
        obtain ⟨t0, t1⟩ := hts t ht
        have wv := lw_wv (t := t) h0 h1 n1 n2
        have wl : (lw h n t n.toNat).length ≤ 1000 := by rw [lw_len]; omega
        obtain ⟨u, eu, ut⟩ := et_lw h0 h1 n1 n2 t0 t1
        have ev : etV (lw h n t n.toNat) = .int u := by unfold etV; rw [eu]
        refine ⟨_, rfl, _, rfl, _, rfl, h, n, t, rfl, h0, h1, n1, n2, t0, t1, fun a H3 s3 _ hw => ?_⟩
        refine ⟨_, rfl, _, rfl, _, rfl, _, rfl, h, n, t, rfl, h0, h1, n1, n2, t0, t1, fun b H4 s4 _ hb => ⟨_, _, rfl, (eqa_wd (hw.same s4) hb wl).up, fun H5 s5 => ⟨_, rfl, if_no rfl ?_⟩⟩⟩
        have hw5 := (hw.same s4).same s5
        refine ⟨_, rfl, a, _, rfl, ob_tup hw5, _, rfl, rfl, _, rfl, if_no (by rw [lw_total n1 t0 t1, decide_eq_true rfl]; rfl) ?_⟩
        refine ⟨_, rfl, a, _, rfl, hw5, wv, fun H6 s6 => ⟨_, rfl, if_no rfl ?_⟩⟩
        refine ⟨_, rfl, a, _, rfl, hw5.same s6, wv, fun H7 s7 => ?_⟩
        rw [ev]
        refine ⟨_, rfl, _, _, rfl, rfl, _, rfl, if_no (decide_eq_false (by omega)) ?_⟩
        exact ⟨_, _, rfl, sD.trans (s3.trans (s4.trans (s5.trans (s6.trans s7))))⟩
      · rintro σ H' ⟨x4, x5, rfl, sD⟩
        exact ⟨L, x4, x5, rfl, kp2.trans (Kp.same sD), st2.same sD⟩
    · rintro σ H3 ⟨L, x4, x5, rfl, kp3, st3⟩
      refine ⟨_, rfl, _, rfl, s, n, rfl, st3, by omega, fun r1 H4 a0 a1 kp4 st4 => ?_⟩
      obtain ⟨j, rfl⟩ := Int.eq_ofNat_of_zero_le a0
      refine ⟨_, rfl, _, rfl, s, n, rfl, st4, by omega, fun r2 H5 b0 b1 kp5 st5 => ?_⟩
      obtain ⟨i, rfl⟩ := Int.eq_ofNat_of_zero_le b0
      have hj : (j : Int) < n := by omega
      have hi : (i : Int) < n := by omega
      have kpA := kp3.trans (kp4.trans kp5)
      clear kp3 kp4 kp5 st3 st4 kp2 st2 eL hts
      have z1 : (0 : Int) < n := by omega
      have wv := lw_wv (t := 0) h0 h1 n1 n2
      have wl : (lw h n 0 n.toNat).length ≤ 100 := by rw [lw_len]; omega
      have ln : (lw h n 0 n.toNat).length = n.toNat := lw_len ..
      have rot := lw_rot h0 n1 hj
      have m0 := Int.emod_nonneg ((j : Int) * h) (show n ≠ 0 by omega)
      have m1 := Int.emod_lt_of_pos ((j : Int) * h) (show 0 < n by omega)
      have wvr := lw_wv (t := ((j : Int) * h) % n) h0 h1 n1 n2
      obtain ⟨u, eu, _⟩ := et_lw h0 h1 n1 n2 m0 m1
      refine ⟨_, rfl, _, rfl, h, n, 0, rfl, h0, h1, n1, n2, by decide, z1, fun a H6 s6 _ hw => ?_⟩
      refine ⟨_, rfl, _, rfl, _, rfl, h, n, 0, rfl, h0, h1, n1, n2, by decide, z1, fun b H7 s7 _ hb => ⟨_, _, rfl, (eqa_wd (hw.same s7) hb (by omega)).up, fun H8 s8 => ⟨_, rfl, if_no rfl ?_⟩⟩⟩
      have hw8 := (hw.same s7).same s8
      have st8 := st5.same (s6.trans (s7.trans s8))
      have kp8 := kpA.trans (Kp.same (s6.trans (s7.trans s8)))
      clear hw hb s6 s7 s8 kpA st5
      refine ⟨_, rfl, _, rfl, _, rfl, ?_⟩
      simp only [tNoPart]
      change rSlA K (.ref a) (some (j : Int)) none H8 _
      refine sl_get hw8 fun p1 J1 t1 o1 => ?_
      rw [cut_from _ j (by rw [List.length_map]; omega)] at o1
      refine ⟨_, rfl, ?_⟩
      simp only [tNoPart]
      refine ⟨_, rfl, _, rfl, ?_⟩
      change rSlA K (.ref a) none (some (j : Int)) J1 _
      refine sl_get (hw8.same t1) fun p2 J2 t2 o2 => ?_
      rw [cut_to _ j (by rw [List.length_map]; omega)] at o2
      change rCatA K (.ref p1) (.ref p2) J2 _
      refine cat_get (ob_same t2 o1) o2 (by simp only [List.length_drop, List.length_take, List.length_map]; omega) fun p3 J3 t3 o3 => ?_
      have hr1 : Wd K J3 p3 (lw h n (((j : Int) * h) % n) n.toNat) := by
        unfold Wd
        rw [o3, ← rot, List.map_append, List.map_drop, List.map_take]
      have t13 := t1.trans (t2.trans t3)
      refine ⟨p3, _, rfl, hr1, wvr, fun H9 s9 => ⟨_, rfl, if_no rfl ?_⟩⟩
      have hw9 := hw8.same (t13.trans s9)
      have st9 := st8.same (t13.trans s9)
      have kp9 := kp8.trans (Kp.same (t13.trans s9))
      clear hr1 o1 o2 o3 t1 t2 t3 t13 s9 hw8 st8 kp8
      refine ⟨_, rfl, _, rfl, _, rfl, ?_⟩
      simp only [tNoPart]
      change rSlA K (.ref a) (some (j : Int)) none H9 _
      refine sl_get hw9 fun p1 G1 t1 o1 => ?_
      rw [cut_from _ j (by rw [List.length_map]; omega)] at o1
      refine ⟨_, rfl, ?_⟩
      simp only [tNoPart]
      refine ⟨_, rfl, _, rfl, ?_⟩
      change rSlA K (.ref a) none (some (j : Int)) G1 _
      refine sl_get (hw9.same t1) fun p2 G2 t2 o2 => ?_
      rw [cut_to _ j (by rw [List.length_map]; omega)] at o2
      change rCatA K (.ref p1) (.ref p2) G2 _
      refine cat_get (ob_same t2 o1) o2 (by simp only [List.length_drop, List.length_take, List.length_map]; omega) fun p3 G3 t3 o3 => ?_
      have hr2 : Wd K G3 p3 (lw h n (((j : Int) * h) % n) n.toNat) := by
        unfold Wd
        rw [o3, ← rot, List.map_append, List.map_drop, List.map_take]
      have t13 := t1.trans (t2.trans t3)
      refine ⟨.ref p3, rfl, .inr ⟨p3, _, rfl, hr2, wvr, fun HA sA => ?_⟩⟩
      rw [eu]
      refine ⟨true, true, rfl, rfl, _, rfl, if_no rfl ?_⟩
      have hwA := hw9.same (t13.trans sA)
      have stA := st9.same (t13.trans sA)
      have kpA := kp9.trans (Kp.same (t13.trans sA))
      clear hr2 o1 o2 o3 t1 t2 t3 t13 sA hw9 st9 kp9
      refine ⟨_, rfl, a, _, rfl, .inr (ob_tup hwA), fun D hD frD => ?_⟩
      have sD := Same.new hD (.lst ((lw h n 0 n.toNat).map V.int))
      have eD : upd HA D (.lst ((lw h n 0 n.toNat).map V.int)) D = some (.lst ((lw h n 0 n.toNat).map V.int)) := upd_same
      have kD : K.lookup D = none := frD D (by rw [upd_same]; simp)
      generalize hB : upd HA D (.lst ((lw h n 0 n.toNat).map V.int)) = HB at sD eD ⊢
      clear frD
      generalize hwv : lw h n 0 n.toNat = W at *
      have jl : j < W.length := by omega
      have il : i < W.length := by omega
      have wi := wv.1 W[i] (List.getElem_mem il)
      have wj := wv.1 W[j] (List.getElem_mem jl)
      have oD : ob K HB D = some (.lst (W.map V.int)) := (ob_none kD).trans eD
      have ei : atI (W.map V.int) i = some (.int W[i]) := atI_nat (by rw [List.getElem?_map, List.getElem?_eq_getElem il]; rfl)
      have ej : atI (W.map V.int) j = some (.int W[j]) := atI_nat (by rw [List.getElem?_map, List.getElem?_eq_getElem jl]; rfl)
      refine ⟨_, rfl, _, rfl, D, i, rfl, rfl, _, itsO_ofL oD, _, ei, _, rfl, _, rfl, D, j, rfl, rfl, _, itsO_ofL oD, _, ej, sz2 (by show 2 ≤ 100; decide), fun T hT kT => ?_⟩
      have sT := Same.new hT (.tup [.int W[i], .int W[j]])
      have oT := ob_new (K := K) (H := HB) (o := .tup [.int W[i], .int W[j]]) kT
      have eD2 := sT _ _ eD
      generalize upd HB T (.tup [.int W[i], .int W[j]]) = HC at sT oT eD2 ⊢
      refine ⟨T, rfl, _, oT, rfl, ?_⟩
      have sl1 : setI (W.map V.int) (j : Int) (.int W[i]) = some ((W.set j W[i]).map V.int) := setI_nat (by rw [List.length_map]; exact jl) (by rw [List.map_set])
      have sl2 : setI ((W.set j W[i]).map V.int) (i : Int) (.int W[j]) = some (((W.set j W[i]).set i W[j]).map V.int) := setI_nat (by rw [List.length_map, List.length_set]; exact il) (by simp [List.map_set])
      obtain ⟨m1, p1⟩ := stA.mut (o := .lst ((W.set j W[i]).map V.int)) hD (Kp.same (sD.trans sT)) (stA.same (sD.trans sT))
      obtain ⟨m2, p2⟩ := stA.mut (o := .lst (((W.set j W[i]).set i W[j]).map V.int)) hD p1 m1
      refine ⟨_, _, rfl, _, rfl, _, rfl, D, j, rfl, rfl, _, eD2, _, sl1, ?_⟩
      refine ⟨_, _, rfl, _, rfl, _, rfl, D, i, rfl, rfl, _, upd_same, _, sl2, rfl, ?_⟩
      have hwD := (((hwA.same (sD.trans sT)).put (o := .lst ((W.set j W[i]).map V.int)) eD2).put (o := .lst (((W.set j W[i]).set i W[j]).map V.int)) upd_same)
      have eE : upd (upd HC D (.lst ((W.set j W[i]).map V.int))) D (.lst (((W.set j W[i]).set i W[j]).map V.int)) D = some (.lst (((W.set j W[i]).set i W[j]).map V.int)) := upd_same
      have wv2 : Wv ((W.set j W[i]).set i W[j]) := wv_set (wv_set wv wi) wj
      generalize upd (upd HC D (.lst ((W.set j W[i]).map V.int))) D (.lst (((W.set j W[i]).set i W[j]).map V.int)) = HE at m2 p2 hwD eE ⊢
      have l2 : ((W.set j W[i]).set i W[j]).length = W.length := by rw [List.length_set, List.length_set]
      generalize (W.set j W[i]).set i W[j] = W2 at wv2 eE l2 ⊢
      have kpE := kpA.trans p2
      clear sl1 sl2 m1 p1 eD2 oT sT ei ej oD eD sD hwA kpE hB wi wj
      refine ⟨_, rfl, D, _, rfl, .inl ⟨.of eE, fun p hp frp => ?_⟩⟩
      have sp := Same.new hp (.tup (W2.map V.int))
      have op : Wd K (upd HE p (.tup (W2.map V.int))) p W2 := (ob_none (frp p (by rw [upd_same]; simp))).trans upd_same
      generalize upd HE p (.tup (W2.map V.int)) = HF at sp op ⊢
      refine ⟨p, _, rfl, op, wv2, fun HG sG => ⟨_, rfl, if_no rfl ?_⟩⟩
      have eG := sG _ _ (sp _ _ eE)
      have hwG := (hwD.same sp).same sG
      have stG := (m2.same sp).same sG
      have kpG := p2.trans (Kp.same (sp.trans sG))
      clear sG sp op hp frp m2 p2 hwD eE
      have jl2 : j < W2.length := by omega
      have oG : ob K HG D = some (.lst (W2.map V.int)) := (ob_none kD).trans eG
      have ej : atI (W2.map V.int) j = some (.int W2[j]) := atI_nat (by rw [List.getElem?_map, List.getElem?_eq_getElem jl2]; rfl)
      have wj := wv2.1 W2[j] (List.getElem_mem jl2)
      have sl3 : setI (W2.map V.int) (j : Int) (.int (1 - W2[j])) = some ((W2.set j (1 - W2[j])).map V.int) := setI_nat (by rw [List.length_map]; exact jl2) (by rw [List.map_set])
      refine ⟨_, rfl, _, rfl, D, j, rfl, rfl, _, itsO_ofL oG, _, ej, _, _, rfl, rfl, ?_⟩
      refine ⟨_, rfl, _, rfl, D, j, rfl, rfl, _, eG, _, sl3, ?_⟩
      obtain ⟨m3, p3⟩ := stA.mut (o := .lst ((W2.set j (1 - W2[j])).map V.int)) hD kpG stG
      have wv3 : Wv (W2.set j (1 - W2[j])) := wv_set wv2 (by omega)
      have hwH := hwG.put (o := .lst ((W2.set j (1 - W2[j])).map V.int)) eG
      have eH : upd HG D (.lst ((W2.set j (1 - W2[j])).map V.int)) D = some (.lst ((W2.set j (1 - W2[j])).map V.int)) := upd_same
      generalize upd HG D (.lst ((W2.set j (1 - W2[j])).map V.int)) = HH at m3 p3 hwH eH ⊢
      generalize W2.set j (1 - W2[j]) = W3 at wv3 eH ⊢
      have kpH := kpA.trans p3
      clear sl3 ej wj oG eG hwG stG kpG p3 stA hD
      refine ⟨_, rfl, D, _, rfl, .inl ⟨.of eH, fun p hp frp => ?_⟩⟩
      have sp := Same.new hp (.tup (W3.map V.int))
      have op : Wd K (upd HH p (.tup (W3.map V.int))) p W3 := (ob_none (frp p (by rw [upd_same]; simp))).trans upd_same
      generalize upd HH p (.tup (W3.map V.int)) = HI at sp op ⊢
      refine ⟨p, _, rfl, op, wv3, fun HJ sJ => ⟨_, rfl, if_yes rfl ?_⟩⟩
      have spJ := sp.trans sJ
      have oJ : ob K HJ D = some (.lst (W3.map V.int)) := (ob_none kD).trans (spJ _ _ eH)
      have tyD : tyN K HJ (.ref D) = some "list" := by rw [tyN_ref, oJ]; rfl
      refine ⟨_, rfl, .ref D, rfl, .inl ⟨.inl ⟨_, Kd.ty tyD, rfl, rfl⟩, fun HK sK => ?_⟩⟩
      refine ⟨false, false, rfl, rfl, _, rfl, if_yes rfl ?_⟩
      have hwK := (hwH.same spJ).same sK
      have stK := (m3.same spJ).same sK
      have kpK := kpH.trans (Kp.same (spJ.trans sK))
      clear sp op hp frp sJ spJ oJ tyD sK m3 hwH eH kpH
      refine ⟨_, rfl, sz2 (by show 1 ≤ 100; decide), fun q hq kq => ?_⟩
      have sq := Same.new hq (.tup [.int 2])
      have oq := ob_new (K := K) (H := HK) (o := .tup [.int 2]) kq
      generalize upd HK q (.tup [.int 2]) = HL at sq oq ⊢
      change rCatA K (.ref a) (.ref q) HL _
      refine cat_get (hwK.same sq) oq (by rw [List.length_map]; show W.length + 1 ≤ 1000; omega) fun p3 HM sM oM => ?_
      have bad : WdJ K HM (.ref p3) false := by
        have lx : (W.map V.int ++ [V.int 2]).length = W.length + 1 := by rw [List.length_append, List.length_map]; rfl
        by_cases c : 100 < W.length + 1
        · exact .inr ⟨p3, _, rfl, oM, .inl ⟨.inr (by omega), by omega, rfl⟩⟩
        · refine .inr ⟨p3, _, rfl, oM, .inr ⟨by omega, by omega, fun x hx => ?_, ?_⟩⟩
          · rcases List.mem_append.mp hx with z | z
            · obtain ⟨y, _, rfl⟩ := List.mem_map.mp z
              exact Wh.int y
            · rw [List.mem_singleton] at z
              subst z
              exact Wh.int 2
          · refine (List.all_eq_false.mpr ⟨V.int 2, List.mem_append_right _ (List.mem_singleton_self _), by decide⟩).symm
      refine ⟨.ref p3, rfl, .inl ⟨bad, fun HN sN => ⟨_, rfl, ?_⟩⟩⟩
      have sz := sq.trans (sM.trans sN)
      exact k HN (kpK.trans (Kp.same sz)) (stK.same sz)

end
end My

namespace My
open PySem PySem.Spec PyProof.Rows L2
section
variable {P : Program} {w : World} {K : PySem.W.Frag} {mg : Str → Option Value} {base : Heap}
end
/-! ### what a def that raises keeps -/
structure KnX (P : Program) (w : World) (K : PySem.W.Frag) (mg : Str → Option Value) (base : Heap) (k : Nat) (x : Str) (ps : List Str) (sp : Sp) : Prop where
  ex : ∃ f fd, mg x = some (.ref f) ∧ PySem.W.keepIn K (.ref f) = true ∧ Binds K fd ps [] ∧ FnOk P w K mg base (L2.CX P w) k f fd ps sp
theorem KnX.mk' {P : Program} {w : World} {K : PySem.W.Frag} {mg : Str → Option Value} {base : Heap} {x : Str} {st : Stmt} {N ps : List Str} {k : Nat} {sp : Sp} (D : Dfn K mg x st ps) (S : FnScope N ps (defScope st)) (len : ∀ vs H Q E, sp vs H Q E → vs.length = ps.length)
    (hbody : ∀ (f : Addr) (cdv : Value) (A : Around) (outer : List Env) (s : Shared) (H : Hp) (vs : List V) (Q : VK) (E : XK), Room k (A.deeper (envOfC x (defScope st) s.heap.objs.size f cdv)) → sp vs H Q E →
      ∃ t, PSs (cxOf (L2.CX P w) P w K mg base N x (defScope st) f cdv A outer s H E) (defBody st) t ∧ t { nx := fun _ H' => Q .non H', rt := Q } (start N vs) H) : KnX P w K mg base (k + 1) x ps sp := by
  obtain ⟨f, fd, F, m, b⟩ := D.ex
  exact ⟨f, fd, m, F.kp, b, F.okX S len (hbody f)⟩
section
variable {X : Cx}
theorem pe_knX {j k : Nat} {x : Str} {ps : List Str} {sp : Sp} {p pos : Pos} {e : Expr} {es : List Expr} {t : TA} {W : WX} (E : XK) (F : KnX X.prog X.w X.K X.mg X.base k x ps sp) (hr : Room j X.A) (hg : Gl X x) (tk : Takes X W) (hW : ∀ cls d σ H, E cls d H → W cls d σ H) (ha : PA X (e :: es) t) (hj : k ≤ j := by omega)
    (hdb : (x == ("__debug__" : Str)) = false := by decide) (he : starEach (e :: es) X.env = (false, eval e X.env) :: starEach es X.env := by rfl) (hpl : (backTo pos (starEach es X.env)).any (·.1) = false := by rfl) :
    PE X (.Call (.Name x p) (e :: es) [] pos) (tCall sp [] E t) := by
  obtain ⟨f, fd, m, kp, b, G⟩ := F.ex
  exact pe_call G (hr.mono hj) hg m kp b .nil (passes_call tk hW) ha hdb he hpl
end
/-! ### BadValue -/
structure BvT (K : PySem.W.Frag) (mg : Str → Option Value) (C : Addr) : Prop where
  g : mg "BadValue" = some (.ref C)
  ox : OexC K C
  no : PySem.W.findIn K (.ref C) "what" = some none
  ini : ∃ fI fd, PySem.W.findIn K (.ref C) "__init__" = some (some (.ref fI)) ∧ PySem.W.typeIn K (.ref fI) = some (.type "function") ∧ Fun K "__init__" "BadValue.__init__" (inClass (topS 4) 0) fI fd ∧ Binds K fd ["self", "what"] []
def spInit (C : Addr) : Sp := fun vs H Q _ => ∃ (a : Addr) (y : V), vs = [.ref a, y] ∧ H a = some (exo a C none) ∧ ∀ dx, H dx = none → dx ≠ a → Q .non (upd (upd H dx (exd dx [("what", y)])) a (exo a C (some dx)))
/-- an error of BadValue: its own dict d, what it names -/
def Bv (K : PySem.W.Frag) (C : Addr) (H : Hp) (E : XK) (y : V) : Prop := ∀ (d : Addr) (H' : Hp), Same H H' → H' d = some (.xd [("what", y)]) → E (.ref C) (some d) H'
def spRequireX (K : PySem.W.Frag) (C : Addr) : Sp := fun vs H _ E => ∃ y : V, vs = [.bl false, y] ∧ Bv K C H E y
section
variable {P : Program} {w : World} {K : PySem.W.Frag} {mg : Str → Option Value} {base : Heap}
abbrev sInitB : Stmt := inClass (topS 4) 0
theorem scInitB : FnScope ["self", "what"] ["self", "what"] (defScope sInitB) := ⟨rfl, rfl, rfl, by decide +kernel, rfl, by decide +kernel, by decide +kernel⟩
theorem ok_initB {C fI : Addr} {fd : FuncData} (B : BvT K mg C) (F : Fun K "__init__" "BadValue.__init__" sInitB fI fd) : FnOk P w K mg base CX0 1 fI fd ["self", "what"] (spInit C) := by
  refine F.ok scInitB (fun vs H Q E h => ?_) (fun cdv A outer s H vs Q E hr h => ?_)
  · obtain ⟨a, y, rfl, _⟩ := h
    rfl
  obtain ⟨a, y, rfl, ha, k⟩ := h
  refine ⟨_, pss_one (ps_ost (pv 0) (pv 1)), ?_⟩
  exact ⟨_, rfl, _, rfl, a, C, rfl, B.ox, B.no, .inl ⟨ha, k⟩⟩
theorem kx_Require {C : Addr} (B : BvT K mg C) (D : Dfn K mg "require" sRequire ["well_formed", "what"]) : KnX P w K mg base 3 "require" ["well_formed", "what"] (spRequireX K C) := by
  refine KnX.mk' D scRequire (fun vs H Q E h => ?_) (fun f cdv A outer s H vs Q E hr h => ?_)
  · obtain ⟨y, rfl, _⟩ := h
    rfl
  obtain ⟨y, rfl, k⟩ := h
  obtain ⟨fI, fd, iC, tI, F, b⟩ := B.ini
  refine ⟨_, (pss_one (ps_if (pt_not (pt_val (pv 0))) (pss_one (ps_raise rfl (takes_of rfl rfl rfl rfl) (pmk_oex B.ox iC tI (ok_initB B F) hr b .nil pass0 (by rfl) B.g (pa_cons (pv 1) pa_nil)))) pss_nil)), ?_⟩
  refine ⟨_, rfl, _, rfl, iteT ?_⟩
  refine ⟨_, rfl, by show 1 ≤ 1000; decide, fun a na => ⟨a, y, rfl, upd_same, fun dx ndx ne => ⟨rfl, dx, [("what", y)], upd_same, ?_, ?_, ?_⟩⟩⟩
  · rw [upd_ne ne, upd_same]
  · rw [upd_ne ne] at ndx
    exact ndx
  · rw [upd_ne ne] at ndx
    refine k dx _ (fun b o e => ?_) upd_same
    rw [upd_ne (ne_of_none e ndx), del_ne (ne_of_none e na), upd_ne (ne_of_none e na), upd_ne (ne_of_none e ndx), upd_ne (ne_of_none e na)]
    exact e
end
/-- X(), X an own exception class without own __init__ -/
theorem pmk_own0 {X : Cx} {C : Addr} {bmB : List Value} {B newId initId : String} {x : Str} {p pos : Pos} (F : ExcBaseFacts B newId initId bmB) (q : PySem.W.excIn X.K C bmB newId = true) (gC : X.mg x = some (.ref C)) (kC : PySem.W.keepIn X.K (.ref C) = true) (r : Raises X (.ref C)) (hg : Gl X x)
    (hdb : (x == ("__debug__" : Str)) = false := by decide) : PMk X (.Call (.Name x p) [] [] pos) (fun _ H Q => Q (.ref C) none H) := by
  intro pins s σ H Q I h
  refine wpAny_Call_Name_kw (ld_glob I hg gC ?_ hdb)
  refine PySem.W.callWith_K0 I.kIn kC ?_
  show wpAny _ _ (call (.ref C) []) _ _ _
  obtain ⟨bm, N, nm, qn, bs, hdct, sn, sub, ab, col, dd, k0, k1, k2, k3, k5, mN, hC, hN, hni, T⟩ := exc_obj I.kIn q
  refine wpAny_call_exc_subT F T hC hN hni (fun h' e hm => ?_) (by show 0 ≤ sizeLine; rw [sizeLine_eq]; omega)
  exact mk_of I hm r h (I.hok.gone hm.new)
/-- what the written part says of Mismatch -/
structure MiT (K : PySem.W.Frag) (mg : Str → Option Value) (M : Addr) : Prop where
  g : mg "Mismatch" = some (.ref M)
  kp : PySem.W.keepIn K (.ref M) = true
  ex : ∃ B newId initId bmB, ExcBaseFacts B newId initId bmB ∧ PySem.W.excIn K M bmB newId = true
  sb : PySem.W.subIn K (.ref M) (.type "BaseException") = some true
  ty : PySem.W.typeIn K (.ref M) = some (.type "type")
/-- a def whose last parameter may be given by keyword or left away, that raises -/
structure LwX (P : Program) (w : World) (K : PySem.W.Frag) (mg : Str → Option Value) (base : Heap) (k : Nat) (x : Str) (ps ks : List Str) (sp : Sp) (dv : V) : Prop where
  ex : ∃ f fd ds, mg x = some (.ref f) ∧ PySem.W.keepIn K (.ref f) = true ∧ KBinds K fd ps ks kw3 kw3 ∧ Vals [dv] ds ∧ Binds K fd ps ds ∧ FnOk P w K mg base (L2.CX P w) k f fd ps sp
section
variable {X : Cx}
theorem pe_lwX {j k : Nat} {x : Str} {ps ks : List Str} {sp : Sp} {dv : V} {p pos : Pos} {e : Expr} {es : List Expr} {kws : List Keyword} {t tk : TA} {W : WX} (E : XK) (F : LwX X.prog X.w X.K X.mg X.base k x ps ks sp dv) (hr : Room j X.A) (hg : Gl X x) (tkk : Takes X W) (hW : ∀ cls d σ H, E cls d H → W cls d σ H) (ha : PA X (e :: es) t) (hkw : PK X kws tk) (hj : k ≤ j := by omega)
    (hall : (backToKw pos (keywordEach kws X.env)).all (·.1.isSome) = true := by rfl) (hks : (backToKw pos (keywordEach kws X.env)).filterMap (·.1) = ks := by rfl)
    (hdb : (x == ("__debug__" : Str)) = false := by decide) (he : starEach (e :: es) X.env = (false, eval e X.env) :: starEach es X.env := by rfl)
    (hpl : ((backTo pos (starEach (e :: es) X.env)).any (·.1) || (backToKw pos (keywordEach kws X.env)).any (·.1.isNone)) = false := by rfl) :
    PE X (.Call (.Name x p) (e :: es) kws pos) (tCallK sp kw3 E t tk) := by
  obtain ⟨f, fd, ds, m, kp, b, _, _, G⟩ := F.ex
  exact pe_callK G (hr.mono hj) hg m kp b (passes_call tkk hW) ha hkw hall hks hdb he hpl
theorem pe_lwX1 {j k : Nat} {x : Str} {ps ks : List Str} {sp : Sp} {dv : V} {p pos : Pos} {e : Expr} {es : List Expr} {t : TA} {W : WX} (E : XK) (F : LwX X.prog X.w X.K X.mg X.base k x ps ks sp dv) (hr : Room j X.A) (hg : Gl X x) (tk : Takes X W) (hW : ∀ cls d σ H, E cls d H → W cls d σ H) (ha : PA X (e :: es) t) (hj : k ≤ j := by omega)
    (hdb : (x == ("__debug__" : Str)) = false := by decide) (he : starEach (e :: es) X.env = (false, eval e X.env) :: starEach es X.env := by rfl) (hpl : (backTo pos (starEach es X.env)).any (·.1) = false := by rfl) :
    PE X (.Call (.Name x p) (e :: es) [] pos) (tCall sp [dv] E t) := by
  obtain ⟨f, fd, ds, m, kp, _, v, b, G⟩ := F.ex
  exact pe_call G (hr.mono hj) hg m kp b v (passes_call tk hW) ha hdb he hpl
end
section
variable {P : Program} {w : World} {K : PySem.W.Frag} {mg : Str → Option Value} {base : Heap}
theorem Bv.same {C : Addr} {H H' : Hp} {E : XK} {y : V} (h : Bv K C H E y) (s : Same H H') : Bv K C H' E y := fun d H'' s2 hd => h d H'' (s.trans s2) hd
def spLWX (K : PySem.W.Frag) (C M : Addr) : Sp := fun vs H _ E => (∃ a b c, vs = [a, b, c] ∧ Wh K H a ∧ inB 0 100 a = false ∧ Bv K C H E (.str "longs"))
  ∨ (∃ (h : Int) (b c : V), vs = [.int h, b, c] ∧ 0 ≤ h ∧ h ≤ 100 ∧ Wh K H b ∧ inB 1 100 b = false ∧ Bv K C H E (.str "length"))
  ∨ (∃ (h n : Int) (c : V), vs = [.int h, .int n, c] ∧ 0 ≤ h ∧ h ≤ 100 ∧ 1 ≤ n ∧ n ≤ 100 ∧ Wh K H c ∧ inB 0 99 c = false ∧ Bv K C H E (.str "turn"))
  ∨ (∃ h n t : Int, vs = [.int h, .int n, .int t] ∧ 0 ≤ h ∧ h ≤ 100 ∧ 1 ≤ n ∧ n ≤ 100 ∧ 0 ≤ t ∧ t ≤ 99 ∧ (n < h ∨ n ≤ t) ∧ E (.ref M) none H)
def spEtX (K : PySem.W.Frag) (C : Addr) : Sp := fun vs H _ E => ∃ v, vs = [v] ∧ WdJ K H v false ∧ Bv K C H E (.str "word")
theorem inB_yes {a b n : Int} (h0 : a ≤ n) (h1 : n ≤ b) : inB a b (.int n) = true := by
  show (decide (a ≤ n) && decide (n ≤ b)) = true
  rw [decide_eq_true h0, decide_eq_true h1]
  rfl
theorem okx_LW {C M : Addr} {f : Addr} {fd : FuncData} {dvs : List V} {kws : List (Str × V)} {tkW : Tok} (gLW : mg "LONGEST_WORD" = some (.int 100 tkW)) (T : Bt K mg) (Mi : MiT K mg M) (F : FunD K "leap_word" "leap_word" (defArgs sLW) (defBody sLW) (defScope sLW) dvs kws f fd) (d_x : KnX P w K mg base 3 "require" ["well_formed", "what"] (spRequireX K C)) (d_require : Kn P w K mg base 1 "require" ["well_formed", "what"] spRequire) (d__is_longs : Kn P w K mg base 3 "_is_longs" ["value"] (spIsW 0 100 K)) (d__is_length : Kn P w K mg base 3 "_is_length" ["value"] (spIsW 1 100 K)) (d_is_whole_within : Kn P w K mg base 2 "is_whole_within" ["value", "least", "most"] (spWithin K)) : FnOk P w K mg base (L2.CX P w) 4 f fd ["longs", "length", "turn"] (spLWX K C M) := by
  refine F.ok scLW (fun vs H Q E h => ?_) (fun cdv A outer s H vs Q E hr h => ?_)
  · rcases h with ⟨a, b, c, rfl, _⟩ | ⟨h, b, c, rfl, _⟩ | ⟨h, n, c, rfl, _⟩ | ⟨h, n, t, rfl, _⟩ <;> rfl
  rcases h with ⟨a, b, c, rfl, ha, hb, k⟩ | ⟨h, b, c, rfl, h0, h1, hb, nb, k⟩ | ⟨h, n, c, rfl, h0, h1, n0, n1, hc, nc, k⟩ | ⟨h, n, t, rfl, h0, h1, n0, n1, t0, t1, hm, k⟩
  · refine ⟨_, (pss_cons (ps_expr (pe_knX E d_x hr (by rfl) (takes_of rfl rfl rfl rfl) (fun _ _ _ _ h => h) (pa_cons (pe_kn d__is_longs hr (by rfl) (pa_cons (pv 0) pa_nil)) (pa_cons pe_str pa_nil)))) (pss_cons ps_never (pss_cons ps_never (pss_cons ps_never (pss_one ps_never))))), ?_⟩
    refine ⟨_, rfl, a, rfl, ha, ?_⟩
    rw [hb]
    exact ⟨_, rfl, k⟩
  · refine ⟨_, (pss_cons (ps_expr (pe_kn d_require hr (by rfl) (pa_cons (pe_kn d__is_longs hr (by rfl) (pa_cons (pv 0) pa_nil)) (pa_cons pe_str pa_nil)))) (pss_cons (ps_expr (pe_knX E d_x hr (by rfl) (takes_of rfl rfl rfl rfl) (fun _ _ _ _ h => h) (pa_cons (pe_kn d__is_length hr (by rfl) (pa_cons (pv 1) pa_nil)) (pa_cons pe_str pa_nil)))) (pss_cons ps_never (pss_cons ps_never (pss_one ps_never))))), ?_⟩
    refine ⟨_, rfl, _, rfl, Wh.int h, ?_⟩
    rw [inB_yes h0 h1]
    refine ⟨_, rfl, ?_⟩
    refine ⟨_, rfl, b, rfl, hb, ?_⟩
    rw [nb]
    exact ⟨_, rfl, k⟩
  · refine ⟨_, (pss_cons (ps_expr (pe_kn d_require hr (by rfl) (pa_cons (pe_kn d__is_longs hr (by rfl) (pa_cons (pv 0) pa_nil)) (pa_cons pe_str pa_nil)))) (pss_cons (ps_expr (pe_kn d_require hr (by rfl) (pa_cons (pe_kn d__is_length hr (by rfl) (pa_cons (pv 1) pa_nil)) (pa_cons pe_str pa_nil)))) (pss_cons (ps_expr (pe_knX E d_x hr (by rfl) (takes_of rfl rfl rfl rfl) (fun _ _ _ _ h => h) (pa_cons (pe_kn d_is_whole_within hr (by rfl) (pa_cons (pv 2) (pa_cons pe_int (pa_cons (pe_op op_sub (pe_glob (v := .int 100) (by rfl) gLW ⟨_, rfl⟩) pe_int) pa_nil)))) (pa_cons pe_str pa_nil)))) (pss_cons ps_never (pss_one ps_never))))), ?_⟩
    refine ⟨_, rfl, _, rfl, Wh.int h, ?_⟩
    rw [inB_yes h0 h1]
    refine ⟨_, rfl, ?_⟩
    refine ⟨_, rfl, _, rfl, Wh.int n, ?_⟩
    rw [inB_yes n0 n1]
    refine ⟨_, rfl, ?_⟩
    refine ⟨_, rfl, _, _, rfl, rfl, c, 0, 99, rfl, hc, ?_⟩
    rw [nc]
    exact ⟨_, rfl, k⟩
  · obtain ⟨Bb, newId, initId, bmB, F0, q0⟩ := Mi.ex
    refine ⟨_, (pss_cons (ps_expr (pe_kn d_require hr (by rfl) (pa_cons (pe_kn d__is_longs hr (by rfl) (pa_cons (pv 0) pa_nil)) (pa_cons pe_str pa_nil)))) (pss_cons (ps_expr (pe_kn d_require hr (by rfl) (pa_cons (pe_kn d__is_length hr (by rfl) (pa_cons (pv 1) pa_nil)) (pa_cons pe_str pa_nil)))) (pss_cons (ps_expr (pe_kn d_require hr (by rfl) (pa_cons (pe_kn d_is_whole_within hr (by rfl) (pa_cons (pv 2) (pa_cons pe_int (pa_cons (pe_op op_sub (pe_glob (v := .int 100) (by rfl) gLW ⟨_, rfl⟩) pe_int) pa_nil)))) (pa_cons pe_str pa_nil)))) (pss_cons (ps_if (PW.pt (pw_or (pt_cmpR op_gt (pv 0) (pv 1) (nomark _)) (pw_or1 (pt_cmpR op_ge (pv 2) (pv 1) (nomark _))))) (pss_one (ps_raise rfl (takes_of rfl rfl rfl rfl) (pmk_own0 F0 q0 Mi.g Mi.kp (raises_own Mi.sb Mi.ty) (by rfl)))) pss_nil) (pss_one ps_never))))), ?_⟩
    refine ⟨_, rfl, _, rfl, Wh.int h, ?_⟩
    rw [inB_yes h0 h1]
    refine ⟨_, rfl, ?_⟩
    refine ⟨_, rfl, _, rfl, Wh.int n, ?_⟩
    rw [inB_yes n0 n1]
    refine ⟨_, rfl, ?_⟩
    refine ⟨_, rfl, _, _, rfl, rfl, .int t, 0, 99, rfl, Wh.int t, ?_⟩
    rw [inB_yes t0 t1]
    refine ⟨_, rfl, ?_⟩
    refine ⟨_, rfl, _, rfl, _, _, rfl, rfl, _, rfl, ?_⟩
    by_cases c : n < h
    · exact if_yes (decide_eq_true c) k
    · refine if_no (decide_eq_false c) ⟨_, rfl, _, rfl, _, _, rfl, rfl, _, rfl, if_yes (decide_eq_true (by omega)) k⟩
theorem kx_Et {C : Addr} (D : Dfn K mg "even_turn" sEt ["word"]) (d_x : KnX P w K mg base 3 "require" ["well_formed", "what"] (spRequireX K C)) (d_is_word : Kn P w K mg base 3 "is_word" ["value"] (spWord K)) : KnX P w K mg base 4 "even_turn" ["word"] (spEtX K C) := by
  refine KnX.mk' D scEt (fun vs H Q E h => ?_) (fun f cdv A outer s H vs Q E hr h => ?_)
  · obtain ⟨v, rfl, _⟩ := h
    rfl
  obtain ⟨v, rfl, hw, k⟩ := h
  refine ⟨_, (pss_cons (ps_expr (pe_knX E d_x hr (by rfl) (takes_of rfl rfl rfl rfl) (fun _ _ _ _ h => h) (pa_cons (pe_kn d_is_word hr (by rfl) (pa_cons (pv 0) pa_nil)) (pa_cons pe_str pa_nil)))) (pss_cons ps_never (pss_one ps_never))), ?_⟩
  exact ⟨_, rfl, v, false, rfl, hw, fun H' s' => ⟨_, rfl, k.same s'⟩⟩
end
end My

namespace My
open PySem PySem.Spec PyProof.Rows L2
section
variable {P : Program} {w : World} {K : PySem.W.Frag} {mg : Str → Option Value} {base : Heap}
end
/-- what the written part says of the errors' classes: C is BadValue, S SkyError, A the eleven by name -/
structure AskT (K : PySem.W.Frag) (mg : Str → Option Value) (C S : Addr) (A : String → Addr) : Prop where
  sky : mg "SkyError" = some (.ref S)
  exm : PySem.W.exmOne K (.ref C) (.ref S) = some true
  g : ∀ n ∈ ["BadValue", "Mismatch", "Still", "Endless", "TooMany", "NoName", "Taken", "Locked", "Looped", "Broken", "ReadError"], mg (Str.ofString n) = some (.ref (A n))
  k : ∀ n ∈ ["BadValue", "Mismatch", "Still", "Endless", "TooMany", "NoName", "Taken", "Locked", "Looped", "Broken", "ReadError"], PySem.W.kitOne K (.ref C) (.ref (A n)) = some (n == "BadValue")
  ve : PySem.W.kitOne K (.ref C) (.type "ValueError") = some true
  b_VE : mg "ValueError" = none
  hcl : (PySem.W.clsIn K C).isSome = true
  hga : PySem.W.findIn K (.ref C) "__getattribute__" = some (some (.builtin "BaseException.__getattribute__"))
  hgt : PySem.W.findIn K (.ref C) "__getattr__" = some none
  hsub : PySem.W.subIn K (.ref C) (.type "BaseException") = some true
  ha : PySem.W.findIn K (.ref C) "__class__" = some (some (.builtin "object.__class__"))
  hn : PySem.W.specialIn K (.builtin "object.__class__") "__get__" = some (some (.builtin "getset_descriptor.__get__"))
  htk : PySem.W.takesIn K (.builtin "object.__class__") = some true
  hm : PySem.W.mroIn K C (.type "object") = some true
  xf : XfC K C
/-- isinstance of a caught error that has its dict -/
def kitV (K : PySem.W.Frag) (C : Addr) : V → Option Bool
  | .ref D => PySem.W.kitOne K (.ref C) (.ref D)
  | .ty n => PySem.W.kitOne K (.ref C) (.type n)
  | _ => none
def rIsX (K : PySem.W.Frag) (C a : Addr) (cls : Value) (d : Option Addr) : List V → Hp → VK → Prop := fun xs H Q => ∃ c, xs = [.ref a, c] ∧ cls = .ref C ∧ ∃ dd, d = some dd ∧ (∃ fs, H dd = some (.xd fs)) ∧ ∃ b, kitV K C c = some b ∧ Q (.bl b) H
theorem call_isX {X : Cx} {C S a : Addr} {A : String → Addr} {oe : Obj} {cls : Value} {d : Option Addr} {pn : List (Addr × Obj)} (T : AskT X.K X.mg C S A) (hz : Zc cls d oe) (hf : ∃ vs, oe.data = .fields vs) : CallR (X.suite a ((a, oe) :: pn)) (.builtin "isinstance") (rIsX X.K C a cls d) := fun pins s σ H xs us Q I r h => by
  obtain ⟨c, rfl, rfl, dd, rfl, ⟨fs, hfs⟩, b, hb, q⟩ := h
  obtain ⟨u1, u2, rfl, r1, r2⟩ := vals2 r
  cases r1
  obtain ⟨hget, _⟩ := I.pin (a, oe) (List.mem_append.mpr (.inl List.mem_cons_self))
  obtain ⟨vs, hv⟩ := hf
  obtain ⟨mA, ⟨od, es, ep, ho, hr0⟩, hr⟩ := (show ObjOk X.prog X.w H s.heap dd (.xd fs) from I.hok dd _ hfs)
  have J : PySem.W.InstAt s.heap a oe C (some od) := ⟨hget, hz.1, by unfold PySem.W.notCls; rw [hv] <;> rfl, by rw [hz.2]; exact ho⟩
  have Z := PySem.W.kitx_exc (K := X.K) (C := C) (x := a) (ox := oe) (od := some od) T.hcl T.hga T.hgt T.hsub T.ha T.hn T.htk T.hm
  cases c with
  | ref D =>
    obtain rfl : u2 = Value.ref D := r2
    exact PySem.W.kia_one Z I.kIn J hb (fun z => nomatch z) fun tk => ⟨.bl b, H, I.kept (t' := tk) fun _ _ z => z, rfl, q⟩
  | ty n =>
    obtain rfl : u2 = Value.type n := r2
    exact PySem.W.kia_one Z I.kIn J hb (fun z => nomatch z) fun tk => ⟨.bl b, H, I.kept (t' := tk) fun _ _ z => z, rfl, q⟩
  | _ => cases hb
def rLenA (K : PySem.W.Frag) : List V → Hp → VK → Prop := fun xs H Q => ∃ p, xs = [.ref p] ∧ ∃ ys, itsO (ob K H p) = some ys ∧ Q (.int ys.length) H
/-- a wish of the right number of slots is wish enough -/
theorem takes_len {X : Cx} {W : WX} (t : Takes X W) : Takes X (fun cls d σ H => σ.length = X.N.length → W cls d σ H) := fun u s' ⟨a, B, sI, pins, σ, H, cls, d, e, I, nb, up, sky, na, os, ag, w⟩ =>
  t u s' ⟨a, B, sI, pins, σ, H, cls, d, e, I, nb, up, sky, na, os, ag, w I.len⟩
/-- what the law's asking makes of a call: told, or BadValue and what it names -/
def TAsk (K : PySem.W.Frag) (C : Addr) : (XK → Hp → VK → Prop) → Hp → VK → Prop := fun tl H Q =>
  tl (fun cls d H' => cls = .ref C ∧ ∃ dd y, d = some dd ∧ H' dd = some (.xd [("what", y)]) ∧ ∀ p H'', Same H' H'' → ob K H'' p = some (.tup [.str "BadValue", y]) → Q (.ref p) H'') H
    (fun v H1 => ([V.str "told", v] : List V).length ≤ sizeLine ∧ ∀ p, H1 p = none → K.lookup p = none → Q (.ref p) (upd H1 p (.tup [.str "told", v])))
theorem vals_rfs : ∀ (l : List Addr) (us : List Value), Vals (l.map V.ref) us → us = l.map Value.ref
  | [], us, h => by
    cases h
    rfl
  | a :: l, us, h => by
    cases h with
    | cons h1 h2 =>
      rename_i u us
      obtain rfl : u = Value.ref a := h1
      rw [vals_rfs l us h2]
      rfl
def rIsXT (K : PySem.W.Frag) (C a : Addr) (cls : Value) (d : Option Addr) : List V → Hp → VK → Prop := fun xs H Q => ∃ tp, xs = [.ref a, .ref tp] ∧ cls = .ref C ∧ ∃ dd, d = some dd ∧ (∃ fs, H dd = some (.xd fs)) ∧ ∃ (l : List Addr) (b : Bool), H tp = some (.tup (l.map V.ref)) ∧ PySem.W.kitAny K (.ref C) (l.map Value.ref) = some b ∧ Q (.bl b) H
theorem call_isXT {X : Cx} {C S a : Addr} {A : String → Addr} {oe : Obj} {cls : Value} {d : Option Addr} {pn : List (Addr × Obj)} (T : AskT X.K X.mg C S A) (hz : Zc cls d oe) (hf : ∃ vs, oe.data = .fields vs) : CallR (X.suite a ((a, oe) :: pn)) (.builtin "isinstance") (rIsXT X.K C a cls d) := fun pins s σ H xs us Q I r h => by
  obtain ⟨tp, rfl, rfl, dd, rfl, ⟨fs, hfs⟩, l, b, hT, hb, q⟩ := h
  obtain ⟨u1, u2, rfl, r1, r2⟩ := vals2 r
  cases r1
  cases (show u2 = Value.ref tp from r2)
  obtain ⟨hget, _⟩ := I.pin (a, oe) (List.mem_append.mpr (.inl List.mem_cons_self))
  obtain ⟨vs, hv⟩ := hf
  obtain ⟨mA, ⟨od, es, ep, ho, hr0⟩, hr⟩ := (show ObjOk X.prog X.w H s.heap dd (.xd fs) from I.hok dd _ hfs)
  have J : PySem.W.InstAt s.heap a oe C (some od) := ⟨hget, hz.1, by unfold PySem.W.notCls; rw [hv] <;> rfl, by rw [hz.2]; exact ho⟩
  have Z := PySem.W.kitx_exc (K := X.K) (C := C) (x := a) (ox := oe) (od := some od) T.hcl T.hga T.hgt T.hsub T.ha T.hn T.htk T.hm
  obtain ⟨_, its, rv, o, h1, h2, n, h3⟩ := (show ObjOk X.prog X.w H s.heap tp (.tup (l.map V.ref)) from I.hok tp _ hT)
  have e3 := vals_rfs l its rv
  subst e3
  obtain ⟨oc, od', dt, sl⟩ := o
  simp only at h2 h3
  subst h2 h3
  exact PySem.W.kia_tup Z I.kIn J h1 hb (fun z => nomatch z) fun tk => ⟨.bl b, H, I.kept (t' := tk) fun _ _ z => z, rfl, q⟩
/-- what the written part says of a caught Mismatch, that has no dict -/
structure AskM (K : PySem.W.Frag) (M S : Addr) (A : String → Addr) : Prop where
  exm : PySem.W.exmOne K (.ref M) (.ref S) = some true
  k : ∀ n ∈ ["BadValue", "Mismatch", "Still", "Endless", "TooMany", "NoName", "Taken", "Locked", "Looped", "Broken", "ReadError"], PySem.W.kitOne K (.ref M) (.ref (A n)) = some (n == "Mismatch")
  ve : PySem.W.kitOne K (.ref M) (.type "ValueError") = some true
  e : ExcC K M
def rIsX2 (K : PySem.W.Frag) (C M a : Addr) (cls : Value) (d : Option Addr) : List V → Hp → VK → Prop := fun xs H Q => rIsX K C a cls d xs H Q ∨ (cls = .ref M ∧ d = none ∧ ∃ c b, xs = [.ref a, c] ∧ kitV K M c = some b ∧ Q (.bl b) H)
theorem call_isX2 {X : Cx} {C M S a : Addr} {A : String → Addr} {oe : Obj} {cls : Value} {d : Option Addr} {pn : List (Addr × Obj)} (T : AskT X.K X.mg C S A) (TM : AskM X.K M S A) (hz : Zc cls d oe) (hf : ∃ vs, oe.data = .fields vs) : CallR (X.suite a ((a, oe) :: pn)) (.builtin "isinstance") (rIsX2 X.K C M a cls d) := fun pins s σ H xs us Q I r h => by
  rcases h with h | ⟨rfl, rfl, c, b, rfl, hb, q⟩
  · exact call_isX T hz hf pins s σ H xs us Q I r h
  · refine call_isE TM.e hz hf pins s σ H _ us Q I r ?_
    cases c with
    | ref D => exact ⟨_, .ref D, b, rfl, fun u hu => hu, hb, q⟩
    | ty n => exact ⟨_, .type n, b, rfl, fun u hu => hu, hb, q⟩
    | _ => cases hb
/-- what the asking makes of a call: told, BadValue and what it names, or Mismatch -/
def TAsk2 (K : PySem.W.Frag) (C M : Addr) : (XK → Hp → VK → Prop) → Hp → VK → Prop := fun tl H Q =>
  tl (fun cls d H' => (cls = .ref C ∧ ∃ dd y, d = some dd ∧ H' dd = some (.xd [("what", y)]) ∧ ∀ p H'', Same H' H'' → ob K H'' p = some (.tup [.str "BadValue", y]) → Q (.ref p) H'') ∨ (cls = .ref M ∧ d = none ∧ ∀ p H'', Same H' H'' → ob K H'' p = some (.tup [.str "Mismatch", .non]) → Q (.ref p) H'')) H
    (fun v H1 => ([V.str "told", v] : List V).length ≤ sizeLine ∧ ∀ p, H1 p = none → K.lookup p = none → Q (.ref p) (upd H1 p (.tup [.str "told", v])))
def rIsXT2 (K : PySem.W.Frag) (C M a : Addr) (cls : Value) (d : Option Addr) : List V → Hp → VK → Prop := fun xs H Q => rIsXT K C a cls d xs H Q ∨ (cls = .ref M ∧ d = none ∧ ∃ tp, xs = [.ref a, .ref tp] ∧ ∃ (l : List Addr) (b : Bool), H tp = some (.tup (l.map V.ref)) ∧ PySem.W.kitAny K (.ref M) (l.map Value.ref) = some b ∧ Q (.bl b) H)
theorem call_isXT2 {X : Cx} {C M S a : Addr} {A : String → Addr} {oe : Obj} {cls : Value} {d : Option Addr} {pn : List (Addr × Obj)} (T : AskT X.K X.mg C S A) (TM : AskM X.K M S A) (hz : Zc cls d oe) (hf : ∃ vs, oe.data = .fields vs) : CallR (X.suite a ((a, oe) :: pn)) (.builtin "isinstance") (rIsXT2 X.K C M a cls d) := fun pins s σ H xs us Q I r h => by
  rcases h with h | ⟨rfl, rfl, tp, rfl, l, b, hT, hb, q⟩
  · exact call_isXT T hz hf pins s σ H xs us Q I r h
  obtain ⟨u1, u2, rfl, r1, r2⟩ := vals2 r
  cases r1
  cases (show u2 = Value.ref tp from r2)
  obtain ⟨hget, _⟩ := I.pin (a, oe) (List.mem_append.mpr (.inl List.mem_cons_self))
  obtain ⟨vs, hv⟩ := hf
  have hcl : (PySem.W.clsIn X.K M).isSome = true := by
    have := TM.e.hd
    unfold PySem.W.hasDictIn at this
    cases h : PySem.W.clsIn X.K M with
    | none => rw [h] at this; cases this
    | some _ => rfl
  have J : PySem.W.InstAt s.heap a oe M none := ⟨hget, hz.1, by unfold PySem.W.notCls; rw [hv] <;> rfl, by rw [hz.2]; trivial⟩
  have Z := PySem.W.kitx_exc (K := X.K) (C := M) (x := a) (ox := oe) (od := none) hcl TM.e.hg TM.e.hk TM.e.hs TM.e.ha TM.e.hn TM.e.ht TM.e.hm
  obtain ⟨_, its, rv, o, h1, h2, n, h3⟩ := (show ObjOk X.prog X.w H s.heap tp (.tup (l.map V.ref)) from I.hok tp _ hT)
  have e3 := vals_rfs l its rv
  subst e3
  obtain ⟨oc, od', dt, sl⟩ := o
  simp only at h2 h3
  subst h2 h3
  exact PySem.W.kia_tup Z I.kIn J h1 hb (fun z => nomatch z) fun tk => ⟨.bl b, H, I.kept (t' := tk) fun _ _ z => z, rfl, q⟩
abbrev sAsked : Stmt := topS 53
theorem scAsked : FnScope ["_law_call", "e"] ["_law_call"] (defScope sAsked) := ⟨rfl, rfl, rfl, by decide +kernel, rfl, by decide +kernel, by decide +kernel⟩

theorem asked_gives2 {X : Cx} {C M S : Addr} {A : String → Addr} {g : Addr} {cdg : Value} {q : Str} (Z : Bt X.K X.mg) (B : BvT X.K X.mg C) (T : AskT X.K X.mg C S A) (TM : AskM X.K M S A) : LamX.GivesTo X ["_law_call", "e"] "_law_answer" (defScope sAsked) g cdg (defBody sAsked) "_law_call" q (TAsk2 X.K C M) := by
  intro f c' s H Q tl act hc h
  refine ⟨_, pss_one (ps_try_as (X := (cxOf C8.CX0 X.prog X.w X.K X.mg X.base ["_law_call", "e"] "_law_answer" (defScope sAsked) g cdg X.A X.stack s H C8.E0).nox) (i := 1) (c := .ref S)
      (tb := fun W D σ H => ∃ Ech : XK, (∀ cls d σ' H', Ech cls d H' → σ'.length = 2 → W cls d σ' H') ∧ tRet (tTp X.K (tCons (tC (.str "told")) (tCons (fun σZ HZ Q => σZ[0]? = some (some (.ref f)) ∧ HZ c' = some (LamX.CodeO c' q) ∧ tl Ech HZ Q) L2.tNil))) D σ H)
      rfl rfl scAsked.nd rfl rfl ⟨rfl, by decide, .inl T.sky⟩ takes0 (fun W pn xe tk _ => ?_) (fun a oe cls d pn hz hf => (pss_cons (ps_if (pt_val (pe_callB (call_isXT2 (X := (cxOf C8.CX0 X.prog X.w X.K X.mg X.base ["_law_call", "e"] "_law_answer" (defScope sAsked) g cdg X.A X.stack s H C8.E0).nox) (a := a) (pn := pn) T TM hz hf) (by rfl) Z.b_isinstance (by decide +kernel) (pa_cons (pv 1) (pa_cons (show PE (Cx.suite (cxOf C8.CX0 X.prog X.w X.K X.mg X.base ["_law_call", "e"] "_law_answer" (defScope sAsked) g cdg X.A X.stack s H C8.E0).nox a ((a, oe) :: pn)) _ (tTp X.K (tCons (tC (.ref (A "Broken"))) (tCons (tC (.ref (A "Endless"))) (tCons (tC (.ref (A "Locked"))) (tCons (tC (.ref (A "Looped"))) (tCons (tC (.ref (A "NoName"))) (tCons (tC (.ref (A "ReadError"))) (tCons (tC (.ref (A "Still"))) (tCons (tC (.ref (A "Taken"))) (tCons (tC (.ref (A "TooMany"))) L2.tNil)))))))))) from pe_tp (pa_cons (pe_glob (v := .ref (A "Broken")) (by rfl) (T.g "Broken" (by decide)) rfl) (pa_cons (pe_glob (v := .ref (A "Endless")) (by rfl) (T.g "Endless" (by decide)) rfl) (pa_cons (pe_glob (v := .ref (A "Locked")) (by rfl) (T.g "Locked" (by decide)) rfl) (pa_cons (pe_glob (v := .ref (A "Looped")) (by rfl) (T.g "Looped" (by decide)) rfl) (pa_cons (pe_glob (v := .ref (A "NoName")) (by rfl) (T.g "NoName" (by decide)) rfl) (pa_cons (pe_glob (v := .ref (A "ReadError")) (by rfl) (T.g "ReadError" (by decide)) rfl) (pa_cons (pe_glob (v := .ref (A "Still")) (by rfl) (T.g "Still" (by decide)) rfl) (pa_cons (pe_glob (v := .ref (A "Taken")) (by rfl) (T.g "Taken" (by decide)) rfl) (pa_cons (pe_glob (v := .ref (A "TooMany")) (by rfl) (T.g "TooMany" (by decide)) rfl) pa_nil)))))))))) pa_nil)))) (pss_one ps_never) pss_nil)
      (pss_cons (ps_if (PW.pt (pw_or (pt_cmpR op_eq (pe_callB (call_isX2 (X := (cxOf C8.CX0 X.prog X.w X.K X.mg X.base ["_law_call", "e"] "_law_answer" (defScope sAsked) g cdg X.A X.stack s H C8.E0).nox) (a := a) (pn := pn) T TM hz hf) (by rfl) Z.b_isinstance (by decide +kernel) (pa_cons (pv 1) (pa_cons (pe_glob (v := .ref (A "BadValue")) (by rfl) (T.g "BadValue" (by decide)) rfl) pa_nil))) (pe_callB (call_isX2 (X := (cxOf C8.CX0 X.prog X.w X.K X.mg X.base ["_law_call", "e"] "_law_answer" (defScope sAsked) g cdg X.A X.stack s H C8.E0).nox) (a := a) (pn := pn) T TM hz hf) (by rfl) Z.b_isinstance (by decide +kernel) (pa_cons (pv 1) (pa_cons (pe_glob (v := .ref (A "Mismatch")) (by rfl) (T.g "Mismatch" (by decide)) rfl) pa_nil))) (nomark _)) (pw_or1 (pt_not (pt_val (pe_callB (call_isX2 (X := (cxOf C8.CX0 X.prog X.w X.K X.mg X.base ["_law_call", "e"] "_law_answer" (defScope sAsked) g cdg X.A X.stack s H C8.E0).nox) (a := a) (pn := pn) T TM hz hf) (by rfl) Z.b_isinstance (by decide +kernel) (pa_cons (pv 1) (pa_cons (pe_bltn (v := .ty "ValueError") (by rfl) T.b_VE (by decide +kernel) rfl) pa_nil)))))))) (pss_one ps_never) pss_nil)
      (pss_one (ps_ret (pe_ifExp (pt_val (pe_callB (call_isX2 (X := (cxOf C8.CX0 X.prog X.w X.K X.mg X.base ["_law_call", "e"] "_law_answer" (defScope sAsked) g cdg X.A X.stack s H C8.E0).nox) (a := a) (pn := pn) T TM hz hf) (by rfl) Z.b_isinstance (by decide +kernel) (pa_cons (pv 1) (pa_cons (pe_glob (v := .ref (A "BadValue")) (by rfl) (T.g "BadValue" (by decide)) rfl) pa_nil)))) (show PE (Cx.suite (cxOf C8.CX0 X.prog X.w X.K X.mg X.base ["_law_call", "e"] "_law_answer" (defScope sAsked) g cdg X.A X.stack s H C8.E0).nox a ((a, oe) :: pn)) _ (tTp X.K (tCons (tC (.str "BadValue")) (tCons (tXf a cls d C "what" (tVar 1)) L2.tNil))) from pe_tp (pa_cons pe_str (pa_cons (pe_xf (X := (cxOf C8.CX0 X.prog X.w X.K X.mg X.base ["_law_call", "e"] "_law_answer" (defScope sAsked) g cdg X.A X.stack s H C8.E0).nox) (a := a) (pn := pn) T.xf B.no hz hf (pv 1)) pa_nil))) (show PE (Cx.suite (cxOf C8.CX0 X.prog X.w X.K X.mg X.base ["_law_call", "e"] "_law_answer" (defScope sAsked) g cdg X.A X.stack s H C8.E0).nox a ((a, oe) :: pn)) _ (tTp X.K (tCons (tC (.str "Mismatch")) (tCons (tC .non) L2.tNil))) from pe_tp (pa_cons pe_str (pa_cons pe_non pa_nil)))))))))), ?_⟩
  · refine ⟨fun pins s' σ H' D I h' => ?_⟩
    obtain ⟨Ech, hW, h2⟩ := h'
    exact (pss_one (ps_ret (pe_tp (pa_cons pe_str (pa_cons (act _ pn xe Ech _ _ (takes_len tk) (fun cls d σ' H' e l => hW cls d σ' H' e l)) pa_nil))))).run pins s' σ H' D I h2
  · refine ⟨fun cls d H' => (cls = .ref C ∧ ∃ dd y, d = some dd ∧ H' dd = some (.xd [("what", y)]) ∧ ∀ p H'', Same H' H'' → ob X.K H'' p = some (.tup [.str "BadValue", y]) → Q (.ref p) H'') ∨ (cls = .ref M ∧ d = none ∧ ∀ p H'', Same H' H'' → ob X.K H'' p = some (.tup [.str "Mismatch", .non]) → Q (.ref p) H''), fun cls d σ' H' e l => ?_, rfl, hc, h⟩
    obtain ⟨x0, x1, rfl⟩ : ∃ x0 x1, σ' = [x0, x1] := by
      match σ', l with
      | [x0, x1], _ => exact ⟨x0, x1, rfl⟩
    rcases e with ⟨rfl, dd, y, rfl, hd, k⟩ | ⟨rfl, rfl, k⟩
    · refine ⟨true, T.exm, fun _ a ha => ?_, fun z => nomatch z⟩
      have kf : ∀ n ∈ ["BadValue", "Mismatch", "Still", "Endless", "TooMany", "NoName", "Taken", "Locked", "Looped", "Broken", "ReadError"], n ≠ "BadValue" → PySem.W.kitOne X.K (.ref C) (.ref (A n)) = some false := fun n hn hne => by
        rw [T.k n hn]
        exact congrArg some (beq_eq_false_iff_ne.mpr hne)
      refine ⟨_, rfl, by rw [sizeLine_eq]; show 9 ≤ 16777216; decide, fun tp htp ktp => ?_⟩
      have s1 := Same.new htp (.tup ([A "Broken", A "Endless", A "Locked", A "Looped", A "NoName", A "ReadError", A "Still", A "Taken", A "TooMany"].map V.ref))
      have ht1 : upd H' tp (.tup ([A "Broken", A "Endless", A "Locked", A "Looped", A "NoName", A "ReadError", A "Still", A "Taken", A "TooMany"].map V.ref)) tp = some (.tup ([A "Broken", A "Endless", A "Locked", A "Looped", A "NoName", A "ReadError", A "Still", A "Taken", A "TooMany"].map V.ref)) := upd_same
      refine (.inl ⟨tp, rfl, rfl, dd, rfl, ⟨_, s1 _ _ hd⟩, [A "Broken", A "Endless", A "Locked", A "Looped", A "NoName", A "ReadError", A "Still", A "Taken", A "TooMany"], false, ht1, ?_, _, rfl, iteF ?_⟩)
      · show PySem.W.kitAny X.K (.ref C) ([A "Broken", A "Endless", A "Locked", A "Looped", A "NoName", A "ReadError", A "Still", A "Taken", A "TooMany"].map Value.ref) = some false
        simp only [List.map_cons, List.map_nil, PySem.W.kitAny, kf "Broken" (by decide) (by decide), kf "Endless" (by decide) (by decide), kf "Locked" (by decide) (by decide), kf "Looped" (by decide) (by decide), kf "NoName" (by decide) (by decide), kf "ReadError" (by decide) (by decide), kf "Still" (by decide) (by decide), kf "Taken" (by decide) (by decide), kf "TooMany" (by decide) (by decide)]
      have hd1 := s1 _ _ hd
      refine ⟨_, rfl, .inl ⟨.ref (A "BadValue"), rfl, rfl, dd, rfl, ⟨_, hd1⟩, true, (T.k "BadValue" (by decide)).trans rfl, ?_⟩⟩
      refine ⟨_, rfl, .inl ⟨.ref (A "Mismatch"), rfl, rfl, dd, rfl, ⟨_, hd1⟩, false, (T.k "Mismatch" (by decide)).trans rfl, ?_⟩⟩
      refine ⟨rfl, _, rfl, if_no rfl ?_⟩
      refine ⟨_, rfl, .inl ⟨.ty "ValueError", rfl, rfl, dd, rfl, ⟨_, hd1⟩, true, T.ve, _, rfl, iteF ?_⟩⟩
      refine ⟨_, rfl, .inl ⟨.ref (A "BadValue"), rfl, rfl, dd, rfl, ⟨_, hd1⟩, true, (T.k "BadValue" (by decide)).trans rfl, _, rfl, if_yes rfl ?_⟩⟩
      refine ⟨_, rfl, rfl, rfl, dd, _, y, rfl, hd1, rfl, by rw [sizeLine_eq]; show 2 ≤ 16777216; decide, fun p hp kp => ?_⟩
      exact k p _ (s1.trans (Same.new hp _)) (ob_new kp)
    · refine ⟨true, TM.exm, fun _ a ha => ?_, fun z => nomatch z⟩
      have kf : ∀ n ∈ ["BadValue", "Mismatch", "Still", "Endless", "TooMany", "NoName", "Taken", "Locked", "Looped", "Broken", "ReadError"], n ≠ "Mismatch" → PySem.W.kitOne X.K (.ref M) (.ref (A n)) = some false := fun n hn hne => by
        rw [TM.k n hn]
        exact congrArg some (beq_eq_false_iff_ne.mpr hne)
      refine ⟨_, rfl, by rw [sizeLine_eq]; show 9 ≤ 16777216; decide, fun tp htp ktp => ?_⟩
      have s1 := Same.new htp (.tup ([A "Broken", A "Endless", A "Locked", A "Looped", A "NoName", A "ReadError", A "Still", A "Taken", A "TooMany"].map V.ref))
      have ht1 : upd H' tp (.tup ([A "Broken", A "Endless", A "Locked", A "Looped", A "NoName", A "ReadError", A "Still", A "Taken", A "TooMany"].map V.ref)) tp = some (.tup ([A "Broken", A "Endless", A "Locked", A "Looped", A "NoName", A "ReadError", A "Still", A "Taken", A "TooMany"].map V.ref)) := upd_same
      refine (.inr ⟨rfl, rfl, tp, rfl, [A "Broken", A "Endless", A "Locked", A "Looped", A "NoName", A "ReadError", A "Still", A "Taken", A "TooMany"], false, ht1, ?_, _, rfl, iteF ?_⟩)
      · show PySem.W.kitAny X.K (.ref M) ([A "Broken", A "Endless", A "Locked", A "Looped", A "NoName", A "ReadError", A "Still", A "Taken", A "TooMany"].map Value.ref) = some false
        simp only [List.map_cons, List.map_nil, PySem.W.kitAny, kf "Broken" (by decide) (by decide), kf "Endless" (by decide) (by decide), kf "Locked" (by decide) (by decide), kf "Looped" (by decide) (by decide), kf "NoName" (by decide) (by decide), kf "ReadError" (by decide) (by decide), kf "Still" (by decide) (by decide), kf "Taken" (by decide) (by decide), kf "TooMany" (by decide) (by decide)]
      refine ⟨_, rfl, .inr ⟨rfl, rfl, .ref (A "BadValue"), false, rfl, (TM.k "BadValue" (by decide)).trans rfl, ?_⟩⟩
      refine ⟨_, rfl, .inr ⟨rfl, rfl, .ref (A "Mismatch"), true, rfl, (TM.k "Mismatch" (by decide)).trans rfl, ?_⟩⟩
      refine ⟨rfl, _, rfl, if_no rfl ?_⟩
      refine ⟨_, rfl, .inr ⟨rfl, rfl, .ty "ValueError", true, rfl, TM.ve, _, rfl, iteF ?_⟩⟩
      refine ⟨_, rfl, .inr ⟨rfl, rfl, .ref (A "BadValue"), false, rfl, (TM.k "BadValue" (by decide)).trans rfl, _, rfl, if_no rfl ?_⟩⟩
      refine ⟨by rw [sizeLine_eq]; show 2 ≤ 16777216; decide, fun p hp kp => ?_⟩
      exact k p _ (s1.trans (Same.new hp _)) (ob_new kp)
end My

namespace My
open PySem PySem.Spec PyProof.Rows L2
section
variable {P : Program} {w : World} {K : PySem.W.Frag} {mg : Str → Option Value} {base : Heap}
/-! ### the tables, while the draws go on -/
theorem tabs_kp {T : List (Addr × Str)} {H H' : Hp} {s : Addr} {ys : List V} (e : Kp s H H') (hs : H s = some (.lst ys)) (t : LamX.Tabs T H) : LamX.Tabs T H' := fun p hp => by
  obtain ⟨ps, h1, h2, h3⟩ := t p hp
  refine ⟨ps, e _ _ (by rintro z; rw [z, hs] at h1; cases h1) h1, h2, fun pos cv hc => ?_⟩
  obtain ⟨c, e1, e2⟩ := h3 pos cv hc
  exact ⟨c, e1, e _ _ (by rintro z; rw [z, hs] at e2; unfold LamX.CodeO at e2; cases e2) e2⟩
theorem tabs_same {T : List (Addr × Str)} {H H' : Hp} (e : Same H H') (t : LamX.Tabs T H) : LamX.Tabs T H' := t.ext e
/-- all but the store and the tables stands -/
def Bg (s : Addr) (H H' : Hp) : Prop := ∀ b o, b ≠ s → (∀ ps, o ≠ .tbl ps) → H b = some o → H' b = some o
theorem Bg.refl (s : Addr) (H : Hp) : Bg s H H := fun _ _ _ _ h => h
theorem Bg.trans {s : Addr} {H H1 H2 : Hp} (a : Bg s H H1) (b : Bg s H1 H2) : Bg s H H2 := fun c o n m h => b c o n m (a c o n m h)
theorem Bg.kp {s : Addr} {H H1 : Hp} (a : Kp s H H1) : Bg s H H1 := fun c o n _ h => a c o n h
theorem Bg.same {s : Addr} {H H1 : Hp} (a : Same H H1) : Bg s H H1 := fun c o _ _ h => a c o h
theorem Bg.ext {s : Addr} {H H1 : Hp} (a : LamX.ExtN H H1) : Bg s H H1 := fun c o _ m h => a c o h m
theorem ob_bg {H H' : Hp} {s a : Addr} {ys xs : List V} (e : Bg s H H') (hs : H s = some (.lst ys)) (h : ob K H a = some (.tup xs)) : ob K H' a = some (.tup xs) := by
  unfold ob at h ⊢
  split
  · rename_i o q
    rw [q] at h
    exact h
  · rename_i q
    rw [q] at h
    exact e _ _ (by rintro rfl; rw [hs] at h; cases h) (fun ps z => by cases z) h
theorem Fq.bg {H H' : Hp} {s a : Addr} {n : Nat} {ys : List V} {q : Qt} (h : Fq K H n a q) (e : Bg s H H') (hs : H s = some (.lst ys)) : Fq K H' n a q := ⟨ob_bg e hs h.o, h.nf, h.sz⟩
theorem Sto.ext {H H' : Hp} {s : Addr} (h : Sto K H s) (e : LamX.ExtN H H') : Sto K H' s := by
  obtain ⟨sc, ns, i, b, c, d, x, f, h1, h2, h3⟩ := h
  exact ⟨sc, ns, i, b, c, d, x, f, e _ _ h1 (fun ps z => by cases z), e _ _ h2 (fun ps z => by cases z), h3⟩
theorem ob_ext {H H' : Hp} {a : Addr} {z : HO} (e : LamX.ExtN H H') (n : ∀ ps, z ≠ .tbl ps) (h : ob K H a = some z) : ob K H' a = some z := by
  unfold ob at h ⊢
  split
  · rename_i o q
    rw [q] at h
    exact h
  · rename_i q
    rw [q] at h
    exact e _ _ h n
theorem tyO_ntbl {z : HO} (h : (tyO (some z)).isSome) : ∀ ps, z ≠ .tbl ps := fun ps e => by subst e; cases h
theorem tyS_ext {H H' : Hp} {v : V} (e : LamX.ExtN H H') (h : (tyN K H v).isSome) : (tyN K H' v).isSome := by
  cases v with
  | ref a =>
    cases hz : ob K H a with
    | none => rw [tyN_ref, hz] at h; cases h
    | some z =>
      rw [tyN_ref, hz] at h
      rw [tyN_ref, ob_ext e (tyO_ntbl h) hz]
      exact h
  | _ => exact h
theorem Gd.ext {H H' : Hp} {v : V} (e : LamX.ExtN H H') (h : Gd K H v) : Gd K H' v := by
  cases v with
  | ref a =>
    cases hz : ob K H a with
    | none =>
      have := h.ty.1
      rw [tyN_ref, hz] at this
      cases this
    | some z =>
      have nz : ∀ ps, z ≠ .tbl ps := tyO_ntbl (by have := h.ty.1; rw [tyN_ref, hz] at this; exact this)
      have hz' := ob_ext e nz hz
      refine ⟨⟨tyS_ext e h.ty.1, fun b xs ev o x hx => ?_⟩, ?_⟩
      · cases ev
        rw [hz'] at o
        exact tyS_ext e (h.ty.2 a xs rfl (hz.trans o) x hx)
      · have e2 : frOk K H' (.ref a) = frOk K H (.ref a) := by simp only [frOk, hz, hz']
        rw [e2]
        exact h.no
  | _ => exact ⟨⟨h.ty.1, fun _ _ e => by cases e⟩, h.no⟩
structure LawS (K : PySem.W.Frag) (T : List (Addr × Str)) (H : Hp) (s : Addr) : Prop where
  st : Sto K H s
  tb : LamX.Tabs T H
theorem LawS.same {T : List (Addr × Str)} {H H' : Hp} {s : Addr} (h : LawS K T H s) (e : Same H H') : LawS K T H' s := ⟨h.st.same e, tabs_same e h.tb⟩
theorem LawS.kp {T : List (Addr × Str)} {H H' : Hp} {s : Addr} (h : LawS K T H s) (e : Kp s H H') (st : Sto K H' s) : LawS K T H' s := by
  obtain ⟨ys, hy⟩ := h.st.at
  exact ⟨st, tabs_kp e hy h.tb⟩
end
section
variable {P : Program} {w : World} {K : PySem.W.Frag} {mg : Str → Option Value} {base : Heap}
theorem tabs_put {T : List (Addr × Str)} {H : Hp} {l : Addr} {xs : List V} {o : HO} (hl : H l = some (.lst xs)) (t : LamX.Tabs T H) : LamX.Tabs T (upd H l o) := fun p hp => by
  obtain ⟨ps, h1, h2, h3⟩ := t p hp
  refine ⟨ps, by rw [upd_ne (fun e => by rw [e, hl] at h1; cases h1)]; exact h1, h2, fun pos cv hc => ?_⟩
  obtain ⟨c, e1, e2⟩ := h3 pos cv hc
  exact ⟨c, e1, by rw [upd_ne (fun e => by rw [e, hl] at e2; unfold LamX.CodeO at e2; cases e2)]; exact e2⟩
/-! ### what stays while the addresses of F are written -/
def Kx (F : Addr → Prop) (H H' : Hp) : Prop := ∀ b o, ¬F b → (∀ ps, o ≠ HO.tbl ps) → H b = some o → H' b = some o
theorem Kx.refl (F : Addr → Prop) (H : Hp) : Kx F H H := fun _ _ _ _ h => h
theorem Kx.trans {F : Addr → Prop} {H H1 H2 : Hp} (a : Kx F H H1) (b : Kx F H1 H2) : Kx F H H2 := fun c o n m h => b c o n m (a c o n m h)
theorem Kx.same {F : Addr → Prop} {H H' : Hp} (e : Same H H') : Kx F H H' := fun c o _ _ h => e c o h
theorem Kx.ext {F : Addr → Prop} {H H' : Hp} (e : LamX.ExtN H H') : Kx F H H' := fun c o _ m h => e c o h m
theorem Kx.kp {F : Addr → Prop} {H H' : Hp} {s : Addr} (hF : F s) (e : Kp s H H') : Kx F H H' := fun c o n _ h => e c o (by rintro rfl; exact n hF) h
theorem Kx.put {F : Addr → Prop} {H : Hp} {D : Addr} {o : HO} (hF : F D) : Kx F H (upd H D o) := fun c u n _ h => by rw [upd_ne (by rintro rfl; exact n hF)]; exact h
/-- the store, and the list that is told -/
def Fz (s D : Addr) : Addr → Prop := fun a => a = s ∨ a = D
theorem Kx.weak {s D : Addr} {H H' : Hp} (hD : H D = none) (e : Kx (Fz s D) H H') : Kx (Fz s s) H H' := fun c o n m h => e c o (fun z => z.elim (fun z => n (.inl z)) (ne_of_none h hD)) m h
theorem ob_kx {F : Addr → Prop} {H H' : Hp} {a : Addr} {z : HO} (e : Kx F H H') (n : ¬F a) (t : ∀ ps, z ≠ HO.tbl ps) (h : ob K H a = some z) : ob K H' a = some z := by
  unfold ob at h ⊢
  split
  · rename_i o q
    rw [q] at h
    exact h
  · rename_i q
    rw [q] at h
    exact e _ _ n t h
/-- the addresses of F hold lists -/
def Fl (F : Addr → Prop) (H : Hp) : Prop := ∀ a, F a → ∃ ys, H a = some (.lst ys)
theorem tup_kx {F : Addr → Prop} {H H' : Hp} {a : Addr} {xs : List V} (fl : Fl F H) (e : Kx F H H') (h : ob K H a = some (.tup xs)) : ob K H' a = some (.tup xs) := by
  unfold ob at h ⊢
  split
  · rename_i o q
    rw [q] at h
    exact h
  · rename_i q
    rw [q] at h
    refine e _ _ (fun z => ?_) (fun ps z => by cases z) h
    obtain ⟨ys, hy⟩ := fl _ z
    rw [hy] at h
    cases h
/-- no integer from lo to hi, whatever comes -/
def SbI (K : PySem.W.Frag) (F : Addr → Prop) (lo hi : Int) (H : Hp) (v : V) : Prop := ∀ H', Kx F H H' → Wh K H' v ∧ inB lo hi v = false
theorem SbI.kx {F : Addr → Prop} {lo hi : Int} {H H' : Hp} {v : V} (h : SbI K F lo hi H v) (e : Kx F H H') : SbI K F lo hi H' v := fun G g => h G (e.trans g)
theorem SbI.now {F : Addr → Prop} {lo hi : Int} {H : Hp} {v : V} (h : SbI K F lo hi H v) : Wh K H v ∧ inB lo hi v = false := h H (Kx.refl F H)
theorem sbI_sc {F : Addr → Prop} {lo hi : Int} {H : Hp} {v : V} {t : String} (h : ∀ G, tyN K G v = some t) (n : inB lo hi v = false) : SbI K F lo hi H v := fun G _ => ⟨Wh.ty (h G), n⟩
theorem sbI_tup {F : Addr → Prop} {lo hi : Int} {H : Hp} {a : Addr} {xs : List V} (n : ¬F a) (h : ob K H a = some (.tup xs)) : SbI K F lo hi H (.ref a) := fun G g => ⟨Wh.ty (t := "tuple") (by rw [tyN_ref, ob_kx g n (fun _ z => by cases z) h]; rfl), rfl⟩
theorem sbI_lst {F : Addr → Prop} {lo hi : Int} {H : Hp} {a : Addr} {xs : List V} (n : ¬F a) (h : ob K H a = some (.lst xs)) : SbI K F lo hi H (.ref a) := fun G g => ⟨Wh.ty (t := "list") (by rw [tyN_ref, ob_kx g n (fun _ z => by cases z) h]; rfl), rfl⟩
/-- no word, whatever comes -/
def SbW (K : PySem.W.Frag) (F : Addr → Prop) (H : Hp) (v : V) : Prop := ∀ H', Kx F H H' → WdJ K H' v false
theorem SbW.kx {F : Addr → Prop} {H H' : Hp} {v : V} (h : SbW K F H v) (e : Kx F H H') : SbW K F H' v := fun G g => h G (e.trans g)
theorem SbW.now {F : Addr → Prop} {H : Hp} {v : V} (h : SbW K F H v) : WdJ K H v false := h H (Kx.refl F H)
theorem sbW_ty {F : Addr → Prop} {H : Hp} {v : V} {t : String} (h : ∀ G, Kx F H G → tyN K G v = some t) (n : isB t "tuple" = false) : SbW K F H v := fun G g => .inl ⟨_, Kd.ty (h G g), n, rfl⟩
theorem sbW_lst {F : Addr → Prop} {H : Hp} {a : Addr} {xs : List V} (n : ¬F a) (h : ob K H a = some (.lst xs)) : SbW K F H (.ref a) := sbW_ty (t := "list") (fun G g => by rw [tyN_ref, ob_kx g n (fun _ z => by cases z) h]; rfl) rfl
theorem sbW_len {F : Addr → Prop} {H : Hp} {a : Addr} {xs : List V} (n : ¬F a) (h : ob K H a = some (.tup xs)) (l : xs.length = 0 ∨ 100 < xs.length) (l2 : xs.length ≤ 1000) : SbW K F H (.ref a) := fun G g => .inr ⟨a, xs, rfl, ob_kx g n (fun _ z => by cases z) h, .inl ⟨l, l2, rfl⟩⟩
/-- a tuple with an item that is neither 0 nor 1 -/
theorem sbW_item {F : Addr → Prop} {H : Hp} {a : Addr} {us ws : List Int} {v : V} (n : ¬F a) (h : ob K H a = some (.tup (us.map V.int ++ [v] ++ ws.map V.int))) (hv : SbI K F 0 1 H v) (l : us.length + ws.length < 100) : SbW K F H (.ref a) := fun G g => by
  refine .inr ⟨a, _, rfl, ob_kx g n (fun _ z => by cases z) h, .inr ⟨by simp only [List.length_append, List.length_map, List.length_cons, List.length_nil]; omega, by simp only [List.length_append, List.length_map, List.length_cons, List.length_nil]; omega, fun x hx => ?_, ?_⟩⟩
  · simp only [List.mem_append, List.mem_map, List.mem_cons, List.not_mem_nil, or_false] at hx
    rcases hx with (⟨m, _, rfl⟩ | rfl) | ⟨m, _, rfl⟩
    · exact Wh.int m
    · exact (hv G g).1
    · exact Wh.int m
  · refine (List.all_eq_false.mpr ⟨v, by simp, ?_⟩).symm
    rw [(hv G g).2]
    exact Bool.false_ne_true
/-- a Cycle, or any object whose class is none of the plain kinds -/
def CyN (K : PySem.W.Frag) (C : Addr) : Prop := ∀ n ∈ ["int", "bool", "str", "list", "tuple", "dict"], PySem.W.kitOne K (.ref C) (.type n) = some false
theorem kd_ins {H : Hp} {C c dx : Addr} {fs : List (Str × V)} (hN : CyN K C) (hI : C8.InsC K C) (h : H c = some (.ins C dx fs)) : Kd K H (.ref c) (fun _ => false) := ⟨.ref C, .base (.ins h hI.cl hI.ha hI.hn hI.htk hI.hm), hN⟩
theorem sbI_ins {F : Addr → Prop} {lo hi : Int} {H : Hp} {C c dx : Addr} {fs : List (Str × V)} (hN : CyN K C) (hI : C8.InsC K C) (n : ¬F c) (h : H c = some (.ins C dx fs)) : SbI K F lo hi H (.ref c) := fun G g => ⟨⟨_, kd_ins hN hI (g c _ n (fun _ z => by cases z) h), rfl⟩, rfl⟩
theorem sbW_ins {F : Addr → Prop} {H : Hp} {C c dx : Addr} {fs : List (Str × V)} (hN : CyN K C) (hI : C8.InsC K C) (n : ¬F c) (h : H c = some (.ins C dx fs)) : SbW K F H (.ref c) := fun G g => .inl ⟨_, kd_ins hN hI (g c _ n (fun _ z => by cases z) h), rfl, rfl⟩
/-- a pair of a name and what comes with it -/
def Pr2 (K : PySem.W.Frag) (H : Hp) (v : V) (n : V × V) : Prop := ∃ p, v = .ref p ∧ ob K H p = some (.tup [n.1, n.2])
theorem Pr2.kx {F : Addr → Prop} {H H' : Hp} {v : V} {n : V × V} (h : Pr2 K H v n) (fl : Fl F H) (e : Kx F H H') : Pr2 K H' v n := by
  obtain ⟨p, rfl, o⟩ := h
  exact ⟨p, rfl, tup_kx fl e o⟩
theorem Pr2.same {H H' : Hp} {v : V} {n : V × V} (h : Pr2 K H v n) (e : Same H H') : Pr2 K H' v n := by
  obtain ⟨p, rfl, o⟩ := h
  exact ⟨p, rfl, ob_same e o⟩
def Prs (K : PySem.W.Frag) (H : Hp) (xs : List V) (ns : List (V × V)) : Prop := xs.length = ns.length ∧ ∀ (i : Nat) (x : V) (n : V × V), xs[i]? = some x → ns[i]? = some n → Pr2 K H x n
theorem Prs.kx {F : Addr → Prop} {H H' : Hp} {xs : List V} {ns : List (V × V)} (h : Prs K H xs ns) (fl : Fl F H) (e : Kx F H H') : Prs K H' xs ns := ⟨h.1, fun i x n a b => (h.2 i x n a b).kx fl e⟩
theorem Prs.nil {H : Hp} : Prs K H [] [] := ⟨rfl, fun i x n a _ => by cases a⟩
theorem Prs.add {H : Hp} {xs : List V} {ns : List (V × V)} {v : V} {n : V × V} (h : Prs K H xs ns) (g : Pr2 K H v n) : Prs K H (xs ++ [v]) (ns ++ [n]) := by
  refine ⟨by rw [List.length_append, List.length_append, h.1]; rfl, fun i x m hx hm => ?_⟩
  by_cases c : i < xs.length
  · rw [List.getElem?_append_left c] at hx
    rw [List.getElem?_append_left (by rw [← h.1]; exact c)] at hm
    exact h.2 i x m hx hm
  · rw [List.getElem?_append_right (by omega)] at hx
    rw [List.getElem?_append_right (by rw [← h.1]; omega), ← h.1] at hm
    cases hk : i - xs.length with
    | zero =>
      rw [hk] at hx hm
      cases hx
      cases hm
      exact g
    | succ k =>
      rw [hk] at hx
      cases hx
/-- a list of pairs -/
def Tl (K : PySem.W.Frag) (H : Hp) (D : Addr) (ns : List (V × V)) : Prop := ∃ xs, H D = some (.lst xs) ∧ Prs K H xs ns
theorem Tl.kx {F : Addr → Prop} {H H' : Hp} {D : Addr} {ns : List (V × V)} (h : Tl K H D ns) (n : ¬F D) (fl : Fl F H) (e : Kx F H H') : Tl K H' D ns := by
  obtain ⟨xs, a, b⟩ := h
  exact ⟨xs, e _ _ n (fun _ z => by cases z) a, b.kx fl e⟩
theorem Tl.put {H : Hp} {D : Addr} {xs : List V} {ns : List (V × V)} {v : V} {n : V × V} (a : H D = some (.lst xs)) (b : Prs K H xs ns) (g : Pr2 K H v n) : Tl K (upd H D (.lst (xs ++ [v]))) D (ns ++ [n]) := by
  have fl : Fl (fun x => x = D) H := fun x z => by subst z; exact ⟨_, a⟩
  have e : Kx (fun x => x = D) H (upd H D (.lst (xs ++ [v]))) := Kx.put (F := fun x => x = D) rfl
  exact ⟨_, upd_same, (b.kx fl e).add (g.kx fl e)⟩
theorem eqa_tl {H : Hp} {D E : Addr} {ns : List (V × V)} (kD : K.lookup D = none) (kE : K.lookup E = none) (h : Tl K H D ns) (g : Tl K H E ns) (hs : ∀ n ∈ ns, sc3 n.1 = true ∧ sc3 n.2 = true) (l : ns.length ≤ 1000) : Eqa K H 2 (.ref D) (.ref E) := by
  obtain ⟨xs, a, b⟩ := h
  obtain ⟨ys, c, d⟩ := g
  refine .inr ⟨D, E, xs, ys, rfl, rfl, .inr ⟨(ob_none kD).trans a, (ob_none kE).trans c⟩, b.1.trans d.1.symm, by rw [d.1]; exact l, fun i x y hx hy => ?_⟩
  have hi : i < ns.length := by rw [← b.1]; exact (List.getElem?_eq_some_iff.mp hx).1
  obtain ⟨n, hn⟩ : ∃ n, ns[i]? = some n := ⟨_, List.getElem?_eq_getElem hi⟩
  obtain ⟨p, rfl, op⟩ := b.2 i x n hx hn
  obtain ⟨q, rfl, oq⟩ := d.2 i y n hy hn
  obtain ⟨s1, s2⟩ := hs n (List.mem_of_getElem? hn)
  refine .inr ⟨p, q, _, _, rfl, rfl, .inl ⟨op, oq⟩, rfl, by show 2 ≤ 1000; decide, fun j x y hx hy => ?_⟩
  rw [hx] at hy
  cases hy
  match j, hx with
  | 0, hx =>
    cases hx
    exact ⟨rfl, s1⟩
  | 1, hx =>
    cases hx
    exact ⟨rfl, s2⟩
  | j + 2, hx => cases hx
theorem SbI.low {s D : Addr} {lo hi : Int} {H H' : Hp} {v : V} (h : SbI K (Fz s s) lo hi H v) (hD : H D = none) (e : Same H H') : SbI K (Fz s D) lo hi H' v := fun G g => h G (Kx.weak hD ((Kx.same e).trans g))
/-- the store while another list is written that holds no integers -/
theorem Sto.app {H : Hp} {s D p : Addr} {xs : List V} {o : HO} (h : Sto K H s) (nD : D ≠ s) (hD : H D = some (.lst (.ref p :: xs))) : Sto K (upd H D o) s := by
  obtain ⟨sc, ns, i, b, c, d, e, f, h1, h2, h3⟩ := h
  refine ⟨sc, ns, i, b, c, d, e, f, by rw [upd_ne (Ne.symm nD)]; exact h1, ?_, h3⟩
  rw [upd_ne]
  · exact h2
  · rintro rfl
    rw [h2] at hD
    cases ns with
    | nil => cases hD
    | cons n ns => cases hD
/-- the list of what is told, at D -/
structure Rs (K : PySem.W.Frag) (T : List (Addr × Str)) (s D : Addr) (H : Hp) (ns : List (V × V)) : Prop where
  ls : LawS K T H s
  tl : Tl K H D ns
  nD : D ≠ s
  ne : ns ≠ []
  ln : ns.length ≤ 20
theorem Rs.fl {T : List (Addr × Str)} {s D : Addr} {H : Hp} {ns : List (V × V)} (h : Rs K T s D H ns) : Fl (Fz s D) H := fun a z => by
  rcases z with rfl | rfl
  · exact h.ls.st.at
  · obtain ⟨xs, e, _⟩ := h.tl
    exact ⟨xs, e⟩
theorem Rs.go {T : List (Addr × Str)} {s D : Addr} {H H' : Hp} {ns : List (V × V)} (h : Rs K T s D H ns) (e : Kx (Fz s s) H H') (l : LawS K T H' s) : Rs K T s D H' ns :=
  ⟨l, h.tl.kx (fun z => z.elim h.nD h.nD) (fun a z => by rcases z with rfl | rfl <;> exact h.ls.st.at) e, h.nD, h.ne, h.ln⟩
theorem Rs.app {T : List (Addr × Str)} {s D : Addr} {H : Hp} {ns : List (V × V)} {v : V} {n : V × V} {xs : List V} (h : Rs K T s D H ns) (a : H D = some (.lst xs)) (g : Pr2 K H v n) (l : ns.length < 20) : Rs K T s D (upd H D (.lst (xs ++ [v]))) (ns ++ [n]) := by
  obtain ⟨ys, c, b⟩ := h.tl
  rw [a] at c
  cases c
  refine ⟨⟨?_, tabs_put a h.ls.tb⟩, Tl.put a b g, h.nD, by simp, by rw [List.length_append, List.length_singleton]; omega⟩
  obtain ⟨m, ns', rfl⟩ : ∃ m ns', ns = m :: ns' := by
    cases ns with
    | nil => exact absurd rfl h.ne
    | cons m ns' => exact ⟨m, ns', rfl⟩
  cases xs with
  | nil => have := b.1; simp at this
  | cons x xs =>
    obtain ⟨p, rfl, _⟩ := b.2 0 x m rfl rfl
    exact h.ls.st.app h.nD a
/-- two lists of pairs, the second is not written -/
theorem Tl.app {H : Hp} {D E : Addr} {xs : List V} {ns : List (V × V)} {o : HO} (h : Tl K H E ns) (n : E ≠ D) (a : H D = some (.lst xs)) : Tl K (upd H D o) E ns := by
  have fl : Fl (fun x => x = D) H := fun x z => by subst z; exact ⟨_, a⟩
  exact h.kx n fl (Kx.put (F := fun x => x = D) rfl)
theorem Tl.same {H H' : Hp} {D : Addr} {ns : List (V × V)} (h : Tl K H D ns) (e : Same H H') : Tl K H' D ns := h.kx (F := fun _ => False) id (fun _ z => z.elim) (Kx.same e)
/-- what is told at D and what is due at E -/
structure RG (K : PySem.W.Frag) (T : List (Addr × Str)) (s D E : Addr) (H : Hp) (ns : List (V × V)) : Prop where
  r : Rs K T s D H ns
  g : Tl K H E ns
  nE : E ≠ s
  nD : E ≠ D
  kD : K.lookup D = none
theorem RG.go {T : List (Addr × Str)} {s D E : Addr} {H H' : Hp} {ns : List (V × V)} (h : RG K T s D E H ns) (e : Kx (Fz s s) H H') (l : LawS K T H' s) : RG K T s D E H' ns :=
  ⟨h.r.go e l, h.g.kx (fun z => z.elim h.nE h.nE) (fun a z => by rcases z with rfl | rfl <;> exact h.r.ls.st.at) e, h.nE, h.nD, h.kD⟩
theorem RG.same {T : List (Addr × Str)} {s D E : Addr} {H H' : Hp} {ns : List (V × V)} (h : RG K T s D E H ns) (e : Same H H') : RG K T s D E H' ns := h.go (Kx.same e) (h.r.ls.same e)
theorem RG.kp {T : List (Addr × Str)} {s D E : Addr} {H H' : Hp} {ns : List (V × V)} (h : RG K T s D E H ns) (e : Kp s H H') (st : Sto K H' s) : RG K T s D E H' ns := h.go (Kx.kp (.inl rfl) e) (h.r.ls.kp e st)
theorem RG.nf {T : List (Addr × Str)} {s D E a : Addr} {H : Hp} {ns : List (V × V)} (h : RG K T s D E H ns) (n : H a = none) : ¬Fz s D a := fun z => by
  obtain ⟨ys, e⟩ := h.r.fl a z
  rw [n] at e
  cases e
theorem RG.nt {T : List (Addr × Str)} {s D E a : Addr} {H : Hp} {ns : List (V × V)} {xs : List V} (h : RG K T s D E H ns) (o : ob K H a = some (.tup xs)) : ¬Fz s D a := fun z => by
  obtain ⟨ys, e⟩ := h.r.fl a z
  have ka : K.lookup a = none := by
    rcases z with rfl | rfl
    · obtain ⟨sc, ns, i, b, c, d, e, f, h1, h2, h3⟩ := h.r.ls.st
      exact h3.2.2.1
    · exact h.kD
  rw [ob_none ka, e] at o
  cases o
end
end My

namespace My
open PySem PySem.Spec PyProof.Rows L2
section
variable {P : Program} {w : World} {K : PySem.W.Frag} {mg : Str → Option Value} {base : Heap}
abbrev sRefd : Stmt := topS 58
theorem scRefd : FnScope ["_law_store_here", "_law_longs_here", "_law_length", "_law_turn", "_law_told", "_law_due", "_law_word", "_law_item", "_law_bad", "_law_thing", "_law_bad_length", "_law_bad_longs", "_law_bad_turn", "_law_more", "_law_some_length", "_law_some_turn", "_law_wrong"] ["_law_store_here", "_law_longs_here", "_law_length"] (defScope sRefd) := ⟨rfl, rfl, rfl, by decide +kernel, rfl, by decide +kernel, by decide +kernel⟩
def qLam : Str := ("_law_refused" ++ ".<locals>.") ++ "<lambda>"
structure AskD (K : PySem.W.Frag) (mg : Str → Option Value) (g : Addr) (oc : Value) (od : Option Addr) (dV kV doc pm : Value) (an : Option Addr) (cdv ct : Value) (osl : Array (Option Value)) : Prop where
  m : mg "_law_answer" = some (.ref g)
  kp : PySem.W.keepIn K (.ref g) = true
  lk : K.lookup g = some ⟨oc, od, .func (PySem.W.fnOf "_law_answer" "_law_answer" (defArgs sAsked) (defBody sAsked) (defScope sAsked) dV kV doc pm an cdv ct), osl⟩
  cd : PySem.W.codeIn K cdv "_law_answer" = true
  b : Binds K (PySem.W.fnOf "_law_answer" "_law_answer" (defArgs sAsked) (defBody sAsked) (defScope sAsked) dV kV doc pm an cdv ct) ["_law_call"] []
def spRefd (K : PySem.W.Frag) (Pt : Addr) : Sp := fun vs H Q _ => ∃ (s : Addr) (h n : Int), vs = [.ref s, .int h, .int n] ∧ LawS K [(Pt, qLam)] H s ∧ 0 ≤ h ∧ h ≤ n ∧ 1 ≤ n ∧ n ≤ 100 ∧ ∀ H', LawS K [(Pt, qLam)] H' s → Q (.bl true) H'
theorem ok_Refd {C CB MM S fa g c Pt zd : Addr} {A : String → Addr} {oc dV kV doc pm cdv ct oc' dV' kV' doc' pm' ct' : Value} {od an od' an' : Option Addr} {osl osl' : Array (Option Value)} (T : Bt K mg) (B : BvT K mg CB) (AT : AskT K mg CB S A) (TM : AskM K MM S A) (AS : AskD K mg g oc od dV kV doc pm an cdv ct osl)
    (lkR : K.lookup fa = some ⟨oc', od', .func (PySem.W.fnOf "_law_refused" "_law_refused" (defArgs sRefd) (defBody sRefd) (defScope sRefd) dV' kV' doc' pm' an' (.ref c) ct'), osl'⟩) (cdR : PySem.W.codeIn K (.ref c) "_law_refused" = true) (TB : LamX.TabB base mg c Pt)
    (lwx : LwX P w K mg base 4 "leap_word" ["longs", "length", "turn"] ["turn"] (spLWX K CB MM) (.int 0)) (d_x : KnX P w K mg base 4 "even_turn" ["word"] (spEtX K CB))
    (hN : CyN K C) (hI : C8.InsC K C) (mkC : C8.Mak P w K mg base 5 "Cycle" C (spCyInit K C) [.ref zd]) (ozd : ∀ H, ob K H zd = some (.tup [.int 0, .int 1]))
    (d__law_take : Kn P w K mg base 2 "_law_take" ["_law_store_here", "_law_many"] (spTake K)) (d__law_pick : Kn P w K mg base 3 "_law_pick" ["_law_store_here", "_law_row"] (spPick K)) (d__law_range : Kn P w K mg base 3 "_law_range" ["_law_store_here", "_law_low", "_law_high"] (spRange K)) (d__law_added_up : Kn P w K mg base 1 "_law_added_up" ["_law_longs_here", "_law_length", "_law_turn"] (spAdd K)) (d__law_alike : Kn P w K mg base 4 "_law_alike" ["_law_told", "_law_due"] (spAlike K 3)) (d_is_even_word : Kn P w K mg base 5 "is_even_word" ["word"] (spIE K)) : FnOk P w K mg base CX0 9 fa (PySem.W.fnOf "_law_refused" "_law_refused" (defArgs sRefd) (defBody sRefd) (defScope sRefd) dV' kV' doc' pm' an' (.ref c) ct') ["_law_store_here", "_law_longs_here", "_law_length"] (spRefd K Pt) := by
  refine fn_of lkR cdR scRefd (fun vs H Q E h => ?_) fun A outer s H vs Q E hr h => ?_
  · obtain ⟨s, h, n, rfl, _⟩ := h
    rfl
  obtain ⟨s, h, n, rfl, LS0, h0, h1, n1, n2, q⟩ := h
  refine ⟨_, PSs.nox (pss_cons (ps_set (i := 3) scRefd.nd rfl (.inl rfl) (pe_kn d__law_take hr (by rfl) (pa_cons (pv 0) (pa_cons (pv 2) pa_nil))))
      (pss_cons (ps_set (i := 11) scRefd.nd rfl (.inr rfl) (pe_kn d__law_pick hr (by rfl) (pa_cons (pv 0) (pa_cons (pe_ls (pa_cons (pe_un un_neg pe_int) (pa_cons pe_int (pa_cons (pe_op op_pow pe_int pe_int) (pa_cons pe_bl (pa_cons pe_non (pa_cons pe_str (pa_cons (pe_tp (pa_cons pe_int (pa_cons pe_int pa_nil))) pa_nil)))))))) pa_nil))))
      (pss_cons (ps_set (i := 10) scRefd.nd rfl (.inr rfl) (pe_kn d__law_pick hr (by rfl) (pa_cons (pv 0) (pa_cons (pe_ls (pa_cons pe_int (pa_cons pe_int (pa_cons (pe_un un_neg pe_int) (pa_cons (pe_op op_pow pe_int pe_int) (pa_cons pe_bl (pa_cons pe_non (pa_cons pe_str (pa_cons (pe_ls (pa_cons pe_int pa_nil)) pa_nil))))))))) pa_nil))))
      (pss_cons (ps_set (i := 12) scRefd.nd rfl (.inr rfl) (pe_kn d__law_pick hr (by rfl) (pa_cons (pv 0) (pa_cons (pe_ls (pa_cons (pe_un un_neg pe_int) (pa_cons pe_int (pa_cons (pe_op op_pow pe_int pe_int) (pa_cons pe_bl (pa_cons pe_non (pa_cons pe_str (pa_cons (pe_tp (pa_cons pe_int (pa_cons pe_int pa_nil))) pa_nil)))))))) pa_nil))))
      (pss_cons (ps_set (i := 14) scRefd.nd rfl (.inr rfl) (pe_kn d__law_pick hr (by rfl) (pa_cons (pv 0) (pa_cons (pe_ls (pa_cons (pv 10) (pa_cons (pv 2) pa_nil))) pa_nil))))
      (pss_cons (ps_set (i := 15) scRefd.nd rfl (.inr rfl) (pe_kn d__law_pick hr (by rfl) (pa_cons (pv 0) (pa_cons (pe_ls (pa_cons (pv 12) (pa_cons (pv 3) (pa_cons pe_int pa_nil)))) pa_nil))))
      (pss_cons (ps_set (i := 4) scRefd.nd rfl (.inl rfl) (pe_ls (pa_cons (LamX.pe_lamcall (T := [(Pt, qLam)]) (TT := TAsk2 K CB MM) (t := fun E => tCallK (spLWX K CB MM) kw3 E (tCons (tVar 11) (tCons (tVar 14) L2.tNil)) (tCons (tVar 15) L2.tNil)) (by rfl) AS.m AS.kp AS.lk AS.cd AS.b scAsked rfl (.inl rfl) (asked_gives2 T B AT TM) TB rfl (List.mem_cons_self ..) (fun p hp _ => by simp only [List.mem_cons, List.not_mem_nil, or_false] at hp; subst hp; rfl) hr (LamX.lamS_by (by show LamX.lamSB (defScope sRefd) _ = true; decide +kernel)) rfl (fun _ _ _ _ _ => rfl) (fun A outer s H E f c' hr' => pe_lwX E lwx hr' (by rfl) (takes_of rfl rfl rfl rfl) (fun _ _ _ _ h => h) (pa_cons (pv 11) (pa_cons (pv 14) pa_nil)) (pk_cons (pv 15) pk_nil))) pa_nil)))
      (pss_cons (ps_expr (pe_bm PySem.F.plainAttrs_list PySem.F.slot_list_append PySem.F.type_list_append mt_append (pv 4) (pa_cons (LamX.pe_lamcall (T := [(Pt, qLam)]) (TT := TAsk2 K CB MM) (t := fun E => tCallK (spLWX K CB MM) kw3 E (tCons (tVar 1) (tCons (tVar 10) L2.tNil)) (tCons (tVar 15) L2.tNil)) (by rfl) AS.m AS.kp AS.lk AS.cd AS.b scAsked rfl (.inl rfl) (asked_gives2 T B AT TM) TB rfl (List.mem_cons_self ..) (fun p hp _ => by simp only [List.mem_cons, List.not_mem_nil, or_false] at hp; subst hp; rfl) hr (LamX.lamS_by (by show LamX.lamSB (defScope sRefd) _ = true; decide +kernel)) rfl (fun _ _ _ _ _ => rfl) (fun A outer s H E f c' hr' => pe_lwX E lwx hr' (by rfl) (takes_of rfl rfl rfl rfl) (fun _ _ _ _ h => h) (pa_cons (pv 1) (pa_cons (pv 10) pa_nil)) (pk_cons (pv 15) pk_nil))) pa_nil)))
      (pss_cons (ps_expr (pe_bm PySem.F.plainAttrs_list PySem.F.slot_list_append PySem.F.type_list_append mt_append (pv 4) (pa_cons (LamX.pe_lamcall (T := [(Pt, qLam)]) (TT := TAsk2 K CB MM) (t := fun E => tCallK (spLWX K CB MM) kw3 E (tCons (tCall (spPick K) [] E0 (tCons (tVar 0) (tCons (tLs K (tCons (tVar 1) (tCons (tC (.int 100)) L2.tNil))) L2.tNil))) (tCons (tVar 2) L2.tNil)) (tCons (tVar 12) L2.tNil)) (by rfl) AS.m AS.kp AS.lk AS.cd AS.b scAsked rfl (.inl rfl) (asked_gives2 T B AT TM) TB rfl (List.mem_cons_self ..) (fun p hp _ => by simp only [List.mem_cons, List.not_mem_nil, or_false] at hp; subst hp; rfl) hr (LamX.lamS_by (by show LamX.lamSB (defScope sRefd) _ = true; decide +kernel)) rfl (fun _ _ _ _ _ => rfl) (fun A outer s H E f c' hr' => pe_lwX E lwx hr' (by rfl) (takes_of rfl rfl rfl rfl) (fun _ _ _ _ h => h) (pa_cons (pe_kn d__law_pick hr' (by rfl) (pa_cons (pv 0) (pa_cons (pe_ls (pa_cons (pv 1) (pa_cons pe_int pa_nil))) pa_nil))) (pa_cons (pv 2) pa_nil)) (pk_cons (pv 12) pk_nil))) pa_nil)))
      (pss_cons (ps_set (i := 5) scRefd.nd rfl (.inl rfl) (pe_ls (pa_cons (pe_tp (pa_cons pe_str (pa_cons pe_str pa_nil))) (pa_cons (pe_tp (pa_cons pe_str (pa_cons pe_str pa_nil))) (pa_cons (pe_tp (pa_cons pe_str (pa_cons pe_str pa_nil))) pa_nil)))))
      (C8.pss_cut (ps_if (pt_cmpR op_lt (pv 2) pe_int (nomark _)) (pss_cons (ps_set (i := 13) scRefd.nd rfl (.inr rfl) (pe_kn d__law_range hr (by rfl) (pa_cons (pv 0) (pa_cons (pe_op op_add (pv 2) pe_int) (pa_cons pe_int pa_nil)))))
      (pss_cons (ps_expr (pe_bm PySem.F.plainAttrs_list PySem.F.slot_list_append PySem.F.type_list_append mt_append (pv 4) (pa_cons (LamX.pe_lamcall (T := [(Pt, qLam)]) (TT := TAsk2 K CB MM) (t := fun E => tCall (spLWX K CB MM) [.int 0] E (tCons (tVar 13) (tCons (tVar 2) L2.tNil))) (by rfl) AS.m AS.kp AS.lk AS.cd AS.b scAsked rfl (.inl rfl) (asked_gives2 T B AT TM) TB rfl (List.mem_cons_self ..) (fun p hp _ => by simp only [List.mem_cons, List.not_mem_nil, or_false] at hp; subst hp; rfl) hr (LamX.lamS_by (by show LamX.lamSB (defScope sRefd) _ = true; decide +kernel)) rfl (fun _ _ _ _ _ => rfl) (fun A outer s H E f c' hr' => pe_lwX1 E lwx hr' (by rfl) (takes_of rfl rfl rfl rfl) (fun _ _ _ _ h => h) (pa_cons (pv 13) (pa_cons (pv 2) pa_nil)))) pa_nil)))
      (pss_cons (ps_expr (pe_bm PySem.F.plainAttrs_list PySem.F.slot_list_append PySem.F.type_list_append mt_append (pv 4) (pa_cons (LamX.pe_lamcall (T := [(Pt, qLam)]) (TT := TAsk2 K CB MM) (t := fun E => tCallK (spLWX K CB MM) kw3 E (tCons (tVar 1) (tCons (tVar 2) L2.tNil)) (tCons (tOp rSub (tVar 13) (tC (.int 1))) L2.tNil)) (by rfl) AS.m AS.kp AS.lk AS.cd AS.b scAsked rfl (.inl rfl) (asked_gives2 T B AT TM) TB rfl (List.mem_cons_self ..) (fun p hp _ => by simp only [List.mem_cons, List.not_mem_nil, or_false] at hp; subst hp; rfl) hr (LamX.lamS_by (by show LamX.lamSB (defScope sRefd) _ = true; decide +kernel)) rfl (fun _ _ _ _ _ => rfl) (fun A outer s H E f c' hr' => pe_lwX E lwx hr' (by rfl) (takes_of rfl rfl rfl rfl) (fun _ _ _ _ h => h) (pa_cons (pv 1) (pa_cons (pv 2) pa_nil)) (pk_cons (pe_op op_sub (pv 13) pe_int) pk_nil))) pa_nil)))
      (pss_one (ps_set (i := 5) scRefd.nd rfl (.inl rfl) (pe_fr (pe_op op_cat (pv 5) (pe_ls (pa_cons (pe_tp (pa_cons pe_str (pa_cons pe_non pa_nil))) (pa_cons (pe_tp (pa_cons pe_str (pa_cons pe_non pa_nil))) pa_nil)))))))))) pss_nil)
      (pss_cons (ps_set (i := 6) scRefd.nd rfl (.inl rfl) (pe_kn d__law_added_up hr (by rfl) (pa_cons (pv 1) (pa_cons (pv 2) (pa_cons (pv 3) pa_nil)))))
      (pss_cons (ps_set (i := 7) scRefd.nd rfl (.inl rfl) (pe_kn d__law_pick hr (by rfl) (pa_cons (pv 0) (pa_cons (pe_ls (pa_cons pe_int (pa_cons (pe_un un_neg pe_int) (pa_cons pe_bl (pa_cons pe_bl (pa_cons pe_non (pa_cons pe_str (pa_cons (pe_tp (pa_cons pe_int pa_nil)) pa_nil)))))))) pa_nil))))
      (pss_cons (ps_set (i := 8) scRefd.nd rfl (.inl rfl) (pe_ls (pa_cons (pe_fr (pe_op op_catA (pe_fr (pe_op op_catA (pe_fr (pe_slice sl_tupA (pv 6) po_none (po_some (pv 3)))) (pe_tp (pa_cons (pv 7) pa_nil)))) (pe_fr (pe_slice sl_tupA (pv 6) (po_some (pe_op op_add (pv 3) pe_int)) po_none)))) (pa_cons (pe_tp pa_nil) (pa_cons (pe_fr (pe_callTy call_tuple_of (by rfl) T.b_tuple (by decide +kernel) (pa_cons (pe_fr (pe_op op_rep (pe_ls (pa_cons pe_int pa_nil)) pe_int)) pa_nil))) (pa_cons (pe_fr (pe_callTy call_list_of (by rfl) T.b_list (by decide +kernel) (pa_cons (pv 6) pa_nil))) (pa_cons pe_non (pa_cons pe_int (pa_cons pe_str (pa_cons (pe_tp (pa_cons (pv 6) pa_nil)) pa_nil))))))))))
      (pss_cons (ps_set (i := 9) scRefd.nd rfl (.inl rfl) (pe_kn d__law_pick hr (by rfl) (pa_cons (pv 0) (pa_cons (pe_ls (pa_cons (C8.pe_mk mkC hr (by omega) (by rfl) (pa_cons (pe_tp (pa_cons pe_int (pa_cons pe_int pa_nil))) pa_nil)) (pa_cons (pe_fr (pe_op op_catA (pe_tp (pa_cons (C8.pe_mk mkC hr (by omega) (by rfl) (pa_cons (pe_tp (pa_cons pe_int (pa_cons pe_int pa_nil))) pa_nil)) pa_nil)) (pe_fr (pe_slice sl_tupA (pv 6) (po_some pe_int) po_none)))) pa_nil))) pa_nil))))
      (pss_cons (ps_set (i := 16) scRefd.nd rfl (.inr rfl) (pe_kn d__law_pick hr (by rfl) (pa_cons (pv 0) (pa_cons (pe_ls (pa_cons (pe_ix ix_any (pv 8) pe_int (fun _ _ => rfl)) (pa_cons (pe_kn d__law_pick hr (by rfl) (pa_cons (pv 0) (pa_cons (pv 8) pa_nil))) (pa_cons (pv 9) pa_nil)))) pa_nil))))
      (pss_cons (ps_expr (pe_bm PySem.F.plainAttrs_list PySem.F.slot_list_append PySem.F.type_list_append mt_append (pv 4) (pa_cons (LamX.pe_lamcall (T := [(Pt, qLam)]) (TT := TAsk2 K CB MM) (t := fun E => tCall (spEtX K CB) [] E (tCons (tVar 16) L2.tNil)) (by rfl) AS.m AS.kp AS.lk AS.cd AS.b scAsked rfl (.inl rfl) (asked_gives2 T B AT TM) TB rfl (List.mem_cons_self ..) (fun p hp _ => by simp only [List.mem_cons, List.not_mem_nil, or_false] at hp; subst hp; rfl) hr (LamX.lamS_by (by show LamX.lamSB (defScope sRefd) _ = true; decide +kernel)) rfl (fun _ _ _ _ _ => rfl) (fun A outer s H E f c' hr' => pe_knX E d_x hr' (by rfl) (takes_of rfl rfl rfl rfl) (fun _ _ _ _ h => h) (pa_cons (pv 16) pa_nil))) pa_nil)))
      (pss_one (ps_ret (pe_and (pe_kn d__law_alike hr (by rfl) (pa_cons (pv 4) (pa_cons (pe_fr (pe_op op_cat (pv 5) (pe_ls (pa_cons (pe_tp (pa_cons pe_str (pa_cons pe_str pa_nil))) pa_nil)))) pa_nil))) (pe_one (pe_cmpR op_is_bl (pe_kn d_is_even_word hr (by rfl) (pa_cons (pv 16) pa_nil)) pe_bl (nomark _))))))))))))))))))))))), ?_⟩
  simp only [cx_K]
  have hS := LS0.st
  have kp0 := Kp.refl s H
  refine ⟨_, rfl, _, rfl, s, n, rfl, hS, by omega, fun r H1 r0 r1' kp1 st1 => ?_⟩
  have r1 : r < n := by omega
  clear r1'
  refine ⟨_, rfl, _, rfl, _, _, rfl, rfl, ⟨by decide, by decide, by decide⟩, sz2 (by show 2 ≤ 100; decide), fun p hp kq => ⟨sz2 (by show 7 ≤ 100; decide), fun l hl kl => ?_⟩⟩
  have sT := Same.new hp (.tup [.int 1, .int 1])
  have sL := Same.new hl (.lst [.int (-1), .int 101, .int (10 ^ (39 : Int).toNat), .bl true, .non, .str "1", .ref p])
  have np : ¬Fz s s p := fun z => z.elim (st1.ne' hp) (st1.ne' hp)
  have all : ∀ v ∈ ([.int (-1), .int 101, .int (10 ^ (39 : Int).toNat), .bl true, .non, .str "1", .ref p] : List V), SbI K (Fz s s) 0 100 (upd (upd H1 p (.tup [.int 1, .int 1])) l (.lst [.int (-1), .int 101, .int (10 ^ (39 : Int).toNat), .bl true, .non, .str "1", .ref p])) v := fun v hv => by
    simp only [List.mem_cons, List.not_mem_nil, or_false] at hv
    rcases hv with rfl | rfl | rfl | rfl | rfl | rfl | rfl
    · exact sbI_sc (t := "int") (fun _ => rfl) (by decide +kernel)
    · exact sbI_sc (t := "int") (fun _ => rfl) (by decide +kernel)
    · exact sbI_sc (t := "int") (fun _ => rfl) (by decide +kernel)
    · exact sbI_sc (t := "bool") (fun _ => rfl) rfl
    · exact sbI_sc (t := "NoneType") (fun _ => rfl) rfl
    · exact sbI_sc (t := "str") (fun _ => rfl) rfl
    · exact sbI_tup np (ob_same sL (ob_new kq))
  have nl : s ≠ l := ((st1.same sT).ne' hl).symm
  refine ⟨s, l, [.int (-1), .int 101, .int (10 ^ (39 : Int).toNat), .bl true, .non, .str "1", .ref p], rfl, st1.same (sT.trans sL), upd_same, nl, by show 0 < 7; decide, by show 7 < 1000; decide, fun bl H2 hv kpn st2 => ?_⟩
  have b_bl := (all bl hv).kx (Kx.kp (.inl rfl) kpn)
  have kp2 := (Kp.same (sT.trans sL)).trans kpn
  clear all hv kpn sT sL np nl hp kq hl kl p l
  refine ⟨_, rfl, _, rfl, _, _, rfl, rfl, ⟨by decide, by decide, by decide⟩, sz2 (by show 1 ≤ 100; decide), fun p hp kq => ⟨sz2 (by show 8 ≤ 100; decide), fun l hl kl => ?_⟩⟩
  have sT := Same.new hp (.lst [.int 1])
  have sL := Same.new hl (.lst [.int 0, .int 101, .int (-1), .int (10 ^ (39 : Int).toNat), .bl true, .non, .str "1", .ref p])
  have np : ¬Fz s s p := fun z => z.elim (st2.ne' hp) (st2.ne' hp)
  have all : ∀ v ∈ ([.int 0, .int 101, .int (-1), .int (10 ^ (39 : Int).toNat), .bl true, .non, .str "1", .ref p] : List V), SbI K (Fz s s) 1 100 (upd (upd H2 p (.lst [.int 1])) l (.lst [.int 0, .int 101, .int (-1), .int (10 ^ (39 : Int).toNat), .bl true, .non, .str "1", .ref p])) v := fun v hv => by
    simp only [List.mem_cons, List.not_mem_nil, or_false] at hv
    rcases hv with rfl | rfl | rfl | rfl | rfl | rfl | rfl | rfl
    · exact sbI_sc (t := "int") (fun _ => rfl) (by decide +kernel)
    · exact sbI_sc (t := "int") (fun _ => rfl) (by decide +kernel)
    · exact sbI_sc (t := "int") (fun _ => rfl) (by decide +kernel)
    · exact sbI_sc (t := "int") (fun _ => rfl) (by decide +kernel)
    · exact sbI_sc (t := "bool") (fun _ => rfl) rfl
    · exact sbI_sc (t := "NoneType") (fun _ => rfl) rfl
    · exact sbI_sc (t := "str") (fun _ => rfl) rfl
    · exact sbI_lst np (ob_same sL (ob_new kq))
  have nl : s ≠ l := ((st2.same sT).ne' hl).symm
  refine ⟨s, l, [.int 0, .int 101, .int (-1), .int (10 ^ (39 : Int).toNat), .bl true, .non, .str "1", .ref p], rfl, st2.same (sT.trans sL), upd_same, nl, by show 0 < 8; decide, by show 8 < 1000; decide, fun bn H3 hv kpn st3 => ?_⟩
  have b_bn := (all bn hv).kx (Kx.kp (.inl rfl) kpn)
  have kp3 := (Kp.same (sT.trans sL)).trans kpn
  clear all hv kpn sT sL np nl hp kq hl kl p l
  have b_bl := b_bl.kx (Kx.kp (.inl rfl) kp3)
  refine ⟨_, rfl, _, rfl, _, _, rfl, rfl, ⟨by decide, by decide, by decide⟩, sz2 (by show 2 ≤ 100; decide), fun p hp kq => ⟨sz2 (by show 7 ≤ 100; decide), fun l hl kl => ?_⟩⟩
  have sT := Same.new hp (.tup [.int 0, .int 1])
  have sL := Same.new hl (.lst [.int (-1), .int 100, .int (10 ^ (39 : Int).toNat), .bl false, .non, .str "0", .ref p])
  have np : ¬Fz s s p := fun z => z.elim (st3.ne' hp) (st3.ne' hp)
  have all : ∀ v ∈ ([.int (-1), .int 100, .int (10 ^ (39 : Int).toNat), .bl false, .non, .str "0", .ref p] : List V), SbI K (Fz s s) 0 99 (upd (upd H3 p (.tup [.int 0, .int 1])) l (.lst [.int (-1), .int 100, .int (10 ^ (39 : Int).toNat), .bl false, .non, .str "0", .ref p])) v := fun v hv => by
    simp only [List.mem_cons, List.not_mem_nil, or_false] at hv
    rcases hv with rfl | rfl | rfl | rfl | rfl | rfl | rfl
    · exact sbI_sc (t := "int") (fun _ => rfl) (by decide +kernel)
    · exact sbI_sc (t := "int") (fun _ => rfl) (by decide +kernel)
    · exact sbI_sc (t := "int") (fun _ => rfl) (by decide +kernel)
    · exact sbI_sc (t := "bool") (fun _ => rfl) rfl
    · exact sbI_sc (t := "NoneType") (fun _ => rfl) rfl
    · exact sbI_sc (t := "str") (fun _ => rfl) rfl
    · exact sbI_tup np (ob_same sL (ob_new kq))
  have nl : s ≠ l := ((st3.same sT).ne' hl).symm
  refine ⟨s, l, [.int (-1), .int 100, .int (10 ^ (39 : Int).toNat), .bl false, .non, .str "0", .ref p], rfl, st3.same (sT.trans sL), upd_same, nl, by show 0 < 7; decide, by show 7 < 1000; decide, fun bt H4 hv kpn st4 => ?_⟩
  have b_bt := (all bt hv).kx (Kx.kp (.inl rfl) kpn)
  have kp4 := (Kp.same (sT.trans sL)).trans kpn
  clear all hv kpn sT sL np nl hp kq hl kl p l
  have b_bl := b_bl.kx (Kx.kp (.inl rfl) kp4)
  have b_bn := b_bn.kx (Kx.kp (.inl rfl) kp4)
  refine ⟨_, rfl, _, rfl, _, rfl, sz2 (by show 2 ≤ 100; decide), fun l hl kl => ?_⟩
  have sL := Same.new hl (.lst [bn, .int n])
  refine ⟨s, l, [bn, .int n], rfl, st4.same sL, upd_same, (st4.ne' hl).symm, by show 0 < 2; decide, by show 2 < 1000; decide, fun sl H5 hv kpn st5 => ?_⟩
  have kp5 := (Kp.same sL).trans kpn
  clear hv kpn sL hl kl l
  have b_bl := b_bl.kx (Kx.kp (.inl rfl) kp5)
  have b_bn := b_bn.kx (Kx.kp (.inl rfl) kp5)
  have b_bt := b_bt.kx (Kx.kp (.inl rfl) kp5)
  refine ⟨_, rfl, _, rfl, _, rfl, sz2 (by show 3 ≤ 100; decide), fun l hl kl => ?_⟩
  have sL := Same.new hl (.lst [bt, .int r, .int 99])
  refine ⟨s, l, [bt, .int r, .int 99], rfl, st5.same sL, upd_same, (st5.ne' hl).symm, by show 0 < 3; decide, by show 3 < 1000; decide, fun so H6 hv kpn st6 => ?_⟩
  have kp6 := (Kp.same sL).trans kpn
  clear hv kpn sL hl kl l
  have b_bl := b_bl.kx (Kx.kp (.inl rfl) kp6)
  have b_bn := b_bn.kx (Kx.kp (.inl rfl) kp6)
  have b_bt := b_bt.kx (Kx.kp (.inl rfl) kp6)
  have kp := kp1.trans (kp2.trans (kp3.trans (kp4.trans (kp5.trans kp6))))
  have LS6 := LS0.kp kp st6
  clear kp kp0 kp1 kp2 kp3 kp4 kp5 kp6 st1 st2 st3 st4 st5 LS0 hS
  refine ⟨LS6.tb, fun Ha ea ta => ?_⟩
  have w := (b_bl.kx (Kx.ext ea)).now
  refine ⟨_, rfl, _, rfl, _, rfl, .inl ⟨bl, sl, so, rfl, w.1, w.2, fun d Hb sb hbd => .inl ⟨rfl, d, _, rfl, hbd, fun p Hc sc op => ?_⟩⟩⟩
  refine ⟨sz2 (by show 1 ≤ 100; decide), fun D hD kD => ?_⟩
  have stc := ((st6.ext ea).same sb).same sc
  have nD := stc.ne' hD
  have kx : Kx (Fz s s) H6 Hc := (Kx.ext ea).trans (Kx.same (sb.trans sc))
  have s7 := Same.new hD (.lst [.ref p])
  have b_bn := (b_bn.kx kx).low hD s7
  have b_bt := (b_bt.kx kx).low hD s7
  have g1 : Pr2 K Hc (.ref p) (.str "BadValue", .str "longs") := ⟨p, rfl, op⟩
  have R : Rs K [(Pt, qLam)] s D (upd Hc D (.lst [.ref p])) [(.str "BadValue", .str "longs")] := ⟨⟨stc.same s7, tabs_same s7 (tabs_same (sb.trans sc) ta)⟩, ⟨_, upd_same, (Prs.nil (K := K)).add (g1.same s7)⟩, nD, by simp, by decide⟩
  clear b_bl w ea ta sb hbd sc op hD kx s7 g1 stc st6 LS6
  generalize upd Hc D (.lst [.ref p]) = H7 at R b_bn b_bt ⊢
  obtain ⟨acc, hDo, pr⟩ := id R.tl
  have la : acc.length ≤ 10 := by rw [pr.1]; decide
  refine ⟨_, rfl, .inl ⟨rfl, _, .of hDo⟩, R.ls.tb, fun Ha ea ta => ?_⟩
  have w := (b_bn.kx (Kx.ext ea)).now
  refine ⟨_, rfl, _, rfl, _, rfl, .inr (.inl ⟨h, bn, so, rfl, h0, by omega, w.1, w.2, fun d Hb sb hbd => .inl ⟨rfl, d, _, rfl, hbd, fun p Hc sc op => ?_⟩⟩)⟩
  have kx : Kx (Fz s s) H7 Hc := (Kx.ext ea).trans ((Kx.same (sb.trans sc)))
  have hDc : Hc D = some (.lst acc) := (sb.trans sc) _ _ (ea _ _ hDo (fun ps z => by cases z))
  have lsc : LawS K [(Pt, qLam)] Hc s := ⟨(R.ls.st.ext ea).same (sb.trans sc), tabs_same (sb.trans sc) ta⟩
  have R := (R.go kx lsc).app hDc (n := (.str "BadValue", .str "length")) ⟨p, rfl, op⟩ (by decide)
  refine ⟨D, acc, .ref p, rfl, rfl, hDc, by rw [sizeLine_eq]; omega, ?_⟩
  have kz : Kx (Fz s D) H7 (upd Hc D (.lst (acc ++ [.ref p]))) := Kx.trans (fun c o m t e => kx c o (fun z => m (z.elim .inl .inl)) t e) (Kx.put (.inr rfl))
  have b_bt := b_bt.kx kz
  clear kz kx hDc lsc op ea ta la pr hDo w b_bn
  generalize upd Hc D (.lst (acc ++ [.ref p])) = H8 at R b_bt ⊢
  obtain ⟨acc, hDo, pr⟩ := id R.tl
  have la : acc.length ≤ 10 := by rw [pr.1]; decide
  refine ⟨_, rfl, .inl ⟨rfl, _, .of hDo⟩, R.ls.tb, fun Ha ea ta => ?_⟩
  refine ⟨_, rfl, _, rfl, sz2 (by show 2 ≤ 100; decide), fun l hl kl => ?_⟩
  have sl' := Same.new hl (.lst [.int h, .int 100])
  have sta := R.ls.st.ext ea
  refine ⟨s, l, [.int h, .int 100], rfl, sta.same sl', upd_same, (sta.ne' hl).symm, by show 0 < 2; decide, by show 2 < 1000; decide, fun x G hx kpn stg => ?_⟩
  obtain ⟨h', rfl, g0, g1⟩ : ∃ h' : Int, x = .int h' ∧ 0 ≤ h' ∧ h' ≤ 100 := by
    simp only [List.mem_cons, List.not_mem_nil, or_false] at hx
    rcases hx with rfl | rfl
    · exact ⟨h, rfl, h0, by omega⟩
    · exact ⟨100, rfl, by decide, by decide⟩
  have kag : Kp s Ha G := (Kp.same sl').trans kpn
  clear hx kpn sl' kl hl l
  have w := (b_bt.kx ((Kx.ext ea).trans (Kx.kp (.inl rfl) kag))).now
  have lg : LawS K [(Pt, qLam)] G s := LawS.kp ⟨sta, ta⟩ kag stg
  refine ⟨_, rfl, _, rfl, .inr (.inr (.inl ⟨h', n, bt, rfl, g0, g1, n1, n2, w.1, w.2, fun d Hb sb hbd => .inl ⟨rfl, d, _, rfl, hbd, fun p Hc sc op => ?_⟩⟩))⟩
  have kx : Kx (Fz s s) H8 Hc := (Kx.ext ea).trans ((Kx.kp (.inl rfl) kag).trans (Kx.same (sb.trans sc)))
  have hDc : Hc D = some (.lst acc) := (sb.trans sc) _ _ (kag _ _ R.nD (ea _ _ hDo (fun ps z => by cases z)))
  have lsc : LawS K [(Pt, qLam)] Hc s := lg.same (sb.trans sc)
  have R := (R.go kx lsc).app hDc (n := (.str "BadValue", .str "turn")) ⟨p, rfl, op⟩ (by decide)
  refine ⟨D, acc, .ref p, rfl, rfl, hDc, by rw [sizeLine_eq]; omega, ?_⟩
  have kz : Kx (Fz s D) H8 (upd Hc D (.lst (acc ++ [.ref p]))) := Kx.trans (fun c o m t e => kx c o (fun z => m (z.elim .inl .inl)) t e) (Kx.put (.inr rfl))
  clear kz kx hDc lsc op ea ta la pr hDo w b_bt lg kag stg sta
  generalize upd Hc D (.lst (acc ++ [.ref p])) = H9 at R ⊢
  have st9 := R.ls.st
  refine ⟨sz2 (by show 2 ≤ 100; decide), fun p1 hp1 k1 => ⟨sz2 (by show 2 ≤ 100; decide), fun p2 hp2 k2 => ⟨sz2 (by show 2 ≤ 100; decide), fun p3 hp3 k3 => ⟨sz2 (by show 3 ≤ 100; decide), fun E2 hE kE => ?_⟩⟩⟩⟩
  have a1 := Same.new hp1 (.tup [.str "BadValue", .str "longs"])
  have a2 := Same.new hp2 (.tup [.str "BadValue", .str "length"])
  have a3 := Same.new hp3 (.tup [.str "BadValue", .str "turn"])
  have a4 := Same.new hE (.lst [.ref p1, .ref p2, .ref p3])
  have o1 := ob_same (a2.trans (a3.trans a4)) (ob_new (K := K) (o := .tup [.str "BadValue", .str "longs"]) k1)
  have o2 := ob_same (a3.trans a4) (ob_new (K := K) (o := .tup [.str "BadValue", .str "length"]) k2)
  have o3 := ob_same a4 (ob_new (K := K) (o := .tup [.str "BadValue", .str "turn"]) k3)
  have aA := a1.trans (a2.trans (a3.trans a4))
  obtain ⟨acc, hDo, _⟩ := id R.tl
  have nE : E2 ≠ s := (st9.same (a1.trans (a2.trans a3))).ne' hE
  have nED : E2 ≠ D := (ne_of_none ((a1.trans (a2.trans a3)) _ _ hDo) hE).symm
  have G : Tl K (upd (upd (upd (upd H9 p1 (.tup [.str "BadValue", .str "longs"])) p2 (.tup [.str "BadValue", .str "length"])) p3 (.tup [.str "BadValue", .str "turn"])) E2 (.lst [.ref p1, .ref p2, .ref p3])) E2 [(.str "BadValue", .str "longs"), (.str "BadValue", .str "length"), (.str "BadValue", .str "turn")] := ⟨_, upd_same, (((Prs.nil (K := K)).add (n := (.str "BadValue", .str "longs")) ⟨p1, rfl, o1⟩).add (n := (.str "BadValue", .str "length")) ⟨p2, rfl, o2⟩).add (n := (.str "BadValue", .str "turn")) ⟨p3, rfl, o3⟩⟩
  have R := R.go (Kx.same aA) (R.ls.same aA)
  clear a1 a2 a3 a4 o1 o2 o3 hp1 hp2 hp3 hE k1 k2 k3 aA hDo st9
  generalize upd (upd (upd (upd H9 p1 (.tup [.str "BadValue", .str "longs"])) p2 (.tup [.str "BadValue", .str "length"])) p3 (.tup [.str "BadValue", .str "turn"])) E2 (.lst [.ref p1, .ref p2, .ref p3]) = H10 at R G ⊢
  clear p1 p2 p3
  refine ⟨fun σ H' => ∃ (E : Addr) (x13 : Option V) (ns : List (V × V)), σ = [some (.ref s), some (.int h), some (.int n), some (.int r), some (.ref D), some (.ref E), none, none, none, none, some bn, some bl, some bt, x13, some sl, some so, none] ∧ Rs K [(Pt, qLam)] s D H' ns ∧ Tl K H' E ns ∧ E ≠ s ∧ E ≠ D ∧ K.lookup E = none ∧ (∀ m ∈ ns, sc3 m.1 = true ∧ sc3 m.2 = true) ∧ ns.length ≤ 5, ?_, ?_⟩
  · refine ⟨_, rfl, _, _, rfl, rfl, _, rfl, ite2 (fun hlt => ?_) (fun _ => ⟨E2, none, _, rfl, R, G, nE, nED, kE, by decide, by decide⟩)⟩
    have hlt := of_decide_eq_true hlt
    refine ⟨_, rfl, _, rfl, _, _, rfl, rfl, s, n + 1, 100, rfl, R.ls.st, by omega, by decide, fun m H11 m0 m1 m2 kpm stm => ?_⟩
    have m3 : n < m ∧ m ≤ 100 := by omega
    clear m0 m1 m2
    have G := G.kx (F := Fz s s) (fun z => z.elim nE nE) (fun a z => by rcases z with rfl | rfl <;> exact R.ls.st.at) (Kx.kp (.inl rfl) kpm)
    have R := R.go (Kx.kp (.inl rfl) kpm) (R.ls.kp kpm stm)
    clear kpm stm
    have RO := R
    obtain ⟨acc, hDo, pr⟩ := id R.tl
    have la : acc.length ≤ 10 := by rw [pr.1]; decide
    refine ⟨_, rfl, .inl ⟨rfl, _, .of hDo⟩, R.ls.tb, fun Ha ea ta => ?_⟩
    refine ⟨_, rfl, _, rfl, .inr (.inr (.inr ⟨m, n, 0, rfl, by omega, m3.2, n1, n2, by decide, by decide, .inl m3.1, .inr ⟨rfl, rfl, fun p Hc sc op => ?_⟩⟩))⟩
    have kx : Kx (Fz s s) H11 Hc := (Kx.ext ea).trans ((Kx.same sc))
    have hDc : Hc D = some (.lst acc) := sc _ _ (ea _ _ hDo (fun ps z => by cases z))
    have lsc : LawS K [(Pt, qLam)] Hc s := ⟨(R.ls.st.ext ea).same sc, tabs_same sc ta⟩
    have R := (R.go kx lsc).app hDc (n := (.str "Mismatch", .non)) ⟨p, rfl, op⟩ (by decide)
    refine ⟨D, acc, .ref p, rfl, rfl, hDc, by rw [sizeLine_eq]; omega, ?_⟩
    have G := (G.kx (F := Fz s s) (fun z => z.elim nE nE) (fun a z => by rcases z with rfl | rfl <;> exact RO.ls.st.at) kx).app nED (o := .lst (acc ++ [.ref p])) hDc
    have kz : Kx (Fz s D) H11 (upd Hc D (.lst (acc ++ [.ref p]))) := Kx.trans (fun c o m t e => kx c o (fun z => m (z.elim .inl .inl)) t e) (Kx.put (.inr rfl))
    clear RO kz kx hDc lsc op ea ta la pr hDo
    generalize upd Hc D (.lst (acc ++ [.ref p])) = H12 at R G ⊢
    have RO := R
    obtain ⟨acc, hDo, pr⟩ := id R.tl
    have la : acc.length ≤ 10 := by rw [pr.1]; decide
    refine ⟨_, rfl, .inl ⟨rfl, _, .of hDo⟩, R.ls.tb, fun Ha ea ta => ?_⟩
    refine ⟨_, rfl, _, rfl, _, rfl, _, _, rfl, rfl, .inr (.inr (.inr ⟨h, n, m - 1, rfl, h0, by omega, n1, n2, by omega, by omega, .inr (by omega), .inr ⟨rfl, rfl, fun p Hc sc op => ?_⟩⟩))⟩
    have kx : Kx (Fz s s) H12 Hc := (Kx.ext ea).trans ((Kx.same sc))
    have hDc : Hc D = some (.lst acc) := sc _ _ (ea _ _ hDo (fun ps z => by cases z))
    have lsc : LawS K [(Pt, qLam)] Hc s := ⟨(R.ls.st.ext ea).same sc, tabs_same sc ta⟩
    have R := (R.go kx lsc).app hDc (n := (.str "Mismatch", .non)) ⟨p, rfl, op⟩ (by decide)
    refine ⟨D, acc, .ref p, rfl, rfl, hDc, by rw [sizeLine_eq]; omega, ?_⟩
    have G := (G.kx (F := Fz s s) (fun z => z.elim nE nE) (fun a z => by rcases z with rfl | rfl <;> exact RO.ls.st.at) kx).app nED (o := .lst (acc ++ [.ref p])) hDc
    have kz : Kx (Fz s D) H12 (upd Hc D (.lst (acc ++ [.ref p]))) := Kx.trans (fun c o m t e => kx c o (fun z => m (z.elim .inl .inl)) t e) (Kx.put (.inr rfl))
    clear RO kz kx hDc lsc op ea ta la pr hDo
    generalize upd Hc D (.lst (acc ++ [.ref p])) = H13 at R G ⊢
    refine ⟨_, rfl, sz2 (by show 2 ≤ 100; decide), fun p1 hp1 kp1 => ⟨sz2 (by show 2 ≤ 100; decide), fun p2 hp2 kp2 => ⟨sz2 (by show 2 ≤ 100; decide), fun l hl kl => ?_⟩⟩⟩
    have a1 := Same.new hp1 (.tup [.str "Mismatch", .non])
    have a2 := Same.new hp2 (.tup [.str "Mismatch", .non])
    have a3 := Same.new hl (.lst [.ref p1, .ref p2])
    have o1 := ob_same (a2.trans a3) (ob_new (K := K) (o := .tup [.str "Mismatch", .non]) kp1)
    have o2 := ob_same a3 (ob_new (K := K) (o := .tup [.str "Mismatch", .non]) kp2)
    have aA := (a1.trans (a2.trans a3))
    have el : (upd (upd (upd H13 p1 (.tup [.str "Mismatch", .non])) p2 (.tup [.str "Mismatch", .non])) l (.lst [.ref p1, .ref p2])) l = some (.lst [.ref p1, .ref p2]) := upd_same
    have RS := R.ls.st
    have R := R.go (Kx.same aA) (R.ls.same aA)
    have G := G.kx (F := Fz s s) (fun z => z.elim nE nE) (fun a z => by rcases z with rfl | rfl <;> exact RS.at) (Kx.same aA)
    clear a1 a2 a3 aA hl kl
    generalize (upd (upd (upd H13 p1 (.tup [.str "Mismatch", .non])) p2 (.tup [.str "Mismatch", .non])) l (.lst [.ref p1, .ref p2])) = G1 at R G el o1 o2 ⊢
    obtain ⟨ys, eE, pE⟩ := id G
    have ly : ys.length ≤ 10 := by rw [pE.1]; decide
    refine ⟨E2, l, ys, _, rfl, rfl, eE, el, by rw [sizeLine_eq]; show ys.length + 2 ≤ 16777216; omega, fun E3 hE3 fr => ?_⟩
    have kE3 : K.lookup E3 = none := fr E3 (by rw [upd_same]; simp)
    have R0 := R.ls.st
    have sE := Same.new hE3 (.lst (ys ++ [.ref p1, .ref p2]))
    have nE3 : E3 ≠ s := R.ls.st.ne' hE3
    obtain ⟨acc, hDo, _⟩ := id R.tl
    have nED3 : E3 ≠ D := (ne_of_none hDo hE3).symm
    have R := R.go (Kx.same sE) (R.ls.same sE)
    have G3 : Tl K (upd G1 E3 (.lst (ys ++ [.ref p1, .ref p2]))) E3 [(.str "BadValue", .str "longs"), (.str "BadValue", .str "length"), (.str "BadValue", .str "turn"), (.str "Mismatch", .non), (.str "Mismatch", .non)] := ⟨_, upd_same, by have := (((pE.kx (F := Fz s s) (fun a z => by rcases z with rfl | rfl <;> exact R0.at) (Kx.same sE)).add (n := (.str "Mismatch", .non)) ⟨p1, rfl, ob_same sE o1⟩).add (n := (.str "Mismatch", .non)) ⟨p2, rfl, ob_same sE o2⟩); simpa using this⟩
    exact ⟨E3, some (.int m), _, rfl, R, G3, nE3, nED3, kE3, by decide, by decide⟩
  · clear R G nE nED kE E2 H10
    rintro σ H10 ⟨E2, x13, ns, rfl, R, G, nE, nED, kE, hsc, hln⟩
    have Z : RG K [(Pt, qLam)] s D E2 H10 ns := ⟨R, G, nE, nED, kD⟩
    clear R G nE nED
    obtain ⟨j, rfl⟩ := Int.eq_ofNat_of_zero_le r0
    refine ⟨_, rfl, _, rfl, _, rfl, h, n, j, rfl, h0, h1, n1, n2, r0, r1, fun wa H11 s11 _ hw => ?_⟩
    have Z := Z.same s11
    have lw' : (lw h n j n.toNat).length = n.toNat := lw_len ..
    have nw := Z.nt hw
    generalize lw h n j n.toNat = W at hw lw'
    refine ⟨_, rfl, _, rfl, sz2 (by show 1 ≤ 100; decide), fun p hp kq => ⟨sz2 (by show 7 ≤ 100; decide), fun l hl kl => ?_⟩⟩
    have sT := Same.new hp (.tup [.int 1])
    have sL := Same.new hl (.lst [.int 2, .int (-1), .bl true, .bl false, .non, .str "1", .ref p])
    have np := Z.nf hp
    have all : ∀ v ∈ ([.int 2, .int (-1), .bl true, .bl false, .non, .str "1", .ref p] : List V), SbI K (Fz s D) 0 1 (upd (upd H11 p (.tup [.int 1])) l (.lst [.int 2, .int (-1), .bl true, .bl false, .non, .str "1", .ref p])) v := fun v hv => by
      simp only [List.mem_cons, List.not_mem_nil, or_false] at hv
      rcases hv with rfl | rfl | rfl | rfl | rfl | rfl | rfl
      · exact sbI_sc (t := "int") (fun _ => rfl) (by decide +kernel)
      · exact sbI_sc (t := "int") (fun _ => rfl) (by decide +kernel)
      · exact sbI_sc (t := "bool") (fun _ => rfl) rfl
      · exact sbI_sc (t := "bool") (fun _ => rfl) rfl
      · exact sbI_sc (t := "NoneType") (fun _ => rfl) rfl
      · exact sbI_sc (t := "str") (fun _ => rfl) rfl
      · exact sbI_tup np (ob_same sL (ob_new kq))
    have nl : s ≠ l := ((Z.r.ls.st.same sT).ne' hl).symm
    have ZA := Z.same (sT.trans sL)
    refine ⟨s, l, [.int 2, .int (-1), .bl true, .bl false, .non, .str "1", .ref p], rfl, ZA.r.ls.st, upd_same, nl, by show 0 < 7; decide, by show 7 < 1000; decide, fun it H12 hv kpn st12 => ?_⟩
    have b_it := (all it hv).kx (Kx.kp (.inl rfl) kpn)
    have kp12 := (Kp.same (sT.trans sL)).trans kpn
    have Z := Z.kp kp12 st12
    have hw := ob_kx (Kx.kp (F := Fz s D) (.inl rfl) kp12) nw (fun _ z => by cases z) hw
    clear all hv kpn ZA sT sL np nl hp kq hl kl p l s11 kp12 st12
    refine ⟨_, rfl, ?_⟩
    simp only [tNoPart]
    refine ⟨_, rfl, _, rfl, ?_⟩
    change rSlA K (.ref wa) none (some (j : Int)) H12 _
    refine sl_get hw fun p1 J1 t1 o1 => ?_
    rw [cut_to _ j (by rw [List.length_map]; omega)] at o1
    refine ⟨_, rfl, sz2 (by show 1 ≤ 100; decide), fun p2 hp2 k2 => ?_⟩
    have t2 := Same.new hp2 (.tup [it])
    have o2 := ob_new (K := K) (H := J1) (o := .tup [it]) k2
    refine cat_get (ob_same t2 o1) o2 (by simp only [List.length_take, List.length_map, List.length_cons, List.length_nil]; omega) fun p3 J3 t3 o3 => ?_
    have t13 := t1.trans (t2.trans t3)
    refine ⟨_, rfl, ?_⟩
    simp only [tNoPart]
    refine ⟨_, rfl, _, _, rfl, rfl, _, rfl, ?_⟩
    change rSlA K (.ref wa) (some ((j + 1 : Nat) : Int)) none J3 _
    refine sl_get (ob_same t13 hw) fun p4 J4 t4 o4 => ?_
    rw [cut_from _ (j + 1) (by rw [List.length_map]; omega)] at o4
    refine cat_get (ob_same t4 o3) o4 (by simp only [List.length_append, List.length_drop, List.length_take, List.length_map, List.length_cons, List.length_nil]; omega) fun p5 J5 t5 o5 => ?_
    have tA := t13.trans (t4.trans t5)
    have Z := Z.same tA
    have hw := ob_same tA hw
    have b_it := b_it.kx (Kx.same tA)
    have w0 : SbW K (Fz s D) J5 (.ref p5) := sbW_item (us := W.take j) (ws := W.drop (j + 1)) (Z.nt o5) (by rw [o5, List.map_take, List.map_drop]) b_it (by rw [List.length_take, List.length_drop]; omega)
    clear t13 t1 t2 t3 t4 t5 o1 o2 o3 o4 o5 hp2 k2
    refine ⟨sz2 (by show 0 ≤ 100; decide), fun p1 hp1 k1 => ?_⟩
    have t1 := Same.new hp1 (.tup [])
    have Z := Z.same t1
    have hw := ob_same t1 hw
    have w0 := w0.kx (Kx.same t1)
    have ox := ob_new (K := K) (H := J5) (o := .tup []) k1
    have w1 := sbW_len (F := Fz s D) (Z.nt ox) ox (.inl rfl) (by decide)
    generalize upd J5 p1 (.tup []) = J6 at Z hw w0 w1 ⊢
    clear t1 hp1 k1 ox
    refine ⟨sz2 (by show 1 ≤ 100; decide), fun l1 hl1 kl1 => ⟨l1, 101, [.int 0], rfl, rfl, upd_same, by decide, by decide, by rw [sizeLine_eq]; decide, fun l2 hl2 _ => ⟨l2, _, rfl, .inl ⟨.of upd_same, fun l3 hl3 fr3 => ?_⟩⟩⟩⟩
    have k3 : K.lookup l3 = none := fr3 l3 (by rw [upd_same]; simp)
    have t1 := (Same.new hl1 (.lst [.int 0])).trans ((Same.new hl2 (.lst (List.replicate (101 : Int).toNat ([.int 0] : List V)).flatten)).trans (Same.new hl3 (.tup (List.replicate (101 : Int).toNat ([.int 0] : List V)).flatten)))
    have Z := Z.same t1
    have hw := ob_same t1 hw
    have w0 := w0.kx (Kx.same t1)
    have w1 := w1.kx (Kx.same t1)
    have ox := ob_new (K := K) (H := upd (upd J6 l1 (.lst [.int 0])) l2 (.lst (List.replicate (101 : Int).toNat ([.int 0] : List V)).flatten)) (o := .tup (List.replicate (101 : Int).toNat ([.int 0] : List V)).flatten) k3
    have w2 := sbW_len (F := Fz s D) (Z.nt ox) ox (.inr (by decide)) (by decide)
    generalize upd (upd (upd J6 l1 (.lst [.int 0])) l2 (.lst (List.replicate (101 : Int).toNat ([.int 0] : List V)).flatten)) l3 (.tup (List.replicate (101 : Int).toNat ([.int 0] : List V)).flatten) = J7 at Z hw w0 w1 w2 ⊢
    clear t1 hl1 hl2 hl3 kl1 k3 fr3 ox
    refine ⟨_, rfl, wa, _, rfl, .inr (ob_tup hw), fun l4 hl4 fr4 => ?_⟩
    have k4 : K.lookup l4 = none := fr4 l4 (by rw [upd_same]; simp)
    have t1 := Same.new hl4 (.lst (W.map V.int))
    have n4 := Z.nf hl4
    have Z := Z.same t1
    have hw := ob_same t1 hw
    have w0 := w0.kx (Kx.same t1)
    have w1 := w1.kx (Kx.same t1)
    have w2 := w2.kx (Kx.same t1)
    have w3 := sbW_lst (F := Fz s D) n4 (ob_new (K := K) (H := J7) (o := .lst (W.map V.int)) k4)
    generalize upd J7 l4 (.lst (W.map V.int)) = J8 at Z hw w0 w1 w2 w3 ⊢
    clear t1 hl4 k4 fr4 n4
    refine ⟨_, rfl, sz2 (by show 1 ≤ 100; decide), fun p7 hp7 k7 => ⟨sz2 (by show 8 ≤ 100; decide), fun B1 hB kB => ?_⟩⟩
    have t1 := Same.new hp7 (.tup [.ref wa])
    have t2 := Same.new hB (.lst [.ref p5, .ref p1, .ref l3, .ref l4, .non, .int 1, .str "01", .ref p7])
    have o7 := ob_same t2 (ob_new (K := K) (H := J8) (o := .tup [.ref wa]) k7)
    have tt := t1.trans t2
    have nB : s ≠ B1 := ((Z.r.ls.st.same t1).ne' hB).symm
    have fB := (Z.same t1).nf hB
    have Z := Z.same tt
    have hw := ob_same tt hw
    have all : ∀ v ∈ ([.ref p5, .ref p1, .ref l3, .ref l4, .non, .int 1, .str "01", .ref p7] : List V), SbW K (Fz s D) (upd (upd J8 p7 (.tup [.ref wa])) B1 (.lst [.ref p5, .ref p1, .ref l3, .ref l4, .non, .int 1, .str "01", .ref p7])) v := fun v hv => by
      simp only [List.mem_cons, List.not_mem_nil, or_false] at hv
      rcases hv with rfl | rfl | rfl | rfl | rfl | rfl | rfl | rfl
      · exact w0.kx (Kx.same tt)
      · exact w1.kx (Kx.same tt)
      · exact w2.kx (Kx.same tt)
      · exact w3.kx (Kx.same tt)
      · exact sbW_ty (t := "NoneType") (fun _ _ => rfl) rfl
      · exact sbW_ty (t := "int") (fun _ _ => rfl) rfl
      · exact sbW_ty (t := "str") (fun _ _ => rfl) rfl
      · exact sbW_item (us := []) (ws := []) (Z.nt o7) o7 (sbI_tup nw hw) (by decide)
    have w0 := w0.kx (Kx.same tt)
    have hBB : upd (upd J8 p7 (.tup [.ref wa])) B1 (.lst [.ref p5, .ref p1, .ref l3, .ref l4, .non, .int 1, .str "01", .ref p7]) B1 = some (.lst [.ref p5, .ref p1, .ref l3, .ref l4, .non, .int 1, .str "01", .ref p7]) := upd_same
    generalize upd (upd J8 p7 (.tup [.ref wa])) B1 (.lst [.ref p5, .ref p1, .ref l3, .ref l4, .non, .int 1, .str "01", .ref p7]) = J9 at Z hw w0 all hBB ⊢
    clear t1 t2 o7 tt hp7 k7 hB w1 w2 w3
    have hB := hBB
    clear hBB
    refine ⟨_, rfl, sz2 (by show 2 ≤ 100; decide), fun q1 hq1 kq1 => fun c1 dx1 hc1 hd1 ne1 => ?_⟩
    have allx : ∀ v ∈ ([.ref p5, .ref p1, .ref l3, .ref l4, .non, .int 1, .str "01", .ref p7] : List V), SbW K (Fz s D) J9 v := all
    clear all
    have t1 := Same.new hq1 (.tup [.int 1, .int 2])
    have oq := ob_new (K := K) (H := J9) (o := .tup [.int 1, .int 2]) kq1
    have Z := Z.same t1
    have hw := ob_same t1 hw
    have hB := t1 _ _ hB
    have w0 := w0.kx (Kx.same t1)
    have allx := fun v hv => (allx v hv).kx (Kx.same t1)
    generalize upd J9 q1 (.tup [.int 1, .int 2]) = J at Z oq hc1 hd1 hw hB w0 allx ⊢
    have nc1 := Z.nf hc1
    refine ⟨J, c1, dx1, q1, zd, (1, 2), (0, 1), 2, rfl, same_make hc1 hd1, hc1, upd_same, ⟨oq, ⟨by decide, by decide⟩, ⟨by decide, by decide⟩⟩, ⟨⟨ozd _, nf01, sz01 (by decide)⟩, by decide, by decide⟩, by decide, fun J10 s2 hcy => ⟨rfl, sz2 (by show 2 ≤ 100; decide), fun q2 hq2 kq2 => fun c2 dx2 hc2 hd2 ne2 => ?_⟩⟩
    obtain ⟨dxc, a_, b_, v_, hins, _⟩ := hcy
    have Z := Z.same s2
    have hw := ob_same s2 hw
    have hB := s2 _ _ hB
    have w0 := w0.kx (Kx.same s2)
    have allx := fun v hv => (allx v hv).kx (Kx.same s2)
    clear t1 oq hq1 kq1 hc1 hd1 ne1
    have wc : SbW K (Fz s D) J10 (.ref c1) := sbW_ins hN hI nc1 hins
    have t1 := Same.new hq2 (.tup [.int 1, .int 2])
    have oq := ob_new (K := K) (H := J10) (o := .tup [.int 1, .int 2]) kq2
    have Z := Z.same t1
    have hw := ob_same t1 hw
    have hB := t1 _ _ hB
    have w0 := w0.kx (Kx.same t1)
    have wc := wc.kx (Kx.same t1)
    have allx := fun v hv => (allx v hv).kx (Kx.same t1)
    generalize upd J10 q2 (.tup [.int 1, .int 2]) = J at Z oq hc2 hd2 hw hB w0 wc allx ⊢
    have nc2 := Z.nf hc2
    refine ⟨J, c2, dx2, q2, zd, (1, 2), (0, 1), 2, rfl, same_make hc2 hd2, hc2, upd_same, ⟨oq, ⟨by decide, by decide⟩, ⟨by decide, by decide⟩⟩, ⟨⟨ozd _, nf01, sz01 (by decide)⟩, by decide, by decide⟩, by decide, fun J11 s2 hcy => ⟨rfl, sz2 (by show 1 ≤ 100; decide), fun q3 hq3 k3 => ?_⟩⟩
    obtain ⟨dxc, a_, b_, v_, hins, _⟩ := hcy
    have t2 := Same.new hq3 (.tup [.ref c2])
    have o3 := ob_new (K := K) (H := J11) (o := .tup [.ref c2]) k3
    have tt := s2.trans t2
    have Z := Z.same tt
    have hw := ob_same tt hw
    have hB := tt _ _ hB
    have w0 := w0.kx (Kx.same tt)
    have wc := wc.kx (Kx.same tt)
    have allx := fun v hv => (allx v hv).kx (Kx.same tt)
    have bi : SbI K (Fz s D) 0 1 (upd J11 q3 (.tup [.ref c2])) (.ref c2) := (sbI_ins hN hI nc2 hins).kx (Kx.same t2)
    generalize upd J11 q3 (.tup [.ref c2]) = J12 at Z hw hB w0 wc allx bi o3 ⊢
    clear t1 t2 tt oq hq2 kq2 hc2 hd2 ne2 hq3 k3 s2
    refine ⟨_, rfl, ?_⟩
    simp only [tNoPart]
    refine ⟨_, rfl, ?_⟩
    change rSlA K (.ref wa) (some ((1 : Nat) : Int)) none J12 _
    refine sl_get hw fun p4 J13 t4 o4 => ?_
    rw [cut_from _ 1 (by rw [List.length_map]; omega)] at o4
    refine cat_get (ob_same t4 o3) o4 (by simp only [List.length_drop, List.length_map, List.length_cons, List.length_nil]; omega) fun pc J14 t5 oc => ?_
    refine ⟨sz2 (by show 2 ≤ 100; decide), fun l hl kl => ?_⟩
    have t6 := Same.new hl (.lst [.ref c1, .ref pc])
    have tt := t4.trans (t5.trans t6)
    have nl : s ≠ l := ((Z.r.ls.st.same (t4.trans t5)).ne' hl).symm
    have Z := Z.same tt
    have wd : SbW K (Fz s D) (upd J14 l (.lst [.ref c1, .ref pc])) (.ref pc) := sbW_item (us := []) (ws := W.drop 1) (Z.nt (ob_same t6 oc)) (by rw [ob_same t6 oc, List.map_drop]; rfl) (bi.kx (Kx.same tt)) (by rw [List.length_drop]; show 0 + _ < 100; omega)
    refine ⟨s, l, [.ref c1, .ref pc], rfl, Z.r.ls.st, upd_same, nl, by show 0 < 2; decide, by show 2 < 1000; decide, fun th J15 hv kpn st15 => ?_⟩
    have wt : SbW K (Fz s D) J15 th := by
      simp only [List.mem_cons, List.not_mem_nil, or_false] at hv
      rcases hv with rfl | rfl
      · exact (wc.kx (Kx.same tt)).kx (Kx.kp (.inl rfl) kpn)
      · exact wd.kx (Kx.kp (.inl rfl) kpn)
    have kz : Kx (Fz s D) J12 J15 := (Kx.same tt).trans (Kx.kp (.inl rfl) kpn)
    have hB := kpn _ _ nB.symm (tt _ _ hB)
    have Z := Z.kp kpn st15
    have w0 := w0.kx kz
    have allx := fun v hv => (allx v hv).kx kz
    clear kz kpn st15 hv wd wc tt nl t4 t5 t6 o4 oc o3 hl kl bi
    refine ⟨_, rfl, _, rfl, B1, 0, rfl, rfl, [.ref p5, .ref p1, .ref l3, .ref l4, .non, .int 1, .str "01", .ref p7], itsO_ofL ((ob_none kB).trans hB), .ref p5, rfl, ?_⟩
    refine ⟨_, rfl, _, rfl, s, B1, [.ref p5, .ref p1, .ref l3, .ref l4, .non, .int 1, .str "01", .ref p7], rfl, Z.r.ls.st, hB, nB, by show 0 < 8; decide, by show 8 < 1000; decide, fun x J16 hv kpn st16 => ?_⟩
    have wx := (allx x hv).kx (Kx.kp (.inl rfl) kpn)
    have wt := wt.kx (Kx.kp (.inl rfl) kpn)
    have w0 := w0.kx (Kx.kp (.inl rfl) kpn)
    have Z := Z.kp kpn st16
    clear kpn st16 hv
    refine ⟨_, rfl, sz2 (by show 3 ≤ 100; decide), fun l hl kl => ?_⟩
    have t6 := Same.new hl (.lst [.ref p5, x, th])
    have nl : s ≠ l := (Z.r.ls.st.ne' hl).symm
    have Z := Z.same t6
    refine ⟨s, l, [.ref p5, x, th], rfl, Z.r.ls.st, upd_same, nl, by show 0 < 3; decide, by show 3 < 1000; decide, fun wr J17 hv kpn st17 => ?_⟩
    have ww : SbW K (Fz s D) J17 wr := by
      simp only [List.mem_cons, List.not_mem_nil, or_false] at hv
      rcases hv with rfl | rfl | rfl
      · exact (w0.kx (Kx.same t6)).kx (Kx.kp (.inl rfl) kpn)
      · exact (wx.kx (Kx.same t6)).kx (Kx.kp (.inl rfl) kpn)
      · exact (wt.kx (Kx.same t6)).kx (Kx.kp (.inl rfl) kpn)
    have Z := Z.kp kpn st17
    clear kpn st17 hv nl hl kl t6 wx wt w0 allx hB hw nw
    obtain ⟨acc, hDo, pr⟩ := id Z.r.tl
    have la : acc.length ≤ 10 := by rw [pr.1]; omega
    refine ⟨_, rfl, .inl ⟨rfl, _, .of hDo⟩, Z.r.ls.tb, fun Ha ea ta => ?_⟩
    refine ⟨_, rfl, wr, rfl, (ww.kx (Kx.ext ea)).now, fun d Hb sb hbd => .inl ⟨rfl, d, _, rfl, hbd, fun p Hc sc op => ?_⟩⟩
    have kx : Kx (Fz s s) J17 Hc := (Kx.ext ea).trans (Kx.same (sb.trans sc))
    have hDc : Hc D = some (.lst acc) := (sb.trans sc) _ _ (ea _ _ hDo (fun ps z => by cases z))
    have lsc : LawS K [(Pt, qLam)] Hc s := ⟨(Z.r.ls.st.ext ea).same (sb.trans sc), tabs_same (sb.trans sc) ta⟩
    have Zc := Z.go kx lsc
    have R := Zc.r.app hDc (n := (.str "BadValue", .str "word")) ⟨p, rfl, op⟩ (by omega)
    have G := Zc.g.app (o := .lst (acc ++ [.ref p])) Zc.nD hDc
    refine ⟨D, acc, .ref p, rfl, rfl, hDc, by rw [sizeLine_eq]; omega, ?_⟩
    have kz : Kx (Fz s D) J17 (upd Hc D (.lst (acc ++ [.ref p]))) := Kx.trans (fun c o m t e => kx c o (fun z => m (z.elim .inl .inl)) t e) (Kx.put (.inr rfl))
    have ww := ww.kx kz
    have nE := Zc.nE
    have nED := Zc.nD
    clear kz kx lsc op ea ta la pr hDo hDc Z Zc
    generalize upd Hc D (.lst (acc ++ [.ref p])) = J18 at R G ww ⊢
    refine ⟨_, rfl, ?_⟩
    refine ⟨_, rfl, sz2 (by show 2 ≤ 100; decide), fun p1 hp1 kp1 => ⟨sz2 (by show 1 ≤ 100; decide), fun l hl kl => ?_⟩⟩
    have a1 := Same.new hp1 (.tup [.str "BadValue", .str "word"])
    have a2 := Same.new hl (.lst [.ref p1])
    have o1 := ob_same a2 (ob_new (K := K) (o := .tup [.str "BadValue", .str "word"]) kp1)
    have aA := (a1.trans a2)
    have el : (upd (upd J18 p1 (.tup [.str "BadValue", .str "word"])) l (.lst [.ref p1])) l = some (.lst [.ref p1]) := upd_same
    have RS := R.ls.st
    have R := R.go (Kx.same aA) (R.ls.same aA)
    have G := G.kx (F := Fz s s) (fun z => z.elim nE nE) (fun a z => by rcases z with rfl | rfl <;> exact RS.at) (Kx.same aA)
    have ww := ww.kx (Kx.same aA)
    clear a1 a2 aA hl kl
    generalize (upd (upd J18 p1 (.tup [.str "BadValue", .str "word"])) l (.lst [.ref p1])) = G1 at R G ww el o1 ⊢
    obtain ⟨ys, eE, pE⟩ := id G
    have ly : ys.length ≤ 10 := by rw [pE.1]; omega
    refine ⟨E2, l, ys, _, rfl, rfl, eE, el, by rw [sizeLine_eq]; show ys.length + 1 ≤ 16777216; omega, fun E3 hE3 fr => ?_⟩
    have kE3 : K.lookup E3 = none := fr E3 (by rw [upd_same]; simp)
    have R0 := R.ls.st
    have sE := Same.new hE3 (.lst (ys ++ [.ref p1]))
    have nE3 : E3 ≠ s := R.ls.st.ne' hE3
    obtain ⟨acc, hDo, _⟩ := id R.tl
    have nED3 : E3 ≠ D := (ne_of_none hDo hE3).symm
    have R := R.go (Kx.same sE) (R.ls.same sE)
    have G3 : Tl K (upd G1 E3 (.lst (ys ++ [.ref p1]))) E3 (ns ++ [(.str "BadValue", .str "word")]) := ⟨_, upd_same, by have := ((pE.kx (F := Fz s s) (fun a z => by rcases z with rfl | rfl <;> exact R0.at) (Kx.same sE)).add (n := (.str "BadValue", .str "word")) ⟨p1, rfl, ob_same sE o1⟩); simpa using this⟩
    have ww := ww.kx (Kx.same sE)
    have G := G3
    refine ⟨_, _, rfl, eqa_tl kD kE3 R.tl G (fun m hm => ?_) (by rw [List.length_append, List.length_singleton]; omega), fun H20 s20 => ⟨_, rfl, if_yes rfl ?_⟩⟩
    · rcases List.mem_append.mp hm with z | z
      · exact hsc m z
      · rw [List.mem_singleton] at z
        subst z
        exact ⟨rfl, rfl⟩
    refine ⟨_, rfl, wr, rfl, .inl ⟨(ww.kx (Kx.same s20)).now, fun H21 s21 => ⟨_, _, rfl, rfl, ?_⟩⟩⟩
    exact q H21 (R.ls.same (s20.trans s21))
end
end My

namespace My
open PySem PySem.Spec PyProof.Rows L2
section
variable {P : Program} {w : World} {K : PySem.W.Frag} {mg : Str → Option Value} {base : Heap}
def spLaw (K : PySem.W.Frag) (Pt : Addr) : Sp := fun vs H Q _ => ∃ (a : Addr) (ns : List Int), vs = [.ref a] ∧ SqL K H a (ns.map V.int) ∧ H Pt = some (.tbl #[]) ∧ ∀ H', Q (.bl true) H'
abbrev sLaw : Stmt := topS 59
theorem scLaw : FnScope ["_law_script", "_law_store_here", "_law_longs_here", "_law_length", "_law_many"] ["_law_script"] (defScope sLaw) := ⟨rfl, rfl, rfl, by decide +kernel, rfl, by decide +kernel, by decide +kernel⟩
theorem ok_law {fa P1 : Addr} {fd : FuncData} (F : Fun K "law" "law" sLaw fa fd) (T : Bt K mg) (d__law_store : Kn P w K mg base 1 "_law_store" ["_law_script"] (spStore K)) (d__law_longs : Kn P w K mg base 4 "_law_longs" ["_law_store_here"] (spLongs K)) (d__law_words_hold : Kn P w K mg base 7 "_law_words_hold" ["_law_store_here", "_law_longs_here", "_law_length"] (spWs K)) (d__law_refused : Kn P w K mg base 9 "_law_refused" ["_law_store_here", "_law_longs_here", "_law_length"] (spRefd K P1)) (d__law_take : Kn P w K mg base 2 "_law_take" ["_law_store_here", "_law_many"] (spTake K)) : FnOk P w K mg base CX0 11 fa fd ["_law_script"] (spLaw K P1) := by
  refine F.ok scLaw (fun vs H Q E h => ?_) (fun cdv A outer s H vs Q E hr h => ?_)
  · obtain ⟨sa, ns, rfl, _⟩ := h
    rfl
  obtain ⟨sa, ns, rfl, hsa, hP, q⟩ := h
  refine ⟨_, (pss_cons (ps_set (i := 1) scLaw.nd rfl (.inl rfl) (pe_kn d__law_store hr (by rfl) (pa_cons (pv 0) pa_nil)))
      (pss_cons (ps_asg (pe_kn d__law_longs hr (by rfl) (pa_cons (pv 1) pa_nil)) (pg_tp 2 (by rfl) (pgs_cons (pg_name (i := 2) scLaw.nd rfl (.inl rfl)) (pgs_cons (pg_name (i := 3) scLaw.nd rfl (.inl rfl)) pgs_nil))))
      (pss_cons (ps_if (PW.pt (pw_or (pt_not (pt_val (pe_kn d__law_words_hold hr (by rfl) (pa_cons (pv 1) (pa_cons (pv 2) (pa_cons (pv 3) pa_nil)))))) (pw_or1 (pt_not (pt_val (pe_kn d__law_refused hr (by rfl) (pa_cons (pv 1) (pa_cons (pv 2) (pa_cons (pv 3) pa_nil))))))))) (pss_one (ps_ret pe_bl)) pss_nil)
      (pss_cons (ps_set (i := 4) scLaw.nd rfl (.inl rfl) (pe_op op_add pe_int (pe_kn d__law_take hr (by rfl) (pa_cons (pv 1) (pa_cons pe_int pa_nil)))))
      (pss_one (ps_ret (pe_and (pe_kn d__law_words_hold hr (by rfl) (pa_cons (pv 1) (pa_cons (pe_kn d__law_take hr (by rfl) (pa_cons (pv 1) (pa_cons (pe_op op_add (pv 4) pe_int) pa_nil))) (pa_cons (pv 4) pa_nil)))) (pe_one (pe_kn d__law_words_hold hr (by rfl) (pa_cons (pv 1) (pa_cons (pv 2) (pa_cons (pv 3) pa_nil)))))))))))), ?_⟩
  have TBL : ∀ H1, Same H H1 → LamX.Tabs [(P1, qLam)] H1 := fun H1 s1 p hp => by
    simp only [List.mem_cons, List.not_mem_nil, or_false] at hp
    subst hp
    exact LamX.TabS.nil (s1 _ _ hP)
  simp only [cx_K]
  refine ⟨_, rfl, sa, ns, rfl, hsa, fun s H1 s1 st1 => ?_⟩
  have LS1 : LawS K [(P1, qLam)] H1 s := ⟨st1, TBL H1 s1⟩
  clear TBL hP hsa s1
  refine ⟨_, rfl, s, rfl, st1, fun p H2 h n op h0 h1 n1 n2 kp2 st2 => ?_⟩
  refine ⟨p, rfl, _, op, rfl, ?_⟩
  refine ⟨_, _, rfl, _, _, rfl, rfl, ?_⟩
  have LS2 := LS1.kp kp2 st2
  clear op kp2 LS1 st1
  refine ⟨_, rfl, _, rfl, _, rfl, s, h, n, rfl, st2, h0, h1, n1, n2, fun H3 kp3 st3 => ⟨_, rfl, if_no rfl ?_⟩⟩
  refine ⟨_, rfl, _, rfl, _, rfl, s, h, n, rfl, LS2.kp kp3 st3, h0, h1, n1, n2, fun H4 LS4 => ⟨_, rfl, if_no rfl ?_⟩⟩
  refine ⟨_, rfl, s, 8, rfl, LS4.st, by decide, fun r H5 r0 r1 kp5 st5 => ?_⟩
  refine ⟨_, _, rfl, rfl, ?_⟩
  refine ⟨_, rfl, _, rfl, _, rfl, _, _, rfl, rfl, s, (1 + r) + 1, rfl, st5, by omega, fun m H6 m0 m1 kp6 st6 => ?_⟩
  refine ⟨_, rfl, s, m, 1 + r, rfl, st6, m0, by omega, by omega, by omega, fun H7 kp7 st7 => ⟨_, rfl, if_yes rfl ?_⟩⟩
  exact ⟨_, rfl, _, rfl, _, rfl, s, h, n, rfl, st7, h0, h1, n1, n2, fun H8 _ _ => q H8⟩

end
end My

namespace My
open PySem PySem.Spec PyProof.Rows L2
theorem ob_con {K : PySem.W.Frag} {z : Addr} {dd : Option Addr} {x y : Int} {t0 t1 : Tok} {n : Nat} {sl : Array (Option Value)} (h : K.lookup z = some ⟨.type "tuple", dd, .seq #[.int x t0, .int y t1] n, sl⟩) (H : Hp) : ob K H z = some (.tup [.int x, .int y]) := by
  unfold ob obK
  rw [h]
  show (if 2 ≤ sizeLine then _ else _) = _
  rw [if_pos (by rw [sizeLine_eq]; omega)]
  rfl
/-! ### the end: what the top has written -/
theorem dfn_mk {K : PySem.W.Frag} {h : Heap} {mg : Str → Option Value} {x : Str} {st : Stmt} {ps : List Str} {f : Addr} {oc kV doc pm cd ct : Value} {od an : Option Addr} {sl : Array (Option Value)} (X : K.In h) (G : h.Ns mainGlobals mg)
    (a : PySem.W.nsIn K mainGlobals x = some (some (.ref f))) (l : K.lookup f = some ⟨oc, od, .func (PySem.W.fnOf x x (defArgs st) (defBody st) (defScope st) .none kV doc pm an cd ct), sl⟩) (c : PySem.W.codeIn K cd x = true) (k : PySem.W.keepIn K (.ref f) = true)
    (hb : ∀ (kV doc pm : Value) (an : Option Addr) (cdv ct : Value) (us : List Value), us.length = ps.length → bindArgs (PySem.W.fnOf x x (defArgs st) (defBody st) (defScope st) .none kV doc pm an cdv ct) ⟨us, []⟩ = pure (ps.zip us)) : Dfn K mg x st ps :=
  ⟨f, _, fun_mk l c k, PySem.W.mg_of X G a, (fun_mk l c k).binds hb⟩
theorem all_mk {P : Program} {w : World} {K : PySem.W.Frag} {h : Heap} {mg : Str → Option Value} {fa : Addr} (X : K.In h) (G : h.Ns mainGlobals mg) (hfa : mg "law" = some (.ref fa)) {C S fI : Addr} {nm qn : Str} {N0 : Addr} {bs bm : List Value} {sn : List Str} {sub : List Value} {ab : Bool} {col : Option Bool} {dd : Option Addr} {m0 m1 m2 m3 m5 : Option Value} {ocI kVI dcI pmI cdI ctI : Value} {odI anI : Option Addr} {slI : Array (Option Value)} {C_Mismatch : Addr} {C_Still : Addr} {C_Endless : Addr} {C_TooMany : Addr} {C_NoName : Addr} {C_Taken : Addr} {C_Locked : Addr} {C_Looped : Addr} {C_Broken : Addr} {C_ReadError : Addr} {f_A : Addr} {oc_A kV_A dc_A pm_A cd_A ct_A : Value} {od_A an_A : Option Addr} {sl_A : Array (Option Value)} {f_R1 c_R1 : Addr} {oc_R1 kV_R1 dc_R1 pm_R1 ct_R1 : Value} {od_R1 an_R1 : Option Addr} {sl_R1 : Array (Option Value)} {fL : Addr} {ocL kVL dcL pmL cdvL ctL : Value} {odL anL : Option Addr} {slL : Array (Option Value)} {z0 : Addr} {ddZ : Option Addr} {taZ tbZ : Tok} {nnZ : Nat} {ssZ : Array (Option Value)} {o0 : Addr} {ddO : Option Addr} {taO tbO : Tok} {nnO : Nat} {ssO : Array (Option Value)} {CY : Addr} {fWI tY : Addr} {ocTY : Value} {odTY : Option Addr} {slTY : Array (Option Value)} {nTY : Nat} {ocWI kVWI dcWI pmWI cdWI ctWI : Value} {odWI anWI : Option Addr} {slWI : Array (Option Value)} {zi : Addr} {ddI : Option Addr} {taI tbI : Tok} {nnI : Nat} {ssI : Array (Option Value)} {f0Store : Addr} {oc0Store kV0Store dc0Store pm0Store cd0Store ct0Store : Value} {od0Store an0Store : Option Addr} {sl0Store : Array (Option Value)} {f0LLongs : Addr} {oc0LLongs kV0LLongs dc0LLongs pm0LLongs cd0LLongs ct0LLongs : Value} {od0LLongs an0LLongs : Option Addr} {sl0LLongs : Array (Option Value)} {f0Take : Addr} {oc0Take kV0Take dc0Take pm0Take cd0Take ct0Take : Value} {od0Take an0Take : Option Addr} {sl0Take : Array (Option Value)} {f0Mixed : Addr} {oc0Mixed kV0Mixed dc0Mixed pm0Mixed cd0Mixed ct0Mixed : Value} {od0Mixed an0Mixed : Option Addr} {sl0Mixed : Array (Option Value)} {f0Pick : Addr} {oc0Pick kV0Pick dc0Pick pm0Pick cd0Pick ct0Pick : Value} {od0Pick an0Pick : Option Addr} {sl0Pick : Array (Option Value)} {f0Range : Addr} {oc0Range kV0Range dc0Range pm0Range cd0Range ct0Range : Value} {od0Range an0Range : Option Addr} {sl0Range : Array (Option Value)} {dK : Addr} {tkK : Tok} {fLW : Addr} {ocLW dcLW pmLW cdLW ctLW : Value} {odLW anLW : Option Addr} {slLW : Array (Option Value)} {tkLONGEST_WORD : Tok} {f0Require : Addr} {oc0Require kV0Require dc0Require pm0Require cd0Require ct0Require : Value} {od0Require an0Require : Option Addr} {sl0Require : Array (Option Value)} {f0Longs : Addr} {oc0Longs kV0Longs dc0Longs pm0Longs cd0Longs ct0Longs : Value} {od0Longs an0Longs : Option Addr} {sl0Longs : Array (Option Value)} {f0Within : Addr} {oc0Within kV0Within dc0Within pm0Within cd0Within ct0Within : Value} {od0Within an0Within : Option Addr} {sl0Within : Array (Option Value)} {f0WholeU : Addr} {oc0WholeU kV0WholeU dc0WholeU pm0WholeU cd0WholeU ct0WholeU : Value} {od0WholeU an0WholeU : Option Addr} {sl0WholeU : Array (Option Value)} {f0Length : Addr} {oc0Length kV0Length dc0Length pm0Length cd0Length ct0Length : Value} {od0Length an0Length : Option Addr} {sl0Length : Array (Option Value)} {f0Leap : Addr} {oc0Leap kV0Leap dc0Leap pm0Leap cd0Leap ct0Leap : Value} {od0Leap an0Leap : Option Addr} {sl0Leap : Array (Option Value)} {f0Ws : Addr} {oc0Ws kV0Ws dc0Ws pm0Ws cd0Ws ct0Ws : Value} {od0Ws an0Ws : Option Addr} {sl0Ws : Array (Option Value)} {f0Alike : Addr} {oc0Alike kV0Alike dc0Alike pm0Alike cd0Alike ct0Alike : Value} {od0Alike an0Alike : Option Addr} {sl0Alike : Array (Option Value)} {f0LWhole : Addr} {oc0LWhole kV0LWhole dc0LWhole pm0LWhole cd0LWhole ct0LWhole : Value} {od0LWhole an0LWhole : Option Addr} {sl0LWhole : Array (Option Value)} {f0Add : Addr} {oc0Add kV0Add dc0Add pm0Add cd0Add ct0Add : Value} {od0Add an0Add : Option Addr} {sl0Add : Array (Option Value)} {f0WH : Addr} {oc0WH kV0WH dc0WH pm0WH cd0WH ct0WH : Value} {od0WH an0WH : Option Addr} {sl0WH : Array (Option Value)} {f0LT : Addr} {oc0LT kV0LT dc0LT pm0LT cd0LT ct0LT : Value} {od0LT an0LT : Option Addr} {sl0LT : Array (Option Value)} {f0IE : Addr} {oc0IE kV0IE dc0IE pm0IE cd0IE ct0IE : Value} {od0IE an0IE : Option Addr} {sl0IE : Array (Option Value)} {f0Word : Addr} {oc0Word kV0Word dc0Word pm0Word cd0Word ct0Word : Value} {od0Word an0Word : Option Addr} {sl0Word : Array (Option Value)} {f0Et : Addr} {oc0Et kV0Et dc0Et pm0Et cd0Et ct0Et : Value} {od0Et an0Et : Option Addr} {sl0Et : Array (Option Value)} {f0IsFraction : Addr} {oc0IsFraction kV0IsFraction dc0IsFraction pm0IsFraction cd0IsFraction ct0IsFraction : Value} {od0IsFraction an0IsFraction : Option Addr} {sl0IsFraction : Array (Option Value)} {f0Whole : Addr} {oc0Whole kV0Whole dc0Whole pm0Whole cd0Whole ct0Whole : Value} {od0Whole an0Whole : Option Addr} {sl0Whole : Array (Option Value)} {f0IsPlace : Addr} {oc0IsPlace kV0IsPlace dc0IsPlace pm0IsPlace cd0IsPlace ct0IsPlace : Value} {od0IsPlace an0IsPlace : Option Addr} {sl0IsPlace : Array (Option Value)} {f0Period : Addr} {oc0Period kV0Period dc0Period pm0Period cd0Period ct0Period : Value} {od0Period an0Period : Option Addr} {sl0Period : Array (Option Value)} {f0Magn : Addr} {oc0Magn kV0Magn dc0Magn pm0Magn cd0Magn ct0Magn : Value} {od0Magn an0Magn : Option Addr} {sl0Magn : Array (Option Value)} {f0Over : Addr} {oc0Over kV0Over dc0Over pm0Over cd0Over ct0Over : Value} {od0Over an0Over : Option Addr} {sl0Over : Array (Option Value)} {t0Fraction : Addr} {ocT0Fraction : Value} {odT0Fraction : Option Addr} {slT0Fraction : Array (Option Value)} {tk0Fraction : Tok} {nT0Fraction : Nat} {f0Fraction : Addr} {oc0Fraction kV0Fraction dc0Fraction pm0Fraction cd0Fraction ct0Fraction : Value} {od0Fraction an0Fraction : Option Addr} {sl0Fraction : Array (Option Value)}
    (z_int : PySem.W.nsIn K mainGlobals "int" = some none)
    (z_len : PySem.W.nsIn K mainGlobals "len" = some none)
    (z_list : PySem.W.nsIn K mainGlobals "list" = some none)
    (z_abs : PySem.W.nsIn K mainGlobals "abs" = some none)
    (z_range : PySem.W.nsIn K mainGlobals "range" = some none)
    (z_min : PySem.W.nsIn K mainGlobals "min" = some none)
    (z_max : PySem.W.nsIn K mainGlobals "max" = some none)
    (z_isinstance : PySem.W.nsIn K mainGlobals "isinstance" = some none)
    (z_bool : PySem.W.nsIn K mainGlobals "bool" = some none)
    (z_str : PySem.W.nsIn K mainGlobals "str" = some none)
    (z_dict : PySem.W.nsIn K mainGlobals "dict" = some none)
    (z_tuple : PySem.W.nsIn K mainGlobals "tuple" = some none)
    (z_gcd : PySem.W.nsIn K mainGlobals "gcd" = some (some (.builtin "math.gcd")))
    (z_VE : PySem.W.nsIn K mainGlobals "ValueError" = some none)
    (aC : PySem.W.nsIn K mainGlobals "BadValue" = some (some (.ref C)))
    (aS : PySem.W.nsIn K mainGlobals "SkyError" = some (some (.ref S)))
    (xL : K.lookup C = some (excClassObj nm qn C N0 bs bm true sn sub ab col dd m0 m1 m2 m3 m5 "ValueError.__new__"))
    (hbm : PySem.HandSPX.refsVE bm = true)
    (sa : PySem.W.findIn K (.ref C) "__setattr__" = some (some (.builtin "object.__setattr__")))
    (ga : PySem.W.findIn K (.ref C) "__getattribute__" = some (some (.builtin "BaseException.__getattribute__")))
    (gg : PySem.W.findIn K (.ref C) "__getattr__" = some none)
    (gc : PySem.W.findIn K (.ref C) "__class__" = some (some (.builtin "object.__class__")))
    (nw : PySem.W.findIn K (.ref C) "what" = some none)
    (aI : PySem.W.findIn K (.ref C) "__init__" = some (some (.ref fI)))
    (tI : PySem.W.typeIn K (.ref fI) = some (.type "function"))
    (lI : K.lookup fI = some ⟨ocI, odI, .func (PySem.W.fnOf "__init__" "BadValue.__init__" (defArgs sInitB) (defBody sInitB) (defScope sInitB) .none kVI dcI pmI anI cdI ctI), slI⟩)
    (cI : PySem.W.codeIn K cdI "BadValue.__init__" = true)
    (kI : PySem.W.keepIn K (.ref fI) = true)
    (kC : PySem.W.keepIn K (.ref C) = true)
    (eC : PySem.W.subIn K (.ref C) (.type "BaseException") = some true)
    (tC : PySem.W.typeIn K (.ref C) = some (.type "type"))
    (hC : PySem.W.hasDictIn K C = true)
    (mC : PySem.W.mroIn K C (.type "object") = some true)
    (vC : PySem.W.subIn K (.ref C) (.type "ValueError") = some true)
    (spc : PySem.W.specialIn K (.builtin "object.__class__") "__get__" = some (some (.builtin "getset_descriptor.__get__")))
    (tkc : PySem.W.takesIn K (.builtin "object.__class__") = some true)
    (eS : PySem.W.subIn K (.ref S) (.type "BaseException") = some true)
    (hS : PySem.W.hasDictIn K S = true)
    (tS : PySem.W.typeIn K (.ref S) = some (.type "type"))
    (cS : PySem.W.subIn K (.ref C) (.ref S) = some true)
    (a_Mismatch : PySem.W.nsIn K mainGlobals "Mismatch" = some (some (.ref C_Mismatch)))
    (t_Mismatch : PySem.W.typeIn K (.ref C_Mismatch) = some (.type "type"))
    (h_Mismatch : PySem.W.hasDictIn K C_Mismatch = true)
    (s_Mismatch : PySem.W.subIn K (.ref C) (.ref C_Mismatch) = some false)
    (n_Mismatch : (Value.ref C == Value.ref C_Mismatch) = false)
    (a_Still : PySem.W.nsIn K mainGlobals "Still" = some (some (.ref C_Still)))
    (t_Still : PySem.W.typeIn K (.ref C_Still) = some (.type "type"))
    (h_Still : PySem.W.hasDictIn K C_Still = true)
    (s_Still : PySem.W.subIn K (.ref C) (.ref C_Still) = some false)
    (n_Still : (Value.ref C == Value.ref C_Still) = false)
    (a_Endless : PySem.W.nsIn K mainGlobals "Endless" = some (some (.ref C_Endless)))
    (t_Endless : PySem.W.typeIn K (.ref C_Endless) = some (.type "type"))
    (h_Endless : PySem.W.hasDictIn K C_Endless = true)
    (s_Endless : PySem.W.subIn K (.ref C) (.ref C_Endless) = some false)
    (n_Endless : (Value.ref C == Value.ref C_Endless) = false)
    (a_TooMany : PySem.W.nsIn K mainGlobals "TooMany" = some (some (.ref C_TooMany)))
    (t_TooMany : PySem.W.typeIn K (.ref C_TooMany) = some (.type "type"))
    (h_TooMany : PySem.W.hasDictIn K C_TooMany = true)
    (s_TooMany : PySem.W.subIn K (.ref C) (.ref C_TooMany) = some false)
    (n_TooMany : (Value.ref C == Value.ref C_TooMany) = false)
    (a_NoName : PySem.W.nsIn K mainGlobals "NoName" = some (some (.ref C_NoName)))
    (t_NoName : PySem.W.typeIn K (.ref C_NoName) = some (.type "type"))
    (h_NoName : PySem.W.hasDictIn K C_NoName = true)
    (s_NoName : PySem.W.subIn K (.ref C) (.ref C_NoName) = some false)
    (n_NoName : (Value.ref C == Value.ref C_NoName) = false)
    (a_Taken : PySem.W.nsIn K mainGlobals "Taken" = some (some (.ref C_Taken)))
    (t_Taken : PySem.W.typeIn K (.ref C_Taken) = some (.type "type"))
    (h_Taken : PySem.W.hasDictIn K C_Taken = true)
    (s_Taken : PySem.W.subIn K (.ref C) (.ref C_Taken) = some false)
    (n_Taken : (Value.ref C == Value.ref C_Taken) = false)
    (a_Locked : PySem.W.nsIn K mainGlobals "Locked" = some (some (.ref C_Locked)))
    (t_Locked : PySem.W.typeIn K (.ref C_Locked) = some (.type "type"))
    (h_Locked : PySem.W.hasDictIn K C_Locked = true)
    (s_Locked : PySem.W.subIn K (.ref C) (.ref C_Locked) = some false)
    (n_Locked : (Value.ref C == Value.ref C_Locked) = false)
    (a_Looped : PySem.W.nsIn K mainGlobals "Looped" = some (some (.ref C_Looped)))
    (t_Looped : PySem.W.typeIn K (.ref C_Looped) = some (.type "type"))
    (h_Looped : PySem.W.hasDictIn K C_Looped = true)
    (s_Looped : PySem.W.subIn K (.ref C) (.ref C_Looped) = some false)
    (n_Looped : (Value.ref C == Value.ref C_Looped) = false)
    (a_Broken : PySem.W.nsIn K mainGlobals "Broken" = some (some (.ref C_Broken)))
    (t_Broken : PySem.W.typeIn K (.ref C_Broken) = some (.type "type"))
    (h_Broken : PySem.W.hasDictIn K C_Broken = true)
    (s_Broken : PySem.W.subIn K (.ref C) (.ref C_Broken) = some false)
    (n_Broken : (Value.ref C == Value.ref C_Broken) = false)
    (a_ReadError : PySem.W.nsIn K mainGlobals "ReadError" = some (some (.ref C_ReadError)))
    (t_ReadError : PySem.W.typeIn K (.ref C_ReadError) = some (.type "type"))
    (h_ReadError : PySem.W.hasDictIn K C_ReadError = true)
    (s_ReadError : PySem.W.subIn K (.ref C) (.ref C_ReadError) = some false)
    (n_ReadError : (Value.ref C == Value.ref C_ReadError) = false)
    (a_A : PySem.W.nsIn K mainGlobals "_law_answer" = some (some (.ref f_A)))
    (l_A : K.lookup f_A = some ⟨oc_A, od_A, .func (PySem.W.fnOf "_law_answer" "_law_answer" (defArgs sAsked) (defBody sAsked) (defScope sAsked) .none kV_A dc_A pm_A an_A cd_A ct_A), sl_A⟩)
    (c_A : PySem.W.codeIn K cd_A "_law_answer" = true)
    (k_A : PySem.W.keepIn K (.ref f_A) = true)
    (a_R1 : PySem.W.nsIn K mainGlobals "_law_refused" = some (some (.ref f_R1)))
    (l_R1 : K.lookup f_R1 = some ⟨oc_R1, od_R1, .func (PySem.W.fnOf "_law_refused" "_law_refused" (defArgs sRefd) (defBody sRefd) (defScope sRefd) .none kV_R1 dc_R1 pm_R1 an_R1 (.ref c_R1) ct_R1), sl_R1⟩)
    (cd_R1 : PySem.W.codeIn K (.ref c_R1) "_law_refused" = true)
    (k_R1 : PySem.W.keepIn K (.ref f_R1) = true)
    (aL : PySem.W.nsIn K mainGlobals "law" = some (some (.ref fL)))
    (lL : K.lookup fL = some ⟨ocL, odL, .func (PySem.W.fnOf "law" "law" (defArgs sLaw) (defBody sLaw) (defScope sLaw) .none kVL dcL pmL anL cdvL ctL), slL⟩)
    (cL : PySem.W.codeIn K cdvL "law" = true)
    (kL : PySem.W.keepIn K (.ref fL) = true)
    (aZ : PySem.W.nsIn K mainGlobals "ZERO" = some (some (.ref z0)))
    (o_Z : K.lookup z0 = some ⟨.type "tuple", ddZ, .seq #[.int 0 taZ, .int 1 tbZ] nnZ, ssZ⟩)
    (aO : PySem.W.nsIn K mainGlobals "ONE" = some (some (.ref o0)))
    (o_O : K.lookup o0 = some ⟨.type "tuple", ddO, .seq #[.int 1 taO, .int 1 tbO] nnO, ssO⟩)
    (aCY : PySem.W.nsIn K mainGlobals "Cycle" = some (some (.ref CY)))
    (wpg : PySem.W.plainGet K CY Str.empty = true)
    (whd : PySem.W.hasDictIn K CY = true)
    (wpo : PySem.W.plainOver K CY = true)
    (wsa : PySem.W.findIn K (.ref CY) "__setattr__" = some (some (.builtin "object.__setattr__")))
    (wn_rate : PySem.W.findIn K (.ref CY) "rate" = some none)
    (wn_start : PySem.W.findIn K (.ref CY) "start" = some none)
    (wn_period : PySem.W.findIn K (.ref CY) "period" = some none)
    (wmk : PySem.W.makesIn K CY = true)
    (wkp : PySem.W.keepIn K (.ref CY) = true)
    (wca : PySem.W.findIn K (.ref CY) "__class__" = some (some (.builtin "object.__class__")))
    (wro : PySem.W.mroIn K CY (.type "object") = some true)
    (w1 : PySem.W.findIn K (.ref CY) "__init__" = some (some (.ref fWI)))
    (w2 : PySem.W.isFn K (.ref fWI) = true)
    (lWI : K.lookup fWI = some ⟨ocWI, odWI, .func (PySem.W.fnOf "__init__" "Cycle.__init__" (defArgs sCyInit) (defBody sCyInit) (defScope sCyInit) (.ref tY) kVWI dcWI pmWI anWI cdWI ctWI), slWI⟩)
    (cWI : PySem.W.codeIn K cdWI "Cycle.__init__" = true)
    (kWI : PySem.W.keepIn K (.ref fWI) = true)
    (lTY : K.lookup tY = some ⟨ocTY, odTY, .seq #[.ref zi] nTY, slTY⟩)
    (o_I : K.lookup zi = some ⟨.type "tuple", ddI, .seq #[.int 0 taI, .int 1 tbI] nnI, ssI⟩)
    (kd_int : PySem.W.subIn K (.ref CY) (.type "int") = some false)
    (kd_bool : PySem.W.subIn K (.ref CY) (.type "bool") = some false)
    (kd_str : PySem.W.subIn K (.ref CY) (.type "str") = some false)
    (kd_list : PySem.W.subIn K (.ref CY) (.type "list") = some false)
    (kd_tuple : PySem.W.subIn K (.ref CY) (.type "tuple") = some false)
    (kd_dict : PySem.W.subIn K (.ref CY) (.type "dict") = some false)
    (a0Store : PySem.W.nsIn K mainGlobals "_law_store" = some (some (.ref f0Store)))
    (l0Store : K.lookup f0Store = some ⟨oc0Store, od0Store, .func (PySem.W.fnOf "_law_store" "_law_store" (defArgs sStore) (defBody sStore) (defScope sStore) .none kV0Store dc0Store pm0Store an0Store cd0Store ct0Store), sl0Store⟩)
    (c0Store : PySem.W.codeIn K cd0Store "_law_store" = true)
    (k0Store : PySem.W.keepIn K (.ref f0Store) = true)
    (a0LLongs : PySem.W.nsIn K mainGlobals "_law_longs" = some (some (.ref f0LLongs)))
    (l0LLongs : K.lookup f0LLongs = some ⟨oc0LLongs, od0LLongs, .func (PySem.W.fnOf "_law_longs" "_law_longs" (defArgs sLLongs) (defBody sLLongs) (defScope sLLongs) .none kV0LLongs dc0LLongs pm0LLongs an0LLongs cd0LLongs ct0LLongs), sl0LLongs⟩)
    (c0LLongs : PySem.W.codeIn K cd0LLongs "_law_longs" = true)
    (k0LLongs : PySem.W.keepIn K (.ref f0LLongs) = true)
    (a0Take : PySem.W.nsIn K mainGlobals "_law_take" = some (some (.ref f0Take)))
    (l0Take : K.lookup f0Take = some ⟨oc0Take, od0Take, .func (PySem.W.fnOf "_law_take" "_law_take" (defArgs sTake) (defBody sTake) (defScope sTake) .none kV0Take dc0Take pm0Take an0Take cd0Take ct0Take), sl0Take⟩)
    (c0Take : PySem.W.codeIn K cd0Take "_law_take" = true)
    (k0Take : PySem.W.keepIn K (.ref f0Take) = true)
    (a0Mixed : PySem.W.nsIn K mainGlobals "_law_mixed" = some (some (.ref f0Mixed)))
    (l0Mixed : K.lookup f0Mixed = some ⟨oc0Mixed, od0Mixed, .func (PySem.W.fnOf "_law_mixed" "_law_mixed" (defArgs sMixed) (defBody sMixed) (defScope sMixed) .none kV0Mixed dc0Mixed pm0Mixed an0Mixed cd0Mixed ct0Mixed), sl0Mixed⟩)
    (c0Mixed : PySem.W.codeIn K cd0Mixed "_law_mixed" = true)
    (k0Mixed : PySem.W.keepIn K (.ref f0Mixed) = true)
    (a0Pick : PySem.W.nsIn K mainGlobals "_law_pick" = some (some (.ref f0Pick)))
    (l0Pick : K.lookup f0Pick = some ⟨oc0Pick, od0Pick, .func (PySem.W.fnOf "_law_pick" "_law_pick" (defArgs sPick) (defBody sPick) (defScope sPick) .none kV0Pick dc0Pick pm0Pick an0Pick cd0Pick ct0Pick), sl0Pick⟩)
    (c0Pick : PySem.W.codeIn K cd0Pick "_law_pick" = true)
    (k0Pick : PySem.W.keepIn K (.ref f0Pick) = true)
    (a0Range : PySem.W.nsIn K mainGlobals "_law_range" = some (some (.ref f0Range)))
    (l0Range : K.lookup f0Range = some ⟨oc0Range, od0Range, .func (PySem.W.fnOf "_law_range" "_law_range" (defArgs sRange) (defBody sRange) (defScope sRange) .none kV0Range dc0Range pm0Range an0Range cd0Range ct0Range), sl0Range⟩)
    (c0Range : PySem.W.codeIn K cd0Range "_law_range" = true)
    (k0Range : PySem.W.keepIn K (.ref f0Range) = true)
    (z_sum : PySem.W.nsIn K mainGlobals "sum" = some none)
    (aLW : PySem.W.nsIn K mainGlobals "leap_word" = some (some (.ref fLW)))
    (lLW : K.lookup fLW = some ⟨ocLW, odLW, .func (PySem.W.fnOf "leap_word" "leap_word" (defArgs sLW) (defBody sLW) (defScope sLW) .none (.ref dK) dcLW pmLW anLW cdLW ctLW), slLW⟩)
    (cLW : PySem.W.codeIn K cdLW "leap_word" = true)
    (kLW : PySem.W.keepIn K (.ref fLW) = true)
    (nK : PySem.W.nsIn K dK "turn" = some (some (.int 0 tkK)))
    (g_LONGEST_WORD : PySem.W.nsIn K mainGlobals "LONGEST_WORD" = some (some (.int 100 tkLONGEST_WORD)))
    (a0Require : PySem.W.nsIn K mainGlobals "require" = some (some (.ref f0Require)))
    (l0Require : K.lookup f0Require = some ⟨oc0Require, od0Require, .func (PySem.W.fnOf "require" "require" (defArgs sRequire) (defBody sRequire) (defScope sRequire) .none kV0Require dc0Require pm0Require an0Require cd0Require ct0Require), sl0Require⟩)
    (c0Require : PySem.W.codeIn K cd0Require "require" = true)
    (k0Require : PySem.W.keepIn K (.ref f0Require) = true)
    (a0Longs : PySem.W.nsIn K mainGlobals "_is_longs" = some (some (.ref f0Longs)))
    (l0Longs : K.lookup f0Longs = some ⟨oc0Longs, od0Longs, .func (PySem.W.fnOf "_is_longs" "_is_longs" (defArgs sLongs) (defBody sLongs) (defScope sLongs) .none kV0Longs dc0Longs pm0Longs an0Longs cd0Longs ct0Longs), sl0Longs⟩)
    (c0Longs : PySem.W.codeIn K cd0Longs "_is_longs" = true)
    (k0Longs : PySem.W.keepIn K (.ref f0Longs) = true)
    (a0Within : PySem.W.nsIn K mainGlobals "is_whole_within" = some (some (.ref f0Within)))
    (l0Within : K.lookup f0Within = some ⟨oc0Within, od0Within, .func (PySem.W.fnOf "is_whole_within" "is_whole_within" (defArgs sWithin) (defBody sWithin) (defScope sWithin) .none kV0Within dc0Within pm0Within an0Within cd0Within ct0Within), sl0Within⟩)
    (c0Within : PySem.W.codeIn K cd0Within "is_whole_within" = true)
    (k0Within : PySem.W.keepIn K (.ref f0Within) = true)
    (a0WholeU : PySem.W.nsIn K mainGlobals "is_whole" = some (some (.ref f0WholeU)))
    (l0WholeU : K.lookup f0WholeU = some ⟨oc0WholeU, od0WholeU, .func (PySem.W.fnOf "is_whole" "is_whole" (defArgs sWholeU) (defBody sWholeU) (defScope sWholeU) .none kV0WholeU dc0WholeU pm0WholeU an0WholeU cd0WholeU ct0WholeU), sl0WholeU⟩)
    (c0WholeU : PySem.W.codeIn K cd0WholeU "is_whole" = true)
    (k0WholeU : PySem.W.keepIn K (.ref f0WholeU) = true)
    (a0Length : PySem.W.nsIn K mainGlobals "_is_length" = some (some (.ref f0Length)))
    (l0Length : K.lookup f0Length = some ⟨oc0Length, od0Length, .func (PySem.W.fnOf "_is_length" "_is_length" (defArgs sLength) (defBody sLength) (defScope sLength) .none kV0Length dc0Length pm0Length an0Length cd0Length ct0Length), sl0Length⟩)
    (c0Length : PySem.W.codeIn K cd0Length "_is_length" = true)
    (k0Length : PySem.W.keepIn K (.ref f0Length) = true)
    (z_zip : PySem.W.nsIn K mainGlobals "zip" = some none)
    (a0Leap : PySem.W.nsIn K mainGlobals "_leap_word" = some (some (.ref f0Leap)))
    (l0Leap : K.lookup f0Leap = some ⟨oc0Leap, od0Leap, .func (PySem.W.fnOf "_leap_word" "_leap_word" (defArgs sLeap) (defBody sLeap) (defScope sLeap) .none kV0Leap dc0Leap pm0Leap an0Leap cd0Leap ct0Leap), sl0Leap⟩)
    (c0Leap : PySem.W.codeIn K cd0Leap "_leap_word" = true)
    (k0Leap : PySem.W.keepIn K (.ref f0Leap) = true)
    (a0Ws : PySem.W.nsIn K mainGlobals "_law_words_hold" = some (some (.ref f0Ws)))
    (l0Ws : K.lookup f0Ws = some ⟨oc0Ws, od0Ws, .func (PySem.W.fnOf "_law_words_hold" "_law_words_hold" (defArgs sWs) (defBody sWs) (defScope sWs) .none kV0Ws dc0Ws pm0Ws an0Ws cd0Ws ct0Ws), sl0Ws⟩)
    (c0Ws : PySem.W.codeIn K cd0Ws "_law_words_hold" = true)
    (k0Ws : PySem.W.keepIn K (.ref f0Ws) = true)
    (a0Alike : PySem.W.nsIn K mainGlobals "_law_alike" = some (some (.ref f0Alike)))
    (l0Alike : K.lookup f0Alike = some ⟨oc0Alike, od0Alike, .func (PySem.W.fnOf "_law_alike" "_law_alike" (defArgs sAlike) (defBody sAlike) (defScope sAlike) .none kV0Alike dc0Alike pm0Alike an0Alike cd0Alike ct0Alike), sl0Alike⟩)
    (c0Alike : PySem.W.codeIn K cd0Alike "_law_alike" = true)
    (k0Alike : PySem.W.keepIn K (.ref f0Alike) = true)
    (a0LWhole : PySem.W.nsIn K mainGlobals "_law_is_whole" = some (some (.ref f0LWhole)))
    (l0LWhole : K.lookup f0LWhole = some ⟨oc0LWhole, od0LWhole, .func (PySem.W.fnOf "_law_is_whole" "_law_is_whole" (defArgs sLWhole) (defBody sLWhole) (defScope sLWhole) .none kV0LWhole dc0LWhole pm0LWhole an0LWhole cd0LWhole ct0LWhole), sl0LWhole⟩)
    (c0LWhole : PySem.W.codeIn K cd0LWhole "_law_is_whole" = true)
    (k0LWhole : PySem.W.keepIn K (.ref f0LWhole) = true)
    (a0Add : PySem.W.nsIn K mainGlobals "_law_added_up" = some (some (.ref f0Add)))
    (l0Add : K.lookup f0Add = some ⟨oc0Add, od0Add, .func (PySem.W.fnOf "_law_added_up" "_law_added_up" (defArgs sAdd) (defBody sAdd) (defScope sAdd) .none kV0Add dc0Add pm0Add an0Add cd0Add ct0Add), sl0Add⟩)
    (c0Add : PySem.W.codeIn K cd0Add "_law_added_up" = true)
    (k0Add : PySem.W.keepIn K (.ref f0Add) = true)
    (a0WH : PySem.W.nsIn K mainGlobals "_law_word_holds" = some (some (.ref f0WH)))
    (l0WH : K.lookup f0WH = some ⟨oc0WH, od0WH, .func (PySem.W.fnOf "_law_word_holds" "_law_word_holds" (defArgs sWH) (defBody sWH) (defScope sWH) .none kV0WH dc0WH pm0WH an0WH cd0WH ct0WH), sl0WH⟩)
    (c0WH : PySem.W.codeIn K cd0WH "_law_word_holds" = true)
    (k0WH : PySem.W.keepIn K (.ref f0WH) = true)
    (a0LT : PySem.W.nsIn K mainGlobals "_law_least_turn" = some (some (.ref f0LT)))
    (l0LT : K.lookup f0LT = some ⟨oc0LT, od0LT, .func (PySem.W.fnOf "_law_least_turn" "_law_least_turn" (defArgs sLT) (defBody sLT) (defScope sLT) .none kV0LT dc0LT pm0LT an0LT cd0LT ct0LT), sl0LT⟩)
    (c0LT : PySem.W.codeIn K cd0LT "_law_least_turn" = true)
    (k0LT : PySem.W.keepIn K (.ref f0LT) = true)
    (a0IE : PySem.W.nsIn K mainGlobals "is_even_word" = some (some (.ref f0IE)))
    (l0IE : K.lookup f0IE = some ⟨oc0IE, od0IE, .func (PySem.W.fnOf "is_even_word" "is_even_word" (defArgs sIE) (defBody sIE) (defScope sIE) .none kV0IE dc0IE pm0IE an0IE cd0IE ct0IE), sl0IE⟩)
    (c0IE : PySem.W.codeIn K cd0IE "is_even_word" = true)
    (k0IE : PySem.W.keepIn K (.ref f0IE) = true)
    (z_all : PySem.W.nsIn K mainGlobals "all" = some none)
    (a0Word : PySem.W.nsIn K mainGlobals "is_word" = some (some (.ref f0Word)))
    (l0Word : K.lookup f0Word = some ⟨oc0Word, od0Word, .func (PySem.W.fnOf "is_word" "is_word" (defArgs sWord) (defBody sWord) (defScope sWord) .none kV0Word dc0Word pm0Word an0Word cd0Word ct0Word), sl0Word⟩)
    (c0Word : PySem.W.codeIn K cd0Word "is_word" = true)
    (k0Word : PySem.W.keepIn K (.ref f0Word) = true)
    (a0Et : PySem.W.nsIn K mainGlobals "even_turn" = some (some (.ref f0Et)))
    (l0Et : K.lookup f0Et = some ⟨oc0Et, od0Et, .func (PySem.W.fnOf "even_turn" "even_turn" (defArgs sEt) (defBody sEt) (defScope sEt) .none kV0Et dc0Et pm0Et an0Et cd0Et ct0Et), sl0Et⟩)
    (c0Et : PySem.W.codeIn K cd0Et "even_turn" = true)
    (k0Et : PySem.W.keepIn K (.ref f0Et) = true)
    (mm_k : PySem.W.keepIn K (.ref C_Mismatch) = true)
    (mm_x : PySem.W.excIn K C_Mismatch [.type "ValueError", .type "Exception", .type "BaseException", .type "object"] "ValueError.__new__" = true)
    (mm_s : PySem.W.subIn K (.ref C_Mismatch) (.type "BaseException") = some true)
    (mm_v : PySem.W.subIn K (.ref C_Mismatch) (.type "ValueError") = some true)
    (mm_y : PySem.W.subIn K (.ref C_Mismatch) (.ref S) = some true)
    (mm_g : PySem.W.findIn K (.ref C_Mismatch) "__getattribute__" = some (some (.builtin "BaseException.__getattribute__")))
    (mm_t : PySem.W.findIn K (.ref C_Mismatch) "__getattr__" = some none)
    (mm_c : PySem.W.findIn K (.ref C_Mismatch) "__class__" = some (some (.builtin "object.__class__")))
    (mm_o : PySem.W.mroIn K C_Mismatch (.type "object") = some true)
    (ms_BadValue : PySem.W.subIn K (.ref C_Mismatch) (.ref C) = some false)
    (n_mBadValue : (Value.ref C_Mismatch == Value.ref C) = false)
    (ms_Still : PySem.W.subIn K (.ref C_Mismatch) (.ref C_Still) = some false)
    (n_mStill : (Value.ref C_Mismatch == Value.ref C_Still) = false)
    (ms_Endless : PySem.W.subIn K (.ref C_Mismatch) (.ref C_Endless) = some false)
    (n_mEndless : (Value.ref C_Mismatch == Value.ref C_Endless) = false)
    (ms_TooMany : PySem.W.subIn K (.ref C_Mismatch) (.ref C_TooMany) = some false)
    (n_mTooMany : (Value.ref C_Mismatch == Value.ref C_TooMany) = false)
    (ms_NoName : PySem.W.subIn K (.ref C_Mismatch) (.ref C_NoName) = some false)
    (n_mNoName : (Value.ref C_Mismatch == Value.ref C_NoName) = false)
    (ms_Taken : PySem.W.subIn K (.ref C_Mismatch) (.ref C_Taken) = some false)
    (n_mTaken : (Value.ref C_Mismatch == Value.ref C_Taken) = false)
    (ms_Locked : PySem.W.subIn K (.ref C_Mismatch) (.ref C_Locked) = some false)
    (n_mLocked : (Value.ref C_Mismatch == Value.ref C_Locked) = false)
    (ms_Looped : PySem.W.subIn K (.ref C_Mismatch) (.ref C_Looped) = some false)
    (n_mLooped : (Value.ref C_Mismatch == Value.ref C_Looped) = false)
    (ms_Broken : PySem.W.subIn K (.ref C_Mismatch) (.ref C_Broken) = some false)
    (n_mBroken : (Value.ref C_Mismatch == Value.ref C_Broken) = false)
    (ms_ReadError : PySem.W.subIn K (.ref C_Mismatch) (.ref C_ReadError) = some false)
    (n_mReadError : (Value.ref C_Mismatch == Value.ref C_ReadError) = false)
    (a0IsFraction : PySem.W.nsIn K mainGlobals "is_fraction" = some (some (.ref f0IsFraction)))
    (l0IsFraction : K.lookup f0IsFraction = some ⟨oc0IsFraction, od0IsFraction, .func (PySem.W.fnOf "is_fraction" "is_fraction" (defArgs sIsFraction) (defBody sIsFraction) (defScope sIsFraction) .none kV0IsFraction dc0IsFraction pm0IsFraction an0IsFraction cd0IsFraction ct0IsFraction), sl0IsFraction⟩)
    (c0IsFraction : PySem.W.codeIn K cd0IsFraction "is_fraction" = true)
    (k0IsFraction : PySem.W.keepIn K (.ref f0IsFraction) = true)
    (a0Whole : PySem.W.nsIn K mainGlobals "is_whole" = some (some (.ref f0Whole)))
    (l0Whole : K.lookup f0Whole = some ⟨oc0Whole, od0Whole, .func (PySem.W.fnOf "is_whole" "is_whole" (defArgs sWhole) (defBody sWhole) (defScope sWhole) .none kV0Whole dc0Whole pm0Whole an0Whole cd0Whole ct0Whole), sl0Whole⟩)
    (c0Whole : PySem.W.codeIn K cd0Whole "is_whole" = true)
    (k0Whole : PySem.W.keepIn K (.ref f0Whole) = true)
    (a0IsPlace : PySem.W.nsIn K mainGlobals "is_place" = some (some (.ref f0IsPlace)))
    (l0IsPlace : K.lookup f0IsPlace = some ⟨oc0IsPlace, od0IsPlace, .func (PySem.W.fnOf "is_place" "is_place" (defArgs sIsPlace) (defBody sIsPlace) (defScope sIsPlace) .none kV0IsPlace dc0IsPlace pm0IsPlace an0IsPlace cd0IsPlace ct0IsPlace), sl0IsPlace⟩)
    (c0IsPlace : PySem.W.codeIn K cd0IsPlace "is_place" = true)
    (k0IsPlace : PySem.W.keepIn K (.ref f0IsPlace) = true)
    (a0Period : PySem.W.nsIn K mainGlobals "_period_of" = some (some (.ref f0Period)))
    (l0Period : K.lookup f0Period = some ⟨oc0Period, od0Period, .func (PySem.W.fnOf "_period_of" "_period_of" (defArgs sPeriod) (defBody sPeriod) (defScope sPeriod) .none kV0Period dc0Period pm0Period an0Period cd0Period ct0Period), sl0Period⟩)
    (c0Period : PySem.W.codeIn K cd0Period "_period_of" = true)
    (k0Period : PySem.W.keepIn K (.ref f0Period) = true)
    (a0Magn : PySem.W.nsIn K mainGlobals "magnitude" = some (some (.ref f0Magn)))
    (l0Magn : K.lookup f0Magn = some ⟨oc0Magn, od0Magn, .func (PySem.W.fnOf "magnitude" "magnitude" (defArgs sMagn) (defBody sMagn) (defScope sMagn) .none kV0Magn dc0Magn pm0Magn an0Magn cd0Magn ct0Magn), sl0Magn⟩)
    (c0Magn : PySem.W.codeIn K cd0Magn "magnitude" = true)
    (k0Magn : PySem.W.keepIn K (.ref f0Magn) = true)
    (a0Over : PySem.W.nsIn K mainGlobals "over" = some (some (.ref f0Over)))
    (l0Over : K.lookup f0Over = some ⟨oc0Over, od0Over, .func (PySem.W.fnOf "over" "over" (defArgs sOver) (defBody sOver) (defScope sOver) .none kV0Over dc0Over pm0Over an0Over cd0Over ct0Over), sl0Over⟩)
    (c0Over : PySem.W.codeIn K cd0Over "over" = true)
    (k0Over : PySem.W.keepIn K (.ref f0Over) = true)
    (a0Fraction : PySem.W.nsIn K mainGlobals "fraction" = some (some (.ref f0Fraction)))
    (l0Fraction : K.lookup f0Fraction = some ⟨oc0Fraction, od0Fraction, .func (PySem.W.fnOf "fraction" "fraction" (defArgs sFraction) (defBody sFraction) (defScope sFraction) (.ref t0Fraction) kV0Fraction dc0Fraction pm0Fraction an0Fraction cd0Fraction ct0Fraction), sl0Fraction⟩)
    (c0Fraction : PySem.W.codeIn K cd0Fraction "fraction" = true)
    (k0Fraction : PySem.W.keepIn K (.ref f0Fraction) = true)
    (lT0Fraction : K.lookup t0Fraction = some ⟨ocT0Fraction, odT0Fraction, .seq #[.int 1 tk0Fraction] nT0Fraction, slT0Fraction⟩) :
    ∃ fd : FuncData, (∀ (s : Shared) (v : Value), BindsTo s fd ⟨[v], []⟩ [("_law_script", v)]) ∧ ∀ base : Heap, K.In base → base.Ns mainGlobals mg → ∀ P1 : Addr, LamX.TabB base mg c_R1 P1 → FnOk P w K mg base CX0 11 fa fd ["_law_script"] (spLaw K P1) := by
  have T : Bt K mg := ⟨PySem.W.mg_none_of X G z_int, PySem.W.mg_none_of X G z_len, PySem.W.mg_none_of X G z_list, PySem.W.mg_none_of X G z_abs, PySem.W.mg_none_of X G z_range, PySem.W.mg_none_of X G z_min, PySem.W.mg_none_of X G z_max, PySem.W.mg_none_of X G z_isinstance, PySem.W.mg_none_of X G z_bool, PySem.W.mg_none_of X G z_str, PySem.W.mg_none_of X G z_dict, PySem.W.mg_none_of X G z_tuple, PySem.W.mg_of X G z_gcd⟩
  have FI := fun_mk (st := sInitB) lI cI kI
  have bI := FI.binds (ps := ["self", "what"]) fun _ _ _ _ _ _ us hl => match us, hl with | [_, _], _ => rfl
  have B : BvT K mg C := ⟨PySem.W.mg_of X G aC, ⟨⟨nm, qn, N0, bs, bm, sn, sub, ab, col, dd, m0, m1, m2, m3, m5, xL, hbm⟩, sa, eC, tC, kC⟩, nw, fI, _, aI, tI, FI, bI⟩
  have icC : (PySem.W.clsIn K C).isSome = true := by
    obtain ⟨cd, hc, _⟩ := PySem.W.any_some hC
    rw [hc]; rfl
  let A : String → Addr := fun n => if n = "Mismatch" then C_Mismatch else if n = "Still" then C_Still else if n = "Endless" then C_Endless else if n = "TooMany" then C_TooMany else if n = "NoName" then C_NoName else if n = "Taken" then C_Taken else if n = "Locked" then C_Locked else if n = "Looped" then C_Looped else if n = "Broken" then C_Broken else if n = "ReadError" then C_ReadError else C
  have kit : ∀ D : Addr, PySem.W.typeIn K (.ref D) = some (.type "type") → PySem.W.hasDictIn K D = true → PySem.W.subIn K (.ref C) (.ref D) = some false → (Value.ref C == Value.ref D) = false → PySem.W.kitOne K (.ref C) (.ref D) = some false := fun D h1 h2 h3 h4 => by
    obtain ⟨cd, hc, _⟩ := PySem.W.any_some h2
    unfold PySem.W.kitOne PySem.W.kitCls
    rw [h4, if_neg Bool.false_ne_true]
    show (if ((PySem.W.clsIn K D).isSome && PySem.W.typeIn K (.ref D) == some (.type "type")) = true then PySem.W.subIn K (.ref C) (.ref D) else none) = some false
    rw [hc, h1, if_pos (by rfl)]
    exact h3
  have AT : AskT K mg C S A := {
    sky := PySem.W.mg_of X G aS
    exm := PySem.W.exm_ref eS hS tS cS
    g := fun n hn => by
      simp only [List.mem_cons, List.not_mem_nil, or_false] at hn
      rcases hn with rfl | rfl | rfl | rfl | rfl | rfl | rfl | rfl | rfl | rfl | rfl
      · exact PySem.W.mg_of X G aC
      · exact PySem.W.mg_of X G a_Mismatch
      · exact PySem.W.mg_of X G a_Still
      · exact PySem.W.mg_of X G a_Endless
      · exact PySem.W.mg_of X G a_TooMany
      · exact PySem.W.mg_of X G a_NoName
      · exact PySem.W.mg_of X G a_Taken
      · exact PySem.W.mg_of X G a_Locked
      · exact PySem.W.mg_of X G a_Looped
      · exact PySem.W.mg_of X G a_Broken
      · exact PySem.W.mg_of X G a_ReadError
    k := fun n hn => by
      simp only [List.mem_cons, List.not_mem_nil, or_false] at hn
      rcases hn with rfl | rfl | rfl | rfl | rfl | rfl | rfl | rfl | rfl | rfl | rfl
      · show PySem.W.kitOne K (.ref C) (.ref C) = some true
        unfold PySem.W.kitOne
        rw [if_pos (by simp)]
      · exact kit C_Mismatch t_Mismatch h_Mismatch s_Mismatch n_Mismatch
      · exact kit C_Still t_Still h_Still s_Still n_Still
      · exact kit C_Endless t_Endless h_Endless s_Endless n_Endless
      · exact kit C_TooMany t_TooMany h_TooMany s_TooMany n_TooMany
      · exact kit C_NoName t_NoName h_NoName s_NoName n_NoName
      · exact kit C_Taken t_Taken h_Taken s_Taken n_Taken
      · exact kit C_Locked t_Locked h_Locked s_Locked n_Locked
      · exact kit C_Looped t_Looped h_Looped s_Looped n_Looped
      · exact kit C_Broken t_Broken h_Broken s_Broken n_Broken
      · exact kit C_ReadError t_ReadError h_ReadError s_ReadError n_ReadError
    ve := by
      unfold PySem.W.kitOne PySem.W.kitCls
      rw [if_neg (by simp)]
      show (if PySem.W.kitMeta "ValueError" = true then PySem.W.subIn K (.ref C) (.type "ValueError") else none) = some true
      rw [if_pos (by decide +kernel)]
      exact vC
    b_VE := PySem.W.mg_none_of X G z_VE
    hcl := icC
    hga := ga
    hgt := gg
    hsub := eC
    ha := gc
    hn := spc
    htk := tkc
    hm := mC
    xf := ⟨ga, gg, eC, hC⟩ }
  have FA := fun_mk (st := sAsked) l_A c_A k_A
  have AS : AskD K mg f_A oc_A od_A .none kV_A dc_A pm_A an_A cd_A ct_A sl_A := ⟨PySem.W.mg_of X G a_A, k_A, l_A, c_A, FA.binds (ps := ["_law_call"]) fun _ _ _ _ _ _ us hl => match us, hl with | [_], _ => rfl⟩
  have F_R1 := fun_mk (st := sRefd) l_R1 cd_R1 k_R1
  have b_R1 := F_R1.binds (ps := ["_law_store_here", "_law_longs_here", "_law_length"]) fun _ _ _ _ _ _ us hl => match us, hl with | [_, _, _], _ => rfl
  have C0 : Two01 K mg z0 o0 := ⟨PySem.W.mg_of X G aZ, PySem.W.mg_of X G aO, ob_con o_Z, ob_con o_O⟩
  have wC : Cls K CY := ⟨wpg, whd, wpo, wsa⟩
  have wI : C8.InsC K CY := ⟨wC, wca, spc, tkc, wro, by
    unfold PySem.W.kitOne
    rw [if_pos (by simp)]⟩
  have W : CyC K mg CY := ⟨wC, wn_rate, wn_start, wn_period, PySem.W.mg_of X G aCY⟩
  have WM : L2.Mk K CY fWI := ⟨wmk, w1, w2, wkp⟩
  have FWI : FunD K "__init__" "Cycle.__init__" (defArgs sCyInit) (defBody sCyInit) (defScope sCyInit) [.ref zi] [] fWI _ := ⟨⟨ocWI, odWI, _, kVWI, dcWI, pmWI, anWI, cdWI, ctWI, slWI, rfl, lWI, cWI, .inr ⟨by simp, tY, _, [.ref zi], nTY, rfl, lTY, rfl, .cons rfl .nil⟩, .inl rfl⟩, kWI⟩
  obtain ⟨dsY1, vY1, bY1⟩ := FWI.binds1 (ps := ["self", "rate", "start"]) 2 0 (by simp) rfl fun T kV doc pm an cdv ct us its hu hi => match us, its, hu, hi with
    | [u1, u2], [i1], _, _ => ⟨_, rfl, rfl⟩
  have ozi := ob_con o_I
  have hN : CyN K CY := fun n hn => by
    have go : ∀ n : String, PySem.W.kitMeta n = true → PySem.W.subIn K (.ref CY) (.type n) = some false → PySem.W.kitOne K (.ref CY) (.type n) = some false := fun n h1 h2 => by
      unfold PySem.W.kitOne PySem.W.kitCls
      rw [if_neg (by simp)]
      show (if PySem.W.kitMeta n = true then PySem.W.subIn K (.ref CY) (.type n) else none) = some false
      rw [if_pos h1]
      exact h2
    simp only [List.mem_cons, List.not_mem_nil, or_false] at hn
    rcases hn with rfl | rfl | rfl | rfl | rfl | rfl
    · exact go _ (by decide +kernel) kd_int
    · exact go _ (by decide +kernel) kd_bool
    · exact go _ (by decide +kernel) kd_str
    · exact go _ (by decide +kernel) kd_list
    · exact go _ (by decide +kernel) kd_tuple
    · exact go _ (by decide +kernel) kd_dict
  have DStore : Dfn K mg "_law_store" sStore ["_law_script"] := dfn_mk X G a0Store l0Store c0Store k0Store fun _ _ _ _ _ _ us hl => match us, hl with | [_], _ => rfl
  have DLLongs : Dfn K mg "_law_longs" sLLongs ["_law_store_here"] := dfn_mk X G a0LLongs l0LLongs c0LLongs k0LLongs fun _ _ _ _ _ _ us hl => match us, hl with | [_], _ => rfl
  have DTake : Dfn K mg "_law_take" sTake ["_law_store_here", "_law_many"] := dfn_mk X G a0Take l0Take c0Take k0Take fun _ _ _ _ _ _ us hl => match us, hl with | [_, _], _ => rfl
  have DMixed : Dfn K mg "_law_mixed" sMixed ["_law_number", "_law_turn"] := dfn_mk X G a0Mixed l0Mixed c0Mixed k0Mixed fun _ _ _ _ _ _ us hl => match us, hl with | [_, _], _ => rfl
  have DPick : Dfn K mg "_law_pick" sPick ["_law_store_here", "_law_row"] := dfn_mk X G a0Pick l0Pick c0Pick k0Pick fun _ _ _ _ _ _ us hl => match us, hl with | [_, _], _ => rfl
  have DRange : Dfn K mg "_law_range" sRange ["_law_store_here", "_law_low", "_law_high"] := dfn_mk X G a0Range l0Range c0Range k0Range fun _ _ _ _ _ _ us hl => match us, hl with | [_, _, _], _ => rfl
  have FLW : FunD K "leap_word" "leap_word" (defArgs sLW) (defBody sLW) (defScope sLW) [] [("turn", .int 0)] fLW _ := ⟨⟨ocLW, odLW, _, _, dcLW, pmLW, anLW, cdLW, ctLW, slLW, rfl, lLW, cLW, .inl ⟨rfl, rfl⟩, .inr ⟨dK, rfl, fun q hq => by
    rw [List.mem_singleton] at hq
    subst hq
    exact ⟨_, nK, _, rfl⟩⟩⟩, kLW⟩
  obtain ⟨dsLW, vLW, bLW⟩ := FLW.binds0 (ps := ["longs", "length", "turn"]) 2 (by simp) rfl fun D doc pm an cdv ct us ks hu hk => match us, ks, hu, hk with
    | [u1, u2], [k1], _, _ => ⟨_, _, _, _, _, _, rfl, rfl, rfl⟩
  have kbLW := kb3 (K := K) (fd := PySem.W.fnOf "leap_word" "leap_word" (defArgs sLW) (defBody sLW) (defScope sLW) .none (.ref dK) dcLW pmLW anLW cdLW ctLW) (x := "longs") (y := "length") (z := "turn") fun s u v w => .of_eq rfl
  have DRequire : Dfn K mg "require" sRequire ["well_formed", "what"] := dfn_mk X G a0Require l0Require c0Require k0Require fun _ _ _ _ _ _ us hl => match us, hl with | [_, _], _ => rfl
  have DLongs : Dfn K mg "_is_longs" sLongs ["value"] := dfn_mk X G a0Longs l0Longs c0Longs k0Longs fun _ _ _ _ _ _ us hl => match us, hl with | [_], _ => rfl
  have DWithin : Dfn K mg "is_whole_within" sWithin ["value", "least", "most"] := dfn_mk X G a0Within l0Within c0Within k0Within fun _ _ _ _ _ _ us hl => match us, hl with | [_, _, _], _ => rfl
  have DWholeU : Dfn K mg "is_whole" sWholeU ["value"] := dfn_mk X G a0WholeU l0WholeU c0WholeU k0WholeU fun _ _ _ _ _ _ us hl => match us, hl with | [_], _ => rfl
  have DLength : Dfn K mg "_is_length" sLength ["value"] := dfn_mk X G a0Length l0Length c0Length k0Length fun _ _ _ _ _ _ us hl => match us, hl with | [_], _ => rfl
  have DLeap : Dfn K mg "_leap_word" sLeap ["longs", "length", "turn"] := dfn_mk X G a0Leap l0Leap c0Leap k0Leap fun _ _ _ _ _ _ us hl => match us, hl with | [_, _, _], _ => rfl
  have DWs : Dfn K mg "_law_words_hold" sWs ["_law_store_here", "_law_longs_here", "_law_length"] := dfn_mk X G a0Ws l0Ws c0Ws k0Ws fun _ _ _ _ _ _ us hl => match us, hl with | [_, _, _], _ => rfl
  have DAlike : Dfn K mg "_law_alike" sAlike ["_law_told", "_law_due"] := dfn_mk X G a0Alike l0Alike c0Alike k0Alike fun _ _ _ _ _ _ us hl => match us, hl with | [_, _], _ => rfl
  have DLWhole : Dfn K mg "_law_is_whole" sLWhole ["_law_told"] := dfn_mk X G a0LWhole l0LWhole c0LWhole k0LWhole fun _ _ _ _ _ _ us hl => match us, hl with | [_], _ => rfl
  have DAdd : Dfn K mg "_law_added_up" sAdd ["_law_longs_here", "_law_length", "_law_turn"] := dfn_mk X G a0Add l0Add c0Add k0Add fun _ _ _ _ _ _ us hl => match us, hl with | [_, _, _], _ => rfl
  have DWH : Dfn K mg "_law_word_holds" sWH ["_law_word"] := dfn_mk X G a0WH l0WH c0WH k0WH fun _ _ _ _ _ _ us hl => match us, hl with | [_], _ => rfl
  have DLT : Dfn K mg "_law_least_turn" sLT ["_law_word"] := dfn_mk X G a0LT l0LT c0LT k0LT fun _ _ _ _ _ _ us hl => match us, hl with | [_], _ => rfl
  have DIE : Dfn K mg "is_even_word" sIE ["word"] := dfn_mk X G a0IE l0IE c0IE k0IE fun _ _ _ _ _ _ us hl => match us, hl with | [_], _ => rfl
  have DWord : Dfn K mg "is_word" sWord ["value"] := dfn_mk X G a0Word l0Word c0Word k0Word fun _ _ _ _ _ _ us hl => match us, hl with | [_], _ => rfl
  have DEt : Dfn K mg "even_turn" sEt ["word"] := dfn_mk X G a0Et l0Et c0Et k0Et fun _ _ _ _ _ _ us hl => match us, hl with | [_], _ => rfl
  have Mi : MiT K mg C_Mismatch := ⟨PySem.W.mg_of X G a_Mismatch, mm_k, ⟨_, _, _, _, PySem.F.excBase_ValueError, mm_x⟩, mm_s, t_Mismatch⟩
  have kitM : ∀ D : Addr, PySem.W.typeIn K (.ref D) = some (.type "type") → PySem.W.hasDictIn K D = true → PySem.W.subIn K (.ref C_Mismatch) (.ref D) = some false → (Value.ref C_Mismatch == Value.ref D) = false → PySem.W.kitOne K (.ref C_Mismatch) (.ref D) = some false := fun D h1 h2 h3 h4 => by
    obtain ⟨cd, hc, _⟩ := PySem.W.any_some h2
    unfold PySem.W.kitOne PySem.W.kitCls
    rw [h4, if_neg Bool.false_ne_true]
    show (if ((PySem.W.clsIn K D).isSome && PySem.W.typeIn K (.ref D) == some (.type "type")) = true then PySem.W.subIn K (.ref C_Mismatch) (.ref D) else none) = some false
    rw [hc, h1, if_pos (by rfl)]
    exact h3
  have AM : AskM K C_Mismatch S A := {
    exm := PySem.W.exm_ref eS hS tS mm_y
    k := fun n hn => by
      simp only [List.mem_cons, List.not_mem_nil, or_false] at hn
      rcases hn with rfl | rfl | rfl | rfl | rfl | rfl | rfl | rfl | rfl | rfl | rfl
      · exact kitM C tC hC ms_BadValue n_mBadValue
      · show PySem.W.kitOne K (.ref C_Mismatch) (.ref C_Mismatch) = some true
        unfold PySem.W.kitOne
        rw [if_pos (by simp)]
      · exact kitM C_Still t_Still h_Still ms_Still n_mStill
      · exact kitM C_Endless t_Endless h_Endless ms_Endless n_mEndless
      · exact kitM C_TooMany t_TooMany h_TooMany ms_TooMany n_mTooMany
      · exact kitM C_NoName t_NoName h_NoName ms_NoName n_mNoName
      · exact kitM C_Taken t_Taken h_Taken ms_Taken n_mTaken
      · exact kitM C_Locked t_Locked h_Locked ms_Locked n_mLocked
      · exact kitM C_Looped t_Looped h_Looped ms_Looped n_mLooped
      · exact kitM C_Broken t_Broken h_Broken ms_Broken n_mBroken
      · exact kitM C_ReadError t_ReadError h_ReadError ms_ReadError n_mReadError
    ve := by
      unfold PySem.W.kitOne PySem.W.kitCls
      rw [if_neg (by simp)]
      show (if PySem.W.kitMeta "ValueError" = true then PySem.W.subIn K (.ref C_Mismatch) (.type "ValueError") else none) = some true
      rw [if_pos (by decide +kernel)]
      exact mm_v
    e := ⟨mm_g, mm_t, mm_s, h_Mismatch, mm_c, spc, tkc, mm_o⟩ }
  have DIsFraction : Dfn K mg "is_fraction" sIsFraction ["value"] := dfn_mk X G a0IsFraction l0IsFraction c0IsFraction k0IsFraction fun _ _ _ _ _ _ us hl => match us, hl with | [_], _ => rfl
  have DWhole : Dfn K mg "is_whole" sWhole ["value"] := dfn_mk X G a0Whole l0Whole c0Whole k0Whole fun _ _ _ _ _ _ us hl => match us, hl with | [_], _ => rfl
  have DIsPlace : Dfn K mg "is_place" sIsPlace ["value"] := dfn_mk X G a0IsPlace l0IsPlace c0IsPlace k0IsPlace fun _ _ _ _ _ _ us hl => match us, hl with | [_], _ => rfl
  have DPeriod : Dfn K mg "_period_of" sPeriod ["rate"] := dfn_mk X G a0Period l0Period c0Period k0Period fun _ _ _ _ _ _ us hl => match us, hl with | [_], _ => rfl
  have DMagn : Dfn K mg "magnitude" sMagn ["value"] := dfn_mk X G a0Magn l0Magn c0Magn k0Magn fun _ _ _ _ _ _ us hl => match us, hl with | [_], _ => rfl
  have DOver : Dfn K mg "over" sOver ["left", "right"] := dfn_mk X G a0Over l0Over c0Over k0Over fun _ _ _ _ _ _ us hl => match us, hl with | [_, _], _ => rfl
  have FDFraction : FunD K "fraction" "fraction" (defArgs sFraction) (defBody sFraction) (defScope sFraction) [.int 1] [] f0Fraction _ := ⟨⟨oc0Fraction, od0Fraction, _, kV0Fraction, dc0Fraction, pm0Fraction, an0Fraction, cd0Fraction, ct0Fraction, sl0Fraction, rfl, l0Fraction, c0Fraction, .inr ⟨by simp, t0Fraction, _, [.int 1 tk0Fraction], nT0Fraction, rfl, lT0Fraction, rfl, .cons ⟨tk0Fraction, rfl⟩ .nil⟩, .inl rfl⟩, k0Fraction⟩
  have DFraction : DfnD K mg "fraction" sFraction ["numerator", "denominator"] := by
    obtain ⟨ds, hv, hb⟩ := FDFraction.binds1 (ps := ["numerator", "denominator"]) 2 1 (by simp) rfl fun T kV doc pm an cdv ct us its hu hi => match us, its, hu, hi with
      | [u0, u1], [i1], _, _ => ⟨_, rfl, rfl⟩
    cases hv
    exact ⟨f0Fraction, _, _, FDFraction, PySem.W.mg_of X G a0Fraction, hb⟩
  have FL := fun_mk (st := sLaw) lL cL kL
  refine ⟨PySem.W.fnOf "law" "law" (defArgs sLaw) (defBody sLaw) (defScope sLaw) .none kVL dcL pmL anL cdvL ctL, fun s v => .of_eq rfl, fun base _ _ P1 TB1 => ?_⟩
  have e := hfa.symm.trans (PySem.W.mg_of X G aL)
  cases e
  have kStore := k_Store (P := P) (w := w) (base := base) T DStore
  have kMixed := k_Mixed (P := P) (w := w) (base := base) T DMixed
  have kTake := k_Take (P := P) (w := w) (base := base) T DTake kMixed
  have kPick := k_Pick (P := P) (w := w) (base := base) T DPick kTake
  have kRange := k_Range (P := P) (w := w) (base := base) T DRange kTake
  have kLLongs := k_LLongs (P := P) (w := w) (base := base) T DLLongs kTake kPick kRange
  have kRequire := k_Require (P := P) (w := w) (base := base) T DRequire
  have kWholeU := k_WholeU (P := P) (w := w) (base := base) T DWholeU
  have kWithin := k_Within (P := P) (w := w) (base := base) T DWithin kWholeU
  have kLongs := k_Longs (P := P) (w := w) (base := base) (PySem.W.mg_of X G g_LONGEST_WORD) T DLongs kWithin
  have kLength := k_Length (P := P) (w := w) (base := base) (PySem.W.mg_of X G g_LONGEST_WORD) T DLength kWithin
  have kLeap := k_Leap (P := P) (w := w) (base := base) (PySem.W.mg_none_of X G z_zip) T DLeap
  have lwk : LwK P w K mg base 4 "leap_word" ["longs", "length", "turn"] ["turn"] (spLW K) (.int 0) := ⟨fLW, _, dsLW, PySem.W.mg_of X G aLW, kLW, kbLW, vLW, bLW, ok_LW (PySem.W.mg_of X G g_LONGEST_WORD) T FLW kRequire kLongs kLength kWithin kLeap⟩
  have kLWhole := k_LWhole (P := P) (w := w) (base := base) T DLWhole
  have kAl0 : Kn P w K mg base 1 "_law_alike" ["_law_told", "_law_due"] (spAlike K 0) := Kn.mk' (k := 0) (sp := spAlike K 0) DAlike scAlike (fun _ _ _ _ h => False.elim h) (fun _ _ _ _ _ _ _ _ _ _ h => False.elim h)
  have kAl1 := k_Alike 0 T DAlike kLWhole kAl0
  have kAl2 := k_Alike 1 T DAlike kLWhole kAl1
  have kAl3 := k_Alike 2 T DAlike kLWhole kAl2
  have kAdd := k_Add (P := P) (w := w) (base := base) T DAdd
  have kLT := k_LT (P := P) (w := w) (base := base) (PySem.W.mg_none_of X G z_sum) T DLT
  have kWord := k_Word (P := P) (w := w) (base := base) (PySem.W.mg_of X G g_LONGEST_WORD) (PySem.W.mg_none_of X G z_all) T DWord kWithin
  have kEt := k_Et (P := P) (w := w) (base := base) (PySem.W.mg_none_of X G z_sum) T DEt kRequire kWord kLeap
  have kIE := k_IE (P := P) (w := w) (base := base) T DIE kWord kEt
  have kWH := k_WH (P := P) (w := w) (base := base) (PySem.W.mg_none_of X G z_sum) lwk T DWH kLT kIE kAl3 kEt
  have kWs := k_Ws (P := P) (w := w) (base := base) (PySem.W.mg_none_of X G z_sum) lwk T DWs kTake kAl3 kAdd kWH kEt kIE
  have kxRequire := kx_Require (P := P) (w := w) (base := base) B DRequire
  have lwx : LwX P w K mg base 4 "leap_word" ["longs", "length", "turn"] ["turn"] (spLWX K C C_Mismatch) (.int 0) := ⟨fLW, _, dsLW, PySem.W.mg_of X G aLW, kLW, kbLW, vLW, bLW, okx_LW (PySem.W.mg_of X G g_LONGEST_WORD) T Mi FLW kxRequire kRequire kLongs kLength kWithin⟩
  have kxEt := kx_Et (P := P) (w := w) (base := base) DEt kxRequire kWord
  have kWhole := k_Whole (P := P) (w := w) (base := base) T DWhole
  have kIsFraction := k_IsFraction (P := P) (w := w) (base := base) T DIsFraction kWhole
  have kIsPlace := k_IsPlace (P := P) (w := w) (base := base) T DIsPlace kIsFraction
  have kMagn := k_Magn (P := P) (w := w) (base := base) T DMagn kRequire kIsFraction
  have kFraction := k_Fraction (P := P) (w := w) (base := base) T DFraction kRequire kWhole
  have kOver := k_Over (P := P) (w := w) (base := base) T DOver kRequire kIsFraction kFraction
  have kPeriod := k_Period (P := P) (w := w) (base := base) C0 T DPeriod kMagn kOver
  have mkC : C8.Mak P w K mg base 5 "Cycle" CY (spCyInit K CY) [.ref zi] := ⟨fWI, _, _, dsY1, WM, ok_CyInit T W kRequire kIsFraction kIsPlace kPeriod FWI, W.g, bY1, vY1⟩
  have kR1 : Kn P w K mg base 9 "_law_refused" ["_law_store_here", "_law_longs_here", "_law_length"] (spRefd K P1) := ⟨f_R1, _, PySem.W.mg_of X G a_R1, k_R1, b_R1, ok_Refd T B AT AM AS l_R1 cd_R1 TB1 lwx kxEt hN wI mkC ozi kTake kPick kRange kAdd kAl3 kIE⟩
  exact ok_law FL T kStore kLLongs kWs kR1 kTake
end My

namespace My
open PySem PySem.Spec PyProof.Rows L2
/-- the end as the head asks for it -/
theorem law_at {l : PySem.W.OpenLaw} {w : World} {K : PySem.W.Frag} {h : Heap} {mg : Str → Option Value} {fa c1 P1 : Addr} (hT1 : h.get? P1 = some { cls := .none, data := .fields #[] }) (nP1 : K.lookup P1 = none)
    (C1 : PySem.W.CodeHd h c1 P1) 
    (R : ∃ fd : FuncData, (∀ (s : Shared) (v : Value), BindsTo s fd ⟨[v], []⟩ [("_law_script", v)]) ∧ ∀ base : Heap, K.In base → base.Ns mainGlobals mg → ∀ P1 : Addr, LamX.TabB base mg c1 P1 → FnOk l.prog w K mg base CX0 11 fa fd ["_law_script"] (spLaw K P1)) :
    LamX.LawAtS l w K CX0 11 63 "_law_script" mg fa h := by
  obtain ⟨fd, hb, F⟩ := R
  have m1 : (c1, P1) ∈ [(c1, P1)] := List.mem_cons_self ..
  have all : ∀ {p : Addr × Addr} {q : Addr × Addr → Prop}, q (c1, P1) → p ∈ [(c1, P1)] → q p := fun {p q} h1 hp => by
    simp only [List.mem_cons, List.not_mem_nil, or_false] at hp
    rcases hp with rfl
    exact h1
  refine ⟨fd, [(c1, P1)], spLaw K P1, fun p hp => all (q := fun p => h.get? p.2 = _) hT1 hp, fun p hp => all (q := fun p => K.lookup p.2 = none) nP1 hp, fun p hp => all (q := fun p => PySem.W.CodeHd h p.1 p.2) C1 hp, hb, fun H a ns hl hbits hH hS => ?_, fun base X G TB => F base X G P1 (TB _ m1) ⟩
  exact ⟨a, ns, rfl, hS, hH _ m1, fun _ => rfl⟩
theorem walk_mk {l : PySem.W.OpenLaw} {q : Program} {loose : List Str} {XP : (Str → Option Value) → Heap → Prop} {YP : World → Heap → Prop} {d : DefRec} {K : Params → PySem.W.Frag} (hn : l.most = some 63) (hdf : d.params.defaults = [])
    (hY : ∀ (w : World) (h : Heap), YP w h → (K w.params).In h)
    (F : ∀ (w : World) (mg : Str → Option Value) (fa : Addr) (h : Heap), YP w h → (K w.params).In h → h.Ns mainGlobals mg → mg d.name = some (.ref fa) → LamX.LawAtS l w (K w.params) CX0 11 63 "_law_script" mg fa h) :
    PySem.W.WalkO q loose XP YP l.row.toRowW d [] (fun f vs => PySem.call f vs) :=
  LamX.walk_ofTs (CX := fun _ => CX0) hn (by decide) hdf ⟨rfl, by decide, by decide⟩ hY F fun _ _ _ _ _ z => z
end My
open PySem PySem.W PyProof.Rows
set_option maxRecDepth 100000 in
set_option maxHeartbeats 0 in
theorem PySem.Challenge.cw_wheelsky_k49_leap_words_holds : PySem.Challenge.rw_wheelsky_k49_leap_words.Holds := by
  w_on; o_law; k_head; (case hw => w_witness2)
  k_fill
  refine My.walk_mk (l := PySem.Challenge.rw_wheelsky_k49_leap_words) rfl rfl (fun w h Y => km_in_of Y) ?F
  case F =>
    intro w mg fa h Y KX G hmg
    refine' My.law_at (km_tabs_of Y _ (List.mem_cons_self ..)) ?nP1 ?cH1  (My.all_mk KX G hmg ?z_int ?z_len ?z_list ?z_abs ?z_range ?z_min ?z_max ?z_isinstance ?z_bool ?z_str ?z_dict ?z_tuple ?z_gcd ?z_VE ?aC ?aS ?xL ?hbm ?sa ?ga ?gg ?gc ?nw ?aI ?tI ?lI ?cI ?kI ?kC ?eC ?tC ?hC ?mC ?vC ?spc ?tkc ?eS ?hS ?tS ?cS ?a_Mismatch ?t_Mismatch ?h_Mismatch ?s_Mismatch ?n_Mismatch ?a_Still ?t_Still ?h_Still ?s_Still ?n_Still ?a_Endless ?t_Endless ?h_Endless ?s_Endless ?n_Endless ?a_TooMany ?t_TooMany ?h_TooMany ?s_TooMany ?n_TooMany ?a_NoName ?t_NoName ?h_NoName ?s_NoName ?n_NoName ?a_Taken ?t_Taken ?h_Taken ?s_Taken ?n_Taken ?a_Locked ?t_Locked ?h_Locked ?s_Locked ?n_Locked ?a_Looped ?t_Looped ?h_Looped ?s_Looped ?n_Looped ?a_Broken ?t_Broken ?h_Broken ?s_Broken ?n_Broken ?a_ReadError ?t_ReadError ?h_ReadError ?s_ReadError ?n_ReadError ?a_A ?l_A ?c_A ?k_A ?a_R1 ?l_R1 ?cd_R1 ?k_R1 ?aL ?lL ?cL ?kL ?aZ ?o_Z ?aO ?o_O ?aCY ?wpg ?whd ?wpo ?wsa ?wn_rate ?wn_start ?wn_period ?wmk ?wkp ?wca ?wro ?w1 ?w2 ?lWI ?cWI ?kWI ?lTY ?o_I ?kd_int ?kd_bool ?kd_str ?kd_list ?kd_tuple ?kd_dict ?a0Store ?l0Store ?c0Store ?k0Store ?a0LLongs ?l0LLongs ?c0LLongs ?k0LLongs ?a0Take ?l0Take ?c0Take ?k0Take ?a0Mixed ?l0Mixed ?c0Mixed ?k0Mixed ?a0Pick ?l0Pick ?c0Pick ?k0Pick ?a0Range ?l0Range ?c0Range ?k0Range ?z_sum ?aLW ?lLW ?cLW ?kLW ?nK ?g_LONGEST_WORD ?a0Require ?l0Require ?c0Require ?k0Require ?a0Longs ?l0Longs ?c0Longs ?k0Longs ?a0Within ?l0Within ?c0Within ?k0Within ?a0WholeU ?l0WholeU ?c0WholeU ?k0WholeU ?a0Length ?l0Length ?c0Length ?k0Length ?z_zip ?a0Leap ?l0Leap ?c0Leap ?k0Leap ?a0Ws ?l0Ws ?c0Ws ?k0Ws ?a0Alike ?l0Alike ?c0Alike ?k0Alike ?a0LWhole ?l0LWhole ?c0LWhole ?k0LWhole ?a0Add ?l0Add ?c0Add ?k0Add ?a0WH ?l0WH ?c0WH ?k0WH ?a0LT ?l0LT ?c0LT ?k0LT ?a0IE ?l0IE ?c0IE ?k0IE ?z_all ?a0Word ?l0Word ?c0Word ?k0Word ?a0Et ?l0Et ?c0Et ?k0Et ?mm_k ?mm_x ?mm_s ?mm_v ?mm_y ?mm_g ?mm_t ?mm_c ?mm_o ?ms_BadValue ?n_mBadValue ?ms_Still ?n_mStill ?ms_Endless ?n_mEndless ?ms_TooMany ?n_mTooMany ?ms_NoName ?n_mNoName ?ms_Taken ?n_mTaken ?ms_Locked ?n_mLocked ?ms_Looped ?n_mLooped ?ms_Broken ?n_mBroken ?ms_ReadError ?n_mReadError ?a0IsFraction ?l0IsFraction ?c0IsFraction ?k0IsFraction ?a0Whole ?l0Whole ?c0Whole ?k0Whole ?a0IsPlace ?l0IsPlace ?c0IsPlace ?k0IsPlace ?a0Period ?l0Period ?c0Period ?k0Period ?a0Magn ?l0Magn ?c0Magn ?k0Magn ?a0Over ?l0Over ?c0Over ?k0Over ?a0Fraction ?l0Fraction ?c0Fraction ?k0Fraction ?lT0Fraction)
    (case z_int => k_is); (case z_len => k_is); (case z_list => k_is); (case z_abs => k_is); (case z_range => k_is); (case z_min => k_is); (case z_max => k_is); (case z_isinstance => k_is)
    (case z_bool => k_is); (case z_str => k_is); (case z_dict => k_is); (case z_tuple => k_is); (case z_gcd => k_is); (case z_VE => k_is); (case aC => k_is); (case aS => k_is)
    (case xL => k_is); (case hbm => decide +kernel); (case sa => k_is); (case ga => k_is); (case gg => k_is); (case gc => k_is); (case nw => k_is); (case aI => k_is)
    (case tI => k_is); (case lI => k_is); (case cI => k_is); (case kI => k_is); (case kC => k_is); (case eC => k_is); (case tC => k_is); (case hC => k_is)
    (case mC => k_is); (case vC => k_is); (case spc => k_is); (case tkc => k_is); (case eS => k_is); (case hS => k_is); (case tS => k_is); (case cS => k_is)
    (case a_Mismatch => k_is); (case t_Mismatch => k_is); (case h_Mismatch => k_is); (case s_Mismatch => k_is); (case n_Mismatch => decide +kernel); (case a_Still => k_is); (case t_Still => k_is); (case h_Still => k_is)
    (case s_Still => k_is); (case n_Still => decide +kernel); (case a_Endless => k_is); (case t_Endless => k_is); (case h_Endless => k_is); (case s_Endless => k_is); (case n_Endless => decide +kernel); (case a_TooMany => k_is)
    (case t_TooMany => k_is); (case h_TooMany => k_is); (case s_TooMany => k_is); (case n_TooMany => decide +kernel); (case a_NoName => k_is); (case t_NoName => k_is); (case h_NoName => k_is); (case s_NoName => k_is)
    (case n_NoName => decide +kernel); (case a_Taken => k_is); (case t_Taken => k_is); (case h_Taken => k_is); (case s_Taken => k_is); (case n_Taken => decide +kernel); (case a_Locked => k_is); (case t_Locked => k_is)
    (case h_Locked => k_is); (case s_Locked => k_is); (case n_Locked => decide +kernel); (case a_Looped => k_is); (case t_Looped => k_is); (case h_Looped => k_is); (case s_Looped => k_is); (case n_Looped => decide +kernel)
    (case a_Broken => k_is); (case t_Broken => k_is); (case h_Broken => k_is); (case s_Broken => k_is); (case n_Broken => decide +kernel); (case a_ReadError => k_is); (case t_ReadError => k_is); (case h_ReadError => k_is)
    (case s_ReadError => k_is); (case n_ReadError => decide +kernel); (case a_A => k_is); (case l_A => k_is); (case c_A => k_is); (case k_A => k_is); (case a_R1 => k_is); (case l_R1 => k_is)
    (case cd_R1 => k_is); (case k_R1 => k_is); (case aL => k_is); (case lL => k_is); (case cL => k_is); (case kL => k_is); (case aZ => k_is); (case o_Z => k_is)
    (case aO => k_is); (case o_O => k_is); (case aCY => k_is); (case wpg => k_is); (case whd => k_is); (case wpo => k_is); (case wsa => k_is); (case wn_rate => k_is)
    (case wn_start => k_is); (case wn_period => k_is); (case wmk => k_is); (case wkp => k_is); (case wca => k_is); (case wro => k_is); (case w1 => k_is); (case w2 => k_is)
    (case lWI => k_is); (case cWI => k_is); (case kWI => k_is); (case lTY => k_is); (case o_I => k_is); (case kd_int => k_is); (case kd_bool => k_is); (case kd_str => k_is)
    (case kd_list => k_is); (case kd_tuple => k_is); (case kd_dict => k_is); (case a0Store => k_is); (case l0Store => k_is); (case c0Store => k_is); (case k0Store => k_is); (case a0LLongs => k_is)
    (case l0LLongs => k_is); (case c0LLongs => k_is); (case k0LLongs => k_is); (case a0Take => k_is); (case l0Take => k_is); (case c0Take => k_is); (case k0Take => k_is); (case a0Mixed => k_is)
    (case l0Mixed => k_is); (case c0Mixed => k_is); (case k0Mixed => k_is); (case a0Pick => k_is); (case l0Pick => k_is); (case c0Pick => k_is); (case k0Pick => k_is); (case a0Range => k_is)
    (case l0Range => k_is); (case c0Range => k_is); (case k0Range => k_is); (case z_sum => k_is); (case aLW => k_is); (case lLW => k_is); (case cLW => k_is); (case kLW => k_is)
    (case nK => k_is); (case g_LONGEST_WORD => k_is); (case a0Require => k_is); (case l0Require => k_is); (case c0Require => k_is); (case k0Require => k_is); (case a0Longs => k_is); (case l0Longs => k_is)
    (case c0Longs => k_is); (case k0Longs => k_is); (case a0Within => k_is); (case l0Within => k_is); (case c0Within => k_is); (case k0Within => k_is); (case a0WholeU => k_is); (case l0WholeU => k_is)
    (case c0WholeU => k_is); (case k0WholeU => k_is); (case a0Length => k_is); (case l0Length => k_is); (case c0Length => k_is); (case k0Length => k_is); (case z_zip => k_is); (case a0Leap => k_is)
    (case l0Leap => k_is); (case c0Leap => k_is); (case k0Leap => k_is); (case a0Ws => k_is); (case l0Ws => k_is); (case c0Ws => k_is); (case k0Ws => k_is); (case a0Alike => k_is)
    (case l0Alike => k_is); (case c0Alike => k_is); (case k0Alike => k_is); (case a0LWhole => k_is); (case l0LWhole => k_is); (case c0LWhole => k_is); (case k0LWhole => k_is); (case a0Add => k_is)
    (case l0Add => k_is); (case c0Add => k_is); (case k0Add => k_is); (case a0WH => k_is); (case l0WH => k_is); (case c0WH => k_is); (case k0WH => k_is); (case a0LT => k_is)
    (case l0LT => k_is); (case c0LT => k_is); (case k0LT => k_is); (case a0IE => k_is); (case l0IE => k_is); (case c0IE => k_is); (case k0IE => k_is); (case z_all => k_is)
    (case a0Word => k_is); (case l0Word => k_is); (case c0Word => k_is); (case k0Word => k_is); (case a0Et => k_is); (case l0Et => k_is); (case c0Et => k_is); (case k0Et => k_is)
    (case mm_k => k_is); (case mm_x => k_exc); (case mm_s => k_is); (case mm_v => k_is); (case mm_y => k_is); (case mm_g => k_is); (case mm_t => k_is); (case mm_c => k_is)
    (case mm_o => k_is); (case ms_BadValue => k_is); (case n_mBadValue => decide +kernel); (case ms_Still => k_is); (case n_mStill => decide +kernel); (case ms_Endless => k_is); (case n_mEndless => decide +kernel); (case ms_TooMany => k_is)
    (case n_mTooMany => decide +kernel); (case ms_NoName => k_is); (case n_mNoName => decide +kernel); (case ms_Taken => k_is); (case n_mTaken => decide +kernel); (case ms_Locked => k_is); (case n_mLocked => decide +kernel); (case ms_Looped => k_is)
    (case n_mLooped => decide +kernel); (case ms_Broken => k_is); (case n_mBroken => decide +kernel); (case ms_ReadError => k_is); (case n_mReadError => decide +kernel); (case a0IsFraction => k_is); (case l0IsFraction => k_is); (case c0IsFraction => k_is)
    (case k0IsFraction => k_is); (case a0Whole => k_is); (case l0Whole => k_is); (case c0Whole => k_is); (case k0Whole => k_is); (case a0IsPlace => k_is); (case l0IsPlace => k_is); (case c0IsPlace => k_is)
    (case k0IsPlace => k_is); (case a0Period => k_is); (case l0Period => k_is); (case c0Period => k_is); (case k0Period => k_is); (case a0Magn => k_is); (case l0Magn => k_is); (case c0Magn => k_is)
    (case k0Magn => k_is); (case a0Over => k_is); (case l0Over => k_is); (case c0Over => k_is); (case k0Over => k_is); (case a0Fraction => k_is); (case l0Fraction => k_is); (case c0Fraction => k_is)
    (case k0Fraction => k_is); (case lT0Fraction => k_is)
    (case cH1 => exact codeHd_of_K KX (by kernel_rfl))
    (case nP1 => kernel_rfl)
