import PyProof.Rows.All
import Wide.All
import OpenK.AllK
import Wide.FinOn
import HandS.ForMost
import HandS.Exc
import HandS.Codes
import HandS.Wide
import HandS.WideBits
import HandS.Gcd
import HandS.IsInst
import HandS.Defaults
import HandS.Conv
import HandS.Sort
import HandS.List
import KE.KDictList
import HandS.Zip
import KE.KDictZip
import HandS.ClsMeth
import HandS.SlotsOwn
import KE.KOpsOwn
import PyProof.InstEq
import HandS.Iter
import HandS.Comp
import HandS.TupAny
import HandS.Property
import HandS.More
import HandS.ForExc
import HandS.ExcInit
import HandS.ExcField
import HandS.ExcIs
import KE.KExcIs
import HandS.Lambda
import HandS.CallLocal
import HandS.Style
import HandS.EndTab
import PySem.Challenge.RW_wheelsky_k40_slot_carries
set_option Elab.async false
set_option linter.all false
set_option maxRecDepth 100000
set_option maxHeartbeats 4000000
namespace My
open PySem PySem.Spec PyProof.Rows L2
def topS (i : Nat) : Stmt := PySem.Challenge.pw_wheelsky_k40_slot_carries.main.body.getD i (.Pass ⟨0, 0, 0, 0⟩)
/-! ### a def of the top, and what it is known to keep -/
structure Dfn (K : PySem.W.Frag) (mg : Str → Option Value) (x : Str) (st : Stmt) (ps : List Str) : Prop where
  ex : ∃ f fd, Fun K x x st f fd ∧ mg x = some (.ref f) ∧ Binds K fd ps []
structure Kn (P : Program) (w : World) (K : PySem.W.Frag) (mg : Str → Option Value) (base : Heap) (k : Nat) (x : Str) (ps : List Str) (sp : Sp) : Prop where
  ex : ∃ f fd, mg x = some (.ref f) ∧ PySem.W.keepIn K (.ref f) = true ∧ Binds K fd ps [] ∧ FnOk P w K mg base CX0 k f fd ps sp
theorem Kn.mk' {P : Program} {w : World} {K : PySem.W.Frag} {mg : Str → Option Value} {base : Heap} {x : Str} {st : Stmt} {N ps : List Str} {k : Nat} {sp : Sp} (D : Dfn K mg x st ps) (S : FnScope N ps (defScope st)) (len : ∀ vs H Q E, sp vs H Q E → vs.length = ps.length)
    (hbody : ∀ (f : Addr) (cdv : Value) (A : Around) (outer : List Env) (s : Shared) (H : Hp) (vs : List V) (Q : VK) (E : XK), Room k (A.deeper (envOfC x (defScope st) s.heap.objs.size f cdv)) → sp vs H Q E →
      ∃ t, PSs (cxOf CX0 P w K mg base N x (defScope st) f cdv A outer s H E).nox (defBody st) t ∧ t { nx := fun _ H' => Q .non H', rt := Q } (start N vs) H) : Kn P w K mg base (k + 1) x ps sp := by
  obtain ⟨f, fd, F, m, b⟩ := D.ex
  exact ⟨f, fd, m, F.kp, b, F.ok S len (hbody f)⟩
section
variable {X : Cx}
theorem pe_kn {j k : Nat} {x : Str} {ps : List Str} {sp : Sp} {p pos : Pos} {e : Expr} {es : List Expr} {t : TA} (F : Kn X.prog X.w X.K X.mg X.base k x ps sp) (hr : Room j X.A) (hg : Gl X x) (ha : PA X (e :: es) t) (hj : k ≤ j := by omega)
    (hdb : (x == ("__debug__" : Str)) = false := by decide) (he : starEach (e :: es) X.env = (false, eval e X.env) :: starEach es X.env := by rfl) (hpl : (backTo pos (starEach es X.env)).any (·.1) = false := by rfl) :
    PE X (.Call (.Name x p) (e :: es) [] pos) (tCall sp [] E0 t) := by
  obtain ⟨f, fd, m, kp, b, G⟩ := F.ex
  exact pe_call G (hr.mono hj) hg m kp b .nil pass0 ha hdb he hpl
end
/-! ### heaps -/
/-- all but s stands -/
def Kp (s : Addr) (H H' : Hp) : Prop := (∀ b o, b ≠ s → H b = some o → H' b = some o) ∧ ∀ x r, H s = some (.lst (x :: r)) → ∃ r', H' s = some (.lst (x :: r'))
instance {s : Addr} {H H' : Hp} : CoeFun (Kp s H H') (fun _ => ∀ b o, b ≠ s → H b = some o → H' b = some o) := ⟨fun h => h.1⟩
theorem Kp.refl (s : Addr) (H : Hp) : Kp s H H := ⟨fun _ _ _ e => e, fun _ r e => ⟨r, e⟩⟩
theorem Kp.trans {s : Addr} {H H1 H2 : Hp} (a : Kp s H H1) (b : Kp s H1 H2) : Kp s H H2 := ⟨fun c o n e => b.1 c o n (a.1 c o n e), fun x r e => by
  obtain ⟨r', e'⟩ := a.2 x r e
  exact b.2 x r' e'⟩
theorem Kp.same {s : Addr} {H H1 : Hp} (a : Same H H1) : Kp s H H1 := ⟨fun b o _ e => a b o e, fun x r e => ⟨r, a _ _ e⟩⟩
theorem Same.new {H : Hp} {p : Addr} (h : H p = none) (o : HO) : Same H (upd H p o) := fun b u q => by rw [upd_ne (ne_of_none q h)]; exact q
theorem Kp.put {s : Addr} {H : Hp} {x : V} {r r' : List V} (h : H s = some (.lst (x :: r))) : Kp s H (upd H s (.lst (x :: r'))) := ⟨fun b u n e => by rw [upd_ne n]; exact e, fun y q e => by
  rw [h] at e
  cases e
  exact ⟨r', upd_same⟩⟩
/-- the store of the draws at s -/
def Sr (K : PySem.W.Frag) (H : Hp) (s : Addr) (sc : Addr) (ns : List Int) (i b c d e f : Int) : Prop :=
  H s = some (.lst [.ref sc, .int i, .int b, .int c, .int d, .int e, .int f]) ∧ H sc = some (.lst (ns.map V.int)) ∧ s ≠ sc ∧ 0 ≤ i ∧ K.lookup s = none ∧ K.lookup sc = none
def Sto (K : PySem.W.Frag) (H : Hp) (s : Addr) : Prop := ∃ sc ns i b c d e f, Sr K H s sc ns i b c d e f
theorem Sr.same {K : PySem.W.Frag} {H H1 : Hp} {s sc : Addr} {ns : List Int} {i b c d e f : Int} (h : Sr K H s sc ns i b c d e f) (a : Same H H1) : Sr K H1 s sc ns i b c d e f := ⟨a _ _ h.1, a _ _ h.2.1, h.2.2⟩
theorem Sto.same {K : PySem.W.Frag} {H H1 : Hp} {s : Addr} (h : Sto K H s) (a : Same H H1) : Sto K H1 s := by
  obtain ⟨sc, ns, i, b, c, d, e, f, h⟩ := h
  exact ⟨sc, ns, i, b, c, d, e, f, h.same a⟩
theorem Sr.put {K : PySem.W.Frag} {H : Hp} {s sc : Addr} {ns : List Int} {i b c d e f i' b' c' d' e' f' : Int} (h : Sr K H s sc ns i b c d e f) (hi : 0 ≤ i') :
    Sr K (upd H s (.lst [.ref sc, .int i', .int b', .int c', .int d', .int e', .int f'])) s sc ns i' b' c' d' e' f' :=
  ⟨upd_same, by rw [upd_ne (Ne.symm h.2.2.1)]; exact h.2.1, h.2.2.1, hi, h.2.2.2.2⟩
theorem Kp.seqT {s : Addr} {K : PySem.W.Frag} {H H' : Hp} {a : Addr} {xs ys : List V} (e : Kp s H H') (hs : H s = some (.lst ys)) (h : SqT K H a xs) : SqT K H' a xs := by
  rcases h with (h | ⟨o, h⟩) | h
  · exact .inl (.inl (e _ _ (by rintro rfl; rw [hs] at h; cases h) h))
  · exact .inl (.inr ⟨o, e _ _ (by rintro rfl; rw [hs] at h; cases h) h⟩)
  · exact .inr h
theorem Same.seqT {K : PySem.W.Frag} {H H' : Hp} {a : Addr} {xs : List V} (e : Same H H') (h : SqT K H a xs) : SqT K H' a xs := by
  rcases h with (h | ⟨o, h⟩) | h
  · exact .inl (.inl (e _ _ h))
  · exact .inl (.inr ⟨o, e _ _ h⟩)
  · exact .inr h
/-- the built-ins' names, unbound -/
structure Bt (K : PySem.W.Frag) (mg : Str → Option Value) : Prop where
  b_int : mg "int" = none
  b_len : mg "len" = none
  b_list : mg "list" = none
  b_abs : mg "abs" = none
  b_range : mg "range" = none
  b_min : mg "min" = none
  b_max : mg "max" = none
  b_isinstance : mg "isinstance" = none
  b_bool : mg "bool" = none
  b_str : mg "str" = none
  b_dict : mg "dict" = none
  b_tuple : mg "tuple" = none
  g_gcd : mg "gcd" = some (.builtin "math.gcd")
end My

namespace My
open PySem PySem.Spec PyProof.Rows L2
theorem cx_K {CX : CXT} {P : Program} {w : World} {K : PySem.W.Frag} {mg : Str → Option Value} {base : Heap} {N : List Str} {qual : Str} {scope : Scope} {f : Addr} {cd : Value} {A : Around} {outer : List Env} {s : Shared} {H : Hp} {E : XK} : (cxOf CX P w K mg base N qual scope f cd A outer s H E).K = K := rfl
/-! ### what stands at an address, the written part first -/
def obK (o : Obj) : Option HO := match o.cls, o.data with
  | .type "tuple", .seq its _ => if its.size ≤ sizeLine then (its.toList.mapM absV).map HO.tup else none
  | _, _ => none
def ob (K : PySem.W.Frag) (H : Hp) (a : Addr) : Option HO := match K.lookup a with
  | some o => obK o
  | none => H a
theorem absV_rel {u : Value} {x : V} (h : absV u = some x) : RelV x u := by
  cases u <;> simp only [absV, Option.some.injEq, reduceCtorEq] at h <;> subst h
  all_goals first | exact rfl | exact ⟨_, rfl⟩
theorem absV_all : ∀ {us : List Value} {xs : List V}, us.mapM absV = some xs → Vals xs us
  | [], xs, h => by
    simp at h
    subst h
    exact .nil
  | u :: us, xs, h => by
    rw [List.mapM_cons] at h
    cases e1 : absV u with
    | none => simp [e1] at h
    | some x =>
      cases e2 : us.mapM absV with
      | none => simp [e1, e2] at h
      | some r =>
        simp [e1, e2] at h
        subst h
        exact .cons (absV_rel e1) (absV_all e2)
theorem obK_tup {o : Obj} {z : HO} (h : obK o = some z) : ∃ xs its n, z = .tup xs ∧ o.cls = .type "tuple" ∧ o.data = .seq its n ∧ its.size ≤ sizeLine ∧ Vals xs its.toList := by
  unfold obK at h
  split at h
  · rename_i its n e1 e2
    split at h
    · rename_i hz
      cases e : its.toList.mapM absV with
      | none => rw [e] at h; cases h
      | some xs =>
        rw [e] at h
        exact ⟨xs, its, n, (Option.some.inj h).symm, e1, e2, hz, absV_all e⟩
    · cases h
  · cases h
theorem ob_none {K : PySem.W.Frag} {H : Hp} {a : Addr} (h : K.lookup a = none) : ob K H a = H a := by unfold ob; rw [h]
theorem ob_tup {K : PySem.W.Frag} {H : Hp} {a : Addr} {xs : List V} (h : ob K H a = some (.tup xs)) : SqT K H a xs := by
  unfold ob at h
  split at h
  · rename_i o e
    obtain ⟨ys, its, n, z, h1, h2, h3, h4⟩ := obK_tup h
    cases z
    exact .inr ⟨o, its, n, e, h1, h2, h3, h4⟩
  · exact .inl (.inl h)
theorem ob_H {K : PySem.W.Frag} {H : Hp} {a : Addr} {z : HO} (h : ob K H a = some z) (n : ∀ xs, z ≠ .tup xs) : H a = some z ∧ K.lookup a = none := by
  unfold ob at h
  split at h
  · obtain ⟨ys, its, n', z', _⟩ := obK_tup h
    exact absurd z' (n ys)
  · rename_i e
    exact ⟨h, e⟩
theorem ob_lst {K : PySem.W.Frag} {H : Hp} {a : Addr} {xs : List V} (h : ob K H a = some (.lst xs)) : SqL K H a xs := .of (ob_H h (fun _ z => by cases z)).1
theorem ob_same {K : PySem.W.Frag} {H H' : Hp} {a : Addr} {z : HO} (e : Same H H') (h : ob K H a = some z) : ob K H' a = some z := by
  unfold ob at h ⊢
  split
  · rename_i o q
    rw [q] at h
    exact h
  · rename_i q
    rw [q] at h
    exact e _ _ h
theorem ob_kp {K : PySem.W.Frag} {H H' : Hp} {s a : Addr} {ys : List V} {z : HO} (e : Kp s H H') (hs : H s = some (.lst ys)) (n : ∀ ys, z ≠ .lst ys) (h : ob K H a = some z) : ob K H' a = some z := by
  unfold ob at h ⊢
  split
  · rename_i o q
    rw [q] at h
    exact h
  · rename_i q
    rw [q] at h
    exact e _ _ (by rintro rfl; rw [hs] at h; exact n _ (Option.some.inj h).symm) h
theorem ob_new {K : PySem.W.Frag} {H : Hp} {p : Addr} {o : HO} (k : K.lookup p = none) : ob K (upd H p o) p = some o := by rw [ob_none k, upd_same]
/-- a built-in type's name, of what stands somewhere -/
def tyO : Option HO → Option String
  | some (.tup _) => some "tuple"
  | some (.lst _) => some "list"
  | some (.dK _) => some "dict"
  | _ => none
def tyN (K : PySem.W.Frag) (H : Hp) : V → Option String
  | .non => some "NoneType"
  | .bl _ => some "bool"
  | .int _ => some "int"
  | .str _ => some "str"
  | .ref a => tyO (ob K H a)
  | _ => none
theorem tyO_tup (xs : List V) : tyO (some (.tup xs)) = some "tuple" := rfl
theorem tyO_lst (xs : List V) : tyO (some (.lst xs)) = some "list" := rfl
theorem tyO_dK (xs : List (Key × V)) : tyO (some (.dK xs)) = some "dict" := rfl
theorem tyN_non {K : PySem.W.Frag} {H : Hp} : tyN K H .non = some "NoneType" := rfl
theorem tyN_bl {K : PySem.W.Frag} {H : Hp} (b : Bool) : tyN K H (.bl b) = some "bool" := rfl
theorem tyN_int {K : PySem.W.Frag} {H : Hp} (b : Int) : tyN K H (.int b) = some "int" := rfl
theorem tyN_str {K : PySem.W.Frag} {H : Hp} (b : Str) : tyN K H (.str b) = some "str" := rfl
theorem tyN_ref {K : PySem.W.Frag} {H : Hp} (a : Addr) : tyN K H (.ref a) = tyO (ob K H a) := rfl
theorem tyN_X {K : PySem.W.Frag} {H : Hp} {x : V} {t : String} (h : tyN K H x = some t) : TyX K H x (.type t) := by
  cases x with
  | non => cases h; exact .base .non
  | bl b => cases h; exact .base (.bl b)
  | int i => cases h; exact .base (.int i)
  | str z => cases h; exact .base (.str z)
  | byt _ => cases h
  | flt _ => cases h
  | ty _ => cases h
  | ref a =>
    have h1 : tyO (ob K H a) = some t := h
    cases e : ob K H a with
    | none => rw [e] at h1; cases h1
    | some z =>
      rw [e] at h1
      cases z with
      | tup xs =>
        cases h1
        unfold ob at e
        split at e
        · rename_i o q
          obtain ⟨_, _, _, _, c, _⟩ := obK_tup e
          exact .kTuple q c
        · exact .base (.tup e)
      | lst xs => cases h1; exact .base (.lst (ob_H e (fun _ z => by cases z)).1)
      | dK kvs => cases h1; exact .base (.dK (ob_H e (fun _ z => by cases z)).1)
      | _ => cases h1
/-- isinstance(x, T) by names -/
def isB (a b : String) : Bool := a == b || (a == "bool" && b == "int")
def rIsN (K : PySem.W.Frag) : List V → Hp → VK → Prop := fun xs H Q => ∃ x n, xs = [x, .ty n] ∧ n ∈ ["int", "bool", "str", "list", "tuple", "dict"] ∧ ∃ t, tyN K H x = some t ∧ Q (.bl (isB t n)) H
theorem tyN_mem {K : PySem.W.Frag} {H : Hp} {x : V} {t : String} (h : tyN K H x = some t) : t ∈ ["NoneType", "bool", "int", "str", "tuple", "list", "dict"] := by
  cases x with
  | non => cases h; decide
  | bl b => cases h; decide
  | int i => cases h; decide
  | str z => cases h; decide
  | byt _ => cases h
  | flt _ => cases h
  | ty _ => cases h
  | ref a =>
    have h1 : tyO (ob K H a) = some t := h
    unfold tyO at h1
    split at h1 <;> first | (cases h1; decide) | cases h1
theorem kit_all : ∀ t ∈ ["NoneType", "bool", "int", "str", "tuple", "list", "dict"], ∀ n ∈ ["int", "bool", "str", "list", "tuple", "dict"], kitB t n = some (isB t n) := by decide +kernel
/-- isinstance(x, (T, ..)) -/
def tyNs : List V → Option (List String)
  | [] => some []
  | .ty n :: r => if n ∈ ["int", "bool", "str", "list", "tuple", "dict"] then (tyNs r).map (n :: ·) else none
  | _ :: _ => none
theorem tyNs_of : ∀ {cs : List V} {ns : List String}, tyNs cs = some ns → cs = ns.map V.ty ∧ ∀ n ∈ ns, n ∈ ["int", "bool", "str", "list", "tuple", "dict"]
  | [], ns, h => by cases h; exact ⟨rfl, fun _ z => absurd z (by simp)⟩
  | c :: r, ns, h => by
    cases c with
    | ty n =>
      unfold tyNs at h
      split at h
      · rename_i hn
        cases e : tyNs r with
        | none => rw [e] at h; cases h
        | some ms =>
          rw [e] at h
          cases h
          obtain ⟨h1, h2⟩ := tyNs_of e
          refine ⟨by rw [h1]; rfl, fun m hm => ?_⟩
          rcases List.mem_cons.mp hm with z | z
          · rw [z]; exact hn
          · exact h2 m z
      · cases h
    | _ => cases h
theorem tyNs_lt : tyNs [.ty "list", .ty "tuple"] = some ["list", "tuple"] := by decide
def rIsT (K : PySem.W.Frag) : List V → Hp → VK → Prop := fun xs H Q => ∃ x tp, xs = [x, .ref tp] ∧ ∃ cs, H tp = some (.tup cs) ∧ ∃ ns, tyNs cs = some ns ∧ ∃ t, tyN K H x = some t ∧ Q (.bl (ns.any (isB t))) H
section
variable {X : Cx}
theorem call_isN : CallR X (.builtin "isinstance") (rIsN X.K) := fun pins s σ H xs us Q I r h => by
  obtain ⟨x, n, rfl, hn, t, ht, q⟩ := h
  exact call_isi pins s σ H _ us Q I r ⟨x, .ty n, .type t, .type n, isB t n, rfl, .ty n, tyN_X ht, kit_ty (kit_all t (tyN_mem ht) n hn), q⟩
theorem kitAny_of {K : PySem.W.Frag} {t : String} (ht : t ∈ ["NoneType", "bool", "int", "str", "tuple", "list", "dict"]) : ∀ {ns : List String}, (∀ n ∈ ns, n ∈ ["int", "bool", "str", "list", "tuple", "dict"]) → PySem.W.kitAny K (.type t) (ns.map Value.type) = some (ns.any (isB t))
  | [], _ => rfl
  | n :: ns, h => by
    have e1 : PySem.W.kitOne K (.type t) (.type n) = some (isB t n) := kit_ty (kit_all t ht n (h n List.mem_cons_self))
    have e2 := kitAny_of (K := K) ht (ns := ns) fun m hm => h m (List.mem_cons_of_mem _ hm)
    rw [List.map_cons, List.any_cons]
    unfold PySem.W.kitAny
    rw [e1]
    cases isB t n
    · simpa using e2
    · rfl
theorem clsV_all : ∀ ns : List String, Paired ClsV (ns.map V.ty) (ns.map Value.type)
  | [] => .nil
  | n :: ns => .cons (.ty n) (clsV_all ns)
theorem call_isT : CallR X (.builtin "isinstance") (rIsT X.K) := fun pins s σ H xs us Q I r h => by
  obtain ⟨x, tp, rfl, cs, hT, ns, hns, t, ht, q⟩ := h
  obtain ⟨rfl, hn⟩ := tyNs_of hns
  exact call_isiT pins s σ H _ us Q I r ⟨x, tp, _, .type t, _, _, rfl, hT, clsV_all ns, tyN_X ht, kitAny_of (tyN_mem ht) hn, q⟩
/-- xs[i], t[i] -/
def itsO : Option HO → Option (List V)
  | some (.tup xs) => some xs
  | some (.lst xs) => some xs
  | _ => none
theorem itsO_tup (xs : List V) : itsO (some (.tup xs)) = some xs := rfl
theorem itsO_lst (xs : List V) : itsO (some (.lst xs)) = some xs := rfl
theorem itsO_or {K : PySem.W.Frag} {H : Hp} {a : Addr} {xs : List V} (h : itsO (ob K H a) = some xs) : SqL K H a xs ∨ SqT K H a xs := by
  cases e : ob K H a with
  | none => rw [e] at h; cases h
  | some z =>
    rw [e] at h
    cases z with
    | tup ys => cases h; exact .inr (ob_tup e)
    | lst ys => cases h; exact .inl (ob_lst e)
    | _ => cases h
def rIxA (K : PySem.W.Frag) : R2 := fun x y H Q => ∃ p i, x = .ref p ∧ y = .int i ∧ ∃ xs, itsO (ob K H p) = some xs ∧ ∃ v, atI xs i = some v ∧ Q v H
theorem ix_any : IxR X (rIxA X.K) := fun value slice pins s σ H x y v u Q I rx ry h hs => by
  obtain ⟨p, i, rfl, rfl, xs, hx, w, hw, q⟩ := h
  rcases itsO_or hx with z | z
  · exact ix_list value slice pins s σ H _ _ v u Q I rx ry ⟨p, xs, i, w, rfl, rfl, z, hw, q⟩ hs
  · exact ix_tup value slice pins s σ H _ _ v u Q I rx ry ⟨p, xs, i, w, rfl, rfl, z, hw, q⟩ hs
theorem call_lenA : CallR X (.builtin "len") (fun xs H Q => ∃ p, xs = [.ref p] ∧ ∃ ys, itsO (ob X.K H p) = some ys ∧ Q (.int ys.length) H) := fun pins s σ H xs us Q I r h => by
  obtain ⟨p, rfl, ys, hy, q⟩ := h
  exact call_len_seq pins s σ H _ us Q I r ⟨p, ys, rfl, itsO_or hy, q⟩
/-! new tuples and lists, away from the written part -/
variable {es : List Expr} {t : TA} {pos : Pos}
def tTp (K : PySem.W.Frag) (t : TA) : TE := fun σ H Q => t σ H fun xs H1 => xs.length ≤ sizeLine ∧ ∀ p, H1 p = none → K.lookup p = none → Q (.ref p) (upd H1 p (.tup xs))
def tLs (K : PySem.W.Frag) (t : TA) : TE := fun σ H Q => t σ H fun xs H1 => xs.length ≤ sizeLine ∧ ∀ p, H1 p = none → K.lookup p = none → Q (.ref p) (upd H1 p (.lst xs))
theorem new_K {pins : List (Addr × Obj)} {σ : L2.St} {H : Hp} {s : Shared} (I : Inv X pins σ H s) : X.K.lookup s.heap.objs.size = none := by
  cases e : X.K.lookup s.heap.objs.size with
  | none => rfl
  | some o => exact absurd (Heap.lt_size (I.kIn _ _ e)) (Nat.lt_irrefl _)
theorem pe_tp {x1} (h : PA X es t) : PE X (.Tuple es x1 pos) (tTp X.K t) := by
  refine ⟨fun pins s σ H Q I hq => ?_⟩
  refine wpAny_Tuple_spliced (thn (h.run pos pins s σ H _ I hq) fun us s1 ⟨xs, H1, I1, r, z, q⟩ => ⟨by rw [← r.length]; exact z, ?_⟩)
  have hf : H1 s1.heap.objs.size = none := I1.hok.fresh (Nat.le_refl _)
  refine ⟨.ref s1.heap.objs.size, upd H1 s1.heap.objs.size (.tup xs), I1.laid (t' := s1.toks) (fun b u e => Heap.get?_push_of_some _ e) (Nat.le_refl _) ?_, rfl, q _ hf (new_K I1)⟩
  exact ⟨z, us, r, ⟨_, Heap.get?_push_size _ rfl, rfl, _, rfl⟩⟩
theorem pe_ls (h : PA X es t) : PE X (.List es pos) (tLs X.K t) := by
  refine ⟨fun pins s σ H Q I hq => ?_⟩
  refine wpAny_List_spliced (thn (h.run pos pins s σ H _ I hq) fun us s1 ⟨xs, H1, I1, r, z, q⟩ => ⟨by rw [← r.length]; exact z, ?_⟩)
  have hf : H1 s1.heap.objs.size = none := I1.hok.fresh (Nat.le_refl _)
  refine ⟨.ref s1.heap.objs.size, upd H1 s1.heap.objs.size (.lst xs), I1.laid (t' := s1.toks) (fun b u e => Heap.get?_push_of_some _ e) (Nat.le_refl _) ?_, rfl, q _ hf (new_K I1)⟩
  exact ⟨z, us, 0, r, Heap.get?_push_size _ rfl⟩
end
/-- a, b = t -/
def gTp (K : PySem.W.Frag) (n : Nat) (t : TGs) : TG := fun v σ H Q => ∃ a, v = .ref a ∧ ∃ xs, ob K H a = some (.tup xs) ∧ xs.length = n ∧ t xs σ H Q
theorem pg_tp {X : Cx} {pos : Pos} {es : List Expr} {k : Nat} {t : TGs} (n : Nat) (hc : X.calm = true) (h : PGs X es t) (hn : (assignEach es X.env).length = n := by rfl) (hst : (assignEach es X.env).findIdx? (·.1) = none := by rfl) : PG X (.Tuple es k pos) (gTp X.K n t) :=
  ⟨fun pins s σ H v u Q I r hw => by
    obtain ⟨a, e, xs, hx, hl, q⟩ := hw
    exact (pg_tup (n := n) hc h hn hst).run pins s σ H v u Q I r ⟨a, xs, e, ob_tup hx, hl, q⟩⟩
/-- {} -/
def tDn (K : PySem.W.Frag) : TE := fun _ H Q => ∀ p, H p = none → K.lookup p = none → Q (.ref p) (upd H p (.dK []))
theorem pe_dn {X : Cx} {pos : Pos} : PE X (.Dict [] [] pos) (tDn X.K) := ⟨fun pins s σ H Q I h => by
  refine wpAny_Dict_empty ⟨.ref s.heap.objs.size, upd H s.heap.objs.size (.dK []), ?_, rfl, h _ (I.hok.fresh (Nat.le_refl _)) (new_K I)⟩
  exact I.laid (t' := s.toks) (fun _ _ e => Heap.get?_push_of_some _ e) (Nat.le_refl _) (dk_empty s.heap I.big)⟩
/-! ### loops -/
def ForI (J : It) (g : TG) (tb : TS) (D : Ends) (σ : L2.St) (H : Hp) : Prop := ∃ W : Nat → Nat → L2.St → Hp → Prop, (∃ m, W 0 m σ H) ∧ ∀ i m σ H, W i m σ H →
  (J.stop i H ∧ D.nx σ H) ∨ (J.go i H ∧ ∃ N : L2.St → Hp → Prop, (∀ σ' H', N σ' H' → ∃ m', m' < m ∧ W (i + 1) m' σ' H') ∧ ∀ x H', J.yld i H x H' → g x σ H' fun σ2 H2 => tb { D with nx := N, ct := N, bk := D.nx } σ2 H2)
theorem tFor_eq (wi : TI) (g : TG) (tb : TS) (D : Ends) (σ : L2.St) (H : Hp) : tFor wi g tb D σ H = wi σ H fun J H1 => ForI J g tb D σ H1 := rfl
section
variable {g : TG} {tb : TS} {D : Ends} {σ : L2.St} {H : Hp}
theorem forI_range {lo : Int} {n : Nat} (Pv : Nat → L2.St → Hp → Prop) (h0 : Pv 0 σ H)
    (hs : ∀ i σ H, i < n → Pv i σ H → g (.int (lo + i)) σ H fun σ2 H2 => tb { D with nx := Pv (i + 1), ct := Pv (i + 1), bk := D.nx } σ2 H2) (hd : ∀ σ H, Pv n σ H → D.nx σ H) : ForI (Itr lo n) g tb D σ H := for_range Pv h0 hs hd
theorem forI_list {K : PySem.W.Frag} {a : Addr} {xs : List V} (Pv : Nat → L2.St → Hp → Prop) (h0 : Pv 0 σ H) (hl : ∀ i σ H, i ≤ xs.length → Pv i σ H → SqL K H a xs)
    (hs : ∀ i x σ H, xs[i]? = some x → Pv i σ H → g x σ H fun σ2 H2 => tb { D with nx := Pv (i + 1), ct := Pv (i + 1), bk := D.nx } σ2 H2) (hd : ∀ σ H, Pv xs.length σ H → D.nx σ H) : ForI (Itl K a) g tb D σ H := for_list Pv h0 hl hs hd
theorem forI_tup {K : PySem.W.Frag} {a : Addr} {xs : List V} (Pv : Nat → L2.St → Hp → Prop) (h0 : Pv 0 σ H) (hl : ∀ i σ H, i ≤ xs.length → Pv i σ H → SqT K H a xs)
    (hs : ∀ i x σ H, xs[i]? = some x → Pv i σ H → g x σ H fun σ2 H2 => tb { D with nx := Pv (i + 1), ct := Pv (i + 1), bk := D.nx } σ2 H2) (hd : ∀ σ H, Pv xs.length σ H → D.nx σ H) : ForI (Itt K a) g tb D σ H := for_tup Pv h0 hl hs hd
end
theorem ca_0 : ((0 : Nat) : Int) = 0 := rfl
theorem ca_1 : ((1 : Nat) : Int) = 1 := rfl
theorem ca_2 : ((2 : Nat) : Int) = 2 := rfl
theorem ca_3 : ((3 : Nat) : Int) = 3 := rfl
theorem ca_4 : ((4 : Nat) : Int) = 4 := rfl
theorem ca_5 : ((5 : Nat) : Int) = 5 := rfl
theorem ca_6 : ((6 : Nat) : Int) = 6 := rfl
theorem ca_7 : ((7 : Nat) : Int) = 7 := rfl
theorem ca_8 : ((8 : Nat) : Int) = 8 := rfl
theorem ca_9 : ((9 : Nat) : Int) = 9 := rfl
theorem ca_10 : ((10 : Nat) : Int) = 10 := rfl
theorem ca_11 : ((11 : Nat) : Int) = 11 := rfl
theorem ca_12 : ((12 : Nat) : Int) = 12 := rfl
theorem ca_13 : ((13 : Nat) : Int) = 13 := rfl
theorem ca_14 : ((14 : Nat) : Int) = 14 := rfl
theorem ca_15 : ((15 : Nat) : Int) = 15 := rfl
theorem ca_16 : ((16 : Nat) : Int) = 16 := rfl
theorem ca_17 : ((17 : Nat) : Int) = 17 := rfl
theorem ca_18 : ((18 : Nat) : Int) = 18 := rfl
theorem ca_19 : ((19 : Nat) : Int) = 19 := rfl
theorem ca_20 : ((20 : Nat) : Int) = 20 := rfl
theorem ca_21 : ((21 : Nat) : Int) = 21 := rfl
theorem ca_22 : ((22 : Nat) : Int) = 22 := rfl
theorem ca_23 : ((23 : Nat) : Int) = 23 := rfl
theorem ca_24 : ((24 : Nat) : Int) = 24 := rfl
theorem ca_25 : ((25 : Nat) : Int) = 25 := rfl
theorem ca_26 : ((26 : Nat) : Int) = 26 := rfl
theorem ca_27 : ((27 : Nat) : Int) = 27 := rfl
theorem ca_28 : ((28 : Nat) : Int) = 28 := rfl
theorem ca_29 : ((29 : Nat) : Int) = 29 := rfl
theorem ca_30 : ((30 : Nat) : Int) = 30 := rfl
theorem nat10 : (10 : Int).natAbs = 10 := rfl
/-- list(xs), away from the written part -/
theorem call_listK {X : Cx} : CallR X (.type "list") (fun xs H Q => ∃ p, xs = [.ref p] ∧ ∃ ys, (SqL X.K H p ys ∨ SqT X.K H p ys) ∧ ∀ l, H l = none → X.K.lookup l = none → Q (.ref l) (upd H l (.lst ys))) := fun pins s σ H xs us Q I r h => by
  obtain ⟨p, e0, ys, hy, k⟩ := h
  subst e0
  obtain ⟨u, e1, ru⟩ := vals1 r
  subst e1
  cases ru
  have laid (its : List Value) (rv : Vals ys its) (hz : ys.length ≤ sizeLine) (hh : Heap) (cap : Nat) (kp : ∀ b o, s.heap.get? b = some o → hh.get? b = some o)
      (e : hh.get? s.heap.objs.size = some { cls := .type "list", dict := none, data := .seq its.toArray cap, slots := #[] }) : EP X pins σ Q (.ref s.heap.objs.size) { s with heap := hh } := by
    have ok : ObjOk X.prog X.w (upd H s.heap.objs.size (.lst ys)) hh s.heap.objs.size (.lst ys) := ⟨hz, its, cap, rv, e⟩
    exact ⟨.ref s.heap.objs.size, _, I.laid (t' := s.toks) kp (Nat.le_refl _) ok, rfl, k _ (I.hok.fresh (Nat.le_refl _)) (new_K I)⟩
  cases hy with
  | inl hy =>
    obtain ⟨its, rv, pl, hz⟩ := I.list hy
    obtain ⟨o, ho, hc, n, hd⟩ := pl.isList
    have hl := rv.length
    exact call_list_seq p (.inl rfl) ho hc hd (laid its rv hz) (by simp only [List.size_toArray]; omega)
  | inr hy =>
    obtain ⟨its, rv, pl, hz⟩ := I.tuple hy
    obtain ⟨o, ho, hc, n, hd⟩ := pl
    have hl := rv.length
    exact call_list_seq p (.inr rfl) ho hc hd (laid its rv hz) (by simp only [List.size_toArray]; omega)
/-- xs[i] = v -/
def setI (xs : List V) (i : Int) (v : V) : Option (List V) := (ixN xs.length i).map fun j => xs.set j v
theorem setI_nat {xs ys : List V} {j : Nat} {v : V} (h : j < xs.length) (e : xs.set j v = ys) : setI xs (j : Int) v = some ys := by
  have e1 : ixN xs.length (j : Int) = some j := by
    unfold ixN
    rw [if_pos (by omega), if_pos (by omega)]
    simp
  unfold setI
  rw [e1, ← e]
  rfl
def rSetA : V → V → V → Hp → (Hp → Prop) → Prop := fun o i v H Q => ∃ p k, o = .ref p ∧ i = .int k ∧ ∃ xs, H p = some (.lst xs) ∧ ∃ ys, setI xs k v = some ys ∧ Q (upd H p (.lst ys))
section
variable {X : Cx}
theorem set_any : PSet X rSetA := by
  intro pins s σ H o i v uo ui uv Q I ro ri rv h
  obtain ⟨p, k, rfl, rfl, xs, hx, ys, hy, q⟩ := h
  unfold setI at hy
  cases e : ixN xs.length k with
  | none => rw [e] at hy; cases hy
  | some j =>
    rw [e] at hy
    cases hy
    exact set_list pins s σ H _ _ _ uo ui uv Q I ro ri rv ⟨p, xs, k, j, rfl, rfl, hx, e, q⟩
end
theorem atI_0 {α : Type} (x0 : α) (l : List α) : atI (x0 :: l) 0 = some x0 := atI_nat (j := 0) rfl
theorem setI_0 (x0 v : V) (l : List V) : setI (x0 :: l) 0 v = some (v :: l) := setI_nat (j := 0) (by simp) (by rfl)
theorem atI_1 {α : Type} (x0 x1 : α) (l : List α) : atI (x0 :: x1 :: l) 1 = some x1 := atI_nat (j := 1) rfl
theorem setI_1 (x0 x1 v : V) (l : List V) : setI (x0 :: x1 :: l) 1 v = some (x0 :: v :: l) := setI_nat (j := 1) (by simp) (by rfl)
theorem atI_2 {α : Type} (x0 x1 x2 : α) (l : List α) : atI (x0 :: x1 :: x2 :: l) 2 = some x2 := atI_nat (j := 2) rfl
theorem setI_2 (x0 x1 x2 v : V) (l : List V) : setI (x0 :: x1 :: x2 :: l) 2 v = some (x0 :: x1 :: v :: l) := setI_nat (j := 2) (by simp) (by rfl)
theorem atI_3 {α : Type} (x0 x1 x2 x3 : α) (l : List α) : atI (x0 :: x1 :: x2 :: x3 :: l) 3 = some x3 := atI_nat (j := 3) rfl
theorem setI_3 (x0 x1 x2 x3 v : V) (l : List V) : setI (x0 :: x1 :: x2 :: x3 :: l) 3 v = some (x0 :: x1 :: x2 :: v :: l) := setI_nat (j := 3) (by simp) (by rfl)
theorem atI_4 {α : Type} (x0 x1 x2 x3 x4 : α) (l : List α) : atI (x0 :: x1 :: x2 :: x3 :: x4 :: l) 4 = some x4 := atI_nat (j := 4) rfl
theorem setI_4 (x0 x1 x2 x3 x4 v : V) (l : List V) : setI (x0 :: x1 :: x2 :: x3 :: x4 :: l) 4 v = some (x0 :: x1 :: x2 :: x3 :: v :: l) := setI_nat (j := 4) (by simp) (by rfl)
theorem atI_5 {α : Type} (x0 x1 x2 x3 x4 x5 : α) (l : List α) : atI (x0 :: x1 :: x2 :: x3 :: x4 :: x5 :: l) 5 = some x5 := atI_nat (j := 5) rfl
theorem setI_5 (x0 x1 x2 x3 x4 x5 v : V) (l : List V) : setI (x0 :: x1 :: x2 :: x3 :: x4 :: x5 :: l) 5 v = some (x0 :: x1 :: x2 :: x3 :: x4 :: v :: l) := setI_nat (j := 5) (by simp) (by rfl)
theorem atI_6 {α : Type} (x0 x1 x2 x3 x4 x5 x6 : α) (l : List α) : atI (x0 :: x1 :: x2 :: x3 :: x4 :: x5 :: x6 :: l) 6 = some x6 := atI_nat (j := 6) rfl
theorem setI_6 (x0 x1 x2 x3 x4 x5 x6 v : V) (l : List V) : setI (x0 :: x1 :: x2 :: x3 :: x4 :: x5 :: x6 :: l) 6 v = some (x0 :: x1 :: x2 :: x3 :: x4 :: x5 :: v :: l) := setI_nat (j := 6) (by simp) (by rfl)
end My

namespace My
open PySem PySem.Spec PyProof.Rows L2
section
variable {X : Cx}
/-- any(xs), a list of ints -/
def rAnyI (K : PySem.W.Frag) : List V → Hp → VK → Prop := fun vs H Q => ∃ (a : Addr) (ns : List Int), vs = [V.ref a] ∧ SqL K H a (ns.map V.int) ∧ Q (.bl (ns.any fun n => decide (n ≠ 0))) H
theorem vals_int_at : ∀ {ns : List Int} {us : List Value} {i : Nat} {v : Value}, Vals (ns.map V.int) us → us[i]? = some v → ∃ (n : Int) (t : Tok), ns[i]? = some n ∧ v = .int n t
  | [], us, i, v, h, e => by
    cases h
    cases e
  | n :: ns, us, i, v, h, e => by
    cases h with
    | cons a b =>
      cases i with
      | zero =>
        cases e
        obtain ⟨t, et⟩ := a
        exact ⟨n, t, rfl, et⟩
      | succ i => exact vals_int_at (ns := ns) (i := i) b e
theorem any_rangeI : ∀ ns : List Int, (List.range ns.length).any (fun i => decide (ns.getD i 0 ≠ 0)) = ns.any fun n => decide (n ≠ 0)
  | [] => rfl
  | n :: ns => by
    rw [List.length_cons, List.range_succ_eq_map, List.any_cons, List.any_map, List.any_cons, ← any_rangeI ns]
    all_goals rfl
theorem cr_anyI (hc : X.calm = true) : CallR X (.builtin "any") (rAnyI X.K) := by
  intro pins s σ H vs us Q I r h
  obtain ⟨a, ns, rfl, hs, q⟩ := h
  obtain ⟨its, rv, hl, _⟩ := I.list hs
  rw [Vals.ref1 r]
  have hlen := rv.length
  rw [List.length_map] at hlen
  refine call_any_walk (iter_any hl.isList fun s₂ e2 st hne => ?_)
  subst e2
  refine ⟨_, _, _, _, _, _, _, rfl, Walks.list (A := X.A.in1) (I.ok.hd hc) _ a hne its.toArray, st, (fun i v s Q E hv hq => ?_ : TruthOf X.prog X.w X.A.in1 (fun i v => its.toArray[i]? = some v) (fun i => decide (ns.getD i 0 ≠ 0))), fun h' tk hk => ?_⟩
  · have hv' : its[i]? = some v := by simpa using hv
    obtain ⟨n, t, hn, rfl⟩ := vals_int_at rv hv'
    have hg : ns.getD i 0 = n := by rw [List.getD_eq_getElem?_getD, hn] <;> rfl
    have hq' : Q (decide (ns.getD i 0 ≠ 0)) s := hq
    rw [hg, show decide (n ≠ 0) = (n != 0) from by by_cases h : n = 0 <;> simp [h]] at hq'
    exact PySem.P.truthy_int hq'
  · refine ⟨.bl _, H, I.kept fun b o eo => hk b o (fun hmem => ?_) (Heap.get?_push_of_some _ eo), ?_, q⟩
    · rcases List.mem_cons.mp hmem with e1 | hmem
      · exact absurd (e1 ▸ Heap.lt_size eo) (Nat.lt_irrefl _)
      · cases hmem
    · show Value.bool _ = Value.bool _
      rw [← any_rangeI, List.size_toArray, ← hlen]
/-- list(o.values()) -/
def tListVals (K : PySem.W.Frag) (td : TE) : TE := fun σ H Q => td σ H fun x H1 => ∃ a kvs, x = V.ref a ∧ H1 a = some (.dK kvs) ∧ ∀ p, H1 p = none → K.lookup p = none → Q (.ref p) (upd H1 p (.lst (kvs.map (·.2))))
variable {o : Expr} {p pos apos mpos : Pos} {td : TE}
theorem pe_listVals (hc : X.calm = true) (hg : Gl X "list") (hm : X.mg "list" = none) (hd : PE X o td) (hbase : attributeBase o "values" X.env (eval o X.env) = eval o X.env := by rfl) (hline : (apos.endLine == mpos.line) = true := by rfl)
    (hse : starEach [Expr.Call (.Attribute o "values" apos) [] [] mpos] X.env = [(false, eval (Expr.Call (.Attribute o "values" apos) [] [] mpos) X.env)] := by rfl) :
    PE X (.Call (.Name "list" p) [.Call (.Attribute o "values" apos) [] [] mpos] [] pos) (tListVals X.K td) := by
  refine ⟨fun pins s σ H Q I h => ?_⟩
  refine wpAny_Call_Name_kw (ld_blt I hg hm (u := .type "list") (by first | rfl | decide +kernel) ?_ (by first | decide +kernel | decide) (by first | decide +kernel | decide))
  rw [hse]
  refine PySem.callWith_type1 (wpAny_Call_method0_late hbase hline (thn (hd.run pins s σ H _ I h) fun v s1 ⟨x, H1, I1, r1, a, kvs, ex, ha, q⟩ => ?_))
  subst ex
  obtain rfl : v = Value.ref a := r1
  obtain ⟨_, hsys, vs, rel, dof⟩ := dk_of I1.hok ha
  obtain ⟨z, _, _, _, _⟩ := (show ObjOk X.prog X.w H1 s1.heap a (.dK kvs) from I1.hok a _ ha)
  obtain ⟨ep, dat⟩ := dof.dictAt
  have dat' := dat
  obtain ⟨ob, es, ho, ex, hdat, hko, hpr, hnd⟩ := dat'
  refine ⟨"dict", "dict.values", F.plainAttrs_dict, F.slot_dict_values, F.type_dict_values, ⟨ob, ho, ex.1⟩, fun b e => ?_, Calls.callWith_builtin rfl (PySem.evalArgs_none ?_)⟩
  · cases e
    exact ⟨ob, ho, ex.2.1⟩
  refine call_meetsIn F.slot_dict_values ⟨ob, ho, ex.1⟩ F.entry_dict_values (F.args_dict_values_1 _) (meets_dict_values (mixKind X.prog X.w) a hsys) ⟨⟨vs, dof⟩, ?_⟩
  have k1 : ∀ b u, s1.heap.get? b = some u → (s1.heap.push { cls := .type "dict_values", data := .fields #[.ref a] }).get? b = some u := fun b u e => Heap.get?_push_of_some _ e
  have dat1 : (s1.heap.push { cls := .type "dict_values", data := .fields #[.ref a] }).DictAt (mixKind X.prog X.w) a vs ep := dat.keep k1
  have hl : kvs.length = vs.length := Paired.length rel
  have I2 : Inv X pins σ H1 { s1 with heap := s1.heap.push { cls := .type "dict_values", data := .fields #[.ref a] } } := I1.kept (t' := s1.toks) fun b u e => Heap.get?_push_of_some _ e
  refine PySem.W.kdl_call (PySem.W.kdl_values (knd := mixKind X.prog X.w) (kvs := vs) (ep := ep) (r := s1.heap.objs.size) (d := a)) (I.ok.hd hc) ⟨⟨_, Heap.get?_push_size _ rfl, rfl, rfl⟩, dat1⟩ (by rw [← hl]; exact z) fun h' tk acc' c' hkeep hS hacc => ?_
  have hsz : (s1.heap.push { cls := .type "dict_values", data := .fields #[.ref a] }).objs.size = s1.heap.objs.size + 1 := Heap.size_push _ _
  have fr := I2.hok.fresh (a := (s1.heap.push { cls := .type "dict_values", data := .fields #[.ref a] }).objs.size) (Nat.le_refl _)
  refine ⟨.ref (s1.heap.push { cls := .type "dict_values", data := .fields #[.ref a] }).objs.size, upd H1 (s1.heap.push { cls := .type "dict_values", data := .fields #[.ref a] }).objs.size (.lst (kvs.map (·.2))), I2.laid hkeep (Nat.le_refl _) (show ObjOk X.prog X.w _ _ _ (.lst (kvs.map (·.2))) from ⟨by rw [List.length_map]; exact z, acc'.toList, c', ?_, ?_⟩), rfl, q _ fr (new_K I2)⟩
  · have el : acc'.toList.length = acc'.size := by simp
    refine vals_of_at (by rw [List.length_map, el, hacc.1, hl]) fun j x w h1 h2 => ?_
    obtain ⟨k, hky⟩ := hacc.2 j w (by rw [← Array.getElem?_toList]; exact h2)
    obtain ⟨y, e1, e2⟩ := KV.at' rel hky
    rw [List.getElem?_map, e1] at h1
    cases h1
    exact e2
  · exact hS
end
section
variable {X : Cx}
/-- what is tracked is none of the written part's -/
def tFr (K : PySem.W.Frag) (t : TE) : TE := fun σ H Q => t σ H fun v H' => (∀ a, H' a ≠ none → K.lookup a = none) → Q v H'
theorem pe_fr {e : Expr} {t : TE} (h : PE X e t) : PE X e (tFr X.K t) := ⟨fun pins s σ H Q I hw => thn (h.run pins s σ H _ I hw) fun u s1 ⟨v, H1, I1, r, q⟩ => ⟨v, H1, I1, r, q fun a ha => by
  cases z : X.K.lookup a with
  | none => rfl
  | some o => exact absurd (I1.bs a o (I1.ok.mod.kin a o z)).2 ha⟩⟩
end
/-- name = [..] on one line; what is tracked is none of the written part's -/
theorem ps_setLcF {X : Cx} {i : Nat} {y : Str} {py : Pos} {elt tg iter : Expr} {ifs : List Expr} {scope : Scope} {own : List (Str × Nat)} {pos spos : Pos} {wi : TI} {g : TG} {tt : TT} {te : TE} (hc : X.calm = true) (hN : X.N.Nodup) (hy : X.N[i]? = some y) (hyl : X.env.scope.names.lookup y = some .local)
    (hsw : swapsWith (.ListComp elt [⟨tg, iter, ifs, 0⟩] scope pos) (some (.Name y py)) spos.line X.env = pure true) (hi : PI X tg iter wi) (ok : BlkOk X.N X.env.scope scope own)
    (hg : ∀ (s : Shared) (H : Hp) (C : Addr) (cl : List (Str × Addr)) (fp : List Addr), PG (X.blk s H scope (compEnvC scope cl C X.env) fp) tg g) (ht : ∀ (s : Shared) (H : Hp) (C : Addr) (cl : List (Str × Addr)) (fp : List Addr), PTs (X.blk s H scope (compEnvC scope cl C X.env) fp) ifs tt)
    (he : ∀ (s : Shared) (H : Hp) (C : Addr) (cl : List (Str × Addr)) (fp : List Addr), PE (X.blk s H scope (compEnvC scope cl C X.env) fp) elt te) (hs : ∀ x, foldedSetIterable iter X.env x = pure x := by intro _; rfl) :
    PS X (.Assign [.Name y py] (.ListComp elt [⟨tg, iter, ifs, 0⟩] scope pos) spos) (tAsg (tFr X.K (tLc wi g tt te (own.map (·.2)))) (gName i)) := by
  refine ⟨fun pins s σ H D I h => ?_⟩
  rw [exec_Assign_Name_used _ _ _ _ hsw]
  refine wpAny_bind (wpAny_standAt (wpAny_bind ?_))
  show wpAny _ X.A (do let _ ← comprehension (.ListComp elt [⟨tg, iter, ifs, 0⟩] scope pos) scope X.env (firstIterPos [⟨tg, iter, ifs, 0⟩] pos) (newList []) false (eval iter X.env) (some (assign (.Name y py) X.env))) _ _ s
  have h : tLc wi g tt te (own.map (·.2)) σ H (fun x H1 => (∀ a, H1 a ≠ none → X.K.lookup a = none) → gName i x σ H1 D.nx) := h
  refine wpAny_bind (thn (lc_core (Qf := fun _ s' => SP X pins D .next s') hc hN I hi ok hg ht he hs h fun L C s' m H' I' q hn f => ?_) fun _ s' hq => wpAny_pure (wpAny_pure hq))
  have fr : ∀ a, H' a ≠ none → X.K.lookup a = none := fun a ha => by
    cases z : X.K.lookup a with
    | none => rfl
    | some o => exact absurd (I'.bs a o (I'.ok.mod.kin a o z)).2 ha
  show wpAny _ _ (assign (.Name y py) X.env (.ref L)) _ _ _
  refine wpAny_assign_Name (store_ok2 (v := V.ref L) I' hN hy (.inl hyl) rfl (fun s2 I2 ⟨a, sb, ha⟩ => ?_) (.inr hyl))
  obtain ⟨f0, f1, f2, f3, f4, f5⟩ := f
  have haC : C ≠ a := by
    rcases ha with z | z
    · rw [z]; exact f1
    · exact fun e => f4 y a z e.symm
  refine ⟨m, hn.sameBut sb haC, fun h3 sb3 => ?_⟩
  exact ⟨_, H', I2.turned (t' := s2.toks) (fun b o hb e => (sb3.2 b hb).trans e) f0 f1 f3 f4 f5, q fr⟩
theorem cut_to (xs : List V) (j : Nat) (hj : j ≤ xs.length) : cutV xs none (some (j : Int)) = xs.take j := by
  have e := HT.sIx_nat xs.length xs.length j
  unfold cutV
  rw [e, HT.sIx_none, List.drop_zero, Nat.sub_zero, Nat.min_eq_left hj]
theorem cut_from (xs : List V) (j : Nat) (hj : j ≤ xs.length) : cutV xs (some (j : Int)) none = xs.drop j := by
  have e := HT.sIx_nat xs.length 0 j
  unfold cutV
  rw [e, HT.sIx_none, Nat.min_eq_left hj, List.take_of_length_le (by rw [List.length_drop]; omega)]
end My

namespace My
open PySem PySem.Spec PyProof.Rows L2
/-- a comprehension over zip of two lists, the second one not the longer -/
theorem lc_zip {K : PySem.W.Frag} {a b : Addr} {xs ys : List V} {g : TG} {tt : TT} {te : TE} {vs : List Nat} {σ : L2.St} {H1 : Hp} {D : Addr} {Qd : Hp → Prop} (hle : ys.length ≤ xs.length) (Pv : Nat → Hp → Prop) (h0 : Pv 0 (upd H1 D (.lst []))) (hl : ∀ i H, i ≤ ys.length → Pv i H → SqL K H a xs ∧ SqL K H b ys)
    (hs : ∀ (i : Nat) (x y : V) (T : Addr) (H : Hp), xs[i]? = some x → ys[i]? = some y → Pv i H → H T = none → g (.ref T) (wipe σ vs) (upd H T (.tup [x, y])) fun σ2 H2 => wipe σ2 vs = wipe σ vs ∧ tt σ2 H2 fun b H3 =>
      if b = true then te σ2 H3 fun y H4 => ∃ acc, H4 D = some (.lst acc) ∧ acc.length < sizeLine ∧ Pv (i + 1) (upd H4 D (.lst (acc ++ [y]))) else Pv (i + 1) H3) (hd : ∀ H, Pv ys.length H → Qd H) :
    ∃ W : Nat → Nat → Hp → Prop, (∃ m, W 0 m (upd H1 D (.lst []))) ∧ ∀ i m H, W i m H →
      ((Itz K a b).stop i H ∧ Qd H) ∨ ((Itz K a b).go i H ∧ ∃ Nx : Hp → Prop, (∀ H', Nx H' → ∃ m', m' < m ∧ W (i + 1) m' H') ∧ ∀ x H', (Itz K a b).yld i H x H' → g x (wipe σ vs) H' fun σ2 H2 => wipe σ2 vs = wipe σ vs ∧ tt σ2 H2 fun b H3 =>
        if b = true then te σ2 H3 fun y H4 => ∃ acc, H4 D = some (.lst acc) ∧ acc.length < sizeLine ∧ Nx (upd H4 D (.lst (acc ++ [y]))) else Nx H3) := by
  refine ⟨fun i m H => m = ys.length - i ∧ i ≤ ys.length ∧ Pv i H, ⟨ys.length, by simp, Nat.zero_le _, h0⟩, ?_⟩
  rintro i m H ⟨rfl, hi, p⟩
  obtain ⟨qx, qy⟩ := hl i H hi p
  by_cases hlt : i < ys.length
  · have hx : xs[i]? = some xs[i] := List.getElem?_eq_getElem (by omega)
    have hy : ys[i]? = some ys[i] := List.getElem?_eq_getElem hlt
    refine .inr ⟨⟨xs, ys, _, _, qx, qy, hx, hy⟩, Pv (i + 1), fun H' p' => ⟨ys.length - (i + 1), by omega, rfl, hlt, p'⟩, fun v H' y => ?_⟩
    obtain ⟨T, x', y', rfl, hT, rfl, f1, f2⟩ := y
    exact hs i x' y' T H (f1 xs qx) (f2 ys qy) p hT
  · have e : i = ys.length := by omega
    subst e
    exact .inl ⟨⟨xs, ys, qx, qy, Or.inr (Nat.le_refl _)⟩, hd H p⟩
end My

namespace MyZ
open PySem PySem.Calls PyProof.Rows RZ
section
variable {prog : Program} {w : World} {A : Around} {E : Value → Shared → Prop} {s : Shared}
theorem zip_no_len : typeLookup (.type "zip") "__len__" = pure none := am_miss_of_fast (by decide +kernel)
theorem zip_no_hint : typeLookup (.type "zip") "__length_hint__" = pure none := am_miss_of_fast (by decide +kernel)
/-- the next pair of two tuples, while the pair before is held -/
theorem next_item {z TI TO T i1 i2 l1 l2 : Addr} {f : Bool} {oT : Obj} {k1 k2 : Nat} {xs ys : Array Value} {x y : Value} {Q : Option Value → Shared → Prop} (D : ZipApart z TI TO i1 i2 l1 l2)
    (hz : IsZipHeld s.heap z TI TO T f) (hT : s.heap.get? T = some oT) (hTI : IsPair s.heap TI (.ref i1) (.ref i2))
    (h1 : s.heap.IsTupleIter i1 l1 k1) (h2 : s.heap.IsTupleIter i2 l2 k2) (hl1 : s.heap.IsTuple l1 xs) (hl2 : s.heap.IsTuple l2 ys) (hx : xs[k1]? = some x) (hy : ys[k2]? = some y)
    (hQ : ∀ h', IsZipHeld h' z TI TO T true → h'.IsTupleIter i1 l1 (k1 + 1) → h'.IsTupleIter i2 l2 (k2 + 1) → IsPair h' s.heap.objs.size x y → h'.objs.size = s.heap.objs.size + 1 →
      (∀ c o, c ≠ z → c ≠ i1 → c ≠ i2 → s.heap.get? c = some o → h'.get? c = some o) → Q (some (.ref s.heap.objs.size)) { s with heap := h' }) :
    wpAny (model prog w) A (pyNext (.ref z)) Q E s := by
  have hTy : s.TypeIs (.ref z) "zip" := ⟨_, hz, rfl⟩
  unfold pyNext
  refine wpAny_bind (wpAny_attempt (wpAny_callSpecial?_slot (name := Str.ofString "__next__") hTy F.slot_zip_next
    (wpAny_call_entry F.slot_zip_next hTy F.entry_zip_next ?_ (F.args_zip_next_1 _))))
  show wpAny _ _ (field (.ref z) 2 >>= _) _ _ _
  refine wpAny_bind (wpAny_field hz rfl (x := .bool false) rfl ?_)
  show wpAny _ _ (field (.ref z) 3 >>= _) _ _ _
  refine wpAny_bind (wpAny_field hz rfl (x := .ref TI) rfl ?_)
  refine wpAny_bind (wpAny_seqItems hTI rfl ?_)
  show wpAny _ _ (Builtin.SmallTypes.ownedTupleIsFree (.ref z) >>= _) _ _ _
  refine wpAny_bind (wpAny_tupleHeld_zip hz hT fun g1 z1 b1 => ?_)
  simp only [Bool.false_eq_true, if_false]
  refine wpAny_bind ?_
  rw [← Array.forIn_toList]
  simp only [List.forIn_cons, List.forIn_nil]
  refine wpAny_bind (wpAny_bind (wpAny_holding ?_))
  show wpAny _ _ (Builtin.SmallTypes.nextOf (.ref i1) >>= _) _ _ _
  refine wpAny_bind (nextOf_tuple_item (s := { s with heap := g1 }) (h1.extBut b1.extBut D.i1z) (hl1.extBut b1.extBut D.l1z) hx fun g2 n1 b2 => wpAny_pure ?_)
  refine wpAny_pure ?_
  refine wpAny_bind (wpAny_bind (wpAny_holding ?_))
  show wpAny _ _ (Builtin.SmallTypes.nextOf (.ref i2) >>= _) _ _ _
  refine wpAny_bind (nextOf_tuple_item (s := { s with heap := g2 }) ((h2.extBut b1.extBut D.i2z).extBut b2.extBut D.i12.symm) ((hl2.extBut b1.extBut D.l2z).extBut b2.extBut D.l2i1) hy fun g3 n2 b3 => wpAny_pure ?_)
  refine wpAny_pure (wpAny_pure ?_)
  show wpAny _ _ (newTuple [x, y] >>= _) _ _ _
  refine wpAny_bind (wpAny_newTuple ?_)
  have hsz : g3.objs.size = s.heap.objs.size := by rw [b3.1, b2.1, b1.1]
  have z3 : IsZipHeld g3 z TI TO T true := b3.extBut _ _ D.i2z.symm (b2.extBut _ _ D.i1z.symm z1)
  have hk : ∀ c o, c ≠ z → c ≠ i1 → c ≠ i2 → s.heap.get? c = some o → g3.get? c = some o := fun c o c1 c2 c3 e => b3.extBut _ _ c3 (b2.extBut _ _ c2 (b1.extBut _ _ c1 e))
  have m1 : g3.IsTupleIter i1 l1 (k1 + 1) := n1.extBut b3.extBut D.i12
  refine wpAny_pure ⟨_, rfl, wpAny_pure ?_⟩
  show Q (some (.ref g3.objs.size)) _
  have hp : IsPair (g3.push { cls := .type "tuple", data := .seq #[x, y] }) g3.objs.size x y := Heap.get?_push_size _ rfl
  have z4 : (g3.push { cls := .type "tuple", data := .seq #[x, y] }).objs.size = g3.objs.size + 1 := Heap.size_push ..
  rw [hsz] at hp z4 ⊢
  exact hQ _ (Heap.get?_push_of_some _ z3) (m1.at fun o e => Heap.get?_push_of_some _ e) (n2.at fun o e => Heap.get?_push_of_some _ e) hp z4 fun c o c1 c2 c3 e => Heap.get?_push_of_some _ (hk c o c1 c2 c3 e)
theorem next_end {z TI TO T i1 i2 l1 l2 : Addr} {f : Bool} {oT : Obj} {k1 k2 : Nat} {xs ys : Array Value} {Q : Option Value → Shared → Prop} (hh : A.handled = none) (D : ZipApart z TI TO i1 i2 l1 l2)
    (hz : IsZipHeld s.heap z TI TO T f) (hT : s.heap.get? T = some oT) (hTI : IsPair s.heap TI (.ref i1) (.ref i2))
    (h1 : s.heap.IsTupleIter i1 l1 k1) (hl1 : s.heap.IsTuple l1 xs) (hend : xs[k1]? = none)
    (hQ : ∀ h', (∀ c o, c ≠ z → c ≠ i1 → c ≠ i2 → s.heap.get? c = some o → h'.get? c = some o) → Q none { s with heap := h' }) :
    wpAny (model prog w) A (pyNext (.ref z)) Q E s := by
  have hTy : s.TypeIs (.ref z) "zip" := ⟨_, hz, rfl⟩
  unfold pyNext
  refine wpAny_bind (wpAny_attempt (wpAny_callSpecial?_slot (name := Str.ofString "__next__") hTy F.slot_zip_next
    (wpAny_call_entry F.slot_zip_next hTy F.entry_zip_next ?_ (F.args_zip_next_1 _))))
  show wpAny _ _ (field (.ref z) 2 >>= _) _ _ _
  refine wpAny_bind (wpAny_field hz rfl (x := .bool false) rfl ?_)
  show wpAny _ _ (field (.ref z) 3 >>= _) _ _ _
  refine wpAny_bind (wpAny_field hz rfl (x := .ref TI) rfl ?_)
  refine wpAny_bind (wpAny_seqItems hTI rfl ?_)
  show wpAny _ _ (Builtin.SmallTypes.ownedTupleIsFree (.ref z) >>= _) _ _ _
  refine wpAny_bind (wpAny_tupleHeld_zip hz hT fun g1 z1 b1 => ?_)
  simp only [Bool.false_eq_true, if_false]
  refine wpAny_bind ?_
  rw [← Array.forIn_toList]
  simp only [List.forIn_cons, List.forIn_nil]
  refine wpAny_bind (wpAny_bind (wpAny_holding ?_))
  show wpAny _ _ (Builtin.SmallTypes.nextOf (.ref i1) >>= _) _ _ _
  refine wpAny_bind (nextOf_tuple_end (s := { s with heap := g1 }) hh (h1.extBut b1.extBut D.i1z) (hl1.extBut b1.extBut D.l1z) hend fun g2 e b2 he => ?_)
  obtain ⟨o, ho, hc⟩ := he
  refine wpAny_bind (wpAny_isInstance (T := "StopIteration") (b := true) ⟨o, ho, hc⟩ isSubtype_stop ?_)
  exact wpAny_pure (hQ _ fun c o c1 c2 _ x => b2 _ _ c2 (b1.extBut _ _ c1 x))
end
end MyZ

namespace MyZ
open PySem PySem.Calls PyProof.Rows RZ
/-- the pairs that have been given out -/
structure PS (n0 : Nat) (xs ys : Array Value) (i : Nat) (acc : List Addr) (h : Heap) : Prop where
  len : acc.length = i
  asc : acc.Pairwise (· < ·)
  lo : ∀ T ∈ acc, n0 ≤ T
  lt : ∀ T ∈ acc, T < h.objs.size
  prs : ∀ (j : Nat) T u v, acc[j]? = some T → xs[j]? = some u → ys[j]? = some v → IsPair h T u v
theorem PS.keep {n0 : Nat} {xs ys : Array Value} {i : Nat} {acc : List Addr} {h h' : Heap} (p : PS n0 xs ys i acc h) (hs : h.objs.size ≤ h'.objs.size) (k : ∀ b o, n0 ≤ b → h.get? b = some o → h'.get? b = some o) : PS n0 xs ys i acc h' :=
  ⟨p.len, p.asc, p.lo, fun T hT => Nat.lt_of_lt_of_le (p.lt T hT) hs, fun j T u v a b c => k T _ (p.lo T (List.mem_of_getElem? a)) (p.prs j T u v a b c)⟩
theorem PS.snoc {n0 : Nat} {xs ys : Array Value} {i T : Nat} {u v : Value} {acc : List Addr} {h : Heap} (p : PS n0 xs ys i acc h) (hT : ∀ x ∈ acc, x < T) (h0 : n0 ≤ T) (h1 : T < h.objs.size) (hx : xs[i]? = some u) (hy : ys[i]? = some v) (hp : IsPair h T u v) : PS n0 xs ys (i + 1) (acc ++ [T]) h := by
  refine ⟨by rw [List.length_append, p.len]; rfl, ?_, ?_, ?_, ?_⟩
  · rw [List.pairwise_append]
    refine ⟨p.asc, List.pairwise_singleton _ _, fun a ha b hb => ?_⟩
    rw [List.mem_singleton] at hb
    subst hb
    exact hT a ha
  · intro x hx
    rcases List.mem_append.mp hx with hx | hx
    · exact p.lo x hx
    · rw [List.mem_singleton] at hx
      subst hx
      exact h0
  · intro x hx
    rcases List.mem_append.mp hx with hx | hx
    · exact p.lt x hx
    · rw [List.mem_singleton] at hx
      subst hx
      exact h1
  · intro j T' a b e1 e2 e3
    rcases Nat.lt_or_ge j acc.length with z | z
    · rw [List.getElem?_append_left z] at e1
      exact p.prs j T' a b e1 e2 e3
    · rw [List.getElem?_append_right z] at e1
      have l := (List.getElem?_eq_some_iff.mp e1).1
      rw [List.length_singleton] at l
      have ej : j = i := by
        rw [p.len] at l z
        omega
      rw [ej, p.len, Nat.sub_self] at e1
      cases e1
      rw [ej, hx] at e2
      rw [ej, hy] at e3
      cases e2
      cases e3
      exact hp
/-- the zip of two tuples, i pairs given out -/
structure ZS (n0 : Nat) (z TI TO i1 i2 l1 l2 : Addr) (xs ys : Array Value) (i : Nat) (acc : List Addr) (h : Heap) : Prop where
  ti : IsPair h TI (.ref i1) (.ref i2)
  a1 : h.IsTupleIter i1 l1 i
  a2 : h.IsTupleIter i2 l2 i
  b1 : h.IsTuple l1 xs
  b2 : h.IsTuple l2 ys
  zz : (IsZip h z TI TO .none ∧ ∃ a b, IsPair h TO a b) ∨ ∃ T f oT, IsZipHeld h z TI TO T f ∧ h.get? T = some oT ∧ n0 ≤ T
  ps : PS n0 xs ys i acc h
structure Low (n0 : Nat) (z TI TO i1 i2 l1 l2 S : Addr) : Prop where
  lz : z < n0
  lTI : TI < n0
  lTO : TO < n0
  li1 : i1 < n0
  li2 : i2 < n0
  ll1 : l1 < n0
  ll2 : l2 < n0
  lS : S < n0
  Sz : S ≠ z
  STI : S ≠ TI
  STO : S ≠ TO
  Si1 : S ≠ i1
  Si2 : S ≠ i2
  Sl1 : S ≠ l1
  Sl2 : S ≠ l2
section
variable {prog : Program} {w : World} {A : Around} {R : Result → Shared → Prop} {n0 : Nat} {z TI TO i1 i2 l1 l2 S : Addr} {xs ys : Array Value} {n : Nat}
theorem zs_step {i : Nat} {acc : List Addr} {s : Shared} {x y : Value} {Q : Option Value → Shared → Prop} {E : Value → Shared → Prop} (D : ZipApart z TI TO i1 i2 l1 l2) (L : Low n0 z TI TO i1 i2 l1 l2 S) (st : ZS n0 z TI TO i1 i2 l1 l2 xs ys i acc s.heap) (h0 : n0 ≤ s.heap.objs.size) (hx : xs[i]? = some x) (hy : ys[i]? = some y)
    (hQ : ∀ h', ZS n0 z TI TO i1 i2 l1 l2 xs ys (i + 1) (acc ++ [s.heap.objs.size]) h' → h'.objs.size = s.heap.objs.size + 1 → (∀ c o, c ≠ z → c ≠ TO → c ≠ i1 → c ≠ i2 → s.heap.get? c = some o → h'.get? c = some o) → Q (some (.ref s.heap.objs.size)) { s with heap := h' }) :
    wpAny (model prog w) A (pyNext (.ref z)) Q E s := by
  have nz : ∀ b, n0 ≤ b → b ≠ z ∧ b ≠ TO ∧ b ≠ i1 ∧ b ≠ i2 := fun b hb => ⟨Nat.ne_of_gt (Nat.lt_of_lt_of_le L.lz hb), Nat.ne_of_gt (Nat.lt_of_lt_of_le L.lTO hb), Nat.ne_of_gt (Nat.lt_of_lt_of_le L.li1 hb), Nat.ne_of_gt (Nat.lt_of_lt_of_le L.li2 hb)⟩
  have fin : ∀ h', (IsZip h' z TI TO .none ∧ ∃ a b, IsPair h' TO a b) ∨ (∃ T f oT, IsZipHeld h' z TI TO T f ∧ h'.get? T = some oT ∧ n0 ≤ T) → h'.IsTupleIter i1 l1 (i + 1) → h'.IsTupleIter i2 l2 (i + 1) → IsPair h' s.heap.objs.size x y → h'.objs.size = s.heap.objs.size + 1 →
      (∀ c o, c ≠ z → c ≠ TO → c ≠ i1 → c ≠ i2 → s.heap.get? c = some o → h'.get? c = some o) → Q (some (.ref s.heap.objs.size)) { s with heap := h' } := fun h' c1 c2 c3 c4 c5 c6 => by
    refine hQ h' ⟨c6 _ _ D.TIz D.TITO D.TIi1 D.TIi2 st.ti, c2, c3, st.b1.at fun o e => c6 _ _ D.l1z D.l1TO D.l1i1 D.l1i2 e, st.b2.at fun o e => c6 _ _ D.l2z D.l2TO D.l2i1 D.l2i2 e, c1, ?_⟩ c5 c6
    refine (st.ps.keep (by omega) fun b o hb e => ?_).snoc st.ps.lt h0 (by omega) hx hy c4
    obtain ⟨d1, d2, d3, d4⟩ := nz b hb
    exact c6 b o d1 d2 d3 d4 e
  rcases st.zz with ⟨hz, a, b, hTO⟩ | ⟨T, f, oT, hz, hT, nT⟩
  · refine pyNext_zipT_item D hz st.ti hTO st.a1 st.a2 st.b1 st.b2 hx hy fun h' c1 c2 c3 c4 c5 c6 c7 => ?_
    exact fin h' (.inr ⟨s.heap.objs.size, false, _, c1, c5, h0⟩) c3 c4 c5 c6 c7
  · refine next_item D hz hT st.ti st.a1 st.a2 st.b1 st.b2 hx hy fun h' c1 c2 c3 c4 c5 c6 => ?_
    obtain ⟨d1, d2, d3, d4⟩ := nz T nT
    exact fin h' (.inr ⟨T, true, oT, c1, c6 T oT d1 d3 d4 hT, nT⟩) c2 c3 c4 c5 fun c o e1 _ e3 e4 e => c6 c o e1 e3 e4 e
theorem zs_end {acc : List Addr} {s : Shared} {Q : Option Value → Shared → Prop} {E : Value → Shared → Prop} (hh : A.handled = none) (D : ZipApart z TI TO i1 i2 l1 l2) (L : Low n0 z TI TO i1 i2 l1 l2 S) (st : ZS n0 z TI TO i1 i2 l1 l2 xs ys n acc s.heap) (hx : xs.size = n)
    (hQ : ∀ h', (∀ c o, c ≠ z → c ≠ TO → c ≠ i1 → c ≠ i2 → s.heap.get? c = some o → h'.get? c = some o) → Q none { s with heap := h' }) :
    wpAny (model prog w) A (pyNext (.ref z)) Q E s := by
  have he : xs[n]? = none := by rw [Array.getElem?_eq_none (by omega)]
  rcases st.zz with ⟨hz, a, b, hTO⟩ | ⟨T, f, oT, hz, hT, nT⟩
  · exact pyNext_zipT_end hh D hz st.ti hTO st.a1 st.a2 st.b1 st.b2 (.inl he) hQ
  · exact next_end (k2 := n) (ys := ys) hh D hz hT st.ti st.a1 st.b1 he fun h' c => hQ h' fun c' o e1 _ e3 e4 e => c c' o e1 e3 e4 e
end
end MyZ

namespace MyZ
open PySem PySem.Calls PyProof.Rows RZ
/-- a plain list's object -/
abbrev lsO (acc : List Addr) (c : Nat) : Obj := { cls := .type "list", dict := none, data := .seq (acc.map Value.ref).toArray c, slots := #[] }
def FK (z TO i1 i2 S : Addr) (h h' : Heap) : Prop := ∀ b o, b ≠ S → b ≠ z → b ≠ TO → b ≠ i1 → b ≠ i2 → h.get? b = some o → h'.get? b = some o
section
variable {prog : Program} {w : World} {A : Around} {R : Result → Shared → Prop} {n0 : Nat} {z TI TO i1 i2 l1 l2 S : Addr} {xs ys : Array Value} {n : Nat}
theorem ZS.keep {i : Nat} {acc : List Addr} {h h' : Heap} (L : Low n0 z TI TO i1 i2 l1 l2 S) (st : ZS n0 z TI TO i1 i2 l1 l2 xs ys i acc h) (hs : h.objs.size ≤ h'.objs.size) (k : ∀ b o, b ≠ S → h.get? b = some o → h'.get? b = some o) : ZS n0 z TI TO i1 i2 l1 l2 xs ys i acc h' := by
  have hi : ∀ b, n0 ≤ b → b ≠ S := fun b hb => Nat.ne_of_gt (Nat.lt_of_lt_of_le L.lS hb)
  refine ⟨k _ _ L.STI.symm st.ti, st.a1.at fun o e => k _ _ L.Si1.symm e, st.a2.at fun o e => k _ _ L.Si2.symm e, st.b1.at fun o e => k _ _ L.Sl1.symm e, st.b2.at fun o e => k _ _ L.Sl2.symm e, ?_, st.ps.keep hs fun b o hb e => k b o (hi b hb) e⟩
  rcases st.zz with ⟨hz, a, b, hTO⟩ | ⟨T, f, oT, hz, hT, nT⟩
  · exact .inl ⟨k _ _ L.Sz.symm hz, a, b, k _ _ L.STO.symm hTO⟩
  · exact .inr ⟨T, f, oT, k _ _ L.Sz.symm hz, k _ _ (hi T nT) hT, nT⟩
theorem zs_loop (hh : A.in1.handled = none) (D : ZipApart z TI TO i1 i2 l1 l2) (L : Low n0 z TI TO i1 i2 l1 l2 S) (hxs : xs.size = n) (hys : ys.size = n) (hn : n ≤ sizeLine) (res : Value) :
    ∀ (k i : Nat) (s : Shared) (acc : List Addr) (c : Nat), n - i = k → i ≤ n → ZS n0 z TI TO i1 i2 l1 l2 xs ys i acc s.heap → n0 ≤ s.heap.objs.size → s.heap.get? S = some (lsO acc c) →
    (∀ h' acc' c', FK z TO i1 i2 S s.heap h' → PS n0 xs ys n acc' h' → h'.get? S = some (lsO acc' c') → R (.ok (.ret res)) { s with heap := h' }) →
    codeAny (model prog w) A (.builtin "list.extend.loop" ⟨[.ref S, .ref z, res], []⟩) R s := by
  intro k
  induction k with
  | zero =>
    intro i s acc c hk hi st h0 hS hR
    have hin : i = n := by omega
    subst hin
    refine codeAny_builtin F.entry_extend_loop ?_
    rw [Around.under_plainId F.plain_extend_loop _]
    show wpAny _ A.in1 (pyNext (.ref z) >>= _) _ _ s
    refine wpAny_bind (zs_end hh D L st hxs fun h' hk => ?_)
    have hi : ∀ b, n0 ≤ b → b ≠ z ∧ b ≠ TO ∧ b ≠ i1 ∧ b ≠ i2 := fun b hb => ⟨Nat.ne_of_gt (Nat.lt_of_lt_of_le L.lz hb), Nat.ne_of_gt (Nat.lt_of_lt_of_le L.lTO hb), Nat.ne_of_gt (Nat.lt_of_lt_of_le L.li1 hb), Nat.ne_of_gt (Nat.lt_of_lt_of_le L.li2 hb)⟩
    have pk : PS n0 xs ys i acc h' := by
      refine ⟨st.ps.len, st.ps.asc, st.ps.lo, fun T hT => ?_, fun j T u v a b c => ?_⟩
      · obtain ⟨j, hj, e⟩ := List.getElem_of_mem hT
        have e1 : acc[j]? = some T := by rw [List.getElem?_eq_getElem hj, e]
        have lj : j < i := by rw [← st.ps.len]; exact hj
        have e2 : xs[j]? = some xs[j] := Array.getElem?_eq_getElem (by omega)
        have e3 : ys[j]? = some ys[j] := Array.getElem?_eq_getElem (by omega)
        have hp := st.ps.prs j T _ _ e1 e2 e3
        obtain ⟨d1, d2, d3, d4⟩ := hi T (st.ps.lo T hT)
        exact Heap.lt_size (hk T _ d1 d2 d3 d4 hp)
      · obtain ⟨d1, d2, d3, d4⟩ := hi T (st.ps.lo T (List.mem_of_getElem? a))
        exact hk T _ d1 d2 d3 d4 (st.ps.prs j T u v a b c)
    exact wpAny_pure (hR h' acc c (fun b o _ c1 c2 c3 c4 e => hk b o c1 c2 c3 c4 e) pk (hk S _ L.Sz L.STO L.Si1 L.Si2 hS))
  | succ k ih =>
    intro i s acc c hk hi st h0 hS hR
    have hlt : i < n := by omega
    refine codeAny_builtin F.entry_extend_loop ?_
    rw [Around.under_plainId F.plain_extend_loop _]
    show wpAny _ A.in1 (pyNext (.ref z) >>= _) _ _ s
    have e2 : xs[i]? = some xs[i] := Array.getElem?_eq_getElem (by omega)
    have e3 : ys[i]? = some ys[i] := Array.getElem?_eq_getElem (by omega)
    refine wpAny_bind (zs_step D L st h0 e2 e3 fun h1 st1 sz1 fk1 => ?_)
    have hS1 := fk1 S _ L.Sz L.STO L.Si1 L.Si2 hS
    show wpAny _ A.in1 (updateSeq S (·.push (.ref s.heap.objs.size)) >>= _) _ _ _
    refine wpAny_bind ?_
    have la := st.ps.len
    have hU := Heap.get?_update_self (Obj.mapSeq (·.push (Value.ref s.heap.objs.size))) hS1 rfl
    have eU : Obj.mapSeq (·.push (Value.ref s.heap.objs.size)) (lsO acc c) = lsO (acc ++ [s.heap.objs.size]) (if ((acc.map Value.ref).toArray.push (Value.ref s.heap.objs.size)).size == (acc.map Value.ref).toArray.size then c else c + 1) := by
      simp only [Obj.mapSeq, lsO, List.map_append, List.map_cons, List.map_nil, List.push_toArray]
    rw [eU] at hU
    refine wpAny_updateSeq hS1 rfl (wpAny_pure ⟨plainId_quiet F.plain_extend_loop _, ih (i + 1) _ (acc ++ [s.heap.objs.size]) _ (by omega) hlt (ZS.keep L st1 (by show h1.objs.size ≤ (h1.update S _).objs.size; rw [Heap.size_update]; exact Nat.le_refl _) fun b o hb e => ?_) (by show n0 ≤ (h1.update S _).objs.size; rw [Heap.size_update]; omega) hU fun h' acc' c' fk ps' hS' => ?_⟩)
      (by rw [List.size_toArray, List.length_map]; omega) (by simp only [Array.size_push, List.size_toArray, List.length_map]; omega)
    · exact (Heap.get?_update_other _ _ (Ne.symm hb)).trans e
    · refine hR h' acc' c' (fun b o c0 c1 c2 c3 c4 e => fk b o c0 c1 c2 c3 c4 ?_) ps' hS'
      exact (Heap.get?_update_other _ _ (Ne.symm c0)).trans (fk1 b o c1 c2 c3 c4 e)
end
end MyZ

namespace MyZ
open PySem PySem.Calls PyProof.Rows RZ
section
variable {prog : Program} {w : World} {A : Around} {R : Result → Shared → Prop} {n0 : Nat} {z TI TO i1 i2 l1 l2 S : Addr} {xs ys : Array Value} {n : Nat} {s : Shared}
theorem zs_extend (hh : A.in1.handled = none) (D : ZipApart z TI TO i1 i2 l1 l2) (L : Low n0 z TI TO i1 i2 l1 l2 S) (hxs : xs.size = n) (hys : ys.size = n) (hn : n ≤ sizeLine) (res : Value) (c : Nat)
    (hz : IsZip s.heap z TI TO .none) (st : ZS n0 z TI TO i1 i2 l1 l2 xs ys 0 [] s.heap) (h0 : n0 ≤ s.heap.objs.size) (hS : s.heap.get? S = some (lsO [] c))
    (hR : ∀ h' acc' c', FK z TO i1 i2 S s.heap h' → PS n0 xs ys n acc' h' → h'.get? S = some (lsO acc' c') → R (.ok (.ret res)) { s with heap := h' }) :
    wpAny (model prog w) A.in1 (Builtin.List.listExtendWith (.ref S) (.ref z) res)
      (fun fin s' => match fin with | .done f => R (.ok f) s' | .again c' => c'.quiet = true ∧ codeAny (model prog w) A c' R s') (fun e s' => R (.error e) s') s := by
  have hT : s.TypeIs (.ref z) "zip" := ⟨_, hz, rfl⟩
  unfold Builtin.List.listExtendWith
  refine wpAny_bind (wpAny_typeOf hT ?_)
  have t1 : Builtin.List.listSameRef (.ref S) (.ref z) = false := by simp [Builtin.List.listSameRef, L.Sz]
  have t2 : (Value.type "zip" == Value.type "list") = false := by decide
  have t3 : (Value.type "zip" == Value.type "tuple") = false := by decide
  simp only [t1, t2, t3, Bool.or_false, Bool.false_eq_true, if_false]
  refine wpAny_bind (wpAny_pyIter_zip hz ?_)
  refine wpAny_bind (wpAny_holding ?_)
  unfold Builtin.List.listLengthHint
  refine wpAny_bind (wpAny_specialOf hT zip_no_len ?_)
  show wpAny _ A.in1 (specialOf (Value.ref z) (Str.ofString "__length_hint__") >>= _) _ _ _
  refine wpAny_bind (wpAny_specialOf hT zip_no_hint ?_)
  refine wpAny_pure ?_
  show wpAny _ A.in1 (rule "list.extend.makes-room" >>= fun _ => Builtin.List.listTouch (.ref S) >>= fun _ =>
    again (.builtin "list.extend.loop" ⟨[.ref S, .ref z, res], []⟩)) _ _ _
  refine wpAny_bind (wpAny_rule ?_)
  refine wpAny_bind ?_
  show wpAny _ A.in1 (updateSeq S (·.push .none) >>= fun _ => updateSeq S (·.pop)) _ _ _
  refine wpAny_bind (wpAny_updateSeq (hz := by seq_fits) hS rfl ?_)
  have hS2 := Heap.get?_update_self (Obj.mapSeq (·.push Value.none)) hS rfl
  refine wpAny_updateSeq (hz := by seq_fits) hS2 rfl ?_
  have hS3 := Heap.get?_update_self (Obj.mapSeq (·.pop)) hS2 rfl
  have oth : ∀ b o, b ≠ S → s.heap.get? b = some o → ((s.heap.update S (Obj.mapSeq (·.push Value.none))).update S (Obj.mapSeq (·.pop))).get? b = some o :=
    fun b o hb e => (Heap.get?_update_other _ _ (Ne.symm hb)).trans ((Heap.get?_update_other _ _ (Ne.symm hb)).trans e)
  refine wpAny_pure ⟨plainId_quiet F.plain_extend_loop _, zs_loop hh D L hxs hys hn res n 0 _ [] (c + 1 + 1) rfl (Nat.zero_le _) (ZS.keep L st ?_ oth) ?_ hS3 fun h' acc' c' fk ps' hS' => ?_⟩
  · show s.heap.objs.size ≤ ((s.heap.update S _).update S _).objs.size
    rw [Heap.size_update, Heap.size_update]
    exact Nat.le_refl _
  · show n0 ≤ ((s.heap.update S _).update S _).objs.size
    rw [Heap.size_update, Heap.size_update]
    exact h0
  · exact hR h' acc' c' (fun b o c0 c1 c2 c3 c4 e => fk b o c0 c1 c2 c3 c4 (oth b o c0 e)) ps' hS'
theorem zs_init (hh : A.in1.handled = none) (D : ZipApart z TI TO i1 i2 l1 l2) (L : Low n0 z TI TO i1 i2 l1 l2 S) (hxs : xs.size = n) (hys : ys.size = n) (hn : n ≤ sizeLine)
    (hz : IsZip s.heap z TI TO .none) (st : ZS n0 z TI TO i1 i2 l1 l2 xs ys 0 [] s.heap) (h0 : n0 ≤ s.heap.objs.size) (hS : s.heap.get? S = some { cls := .type "list", data := .seq #[] })
    (hR : ∀ h' acc' c', FK z TO i1 i2 S s.heap h' → PS n0 xs ys n acc' h' → h'.get? S = some (lsO acc' c') → R (.ok (.ret .none)) { s with heap := h' }) :
    wpAny (model prog w) A.in1 (Builtin.«list.__init__» ⟨[.ref S, .ref z], []⟩)
      (fun fin s' => match fin with | .done f => R (.ok f) s' | .again c' => c'.quiet = true ∧ codeAny (model prog w) A c' R s') (fun e s' => R (.error e) s') s := by
  show wpAny _ A.in1 (do let old ← Builtin.List.listItems (.ref S); Builtin.List.listUpdate (.ref S) (fun _ => #[]); letGo old.toList.reverse; Builtin.List.listExtendWith (.ref S) (.ref z) .none) _ _ s
  refine wpAny_bind ?_
  unfold Builtin.List.listItems
  refine wpAny_bind (wpAny_seqItems hS rfl (wpAny_pure ?_))
  show wpAny _ A.in1 (updateSeq S (fun _ => #[]) >>= fun _ => letGo (#[] : Array Value).toList.reverse >>= fun _ => Builtin.List.listExtendWith (.ref S) (.ref z) .none) _ _ s
  refine wpAny_bind (wpAny_updateSeq hS rfl ?_)
  have hS2 := Heap.get?_update_self (Obj.mapSeq (fun _ => (#[] : Array Value))) hS rfl
  have oth : ∀ b o, b ≠ S → s.heap.get? b = some o → (s.heap.update S (Obj.mapSeq (fun _ => (#[] : Array Value)))).get? b = some o :=
    fun b o hb e => (Heap.get?_update_other _ _ (Ne.symm hb)).trans e
  refine wpAny_bind (wpAny_letGo ?_)
  refine zs_extend hh D L hxs hys hn .none 0 (oth _ _ L.Sz.symm hz) (ZS.keep L st ?_ oth) ?_ hS2 fun h' acc' c' fk ps' hS' => ?_
  · show s.heap.objs.size ≤ (s.heap.update S _).objs.size
    rw [Heap.size_update]
    exact Nat.le_refl _
  · show n0 ≤ (s.heap.update S _).objs.size
    rw [Heap.size_update]
    exact h0
  · exact hR h' acc' c' (fun b o c0 c1 c2 c3 c4 e => fk b o c0 c1 c2 c3 c4 (oth b o c0 e)) ps' hS'
end
/-- list(z), z a zip of two tuples of one length -/
theorem call_listZip {prog : Program} {w : World} {A : Around} {E : Value → Shared → Prop} {s : Shared} {z TI TO i1 i2 l1 l2 : Addr} {xs ys : Array Value} {n : Nat} {Q : Value → Shared → Prop} (hh : A.handled = none) (D : ZipApart z TI TO i1 i2 l1 l2) (hxs : xs.size = n) (hys : ys.size = n) (hn : n ≤ sizeLine)
    (hz : IsZip s.heap z TI TO .none) (hTI : IsPair s.heap TI (.ref i1) (.ref i2)) {a b : Value} (hTO : IsPair s.heap TO a b) (a1 : s.heap.IsTupleIter i1 l1 0) (a2 : s.heap.IsTupleIter i2 l2 0) (b1 : s.heap.IsTuple l1 xs) (b2 : s.heap.IsTuple l2 ys)
    (hQ : ∀ h' acc c', (∀ b o, b ≠ z → b ≠ TO → b ≠ i1 → b ≠ i2 → s.heap.get? b = some o → h'.get? b = some o) → PS (s.heap.objs.size + 1) xs ys n acc h' → h'.get? s.heap.objs.size = some (lsO acc c') → Q (.ref s.heap.objs.size) { s with heap := h' }) :
    wpAny (model prog w) A (call (.type "list") [.ref z]) Q E s := by
  refine callType_codes (Q₁ := fun obj s₁ => obj = .ref s.heap.objs.size ∧ s₁ = { s with heap := s.heap.push { cls := .type "list", data := .seq #[] } }) PySem.F.called_list (PySem.F.typeCall_list_1 _) PySem.F.entry_list_init
    (code_list_new _ ⟨rfl, rfl⟩) fun obj s₁ h₁ => ?_
  obtain ⟨rfl, rfl⟩ := h₁
  have hS : (s.heap.push { cls := .type "list", data := .seq #[] }).get? s.heap.objs.size = some { cls := .type "list", data := .seq #[] } := Heap.get?_push_size _ rfl
  have up : ∀ b o, s.heap.get? b = some o → (s.heap.push { cls := .type "list", data := .seq #[] }).get? b = some o := fun b o e => Heap.get?_push_of_some _ e
  have g1 := Heap.lt_size hz
  have g2 := Heap.lt_size hTI
  have g3 := Heap.lt_size hTO
  have g4 : i1 < s.heap.objs.size := by obtain ⟨_, e, _⟩ := a1; exact Heap.lt_size e
  have g5 : i2 < s.heap.objs.size := by obtain ⟨_, e, _⟩ := a2; exact Heap.lt_size e
  have g6 : l1 < s.heap.objs.size := by obtain ⟨_, e, _⟩ := b1; exact Heap.lt_size e
  have g7 : l2 < s.heap.objs.size := by obtain ⟨_, e, _⟩ := b2; exact Heap.lt_size e
  have sz := Heap.size_push s.heap { cls := .type "list", data := .seq #[] }
  have L : Low (s.heap.objs.size + 1) z TI TO i1 i2 l1 l2 s.heap.objs.size := ⟨Nat.lt_succ_of_lt g1, Nat.lt_succ_of_lt g2, Nat.lt_succ_of_lt g3, Nat.lt_succ_of_lt g4, Nat.lt_succ_of_lt g5, Nat.lt_succ_of_lt g6, Nat.lt_succ_of_lt g7, Nat.lt_succ_self _,
    Nat.ne_of_gt g1, Nat.ne_of_gt g2, Nat.ne_of_gt g3, Nat.ne_of_gt g4, Nat.ne_of_gt g5, Nat.ne_of_gt g6, Nat.ne_of_gt g7⟩
  refine ⟨⟨_, hS, rfl⟩, PySem.F.args_list_init_2 _ _, zs_init (A := A.in1) hh D L hxs hys hn (up _ _ hz)
    ⟨up _ _ hTI, a1.at fun o e => up _ _ e, a2.at fun o e => up _ _ e, b1.at fun o e => up _ _ e, b2.at fun o e => up _ _ e, .inl ⟨up _ _ hz, a, b, up _ _ hTO⟩, ⟨rfl, List.Pairwise.nil, fun T h => (by cases h), fun T h => (by cases h), fun j T u v h => (by simp at h)⟩⟩ (Nat.le_of_eq sz.symm) hS fun h' acc' c' fk ps' hS' => ?_⟩
  exact ⟨rfl, hQ h' acc' c' (fun b o c1 c2 c3 c4 e => fk b o (Nat.ne_of_lt (Heap.lt_size e)) c1 c2 c3 c4 (up b o e)) ps' hS'⟩
end MyZ

namespace My
open PySem PySem.Spec PyProof.Rows L2 RZ
/-- the heap with the pairs and their list -/
def zipH (H : Hp) (S : Addr) (acc : List Addr) (xs ys : List V) : Hp := fun b =>
  if b = S then some (.lst (acc.map V.ref)) else if b ∈ acc then some (.tup [xs.getD (acc.idxOf b) .non, ys.getD (acc.idxOf b) .non]) else H b
theorem zipH_S {H : Hp} {S : Addr} {acc : List Addr} {xs ys : List V} : zipH H S acc xs ys S = some (.lst (acc.map V.ref)) := if_pos rfl
theorem zipH_old {H : Hp} {S b n : Addr} {acc : List Addr} {xs ys : List V} (hb : b < n) (hS : n ≤ S) (ha : ∀ T ∈ acc, n ≤ T) : zipH H S acc xs ys b = H b := by
  unfold zipH
  rw [if_neg (fun e => absurd hb (by rw [e]; exact Nat.not_lt.mpr hS)), if_neg (fun e => absurd hb (Nat.not_lt.mpr (ha b e)))]
theorem idx_asc {acc : List Addr} (h : acc.Pairwise (· < ·)) {i : Nat} {T : Addr} (e : acc[i]? = some T) : acc.idxOf T = i := by
  have nd : acc.Nodup := h.imp fun h => Nat.ne_of_lt h
  obtain ⟨hi, e⟩ := List.getElem?_eq_some_iff.mp e
  subst e
  exact nd.idxOf_getElem i hi
theorem zipH_T {H : Hp} {S T : Addr} {acc : List Addr} {xs ys : List V} {i : Nat} {x y : V} (h : acc.Pairwise (· < ·)) (e : acc[i]? = some T) (n : T ≠ S) (hx : xs[i]? = some x) (hy : ys[i]? = some y) : zipH H S acc xs ys T = some (.tup [x, y]) := by
  unfold zipH
  rw [if_neg n, if_pos (List.mem_of_getElem? e), idx_asc h e]
  simp [List.getD, hx, hy]
theorem vals_refs : ∀ acc : List Addr, Vals (acc.map V.ref) (acc.map Value.ref)
  | [] => .nil
  | a :: r => .cons rfl (vals_refs r)
def tListZip (K : PySem.W.Frag) (ta : TA) : TE := fun σ H Q => ta σ H fun vs H1 => ∃ a b xs ys, vs = [V.ref a, .ref b] ∧ SqT K H1 a xs ∧ SqT K H1 b ys ∧ xs.length = ys.length ∧
  ∀ S (ts : List Addr) H', H1 S = none → Same H1 H' → H' S = some (.lst (ts.map V.ref)) → ts.length = xs.length → (∀ (i : Nat) T x y, ts[i]? = some T → xs[i]? = some x → ys[i]? = some y → H' T = some (.tup [x, y])) → Q (.ref S) H'
section
variable {X : Cx} {e e2 : Expr} {ta : TA} {p p2 pos qos : Pos}
theorem pe_listZip (hc : X.calm = true) (hg : Gl X "list") (hm : X.mg "list" = none) (hg2 : Gl X "zip") (hm2 : X.mg "zip" = none) (ha : PA X [e, e2] ta)
    (hs : starEach [e, e2] X.env = (false, eval e X.env) :: starEach [e2] X.env := by rfl) (hpl : (backTo qos (starEach [e2] X.env)).any (·.1) = false := by rfl)
    (hse : starEach [Expr.Call (.Name "zip" p2) [e, e2] [] qos] X.env = [(false, eval (Expr.Call (.Name "zip" p2) [e, e2] [] qos) X.env)] := by rfl) :
    PE X (.Call (.Name "list" p) [.Call (.Name "zip" p2) [e, e2] [] qos] [] pos) (tListZip X.K ta) := by
  refine ⟨fun pins s σ H Q I h => ?_⟩
  refine wpAny_Call_Name_kw (ld_blt I hg hm (u := .type "list") (by first | rfl | decide +kernel) ?_ (by first | decide +kernel | decide) (by first | decide +kernel | decide))
  rw [hse]
  refine PySem.callWith_type1 ?_
  refine Call_ (ld_blt I hg2 hm2 PyProof.Rows.boot_zip (PyProof.Rows.callWith_type1 (thn (ha.run qos pins s σ H _ I h) fun us s1 ⟨vs, H1, I1, r1, q1⟩ => ?_) hs hpl))
  obtain ⟨a, b, xs, ys, ex, hqx, hqy, hl, q⟩ := q1
  subst ex
  cases r1 with
  | cons r rr =>
    cases rr with
    | cons r' rr =>
      cases rr
      cases r
      cases r'
      obtain ⟨its, rv, b1, z1⟩ := I1.tuple hqx
      obtain ⟨its2, rv2, b2, z2⟩ := I1.tuple hqy
      have l1 := rv.length
      have l2 := rv2.length
      refine RZ.call_zipT b1 b2 fun h1 hz hTI hTO a1 a2 hsz hk => ?_
      have g4 : a < s1.heap.objs.size := by obtain ⟨_, e, _⟩ := b1; exact Heap.lt_size e
      have g5 : b < s1.heap.objs.size := by obtain ⟨_, e, _⟩ := b2; exact Heap.lt_size e
      have a1' : h1.IsTuple a its.toArray := let ⟨o, e, r⟩ := b1; ⟨o, hk _ _ e, r⟩
      have b2' : h1.IsTuple b its2.toArray := let ⟨o, e, r⟩ := b2; ⟨o, hk _ _ e, r⟩
      refine MyZ.call_listZip (s := { s1 with heap := h1 }) (n := xs.length) (I1.ok.hd hc) (PySem.W.ktu_apart s1.heap.objs.size a b g4 g5) (by rw [List.size_toArray]; omega) (by rw [List.size_toArray]; omega) z1 hz hTI hTO a1 a2 a1' b2' fun h2 acc c' fk ps hS => ?_
      have n5 : h1.objs.size = s1.heap.objs.size + 5 := hsz
      have k : ∀ c o, s1.heap.get? c = some o → h2.get? c = some o := fun c o ec => by
        have lc := Heap.lt_size ec
        exact fk c o (fun z => by rw [z] at lc; exact absurd lc (Nat.not_lt.mpr (Nat.le_add_right _ _))) (fun z => by rw [z] at lc; exact absurd lc (Nat.not_lt.mpr (Nat.le_add_right _ _))) (fun z => by rw [z] at lc; exact absurd lc (Nat.lt_irrefl _)) (fun z => by rw [z] at lc; exact absurd lc (Nat.not_lt.mpr (Nat.le_add_right _ _))) (hk c o ec)
      have lS : s1.heap.objs.size ≤ h1.objs.size := by omega
      have lT : ∀ T ∈ acc, s1.heap.objs.size ≤ T := fun T hT => Nat.le_trans (by show s1.heap.objs.size ≤ h1.objs.size + 1; omega) (ps.lo T hT)
      have nT : ∀ T ∈ acc, T ≠ h1.objs.size := fun T hT => Nat.ne_of_gt (ps.lo T hT)
      have old : ∀ c, c < s1.heap.objs.size → zipH H1 h1.objs.size acc xs ys c = H1 c := fun c lc => zipH_old lc lS lT
      have el : ∀ (i : Nat) T, acc[i]? = some T → ∃ x y u v, xs[i]? = some x ∧ ys[i]? = some y ∧ RelV x u ∧ RelV y v ∧ IsPair h2 T u v := fun i T eT => by
        have hi := (List.getElem?_eq_some_iff.mp eT).1
        have la := ps.len
        have hx : xs[i]? = some xs[i] := List.getElem?_eq_getElem (by omega)
        have hy : ys[i]? = some ys[i] := List.getElem?_eq_getElem (by omega)
        obtain ⟨u, hu, ru⟩ := rv.get hx
        obtain ⟨v, hv, rv'⟩ := rv2.get hy
        exact ⟨_, _, u, v, hx, hy, ru, rv', ps.prs i T u v eT (by simpa using hu) (by simpa using hv)⟩
      have un : Un X.fs [] H1 (zipH H1 h1.objs.size acc xs ys) s1.heap h2 := ⟨fun c o ec _ _ _ => k c o ec, fun c o ec _ _ _ => ⟨o.slots, k c o ec⟩, fun c o ec n _ => (old c (Heap.lt_size ec)).trans n, fun c o ec _ => ⟨o, k c o ec⟩,
        fun c zs ec => (old c (I1.hok.lt ec)).trans ec, fun c o u ec => (old c (I1.hok.lt ec)).trans ec, fun c pz ec => ⟨#[], by rw [old c (I1.hok.lt ec), ec]; simp⟩⟩
      have hok : HOk X.prog X.w (zipH H1 h1.objs.size acc xs ys) h2 := fun c o ec => by
        by_cases lc : c < s1.heap.objs.size
        · rw [old c lc] at ec
          exact (I1.hok c o ec).stay (fun b u _ q => k b u q) (fun b q => (old b (I1.hok.lt q)).trans q) fun b zs q => (old b (I1.hok.lt q)).trans q
        · by_cases cS : c = h1.objs.size
          · rw [cS, zipH_S] at ec
            cases ec
            rw [cS]
            exact ⟨by rw [List.length_map, ps.len]; exact z1, acc.map Value.ref, c', vals_refs acc, hS⟩
          · by_cases cm : c ∈ acc
            · obtain ⟨i, hi, ei⟩ := List.getElem_of_mem cm
              have eT : acc[i]? = some c := by rw [List.getElem?_eq_getElem hi, ei]
              obtain ⟨x, y, u, v, hx, hy, ru, rv', pr⟩ := el i c eT
              rw [zipH_T ps.asc eT cS hx hy] at ec
              cases ec
              exact ⟨by show 2 ≤ sizeLine; decide, [u, v], .cons ru (.cons rv' .nil), ⟨_, pr, rfl, _, rfl⟩⟩
            · exfalso
              unfold zipH at ec
              rw [if_neg cS, if_neg cm] at ec
              exact lc (I1.hok.lt ec)
      exact ⟨.ref h1.objs.size, _, I1.un (t' := s1.toks) un hok, rfl, q h1.objs.size acc _ (I1.hok.fresh lS) (fun c o ec => (old c (I1.hok.lt ec)).trans ec) zipH_S (by rw [ps.len]) fun i T x y eT hx hy => zipH_T ps.asc eT (nT T (List.mem_of_getElem? eT)) hx hy⟩
end
end My

namespace My
open PySem PySem.Spec PyProof.Rows L2
/-! ### numbers: fractions in lowest terms -/
abbrev Qt := Int × Int
def Nf (q : Qt) : Prop := 1 ≤ q.2 ∧ Int.gcd q.1 q.2 = 1
/-- q is t / b in lowest terms -/
def Is (q : Qt) (t b : Int) : Prop := Nf q ∧ q.1 * b = t * q.2
def Sz (k : Nat) (q : Qt) : Prop := q.1.natAbs < 2 ^ k ∧ q.2.natAbs < 2 ^ k
theorem nf_cop {q : Qt} (h : Nf q) : Nat.Coprime q.1.natAbs q.2.natAbs := h.2
theorem nf_unique {p q : Qt} (hp : Nf p) (hq : Nf q) (h : p.1 * q.2 = q.1 * p.2) : p = q := by
  have h1 : p.1.natAbs * q.2.natAbs = q.1.natAbs * p.2.natAbs := by rw [← Int.natAbs_mul, ← Int.natAbs_mul, h]
  have d1 : p.2.natAbs ∣ q.2.natAbs := (nf_cop hp).symm.dvd_of_dvd_mul_left (n := q.2.natAbs) (m := p.1.natAbs) (by rw [h1]; exact Nat.dvd_mul_left _ _)
  have d2 : q.2.natAbs ∣ p.2.natAbs := (nf_cop hq).symm.dvd_of_dvd_mul_left (n := p.2.natAbs) (m := q.1.natAbs) (by rw [← h1]; exact Nat.dvd_mul_left _ _)
  have e := Nat.dvd_antisymm d1 d2
  have a1 := hp.1
  have a2 := hq.1
  have e2 : p.2 = q.2 := by omega
  rw [e2] at h
  have e1 : p.1 = q.1 := Int.eq_of_mul_eq_mul_right (show q.2 ≠ 0 by omega) h
  exact Prod.ext e1 e2
theorem is_unique {p q : Qt} {t b : Int} (hb : b ≠ 0) (hp : Is p t b) (hq : Is q t b) : p = q := by
  refine nf_unique hp.1 hq.1 ?_
  have h1 := hp.2
  have h2 := hq.2
  have h3 : b * (p.1 * q.2) = b * (q.1 * p.2) := by
    have e1 : b * (p.1 * q.2) = (p.1 * b) * q.2 := by rw [Int.mul_comm p.1 b, Int.mul_assoc]
    have e2 : b * (q.1 * p.2) = (q.1 * b) * p.2 := by rw [Int.mul_comm q.1 b, Int.mul_assoc]
    rw [e1, e2, h1, h2, Int.mul_assoc, Int.mul_assoc, Int.mul_comm p.2 q.2]
  exact Int.eq_of_mul_eq_mul_left hb h3
theorem is_le {q : Qt} {t b : Int} (hb : b ≠ 0) (h : Is q t b) : q.1.natAbs ≤ t.natAbs ∧ q.2.natAbs ≤ b.natAbs := by
  have h1 : q.1.natAbs * b.natAbs = t.natAbs * q.2.natAbs := by rw [← Int.natAbs_mul, ← Int.natAbs_mul, h.2]
  have d : q.2.natAbs ∣ b.natAbs := (nf_cop h.1).symm.dvd_of_dvd_mul_left (n := b.natAbs) (m := q.1.natAbs) (by rw [h1]; exact Nat.dvd_mul_left _ _)
  have hb' : 0 < b.natAbs := by omega
  have le2 := Nat.le_of_dvd hb' d
  refine ⟨?_, le2⟩
  have q2 : 0 < q.2.natAbs := by have := h.1.1; omega
  have h2 : q.1.natAbs * q.2.natAbs ≤ t.natAbs * q.2.natAbs := by rw [← h1]; exact Nat.mul_le_mul_left _ le2
  exact Nat.le_of_mul_le_mul_right h2 q2
theorem is_sz {q : Qt} {t b : Int} {k : Nat} (hb : b ≠ 0) (h : Is q t b) (ht : t.natAbs < 2 ^ k) (hk : b.natAbs < 2 ^ k) : Sz k q :=
  ⟨Nat.lt_of_le_of_lt (is_le hb h).1 ht, Nat.lt_of_le_of_lt (is_le hb h).2 hk⟩
/-- exact division by the greatest common divisor -/
theorem gcd_pos {t b : Int} (hb : b ≠ 0) : 0 < Int.gcd t b := Nat.gcd_pos_of_pos_right _ (by omega)
theorem gcd_le {t b : Int} (hb : b ≠ 0) : Int.gcd t b ≤ b.natAbs := Nat.le_of_dvd (by omega) (Nat.gcd_dvd_right _ _)
theorem is_div {t b : Int} (hb : 0 < b) : Is (t / (Int.gcd t b : Nat), b / (Int.gcd t b : Nat)) t b := by
  have hg := gcd_pos (t := t) (b := b) (by omega)
  obtain ⟨x, hx⟩ := Int.gcd_dvd_left (a := t) (b := b)
  obtain ⟨y, hy⟩ := Int.gcd_dvd_right (a := t) (b := b)
  have hg' : ((Int.gcd t b : Nat) : Int) ≠ 0 := by omega
  have e1 : t / (Int.gcd t b : Nat) = x := by conv => lhs; lhs; rw [hx]
                                              exact Int.mul_ediv_cancel_left _ hg'
  have e2 : b / (Int.gcd t b : Nat) = y := by conv => lhs; lhs; rw [hy]
                                              exact Int.mul_ediv_cancel_left _ hg'
  rw [e1, e2]
  have hy0 : 0 < y := by
    rcases Int.lt_trichotomy y 0 with z | z | z
    · have := Int.mul_neg_of_pos_of_neg (show (0 : Int) < (Int.gcd t b : Nat) by omega) z
      omega
    · rw [z, Int.mul_zero] at hy
      omega
    · exact z
  refine ⟨⟨by show 1 ≤ y; omega, ?_⟩, ?_⟩
  · show Int.gcd x y = 1
    have h : Int.gcd t b = Int.gcd t b * Int.gcd x y := by
      have k : Int.gcd (((Int.gcd t b : Nat) : Int) * x) (((Int.gcd t b : Nat) : Int) * y) = Int.gcd t b * Int.gcd x y := by rw [Int.gcd_mul_left, Int.natAbs_natCast]
      rwa [← hx, ← hy] at k
    exact Nat.eq_of_mul_eq_mul_left hg (by rw [← h, Nat.mul_one])
  · show x * b = t * y
    conv => lhs; rw [hy]
    conv => rhs; rw [hx]
    rw [← Int.mul_assoc, Int.mul_comm x]
theorem is_neg {q : Qt} {t b : Int} (h : Is q (-t) (-b)) : Is q t b := ⟨h.1, by have := h.2; rw [Int.mul_neg, Int.neg_mul] at this; omega⟩
theorem gcd_neg2 (t b : Int) : Int.gcd (-t) (-b) = Int.gcd t b := by rw [Int.gcd_neg, Int.neg_gcd]
/-- what fraction hands back -/
theorem is_fdiv {t b : Int} (hb : b ≠ 0) : Is (t.fdiv (if b < 0 then -((Int.gcd t b : Nat) : Int) else (Int.gcd t b : Nat)), b.fdiv (if b < 0 then -((Int.gcd t b : Nat) : Int) else (Int.gcd t b : Nat))) t b := by
  by_cases h : b < 0
  · rw [if_pos h]
    have e := is_div (t := -t) (b := -b) (by omega)
    rw [gcd_neg2] at e
    have k : ∀ x : Int, x.fdiv (-((Int.gcd t b : Nat) : Int)) = (-x) / ((Int.gcd t b : Nat) : Int) := fun x => by
      rw [← Int.fdiv_eq_ediv_of_nonneg _ (by omega), ← Int.neg_fdiv_neg (-x), Int.neg_neg]
    rw [k, k]
    exact is_neg e
  · rw [if_neg h, Int.fdiv_eq_ediv_of_nonneg _ (by omega), Int.fdiv_eq_ediv_of_nonneg _ (by omega)]
    exact is_div (by omega)
theorem mulW {i j : Int} {a b : Nat} (ha : i.natAbs < 2 ^ a) (hb : j.natAbs < 2 ^ b) (h : a + b ≤ 900000) : CMulW i j := by
  refine wide_mul (a := a + 1) (b := b + 1) (Nat.lt_of_lt_of_le ha (Nat.pow_le_pow_right (by omega) (by omega))) (Nat.lt_of_lt_of_le hb (Nat.pow_le_pow_right (by omega) (by omega))) (by omega) (by omega) (by omega)
theorem szMul {i j : Int} {a b : Nat} (ha : i.natAbs < 2 ^ a) (hb : j.natAbs < 2 ^ b) : (i * j).natAbs < 2 ^ (a + b) := wide_lt ha hb
theorem szAdd {i j : Int} {a b c : Nat} (ha : i.natAbs < 2 ^ a) (hb : j.natAbs < 2 ^ b) (h1 : a + 1 ≤ c) (h2 : b + 1 ≤ c) : (i + j).natAbs < 2 ^ c := by
  have e1 : 2 ^ (a + 1) ≤ 2 ^ c := Nat.pow_le_pow_right (by omega) h1
  have e2 : 2 ^ (b + 1) ≤ 2 ^ c := Nat.pow_le_pow_right (by omega) h2
  rw [Nat.pow_succ] at e1 e2
  have := Int.natAbs_add_le i j
  omega
theorem szSub {i j : Int} {a b c : Nat} (ha : i.natAbs < 2 ^ a) (hb : j.natAbs < 2 ^ b) (h1 : a + 1 ≤ c) (h2 : b + 1 ≤ c) : (i - j).natAbs < 2 ^ c := by
  rw [Int.sub_eq_add_neg]
  exact szAdd ha (by rw [Int.natAbs_neg]; exact hb) h1 h2
theorem szMono {i : Int} {a b : Nat} (ha : i.natAbs < 2 ^ a) (h : a ≤ b) : i.natAbs < 2 ^ b := Nat.lt_of_lt_of_le ha (Nat.pow_le_pow_right (by omega) h)
theorem Sz.mono {q : Qt} {a b : Nat} (ha : Sz a q) (h : a ≤ b) : Sz b q := ⟨szMono ha.1 h, szMono ha.2 h⟩
/-- // by any number of a bounded size -/
def CDivX (_ j : Int) : Prop := j ≠ 0 ∧ j.natAbs < 2 ^ 8999
theorem op_fdivX {X : Cx} : OpR X (binaryOp .FloorDiv) (rI CDivX fun i j => .int (i.fdiv j)) := by
  intro pins s σ H x y v u Q I rx ry h
  obtain ⟨i, j, rfl, rfl, hc, q⟩ := h
  obtain ⟨t, rfl⟩ := rx
  obtain ⟨t', rfl⟩ := ry
  exact floordiv_int hc.1 ⟨.int _, H, I.tok _, ⟨_, rfl⟩, q⟩ (.inl (PyProof.noPylong_of_log2 (Nat.lt_of_lt_of_le (PySem.Flt.log2_lt_of (by omega) hc.2) (by omega))))
/-! ### fractions as values -/
def frt (q : Qt) : HO := .tup [.int q.1, .int q.2]
end My

namespace My
open PySem PySem.Spec PyProof.Rows L2
section
variable {P : Program} {w : World} {K : PySem.W.Frag} {mg : Str → Option Value} {base : Heap}
def spMixed : Sp := fun vs H Q _ => ∃ a b : Int, vs = [.int a, .int b] ∧ ∀ r : Int, Q (.int r) H
theorem mulW_mod {i : Int} {n : Int} (h0 : 0 < n) (h : n < 2 ^ 64) : CMulW (i % n) (i % n) := by
  have h1 := Int.emod_nonneg i (show n ≠ 0 by omega)
  have h2 := Int.emod_lt_of_pos i h0
  exact wide_mul (a := 64) (b := 64) (by omega) (by omega) (by omega) (by omega) (by omega)
abbrev sMixed : Stmt := topS 46
theorem scMixed : FnScope ["_law_number", "_law_turn", "_law_value"] ["_law_number", "_law_turn"] (defScope sMixed) := ⟨rfl, rfl, rfl, by decide +kernel, rfl, by decide +kernel, by decide +kernel⟩
theorem k_Mixed (T : Bt K mg) (D : Dfn K mg "_law_mixed" sMixed ["_law_number", "_law_turn"]) : Kn P w K mg base 1 "_law_mixed" ["_law_number", "_law_turn"] spMixed := by
  refine Kn.mk' D scMixed (fun vs H Q E h => ?_) (fun f cdv A outer s H vs Q E hr h => ?_)
  · obtain ⟨a, b, rfl, _⟩ := h
    rfl
  obtain ⟨a, b, rfl, q⟩ := h
  refine ⟨_, (pss_cons (ps_set (i := 2) scMixed.nd rfl (.inl rfl) (pe_op op_mod (pe_op op_add (pe_op op_add (pe_op op_mul (pe_op op_mod (pe_callTy call_int1 (by rfl) T.b_int (by decide +kernel) (pa_cons (pv 0) pa_nil)) pe_int) pe_int) (pe_op op_mul (pv 1) pe_int)) pe_int) pe_int))
      (pss_cons (ps_set (i := 2) scMixed.nd rfl (.inl rfl) (pe_op op_mod (pe_op op_add (pe_op op_add (pe_op op_add (pe_op op_mulW (pv 2) (pv 2)) (pe_op op_mul (pv 2) pe_int)) (pe_op op_mul (pv 1) pe_int)) pe_int) pe_int))
      (pss_cons (ps_set (i := 2) scMixed.nd rfl (.inl rfl) (pe_op op_mod (pe_op op_add (pe_op op_add (pe_op op_mul (pv 2) pe_int) (pe_op op_fdiv (pv 2) pe_int)) pe_int) pe_int))
      (pss_cons (ps_set (i := 2) scMixed.nd rfl (.inl rfl) (pe_op op_mod (pe_op op_add (pe_op op_mulW (pv 2) (pv 2)) (pv 1)) pe_int))
      (pss_one (ps_ret (pe_op op_fdiv (pv 2) pe_int))))))), ?_⟩
  simp only [cx_K, decide_true, decide_false, reduceCtorEq, gTp, gCons, gNil, ca_0, ca_1, ca_2, ca_3, ca_4, ca_5, ca_6, ca_7, ca_8, ca_9, ca_10, ca_11, ca_12, ca_13, ca_14, ca_15, ca_16, ca_17, ca_18, ca_19, ca_20, ca_21, ca_22, ca_23, ca_24, ca_25, ca_26, ca_27, ca_28, ca_29, ca_30, not_true_eq_false, not_false_eq_true, Int.reduceEq, Nat.reduceEqDiff, Nat.reduceLeDiff, rGcd, V.ty.injEq, eq_self, List.not_mem_nil, beq_self_eq_true, HO.lst.injEq, HO.tup.injEq, tFor_eq, iRng1, iList, iTup, nat10, tSeq, rIxA, rSetA, rIsN, rIsT, tTp, tLs, itsO_tup, itsO_lst, tyO_tup, tyO_lst, tyO_dK, tyN_non, tyN_bl, tyN_int, tyN_str, tyN_ref, tyNs_lt, isB, upd_same, upd_upd, sizeLine_eq, List.mem_cons, String.reduceBEq, String.reduceEq, Bool.or_false, Bool.or_true, Bool.and_false, Bool.false_or, Bool.and_self, Bool.false_and, Bool.not_false, Bool.not_true, List.any_cons, List.any_nil, atI_0, setI_0, atI_1, setI_1, atI_2, setI_2, atI_3, setI_3, atI_4, setI_4, atI_5, setI_5, atI_6, setI_6, tAsg, gName, tOp, tUn, tVar, tC, tCons, L2.tNil, tRet, tIfS, tTest, tCB, tCall, rI, rI0, rU, tNext, tB, tAnd, tOr, tNot, tAndV, tOrV, tNotV, tDrop, tIf, tPar, gSub, rIxL, rIxT, rEq, rNe, rSetL, tBits,
    L2.start, List.map_cons, List.map_nil, List.cons_append, List.nil_append, List.append_nil, List.length_cons, List.length_nil, List.replicate, Nat.reduceAdd, Nat.reduceSub, Nat.zero_add, List.getElem?_cons_zero, List.getElem?_cons_succ, List.set_cons_zero, List.set_cons_succ,
    Option.some.injEq, exists_eq_left', exists_eq_left, V.int.injEq, V.bl.injEq, V.ref.injEq, V.str.injEq, List.cons.injEq, reduceCtorEq, and_true, true_and, false_and, and_false, exists_false, or_false, false_or, or_true, true_or, exists_const, CMul, CDiv, CPow, and_assoc, exists_and_left, exists_and_right, Int.reducePow, Int.reduceNeg, Int.reduceLT, Int.reduceLE, Nat.reducePow, Nat.reduceLT, Int.reduceToNat, gt_iff_lt, ge_iff_le, decide_eq_true_eq, Bool.not_eq_true', decide_eq_false_iff_not, scal, ↓reduceIte, Bool.false_eq_true]
  exact ⟨mulW_mod (by omega) (by omega), mulW_mod (by omega) (by omega), q _⟩
theorem at_ints {ns : List Int} {i : Int} (h0 : 0 ≤ i) (h : i < (ns.length : Int)) : ∃ z, atI (ns.map V.int) i = some (.int z) := by
  have hk : i.toNat < ns.length := by omega
  have q : atI (ns.map V.int) ((i.toNat : Nat) : Int) = some (.int ns[i.toNat]) := atI_nat (by rw [List.getElem?_map, List.getElem?_eq_getElem hk] <;> rfl)
  rw [show ((i.toNat : Nat) : Int) = i by omega] at q
  exact ⟨_, q⟩
theorem bits_le {m : Int} (h : m.natAbs < 2 ^ 200) : Builtin.Int.intBits m ≤ 200 := by
  unfold Builtin.Int.intBits
  split
  · omega
  · have := PySem.Flt.log2_lt_of (show 0 < 200 by omega) h
    omega
def TakeA (K : PySem.W.Frag) (s : Addr) (m : Int) (H : Hp) (σ' : L2.St) (H' : Hp) : Prop := ∃ x, σ' = [some (.ref s), some (.int m), x, none, none, none, none] ∧ Kp s H H' ∧ Sto K H' s
def TakeB (K : PySem.W.Frag) (s : Addr) (m : Int) (H : Hp) (σ' : L2.St) (H' : Hp) : Prop := ∃ x n, σ' = [some (.ref s), some (.int m), x, none, some (.int n), none, none] ∧ Kp s H H' ∧ Sto K H' s
def TakeC (s : Addr) (m : Int) (x : Option V) (n : Int) (H3 : Hp) (k : Nat) (σ : L2.St) (H' : Hp) : Prop := ∃ v y, σ = [some (.ref s), some (.int m), x, none, some (.int n), some (.int v), y] ∧ H' = H3
def spTake (K : PySem.W.Frag) : Sp := fun vs H Q _ => ∃ (s : Addr) (m : Int), vs = [.ref s, .int m] ∧ Sto K H s ∧ m < 2 ^ 200 ∧ ∀ r H', 0 ≤ r → (r < m ∨ r = 0) → Kp s H H' → Sto K H' s → Q (.int r) H'
abbrev sTake : Stmt := topS 48
theorem scTake : FnScope ["_law_store_here", "_law_many", "_law_cell", "_law_digit", "_law_number", "_law_value", "_law_k"] ["_law_store_here", "_law_many"] (defScope sTake) := ⟨rfl, rfl, rfl, by decide +kernel, rfl, by decide +kernel, by decide +kernel⟩
theorem k_Take (T : Bt K mg) (D : Dfn K mg "_law_take" sTake ["_law_store_here", "_law_many"]) (d__law_mixed : Kn P w K mg base 1 "_law_mixed" ["_law_number", "_law_turn"] spMixed) : Kn P w K mg base 2 "_law_take" ["_law_store_here", "_law_many"] (spTake K) := by
  refine Kn.mk' D scTake (fun vs H Q E h => ?_) (fun f cdv A outer s H vs Q E hr h => ?_)
  · obtain ⟨a, m, rfl, _⟩ := h
    rfl
  obtain ⟨s, m, rfl, hS, hm, q⟩ := h
  refine ⟨_, (pss_cons (ps_if (pt_cmpR op_lt (pv 1) pe_int (nomark _)) (pss_one (ps_ret pe_int)) pss_nil)
      (pss_cons (ps_asg (pe_op op_add (pe_ix ix_any (pv 0) pe_int (fun _ _ => rfl)) pe_int) (pg_sub (pv 0) pe_int set_any))
      (C8.pss_cut (ps_if (PW.pt (pw_and (pt_cmpR op_lt (pe_ix ix_any (pv 0) pe_int (fun _ _ => rfl)) pe_int (nomark _)) (pw_and (pt_cmpR op_lt (pe_ix ix_any (pv 0) pe_int (fun _ _ => rfl)) pe_int (nomark _)) (pw_and1 (pt_cmpR op_lt (pe_ix ix_any (pv 0) pe_int (fun _ _ => rfl)) (pe_callB call_lenA (by rfl) T.b_len PySem.boot_len (pa_cons (pe_ix ix_any (pv 0) pe_int (fun _ _ => rfl)) pa_nil)) (nomark _)))))) (pss_cons (ps_set (i := 2) scTake.nd rfl (.inl rfl) (pe_callTy call_int1 (by rfl) T.b_int (by decide +kernel) (pa_cons (pe_ix ix_any (pe_ix ix_any (pv 0) pe_int (fun _ _ => rfl)) (pe_ix ix_any (pv 0) pe_int (fun _ _ => rfl)) (fun _ _ => rfl)) pa_nil)))
      (pss_cons (ps_asg (pe_op op_add (pe_ix ix_any (pv 0) pe_int (fun _ _ => rfl)) pe_int) (pg_sub (pv 0) pe_int set_any))
      (pss_one (ps_if (pt_cmpR op_lt (pe_callB call_abs (by rfl) T.b_abs (by decide +kernel) (pa_cons (pv 2) pa_nil)) (pe_op op_pow pe_int pe_int) (nomark _)) (pss_cons (ps_asg pe_int (pg_sub (pv 0) pe_int set_any))
      (pss_one (ps_asg (pv 2) (pg_sub (pv 0) pe_int set_any)))) (pss_one (ps_asg (pe_callB call_abs (by rfl) T.b_abs (by decide +kernel) (pa_cons (pv 2) pa_nil)) (pg_sub (pv 0) pe_int set_any))))))) pss_nil)
      (pss_cons (ps_if (pt_cmpR op_gt (pe_ix ix_any (pv 0) pe_int (fun _ _ => rfl)) pe_int (nomark _)) (pss_cons (ps_set (i := 3) scTake.nd rfl (.inl rfl) (pe_op op_modN (pe_callTy call_int1 (by rfl) T.b_int (by decide +kernel) (pa_cons (pe_ix ix_any (pv 0) pe_int (fun _ _ => rfl)) pa_nil)) (pv 1)))
      (pss_cons (ps_asg (pe_op op_fdivW (pe_ix ix_any (pv 0) pe_int (fun _ _ => rfl)) (pv 1)) (pg_sub (pv 0) pe_int set_any))
      (pss_one (ps_ret (pv 3))))) pss_nil)
      (pss_cons (ps_set (i := 4) scTake.nd rfl (.inl rfl) (pe_ix ix_any (pv 0) pe_int (fun _ _ => rfl)))
      (C8.pss_cut (ps_if (pt_cmpR op_gt (pe_ix ix_any (pv 0) pe_int (fun _ _ => rfl)) pe_int (nomark _)) (pss_cons (ps_asg (pe_op op_sub (pe_ix ix_any (pv 0) pe_int (fun _ _ => rfl)) pe_int) (pg_sub (pv 0) pe_int set_any))
      (pss_one (ps_set (i := 4) scTake.nd rfl (.inl rfl) (pe_ix ix_any (pv 0) pe_int (fun _ _ => rfl))))) pss_nil)
      (pss_cons (ps_set (i := 5) scTake.nd rfl (.inl rfl) pe_int)
      (pss_cons (ps_for PassesOwn.never rfl (pi_range1 (by rfl) T.b_range (pa_cons (pe_op op_add pe_int (pe_op op_fdiv (pe_bits (pv 1)) pe_int)) pa_nil)) (pg_name (i := 6) scTake.nd rfl (.inl rfl)) (pss_one (ps_set (i := 5) scTake.nd rfl (.inl rfl) (pe_op op_add (pe_op op_mul (pv 5) pe_int) (pe_kn d__law_mixed hr (by rfl) (pa_cons (pv 4) (pa_cons (pe_op op_add (pe_op op_mul (pe_ix ix_any (pv 0) pe_int (fun _ _ => rfl)) pe_int) (pv 6)) pa_nil)))))))
      (pss_one (ps_ret (pe_op op_modN (pv 5) (pv 1)))))))))))), ?_⟩
  obtain ⟨sc, ns, i, b, c, d, e, f, hs, hsc, hne, hi, ks, ksc⟩ := hS
  have o1 := (ob_none ks).trans hs
  simp only [o1, hs, cx_K, decide_true, decide_false, reduceCtorEq, gTp, gCons, gNil, ca_0, ca_1, ca_2, ca_3, ca_4, ca_5, ca_6, ca_7, ca_8, ca_9, ca_10, ca_11, ca_12, ca_13, ca_14, ca_15, ca_16, ca_17, ca_18, ca_19, ca_20, ca_21, ca_22, ca_23, ca_24, ca_25, ca_26, ca_27, ca_28, ca_29, ca_30, not_true_eq_false, not_false_eq_true, Int.reduceEq, Nat.reduceEqDiff, Nat.reduceLeDiff, rGcd, V.ty.injEq, eq_self, List.not_mem_nil, beq_self_eq_true, HO.lst.injEq, HO.tup.injEq, tFor_eq, iRng1, iList, iTup, nat10, tSeq, rIxA, rSetA, rIsN, rIsT, tTp, tLs, itsO_tup, itsO_lst, tyO_tup, tyO_lst, tyO_dK, tyN_non, tyN_bl, tyN_int, tyN_str, tyN_ref, tyNs_lt, isB, upd_same, upd_upd, sizeLine_eq, List.mem_cons, String.reduceBEq, String.reduceEq, Bool.or_false, Bool.or_true, Bool.and_false, Bool.false_or, Bool.and_self, Bool.false_and, Bool.not_false, Bool.not_true, List.any_cons, List.any_nil, atI_0, setI_0, atI_1, setI_1, atI_2, setI_2, atI_3, setI_3, atI_4, setI_4, atI_5, setI_5, atI_6, setI_6, tAsg, gName, tOp, tUn, tVar, tC, tCons, L2.tNil, tRet, tIfS, tTest, tCB, tCall, rI, rI0, rU, tNext, tB, tAnd, tOr, tNot, tAndV, tOrV, tNotV, tDrop, tIf, tPar, gSub, rIxL, rIxT, rEq, rNe, rSetL, tBits,
    L2.start, List.map_cons, List.map_nil, List.cons_append, List.nil_append, List.append_nil, List.length_cons, List.length_nil, List.replicate, Nat.reduceAdd, Nat.reduceSub, Nat.zero_add, List.getElem?_cons_zero, List.getElem?_cons_succ, List.set_cons_zero, List.set_cons_succ,
    Option.some.injEq, exists_eq_left', exists_eq_left, V.int.injEq, V.bl.injEq, V.ref.injEq, V.str.injEq, List.cons.injEq, reduceCtorEq, and_true, true_and, false_and, and_false, exists_false, or_false, false_or, or_true, true_or, exists_const, CMul, CDiv, CPow, and_assoc, exists_and_left, exists_and_right, Int.reducePow, Int.reduceNeg, Int.reduceLT, Int.reduceLE, Nat.reducePow, Nat.reduceLT, Int.reduceToNat, gt_iff_lt, ge_iff_le, decide_eq_true_eq, Bool.not_eq_true', decide_eq_false_iff_not, scal, ↓reduceIte, Bool.false_eq_true]
  refine ite2 (fun h2 => ?_) (fun h2 => ?_)
  · exact q 0 H (Int.le_refl 0) (.inr rfl) (Kp.refl _ _) ⟨sc, ns, i, b, c, d, e, f, hs, hsc, hne, hi, ks, ksc⟩
  have S1 := Sr.put (i' := i) (b' := b) (c' := c + 1) (d' := d) (e' := e) (f' := f) (⟨hs, hsc, hne, hi, ks, ksc⟩ : Sr K H s sc ns i b c d e f) hi
  have kp1 : Kp s H (upd H s (.lst [.ref sc, .int i, .int b, .int (c + 1), .int d, .int e, .int f])) := Kp.put hs
  generalize upd H s (.lst [.ref sc, .int i, .int b, .int (c + 1), .int d, .int e, .int f]) = H1 at S1 kp1 ⊢
  refine ⟨TakeA K s m H, ?_, ?_⟩
  · obtain ⟨hs, hsc, hne, hi, ks, ksc⟩ := id S1
    have o1 := (ob_none ks).trans hs
    have o2 := (ob_none ksc).trans hsc
    have no : TakeA K s m H [some (.ref s), some (.int m), none, none, none, none, none] H1 := ⟨none, rfl, kp1, _, _, _, _, _, _, _, _, S1⟩
    simp only [o1, o2, hs, List.length_map, cx_K, decide_true, decide_false, reduceCtorEq, gTp, gCons, gNil, ca_0, ca_1, ca_2, ca_3, ca_4, ca_5, ca_6, ca_7, ca_8, ca_9, ca_10, ca_11, ca_12, ca_13, ca_14, ca_15, ca_16, ca_17, ca_18, ca_19, ca_20, ca_21, ca_22, ca_23, ca_24, ca_25, ca_26, ca_27, ca_28, ca_29, ca_30, not_true_eq_false, not_false_eq_true, Int.reduceEq, Nat.reduceEqDiff, Nat.reduceLeDiff, rGcd, V.ty.injEq, eq_self, List.not_mem_nil, beq_self_eq_true, HO.lst.injEq, HO.tup.injEq, tFor_eq, iRng1, iList, iTup, nat10, tSeq, rIxA, rSetA, rIsN, rIsT, tTp, tLs, itsO_tup, itsO_lst, tyO_tup, tyO_lst, tyO_dK, tyN_non, tyN_bl, tyN_int, tyN_str, tyN_ref, tyNs_lt, isB, upd_same, upd_upd, sizeLine_eq, List.mem_cons, String.reduceBEq, String.reduceEq, Bool.or_false, Bool.or_true, Bool.and_false, Bool.false_or, Bool.and_self, Bool.false_and, Bool.not_false, Bool.not_true, List.any_cons, List.any_nil, atI_0, setI_0, atI_1, setI_1, atI_2, setI_2, atI_3, setI_3, atI_4, setI_4, atI_5, setI_5, atI_6, setI_6, tAsg, gName, tOp, tUn, tVar, tC, tCons, L2.tNil, tRet, tIfS, tTest, tCB, tCall, rI, rI0, rU, tNext, tB, tAnd, tOr, tNot, tAndV, tOrV, tNotV, tDrop, tIf, tPar, gSub, rIxL, rIxT, rEq, rNe, rSetL, tBits,
    L2.start, List.map_cons, List.map_nil, List.cons_append, List.nil_append, List.append_nil, List.length_cons, List.length_nil, List.replicate, Nat.reduceAdd, Nat.reduceSub, Nat.zero_add, List.getElem?_cons_zero, List.getElem?_cons_succ, List.set_cons_zero, List.set_cons_succ,
    Option.some.injEq, exists_eq_left', exists_eq_left, V.int.injEq, V.bl.injEq, V.ref.injEq, V.str.injEq, List.cons.injEq, reduceCtorEq, and_true, true_and, false_and, and_false, exists_false, or_false, false_or, or_true, true_or, exists_const, CMul, CDiv, CPow, and_assoc, exists_and_left, exists_and_right, Int.reducePow, Int.reduceNeg, Int.reduceLT, Int.reduceLE, Nat.reducePow, Nat.reduceLT, Int.reduceToNat, gt_iff_lt, ge_iff_le, decide_eq_true_eq, Bool.not_eq_true', decide_eq_false_iff_not, scal, ↓reduceIte, Bool.false_eq_true]
    refine ite2 (fun _ => ?_) (fun _ => no)
    refine ite2 (fun _ => ?_) (fun _ => no)
    refine ite2 (fun hlt => ?_) (fun _ => no)
    obtain ⟨z, hz⟩ := at_ints hi hlt
    simp only [hz, cx_K, decide_true, decide_false, reduceCtorEq, gTp, gCons, gNil, ca_0, ca_1, ca_2, ca_3, ca_4, ca_5, ca_6, ca_7, ca_8, ca_9, ca_10, ca_11, ca_12, ca_13, ca_14, ca_15, ca_16, ca_17, ca_18, ca_19, ca_20, ca_21, ca_22, ca_23, ca_24, ca_25, ca_26, ca_27, ca_28, ca_29, ca_30, not_true_eq_false, not_false_eq_true, Int.reduceEq, Nat.reduceEqDiff, Nat.reduceLeDiff, rGcd, V.ty.injEq, eq_self, List.not_mem_nil, beq_self_eq_true, HO.lst.injEq, HO.tup.injEq, tFor_eq, iRng1, iList, iTup, nat10, tSeq, rIxA, rSetA, rIsN, rIsT, tTp, tLs, itsO_tup, itsO_lst, tyO_tup, tyO_lst, tyO_dK, tyN_non, tyN_bl, tyN_int, tyN_str, tyN_ref, tyNs_lt, isB, upd_same, upd_upd, sizeLine_eq, List.mem_cons, String.reduceBEq, String.reduceEq, Bool.or_false, Bool.or_true, Bool.and_false, Bool.false_or, Bool.and_self, Bool.false_and, Bool.not_false, Bool.not_true, List.any_cons, List.any_nil, atI_0, setI_0, atI_1, setI_1, atI_2, setI_2, atI_3, setI_3, atI_4, setI_4, atI_5, setI_5, atI_6, setI_6, tAsg, gName, tOp, tUn, tVar, tC, tCons, L2.tNil, tRet, tIfS, tTest, tCB, tCall, rI, rI0, rU, tNext, tB, tAnd, tOr, tNot, tAndV, tOrV, tNotV, tDrop, tIf, tPar, gSub, rIxL, rIxT, rEq, rNe, rSetL, tBits,
    L2.start, List.map_cons, List.map_nil, List.cons_append, List.nil_append, List.append_nil, List.length_cons, List.length_nil, List.replicate, Nat.reduceAdd, Nat.reduceSub, Nat.zero_add, List.getElem?_cons_zero, List.getElem?_cons_succ, List.set_cons_zero, List.set_cons_succ,
    Option.some.injEq, exists_eq_left', exists_eq_left, V.int.injEq, V.bl.injEq, V.ref.injEq, V.str.injEq, List.cons.injEq, reduceCtorEq, and_true, true_and, false_and, and_false, exists_false, or_false, false_or, or_true, true_or, exists_const, CMul, CDiv, CPow, and_assoc, exists_and_left, exists_and_right, Int.reducePow, Int.reduceNeg, Int.reduceLT, Int.reduceLE, Nat.reducePow, Nat.reduceLT, Int.reduceToNat, gt_iff_lt, ge_iff_le, decide_eq_true_eq, Bool.not_eq_true', decide_eq_false_iff_not, scal, ↓reduceIte, Bool.false_eq_true]
    refine ite2 (fun _ => ?_) (fun _ => ?_)
    · have S2 := S1.put (i' := i + 1) (b' := b) (c' := c + 1) (d' := d) (e' := 2) (f' := z) (by omega)
      exact ⟨_, rfl, kp1.trans (Kp.put hs), _, _, _, _, _, _, _, _, S2⟩
    · have S2 := S1.put (i' := i + 1) (b' := if z < 0 then -z else z) (c' := c + 1) (d' := d) (e' := e) (f' := f) (by omega)
      exact ⟨_, rfl, kp1.trans (Kp.put hs), _, _, _, _, _, _, _, _, S2⟩
  rintro σ' H2 ⟨x, rfl, kp2, sc, ns, i, b, c, d, e, f, S2⟩
  obtain ⟨hs, hsc, hne, hi, ks, ksc⟩ := id S2
  have o1 := (ob_none ks).trans hs
  simp only [o1, hs, cx_K, decide_true, decide_false, reduceCtorEq, gTp, gCons, gNil, ca_0, ca_1, ca_2, ca_3, ca_4, ca_5, ca_6, ca_7, ca_8, ca_9, ca_10, ca_11, ca_12, ca_13, ca_14, ca_15, ca_16, ca_17, ca_18, ca_19, ca_20, ca_21, ca_22, ca_23, ca_24, ca_25, ca_26, ca_27, ca_28, ca_29, ca_30, not_true_eq_false, not_false_eq_true, Int.reduceEq, Nat.reduceEqDiff, Nat.reduceLeDiff, rGcd, V.ty.injEq, eq_self, List.not_mem_nil, beq_self_eq_true, HO.lst.injEq, HO.tup.injEq, tFor_eq, iRng1, iList, iTup, nat10, tSeq, rIxA, rSetA, rIsN, rIsT, tTp, tLs, itsO_tup, itsO_lst, tyO_tup, tyO_lst, tyO_dK, tyN_non, tyN_bl, tyN_int, tyN_str, tyN_ref, tyNs_lt, isB, upd_same, upd_upd, sizeLine_eq, List.mem_cons, String.reduceBEq, String.reduceEq, Bool.or_false, Bool.or_true, Bool.and_false, Bool.false_or, Bool.and_self, Bool.false_and, Bool.not_false, Bool.not_true, List.any_cons, List.any_nil, atI_0, setI_0, atI_1, setI_1, atI_2, setI_2, atI_3, setI_3, atI_4, setI_4, atI_5, setI_5, atI_6, setI_6, tAsg, gName, tOp, tUn, tVar, tC, tCons, L2.tNil, tRet, tIfS, tTest, tCB, tCall, rI, rI0, rU, tNext, tB, tAnd, tOr, tNot, tAndV, tOrV, tNotV, tDrop, tIf, tPar, gSub, rIxL, rIxT, rEq, rNe, rSetL, tBits,
    L2.start, List.map_cons, List.map_nil, List.cons_append, List.nil_append, List.append_nil, List.length_cons, List.length_nil, List.replicate, Nat.reduceAdd, Nat.reduceSub, Nat.zero_add, List.getElem?_cons_zero, List.getElem?_cons_succ, List.set_cons_zero, List.set_cons_succ,
    Option.some.injEq, exists_eq_left', exists_eq_left, V.int.injEq, V.bl.injEq, V.ref.injEq, V.str.injEq, List.cons.injEq, reduceCtorEq, and_true, true_and, false_and, and_false, exists_false, or_false, false_or, or_true, true_or, exists_const, CMul, CDiv, CPow, and_assoc, exists_and_left, exists_and_right, Int.reducePow, Int.reduceNeg, Int.reduceLT, Int.reduceLE, Nat.reducePow, Nat.reduceLT, Int.reduceToNat, gt_iff_lt, ge_iff_le, decide_eq_true_eq, Bool.not_eq_true', decide_eq_false_iff_not, scal, ↓reduceIte, Bool.false_eq_true]
  have hm0 : m ≠ 0 := by omega
  refine ite2 (fun hb => ?_) (fun hb => ?_)
  · have S3 := S2.put (i' := i) (b' := b / m) (c' := c) (d' := d) (e' := e) (f' := f) hi
    refine ⟨hm0, wide_div (b := 200) (by omega) (by omega) (by omega) (by omega), q _ _ ?_ (.inl ?_) (kp2.trans (Kp.put hs)) ⟨_, _, _, _, _, _, _, _, S3⟩⟩
    · rw [Int.fmod_eq_emod_of_nonneg b (by omega)]
      exact Int.emod_nonneg _ hm0
    · rw [Int.fmod_eq_emod_of_nonneg b (by omega)]
      exact Int.emod_lt_of_pos _ (by omega)
  refine ⟨TakeB K s m H, ?_, ?_⟩
  · simp only [o1, hs, cx_K, decide_true, decide_false, reduceCtorEq, gTp, gCons, gNil, ca_0, ca_1, ca_2, ca_3, ca_4, ca_5, ca_6, ca_7, ca_8, ca_9, ca_10, ca_11, ca_12, ca_13, ca_14, ca_15, ca_16, ca_17, ca_18, ca_19, ca_20, ca_21, ca_22, ca_23, ca_24, ca_25, ca_26, ca_27, ca_28, ca_29, ca_30, not_true_eq_false, not_false_eq_true, Int.reduceEq, Nat.reduceEqDiff, Nat.reduceLeDiff, rGcd, V.ty.injEq, eq_self, List.not_mem_nil, beq_self_eq_true, HO.lst.injEq, HO.tup.injEq, tFor_eq, iRng1, iList, iTup, nat10, tSeq, rIxA, rSetA, rIsN, rIsT, tTp, tLs, itsO_tup, itsO_lst, tyO_tup, tyO_lst, tyO_dK, tyN_non, tyN_bl, tyN_int, tyN_str, tyN_ref, tyNs_lt, isB, upd_same, upd_upd, sizeLine_eq, List.mem_cons, String.reduceBEq, String.reduceEq, Bool.or_false, Bool.or_true, Bool.and_false, Bool.false_or, Bool.and_self, Bool.false_and, Bool.not_false, Bool.not_true, List.any_cons, List.any_nil, atI_0, setI_0, atI_1, setI_1, atI_2, setI_2, atI_3, setI_3, atI_4, setI_4, atI_5, setI_5, atI_6, setI_6, tAsg, gName, tOp, tUn, tVar, tC, tCons, L2.tNil, tRet, tIfS, tTest, tCB, tCall, rI, rI0, rU, tNext, tB, tAnd, tOr, tNot, tAndV, tOrV, tNotV, tDrop, tIf, tPar, gSub, rIxL, rIxT, rEq, rNe, rSetL, tBits,
    L2.start, List.map_cons, List.map_nil, List.cons_append, List.nil_append, List.append_nil, List.length_cons, List.length_nil, List.replicate, Nat.reduceAdd, Nat.reduceSub, Nat.zero_add, List.getElem?_cons_zero, List.getElem?_cons_succ, List.set_cons_zero, List.set_cons_succ,
    Option.some.injEq, exists_eq_left', exists_eq_left, V.int.injEq, V.bl.injEq, V.ref.injEq, V.str.injEq, List.cons.injEq, reduceCtorEq, and_true, true_and, false_and, and_false, exists_false, or_false, false_or, or_true, true_or, exists_const, CMul, CDiv, CPow, and_assoc, exists_and_left, exists_and_right, Int.reducePow, Int.reduceNeg, Int.reduceLT, Int.reduceLE, Nat.reducePow, Nat.reduceLT, Int.reduceToNat, gt_iff_lt, ge_iff_le, decide_eq_true_eq, Bool.not_eq_true', decide_eq_false_iff_not, scal, ↓reduceIte, Bool.false_eq_true]
    refine ite2 (fun he => ?_) (fun he => ?_)
    · have S3 := S2.put (i' := i) (b' := b) (c' := c) (d' := d) (e' := e - 1) (f' := f) hi
      have o3 := (ob_none ks).trans S3.1
      simp only [o3, cx_K, decide_true, decide_false, reduceCtorEq, gTp, gCons, gNil, ca_0, ca_1, ca_2, ca_3, ca_4, ca_5, ca_6, ca_7, ca_8, ca_9, ca_10, ca_11, ca_12, ca_13, ca_14, ca_15, ca_16, ca_17, ca_18, ca_19, ca_20, ca_21, ca_22, ca_23, ca_24, ca_25, ca_26, ca_27, ca_28, ca_29, ca_30, not_true_eq_false, not_false_eq_true, Int.reduceEq, Nat.reduceEqDiff, Nat.reduceLeDiff, rGcd, V.ty.injEq, eq_self, List.not_mem_nil, beq_self_eq_true, HO.lst.injEq, HO.tup.injEq, tFor_eq, iRng1, iList, iTup, nat10, tSeq, rIxA, rSetA, rIsN, rIsT, tTp, tLs, itsO_tup, itsO_lst, tyO_tup, tyO_lst, tyO_dK, tyN_non, tyN_bl, tyN_int, tyN_str, tyN_ref, tyNs_lt, isB, upd_same, upd_upd, sizeLine_eq, List.mem_cons, String.reduceBEq, String.reduceEq, Bool.or_false, Bool.or_true, Bool.and_false, Bool.false_or, Bool.and_self, Bool.false_and, Bool.not_false, Bool.not_true, List.any_cons, List.any_nil, atI_0, setI_0, atI_1, setI_1, atI_2, setI_2, atI_3, setI_3, atI_4, setI_4, atI_5, setI_5, atI_6, setI_6, tAsg, gName, tOp, tUn, tVar, tC, tCons, L2.tNil, tRet, tIfS, tTest, tCB, tCall, rI, rI0, rU, tNext, tB, tAnd, tOr, tNot, tAndV, tOrV, tNotV, tDrop, tIf, tPar, gSub, rIxL, rIxT, rEq, rNe, rSetL, tBits,
    L2.start, List.map_cons, List.map_nil, List.cons_append, List.nil_append, List.append_nil, List.length_cons, List.length_nil, List.replicate, Nat.reduceAdd, Nat.reduceSub, Nat.zero_add, List.getElem?_cons_zero, List.getElem?_cons_succ, List.set_cons_zero, List.set_cons_succ,
    Option.some.injEq, exists_eq_left', exists_eq_left, V.int.injEq, V.bl.injEq, V.ref.injEq, V.str.injEq, List.cons.injEq, reduceCtorEq, and_true, true_and, false_and, and_false, exists_false, or_false, false_or, or_true, true_or, exists_const, CMul, CDiv, CPow, and_assoc, exists_and_left, exists_and_right, Int.reducePow, Int.reduceNeg, Int.reduceLT, Int.reduceLE, Nat.reducePow, Nat.reduceLT, Int.reduceToNat, gt_iff_lt, ge_iff_le, decide_eq_true_eq, Bool.not_eq_true', decide_eq_false_iff_not, scal, ↓reduceIte, Bool.false_eq_true]
      exact ⟨_, _, rfl, kp2.trans (Kp.put hs), _, _, _, _, _, _, _, _, S3⟩
    · exact ⟨_, _, rfl, kp2, _, _, _, _, _, _, _, _, S2⟩
  rintro σ' H3 ⟨x, n, rfl, kp3, sc, ns, i, b, c, d, e, f, S3⟩
  obtain ⟨hs, hsc, hne, hi, ks, ksc⟩ := id S3
  have o1 := (ob_none ks).trans hs
  simp only [o1, hs, cx_K, decide_true, decide_false, reduceCtorEq, gTp, gCons, gNil, ca_0, ca_1, ca_2, ca_3, ca_4, ca_5, ca_6, ca_7, ca_8, ca_9, ca_10, ca_11, ca_12, ca_13, ca_14, ca_15, ca_16, ca_17, ca_18, ca_19, ca_20, ca_21, ca_22, ca_23, ca_24, ca_25, ca_26, ca_27, ca_28, ca_29, ca_30, not_true_eq_false, not_false_eq_true, Int.reduceEq, Nat.reduceEqDiff, Nat.reduceLeDiff, rGcd, V.ty.injEq, eq_self, List.not_mem_nil, beq_self_eq_true, HO.lst.injEq, HO.tup.injEq, tFor_eq, iRng1, iList, iTup, nat10, tSeq, rIxA, rSetA, rIsN, rIsT, tTp, tLs, itsO_tup, itsO_lst, tyO_tup, tyO_lst, tyO_dK, tyN_non, tyN_bl, tyN_int, tyN_str, tyN_ref, tyNs_lt, isB, upd_same, upd_upd, sizeLine_eq, List.mem_cons, String.reduceBEq, String.reduceEq, Bool.or_false, Bool.or_true, Bool.and_false, Bool.false_or, Bool.and_self, Bool.false_and, Bool.not_false, Bool.not_true, List.any_cons, List.any_nil, atI_0, setI_0, atI_1, setI_1, atI_2, setI_2, atI_3, setI_3, atI_4, setI_4, atI_5, setI_5, atI_6, setI_6, tAsg, gName, tOp, tUn, tVar, tC, tCons, L2.tNil, tRet, tIfS, tTest, tCB, tCall, rI, rI0, rU, tNext, tB, tAnd, tOr, tNot, tAndV, tOrV, tNotV, tDrop, tIf, tPar, gSub, rIxL, rIxT, rEq, rNe, rSetL, tBits,
    L2.start, List.map_cons, List.map_nil, List.cons_append, List.nil_append, List.append_nil, List.length_cons, List.length_nil, List.replicate, Nat.reduceAdd, Nat.reduceSub, Nat.zero_add, List.getElem?_cons_zero, List.getElem?_cons_succ, List.set_cons_zero, List.set_cons_succ,
    Option.some.injEq, exists_eq_left', exists_eq_left, V.int.injEq, V.bl.injEq, V.ref.injEq, V.str.injEq, List.cons.injEq, reduceCtorEq, and_true, true_and, false_and, and_false, exists_false, or_false, false_or, or_true, true_or, exists_const, CMul, CDiv, CPow, and_assoc, exists_and_left, exists_and_right, Int.reducePow, Int.reduceNeg, Int.reduceLT, Int.reduceLE, Nat.reducePow, Nat.reduceLT, Int.reduceToNat, gt_iff_lt, ge_iff_le, decide_eq_true_eq, Bool.not_eq_true', decide_eq_false_iff_not, scal, ↓reduceIte, Bool.false_eq_true]
  have hbits : Builtin.Int.intBits m ≤ 200 := bits_le (by omega)
  refine ⟨by omega, by omega, forI_range (TakeC s m x n H3) ⟨0, none, rfl, rfl⟩ ?_ ?_⟩
  · rintro k σ H' hk ⟨v, y, rfl, rfl⟩
    simp only [o1, hs, cx_K, decide_true, decide_false, reduceCtorEq, gTp, gCons, gNil, ca_0, ca_1, ca_2, ca_3, ca_4, ca_5, ca_6, ca_7, ca_8, ca_9, ca_10, ca_11, ca_12, ca_13, ca_14, ca_15, ca_16, ca_17, ca_18, ca_19, ca_20, ca_21, ca_22, ca_23, ca_24, ca_25, ca_26, ca_27, ca_28, ca_29, ca_30, not_true_eq_false, not_false_eq_true, Int.reduceEq, Nat.reduceEqDiff, Nat.reduceLeDiff, rGcd, V.ty.injEq, eq_self, List.not_mem_nil, beq_self_eq_true, HO.lst.injEq, HO.tup.injEq, tFor_eq, iRng1, iList, iTup, nat10, tSeq, rIxA, rSetA, rIsN, rIsT, tTp, tLs, itsO_tup, itsO_lst, tyO_tup, tyO_lst, tyO_dK, tyN_non, tyN_bl, tyN_int, tyN_str, tyN_ref, tyNs_lt, isB, upd_same, upd_upd, sizeLine_eq, List.mem_cons, String.reduceBEq, String.reduceEq, Bool.or_false, Bool.or_true, Bool.and_false, Bool.false_or, Bool.and_self, Bool.false_and, Bool.not_false, Bool.not_true, List.any_cons, List.any_nil, atI_0, setI_0, atI_1, setI_1, atI_2, setI_2, atI_3, setI_3, atI_4, setI_4, atI_5, setI_5, atI_6, setI_6, tAsg, gName, tOp, tUn, tVar, tC, tCons, L2.tNil, tRet, tIfS, tTest, tCB, tCall, rI, rI0, rU, tNext, tB, tAnd, tOr, tNot, tAndV, tOrV, tNotV, tDrop, tIf, tPar, gSub, rIxL, rIxT, rEq, rNe, rSetL, tBits,
    L2.start, List.map_cons, List.map_nil, List.cons_append, List.nil_append, List.append_nil, List.length_cons, List.length_nil, List.replicate, Nat.reduceAdd, Nat.reduceSub, Nat.zero_add, List.getElem?_cons_zero, List.getElem?_cons_succ, List.set_cons_zero, List.set_cons_succ,
    Option.some.injEq, exists_eq_left', exists_eq_left, V.int.injEq, V.bl.injEq, V.ref.injEq, V.str.injEq, List.cons.injEq, reduceCtorEq, and_true, true_and, false_and, and_false, exists_false, or_false, false_or, or_true, true_or, exists_const, CMul, CDiv, CPow, and_assoc, exists_and_left, exists_and_right, Int.reducePow, Int.reduceNeg, Int.reduceLT, Int.reduceLE, Nat.reducePow, Nat.reduceLT, Int.reduceToNat, gt_iff_lt, ge_iff_le, decide_eq_true_eq, Bool.not_eq_true', decide_eq_false_iff_not, scal, ↓reduceIte, Bool.false_eq_true]
    refine ⟨_, _, rfl, fun r => ?_⟩
    simp only [cx_K, decide_true, decide_false, reduceCtorEq, gTp, gCons, gNil, ca_0, ca_1, ca_2, ca_3, ca_4, ca_5, ca_6, ca_7, ca_8, ca_9, ca_10, ca_11, ca_12, ca_13, ca_14, ca_15, ca_16, ca_17, ca_18, ca_19, ca_20, ca_21, ca_22, ca_23, ca_24, ca_25, ca_26, ca_27, ca_28, ca_29, ca_30, not_true_eq_false, not_false_eq_true, Int.reduceEq, Nat.reduceEqDiff, Nat.reduceLeDiff, rGcd, V.ty.injEq, eq_self, List.not_mem_nil, beq_self_eq_true, HO.lst.injEq, HO.tup.injEq, tFor_eq, iRng1, iList, iTup, nat10, tSeq, rIxA, rSetA, rIsN, rIsT, tTp, tLs, itsO_tup, itsO_lst, tyO_tup, tyO_lst, tyO_dK, tyN_non, tyN_bl, tyN_int, tyN_str, tyN_ref, tyNs_lt, isB, upd_same, upd_upd, sizeLine_eq, List.mem_cons, String.reduceBEq, String.reduceEq, Bool.or_false, Bool.or_true, Bool.and_false, Bool.false_or, Bool.and_self, Bool.false_and, Bool.not_false, Bool.not_true, List.any_cons, List.any_nil, atI_0, setI_0, atI_1, setI_1, atI_2, setI_2, atI_3, setI_3, atI_4, setI_4, atI_5, setI_5, atI_6, setI_6, tAsg, gName, tOp, tUn, tVar, tC, tCons, L2.tNil, tRet, tIfS, tTest, tCB, tCall, rI, rI0, rU, tNext, tB, tAnd, tOr, tNot, tAndV, tOrV, tNotV, tDrop, tIf, tPar, gSub, rIxL, rIxT, rEq, rNe, rSetL, tBits,
    L2.start, List.map_cons, List.map_nil, List.cons_append, List.nil_append, List.append_nil, List.length_cons, List.length_nil, List.replicate, Nat.reduceAdd, Nat.reduceSub, Nat.zero_add, List.getElem?_cons_zero, List.getElem?_cons_succ, List.set_cons_zero, List.set_cons_succ,
    Option.some.injEq, exists_eq_left', exists_eq_left, V.int.injEq, V.bl.injEq, V.ref.injEq, V.str.injEq, List.cons.injEq, reduceCtorEq, and_true, true_and, false_and, and_false, exists_false, or_false, false_or, or_true, true_or, exists_const, CMul, CDiv, CPow, and_assoc, exists_and_left, exists_and_right, Int.reducePow, Int.reduceNeg, Int.reduceLT, Int.reduceLE, Nat.reducePow, Nat.reduceLT, Int.reduceToNat, gt_iff_lt, ge_iff_le, decide_eq_true_eq, Bool.not_eq_true', decide_eq_false_iff_not, scal, ↓reduceIte, Bool.false_eq_true]
    exact ⟨_, _, rfl, rfl⟩
  · rintro σ H' ⟨v, y, rfl, rfl⟩
    simp only [cx_K, decide_true, decide_false, reduceCtorEq, gTp, gCons, gNil, ca_0, ca_1, ca_2, ca_3, ca_4, ca_5, ca_6, ca_7, ca_8, ca_9, ca_10, ca_11, ca_12, ca_13, ca_14, ca_15, ca_16, ca_17, ca_18, ca_19, ca_20, ca_21, ca_22, ca_23, ca_24, ca_25, ca_26, ca_27, ca_28, ca_29, ca_30, not_true_eq_false, not_false_eq_true, Int.reduceEq, Nat.reduceEqDiff, Nat.reduceLeDiff, rGcd, V.ty.injEq, eq_self, List.not_mem_nil, beq_self_eq_true, HO.lst.injEq, HO.tup.injEq, tFor_eq, iRng1, iList, iTup, nat10, tSeq, rIxA, rSetA, rIsN, rIsT, tTp, tLs, itsO_tup, itsO_lst, tyO_tup, tyO_lst, tyO_dK, tyN_non, tyN_bl, tyN_int, tyN_str, tyN_ref, tyNs_lt, isB, upd_same, upd_upd, sizeLine_eq, List.mem_cons, String.reduceBEq, String.reduceEq, Bool.or_false, Bool.or_true, Bool.and_false, Bool.false_or, Bool.and_self, Bool.false_and, Bool.not_false, Bool.not_true, List.any_cons, List.any_nil, atI_0, setI_0, atI_1, setI_1, atI_2, setI_2, atI_3, setI_3, atI_4, setI_4, atI_5, setI_5, atI_6, setI_6, tAsg, gName, tOp, tUn, tVar, tC, tCons, L2.tNil, tRet, tIfS, tTest, tCB, tCall, rI, rI0, rU, tNext, tB, tAnd, tOr, tNot, tAndV, tOrV, tNotV, tDrop, tIf, tPar, gSub, rIxL, rIxT, rEq, rNe, rSetL, tBits,
    L2.start, List.map_cons, List.map_nil, List.cons_append, List.nil_append, List.append_nil, List.length_cons, List.length_nil, List.replicate, Nat.reduceAdd, Nat.reduceSub, Nat.zero_add, List.getElem?_cons_zero, List.getElem?_cons_succ, List.set_cons_zero, List.set_cons_succ,
    Option.some.injEq, exists_eq_left', exists_eq_left, V.int.injEq, V.bl.injEq, V.ref.injEq, V.str.injEq, List.cons.injEq, reduceCtorEq, and_true, true_and, false_and, and_false, exists_false, or_false, false_or, or_true, true_or, exists_const, CMul, CDiv, CPow, and_assoc, exists_and_left, exists_and_right, Int.reducePow, Int.reduceNeg, Int.reduceLT, Int.reduceLE, Nat.reducePow, Nat.reduceLT, Int.reduceToNat, gt_iff_lt, ge_iff_le, decide_eq_true_eq, Bool.not_eq_true', decide_eq_false_iff_not, scal, ↓reduceIte, Bool.false_eq_true]
    refine ⟨hm0, q _ _ ?_ (.inl ?_) kp3 ⟨_, _, _, _, _, _, _, _, S3⟩⟩
    · rw [Int.fmod_eq_emod_of_nonneg v (by omega)]
      exact Int.emod_nonneg _ hm0
    · rw [Int.fmod_eq_emod_of_nonneg v (by omega)]
      exact Int.emod_lt_of_pos _ (by omega)
end
end My

namespace My
open PySem PySem.Spec PyProof.Rows L2
section
variable {P : Program} {w : World} {K : PySem.W.Frag} {mg : Str → Option Value} {base : Heap}
theorem abs_if (n : Int) : (if n < 0 then -n else n) = (n.natAbs : Int) := by split <;> omega
def spGcd : Sp := fun vs H Q _ => ∃ a b : Int, vs = [.int a, .int b] ∧ Q (.int ((Int.gcd a b : Nat) : Int)) H
def GcdW (a b : Int) (H : Hp) (σ : L2.St) (H' : Hp) : Prop := ∃ l r : Int, σ = [some (.int l), some (.int r)] ∧ H' = H ∧ 0 ≤ l ∧ 0 ≤ r ∧ Int.gcd l r = Int.gcd a b
def GcdM (σ : L2.St) (_ : Hp) : Nat := match σ with
  | [_, some (.int r)] => r.toNat
  | _ => 0
abbrev sGcd : Stmt := topS 52
theorem scGcd : FnScope ["_law_left", "_law_right"] ["_law_left", "_law_right"] (defScope sGcd) := ⟨rfl, rfl, rfl, by decide +kernel, rfl, by decide +kernel, by decide +kernel⟩
theorem k_Gcd (T : Bt K mg) (D : Dfn K mg "_law_gcd" sGcd ["_law_left", "_law_right"]) : Kn P w K mg base 1 "_law_gcd" ["_law_left", "_law_right"] spGcd := by
  refine Kn.mk' D scGcd (fun vs H Q E h => ?_) (fun f cdv A outer s H vs Q E hr h => ?_)
  · obtain ⟨a, b, rfl, _⟩ := h
    rfl
  obtain ⟨a, b, rfl, q⟩ := h
  refine ⟨_, (pss_cons (ps_set (i := 0) scGcd.nd rfl (.inl rfl) (pe_callB call_abs (by rfl) T.b_abs (by decide +kernel) (pa_cons (pv 0) pa_nil)))
      (pss_cons (ps_set (i := 1) scGcd.nd rfl (.inl rfl) (pe_callB call_abs (by rfl) T.b_abs (by decide +kernel) (pa_cons (pv 1) pa_nil)))
      (pss_cons (ps_while PassesOwn.never (pt_cmpR op_gt (pv 1) pe_int (nomark _)) (pss_one (ps_par (i := 0) (j := 1) (by rfl) scGcd.nd rfl rfl (by decide) rfl rfl (pa_cons (pv 1) (pa_cons (pe_op op_modN (pe_callTy call_int1 (by rfl) T.b_int (by decide +kernel) (pa_cons (pv 0) pa_nil)) (pv 1)) pa_nil)) (by rfl))))
      (pss_one (ps_ret (pv 0)))))), ?_⟩
  simp only [abs_if, cx_K, decide_true, decide_false, reduceCtorEq, gTp, gCons, gNil, ca_0, ca_1, ca_2, ca_3, ca_4, ca_5, ca_6, ca_7, ca_8, ca_9, ca_10, ca_11, ca_12, ca_13, ca_14, ca_15, ca_16, ca_17, ca_18, ca_19, ca_20, ca_21, ca_22, ca_23, ca_24, ca_25, ca_26, ca_27, ca_28, ca_29, ca_30, not_true_eq_false, not_false_eq_true, Int.reduceEq, Nat.reduceEqDiff, Nat.reduceLeDiff, rGcd, V.ty.injEq, eq_self, List.not_mem_nil, beq_self_eq_true, HO.lst.injEq, HO.tup.injEq, tFor_eq, iRng1, iList, iTup, nat10, tSeq, rIxA, rSetA, rIsN, rIsT, tTp, tLs, itsO_tup, itsO_lst, tyO_tup, tyO_lst, tyO_dK, tyN_non, tyN_bl, tyN_int, tyN_str, tyN_ref, tyNs_lt, isB, upd_same, upd_upd, sizeLine_eq, List.mem_cons, String.reduceBEq, String.reduceEq, Bool.or_false, Bool.or_true, Bool.and_false, Bool.false_or, Bool.and_self, Bool.false_and, Bool.not_false, Bool.not_true, List.any_cons, List.any_nil, atI_0, setI_0, atI_1, setI_1, atI_2, setI_2, atI_3, setI_3, atI_4, setI_4, atI_5, setI_5, atI_6, setI_6, tAsg, gName, tOp, tUn, tVar, tC, tCons, L2.tNil, tRet, tIfS, tTest, tCB, tCall, rI, rI0, rU, tNext, tB, tAnd, tOr, tNot, tAndV, tOrV, tNotV, tDrop, tIf, tPar, gSub, rIxL, rIxT, rEq, rNe, rSetL, tBits,
    L2.start, List.map_cons, List.map_nil, List.cons_append, List.nil_append, List.append_nil, List.length_cons, List.length_nil, List.replicate, Nat.reduceAdd, Nat.reduceSub, Nat.zero_add, List.getElem?_cons_zero, List.getElem?_cons_succ, List.set_cons_zero, List.set_cons_succ,
    Option.some.injEq, exists_eq_left', exists_eq_left, V.int.injEq, V.bl.injEq, V.ref.injEq, V.str.injEq, List.cons.injEq, reduceCtorEq, and_true, true_and, false_and, and_false, exists_false, or_false, false_or, or_true, true_or, exists_const, CMul, CDiv, CPow, and_assoc, exists_and_left, exists_and_right, Int.reducePow, Int.reduceNeg, Int.reduceLT, Int.reduceLE, Nat.reducePow, Nat.reduceLT, Int.reduceToNat, gt_iff_lt, ge_iff_le, decide_eq_true_eq, Bool.not_eq_true', decide_eq_false_iff_not, scal, ↓reduceIte, Bool.false_eq_true]
  refine while_by (GcdW a b H) GcdM ⟨_, _, rfl, rfl, by omega, by omega, rfl⟩ ?_ ?_
  · rintro σ H' ⟨l, r, rfl, rfl, hl, hr, e⟩
    simp only [cx_K, decide_true, decide_false, reduceCtorEq, gTp, gCons, gNil, ca_0, ca_1, ca_2, ca_3, ca_4, ca_5, ca_6, ca_7, ca_8, ca_9, ca_10, ca_11, ca_12, ca_13, ca_14, ca_15, ca_16, ca_17, ca_18, ca_19, ca_20, ca_21, ca_22, ca_23, ca_24, ca_25, ca_26, ca_27, ca_28, ca_29, ca_30, not_true_eq_false, not_false_eq_true, Int.reduceEq, Nat.reduceEqDiff, Nat.reduceLeDiff, rGcd, V.ty.injEq, eq_self, List.not_mem_nil, beq_self_eq_true, HO.lst.injEq, HO.tup.injEq, tFor_eq, iRng1, iList, iTup, nat10, tSeq, rIxA, rSetA, rIsN, rIsT, tTp, tLs, itsO_tup, itsO_lst, tyO_tup, tyO_lst, tyO_dK, tyN_non, tyN_bl, tyN_int, tyN_str, tyN_ref, tyNs_lt, isB, upd_same, upd_upd, sizeLine_eq, List.mem_cons, String.reduceBEq, String.reduceEq, Bool.or_false, Bool.or_true, Bool.and_false, Bool.false_or, Bool.and_self, Bool.false_and, Bool.not_false, Bool.not_true, List.any_cons, List.any_nil, atI_0, setI_0, atI_1, setI_1, atI_2, setI_2, atI_3, setI_3, atI_4, setI_4, atI_5, setI_5, atI_6, setI_6, tAsg, gName, tOp, tUn, tVar, tC, tCons, L2.tNil, tRet, tIfS, tTest, tCB, tCall, rI, rI0, rU, tNext, tB, tAnd, tOr, tNot, tAndV, tOrV, tNotV, tDrop, tIf, tPar, gSub, rIxL, rIxT, rEq, rNe, rSetL, tBits,
    L2.start, List.map_cons, List.map_nil, List.cons_append, List.nil_append, List.append_nil, List.length_cons, List.length_nil, List.replicate, Nat.reduceAdd, Nat.reduceSub, Nat.zero_add, List.getElem?_cons_zero, List.getElem?_cons_succ, List.set_cons_zero, List.set_cons_succ,
    Option.some.injEq, exists_eq_left', exists_eq_left, V.int.injEq, V.bl.injEq, V.ref.injEq, V.str.injEq, List.cons.injEq, reduceCtorEq, and_true, true_and, false_and, and_false, exists_false, or_false, false_or, or_true, true_or, exists_const, CMul, CDiv, CPow, and_assoc, exists_and_left, exists_and_right, Int.reducePow, Int.reduceNeg, Int.reduceLT, Int.reduceLE, Nat.reducePow, Nat.reduceLT, Int.reduceToNat, gt_iff_lt, ge_iff_le, decide_eq_true_eq, Bool.not_eq_true', decide_eq_false_iff_not, scal, ↓reduceIte, Bool.false_eq_true]
    refine ite2 (fun h => ?_) (fun h => ?_)
    · refine ⟨by omega, ⟨_, _, rfl, rfl, hr, ?_, ?_⟩, ?_⟩
      · rw [Int.fmod_eq_emod_of_nonneg l hr]
        exact Int.emod_nonneg _ (by omega)
      · rw [Int.fmod_eq_emod_of_nonneg l hr, ← e]
        show Nat.gcd r.natAbs (l % r).natAbs = Nat.gcd l.natAbs r.natAbs
        rw [Int.natAbs_emod_of_nonneg hl, Nat.gcd_comm l.natAbs, Nat.gcd_rec r.natAbs l.natAbs, Nat.gcd_comm]
      · show (l.fmod r).toNat < r.toNat
        rw [Int.fmod_eq_emod_of_nonneg l hr]
        have := Int.emod_lt_of_pos l h
        omega
    · have hr0 : r = 0 := by omega
      subst hr0
      have e2 : l = ((Int.gcd a b : Nat) : Int) := by
        rw [← e, Int.gcd_zero_right]
        omega
      rw [e2]
      exact q
  · rintro σ H' Q' Q2 hq ⟨v, e, i, j, h1, h2, k, ek, h⟩
    exact ⟨v, e, i, j, h1, h2, k, ek, hq _ _ h⟩
/-- the law's own lowest terms; 0 beneath gives 0 -/
def Lw (q : Qt) (t b : Int) : Prop := (b = 0 → q = (0, 1)) ∧ (b ≠ 0 → Is q t b)
/-- hands back a fraction, all else as it was -/
def Gv (K : PySem.W.Frag) (H : Hp) (Q : VK) (q : Qt) : Prop := ∀ (p : Addr) (H' : Hp), Same H H' → ob K H' p = some (frt q) → Q (.ref p) H'
theorem Gv.new {K : PySem.W.Frag} {H : Hp} {Q : VK} {q : Qt} (h : Gv K H Q q) {p : Addr} (hp : H p = none) (kp : K.lookup p = none) : Q (.ref p) (upd H p (.tup [.int q.1, .int q.2])) := h p _ (Same.new hp _) (ob_new kp)
def spLowest (K : PySem.W.Frag) : Sp := fun vs H Q _ => ∃ t b : Int, vs = [.int t, .int b] ∧ b.natAbs < 2 ^ 8000 ∧ ∀ q, Lw q t b → Gv K H Q q
abbrev sLowest : Stmt := topS 53
theorem scLowest : FnScope ["_law_top", "_law_bottom", "_law_common"] ["_law_top", "_law_bottom"] (defScope sLowest) := ⟨rfl, rfl, rfl, by decide +kernel, rfl, by decide +kernel, by decide +kernel⟩
theorem k_Lowest (T : Bt K mg) (D : Dfn K mg "_law_lowest" sLowest ["_law_top", "_law_bottom"]) (d__law_gcd : Kn P w K mg base 1 "_law_gcd" ["_law_left", "_law_right"] spGcd) : Kn P w K mg base 2 "_law_lowest" ["_law_top", "_law_bottom"] (spLowest K) := by
  refine Kn.mk' D scLowest (fun vs H Q E h => ?_) (fun f cdv A outer s H vs Q E hr h => ?_)
  · obtain ⟨t, b, rfl, _⟩ := h
    rfl
  obtain ⟨t, b, rfl, hz, q⟩ := h
  refine ⟨_, (pss_cons (ps_if (pt_cmpR op_eq (pv 1) pe_int (nomark _)) (pss_one (ps_ret (pe_tp (pa_cons pe_int (pa_cons pe_int pa_nil))))) pss_nil)
      (pss_cons (ps_if (pt_cmpR op_lt (pv 1) pe_int (nomark _)) (pss_cons (ps_set (i := 0) scLowest.nd rfl (.inl rfl) (pe_un un_neg (pv 0)))
      (pss_one (ps_set (i := 1) scLowest.nd rfl (.inl rfl) (pe_un un_neg (pv 1))))) pss_nil)
      (pss_cons (ps_set (i := 2) scLowest.nd rfl (.inl rfl) (pe_kn d__law_gcd hr (by rfl) (pa_cons (pv 0) (pa_cons (pv 1) pa_nil))))
      (pss_one (ps_ret (pe_tp (pa_cons (pe_op op_fdivW (pv 0) (pv 2)) (pa_cons (pe_op op_fdivW (pv 1) (pv 2)) pa_nil)))))))), ?_⟩
  simp only [cx_K, decide_true, decide_false, reduceCtorEq, gTp, gCons, gNil, ca_0, ca_1, ca_2, ca_3, ca_4, ca_5, ca_6, ca_7, ca_8, ca_9, ca_10, ca_11, ca_12, ca_13, ca_14, ca_15, ca_16, ca_17, ca_18, ca_19, ca_20, ca_21, ca_22, ca_23, ca_24, ca_25, ca_26, ca_27, ca_28, ca_29, ca_30, not_true_eq_false, not_false_eq_true, Int.reduceEq, Nat.reduceEqDiff, Nat.reduceLeDiff, rGcd, V.ty.injEq, eq_self, List.not_mem_nil, beq_self_eq_true, HO.lst.injEq, HO.tup.injEq, tFor_eq, iRng1, iList, iTup, nat10, tSeq, rIxA, rSetA, rIsN, rIsT, tTp, tLs, itsO_tup, itsO_lst, tyO_tup, tyO_lst, tyO_dK, tyN_non, tyN_bl, tyN_int, tyN_str, tyN_ref, tyNs_lt, isB, upd_same, upd_upd, sizeLine_eq, List.mem_cons, String.reduceBEq, String.reduceEq, Bool.or_false, Bool.or_true, Bool.and_false, Bool.false_or, Bool.and_self, Bool.false_and, Bool.not_false, Bool.not_true, List.any_cons, List.any_nil, atI_0, setI_0, atI_1, setI_1, atI_2, setI_2, atI_3, setI_3, atI_4, setI_4, atI_5, setI_5, atI_6, setI_6, tAsg, gName, tOp, tUn, tVar, tC, tCons, L2.tNil, tRet, tIfS, tTest, tCB, tCall, rI, rI0, rU, tNext, tB, tAnd, tOr, tNot, tAndV, tOrV, tNotV, tDrop, tIf, tPar, gSub, rIxL, rIxT, rEq, rNe, rSetL, tBits,
    L2.start, List.map_cons, List.map_nil, List.cons_append, List.nil_append, List.append_nil, List.length_cons, List.length_nil, List.replicate, Nat.reduceAdd, Nat.reduceSub, Nat.zero_add, List.getElem?_cons_zero, List.getElem?_cons_succ, List.set_cons_zero, List.set_cons_succ,
    Option.some.injEq, exists_eq_left', exists_eq_left, V.int.injEq, V.bl.injEq, V.ref.injEq, V.str.injEq, List.cons.injEq, reduceCtorEq, and_true, true_and, false_and, and_false, exists_false, or_false, false_or, or_true, true_or, exists_const, CMul, CDiv, CPow, and_assoc, exists_and_left, exists_and_right, Int.reducePow, Int.reduceNeg, Int.reduceLT, Int.reduceLE, Nat.reducePow, Nat.reduceLT, Int.reduceToNat, gt_iff_lt, ge_iff_le, decide_eq_true_eq, Bool.not_eq_true', decide_eq_false_iff_not, scal, ↓reduceIte, Bool.false_eq_true]
  refine ite2 (fun h => ?_) (fun h => ?_)
  · exact fun p hp kp => (q (0, 1) ⟨fun _ => rfl, fun z => absurd h z⟩).new hp kp
  have key : ∀ t' b' : Int, 0 < b' → b'.natAbs < 2 ^ 8000 → (∀ q, Is q t' b' → Gv K H Q q) → CDivW t' ((Int.gcd t' b' : Nat) : Int) ∧ CDivW b' ((Int.gcd t' b' : Nat) : Int) ∧ ∀ p, H p = none → K.lookup p = none → Q (.ref p) (upd H p (.tup [.int (t' / ((Int.gcd t' b' : Nat) : Int)), .int (b' / ((Int.gcd t' b' : Nat) : Int))])) := fun t' b' h0 hz hq => by
    have g0 := gcd_pos (t := t') (b := b') (by omega)
    have g1 := gcd_le (t := t') (b := b') (by omega)
    have g2 : ((Int.gcd t' b' : Nat) : Int).natAbs < 2 ^ 8000 := by rw [Int.natAbs_natCast]; omega
    exact ⟨wide_div (b := 8000) (by omega) g2 (by omega) (by omega), wide_div (b := 8000) (by omega) g2 (by omega) (by omega), fun p hp kp => (hq _ (is_div h0)).new hp kp⟩
  refine ite2 (fun hb => ?_) (fun hb => ?_)
  · have k := key (-t) (-b) (by omega) (by rw [Int.natAbs_neg]; exact hz) fun z hz => q z ⟨fun e => absurd e h, fun _ => is_neg hz⟩
    refine ⟨_, _, rfl, ?_⟩
    simp only [cx_K, decide_true, decide_false, reduceCtorEq, gTp, gCons, gNil, ca_0, ca_1, ca_2, ca_3, ca_4, ca_5, ca_6, ca_7, ca_8, ca_9, ca_10, ca_11, ca_12, ca_13, ca_14, ca_15, ca_16, ca_17, ca_18, ca_19, ca_20, ca_21, ca_22, ca_23, ca_24, ca_25, ca_26, ca_27, ca_28, ca_29, ca_30, not_true_eq_false, not_false_eq_true, Int.reduceEq, Nat.reduceEqDiff, Nat.reduceLeDiff, rGcd, V.ty.injEq, eq_self, List.not_mem_nil, beq_self_eq_true, HO.lst.injEq, HO.tup.injEq, tFor_eq, iRng1, iList, iTup, nat10, tSeq, rIxA, rSetA, rIsN, rIsT, tTp, tLs, itsO_tup, itsO_lst, tyO_tup, tyO_lst, tyO_dK, tyN_non, tyN_bl, tyN_int, tyN_str, tyN_ref, tyNs_lt, isB, upd_same, upd_upd, sizeLine_eq, List.mem_cons, String.reduceBEq, String.reduceEq, Bool.or_false, Bool.or_true, Bool.and_false, Bool.false_or, Bool.and_self, Bool.false_and, Bool.not_false, Bool.not_true, List.any_cons, List.any_nil, atI_0, setI_0, atI_1, setI_1, atI_2, setI_2, atI_3, setI_3, atI_4, setI_4, atI_5, setI_5, atI_6, setI_6, tAsg, gName, tOp, tUn, tVar, tC, tCons, L2.tNil, tRet, tIfS, tTest, tCB, tCall, rI, rI0, rU, tNext, tB, tAnd, tOr, tNot, tAndV, tOrV, tNotV, tDrop, tIf, tPar, gSub, rIxL, rIxT, rEq, rNe, rSetL, tBits,
    L2.start, List.map_cons, List.map_nil, List.cons_append, List.nil_append, List.append_nil, List.length_cons, List.length_nil, List.replicate, Nat.reduceAdd, Nat.reduceSub, Nat.zero_add, List.getElem?_cons_zero, List.getElem?_cons_succ, List.set_cons_zero, List.set_cons_succ,
    Option.some.injEq, exists_eq_left', exists_eq_left, V.int.injEq, V.bl.injEq, V.ref.injEq, V.str.injEq, List.cons.injEq, reduceCtorEq, and_true, true_and, false_and, and_false, exists_false, or_false, false_or, or_true, true_or, exists_const, CMul, CDiv, CPow, and_assoc, exists_and_left, exists_and_right, Int.reducePow, Int.reduceNeg, Int.reduceLT, Int.reduceLE, Nat.reducePow, Nat.reduceLT, Int.reduceToNat, gt_iff_lt, ge_iff_le, decide_eq_true_eq, Bool.not_eq_true', decide_eq_false_iff_not, scal, ↓reduceIte, Bool.false_eq_true]
    exact k
  · have k := key t b (by omega) hz fun z hz => q z ⟨fun e => absurd e h, fun _ => hz⟩
    refine ⟨_, _, rfl, ?_⟩
    simp only [cx_K, decide_true, decide_false, reduceCtorEq, gTp, gCons, gNil, ca_0, ca_1, ca_2, ca_3, ca_4, ca_5, ca_6, ca_7, ca_8, ca_9, ca_10, ca_11, ca_12, ca_13, ca_14, ca_15, ca_16, ca_17, ca_18, ca_19, ca_20, ca_21, ca_22, ca_23, ca_24, ca_25, ca_26, ca_27, ca_28, ca_29, ca_30, not_true_eq_false, not_false_eq_true, Int.reduceEq, Nat.reduceEqDiff, Nat.reduceLeDiff, rGcd, V.ty.injEq, eq_self, List.not_mem_nil, beq_self_eq_true, HO.lst.injEq, HO.tup.injEq, tFor_eq, iRng1, iList, iTup, nat10, tSeq, rIxA, rSetA, rIsN, rIsT, tTp, tLs, itsO_tup, itsO_lst, tyO_tup, tyO_lst, tyO_dK, tyN_non, tyN_bl, tyN_int, tyN_str, tyN_ref, tyNs_lt, isB, upd_same, upd_upd, sizeLine_eq, List.mem_cons, String.reduceBEq, String.reduceEq, Bool.or_false, Bool.or_true, Bool.and_false, Bool.false_or, Bool.and_self, Bool.false_and, Bool.not_false, Bool.not_true, List.any_cons, List.any_nil, atI_0, setI_0, atI_1, setI_1, atI_2, setI_2, atI_3, setI_3, atI_4, setI_4, atI_5, setI_5, atI_6, setI_6, tAsg, gName, tOp, tUn, tVar, tC, tCons, L2.tNil, tRet, tIfS, tTest, tCB, tCall, rI, rI0, rU, tNext, tB, tAnd, tOr, tNot, tAndV, tOrV, tNotV, tDrop, tIf, tPar, gSub, rIxL, rIxT, rEq, rNe, rSetL, tBits,
    L2.start, List.map_cons, List.map_nil, List.cons_append, List.nil_append, List.append_nil, List.length_cons, List.length_nil, List.replicate, Nat.reduceAdd, Nat.reduceSub, Nat.zero_add, List.getElem?_cons_zero, List.getElem?_cons_succ, List.set_cons_zero, List.set_cons_succ,
    Option.some.injEq, exists_eq_left', exists_eq_left, V.int.injEq, V.bl.injEq, V.ref.injEq, V.str.injEq, List.cons.injEq, reduceCtorEq, and_true, true_and, false_and, and_false, exists_false, or_false, false_or, or_true, true_or, exists_const, CMul, CDiv, CPow, and_assoc, exists_and_left, exists_and_right, Int.reducePow, Int.reduceNeg, Int.reduceLT, Int.reduceLE, Nat.reducePow, Nat.reduceLT, Int.reduceToNat, gt_iff_lt, ge_iff_le, decide_eq_true_eq, Bool.not_eq_true', decide_eq_false_iff_not, scal, ↓reduceIte, Bool.false_eq_true]
    exact k
end
end My

namespace My
open PySem PySem.Spec PyProof.Rows L2
section
variable {P : Program} {w : World} {K : PySem.W.Frag} {mg : Str → Option Value} {base : Heap}
end
structure DfnD (K : PySem.W.Frag) (mg : Str → Option Value) (x : Str) (st : Stmt) (ps : List Str) : Prop where
  ex : ∃ f fd dvs, FunD K x x (defArgs st) (defBody st) (defScope st) dvs [] f fd ∧ mg x = some (.ref f) ∧ Binds K fd ps []
theorem Kn.mkD {P : Program} {w : World} {K : PySem.W.Frag} {mg : Str → Option Value} {base : Heap} {x : Str} {st : Stmt} {N ps : List Str} {k : Nat} {sp : Sp} (D : DfnD K mg x st ps) (S : FnScope N ps (defScope st)) (len : ∀ vs H Q E, sp vs H Q E → vs.length = ps.length)
    (hbody : ∀ (f : Addr) (cdv : Value) (A : Around) (outer : List Env) (s : Shared) (H : Hp) (vs : List V) (Q : VK) (E : XK), Room k (A.deeper (envOfC x (defScope st) s.heap.objs.size f cdv)) → sp vs H Q E →
      ∃ t, PSs (cxOf CX0 P w K mg base N x (defScope st) f cdv A outer s H E).nox (defBody st) t ∧ t { nx := fun _ H' => Q .non H', rt := Q } (start N vs) H) : Kn P w K mg base (k + 1) x ps sp := by
  obtain ⟨f, fd, dvs, F, m, b⟩ := D.ex
  exact ⟨f, fd, m, F.kp, b, F.ok S len fun cdv A outer s H vs Q E hr h => let ⟨t, a, c⟩ := hbody f cdv A outer s H vs Q E hr h; ⟨t, a.nox, c⟩⟩
section
variable {P : Program} {w : World} {K : PySem.W.Frag} {mg : Str → Option Value} {base : Heap}
def spRequire : Sp := fun vs H Q _ => ∃ x : V, vs = [.bl true, x] ∧ Q .non H
abbrev sRequire : Stmt := topS 16
theorem scRequire : FnScope ["well_formed", "what"] ["well_formed", "what"] (defScope sRequire) := ⟨rfl, rfl, rfl, by decide +kernel, rfl, by decide +kernel, by decide +kernel⟩
theorem k_Require (T : Bt K mg) (D : Dfn K mg "require" sRequire ["well_formed", "what"]) : Kn P w K mg base 1 "require" ["well_formed", "what"] spRequire := by
  refine Kn.mk' D scRequire (fun vs H Q E h => ?_) (fun f cdv A outer s H vs Q E hr h => ?_)
  · obtain ⟨x, rfl, _⟩ := h
    rfl
  obtain ⟨x, rfl, q⟩ := h
  refine ⟨_, (pss_one (ps_if (pt_not (pt_val (pv 0))) (pss_one ps_never) pss_nil)), ?_⟩
  simp only [cx_K, decide_true, decide_false, reduceCtorEq, gTp, gCons, gNil, ca_0, ca_1, ca_2, ca_3, ca_4, ca_5, ca_6, ca_7, ca_8, ca_9, ca_10, ca_11, ca_12, ca_13, ca_14, ca_15, ca_16, ca_17, ca_18, ca_19, ca_20, ca_21, ca_22, ca_23, ca_24, ca_25, ca_26, ca_27, ca_28, ca_29, ca_30, not_true_eq_false, not_false_eq_true, Int.reduceEq, Nat.reduceEqDiff, Nat.reduceLeDiff, rGcd, V.ty.injEq, eq_self, List.not_mem_nil, beq_self_eq_true, HO.lst.injEq, HO.tup.injEq, tFor_eq, iRng1, iList, iTup, nat10, tSeq, rIxA, rSetA, rIsN, rIsT, tTp, tLs, itsO_tup, itsO_lst, tyO_tup, tyO_lst, tyO_dK, tyN_non, tyN_bl, tyN_int, tyN_str, tyN_ref, tyNs_lt, isB, upd_same, upd_upd, sizeLine_eq, List.mem_cons, String.reduceBEq, String.reduceEq, Bool.or_false, Bool.or_true, Bool.and_false, Bool.false_or, Bool.and_self, Bool.false_and, Bool.not_false, Bool.not_true, List.any_cons, List.any_nil, atI_0, setI_0, atI_1, setI_1, atI_2, setI_2, atI_3, setI_3, atI_4, setI_4, atI_5, setI_5, atI_6, setI_6, tAsg, gName, tOp, tUn, tVar, tC, tCons, L2.tNil, tRet, tIfS, tTest, tCB, tCall, rI, rI0, rU, tNext, tB, tAnd, tOr, tNot, tAndV, tOrV, tNotV, tDrop, tIf, tPar, gSub, rIxL, rIxT, rEq, rNe, rSetL, tBits,
    L2.start, List.map_cons, List.map_nil, List.cons_append, List.nil_append, List.append_nil, List.length_cons, List.length_nil, List.replicate, Nat.reduceAdd, Nat.reduceSub, Nat.zero_add, List.getElem?_cons_zero, List.getElem?_cons_succ, List.set_cons_zero, List.set_cons_succ,
    Option.some.injEq, exists_eq_left', exists_eq_left, V.int.injEq, V.bl.injEq, V.ref.injEq, V.str.injEq, List.cons.injEq, reduceCtorEq, and_true, true_and, false_and, and_false, exists_false, or_false, false_or, or_true, true_or, exists_const, CMul, CDiv, CPow, and_assoc, exists_and_left, exists_and_right, Int.reducePow, Int.reduceNeg, Int.reduceLT, Int.reduceLE, Nat.reducePow, Nat.reduceLT, Int.reduceToNat, gt_iff_lt, ge_iff_le, decide_eq_true_eq, Bool.not_eq_true', decide_eq_false_iff_not, scal, ↓reduceIte, Bool.false_eq_true]
  exact q
def wholeV : V → Bool
  | .int _ => true
  | _ => false
theorem wholeV_ty {H : Hp} {v : V} {t : String} (h : tyN K H v = some t) : wholeV v = (t == "int") := by
  cases v with
  | ref a =>
    have h1 : tyO (ob K H a) = some t := h
    unfold tyO at h1
    split at h1 <;> first | (cases h1; rfl) | cases h1
  | _ => first | (cases h; rfl) | cases h
def spWhole (K : PySem.W.Frag) : Sp := fun vs H Q _ => ∃ v, vs = [v] ∧ (tyN K H v).isSome ∧ Q (.bl (wholeV v)) H
abbrev sWhole : Stmt := topS 17
theorem scWhole : FnScope ["value"] ["value"] (defScope sWhole) := ⟨rfl, rfl, rfl, by decide +kernel, rfl, by decide +kernel, by decide +kernel⟩
theorem k_Whole (T : Bt K mg) (D : Dfn K mg "is_whole" sWhole ["value"]) : Kn P w K mg base 1 "is_whole" ["value"] (spWhole K) := by
  refine Kn.mk' D scWhole (fun vs H Q E h => ?_) (fun f cdv A outer s H vs Q E hr h => ?_)
  · obtain ⟨v, rfl, _⟩ := h
    rfl
  obtain ⟨v, rfl, hv, q⟩ := h
  refine ⟨_, (pss_one (ps_ret (pe_and (pe_callB call_isN (by rfl) T.b_isinstance (by decide +kernel) (pa_cons (pv 0) (pa_cons (pe_bltn (v := .ty "int") (by rfl) T.b_int (by decide +kernel) rfl) pa_nil))) (pe_one (pe_not (pe_callB call_isN (by rfl) T.b_isinstance (by decide +kernel) (pa_cons (pv 0) (pa_cons (pe_bltn (v := .ty "bool") (by rfl) T.b_bool (by decide +kernel) rfl) pa_nil)))))))), ?_⟩
  obtain ⟨t, ht⟩ := Option.isSome_iff_exists.mp hv
  rw [wholeV_ty ht] at q
  have mt := tyN_mem ht
  simp only [List.mem_cons, List.not_mem_nil, or_false] at mt
  rcases mt with rfl | rfl | rfl | rfl | rfl | rfl | rfl <;> (simp only [ht, cx_K, decide_true, decide_false, reduceCtorEq, gTp, gCons, gNil, ca_0, ca_1, ca_2, ca_3, ca_4, ca_5, ca_6, ca_7, ca_8, ca_9, ca_10, ca_11, ca_12, ca_13, ca_14, ca_15, ca_16, ca_17, ca_18, ca_19, ca_20, ca_21, ca_22, ca_23, ca_24, ca_25, ca_26, ca_27, ca_28, ca_29, ca_30, not_true_eq_false, not_false_eq_true, Int.reduceEq, Nat.reduceEqDiff, Nat.reduceLeDiff, rGcd, V.ty.injEq, eq_self, List.not_mem_nil, beq_self_eq_true, HO.lst.injEq, HO.tup.injEq, tFor_eq, iRng1, iList, iTup, nat10, tSeq, rIxA, rSetA, rIsN, rIsT, tTp, tLs, itsO_tup, itsO_lst, tyO_tup, tyO_lst, tyO_dK, tyN_non, tyN_bl, tyN_int, tyN_str, tyN_ref, tyNs_lt, isB, upd_same, upd_upd, sizeLine_eq, List.mem_cons, String.reduceBEq, String.reduceEq, Bool.or_false, Bool.or_true, Bool.and_false, Bool.false_or, Bool.and_self, Bool.false_and, Bool.not_false, Bool.not_true, List.any_cons, List.any_nil, atI_0, setI_0, atI_1, setI_1, atI_2, setI_2, atI_3, setI_3, atI_4, setI_4, atI_5, setI_5, atI_6, setI_6, tAsg, gName, tOp, tUn, tVar, tC, tCons, L2.tNil, tRet, tIfS, tTest, tCB, tCall, rI, rI0, rU, tNext, tB, tAnd, tOr, tNot, tAndV, tOrV, tNotV, tDrop, tIf, tPar, gSub, rIxL, rIxT, rEq, rNe, rSetL, tBits,
    L2.start, List.map_cons, List.map_nil, List.cons_append, List.nil_append, List.append_nil, List.length_cons, List.length_nil, List.replicate, Nat.reduceAdd, Nat.reduceSub, Nat.zero_add, List.getElem?_cons_zero, List.getElem?_cons_succ, List.set_cons_zero, List.set_cons_succ,
    Option.some.injEq, exists_eq_left', exists_eq_left, V.int.injEq, V.bl.injEq, V.ref.injEq, V.str.injEq, List.cons.injEq, reduceCtorEq, and_true, true_and, false_and, and_false, exists_false, or_false, false_or, or_true, true_or, exists_const, CMul, CDiv, CPow, and_assoc, exists_and_left, exists_and_right, Int.reducePow, Int.reduceNeg, Int.reduceLT, Int.reduceLE, Nat.reducePow, Nat.reduceLT, Int.reduceToNat, gt_iff_lt, ge_iff_le, decide_eq_true_eq, Bool.not_eq_true', decide_eq_false_iff_not, scal, ↓reduceIte, Bool.false_eq_true]; simpa using q)
abbrev sLWhole : Stmt := topS 59
theorem scLWhole : FnScope ["_law_told"] ["_law_told"] (defScope sLWhole) := ⟨rfl, rfl, rfl, by decide +kernel, rfl, by decide +kernel, by decide +kernel⟩
theorem k_LWhole (T : Bt K mg) (D : Dfn K mg "_law_is_whole" sLWhole ["_law_told"]) : Kn P w K mg base 1 "_law_is_whole" ["_law_told"] (spWhole K) := by
  refine Kn.mk' D scLWhole (fun vs H Q E h => ?_) (fun f cdv A outer s H vs Q E hr h => ?_)
  · obtain ⟨v, rfl, _⟩ := h
    rfl
  obtain ⟨v, rfl, hv, q⟩ := h
  refine ⟨_, (pss_one (ps_ret (pe_and (pe_callB call_isN (by rfl) T.b_isinstance (by decide +kernel) (pa_cons (pv 0) (pa_cons (pe_bltn (v := .ty "int") (by rfl) T.b_int (by decide +kernel) rfl) pa_nil))) (pe_one (pe_not (pe_callB call_isN (by rfl) T.b_isinstance (by decide +kernel) (pa_cons (pv 0) (pa_cons (pe_bltn (v := .ty "bool") (by rfl) T.b_bool (by decide +kernel) rfl) pa_nil)))))))), ?_⟩
  obtain ⟨t, ht⟩ := Option.isSome_iff_exists.mp hv
  rw [wholeV_ty ht] at q
  have mt := tyN_mem ht
  simp only [List.mem_cons, List.not_mem_nil, or_false] at mt
  rcases mt with rfl | rfl | rfl | rfl | rfl | rfl | rfl <;> (simp only [ht, cx_K, decide_true, decide_false, reduceCtorEq, gTp, gCons, gNil, ca_0, ca_1, ca_2, ca_3, ca_4, ca_5, ca_6, ca_7, ca_8, ca_9, ca_10, ca_11, ca_12, ca_13, ca_14, ca_15, ca_16, ca_17, ca_18, ca_19, ca_20, ca_21, ca_22, ca_23, ca_24, ca_25, ca_26, ca_27, ca_28, ca_29, ca_30, not_true_eq_false, not_false_eq_true, Int.reduceEq, Nat.reduceEqDiff, Nat.reduceLeDiff, rGcd, V.ty.injEq, eq_self, List.not_mem_nil, beq_self_eq_true, HO.lst.injEq, HO.tup.injEq, tFor_eq, iRng1, iList, iTup, nat10, tSeq, rIxA, rSetA, rIsN, rIsT, tTp, tLs, itsO_tup, itsO_lst, tyO_tup, tyO_lst, tyO_dK, tyN_non, tyN_bl, tyN_int, tyN_str, tyN_ref, tyNs_lt, isB, upd_same, upd_upd, sizeLine_eq, List.mem_cons, String.reduceBEq, String.reduceEq, Bool.or_false, Bool.or_true, Bool.and_false, Bool.false_or, Bool.and_self, Bool.false_and, Bool.not_false, Bool.not_true, List.any_cons, List.any_nil, atI_0, setI_0, atI_1, setI_1, atI_2, setI_2, atI_3, setI_3, atI_4, setI_4, atI_5, setI_5, atI_6, setI_6, tAsg, gName, tOp, tUn, tVar, tC, tCons, L2.tNil, tRet, tIfS, tTest, tCB, tCall, rI, rI0, rU, tNext, tB, tAnd, tOr, tNot, tAndV, tOrV, tNotV, tDrop, tIf, tPar, gSub, rIxL, rIxT, rEq, rNe, rSetL, tBits,
    L2.start, List.map_cons, List.map_nil, List.cons_append, List.nil_append, List.append_nil, List.length_cons, List.length_nil, List.replicate, Nat.reduceAdd, Nat.reduceSub, Nat.zero_add, List.getElem?_cons_zero, List.getElem?_cons_succ, List.set_cons_zero, List.set_cons_succ,
    Option.some.injEq, exists_eq_left', exists_eq_left, V.int.injEq, V.bl.injEq, V.ref.injEq, V.str.injEq, List.cons.injEq, reduceCtorEq, and_true, true_and, false_and, and_false, exists_false, or_false, false_or, or_true, true_or, exists_const, CMul, CDiv, CPow, and_assoc, exists_and_left, exists_and_right, Int.reducePow, Int.reduceNeg, Int.reduceLT, Int.reduceLE, Nat.reducePow, Nat.reduceLT, Int.reduceToNat, gt_iff_lt, ge_iff_le, decide_eq_true_eq, Bool.not_eq_true', decide_eq_false_iff_not, scal, ↓reduceIte, Bool.false_eq_true]; simpa using q)
def spFraction (K : PySem.W.Frag) : Sp := fun vs H Q _ => ∃ n d : Int, vs = [.int n, .int d] ∧ d ≠ 0 ∧ d.natAbs < 2 ^ 8000 ∧ ∀ q, Is q n d → Gv K H Q q
theorem gcdX {n d : Int} (h0 : d ≠ 0) (hz : d.natAbs < 2 ^ 8000) (x : Int) : CDivX x (if d < 0 then -((Int.gcd n d : Nat) : Int) else (Int.gcd n d : Nat)) := by
  have g0 := gcd_pos (t := n) (b := d) h0
  have g1 := gcd_le (t := n) (b := d) h0
  have e : 2 ^ 8000 ≤ 2 ^ 8999 := Nat.pow_le_pow_right (by omega) (by omega)
  unfold CDivX
  split <;> refine ⟨by omega, by omega⟩
abbrev sFraction : Stmt := topS 23
theorem scFraction : FnScope ["numerator", "denominator", "divisor"] ["numerator", "denominator"] (defScope sFraction) := ⟨rfl, rfl, rfl, by decide +kernel, rfl, by decide +kernel, by decide +kernel⟩
theorem k_Fraction (T : Bt K mg) (D : DfnD K mg "fraction" sFraction ["numerator", "denominator"]) (d_require : Kn P w K mg base 1 "require" ["well_formed", "what"] spRequire) (d_is_whole : Kn P w K mg base 1 "is_whole" ["value"] (spWhole K)) : Kn P w K mg base 2 "fraction" ["numerator", "denominator"] (spFraction K) := by
  refine Kn.mkD D scFraction (fun vs H Q E h => ?_) (fun f cdv A outer s H vs Q E hr h => ?_)
  · obtain ⟨n, d, rfl, _⟩ := h
    rfl
  obtain ⟨n, d, rfl, h0, hz, q⟩ := h
  refine ⟨_, (pss_cons (ps_expr (pe_kn d_require hr (by rfl) (pa_cons (pe_kn d_is_whole hr (by rfl) (pa_cons (pv 0) pa_nil)) (pa_cons pe_str pa_nil))))
      (pss_cons (ps_expr (pe_kn d_require hr (by rfl) (pa_cons (pe_and (pe_kn d_is_whole hr (by rfl) (pa_cons (pv 1) pa_nil)) (pe_one (pe_cmpR op_ne (pv 1) pe_int (nomark _)))) (pa_cons pe_str pa_nil))))
      (pss_cons (ps_set (i := 2) scFraction.nd rfl (.inl rfl) (pe_callBfun cr_gcd (by rfl) T.g_gcd (pa_cons (pv 0) (pa_cons (pv 1) pa_nil))))
      (pss_cons (ps_if (pt_cmpR op_lt (pv 1) pe_int (nomark _)) (pss_one (ps_set (i := 2) scFraction.nd rfl (.inl rfl) (pe_un un_neg (pv 2)))) pss_nil)
      (pss_one (ps_ret (pe_tp (pa_cons (pe_op op_fdivX (pv 0) (pv 2)) (pa_cons (pe_op op_fdivX (pv 1) (pv 2)) pa_nil))))))))), ?_⟩
  simp only [cx_K, decide_true, decide_false, reduceCtorEq, gTp, gCons, gNil, ca_0, ca_1, ca_2, ca_3, ca_4, ca_5, ca_6, ca_7, ca_8, ca_9, ca_10, ca_11, ca_12, ca_13, ca_14, ca_15, ca_16, ca_17, ca_18, ca_19, ca_20, ca_21, ca_22, ca_23, ca_24, ca_25, ca_26, ca_27, ca_28, ca_29, ca_30, not_true_eq_false, not_false_eq_true, Int.reduceEq, Nat.reduceEqDiff, Nat.reduceLeDiff, rGcd, V.ty.injEq, eq_self, List.not_mem_nil, beq_self_eq_true, HO.lst.injEq, HO.tup.injEq, tFor_eq, iRng1, iList, iTup, nat10, tSeq, rIxA, rSetA, rIsN, rIsT, tTp, tLs, itsO_tup, itsO_lst, tyO_tup, tyO_lst, tyO_dK, tyN_non, tyN_bl, tyN_int, tyN_str, tyN_ref, tyNs_lt, isB, upd_same, upd_upd, sizeLine_eq, List.mem_cons, String.reduceBEq, String.reduceEq, Bool.or_false, Bool.or_true, Bool.and_false, Bool.false_or, Bool.and_self, Bool.false_and, Bool.not_false, Bool.not_true, List.any_cons, List.any_nil, atI_0, setI_0, atI_1, setI_1, atI_2, setI_2, atI_3, setI_3, atI_4, setI_4, atI_5, setI_5, atI_6, setI_6, tAsg, gName, tOp, tUn, tVar, tC, tCons, L2.tNil, tRet, tIfS, tTest, tCB, tCall, rI, rI0, rU, tNext, tB, tAnd, tOr, tNot, tAndV, tOrV, tNotV, tDrop, tIf, tPar, gSub, rIxL, rIxT, rEq, rNe, rSetL, tBits,
    L2.start, List.map_cons, List.map_nil, List.cons_append, List.nil_append, List.append_nil, List.length_cons, List.length_nil, List.replicate, Nat.reduceAdd, Nat.reduceSub, Nat.zero_add, List.getElem?_cons_zero, List.getElem?_cons_succ, List.set_cons_zero, List.set_cons_succ,
    Option.some.injEq, exists_eq_left', exists_eq_left, V.int.injEq, V.bl.injEq, V.ref.injEq, V.str.injEq, List.cons.injEq, reduceCtorEq, and_true, true_and, false_and, and_false, exists_false, or_false, false_or, or_true, true_or, exists_const, CMul, CDiv, CPow, and_assoc, exists_and_left, exists_and_right, Int.reducePow, Int.reduceNeg, Int.reduceLT, Int.reduceLE, Nat.reducePow, Nat.reduceLT, Int.reduceToNat, gt_iff_lt, ge_iff_le, decide_eq_true_eq, Bool.not_eq_true', decide_eq_false_iff_not, scal, ↓reduceIte, Bool.false_eq_true]
  refine ⟨_, rfl, rfl, ⟨_, rfl, ⟨_, rfl, rfl, ⟨true, rfl, ?_⟩⟩⟩⟩
  rw [if_pos rfl]
  refine ⟨_, by rw [decide_eq_false h0]; rfl, ?_⟩
  simp only [cx_K, decide_true, decide_false, reduceCtorEq, gTp, gCons, gNil, ca_0, ca_1, ca_2, ca_3, ca_4, ca_5, ca_6, ca_7, ca_8, ca_9, ca_10, ca_11, ca_12, ca_13, ca_14, ca_15, ca_16, ca_17, ca_18, ca_19, ca_20, ca_21, ca_22, ca_23, ca_24, ca_25, ca_26, ca_27, ca_28, ca_29, ca_30, not_true_eq_false, not_false_eq_true, Int.reduceEq, Nat.reduceEqDiff, Nat.reduceLeDiff, rGcd, V.ty.injEq, eq_self, List.not_mem_nil, beq_self_eq_true, HO.lst.injEq, HO.tup.injEq, tFor_eq, iRng1, iList, iTup, nat10, tSeq, rIxA, rSetA, rIsN, rIsT, tTp, tLs, itsO_tup, itsO_lst, tyO_tup, tyO_lst, tyO_dK, tyN_non, tyN_bl, tyN_int, tyN_str, tyN_ref, tyNs_lt, isB, upd_same, upd_upd, sizeLine_eq, List.mem_cons, String.reduceBEq, String.reduceEq, Bool.or_false, Bool.or_true, Bool.and_false, Bool.false_or, Bool.and_self, Bool.false_and, Bool.not_false, Bool.not_true, List.any_cons, List.any_nil, atI_0, setI_0, atI_1, setI_1, atI_2, setI_2, atI_3, setI_3, atI_4, setI_4, atI_5, setI_5, atI_6, setI_6, tAsg, gName, tOp, tUn, tVar, tC, tCons, L2.tNil, tRet, tIfS, tTest, tCB, tCall, rI, rI0, rU, tNext, tB, tAnd, tOr, tNot, tAndV, tOrV, tNotV, tDrop, tIf, tPar, gSub, rIxL, rIxT, rEq, rNe, rSetL, tBits,
    L2.start, List.map_cons, List.map_nil, List.cons_append, List.nil_append, List.append_nil, List.length_cons, List.length_nil, List.replicate, Nat.reduceAdd, Nat.reduceSub, Nat.zero_add, List.getElem?_cons_zero, List.getElem?_cons_succ, List.set_cons_zero, List.set_cons_succ,
    Option.some.injEq, exists_eq_left', exists_eq_left, V.int.injEq, V.bl.injEq, V.ref.injEq, V.str.injEq, List.cons.injEq, reduceCtorEq, and_true, true_and, false_and, and_false, exists_false, or_false, false_or, or_true, true_or, exists_const, CMul, CDiv, CPow, and_assoc, exists_and_left, exists_and_right, Int.reducePow, Int.reduceNeg, Int.reduceLT, Int.reduceLE, Nat.reducePow, Nat.reduceLT, Int.reduceToNat, gt_iff_lt, ge_iff_le, decide_eq_true_eq, Bool.not_eq_true', decide_eq_false_iff_not, scal, ↓reduceIte, Bool.false_eq_true]
  have k := gcdX (n := n) h0 hz
  have v := is_fdiv (t := n) h0
  refine ite2 (fun h => ?_) (fun h => ?_)
  · rw [if_pos h] at v
    simp only [if_pos h] at k
    exact ⟨k _, k _, fun p hp kp => (q _ v).new hp kp⟩
  · rw [if_neg h] at v
    simp only [if_neg h] at k
    exact ⟨k _, k _, fun p hp kp => (q _ v).new hp kp⟩
def frOk (K : PySem.W.Frag) (H : Hp) : V → Bool
  | .ref a => match ob K H a with
    | some (.tup [.int n, .int d]) => decide (1 ≤ d) && decide (Int.gcd n d = 1)
    | _ => false
  | _ => false
theorem frOk_fr {H : Hp} {a : Addr} {q : Qt} (h : ob K H a = some (frt q)) (hn : Nf q) : frOk K H (.ref a) = true := by
  simp only [frOk, h, frt]
  show (decide (1 ≤ q.2) && decide (Int.gcd q.1 q.2 = 1)) = true
  rw [decide_eq_true hn.1, decide_eq_true hn.2]
  rfl
/-- v and, if it is a tuple, its items are of known kinds -/
def Tyd (K : PySem.W.Frag) (H : Hp) (v : V) : Prop := (tyN K H v).isSome ∧ ∀ a xs, v = .ref a → ob K H a = some (.tup xs) → ∀ x ∈ xs, (tyN K H x).isSome
theorem Tyd.fr {H : Hp} {a : Addr} {q : Qt} (h : ob K H a = some (frt q)) : Tyd K H (.ref a) := by
  refine ⟨by rw [tyN_ref, h]; rfl, fun b xs e hx x hm => ?_⟩
  cases e
  rw [h] at hx
  cases hx
  simp only [List.mem_cons, List.not_mem_nil, or_false] at hm
  rcases hm with rfl | rfl <;> rfl
theorem tyN_tuple {H : Hp} {v : V} (h : tyN K H v = some "tuple") : ∃ a xs, v = .ref a ∧ ob K H a = some (.tup xs) := by
  cases v with
  | ref a =>
    have h1 : tyO (ob K H a) = some "tuple" := h
    unfold tyO at h1
    split at h1 <;> first | exact ⟨a, _, rfl, by assumption⟩ | (exfalso; revert h1; decide)
  | _ => exfalso; revert h; simp only [tyN]; decide
def spIsFraction (K : PySem.W.Frag) : Sp := fun vs H Q _ => ∃ v, vs = [v] ∧ Tyd K H v ∧ Q (.bl (frOk K H v)) H
abbrev sIsFraction : Stmt := topS 24
theorem scIsFraction : FnScope ["value", "numerator", "denominator"] ["value"] (defScope sIsFraction) := ⟨rfl, rfl, rfl, by decide +kernel, rfl, by decide +kernel, by decide +kernel⟩
theorem k_IsFraction (T : Bt K mg) (D : Dfn K mg "is_fraction" sIsFraction ["value"]) (d_is_whole : Kn P w K mg base 1 "is_whole" ["value"] (spWhole K)) : Kn P w K mg base 2 "is_fraction" ["value"] (spIsFraction K) := by
  refine Kn.mk' D scIsFraction (fun vs H Q E h => ?_) (fun f cdv A outer s H vs Q E hr h => ?_)
  · obtain ⟨v, rfl, _⟩ := h
    rfl
  obtain ⟨v, rfl, hv, q⟩ := h
  refine ⟨_, (pss_cons (ps_if (PW.pt (pw_or (pt_not (pt_val (pe_callB call_isN (by rfl) T.b_isinstance (by decide +kernel) (pa_cons (pv 0) (pa_cons (pe_bltn (v := .ty "tuple") (by rfl) T.b_tuple (by decide +kernel) rfl) pa_nil))))) (pw_or1 (pt_cmpR op_ne (pe_callB call_lenA (by rfl) T.b_len PySem.boot_len (pa_cons (pv 0) pa_nil)) pe_int (nomark _))))) (pss_one (ps_ret pe_bl)) pss_nil)
      (pss_cons (ps_asg (pv 0) (pg_tp 2 (by rfl) (pgs_cons (pg_name (i := 1) scIsFraction.nd rfl (.inl rfl)) (pgs_cons (pg_name (i := 2) scIsFraction.nd rfl (.inl rfl)) pgs_nil))))
      (pss_cons (ps_if (PW.pt (pw_or (pt_not (pt_val (pe_kn d_is_whole hr (by rfl) (pa_cons (pv 1) pa_nil)))) (pw_or1 (pt_not (pt_val (pe_kn d_is_whole hr (by rfl) (pa_cons (pv 2) pa_nil))))))) (pss_one (ps_ret pe_bl)) pss_nil)
      (pss_one (ps_ret (pe_and (pe_cmpR op_ge (pv 2) pe_int (nomark _)) (pe_one (pe_cmpR op_eq (pe_callBfun cr_gcd (by rfl) T.g_gcd (pa_cons (pv 1) (pa_cons (pv 2) pa_nil))) pe_int (nomark _))))))))), ?_⟩
  obtain ⟨t, ht⟩ := Option.isSome_iff_exists.mp hv.1
  by_cases e : t = "tuple"
  · subst e
    obtain ⟨a, xs, rfl, ha⟩ := tyN_tuple ht
    have hx := hv.2 a xs rfl ha
    match xs, ha, hx with
    | [], ha, hx =>
      have e : frOk K H (.ref a) = false := by simp only [frOk, ha]
      rw [e] at q
      simp only [ha, cx_K, decide_true, decide_false, reduceCtorEq, gTp, gCons, gNil, ca_0, ca_1, ca_2, ca_3, ca_4, ca_5, ca_6, ca_7, ca_8, ca_9, ca_10, ca_11, ca_12, ca_13, ca_14, ca_15, ca_16, ca_17, ca_18, ca_19, ca_20, ca_21, ca_22, ca_23, ca_24, ca_25, ca_26, ca_27, ca_28, ca_29, ca_30, not_true_eq_false, not_false_eq_true, Int.reduceEq, Nat.reduceEqDiff, Nat.reduceLeDiff, rGcd, V.ty.injEq, eq_self, List.not_mem_nil, beq_self_eq_true, HO.lst.injEq, HO.tup.injEq, tFor_eq, iRng1, iList, iTup, nat10, tSeq, rIxA, rSetA, rIsN, rIsT, tTp, tLs, itsO_tup, itsO_lst, tyO_tup, tyO_lst, tyO_dK, tyN_non, tyN_bl, tyN_int, tyN_str, tyN_ref, tyNs_lt, isB, upd_same, upd_upd, sizeLine_eq, List.mem_cons, String.reduceBEq, String.reduceEq, Bool.or_false, Bool.or_true, Bool.and_false, Bool.false_or, Bool.and_self, Bool.false_and, Bool.not_false, Bool.not_true, List.any_cons, List.any_nil, atI_0, setI_0, atI_1, setI_1, atI_2, setI_2, atI_3, setI_3, atI_4, setI_4, atI_5, setI_5, atI_6, setI_6, tAsg, gName, tOp, tUn, tVar, tC, tCons, L2.tNil, tRet, tIfS, tTest, tCB, tCall, rI, rI0, rU, tNext, tB, tAnd, tOr, tNot, tAndV, tOrV, tNotV, tDrop, tIf, tPar, gSub, rIxL, rIxT, rEq, rNe, rSetL, tBits,
    L2.start, List.map_cons, List.map_nil, List.cons_append, List.nil_append, List.append_nil, List.length_cons, List.length_nil, List.replicate, Nat.reduceAdd, Nat.reduceSub, Nat.zero_add, List.getElem?_cons_zero, List.getElem?_cons_succ, List.set_cons_zero, List.set_cons_succ,
    Option.some.injEq, exists_eq_left', exists_eq_left, V.int.injEq, V.bl.injEq, V.ref.injEq, V.str.injEq, List.cons.injEq, reduceCtorEq, and_true, true_and, false_and, and_false, exists_false, or_false, false_or, or_true, true_or, exists_const, CMul, CDiv, CPow, and_assoc, exists_and_left, exists_and_right, Int.reducePow, Int.reduceNeg, Int.reduceLT, Int.reduceLE, Nat.reducePow, Nat.reduceLT, Int.reduceToNat, gt_iff_lt, ge_iff_le, decide_eq_true_eq, Bool.not_eq_true', decide_eq_false_iff_not, scal, ↓reduceIte, Bool.false_eq_true]
      exact q
    | [x], ha, hx =>
      have e : frOk K H (.ref a) = false := by simp only [frOk, ha]
      rw [e] at q
      simp only [ha, cx_K, decide_true, decide_false, reduceCtorEq, gTp, gCons, gNil, ca_0, ca_1, ca_2, ca_3, ca_4, ca_5, ca_6, ca_7, ca_8, ca_9, ca_10, ca_11, ca_12, ca_13, ca_14, ca_15, ca_16, ca_17, ca_18, ca_19, ca_20, ca_21, ca_22, ca_23, ca_24, ca_25, ca_26, ca_27, ca_28, ca_29, ca_30, not_true_eq_false, not_false_eq_true, Int.reduceEq, Nat.reduceEqDiff, Nat.reduceLeDiff, rGcd, V.ty.injEq, eq_self, List.not_mem_nil, beq_self_eq_true, HO.lst.injEq, HO.tup.injEq, tFor_eq, iRng1, iList, iTup, nat10, tSeq, rIxA, rSetA, rIsN, rIsT, tTp, tLs, itsO_tup, itsO_lst, tyO_tup, tyO_lst, tyO_dK, tyN_non, tyN_bl, tyN_int, tyN_str, tyN_ref, tyNs_lt, isB, upd_same, upd_upd, sizeLine_eq, List.mem_cons, String.reduceBEq, String.reduceEq, Bool.or_false, Bool.or_true, Bool.and_false, Bool.false_or, Bool.and_self, Bool.false_and, Bool.not_false, Bool.not_true, List.any_cons, List.any_nil, atI_0, setI_0, atI_1, setI_1, atI_2, setI_2, atI_3, setI_3, atI_4, setI_4, atI_5, setI_5, atI_6, setI_6, tAsg, gName, tOp, tUn, tVar, tC, tCons, L2.tNil, tRet, tIfS, tTest, tCB, tCall, rI, rI0, rU, tNext, tB, tAnd, tOr, tNot, tAndV, tOrV, tNotV, tDrop, tIf, tPar, gSub, rIxL, rIxT, rEq, rNe, rSetL, tBits,
    L2.start, List.map_cons, List.map_nil, List.cons_append, List.nil_append, List.append_nil, List.length_cons, List.length_nil, List.replicate, Nat.reduceAdd, Nat.reduceSub, Nat.zero_add, List.getElem?_cons_zero, List.getElem?_cons_succ, List.set_cons_zero, List.set_cons_succ,
    Option.some.injEq, exists_eq_left', exists_eq_left, V.int.injEq, V.bl.injEq, V.ref.injEq, V.str.injEq, List.cons.injEq, reduceCtorEq, and_true, true_and, false_and, and_false, exists_false, or_false, false_or, or_true, true_or, exists_const, CMul, CDiv, CPow, and_assoc, exists_and_left, exists_and_right, Int.reducePow, Int.reduceNeg, Int.reduceLT, Int.reduceLE, Nat.reducePow, Nat.reduceLT, Int.reduceToNat, gt_iff_lt, ge_iff_le, decide_eq_true_eq, Bool.not_eq_true', decide_eq_false_iff_not, scal, ↓reduceIte, Bool.false_eq_true]
      exact q
    | [x, y], ha, hx =>
      have hx1 := hx x (by simp)
      have hx2 := hx y (by simp)
      simp only [ha, cx_K, decide_true, decide_false, reduceCtorEq, gTp, gCons, gNil, ca_0, ca_1, ca_2, ca_3, ca_4, ca_5, ca_6, ca_7, ca_8, ca_9, ca_10, ca_11, ca_12, ca_13, ca_14, ca_15, ca_16, ca_17, ca_18, ca_19, ca_20, ca_21, ca_22, ca_23, ca_24, ca_25, ca_26, ca_27, ca_28, ca_29, ca_30, not_true_eq_false, not_false_eq_true, Int.reduceEq, Nat.reduceEqDiff, Nat.reduceLeDiff, rGcd, V.ty.injEq, eq_self, List.not_mem_nil, beq_self_eq_true, HO.lst.injEq, HO.tup.injEq, tFor_eq, iRng1, iList, iTup, nat10, tSeq, rIxA, rSetA, rIsN, rIsT, tTp, tLs, itsO_tup, itsO_lst, tyO_tup, tyO_lst, tyO_dK, tyN_non, tyN_bl, tyN_int, tyN_str, tyN_ref, tyNs_lt, isB, upd_same, upd_upd, sizeLine_eq, List.mem_cons, String.reduceBEq, String.reduceEq, Bool.or_false, Bool.or_true, Bool.and_false, Bool.false_or, Bool.and_self, Bool.false_and, Bool.not_false, Bool.not_true, List.any_cons, List.any_nil, atI_0, setI_0, atI_1, setI_1, atI_2, setI_2, atI_3, setI_3, atI_4, setI_4, atI_5, setI_5, atI_6, setI_6, tAsg, gName, tOp, tUn, tVar, tC, tCons, L2.tNil, tRet, tIfS, tTest, tCB, tCall, rI, rI0, rU, tNext, tB, tAnd, tOr, tNot, tAndV, tOrV, tNotV, tDrop, tIf, tPar, gSub, rIxL, rIxT, rEq, rNe, rSetL, tBits,
    L2.start, List.map_cons, List.map_nil, List.cons_append, List.nil_append, List.append_nil, List.length_cons, List.length_nil, List.replicate, Nat.reduceAdd, Nat.reduceSub, Nat.zero_add, List.getElem?_cons_zero, List.getElem?_cons_succ, List.set_cons_zero, List.set_cons_succ,
    Option.some.injEq, exists_eq_left', exists_eq_left, V.int.injEq, V.bl.injEq, V.ref.injEq, V.str.injEq, List.cons.injEq, reduceCtorEq, and_true, true_and, false_and, and_false, exists_false, or_false, false_or, or_true, true_or, exists_const, CMul, CDiv, CPow, and_assoc, exists_and_left, exists_and_right, Int.reducePow, Int.reduceNeg, Int.reduceLT, Int.reduceLE, Nat.reducePow, Nat.reduceLT, Int.reduceToNat, gt_iff_lt, ge_iff_le, decide_eq_true_eq, Bool.not_eq_true', decide_eq_false_iff_not, scal, ↓reduceIte, Bool.false_eq_true]
      refine ⟨_, rfl, hx1, ?_⟩
      cases x with
      | int n =>
        refine ⟨true, rfl, ?_⟩
        rw [if_neg Bool.noConfusion]
        refine ⟨_, rfl, hx2, ?_⟩
        cases y with
        | int d =>
          refine ⟨true, rfl, ?_⟩
          rw [if_neg Bool.noConfusion]
          simp only [ha, cx_K, decide_true, decide_false, reduceCtorEq, gTp, gCons, gNil, ca_0, ca_1, ca_2, ca_3, ca_4, ca_5, ca_6, ca_7, ca_8, ca_9, ca_10, ca_11, ca_12, ca_13, ca_14, ca_15, ca_16, ca_17, ca_18, ca_19, ca_20, ca_21, ca_22, ca_23, ca_24, ca_25, ca_26, ca_27, ca_28, ca_29, ca_30, not_true_eq_false, not_false_eq_true, Int.reduceEq, Nat.reduceEqDiff, Nat.reduceLeDiff, rGcd, V.ty.injEq, eq_self, List.not_mem_nil, beq_self_eq_true, HO.lst.injEq, HO.tup.injEq, tFor_eq, iRng1, iList, iTup, nat10, tSeq, rIxA, rSetA, rIsN, rIsT, tTp, tLs, itsO_tup, itsO_lst, tyO_tup, tyO_lst, tyO_dK, tyN_non, tyN_bl, tyN_int, tyN_str, tyN_ref, tyNs_lt, isB, upd_same, upd_upd, sizeLine_eq, List.mem_cons, String.reduceBEq, String.reduceEq, Bool.or_false, Bool.or_true, Bool.and_false, Bool.false_or, Bool.and_self, Bool.false_and, Bool.not_false, Bool.not_true, List.any_cons, List.any_nil, atI_0, setI_0, atI_1, setI_1, atI_2, setI_2, atI_3, setI_3, atI_4, setI_4, atI_5, setI_5, atI_6, setI_6, tAsg, gName, tOp, tUn, tVar, tC, tCons, L2.tNil, tRet, tIfS, tTest, tCB, tCall, rI, rI0, rU, tNext, tB, tAnd, tOr, tNot, tAndV, tOrV, tNotV, tDrop, tIf, tPar, gSub, rIxL, rIxT, rEq, rNe, rSetL, tBits,
    L2.start, List.map_cons, List.map_nil, List.cons_append, List.nil_append, List.append_nil, List.length_cons, List.length_nil, List.replicate, Nat.reduceAdd, Nat.reduceSub, Nat.zero_add, List.getElem?_cons_zero, List.getElem?_cons_succ, List.set_cons_zero, List.set_cons_succ,
    Option.some.injEq, exists_eq_left', exists_eq_left, V.int.injEq, V.bl.injEq, V.ref.injEq, V.str.injEq, List.cons.injEq, reduceCtorEq, and_true, true_and, false_and, and_false, exists_false, or_false, false_or, or_true, true_or, exists_const, CMul, CDiv, CPow, and_assoc, exists_and_left, exists_and_right, Int.reducePow, Int.reduceNeg, Int.reduceLT, Int.reduceLE, Nat.reducePow, Nat.reduceLT, Int.reduceToNat, gt_iff_lt, ge_iff_le, decide_eq_true_eq, Bool.not_eq_true', decide_eq_false_iff_not, scal, ↓reduceIte, Bool.false_eq_true]
          refine ite2 (fun h => ?_) (fun h => ?_)
          · have e : frOk K H (.ref a) = decide (((n.natAbs.gcd d.natAbs : Nat) : Int) = 1) := by
              simp only [frOk, ha]
              rw [decide_eq_true h, Bool.true_and]
              show decide (Nat.gcd n.natAbs d.natAbs = 1) = _
              exact decide_eq_decide.mpr (by omega)
            rw [e] at q
            exact q
          · have e : frOk K H (.ref a) = false := by
              simp only [frOk, ha]
              rw [decide_eq_false h, Bool.false_and]
            rw [e] at q
            exact q
        | _ =>
          refine ⟨false, rfl, ?_⟩
          rw [if_pos rfl]
          have e : frOk K H (.ref a) = false := by simp only [frOk, ha]
          rw [e] at q
          exact q
      | _ =>
        refine ⟨false, rfl, ?_⟩
        rw [if_pos rfl]
        have e : frOk K H (.ref a) = false := by simp only [frOk, ha]
        rw [e] at q
        exact q
    | x :: y :: z :: r, ha, hx =>
      have e : frOk K H (.ref a) = false := by simp only [frOk, ha]
      rw [e] at q
      simp only [ha, cx_K, decide_true, decide_false, reduceCtorEq, gTp, gCons, gNil, ca_0, ca_1, ca_2, ca_3, ca_4, ca_5, ca_6, ca_7, ca_8, ca_9, ca_10, ca_11, ca_12, ca_13, ca_14, ca_15, ca_16, ca_17, ca_18, ca_19, ca_20, ca_21, ca_22, ca_23, ca_24, ca_25, ca_26, ca_27, ca_28, ca_29, ca_30, not_true_eq_false, not_false_eq_true, Int.reduceEq, Nat.reduceEqDiff, Nat.reduceLeDiff, rGcd, V.ty.injEq, eq_self, List.not_mem_nil, beq_self_eq_true, HO.lst.injEq, HO.tup.injEq, tFor_eq, iRng1, iList, iTup, nat10, tSeq, rIxA, rSetA, rIsN, rIsT, tTp, tLs, itsO_tup, itsO_lst, tyO_tup, tyO_lst, tyO_dK, tyN_non, tyN_bl, tyN_int, tyN_str, tyN_ref, tyNs_lt, isB, upd_same, upd_upd, sizeLine_eq, List.mem_cons, String.reduceBEq, String.reduceEq, Bool.or_false, Bool.or_true, Bool.and_false, Bool.false_or, Bool.and_self, Bool.false_and, Bool.not_false, Bool.not_true, List.any_cons, List.any_nil, atI_0, setI_0, atI_1, setI_1, atI_2, setI_2, atI_3, setI_3, atI_4, setI_4, atI_5, setI_5, atI_6, setI_6, tAsg, gName, tOp, tUn, tVar, tC, tCons, L2.tNil, tRet, tIfS, tTest, tCB, tCall, rI, rI0, rU, tNext, tB, tAnd, tOr, tNot, tAndV, tOrV, tNotV, tDrop, tIf, tPar, gSub, rIxL, rIxT, rEq, rNe, rSetL, tBits,
    L2.start, List.map_cons, List.map_nil, List.cons_append, List.nil_append, List.append_nil, List.length_cons, List.length_nil, List.replicate, Nat.reduceAdd, Nat.reduceSub, Nat.zero_add, List.getElem?_cons_zero, List.getElem?_cons_succ, List.set_cons_zero, List.set_cons_succ,
    Option.some.injEq, exists_eq_left', exists_eq_left, V.int.injEq, V.bl.injEq, V.ref.injEq, V.str.injEq, List.cons.injEq, reduceCtorEq, and_true, true_and, false_and, and_false, exists_false, or_false, false_or, or_true, true_or, exists_const, CMul, CDiv, CPow, and_assoc, exists_and_left, exists_and_right, Int.reducePow, Int.reduceNeg, Int.reduceLT, Int.reduceLE, Nat.reducePow, Nat.reduceLT, Int.reduceToNat, gt_iff_lt, ge_iff_le, decide_eq_true_eq, Bool.not_eq_true', decide_eq_false_iff_not, scal, ↓reduceIte, Bool.false_eq_true]
      refine ite2 (fun h => q) (fun h => ?_)
      exfalso
      omega
  · have e1 : frOk K H v = false := by
      cases v with
      | ref a =>
        have h1 : tyO (ob K H a) = some t := ht
        cases hz : ob K H a with
        | none => simp only [frOk, hz]
        | some z =>
          cases z with
          | tup xs =>
            rw [hz] at h1
            exact absurd (Option.some.inj h1).symm e
          | _ => simp only [frOk, hz]
      | _ => rfl
    rw [e1] at q
    have mt := tyN_mem ht
    simp only [List.mem_cons, List.not_mem_nil, or_false] at mt
    rcases mt with rfl | rfl | rfl | rfl | rfl | rfl | rfl <;> first | exact absurd rfl e | (simp only [ht, cx_K, decide_true, decide_false, reduceCtorEq, gTp, gCons, gNil, ca_0, ca_1, ca_2, ca_3, ca_4, ca_5, ca_6, ca_7, ca_8, ca_9, ca_10, ca_11, ca_12, ca_13, ca_14, ca_15, ca_16, ca_17, ca_18, ca_19, ca_20, ca_21, ca_22, ca_23, ca_24, ca_25, ca_26, ca_27, ca_28, ca_29, ca_30, not_true_eq_false, not_false_eq_true, Int.reduceEq, Nat.reduceEqDiff, Nat.reduceLeDiff, rGcd, V.ty.injEq, eq_self, List.not_mem_nil, beq_self_eq_true, HO.lst.injEq, HO.tup.injEq, tFor_eq, iRng1, iList, iTup, nat10, tSeq, rIxA, rSetA, rIsN, rIsT, tTp, tLs, itsO_tup, itsO_lst, tyO_tup, tyO_lst, tyO_dK, tyN_non, tyN_bl, tyN_int, tyN_str, tyN_ref, tyNs_lt, isB, upd_same, upd_upd, sizeLine_eq, List.mem_cons, String.reduceBEq, String.reduceEq, Bool.or_false, Bool.or_true, Bool.and_false, Bool.false_or, Bool.and_self, Bool.false_and, Bool.not_false, Bool.not_true, List.any_cons, List.any_nil, atI_0, setI_0, atI_1, setI_1, atI_2, setI_2, atI_3, setI_3, atI_4, setI_4, atI_5, setI_5, atI_6, setI_6, tAsg, gName, tOp, tUn, tVar, tC, tCons, L2.tNil, tRet, tIfS, tTest, tCB, tCall, rI, rI0, rU, tNext, tB, tAnd, tOr, tNot, tAndV, tOrV, tNotV, tDrop, tIf, tPar, gSub, rIxL, rIxT, rEq, rNe, rSetL, tBits,
    L2.start, List.map_cons, List.map_nil, List.cons_append, List.nil_append, List.append_nil, List.length_cons, List.length_nil, List.replicate, Nat.reduceAdd, Nat.reduceSub, Nat.zero_add, List.getElem?_cons_zero, List.getElem?_cons_succ, List.set_cons_zero, List.set_cons_succ,
    Option.some.injEq, exists_eq_left', exists_eq_left, V.int.injEq, V.bl.injEq, V.ref.injEq, V.str.injEq, List.cons.injEq, reduceCtorEq, and_true, true_and, false_and, and_false, exists_false, or_false, false_or, or_true, true_or, exists_const, CMul, CDiv, CPow, and_assoc, exists_and_left, exists_and_right, Int.reducePow, Int.reduceNeg, Int.reduceLT, Int.reduceLE, Nat.reducePow, Nat.reduceLT, Int.reduceToNat, gt_iff_lt, ge_iff_le, decide_eq_true_eq, Bool.not_eq_true', decide_eq_false_iff_not, scal, ↓reduceIte, Bool.false_eq_true]; exact q)
end
end My

namespace My
open PySem PySem.Spec PyProof.Rows L2
section
variable {P : Program} {w : World} {K : PySem.W.Frag} {mg : Str → Option Value} {base : Heap}
theorem nf_part {q : Qt} (h : Nf q) : Nf (q.1 % q.2, q.2) := by
  refine ⟨h.1, ?_⟩
  show Int.gcd (q.1 % q.2) q.2 = 1
  have e : q.1 % q.2 = q.1 + (-(q.1 / q.2)) * q.2 := by
    have := Int.emod_add_mul_ediv q.1 q.2
    rw [Int.neg_mul, Int.mul_comm]
    omega
  rw [e, Int.gcd_add_mul_right_left]
  exact h.2
theorem nf_abs {q : Qt} (h : Nf q) : Nf ((q.1.natAbs : Int), q.2) := ⟨h.1, by
  show Int.gcd (q.1.natAbs : Int) q.2 = 1
  rw [← h.2]
  rfl⟩
theorem nf_neg {q : Qt} (h : Nf q) : Nf (-q.1, q.2) := ⟨h.1, by
  show Int.gcd (-q.1) q.2 = 1
  rw [Int.neg_gcd]
  exact h.2⟩
def off (q : Qt) : Qt := (if q.2 < 2 * (q.1 % q.2) then q.1 % q.2 - q.2 else q.1 % q.2, q.2)
theorem nf_off {q : Qt} (h : Nf q) : Nf (off q) := by
  have k := nf_part h
  unfold off
  split
  · refine ⟨h.1, ?_⟩
    show Int.gcd (q.1 % q.2 - q.2) q.2 = 1
    rw [show q.1 % q.2 - q.2 = q.1 % q.2 + (-1) * q.2 by omega, Int.gcd_add_mul_right_left]
    exact k.2
  · exact k
theorem is_self {q : Qt} (h : Nf q) : Is q q.1 q.2 := ⟨h, rfl⟩
def sum2 (p q : Qt) (z : Qt) : Prop := Is z (p.1 * q.2 + q.1 * p.2) (p.2 * q.2)
theorem Nf.ne {q : Qt} (h : Nf q) : q.2 ≠ 0 := by have := h.1; omega
theorem mul_ne {a b : Int} (h1 : 1 ≤ a) (h2 : 1 ≤ b) : a * b ≠ 0 := Int.mul_ne_zero (by omega) (by omega)
theorem szPart {q : Qt} {k : Nat} (h : Nf q) (hz : Sz k q) : Sz k (q.1 % q.2, q.2) := by
  refine ⟨?_, hz.2⟩
  have h1 := Int.emod_nonneg q.1 h.ne
  have h2 := Int.emod_lt_of_pos q.1 (show 0 < q.2 by have := h.1; omega)
  have := hz.2
  show (q.1 % q.2).natAbs < 2 ^ k
  omega
theorem szOff {q : Qt} {k : Nat} (h : Nf q) (hz : Sz k q) : Sz k (off q) := by
  have h1 := Int.emod_nonneg q.1 h.ne
  have h2 := Int.emod_lt_of_pos q.1 (show 0 < q.2 by have := h.1; omega)
  have h3 := hz.2
  have h4 := h.1
  unfold off
  refine ⟨?_, h3⟩
  show (if q.2 < 2 * (q.1 % q.2) then q.1 % q.2 - q.2 else q.1 % q.2).natAbs < 2 ^ k
  split <;> omega
/-- a fraction at a, in lowest terms, of a bounded size -/
structure Fq (K : PySem.W.Frag) (H : Hp) (k : Nat) (a : Addr) (q : Qt) : Prop where
  o : ob K H a = some (.tup [.int q.1, .int q.2])
  nf : Nf q
  sz : Sz k q
theorem Fq.same {H H' : Hp} {k : Nat} {a : Addr} {q : Qt} (h : Fq K H k a q) (s : Same H H') : Fq K H' k a q := ⟨ob_same s h.o, h.nf, h.sz⟩
theorem Fq.kp {H H' : Hp} {k : Nat} {a s : Addr} {q : Qt} {ys : List V} (h : Fq K H k a q) (e : Kp s H H') (hs : H s = some (.lst ys)) : Fq K H' k a q := ⟨ob_kp e hs (fun _ z => by cases z) h.o, h.nf, h.sz⟩
theorem Fq.mono {H : Hp} {j k : Nat} {a : Addr} {q : Qt} (h : Fq K H j a q) (l : j ≤ k) : Fq K H k a q := ⟨h.o, h.nf, h.sz.mono l⟩
def spBin (K : PySem.W.Frag) (R : Qt → Qt → Qt → Prop) : Sp := fun vs H Q _ => ∃ (a b : Addr) (p q : Qt), vs = [.ref a, .ref b] ∧ Fq K H 3000 a p ∧ Fq K H 3000 b q ∧ ∀ z, R p q z → Gv K H Q z
def spUn (K : PySem.W.Frag) (g : Qt → Qt) : Sp := fun vs H Q _ => ∃ (a : Addr) (q : Qt), vs = [.ref a] ∧ Fq K H 8000 a q ∧ Gv K H Q (g q)
def spFloor (K : PySem.W.Frag) : Sp := fun vs H Q _ => ∃ (a : Addr) (q : Qt), vs = [.ref a] ∧ Fq K H 8000 a q ∧ Q (.int (q.1 / q.2)) H
abbrev sPlus : Stmt := topS 26
theorem scPlus : FnScope ["left", "right"] ["left", "right"] (defScope sPlus) := ⟨rfl, rfl, rfl, by decide +kernel, rfl, by decide +kernel, by decide +kernel⟩
theorem k_Plus (T : Bt K mg) (D : Dfn K mg "plus" sPlus ["left", "right"]) (d_require : Kn P w K mg base 1 "require" ["well_formed", "what"] spRequire) (d_is_fraction : Kn P w K mg base 2 "is_fraction" ["value"] (spIsFraction K)) (d_fraction : Kn P w K mg base 2 "fraction" ["numerator", "denominator"] (spFraction K)) : Kn P w K mg base 3 "plus" ["left", "right"] (spBin K sum2) := by
  refine Kn.mk' D scPlus (fun vs H Q E h => ?_) (fun f cdv A outer s H vs Q E hr h => ?_)
  · obtain ⟨a, b, p, q, rfl, _⟩ := h
    rfl
  obtain ⟨a, b, p, q, rfl, hp, hq, k⟩ := h
  refine ⟨_, (pss_cons (ps_expr (pe_kn d_require hr (by rfl) (pa_cons (pe_kn d_is_fraction hr (by rfl) (pa_cons (pv 0) pa_nil)) (pa_cons pe_str pa_nil))))
      (pss_cons (ps_expr (pe_kn d_require hr (by rfl) (pa_cons (pe_kn d_is_fraction hr (by rfl) (pa_cons (pv 1) pa_nil)) (pa_cons pe_str pa_nil))))
      (pss_one (ps_ret (pe_kn d_fraction hr (by rfl) (pa_cons (pe_op op_add (pe_op op_mulW (pe_ix ix_any (pv 0) pe_int (fun _ _ => rfl)) (pe_ix ix_any (pv 1) pe_int (fun _ _ => rfl))) (pe_op op_mulW (pe_ix ix_any (pv 1) pe_int (fun _ _ => rfl)) (pe_ix ix_any (pv 0) pe_int (fun _ _ => rfl)))) (pa_cons (pe_op op_mulW (pe_ix ix_any (pv 0) pe_int (fun _ _ => rfl)) (pe_ix ix_any (pv 1) pe_int (fun _ _ => rfl))) pa_nil))))))), ?_⟩
  simp only [cx_K, decide_true, decide_false, reduceCtorEq, gTp, gCons, gNil, ca_0, ca_1, ca_2, ca_3, ca_4, ca_5, ca_6, ca_7, ca_8, ca_9, ca_10, ca_11, ca_12, ca_13, ca_14, ca_15, ca_16, ca_17, ca_18, ca_19, ca_20, ca_21, ca_22, ca_23, ca_24, ca_25, ca_26, ca_27, ca_28, ca_29, ca_30, not_true_eq_false, not_false_eq_true, Int.reduceEq, Nat.reduceEqDiff, Nat.reduceLeDiff, rGcd, V.ty.injEq, eq_self, List.not_mem_nil, beq_self_eq_true, HO.lst.injEq, HO.tup.injEq, tFor_eq, iRng1, iList, iTup, nat10, tSeq, rIxA, rSetA, rIsN, rIsT, tTp, tLs, itsO_tup, itsO_lst, tyO_tup, tyO_lst, tyO_dK, tyN_non, tyN_bl, tyN_int, tyN_str, tyN_ref, tyNs_lt, isB, upd_same, upd_upd, sizeLine_eq, List.mem_cons, String.reduceBEq, String.reduceEq, Bool.or_false, Bool.or_true, Bool.and_false, Bool.false_or, Bool.and_self, Bool.false_and, Bool.not_false, Bool.not_true, List.any_cons, List.any_nil, atI_0, setI_0, atI_1, setI_1, atI_2, setI_2, atI_3, setI_3, atI_4, setI_4, atI_5, setI_5, atI_6, setI_6, tAsg, gName, tOp, tUn, tVar, tC, tCons, L2.tNil, tRet, tIfS, tTest, tCB, tCall, rI, rI0, rU, tNext, tB, tAnd, tOr, tNot, tAndV, tOrV, tNotV, tDrop, tIf, tPar, gSub, rIxL, rIxT, rEq, rNe, rSetL, tBits,
    L2.start, List.map_cons, List.map_nil, List.cons_append, List.nil_append, List.append_nil, List.length_cons, List.length_nil, List.replicate, Nat.reduceAdd, Nat.reduceSub, Nat.zero_add, List.getElem?_cons_zero, List.getElem?_cons_succ, List.set_cons_zero, List.set_cons_succ,
    Option.some.injEq, exists_eq_left', exists_eq_left, V.int.injEq, V.bl.injEq, V.ref.injEq, V.str.injEq, List.cons.injEq, reduceCtorEq, and_true, true_and, false_and, and_false, exists_false, or_false, false_or, or_true, true_or, exists_const, CMul, CDiv, CPow, and_assoc, exists_and_left, exists_and_right, Int.reducePow, Int.reduceNeg, Int.reduceLT, Int.reduceLE, Nat.reducePow, Nat.reduceLT, Int.reduceToNat, gt_iff_lt, ge_iff_le, decide_eq_true_eq, Bool.not_eq_true', decide_eq_false_iff_not, scal, ↓reduceIte, Bool.false_eq_true]
  refine ⟨_, rfl, Tyd.fr hp.o, _, by rw [frOk_fr hp.o hp.nf], _, rfl, Tyd.fr hq.o, _, by rw [frOk_fr hq.o hq.nf], ?_⟩
  simp only [hp.o, hq.o, cx_K, decide_true, decide_false, reduceCtorEq, gTp, gCons, gNil, ca_0, ca_1, ca_2, ca_3, ca_4, ca_5, ca_6, ca_7, ca_8, ca_9, ca_10, ca_11, ca_12, ca_13, ca_14, ca_15, ca_16, ca_17, ca_18, ca_19, ca_20, ca_21, ca_22, ca_23, ca_24, ca_25, ca_26, ca_27, ca_28, ca_29, ca_30, not_true_eq_false, not_false_eq_true, Int.reduceEq, Nat.reduceEqDiff, Nat.reduceLeDiff, rGcd, V.ty.injEq, eq_self, List.not_mem_nil, beq_self_eq_true, HO.lst.injEq, HO.tup.injEq, tFor_eq, iRng1, iList, iTup, nat10, tSeq, rIxA, rSetA, rIsN, rIsT, tTp, tLs, itsO_tup, itsO_lst, tyO_tup, tyO_lst, tyO_dK, tyN_non, tyN_bl, tyN_int, tyN_str, tyN_ref, tyNs_lt, isB, upd_same, upd_upd, sizeLine_eq, List.mem_cons, String.reduceBEq, String.reduceEq, Bool.or_false, Bool.or_true, Bool.and_false, Bool.false_or, Bool.and_self, Bool.false_and, Bool.not_false, Bool.not_true, List.any_cons, List.any_nil, atI_0, setI_0, atI_1, setI_1, atI_2, setI_2, atI_3, setI_3, atI_4, setI_4, atI_5, setI_5, atI_6, setI_6, tAsg, gName, tOp, tUn, tVar, tC, tCons, L2.tNil, tRet, tIfS, tTest, tCB, tCall, rI, rI0, rU, tNext, tB, tAnd, tOr, tNot, tAndV, tOrV, tNotV, tDrop, tIf, tPar, gSub, rIxL, rIxT, rEq, rNe, rSetL, tBits,
    L2.start, List.map_cons, List.map_nil, List.cons_append, List.nil_append, List.append_nil, List.length_cons, List.length_nil, List.replicate, Nat.reduceAdd, Nat.reduceSub, Nat.zero_add, List.getElem?_cons_zero, List.getElem?_cons_succ, List.set_cons_zero, List.set_cons_succ,
    Option.some.injEq, exists_eq_left', exists_eq_left, V.int.injEq, V.bl.injEq, V.ref.injEq, V.str.injEq, List.cons.injEq, reduceCtorEq, and_true, true_and, false_and, and_false, exists_false, or_false, false_or, or_true, true_or, exists_const, CMul, CDiv, CPow, and_assoc, exists_and_left, exists_and_right, Int.reducePow, Int.reduceNeg, Int.reduceLT, Int.reduceLE, Nat.reducePow, Nat.reduceLT, Int.reduceToNat, gt_iff_lt, ge_iff_le, decide_eq_true_eq, Bool.not_eq_true', decide_eq_false_iff_not, scal, ↓reduceIte, Bool.false_eq_true]
  exact ⟨mulW hp.sz.1 hq.sz.2 (by omega), mulW hq.sz.1 hp.sz.2 (by omega), mulW hp.sz.2 hq.sz.2 (by omega), _, _, rfl, mul_ne hp.nf.1 hq.nf.1, szMono (szMul hp.sz.2 hq.sz.2) (by omega), k⟩
def spLFrac (K : PySem.W.Frag) : Sp := fun vs H Q _ => ∃ (a : Addr) (q : Qt), vs = [.ref a] ∧ Fq K H 8000 a q ∧ Q (.bl true) H
abbrev sLFrac : Stmt := topS 60
theorem scLFrac : FnScope ["_law_told"] ["_law_told"] (defScope sLFrac) := ⟨rfl, rfl, rfl, by decide +kernel, rfl, by decide +kernel, by decide +kernel⟩
theorem k_LFrac (T : Bt K mg) (D : Dfn K mg "_law_is_frac" sLFrac ["_law_told"]) (d__law_is_whole : Kn P w K mg base 1 "_law_is_whole" ["_law_told"] (spWhole K)) (d__law_gcd : Kn P w K mg base 1 "_law_gcd" ["_law_left", "_law_right"] spGcd) : Kn P w K mg base 2 "_law_is_frac" ["_law_told"] (spLFrac K) := by
  refine Kn.mk' D scLFrac (fun vs H Q E h => ?_) (fun f cdv A outer s H vs Q E hr h => ?_)
  · obtain ⟨a, q, rfl, _⟩ := h
    rfl
  obtain ⟨a, q, rfl, hq, k⟩ := h
  refine ⟨_, (pss_cons (ps_if (PW.pt (pw_or (pt_not (pt_val (pe_callB call_isN (by rfl) T.b_isinstance (by decide +kernel) (pa_cons (pv 0) (pa_cons (pe_bltn (v := .ty "tuple") (by rfl) T.b_tuple (by decide +kernel) rfl) pa_nil))))) (pw_or1 (pt_cmpR op_ne (pe_callB call_lenA (by rfl) T.b_len PySem.boot_len (pa_cons (pv 0) pa_nil)) pe_int (nomark _))))) (pss_one (ps_ret pe_bl)) pss_nil)
      (pss_cons (ps_if (PW.pt (pw_or (pt_not (pt_val (pe_kn d__law_is_whole hr (by rfl) (pa_cons (pe_ix ix_any (pv 0) pe_int (fun _ _ => rfl)) pa_nil)))) (pw_or1 (pt_not (pt_val (pe_kn d__law_is_whole hr (by rfl) (pa_cons (pe_ix ix_any (pv 0) pe_int (fun _ _ => rfl)) pa_nil))))))) (pss_one (ps_ret pe_bl)) pss_nil)
      (pss_one (ps_ret (pe_and (pe_cmpR op_gt (pe_ix ix_any (pv 0) pe_int (fun _ _ => rfl)) pe_int (nomark _)) (pe_one (pe_cmpR op_eq (pe_kn d__law_gcd hr (by rfl) (pa_cons (pe_ix ix_any (pv 0) pe_int (fun _ _ => rfl)) (pa_cons (pe_ix ix_any (pv 0) pe_int (fun _ _ => rfl)) pa_nil))) pe_int (nomark _)))))))), ?_⟩
  simp only [hq.o, cx_K, decide_true, decide_false, reduceCtorEq, gTp, gCons, gNil, ca_0, ca_1, ca_2, ca_3, ca_4, ca_5, ca_6, ca_7, ca_8, ca_9, ca_10, ca_11, ca_12, ca_13, ca_14, ca_15, ca_16, ca_17, ca_18, ca_19, ca_20, ca_21, ca_22, ca_23, ca_24, ca_25, ca_26, ca_27, ca_28, ca_29, ca_30, not_true_eq_false, not_false_eq_true, Int.reduceEq, Nat.reduceEqDiff, Nat.reduceLeDiff, rGcd, V.ty.injEq, eq_self, List.not_mem_nil, beq_self_eq_true, HO.lst.injEq, HO.tup.injEq, tFor_eq, iRng1, iList, iTup, nat10, tSeq, rIxA, rSetA, rIsN, rIsT, tTp, tLs, itsO_tup, itsO_lst, tyO_tup, tyO_lst, tyO_dK, tyN_non, tyN_bl, tyN_int, tyN_str, tyN_ref, tyNs_lt, isB, upd_same, upd_upd, sizeLine_eq, List.mem_cons, String.reduceBEq, String.reduceEq, Bool.or_false, Bool.or_true, Bool.and_false, Bool.false_or, Bool.and_self, Bool.false_and, Bool.not_false, Bool.not_true, List.any_cons, List.any_nil, atI_0, setI_0, atI_1, setI_1, atI_2, setI_2, atI_3, setI_3, atI_4, setI_4, atI_5, setI_5, atI_6, setI_6, tAsg, gName, tOp, tUn, tVar, tC, tCons, L2.tNil, tRet, tIfS, tTest, tCB, tCall, rI, rI0, rU, tNext, tB, tAnd, tOr, tNot, tAndV, tOrV, tNotV, tDrop, tIf, tPar, gSub, rIxL, rIxT, rEq, rNe, rSetL, tBits,
    L2.start, List.map_cons, List.map_nil, List.cons_append, List.nil_append, List.append_nil, List.length_cons, List.length_nil, List.replicate, Nat.reduceAdd, Nat.reduceSub, Nat.zero_add, List.getElem?_cons_zero, List.getElem?_cons_succ, List.set_cons_zero, List.set_cons_succ,
    Option.some.injEq, exists_eq_left', exists_eq_left, V.int.injEq, V.bl.injEq, V.ref.injEq, V.str.injEq, List.cons.injEq, reduceCtorEq, and_true, true_and, false_and, and_false, exists_false, or_false, false_or, or_true, true_or, exists_const, CMul, CDiv, CPow, and_assoc, exists_and_left, exists_and_right, Int.reducePow, Int.reduceNeg, Int.reduceLT, Int.reduceLE, Nat.reducePow, Nat.reduceLT, Int.reduceToNat, gt_iff_lt, ge_iff_le, decide_eq_true_eq, Bool.not_eq_true', decide_eq_false_iff_not, scal, ↓reduceIte, Bool.false_eq_true]
  refine ⟨_, rfl, rfl, true, rfl, ?_⟩
  rw [if_neg Bool.noConfusion]
  simp only [hq.o, cx_K, decide_true, decide_false, reduceCtorEq, gTp, gCons, gNil, ca_0, ca_1, ca_2, ca_3, ca_4, ca_5, ca_6, ca_7, ca_8, ca_9, ca_10, ca_11, ca_12, ca_13, ca_14, ca_15, ca_16, ca_17, ca_18, ca_19, ca_20, ca_21, ca_22, ca_23, ca_24, ca_25, ca_26, ca_27, ca_28, ca_29, ca_30, not_true_eq_false, not_false_eq_true, Int.reduceEq, Nat.reduceEqDiff, Nat.reduceLeDiff, rGcd, V.ty.injEq, eq_self, List.not_mem_nil, beq_self_eq_true, HO.lst.injEq, HO.tup.injEq, tFor_eq, iRng1, iList, iTup, nat10, tSeq, rIxA, rSetA, rIsN, rIsT, tTp, tLs, itsO_tup, itsO_lst, tyO_tup, tyO_lst, tyO_dK, tyN_non, tyN_bl, tyN_int, tyN_str, tyN_ref, tyNs_lt, isB, upd_same, upd_upd, sizeLine_eq, List.mem_cons, String.reduceBEq, String.reduceEq, Bool.or_false, Bool.or_true, Bool.and_false, Bool.false_or, Bool.and_self, Bool.false_and, Bool.not_false, Bool.not_true, List.any_cons, List.any_nil, atI_0, setI_0, atI_1, setI_1, atI_2, setI_2, atI_3, setI_3, atI_4, setI_4, atI_5, setI_5, atI_6, setI_6, tAsg, gName, tOp, tUn, tVar, tC, tCons, L2.tNil, tRet, tIfS, tTest, tCB, tCall, rI, rI0, rU, tNext, tB, tAnd, tOr, tNot, tAndV, tOrV, tNotV, tDrop, tIf, tPar, gSub, rIxL, rIxT, rEq, rNe, rSetL, tBits,
    L2.start, List.map_cons, List.map_nil, List.cons_append, List.nil_append, List.append_nil, List.length_cons, List.length_nil, List.replicate, Nat.reduceAdd, Nat.reduceSub, Nat.zero_add, List.getElem?_cons_zero, List.getElem?_cons_succ, List.set_cons_zero, List.set_cons_succ,
    Option.some.injEq, exists_eq_left', exists_eq_left, V.int.injEq, V.bl.injEq, V.ref.injEq, V.str.injEq, List.cons.injEq, reduceCtorEq, and_true, true_and, false_and, and_false, exists_false, or_false, false_or, or_true, true_or, exists_const, CMul, CDiv, CPow, and_assoc, exists_and_left, exists_and_right, Int.reducePow, Int.reduceNeg, Int.reduceLT, Int.reduceLE, Nat.reducePow, Nat.reduceLT, Int.reduceToNat, gt_iff_lt, ge_iff_le, decide_eq_true_eq, Bool.not_eq_true', decide_eq_false_iff_not, scal, ↓reduceIte, Bool.false_eq_true]
  refine ⟨_, rfl, rfl, true, rfl, ?_⟩
  rw [if_neg Bool.noConfusion]
  simp only [hq.o, cx_K, decide_true, decide_false, reduceCtorEq, gTp, gCons, gNil, ca_0, ca_1, ca_2, ca_3, ca_4, ca_5, ca_6, ca_7, ca_8, ca_9, ca_10, ca_11, ca_12, ca_13, ca_14, ca_15, ca_16, ca_17, ca_18, ca_19, ca_20, ca_21, ca_22, ca_23, ca_24, ca_25, ca_26, ca_27, ca_28, ca_29, ca_30, not_true_eq_false, not_false_eq_true, Int.reduceEq, Nat.reduceEqDiff, Nat.reduceLeDiff, rGcd, V.ty.injEq, eq_self, List.not_mem_nil, beq_self_eq_true, HO.lst.injEq, HO.tup.injEq, tFor_eq, iRng1, iList, iTup, nat10, tSeq, rIxA, rSetA, rIsN, rIsT, tTp, tLs, itsO_tup, itsO_lst, tyO_tup, tyO_lst, tyO_dK, tyN_non, tyN_bl, tyN_int, tyN_str, tyN_ref, tyNs_lt, isB, upd_same, upd_upd, sizeLine_eq, List.mem_cons, String.reduceBEq, String.reduceEq, Bool.or_false, Bool.or_true, Bool.and_false, Bool.false_or, Bool.and_self, Bool.false_and, Bool.not_false, Bool.not_true, List.any_cons, List.any_nil, atI_0, setI_0, atI_1, setI_1, atI_2, setI_2, atI_3, setI_3, atI_4, setI_4, atI_5, setI_5, atI_6, setI_6, tAsg, gName, tOp, tUn, tVar, tC, tCons, L2.tNil, tRet, tIfS, tTest, tCB, tCall, rI, rI0, rU, tNext, tB, tAnd, tOr, tNot, tAndV, tOrV, tNotV, tDrop, tIf, tPar, gSub, rIxL, rIxT, rEq, rNe, rSetL, tBits,
    L2.start, List.map_cons, List.map_nil, List.cons_append, List.nil_append, List.append_nil, List.length_cons, List.length_nil, List.replicate, Nat.reduceAdd, Nat.reduceSub, Nat.zero_add, List.getElem?_cons_zero, List.getElem?_cons_succ, List.set_cons_zero, List.set_cons_succ,
    Option.some.injEq, exists_eq_left', exists_eq_left, V.int.injEq, V.bl.injEq, V.ref.injEq, V.str.injEq, List.cons.injEq, reduceCtorEq, and_true, true_and, false_and, and_false, exists_false, or_false, false_or, or_true, true_or, exists_const, CMul, CDiv, CPow, and_assoc, exists_and_left, exists_and_right, Int.reducePow, Int.reduceNeg, Int.reduceLT, Int.reduceLE, Nat.reducePow, Nat.reduceLT, Int.reduceToNat, gt_iff_lt, ge_iff_le, decide_eq_true_eq, Bool.not_eq_true', decide_eq_false_iff_not, scal, ↓reduceIte, Bool.false_eq_true]
  rw [if_pos (show 0 < q.2 by have := hq.nf.1; omega)]
  refine ⟨_, _, rfl, rfl, ?_⟩
  have e : decide (V.int ((Int.gcd q.1 q.2 : Nat) : Int) = V.int 1) = true := by rw [hq.nf.2]; rfl
  rw [e]
  exact k
def dif2 (p q : Qt) (z : Qt) : Prop := Is z (p.1 * q.2 - q.1 * p.2) (p.2 * q.2)
def pro2 (p q : Qt) (z : Qt) : Prop := Is z (p.1 * q.1) (p.2 * q.2)
def quo2 (p q : Qt) (z : Qt) : Prop := Is z (p.1 * q.2) (p.2 * q.1)
def cmp2 (p q : Qt) : Int := if p.1 * q.2 = q.1 * p.2 then 0 else if p.1 * q.2 < q.1 * p.2 then -1 else 1
def spQuo (K : PySem.W.Frag) : Sp := fun vs H Q _ => ∃ (a b : Addr) (p q : Qt), vs = [.ref a, .ref b] ∧ Fq K H 3000 a p ∧ Fq K H 3000 b q ∧ q.1 ≠ 0 ∧ ∀ z, quo2 p q z → Gv K H Q z
def spCmp (K : PySem.W.Frag) : Sp := fun vs H Q _ => ∃ (a b : Addr) (p q : Qt), vs = [.ref a, .ref b] ∧ Fq K H 3000 a p ∧ Fq K H 3000 b q ∧ Q (.int (cmp2 p q)) H
abbrev sMinus : Stmt := topS 27
theorem scMinus : FnScope ["left", "right"] ["left", "right"] (defScope sMinus) := ⟨rfl, rfl, rfl, by decide +kernel, rfl, by decide +kernel, by decide +kernel⟩
theorem k_Minus (T : Bt K mg) (D : Dfn K mg "minus" sMinus ["left", "right"]) (d_require : Kn P w K mg base 1 "require" ["well_formed", "what"] spRequire) (d_is_fraction : Kn P w K mg base 2 "is_fraction" ["value"] (spIsFraction K)) (d_fraction : Kn P w K mg base 2 "fraction" ["numerator", "denominator"] (spFraction K)) : Kn P w K mg base 3 "minus" ["left", "right"] (spBin K dif2) := by
  refine Kn.mk' D scMinus (fun vs H Q E h => ?_) (fun f cdv A outer s H vs Q E hr h => ?_)
  · obtain ⟨a, b, p, q, rfl, _⟩ := h
    rfl
  obtain ⟨a, b, p, q, rfl, hp, hq, k⟩ := h
  refine ⟨_, (pss_cons (ps_expr (pe_kn d_require hr (by rfl) (pa_cons (pe_kn d_is_fraction hr (by rfl) (pa_cons (pv 0) pa_nil)) (pa_cons pe_str pa_nil))))
      (pss_cons (ps_expr (pe_kn d_require hr (by rfl) (pa_cons (pe_kn d_is_fraction hr (by rfl) (pa_cons (pv 1) pa_nil)) (pa_cons pe_str pa_nil))))
      (pss_one (ps_ret (pe_kn d_fraction hr (by rfl) (pa_cons (pe_op op_sub (pe_op op_mulW (pe_ix ix_any (pv 0) pe_int (fun _ _ => rfl)) (pe_ix ix_any (pv 1) pe_int (fun _ _ => rfl))) (pe_op op_mulW (pe_ix ix_any (pv 1) pe_int (fun _ _ => rfl)) (pe_ix ix_any (pv 0) pe_int (fun _ _ => rfl)))) (pa_cons (pe_op op_mulW (pe_ix ix_any (pv 0) pe_int (fun _ _ => rfl)) (pe_ix ix_any (pv 1) pe_int (fun _ _ => rfl))) pa_nil))))))), ?_⟩
  simp only [cx_K, decide_true, decide_false, reduceCtorEq, gTp, gCons, gNil, ca_0, ca_1, ca_2, ca_3, ca_4, ca_5, ca_6, ca_7, ca_8, ca_9, ca_10, ca_11, ca_12, ca_13, ca_14, ca_15, ca_16, ca_17, ca_18, ca_19, ca_20, ca_21, ca_22, ca_23, ca_24, ca_25, ca_26, ca_27, ca_28, ca_29, ca_30, not_true_eq_false, not_false_eq_true, Int.reduceEq, Nat.reduceEqDiff, Nat.reduceLeDiff, rGcd, V.ty.injEq, eq_self, List.not_mem_nil, beq_self_eq_true, HO.lst.injEq, HO.tup.injEq, tFor_eq, iRng1, iList, iTup, nat10, tSeq, rIxA, rSetA, rIsN, rIsT, tTp, tLs, itsO_tup, itsO_lst, tyO_tup, tyO_lst, tyO_dK, tyN_non, tyN_bl, tyN_int, tyN_str, tyN_ref, tyNs_lt, isB, upd_same, upd_upd, sizeLine_eq, List.mem_cons, String.reduceBEq, String.reduceEq, Bool.or_false, Bool.or_true, Bool.and_false, Bool.false_or, Bool.and_self, Bool.false_and, Bool.not_false, Bool.not_true, List.any_cons, List.any_nil, atI_0, setI_0, atI_1, setI_1, atI_2, setI_2, atI_3, setI_3, atI_4, setI_4, atI_5, setI_5, atI_6, setI_6, tAsg, gName, tOp, tUn, tVar, tC, tCons, L2.tNil, tRet, tIfS, tTest, tCB, tCall, rI, rI0, rU, tNext, tB, tAnd, tOr, tNot, tAndV, tOrV, tNotV, tDrop, tIf, tPar, gSub, rIxL, rIxT, rEq, rNe, rSetL, tBits,
    L2.start, List.map_cons, List.map_nil, List.cons_append, List.nil_append, List.append_nil, List.length_cons, List.length_nil, List.replicate, Nat.reduceAdd, Nat.reduceSub, Nat.zero_add, List.getElem?_cons_zero, List.getElem?_cons_succ, List.set_cons_zero, List.set_cons_succ,
    Option.some.injEq, exists_eq_left', exists_eq_left, V.int.injEq, V.bl.injEq, V.ref.injEq, V.str.injEq, List.cons.injEq, reduceCtorEq, and_true, true_and, false_and, and_false, exists_false, or_false, false_or, or_true, true_or, exists_const, CMul, CDiv, CPow, and_assoc, exists_and_left, exists_and_right, Int.reducePow, Int.reduceNeg, Int.reduceLT, Int.reduceLE, Nat.reducePow, Nat.reduceLT, Int.reduceToNat, gt_iff_lt, ge_iff_le, decide_eq_true_eq, Bool.not_eq_true', decide_eq_false_iff_not, scal, ↓reduceIte, Bool.false_eq_true]
  refine ⟨_, rfl, Tyd.fr hp.o, _, by rw [frOk_fr hp.o hp.nf], _, rfl, Tyd.fr hq.o, _, by rw [frOk_fr hq.o hq.nf], ?_⟩
  simp only [hp.o, hq.o, cx_K, decide_true, decide_false, reduceCtorEq, gTp, gCons, gNil, ca_0, ca_1, ca_2, ca_3, ca_4, ca_5, ca_6, ca_7, ca_8, ca_9, ca_10, ca_11, ca_12, ca_13, ca_14, ca_15, ca_16, ca_17, ca_18, ca_19, ca_20, ca_21, ca_22, ca_23, ca_24, ca_25, ca_26, ca_27, ca_28, ca_29, ca_30, not_true_eq_false, not_false_eq_true, Int.reduceEq, Nat.reduceEqDiff, Nat.reduceLeDiff, rGcd, V.ty.injEq, eq_self, List.not_mem_nil, beq_self_eq_true, HO.lst.injEq, HO.tup.injEq, tFor_eq, iRng1, iList, iTup, nat10, tSeq, rIxA, rSetA, rIsN, rIsT, tTp, tLs, itsO_tup, itsO_lst, tyO_tup, tyO_lst, tyO_dK, tyN_non, tyN_bl, tyN_int, tyN_str, tyN_ref, tyNs_lt, isB, upd_same, upd_upd, sizeLine_eq, List.mem_cons, String.reduceBEq, String.reduceEq, Bool.or_false, Bool.or_true, Bool.and_false, Bool.false_or, Bool.and_self, Bool.false_and, Bool.not_false, Bool.not_true, List.any_cons, List.any_nil, atI_0, setI_0, atI_1, setI_1, atI_2, setI_2, atI_3, setI_3, atI_4, setI_4, atI_5, setI_5, atI_6, setI_6, tAsg, gName, tOp, tUn, tVar, tC, tCons, L2.tNil, tRet, tIfS, tTest, tCB, tCall, rI, rI0, rU, tNext, tB, tAnd, tOr, tNot, tAndV, tOrV, tNotV, tDrop, tIf, tPar, gSub, rIxL, rIxT, rEq, rNe, rSetL, tBits,
    L2.start, List.map_cons, List.map_nil, List.cons_append, List.nil_append, List.append_nil, List.length_cons, List.length_nil, List.replicate, Nat.reduceAdd, Nat.reduceSub, Nat.zero_add, List.getElem?_cons_zero, List.getElem?_cons_succ, List.set_cons_zero, List.set_cons_succ,
    Option.some.injEq, exists_eq_left', exists_eq_left, V.int.injEq, V.bl.injEq, V.ref.injEq, V.str.injEq, List.cons.injEq, reduceCtorEq, and_true, true_and, false_and, and_false, exists_false, or_false, false_or, or_true, true_or, exists_const, CMul, CDiv, CPow, and_assoc, exists_and_left, exists_and_right, Int.reducePow, Int.reduceNeg, Int.reduceLT, Int.reduceLE, Nat.reducePow, Nat.reduceLT, Int.reduceToNat, gt_iff_lt, ge_iff_le, decide_eq_true_eq, Bool.not_eq_true', decide_eq_false_iff_not, scal, ↓reduceIte, Bool.false_eq_true]
  exact ⟨mulW hp.sz.1 hq.sz.2 (by omega), mulW hq.sz.1 hp.sz.2 (by omega), mulW hp.sz.2 hq.sz.2 (by omega), _, _, rfl, mul_ne hp.nf.1 hq.nf.1, szMono (szMul hp.sz.2 hq.sz.2) (by omega), k⟩
abbrev sTimes : Stmt := topS 28
theorem scTimes : FnScope ["left", "right"] ["left", "right"] (defScope sTimes) := ⟨rfl, rfl, rfl, by decide +kernel, rfl, by decide +kernel, by decide +kernel⟩
theorem k_Times (T : Bt K mg) (D : Dfn K mg "times" sTimes ["left", "right"]) (d_require : Kn P w K mg base 1 "require" ["well_formed", "what"] spRequire) (d_is_fraction : Kn P w K mg base 2 "is_fraction" ["value"] (spIsFraction K)) (d_fraction : Kn P w K mg base 2 "fraction" ["numerator", "denominator"] (spFraction K)) : Kn P w K mg base 3 "times" ["left", "right"] (spBin K pro2) := by
  refine Kn.mk' D scTimes (fun vs H Q E h => ?_) (fun f cdv A outer s H vs Q E hr h => ?_)
  · obtain ⟨a, b, p, q, rfl, _⟩ := h
    rfl
  obtain ⟨a, b, p, q, rfl, hp, hq, k⟩ := h
  refine ⟨_, (pss_cons (ps_expr (pe_kn d_require hr (by rfl) (pa_cons (pe_kn d_is_fraction hr (by rfl) (pa_cons (pv 0) pa_nil)) (pa_cons pe_str pa_nil))))
      (pss_cons (ps_expr (pe_kn d_require hr (by rfl) (pa_cons (pe_kn d_is_fraction hr (by rfl) (pa_cons (pv 1) pa_nil)) (pa_cons pe_str pa_nil))))
      (pss_one (ps_ret (pe_kn d_fraction hr (by rfl) (pa_cons (pe_op op_mulW (pe_ix ix_any (pv 0) pe_int (fun _ _ => rfl)) (pe_ix ix_any (pv 1) pe_int (fun _ _ => rfl))) (pa_cons (pe_op op_mulW (pe_ix ix_any (pv 0) pe_int (fun _ _ => rfl)) (pe_ix ix_any (pv 1) pe_int (fun _ _ => rfl))) pa_nil))))))), ?_⟩
  simp only [cx_K, decide_true, decide_false, reduceCtorEq, gTp, gCons, gNil, ca_0, ca_1, ca_2, ca_3, ca_4, ca_5, ca_6, ca_7, ca_8, ca_9, ca_10, ca_11, ca_12, ca_13, ca_14, ca_15, ca_16, ca_17, ca_18, ca_19, ca_20, ca_21, ca_22, ca_23, ca_24, ca_25, ca_26, ca_27, ca_28, ca_29, ca_30, not_true_eq_false, not_false_eq_true, Int.reduceEq, Nat.reduceEqDiff, Nat.reduceLeDiff, rGcd, V.ty.injEq, eq_self, List.not_mem_nil, beq_self_eq_true, HO.lst.injEq, HO.tup.injEq, tFor_eq, iRng1, iList, iTup, nat10, tSeq, rIxA, rSetA, rIsN, rIsT, tTp, tLs, itsO_tup, itsO_lst, tyO_tup, tyO_lst, tyO_dK, tyN_non, tyN_bl, tyN_int, tyN_str, tyN_ref, tyNs_lt, isB, upd_same, upd_upd, sizeLine_eq, List.mem_cons, String.reduceBEq, String.reduceEq, Bool.or_false, Bool.or_true, Bool.and_false, Bool.false_or, Bool.and_self, Bool.false_and, Bool.not_false, Bool.not_true, List.any_cons, List.any_nil, atI_0, setI_0, atI_1, setI_1, atI_2, setI_2, atI_3, setI_3, atI_4, setI_4, atI_5, setI_5, atI_6, setI_6, tAsg, gName, tOp, tUn, tVar, tC, tCons, L2.tNil, tRet, tIfS, tTest, tCB, tCall, rI, rI0, rU, tNext, tB, tAnd, tOr, tNot, tAndV, tOrV, tNotV, tDrop, tIf, tPar, gSub, rIxL, rIxT, rEq, rNe, rSetL, tBits,
    L2.start, List.map_cons, List.map_nil, List.cons_append, List.nil_append, List.append_nil, List.length_cons, List.length_nil, List.replicate, Nat.reduceAdd, Nat.reduceSub, Nat.zero_add, List.getElem?_cons_zero, List.getElem?_cons_succ, List.set_cons_zero, List.set_cons_succ,
    Option.some.injEq, exists_eq_left', exists_eq_left, V.int.injEq, V.bl.injEq, V.ref.injEq, V.str.injEq, List.cons.injEq, reduceCtorEq, and_true, true_and, false_and, and_false, exists_false, or_false, false_or, or_true, true_or, exists_const, CMul, CDiv, CPow, and_assoc, exists_and_left, exists_and_right, Int.reducePow, Int.reduceNeg, Int.reduceLT, Int.reduceLE, Nat.reducePow, Nat.reduceLT, Int.reduceToNat, gt_iff_lt, ge_iff_le, decide_eq_true_eq, Bool.not_eq_true', decide_eq_false_iff_not, scal, ↓reduceIte, Bool.false_eq_true]
  refine ⟨_, rfl, Tyd.fr hp.o, _, by rw [frOk_fr hp.o hp.nf], _, rfl, Tyd.fr hq.o, _, by rw [frOk_fr hq.o hq.nf], ?_⟩
  simp only [hp.o, hq.o, cx_K, decide_true, decide_false, reduceCtorEq, gTp, gCons, gNil, ca_0, ca_1, ca_2, ca_3, ca_4, ca_5, ca_6, ca_7, ca_8, ca_9, ca_10, ca_11, ca_12, ca_13, ca_14, ca_15, ca_16, ca_17, ca_18, ca_19, ca_20, ca_21, ca_22, ca_23, ca_24, ca_25, ca_26, ca_27, ca_28, ca_29, ca_30, not_true_eq_false, not_false_eq_true, Int.reduceEq, Nat.reduceEqDiff, Nat.reduceLeDiff, rGcd, V.ty.injEq, eq_self, List.not_mem_nil, beq_self_eq_true, HO.lst.injEq, HO.tup.injEq, tFor_eq, iRng1, iList, iTup, nat10, tSeq, rIxA, rSetA, rIsN, rIsT, tTp, tLs, itsO_tup, itsO_lst, tyO_tup, tyO_lst, tyO_dK, tyN_non, tyN_bl, tyN_int, tyN_str, tyN_ref, tyNs_lt, isB, upd_same, upd_upd, sizeLine_eq, List.mem_cons, String.reduceBEq, String.reduceEq, Bool.or_false, Bool.or_true, Bool.and_false, Bool.false_or, Bool.and_self, Bool.false_and, Bool.not_false, Bool.not_true, List.any_cons, List.any_nil, atI_0, setI_0, atI_1, setI_1, atI_2, setI_2, atI_3, setI_3, atI_4, setI_4, atI_5, setI_5, atI_6, setI_6, tAsg, gName, tOp, tUn, tVar, tC, tCons, L2.tNil, tRet, tIfS, tTest, tCB, tCall, rI, rI0, rU, tNext, tB, tAnd, tOr, tNot, tAndV, tOrV, tNotV, tDrop, tIf, tPar, gSub, rIxL, rIxT, rEq, rNe, rSetL, tBits,
    L2.start, List.map_cons, List.map_nil, List.cons_append, List.nil_append, List.append_nil, List.length_cons, List.length_nil, List.replicate, Nat.reduceAdd, Nat.reduceSub, Nat.zero_add, List.getElem?_cons_zero, List.getElem?_cons_succ, List.set_cons_zero, List.set_cons_succ,
    Option.some.injEq, exists_eq_left', exists_eq_left, V.int.injEq, V.bl.injEq, V.ref.injEq, V.str.injEq, List.cons.injEq, reduceCtorEq, and_true, true_and, false_and, and_false, exists_false, or_false, false_or, or_true, true_or, exists_const, CMul, CDiv, CPow, and_assoc, exists_and_left, exists_and_right, Int.reducePow, Int.reduceNeg, Int.reduceLT, Int.reduceLE, Nat.reducePow, Nat.reduceLT, Int.reduceToNat, gt_iff_lt, ge_iff_le, decide_eq_true_eq, Bool.not_eq_true', decide_eq_false_iff_not, scal, ↓reduceIte, Bool.false_eq_true]
  exact ⟨mulW hp.sz.1 hq.sz.1 (by omega), mulW hp.sz.2 hq.sz.2 (by omega), _, _, rfl, mul_ne hp.nf.1 hq.nf.1, szMono (szMul hp.sz.2 hq.sz.2) (by omega), k⟩
abbrev sOver : Stmt := topS 29
theorem scOver : FnScope ["left", "right"] ["left", "right"] (defScope sOver) := ⟨rfl, rfl, rfl, by decide +kernel, rfl, by decide +kernel, by decide +kernel⟩
theorem k_Over (T : Bt K mg) (D : Dfn K mg "over" sOver ["left", "right"]) (d_require : Kn P w K mg base 1 "require" ["well_formed", "what"] spRequire) (d_is_fraction : Kn P w K mg base 2 "is_fraction" ["value"] (spIsFraction K)) (d_fraction : Kn P w K mg base 2 "fraction" ["numerator", "denominator"] (spFraction K)) : Kn P w K mg base 3 "over" ["left", "right"] (spQuo K) := by
  refine Kn.mk' D scOver (fun vs H Q E h => ?_) (fun f cdv A outer s H vs Q E hr h => ?_)
  · obtain ⟨a, b, p, q, rfl, _⟩ := h
    rfl
  obtain ⟨a, b, p, q, rfl, hp, hq, h0, k⟩ := h
  refine ⟨_, (pss_cons (ps_expr (pe_kn d_require hr (by rfl) (pa_cons (pe_kn d_is_fraction hr (by rfl) (pa_cons (pv 0) pa_nil)) (pa_cons pe_str pa_nil))))
      (pss_cons (ps_expr (pe_kn d_require hr (by rfl) (pa_cons (pe_and (pe_kn d_is_fraction hr (by rfl) (pa_cons (pv 1) pa_nil)) (pe_one (pe_cmpR op_ne (pe_ix ix_any (pv 1) pe_int (fun _ _ => rfl)) pe_int (nomark _)))) (pa_cons pe_str pa_nil))))
      (pss_one (ps_ret (pe_kn d_fraction hr (by rfl) (pa_cons (pe_op op_mulW (pe_ix ix_any (pv 0) pe_int (fun _ _ => rfl)) (pe_ix ix_any (pv 1) pe_int (fun _ _ => rfl))) (pa_cons (pe_op op_mulW (pe_ix ix_any (pv 0) pe_int (fun _ _ => rfl)) (pe_ix ix_any (pv 1) pe_int (fun _ _ => rfl))) pa_nil))))))), ?_⟩
  simp only [cx_K, decide_true, decide_false, reduceCtorEq, gTp, gCons, gNil, ca_0, ca_1, ca_2, ca_3, ca_4, ca_5, ca_6, ca_7, ca_8, ca_9, ca_10, ca_11, ca_12, ca_13, ca_14, ca_15, ca_16, ca_17, ca_18, ca_19, ca_20, ca_21, ca_22, ca_23, ca_24, ca_25, ca_26, ca_27, ca_28, ca_29, ca_30, not_true_eq_false, not_false_eq_true, Int.reduceEq, Nat.reduceEqDiff, Nat.reduceLeDiff, rGcd, V.ty.injEq, eq_self, List.not_mem_nil, beq_self_eq_true, HO.lst.injEq, HO.tup.injEq, tFor_eq, iRng1, iList, iTup, nat10, tSeq, rIxA, rSetA, rIsN, rIsT, tTp, tLs, itsO_tup, itsO_lst, tyO_tup, tyO_lst, tyO_dK, tyN_non, tyN_bl, tyN_int, tyN_str, tyN_ref, tyNs_lt, isB, upd_same, upd_upd, sizeLine_eq, List.mem_cons, String.reduceBEq, String.reduceEq, Bool.or_false, Bool.or_true, Bool.and_false, Bool.false_or, Bool.and_self, Bool.false_and, Bool.not_false, Bool.not_true, List.any_cons, List.any_nil, atI_0, setI_0, atI_1, setI_1, atI_2, setI_2, atI_3, setI_3, atI_4, setI_4, atI_5, setI_5, atI_6, setI_6, tAsg, gName, tOp, tUn, tVar, tC, tCons, L2.tNil, tRet, tIfS, tTest, tCB, tCall, rI, rI0, rU, tNext, tB, tAnd, tOr, tNot, tAndV, tOrV, tNotV, tDrop, tIf, tPar, gSub, rIxL, rIxT, rEq, rNe, rSetL, tBits,
    L2.start, List.map_cons, List.map_nil, List.cons_append, List.nil_append, List.append_nil, List.length_cons, List.length_nil, List.replicate, Nat.reduceAdd, Nat.reduceSub, Nat.zero_add, List.getElem?_cons_zero, List.getElem?_cons_succ, List.set_cons_zero, List.set_cons_succ,
    Option.some.injEq, exists_eq_left', exists_eq_left, V.int.injEq, V.bl.injEq, V.ref.injEq, V.str.injEq, List.cons.injEq, reduceCtorEq, and_true, true_and, false_and, and_false, exists_false, or_false, false_or, or_true, true_or, exists_const, CMul, CDiv, CPow, and_assoc, exists_and_left, exists_and_right, Int.reducePow, Int.reduceNeg, Int.reduceLT, Int.reduceLE, Nat.reducePow, Nat.reduceLT, Int.reduceToNat, gt_iff_lt, ge_iff_le, decide_eq_true_eq, Bool.not_eq_true', decide_eq_false_iff_not, scal, ↓reduceIte, Bool.false_eq_true]
  refine ⟨_, rfl, Tyd.fr hp.o, _, by rw [frOk_fr hp.o hp.nf], _, rfl, Tyd.fr hq.o, true, by rw [frOk_fr hq.o hq.nf], ?_⟩
  rw [if_pos rfl]
  simp only [hq.o, cx_K, decide_true, decide_false, reduceCtorEq, gTp, gCons, gNil, ca_0, ca_1, ca_2, ca_3, ca_4, ca_5, ca_6, ca_7, ca_8, ca_9, ca_10, ca_11, ca_12, ca_13, ca_14, ca_15, ca_16, ca_17, ca_18, ca_19, ca_20, ca_21, ca_22, ca_23, ca_24, ca_25, ca_26, ca_27, ca_28, ca_29, ca_30, not_true_eq_false, not_false_eq_true, Int.reduceEq, Nat.reduceEqDiff, Nat.reduceLeDiff, rGcd, V.ty.injEq, eq_self, List.not_mem_nil, beq_self_eq_true, HO.lst.injEq, HO.tup.injEq, tFor_eq, iRng1, iList, iTup, nat10, tSeq, rIxA, rSetA, rIsN, rIsT, tTp, tLs, itsO_tup, itsO_lst, tyO_tup, tyO_lst, tyO_dK, tyN_non, tyN_bl, tyN_int, tyN_str, tyN_ref, tyNs_lt, isB, upd_same, upd_upd, sizeLine_eq, List.mem_cons, String.reduceBEq, String.reduceEq, Bool.or_false, Bool.or_true, Bool.and_false, Bool.false_or, Bool.and_self, Bool.false_and, Bool.not_false, Bool.not_true, List.any_cons, List.any_nil, atI_0, setI_0, atI_1, setI_1, atI_2, setI_2, atI_3, setI_3, atI_4, setI_4, atI_5, setI_5, atI_6, setI_6, tAsg, gName, tOp, tUn, tVar, tC, tCons, L2.tNil, tRet, tIfS, tTest, tCB, tCall, rI, rI0, rU, tNext, tB, tAnd, tOr, tNot, tAndV, tOrV, tNotV, tDrop, tIf, tPar, gSub, rIxL, rIxT, rEq, rNe, rSetL, tBits,
    L2.start, List.map_cons, List.map_nil, List.cons_append, List.nil_append, List.append_nil, List.length_cons, List.length_nil, List.replicate, Nat.reduceAdd, Nat.reduceSub, Nat.zero_add, List.getElem?_cons_zero, List.getElem?_cons_succ, List.set_cons_zero, List.set_cons_succ,
    Option.some.injEq, exists_eq_left', exists_eq_left, V.int.injEq, V.bl.injEq, V.ref.injEq, V.str.injEq, List.cons.injEq, reduceCtorEq, and_true, true_and, false_and, and_false, exists_false, or_false, false_or, or_true, true_or, exists_const, CMul, CDiv, CPow, and_assoc, exists_and_left, exists_and_right, Int.reducePow, Int.reduceNeg, Int.reduceLT, Int.reduceLE, Nat.reducePow, Nat.reduceLT, Int.reduceToNat, gt_iff_lt, ge_iff_le, decide_eq_true_eq, Bool.not_eq_true', decide_eq_false_iff_not, scal, ↓reduceIte, Bool.false_eq_true]
  refine ⟨_, by rw [decide_eq_false h0]; rfl, ?_⟩
  simp only [hp.o, hq.o, cx_K, decide_true, decide_false, reduceCtorEq, gTp, gCons, gNil, ca_0, ca_1, ca_2, ca_3, ca_4, ca_5, ca_6, ca_7, ca_8, ca_9, ca_10, ca_11, ca_12, ca_13, ca_14, ca_15, ca_16, ca_17, ca_18, ca_19, ca_20, ca_21, ca_22, ca_23, ca_24, ca_25, ca_26, ca_27, ca_28, ca_29, ca_30, not_true_eq_false, not_false_eq_true, Int.reduceEq, Nat.reduceEqDiff, Nat.reduceLeDiff, rGcd, V.ty.injEq, eq_self, List.not_mem_nil, beq_self_eq_true, HO.lst.injEq, HO.tup.injEq, tFor_eq, iRng1, iList, iTup, nat10, tSeq, rIxA, rSetA, rIsN, rIsT, tTp, tLs, itsO_tup, itsO_lst, tyO_tup, tyO_lst, tyO_dK, tyN_non, tyN_bl, tyN_int, tyN_str, tyN_ref, tyNs_lt, isB, upd_same, upd_upd, sizeLine_eq, List.mem_cons, String.reduceBEq, String.reduceEq, Bool.or_false, Bool.or_true, Bool.and_false, Bool.false_or, Bool.and_self, Bool.false_and, Bool.not_false, Bool.not_true, List.any_cons, List.any_nil, atI_0, setI_0, atI_1, setI_1, atI_2, setI_2, atI_3, setI_3, atI_4, setI_4, atI_5, setI_5, atI_6, setI_6, tAsg, gName, tOp, tUn, tVar, tC, tCons, L2.tNil, tRet, tIfS, tTest, tCB, tCall, rI, rI0, rU, tNext, tB, tAnd, tOr, tNot, tAndV, tOrV, tNotV, tDrop, tIf, tPar, gSub, rIxL, rIxT, rEq, rNe, rSetL, tBits,
    L2.start, List.map_cons, List.map_nil, List.cons_append, List.nil_append, List.append_nil, List.length_cons, List.length_nil, List.replicate, Nat.reduceAdd, Nat.reduceSub, Nat.zero_add, List.getElem?_cons_zero, List.getElem?_cons_succ, List.set_cons_zero, List.set_cons_succ,
    Option.some.injEq, exists_eq_left', exists_eq_left, V.int.injEq, V.bl.injEq, V.ref.injEq, V.str.injEq, List.cons.injEq, reduceCtorEq, and_true, true_and, false_and, and_false, exists_false, or_false, false_or, or_true, true_or, exists_const, CMul, CDiv, CPow, and_assoc, exists_and_left, exists_and_right, Int.reducePow, Int.reduceNeg, Int.reduceLT, Int.reduceLE, Nat.reducePow, Nat.reduceLT, Int.reduceToNat, gt_iff_lt, ge_iff_le, decide_eq_true_eq, Bool.not_eq_true', decide_eq_false_iff_not, scal, ↓reduceIte, Bool.false_eq_true]
  exact ⟨mulW hp.sz.1 hq.sz.2 (by omega), mulW hp.sz.2 hq.sz.1 (by omega), _, _, rfl, Int.mul_ne_zero hp.nf.ne h0, szMono (szMul hp.sz.2 hq.sz.1) (by omega), k⟩
abbrev sCompare : Stmt := topS 30
theorem scCompare : FnScope ["left", "right", "scaled_left", "scaled_right"] ["left", "right"] (defScope sCompare) := ⟨rfl, rfl, rfl, by decide +kernel, rfl, by decide +kernel, by decide +kernel⟩
theorem k_Compare (T : Bt K mg) (D : Dfn K mg "compare" sCompare ["left", "right"]) (d_require : Kn P w K mg base 1 "require" ["well_formed", "what"] spRequire) (d_is_fraction : Kn P w K mg base 2 "is_fraction" ["value"] (spIsFraction K)) : Kn P w K mg base 3 "compare" ["left", "right"] (spCmp K) := by
  refine Kn.mk' D scCompare (fun vs H Q E h => ?_) (fun f cdv A outer s H vs Q E hr h => ?_)
  · obtain ⟨a, b, p, q, rfl, _⟩ := h
    rfl
  obtain ⟨a, b, p, q, rfl, hp, hq, k⟩ := h
  refine ⟨_, (pss_cons (ps_expr (pe_kn d_require hr (by rfl) (pa_cons (pe_kn d_is_fraction hr (by rfl) (pa_cons (pv 0) pa_nil)) (pa_cons pe_str pa_nil))))
      (pss_cons (ps_expr (pe_kn d_require hr (by rfl) (pa_cons (pe_kn d_is_fraction hr (by rfl) (pa_cons (pv 1) pa_nil)) (pa_cons pe_str pa_nil))))
      (pss_cons (ps_set (i := 2) scCompare.nd rfl (.inl rfl) (pe_op op_mulW (pe_ix ix_any (pv 0) pe_int (fun _ _ => rfl)) (pe_ix ix_any (pv 1) pe_int (fun _ _ => rfl))))
      (pss_cons (ps_set (i := 3) scCompare.nd rfl (.inl rfl) (pe_op op_mulW (pe_ix ix_any (pv 1) pe_int (fun _ _ => rfl)) (pe_ix ix_any (pv 0) pe_int (fun _ _ => rfl))))
      (pss_cons (ps_if (pt_cmpR op_eq (pv 2) (pv 3) (nomark _)) (pss_one (ps_ret pe_int)) pss_nil)
      (pss_one (ps_ret (pe_ifExp (pt_cmpR op_lt (pv 2) (pv 3) (nomark _)) (pe_un un_neg pe_int) pe_int)))))))), ?_⟩
  simp only [cx_K, decide_true, decide_false, reduceCtorEq, gTp, gCons, gNil, ca_0, ca_1, ca_2, ca_3, ca_4, ca_5, ca_6, ca_7, ca_8, ca_9, ca_10, ca_11, ca_12, ca_13, ca_14, ca_15, ca_16, ca_17, ca_18, ca_19, ca_20, ca_21, ca_22, ca_23, ca_24, ca_25, ca_26, ca_27, ca_28, ca_29, ca_30, not_true_eq_false, not_false_eq_true, Int.reduceEq, Nat.reduceEqDiff, Nat.reduceLeDiff, rGcd, V.ty.injEq, eq_self, List.not_mem_nil, beq_self_eq_true, HO.lst.injEq, HO.tup.injEq, tFor_eq, iRng1, iList, iTup, nat10, tSeq, rIxA, rSetA, rIsN, rIsT, tTp, tLs, itsO_tup, itsO_lst, tyO_tup, tyO_lst, tyO_dK, tyN_non, tyN_bl, tyN_int, tyN_str, tyN_ref, tyNs_lt, isB, upd_same, upd_upd, sizeLine_eq, List.mem_cons, String.reduceBEq, String.reduceEq, Bool.or_false, Bool.or_true, Bool.and_false, Bool.false_or, Bool.and_self, Bool.false_and, Bool.not_false, Bool.not_true, List.any_cons, List.any_nil, atI_0, setI_0, atI_1, setI_1, atI_2, setI_2, atI_3, setI_3, atI_4, setI_4, atI_5, setI_5, atI_6, setI_6, tAsg, gName, tOp, tUn, tVar, tC, tCons, L2.tNil, tRet, tIfS, tTest, tCB, tCall, rI, rI0, rU, tNext, tB, tAnd, tOr, tNot, tAndV, tOrV, tNotV, tDrop, tIf, tPar, gSub, rIxL, rIxT, rEq, rNe, rSetL, tBits,
    L2.start, List.map_cons, List.map_nil, List.cons_append, List.nil_append, List.append_nil, List.length_cons, List.length_nil, List.replicate, Nat.reduceAdd, Nat.reduceSub, Nat.zero_add, List.getElem?_cons_zero, List.getElem?_cons_succ, List.set_cons_zero, List.set_cons_succ,
    Option.some.injEq, exists_eq_left', exists_eq_left, V.int.injEq, V.bl.injEq, V.ref.injEq, V.str.injEq, List.cons.injEq, reduceCtorEq, and_true, true_and, false_and, and_false, exists_false, or_false, false_or, or_true, true_or, exists_const, CMul, CDiv, CPow, and_assoc, exists_and_left, exists_and_right, Int.reducePow, Int.reduceNeg, Int.reduceLT, Int.reduceLE, Nat.reducePow, Nat.reduceLT, Int.reduceToNat, gt_iff_lt, ge_iff_le, decide_eq_true_eq, Bool.not_eq_true', decide_eq_false_iff_not, scal, ↓reduceIte, Bool.false_eq_true]
  refine ⟨_, rfl, Tyd.fr hp.o, _, by rw [frOk_fr hp.o hp.nf], _, rfl, Tyd.fr hq.o, _, by rw [frOk_fr hq.o hq.nf], ?_⟩
  simp only [hp.o, hq.o, cx_K, decide_true, decide_false, reduceCtorEq, gTp, gCons, gNil, ca_0, ca_1, ca_2, ca_3, ca_4, ca_5, ca_6, ca_7, ca_8, ca_9, ca_10, ca_11, ca_12, ca_13, ca_14, ca_15, ca_16, ca_17, ca_18, ca_19, ca_20, ca_21, ca_22, ca_23, ca_24, ca_25, ca_26, ca_27, ca_28, ca_29, ca_30, not_true_eq_false, not_false_eq_true, Int.reduceEq, Nat.reduceEqDiff, Nat.reduceLeDiff, rGcd, V.ty.injEq, eq_self, List.not_mem_nil, beq_self_eq_true, HO.lst.injEq, HO.tup.injEq, tFor_eq, iRng1, iList, iTup, nat10, tSeq, rIxA, rSetA, rIsN, rIsT, tTp, tLs, itsO_tup, itsO_lst, tyO_tup, tyO_lst, tyO_dK, tyN_non, tyN_bl, tyN_int, tyN_str, tyN_ref, tyNs_lt, isB, upd_same, upd_upd, sizeLine_eq, List.mem_cons, String.reduceBEq, String.reduceEq, Bool.or_false, Bool.or_true, Bool.and_false, Bool.false_or, Bool.and_self, Bool.false_and, Bool.not_false, Bool.not_true, List.any_cons, List.any_nil, atI_0, setI_0, atI_1, setI_1, atI_2, setI_2, atI_3, setI_3, atI_4, setI_4, atI_5, setI_5, atI_6, setI_6, tAsg, gName, tOp, tUn, tVar, tC, tCons, L2.tNil, tRet, tIfS, tTest, tCB, tCall, rI, rI0, rU, tNext, tB, tAnd, tOr, tNot, tAndV, tOrV, tNotV, tDrop, tIf, tPar, gSub, rIxL, rIxT, rEq, rNe, rSetL, tBits,
    L2.start, List.map_cons, List.map_nil, List.cons_append, List.nil_append, List.append_nil, List.length_cons, List.length_nil, List.replicate, Nat.reduceAdd, Nat.reduceSub, Nat.zero_add, List.getElem?_cons_zero, List.getElem?_cons_succ, List.set_cons_zero, List.set_cons_succ,
    Option.some.injEq, exists_eq_left', exists_eq_left, V.int.injEq, V.bl.injEq, V.ref.injEq, V.str.injEq, List.cons.injEq, reduceCtorEq, and_true, true_and, false_and, and_false, exists_false, or_false, false_or, or_true, true_or, exists_const, CMul, CDiv, CPow, and_assoc, exists_and_left, exists_and_right, Int.reducePow, Int.reduceNeg, Int.reduceLT, Int.reduceLE, Nat.reducePow, Nat.reduceLT, Int.reduceToNat, gt_iff_lt, ge_iff_le, decide_eq_true_eq, Bool.not_eq_true', decide_eq_false_iff_not, scal, ↓reduceIte, Bool.false_eq_true]
  refine ⟨mulW hp.sz.1 hq.sz.2 (by omega), mulW hq.sz.1 hp.sz.2 (by omega), ?_⟩
  unfold cmp2 at k
  refine ite2 (fun h => ?_) (fun h => ?_)
  · rw [if_pos h] at k
    exact k
  rw [if_neg h] at k
  refine ite2 (fun h => ?_) (fun h => ?_)
  · rw [if_pos h] at k
    exact k
  · rw [if_neg h] at k
    exact k
def spQuot (K : PySem.W.Frag) : Sp := fun vs H Q _ => ∃ (a : Addr) (z : Qt) (t b : Int), vs = [.ref a, .int t, .int b] ∧ Fq K H 3000 a z ∧ Is z t b ∧ t.natAbs < 2 ^ 3000 ∧ b.natAbs < 2 ^ 3000 ∧ Q (.bl true) H
abbrev sLPlus : Stmt := topS 54
theorem scLPlus : FnScope ["_law_left", "_law_right"] ["_law_left", "_law_right"] (defScope sLPlus) := ⟨rfl, rfl, rfl, by decide +kernel, rfl, by decide +kernel, by decide +kernel⟩
theorem k_LPlus (T : Bt K mg) (D : Dfn K mg "_law_plus" sLPlus ["_law_left", "_law_right"]) (d__law_lowest : Kn P w K mg base 2 "_law_lowest" ["_law_top", "_law_bottom"] (spLowest K)) : Kn P w K mg base 3 "_law_plus" ["_law_left", "_law_right"] (spBin K sum2) := by
  refine Kn.mk' D scLPlus (fun vs H Q E h => ?_) (fun f cdv A outer s H vs Q E hr h => ?_)
  · obtain ⟨a, b, p, q, rfl, _⟩ := h
    rfl
  obtain ⟨a, b, p, q, rfl, hp, hq, k⟩ := h
  refine ⟨_, (pss_one (ps_ret (pe_kn d__law_lowest hr (by rfl) (pa_cons (pe_op op_add (pe_op op_mulW (pe_ix ix_any (pv 0) pe_int (fun _ _ => rfl)) (pe_ix ix_any (pv 1) pe_int (fun _ _ => rfl))) (pe_op op_mulW (pe_ix ix_any (pv 1) pe_int (fun _ _ => rfl)) (pe_ix ix_any (pv 0) pe_int (fun _ _ => rfl)))) (pa_cons (pe_op op_mulW (pe_ix ix_any (pv 0) pe_int (fun _ _ => rfl)) (pe_ix ix_any (pv 1) pe_int (fun _ _ => rfl))) pa_nil))))), ?_⟩
  simp only [hp.o, hq.o, cx_K, decide_true, decide_false, reduceCtorEq, gTp, gCons, gNil, ca_0, ca_1, ca_2, ca_3, ca_4, ca_5, ca_6, ca_7, ca_8, ca_9, ca_10, ca_11, ca_12, ca_13, ca_14, ca_15, ca_16, ca_17, ca_18, ca_19, ca_20, ca_21, ca_22, ca_23, ca_24, ca_25, ca_26, ca_27, ca_28, ca_29, ca_30, not_true_eq_false, not_false_eq_true, Int.reduceEq, Nat.reduceEqDiff, Nat.reduceLeDiff, rGcd, V.ty.injEq, eq_self, List.not_mem_nil, beq_self_eq_true, HO.lst.injEq, HO.tup.injEq, tFor_eq, iRng1, iList, iTup, nat10, tSeq, rIxA, rSetA, rIsN, rIsT, tTp, tLs, itsO_tup, itsO_lst, tyO_tup, tyO_lst, tyO_dK, tyN_non, tyN_bl, tyN_int, tyN_str, tyN_ref, tyNs_lt, isB, upd_same, upd_upd, sizeLine_eq, List.mem_cons, String.reduceBEq, String.reduceEq, Bool.or_false, Bool.or_true, Bool.and_false, Bool.false_or, Bool.and_self, Bool.false_and, Bool.not_false, Bool.not_true, List.any_cons, List.any_nil, atI_0, setI_0, atI_1, setI_1, atI_2, setI_2, atI_3, setI_3, atI_4, setI_4, atI_5, setI_5, atI_6, setI_6, tAsg, gName, tOp, tUn, tVar, tC, tCons, L2.tNil, tRet, tIfS, tTest, tCB, tCall, rI, rI0, rU, tNext, tB, tAnd, tOr, tNot, tAndV, tOrV, tNotV, tDrop, tIf, tPar, gSub, rIxL, rIxT, rEq, rNe, rSetL, tBits,
    L2.start, List.map_cons, List.map_nil, List.cons_append, List.nil_append, List.append_nil, List.length_cons, List.length_nil, List.replicate, Nat.reduceAdd, Nat.reduceSub, Nat.zero_add, List.getElem?_cons_zero, List.getElem?_cons_succ, List.set_cons_zero, List.set_cons_succ,
    Option.some.injEq, exists_eq_left', exists_eq_left, V.int.injEq, V.bl.injEq, V.ref.injEq, V.str.injEq, List.cons.injEq, reduceCtorEq, and_true, true_and, false_and, and_false, exists_false, or_false, false_or, or_true, true_or, exists_const, CMul, CDiv, CPow, and_assoc, exists_and_left, exists_and_right, Int.reducePow, Int.reduceNeg, Int.reduceLT, Int.reduceLE, Nat.reducePow, Nat.reduceLT, Int.reduceToNat, gt_iff_lt, ge_iff_le, decide_eq_true_eq, Bool.not_eq_true', decide_eq_false_iff_not, scal, ↓reduceIte, Bool.false_eq_true]
  exact ⟨mulW hp.sz.1 hq.sz.2 (by omega), mulW hq.sz.1 hp.sz.2 (by omega), mulW hp.sz.2 hq.sz.2 (by omega), _, _, rfl, szMono (szMul hp.sz.2 hq.sz.2) (by omega), fun z hz => k z (hz.2 (mul_ne hp.nf.1 hq.nf.1))⟩
abbrev sPart : Stmt := topS 34
theorem scPart : FnScope ["value"] ["value"] (defScope sPart) := ⟨rfl, rfl, rfl, by decide +kernel, rfl, by decide +kernel, by decide +kernel⟩
theorem k_Part (T : Bt K mg) (D : Dfn K mg "part_of" sPart ["value"]) (d_require : Kn P w K mg base 1 "require" ["well_formed", "what"] spRequire) (d_is_fraction : Kn P w K mg base 2 "is_fraction" ["value"] (spIsFraction K)) : Kn P w K mg base 3 "part_of" ["value"] (spUn K fun q => (q.1 % q.2, q.2)) := by
  refine Kn.mk' D scPart (fun vs H Q E h => ?_) (fun f cdv A outer s H vs Q E hr h => ?_)
  · obtain ⟨a, q, rfl, _⟩ := h
    rfl
  obtain ⟨a, q, rfl, hq, k⟩ := h
  refine ⟨_, (pss_cons (ps_expr (pe_kn d_require hr (by rfl) (pa_cons (pe_kn d_is_fraction hr (by rfl) (pa_cons (pv 0) pa_nil)) (pa_cons pe_str pa_nil))))
      (pss_one (ps_ret (pe_tp (pa_cons (pe_op op_modN (pe_ix ix_any (pv 0) pe_int (fun _ _ => rfl)) (pe_ix ix_any (pv 0) pe_int (fun _ _ => rfl))) (pa_cons (pe_ix ix_any (pv 0) pe_int (fun _ _ => rfl)) pa_nil)))))), ?_⟩
  simp only [cx_K, decide_true, decide_false, reduceCtorEq, gTp, gCons, gNil, ca_0, ca_1, ca_2, ca_3, ca_4, ca_5, ca_6, ca_7, ca_8, ca_9, ca_10, ca_11, ca_12, ca_13, ca_14, ca_15, ca_16, ca_17, ca_18, ca_19, ca_20, ca_21, ca_22, ca_23, ca_24, ca_25, ca_26, ca_27, ca_28, ca_29, ca_30, not_true_eq_false, not_false_eq_true, Int.reduceEq, Nat.reduceEqDiff, Nat.reduceLeDiff, rGcd, V.ty.injEq, eq_self, List.not_mem_nil, beq_self_eq_true, HO.lst.injEq, HO.tup.injEq, tFor_eq, iRng1, iList, iTup, nat10, tSeq, rIxA, rSetA, rIsN, rIsT, tTp, tLs, itsO_tup, itsO_lst, tyO_tup, tyO_lst, tyO_dK, tyN_non, tyN_bl, tyN_int, tyN_str, tyN_ref, tyNs_lt, isB, upd_same, upd_upd, sizeLine_eq, List.mem_cons, String.reduceBEq, String.reduceEq, Bool.or_false, Bool.or_true, Bool.and_false, Bool.false_or, Bool.and_self, Bool.false_and, Bool.not_false, Bool.not_true, List.any_cons, List.any_nil, atI_0, setI_0, atI_1, setI_1, atI_2, setI_2, atI_3, setI_3, atI_4, setI_4, atI_5, setI_5, atI_6, setI_6, tAsg, gName, tOp, tUn, tVar, tC, tCons, L2.tNil, tRet, tIfS, tTest, tCB, tCall, rI, rI0, rU, tNext, tB, tAnd, tOr, tNot, tAndV, tOrV, tNotV, tDrop, tIf, tPar, gSub, rIxL, rIxT, rEq, rNe, rSetL, tBits,
    L2.start, List.map_cons, List.map_nil, List.cons_append, List.nil_append, List.append_nil, List.length_cons, List.length_nil, List.replicate, Nat.reduceAdd, Nat.reduceSub, Nat.zero_add, List.getElem?_cons_zero, List.getElem?_cons_succ, List.set_cons_zero, List.set_cons_succ,
    Option.some.injEq, exists_eq_left', exists_eq_left, V.int.injEq, V.bl.injEq, V.ref.injEq, V.str.injEq, List.cons.injEq, reduceCtorEq, and_true, true_and, false_and, and_false, exists_false, or_false, false_or, or_true, true_or, exists_const, CMul, CDiv, CPow, and_assoc, exists_and_left, exists_and_right, Int.reducePow, Int.reduceNeg, Int.reduceLT, Int.reduceLE, Nat.reducePow, Nat.reduceLT, Int.reduceToNat, gt_iff_lt, ge_iff_le, decide_eq_true_eq, Bool.not_eq_true', decide_eq_false_iff_not, scal, ↓reduceIte, Bool.false_eq_true]
  refine ⟨_, rfl, Tyd.fr hq.o, _, by rw [frOk_fr hq.o hq.nf], ?_⟩
  have fm : q.1.fmod q.2 = q.1 % q.2 := Int.fmod_eq_emod_of_nonneg _ (by have := hq.nf.1; omega)
  simp only [hq.o, fm, cx_K, decide_true, decide_false, reduceCtorEq, gTp, gCons, gNil, ca_0, ca_1, ca_2, ca_3, ca_4, ca_5, ca_6, ca_7, ca_8, ca_9, ca_10, ca_11, ca_12, ca_13, ca_14, ca_15, ca_16, ca_17, ca_18, ca_19, ca_20, ca_21, ca_22, ca_23, ca_24, ca_25, ca_26, ca_27, ca_28, ca_29, ca_30, not_true_eq_false, not_false_eq_true, Int.reduceEq, Nat.reduceEqDiff, Nat.reduceLeDiff, rGcd, V.ty.injEq, eq_self, List.not_mem_nil, beq_self_eq_true, HO.lst.injEq, HO.tup.injEq, tFor_eq, iRng1, iList, iTup, nat10, tSeq, rIxA, rSetA, rIsN, rIsT, tTp, tLs, itsO_tup, itsO_lst, tyO_tup, tyO_lst, tyO_dK, tyN_non, tyN_bl, tyN_int, tyN_str, tyN_ref, tyNs_lt, isB, upd_same, upd_upd, sizeLine_eq, List.mem_cons, String.reduceBEq, String.reduceEq, Bool.or_false, Bool.or_true, Bool.and_false, Bool.false_or, Bool.and_self, Bool.false_and, Bool.not_false, Bool.not_true, List.any_cons, List.any_nil, atI_0, setI_0, atI_1, setI_1, atI_2, setI_2, atI_3, setI_3, atI_4, setI_4, atI_5, setI_5, atI_6, setI_6, tAsg, gName, tOp, tUn, tVar, tC, tCons, L2.tNil, tRet, tIfS, tTest, tCB, tCall, rI, rI0, rU, tNext, tB, tAnd, tOr, tNot, tAndV, tOrV, tNotV, tDrop, tIf, tPar, gSub, rIxL, rIxT, rEq, rNe, rSetL, tBits,
    L2.start, List.map_cons, List.map_nil, List.cons_append, List.nil_append, List.append_nil, List.length_cons, List.length_nil, List.replicate, Nat.reduceAdd, Nat.reduceSub, Nat.zero_add, List.getElem?_cons_zero, List.getElem?_cons_succ, List.set_cons_zero, List.set_cons_succ,
    Option.some.injEq, exists_eq_left', exists_eq_left, V.int.injEq, V.bl.injEq, V.ref.injEq, V.str.injEq, List.cons.injEq, reduceCtorEq, and_true, true_and, false_and, and_false, exists_false, or_false, false_or, or_true, true_or, exists_const, CMul, CDiv, CPow, and_assoc, exists_and_left, exists_and_right, Int.reducePow, Int.reduceNeg, Int.reduceLT, Int.reduceLE, Nat.reducePow, Nat.reduceLT, Int.reduceToNat, gt_iff_lt, ge_iff_le, decide_eq_true_eq, Bool.not_eq_true', decide_eq_false_iff_not, scal, ↓reduceIte, Bool.false_eq_true]
  exact ⟨hq.nf.ne, fun p hp kp => k.new hp kp⟩
abbrev sMagn : Stmt := topS 33
theorem scMagn : FnScope ["value"] ["value"] (defScope sMagn) := ⟨rfl, rfl, rfl, by decide +kernel, rfl, by decide +kernel, by decide +kernel⟩
theorem k_Magn (T : Bt K mg) (D : Dfn K mg "magnitude" sMagn ["value"]) (d_require : Kn P w K mg base 1 "require" ["well_formed", "what"] spRequire) (d_is_fraction : Kn P w K mg base 2 "is_fraction" ["value"] (spIsFraction K)) : Kn P w K mg base 3 "magnitude" ["value"] (spUn K fun q => ((q.1.natAbs : Int), q.2)) := by
  refine Kn.mk' D scMagn (fun vs H Q E h => ?_) (fun f cdv A outer s H vs Q E hr h => ?_)
  · obtain ⟨a, q, rfl, _⟩ := h
    rfl
  obtain ⟨a, q, rfl, hq, k⟩ := h
  refine ⟨_, (pss_cons (ps_expr (pe_kn d_require hr (by rfl) (pa_cons (pe_kn d_is_fraction hr (by rfl) (pa_cons (pv 0) pa_nil)) (pa_cons pe_str pa_nil))))
      (pss_one (ps_ret (pe_tp (pa_cons (pe_callB call_abs (by rfl) T.b_abs (by decide +kernel) (pa_cons (pe_ix ix_any (pv 0) pe_int (fun _ _ => rfl)) pa_nil)) (pa_cons (pe_ix ix_any (pv 0) pe_int (fun _ _ => rfl)) pa_nil)))))), ?_⟩
  simp only [cx_K, decide_true, decide_false, reduceCtorEq, gTp, gCons, gNil, ca_0, ca_1, ca_2, ca_3, ca_4, ca_5, ca_6, ca_7, ca_8, ca_9, ca_10, ca_11, ca_12, ca_13, ca_14, ca_15, ca_16, ca_17, ca_18, ca_19, ca_20, ca_21, ca_22, ca_23, ca_24, ca_25, ca_26, ca_27, ca_28, ca_29, ca_30, not_true_eq_false, not_false_eq_true, Int.reduceEq, Nat.reduceEqDiff, Nat.reduceLeDiff, rGcd, V.ty.injEq, eq_self, List.not_mem_nil, beq_self_eq_true, HO.lst.injEq, HO.tup.injEq, tFor_eq, iRng1, iList, iTup, nat10, tSeq, rIxA, rSetA, rIsN, rIsT, tTp, tLs, itsO_tup, itsO_lst, tyO_tup, tyO_lst, tyO_dK, tyN_non, tyN_bl, tyN_int, tyN_str, tyN_ref, tyNs_lt, isB, upd_same, upd_upd, sizeLine_eq, List.mem_cons, String.reduceBEq, String.reduceEq, Bool.or_false, Bool.or_true, Bool.and_false, Bool.false_or, Bool.and_self, Bool.false_and, Bool.not_false, Bool.not_true, List.any_cons, List.any_nil, atI_0, setI_0, atI_1, setI_1, atI_2, setI_2, atI_3, setI_3, atI_4, setI_4, atI_5, setI_5, atI_6, setI_6, tAsg, gName, tOp, tUn, tVar, tC, tCons, L2.tNil, tRet, tIfS, tTest, tCB, tCall, rI, rI0, rU, tNext, tB, tAnd, tOr, tNot, tAndV, tOrV, tNotV, tDrop, tIf, tPar, gSub, rIxL, rIxT, rEq, rNe, rSetL, tBits,
    L2.start, List.map_cons, List.map_nil, List.cons_append, List.nil_append, List.append_nil, List.length_cons, List.length_nil, List.replicate, Nat.reduceAdd, Nat.reduceSub, Nat.zero_add, List.getElem?_cons_zero, List.getElem?_cons_succ, List.set_cons_zero, List.set_cons_succ,
    Option.some.injEq, exists_eq_left', exists_eq_left, V.int.injEq, V.bl.injEq, V.ref.injEq, V.str.injEq, List.cons.injEq, reduceCtorEq, and_true, true_and, false_and, and_false, exists_false, or_false, false_or, or_true, true_or, exists_const, CMul, CDiv, CPow, and_assoc, exists_and_left, exists_and_right, Int.reducePow, Int.reduceNeg, Int.reduceLT, Int.reduceLE, Nat.reducePow, Nat.reduceLT, Int.reduceToNat, gt_iff_lt, ge_iff_le, decide_eq_true_eq, Bool.not_eq_true', decide_eq_false_iff_not, scal, ↓reduceIte, Bool.false_eq_true]
  refine ⟨_, rfl, Tyd.fr hq.o, _, by rw [frOk_fr hq.o hq.nf], ?_⟩
  simp only [hq.o, abs_if, cx_K, decide_true, decide_false, reduceCtorEq, gTp, gCons, gNil, ca_0, ca_1, ca_2, ca_3, ca_4, ca_5, ca_6, ca_7, ca_8, ca_9, ca_10, ca_11, ca_12, ca_13, ca_14, ca_15, ca_16, ca_17, ca_18, ca_19, ca_20, ca_21, ca_22, ca_23, ca_24, ca_25, ca_26, ca_27, ca_28, ca_29, ca_30, not_true_eq_false, not_false_eq_true, Int.reduceEq, Nat.reduceEqDiff, Nat.reduceLeDiff, rGcd, V.ty.injEq, eq_self, List.not_mem_nil, beq_self_eq_true, HO.lst.injEq, HO.tup.injEq, tFor_eq, iRng1, iList, iTup, nat10, tSeq, rIxA, rSetA, rIsN, rIsT, tTp, tLs, itsO_tup, itsO_lst, tyO_tup, tyO_lst, tyO_dK, tyN_non, tyN_bl, tyN_int, tyN_str, tyN_ref, tyNs_lt, isB, upd_same, upd_upd, sizeLine_eq, List.mem_cons, String.reduceBEq, String.reduceEq, Bool.or_false, Bool.or_true, Bool.and_false, Bool.false_or, Bool.and_self, Bool.false_and, Bool.not_false, Bool.not_true, List.any_cons, List.any_nil, atI_0, setI_0, atI_1, setI_1, atI_2, setI_2, atI_3, setI_3, atI_4, setI_4, atI_5, setI_5, atI_6, setI_6, tAsg, gName, tOp, tUn, tVar, tC, tCons, L2.tNil, tRet, tIfS, tTest, tCB, tCall, rI, rI0, rU, tNext, tB, tAnd, tOr, tNot, tAndV, tOrV, tNotV, tDrop, tIf, tPar, gSub, rIxL, rIxT, rEq, rNe, rSetL, tBits,
    L2.start, List.map_cons, List.map_nil, List.cons_append, List.nil_append, List.append_nil, List.length_cons, List.length_nil, List.replicate, Nat.reduceAdd, Nat.reduceSub, Nat.zero_add, List.getElem?_cons_zero, List.getElem?_cons_succ, List.set_cons_zero, List.set_cons_succ,
    Option.some.injEq, exists_eq_left', exists_eq_left, V.int.injEq, V.bl.injEq, V.ref.injEq, V.str.injEq, List.cons.injEq, reduceCtorEq, and_true, true_and, false_and, and_false, exists_false, or_false, false_or, or_true, true_or, exists_const, CMul, CDiv, CPow, and_assoc, exists_and_left, exists_and_right, Int.reducePow, Int.reduceNeg, Int.reduceLT, Int.reduceLE, Nat.reducePow, Nat.reduceLT, Int.reduceToNat, gt_iff_lt, ge_iff_le, decide_eq_true_eq, Bool.not_eq_true', decide_eq_false_iff_not, scal, ↓reduceIte, Bool.false_eq_true]
  exact fun p hp kp => k.new hp kp
abbrev sLPart : Stmt := topS 58
theorem scLPart : FnScope ["_law_value"] ["_law_value"] (defScope sLPart) := ⟨rfl, rfl, rfl, by decide +kernel, rfl, by decide +kernel, by decide +kernel⟩
theorem k_LPart (T : Bt K mg) (D : Dfn K mg "_law_part" sLPart ["_law_value"]) (d__law_lowest : Kn P w K mg base 2 "_law_lowest" ["_law_top", "_law_bottom"] (spLowest K)) : Kn P w K mg base 3 "_law_part" ["_law_value"] (spUn K fun q => (q.1 % q.2, q.2)) := by
  refine Kn.mk' D scLPart (fun vs H Q E h => ?_) (fun f cdv A outer s H vs Q E hr h => ?_)
  · obtain ⟨a, q, rfl, _⟩ := h
    rfl
  obtain ⟨a, q, rfl, hq, k⟩ := h
  refine ⟨_, (pss_one (ps_ret (pe_kn d__law_lowest hr (by rfl) (pa_cons (pe_op op_modN (pe_callTy call_int1 (by rfl) T.b_int (by decide +kernel) (pa_cons (pe_ix ix_any (pv 0) pe_int (fun _ _ => rfl)) pa_nil)) (pe_ix ix_any (pv 0) pe_int (fun _ _ => rfl))) (pa_cons (pe_ix ix_any (pv 0) pe_int (fun _ _ => rfl)) pa_nil))))), ?_⟩
  have fm : q.1.fmod q.2 = q.1 % q.2 := Int.fmod_eq_emod_of_nonneg _ (by have := hq.nf.1; omega)
  simp only [hq.o, fm, cx_K, decide_true, decide_false, reduceCtorEq, gTp, gCons, gNil, ca_0, ca_1, ca_2, ca_3, ca_4, ca_5, ca_6, ca_7, ca_8, ca_9, ca_10, ca_11, ca_12, ca_13, ca_14, ca_15, ca_16, ca_17, ca_18, ca_19, ca_20, ca_21, ca_22, ca_23, ca_24, ca_25, ca_26, ca_27, ca_28, ca_29, ca_30, not_true_eq_false, not_false_eq_true, Int.reduceEq, Nat.reduceEqDiff, Nat.reduceLeDiff, rGcd, V.ty.injEq, eq_self, List.not_mem_nil, beq_self_eq_true, HO.lst.injEq, HO.tup.injEq, tFor_eq, iRng1, iList, iTup, nat10, tSeq, rIxA, rSetA, rIsN, rIsT, tTp, tLs, itsO_tup, itsO_lst, tyO_tup, tyO_lst, tyO_dK, tyN_non, tyN_bl, tyN_int, tyN_str, tyN_ref, tyNs_lt, isB, upd_same, upd_upd, sizeLine_eq, List.mem_cons, String.reduceBEq, String.reduceEq, Bool.or_false, Bool.or_true, Bool.and_false, Bool.false_or, Bool.and_self, Bool.false_and, Bool.not_false, Bool.not_true, List.any_cons, List.any_nil, atI_0, setI_0, atI_1, setI_1, atI_2, setI_2, atI_3, setI_3, atI_4, setI_4, atI_5, setI_5, atI_6, setI_6, tAsg, gName, tOp, tUn, tVar, tC, tCons, L2.tNil, tRet, tIfS, tTest, tCB, tCall, rI, rI0, rU, tNext, tB, tAnd, tOr, tNot, tAndV, tOrV, tNotV, tDrop, tIf, tPar, gSub, rIxL, rIxT, rEq, rNe, rSetL, tBits,
    L2.start, List.map_cons, List.map_nil, List.cons_append, List.nil_append, List.append_nil, List.length_cons, List.length_nil, List.replicate, Nat.reduceAdd, Nat.reduceSub, Nat.zero_add, List.getElem?_cons_zero, List.getElem?_cons_succ, List.set_cons_zero, List.set_cons_succ,
    Option.some.injEq, exists_eq_left', exists_eq_left, V.int.injEq, V.bl.injEq, V.ref.injEq, V.str.injEq, List.cons.injEq, reduceCtorEq, and_true, true_and, false_and, and_false, exists_false, or_false, false_or, or_true, true_or, exists_const, CMul, CDiv, CPow, and_assoc, exists_and_left, exists_and_right, Int.reducePow, Int.reduceNeg, Int.reduceLT, Int.reduceLE, Nat.reducePow, Nat.reduceLT, Int.reduceToNat, gt_iff_lt, ge_iff_le, decide_eq_true_eq, Bool.not_eq_true', decide_eq_false_iff_not, scal, ↓reduceIte, Bool.false_eq_true]
  refine ⟨hq.nf.ne, _, _, rfl, hq.sz.2, fun z hz => ?_⟩
  rw [is_unique hq.nf.ne (hz.2 hq.nf.ne) (is_self (nf_part hq.nf))]
  exact k
def spLFracs (K : PySem.W.Frag) : Sp := fun vs H Q _ => ∃ (l : Addr) (xs : List V), vs = [.ref l] ∧ H l = some (.lst xs) ∧ K.lookup l = none ∧ (∀ x ∈ xs, ∃ a q, x = .ref a ∧ Fq K H 8000 a q) ∧ Q (.bl true) H
def FracsI (l : Addr) (H : Hp) (_ : Nat) (σ : L2.St) (H' : Hp) : Prop := ∃ y, σ = [some (.ref l), y] ∧ H' = H
def spLeaves (K : PySem.W.Frag) : Sp := fun vs H Q _ => ∃ (a b : Addr) (p q : Qt), vs = [.ref a, .ref b] ∧ Fq K H 8000 a p ∧ Fq K H 8000 b q ∧ Q (.bl (decide (q.2 = p.2) && decide ((p.1 - q.1) % p.2 = 0))) H
abbrev sNegated : Stmt := topS 32
theorem scNegated : FnScope ["value"] ["value"] (defScope sNegated) := ⟨rfl, rfl, rfl, by decide +kernel, rfl, by decide +kernel, by decide +kernel⟩
theorem k_Negated (T : Bt K mg) (D : Dfn K mg "negated" sNegated ["value"]) (d_require : Kn P w K mg base 1 "require" ["well_formed", "what"] spRequire) (d_is_fraction : Kn P w K mg base 2 "is_fraction" ["value"] (spIsFraction K)) : Kn P w K mg base 3 "negated" ["value"] (spUn K fun q => (-q.1, q.2)) := by
  refine Kn.mk' D scNegated (fun vs H Q E h => ?_) (fun f cdv A outer s H vs Q E hr h => ?_)
  · obtain ⟨a, q, rfl, _⟩ := h
    rfl
  obtain ⟨a, q, rfl, hq, k⟩ := h
  refine ⟨_, (pss_cons (ps_expr (pe_kn d_require hr (by rfl) (pa_cons (pe_kn d_is_fraction hr (by rfl) (pa_cons (pv 0) pa_nil)) (pa_cons pe_str pa_nil))))
      (pss_one (ps_ret (pe_tp (pa_cons (pe_un un_neg (pe_ix ix_any (pv 0) pe_int (fun _ _ => rfl))) (pa_cons (pe_ix ix_any (pv 0) pe_int (fun _ _ => rfl)) pa_nil)))))), ?_⟩
  simp only [cx_K, decide_true, decide_false, reduceCtorEq, gTp, gCons, gNil, ca_0, ca_1, ca_2, ca_3, ca_4, ca_5, ca_6, ca_7, ca_8, ca_9, ca_10, ca_11, ca_12, ca_13, ca_14, ca_15, ca_16, ca_17, ca_18, ca_19, ca_20, ca_21, ca_22, ca_23, ca_24, ca_25, ca_26, ca_27, ca_28, ca_29, ca_30, not_true_eq_false, not_false_eq_true, Int.reduceEq, Nat.reduceEqDiff, Nat.reduceLeDiff, rGcd, V.ty.injEq, eq_self, List.not_mem_nil, beq_self_eq_true, HO.lst.injEq, HO.tup.injEq, tFor_eq, iRng1, iList, iTup, nat10, tSeq, rIxA, rSetA, rIsN, rIsT, tTp, tLs, itsO_tup, itsO_lst, tyO_tup, tyO_lst, tyO_dK, tyN_non, tyN_bl, tyN_int, tyN_str, tyN_ref, tyNs_lt, isB, upd_same, upd_upd, sizeLine_eq, List.mem_cons, String.reduceBEq, String.reduceEq, Bool.or_false, Bool.or_true, Bool.and_false, Bool.false_or, Bool.and_self, Bool.false_and, Bool.not_false, Bool.not_true, List.any_cons, List.any_nil, atI_0, setI_0, atI_1, setI_1, atI_2, setI_2, atI_3, setI_3, atI_4, setI_4, atI_5, setI_5, atI_6, setI_6, tAsg, gName, tOp, tUn, tVar, tC, tCons, L2.tNil, tRet, tIfS, tTest, tCB, tCall, rI, rI0, rU, tNext, tB, tAnd, tOr, tNot, tAndV, tOrV, tNotV, tDrop, tIf, tPar, gSub, rIxL, rIxT, rEq, rNe, rSetL, tBits,
    L2.start, List.map_cons, List.map_nil, List.cons_append, List.nil_append, List.append_nil, List.length_cons, List.length_nil, List.replicate, Nat.reduceAdd, Nat.reduceSub, Nat.zero_add, List.getElem?_cons_zero, List.getElem?_cons_succ, List.set_cons_zero, List.set_cons_succ,
    Option.some.injEq, exists_eq_left', exists_eq_left, V.int.injEq, V.bl.injEq, V.ref.injEq, V.str.injEq, List.cons.injEq, reduceCtorEq, and_true, true_and, false_and, and_false, exists_false, or_false, false_or, or_true, true_or, exists_const, CMul, CDiv, CPow, and_assoc, exists_and_left, exists_and_right, Int.reducePow, Int.reduceNeg, Int.reduceLT, Int.reduceLE, Nat.reducePow, Nat.reduceLT, Int.reduceToNat, gt_iff_lt, ge_iff_le, decide_eq_true_eq, Bool.not_eq_true', decide_eq_false_iff_not, scal, ↓reduceIte, Bool.false_eq_true]
  refine ⟨_, rfl, Tyd.fr hq.o, _, by rw [frOk_fr hq.o hq.nf], ?_⟩
  simp only [hq.o, cx_K, decide_true, decide_false, reduceCtorEq, gTp, gCons, gNil, ca_0, ca_1, ca_2, ca_3, ca_4, ca_5, ca_6, ca_7, ca_8, ca_9, ca_10, ca_11, ca_12, ca_13, ca_14, ca_15, ca_16, ca_17, ca_18, ca_19, ca_20, ca_21, ca_22, ca_23, ca_24, ca_25, ca_26, ca_27, ca_28, ca_29, ca_30, not_true_eq_false, not_false_eq_true, Int.reduceEq, Nat.reduceEqDiff, Nat.reduceLeDiff, rGcd, V.ty.injEq, eq_self, List.not_mem_nil, beq_self_eq_true, HO.lst.injEq, HO.tup.injEq, tFor_eq, iRng1, iList, iTup, nat10, tSeq, rIxA, rSetA, rIsN, rIsT, tTp, tLs, itsO_tup, itsO_lst, tyO_tup, tyO_lst, tyO_dK, tyN_non, tyN_bl, tyN_int, tyN_str, tyN_ref, tyNs_lt, isB, upd_same, upd_upd, sizeLine_eq, List.mem_cons, String.reduceBEq, String.reduceEq, Bool.or_false, Bool.or_true, Bool.and_false, Bool.false_or, Bool.and_self, Bool.false_and, Bool.not_false, Bool.not_true, List.any_cons, List.any_nil, atI_0, setI_0, atI_1, setI_1, atI_2, setI_2, atI_3, setI_3, atI_4, setI_4, atI_5, setI_5, atI_6, setI_6, tAsg, gName, tOp, tUn, tVar, tC, tCons, L2.tNil, tRet, tIfS, tTest, tCB, tCall, rI, rI0, rU, tNext, tB, tAnd, tOr, tNot, tAndV, tOrV, tNotV, tDrop, tIf, tPar, gSub, rIxL, rIxT, rEq, rNe, rSetL, tBits,
    L2.start, List.map_cons, List.map_nil, List.cons_append, List.nil_append, List.append_nil, List.length_cons, List.length_nil, List.replicate, Nat.reduceAdd, Nat.reduceSub, Nat.zero_add, List.getElem?_cons_zero, List.getElem?_cons_succ, List.set_cons_zero, List.set_cons_succ,
    Option.some.injEq, exists_eq_left', exists_eq_left, V.int.injEq, V.bl.injEq, V.ref.injEq, V.str.injEq, List.cons.injEq, reduceCtorEq, and_true, true_and, false_and, and_false, exists_false, or_false, false_or, or_true, true_or, exists_const, CMul, CDiv, CPow, and_assoc, exists_and_left, exists_and_right, Int.reducePow, Int.reduceNeg, Int.reduceLT, Int.reduceLE, Nat.reducePow, Nat.reduceLT, Int.reduceToNat, gt_iff_lt, ge_iff_le, decide_eq_true_eq, Bool.not_eq_true', decide_eq_false_iff_not, scal, ↓reduceIte, Bool.false_eq_true]
  exact fun p hp kp => k.new hp kp
abbrev sLMinus : Stmt := topS 55
theorem scLMinus : FnScope ["_law_left", "_law_right"] ["_law_left", "_law_right"] (defScope sLMinus) := ⟨rfl, rfl, rfl, by decide +kernel, rfl, by decide +kernel, by decide +kernel⟩
theorem k_LMinus (T : Bt K mg) (D : Dfn K mg "_law_minus" sLMinus ["_law_left", "_law_right"]) (d__law_lowest : Kn P w K mg base 2 "_law_lowest" ["_law_top", "_law_bottom"] (spLowest K)) : Kn P w K mg base 3 "_law_minus" ["_law_left", "_law_right"] (spBin K dif2) := by
  refine Kn.mk' D scLMinus (fun vs H Q E h => ?_) (fun f cdv A outer s H vs Q E hr h => ?_)
  · obtain ⟨a, b, p, q, rfl, _⟩ := h
    rfl
  obtain ⟨a, b, p, q, rfl, hp, hq, k⟩ := h
  refine ⟨_, (pss_one (ps_ret (pe_kn d__law_lowest hr (by rfl) (pa_cons (pe_op op_sub (pe_op op_mulW (pe_ix ix_any (pv 0) pe_int (fun _ _ => rfl)) (pe_ix ix_any (pv 1) pe_int (fun _ _ => rfl))) (pe_op op_mulW (pe_ix ix_any (pv 1) pe_int (fun _ _ => rfl)) (pe_ix ix_any (pv 0) pe_int (fun _ _ => rfl)))) (pa_cons (pe_op op_mulW (pe_ix ix_any (pv 0) pe_int (fun _ _ => rfl)) (pe_ix ix_any (pv 1) pe_int (fun _ _ => rfl))) pa_nil))))), ?_⟩
  simp only [hp.o, hq.o, cx_K, decide_true, decide_false, reduceCtorEq, gTp, gCons, gNil, ca_0, ca_1, ca_2, ca_3, ca_4, ca_5, ca_6, ca_7, ca_8, ca_9, ca_10, ca_11, ca_12, ca_13, ca_14, ca_15, ca_16, ca_17, ca_18, ca_19, ca_20, ca_21, ca_22, ca_23, ca_24, ca_25, ca_26, ca_27, ca_28, ca_29, ca_30, not_true_eq_false, not_false_eq_true, Int.reduceEq, Nat.reduceEqDiff, Nat.reduceLeDiff, rGcd, V.ty.injEq, eq_self, List.not_mem_nil, beq_self_eq_true, HO.lst.injEq, HO.tup.injEq, tFor_eq, iRng1, iList, iTup, nat10, tSeq, rIxA, rSetA, rIsN, rIsT, tTp, tLs, itsO_tup, itsO_lst, tyO_tup, tyO_lst, tyO_dK, tyN_non, tyN_bl, tyN_int, tyN_str, tyN_ref, tyNs_lt, isB, upd_same, upd_upd, sizeLine_eq, List.mem_cons, String.reduceBEq, String.reduceEq, Bool.or_false, Bool.or_true, Bool.and_false, Bool.false_or, Bool.and_self, Bool.false_and, Bool.not_false, Bool.not_true, List.any_cons, List.any_nil, atI_0, setI_0, atI_1, setI_1, atI_2, setI_2, atI_3, setI_3, atI_4, setI_4, atI_5, setI_5, atI_6, setI_6, tAsg, gName, tOp, tUn, tVar, tC, tCons, L2.tNil, tRet, tIfS, tTest, tCB, tCall, rI, rI0, rU, tNext, tB, tAnd, tOr, tNot, tAndV, tOrV, tNotV, tDrop, tIf, tPar, gSub, rIxL, rIxT, rEq, rNe, rSetL, tBits,
    L2.start, List.map_cons, List.map_nil, List.cons_append, List.nil_append, List.append_nil, List.length_cons, List.length_nil, List.replicate, Nat.reduceAdd, Nat.reduceSub, Nat.zero_add, List.getElem?_cons_zero, List.getElem?_cons_succ, List.set_cons_zero, List.set_cons_succ,
    Option.some.injEq, exists_eq_left', exists_eq_left, V.int.injEq, V.bl.injEq, V.ref.injEq, V.str.injEq, List.cons.injEq, reduceCtorEq, and_true, true_and, false_and, and_false, exists_false, or_false, false_or, or_true, true_or, exists_const, CMul, CDiv, CPow, and_assoc, exists_and_left, exists_and_right, Int.reducePow, Int.reduceNeg, Int.reduceLT, Int.reduceLE, Nat.reducePow, Nat.reduceLT, Int.reduceToNat, gt_iff_lt, ge_iff_le, decide_eq_true_eq, Bool.not_eq_true', decide_eq_false_iff_not, scal, ↓reduceIte, Bool.false_eq_true]
  exact ⟨mulW hp.sz.1 hq.sz.2 (by omega), mulW hq.sz.1 hp.sz.2 (by omega), mulW hp.sz.2 hq.sz.2 (by omega), _, _, rfl, szMono (szMul hp.sz.2 hq.sz.2) (by omega), fun z hz => k z (hz.2 (mul_ne hp.nf.1 hq.nf.1))⟩
abbrev sLTimes : Stmt := topS 56
theorem scLTimes : FnScope ["_law_left", "_law_right"] ["_law_left", "_law_right"] (defScope sLTimes) := ⟨rfl, rfl, rfl, by decide +kernel, rfl, by decide +kernel, by decide +kernel⟩
theorem k_LTimes (T : Bt K mg) (D : Dfn K mg "_law_times" sLTimes ["_law_left", "_law_right"]) (d__law_lowest : Kn P w K mg base 2 "_law_lowest" ["_law_top", "_law_bottom"] (spLowest K)) : Kn P w K mg base 3 "_law_times" ["_law_left", "_law_right"] (spBin K pro2) := by
  refine Kn.mk' D scLTimes (fun vs H Q E h => ?_) (fun f cdv A outer s H vs Q E hr h => ?_)
  · obtain ⟨a, b, p, q, rfl, _⟩ := h
    rfl
  obtain ⟨a, b, p, q, rfl, hp, hq, k⟩ := h
  refine ⟨_, (pss_one (ps_ret (pe_kn d__law_lowest hr (by rfl) (pa_cons (pe_op op_mulW (pe_ix ix_any (pv 0) pe_int (fun _ _ => rfl)) (pe_ix ix_any (pv 1) pe_int (fun _ _ => rfl))) (pa_cons (pe_op op_mulW (pe_ix ix_any (pv 0) pe_int (fun _ _ => rfl)) (pe_ix ix_any (pv 1) pe_int (fun _ _ => rfl))) pa_nil))))), ?_⟩
  simp only [hp.o, hq.o, cx_K, decide_true, decide_false, reduceCtorEq, gTp, gCons, gNil, ca_0, ca_1, ca_2, ca_3, ca_4, ca_5, ca_6, ca_7, ca_8, ca_9, ca_10, ca_11, ca_12, ca_13, ca_14, ca_15, ca_16, ca_17, ca_18, ca_19, ca_20, ca_21, ca_22, ca_23, ca_24, ca_25, ca_26, ca_27, ca_28, ca_29, ca_30, not_true_eq_false, not_false_eq_true, Int.reduceEq, Nat.reduceEqDiff, Nat.reduceLeDiff, rGcd, V.ty.injEq, eq_self, List.not_mem_nil, beq_self_eq_true, HO.lst.injEq, HO.tup.injEq, tFor_eq, iRng1, iList, iTup, nat10, tSeq, rIxA, rSetA, rIsN, rIsT, tTp, tLs, itsO_tup, itsO_lst, tyO_tup, tyO_lst, tyO_dK, tyN_non, tyN_bl, tyN_int, tyN_str, tyN_ref, tyNs_lt, isB, upd_same, upd_upd, sizeLine_eq, List.mem_cons, String.reduceBEq, String.reduceEq, Bool.or_false, Bool.or_true, Bool.and_false, Bool.false_or, Bool.and_self, Bool.false_and, Bool.not_false, Bool.not_true, List.any_cons, List.any_nil, atI_0, setI_0, atI_1, setI_1, atI_2, setI_2, atI_3, setI_3, atI_4, setI_4, atI_5, setI_5, atI_6, setI_6, tAsg, gName, tOp, tUn, tVar, tC, tCons, L2.tNil, tRet, tIfS, tTest, tCB, tCall, rI, rI0, rU, tNext, tB, tAnd, tOr, tNot, tAndV, tOrV, tNotV, tDrop, tIf, tPar, gSub, rIxL, rIxT, rEq, rNe, rSetL, tBits,
    L2.start, List.map_cons, List.map_nil, List.cons_append, List.nil_append, List.append_nil, List.length_cons, List.length_nil, List.replicate, Nat.reduceAdd, Nat.reduceSub, Nat.zero_add, List.getElem?_cons_zero, List.getElem?_cons_succ, List.set_cons_zero, List.set_cons_succ,
    Option.some.injEq, exists_eq_left', exists_eq_left, V.int.injEq, V.bl.injEq, V.ref.injEq, V.str.injEq, List.cons.injEq, reduceCtorEq, and_true, true_and, false_and, and_false, exists_false, or_false, false_or, or_true, true_or, exists_const, CMul, CDiv, CPow, and_assoc, exists_and_left, exists_and_right, Int.reducePow, Int.reduceNeg, Int.reduceLT, Int.reduceLE, Nat.reducePow, Nat.reduceLT, Int.reduceToNat, gt_iff_lt, ge_iff_le, decide_eq_true_eq, Bool.not_eq_true', decide_eq_false_iff_not, scal, ↓reduceIte, Bool.false_eq_true]
  exact ⟨mulW hp.sz.1 hq.sz.1 (by omega), mulW hp.sz.2 hq.sz.2 (by omega), _, _, rfl, szMono (szMul hp.sz.2 hq.sz.2) (by omega), fun z hz => k z (hz.2 (mul_ne hp.nf.1 hq.nf.1))⟩
theorem frOk_inv {H : Hp} {v : V} (h : frOk K H v = true) : ∃ a q, v = .ref a ∧ ob K H a = some (.tup [.int q.1, .int q.2]) ∧ Nf q := by
  cases v with
  | ref a =>
    simp only [frOk] at h
    split at h
    · rename_i n d hz
      simp only [Bool.and_eq_true, decide_eq_true_eq] at h
      exact ⟨_, (n, d), rfl, hz, h.1, h.2⟩
    · cases h
  | _ => cases h
/-- a place: a fraction of 0 or more, less than 1 -/
def plOk (K : PySem.W.Frag) (H : Hp) (v : V) : Bool := frOk K H v && match v with
  | .ref a => match ob K H a with
    | some (.tup [.int n, .int d]) => decide (0 ≤ n) && decide (n < d)
    | _ => false
  | _ => false
theorem plOk_no {H : Hp} {v : V} (h : frOk K H v = false) : plOk K H v = false := by unfold plOk; rw [h]; rfl
theorem plOk_fr {H : Hp} {a : Addr} {q : Qt} (h : ob K H a = some (.tup [.int q.1, .int q.2])) (hn : Nf q) : plOk K H (.ref a) = (decide (0 ≤ q.1) && decide (q.1 < q.2)) := by
  have e := frOk_fr (K := K) h hn
  unfold plOk
  rw [e]
  simp only [h, Bool.true_and]
def spIsPlace (K : PySem.W.Frag) : Sp := fun vs H Q _ => ∃ v, vs = [v] ∧ Tyd K H v ∧ Q (.bl (plOk K H v)) H
abbrev sIsPlace : Stmt := topS 25
theorem scIsPlace : FnScope ["value"] ["value"] (defScope sIsPlace) := ⟨rfl, rfl, rfl, by decide +kernel, rfl, by decide +kernel, by decide +kernel⟩
theorem k_IsPlace (T : Bt K mg) (D : Dfn K mg "is_place" sIsPlace ["value"]) (d_is_fraction : Kn P w K mg base 2 "is_fraction" ["value"] (spIsFraction K)) : Kn P w K mg base 3 "is_place" ["value"] (spIsPlace K) := by
  refine Kn.mk' D scIsPlace (fun vs H Q E h => ?_) (fun f cdv A outer s H vs Q E hr h => ?_)
  · obtain ⟨v, rfl, _⟩ := h
    rfl
  obtain ⟨v, rfl, hv, q⟩ := h
  refine ⟨_, (pss_one (ps_ret (pe_and (pe_kn d_is_fraction hr (by rfl) (pa_cons (pv 0) pa_nil)) (pe_one (pe_chain op_le op_lt pe_int (pe_ix ix_any (pv 0) pe_int (fun _ _ => rfl)) (pe_ix ix_any (pv 0) pe_int (fun _ _ => rfl))))))), ?_⟩
  refine ⟨_, rfl, v, rfl, hv, ?_⟩
  cases e : frOk K H v with
  | false =>
    rw [plOk_no e] at q
    exact ⟨false, rfl, q⟩
  | true =>
    obtain ⟨a, z, rfl, ho, hn⟩ := frOk_inv e
    rw [plOk_fr ho hn] at q
    refine ⟨true, rfl, ?_⟩
    rw [if_pos rfl]
    simp only [ho, tChain, cx_K, decide_true, decide_false, reduceCtorEq, gTp, gCons, gNil, ca_0, ca_1, ca_2, ca_3, ca_4, ca_5, ca_6, ca_7, ca_8, ca_9, ca_10, ca_11, ca_12, ca_13, ca_14, ca_15, ca_16, ca_17, ca_18, ca_19, ca_20, ca_21, ca_22, ca_23, ca_24, ca_25, ca_26, ca_27, ca_28, ca_29, ca_30, not_true_eq_false, not_false_eq_true, Int.reduceEq, Nat.reduceEqDiff, Nat.reduceLeDiff, rGcd, V.ty.injEq, eq_self, List.not_mem_nil, beq_self_eq_true, HO.lst.injEq, HO.tup.injEq, tFor_eq, iRng1, iList, iTup, nat10, tSeq, rIxA, rSetA, rIsN, rIsT, tTp, tLs, itsO_tup, itsO_lst, tyO_tup, tyO_lst, tyO_dK, tyN_non, tyN_bl, tyN_int, tyN_str, tyN_ref, tyNs_lt, isB, upd_same, upd_upd, sizeLine_eq, List.mem_cons, String.reduceBEq, String.reduceEq, Bool.or_false, Bool.or_true, Bool.and_false, Bool.false_or, Bool.and_self, Bool.false_and, Bool.not_false, Bool.not_true, List.any_cons, List.any_nil, atI_0, setI_0, atI_1, setI_1, atI_2, setI_2, atI_3, setI_3, atI_4, setI_4, atI_5, setI_5, atI_6, setI_6, tAsg, gName, tOp, tUn, tVar, tC, tCons, L2.tNil, tRet, tIfS, tTest, tCB, tCall, rI, rI0, rU, tNext, tB, tAnd, tOr, tNot, tAndV, tOrV, tNotV, tDrop, tIf, tPar, gSub, rIxL, rIxT, rEq, rNe, rSetL, tBits,
    L2.start, List.map_cons, List.map_nil, List.cons_append, List.nil_append, List.append_nil, List.length_cons, List.length_nil, List.replicate, Nat.reduceAdd, Nat.reduceSub, Nat.zero_add, List.getElem?_cons_zero, List.getElem?_cons_succ, List.set_cons_zero, List.set_cons_succ,
    Option.some.injEq, exists_eq_left', exists_eq_left, V.int.injEq, V.bl.injEq, V.ref.injEq, V.str.injEq, List.cons.injEq, reduceCtorEq, and_true, true_and, false_and, and_false, exists_false, or_false, false_or, or_true, true_or, exists_const, CMul, CDiv, CPow, and_assoc, exists_and_left, exists_and_right, Int.reducePow, Int.reduceNeg, Int.reduceLT, Int.reduceLE, Nat.reducePow, Nat.reduceLT, Int.reduceToNat, gt_iff_lt, ge_iff_le, decide_eq_true_eq, Bool.not_eq_true', decide_eq_false_iff_not, scal, ↓reduceIte, Bool.false_eq_true]
    refine ite2 (fun h => ?_) (fun h => ?_)
    · rw [decide_eq_true h, Bool.true_and] at q
      exact q
    · rw [decide_eq_false h, Bool.false_and] at q
      exact q
def spLPlace (K : PySem.W.Frag) : Sp := fun vs H Q _ => ∃ (a : Addr) (q : Qt), vs = [.ref a] ∧ Fq K H 8000 a q ∧ 0 ≤ q.1 ∧ q.1 < q.2 ∧ Q (.bl true) H
end
end My

namespace My
open PySem PySem.Spec PyProof.Rows L2
section
variable {P : Program} {w : World} {K : PySem.W.Frag} {mg : Str → Option Value} {base : Heap}
/-- an int that the draws gave; all but the store stands -/
def spPick (K : PySem.W.Frag) : Sp := fun vs H Q _ => ∃ (s r : Addr) (xs : List V), vs = [.ref s, .ref r] ∧ Sto K H s ∧ H r = some (.lst xs) ∧ s ≠ r ∧ 0 < xs.length ∧ xs.length < 1000 ∧ ∀ x H', x ∈ xs → Kp s H H' → Sto K H' s → Q x H'
theorem at_mem {α : Type} {xs : List α} {i : Int} (h0 : 0 ≤ i) (h : i < (xs.length : Int)) : ∃ v ∈ xs, atI xs i = some v := by
  have hk : i.toNat < xs.length := by omega
  have q : atI xs ((i.toNat : Nat) : Int) = some xs[i.toNat] := atI_nat (List.getElem?_eq_getElem hk)
  rw [show ((i.toNat : Nat) : Int) = i by omega] at q
  exact ⟨_, List.getElem_mem hk, q⟩
theorem Sto.at {H : Hp} {s : Addr} (h : Sto K H s) : ∃ ys, H s = some (.lst ys) := by
  obtain ⟨sc, ns, i, b, c, d, e, f, h⟩ := h
  exact ⟨_, h.1⟩
theorem Kp.at {s : Addr} {H H' : Hp} {r : Addr} {o : HO} (e : Kp s H H') (n : s ≠ r) (h : H r = some o) : H' r = some o := e _ _ (Ne.symm n) h
abbrev sPick : Stmt := topS 49
theorem scPick : FnScope ["_law_store_here", "_law_row"] ["_law_store_here", "_law_row"] (defScope sPick) := ⟨rfl, rfl, rfl, by decide +kernel, rfl, by decide +kernel, by decide +kernel⟩
theorem k_Pick (T : Bt K mg) (D : Dfn K mg "_law_pick" sPick ["_law_store_here", "_law_row"]) (d__law_take : Kn P w K mg base 2 "_law_take" ["_law_store_here", "_law_many"] (spTake K)) : Kn P w K mg base 3 "_law_pick" ["_law_store_here", "_law_row"] (spPick K) := by
  refine Kn.mk' D scPick (fun vs H Q E h => ?_) (fun f cdv A outer s H vs Q E hr h => ?_)
  · obtain ⟨s, r, xs, rfl, _⟩ := h
    rfl
  obtain ⟨s, r, xs, rfl, hS, hr', ne, hl0, hl1, k⟩ := h
  refine ⟨_, (pss_one (ps_ret (pe_ix ix_list (pv 1) (pe_kn d__law_take hr (by rfl) (pa_cons (pv 0) (pa_cons (pe_callB call_len_seq (by rfl) T.b_len PySem.boot_len (pa_cons (pv 1) pa_nil)) pa_nil))) (fun _ _ => rfl)))), ?_⟩
  simp only [cx_K, decide_true, decide_false, reduceCtorEq, gTp, gCons, gNil, ca_0, ca_1, ca_2, ca_3, ca_4, ca_5, ca_6, ca_7, ca_8, ca_9, ca_10, ca_11, ca_12, ca_13, ca_14, ca_15, ca_16, ca_17, ca_18, ca_19, ca_20, ca_21, ca_22, ca_23, ca_24, ca_25, ca_26, ca_27, ca_28, ca_29, ca_30, not_true_eq_false, not_false_eq_true, Int.reduceEq, Nat.reduceEqDiff, Nat.reduceLeDiff, rGcd, V.ty.injEq, eq_self, List.not_mem_nil, beq_self_eq_true, HO.lst.injEq, HO.tup.injEq, tFor_eq, iRng1, iList, iTup, nat10, tSeq, rIxA, rSetA, rIsN, rIsT, tTp, tLs, itsO_tup, itsO_lst, tyO_tup, tyO_lst, tyO_dK, tyN_non, tyN_bl, tyN_int, tyN_str, tyN_ref, tyNs_lt, isB, upd_same, upd_upd, sizeLine_eq, List.mem_cons, String.reduceBEq, String.reduceEq, Bool.or_false, Bool.or_true, Bool.and_false, Bool.false_or, Bool.and_self, Bool.false_and, Bool.not_false, Bool.not_true, List.any_cons, List.any_nil, atI_0, setI_0, atI_1, setI_1, atI_2, setI_2, atI_3, setI_3, atI_4, setI_4, atI_5, setI_5, atI_6, setI_6, tAsg, gName, tOp, tUn, tVar, tC, tCons, L2.tNil, tRet, tIfS, tTest, tCB, tCall, rI, rI0, rU, tNext, tB, tAnd, tOr, tNot, tAndV, tOrV, tNotV, tDrop, tIf, tPar, gSub, rIxL, rIxT, rEq, rNe, rSetL, tBits,
    L2.start, List.map_cons, List.map_nil, List.cons_append, List.nil_append, List.append_nil, List.length_cons, List.length_nil, List.replicate, Nat.reduceAdd, Nat.reduceSub, Nat.zero_add, List.getElem?_cons_zero, List.getElem?_cons_succ, List.set_cons_zero, List.set_cons_succ,
    Option.some.injEq, exists_eq_left', exists_eq_left, V.int.injEq, V.bl.injEq, V.ref.injEq, V.str.injEq, List.cons.injEq, reduceCtorEq, and_true, true_and, false_and, and_false, exists_false, or_false, false_or, or_true, true_or, exists_const, CMul, CDiv, CPow, and_assoc, exists_and_left, exists_and_right, Int.reducePow, Int.reduceNeg, Int.reduceLT, Int.reduceLE, Nat.reducePow, Nat.reduceLT, Int.reduceToNat, gt_iff_lt, ge_iff_le, decide_eq_true_eq, Bool.not_eq_true', decide_eq_false_iff_not, scal, ↓reduceIte, Bool.false_eq_true]
  refine ⟨xs, .inl (.of hr'), s, _, rfl, hS, by omega, fun i H' h0 h1 kp st => ?_⟩
  obtain ⟨v, hv, e⟩ := at_mem (xs := xs) (i := i) h0 (by omega)
  exact ⟨xs, i, rfl, .of (kp.at ne hr'), v, e, k v H' hv kp st⟩
def spInt (K : PySem.W.Frag) (R : Int → Prop) : Sp := fun vs H Q _ => ∃ (s : Addr), vs = [.ref s] ∧ Sto K H s ∧ ∀ n H', R n → Kp s H H' → Sto K H' s → Q (.int n) H'
def spLInt (K : PySem.W.Frag) : Sp := fun vs H Q _ => ∃ (s : Addr) (r : Int), vs = [.ref s, .int r] ∧ Sto K H s ∧ 1 ≤ r ∧ r < 2 ^ 190 ∧ ∀ n H', -r ≤ n → n ≤ r → Kp s H H' → Sto K H' s → Q (.int n) H'
theorem menu {xs : List V} {i : Int} {R : V → Prop} (h0 : 0 ≤ i) (h : i < (xs.length : Int)) (k : ∀ v ∈ xs, R v) : ∃ v, atI xs i = some v ∧ R v := by
  obtain ⟨v, hv, e⟩ := at_mem h0 h
  exact ⟨v, e, k v hv⟩
abbrev sLInt : Stmt := topS 63
theorem scLInt : FnScope ["_law_store_here", "_law_reach", "_law_spot"] ["_law_store_here", "_law_reach"] (defScope sLInt) := ⟨rfl, rfl, rfl, by decide +kernel, rfl, by decide +kernel, by decide +kernel⟩
theorem k_LInt (T : Bt K mg) (D : Dfn K mg "_law_whole" sLInt ["_law_store_here", "_law_reach"]) (d__law_take : Kn P w K mg base 2 "_law_take" ["_law_store_here", "_law_many"] (spTake K)) : Kn P w K mg base 3 "_law_whole" ["_law_store_here", "_law_reach"] (spLInt K) := by
  refine Kn.mk' D scLInt (fun vs H Q E h => ?_) (fun f cdv A outer s H vs Q E hr h => ?_)
  · obtain ⟨s, r, rfl, _⟩ := h
    rfl
  obtain ⟨s, r, rfl, hS, hr1, hr2, k⟩ := h
  refine ⟨_, (pss_cons (ps_set (i := 2) scLInt.nd rfl (.inl rfl) (pe_kn d__law_take hr (by rfl) (pa_cons (pv 0) (pa_cons pe_int pa_nil))))
      (pss_cons (ps_if (pt_cmpR op_lt (pv 2) pe_int (nomark _)) (pss_one (ps_ret (pe_ix ix_any (pe_ls (pa_cons pe_int (pa_cons (pe_callB (call_min2 rfl) (by rfl) T.b_min (by decide +kernel) (pa_cons pe_int (pa_cons (pv 1) pa_nil))) (pa_cons (pe_un un_neg (pe_callB (call_min2 rfl) (by rfl) T.b_min (by decide +kernel) (pa_cons pe_int (pa_cons (pv 1) pa_nil)))) (pa_cons (pv 1) (pa_cons (pe_un un_neg (pv 1)) pa_nil)))))) (pv 2) (fun _ _ => rfl)))) pss_nil)
      (pss_one (ps_ret (pe_op op_sub (pe_kn d__law_take hr (by rfl) (pa_cons (pv 0) (pa_cons (pe_op op_add (pe_op op_mul pe_int (pv 1)) pe_int) pa_nil))) (pv 1)))))), ?_⟩
  simp only [cx_K, decide_true, decide_false, reduceCtorEq, gTp, gCons, gNil, ca_0, ca_1, ca_2, ca_3, ca_4, ca_5, ca_6, ca_7, ca_8, ca_9, ca_10, ca_11, ca_12, ca_13, ca_14, ca_15, ca_16, ca_17, ca_18, ca_19, ca_20, ca_21, ca_22, ca_23, ca_24, ca_25, ca_26, ca_27, ca_28, ca_29, ca_30, not_true_eq_false, not_false_eq_true, Int.reduceEq, Nat.reduceEqDiff, Nat.reduceLeDiff, rGcd, V.ty.injEq, eq_self, List.not_mem_nil, beq_self_eq_true, HO.lst.injEq, HO.tup.injEq, tFor_eq, iRng1, iList, iTup, nat10, tSeq, rIxA, rSetA, rIsN, rIsT, tTp, tLs, itsO_tup, itsO_lst, tyO_tup, tyO_lst, tyO_dK, tyN_non, tyN_bl, tyN_int, tyN_str, tyN_ref, tyNs_lt, isB, upd_same, upd_upd, sizeLine_eq, List.mem_cons, String.reduceBEq, String.reduceEq, Bool.or_false, Bool.or_true, Bool.and_false, Bool.false_or, Bool.and_self, Bool.false_and, Bool.not_false, Bool.not_true, List.any_cons, List.any_nil, atI_0, setI_0, atI_1, setI_1, atI_2, setI_2, atI_3, setI_3, atI_4, setI_4, atI_5, setI_5, atI_6, setI_6, tAsg, gName, tOp, tUn, tVar, tC, tCons, L2.tNil, tRet, tIfS, tTest, tCB, tCall, rI, rI0, rU, tNext, tB, tAnd, tOr, tNot, tAndV, tOrV, tNotV, tDrop, tIf, tPar, gSub, rIxL, rIxT, rEq, rNe, rSetL, tBits,
    L2.start, List.map_cons, List.map_nil, List.cons_append, List.nil_append, List.append_nil, List.length_cons, List.length_nil, List.replicate, Nat.reduceAdd, Nat.reduceSub, Nat.zero_add, List.getElem?_cons_zero, List.getElem?_cons_succ, List.set_cons_zero, List.set_cons_succ,
    Option.some.injEq, exists_eq_left', exists_eq_left, V.int.injEq, V.bl.injEq, V.ref.injEq, V.str.injEq, List.cons.injEq, reduceCtorEq, and_true, true_and, false_and, and_false, exists_false, or_false, false_or, or_true, true_or, exists_const, CMul, CDiv, CPow, and_assoc, exists_and_left, exists_and_right, Int.reducePow, Int.reduceNeg, Int.reduceLT, Int.reduceLE, Nat.reducePow, Nat.reduceLT, Int.reduceToNat, gt_iff_lt, ge_iff_le, decide_eq_true_eq, Bool.not_eq_true', decide_eq_false_iff_not, scal, ↓reduceIte, Bool.false_eq_true]
  refine ⟨s, 12, rfl, hS, by omega, fun i H1 h0 h1 kp st => ?_⟩
  simp only [cx_K, decide_true, decide_false, reduceCtorEq, gTp, gCons, gNil, ca_0, ca_1, ca_2, ca_3, ca_4, ca_5, ca_6, ca_7, ca_8, ca_9, ca_10, ca_11, ca_12, ca_13, ca_14, ca_15, ca_16, ca_17, ca_18, ca_19, ca_20, ca_21, ca_22, ca_23, ca_24, ca_25, ca_26, ca_27, ca_28, ca_29, ca_30, not_true_eq_false, not_false_eq_true, Int.reduceEq, Nat.reduceEqDiff, Nat.reduceLeDiff, rGcd, V.ty.injEq, eq_self, List.not_mem_nil, beq_self_eq_true, HO.lst.injEq, HO.tup.injEq, tFor_eq, iRng1, iList, iTup, nat10, tSeq, rIxA, rSetA, rIsN, rIsT, tTp, tLs, itsO_tup, itsO_lst, tyO_tup, tyO_lst, tyO_dK, tyN_non, tyN_bl, tyN_int, tyN_str, tyN_ref, tyNs_lt, isB, upd_same, upd_upd, sizeLine_eq, List.mem_cons, String.reduceBEq, String.reduceEq, Bool.or_false, Bool.or_true, Bool.and_false, Bool.false_or, Bool.and_self, Bool.false_and, Bool.not_false, Bool.not_true, List.any_cons, List.any_nil, atI_0, setI_0, atI_1, setI_1, atI_2, setI_2, atI_3, setI_3, atI_4, setI_4, atI_5, setI_5, atI_6, setI_6, tAsg, gName, tOp, tUn, tVar, tC, tCons, L2.tNil, tRet, tIfS, tTest, tCB, tCall, rI, rI0, rU, tNext, tB, tAnd, tOr, tNot, tAndV, tOrV, tNotV, tDrop, tIf, tPar, gSub, rIxL, rIxT, rEq, rNe, rSetL, tBits,
    L2.start, List.map_cons, List.map_nil, List.cons_append, List.nil_append, List.append_nil, List.length_cons, List.length_nil, List.replicate, Nat.reduceAdd, Nat.reduceSub, Nat.zero_add, List.getElem?_cons_zero, List.getElem?_cons_succ, List.set_cons_zero, List.set_cons_succ,
    Option.some.injEq, exists_eq_left', exists_eq_left, V.int.injEq, V.bl.injEq, V.ref.injEq, V.str.injEq, List.cons.injEq, reduceCtorEq, and_true, true_and, false_and, and_false, exists_false, or_false, false_or, or_true, true_or, exists_const, CMul, CDiv, CPow, and_assoc, exists_and_left, exists_and_right, Int.reducePow, Int.reduceNeg, Int.reduceLT, Int.reduceLE, Nat.reducePow, Nat.reduceLT, Int.reduceToNat, gt_iff_lt, ge_iff_le, decide_eq_true_eq, Bool.not_eq_true', decide_eq_false_iff_not, scal, ↓reduceIte, Bool.false_eq_true]
  refine ite2 (fun h => ?_) (fun h => ?_)
  · intro p hp kp'
    rw [ob_new kp']
    simp only [cx_K, decide_true, decide_false, reduceCtorEq, gTp, gCons, gNil, ca_0, ca_1, ca_2, ca_3, ca_4, ca_5, ca_6, ca_7, ca_8, ca_9, ca_10, ca_11, ca_12, ca_13, ca_14, ca_15, ca_16, ca_17, ca_18, ca_19, ca_20, ca_21, ca_22, ca_23, ca_24, ca_25, ca_26, ca_27, ca_28, ca_29, ca_30, not_true_eq_false, not_false_eq_true, Int.reduceEq, Nat.reduceEqDiff, Nat.reduceLeDiff, rGcd, V.ty.injEq, eq_self, List.not_mem_nil, beq_self_eq_true, HO.lst.injEq, HO.tup.injEq, tFor_eq, iRng1, iList, iTup, nat10, tSeq, rIxA, rSetA, rIsN, rIsT, tTp, tLs, itsO_tup, itsO_lst, tyO_tup, tyO_lst, tyO_dK, tyN_non, tyN_bl, tyN_int, tyN_str, tyN_ref, tyNs_lt, isB, upd_same, upd_upd, sizeLine_eq, List.mem_cons, String.reduceBEq, String.reduceEq, Bool.or_false, Bool.or_true, Bool.and_false, Bool.false_or, Bool.and_self, Bool.false_and, Bool.not_false, Bool.not_true, List.any_cons, List.any_nil, atI_0, setI_0, atI_1, setI_1, atI_2, setI_2, atI_3, setI_3, atI_4, setI_4, atI_5, setI_5, atI_6, setI_6, tAsg, gName, tOp, tUn, tVar, tC, tCons, L2.tNil, tRet, tIfS, tTest, tCB, tCall, rI, rI0, rU, tNext, tB, tAnd, tOr, tNot, tAndV, tOrV, tNotV, tDrop, tIf, tPar, gSub, rIxL, rIxT, rEq, rNe, rSetL, tBits,
    L2.start, List.map_cons, List.map_nil, List.cons_append, List.nil_append, List.append_nil, List.length_cons, List.length_nil, List.replicate, Nat.reduceAdd, Nat.reduceSub, Nat.zero_add, List.getElem?_cons_zero, List.getElem?_cons_succ, List.set_cons_zero, List.set_cons_succ,
    Option.some.injEq, exists_eq_left', exists_eq_left, V.int.injEq, V.bl.injEq, V.ref.injEq, V.str.injEq, List.cons.injEq, reduceCtorEq, and_true, true_and, false_and, and_false, exists_false, or_false, false_or, or_true, true_or, exists_const, CMul, CDiv, CPow, and_assoc, exists_and_left, exists_and_right, Int.reducePow, Int.reduceNeg, Int.reduceLT, Int.reduceLE, Nat.reducePow, Nat.reduceLT, Int.reduceToNat, gt_iff_lt, ge_iff_le, decide_eq_true_eq, Bool.not_eq_true', decide_eq_false_iff_not, scal, ↓reduceIte, Bool.false_eq_true]
    refine menu h0 (by simpa using h) fun v hv => ?_
    rw [if_neg (show ¬ r < 1 by omega)] at hv ⊢
    simp only [List.mem_cons, List.not_mem_nil, or_false] at hv
    rcases hv with rfl | rfl | rfl | rfl | rfl <;> exact k _ _ (by omega) (by omega) (kp.trans (Kp.same (Same.new hp _))) (st.same (Same.new hp _))
  · refine ⟨s, _, rfl, st, by omega, fun j H2 h0' h1' kp2 st2 => ?_⟩
    simp only [cx_K, decide_true, decide_false, reduceCtorEq, gTp, gCons, gNil, ca_0, ca_1, ca_2, ca_3, ca_4, ca_5, ca_6, ca_7, ca_8, ca_9, ca_10, ca_11, ca_12, ca_13, ca_14, ca_15, ca_16, ca_17, ca_18, ca_19, ca_20, ca_21, ca_22, ca_23, ca_24, ca_25, ca_26, ca_27, ca_28, ca_29, ca_30, not_true_eq_false, not_false_eq_true, Int.reduceEq, Nat.reduceEqDiff, Nat.reduceLeDiff, rGcd, V.ty.injEq, eq_self, List.not_mem_nil, beq_self_eq_true, HO.lst.injEq, HO.tup.injEq, tFor_eq, iRng1, iList, iTup, nat10, tSeq, rIxA, rSetA, rIsN, rIsT, tTp, tLs, itsO_tup, itsO_lst, tyO_tup, tyO_lst, tyO_dK, tyN_non, tyN_bl, tyN_int, tyN_str, tyN_ref, tyNs_lt, isB, upd_same, upd_upd, sizeLine_eq, List.mem_cons, String.reduceBEq, String.reduceEq, Bool.or_false, Bool.or_true, Bool.and_false, Bool.false_or, Bool.and_self, Bool.false_and, Bool.not_false, Bool.not_true, List.any_cons, List.any_nil, atI_0, setI_0, atI_1, setI_1, atI_2, setI_2, atI_3, setI_3, atI_4, setI_4, atI_5, setI_5, atI_6, setI_6, tAsg, gName, tOp, tUn, tVar, tC, tCons, L2.tNil, tRet, tIfS, tTest, tCB, tCall, rI, rI0, rU, tNext, tB, tAnd, tOr, tNot, tAndV, tOrV, tNotV, tDrop, tIf, tPar, gSub, rIxL, rIxT, rEq, rNe, rSetL, tBits,
    L2.start, List.map_cons, List.map_nil, List.cons_append, List.nil_append, List.append_nil, List.length_cons, List.length_nil, List.replicate, Nat.reduceAdd, Nat.reduceSub, Nat.zero_add, List.getElem?_cons_zero, List.getElem?_cons_succ, List.set_cons_zero, List.set_cons_succ,
    Option.some.injEq, exists_eq_left', exists_eq_left, V.int.injEq, V.bl.injEq, V.ref.injEq, V.str.injEq, List.cons.injEq, reduceCtorEq, and_true, true_and, false_and, and_false, exists_false, or_false, false_or, or_true, true_or, exists_const, CMul, CDiv, CPow, and_assoc, exists_and_left, exists_and_right, Int.reducePow, Int.reduceNeg, Int.reduceLT, Int.reduceLE, Nat.reducePow, Nat.reduceLT, Int.reduceToNat, gt_iff_lt, ge_iff_le, decide_eq_true_eq, Bool.not_eq_true', decide_eq_false_iff_not, scal, ↓reduceIte, Bool.false_eq_true]
    exact k _ _ (by omega) (by omega) (kp.trans kp2) st2
def GreatI (s : Addr) (spot : Int) (H1 : Hp) (_ : Nat) (σ : L2.St) (H' : Hp) : Prop := ∃ v y, σ = [some (.ref s), some (.int spot), some (.int v), y] ∧ H' = H1 ∧ 0 ≤ v ∧ v < 2 ^ 133
abbrev sGreat : Stmt := topS 64
theorem scGreat : FnScope ["_law_store_here", "_law_spot", "_law_value", "_law_k"] ["_law_store_here"] (defScope sGreat) := ⟨rfl, rfl, rfl, by decide +kernel, rfl, by decide +kernel, by decide +kernel⟩
theorem k_Great (T : Bt K mg) (D : Dfn K mg "_law_great" sGreat ["_law_store_here"]) (d__law_take : Kn P w K mg base 2 "_law_take" ["_law_store_here", "_law_many"] (spTake K)) : Kn P w K mg base 3 "_law_great" ["_law_store_here"] (spInt K fun n => n.natAbs < 2 ^ 133) := by
  refine Kn.mk' D scGreat (fun vs H Q E h => ?_) (fun f cdv A outer s H vs Q E hr h => ?_)
  · obtain ⟨s, rfl, _⟩ := h
    rfl
  obtain ⟨s, rfl, hS, k⟩ := h
  refine ⟨_, (pss_cons (ps_set (i := 1) scGreat.nd rfl (.inl rfl) (pe_kn d__law_take hr (by rfl) (pa_cons (pv 0) (pa_cons pe_int pa_nil))))
      (pss_cons (ps_if (pt_cmpR op_lt (pv 1) pe_int (nomark _)) (pss_one (ps_ret (pe_ix ix_any (pe_ls (pa_cons (pe_op op_sub (pe_op op_pow pe_int pe_int) pe_int) (pa_cons (pe_op op_sub pe_int (pe_op op_pow pe_int pe_int)) (pa_cons (pe_op op_pow pe_int pe_int) (pa_cons pe_int pa_nil))))) (pv 1) (fun _ _ => rfl)))) pss_nil)
      (pss_cons (ps_set (i := 2) scGreat.nd rfl (.inl rfl) (pe_kn d__law_take hr (by rfl) (pa_cons (pv 0) (pa_cons (pe_op op_pow pe_int pe_int) pa_nil))))
      (pss_cons (ps_for PassesOwn.never rfl (pi_range1 (by rfl) T.b_range (pa_cons (pe_kn d__law_take hr (by rfl) (pa_cons (pv 0) (pa_cons pe_int pa_nil))) pa_nil)) (pg_name (i := 3) scGreat.nd rfl (.inl rfl)) (pss_one (ps_set (i := 2) scGreat.nd rfl (.inl rfl) (pe_op op_fdiv (pv 2) pe_int))))
      (pss_cons (ps_if (pt_cmpR op_eq (pe_op op_mod (pv 1) pe_int) pe_int (nomark _)) (pss_one (ps_ret (pe_un un_neg (pv 2)))) pss_nil)
      (pss_one (ps_ret (pv 2)))))))), ?_⟩
  simp only [cx_K, decide_true, decide_false, reduceCtorEq, gTp, gCons, gNil, ca_0, ca_1, ca_2, ca_3, ca_4, ca_5, ca_6, ca_7, ca_8, ca_9, ca_10, ca_11, ca_12, ca_13, ca_14, ca_15, ca_16, ca_17, ca_18, ca_19, ca_20, ca_21, ca_22, ca_23, ca_24, ca_25, ca_26, ca_27, ca_28, ca_29, ca_30, not_true_eq_false, not_false_eq_true, Int.reduceEq, Nat.reduceEqDiff, Nat.reduceLeDiff, rGcd, V.ty.injEq, eq_self, List.not_mem_nil, beq_self_eq_true, HO.lst.injEq, HO.tup.injEq, tFor_eq, iRng1, iList, iTup, nat10, tSeq, rIxA, rSetA, rIsN, rIsT, tTp, tLs, itsO_tup, itsO_lst, tyO_tup, tyO_lst, tyO_dK, tyN_non, tyN_bl, tyN_int, tyN_str, tyN_ref, tyNs_lt, isB, upd_same, upd_upd, sizeLine_eq, List.mem_cons, String.reduceBEq, String.reduceEq, Bool.or_false, Bool.or_true, Bool.and_false, Bool.false_or, Bool.and_self, Bool.false_and, Bool.not_false, Bool.not_true, List.any_cons, List.any_nil, atI_0, setI_0, atI_1, setI_1, atI_2, setI_2, atI_3, setI_3, atI_4, setI_4, atI_5, setI_5, atI_6, setI_6, tAsg, gName, tOp, tUn, tVar, tC, tCons, L2.tNil, tRet, tIfS, tTest, tCB, tCall, rI, rI0, rU, tNext, tB, tAnd, tOr, tNot, tAndV, tOrV, tNotV, tDrop, tIf, tPar, gSub, rIxL, rIxT, rEq, rNe, rSetL, tBits,
    L2.start, List.map_cons, List.map_nil, List.cons_append, List.nil_append, List.append_nil, List.length_cons, List.length_nil, List.replicate, Nat.reduceAdd, Nat.reduceSub, Nat.zero_add, List.getElem?_cons_zero, List.getElem?_cons_succ, List.set_cons_zero, List.set_cons_succ,
    Option.some.injEq, exists_eq_left', exists_eq_left, V.int.injEq, V.bl.injEq, V.ref.injEq, V.str.injEq, List.cons.injEq, reduceCtorEq, and_true, true_and, false_and, and_false, exists_false, or_false, false_or, or_true, true_or, exists_const, CMul, CDiv, CPow, and_assoc, exists_and_left, exists_and_right, Int.reducePow, Int.reduceNeg, Int.reduceLT, Int.reduceLE, Nat.reducePow, Nat.reduceLT, Int.reduceToNat, gt_iff_lt, ge_iff_le, decide_eq_true_eq, Bool.not_eq_true', decide_eq_false_iff_not, scal, ↓reduceIte, Bool.false_eq_true]
  refine ⟨s, 12, rfl, hS, by omega, fun i H1 h0 h1 kp st => ?_⟩
  simp only [cx_K, decide_true, decide_false, reduceCtorEq, gTp, gCons, gNil, ca_0, ca_1, ca_2, ca_3, ca_4, ca_5, ca_6, ca_7, ca_8, ca_9, ca_10, ca_11, ca_12, ca_13, ca_14, ca_15, ca_16, ca_17, ca_18, ca_19, ca_20, ca_21, ca_22, ca_23, ca_24, ca_25, ca_26, ca_27, ca_28, ca_29, ca_30, not_true_eq_false, not_false_eq_true, Int.reduceEq, Nat.reduceEqDiff, Nat.reduceLeDiff, rGcd, V.ty.injEq, eq_self, List.not_mem_nil, beq_self_eq_true, HO.lst.injEq, HO.tup.injEq, tFor_eq, iRng1, iList, iTup, nat10, tSeq, rIxA, rSetA, rIsN, rIsT, tTp, tLs, itsO_tup, itsO_lst, tyO_tup, tyO_lst, tyO_dK, tyN_non, tyN_bl, tyN_int, tyN_str, tyN_ref, tyNs_lt, isB, upd_same, upd_upd, sizeLine_eq, List.mem_cons, String.reduceBEq, String.reduceEq, Bool.or_false, Bool.or_true, Bool.and_false, Bool.false_or, Bool.and_self, Bool.false_and, Bool.not_false, Bool.not_true, List.any_cons, List.any_nil, atI_0, setI_0, atI_1, setI_1, atI_2, setI_2, atI_3, setI_3, atI_4, setI_4, atI_5, setI_5, atI_6, setI_6, tAsg, gName, tOp, tUn, tVar, tC, tCons, L2.tNil, tRet, tIfS, tTest, tCB, tCall, rI, rI0, rU, tNext, tB, tAnd, tOr, tNot, tAndV, tOrV, tNotV, tDrop, tIf, tPar, gSub, rIxL, rIxT, rEq, rNe, rSetL, tBits,
    L2.start, List.map_cons, List.map_nil, List.cons_append, List.nil_append, List.append_nil, List.length_cons, List.length_nil, List.replicate, Nat.reduceAdd, Nat.reduceSub, Nat.zero_add, List.getElem?_cons_zero, List.getElem?_cons_succ, List.set_cons_zero, List.set_cons_succ,
    Option.some.injEq, exists_eq_left', exists_eq_left, V.int.injEq, V.bl.injEq, V.ref.injEq, V.str.injEq, List.cons.injEq, reduceCtorEq, and_true, true_and, false_and, and_false, exists_false, or_false, false_or, or_true, true_or, exists_const, CMul, CDiv, CPow, and_assoc, exists_and_left, exists_and_right, Int.reducePow, Int.reduceNeg, Int.reduceLT, Int.reduceLE, Nat.reducePow, Nat.reduceLT, Int.reduceToNat, gt_iff_lt, ge_iff_le, decide_eq_true_eq, Bool.not_eq_true', decide_eq_false_iff_not, scal, ↓reduceIte, Bool.false_eq_true]
  refine ite2 (fun h => ?_) (fun h => ?_)
  · intro p hp kp'
    rw [ob_new kp']
    simp only [cx_K, decide_true, decide_false, reduceCtorEq, gTp, gCons, gNil, ca_0, ca_1, ca_2, ca_3, ca_4, ca_5, ca_6, ca_7, ca_8, ca_9, ca_10, ca_11, ca_12, ca_13, ca_14, ca_15, ca_16, ca_17, ca_18, ca_19, ca_20, ca_21, ca_22, ca_23, ca_24, ca_25, ca_26, ca_27, ca_28, ca_29, ca_30, not_true_eq_false, not_false_eq_true, Int.reduceEq, Nat.reduceEqDiff, Nat.reduceLeDiff, rGcd, V.ty.injEq, eq_self, List.not_mem_nil, beq_self_eq_true, HO.lst.injEq, HO.tup.injEq, tFor_eq, iRng1, iList, iTup, nat10, tSeq, rIxA, rSetA, rIsN, rIsT, tTp, tLs, itsO_tup, itsO_lst, tyO_tup, tyO_lst, tyO_dK, tyN_non, tyN_bl, tyN_int, tyN_str, tyN_ref, tyNs_lt, isB, upd_same, upd_upd, sizeLine_eq, List.mem_cons, String.reduceBEq, String.reduceEq, Bool.or_false, Bool.or_true, Bool.and_false, Bool.false_or, Bool.and_self, Bool.false_and, Bool.not_false, Bool.not_true, List.any_cons, List.any_nil, atI_0, setI_0, atI_1, setI_1, atI_2, setI_2, atI_3, setI_3, atI_4, setI_4, atI_5, setI_5, atI_6, setI_6, tAsg, gName, tOp, tUn, tVar, tC, tCons, L2.tNil, tRet, tIfS, tTest, tCB, tCall, rI, rI0, rU, tNext, tB, tAnd, tOr, tNot, tAndV, tOrV, tNotV, tDrop, tIf, tPar, gSub, rIxL, rIxT, rEq, rNe, rSetL, tBits,
    L2.start, List.map_cons, List.map_nil, List.cons_append, List.nil_append, List.append_nil, List.length_cons, List.length_nil, List.replicate, Nat.reduceAdd, Nat.reduceSub, Nat.zero_add, List.getElem?_cons_zero, List.getElem?_cons_succ, List.set_cons_zero, List.set_cons_succ,
    Option.some.injEq, exists_eq_left', exists_eq_left, V.int.injEq, V.bl.injEq, V.ref.injEq, V.str.injEq, List.cons.injEq, reduceCtorEq, and_true, true_and, false_and, and_false, exists_false, or_false, false_or, or_true, true_or, exists_const, CMul, CDiv, CPow, and_assoc, exists_and_left, exists_and_right, Int.reducePow, Int.reduceNeg, Int.reduceLT, Int.reduceLE, Nat.reducePow, Nat.reduceLT, Int.reduceToNat, gt_iff_lt, ge_iff_le, decide_eq_true_eq, Bool.not_eq_true', decide_eq_false_iff_not, scal, ↓reduceIte, Bool.false_eq_true]
    refine menu h0 (by simpa using h) fun v hv => ?_
    simp only [List.mem_cons, List.not_mem_nil, or_false] at hv
    rcases hv with rfl | rfl | rfl | rfl <;> exact k _ _ (by show Int.natAbs _ < _; omega) (kp.trans (Kp.same (Same.new hp _))) (st.same (Same.new hp _))
  · refine ⟨s, _, rfl, st, by omega, fun j H2 j0 j1 kp2 st2 => ⟨s, 40, rfl, st2, by omega, fun m H3 m0 m1 kp3 st3 => ?_⟩⟩
    simp only [cx_K, decide_true, decide_false, reduceCtorEq, gTp, gCons, gNil, ca_0, ca_1, ca_2, ca_3, ca_4, ca_5, ca_6, ca_7, ca_8, ca_9, ca_10, ca_11, ca_12, ca_13, ca_14, ca_15, ca_16, ca_17, ca_18, ca_19, ca_20, ca_21, ca_22, ca_23, ca_24, ca_25, ca_26, ca_27, ca_28, ca_29, ca_30, not_true_eq_false, not_false_eq_true, Int.reduceEq, Nat.reduceEqDiff, Nat.reduceLeDiff, rGcd, V.ty.injEq, eq_self, List.not_mem_nil, beq_self_eq_true, HO.lst.injEq, HO.tup.injEq, tFor_eq, iRng1, iList, iTup, nat10, tSeq, rIxA, rSetA, rIsN, rIsT, tTp, tLs, itsO_tup, itsO_lst, tyO_tup, tyO_lst, tyO_dK, tyN_non, tyN_bl, tyN_int, tyN_str, tyN_ref, tyNs_lt, isB, upd_same, upd_upd, sizeLine_eq, List.mem_cons, String.reduceBEq, String.reduceEq, Bool.or_false, Bool.or_true, Bool.and_false, Bool.false_or, Bool.and_self, Bool.false_and, Bool.not_false, Bool.not_true, List.any_cons, List.any_nil, atI_0, setI_0, atI_1, setI_1, atI_2, setI_2, atI_3, setI_3, atI_4, setI_4, atI_5, setI_5, atI_6, setI_6, tAsg, gName, tOp, tUn, tVar, tC, tCons, L2.tNil, tRet, tIfS, tTest, tCB, tCall, rI, rI0, rU, tNext, tB, tAnd, tOr, tNot, tAndV, tOrV, tNotV, tDrop, tIf, tPar, gSub, rIxL, rIxT, rEq, rNe, rSetL, tBits,
    L2.start, List.map_cons, List.map_nil, List.cons_append, List.nil_append, List.append_nil, List.length_cons, List.length_nil, List.replicate, Nat.reduceAdd, Nat.reduceSub, Nat.zero_add, List.getElem?_cons_zero, List.getElem?_cons_succ, List.set_cons_zero, List.set_cons_succ,
    Option.some.injEq, exists_eq_left', exists_eq_left, V.int.injEq, V.bl.injEq, V.ref.injEq, V.str.injEq, List.cons.injEq, reduceCtorEq, and_true, true_and, false_and, and_false, exists_false, or_false, false_or, or_true, true_or, exists_const, CMul, CDiv, CPow, and_assoc, exists_and_left, exists_and_right, Int.reducePow, Int.reduceNeg, Int.reduceLT, Int.reduceLE, Nat.reducePow, Nat.reduceLT, Int.reduceToNat, gt_iff_lt, ge_iff_le, decide_eq_true_eq, Bool.not_eq_true', decide_eq_false_iff_not, scal, ↓reduceIte, Bool.false_eq_true]
    refine ⟨by omega, by omega, forI_range (GreatI s i H3) ⟨j, none, rfl, rfl, j0, by omega⟩ ?_ ?_⟩
    · rintro t σ H' _ ⟨v, y, rfl, rfl, v0, v1⟩
      simp only [cx_K, decide_true, decide_false, reduceCtorEq, gTp, gCons, gNil, ca_0, ca_1, ca_2, ca_3, ca_4, ca_5, ca_6, ca_7, ca_8, ca_9, ca_10, ca_11, ca_12, ca_13, ca_14, ca_15, ca_16, ca_17, ca_18, ca_19, ca_20, ca_21, ca_22, ca_23, ca_24, ca_25, ca_26, ca_27, ca_28, ca_29, ca_30, not_true_eq_false, not_false_eq_true, Int.reduceEq, Nat.reduceEqDiff, Nat.reduceLeDiff, rGcd, V.ty.injEq, eq_self, List.not_mem_nil, beq_self_eq_true, HO.lst.injEq, HO.tup.injEq, tFor_eq, iRng1, iList, iTup, nat10, tSeq, rIxA, rSetA, rIsN, rIsT, tTp, tLs, itsO_tup, itsO_lst, tyO_tup, tyO_lst, tyO_dK, tyN_non, tyN_bl, tyN_int, tyN_str, tyN_ref, tyNs_lt, isB, upd_same, upd_upd, sizeLine_eq, List.mem_cons, String.reduceBEq, String.reduceEq, Bool.or_false, Bool.or_true, Bool.and_false, Bool.false_or, Bool.and_self, Bool.false_and, Bool.not_false, Bool.not_true, List.any_cons, List.any_nil, atI_0, setI_0, atI_1, setI_1, atI_2, setI_2, atI_3, setI_3, atI_4, setI_4, atI_5, setI_5, atI_6, setI_6, tAsg, gName, tOp, tUn, tVar, tC, tCons, L2.tNil, tRet, tIfS, tTest, tCB, tCall, rI, rI0, rU, tNext, tB, tAnd, tOr, tNot, tAndV, tOrV, tNotV, tDrop, tIf, tPar, gSub, rIxL, rIxT, rEq, rNe, rSetL, tBits,
    L2.start, List.map_cons, List.map_nil, List.cons_append, List.nil_append, List.append_nil, List.length_cons, List.length_nil, List.replicate, Nat.reduceAdd, Nat.reduceSub, Nat.zero_add, List.getElem?_cons_zero, List.getElem?_cons_succ, List.set_cons_zero, List.set_cons_succ,
    Option.some.injEq, exists_eq_left', exists_eq_left, V.int.injEq, V.bl.injEq, V.ref.injEq, V.str.injEq, List.cons.injEq, reduceCtorEq, and_true, true_and, false_and, and_false, exists_false, or_false, false_or, or_true, true_or, exists_const, CMul, CDiv, CPow, and_assoc, exists_and_left, exists_and_right, Int.reducePow, Int.reduceNeg, Int.reduceLT, Int.reduceLE, Nat.reducePow, Nat.reduceLT, Int.reduceToNat, gt_iff_lt, ge_iff_le, decide_eq_true_eq, Bool.not_eq_true', decide_eq_false_iff_not, scal, ↓reduceIte, Bool.false_eq_true]
      exact ⟨_, _, rfl, rfl, by omega, by omega⟩
    · rintro σ H' ⟨v, y, rfl, rfl, v0, v1⟩
      simp only [cx_K, decide_true, decide_false, reduceCtorEq, gTp, gCons, gNil, ca_0, ca_1, ca_2, ca_3, ca_4, ca_5, ca_6, ca_7, ca_8, ca_9, ca_10, ca_11, ca_12, ca_13, ca_14, ca_15, ca_16, ca_17, ca_18, ca_19, ca_20, ca_21, ca_22, ca_23, ca_24, ca_25, ca_26, ca_27, ca_28, ca_29, ca_30, not_true_eq_false, not_false_eq_true, Int.reduceEq, Nat.reduceEqDiff, Nat.reduceLeDiff, rGcd, V.ty.injEq, eq_self, List.not_mem_nil, beq_self_eq_true, HO.lst.injEq, HO.tup.injEq, tFor_eq, iRng1, iList, iTup, nat10, tSeq, rIxA, rSetA, rIsN, rIsT, tTp, tLs, itsO_tup, itsO_lst, tyO_tup, tyO_lst, tyO_dK, tyN_non, tyN_bl, tyN_int, tyN_str, tyN_ref, tyNs_lt, isB, upd_same, upd_upd, sizeLine_eq, List.mem_cons, String.reduceBEq, String.reduceEq, Bool.or_false, Bool.or_true, Bool.and_false, Bool.false_or, Bool.and_self, Bool.false_and, Bool.not_false, Bool.not_true, List.any_cons, List.any_nil, atI_0, setI_0, atI_1, setI_1, atI_2, setI_2, atI_3, setI_3, atI_4, setI_4, atI_5, setI_5, atI_6, setI_6, tAsg, gName, tOp, tUn, tVar, tC, tCons, L2.tNil, tRet, tIfS, tTest, tCB, tCall, rI, rI0, rU, tNext, tB, tAnd, tOr, tNot, tAndV, tOrV, tNotV, tDrop, tIf, tPar, gSub, rIxL, rIxT, rEq, rNe, rSetL, tBits,
    L2.start, List.map_cons, List.map_nil, List.cons_append, List.nil_append, List.append_nil, List.length_cons, List.length_nil, List.replicate, Nat.reduceAdd, Nat.reduceSub, Nat.zero_add, List.getElem?_cons_zero, List.getElem?_cons_succ, List.set_cons_zero, List.set_cons_succ,
    Option.some.injEq, exists_eq_left', exists_eq_left, V.int.injEq, V.bl.injEq, V.ref.injEq, V.str.injEq, List.cons.injEq, reduceCtorEq, and_true, true_and, false_and, and_false, exists_false, or_false, false_or, or_true, true_or, exists_const, CMul, CDiv, CPow, and_assoc, exists_and_left, exists_and_right, Int.reducePow, Int.reduceNeg, Int.reduceLT, Int.reduceLE, Nat.reducePow, Nat.reduceLT, Int.reduceToNat, gt_iff_lt, ge_iff_le, decide_eq_true_eq, Bool.not_eq_true', decide_eq_false_iff_not, scal, ↓reduceIte, Bool.false_eq_true]
      have kk := (kp.trans kp2).trans kp3
      exact ite2 (fun _ => k _ _ (by show Int.natAbs _ < _; omega) kk st3) (fun _ => k _ _ (by show Int.natAbs _ < _; omega) kk st3)
def spDFrac (K : PySem.W.Frag) (n : Nat) : Sp := fun vs H Q _ => ∃ (s : Addr), vs = [.ref s] ∧ Sto K H s ∧ ∀ a q H', Fq K H' n a q → Kp s H H' → Sto K H' s → Q (.ref a) H'
theorem nf01 : Nf (0, 1) := ⟨by decide, by decide⟩
theorem nf11 : Nf (1, 1) := ⟨by decide, by decide⟩
theorem nfm1 : Nf (-1, 1) := ⟨by decide, by decide⟩
theorem nf12 : Nf (1, 2) := ⟨by decide, by decide⟩
theorem nfm2 : Nf (-1, 2) := ⟨by decide, by decide⟩
theorem sz10 {x y : Int} (h1 : x.natAbs < 1024) (h2 : y.natAbs < 1024) : Sz 10 (x, y) := ⟨by show x.natAbs < _; omega, by show y.natAbs < _; omega⟩
abbrev sDFrac : Stmt := topS 65
theorem scDFrac : FnScope ["_law_store_here", "_law_spot", "_law_bottom"] ["_law_store_here"] (defScope sDFrac) := ⟨rfl, rfl, rfl, by decide +kernel, rfl, by decide +kernel, by decide +kernel⟩
theorem k_DFrac (T : Bt K mg) (D : Dfn K mg "_law_frac" sDFrac ["_law_store_here"]) (d__law_take : Kn P w K mg base 2 "_law_take" ["_law_store_here", "_law_many"] (spTake K)) (d__law_lowest : Kn P w K mg base 2 "_law_lowest" ["_law_top", "_law_bottom"] (spLowest K)) : Kn P w K mg base 3 "_law_frac" ["_law_store_here"] (spDFrac K 10) := by
  refine Kn.mk' D scDFrac (fun vs H Q E h => ?_) (fun f cdv A outer s H vs Q E hr h => ?_)
  · obtain ⟨s, rfl, _⟩ := h
    rfl
  obtain ⟨s, rfl, hS, k⟩ := h
  refine ⟨_, (pss_cons (ps_set (i := 1) scDFrac.nd rfl (.inl rfl) (pe_kn d__law_take hr (by rfl) (pa_cons (pv 0) (pa_cons pe_int pa_nil))))
      (pss_cons (ps_if (pt_cmpR op_lt (pv 1) pe_int (nomark _)) (pss_one (ps_ret (pe_ix ix_any (pe_ls (pa_cons (pe_tp (pa_cons pe_int (pa_cons pe_int pa_nil))) (pa_cons (pe_tp (pa_cons pe_int (pa_cons pe_int pa_nil))) (pa_cons (pe_tp (pa_cons (pe_un un_neg pe_int) (pa_cons pe_int pa_nil))) (pa_cons (pe_tp (pa_cons pe_int (pa_cons pe_int pa_nil))) (pa_cons (pe_tp (pa_cons (pe_un un_neg pe_int) (pa_cons pe_int pa_nil))) pa_nil)))))) (pv 1) (fun _ _ => rfl)))) pss_nil)
      (pss_cons (ps_set (i := 2) scDFrac.nd rfl (.inl rfl) (pe_op op_add pe_int (pe_kn d__law_take hr (by rfl) (pa_cons (pv 0) (pa_cons pe_int pa_nil)))))
      (pss_one (ps_ret (pe_kn d__law_lowest hr (by rfl) (pa_cons (pe_op op_sub (pe_kn d__law_take hr (by rfl) (pa_cons (pv 0) (pa_cons (pe_op op_add (pe_op op_mul pe_int (pv 2)) pe_int) pa_nil))) (pe_op op_mul pe_int (pv 2))) (pa_cons (pv 2) pa_nil)))))))), ?_⟩
  simp only [cx_K, decide_true, decide_false, reduceCtorEq, gTp, gCons, gNil, ca_0, ca_1, ca_2, ca_3, ca_4, ca_5, ca_6, ca_7, ca_8, ca_9, ca_10, ca_11, ca_12, ca_13, ca_14, ca_15, ca_16, ca_17, ca_18, ca_19, ca_20, ca_21, ca_22, ca_23, ca_24, ca_25, ca_26, ca_27, ca_28, ca_29, ca_30, not_true_eq_false, not_false_eq_true, Int.reduceEq, Nat.reduceEqDiff, Nat.reduceLeDiff, rGcd, V.ty.injEq, eq_self, List.not_mem_nil, beq_self_eq_true, HO.lst.injEq, HO.tup.injEq, tFor_eq, iRng1, iList, iTup, nat10, tSeq, rIxA, rSetA, rIsN, rIsT, tTp, tLs, itsO_tup, itsO_lst, tyO_tup, tyO_lst, tyO_dK, tyN_non, tyN_bl, tyN_int, tyN_str, tyN_ref, tyNs_lt, isB, upd_same, upd_upd, sizeLine_eq, List.mem_cons, String.reduceBEq, String.reduceEq, Bool.or_false, Bool.or_true, Bool.and_false, Bool.false_or, Bool.and_self, Bool.false_and, Bool.not_false, Bool.not_true, List.any_cons, List.any_nil, atI_0, setI_0, atI_1, setI_1, atI_2, setI_2, atI_3, setI_3, atI_4, setI_4, atI_5, setI_5, atI_6, setI_6, tAsg, gName, tOp, tUn, tVar, tC, tCons, L2.tNil, tRet, tIfS, tTest, tCB, tCall, rI, rI0, rU, tNext, tB, tAnd, tOr, tNot, tAndV, tOrV, tNotV, tDrop, tIf, tPar, gSub, rIxL, rIxT, rEq, rNe, rSetL, tBits,
    L2.start, List.map_cons, List.map_nil, List.cons_append, List.nil_append, List.append_nil, List.length_cons, List.length_nil, List.replicate, Nat.reduceAdd, Nat.reduceSub, Nat.zero_add, List.getElem?_cons_zero, List.getElem?_cons_succ, List.set_cons_zero, List.set_cons_succ,
    Option.some.injEq, exists_eq_left', exists_eq_left, V.int.injEq, V.bl.injEq, V.ref.injEq, V.str.injEq, List.cons.injEq, reduceCtorEq, and_true, true_and, false_and, and_false, exists_false, or_false, false_or, or_true, true_or, exists_const, CMul, CDiv, CPow, and_assoc, exists_and_left, exists_and_right, Int.reducePow, Int.reduceNeg, Int.reduceLT, Int.reduceLE, Nat.reducePow, Nat.reduceLT, Int.reduceToNat, gt_iff_lt, ge_iff_le, decide_eq_true_eq, Bool.not_eq_true', decide_eq_false_iff_not, scal, ↓reduceIte, Bool.false_eq_true]
  refine ⟨s, 12, rfl, hS, by omega, fun i H1 z0 z1 kp st => ?_⟩
  simp only [cx_K, decide_true, decide_false, reduceCtorEq, gTp, gCons, gNil, ca_0, ca_1, ca_2, ca_3, ca_4, ca_5, ca_6, ca_7, ca_8, ca_9, ca_10, ca_11, ca_12, ca_13, ca_14, ca_15, ca_16, ca_17, ca_18, ca_19, ca_20, ca_21, ca_22, ca_23, ca_24, ca_25, ca_26, ca_27, ca_28, ca_29, ca_30, not_true_eq_false, not_false_eq_true, Int.reduceEq, Nat.reduceEqDiff, Nat.reduceLeDiff, rGcd, V.ty.injEq, eq_self, List.not_mem_nil, beq_self_eq_true, HO.lst.injEq, HO.tup.injEq, tFor_eq, iRng1, iList, iTup, nat10, tSeq, rIxA, rSetA, rIsN, rIsT, tTp, tLs, itsO_tup, itsO_lst, tyO_tup, tyO_lst, tyO_dK, tyN_non, tyN_bl, tyN_int, tyN_str, tyN_ref, tyNs_lt, isB, upd_same, upd_upd, sizeLine_eq, List.mem_cons, String.reduceBEq, String.reduceEq, Bool.or_false, Bool.or_true, Bool.and_false, Bool.false_or, Bool.and_self, Bool.false_and, Bool.not_false, Bool.not_true, List.any_cons, List.any_nil, atI_0, setI_0, atI_1, setI_1, atI_2, setI_2, atI_3, setI_3, atI_4, setI_4, atI_5, setI_5, atI_6, setI_6, tAsg, gName, tOp, tUn, tVar, tC, tCons, L2.tNil, tRet, tIfS, tTest, tCB, tCall, rI, rI0, rU, tNext, tB, tAnd, tOr, tNot, tAndV, tOrV, tNotV, tDrop, tIf, tPar, gSub, rIxL, rIxT, rEq, rNe, rSetL, tBits,
    L2.start, List.map_cons, List.map_nil, List.cons_append, List.nil_append, List.append_nil, List.length_cons, List.length_nil, List.replicate, Nat.reduceAdd, Nat.reduceSub, Nat.zero_add, List.getElem?_cons_zero, List.getElem?_cons_succ, List.set_cons_zero, List.set_cons_succ,
    Option.some.injEq, exists_eq_left', exists_eq_left, V.int.injEq, V.bl.injEq, V.ref.injEq, V.str.injEq, List.cons.injEq, reduceCtorEq, and_true, true_and, false_and, and_false, exists_false, or_false, false_or, or_true, true_or, exists_const, CMul, CDiv, CPow, and_assoc, exists_and_left, exists_and_right, Int.reducePow, Int.reduceNeg, Int.reduceLT, Int.reduceLE, Nat.reducePow, Nat.reduceLT, Int.reduceToNat, gt_iff_lt, ge_iff_le, decide_eq_true_eq, Bool.not_eq_true', decide_eq_false_iff_not, scal, ↓reduceIte, Bool.false_eq_true]
  refine ite2 (fun h => ?_) (fun h => ?_)
  · intro p1 h1 k1 p2 h2 k2 p3 h3 k3 p4 h4 k4 p5 h5 k5 p6 h6 k6
    rw [ob_new k6]
    simp only [cx_K, decide_true, decide_false, reduceCtorEq, gTp, gCons, gNil, ca_0, ca_1, ca_2, ca_3, ca_4, ca_5, ca_6, ca_7, ca_8, ca_9, ca_10, ca_11, ca_12, ca_13, ca_14, ca_15, ca_16, ca_17, ca_18, ca_19, ca_20, ca_21, ca_22, ca_23, ca_24, ca_25, ca_26, ca_27, ca_28, ca_29, ca_30, not_true_eq_false, not_false_eq_true, Int.reduceEq, Nat.reduceEqDiff, Nat.reduceLeDiff, rGcd, V.ty.injEq, eq_self, List.not_mem_nil, beq_self_eq_true, HO.lst.injEq, HO.tup.injEq, tFor_eq, iRng1, iList, iTup, nat10, tSeq, rIxA, rSetA, rIsN, rIsT, tTp, tLs, itsO_tup, itsO_lst, tyO_tup, tyO_lst, tyO_dK, tyN_non, tyN_bl, tyN_int, tyN_str, tyN_ref, tyNs_lt, isB, upd_same, upd_upd, sizeLine_eq, List.mem_cons, String.reduceBEq, String.reduceEq, Bool.or_false, Bool.or_true, Bool.and_false, Bool.false_or, Bool.and_self, Bool.false_and, Bool.not_false, Bool.not_true, List.any_cons, List.any_nil, atI_0, setI_0, atI_1, setI_1, atI_2, setI_2, atI_3, setI_3, atI_4, setI_4, atI_5, setI_5, atI_6, setI_6, tAsg, gName, tOp, tUn, tVar, tC, tCons, L2.tNil, tRet, tIfS, tTest, tCB, tCall, rI, rI0, rU, tNext, tB, tAnd, tOr, tNot, tAndV, tOrV, tNotV, tDrop, tIf, tPar, gSub, rIxL, rIxT, rEq, rNe, rSetL, tBits,
    L2.start, List.map_cons, List.map_nil, List.cons_append, List.nil_append, List.append_nil, List.length_cons, List.length_nil, List.replicate, Nat.reduceAdd, Nat.reduceSub, Nat.zero_add, List.getElem?_cons_zero, List.getElem?_cons_succ, List.set_cons_zero, List.set_cons_succ,
    Option.some.injEq, exists_eq_left', exists_eq_left, V.int.injEq, V.bl.injEq, V.ref.injEq, V.str.injEq, List.cons.injEq, reduceCtorEq, and_true, true_and, false_and, and_false, exists_false, or_false, false_or, or_true, true_or, exists_const, CMul, CDiv, CPow, and_assoc, exists_and_left, exists_and_right, Int.reducePow, Int.reduceNeg, Int.reduceLT, Int.reduceLE, Nat.reducePow, Nat.reduceLT, Int.reduceToNat, gt_iff_lt, ge_iff_le, decide_eq_true_eq, Bool.not_eq_true', decide_eq_false_iff_not, scal, ↓reduceIte, Bool.false_eq_true]
    refine menu z0 (by simpa using h) fun v hv => ?_
    simp only [List.mem_cons, List.not_mem_nil, or_false] at hv
    rcases hv with rfl | rfl | rfl | rfl | rfl
    · exact k _ _ _ ⟨ob_same ((Same.new h2 _).trans ((Same.new h3 _).trans ((Same.new h4 _).trans ((Same.new h5 _).trans (Same.new h6 _))))) (ob_new k1), nf01, sz10 (by decide) (by decide)⟩ (kp.trans (Kp.same ((Same.new h1 _).trans ((Same.new h2 _).trans ((Same.new h3 _).trans ((Same.new h4 _).trans ((Same.new h5 _).trans (Same.new h6 _)))))))) (st.same ((Same.new h1 _).trans ((Same.new h2 _).trans ((Same.new h3 _).trans ((Same.new h4 _).trans ((Same.new h5 _).trans (Same.new h6 _)))))))
    · exact k _ _ _ ⟨ob_same ((Same.new h3 _).trans ((Same.new h4 _).trans ((Same.new h5 _).trans (Same.new h6 _)))) (ob_new k2), nf11, sz10 (by decide) (by decide)⟩ (kp.trans (Kp.same ((Same.new h1 _).trans ((Same.new h2 _).trans ((Same.new h3 _).trans ((Same.new h4 _).trans ((Same.new h5 _).trans (Same.new h6 _)))))))) (st.same ((Same.new h1 _).trans ((Same.new h2 _).trans ((Same.new h3 _).trans ((Same.new h4 _).trans ((Same.new h5 _).trans (Same.new h6 _)))))))
    · exact k _ _ _ ⟨ob_same ((Same.new h4 _).trans ((Same.new h5 _).trans (Same.new h6 _))) (ob_new k3), nfm1, sz10 (by decide) (by decide)⟩ (kp.trans (Kp.same ((Same.new h1 _).trans ((Same.new h2 _).trans ((Same.new h3 _).trans ((Same.new h4 _).trans ((Same.new h5 _).trans (Same.new h6 _)))))))) (st.same ((Same.new h1 _).trans ((Same.new h2 _).trans ((Same.new h3 _).trans ((Same.new h4 _).trans ((Same.new h5 _).trans (Same.new h6 _)))))))
    · exact k _ _ _ ⟨ob_same ((Same.new h5 _).trans (Same.new h6 _)) (ob_new k4), nf12, sz10 (by decide) (by decide)⟩ (kp.trans (Kp.same ((Same.new h1 _).trans ((Same.new h2 _).trans ((Same.new h3 _).trans ((Same.new h4 _).trans ((Same.new h5 _).trans (Same.new h6 _)))))))) (st.same ((Same.new h1 _).trans ((Same.new h2 _).trans ((Same.new h3 _).trans ((Same.new h4 _).trans ((Same.new h5 _).trans (Same.new h6 _)))))))
    · exact k _ _ _ ⟨ob_same (Same.new h6 _) (ob_new k5), nfm2, sz10 (by decide) (by decide)⟩ (kp.trans (Kp.same ((Same.new h1 _).trans ((Same.new h2 _).trans ((Same.new h3 _).trans ((Same.new h4 _).trans ((Same.new h5 _).trans (Same.new h6 _)))))))) (st.same ((Same.new h1 _).trans ((Same.new h2 _).trans ((Same.new h3 _).trans ((Same.new h4 _).trans ((Same.new h5 _).trans (Same.new h6 _)))))))
  · refine ⟨s, 12, rfl, st, by omega, fun j H2 j0 j1 kp2 st2 => ?_⟩
    simp only [cx_K, decide_true, decide_false, reduceCtorEq, gTp, gCons, gNil, ca_0, ca_1, ca_2, ca_3, ca_4, ca_5, ca_6, ca_7, ca_8, ca_9, ca_10, ca_11, ca_12, ca_13, ca_14, ca_15, ca_16, ca_17, ca_18, ca_19, ca_20, ca_21, ca_22, ca_23, ca_24, ca_25, ca_26, ca_27, ca_28, ca_29, ca_30, not_true_eq_false, not_false_eq_true, Int.reduceEq, Nat.reduceEqDiff, Nat.reduceLeDiff, rGcd, V.ty.injEq, eq_self, List.not_mem_nil, beq_self_eq_true, HO.lst.injEq, HO.tup.injEq, tFor_eq, iRng1, iList, iTup, nat10, tSeq, rIxA, rSetA, rIsN, rIsT, tTp, tLs, itsO_tup, itsO_lst, tyO_tup, tyO_lst, tyO_dK, tyN_non, tyN_bl, tyN_int, tyN_str, tyN_ref, tyNs_lt, isB, upd_same, upd_upd, sizeLine_eq, List.mem_cons, String.reduceBEq, String.reduceEq, Bool.or_false, Bool.or_true, Bool.and_false, Bool.false_or, Bool.and_self, Bool.false_and, Bool.not_false, Bool.not_true, List.any_cons, List.any_nil, atI_0, setI_0, atI_1, setI_1, atI_2, setI_2, atI_3, setI_3, atI_4, setI_4, atI_5, setI_5, atI_6, setI_6, tAsg, gName, tOp, tUn, tVar, tC, tCons, L2.tNil, tRet, tIfS, tTest, tCB, tCall, rI, rI0, rU, tNext, tB, tAnd, tOr, tNot, tAndV, tOrV, tNotV, tDrop, tIf, tPar, gSub, rIxL, rIxT, rEq, rNe, rSetL, tBits,
    L2.start, List.map_cons, List.map_nil, List.cons_append, List.nil_append, List.append_nil, List.length_cons, List.length_nil, List.replicate, Nat.reduceAdd, Nat.reduceSub, Nat.zero_add, List.getElem?_cons_zero, List.getElem?_cons_succ, List.set_cons_zero, List.set_cons_succ,
    Option.some.injEq, exists_eq_left', exists_eq_left, V.int.injEq, V.bl.injEq, V.ref.injEq, V.str.injEq, List.cons.injEq, reduceCtorEq, and_true, true_and, false_and, and_false, exists_false, or_false, false_or, or_true, true_or, exists_const, CMul, CDiv, CPow, and_assoc, exists_and_left, exists_and_right, Int.reducePow, Int.reduceNeg, Int.reduceLT, Int.reduceLE, Nat.reducePow, Nat.reduceLT, Int.reduceToNat, gt_iff_lt, ge_iff_le, decide_eq_true_eq, Bool.not_eq_true', decide_eq_false_iff_not, scal, ↓reduceIte, Bool.false_eq_true]
    refine ⟨s, _, rfl, st2, by omega, fun m H3 m0 m1 kp3 st3 => ?_⟩
    simp only [cx_K, decide_true, decide_false, reduceCtorEq, gTp, gCons, gNil, ca_0, ca_1, ca_2, ca_3, ca_4, ca_5, ca_6, ca_7, ca_8, ca_9, ca_10, ca_11, ca_12, ca_13, ca_14, ca_15, ca_16, ca_17, ca_18, ca_19, ca_20, ca_21, ca_22, ca_23, ca_24, ca_25, ca_26, ca_27, ca_28, ca_29, ca_30, not_true_eq_false, not_false_eq_true, Int.reduceEq, Nat.reduceEqDiff, Nat.reduceLeDiff, rGcd, V.ty.injEq, eq_self, List.not_mem_nil, beq_self_eq_true, HO.lst.injEq, HO.tup.injEq, tFor_eq, iRng1, iList, iTup, nat10, tSeq, rIxA, rSetA, rIsN, rIsT, tTp, tLs, itsO_tup, itsO_lst, tyO_tup, tyO_lst, tyO_dK, tyN_non, tyN_bl, tyN_int, tyN_str, tyN_ref, tyNs_lt, isB, upd_same, upd_upd, sizeLine_eq, List.mem_cons, String.reduceBEq, String.reduceEq, Bool.or_false, Bool.or_true, Bool.and_false, Bool.false_or, Bool.and_self, Bool.false_and, Bool.not_false, Bool.not_true, List.any_cons, List.any_nil, atI_0, setI_0, atI_1, setI_1, atI_2, setI_2, atI_3, setI_3, atI_4, setI_4, atI_5, setI_5, atI_6, setI_6, tAsg, gName, tOp, tUn, tVar, tC, tCons, L2.tNil, tRet, tIfS, tTest, tCB, tCall, rI, rI0, rU, tNext, tB, tAnd, tOr, tNot, tAndV, tOrV, tNotV, tDrop, tIf, tPar, gSub, rIxL, rIxT, rEq, rNe, rSetL, tBits,
    L2.start, List.map_cons, List.map_nil, List.cons_append, List.nil_append, List.append_nil, List.length_cons, List.length_nil, List.replicate, Nat.reduceAdd, Nat.reduceSub, Nat.zero_add, List.getElem?_cons_zero, List.getElem?_cons_succ, List.set_cons_zero, List.set_cons_succ,
    Option.some.injEq, exists_eq_left', exists_eq_left, V.int.injEq, V.bl.injEq, V.ref.injEq, V.str.injEq, List.cons.injEq, reduceCtorEq, and_true, true_and, false_and, and_false, exists_false, or_false, false_or, or_true, true_or, exists_const, CMul, CDiv, CPow, and_assoc, exists_and_left, exists_and_right, Int.reducePow, Int.reduceNeg, Int.reduceLT, Int.reduceLE, Nat.reducePow, Nat.reduceLT, Int.reduceToNat, gt_iff_lt, ge_iff_le, decide_eq_true_eq, Bool.not_eq_true', decide_eq_false_iff_not, scal, ↓reduceIte, Bool.false_eq_true]
    refine ⟨_, _, rfl, ?_, fun q hq p H4 s4 o4 => ?_⟩
    · have e : 2 ^ 10 ≤ 2 ^ 8000 := Nat.pow_le_pow_right (by omega) (by omega)
      omega
    · have hI := hq.2 (show 1 + j ≠ 0 by omega)
      exact k p q H4 ⟨o4, hI.1, is_sz (by omega) hI (by omega) (by omega)⟩ (((kp.trans kp2).trans kp3).trans (Kp.same s4)) (st3.same s4)
abbrev sDFracW : Stmt := topS 66
theorem scDFracW : FnScope ["_law_store_here", "_law_spot"] ["_law_store_here"] (defScope sDFracW) := ⟨rfl, rfl, rfl, by decide +kernel, rfl, by decide +kernel, by decide +kernel⟩
theorem k_DFracW (T : Bt K mg) (D : Dfn K mg "_law_frac_wide" sDFracW ["_law_store_here"]) (d__law_take : Kn P w K mg base 2 "_law_take" ["_law_store_here", "_law_many"] (spTake K)) (d__law_lowest : Kn P w K mg base 2 "_law_lowest" ["_law_top", "_law_bottom"] (spLowest K)) (d__law_great : Kn P w K mg base 3 "_law_great" ["_law_store_here"] (spInt K fun n => n.natAbs < 2 ^ 133)) (d__law_whole : Kn P w K mg base 3 "_law_whole" ["_law_store_here", "_law_reach"] (spLInt K)) (d__law_frac : Kn P w K mg base 3 "_law_frac" ["_law_store_here"] (spDFrac K 10)) : Kn P w K mg base 4 "_law_frac_wide" ["_law_store_here"] (spDFrac K 133) := by
  refine Kn.mk' D scDFracW (fun vs H Q E h => ?_) (fun f cdv A outer s H vs Q E hr h => ?_)
  · obtain ⟨s, rfl, _⟩ := h
    rfl
  obtain ⟨s, rfl, hS, k⟩ := h
  refine ⟨_, (pss_cons (ps_set (i := 1) scDFracW.nd rfl (.inl rfl) (pe_kn d__law_take hr (by rfl) (pa_cons (pv 0) (pa_cons pe_int pa_nil))))
      (pss_cons (ps_if (pt_cmpR op_eq (pv 1) pe_int (nomark _)) (pss_one (ps_ret (pe_kn d__law_lowest hr (by rfl) (pa_cons (pe_kn d__law_great hr (by rfl) (pa_cons (pv 0) pa_nil)) (pa_cons (pe_callB (call_max2 rfl) (by rfl) T.b_max (by decide +kernel) (pa_cons pe_int (pa_cons (pe_callB call_abs (by rfl) T.b_abs (by decide +kernel) (pa_cons (pe_kn d__law_great hr (by rfl) (pa_cons (pv 0) pa_nil)) pa_nil)) pa_nil))) pa_nil))))) pss_nil)
      (pss_cons (ps_if (pt_cmpR op_eq (pv 1) pe_int (nomark _)) (pss_one (ps_ret (pe_kn d__law_lowest hr (by rfl) (pa_cons (pe_kn d__law_whole hr (by rfl) (pa_cons (pv 0) (pa_cons (pe_op op_pow pe_int pe_int) pa_nil))) (pa_cons (pe_op op_add pe_int (pe_kn d__law_take hr (by rfl) (pa_cons (pv 0) (pa_cons pe_int pa_nil)))) pa_nil))))) pss_nil)
      (pss_one (ps_ret (pe_kn d__law_frac hr (by rfl) (pa_cons (pv 0) pa_nil))))))), ?_⟩
  simp only [cx_K, decide_true, decide_false, reduceCtorEq, gTp, gCons, gNil, ca_0, ca_1, ca_2, ca_3, ca_4, ca_5, ca_6, ca_7, ca_8, ca_9, ca_10, ca_11, ca_12, ca_13, ca_14, ca_15, ca_16, ca_17, ca_18, ca_19, ca_20, ca_21, ca_22, ca_23, ca_24, ca_25, ca_26, ca_27, ca_28, ca_29, ca_30, not_true_eq_false, not_false_eq_true, Int.reduceEq, Nat.reduceEqDiff, Nat.reduceLeDiff, rGcd, V.ty.injEq, eq_self, List.not_mem_nil, beq_self_eq_true, HO.lst.injEq, HO.tup.injEq, tFor_eq, iRng1, iList, iTup, nat10, tSeq, rIxA, rSetA, rIsN, rIsT, tTp, tLs, itsO_tup, itsO_lst, tyO_tup, tyO_lst, tyO_dK, tyN_non, tyN_bl, tyN_int, tyN_str, tyN_ref, tyNs_lt, isB, upd_same, upd_upd, sizeLine_eq, List.mem_cons, String.reduceBEq, String.reduceEq, Bool.or_false, Bool.or_true, Bool.and_false, Bool.false_or, Bool.and_self, Bool.false_and, Bool.not_false, Bool.not_true, List.any_cons, List.any_nil, atI_0, setI_0, atI_1, setI_1, atI_2, setI_2, atI_3, setI_3, atI_4, setI_4, atI_5, setI_5, atI_6, setI_6, tAsg, gName, tOp, tUn, tVar, tC, tCons, L2.tNil, tRet, tIfS, tTest, tCB, tCall, rI, rI0, rU, tNext, tB, tAnd, tOr, tNot, tAndV, tOrV, tNotV, tDrop, tIf, tPar, gSub, rIxL, rIxT, rEq, rNe, rSetL, tBits,
    L2.start, List.map_cons, List.map_nil, List.cons_append, List.nil_append, List.append_nil, List.length_cons, List.length_nil, List.replicate, Nat.reduceAdd, Nat.reduceSub, Nat.zero_add, List.getElem?_cons_zero, List.getElem?_cons_succ, List.set_cons_zero, List.set_cons_succ,
    Option.some.injEq, exists_eq_left', exists_eq_left, V.int.injEq, V.bl.injEq, V.ref.injEq, V.str.injEq, List.cons.injEq, reduceCtorEq, and_true, true_and, false_and, and_false, exists_false, or_false, false_or, or_true, true_or, exists_const, CMul, CDiv, CPow, and_assoc, exists_and_left, exists_and_right, Int.reducePow, Int.reduceNeg, Int.reduceLT, Int.reduceLE, Nat.reducePow, Nat.reduceLT, Int.reduceToNat, gt_iff_lt, ge_iff_le, decide_eq_true_eq, Bool.not_eq_true', decide_eq_false_iff_not, scal, ↓reduceIte, Bool.false_eq_true]
  refine ⟨s, 8, rfl, hS, by omega, fun i H1 z0 z1 kp st => ?_⟩
  simp only [cx_K, decide_true, decide_false, reduceCtorEq, gTp, gCons, gNil, ca_0, ca_1, ca_2, ca_3, ca_4, ca_5, ca_6, ca_7, ca_8, ca_9, ca_10, ca_11, ca_12, ca_13, ca_14, ca_15, ca_16, ca_17, ca_18, ca_19, ca_20, ca_21, ca_22, ca_23, ca_24, ca_25, ca_26, ca_27, ca_28, ca_29, ca_30, not_true_eq_false, not_false_eq_true, Int.reduceEq, Nat.reduceEqDiff, Nat.reduceLeDiff, rGcd, V.ty.injEq, eq_self, List.not_mem_nil, beq_self_eq_true, HO.lst.injEq, HO.tup.injEq, tFor_eq, iRng1, iList, iTup, nat10, tSeq, rIxA, rSetA, rIsN, rIsT, tTp, tLs, itsO_tup, itsO_lst, tyO_tup, tyO_lst, tyO_dK, tyN_non, tyN_bl, tyN_int, tyN_str, tyN_ref, tyNs_lt, isB, upd_same, upd_upd, sizeLine_eq, List.mem_cons, String.reduceBEq, String.reduceEq, Bool.or_false, Bool.or_true, Bool.and_false, Bool.false_or, Bool.and_self, Bool.false_and, Bool.not_false, Bool.not_true, List.any_cons, List.any_nil, atI_0, setI_0, atI_1, setI_1, atI_2, setI_2, atI_3, setI_3, atI_4, setI_4, atI_5, setI_5, atI_6, setI_6, tAsg, gName, tOp, tUn, tVar, tC, tCons, L2.tNil, tRet, tIfS, tTest, tCB, tCall, rI, rI0, rU, tNext, tB, tAnd, tOr, tNot, tAndV, tOrV, tNotV, tDrop, tIf, tPar, gSub, rIxL, rIxT, rEq, rNe, rSetL, tBits,
    L2.start, List.map_cons, List.map_nil, List.cons_append, List.nil_append, List.append_nil, List.length_cons, List.length_nil, List.replicate, Nat.reduceAdd, Nat.reduceSub, Nat.zero_add, List.getElem?_cons_zero, List.getElem?_cons_succ, List.set_cons_zero, List.set_cons_succ,
    Option.some.injEq, exists_eq_left', exists_eq_left, V.int.injEq, V.bl.injEq, V.ref.injEq, V.str.injEq, List.cons.injEq, reduceCtorEq, and_true, true_and, false_and, and_false, exists_false, or_false, false_or, or_true, true_or, exists_const, CMul, CDiv, CPow, and_assoc, exists_and_left, exists_and_right, Int.reducePow, Int.reduceNeg, Int.reduceLT, Int.reduceLE, Nat.reducePow, Nat.reduceLT, Int.reduceToNat, gt_iff_lt, ge_iff_le, decide_eq_true_eq, Bool.not_eq_true', decide_eq_false_iff_not, scal, ↓reduceIte, Bool.false_eq_true]
  have big : 2 ^ 133 ≤ 2 ^ 8000 := Nat.pow_le_pow_right (by omega) (by omega)
  refine ite2 (fun h => ?_) (fun h => ite2 (fun h' => ?_) (fun h' => ?_))
  · refine ⟨s, rfl, st, fun t H2 ht kp2 st2 => ⟨s, rfl, st2, fun b H3 hb kp3 st3 => ?_⟩⟩
    simp only [abs_if, cx_K, decide_true, decide_false, reduceCtorEq, gTp, gCons, gNil, ca_0, ca_1, ca_2, ca_3, ca_4, ca_5, ca_6, ca_7, ca_8, ca_9, ca_10, ca_11, ca_12, ca_13, ca_14, ca_15, ca_16, ca_17, ca_18, ca_19, ca_20, ca_21, ca_22, ca_23, ca_24, ca_25, ca_26, ca_27, ca_28, ca_29, ca_30, not_true_eq_false, not_false_eq_true, Int.reduceEq, Nat.reduceEqDiff, Nat.reduceLeDiff, rGcd, V.ty.injEq, eq_self, List.not_mem_nil, beq_self_eq_true, HO.lst.injEq, HO.tup.injEq, tFor_eq, iRng1, iList, iTup, nat10, tSeq, rIxA, rSetA, rIsN, rIsT, tTp, tLs, itsO_tup, itsO_lst, tyO_tup, tyO_lst, tyO_dK, tyN_non, tyN_bl, tyN_int, tyN_str, tyN_ref, tyNs_lt, isB, upd_same, upd_upd, sizeLine_eq, List.mem_cons, String.reduceBEq, String.reduceEq, Bool.or_false, Bool.or_true, Bool.and_false, Bool.false_or, Bool.and_self, Bool.false_and, Bool.not_false, Bool.not_true, List.any_cons, List.any_nil, atI_0, setI_0, atI_1, setI_1, atI_2, setI_2, atI_3, setI_3, atI_4, setI_4, atI_5, setI_5, atI_6, setI_6, tAsg, gName, tOp, tUn, tVar, tC, tCons, L2.tNil, tRet, tIfS, tTest, tCB, tCall, rI, rI0, rU, tNext, tB, tAnd, tOr, tNot, tAndV, tOrV, tNotV, tDrop, tIf, tPar, gSub, rIxL, rIxT, rEq, rNe, rSetL, tBits,
    L2.start, List.map_cons, List.map_nil, List.cons_append, List.nil_append, List.append_nil, List.length_cons, List.length_nil, List.replicate, Nat.reduceAdd, Nat.reduceSub, Nat.zero_add, List.getElem?_cons_zero, List.getElem?_cons_succ, List.set_cons_zero, List.set_cons_succ,
    Option.some.injEq, exists_eq_left', exists_eq_left, V.int.injEq, V.bl.injEq, V.ref.injEq, V.str.injEq, List.cons.injEq, reduceCtorEq, and_true, true_and, false_and, and_false, exists_false, or_false, false_or, or_true, true_or, exists_const, CMul, CDiv, CPow, and_assoc, exists_and_left, exists_and_right, Int.reducePow, Int.reduceNeg, Int.reduceLT, Int.reduceLE, Nat.reducePow, Nat.reduceLT, Int.reduceToNat, gt_iff_lt, ge_iff_le, decide_eq_true_eq, Bool.not_eq_true', decide_eq_false_iff_not, scal, ↓reduceIte, Bool.false_eq_true]
    have hd : (if 1 < (b.natAbs : Int) then (b.natAbs : Int) else 1) ≠ 0 ∧ (if 1 < (b.natAbs : Int) then (b.natAbs : Int) else 1).natAbs < 2 ^ 133 := by
      have hb' : b.natAbs < 2 ^ 133 := hb
      split <;> refine ⟨by omega, by omega⟩
    generalize (if 1 < (b.natAbs : Int) then (b.natAbs : Int) else 1) = d at hd ⊢
    refine ⟨_, _, rfl, by omega, fun q hq p H4 s4 o4 => ?_⟩
    have hI := hq.2 hd.1
    exact k p q H4 ⟨o4, hI.1, is_sz hd.1 hI ht hd.2⟩ (((kp.trans kp2).trans kp3).trans (Kp.same s4)) (st3.same s4)
  · refine ⟨s, _, rfl, st, by omega, by omega, fun t H2 t0 t1 kp2 st2 => ⟨s, 1000, rfl, st2, by omega, fun b H3 b0 b1 kp3 st3 => ?_⟩⟩
    simp only [cx_K, decide_true, decide_false, reduceCtorEq, gTp, gCons, gNil, ca_0, ca_1, ca_2, ca_3, ca_4, ca_5, ca_6, ca_7, ca_8, ca_9, ca_10, ca_11, ca_12, ca_13, ca_14, ca_15, ca_16, ca_17, ca_18, ca_19, ca_20, ca_21, ca_22, ca_23, ca_24, ca_25, ca_26, ca_27, ca_28, ca_29, ca_30, not_true_eq_false, not_false_eq_true, Int.reduceEq, Nat.reduceEqDiff, Nat.reduceLeDiff, rGcd, V.ty.injEq, eq_self, List.not_mem_nil, beq_self_eq_true, HO.lst.injEq, HO.tup.injEq, tFor_eq, iRng1, iList, iTup, nat10, tSeq, rIxA, rSetA, rIsN, rIsT, tTp, tLs, itsO_tup, itsO_lst, tyO_tup, tyO_lst, tyO_dK, tyN_non, tyN_bl, tyN_int, tyN_str, tyN_ref, tyNs_lt, isB, upd_same, upd_upd, sizeLine_eq, List.mem_cons, String.reduceBEq, String.reduceEq, Bool.or_false, Bool.or_true, Bool.and_false, Bool.false_or, Bool.and_self, Bool.false_and, Bool.not_false, Bool.not_true, List.any_cons, List.any_nil, atI_0, setI_0, atI_1, setI_1, atI_2, setI_2, atI_3, setI_3, atI_4, setI_4, atI_5, setI_5, atI_6, setI_6, tAsg, gName, tOp, tUn, tVar, tC, tCons, L2.tNil, tRet, tIfS, tTest, tCB, tCall, rI, rI0, rU, tNext, tB, tAnd, tOr, tNot, tAndV, tOrV, tNotV, tDrop, tIf, tPar, gSub, rIxL, rIxT, rEq, rNe, rSetL, tBits,
    L2.start, List.map_cons, List.map_nil, List.cons_append, List.nil_append, List.append_nil, List.length_cons, List.length_nil, List.replicate, Nat.reduceAdd, Nat.reduceSub, Nat.zero_add, List.getElem?_cons_zero, List.getElem?_cons_succ, List.set_cons_zero, List.set_cons_succ,
    Option.some.injEq, exists_eq_left', exists_eq_left, V.int.injEq, V.bl.injEq, V.ref.injEq, V.str.injEq, List.cons.injEq, reduceCtorEq, and_true, true_and, false_and, and_false, exists_false, or_false, false_or, or_true, true_or, exists_const, CMul, CDiv, CPow, and_assoc, exists_and_left, exists_and_right, Int.reducePow, Int.reduceNeg, Int.reduceLT, Int.reduceLE, Nat.reducePow, Nat.reduceLT, Int.reduceToNat, gt_iff_lt, ge_iff_le, decide_eq_true_eq, Bool.not_eq_true', decide_eq_false_iff_not, scal, ↓reduceIte, Bool.false_eq_true]
    refine ⟨_, _, rfl, by omega, fun q hq p H4 s4 o4 => ?_⟩
    have hI := hq.2 (show 1 + b ≠ 0 by omega)
    exact k p q H4 ⟨o4, hI.1, is_sz (by omega) hI (by omega) (by omega)⟩ (((kp.trans kp2).trans kp3).trans (Kp.same s4)) (st3.same s4)
  · exact ⟨s, rfl, st, fun a q H2 hq kp2 st2 => k a q H2 (hq.mono (by omega)) (kp.trans kp2) st2⟩
/-- the script, read alone -/
def spStore (K : PySem.W.Frag) : Sp := fun vs H Q _ => ∃ (a : Addr) (ns : List Int), vs = [.ref a] ∧ SqL K H a (ns.map V.int) ∧ ∀ s H', Same H H' → Sto K H' s → Q (.ref s) H'
def StoreI (a : Addr) (H : Hp) (_ : Nat) (σ : L2.St) (H' : Hp) : Prop := ∃ (v : Int) (y : Option V), σ = [some (.ref a), some (.int v), y] ∧ H' = H
abbrev sStore : Stmt := topS 47
theorem scStore : FnScope ["_law_script", "_law_seed", "_law_cell"] ["_law_script"] (defScope sStore) := ⟨rfl, rfl, rfl, by decide +kernel, rfl, by decide +kernel, by decide +kernel⟩
theorem k_Store (T : Bt K mg) (D : Dfn K mg "_law_store" sStore ["_law_script"]) : Kn P w K mg base 1 "_law_store" ["_law_script"] (spStore K) := by
  refine Kn.mk' D scStore (fun vs H Q E h => ?_) (fun f cdv A outer s H vs Q E hr h => ?_)
  · obtain ⟨a, ns, rfl, _⟩ := h
    rfl
  obtain ⟨a, ns, rfl, hS, k⟩ := h
  refine ⟨_, (pss_cons (ps_set (i := 1) scStore.nd rfl (.inl rfl) (pe_op op_add (pe_callB call_len_seq (by rfl) T.b_len PySem.boot_len (pa_cons (pv 0) pa_nil)) pe_int))
      (pss_cons (ps_for PassesOwn.never rfl (pi_list (pv 0)) (pg_name (i := 2) scStore.nd rfl (.inl rfl)) (pss_one (ps_set (i := 1) scStore.nd rfl (.inl rfl) (pe_op op_mod (pe_op op_add (pe_op op_add (pe_op op_mul (pv 1) pe_int) (pe_op op_mod (pe_callTy call_int1 (by rfl) T.b_int (by decide +kernel) (pa_cons (pv 2) pa_nil)) pe_int)) pe_int) pe_int))))
      (pss_one (ps_ret (pe_ls (pa_cons (pe_callTy call_listK (by rfl) T.b_list (by decide +kernel) (pa_cons (pv 0) pa_nil)) (pa_cons pe_int (pa_cons pe_int (pa_cons pe_int (pa_cons (pv 1) (pa_cons pe_int (pa_cons pe_int pa_nil)))))))))))), ?_⟩
  simp only [cx_K, decide_true, decide_false, reduceCtorEq, gTp, gCons, gNil, ca_0, ca_1, ca_2, ca_3, ca_4, ca_5, ca_6, ca_7, ca_8, ca_9, ca_10, ca_11, ca_12, ca_13, ca_14, ca_15, ca_16, ca_17, ca_18, ca_19, ca_20, ca_21, ca_22, ca_23, ca_24, ca_25, ca_26, ca_27, ca_28, ca_29, ca_30, not_true_eq_false, not_false_eq_true, Int.reduceEq, Nat.reduceEqDiff, Nat.reduceLeDiff, rGcd, V.ty.injEq, eq_self, List.not_mem_nil, beq_self_eq_true, HO.lst.injEq, HO.tup.injEq, tFor_eq, iRng1, iList, iTup, nat10, tSeq, rIxA, rSetA, rIsN, rIsT, tTp, tLs, itsO_tup, itsO_lst, tyO_tup, tyO_lst, tyO_dK, tyN_non, tyN_bl, tyN_int, tyN_str, tyN_ref, tyNs_lt, isB, upd_same, upd_upd, sizeLine_eq, List.mem_cons, String.reduceBEq, String.reduceEq, Bool.or_false, Bool.or_true, Bool.and_false, Bool.false_or, Bool.and_self, Bool.false_and, Bool.not_false, Bool.not_true, List.any_cons, List.any_nil, atI_0, setI_0, atI_1, setI_1, atI_2, setI_2, atI_3, setI_3, atI_4, setI_4, atI_5, setI_5, atI_6, setI_6, tAsg, gName, tOp, tUn, tVar, tC, tCons, L2.tNil, tRet, tIfS, tTest, tCB, tCall, rI, rI0, rU, tNext, tB, tAnd, tOr, tNot, tAndV, tOrV, tNotV, tDrop, tIf, tPar, gSub, rIxL, rIxT, rEq, rNe, rSetL, tBits,
    L2.start, List.map_cons, List.map_nil, List.cons_append, List.nil_append, List.append_nil, List.length_cons, List.length_nil, List.replicate, Nat.reduceAdd, Nat.reduceSub, Nat.zero_add, List.getElem?_cons_zero, List.getElem?_cons_succ, List.set_cons_zero, List.set_cons_succ,
    Option.some.injEq, exists_eq_left', exists_eq_left, V.int.injEq, V.bl.injEq, V.ref.injEq, V.str.injEq, List.cons.injEq, reduceCtorEq, and_true, true_and, false_and, and_false, exists_false, or_false, false_or, or_true, true_or, exists_const, CMul, CDiv, CPow, and_assoc, exists_and_left, exists_and_right, Int.reducePow, Int.reduceNeg, Int.reduceLT, Int.reduceLE, Nat.reducePow, Nat.reduceLT, Int.reduceToNat, gt_iff_lt, ge_iff_le, decide_eq_true_eq, Bool.not_eq_true', decide_eq_false_iff_not, scal, ↓reduceIte, Bool.false_eq_true]
  refine ⟨_, .inl hS, ⟨_, hS⟩, forI_list (xs := ns.map V.int) (StoreI a H) ⟨_, none, rfl, rfl⟩ ?_ ?_ ?_⟩
  · rintro i σ H' _ ⟨v, y, rfl, rfl⟩
    exact hS
  · rintro i x σ H' hi ⟨v, y, rfl, rfl⟩
    obtain ⟨z, rfl⟩ : ∃ z, x = V.int z := by
      rw [List.getElem?_map] at hi
      cases e : ns[i]? with
      | none => rw [e] at hi; cases hi
      | some z => rw [e] at hi; exact ⟨z, (Option.some.inj hi).symm⟩
    simp only [cx_K, decide_true, decide_false, reduceCtorEq, gTp, gCons, gNil, ca_0, ca_1, ca_2, ca_3, ca_4, ca_5, ca_6, ca_7, ca_8, ca_9, ca_10, ca_11, ca_12, ca_13, ca_14, ca_15, ca_16, ca_17, ca_18, ca_19, ca_20, ca_21, ca_22, ca_23, ca_24, ca_25, ca_26, ca_27, ca_28, ca_29, ca_30, not_true_eq_false, not_false_eq_true, Int.reduceEq, Nat.reduceEqDiff, Nat.reduceLeDiff, rGcd, V.ty.injEq, eq_self, List.not_mem_nil, beq_self_eq_true, HO.lst.injEq, HO.tup.injEq, tFor_eq, iRng1, iList, iTup, nat10, tSeq, rIxA, rSetA, rIsN, rIsT, tTp, tLs, itsO_tup, itsO_lst, tyO_tup, tyO_lst, tyO_dK, tyN_non, tyN_bl, tyN_int, tyN_str, tyN_ref, tyNs_lt, isB, upd_same, upd_upd, sizeLine_eq, List.mem_cons, String.reduceBEq, String.reduceEq, Bool.or_false, Bool.or_true, Bool.and_false, Bool.false_or, Bool.and_self, Bool.false_and, Bool.not_false, Bool.not_true, List.any_cons, List.any_nil, atI_0, setI_0, atI_1, setI_1, atI_2, setI_2, atI_3, setI_3, atI_4, setI_4, atI_5, setI_5, atI_6, setI_6, tAsg, gName, tOp, tUn, tVar, tC, tCons, L2.tNil, tRet, tIfS, tTest, tCB, tCall, rI, rI0, rU, tNext, tB, tAnd, tOr, tNot, tAndV, tOrV, tNotV, tDrop, tIf, tPar, gSub, rIxL, rIxT, rEq, rNe, rSetL, tBits,
    L2.start, List.map_cons, List.map_nil, List.cons_append, List.nil_append, List.append_nil, List.length_cons, List.length_nil, List.replicate, Nat.reduceAdd, Nat.reduceSub, Nat.zero_add, List.getElem?_cons_zero, List.getElem?_cons_succ, List.set_cons_zero, List.set_cons_succ,
    Option.some.injEq, exists_eq_left', exists_eq_left, V.int.injEq, V.bl.injEq, V.ref.injEq, V.str.injEq, List.cons.injEq, reduceCtorEq, and_true, true_and, false_and, and_false, exists_false, or_false, false_or, or_true, true_or, exists_const, CMul, CDiv, CPow, and_assoc, exists_and_left, exists_and_right, Int.reducePow, Int.reduceNeg, Int.reduceLT, Int.reduceLE, Nat.reducePow, Nat.reduceLT, Int.reduceToNat, gt_iff_lt, ge_iff_le, decide_eq_true_eq, Bool.not_eq_true', decide_eq_false_iff_not, scal, ↓reduceIte, Bool.false_eq_true]
    exact ⟨_, _, rfl, rfl⟩
  · rintro σ H' ⟨v, y, rfl, rfl⟩
    simp only [cx_K, decide_true, decide_false, reduceCtorEq, gTp, gCons, gNil, ca_0, ca_1, ca_2, ca_3, ca_4, ca_5, ca_6, ca_7, ca_8, ca_9, ca_10, ca_11, ca_12, ca_13, ca_14, ca_15, ca_16, ca_17, ca_18, ca_19, ca_20, ca_21, ca_22, ca_23, ca_24, ca_25, ca_26, ca_27, ca_28, ca_29, ca_30, not_true_eq_false, not_false_eq_true, Int.reduceEq, Nat.reduceEqDiff, Nat.reduceLeDiff, rGcd, V.ty.injEq, eq_self, List.not_mem_nil, beq_self_eq_true, HO.lst.injEq, HO.tup.injEq, tFor_eq, iRng1, iList, iTup, nat10, tSeq, rIxA, rSetA, rIsN, rIsT, tTp, tLs, itsO_tup, itsO_lst, tyO_tup, tyO_lst, tyO_dK, tyN_non, tyN_bl, tyN_int, tyN_str, tyN_ref, tyNs_lt, isB, upd_same, upd_upd, sizeLine_eq, List.mem_cons, String.reduceBEq, String.reduceEq, Bool.or_false, Bool.or_true, Bool.and_false, Bool.false_or, Bool.and_self, Bool.false_and, Bool.not_false, Bool.not_true, List.any_cons, List.any_nil, atI_0, setI_0, atI_1, setI_1, atI_2, setI_2, atI_3, setI_3, atI_4, setI_4, atI_5, setI_5, atI_6, setI_6, tAsg, gName, tOp, tUn, tVar, tC, tCons, L2.tNil, tRet, tIfS, tTest, tCB, tCall, rI, rI0, rU, tNext, tB, tAnd, tOr, tNot, tAndV, tOrV, tNotV, tDrop, tIf, tPar, gSub, rIxL, rIxT, rEq, rNe, rSetL, tBits,
    L2.start, List.map_cons, List.map_nil, List.cons_append, List.nil_append, List.append_nil, List.length_cons, List.length_nil, List.replicate, Nat.reduceAdd, Nat.reduceSub, Nat.zero_add, List.getElem?_cons_zero, List.getElem?_cons_succ, List.set_cons_zero, List.set_cons_succ,
    Option.some.injEq, exists_eq_left', exists_eq_left, V.int.injEq, V.bl.injEq, V.ref.injEq, V.str.injEq, List.cons.injEq, reduceCtorEq, and_true, true_and, false_and, and_false, exists_false, or_false, false_or, or_true, true_or, exists_const, CMul, CDiv, CPow, and_assoc, exists_and_left, exists_and_right, Int.reducePow, Int.reduceNeg, Int.reduceLT, Int.reduceLE, Nat.reducePow, Nat.reduceLT, Int.reduceToNat, gt_iff_lt, ge_iff_le, decide_eq_true_eq, Bool.not_eq_true', decide_eq_false_iff_not, scal, ↓reduceIte, Bool.false_eq_true]
    refine ⟨_, .inl hS, fun l hl kl => ?_⟩
    intro s hs ks
    have s1 := Same.new hl (.lst (ns.map V.int))
    have e1 : upd H' l (.lst (ns.map V.int)) l = some (.lst (ns.map V.int)) := upd_same
    have n1 : s ≠ l := by rintro rfl; rw [upd_same] at hs; cases hs
    exact k s _ (s1.trans (Same.new hs _)) ⟨l, ns, 0, 0, 0, v, 0, 0, upd_same, by rw [upd_ne (Ne.symm n1)]; exact e1, n1, Int.le_refl 0, ks, kl⟩
end
end My

namespace My
open PySem PySem.Spec PyProof.Rows L2
section
variable {P : Program} {w : World} {K : PySem.W.Frag} {mg : Str → Option Value} {base : Heap}
/-- the same data, n levels deep at most -/
def scv : V → Bool
  | .non => true
  | .bl _ => true
  | .int _ => true
  | .str _ => true
  | _ => false
def Eqv (K : PySem.W.Frag) (H : Hp) : Nat → V → V → Prop
  | 0, x, y => x = y ∧ scv x = true
  | n + 1, x, y => (x = y ∧ scv x = true) ∨ ∃ (a b : Addr) (xs ys : List V), x = .ref a ∧ y = .ref b ∧ ((ob K H a = some (.tup xs) ∧ ob K H b = some (.tup ys)) ∨ (ob K H a = some (.lst xs) ∧ ob K H b = some (.lst ys))) ∧ xs.length = ys.length ∧ ys.length ≤ 1000 ∧
      ∀ (i : Nat) x y, xs[i]? = some x → ys[i]? = some y → Eqv K H n x y
theorem Eqv.same {H H' : Hp} (e : Same H H') : ∀ {n : Nat} {x y : V}, Eqv K H n x y → Eqv K H' n x y
  | 0, _, _, h => h
  | n + 1, x, y, .inl h => .inl h
  | n + 1, x, y, .inr ⟨a, b, xs, ys, h1, h2, h3, h4, h5, h6⟩ =>
    .inr ⟨a, b, xs, ys, h1, h2, h3.imp (fun z => ⟨ob_same e z.1, ob_same e z.2⟩) (fun z => ⟨ob_same e z.1, ob_same e z.2⟩), h4, h5, fun i x y hx hy => (h6 i x y hx hy).same e⟩
theorem Eqv.up {H : Hp} : ∀ {n : Nat} {x y : V}, Eqv K H n x y → Eqv K H (n + 1) x y
  | 0, _, _, h => .inl h
  | n + 1, x, y, .inl h => .inl h
  | n + 1, x, y, .inr ⟨a, b, xs, ys, h1, h2, h3, h4, h5, h6⟩ => .inr ⟨a, b, xs, ys, h1, h2, h3, h4, h5, fun i x y hx hy => (h6 i x y hx hy).up⟩
def spSame (K : PySem.W.Frag) : Nat → Sp
  | 0 => fun _ _ _ _ => False
  | n + 1 => fun vs H Q _ => ∃ x y, vs = [x, y] ∧ Eqv K H n x y ∧ ∀ H', Same H H' → Q (.bl true) H'
theorem Eqv.split {H : Hp} {n : Nat} {x y : V} (h : Eqv K H n x y) : (x = y ∧ scv x = true) ∨ ∃ m, n = m + 1 ∧ ∃ (a b : Addr) (xs ys : List V), x = .ref a ∧ y = .ref b ∧ ((ob K H a = some (.tup xs) ∧ ob K H b = some (.tup ys)) ∨ (ob K H a = some (.lst xs) ∧ ob K H b = some (.lst ys))) ∧ xs.length = ys.length ∧ ys.length ≤ 1000 ∧
    ∀ (i : Nat) x y, xs[i]? = some x → ys[i]? = some y → Eqv K H m x y := by
  cases n with
  | zero => exact .inl h
  | succ m =>
    rcases h with h | h
    · exact .inl h
    · exact .inr ⟨m, rfl, h⟩
def SameI (H : Hp) (a b : Addr) (_ : Nat) (σ : L2.St) (H' : Hp) : Prop := ∃ z, σ = [some (.ref a), some (.ref b), z] ∧ Same H H'
theorem Kn.none {x : Str} {ps : List Str} {st : Stmt} (D : Dfn K mg x st ps) : Kn P w K mg base 0 x ps (fun _ _ _ _ => False) := by
  obtain ⟨f, fd, F, m, b⟩ := D.ex
  exact ⟨f, fd, m, F.kp, b, ⟨fun vs H Q E h => h.elim, fun A outer s H args us vs Q E _ _ _ _ h => h.elim⟩⟩
abbrev sSame : Stmt := topS 61
theorem scSame : FnScope ["_law_told", "_law_due", "_law_k"] ["_law_told", "_law_due"] (defScope sSame) := ⟨rfl, rfl, rfl, by decide +kernel, rfl, by decide +kernel, by decide +kernel⟩
theorem k_Same (n : Nat) (T : Bt K mg) (D : Dfn K mg "_law_same" sSame ["_law_told", "_law_due"]) (d__law_is_whole : Kn P w K mg base 1 "_law_is_whole" ["_law_told"] (spWhole K)) (d__law_same : Kn P w K mg base (n + 1) "_law_same" ["_law_told", "_law_due"] (spSame K n)) : Kn P w K mg base (n + 2) "_law_same" ["_law_told", "_law_due"] (spSame K (n + 1)) := by
  refine Kn.mk' D scSame (fun vs H Q E h => ?_) (fun f cdv A outer s H vs Q E hr h => ?_)
  · obtain ⟨x, y, rfl, _⟩ := h
    rfl
  obtain ⟨x, y, rfl, he, k⟩ := h
  refine ⟨_, (pss_cons (ps_if (pt_cmpR op_isN (pv 1) pe_non (nomark _)) (pss_one (ps_ret (pe_cmpR op_isN (pv 0) pe_non (nomark _)))) pss_nil)
      (pss_cons (ps_if (pt_val (pe_callB call_isN (by rfl) T.b_isinstance (by decide +kernel) (pa_cons (pv 1) (pa_cons (pe_bltn (v := .ty "bool") (by rfl) T.b_bool (by decide +kernel) rfl) pa_nil)))) (pss_one (ps_ret (pe_and (pe_callB call_isN (by rfl) T.b_isinstance (by decide +kernel) (pa_cons (pv 0) (pa_cons (pe_bltn (v := .ty "bool") (by rfl) T.b_bool (by decide +kernel) rfl) pa_nil))) (pe_one (pe_cmpR op_eq (pv 0) (pv 1) (nomark _)))))) pss_nil)
      (pss_cons (ps_if (pt_val (pe_callB call_isN (by rfl) T.b_isinstance (by decide +kernel) (pa_cons (pv 1) (pa_cons (pe_bltn (v := .ty "int") (by rfl) T.b_int (by decide +kernel) rfl) pa_nil)))) (pss_one (ps_ret (pe_and (pe_kn d__law_is_whole hr (by rfl) (pa_cons (pv 0) pa_nil)) (pe_one (pe_cmpR op_eq (pv 0) (pv 1) (nomark _)))))) pss_nil)
      (pss_cons (ps_if (pt_val (pe_callB call_isN (by rfl) T.b_isinstance (by decide +kernel) (pa_cons (pv 1) (pa_cons (pe_bltn (v := .ty "str") (by rfl) T.b_str (by decide +kernel) rfl) pa_nil)))) (pss_one (ps_ret (pe_and (pe_callB call_isN (by rfl) T.b_isinstance (by decide +kernel) (pa_cons (pv 0) (pa_cons (pe_bltn (v := .ty "str") (by rfl) T.b_str (by decide +kernel) rfl) pa_nil))) (pe_one (pe_cmpR op_eq (pv 0) (pv 1) (nomark _)))))) pss_nil)
      (pss_cons (ps_if (pt_val (pe_callB call_isN (by rfl) T.b_isinstance (by decide +kernel) (pa_cons (pv 1) (pa_cons (pe_bltn (v := .ty "dict") (by rfl) T.b_dict (by decide +kernel) rfl) pa_nil)))) (pss_cons (ps_if (PW.pt (pw_or (pt_not (pt_val (pe_callB call_isN (by rfl) T.b_isinstance (by decide +kernel) (pa_cons (pv 0) (pa_cons (pe_bltn (v := .ty "dict") (by rfl) T.b_dict (by decide +kernel) rfl) pa_nil))))) (pw_or1 (pt_not (pt_val (pe_kn d__law_same hr (by rfl) (pa_cons (pe_callTy call_list_of (by rfl) T.b_list (by decide +kernel) (pa_cons (pv 0) pa_nil)) (pa_cons (pe_callTy call_list_of (by rfl) T.b_list (by decide +kernel) (pa_cons (pv 1) pa_nil)) pa_nil)))))))) (pss_one (ps_ret pe_bl)) pss_nil)
      (pss_one ps_never)) pss_nil)
      (pss_cons (ps_if (PW.pt (pw_and (pt_val (pe_callB call_isN (by rfl) T.b_isinstance (by decide +kernel) (pa_cons (pv 1) (pa_cons (pe_bltn (v := .ty "list") (by rfl) T.b_list (by decide +kernel) rfl) pa_nil)))) (pw_and1 (pt_not (pt_val (pe_callB call_isN (by rfl) T.b_isinstance (by decide +kernel) (pa_cons (pv 0) (pa_cons (pe_bltn (v := .ty "list") (by rfl) T.b_list (by decide +kernel) rfl) pa_nil)))))))) (pss_one (ps_ret pe_bl)) pss_nil)
      (pss_cons (ps_if (PW.pt (pw_and (pt_val (pe_callB call_isN (by rfl) T.b_isinstance (by decide +kernel) (pa_cons (pv 1) (pa_cons (pe_bltn (v := .ty "tuple") (by rfl) T.b_tuple (by decide +kernel) rfl) pa_nil)))) (pw_and1 (pt_not (pt_val (pe_callB call_isN (by rfl) T.b_isinstance (by decide +kernel) (pa_cons (pv 0) (pa_cons (pe_bltn (v := .ty "tuple") (by rfl) T.b_tuple (by decide +kernel) rfl) pa_nil)))))))) (pss_one (ps_ret pe_bl)) pss_nil)
      (pss_cons (ps_if (PW.pt (pw_or (pt_not (pt_val (pe_callB call_isT (by rfl) T.b_isinstance (by decide +kernel) (pa_cons (pv 1) (pa_cons (pe_tp (pa_cons (pe_bltn (v := .ty "list") (by rfl) T.b_list (by decide +kernel) rfl) (pa_cons (pe_bltn (v := .ty "tuple") (by rfl) T.b_tuple (by decide +kernel) rfl) pa_nil))) pa_nil))))) (pw_or1 (pt_cmpR op_ne (pe_callB call_lenA (by rfl) T.b_len PySem.boot_len (pa_cons (pv 0) pa_nil)) (pe_callB call_lenA (by rfl) T.b_len PySem.boot_len (pa_cons (pv 1) pa_nil)) (nomark _))))) (pss_one (ps_ret pe_bl)) pss_nil)
      (pss_cons (ps_for PassesOwn.never rfl (pi_range1 (by rfl) T.b_range (pa_cons (pe_callB call_lenA (by rfl) T.b_len PySem.boot_len (pa_cons (pv 1) pa_nil)) pa_nil)) (pg_name (i := 2) scSame.nd rfl (.inl rfl)) (pss_one (ps_if (pt_not (pt_val (pe_kn d__law_same hr (by rfl) (pa_cons (pe_ix ix_any (pv 0) (pv 2) (fun _ _ => rfl)) (pa_cons (pe_ix ix_any (pv 1) (pv 2) (fun _ _ => rfl)) pa_nil))))) (pss_one (ps_ret pe_bl)) pss_nil)))
      (pss_one (ps_ret pe_bl))))))))))), ?_⟩
  rcases he.split with ⟨rfl, hsc⟩ | ⟨m, rfl, a, b, xs, ys, rfl, rfl, ho, hl, h1000, hi⟩
  · cases x with
    | non =>
      simp only [cx_K, decide_true, decide_false, reduceCtorEq, gTp, gCons, gNil, ca_0, ca_1, ca_2, ca_3, ca_4, ca_5, ca_6, ca_7, ca_8, ca_9, ca_10, ca_11, ca_12, ca_13, ca_14, ca_15, ca_16, ca_17, ca_18, ca_19, ca_20, ca_21, ca_22, ca_23, ca_24, ca_25, ca_26, ca_27, ca_28, ca_29, ca_30, not_true_eq_false, not_false_eq_true, Int.reduceEq, Nat.reduceEqDiff, Nat.reduceLeDiff, rGcd, V.ty.injEq, eq_self, List.not_mem_nil, beq_self_eq_true, HO.lst.injEq, HO.tup.injEq, tFor_eq, iRng1, iList, iTup, nat10, tSeq, rIxA, rSetA, rIsN, rIsT, tTp, tLs, itsO_tup, itsO_lst, tyO_tup, tyO_lst, tyO_dK, tyN_non, tyN_bl, tyN_int, tyN_str, tyN_ref, tyNs_lt, isB, upd_same, upd_upd, sizeLine_eq, List.mem_cons, String.reduceBEq, String.reduceEq, Bool.or_false, Bool.or_true, Bool.and_false, Bool.false_or, Bool.and_self, Bool.false_and, Bool.not_false, Bool.not_true, List.any_cons, List.any_nil, atI_0, setI_0, atI_1, setI_1, atI_2, setI_2, atI_3, setI_3, atI_4, setI_4, atI_5, setI_5, atI_6, setI_6, tAsg, gName, tOp, tUn, tVar, tC, tCons, L2.tNil, tRet, tIfS, tTest, tCB, tCall, rI, rI0, rU, tNext, tB, tAnd, tOr, tNot, tAndV, tOrV, tNotV, tDrop, tIf, tPar, gSub, rIxL, rIxT, rEq, rNe, rSetL, tBits,
    L2.start, List.map_cons, List.map_nil, List.cons_append, List.nil_append, List.append_nil, List.length_cons, List.length_nil, List.replicate, Nat.reduceAdd, Nat.reduceSub, Nat.zero_add, List.getElem?_cons_zero, List.getElem?_cons_succ, List.set_cons_zero, List.set_cons_succ,
    Option.some.injEq, exists_eq_left', exists_eq_left, V.int.injEq, V.bl.injEq, V.ref.injEq, V.str.injEq, List.cons.injEq, reduceCtorEq, and_true, true_and, false_and, and_false, exists_false, or_false, false_or, or_true, true_or, exists_const, CMul, CDiv, CPow, and_assoc, exists_and_left, exists_and_right, Int.reducePow, Int.reduceNeg, Int.reduceLT, Int.reduceLE, Nat.reducePow, Nat.reduceLT, Int.reduceToNat, gt_iff_lt, ge_iff_le, decide_eq_true_eq, Bool.not_eq_true', decide_eq_false_iff_not, scal, ↓reduceIte, Bool.false_eq_true]
      exact k H (Same.refl H)
    | bl b =>
      simp only [cx_K, decide_true, decide_false, reduceCtorEq, gTp, gCons, gNil, ca_0, ca_1, ca_2, ca_3, ca_4, ca_5, ca_6, ca_7, ca_8, ca_9, ca_10, ca_11, ca_12, ca_13, ca_14, ca_15, ca_16, ca_17, ca_18, ca_19, ca_20, ca_21, ca_22, ca_23, ca_24, ca_25, ca_26, ca_27, ca_28, ca_29, ca_30, not_true_eq_false, not_false_eq_true, Int.reduceEq, Nat.reduceEqDiff, Nat.reduceLeDiff, rGcd, V.ty.injEq, eq_self, List.not_mem_nil, beq_self_eq_true, HO.lst.injEq, HO.tup.injEq, tFor_eq, iRng1, iList, iTup, nat10, tSeq, rIxA, rSetA, rIsN, rIsT, tTp, tLs, itsO_tup, itsO_lst, tyO_tup, tyO_lst, tyO_dK, tyN_non, tyN_bl, tyN_int, tyN_str, tyN_ref, tyNs_lt, isB, upd_same, upd_upd, sizeLine_eq, List.mem_cons, String.reduceBEq, String.reduceEq, Bool.or_false, Bool.or_true, Bool.and_false, Bool.false_or, Bool.and_self, Bool.false_and, Bool.not_false, Bool.not_true, List.any_cons, List.any_nil, atI_0, setI_0, atI_1, setI_1, atI_2, setI_2, atI_3, setI_3, atI_4, setI_4, atI_5, setI_5, atI_6, setI_6, tAsg, gName, tOp, tUn, tVar, tC, tCons, L2.tNil, tRet, tIfS, tTest, tCB, tCall, rI, rI0, rU, tNext, tB, tAnd, tOr, tNot, tAndV, tOrV, tNotV, tDrop, tIf, tPar, gSub, rIxL, rIxT, rEq, rNe, rSetL, tBits,
    L2.start, List.map_cons, List.map_nil, List.cons_append, List.nil_append, List.append_nil, List.length_cons, List.length_nil, List.replicate, Nat.reduceAdd, Nat.reduceSub, Nat.zero_add, List.getElem?_cons_zero, List.getElem?_cons_succ, List.set_cons_zero, List.set_cons_succ,
    Option.some.injEq, exists_eq_left', exists_eq_left, V.int.injEq, V.bl.injEq, V.ref.injEq, V.str.injEq, List.cons.injEq, reduceCtorEq, and_true, true_and, false_and, and_false, exists_false, or_false, false_or, or_true, true_or, exists_const, CMul, CDiv, CPow, and_assoc, exists_and_left, exists_and_right, Int.reducePow, Int.reduceNeg, Int.reduceLT, Int.reduceLE, Nat.reducePow, Nat.reduceLT, Int.reduceToNat, gt_iff_lt, ge_iff_le, decide_eq_true_eq, Bool.not_eq_true', decide_eq_false_iff_not, scal, ↓reduceIte, Bool.false_eq_true]
      exact k H (Same.refl H)
    | int i =>
      simp only [cx_K, decide_true, decide_false, reduceCtorEq, gTp, gCons, gNil, ca_0, ca_1, ca_2, ca_3, ca_4, ca_5, ca_6, ca_7, ca_8, ca_9, ca_10, ca_11, ca_12, ca_13, ca_14, ca_15, ca_16, ca_17, ca_18, ca_19, ca_20, ca_21, ca_22, ca_23, ca_24, ca_25, ca_26, ca_27, ca_28, ca_29, ca_30, not_true_eq_false, not_false_eq_true, Int.reduceEq, Nat.reduceEqDiff, Nat.reduceLeDiff, rGcd, V.ty.injEq, eq_self, List.not_mem_nil, beq_self_eq_true, HO.lst.injEq, HO.tup.injEq, tFor_eq, iRng1, iList, iTup, nat10, tSeq, rIxA, rSetA, rIsN, rIsT, tTp, tLs, itsO_tup, itsO_lst, tyO_tup, tyO_lst, tyO_dK, tyN_non, tyN_bl, tyN_int, tyN_str, tyN_ref, tyNs_lt, isB, upd_same, upd_upd, sizeLine_eq, List.mem_cons, String.reduceBEq, String.reduceEq, Bool.or_false, Bool.or_true, Bool.and_false, Bool.false_or, Bool.and_self, Bool.false_and, Bool.not_false, Bool.not_true, List.any_cons, List.any_nil, atI_0, setI_0, atI_1, setI_1, atI_2, setI_2, atI_3, setI_3, atI_4, setI_4, atI_5, setI_5, atI_6, setI_6, tAsg, gName, tOp, tUn, tVar, tC, tCons, L2.tNil, tRet, tIfS, tTest, tCB, tCall, rI, rI0, rU, tNext, tB, tAnd, tOr, tNot, tAndV, tOrV, tNotV, tDrop, tIf, tPar, gSub, rIxL, rIxT, rEq, rNe, rSetL, tBits,
    L2.start, List.map_cons, List.map_nil, List.cons_append, List.nil_append, List.append_nil, List.length_cons, List.length_nil, List.replicate, Nat.reduceAdd, Nat.reduceSub, Nat.zero_add, List.getElem?_cons_zero, List.getElem?_cons_succ, List.set_cons_zero, List.set_cons_succ,
    Option.some.injEq, exists_eq_left', exists_eq_left, V.int.injEq, V.bl.injEq, V.ref.injEq, V.str.injEq, List.cons.injEq, reduceCtorEq, and_true, true_and, false_and, and_false, exists_false, or_false, false_or, or_true, true_or, exists_const, CMul, CDiv, CPow, and_assoc, exists_and_left, exists_and_right, Int.reducePow, Int.reduceNeg, Int.reduceLT, Int.reduceLE, Nat.reducePow, Nat.reduceLT, Int.reduceToNat, gt_iff_lt, ge_iff_le, decide_eq_true_eq, Bool.not_eq_true', decide_eq_false_iff_not, scal, ↓reduceIte, Bool.false_eq_true]
      exact ⟨_, rfl, rfl, true, rfl, k H (Same.refl H)⟩
    | str z =>
      simp only [cx_K, decide_true, decide_false, reduceCtorEq, gTp, gCons, gNil, ca_0, ca_1, ca_2, ca_3, ca_4, ca_5, ca_6, ca_7, ca_8, ca_9, ca_10, ca_11, ca_12, ca_13, ca_14, ca_15, ca_16, ca_17, ca_18, ca_19, ca_20, ca_21, ca_22, ca_23, ca_24, ca_25, ca_26, ca_27, ca_28, ca_29, ca_30, not_true_eq_false, not_false_eq_true, Int.reduceEq, Nat.reduceEqDiff, Nat.reduceLeDiff, rGcd, V.ty.injEq, eq_self, List.not_mem_nil, beq_self_eq_true, HO.lst.injEq, HO.tup.injEq, tFor_eq, iRng1, iList, iTup, nat10, tSeq, rIxA, rSetA, rIsN, rIsT, tTp, tLs, itsO_tup, itsO_lst, tyO_tup, tyO_lst, tyO_dK, tyN_non, tyN_bl, tyN_int, tyN_str, tyN_ref, tyNs_lt, isB, upd_same, upd_upd, sizeLine_eq, List.mem_cons, String.reduceBEq, String.reduceEq, Bool.or_false, Bool.or_true, Bool.and_false, Bool.false_or, Bool.and_self, Bool.false_and, Bool.not_false, Bool.not_true, List.any_cons, List.any_nil, atI_0, setI_0, atI_1, setI_1, atI_2, setI_2, atI_3, setI_3, atI_4, setI_4, atI_5, setI_5, atI_6, setI_6, tAsg, gName, tOp, tUn, tVar, tC, tCons, L2.tNil, tRet, tIfS, tTest, tCB, tCall, rI, rI0, rU, tNext, tB, tAnd, tOr, tNot, tAndV, tOrV, tNotV, tDrop, tIf, tPar, gSub, rIxL, rIxT, rEq, rNe, rSetL, tBits,
    L2.start, List.map_cons, List.map_nil, List.cons_append, List.nil_append, List.append_nil, List.length_cons, List.length_nil, List.replicate, Nat.reduceAdd, Nat.reduceSub, Nat.zero_add, List.getElem?_cons_zero, List.getElem?_cons_succ, List.set_cons_zero, List.set_cons_succ,
    Option.some.injEq, exists_eq_left', exists_eq_left, V.int.injEq, V.bl.injEq, V.ref.injEq, V.str.injEq, List.cons.injEq, reduceCtorEq, and_true, true_and, false_and, and_false, exists_false, or_false, false_or, or_true, true_or, exists_const, CMul, CDiv, CPow, and_assoc, exists_and_left, exists_and_right, Int.reducePow, Int.reduceNeg, Int.reduceLT, Int.reduceLE, Nat.reducePow, Nat.reduceLT, Int.reduceToNat, gt_iff_lt, ge_iff_le, decide_eq_true_eq, Bool.not_eq_true', decide_eq_false_iff_not, scal, ↓reduceIte, Bool.false_eq_true]
      exact k H (Same.refl H)
    | _ => cases hsc
  rcases ho with ⟨oa, oc⟩ | ⟨oa, oc⟩
  · simp only [oa, oc, cx_K, decide_true, decide_false, reduceCtorEq, gTp, gCons, gNil, ca_0, ca_1, ca_2, ca_3, ca_4, ca_5, ca_6, ca_7, ca_8, ca_9, ca_10, ca_11, ca_12, ca_13, ca_14, ca_15, ca_16, ca_17, ca_18, ca_19, ca_20, ca_21, ca_22, ca_23, ca_24, ca_25, ca_26, ca_27, ca_28, ca_29, ca_30, not_true_eq_false, not_false_eq_true, Int.reduceEq, Nat.reduceEqDiff, Nat.reduceLeDiff, rGcd, V.ty.injEq, eq_self, List.not_mem_nil, beq_self_eq_true, HO.lst.injEq, HO.tup.injEq, tFor_eq, iRng1, iList, iTup, nat10, tSeq, rIxA, rSetA, rIsN, rIsT, tTp, tLs, itsO_tup, itsO_lst, tyO_tup, tyO_lst, tyO_dK, tyN_non, tyN_bl, tyN_int, tyN_str, tyN_ref, tyNs_lt, isB, upd_same, upd_upd, sizeLine_eq, List.mem_cons, String.reduceBEq, String.reduceEq, Bool.or_false, Bool.or_true, Bool.and_false, Bool.false_or, Bool.and_self, Bool.false_and, Bool.not_false, Bool.not_true, List.any_cons, List.any_nil, atI_0, setI_0, atI_1, setI_1, atI_2, setI_2, atI_3, setI_3, atI_4, setI_4, atI_5, setI_5, atI_6, setI_6, tAsg, gName, tOp, tUn, tVar, tC, tCons, L2.tNil, tRet, tIfS, tTest, tCB, tCall, rI, rI0, rU, tNext, tB, tAnd, tOr, tNot, tAndV, tOrV, tNotV, tDrop, tIf, tPar, gSub, rIxL, rIxT, rEq, rNe, rSetL, tBits,
    L2.start, List.map_cons, List.map_nil, List.cons_append, List.nil_append, List.append_nil, List.length_cons, List.length_nil, List.replicate, Nat.reduceAdd, Nat.reduceSub, Nat.zero_add, List.getElem?_cons_zero, List.getElem?_cons_succ, List.set_cons_zero, List.set_cons_succ,
    Option.some.injEq, exists_eq_left', exists_eq_left, V.int.injEq, V.bl.injEq, V.ref.injEq, V.str.injEq, List.cons.injEq, reduceCtorEq, and_true, true_and, false_and, and_false, exists_false, or_false, false_or, or_true, true_or, exists_const, CMul, CDiv, CPow, and_assoc, exists_and_left, exists_and_right, Int.reducePow, Int.reduceNeg, Int.reduceLT, Int.reduceLE, Nat.reducePow, Nat.reduceLT, Int.reduceToNat, gt_iff_lt, ge_iff_le, decide_eq_true_eq, Bool.not_eq_true', decide_eq_false_iff_not, scal, ↓reduceIte, Bool.false_eq_true]
    intro p hp kp
    have s1 := Same.new hp (.tup [V.ty "list", V.ty "tuple"])
    generalize upd H p (.tup [V.ty "list", V.ty "tuple"]) = H1 at s1 ⊢
    have oa1 := ob_same s1 oa
    have oc1 := ob_same s1 oc
    simp only [oa1, oc1, cx_K, decide_true, decide_false, reduceCtorEq, gTp, gCons, gNil, ca_0, ca_1, ca_2, ca_3, ca_4, ca_5, ca_6, ca_7, ca_8, ca_9, ca_10, ca_11, ca_12, ca_13, ca_14, ca_15, ca_16, ca_17, ca_18, ca_19, ca_20, ca_21, ca_22, ca_23, ca_24, ca_25, ca_26, ca_27, ca_28, ca_29, ca_30, not_true_eq_false, not_false_eq_true, Int.reduceEq, Nat.reduceEqDiff, Nat.reduceLeDiff, rGcd, V.ty.injEq, eq_self, List.not_mem_nil, beq_self_eq_true, HO.lst.injEq, HO.tup.injEq, tFor_eq, iRng1, iList, iTup, nat10, tSeq, rIxA, rSetA, rIsN, rIsT, tTp, tLs, itsO_tup, itsO_lst, tyO_tup, tyO_lst, tyO_dK, tyN_non, tyN_bl, tyN_int, tyN_str, tyN_ref, tyNs_lt, isB, upd_same, upd_upd, sizeLine_eq, List.mem_cons, String.reduceBEq, String.reduceEq, Bool.or_false, Bool.or_true, Bool.and_false, Bool.false_or, Bool.and_self, Bool.false_and, Bool.not_false, Bool.not_true, List.any_cons, List.any_nil, atI_0, setI_0, atI_1, setI_1, atI_2, setI_2, atI_3, setI_3, atI_4, setI_4, atI_5, setI_5, atI_6, setI_6, tAsg, gName, tOp, tUn, tVar, tC, tCons, L2.tNil, tRet, tIfS, tTest, tCB, tCall, rI, rI0, rU, tNext, tB, tAnd, tOr, tNot, tAndV, tOrV, tNotV, tDrop, tIf, tPar, gSub, rIxL, rIxT, rEq, rNe, rSetL, tBits,
    L2.start, List.map_cons, List.map_nil, List.cons_append, List.nil_append, List.append_nil, List.length_cons, List.length_nil, List.replicate, Nat.reduceAdd, Nat.reduceSub, Nat.zero_add, List.getElem?_cons_zero, List.getElem?_cons_succ, List.set_cons_zero, List.set_cons_succ,
    Option.some.injEq, exists_eq_left', exists_eq_left, V.int.injEq, V.bl.injEq, V.ref.injEq, V.str.injEq, List.cons.injEq, reduceCtorEq, and_true, true_and, false_and, and_false, exists_false, or_false, false_or, or_true, true_or, exists_const, CMul, CDiv, CPow, and_assoc, exists_and_left, exists_and_right, Int.reducePow, Int.reduceNeg, Int.reduceLT, Int.reduceLE, Nat.reducePow, Nat.reduceLT, Int.reduceToNat, gt_iff_lt, ge_iff_le, decide_eq_true_eq, Bool.not_eq_true', decide_eq_false_iff_not, scal, ↓reduceIte, Bool.false_eq_true]
    rw [if_neg (show ¬ ¬ ((xs.length : Int) = (ys.length : Int)) by omega)]
    refine ⟨by omega, by omega, forI_range (SameI H a b) ⟨none, rfl, s1⟩ ?_ ?_⟩
    · rintro i σ H' hlt ⟨z, rfl, s2⟩
      have hx : i < xs.length := by omega
      have hy : i < ys.length := by omega
      have oa2 := ob_same s2 oa
      have oc2 := ob_same s2 oc
      have ex : atI xs (0 + (i : Int)) = some xs[i] := by rw [Int.zero_add]; exact atI_nat (List.getElem?_eq_getElem hx)
      have ey : atI ys (0 + (i : Int)) = some ys[i] := by rw [Int.zero_add]; exact atI_nat (List.getElem?_eq_getElem hy)
      simp only [oa2, oc2, ex, ey, cx_K, decide_true, decide_false, reduceCtorEq, gTp, gCons, gNil, ca_0, ca_1, ca_2, ca_3, ca_4, ca_5, ca_6, ca_7, ca_8, ca_9, ca_10, ca_11, ca_12, ca_13, ca_14, ca_15, ca_16, ca_17, ca_18, ca_19, ca_20, ca_21, ca_22, ca_23, ca_24, ca_25, ca_26, ca_27, ca_28, ca_29, ca_30, not_true_eq_false, not_false_eq_true, Int.reduceEq, Nat.reduceEqDiff, Nat.reduceLeDiff, rGcd, V.ty.injEq, eq_self, List.not_mem_nil, beq_self_eq_true, HO.lst.injEq, HO.tup.injEq, tFor_eq, iRng1, iList, iTup, nat10, tSeq, rIxA, rSetA, rIsN, rIsT, tTp, tLs, itsO_tup, itsO_lst, tyO_tup, tyO_lst, tyO_dK, tyN_non, tyN_bl, tyN_int, tyN_str, tyN_ref, tyNs_lt, isB, upd_same, upd_upd, sizeLine_eq, List.mem_cons, String.reduceBEq, String.reduceEq, Bool.or_false, Bool.or_true, Bool.and_false, Bool.false_or, Bool.and_self, Bool.false_and, Bool.not_false, Bool.not_true, List.any_cons, List.any_nil, atI_0, setI_0, atI_1, setI_1, atI_2, setI_2, atI_3, setI_3, atI_4, setI_4, atI_5, setI_5, atI_6, setI_6, tAsg, gName, tOp, tUn, tVar, tC, tCons, L2.tNil, tRet, tIfS, tTest, tCB, tCall, rI, rI0, rU, tNext, tB, tAnd, tOr, tNot, tAndV, tOrV, tNotV, tDrop, tIf, tPar, gSub, rIxL, rIxT, rEq, rNe, rSetL, tBits,
    L2.start, List.map_cons, List.map_nil, List.cons_append, List.nil_append, List.append_nil, List.length_cons, List.length_nil, List.replicate, Nat.reduceAdd, Nat.reduceSub, Nat.zero_add, List.getElem?_cons_zero, List.getElem?_cons_succ, List.set_cons_zero, List.set_cons_succ,
    Option.some.injEq, exists_eq_left', exists_eq_left, V.int.injEq, V.bl.injEq, V.ref.injEq, V.str.injEq, List.cons.injEq, reduceCtorEq, and_true, true_and, false_and, and_false, exists_false, or_false, false_or, or_true, true_or, exists_const, CMul, CDiv, CPow, and_assoc, exists_and_left, exists_and_right, Int.reducePow, Int.reduceNeg, Int.reduceLT, Int.reduceLE, Nat.reducePow, Nat.reduceLT, Int.reduceToNat, gt_iff_lt, ge_iff_le, decide_eq_true_eq, Bool.not_eq_true', decide_eq_false_iff_not, scal, ↓reduceIte, Bool.false_eq_true]
      refine ⟨_, _, rfl, (hi i _ _ (List.getElem?_eq_getElem hx) (List.getElem?_eq_getElem hy)).same s2, fun H2 s3 => ⟨true, rfl, ?_⟩⟩
      rw [if_neg Bool.noConfusion]
      exact ⟨_, rfl, s2.trans s3⟩
    · rintro σ H' ⟨z, rfl, s2⟩
      simp only [cx_K, decide_true, decide_false, reduceCtorEq, gTp, gCons, gNil, ca_0, ca_1, ca_2, ca_3, ca_4, ca_5, ca_6, ca_7, ca_8, ca_9, ca_10, ca_11, ca_12, ca_13, ca_14, ca_15, ca_16, ca_17, ca_18, ca_19, ca_20, ca_21, ca_22, ca_23, ca_24, ca_25, ca_26, ca_27, ca_28, ca_29, ca_30, not_true_eq_false, not_false_eq_true, Int.reduceEq, Nat.reduceEqDiff, Nat.reduceLeDiff, rGcd, V.ty.injEq, eq_self, List.not_mem_nil, beq_self_eq_true, HO.lst.injEq, HO.tup.injEq, tFor_eq, iRng1, iList, iTup, nat10, tSeq, rIxA, rSetA, rIsN, rIsT, tTp, tLs, itsO_tup, itsO_lst, tyO_tup, tyO_lst, tyO_dK, tyN_non, tyN_bl, tyN_int, tyN_str, tyN_ref, tyNs_lt, isB, upd_same, upd_upd, sizeLine_eq, List.mem_cons, String.reduceBEq, String.reduceEq, Bool.or_false, Bool.or_true, Bool.and_false, Bool.false_or, Bool.and_self, Bool.false_and, Bool.not_false, Bool.not_true, List.any_cons, List.any_nil, atI_0, setI_0, atI_1, setI_1, atI_2, setI_2, atI_3, setI_3, atI_4, setI_4, atI_5, setI_5, atI_6, setI_6, tAsg, gName, tOp, tUn, tVar, tC, tCons, L2.tNil, tRet, tIfS, tTest, tCB, tCall, rI, rI0, rU, tNext, tB, tAnd, tOr, tNot, tAndV, tOrV, tNotV, tDrop, tIf, tPar, gSub, rIxL, rIxT, rEq, rNe, rSetL, tBits,
    L2.start, List.map_cons, List.map_nil, List.cons_append, List.nil_append, List.append_nil, List.length_cons, List.length_nil, List.replicate, Nat.reduceAdd, Nat.reduceSub, Nat.zero_add, List.getElem?_cons_zero, List.getElem?_cons_succ, List.set_cons_zero, List.set_cons_succ,
    Option.some.injEq, exists_eq_left', exists_eq_left, V.int.injEq, V.bl.injEq, V.ref.injEq, V.str.injEq, List.cons.injEq, reduceCtorEq, and_true, true_and, false_and, and_false, exists_false, or_false, false_or, or_true, true_or, exists_const, CMul, CDiv, CPow, and_assoc, exists_and_left, exists_and_right, Int.reducePow, Int.reduceNeg, Int.reduceLT, Int.reduceLE, Nat.reducePow, Nat.reduceLT, Int.reduceToNat, gt_iff_lt, ge_iff_le, decide_eq_true_eq, Bool.not_eq_true', decide_eq_false_iff_not, scal, ↓reduceIte, Bool.false_eq_true]
      exact k H' s2
  · simp only [oa, oc, cx_K, decide_true, decide_false, reduceCtorEq, gTp, gCons, gNil, ca_0, ca_1, ca_2, ca_3, ca_4, ca_5, ca_6, ca_7, ca_8, ca_9, ca_10, ca_11, ca_12, ca_13, ca_14, ca_15, ca_16, ca_17, ca_18, ca_19, ca_20, ca_21, ca_22, ca_23, ca_24, ca_25, ca_26, ca_27, ca_28, ca_29, ca_30, not_true_eq_false, not_false_eq_true, Int.reduceEq, Nat.reduceEqDiff, Nat.reduceLeDiff, rGcd, V.ty.injEq, eq_self, List.not_mem_nil, beq_self_eq_true, HO.lst.injEq, HO.tup.injEq, tFor_eq, iRng1, iList, iTup, nat10, tSeq, rIxA, rSetA, rIsN, rIsT, tTp, tLs, itsO_tup, itsO_lst, tyO_tup, tyO_lst, tyO_dK, tyN_non, tyN_bl, tyN_int, tyN_str, tyN_ref, tyNs_lt, isB, upd_same, upd_upd, sizeLine_eq, List.mem_cons, String.reduceBEq, String.reduceEq, Bool.or_false, Bool.or_true, Bool.and_false, Bool.false_or, Bool.and_self, Bool.false_and, Bool.not_false, Bool.not_true, List.any_cons, List.any_nil, atI_0, setI_0, atI_1, setI_1, atI_2, setI_2, atI_3, setI_3, atI_4, setI_4, atI_5, setI_5, atI_6, setI_6, tAsg, gName, tOp, tUn, tVar, tC, tCons, L2.tNil, tRet, tIfS, tTest, tCB, tCall, rI, rI0, rU, tNext, tB, tAnd, tOr, tNot, tAndV, tOrV, tNotV, tDrop, tIf, tPar, gSub, rIxL, rIxT, rEq, rNe, rSetL, tBits,
    L2.start, List.map_cons, List.map_nil, List.cons_append, List.nil_append, List.append_nil, List.length_cons, List.length_nil, List.replicate, Nat.reduceAdd, Nat.reduceSub, Nat.zero_add, List.getElem?_cons_zero, List.getElem?_cons_succ, List.set_cons_zero, List.set_cons_succ,
    Option.some.injEq, exists_eq_left', exists_eq_left, V.int.injEq, V.bl.injEq, V.ref.injEq, V.str.injEq, List.cons.injEq, reduceCtorEq, and_true, true_and, false_and, and_false, exists_false, or_false, false_or, or_true, true_or, exists_const, CMul, CDiv, CPow, and_assoc, exists_and_left, exists_and_right, Int.reducePow, Int.reduceNeg, Int.reduceLT, Int.reduceLE, Nat.reducePow, Nat.reduceLT, Int.reduceToNat, gt_iff_lt, ge_iff_le, decide_eq_true_eq, Bool.not_eq_true', decide_eq_false_iff_not, scal, ↓reduceIte, Bool.false_eq_true]
    intro p hp kp
    have s1 := Same.new hp (.tup [V.ty "list", V.ty "tuple"])
    generalize upd H p (.tup [V.ty "list", V.ty "tuple"]) = H1 at s1 ⊢
    have oa1 := ob_same s1 oa
    have oc1 := ob_same s1 oc
    simp only [oa1, oc1, cx_K, decide_true, decide_false, reduceCtorEq, gTp, gCons, gNil, ca_0, ca_1, ca_2, ca_3, ca_4, ca_5, ca_6, ca_7, ca_8, ca_9, ca_10, ca_11, ca_12, ca_13, ca_14, ca_15, ca_16, ca_17, ca_18, ca_19, ca_20, ca_21, ca_22, ca_23, ca_24, ca_25, ca_26, ca_27, ca_28, ca_29, ca_30, not_true_eq_false, not_false_eq_true, Int.reduceEq, Nat.reduceEqDiff, Nat.reduceLeDiff, rGcd, V.ty.injEq, eq_self, List.not_mem_nil, beq_self_eq_true, HO.lst.injEq, HO.tup.injEq, tFor_eq, iRng1, iList, iTup, nat10, tSeq, rIxA, rSetA, rIsN, rIsT, tTp, tLs, itsO_tup, itsO_lst, tyO_tup, tyO_lst, tyO_dK, tyN_non, tyN_bl, tyN_int, tyN_str, tyN_ref, tyNs_lt, isB, upd_same, upd_upd, sizeLine_eq, List.mem_cons, String.reduceBEq, String.reduceEq, Bool.or_false, Bool.or_true, Bool.and_false, Bool.false_or, Bool.and_self, Bool.false_and, Bool.not_false, Bool.not_true, List.any_cons, List.any_nil, atI_0, setI_0, atI_1, setI_1, atI_2, setI_2, atI_3, setI_3, atI_4, setI_4, atI_5, setI_5, atI_6, setI_6, tAsg, gName, tOp, tUn, tVar, tC, tCons, L2.tNil, tRet, tIfS, tTest, tCB, tCall, rI, rI0, rU, tNext, tB, tAnd, tOr, tNot, tAndV, tOrV, tNotV, tDrop, tIf, tPar, gSub, rIxL, rIxT, rEq, rNe, rSetL, tBits,
    L2.start, List.map_cons, List.map_nil, List.cons_append, List.nil_append, List.append_nil, List.length_cons, List.length_nil, List.replicate, Nat.reduceAdd, Nat.reduceSub, Nat.zero_add, List.getElem?_cons_zero, List.getElem?_cons_succ, List.set_cons_zero, List.set_cons_succ,
    Option.some.injEq, exists_eq_left', exists_eq_left, V.int.injEq, V.bl.injEq, V.ref.injEq, V.str.injEq, List.cons.injEq, reduceCtorEq, and_true, true_and, false_and, and_false, exists_false, or_false, false_or, or_true, true_or, exists_const, CMul, CDiv, CPow, and_assoc, exists_and_left, exists_and_right, Int.reducePow, Int.reduceNeg, Int.reduceLT, Int.reduceLE, Nat.reducePow, Nat.reduceLT, Int.reduceToNat, gt_iff_lt, ge_iff_le, decide_eq_true_eq, Bool.not_eq_true', decide_eq_false_iff_not, scal, ↓reduceIte, Bool.false_eq_true]
    rw [if_neg (show ¬ ¬ ((xs.length : Int) = (ys.length : Int)) by omega)]
    refine ⟨by omega, by omega, forI_range (SameI H a b) ⟨none, rfl, s1⟩ ?_ ?_⟩
    · rintro i σ H' hlt ⟨z, rfl, s2⟩
      have hx : i < xs.length := by omega
      have hy : i < ys.length := by omega
      have oa2 := ob_same s2 oa
      have oc2 := ob_same s2 oc
      have ex : atI xs (0 + (i : Int)) = some xs[i] := by rw [Int.zero_add]; exact atI_nat (List.getElem?_eq_getElem hx)
      have ey : atI ys (0 + (i : Int)) = some ys[i] := by rw [Int.zero_add]; exact atI_nat (List.getElem?_eq_getElem hy)
      simp only [oa2, oc2, ex, ey, cx_K, decide_true, decide_false, reduceCtorEq, gTp, gCons, gNil, ca_0, ca_1, ca_2, ca_3, ca_4, ca_5, ca_6, ca_7, ca_8, ca_9, ca_10, ca_11, ca_12, ca_13, ca_14, ca_15, ca_16, ca_17, ca_18, ca_19, ca_20, ca_21, ca_22, ca_23, ca_24, ca_25, ca_26, ca_27, ca_28, ca_29, ca_30, not_true_eq_false, not_false_eq_true, Int.reduceEq, Nat.reduceEqDiff, Nat.reduceLeDiff, rGcd, V.ty.injEq, eq_self, List.not_mem_nil, beq_self_eq_true, HO.lst.injEq, HO.tup.injEq, tFor_eq, iRng1, iList, iTup, nat10, tSeq, rIxA, rSetA, rIsN, rIsT, tTp, tLs, itsO_tup, itsO_lst, tyO_tup, tyO_lst, tyO_dK, tyN_non, tyN_bl, tyN_int, tyN_str, tyN_ref, tyNs_lt, isB, upd_same, upd_upd, sizeLine_eq, List.mem_cons, String.reduceBEq, String.reduceEq, Bool.or_false, Bool.or_true, Bool.and_false, Bool.false_or, Bool.and_self, Bool.false_and, Bool.not_false, Bool.not_true, List.any_cons, List.any_nil, atI_0, setI_0, atI_1, setI_1, atI_2, setI_2, atI_3, setI_3, atI_4, setI_4, atI_5, setI_5, atI_6, setI_6, tAsg, gName, tOp, tUn, tVar, tC, tCons, L2.tNil, tRet, tIfS, tTest, tCB, tCall, rI, rI0, rU, tNext, tB, tAnd, tOr, tNot, tAndV, tOrV, tNotV, tDrop, tIf, tPar, gSub, rIxL, rIxT, rEq, rNe, rSetL, tBits,
    L2.start, List.map_cons, List.map_nil, List.cons_append, List.nil_append, List.append_nil, List.length_cons, List.length_nil, List.replicate, Nat.reduceAdd, Nat.reduceSub, Nat.zero_add, List.getElem?_cons_zero, List.getElem?_cons_succ, List.set_cons_zero, List.set_cons_succ,
    Option.some.injEq, exists_eq_left', exists_eq_left, V.int.injEq, V.bl.injEq, V.ref.injEq, V.str.injEq, List.cons.injEq, reduceCtorEq, and_true, true_and, false_and, and_false, exists_false, or_false, false_or, or_true, true_or, exists_const, CMul, CDiv, CPow, and_assoc, exists_and_left, exists_and_right, Int.reducePow, Int.reduceNeg, Int.reduceLT, Int.reduceLE, Nat.reducePow, Nat.reduceLT, Int.reduceToNat, gt_iff_lt, ge_iff_le, decide_eq_true_eq, Bool.not_eq_true', decide_eq_false_iff_not, scal, ↓reduceIte, Bool.false_eq_true]
      refine ⟨_, _, rfl, (hi i _ _ (List.getElem?_eq_getElem hx) (List.getElem?_eq_getElem hy)).same s2, fun H2 s3 => ⟨true, rfl, ?_⟩⟩
      rw [if_neg Bool.noConfusion]
      exact ⟨_, rfl, s2.trans s3⟩
    · rintro σ H' ⟨z, rfl, s2⟩
      simp only [cx_K, decide_true, decide_false, reduceCtorEq, gTp, gCons, gNil, ca_0, ca_1, ca_2, ca_3, ca_4, ca_5, ca_6, ca_7, ca_8, ca_9, ca_10, ca_11, ca_12, ca_13, ca_14, ca_15, ca_16, ca_17, ca_18, ca_19, ca_20, ca_21, ca_22, ca_23, ca_24, ca_25, ca_26, ca_27, ca_28, ca_29, ca_30, not_true_eq_false, not_false_eq_true, Int.reduceEq, Nat.reduceEqDiff, Nat.reduceLeDiff, rGcd, V.ty.injEq, eq_self, List.not_mem_nil, beq_self_eq_true, HO.lst.injEq, HO.tup.injEq, tFor_eq, iRng1, iList, iTup, nat10, tSeq, rIxA, rSetA, rIsN, rIsT, tTp, tLs, itsO_tup, itsO_lst, tyO_tup, tyO_lst, tyO_dK, tyN_non, tyN_bl, tyN_int, tyN_str, tyN_ref, tyNs_lt, isB, upd_same, upd_upd, sizeLine_eq, List.mem_cons, String.reduceBEq, String.reduceEq, Bool.or_false, Bool.or_true, Bool.and_false, Bool.false_or, Bool.and_self, Bool.false_and, Bool.not_false, Bool.not_true, List.any_cons, List.any_nil, atI_0, setI_0, atI_1, setI_1, atI_2, setI_2, atI_3, setI_3, atI_4, setI_4, atI_5, setI_5, atI_6, setI_6, tAsg, gName, tOp, tUn, tVar, tC, tCons, L2.tNil, tRet, tIfS, tTest, tCB, tCall, rI, rI0, rU, tNext, tB, tAnd, tOr, tNot, tAndV, tOrV, tNotV, tDrop, tIf, tPar, gSub, rIxL, rIxT, rEq, rNe, rSetL, tBits,
    L2.start, List.map_cons, List.map_nil, List.cons_append, List.nil_append, List.append_nil, List.length_cons, List.length_nil, List.replicate, Nat.reduceAdd, Nat.reduceSub, Nat.zero_add, List.getElem?_cons_zero, List.getElem?_cons_succ, List.set_cons_zero, List.set_cons_succ,
    Option.some.injEq, exists_eq_left', exists_eq_left, V.int.injEq, V.bl.injEq, V.ref.injEq, V.str.injEq, List.cons.injEq, reduceCtorEq, and_true, true_and, false_and, and_false, exists_false, or_false, false_or, or_true, true_or, exists_const, CMul, CDiv, CPow, and_assoc, exists_and_left, exists_and_right, Int.reducePow, Int.reduceNeg, Int.reduceLT, Int.reduceLE, Nat.reducePow, Nat.reduceLT, Int.reduceToNat, gt_iff_lt, ge_iff_le, decide_eq_true_eq, Bool.not_eq_true', decide_eq_false_iff_not, scal, ↓reduceIte, Bool.false_eq_true]
      exact k H' s2
theorem k_same (T : Bt K mg) (D : Dfn K mg "_law_same" sSame ["_law_told", "_law_due"]) (d : Kn P w K mg base 1 "_law_is_whole" ["_law_told"] (spWhole K)) : ∀ n : Nat, Kn P w K mg base (n + 1) "_law_same" ["_law_told", "_law_due"] (spSame K n)
  | 0 => by
    obtain ⟨f, fd, m, kp, b, G⟩ := (Kn.none (P := P) (w := w) (base := base) D).ex
    exact ⟨f, fd, m, kp, b, (G.mono (Nat.zero_le _)).imp fun vs H Q E h => h.elim⟩
  | n + 1 => k_Same n T D d (k_same T D d n)
end
end My

namespace My
open PySem PySem.Spec PyProof.Rows L2
section
variable {P : Program} {w : World} {K : PySem.W.Frag} {mg : Str → Option Value} {base : Heap}
/-! ### what is no fraction -/
def fr2 : List V → Bool
  | [.int n, .int d] => decide (1 ≤ d) && decide (Int.gcd n d = 1)
  | _ => false
theorem frOk_tup {H : Hp} {a : Addr} {xs : List V} (o : ob K H a = some (.tup xs)) : frOk K H (.ref a) = fr2 xs := by
  simp only [frOk, o]
  unfold fr2
  split <;> simp_all
theorem tyN_same {H H' : Hp} {v : V} {t : String} (e : Same H H') (h : tyN K H v = some t) : tyN K H' v = some t := by
  cases v with
  | ref a =>
    have h1 : tyO (ob K H a) = some t := h
    show tyO (ob K H' a) = some t
    cases hz : ob K H a with
    | none => rw [hz] at h1; cases h1
    | some z => rw [ob_same e hz, ← hz]; exact h1
  | _ => exact h
theorem tyS_same {H H' : Hp} {v : V} (e : Same H H') (h : (tyN K H v).isSome) : (tyN K H' v).isSome := by
  obtain ⟨t, ht⟩ := Option.isSome_iff_exists.mp h
  rw [tyN_same e ht]
  rfl
theorem ob_back {H H' : Hp} {a : Addr} {z : HO} (e : Same H H') (h : (tyN K H (.ref a)).isSome) (o : ob K H' a = some z) : ob K H a = some z := by
  cases hz : ob K H a with
  | none =>
    rw [tyN_ref, hz] at h
    cases h
  | some y =>
    rw [← o, ob_same e hz]
structure Gd (K : PySem.W.Frag) (H : Hp) (v : V) : Prop where
  ty : Tyd K H v
  no : frOk K H v = false
theorem Gd.same {H H' : Hp} {v : V} (e : Same H H') (h : Gd K H v) : Gd K H' v := by
  refine ⟨⟨tyS_same e h.ty.1, fun a xs ev o x hx => ?_⟩, ?_⟩
  · subst ev
    exact tyS_same e (h.ty.2 a xs rfl (ob_back e h.ty.1 o) x hx)
  · cases v with
    | ref a =>
      cases hz : ob K H a with
      | none =>
        have := h.ty.1
        rw [tyN_ref, hz] at this
        cases this
      | some z =>
        have e2 : frOk K H' (.ref a) = frOk K H (.ref a) := by simp only [frOk, hz, ob_same e hz]
        rw [e2]
        exact h.no
    | _ => rfl
theorem gd_sc {H : Hp} {v : V} (h : scv v = true) : Gd K H v := by
  refine ⟨⟨?_, fun a xs e => ?_⟩, ?_⟩
  · cases v <;> first | rfl | cases h
  · subst e; cases h
  · cases v <;> first | rfl | cases h
theorem gd_tup {H : Hp} {a : Addr} {xs : List V} (o : ob K H a = some (.tup xs)) (hx : ∀ x ∈ xs, (tyN K H x).isSome) (f : fr2 xs = false) : Gd K H (.ref a) := by
  refine ⟨⟨by rw [tyN_ref, o]; rfl, fun b ys e o' => ?_⟩, by rw [frOk_tup o]; exact f⟩
  cases e
  rw [o] at o'
  cases o'
  exact hx
theorem gd_lst {H : Hp} {a : Addr} {xs : List V} (o : ob K H a = some (.lst xs)) : Gd K H (.ref a) := by
  refine ⟨⟨by rw [tyN_ref, o]; rfl, fun b ys e o' => ?_⟩, by simp only [frOk, o]⟩
  cases e
  rw [o] at o'
  cases o'
theorem gd_dict {H : Hp} {a : Addr} {xs : List (Key × V)} (o : ob K H a = some (.dK xs)) : Gd K H (.ref a) := by
  refine ⟨⟨by rw [tyN_ref, o]; rfl, fun b ys e o' => ?_⟩, by simp only [frOk, o]⟩
  cases e
  rw [o] at o'
  cases o'
/-! ### displays that only make -/
def Mk (R : Hp → V → Prop) (te : TE) : Prop := ∀ σ H Q, (∀ v H', Same H H' → R H' v → Q v H') → te σ H Q
def MkL (R : Hp → V → Prop) (n : Nat) (ta : TA) : Prop := ∀ σ H Q, (∀ vs H', Same H H' → vs.length = n → (∀ v ∈ vs, R H' v) → Q vs H') → ta σ H Q
theorem mkL_nil {R : Hp → V → Prop} : MkL R 0 L2.tNil := fun σ H Q k => k [] H (Same.refl H) rfl fun _ z => absurd z (by simp)
theorem mkL_cons {R : Hp → V → Prop} {n : Nat} {te : TE} {ta : TA} (mono : ∀ (H H' : Hp) (v : V), Same H H' → R H v → R H' v) (h1 : Mk R te) (h2 : MkL R n ta) : MkL R (n + 1) (tCons te ta) := fun σ H Q k =>
  h1 σ H _ fun v H1 s1 r1 => h2 σ H1 _ fun vs H2 s2 hn hr => k (v :: vs) H2 (s1.trans s2) (by rw [List.length_cons, hn]) fun x hx => by
    rcases List.mem_cons.mp hx with e | e
    · subst e; exact mono _ _ _ s2 r1
    · exact hr x e
theorem mk_c {v : V} (h : scv v = true) : Mk (Gd K) (tC v) := fun σ H Q k => k v H (Same.refl H) (gd_sc h)
theorem mk_tc {ta : TA} (xs : List V) (e : ∀ σ H Q, Q xs H → ta σ H Q) (hs : xs.all scv = true) (hf : fr2 xs = false) (hl : xs.length ≤ 100 := by decide) : Mk (Gd K) (tTp K ta) := fun σ H Q k => by
  refine e σ H _ ⟨by rw [sizeLine_eq]; omega, fun p hp kp => k _ _ (Same.new hp _) (gd_tup (ob_new kp) (fun x hx => ?_) hf)⟩
  exact (gd_sc (K := K) (H := upd H p (.tup xs)) (List.all_eq_true.mp hs x hx)).ty.1
theorem mk_ls {ta : TA} {n : Nat} {R : Hp → V → Prop} (h : MkL R n ta) (hl : n ≤ 100 := by decide) : Mk (Gd K) (tLs K ta) := fun σ H Q k =>
  h σ H _ fun vs H1 s1 hn _ => ⟨by rw [sizeLine_eq]; omega, fun p hp kp => k _ _ (s1.trans (Same.new hp _)) (gd_lst (ob_new kp))⟩
theorem mk_dn : Mk (Gd K) (tDn K) := fun σ H Q k p hp kp => k _ _ (Same.new hp _) (gd_dict (ob_new kp))
theorem mk_any {R : Hp → V → Prop} {te : TE} (h : Mk R te) : Mk (fun _ _ => True) te := fun σ H Q k => h σ H Q fun v H' s _ => k v H' s True.intro
theorem mk_tup {ta : TA} {n : Nat} {R : Hp → V → Prop} (h : MkL R n ta) (hl : n ≤ 100 := by decide) : Mk (fun _ _ => True) (tTp K ta) := fun σ H Q k =>
  h σ H _ fun vs H1 s1 hn _ => ⟨by rw [sizeLine_eq]; omega, fun p hp kp => k _ _ (s1.trans (Same.new hp _)) True.intro⟩
/-! the same where names are read -/
def MkA (σ : L2.St) (H0 : Hp) (R : Hp → V → Prop) (te : TE) : Prop := ∀ H, Same H0 H → ∀ Q, (∀ v H', Same H H' → R H' v → Q v H') → te σ H Q
def MkAL (σ : L2.St) (H0 : Hp) (R : Hp → V → Prop) (n : Nat) (ta : TA) : Prop := ∀ H, Same H0 H → ∀ Q, (∀ vs H', Same H H' → vs.length = n → (∀ v ∈ vs, R H' v) → Q vs H') → ta σ H Q
theorem mkA_nil {σ : L2.St} {H0 : Hp} {R : Hp → V → Prop} : MkAL σ H0 R 0 L2.tNil := fun H _ Q k => k [] H (Same.refl H) rfl fun _ z => absurd z (by simp)
theorem mkA_cons {σ : L2.St} {H0 : Hp} {R : Hp → V → Prop} {n : Nat} {te : TE} {ta : TA} (mono : ∀ (H H' : Hp) (v : V), Same H H' → R H v → R H' v) (h1 : MkA σ H0 R te) (h2 : MkAL σ H0 R n ta) : MkAL σ H0 R (n + 1) (tCons te ta) := fun H s Q k =>
  h1 H s _ fun v H1 s1 r1 => h2 H1 (s.trans s1) _ fun vs H2 s2 hn hr => k (v :: vs) H2 (s1.trans s2) (by rw [List.length_cons, hn]) fun x hx => by
    rcases List.mem_cons.mp hx with e | e
    · subst e; exact mono _ _ _ s2 r1
    · exact hr x e
theorem mkA_tc {σ : L2.St} {H0 : Hp} {ta : TA} (xs : List V) (e : ∀ H, Same H0 H → ∀ Q, Q xs H → ta σ H Q) (hs : ∀ x ∈ xs, (tyN K H0 x).isSome) (hf : fr2 xs = false) (hl : xs.length ≤ 100) : MkA σ H0 (Gd K) (tTp K ta) := fun H s Q k => by
  refine e H s _ ⟨by rw [sizeLine_eq]; omega, fun p hp kp => k _ _ (Same.new hp _) (gd_tup (ob_new kp) (fun x hx => ?_) hf)⟩
  exact tyS_same (s.trans (Same.new hp _)) (hs x hx)
theorem mkA_lc {σ : L2.St} {H0 : Hp} {ta : TA} (xs : List V) (e : ∀ H, Same H0 H → ∀ Q, Q xs H → ta σ H Q) (hl : xs.length ≤ 100) : MkA σ H0 (Gd K) (tLs K ta) := fun H s Q k => by
  exact e H s _ ⟨by rw [sizeLine_eq]; omega, fun p hp kp => k _ _ (Same.new hp _) (gd_lst (ob_new kp))⟩
theorem lsA {ta : TA} {n : Nat} {R : Hp → V → Prop} {σ : L2.St} {H : Hp} {Q : VK} (mono : ∀ (H H' : Hp) (v : V), Same H H' → R H v → R H' v) (h : MkAL σ H R n ta) (hl : n ≤ 100)
    (k : ∀ vs p H', Same H H' → H p = none → K.lookup p = none → vs.length = n → (∀ v ∈ vs, R H' v) → H' p = some (.lst vs) → Q (.ref p) H') : tLs K ta σ H Q :=
  h H (Same.refl H) _ fun vs H1 s1 hn hr => ⟨by rw [sizeLine_eq]; omega, fun p hp kp => k vs p _ (s1.trans (Same.new hp _)) (s1.free hp) kp hn (fun v hv => mono _ _ _ (Same.new hp _) (hr v hv)) upd_same⟩
/-! what is no fraction stays so while the draws go on -/
theorem ob_kp2 {H H' : Hp} {s a : Addr} {z : HO} (e : Kp s H H') (n : a ≠ s) (h : ob K H a = some z) : ob K H' a = some z := by
  unfold ob at h ⊢
  split
  · rename_i o q
    rw [q] at h
    exact h
  · rename_i q
    rw [q] at h
    exact e _ _ n h
theorem Sto.ob {H : Hp} {s : Addr} (h : Sto K H s) : ∃ ys, My.ob K H s = some (.lst ys) := by
  obtain ⟨sc, ns, i, b, c, d, e, f, h⟩ := h
  exact ⟨_, (ob_none h.2.2.2.2.1).trans h.1⟩
theorem tyS_kp {H H' : Hp} {s : Addr} {v : V} (e : Kp s H H') (t : Sto K H' s) (h : (tyN K H v).isSome) : (tyN K H' v).isSome := by
  cases v with
  | ref a =>
    by_cases ha : a = s
    · subst ha
      obtain ⟨ys, hy⟩ := t.ob
      rw [tyN_ref, hy]
      rfl
    · cases hz : ob K H a with
      | none => rw [tyN_ref, hz] at h; cases h
      | some z =>
        rw [tyN_ref, ob_kp2 e ha hz, ← hz]
        exact h
  | _ => exact h
theorem Gd.kp {H H' : Hp} {s : Addr} {v : V} (e : Kp s H H') (t : Sto K H' s) (h : Gd K H v) : Gd K H' v := by
  cases v with
  | ref a =>
    by_cases ha : a = s
    · subst ha
      obtain ⟨ys, hy⟩ := t.ob
      exact gd_lst hy
    · cases hz : ob K H a with
      | none =>
        have := h.ty.1
        rw [tyN_ref, hz] at this
        cases this
      | some z =>
        have hz' := ob_kp2 e ha hz
        refine ⟨⟨tyS_kp e t h.ty.1, fun b xs ev o x hx => ?_⟩, ?_⟩
        · cases ev
          rw [hz'] at o
          exact tyS_kp e t (h.ty.2 a xs rfl (hz.trans o) x hx)
        · have e2 : frOk K H' (.ref a) = frOk K H (.ref a) := by simp only [frOk, hz, hz']
          rw [e2]
          exact h.no
  | _ => exact ⟨⟨h.ty.1, fun _ _ e => by cases e⟩, h.no⟩
/-- a list display of such things -/
theorem lsX {ta : TA} {n : Nat} {R : Hp → V → Prop} {σ : L2.St} {H : Hp} {Q : VK} (mono : ∀ (H H' : Hp) (v : V), Same H H' → R H v → R H' v) (h : MkL R n ta) (hl : n ≤ 100)
    (k : ∀ vs p H', Same H H' → H p = none → K.lookup p = none → vs.length = n → (∀ v ∈ vs, R H' v) → H' p = some (.lst vs) → Q (.ref p) H') : tLs K ta σ H Q :=
  h σ H _ fun vs H1 s1 hn hr => ⟨by rw [sizeLine_eq]; omega, fun p hp kp => k vs p _ (s1.trans (Same.new hp _)) (s1.free hp) kp hn (fun v hv => mono _ _ _ (Same.new hp _) (hr v hv)) upd_same⟩
theorem fr2_mul {q : Qt} {k : Int} (hk : 2 ≤ k) : fr2 [.int (q.1 * k), .int (q.2 * k)] = false := by
  show (decide (1 ≤ q.2 * k) && decide (Int.gcd (q.1 * k) (q.2 * k) = 1)) = false
  rw [Int.gcd_mul_right]
  have : Int.gcd q.1 q.2 * k.natAbs ≠ 1 := fun e => by
    have := Nat.eq_one_of_mul_eq_one_left e
    omega
  rw [decide_eq_false this, Bool.and_false]
theorem fr2_neg {n d : Int} (h : d < 1) : fr2 [.int n, .int d] = false := by
  show (decide (1 ≤ d) && decide (Int.gcd n d = 1)) = false
  rw [decide_eq_false (by omega), Bool.false_and]
def spBadFrac (K : PySem.W.Frag) : Sp := fun vs H Q _ => ∃ s : Addr, vs = [.ref s] ∧ Sto K H s ∧ ∀ v H', Gd K H' v → Kp s H H' → Sto K H' s → Q v H'
abbrev sBadFrac : Stmt := topS 69
theorem scBadFrac : FnScope ["_law_store_here", "_law_value", "_law_more", "_law_bent", "_law_bad"] ["_law_store_here"] (defScope sBadFrac) := ⟨rfl, rfl, rfl, by decide +kernel, rfl, by decide +kernel, by decide +kernel⟩
theorem k_BadFrac (T : Bt K mg) (D : Dfn K mg "_law_bad_frac" sBadFrac ["_law_store_here"]) (d__law_take : Kn P w K mg base 2 "_law_take" ["_law_store_here", "_law_many"] (spTake K)) (d__law_frac : Kn P w K mg base 3 "_law_frac" ["_law_store_here"] (spDFrac K 10)) (d__law_pick : Kn P w K mg base 3 "_law_pick" ["_law_store_here", "_law_row"] (spPick K)) : Kn P w K mg base 4 "_law_bad_frac" ["_law_store_here"] (spBadFrac K) := by
  refine Kn.mk' D scBadFrac (fun vs H Q E h => ?_) (fun f cdv A outer s H vs Q E hr h => ?_)
  · obtain ⟨s, rfl, _⟩ := h
    rfl
  obtain ⟨s, rfl, hS, k⟩ := h
  refine ⟨_, (pss_cons (ps_if (pt_cmpR op_eq (pe_kn d__law_take hr (by rfl) (pa_cons (pv 0) (pa_cons pe_int pa_nil))) pe_int (nomark _)) (pss_cons (ps_set (i := 1) scBadFrac.nd rfl (.inl rfl) (pe_kn d__law_frac hr (by rfl) (pa_cons (pv 0) pa_nil)))
      (pss_cons (ps_set (i := 2) scBadFrac.nd rfl (.inl rfl) (pe_op op_add pe_int (pe_kn d__law_take hr (by rfl) (pa_cons (pv 0) (pa_cons pe_int pa_nil)))))
      (pss_cons (ps_set (i := 3) scBadFrac.nd rfl (.inl rfl) (pe_ls (pa_cons (pe_ls (pa_cons (pe_ix ix_any (pv 1) pe_int (fun _ _ => rfl)) (pa_cons (pe_ix ix_any (pv 1) pe_int (fun _ _ => rfl)) pa_nil))) (pa_cons (pe_tp (pa_cons (pe_op op_mulW (pe_ix ix_any (pv 1) pe_int (fun _ _ => rfl)) (pv 2)) (pa_cons (pe_op op_mulW (pe_ix ix_any (pv 1) pe_int (fun _ _ => rfl)) (pv 2)) pa_nil))) (pa_cons (pe_tp (pa_cons (pe_un un_neg (pe_ix ix_any (pv 1) pe_int (fun _ _ => rfl))) (pa_cons (pe_un un_neg (pe_ix ix_any (pv 1) pe_int (fun _ _ => rfl))) pa_nil))) pa_nil)))))
      (pss_one (ps_ret (pe_kn d__law_pick hr (by rfl) (pa_cons (pv 0) (pa_cons (pe_op op_cat (pv 3) (pe_ls (pa_cons (pe_tp (pa_cons (pe_ix ix_any (pv 1) pe_int (fun _ _ => rfl)) pa_nil)) (pa_cons (pe_tp (pa_cons (pe_ix ix_any (pv 1) pe_int (fun _ _ => rfl)) (pa_cons (pe_ix ix_any (pv 1) pe_int (fun _ _ => rfl)) (pa_cons pe_int pa_nil)))) (pa_cons (pe_tp (pa_cons (pv 1) (pa_cons (pv 1) pa_nil))) (pa_cons (pe_tp (pa_cons (pe_ix ix_any (pv 1) pe_int (fun _ _ => rfl)) (pa_cons pe_int pa_nil))) pa_nil)))))) pa_nil)))))))) pss_nil)
      (pss_cons (ps_set (i := 4) scBadFrac.nd rfl (.inl rfl) (pe_ls (pa_cons (pe_tp (pa_cons pe_int (pa_cons pe_int pa_nil))) (pa_cons (pe_tp (pa_cons pe_int (pa_cons pe_int pa_nil))) (pa_cons (pe_tp (pa_cons pe_int (pa_cons pe_int pa_nil))) (pa_cons (pe_tp (pa_cons pe_int (pa_cons pe_int pa_nil))) (pa_cons (pe_tp (pa_cons pe_int (pa_cons (pe_un un_neg pe_int) pa_nil))) (pa_cons (pe_tp (pa_cons pe_int (pa_cons (pe_un un_neg pe_int) pa_nil))) (pa_cons (pe_tp (pa_cons pe_bl (pa_cons pe_int pa_nil))) (pa_cons (pe_tp (pa_cons pe_bl (pa_cons pe_int pa_nil))) (pa_cons (pe_tp (pa_cons pe_int (pa_cons pe_bl pa_nil))) (pa_cons (pe_tp (pa_cons pe_bl (pa_cons pe_int pa_nil))) (pa_cons (pe_tp (pa_cons pe_int (pa_cons pe_non pa_nil))) pa_nil)))))))))))))
      (pss_cons (ps_set (i := 4) scBadFrac.nd rfl (.inl rfl) (pe_op op_cat (pv 4) (pe_ls (pa_cons (pe_tp (pa_cons pe_str (pa_cons pe_int pa_nil))) (pa_cons (pe_ls (pa_cons pe_int (pa_cons pe_int pa_nil))) (pa_cons (pe_tp pa_nil) (pa_cons (pe_tp (pa_cons pe_int pa_nil)) (pa_cons (pe_tp (pa_cons pe_int (pa_cons pe_int (pa_cons pe_int pa_nil)))) (pa_cons (pe_ls (pa_cons (pe_tp (pa_cons pe_int (pa_cons pe_int pa_nil))) pa_nil)) pa_nil)))))))))
      (pss_one (ps_ret (pe_kn d__law_pick hr (by rfl) (pa_cons (pv 0) (pa_cons (pe_op op_cat (pv 4) (pe_ls (pa_cons pe_int (pa_cons pe_int (pa_cons pe_bl (pa_cons pe_bl (pa_cons pe_non (pa_cons pe_str (pa_cons pe_str (pa_cons pe_dn pa_nil)))))))))) pa_nil)))))))), ?_⟩
  refine ⟨_, rfl, s, 3, rfl, hS, by omega, fun i H1 z0 z1 kp st => ⟨rfl, _, rfl, ite2 (fun h => ?_) (fun h => ?_)⟩⟩
  · refine ⟨_, rfl, s, rfl, st, fun a q H2 hq kp2 st2 => ⟨_, rfl, s, 3, rfl, st2, by omega, fun m H3 m0 m1 kp3 st3 => ⟨_, _, rfl, rfl, ?_⟩⟩⟩
    obtain ⟨ys2, hys2⟩ := st2.at
    have hq3 := hq.kp kp3 hys2
    simp only [cx_K, tNext, tSeq, tAsg, gName, L2.start, List.map_cons, List.map_nil, List.cons_append, List.nil_append, List.length_cons, List.length_nil, List.replicate, Nat.reduceAdd, Nat.reduceSub, List.set_cons_zero, List.set_cons_succ]
    have k10 : (2 + m).natAbs < 2 ^ 10 := by omega
    have ty3 : (tyN K H3 (.ref a)).isSome := by rw [tyN_ref, hq3.o]; rfl
    refine lsA (R := Gd K) (fun _ _ _ s h => Gd.same s h) (mkA_cons (R := Gd K) (fun _ _ _ s h => Gd.same s h) (mkA_lc [.int q.1, .int q.2] (fun H' s' Q' h' => by
        have o := ob_same s' hq3.o
        simp only [o, cx_K, decide_true, decide_false, reduceCtorEq, gTp, gCons, gNil, ca_0, ca_1, ca_2, ca_3, ca_4, ca_5, ca_6, ca_7, ca_8, ca_9, ca_10, ca_11, ca_12, ca_13, ca_14, ca_15, ca_16, ca_17, ca_18, ca_19, ca_20, ca_21, ca_22, ca_23, ca_24, ca_25, ca_26, ca_27, ca_28, ca_29, ca_30, not_true_eq_false, not_false_eq_true, Int.reduceEq, Nat.reduceEqDiff, Nat.reduceLeDiff, rGcd, V.ty.injEq, eq_self, List.not_mem_nil, beq_self_eq_true, HO.lst.injEq, HO.tup.injEq, tFor_eq, iRng1, iList, iTup, nat10, tSeq, rIxA, rSetA, rIsN, rIsT, tTp, tLs, itsO_tup, itsO_lst, tyO_tup, tyO_lst, tyO_dK, tyN_non, tyN_bl, tyN_int, tyN_str, tyN_ref, tyNs_lt, isB, upd_same, upd_upd, sizeLine_eq, List.mem_cons, String.reduceBEq, String.reduceEq, Bool.or_false, Bool.or_true, Bool.and_false, Bool.false_or, Bool.and_self, Bool.false_and, Bool.not_false, Bool.not_true, List.any_cons, List.any_nil, atI_0, setI_0, atI_1, setI_1, atI_2, setI_2, atI_3, setI_3, atI_4, setI_4, atI_5, setI_5, atI_6, setI_6, tAsg, gName, tOp, tUn, tVar, tC, tCons, L2.tNil, tRet, tIfS, tTest, tCB, tCall, rI, rI0, rU, tNext, tB, tAnd, tOr, tNot, tAndV, tOrV, tNotV, tDrop, tIf, tPar, gSub, rIxL, rIxT, rEq, rNe, rSetL, tBits,
    L2.start, List.map_cons, List.map_nil, List.cons_append, List.nil_append, List.append_nil, List.length_cons, List.length_nil, List.replicate, Nat.reduceAdd, Nat.reduceSub, Nat.zero_add, List.getElem?_cons_zero, List.getElem?_cons_succ, List.set_cons_zero, List.set_cons_succ,
    Option.some.injEq, exists_eq_left', exists_eq_left, V.int.injEq, V.bl.injEq, V.ref.injEq, V.str.injEq, List.cons.injEq, reduceCtorEq, and_true, true_and, false_and, and_false, exists_false, or_false, false_or, or_true, true_or, exists_const, CMul, CDiv, CPow, and_assoc, exists_and_left, exists_and_right, Int.reducePow, Int.reduceNeg, Int.reduceLT, Int.reduceLE, Nat.reducePow, Nat.reduceLT, Int.reduceToNat, gt_iff_lt, ge_iff_le, decide_eq_true_eq, Bool.not_eq_true', decide_eq_false_iff_not, scal, ↓reduceIte, Bool.false_eq_true]
        exact h') (by simp))
      (mkA_cons (R := Gd K) (fun _ _ _ s h => Gd.same s h) (mkA_tc [.int (q.1 * (2 + m)), .int (q.2 * (2 + m))] (fun H' s' Q' h' => by
        have o := ob_same s' hq3.o
        simp only [o, cx_K, decide_true, decide_false, reduceCtorEq, gTp, gCons, gNil, ca_0, ca_1, ca_2, ca_3, ca_4, ca_5, ca_6, ca_7, ca_8, ca_9, ca_10, ca_11, ca_12, ca_13, ca_14, ca_15, ca_16, ca_17, ca_18, ca_19, ca_20, ca_21, ca_22, ca_23, ca_24, ca_25, ca_26, ca_27, ca_28, ca_29, ca_30, not_true_eq_false, not_false_eq_true, Int.reduceEq, Nat.reduceEqDiff, Nat.reduceLeDiff, rGcd, V.ty.injEq, eq_self, List.not_mem_nil, beq_self_eq_true, HO.lst.injEq, HO.tup.injEq, tFor_eq, iRng1, iList, iTup, nat10, tSeq, rIxA, rSetA, rIsN, rIsT, tTp, tLs, itsO_tup, itsO_lst, tyO_tup, tyO_lst, tyO_dK, tyN_non, tyN_bl, tyN_int, tyN_str, tyN_ref, tyNs_lt, isB, upd_same, upd_upd, sizeLine_eq, List.mem_cons, String.reduceBEq, String.reduceEq, Bool.or_false, Bool.or_true, Bool.and_false, Bool.false_or, Bool.and_self, Bool.false_and, Bool.not_false, Bool.not_true, List.any_cons, List.any_nil, atI_0, setI_0, atI_1, setI_1, atI_2, setI_2, atI_3, setI_3, atI_4, setI_4, atI_5, setI_5, atI_6, setI_6, tAsg, gName, tOp, tUn, tVar, tC, tCons, L2.tNil, tRet, tIfS, tTest, tCB, tCall, rI, rI0, rU, tNext, tB, tAnd, tOr, tNot, tAndV, tOrV, tNotV, tDrop, tIf, tPar, gSub, rIxL, rIxT, rEq, rNe, rSetL, tBits,
    L2.start, List.map_cons, List.map_nil, List.cons_append, List.nil_append, List.append_nil, List.length_cons, List.length_nil, List.replicate, Nat.reduceAdd, Nat.reduceSub, Nat.zero_add, List.getElem?_cons_zero, List.getElem?_cons_succ, List.set_cons_zero, List.set_cons_succ,
    Option.some.injEq, exists_eq_left', exists_eq_left, V.int.injEq, V.bl.injEq, V.ref.injEq, V.str.injEq, List.cons.injEq, reduceCtorEq, and_true, true_and, false_and, and_false, exists_false, or_false, false_or, or_true, true_or, exists_const, CMul, CDiv, CPow, and_assoc, exists_and_left, exists_and_right, Int.reducePow, Int.reduceNeg, Int.reduceLT, Int.reduceLE, Nat.reducePow, Nat.reduceLT, Int.reduceToNat, gt_iff_lt, ge_iff_le, decide_eq_true_eq, Bool.not_eq_true', decide_eq_false_iff_not, scal, ↓reduceIte, Bool.false_eq_true]
        exact ⟨mulW hq3.sz.1 k10 (by omega), mulW hq3.sz.2 k10 (by omega), h'⟩) (by simp [tyN]) (fr2_mul (by omega)) (by simp))
      (mkA_cons (R := Gd K) (fun _ _ _ s h => Gd.same s h) (mkA_tc [.int (-q.1), .int (-q.2)] (fun H' s' Q' h' => by
        have o := ob_same s' hq3.o
        simp only [o, cx_K, decide_true, decide_false, reduceCtorEq, gTp, gCons, gNil, ca_0, ca_1, ca_2, ca_3, ca_4, ca_5, ca_6, ca_7, ca_8, ca_9, ca_10, ca_11, ca_12, ca_13, ca_14, ca_15, ca_16, ca_17, ca_18, ca_19, ca_20, ca_21, ca_22, ca_23, ca_24, ca_25, ca_26, ca_27, ca_28, ca_29, ca_30, not_true_eq_false, not_false_eq_true, Int.reduceEq, Nat.reduceEqDiff, Nat.reduceLeDiff, rGcd, V.ty.injEq, eq_self, List.not_mem_nil, beq_self_eq_true, HO.lst.injEq, HO.tup.injEq, tFor_eq, iRng1, iList, iTup, nat10, tSeq, rIxA, rSetA, rIsN, rIsT, tTp, tLs, itsO_tup, itsO_lst, tyO_tup, tyO_lst, tyO_dK, tyN_non, tyN_bl, tyN_int, tyN_str, tyN_ref, tyNs_lt, isB, upd_same, upd_upd, sizeLine_eq, List.mem_cons, String.reduceBEq, String.reduceEq, Bool.or_false, Bool.or_true, Bool.and_false, Bool.false_or, Bool.and_self, Bool.false_and, Bool.not_false, Bool.not_true, List.any_cons, List.any_nil, atI_0, setI_0, atI_1, setI_1, atI_2, setI_2, atI_3, setI_3, atI_4, setI_4, atI_5, setI_5, atI_6, setI_6, tAsg, gName, tOp, tUn, tVar, tC, tCons, L2.tNil, tRet, tIfS, tTest, tCB, tCall, rI, rI0, rU, tNext, tB, tAnd, tOr, tNot, tAndV, tOrV, tNotV, tDrop, tIf, tPar, gSub, rIxL, rIxT, rEq, rNe, rSetL, tBits,
    L2.start, List.map_cons, List.map_nil, List.cons_append, List.nil_append, List.append_nil, List.length_cons, List.length_nil, List.replicate, Nat.reduceAdd, Nat.reduceSub, Nat.zero_add, List.getElem?_cons_zero, List.getElem?_cons_succ, List.set_cons_zero, List.set_cons_succ,
    Option.some.injEq, exists_eq_left', exists_eq_left, V.int.injEq, V.bl.injEq, V.ref.injEq, V.str.injEq, List.cons.injEq, reduceCtorEq, and_true, true_and, false_and, and_false, exists_false, or_false, false_or, or_true, true_or, exists_const, CMul, CDiv, CPow, and_assoc, exists_and_left, exists_and_right, Int.reducePow, Int.reduceNeg, Int.reduceLT, Int.reduceLE, Nat.reducePow, Nat.reduceLT, Int.reduceToNat, gt_iff_lt, ge_iff_le, decide_eq_true_eq, Bool.not_eq_true', decide_eq_false_iff_not, scal, ↓reduceIte, Bool.false_eq_true]
        exact h') (by simp [tyN]) (fr2_neg (by have := hq3.nf.1; omega)) (by simp)) mkA_nil))) (by decide) fun vs p H4 s4 hp kp4 hn hv hl => ?_
    refine ⟨_, rfl, _, rfl, ?_⟩
    have hq4 := hq3.same s4
    refine lsA (R := Gd K) (fun _ _ _ s h => Gd.same s h) (mkA_cons (R := Gd K) (fun _ _ _ s h => Gd.same s h) (mkA_tc [.int q.1] (fun H' s' Q' h' => by
        have o := ob_same s' hq4.o
        simp only [o, cx_K, decide_true, decide_false, reduceCtorEq, gTp, gCons, gNil, ca_0, ca_1, ca_2, ca_3, ca_4, ca_5, ca_6, ca_7, ca_8, ca_9, ca_10, ca_11, ca_12, ca_13, ca_14, ca_15, ca_16, ca_17, ca_18, ca_19, ca_20, ca_21, ca_22, ca_23, ca_24, ca_25, ca_26, ca_27, ca_28, ca_29, ca_30, not_true_eq_false, not_false_eq_true, Int.reduceEq, Nat.reduceEqDiff, Nat.reduceLeDiff, rGcd, V.ty.injEq, eq_self, List.not_mem_nil, beq_self_eq_true, HO.lst.injEq, HO.tup.injEq, tFor_eq, iRng1, iList, iTup, nat10, tSeq, rIxA, rSetA, rIsN, rIsT, tTp, tLs, itsO_tup, itsO_lst, tyO_tup, tyO_lst, tyO_dK, tyN_non, tyN_bl, tyN_int, tyN_str, tyN_ref, tyNs_lt, isB, upd_same, upd_upd, sizeLine_eq, List.mem_cons, String.reduceBEq, String.reduceEq, Bool.or_false, Bool.or_true, Bool.and_false, Bool.false_or, Bool.and_self, Bool.false_and, Bool.not_false, Bool.not_true, List.any_cons, List.any_nil, atI_0, setI_0, atI_1, setI_1, atI_2, setI_2, atI_3, setI_3, atI_4, setI_4, atI_5, setI_5, atI_6, setI_6, tAsg, gName, tOp, tUn, tVar, tC, tCons, L2.tNil, tRet, tIfS, tTest, tCB, tCall, rI, rI0, rU, tNext, tB, tAnd, tOr, tNot, tAndV, tOrV, tNotV, tDrop, tIf, tPar, gSub, rIxL, rIxT, rEq, rNe, rSetL, tBits,
    L2.start, List.map_cons, List.map_nil, List.cons_append, List.nil_append, List.append_nil, List.length_cons, List.length_nil, List.replicate, Nat.reduceAdd, Nat.reduceSub, Nat.zero_add, List.getElem?_cons_zero, List.getElem?_cons_succ, List.set_cons_zero, List.set_cons_succ,
    Option.some.injEq, exists_eq_left', exists_eq_left, V.int.injEq, V.bl.injEq, V.ref.injEq, V.str.injEq, List.cons.injEq, reduceCtorEq, and_true, true_and, false_and, and_false, exists_false, or_false, false_or, or_true, true_or, exists_const, CMul, CDiv, CPow, and_assoc, exists_and_left, exists_and_right, Int.reducePow, Int.reduceNeg, Int.reduceLT, Int.reduceLE, Nat.reducePow, Nat.reduceLT, Int.reduceToNat, gt_iff_lt, ge_iff_le, decide_eq_true_eq, Bool.not_eq_true', decide_eq_false_iff_not, scal, ↓reduceIte, Bool.false_eq_true]
        exact h') (by simp [tyN]) rfl (by simp))
      (mkA_cons (R := Gd K) (fun _ _ _ s h => Gd.same s h) (mkA_tc [.int q.1, .int q.2, .int 1] (fun H' s' Q' h' => by
        have o := ob_same s' hq4.o
        simp only [o, cx_K, decide_true, decide_false, reduceCtorEq, gTp, gCons, gNil, ca_0, ca_1, ca_2, ca_3, ca_4, ca_5, ca_6, ca_7, ca_8, ca_9, ca_10, ca_11, ca_12, ca_13, ca_14, ca_15, ca_16, ca_17, ca_18, ca_19, ca_20, ca_21, ca_22, ca_23, ca_24, ca_25, ca_26, ca_27, ca_28, ca_29, ca_30, not_true_eq_false, not_false_eq_true, Int.reduceEq, Nat.reduceEqDiff, Nat.reduceLeDiff, rGcd, V.ty.injEq, eq_self, List.not_mem_nil, beq_self_eq_true, HO.lst.injEq, HO.tup.injEq, tFor_eq, iRng1, iList, iTup, nat10, tSeq, rIxA, rSetA, rIsN, rIsT, tTp, tLs, itsO_tup, itsO_lst, tyO_tup, tyO_lst, tyO_dK, tyN_non, tyN_bl, tyN_int, tyN_str, tyN_ref, tyNs_lt, isB, upd_same, upd_upd, sizeLine_eq, List.mem_cons, String.reduceBEq, String.reduceEq, Bool.or_false, Bool.or_true, Bool.and_false, Bool.false_or, Bool.and_self, Bool.false_and, Bool.not_false, Bool.not_true, List.any_cons, List.any_nil, atI_0, setI_0, atI_1, setI_1, atI_2, setI_2, atI_3, setI_3, atI_4, setI_4, atI_5, setI_5, atI_6, setI_6, tAsg, gName, tOp, tUn, tVar, tC, tCons, L2.tNil, tRet, tIfS, tTest, tCB, tCall, rI, rI0, rU, tNext, tB, tAnd, tOr, tNot, tAndV, tOrV, tNotV, tDrop, tIf, tPar, gSub, rIxL, rIxT, rEq, rNe, rSetL, tBits,
    L2.start, List.map_cons, List.map_nil, List.cons_append, List.nil_append, List.append_nil, List.length_cons, List.length_nil, List.replicate, Nat.reduceAdd, Nat.reduceSub, Nat.zero_add, List.getElem?_cons_zero, List.getElem?_cons_succ, List.set_cons_zero, List.set_cons_succ,
    Option.some.injEq, exists_eq_left', exists_eq_left, V.int.injEq, V.bl.injEq, V.ref.injEq, V.str.injEq, List.cons.injEq, reduceCtorEq, and_true, true_and, false_and, and_false, exists_false, or_false, false_or, or_true, true_or, exists_const, CMul, CDiv, CPow, and_assoc, exists_and_left, exists_and_right, Int.reducePow, Int.reduceNeg, Int.reduceLT, Int.reduceLE, Nat.reducePow, Nat.reduceLT, Int.reduceToNat, gt_iff_lt, ge_iff_le, decide_eq_true_eq, Bool.not_eq_true', decide_eq_false_iff_not, scal, ↓reduceIte, Bool.false_eq_true]
        exact h') (by simp [tyN]) rfl (by simp))
      (mkA_cons (R := Gd K) (fun _ _ _ s h => Gd.same s h) (mkA_tc [.ref a, .ref a] (fun H' s' Q' h' => ⟨_, rfl, _, rfl, h'⟩) (by
        have := tyS_same s4 ty3
        simpa using this) rfl (by simp))
      (mkA_cons (R := Gd K) (fun _ _ _ s h => Gd.same s h) (mkA_tc [.int q.1, .int 0] (fun H' s' Q' h' => by
        have o := ob_same s' hq4.o
        simp only [o, cx_K, decide_true, decide_false, reduceCtorEq, gTp, gCons, gNil, ca_0, ca_1, ca_2, ca_3, ca_4, ca_5, ca_6, ca_7, ca_8, ca_9, ca_10, ca_11, ca_12, ca_13, ca_14, ca_15, ca_16, ca_17, ca_18, ca_19, ca_20, ca_21, ca_22, ca_23, ca_24, ca_25, ca_26, ca_27, ca_28, ca_29, ca_30, not_true_eq_false, not_false_eq_true, Int.reduceEq, Nat.reduceEqDiff, Nat.reduceLeDiff, rGcd, V.ty.injEq, eq_self, List.not_mem_nil, beq_self_eq_true, HO.lst.injEq, HO.tup.injEq, tFor_eq, iRng1, iList, iTup, nat10, tSeq, rIxA, rSetA, rIsN, rIsT, tTp, tLs, itsO_tup, itsO_lst, tyO_tup, tyO_lst, tyO_dK, tyN_non, tyN_bl, tyN_int, tyN_str, tyN_ref, tyNs_lt, isB, upd_same, upd_upd, sizeLine_eq, List.mem_cons, String.reduceBEq, String.reduceEq, Bool.or_false, Bool.or_true, Bool.and_false, Bool.false_or, Bool.and_self, Bool.false_and, Bool.not_false, Bool.not_true, List.any_cons, List.any_nil, atI_0, setI_0, atI_1, setI_1, atI_2, setI_2, atI_3, setI_3, atI_4, setI_4, atI_5, setI_5, atI_6, setI_6, tAsg, gName, tOp, tUn, tVar, tC, tCons, L2.tNil, tRet, tIfS, tTest, tCB, tCall, rI, rI0, rU, tNext, tB, tAnd, tOr, tNot, tAndV, tOrV, tNotV, tDrop, tIf, tPar, gSub, rIxL, rIxT, rEq, rNe, rSetL, tBits,
    L2.start, List.map_cons, List.map_nil, List.cons_append, List.nil_append, List.append_nil, List.length_cons, List.length_nil, List.replicate, Nat.reduceAdd, Nat.reduceSub, Nat.zero_add, List.getElem?_cons_zero, List.getElem?_cons_succ, List.set_cons_zero, List.set_cons_succ,
    Option.some.injEq, exists_eq_left', exists_eq_left, V.int.injEq, V.bl.injEq, V.ref.injEq, V.str.injEq, List.cons.injEq, reduceCtorEq, and_true, true_and, false_and, and_false, exists_false, or_false, false_or, or_true, true_or, exists_const, CMul, CDiv, CPow, and_assoc, exists_and_left, exists_and_right, Int.reducePow, Int.reduceNeg, Int.reduceLT, Int.reduceLE, Nat.reducePow, Nat.reduceLT, Int.reduceToNat, gt_iff_lt, ge_iff_le, decide_eq_true_eq, Bool.not_eq_true', decide_eq_false_iff_not, scal, ↓reduceIte, Bool.false_eq_true]
        exact h') (by simp [tyN]) (fr2_neg (by omega)) (by simp)) mkA_nil)))) (by decide) fun ws p2 H5 s5 hp2 kp5 hn5 hv5 hl5 => ?_
    refine ⟨p, p2, vs, ws, rfl, rfl, s5 _ _ hl, hl5, by rw [hn, hn5, sizeLine_eq]; omega, fun p3 h3 => ?_⟩
    have s6 : Same H3 (upd H5 p3 (.lst (vs ++ ws))) := s4.trans (s5.trans (Same.new h3 _))
    have st6 := st3.same s6
    obtain ⟨ys, hys⟩ := (st3.same (s4.trans s5)).at
    refine ⟨s, p3, vs ++ ws, rfl, st6, upd_same, ne_of_none hys h3, by rw [List.length_append, hn, hn5]; omega, by rw [List.length_append, hn, hn5]; omega, fun v H' hm kp' st' => k v H' (Gd.kp kp' st' ?_) (kp.trans (kp2.trans (kp3.trans ((Kp.same s6).trans kp')))) st'⟩
    rw [List.mem_append] at hm
    rcases hm with hm | hm
    · exact (hv v hm).same (s5.trans (Same.new h3 _))
    · exact (hv5 v hm).same (Same.new h3 _)
  · simp only [cx_K, tNext, tSeq, tAsg, gName]
    refine lsX (R := Gd K) (fun _ _ _ s h => Gd.same s h) (mkL_cons (R := Gd K) (fun _ _ _ s h => Gd.same s h) (mk_tc (K := K) [.int (2), .int (4)] (fun σ H Q h => h) rfl rfl) (mkL_cons (R := Gd K) (fun _ _ _ s h => Gd.same s h) (mk_tc (K := K) [.int (0), .int (2)] (fun σ H Q h => h) rfl rfl) (mkL_cons (R := Gd K) (fun _ _ _ s h => Gd.same s h) (mk_tc (K := K) [.int (0), .int (0)] (fun σ H Q h => h) rfl rfl) (mkL_cons (R := Gd K) (fun _ _ _ s h => Gd.same s h) (mk_tc (K := K) [.int (1), .int (0)] (fun σ H Q h => h) rfl rfl) (mkL_cons (R := Gd K) (fun _ _ _ s h => Gd.same s h) (mk_tc (K := K) [.int (1), .int (-2)] (fun σ H Q h => ⟨2, rfl, h⟩) rfl rfl) (mkL_cons (R := Gd K) (fun _ _ _ s h => Gd.same s h) (mk_tc (K := K) [.int (0), .int (-1)] (fun σ H Q h => ⟨1, rfl, h⟩) rfl rfl) (mkL_cons (R := Gd K) (fun _ _ _ s h => Gd.same s h) (mk_tc (K := K) [.bl true, .int (1)] (fun σ H Q h => h) rfl rfl) (mkL_cons (R := Gd K) (fun _ _ _ s h => Gd.same s h) (mk_tc (K := K) [.bl false, .int (1)] (fun σ H Q h => h) rfl rfl) (mkL_cons (R := Gd K) (fun _ _ _ s h => Gd.same s h) (mk_tc (K := K) [.int (1), .bl true] (fun σ H Q h => h) rfl rfl) (mkL_cons (R := Gd K) (fun _ _ _ s h => Gd.same s h) (mk_tc (K := K) [.bl true, .int (2)] (fun σ H Q h => h) rfl rfl) (mkL_cons (R := Gd K) (fun _ _ _ s h => Gd.same s h) (mk_tc (K := K) [.int (1), .non] (fun σ H Q h => h) rfl rfl) mkL_nil))))))))))) (by decide) fun vs p H2 s2 hp kp2 hn hv hl => ?_
    simp only [tOp, tVar, L2.start, List.map_cons, List.map_nil, List.cons_append, List.nil_append, List.length_cons, List.length_nil, List.replicate, Nat.reduceAdd, Nat.reduceSub, List.set_cons_zero, List.set_cons_succ, List.getElem?_cons_zero, List.getElem?_cons_succ, Option.some.injEq, exists_eq_left']
    refine lsX (R := Gd K) (fun _ _ _ s h => Gd.same s h) (mkL_cons (R := Gd K) (fun _ _ _ s h => Gd.same s h) (mk_tc (K := K) [.str "1", .int (2)] (fun σ H Q h => h) rfl rfl) (mkL_cons (R := Gd K) (fun _ _ _ s h => Gd.same s h) (mk_ls (K := K) (mkL_cons (R := fun _ _ => True) (fun _ _ _ _ _ => True.intro) (mk_any (mk_c (K := K) rfl)) (mkL_cons (R := fun _ _ => True) (fun _ _ _ _ _ => True.intro) (mk_any (mk_c (K := K) rfl)) mkL_nil))) (mkL_cons (R := Gd K) (fun _ _ _ s h => Gd.same s h) (mk_tc (K := K) [] (fun σ H Q h => h) rfl rfl) (mkL_cons (R := Gd K) (fun _ _ _ s h => Gd.same s h) (mk_tc (K := K) [.int (1)] (fun σ H Q h => h) rfl rfl) (mkL_cons (R := Gd K) (fun _ _ _ s h => Gd.same s h) (mk_tc (K := K) [.int (1), .int (2), .int (1)] (fun σ H Q h => h) rfl rfl) (mkL_cons (R := Gd K) (fun _ _ _ s h => Gd.same s h) (mk_ls (K := K) (mkL_cons (R := fun _ _ => True) (fun _ _ _ _ _ => True.intro) (mk_tup (mkL_cons (R := fun _ _ => True) (fun _ _ _ _ _ => True.intro) (mk_any (mk_c (K := K) rfl)) (mkL_cons (R := fun _ _ => True) (fun _ _ _ _ _ => True.intro) (mk_any (mk_c (K := K) rfl)) mkL_nil))) mkL_nil)) mkL_nil)))))) (by decide) fun ws p' H3 s3 hp' kp3 hn' hv' hl' => ?_
    refine ⟨p, p', vs, ws, rfl, rfl, s3 _ _ hl, hl', by rw [hn, hn', sizeLine_eq]; omega, fun p3 h3 => ⟨_, rfl, _, rfl, ?_⟩⟩
    refine lsX (R := Gd K) (fun _ _ _ s h => Gd.same s h) (mkL_cons (R := Gd K) (fun _ _ _ s h => Gd.same s h) (mk_c (K := K) rfl) (mkL_cons (R := Gd K) (fun _ _ _ s h => Gd.same s h) (mk_c (K := K) rfl) (mkL_cons (R := Gd K) (fun _ _ _ s h => Gd.same s h) (mk_c (K := K) rfl) (mkL_cons (R := Gd K) (fun _ _ _ s h => Gd.same s h) (mk_c (K := K) rfl) (mkL_cons (R := Gd K) (fun _ _ _ s h => Gd.same s h) (mk_c (K := K) rfl) (mkL_cons (R := Gd K) (fun _ _ _ s h => Gd.same s h) (mk_c (K := K) rfl) (mkL_cons (R := Gd K) (fun _ _ _ s h => Gd.same s h) (mk_c (K := K) rfl) (mkL_cons (R := Gd K) (fun _ _ _ s h => Gd.same s h) (mk_dn (K := K)) mkL_nil)))))))) (by decide) fun us p4 H4 s4 hp4 kp4 hn4 hv4 hl4 => ?_
    refine ⟨p3, p4, vs ++ ws, us, rfl, rfl, s4 _ _ upd_same, hl4, by rw [List.length_append, hn, hn', hn4, sizeLine_eq]; omega, fun p5 h5 => ?_⟩
    have s5 : Same H1 (upd H4 p5 (.lst (vs ++ ws ++ us))) := s2.trans (s3.trans ((Same.new h3 _).trans (s4.trans (Same.new h5 _))))
    have st5 := st.same s5
    obtain ⟨ys, hys⟩ := (st.same (s2.trans (s3.trans ((Same.new h3 _).trans s4)))).at
    refine ⟨s, p5, vs ++ ws ++ us, rfl, st5, upd_same, ne_of_none hys h5, by rw [List.length_append, List.length_append, hn, hn', hn4]; omega, by rw [List.length_append, List.length_append, hn, hn', hn4]; omega, fun v H' hm kp' st' => k v H' (Gd.kp kp' st' ?_) (kp.trans ((Kp.same s5).trans kp')) st'⟩
    rw [List.mem_append, List.mem_append] at hm
    rcases hm with (hm | hm) | hm
    · exact (hv v hm).same (s3.trans ((Same.new h3 _).trans (s4.trans (Same.new h5 _))))
    · exact (hv' v hm).same ((Same.new h3 _).trans (s4.trans (Same.new h5 _)))
    · exact (hv4 v hm).same (Same.new h5 _)
end
end My

namespace My
open PySem PySem.Spec PyProof.Rows L2
section
variable {P : Program} {w : World} {K : PySem.W.Frag} {mg : Str → Option Value} {base : Heap}
theorem nf_int (w : Int) : Nf (w, 1) := ⟨by show (1 : Int) ≤ 1; omega, by show Int.gcd w 1 = 1; exact Int.gcd_one_right _⟩
theorem sz_of {x y : Int} {k : Nat} (h1 : x.natAbs < 2 ^ k) (h2 : y.natAbs < 2 ^ k) : Sz k (x, y) := ⟨h1, h2⟩
theorem ne_new {H : Hp} {s p : Addr} {ys : List V} (h : H s = some (.lst ys)) (hp : H p = none) : s ≠ p := ne_of_none h hp
/-- a place at a -/
structure Pq (K : PySem.W.Frag) (H : Hp) (n : Nat) (a : Addr) (q : Qt) : Prop where
  f : Fq K H n a q
  lo : 0 ≤ q.1
  hi : q.1 < q.2
theorem Pq.mono {H : Hp} {j n : Nat} {a : Addr} {q : Qt} (h : Pq K H j a q) (l : j ≤ n) : Pq K H n a q := ⟨h.f.mono l, h.lo, h.hi⟩
theorem Pq.same {H H' : Hp} {n : Nat} {a : Addr} {q : Qt} (h : Pq K H n a q) (s : Same H H') : Pq K H' n a q := ⟨h.f.same s, h.lo, h.hi⟩
theorem Pq.kp {H H' : Hp} {n : Nat} {a s : Addr} {q : Qt} {ys : List V} (h : Pq K H n a q) (e : Kp s H H') (hs : H s = some (.lst ys)) : Pq K H' n a q := ⟨h.f.kp e hs, h.lo, h.hi⟩
theorem is_in {q : Qt} {t b : Int} (h : Is q t b) (h0 : 0 ≤ t) (h1 : t < b) : 0 ≤ q.1 ∧ q.1 < q.2 := by
  have e := h.2
  have n := h.1.1
  have b0 : 0 < b := by omega
  refine ⟨Int.not_lt.mp fun c => ?_, Int.not_le.mp fun c => ?_⟩
  · have z1 : q.1 * b < 0 := Int.mul_neg_of_neg_of_pos c b0
    have z2 : 0 ≤ t * q.2 := Int.mul_nonneg h0 (by omega)
    omega
  · have z1 : q.2 * b ≤ q.1 * b := Int.mul_le_mul_of_nonneg_right c (by omega)
    have z2 : t * q.2 < b * q.2 := Int.mul_lt_mul_of_pos_right h1 (by omega)
    have z3 : q.2 * b = b * q.2 := Int.mul_comm _ _
    omega
def spDPlace (K : PySem.W.Frag) (n : Nat) : Sp := fun vs H Q _ => ∃ (s : Addr), vs = [.ref s] ∧ Sto K H s ∧ ∀ a q H', Pq K H' n a q → Kp s H H' → Sto K H' s → Q (.ref a) H'
theorem nf1112 : Nf (11, 12) := ⟨by decide, by decide⟩
theorem nf21 : Nf (2, 1) := ⟨by decide, by decide⟩
theorem nf112 : Nf (1, 12) := ⟨by decide, by decide⟩
abbrev sDPlace : Stmt := topS 67
theorem scDPlace : FnScope ["_law_store_here", "_law_spot", "_law_bottom"] ["_law_store_here"] (defScope sDPlace) := ⟨rfl, rfl, rfl, by decide +kernel, rfl, by decide +kernel, by decide +kernel⟩
theorem k_DPlace (T : Bt K mg) (D : Dfn K mg "_law_place" sDPlace ["_law_store_here"]) (d__law_take : Kn P w K mg base 2 "_law_take" ["_law_store_here", "_law_many"] (spTake K)) (d__law_lowest : Kn P w K mg base 2 "_law_lowest" ["_law_top", "_law_bottom"] (spLowest K)) : Kn P w K mg base 3 "_law_place" ["_law_store_here"] (spDPlace K 10) := by
  refine Kn.mk' D scDPlace (fun vs H Q E h => ?_) (fun f cdv A outer s H vs Q E hr h => ?_)
  · obtain ⟨s, rfl, _⟩ := h
    rfl
  obtain ⟨s, rfl, hS, k⟩ := h
  refine ⟨_, (pss_cons (ps_set (i := 1) scDPlace.nd rfl (.inl rfl) (pe_kn d__law_take hr (by rfl) (pa_cons (pv 0) (pa_cons pe_int pa_nil))))
      (pss_cons (ps_if (pt_cmpR op_lt (pv 1) pe_int (nomark _)) (pss_one (ps_ret (pe_ix ix_any (pe_ls (pa_cons (pe_tp (pa_cons pe_int (pa_cons pe_int pa_nil))) (pa_cons (pe_tp (pa_cons pe_int (pa_cons pe_int pa_nil))) (pa_cons (pe_tp (pa_cons pe_int (pa_cons pe_int pa_nil))) pa_nil)))) (pv 1) (fun _ _ => rfl)))) pss_nil)
      (pss_cons (ps_set (i := 2) scDPlace.nd rfl (.inl rfl) (pe_op op_add pe_int (pe_kn d__law_take hr (by rfl) (pa_cons (pv 0) (pa_cons pe_int pa_nil)))))
      (pss_one (ps_ret (pe_kn d__law_lowest hr (by rfl) (pa_cons (pe_kn d__law_take hr (by rfl) (pa_cons (pv 0) (pa_cons (pv 2) pa_nil))) (pa_cons (pv 2) pa_nil)))))))), ?_⟩
  simp only [cx_K, decide_true, decide_false, reduceCtorEq, gTp, gCons, gNil, ca_0, ca_1, ca_2, ca_3, ca_4, ca_5, ca_6, ca_7, ca_8, ca_9, ca_10, ca_11, ca_12, ca_13, ca_14, ca_15, ca_16, ca_17, ca_18, ca_19, ca_20, ca_21, ca_22, ca_23, ca_24, ca_25, ca_26, ca_27, ca_28, ca_29, ca_30, not_true_eq_false, not_false_eq_true, Int.reduceEq, Nat.reduceEqDiff, Nat.reduceLeDiff, rGcd, V.ty.injEq, eq_self, List.not_mem_nil, beq_self_eq_true, HO.lst.injEq, HO.tup.injEq, tFor_eq, iRng1, iList, iTup, nat10, tSeq, rIxA, rSetA, rIsN, rIsT, tTp, tLs, itsO_tup, itsO_lst, tyO_tup, tyO_lst, tyO_dK, tyN_non, tyN_bl, tyN_int, tyN_str, tyN_ref, tyNs_lt, isB, upd_same, upd_upd, sizeLine_eq, List.mem_cons, String.reduceBEq, String.reduceEq, Bool.or_false, Bool.or_true, Bool.and_false, Bool.false_or, Bool.and_self, Bool.false_and, Bool.not_false, Bool.not_true, List.any_cons, List.any_nil, atI_0, setI_0, atI_1, setI_1, atI_2, setI_2, atI_3, setI_3, atI_4, setI_4, atI_5, setI_5, atI_6, setI_6, tAsg, gName, tOp, tUn, tVar, tC, tCons, L2.tNil, tRet, tIfS, tTest, tCB, tCall, rI, rI0, rU, tNext, tB, tAnd, tOr, tNot, tAndV, tOrV, tNotV, tDrop, tIf, tPar, gSub, rIxL, rIxT, rEq, rNe, rSetL, tBits,
    L2.start, List.map_cons, List.map_nil, List.cons_append, List.nil_append, List.append_nil, List.length_cons, List.length_nil, List.replicate, Nat.reduceAdd, Nat.reduceSub, Nat.zero_add, List.getElem?_cons_zero, List.getElem?_cons_succ, List.set_cons_zero, List.set_cons_succ,
    Option.some.injEq, exists_eq_left', exists_eq_left, V.int.injEq, V.bl.injEq, V.ref.injEq, V.str.injEq, List.cons.injEq, reduceCtorEq, and_true, true_and, false_and, and_false, exists_false, or_false, false_or, or_true, true_or, exists_const, CMul, CDiv, CPow, and_assoc, exists_and_left, exists_and_right, Int.reducePow, Int.reduceNeg, Int.reduceLT, Int.reduceLE, Nat.reducePow, Nat.reduceLT, Int.reduceToNat, gt_iff_lt, ge_iff_le, decide_eq_true_eq, Bool.not_eq_true', decide_eq_false_iff_not, scal, ↓reduceIte, Bool.false_eq_true]
  refine ⟨s, 12, rfl, hS, by omega, fun i H1 z0 z1 kp st => ?_⟩
  simp only [cx_K, decide_true, decide_false, reduceCtorEq, gTp, gCons, gNil, ca_0, ca_1, ca_2, ca_3, ca_4, ca_5, ca_6, ca_7, ca_8, ca_9, ca_10, ca_11, ca_12, ca_13, ca_14, ca_15, ca_16, ca_17, ca_18, ca_19, ca_20, ca_21, ca_22, ca_23, ca_24, ca_25, ca_26, ca_27, ca_28, ca_29, ca_30, not_true_eq_false, not_false_eq_true, Int.reduceEq, Nat.reduceEqDiff, Nat.reduceLeDiff, rGcd, V.ty.injEq, eq_self, List.not_mem_nil, beq_self_eq_true, HO.lst.injEq, HO.tup.injEq, tFor_eq, iRng1, iList, iTup, nat10, tSeq, rIxA, rSetA, rIsN, rIsT, tTp, tLs, itsO_tup, itsO_lst, tyO_tup, tyO_lst, tyO_dK, tyN_non, tyN_bl, tyN_int, tyN_str, tyN_ref, tyNs_lt, isB, upd_same, upd_upd, sizeLine_eq, List.mem_cons, String.reduceBEq, String.reduceEq, Bool.or_false, Bool.or_true, Bool.and_false, Bool.false_or, Bool.and_self, Bool.false_and, Bool.not_false, Bool.not_true, List.any_cons, List.any_nil, atI_0, setI_0, atI_1, setI_1, atI_2, setI_2, atI_3, setI_3, atI_4, setI_4, atI_5, setI_5, atI_6, setI_6, tAsg, gName, tOp, tUn, tVar, tC, tCons, L2.tNil, tRet, tIfS, tTest, tCB, tCall, rI, rI0, rU, tNext, tB, tAnd, tOr, tNot, tAndV, tOrV, tNotV, tDrop, tIf, tPar, gSub, rIxL, rIxT, rEq, rNe, rSetL, tBits,
    L2.start, List.map_cons, List.map_nil, List.cons_append, List.nil_append, List.append_nil, List.length_cons, List.length_nil, List.replicate, Nat.reduceAdd, Nat.reduceSub, Nat.zero_add, List.getElem?_cons_zero, List.getElem?_cons_succ, List.set_cons_zero, List.set_cons_succ,
    Option.some.injEq, exists_eq_left', exists_eq_left, V.int.injEq, V.bl.injEq, V.ref.injEq, V.str.injEq, List.cons.injEq, reduceCtorEq, and_true, true_and, false_and, and_false, exists_false, or_false, false_or, or_true, true_or, exists_const, CMul, CDiv, CPow, and_assoc, exists_and_left, exists_and_right, Int.reducePow, Int.reduceNeg, Int.reduceLT, Int.reduceLE, Nat.reducePow, Nat.reduceLT, Int.reduceToNat, gt_iff_lt, ge_iff_le, decide_eq_true_eq, Bool.not_eq_true', decide_eq_false_iff_not, scal, ↓reduceIte, Bool.false_eq_true]
  refine ite2 (fun h => ?_) (fun h => ?_)
  · intro p1 h1 k1 p2 h2 k2 p3 h3 k3 p4 h4 k4
    rw [ob_new k4]
    simp only [cx_K, decide_true, decide_false, reduceCtorEq, gTp, gCons, gNil, ca_0, ca_1, ca_2, ca_3, ca_4, ca_5, ca_6, ca_7, ca_8, ca_9, ca_10, ca_11, ca_12, ca_13, ca_14, ca_15, ca_16, ca_17, ca_18, ca_19, ca_20, ca_21, ca_22, ca_23, ca_24, ca_25, ca_26, ca_27, ca_28, ca_29, ca_30, not_true_eq_false, not_false_eq_true, Int.reduceEq, Nat.reduceEqDiff, Nat.reduceLeDiff, rGcd, V.ty.injEq, eq_self, List.not_mem_nil, beq_self_eq_true, HO.lst.injEq, HO.tup.injEq, tFor_eq, iRng1, iList, iTup, nat10, tSeq, rIxA, rSetA, rIsN, rIsT, tTp, tLs, itsO_tup, itsO_lst, tyO_tup, tyO_lst, tyO_dK, tyN_non, tyN_bl, tyN_int, tyN_str, tyN_ref, tyNs_lt, isB, upd_same, upd_upd, sizeLine_eq, List.mem_cons, String.reduceBEq, String.reduceEq, Bool.or_false, Bool.or_true, Bool.and_false, Bool.false_or, Bool.and_self, Bool.false_and, Bool.not_false, Bool.not_true, List.any_cons, List.any_nil, atI_0, setI_0, atI_1, setI_1, atI_2, setI_2, atI_3, setI_3, atI_4, setI_4, atI_5, setI_5, atI_6, setI_6, tAsg, gName, tOp, tUn, tVar, tC, tCons, L2.tNil, tRet, tIfS, tTest, tCB, tCall, rI, rI0, rU, tNext, tB, tAnd, tOr, tNot, tAndV, tOrV, tNotV, tDrop, tIf, tPar, gSub, rIxL, rIxT, rEq, rNe, rSetL, tBits,
    L2.start, List.map_cons, List.map_nil, List.cons_append, List.nil_append, List.append_nil, List.length_cons, List.length_nil, List.replicate, Nat.reduceAdd, Nat.reduceSub, Nat.zero_add, List.getElem?_cons_zero, List.getElem?_cons_succ, List.set_cons_zero, List.set_cons_succ,
    Option.some.injEq, exists_eq_left', exists_eq_left, V.int.injEq, V.bl.injEq, V.ref.injEq, V.str.injEq, List.cons.injEq, reduceCtorEq, and_true, true_and, false_and, and_false, exists_false, or_false, false_or, or_true, true_or, exists_const, CMul, CDiv, CPow, and_assoc, exists_and_left, exists_and_right, Int.reducePow, Int.reduceNeg, Int.reduceLT, Int.reduceLE, Nat.reducePow, Nat.reduceLT, Int.reduceToNat, gt_iff_lt, ge_iff_le, decide_eq_true_eq, Bool.not_eq_true', decide_eq_false_iff_not, scal, ↓reduceIte, Bool.false_eq_true]
    refine menu z0 (by show i < 3; omega) fun v hv => ?_
    simp only [List.mem_cons, List.not_mem_nil, or_false] at hv
    rcases hv with rfl | rfl | rfl
    · exact k _ _ _ ⟨⟨ob_same ((Same.new h2 _).trans ((Same.new h3 _).trans (Same.new h4 _))) (ob_new k1), nf01, sz10 (by decide) (by decide)⟩, by decide, by decide⟩ (kp.trans (Kp.same ((Same.new h1 _).trans ((Same.new h2 _).trans ((Same.new h3 _).trans (Same.new h4 _)))))) (st.same ((Same.new h1 _).trans ((Same.new h2 _).trans ((Same.new h3 _).trans (Same.new h4 _)))))
    · exact k _ _ _ ⟨⟨ob_same ((Same.new h3 _).trans (Same.new h4 _)) (ob_new k2), nf12, sz10 (by decide) (by decide)⟩, by decide, by decide⟩ (kp.trans (Kp.same ((Same.new h1 _).trans ((Same.new h2 _).trans ((Same.new h3 _).trans (Same.new h4 _)))))) (st.same ((Same.new h1 _).trans ((Same.new h2 _).trans ((Same.new h3 _).trans (Same.new h4 _)))))
    · exact k _ _ _ ⟨⟨ob_same (Same.new h4 _) (ob_new k3), nf1112, sz10 (by decide) (by decide)⟩, by decide, by decide⟩ (kp.trans (Kp.same ((Same.new h1 _).trans ((Same.new h2 _).trans ((Same.new h3 _).trans (Same.new h4 _)))))) (st.same ((Same.new h1 _).trans ((Same.new h2 _).trans ((Same.new h3 _).trans (Same.new h4 _)))))
  · refine ⟨s, 12, rfl, st, by omega, fun j H2 j0 j1 kp2 st2 => ?_⟩
    simp only [cx_K, decide_true, decide_false, reduceCtorEq, gTp, gCons, gNil, ca_0, ca_1, ca_2, ca_3, ca_4, ca_5, ca_6, ca_7, ca_8, ca_9, ca_10, ca_11, ca_12, ca_13, ca_14, ca_15, ca_16, ca_17, ca_18, ca_19, ca_20, ca_21, ca_22, ca_23, ca_24, ca_25, ca_26, ca_27, ca_28, ca_29, ca_30, not_true_eq_false, not_false_eq_true, Int.reduceEq, Nat.reduceEqDiff, Nat.reduceLeDiff, rGcd, V.ty.injEq, eq_self, List.not_mem_nil, beq_self_eq_true, HO.lst.injEq, HO.tup.injEq, tFor_eq, iRng1, iList, iTup, nat10, tSeq, rIxA, rSetA, rIsN, rIsT, tTp, tLs, itsO_tup, itsO_lst, tyO_tup, tyO_lst, tyO_dK, tyN_non, tyN_bl, tyN_int, tyN_str, tyN_ref, tyNs_lt, isB, upd_same, upd_upd, sizeLine_eq, List.mem_cons, String.reduceBEq, String.reduceEq, Bool.or_false, Bool.or_true, Bool.and_false, Bool.false_or, Bool.and_self, Bool.false_and, Bool.not_false, Bool.not_true, List.any_cons, List.any_nil, atI_0, setI_0, atI_1, setI_1, atI_2, setI_2, atI_3, setI_3, atI_4, setI_4, atI_5, setI_5, atI_6, setI_6, tAsg, gName, tOp, tUn, tVar, tC, tCons, L2.tNil, tRet, tIfS, tTest, tCB, tCall, rI, rI0, rU, tNext, tB, tAnd, tOr, tNot, tAndV, tOrV, tNotV, tDrop, tIf, tPar, gSub, rIxL, rIxT, rEq, rNe, rSetL, tBits,
    L2.start, List.map_cons, List.map_nil, List.cons_append, List.nil_append, List.append_nil, List.length_cons, List.length_nil, List.replicate, Nat.reduceAdd, Nat.reduceSub, Nat.zero_add, List.getElem?_cons_zero, List.getElem?_cons_succ, List.set_cons_zero, List.set_cons_succ,
    Option.some.injEq, exists_eq_left', exists_eq_left, V.int.injEq, V.bl.injEq, V.ref.injEq, V.str.injEq, List.cons.injEq, reduceCtorEq, and_true, true_and, false_and, and_false, exists_false, or_false, false_or, or_true, true_or, exists_const, CMul, CDiv, CPow, and_assoc, exists_and_left, exists_and_right, Int.reducePow, Int.reduceNeg, Int.reduceLT, Int.reduceLE, Nat.reducePow, Nat.reduceLT, Int.reduceToNat, gt_iff_lt, ge_iff_le, decide_eq_true_eq, Bool.not_eq_true', decide_eq_false_iff_not, scal, ↓reduceIte, Bool.false_eq_true]
    refine ⟨s, _, rfl, st2, by omega, fun m H3 m0 m1 kp3 st3 => ?_⟩
    simp only [cx_K, decide_true, decide_false, reduceCtorEq, gTp, gCons, gNil, ca_0, ca_1, ca_2, ca_3, ca_4, ca_5, ca_6, ca_7, ca_8, ca_9, ca_10, ca_11, ca_12, ca_13, ca_14, ca_15, ca_16, ca_17, ca_18, ca_19, ca_20, ca_21, ca_22, ca_23, ca_24, ca_25, ca_26, ca_27, ca_28, ca_29, ca_30, not_true_eq_false, not_false_eq_true, Int.reduceEq, Nat.reduceEqDiff, Nat.reduceLeDiff, rGcd, V.ty.injEq, eq_self, List.not_mem_nil, beq_self_eq_true, HO.lst.injEq, HO.tup.injEq, tFor_eq, iRng1, iList, iTup, nat10, tSeq, rIxA, rSetA, rIsN, rIsT, tTp, tLs, itsO_tup, itsO_lst, tyO_tup, tyO_lst, tyO_dK, tyN_non, tyN_bl, tyN_int, tyN_str, tyN_ref, tyNs_lt, isB, upd_same, upd_upd, sizeLine_eq, List.mem_cons, String.reduceBEq, String.reduceEq, Bool.or_false, Bool.or_true, Bool.and_false, Bool.false_or, Bool.and_self, Bool.false_and, Bool.not_false, Bool.not_true, List.any_cons, List.any_nil, atI_0, setI_0, atI_1, setI_1, atI_2, setI_2, atI_3, setI_3, atI_4, setI_4, atI_5, setI_5, atI_6, setI_6, tAsg, gName, tOp, tUn, tVar, tC, tCons, L2.tNil, tRet, tIfS, tTest, tCB, tCall, rI, rI0, rU, tNext, tB, tAnd, tOr, tNot, tAndV, tOrV, tNotV, tDrop, tIf, tPar, gSub, rIxL, rIxT, rEq, rNe, rSetL, tBits,
    L2.start, List.map_cons, List.map_nil, List.cons_append, List.nil_append, List.append_nil, List.length_cons, List.length_nil, List.replicate, Nat.reduceAdd, Nat.reduceSub, Nat.zero_add, List.getElem?_cons_zero, List.getElem?_cons_succ, List.set_cons_zero, List.set_cons_succ,
    Option.some.injEq, exists_eq_left', exists_eq_left, V.int.injEq, V.bl.injEq, V.ref.injEq, V.str.injEq, List.cons.injEq, reduceCtorEq, and_true, true_and, false_and, and_false, exists_false, or_false, false_or, or_true, true_or, exists_const, CMul, CDiv, CPow, and_assoc, exists_and_left, exists_and_right, Int.reducePow, Int.reduceNeg, Int.reduceLT, Int.reduceLE, Nat.reducePow, Nat.reduceLT, Int.reduceToNat, gt_iff_lt, ge_iff_le, decide_eq_true_eq, Bool.not_eq_true', decide_eq_false_iff_not, scal, ↓reduceIte, Bool.false_eq_true]
    refine ⟨_, _, rfl, ?_, fun q hq p H4 s4 o4 => ?_⟩
    · have e : 2 ^ 10 ≤ 2 ^ 8000 := Nat.pow_le_pow_right (by omega) (by omega)
      omega
    · have hI := hq.2 (show 1 + j ≠ 0 by omega)
      have hz := is_in hI m0 (by omega)
      exact k p q H4 ⟨⟨o4, hI.1, is_sz (by omega) hI (by omega) (by omega)⟩, hz.1, hz.2⟩ (((kp.trans kp2).trans kp3).trans (Kp.same s4)) (st3.same s4)
abbrev sDPlaceW : Stmt := topS 68
theorem scDPlaceW : FnScope ["_law_store_here", "_law_bottom"] ["_law_store_here"] (defScope sDPlaceW) := ⟨rfl, rfl, rfl, by decide +kernel, rfl, by decide +kernel, by decide +kernel⟩
theorem k_DPlaceW (T : Bt K mg) (D : Dfn K mg "_law_place_wide" sDPlaceW ["_law_store_here"]) (d__law_take : Kn P w K mg base 2 "_law_take" ["_law_store_here", "_law_many"] (spTake K)) (d__law_lowest : Kn P w K mg base 2 "_law_lowest" ["_law_top", "_law_bottom"] (spLowest K)) (d__law_place : Kn P w K mg base 3 "_law_place" ["_law_store_here"] (spDPlace K 10)) (d__law_great : Kn P w K mg base 3 "_law_great" ["_law_store_here"] (spInt K fun n => n.natAbs < 2 ^ 133)) : Kn P w K mg base 4 "_law_place_wide" ["_law_store_here"] (spDPlace K 133) := by
  refine Kn.mk' D scDPlaceW (fun vs H Q E h => ?_) (fun f cdv A outer s H vs Q E hr h => ?_)
  · obtain ⟨s, rfl, _⟩ := h
    rfl
  obtain ⟨s, rfl, hS, k⟩ := h
  refine ⟨_, (pss_cons (ps_if (pt_cmpR op_gt (pe_kn d__law_take hr (by rfl) (pa_cons (pv 0) (pa_cons pe_int pa_nil))) pe_int (nomark _)) (pss_one (ps_ret (pe_kn d__law_place hr (by rfl) (pa_cons (pv 0) pa_nil)))) pss_nil)
      (pss_cons (ps_set (i := 1) scDPlaceW.nd rfl (.inl rfl) (pe_callB (call_max2 rfl) (by rfl) T.b_max (by decide +kernel) (pa_cons pe_int (pa_cons (pe_callB call_abs (by rfl) T.b_abs (by decide +kernel) (pa_cons (pe_kn d__law_great hr (by rfl) (pa_cons (pv 0) pa_nil)) pa_nil)) pa_nil))))
      (pss_one (ps_ret (pe_kn d__law_lowest hr (by rfl) (pa_cons (pe_kn d__law_take hr (by rfl) (pa_cons (pv 0) (pa_cons (pv 1) pa_nil))) (pa_cons (pv 1) pa_nil))))))), ?_⟩
  simp only [cx_K, decide_true, decide_false, reduceCtorEq, gTp, gCons, gNil, ca_0, ca_1, ca_2, ca_3, ca_4, ca_5, ca_6, ca_7, ca_8, ca_9, ca_10, ca_11, ca_12, ca_13, ca_14, ca_15, ca_16, ca_17, ca_18, ca_19, ca_20, ca_21, ca_22, ca_23, ca_24, ca_25, ca_26, ca_27, ca_28, ca_29, ca_30, not_true_eq_false, not_false_eq_true, Int.reduceEq, Nat.reduceEqDiff, Nat.reduceLeDiff, rGcd, V.ty.injEq, eq_self, List.not_mem_nil, beq_self_eq_true, HO.lst.injEq, HO.tup.injEq, tFor_eq, iRng1, iList, iTup, nat10, tSeq, rIxA, rSetA, rIsN, rIsT, tTp, tLs, itsO_tup, itsO_lst, tyO_tup, tyO_lst, tyO_dK, tyN_non, tyN_bl, tyN_int, tyN_str, tyN_ref, tyNs_lt, isB, upd_same, upd_upd, sizeLine_eq, List.mem_cons, String.reduceBEq, String.reduceEq, Bool.or_false, Bool.or_true, Bool.and_false, Bool.false_or, Bool.and_self, Bool.false_and, Bool.not_false, Bool.not_true, List.any_cons, List.any_nil, atI_0, setI_0, atI_1, setI_1, atI_2, setI_2, atI_3, setI_3, atI_4, setI_4, atI_5, setI_5, atI_6, setI_6, tAsg, gName, tOp, tUn, tVar, tC, tCons, L2.tNil, tRet, tIfS, tTest, tCB, tCall, rI, rI0, rU, tNext, tB, tAnd, tOr, tNot, tAndV, tOrV, tNotV, tDrop, tIf, tPar, gSub, rIxL, rIxT, rEq, rNe, rSetL, tBits,
    L2.start, List.map_cons, List.map_nil, List.cons_append, List.nil_append, List.append_nil, List.length_cons, List.length_nil, List.replicate, Nat.reduceAdd, Nat.reduceSub, Nat.zero_add, List.getElem?_cons_zero, List.getElem?_cons_succ, List.set_cons_zero, List.set_cons_succ,
    Option.some.injEq, exists_eq_left', exists_eq_left, V.int.injEq, V.bl.injEq, V.ref.injEq, V.str.injEq, List.cons.injEq, reduceCtorEq, and_true, true_and, false_and, and_false, exists_false, or_false, false_or, or_true, true_or, exists_const, CMul, CDiv, CPow, and_assoc, exists_and_left, exists_and_right, Int.reducePow, Int.reduceNeg, Int.reduceLT, Int.reduceLE, Nat.reducePow, Nat.reduceLT, Int.reduceToNat, gt_iff_lt, ge_iff_le, decide_eq_true_eq, Bool.not_eq_true', decide_eq_false_iff_not, scal, ↓reduceIte, Bool.false_eq_true]
  refine ⟨s, 8, rfl, hS, by omega, fun i H1 z0 z1 kp st => ?_⟩
  simp only [cx_K, decide_true, decide_false, reduceCtorEq, gTp, gCons, gNil, ca_0, ca_1, ca_2, ca_3, ca_4, ca_5, ca_6, ca_7, ca_8, ca_9, ca_10, ca_11, ca_12, ca_13, ca_14, ca_15, ca_16, ca_17, ca_18, ca_19, ca_20, ca_21, ca_22, ca_23, ca_24, ca_25, ca_26, ca_27, ca_28, ca_29, ca_30, not_true_eq_false, not_false_eq_true, Int.reduceEq, Nat.reduceEqDiff, Nat.reduceLeDiff, rGcd, V.ty.injEq, eq_self, List.not_mem_nil, beq_self_eq_true, HO.lst.injEq, HO.tup.injEq, tFor_eq, iRng1, iList, iTup, nat10, tSeq, rIxA, rSetA, rIsN, rIsT, tTp, tLs, itsO_tup, itsO_lst, tyO_tup, tyO_lst, tyO_dK, tyN_non, tyN_bl, tyN_int, tyN_str, tyN_ref, tyNs_lt, isB, upd_same, upd_upd, sizeLine_eq, List.mem_cons, String.reduceBEq, String.reduceEq, Bool.or_false, Bool.or_true, Bool.and_false, Bool.false_or, Bool.and_self, Bool.false_and, Bool.not_false, Bool.not_true, List.any_cons, List.any_nil, atI_0, setI_0, atI_1, setI_1, atI_2, setI_2, atI_3, setI_3, atI_4, setI_4, atI_5, setI_5, atI_6, setI_6, tAsg, gName, tOp, tUn, tVar, tC, tCons, L2.tNil, tRet, tIfS, tTest, tCB, tCall, rI, rI0, rU, tNext, tB, tAnd, tOr, tNot, tAndV, tOrV, tNotV, tDrop, tIf, tPar, gSub, rIxL, rIxT, rEq, rNe, rSetL, tBits,
    L2.start, List.map_cons, List.map_nil, List.cons_append, List.nil_append, List.append_nil, List.length_cons, List.length_nil, List.replicate, Nat.reduceAdd, Nat.reduceSub, Nat.zero_add, List.getElem?_cons_zero, List.getElem?_cons_succ, List.set_cons_zero, List.set_cons_succ,
    Option.some.injEq, exists_eq_left', exists_eq_left, V.int.injEq, V.bl.injEq, V.ref.injEq, V.str.injEq, List.cons.injEq, reduceCtorEq, and_true, true_and, false_and, and_false, exists_false, or_false, false_or, or_true, true_or, exists_const, CMul, CDiv, CPow, and_assoc, exists_and_left, exists_and_right, Int.reducePow, Int.reduceNeg, Int.reduceLT, Int.reduceLE, Nat.reducePow, Nat.reduceLT, Int.reduceToNat, gt_iff_lt, ge_iff_le, decide_eq_true_eq, Bool.not_eq_true', decide_eq_false_iff_not, scal, ↓reduceIte, Bool.false_eq_true]
  have big : 2 ^ 133 ≤ 2 ^ 8000 := Nat.pow_le_pow_right (by omega) (by omega)
  refine ite2 (fun h => ?_) (fun h => ?_)
  · exact ⟨s, rfl, st, fun a q H2 hq kp2 st2 => k a q H2 (hq.mono (by omega)) (kp.trans kp2) st2⟩
  · refine ⟨s, rfl, st, fun b H3 hb kp3 st3 => ?_⟩
    simp only [abs_if, cx_K, decide_true, decide_false, reduceCtorEq, gTp, gCons, gNil, ca_0, ca_1, ca_2, ca_3, ca_4, ca_5, ca_6, ca_7, ca_8, ca_9, ca_10, ca_11, ca_12, ca_13, ca_14, ca_15, ca_16, ca_17, ca_18, ca_19, ca_20, ca_21, ca_22, ca_23, ca_24, ca_25, ca_26, ca_27, ca_28, ca_29, ca_30, not_true_eq_false, not_false_eq_true, Int.reduceEq, Nat.reduceEqDiff, Nat.reduceLeDiff, rGcd, V.ty.injEq, eq_self, List.not_mem_nil, beq_self_eq_true, HO.lst.injEq, HO.tup.injEq, tFor_eq, iRng1, iList, iTup, nat10, tSeq, rIxA, rSetA, rIsN, rIsT, tTp, tLs, itsO_tup, itsO_lst, tyO_tup, tyO_lst, tyO_dK, tyN_non, tyN_bl, tyN_int, tyN_str, tyN_ref, tyNs_lt, isB, upd_same, upd_upd, sizeLine_eq, List.mem_cons, String.reduceBEq, String.reduceEq, Bool.or_false, Bool.or_true, Bool.and_false, Bool.false_or, Bool.and_self, Bool.false_and, Bool.not_false, Bool.not_true, List.any_cons, List.any_nil, atI_0, setI_0, atI_1, setI_1, atI_2, setI_2, atI_3, setI_3, atI_4, setI_4, atI_5, setI_5, atI_6, setI_6, tAsg, gName, tOp, tUn, tVar, tC, tCons, L2.tNil, tRet, tIfS, tTest, tCB, tCall, rI, rI0, rU, tNext, tB, tAnd, tOr, tNot, tAndV, tOrV, tNotV, tDrop, tIf, tPar, gSub, rIxL, rIxT, rEq, rNe, rSetL, tBits,
    L2.start, List.map_cons, List.map_nil, List.cons_append, List.nil_append, List.append_nil, List.length_cons, List.length_nil, List.replicate, Nat.reduceAdd, Nat.reduceSub, Nat.zero_add, List.getElem?_cons_zero, List.getElem?_cons_succ, List.set_cons_zero, List.set_cons_succ,
    Option.some.injEq, exists_eq_left', exists_eq_left, V.int.injEq, V.bl.injEq, V.ref.injEq, V.str.injEq, List.cons.injEq, reduceCtorEq, and_true, true_and, false_and, and_false, exists_false, or_false, false_or, or_true, true_or, exists_const, CMul, CDiv, CPow, and_assoc, exists_and_left, exists_and_right, Int.reducePow, Int.reduceNeg, Int.reduceLT, Int.reduceLE, Nat.reducePow, Nat.reduceLT, Int.reduceToNat, gt_iff_lt, ge_iff_le, decide_eq_true_eq, Bool.not_eq_true', decide_eq_false_iff_not, scal, ↓reduceIte, Bool.false_eq_true]
    have hd : 1 ≤ (if 1 < (b.natAbs : Int) then (b.natAbs : Int) else 1) ∧ (if 1 < (b.natAbs : Int) then (b.natAbs : Int) else 1).natAbs < 2 ^ 133 := by
      have hb' : b.natAbs < 2 ^ 133 := hb
      split <;> refine ⟨by omega, by omega⟩
    generalize (if 1 < (b.natAbs : Int) then (b.natAbs : Int) else 1) = d at hd ⊢
    refine ⟨s, d, rfl, st3, by omega, fun t H2 t0 t1 kp2 st2 => ⟨_, _, rfl, by omega, fun q hq p H4 s4 o4 => ?_⟩⟩
    have hI := hq.2 (by omega)
    have hz := is_in hI t0 (by omega)
    exact k p q H4 ⟨⟨o4, hI.1, is_sz (by omega) hI (by omega) hd.2⟩, hz.1, hz.2⟩ (((kp.trans kp3).trans kp2).trans (Kp.same s4)) (st2.same s4)
def spDPos (K : PySem.W.Frag) : Sp := fun vs H Q _ => ∃ (s : Addr), vs = [.ref s] ∧ Sto K H s ∧ ∀ a q H', (Fq K H' 10 a q ∧ 0 < q.1) → Kp s H H' → Sto K H' s → Q (.ref a) H'
def spDNz (K : PySem.W.Frag) : Sp := fun vs H Q _ => ∃ (s : Addr), vs = [.ref s] ∧ Sto K H s ∧ ∀ a q H', Fq K H' 10 a q → q.1 ≠ 0 → Kp s H H' → Sto K H' s → Q (.ref a) H'
theorem is_pos {q : Qt} {t b : Int} (h : Is q t b) (h0 : 0 < t) (h1 : 0 < b) : 0 < q.1 := by
  have e := h.2
  have n := h.1.1
  refine Int.not_le.mp fun c => ?_
  have z1 : 0 < t * q.2 := Int.mul_pos h0 (by omega)
  have z2 : q.1 * b ≤ 0 := Int.mul_nonpos_of_nonpos_of_nonneg c (by omega)
  omega
def spMoment (K : PySem.W.Frag) : Sp := fun vs H Q _ => ∃ (s : Addr) (r : Int), vs = [.ref s, .int r] ∧ Sto K H s ∧ 1 ≤ r ∧ r < 2 ^ 60 ∧ ∀ a q H', Fq K H' 70 a q → Kp s H H' → Sto K H' s → Q (.ref a) H'
end
end My

namespace My
open PySem PySem.Spec PyProof.Rows L2
/-! ### C.m(..), m a static method -/
/-- C.m is a staticmethod: its record at p, its def at g -/
structure SMet (K : PySem.W.Frag) (C : Addr) (mc : Value) (m : Str) (p g : Addr) : Prop where
  at_ : PySem.W.findCls K (.ref C) mc m = some (.get (.builtin "staticmethod.__get__") (.ref p) .none (.ref C))
  rc : ∃ rest, PySem.W.recIn K p "staticmethod" = some (.ref g :: rest)
  kp : PySem.W.keepIn K (.ref g) = true
def tSMeth (C : Addr) (sp : Sp) (dvs : List V) (E : XK) (ta : TE) (t : TA) : TE := fun σ H Q => ta σ H fun x H1 => x = .ref C ∧ t σ H1 fun vs H2 => sp (vs ++ dvs) H2 Q E
section
variable {X : Cx} {CX : CXT} {k : Nat} {C p g : Addr} {mc : Value} {sp : Sp} {E : XK} {o e : Expr} {es : List Expr} {m : Str} {pos apos : Pos} {ta : TE} {t : TA} {pl : Sem Bool} {fd : FuncData} {ps : List Str} {ds : List Value} {dvs : List V}
theorem getsmet_ok {pins : List (Addr × Obj)} {σ : L2.St} {H : Hp} {s : Shared} {A : Around} {E : Value → Shared → Prop} {b : Bool} {Q : Value → Shared → Prop} (I : Inv X pins σ H s) (r : ClX.CRead X.K C mc) (c : SMet X.K C mc m p g)
    (h : ∀ s', Inv X pins σ H s' → Q (.ref g) s') : wpAny (model X.prog X.w) A (getAttr (.ref C) m b) Q E s := by
  obtain ⟨rest, hp⟩ := c.rc
  refine PySem.W.cls_bind I.kIn r.rd c.at_ ?_
  exact wpAny_call (PySem.W.sm_get (s := { s with toks := s.toks + 1 }) I.kIn hp (PySem.W.handed_on rfl (h _ (I.tok _))))
theorem pe_smeth (he : PE X o ta) (r : ClX.CRead X.K C mc) (c : SMet X.K C mc m p g) (F : FnOk X.prog X.w X.K X.mg X.base CX k g fd ps sp) (hr : Room k X.A) (hb : Binds X.K fd ps ds) (hd : Vals dvs ds) (hx : Passes CX X E) (ha : PA X (e :: es) t)
    (hst : starEach (e :: es) X.env = (false, eval e X.env) :: starEach es X.env := by rfl) (hpl : (backTo pos (starEach es X.env)).any (·.1) = false := by rfl)
    (ht : eval (.Call (.Attribute o m apos) (e :: es) [] pos) X.env = (do
      let ov ← eval o X.env
      standAt apos.atName
      let (f, first) ← holding [ov] (getMethod ov m pl)
      callWith pos f first (backTo pos (starEach (e :: es) X.env)) (backToKw pos (keywordEach [] X.env))) := by rfl) :
    PE X (.Call (.Attribute o m apos) (e :: es) [] pos) (tSMeth C sp dvs E ta t) := by
  refine ⟨fun pins s σ H Q I h => ?_⟩
  refine PySem.W.methodCall_KW (pl := pl) (thn (he.run pins s σ H _ I h) fun u s1 ⟨x, H1, I1, rx, ex, q⟩ => ?_) ht
  subst ex
  obtain rfl : u = Value.ref C := rx
  refine PySem.W.method_cls I1.kIn r.ga (getsmet_ok I1 r c fun s2 I2 => ?_)
  refine PySem.W.callWith_K (h₀ := X.base) I2.ok.mod.kin c.kp (thn (ha.run pos pins s2 σ H1 _ I2 q) fun us s3 ⟨vs, H2, I3, rv, q2⟩ => ⟨I3.kIn, ?_⟩) hst hpl
  exact run_fn F hr hb hd hx I3 rv q2
end
section
variable {P : Program} {w : World} {K : PySem.W.Frag} {mg : Str → Option Value} {base : Heap}
/-! ### the == of two fractions -/
def rEqF (K : PySem.W.Frag) : R2 := fun x y H Q => ∃ (a b : Addr) (p q : Qt), x = .ref a ∧ y = .ref b ∧ ob K H a = some (.tup [.int p.1, .int p.2]) ∧ ob K H b = some (.tup [.int q.1, .int q.2]) ∧ Q (.bl (decide (p = q))) H
def rNeF (K : PySem.W.Frag) : R2 := fun x y H Q => ∃ (a b : Addr) (p q : Qt), x = .ref a ∧ y = .ref b ∧ ob K H a = some (.tup [.int p.1, .int p.2]) ∧ ob K H b = some (.tup [.int q.1, .int q.2]) ∧ Q (.bl (!decide (p = q))) H
theorem dp_fr {H : Hp} {a : Addr} {p : Qt} (h : ob K H a = some (.tup [.int p.1, .int p.2])) : Dp K H (.ref a) (.tuple [.int p.1, .int p.2]) := .tup (ob_tup h) (.cons (.int _) (.cons (.int _) .nil))
theorem eqv_fr (p q : Qt) : PyData.eqv (.tuple [.int p.1, .int p.2]) (.tuple [.int q.1, .int q.2]) = decide (p = q) := by
  show ((p.1 == q.1) && ((p.2 == q.2) && true)) = decide (p = q)
  rw [Bool.and_true]
  by_cases h : p = q
  · subst h
    simp
  · rw [decide_eq_false h]
    by_cases h1 : p.1 = q.1
    · have h2 : p.2 ≠ q.2 := fun z => h (Prod.ext h1 z)
      simp [h1, h2]
    · simp [h1]
theorem op_eqF {X : Cx} {j : Nat} (hr : Room j X.A) : OpR X (compareOp .Eq) (rEqF X.K) := fun pins s σ H x y v u Q I rx ry h => by
  obtain ⟨a, b, p, q, ex, ey, oa, ob', k⟩ := h
  subst ex ey
  refine op_eqD (by have := hr.un; omega) pins s σ H _ _ v u Q I rx ry ⟨_, _, dp_fr oa, dp_fr ob', rfl, rfl, ?_⟩
  rw [eqv_fr]
  exact k
theorem op_neF {X : Cx} {j : Nat} (hr : Room j X.A) : OpR X (compareOp .NotEq) (rNeF X.K) := fun pins s σ H x y v u Q I rx ry h => by
  obtain ⟨a, b, p, q, ex, ey, oa, ob', k⟩ := h
  subst ex ey
  refine op_neD (by have := hr.un; omega) pins s σ H _ _ v u Q I rx ry ⟨_, _, dp_fr oa, dp_fr ob', rfl, rfl, ?_⟩
  rw [eqv_fr]
  exact k
end
end My

namespace My
open PySem PySem.Spec PyProof.Rows L2
/-! ### own == of instances with a dict, any answer -/
def rOwnD (K : PySem.W.Frag) (C : Addr) (sp : Sp) (E : XK) : R2 := fun x y H Q => ∃ a dx fs b C' dy gs, x = .ref a ∧ y = .ref b ∧ H a = some (.ins C dx fs) ∧ H b = some (.ins C' dy gs) ∧ PySem.W.notFirst K C (.ref C') = true ∧ sp [x, y] H Q E
theorem op_ownD {X : Cx} {CX : CXT} {n : Nat} {C g : Addr} {fd : FuncData} {ps : List Str} {sp : Sp} {E : XK} {op : CmpOp} (hop : ∀ a b, compareOp op a b = richCompare op a b) (hs : PySem.W.findIn X.K (.ref C) (cmpInfo op).2.1 = some (some (.ref g))) (hf : PySem.W.isFn X.K (.ref g) = true) (F : FnOk X.prog X.w X.K X.mg X.base CX n g fd ps sp) (hb : Binds X.K fd ps [])
    (hr : Room n X.A) (hx : Passes CX X E) : OpR X (compareOp op) (rOwnD X.K C sp E) := by
  intro pins s σ H x y v u Q I rx ry h
  obtain ⟨a, dx, fs, b, C', dy, gs, rfl, rfl, ha, hb', hn, q⟩ := h
  cases (show v = Value.ref a from rx)
  cases (show u = Value.ref b from ry)
  obtain ⟨mA, J, _⟩ := ins_get I.hok ha
  obtain ⟨mB, J', _⟩ := ins_get I.hok hb'
  obtain ⟨od, J, _⟩ := J.look
  obtain ⟨od', J', _⟩ := J'.look
  obtain ⟨m, hF⟩ := I.fr
  rw [hop]
  refine PySem.W.cmp_K (op := op) (tb := .ref C') hr.units0 hF I.ok.mod.kin J J'.type hn hs hf ?_
  refine wpAny_mono (run_fn (us := [.ref a, .ref b]) (vs := [.ref a, .ref b]) F hr hb .nil hx I (.cons rfl (.cons rfl .nil)) q) (fun w s' z => ?_) fun _ _ x => x
  obtain ⟨z', H', I', rz, qz⟩ := z
  exact SlX.cmpback rz ⟨z', H', I', rz, qz⟩
/-! ### own + and - of two instances of one class -/
def rBinD (C : Addr) (sp : Sp) (E : XK) : R2 := fun x y H Q => ∃ a dx fs b dy gs, x = .ref a ∧ y = .ref b ∧ H a = some (.ins C dx fs) ∧ H b = some (.ins C dy gs) ∧ sp [x, y] H Q E
theorem op_binD {X : Cx} {CX : CXT} {n : Nat} {C g : Addr} {fd : FuncData} {ps : List Str} {sp : Sp} {E : XK} {op : Operator} (hc : PySem.W.selfFirst X.K C = true) (hs : PySem.W.findIn X.K (.ref C) (PySem.dunder op.info.2) = some (some (.ref g))) (hf : PySem.W.isFn X.K (.ref g) = true) (F : FnOk X.prog X.w X.K X.mg X.base CX n g fd ps sp) (hb : Binds X.K fd ps [])
    (hr : Room n X.A) (hx : Passes CX X E) : OpR X (binaryOp op) (rBinD C sp E) := by
  intro pins s σ H x y v u Q I rx ry h
  obtain ⟨a, dx, fs, b, dy, gs, rfl, rfl, ha, hb', q⟩ := h
  cases (show v = Value.ref a from rx)
  cases (show u = Value.ref b from ry)
  obtain ⟨mA, J, _⟩ := ins_get I.hok ha
  obtain ⟨mB, J', _⟩ := ins_get I.hok hb'
  obtain ⟨od, J, _⟩ := J.look
  obtain ⟨od', J', _⟩ := J'.look
  obtain ⟨m, hF⟩ := I.fr
  refine PySem.W.binop_K (op := op) hF I.ok.mod.kin J J'.type hc hs hf ?_
  refine wpAny_mono (run_fn (us := [.ref a, .ref b]) (vs := [.ref a, .ref b]) F hr hb .nil hx I (.cons rfl (.cons rfl .nil)) q) (fun w s' z => ?_) fun _ _ x => x
  obtain ⟨z', H', I', rz, qz⟩ := z
  exact SlX.cmpback rz ⟨z', H', I', rz, qz⟩
/-- own - before an instance -/
def rNegD (C : Addr) (sp : Sp) (E : XK) : V → Hp → VK → Prop := fun x H Q => ∃ a dx fs, x = .ref a ∧ H a = some (.ins C dx fs) ∧ sp [x] H Q E
theorem un_negD {X : Cx} {CX : CXT} {n : Nat} {C g : Addr} {fd : FuncData} {ps : List Str} {sp : Sp} {E : XK} (hs : PySem.W.findIn X.K (.ref C) "__neg__" = some (some (.ref g))) (hf : PySem.W.isFn X.K (.ref g) = true) (F : FnOk X.prog X.w X.K X.mg X.base CX n g fd ps sp) (hb : Binds X.K fd ps [])
    (hr : Room n X.A) (hx : Passes CX X E) : UnR X (unaryOp .USub) (rNegD C sp E) := by
  intro pins s σ H x v Q I rx h
  obtain ⟨a, dx, fs, rfl, ha, q⟩ := h
  cases (show v = Value.ref a from rx)
  obtain ⟨mA, J, _⟩ := ins_get I.hok ha
  obtain ⟨od, J, _⟩ := J.look
  obtain ⟨m, hF⟩ := I.fr
  refine PySem.W.ksp_neg hF I.ok.mod.kin J hs hf ?_
  exact run_fn (us := [.ref a]) (vs := [.ref a]) F hr hb .nil hx I (.cons rfl .nil) q
end My

namespace My
open PySem PySem.Spec PySem.Calls PySem.W PyProof.Rows
/-! ### != of instances whose class has an own == alone -/
section
variable {prog : Program} {w : World} {A : Around} {E : Value → Shared → Prop} {s : Shared} {K : Frag} {x C L f : Addr} {h₀ : Heap} {m : Str → Option Value} {ox : Obj} {od : Option Obj}
theorem ifBound_B {M : Model} {id : String} {name : Str} {args : List Value} {Q : Option Value → Shared → Prop} (X : K.In s.heap) (I : InstAt s.heap x ox C od) (hs : findIn K (.ref C) name = some (some (.builtin id))) (hbind : bindSpecial (.builtin id) (.ref x) = pure (.builtin id, [.ref x]))
    (h : wpAny M A (call (.builtin id) (.ref x :: args)) (fun v => Q (some v)) E s) : wpAny M A (callSpecialIfBound? (.ref x) name args) Q E s := by
  simp only [callSpecialIfBound?, bindSpecialIfBound?]
  refine wpAny_holding (wpAny_bind (wpAny_bind (wpAny_bind (I.type.here ((looks_findIn X hs).here ?_)))))
  simp only [hbind]
  refine wpAny_bind (wpAny_askSetting (wpAny_ite ?_))
  have fin : wpAny M A (call (.builtin id) ([.ref x] ++ args) >>= fun v => pure (some v)) Q E s := wpAny_bind (wpAny_mono h (fun v s' h' => wpAny_pure h') fun _ _ h' => h')
  split
  · exact wpAny_bind (wpAny_pure (wpAny_pure fin))
  · exact wpAny_tryCatch (wpAny_bind (wpAny_pure (wpAny_pure fin)))
theorem ne_entry {b : Value} {Q : Fin → Shared → Prop} (hu : A.units < cLine) (X : K.In s.heap) (I : InstAt s.heap x ox C od) (hs : findIn K (.ref C) "__eq__" = some (some (.ref f))) (hf : isFn K (.ref f) = true)
    (h : wpAny (model prog w) A (call (.ref f) [.ref x, b]) (fun v s' => ∃ c, v = .bool c ∧ Q (.done (.ret (.bool !c))) s') E s) : wpAny (model prog w) A (Builtin.«object.__ne__» ⟨[.ref x, b], []⟩) Q E s := by
  unfold Builtin.«object.__ne__»
  refine wpAny_bind (wpAny_of_eq (show slotArgs "__ne__" 1 ⟨[.ref x, b], []⟩ = pure (Value.ref x, [b]) from rfl) ?_)
  dsimp only
  refine wpAny_bind (wpAny_cRoomFor hu (wpAny_bind (ifBound_K X I hs hf (wpAny_mono h (fun v s' hv => ?_) fun _ _ e => e))))
  obtain ⟨c, rfl, q⟩ := hv
  dsimp only
  exact wpAny_bind (wpAny_truthy_bool (wpAny_pure q))
/-- the call of object.__ne__ -/
theorem ne_call {b : Value} {Q : Value → Shared → Prop} (hu : A.units + 1 < cLine) (X : K.In s.heap) (I : InstAt s.heap x ox C od) (hp : plainOver K C = true) (hs : findIn K (.ref C) "__eq__" = some (some (.ref f))) (hf : isFn K (.ref f) = true)
    (h : wpAny (model prog w) A.in1 (call (.ref f) [.ref x, b]) (fun v s' => ∃ c, v = .bool c ∧ Q (.bool !c) s') E s) : wpAny (model prog w) A (call (.builtin "object.__ne__") [.ref x, b]) Q E s := by
  obtain ⟨cd, hc, ho⟩ := any_some hp
  have ne : cd.mro.isEmpty = false := by cases q : cd.mro with | nil => rw [q] at ho; cases ho | cons _ _ => rfl
  have sub : Looks (model prog w) s.heap (isInstance (.ref x) (.type "object")) true := I.type.andThen (looks_mroIn X (by unfold mroIn; rw [hc, Option.bind_some, if_neg (by rw [ne]; decide), only_has ho]))
  refine wpAny_call (codeAny_call_builtin F.cmp_object.ne.plain F.cmpEntry_ne (check_slot F.cmpKind_ne F.cmpSplit_ne sub (F.cmpArgs_ne _ _) ?_))
  refine ne_entry (A := A.in1) hu X I hs hf (wpAny_mono h (fun v s' hv => ?_) fun _ _ e => e)
  obtain ⟨c, rfl, q⟩ := hv
  exact ⟨c, rfl, q⟩
theorem ne_K {tb b : Value} {Q : Value → Shared → Prop} (hu : A.units + 1 < cLine) (F₀ : Fr h₀ L s.heap m) (X₀ : K.In h₀) (I : InstAt s.heap x ox C od) (hb : Looks (model prog w) s.heap (typeOf b) tb) (hn : notFirst K C tb = true) (hp : plainOver K C = true)
    (hne : findIn K (.ref C) "__ne__" = some (some (.builtin "object.__ne__"))) (hs : findIn K (.ref C) "__eq__" = some (some (.ref f))) (hf : isFn K (.ref f) = true)
    (h : wpAny (model prog w) A.in1 (call (.ref f) [.ref x, b]) (fun v s' => ∃ c, v = .bool c ∧ Q (.bool !c) s') E s) : wpAny (model prog w) A (richCompare .NotEq (.ref x) b) Q E s := by
  have X := X₀.keeps F₀.keep
  have one : wpAny (model prog w) A (tryCompare (.ref x) (cmpInfo .NotEq).2.1 b) (fun r s' => ∃ c, r = some (.bool c) ∧ Q (.bool c) s') E s := by
    unfold tryCompare
    refine wpAny_bind (ifBound_B X I hne (F.cmp_object.ne.bind _) (ne_call hu X I hp hs hf (wpAny_mono h (fun v s' hv => ?_) fun _ _ e => e)))
    obtain ⟨c, rfl, q⟩ := hv
    exact ⟨c, rfl, wpAny_pure ⟨_, rfl, q⟩⟩
  unfold richCompare
  simp only [oneThing_ref]
  refine wpAny_holding (wpAny_bind (wpAny_cRoomFor (by omega) ?_))
  refine wpAny_bind (I.type.here (wpAny_bind (hb.here ?_)))
  split
  · rename_i q
    have e : subIn K tb (.ref C) = some false := by
      rcases Bool.or_eq_true_iff.mp hn with e | e
      · rw [beq_iff_eq.mp e] at q; simp at q
      · exact beq_iff_eq.mp e
    refine wpAny_bind ((looks_subIn X e).here ?_)
    simp only [Bool.false_eq_true, if_false]
    refine wpAny_bind (wpAny_mono one (fun r s' z => ?_) fun _ _ e => e)
    obtain ⟨v, rfl, hq⟩ := z
    exact wpAny_pure hq
  · refine wpAny_bind (wpAny_pure ?_)
    simp only [Bool.false_eq_true, if_false]
    refine wpAny_bind (wpAny_mono one (fun r s' z => ?_) fun _ _ e => e)
    obtain ⟨v, rfl, hq⟩ := z
    exact wpAny_pure hq
end
end My
namespace My
open PySem PySem.Spec PyProof.Rows L2
def rNeOwnD (K : PySem.W.Frag) (C : Addr) (sp : Sp) (E : XK) : R2 := fun x y H Q => ∃ a dx fs b C' dy gs, x = .ref a ∧ y = .ref b ∧ H a = some (.ins C dx fs) ∧ H b = some (.ins C' dy gs) ∧ PySem.W.notFirst K C (.ref C') = true ∧ sp [x, y] H (fun v H' => ∃ c, v = .bl c ∧ Q (.bl !c) H') E
theorem op_neOwnD {X : Cx} {CX : CXT} {n : Nat} {C g : Addr} {fd : FuncData} {ps : List Str} {sp : Sp} {E : XK} (hp : PySem.W.plainOver X.K C = true) (hne : PySem.W.findIn X.K (.ref C) "__ne__" = some (some (.builtin "object.__ne__"))) (hs : PySem.W.findIn X.K (.ref C) "__eq__" = some (some (.ref g))) (hf : PySem.W.isFn X.K (.ref g) = true) (F : FnOk X.prog X.w X.K X.mg X.base CX n g fd ps sp) (hb : Binds X.K fd ps [])
    (hr : Room (n + 1) X.A) (hx : Passes CX X E) : OpR X (compareOp .NotEq) (rNeOwnD X.K C sp E) := by
  intro pins s σ H x y v u Q I rx ry h
  obtain ⟨a, dx, fs, b, C', dy, gs, rfl, rfl, ha, hb', hn, q⟩ := h
  cases (show v = Value.ref a from rx)
  cases (show u = Value.ref b from ry)
  obtain ⟨mA, J, _⟩ := ins_get I.hok ha
  obtain ⟨mB, J', _⟩ := ins_get I.hok hb'
  obtain ⟨od, J, _⟩ := J.look
  obtain ⟨od', J', _⟩ := J'.look
  obtain ⟨m, hF⟩ := I.fr
  show wpAny (model X.prog X.w) X.A (richCompare .NotEq (.ref a) (.ref b)) (EP X pins σ Q) X.xe s
  refine ne_K (tb := .ref C') (by have := hr.un; omega) hF I.ok.mod.kin J J'.type hn hp hne hs hf ?_
  have hl := F.len _ _ _ _ q
  have r2 : Vals [V.ref a, V.ref b] [Value.ref a, Value.ref b] := .cons rfl (.cons rfl .nil)
  refine wpAny_call (codeAny_mono (F.run X.A.in1 X.stack s H ⟨[.ref a, .ref b], []⟩ [.ref a, .ref b] [.ref a, .ref b] _ E hr.in1 I.env0.in1 (by
    have := hb s [.ref a, .ref b] I.kIn (by simpa using hl)
    simpa using this) r2 q) fun r s' hq => ?_)
  cases r with
  | error e => exact hx pins σ H s e s' I hq
  | ok fl =>
    cases fl with
    | ret w =>
      obtain ⟨z, H', I', rz, c, ez, qz⟩ := I.after hq
      subst ez
      cases rz
      exact ⟨c, rfl, .bl !c, H', I', rfl, qz⟩
    | next => exact False.elim hq
    | brk => exact False.elim hq
    | cont => exact False.elim hq
end My

namespace My
open PySem PySem.Spec PyProof.Rows L2
section
variable {P : Program} {w : World} {K : PySem.W.Frag} {mg : Str → Option Value} {base : Heap}
/-- the two numbers that the program names -/
structure Two01 (K : PySem.W.Frag) (mg : Str → Option Value) (z o : Addr) : Prop where
  g_ZERO : mg "ZERO" = some (.ref z)
  g_ONE : mg "ONE" = some (.ref o)
  oz : ∀ H, ob K H z = some (.tup [.int 0, .int 1])
  oo : ∀ H, ob K H o = some (.tup [.int 1, .int 1])
theorem sz01 {k : Nat} (h : 1 ≤ k) : Sz k (0, 1) := Sz.mono (a := 1) ⟨by decide, by decide⟩ h
theorem sz11 {k : Nat} (h : 1 ≤ k) : Sz k (1, 1) := Sz.mono (a := 1) ⟨by decide, by decide⟩ h
/-- the period of a rate -/
def PerOk (K : PySem.W.Frag) (n : Nat) (H : Hp) (p : Qt) (v : V) : Prop := (p.1 = 0 ∧ v = .non) ∨ (p.1 ≠ 0 ∧ ∃ c, v = .ref c ∧ Fq K H n c (p.2, (p.1.natAbs : Int)))
theorem PerOk.mono {n k : Nat} {H : Hp} {p : Qt} {v : V} (h : PerOk K n H p v) (l : n ≤ k) : PerOk K k H p v := h.imp id fun ⟨a, c, e, f⟩ => ⟨a, c, e, f.mono l⟩
theorem PerOk.same {n : Nat} {H H' : Hp} {p : Qt} {v : V} (h : PerOk K n H p v) (s : Same H H') : PerOk K n H' p v := h.imp id fun ⟨a, c, e, f⟩ => ⟨a, c, e, f.same s⟩
def spPeriod (K : PySem.W.Frag) : Sp := fun vs H Q _ => ∃ (a : Addr) (p : Qt) (n : Nat), vs = [.ref a] ∧ Fq K H n a p ∧ n ≤ 2900 ∧ ∀ v H', Same H H' → PerOk K n H' p v → Q v H'
theorem quo_one {p z : Qt} (hp : Nf p) (h0 : p.1 ≠ 0) (h : quo2 (1, 1) ((p.1.natAbs : Int), p.2) z) : z = (p.2, (p.1.natAbs : Int)) := by
  have n : (p.1.natAbs : Int) ≠ 0 := by omega
  have h' : Is z (1 * p.2) (1 * (p.1.natAbs : Int)) := h
  rw [Int.one_mul, Int.one_mul] at h'
  refine is_unique n h' ⟨⟨by show 1 ≤ (p.1.natAbs : Int); omega, ?_⟩, rfl⟩
  show Nat.gcd p.2.natAbs p.1.natAbs = 1
  rw [Nat.gcd_comm]
  exact hp.2
theorem nf_zero {p : Qt} (hp : Nf p) : p = (0, 1) ↔ p.1 = 0 := by
  refine ⟨fun h => by rw [h], fun h => ?_⟩
  have g := hp.2
  rw [h] at g
  have g1 : p.2.natAbs = 1 := by simpa using g
  have p2 := hp.1
  exact Prod.ext h (by show p.2 = 1; omega)
abbrev sPeriod : Stmt := topS 44
theorem scPeriod : FnScope ["rate"] ["rate"] (defScope sPeriod) := ⟨rfl, rfl, rfl, by decide +kernel, rfl, by decide +kernel, by decide +kernel⟩
theorem k_Period {z0 o0 : Addr} (C0 : Two01 K mg z0 o0) (T : Bt K mg) (D : Dfn K mg "_period_of" sPeriod ["rate"]) (d_magnitude : Kn P w K mg base 3 "magnitude" ["value"] (spUn K fun q => ((q.1.natAbs : Int), q.2))) (d_over : Kn P w K mg base 3 "over" ["left", "right"] (spQuo K)) : Kn P w K mg base 4 "_period_of" ["rate"] (spPeriod K) := by
  refine Kn.mk' D scPeriod (fun vs H Q E h => ?_) (fun f cdv A outer s H vs Q E hr h => ?_)
  · obtain ⟨a, p, n, rfl, _⟩ := h
    rfl
  obtain ⟨a, p, n, rfl, hp, hn, k⟩ := h
  refine ⟨_, (pss_cons (ps_if (pt_cmpR (op_eqF hr) (pv 0) (pe_glob (v := .ref z0) (by rfl) C0.g_ZERO rfl) (nomark _)) (pss_one (ps_ret pe_non)) pss_nil)
      (pss_one (ps_ret (pe_kn d_over hr (by rfl) (pa_cons (pe_glob (v := .ref o0) (by rfl) C0.g_ONE rfl) (pa_cons (pe_kn d_magnitude hr (by rfl) (pa_cons (pv 0) pa_nil)) pa_nil)))))), ?_⟩
  refine ⟨_, rfl, a, z0, p, (0, 1), rfl, rfl, hp.o, C0.oz _, _, rfl, ?_⟩
  refine ite2 (fun h => ?_) (fun h => ?_)
  · exact k _ H (Same.refl _) (.inl ⟨(nf_zero hp.nf).mp (of_decide_eq_true h), rfl⟩)
  · have h0 : p.1 ≠ 0 := fun z => h (decide_eq_true ((nf_zero hp.nf).mpr z))
    refine ⟨_, rfl, a, p, rfl, hp.mono (by omega), fun b H1 s1 o1 => ?_⟩
    have hz : Sz n ((p.1.natAbs : Int), p.2) := ⟨by show ((p.1.natAbs : Int)).natAbs < 2 ^ n; rw [Int.natAbs_natCast]; exact hp.sz.1, hp.sz.2⟩
    refine ⟨o0, b, (1, 1), ((p.1.natAbs : Int), p.2), rfl, ⟨C0.oo _, nf11, sz11 (by omega)⟩, ⟨o1, nf_abs hp.nf, hz.mono (by omega)⟩, by show (p.1.natAbs : Int) ≠ 0; omega, fun z hzq c H2 s2 o2 => ?_⟩
    rw [quo_one hp.nf h0 hzq] at o2
    exact k _ H2 (s1.trans s2) (.inr ⟨h0, c, rfl, o2, ⟨by show 1 ≤ (p.1.natAbs : Int); omega, by show Nat.gcd p.2.natAbs p.1.natAbs = 1; rw [Nat.gcd_comm]; exact hp.nf.2⟩, hz.2, hz.1⟩)
end
end My

namespace My
open PySem PySem.Spec PyProof.Rows L2
section
variable {P : Program} {w : World} {K : PySem.W.Frag} {mg : Str → Option Value} {base : Heap}
/-- what the text says of the class Cycle -/
structure CyC (K : PySem.W.Frag) (mg : Str → Option Value) (C : Addr) : Prop where
  cl : Cls K C
  nR : NoAttr K C "rate"
  nS : NoAttr K C "start"
  nP : NoAttr K C "period"
  g : mg "Cycle" = some (.ref C)
def cyF (a b : Addr) (v : V) : List (Str × V) := [("rate", .ref a), ("start", .ref b), ("period", v)]
/-- a Cycle at c with the rate p and the start q -/
def CyAt (K : PySem.W.Frag) (C : Addr) (n : Nat) (H : Hp) (c : Addr) (p q : Qt) : Prop := ∃ dx a b v, H c = some (.ins C dx (cyF a b v)) ∧ Fq K H n a p ∧ Pq K H n b q ∧ PerOk K n H p v
theorem CyAt.mono {C : Addr} {n k : Nat} {H : Hp} {c : Addr} {p q : Qt} (h : CyAt K C n H c p q) (l : n ≤ k) : CyAt K C k H c p q := by
  obtain ⟨dx, a, b, v, h1, h2, h3, h4⟩ := h
  exact ⟨dx, a, b, v, h1, h2.mono l, h3.mono l, h4.mono l⟩
theorem CyAt.same {C : Addr} {n : Nat} {H H' : Hp} {c : Addr} {p q : Qt} (h : CyAt K C n H c p q) (s : Same H H') : CyAt K C n H' c p q := by
  obtain ⟨dx, a, b, v, h1, h2, h3, h4⟩ := h
  exact ⟨dx, a, b, v, s _ _ h1, h2.same s, h3.same s, h4.same s⟩
theorem PerOk.kp {n : Nat} {H H' : Hp} {p : Qt} {v : V} {s : Addr} {ys : List V} (h : PerOk K n H p v) (e : Kp s H H') (hs : H s = some (.lst ys)) : PerOk K n H' p v := h.imp id fun ⟨a, c, z, f⟩ => ⟨a, c, z, f.kp e hs⟩
theorem CyAt.kp {C : Addr} {n : Nat} {H H' : Hp} {c s : Addr} {ys : List V} {p q : Qt} (h : CyAt K C n H c p q) (e : Kp s H H') (hs : H s = some (.lst ys)) : CyAt K C n H' c p q := by
  obtain ⟨dx, a, b, v, h1, h2, h3, h4⟩ := h
  exact ⟨dx, a, b, v, e _ _ (by rintro rfl; rw [hs] at h1; cases h1) h1, h2.kp e hs, h3.kp e hs, h4.kp e hs⟩
theorem cy_rate (a b : Addr) (v : V) : (cyF a b v).lookup ("rate" : Str) = some (.ref a) := rfl
theorem cy_start (a b : Addr) (v : V) : (cyF a b v).lookup ("start" : Str) = some (.ref b) := rfl
theorem cy_period (a b : Addr) (v : V) : (cyF a b v).lookup ("period" : Str) = some v := rfl
theorem cy_put1 (x y : V) : putF "start" y [(("rate" : Str), x)] = [(("rate" : Str), x), (("start" : Str), y)] := by
  show (if ("rate" : Str) = "start" then _ else _) = _
  rw [if_neg (by decide +kernel)]
  rfl
theorem cy_put2 (x y z : V) : putF "period" z [(("rate" : Str), x), (("start" : Str), y)] = [(("rate" : Str), x), (("start" : Str), y), (("period" : Str), z)] := by
  show (if ("rate" : Str) = "period" then _ else (("rate" : Str), x) :: (if ("start" : Str) = "period" then _ else _)) = _
  rw [if_neg (by decide +kernel), if_neg (by decide +kernel)]
  rfl
def spCyInit (K : PySem.W.Frag) (C : Addr) : Sp := fun vs H Q _ => ∃ (H0 : Hp) (c dx a b : Addr) (p q : Qt) (n : Nat), vs = [.ref c, .ref a, .ref b] ∧ Same H0 H ∧ H0 c = none ∧ H c = some (.ins C dx []) ∧ Fq K H0 n a p ∧ Pq K H0 n b q ∧ n ≤ 2900 ∧ ∀ H', Same H0 H' → CyAt K C n H' c p q → Q .non H'
theorem ob_put {H : Hp} {c a C dx : Addr} {fs : List (Str × V)} {o : HO} {xs : List V} (hc : H c = some (.ins C dx fs)) (h : ob K H a = some (.tup xs)) : ob K (upd H c o) a = some (.tup xs) := by
  unfold ob at h ⊢
  split
  · rename_i z hz
    rw [hz] at h
    exact h
  · rename_i hz
    rw [hz] at h
    rw [upd_ne (by rintro rfl; rw [hc] at h; cases h)]
    exact h
theorem PerOk.put {n : Nat} {H : Hp} {c C dx : Addr} {fs : List (Str × V)} {o : HO} {p : Qt} {v : V} (hc : H c = some (.ins C dx fs)) (h : PerOk K n H p v) : PerOk K n (upd H c o) p v := h.imp id fun ⟨a, d, z, f⟩ => ⟨a, d, z, ob_put hc f.o, f.nf, f.sz⟩
theorem same_put {H0 H : Hp} {c : Addr} {o : HO} (s : Same H0 H) (n : H0 c = none) : Same H0 (upd H c o) := fun b u e => by
  rw [upd_ne (ne_of_none e n)]
  exact s b u e
theorem pl_true {H : Hp} {a : Addr} {n : Nat} {q : Qt} (h : Pq K H n a q) : plOk K H (.ref a) = true := by
  rw [plOk_fr h.f.o h.f.nf, decide_eq_true h.lo, decide_eq_true h.hi]
  rfl
abbrev sCyInit : Stmt := inClass (topS 43) 0
theorem scCyInit : FnScope ["self", "rate", "start"] ["self", "rate", "start"] (defScope sCyInit) := ⟨rfl, rfl, rfl, by decide +kernel, rfl, by decide +kernel, by decide +kernel⟩
theorem ok_CyInit {C f : Addr} {fd : FuncData} (T : Bt K mg) (Y : CyC K mg C) (d_require : Kn P w K mg base 1 "require" ["well_formed", "what"] spRequire) (d_is_fraction : Kn P w K mg base 2 "is_fraction" ["value"] (spIsFraction K)) (d_is_place : Kn P w K mg base 3 "is_place" ["value"] (spIsPlace K)) (d__period_of : Kn P w K mg base 4 "_period_of" ["rate"] (spPeriod K)) {dvs : List V} (F : FunD K "__init__" "Cycle.__init__" (defArgs sCyInit) (defBody sCyInit) (defScope sCyInit) dvs [] f fd) : FnOk P w K mg base CX0 5 f fd ["self", "rate", "start"] (spCyInit K C) := by
  refine F.ok scCyInit (fun vs H Q E h => ?_) (fun cdv A outer s H vs Q E hr h => ?_)
  · obtain ⟨H0, c, dx, a, b, p, q, n, rfl, _⟩ := h
    rfl
  obtain ⟨H0, c, dx, a, b, p, q, n, rfl, s0, c0, hc, hp, hq, hn, k⟩ := h
  refine ⟨_, (pss_cons (ps_expr (pe_kn d_require hr (by rfl) (pa_cons (pe_kn d_is_fraction hr (by rfl) (pa_cons (pv 1) pa_nil)) (pa_cons pe_str pa_nil))))
      (pss_cons (ps_expr (pe_kn d_require hr (by rfl) (pa_cons (pe_kn d_is_place hr (by rfl) (pa_cons (pv 2) pa_nil)) (pa_cons pe_str pa_nil))))
      (pss_cons (ps_fld (pv 0) (pv 1) rfl)
      (pss_cons (ps_fld (pv 0) (pv 2) rfl)
      (pss_one (ps_fld (pv 0) (pe_kn d__period_of hr (by rfl) (pa_cons (pv 1) pa_nil)) rfl)))))), ?_⟩
  have ha := hp.same s0
  have hb := hq.same s0
  refine ⟨_, rfl, _, rfl, Tyd.fr ha.o, _, by rw [frOk_fr ha.o ha.nf]; rfl, _, rfl, _, rfl, Tyd.fr hb.f.o, _, by rw [pl_true hb]; rfl, ?_⟩
  refine ⟨_, rfl, _, rfl, c, C, dx, [], rfl, hc, Y.cl, Y.nR, (by show 0 < 1000; decide), _, rfl, _, rfl, c, C, dx, _, rfl, upd_same, Y.cl, Y.nS, (by show 1 < 1000; decide), ?_⟩
  have s2 : Same H0 (upd (upd H c (.ins C dx (putF "rate" (.ref a) []))) c (.ins C dx (putF "start" (.ref b) (putF "rate" (.ref a) [])))) := same_put (same_put s0 c0) c0
  have h2 := upd_same (H := upd H c (.ins C dx (putF "rate" (.ref a) []))) (a := c) (o := .ins C dx (putF "start" (.ref b) (putF "rate" (.ref a) [])))
  generalize upd (upd H c (.ins C dx (putF "rate" (.ref a) []))) c (.ins C dx (putF "start" (.ref b) (putF "rate" (.ref a) []))) = H2 at s2 h2 ⊢
  refine ⟨_, rfl, a, p, n, rfl, hp.same s2, hn, fun v H3 s3 hv => ⟨_, rfl, c, C, dx, _, rfl, s3 _ _ h2, Y.cl, Y.nP, (by show (putF "start" (V.ref b) [(("rate" : Str), V.ref a)]).length < 1000; rw [cy_put1]; show 2 < 1000; decide), ?_⟩⟩
  have s4 := s2.trans s3
  have s5 : Same H0 (upd H3 c (.ins C dx (putF "period" v (putF "start" (.ref b) (putF "rate" (.ref a) []))))) := same_put s4 c0
  have e : putF "period" v (putF "start" (.ref b) (putF "rate" (.ref a) [])) = cyF a b v := by
    show putF "period" v (putF "start" (.ref b) [(("rate" : Str), V.ref a)]) = _
    rw [cy_put1, cy_put2]
    rfl
  rw [e] at s5 ⊢
  refine k _ s5 ⟨dx, a, b, v, upd_same, hp.same s5, hq.same s5, hv.put (s3 _ _ h2)⟩
end
end My

namespace My
open PySem PySem.Spec PyProof.Rows L2
section
variable {P : Program} {w : World} {K : PySem.W.Frag} {mg : Str → Option Value} {base : Heap}
/-- the turns of a cycle of the rate p and the start q at the moment m -/
def Tur (p q m y : Qt) : Prop := ∃ t, pro2 p m t ∧ sum2 q t y
theorem szSub' : True := trivial
theorem sum_sz {p q z : Qt} {i j k : Nat} (h : sum2 p q z) (hp : Nf p) (hq : Nf q) (sp : Sz i p) (sq : Sz j q) (l : i + j < k) : Sz k z :=
  is_sz (mul_ne hp.1 hq.1) h (szAdd (szMul sp.1 sq.2) (szMul sq.1 sp.2) (by omega) (by omega)) (szMono (szMul sp.2 sq.2) (by omega))
theorem dif_sz {p q z : Qt} {i j k : Nat} (h : dif2 p q z) (hp : Nf p) (hq : Nf q) (sp : Sz i p) (sq : Sz j q) (l : i + j < k) : Sz k z :=
  is_sz (mul_ne hp.1 hq.1) h (szSub (szMul sp.1 sq.2) (szMul sq.1 sp.2) (by omega) (by omega)) (szMono (szMul sp.2 sq.2) (by omega))
theorem pro_sz {p q z : Qt} {i j k : Nat} (h : pro2 p q z) (hp : Nf p) (hq : Nf q) (sp : Sz i p) (sq : Sz j q) (l : i + j < k) : Sz k z :=
  is_sz (mul_ne hp.1 hq.1) h (szMono (szMul sp.1 sq.1) (by omega)) (szMono (szMul sp.2 sq.2) (by omega))
theorem quo_sz {p q z : Qt} {i j k : Nat} (h : quo2 p q z) (hp : Nf p) (h0 : q.1 ≠ 0) (sp : Sz i p) (sq : Sz j q) (l : i + j < k) : Sz k z :=
  is_sz (Int.mul_ne_zero hp.ne h0) h (szMono (szMul sp.1 sq.2) (by omega)) (szMono (szMul sp.2 sq.1) (by omega))
theorem Tur.unique {p q m y z : Qt} (hp : Nf p) (hq : Nf q) (hm : Nf m) (h1 : Tur p q m y) (h2 : Tur p q m z) : y = z := by
  obtain ⟨t, a, b⟩ := h1
  obtain ⟨u, c, d⟩ := h2
  obtain rfl := is_unique (mul_ne hp.1 hm.1) a c
  exact is_unique (mul_ne hq.1 a.1.1) b d
def spTurns (K : PySem.W.Frag) (C : Addr) : Sp := fun vs H Q _ => ∃ (c a : Addr) (p q m : Qt) (n j : Nat), vs = [.ref c, .ref a] ∧ CyAt K C n H c p q ∧ Fq K H j a m ∧ n + j ≤ 2900 ∧ ∀ y, Tur p q m y → Sz (2 * n + j + 3) y → Gv K H Q y
def spPlace (K : PySem.W.Frag) (C : Addr) : Sp := fun vs H Q _ => ∃ (c a : Addr) (p q m : Qt) (n j : Nat), vs = [.ref c, .ref a] ∧ CyAt K C n H c p q ∧ Fq K H j a m ∧ n + j ≤ 2900 ∧ ∀ y, Tur p q m y → Sz (2 * n + j + 3) y → Gv K H Q (y.1 % y.2, y.2)
abbrev sCyTurns : Stmt := inClass (topS 43) 6
theorem scCyTurns : FnScope ["self", "moment"] ["self", "moment"] (defScope sCyTurns) := ⟨rfl, rfl, rfl, by decide +kernel, rfl, by decide +kernel, by decide +kernel⟩
theorem ok_CyTurns {C f : Addr} {fd : FuncData} (T : Bt K mg) (Y : CyC K mg C) (d_require : Kn P w K mg base 1 "require" ["well_formed", "what"] spRequire) (d_is_fraction : Kn P w K mg base 2 "is_fraction" ["value"] (spIsFraction K)) (d_plus : Kn P w K mg base 3 "plus" ["left", "right"] (spBin K sum2)) (d_times : Kn P w K mg base 3 "times" ["left", "right"] (spBin K pro2)) (F : Fun K "turns" "Cycle.turns" sCyTurns f fd) : FnOk P w K mg base CX0 4 f fd ["self", "moment"] (spTurns K C) := by
  refine F.ok scCyTurns (fun vs H Q E h => ?_) (fun cdv A outer s H vs Q E hr h => ?_)
  · obtain ⟨c, a, p, q, m, n, j, rfl, _⟩ := h
    rfl
  obtain ⟨c, a, p, q, m, n, j, rfl, hc, hm, hj, k⟩ := h
  refine ⟨_, (pss_cons (ps_expr (pe_kn d_require hr (by rfl) (pa_cons (pe_kn d_is_fraction hr (by rfl) (pa_cons (pv 1) pa_nil)) (pa_cons pe_str pa_nil))))
      (pss_one (ps_ret (pe_kn d_plus hr (by rfl) (pa_cons (pe_fld (pv 0) rfl) (pa_cons (pe_kn d_times hr (by rfl) (pa_cons (pe_fld (pv 0) rfl) (pa_cons (pv 1) pa_nil))) pa_nil)))))), ?_⟩
  obtain ⟨dx, ra, sb, v, hc, hp, hq, hv⟩ := hc
  refine ⟨_, rfl, _, rfl, Tyd.fr hm.o, _, by rw [frOk_fr hm.o hm.nf]; rfl, ?_⟩
  refine ⟨_, rfl, c, C, dx, _, _, rfl, hc, Y.cl, Y.nS, cy_start _ _ _, _, rfl, c, C, dx, _, _, rfl, hc, Y.cl, Y.nR, cy_rate _ _ _, _, rfl, ?_⟩
  refine ⟨ra, a, p, m, rfl, hp.mono (by omega), hm.mono (by omega), fun t ht d H1 s1 o1 => ?_⟩
  have st : Sz (n + j + 1) t := pro_sz ht hp.nf hm.nf hp.sz hm.sz (by omega)
  exact ⟨sb, d, q, t, rfl, (hq.f.same s1).mono (by omega), ⟨o1, ht.1, st.mono (by omega)⟩, fun y hy e H2 s2 o2 => k y ⟨t, ht, hy⟩ (sum_sz hy hq.f.nf ht.1 hq.f.sz (pro_sz (k := n + j + 1) ht hp.nf hm.nf hp.sz hm.sz (by omega)) (by omega)) e H2 (s1.trans s2) o2⟩
abbrev sCyPlace : Stmt := inClass (topS 43) 7
theorem scCyPlace : FnScope ["self", "moment"] ["self", "moment"] (defScope sCyPlace) := ⟨rfl, rfl, rfl, by decide +kernel, rfl, by decide +kernel, by decide +kernel⟩
theorem ok_CyPlace {C f : Addr} {fd : FuncData} (T : Bt K mg) (Y : CyC K mg C) (m_turns : C8.Met P w K mg base 4 C "turns" (spTurns K C) []) (d_require : Kn P w K mg base 1 "require" ["well_formed", "what"] spRequire) (d_is_fraction : Kn P w K mg base 2 "is_fraction" ["value"] (spIsFraction K)) (d_part_of : Kn P w K mg base 3 "part_of" ["value"] (spUn K fun q => (q.1 % q.2, q.2))) (F : Fun K "place" "Cycle.place" sCyPlace f fd) : FnOk P w K mg base CX0 5 f fd ["self", "moment"] (spPlace K C) := by
  refine F.ok scCyPlace (fun vs H Q E h => ?_) (fun cdv A outer s H vs Q E hr h => ?_)
  · obtain ⟨c, a, p, q, m, n, j, rfl, _⟩ := h
    rfl
  obtain ⟨c, a, p, q, m, n, j, rfl, hc, hm, hj, k⟩ := h
  refine ⟨_, (pss_cons (ps_expr (pe_kn d_require hr (by rfl) (pa_cons (pe_kn d_is_fraction hr (by rfl) (pa_cons (pv 1) pa_nil)) (pa_cons pe_str pa_nil))))
      (pss_one (ps_ret (pe_kn d_part_of hr (by rfl) (pa_cons (C8.pe_mt m_turns hr (by omega) (pv 0) (pa_cons (pv 1) pa_nil)) pa_nil))))), ?_⟩
  refine ⟨_, rfl, _, rfl, Tyd.fr hm.o, _, by rw [frOk_fr hm.o hm.nf]; rfl, ?_⟩
  have hc' := hc
  obtain ⟨dx, ra, sb, v, hi, hp, hq, hv⟩ := hc
  refine ⟨_, rfl, c, dx, _, rfl, hi, rfl, _, rfl, c, a, p, q, m, n, j, rfl, hc', hm, hj, fun y hy sy b H1 s1 o1 => ?_⟩
  obtain ⟨t, ht, hz⟩ := id hy
  exact ⟨b, y, rfl, ⟨o1, hz.1, sy.mono (by omega)⟩, fun e H2 s2 o2 => k y hy sy e H2 (s1.trans s2) o2⟩
theorem same_make {H : Hp} {c dx C : Addr} (h1 : H c = none) (h2 : H dx = none) : Same H (upd (upd H dx (.own c)) c (.ins C dx [])) := fun b o e => by
  rw [upd_ne (ne_of_none e h1), upd_ne (ne_of_none e h2)]
  exact e
def spWith (K : PySem.W.Frag) (C : Addr) : Sp := fun vs H Q _ => ∃ (a b : Addr) (p q : Qt), vs = [.ref a, .ref b] ∧ Fq K H 140 a p ∧ p.1 ≠ 0 ∧ Pq K H 140 b q ∧ ∀ z c H', quo2 (1, 1) p z → Same H H' → CyAt K C 300 H' c z q → Q (.ref c) H'
end
end My

namespace My
open PySem PySem.Spec PyProof.Rows L2
section
variable {P : Program} {w : World} {K : PySem.W.Frag} {mg : Str → Option Value} {base : Heap}
/-! ### fractions as rational numbers -/
def qv (q : Qt) : Rat := (q.1 : Rat) / (q.2 : Rat)
theorem pos2 {q : Qt} (h : Nf q) : (0 : Rat) < (q.2 : Rat) := by
  have := h.1
  exact_mod_cast (show (0 : Int) < q.2 by omega)
theorem qv_is {z : Qt} {n d : Int} (h : Is z n d) (hd : d ≠ 0) : qv z = (n : Rat) / (d : Rat) := by
  have e : (z.1 : Rat) * d = n * z.2 := by exact_mod_cast h.2
  have hz := pos2 h.1
  have hd' : (d : Rat) ≠ 0 := by exact_mod_cast hd
  have hz' : (z.2 : Rat) ≠ 0 := by grind
  unfold qv
  grind
theorem is_qv {z : Qt} {n d : Int} (hz : Nf z) (hd : d ≠ 0) (h : qv z = (n : Rat) / (d : Rat)) : Is z n d := by
  refine ⟨hz, ?_⟩
  have hp := pos2 hz
  have hz' : (z.2 : Rat) ≠ 0 := by grind
  have hd' : (d : Rat) ≠ 0 := by exact_mod_cast hd
  have e : (z.1 : Rat) * d = n * z.2 := by
    unfold qv at h
    grind
  exact_mod_cast e
theorem qv_inj {p q : Qt} (hp : Nf p) (hq : Nf q) (h : qv p = qv q) : p = q := by
  have a : Is p q.1 q.2 := is_qv hp (by have := hq.1; omega) h
  exact is_unique (by have := hq.1; omega) a ⟨hq, rfl⟩
theorem qv_sum {p q z : Qt} (hp : Nf p) (hq : Nf q) (h : sum2 p q z) : qv z = qv p + qv q := by
  rw [qv_is h (mul_ne hp.1 hq.1)]
  have a := pos2 hp
  have b := pos2 hq
  have a' : (p.2 : Rat) ≠ 0 := by grind
  have b' : (q.2 : Rat) ≠ 0 := by grind
  unfold qv
  push_cast
  grind
theorem qv_dif {p q z : Qt} (hp : Nf p) (hq : Nf q) (h : dif2 p q z) : qv z = qv p - qv q := by
  rw [qv_is h (mul_ne hp.1 hq.1)]
  have a := pos2 hp
  have b := pos2 hq
  have a' : (p.2 : Rat) ≠ 0 := by grind
  have b' : (q.2 : Rat) ≠ 0 := by grind
  unfold qv
  push_cast
  grind
theorem qv_pro {p q z : Qt} (hp : Nf p) (hq : Nf q) (h : pro2 p q z) : qv z = qv p * qv q := by
  rw [qv_is h (mul_ne hp.1 hq.1)]
  have a := pos2 hp
  have b := pos2 hq
  have a' : (p.2 : Rat) ≠ 0 := by grind
  have b' : (q.2 : Rat) ≠ 0 := by grind
  unfold qv
  push_cast
  grind
theorem qv_ne {q : Qt} (hq : Nf q) : qv q ≠ 0 ↔ q.1 ≠ 0 := by
  have b := pos2 hq
  have b' : (q.2 : Rat) ≠ 0 := by grind
  constructor
  · intro h e
    apply h
    unfold qv
    rw [e]
    grind
  · intro h e
    have : (q.1 : Rat) ≠ 0 := by exact_mod_cast h
    unfold qv at e
    grind
theorem qv_quo {p q z : Qt} (hp : Nf p) (hq : Nf q) (h0 : q.1 ≠ 0) (h : quo2 p q z) : qv z = qv p / qv q := by
  rw [qv_is h (Int.mul_ne_zero hp.ne h0)]
  have a := pos2 hp
  have b := pos2 hq
  have a' : (p.2 : Rat) ≠ 0 := by grind
  have b' : (q.2 : Rat) ≠ 0 := by grind
  have c' : (q.1 : Rat) ≠ 0 := by exact_mod_cast h0
  unfold qv
  push_cast
  grind
theorem qv_lt {p q : Qt} (hp : Nf p) (hq : Nf q) : qv p < qv q ↔ p.1 * q.2 < q.1 * p.2 := by
  have a := pos2 hp
  have b := pos2 hq
  unfold qv
  rw [Rat.div_lt_iff a, show (q.1 : Rat) / (q.2 : Rat) * (p.2 : Rat) = ((q.1 : Rat) * p.2) / q.2 by grind, Rat.lt_div_iff b]
  exact_mod_cast Iff.rfl
theorem qv_le {p q : Qt} (hp : Nf p) (hq : Nf q) : qv p ≤ qv q ↔ p.1 * q.2 ≤ q.1 * p.2 := by
  have := qv_lt hq hp
  rw [← Rat.not_lt, this, Int.not_lt]
theorem qv01 : qv (0, 1) = 0 := by
  unfold qv
  push_cast
  grind
theorem qv11 : qv (1, 1) = 1 := by
  unfold qv
  push_cast
  grind
theorem qv21 : qv (2, 1) = 2 := by
  unfold qv
  push_cast
  grind
theorem qv_int (n : Int) : qv (n, 1) = (n : Rat) := by
  unfold qv
  push_cast
  grind
theorem qv_neg (q : Qt) : qv (-q.1, q.2) = - qv q := by
  unfold qv
  push_cast
  grind
theorem qv_lo {q : Qt} (hq : Nf q) (h : 0 ≤ q.1) : 0 ≤ qv q := by
  have := (qv_le (p := (0, 1)) nf01 hq).mpr (by show 0 * q.2 ≤ q.1 * 1; omega)
  rwa [qv01] at this
theorem qv_hi {q : Qt} (hq : Nf q) (h : q.1 < q.2) : qv q < 1 := by
  have := (qv_lt (q := (1, 1)) hq nf11).mpr (by show q.1 * 1 < 1 * q.2; omega)
  rwa [qv11] at this
theorem qv_part {q : Qt} (hq : Nf q) : qv (q.1 % q.2, q.2) = qv q - ((q.1 / q.2 : Int) : Rat) ∧ 0 ≤ qv (q.1 % q.2, q.2) ∧ qv (q.1 % q.2, q.2) < 1 := by
  have p2 := hq.1
  refine ⟨?_, qv_lo (nf_part hq) (Int.emod_nonneg _ (by omega)), qv_hi (nf_part hq) (Int.emod_lt_of_pos _ (by omega))⟩
  have e : (q.1 % q.2 : Int) = q.1 - q.2 * (q.1 / q.2) := by
    have := Int.emod_add_mul_ediv q.1 q.2
    omega
  have b := pos2 hq
  have b' : (q.2 : Rat) ≠ 0 := by grind
  unfold qv
  show ((q.1 % q.2 : Int) : Rat) / (q.2 : Rat) = _
  rw [e]
  push_cast
  generalize ((q.1 / q.2 : Int) : Rat) = f
  grind
theorem floor_uni {f w : Int} {p u : Rat} (h : (f : Rat) + p = (w : Rat) + u) (p0 : 0 ≤ p) (p1 : p < 1) (u0 : 0 ≤ u) (u1 : u < 1) : f = w := by
  have h1 : (f : Rat) < ((w + 1 : Int) : Rat) := by
    push_cast
    grind
  have h2 : (w : Rat) < ((f + 1 : Int) : Rat) := by
    push_cast
    grind
  have h1' : f < w + 1 := by exact_mod_cast h1
  have h2' : w < f + 1 := by exact_mod_cast h2
  omega
/-! ### a slot's knots -/
abbrev Kt := Qt × Qt
/-- the knots with the first again, a turn on -/
def ext (ks : List Kt) : List Kt := ks ++ [((1, 1), (ks.getD 0 ((0, 1), (0, 1))).2)]
structure Good (ks : List Kt) : Prop where
  one : 1 ≤ ks.length
  nf : ∀ k ∈ ks, Nf k.1 ∧ Nf k.2
  zero : ∀ k, ks[0]? = some k → k.1 = (0, 1)
  asc : ∀ i k k', (ext ks)[i]? = some k → (ext ks)[i + 1]? = some k' → qv k.1 < qv k'.1
theorem Good.nfE {ks : List Kt} (g : Good ks) : ∀ k ∈ ext ks, Nf k.1 ∧ Nf k.2 := by
  intro k hk
  unfold ext at hk
  rcases List.mem_append.mp hk with h | h
  · exact g.nf k h
  · rw [List.mem_singleton] at h
    subst h
    refine ⟨nf11, ?_⟩
    match ks, g.one, g.nf with
    | x :: r, _, n => exact (n x List.mem_cons_self).2
theorem ext_len (ks : List Kt) : (ext ks).length = ks.length + 1 := by unfold ext; rw [List.length_append]; rfl
theorem asc_lt {ks : List Kt} (g : Good ks) : ∀ (n i : Nat) (k k' : Kt), (ext ks)[i]? = some k → (ext ks)[i + 1 + n]? = some k' → qv k.1 < qv k'.1 := by
  intro n
  induction n with
  | zero => exact fun i k k' h1 h2 => g.asc i k k' h1 h2
  | succ n ih =>
    intro i k k' h1 h2
    have hl : i + 1 + n < (ext ks).length := by
      have := (List.getElem?_eq_some_iff.mp h2).1
      omega
    have h3 : (ext ks)[i + 1 + n]? = some (ext ks)[i + 1 + n] := List.getElem?_eq_getElem hl
    have a := ih i k _ h1 h3
    have b := g.asc (i + 1 + n) _ k' h3 h2
    grind
theorem asc_uni {ks : List Kt} (g : Good ks) {i j : Nat} {k k' l l' : Kt} {p : Rat} (h1 : (ext ks)[i]? = some k) (h2 : (ext ks)[i + 1]? = some k') (h3 : (ext ks)[j]? = some l) (h4 : (ext ks)[j + 1]? = some l')
    (a1 : qv k.1 ≤ p) (a2 : p < qv k'.1) (b1 : qv l.1 ≤ p) (b2 : p < qv l'.1) : i = j := by
  rcases Nat.lt_trichotomy i j with h | h | h
  · exfalso
    rcases Nat.eq_or_lt_of_le (show i + 1 ≤ j from h) with e | e
    · subst e
      rw [h2] at h3
      cases h3
      grind
    · have := asc_lt g (j - (i + 1) - 1) (i + 1) k' l h2 (by rw [show i + 1 + 1 + (j - (i + 1) - 1) = j by omega]; exact h3)
      grind
  · exact h
  · exfalso
    rcases Nat.eq_or_lt_of_le (show j + 1 ≤ i from h) with e | e
    · subst e
      rw [h4] at h1
      cases h1
      grind
    · have := asc_lt g (i - (j + 1) - 1) (j + 1) l' k h4 (by rw [show j + 1 + 1 + (i - (j + 1) - 1) = i by omega]; exact h1)
      grind
def slp (k k' : Kt) : Rat := 1 + (qv k'.2 - qv k.2) / (qv k'.1 - qv k.1)
/-- z is the slope of the i-th piece -/
def Slp (ks : List Kt) (i : Nat) (z : Qt) : Prop := Nf z ∧ ∃ k k', (ext ks)[i]? = some k ∧ (ext ks)[i + 1]? = some k' ∧ qv z = slp k k'
/-- z is what t is carried to -/
def Car (ks : List Kt) (t z : Qt) : Prop := Nf z ∧ ∃ i k k', (ext ks)[i]? = some k ∧ (ext ks)[i + 1]? = some k' ∧ qv k.1 ≤ qv (t.1 % t.2, t.2) ∧ qv (t.1 % t.2, t.2) < qv k'.1 ∧ qv z = qv t - (qv (t.1 % t.2, t.2) - qv k.1) + qv k.2 + (qv (t.1 % t.2, t.2) - qv k.1) * slp k k'
theorem ext_lo {ks : List Kt} (g : Good ks) {i : Nat} {k : Kt} (h : (ext ks)[i]? = some k) : 0 ≤ qv k.1 := by
  have h0 : ∃ k0, (ext ks)[0]? = some k0 ∧ k0.1 = (0, 1) := by
    match ks, g with
    | x :: r, g => exact ⟨x, rfl, g.zero x rfl⟩
    | [], g => exact absurd g.one (by decide)
  obtain ⟨k0, e0, z0⟩ := h0
  cases i with
  | zero =>
    rw [e0] at h
    cases h
    rw [z0, qv01]
    exact Rat.le_refl
  | succ n =>
    have := asc_lt g n 0 k0 k e0 (by rw [show 0 + 1 + n = n + 1 by omega]; exact h)
    rw [z0, qv01] at this
    grind
theorem ext_last {ks : List Kt} (g : Good ks) : ∃ k0, ks[0]? = some k0 ∧ (ext ks)[ks.length]? = some ((1, 1), k0.2) ∧ (ext ks)[0]? = some k0 ∧ k0.1 = (0, 1) := by
  match ks, g with
  | x :: r, g =>
    refine ⟨x, rfl, ?_, rfl, g.zero x rfl⟩
    unfold ext
    rw [List.getElem?_append_right (Nat.le_refl _), Nat.sub_self]
    rfl
  | [], g => exact absurd g.one (by decide)
theorem ext_hi {ks : List Kt} (g : Good ks) {i : Nat} {k : Kt} (h : (ext ks)[i]? = some k) : qv k.1 ≤ 1 := by
  obtain ⟨k0, _, el, _, _⟩ := ext_last g
  have hl := (List.getElem?_eq_some_iff.mp h).1
  rw [ext_len] at hl
  rcases Nat.eq_or_lt_of_le (show i ≤ ks.length by omega) with e | e
  · subst e
    rw [el] at h
    cases h
    rw [qv11]
    exact Rat.le_refl
  · have := asc_lt g (ks.length - i - 1) i k _ h (by rw [show i + 1 + (ks.length - i - 1) = ks.length by omega]; exact el)
    rw [qv11] at this
    grind
theorem car_lin {ks : List Kt} (g : Good ks) {t z : Qt} (ht : Nf t) (c : Car ks t z) {i : Nat} {k k' : Kt} (h1 : (ext ks)[i]? = some k) (h2 : (ext ks)[i + 1]? = some k') {w : Int} {u : Rat} (e : qv t = (w : Rat) + u) (u0 : qv k.1 ≤ u) (u1 : u ≤ qv k'.1) :
    qv z = (w : Rat) + qv k.1 + qv k.2 + (u - qv k.1) * slp k k' := by
  obtain ⟨_, j, l, l', h3, h4, b1, b2, ez⟩ := c
  obtain ⟨ep, p0, p1⟩ := qv_part ht
  generalize qv (t.1 % t.2, t.2) = p at *
  have k0 := ext_lo g h1
  have k1 := ext_hi g h2
  have wd := g.asc i k k' h1 h2
  have wd' : qv k'.1 - qv k.1 ≠ 0 := by grind
  by_cases hu : u < qv k'.1
  · have f := floor_uni (f := t.1 / t.2) (w := w) (p := p) (u := u) (by grind) p0 p1 (by grind) (by grind)
    rw [f] at ep
    have eu : p = u := by grind
    subst eu
    obtain rfl := asc_uni g h1 h2 h3 h4 u0 hu b1 b2
    rw [h1] at h3
    rw [h2] at h4
    cases h3
    cases h4
    grind
  · have hu' : u = qv k'.1 := by grind
    have tgt : (w : Rat) + qv k.1 + qv k.2 + (u - qv k.1) * slp k k' = (w : Rat) + qv k'.1 + qv k'.2 := by
      unfold slp
      rw [hu']
      grind
    rw [tgt]
    obtain ⟨a0, a1, el, a2, a3⟩ := ext_last g
    have hl := (List.getElem?_eq_some_iff.mp h2).1
    rw [ext_len] at hl
    by_cases hn : i + 1 = ks.length
    · rw [hn, el] at h2
      cases h2
      have eu : u = 1 := by rw [hu', qv11]
      have f := floor_uni (f := t.1 / t.2) (w := w + 1) (p := p) (u := 0) (by push_cast; grind) p0 p1 (by grind) (by grind)
      rw [f] at ep
      push_cast at ep
      have ep0 : p = 0 := by grind
      subst ep0
      have q0 : qv a0.1 = 0 := by rw [a3, qv01]
      have z0 : ∃ b, (ext ks)[0 + 1]? = some b := ⟨_, List.getElem?_eq_getElem (by rw [ext_len]; have := g.one; omega)⟩
      obtain ⟨b, hb⟩ := z0
      have bb := g.asc 0 a0 b a2 hb
      obtain rfl := asc_uni g a2 hb h3 h4 (by grind) (by grind) b1 b2
      rw [a2] at h3
      cases h3
      rw [ez, qv11, q0]
      grind
    · have z1 : ∃ b, (ext ks)[i + 1 + 1]? = some b := ⟨_, List.getElem?_eq_getElem (by rw [ext_len]; omega)⟩
      obtain ⟨b, hb⟩ := z1
      have bb := g.asc (i + 1) k' b h2 hb
      have b3 := ext_hi g hb
      have f := floor_uni (f := t.1 / t.2) (w := w) (p := p) (u := u) (by grind) p0 p1 (by grind) (by grind)
      rw [f] at ep
      have eu : p = u := by grind
      subst eu
      obtain rfl := asc_uni g h2 hb h3 h4 (by grind) (by grind) b1 b2
      rw [h2] at h3
      cases h3
      rw [ez]
      grind
end
end My

namespace My
open PySem PySem.Spec PyProof.Rows L2
section
variable {P : Program} {w : World} {K : PySem.W.Frag} {mg : Str → Option Value} {base : Heap}
theorem if_no {c : Bool} {A B : Prop} (e : c = false) (h : B) : if c = true then A else B := by
  rw [e, if_neg Bool.noConfusion]
  exact h
theorem if_yes {c : Bool} {A B : Prop} (e : c = true) (h : A) : if c = true then A else B := by
  rw [e, if_pos rfl]
  exact h
theorem itsO_of {H : Hp} {a : Addr} {xs : List V} (h : ob K H a = some (.tup xs)) : itsO (ob K H a) = some xs := by rw [h]; rfl
theorem itsO_ofL {H : Hp} {a : Addr} {xs : List V} (h : ob K H a = some (.lst xs)) : itsO (ob K H a) = some xs := by rw [h]; rfl
theorem sz2 {n : Nat} (h : n ≤ 100) : n ≤ sizeLine := by rw [sizeLine_eq]; omega
/-! ### using a def's promise -/
theorem av_sum {H : Hp} {Q : VK} {a b : Addr} {p q : Qt} {j k : Nat} (hp : Fq K H j a p) (hq : Fq K H k b q) (h : ∀ z c H', qv z = qv p + qv q → Same H H' → Fq K H' (j + k + 1) c z → Q (.ref c) H') (hj : j ≤ 3000 := by omega) (hk : k ≤ 3000 := by omega) (E : XK := C8.E0) : spBin K sum2 [.ref a, .ref b] H Q E :=
  ⟨a, b, p, q, rfl, hp.mono hj, hq.mono hk, fun z hz c H' s o => h z c H' (qv_sum hp.nf hq.nf hz) s ⟨o, hz.1, sum_sz hz hp.nf hq.nf hp.sz hq.sz (by omega)⟩⟩
theorem av_dif {H : Hp} {Q : VK} {a b : Addr} {p q : Qt} {j k : Nat} (hp : Fq K H j a p) (hq : Fq K H k b q) (h : ∀ z c H', qv z = qv p - qv q → Same H H' → Fq K H' (j + k + 1) c z → Q (.ref c) H') (hj : j ≤ 3000 := by omega) (hk : k ≤ 3000 := by omega) (E : XK := C8.E0) : spBin K dif2 [.ref a, .ref b] H Q E :=
  ⟨a, b, p, q, rfl, hp.mono hj, hq.mono hk, fun z hz c H' s o => h z c H' (qv_dif hp.nf hq.nf hz) s ⟨o, hz.1, dif_sz hz hp.nf hq.nf hp.sz hq.sz (by omega)⟩⟩
theorem av_pro {H : Hp} {Q : VK} {a b : Addr} {p q : Qt} {j k : Nat} (hp : Fq K H j a p) (hq : Fq K H k b q) (h : ∀ z c H', qv z = qv p * qv q → Same H H' → Fq K H' (j + k + 1) c z → Q (.ref c) H') (hj : j ≤ 3000 := by omega) (hk : k ≤ 3000 := by omega) (E : XK := C8.E0) : spBin K pro2 [.ref a, .ref b] H Q E :=
  ⟨a, b, p, q, rfl, hp.mono hj, hq.mono hk, fun z hz c H' s o => h z c H' (qv_pro hp.nf hq.nf hz) s ⟨o, hz.1, pro_sz hz hp.nf hq.nf hp.sz hq.sz (by omega)⟩⟩
theorem av_quo {H : Hp} {Q : VK} {a b : Addr} {p q : Qt} {j k : Nat} (hp : Fq K H j a p) (hq : Fq K H k b q) (h0 : qv q ≠ 0) (h : ∀ z c H', qv z = qv p / qv q → Same H H' → Fq K H' (j + k + 1) c z → Q (.ref c) H') (hj : j ≤ 3000 := by omega) (hk : k ≤ 3000 := by omega) (E : XK := C8.E0) : spQuo K [.ref a, .ref b] H Q E :=
  ⟨a, b, p, q, rfl, hp.mono hj, hq.mono hk, (qv_ne hq.nf).mp h0, fun z hz c H' s o => h z c H' (qv_quo hp.nf hq.nf ((qv_ne hq.nf).mp h0) hz) s ⟨o, hz.1, quo_sz hz hp.nf ((qv_ne hq.nf).mp h0) hp.sz hq.sz (by omega)⟩⟩
theorem av_part {H : Hp} {Q : VK} {a : Addr} {z : Qt} {k : Nat} (hz : Fq K H k a z) (h : ∀ e H', Same H H' → Fq K H' k e (z.1 % z.2, z.2) → Q (.ref e) H') (hk : k ≤ 8000 := by omega) (E : XK := C8.E0) : spUn K (fun q => (q.1 % q.2, q.2)) [.ref a] H Q E :=
  ⟨a, z, rfl, hz.mono hk, fun e H' s o => h e H' s ⟨o, nf_part hz.nf, szPart hz.nf hz.sz⟩⟩
theorem cmp_lt0 {p q : Qt} (hp : Nf p) (hq : Nf q) : cmp2 p q < 0 ↔ qv p < qv q := by
  rw [qv_lt hp hq]
  unfold cmp2
  split
  · omega
  · split <;> omega
theorem cmp_le0 {p q : Qt} (hp : Nf p) (hq : Nf q) : cmp2 p q ≤ 0 ↔ qv p ≤ qv q := by
  rw [qv_le hp hq]
  unfold cmp2
  split
  · omega
  · split <;> omega
/-- a knot -/
def Ka (K : PySem.W.Frag) (H : Hp) (n : Nat) (v : V) (k : Kt) : Prop := ∃ t a b, v = .ref t ∧ ob K H t = some (.tup [.ref a, .ref b]) ∧ Fq K H n a k.1 ∧ Fq K H n b k.2
theorem Ka.same {H H' : Hp} {n : Nat} {v : V} {k : Kt} (h : Ka K H n v k) (s : Same H H') : Ka K H' n v k := by
  obtain ⟨t, a, b, e, o, f, g⟩ := h
  exact ⟨t, a, b, e, ob_same s o, f.same s, g.same s⟩
theorem Ka.mono {H : Hp} {n m : Nat} {v : V} {k : Kt} (h : Ka K H n v k) (s : n ≤ m) : Ka K H m v k := by
  obtain ⟨t, a, b, e, o, f, g⟩ := h
  exact ⟨t, a, b, e, o, f.mono s, g.mono s⟩
theorem Ka.kp {H H' : Hp} {n : Nat} {s : Addr} {ys : List V} {v : V} {k : Kt} (h : Ka K H n v k) (e : Kp s H H') (hs : H s = some (.lst ys)) : Ka K H' n v k := by
  obtain ⟨t, a, b, e', o, f, g⟩ := h
  exact ⟨t, a, b, e', ob_kp e hs (fun _ z => by cases z) o, f.kp e hs, g.kp e hs⟩
/-- knots -/
def Kts (K : PySem.W.Frag) (H : Hp) (n : Nat) (xs : List V) (ks : List Kt) : Prop := xs.length = ks.length ∧ ∀ (i : Nat) x k, xs[i]? = some x → ks[i]? = some k → Ka K H n x k
theorem Kts.same {H H' : Hp} {n : Nat} {xs : List V} {ks : List Kt} (h : Kts K H n xs ks) (s : Same H H') : Kts K H' n xs ks := ⟨h.1, fun i x k a b => (h.2 i x k a b).same s⟩
theorem Kts.mono {H : Hp} {n m : Nat} {xs : List V} {ks : List Kt} (h : Kts K H n xs ks) (s : n ≤ m) : Kts K H m xs ks := ⟨h.1, fun i x k a b => (h.2 i x k a b).mono s⟩
theorem Kts.kp {H H' : Hp} {n : Nat} {s : Addr} {ys xs : List V} {ks : List Kt} (h : Kts K H n xs ks) (e : Kp s H H') (hs : H s = some (.lst ys)) : Kts K H' n xs ks := ⟨h.1, fun i x k a b => (h.2 i x k a b).kp e hs⟩
theorem Kts.get {H : Hp} {n i : Nat} {xs : List V} {ks : List Kt} {k : Kt} (h : Kts K H n xs ks) (e : ks[i]? = some k) : ∃ x, xs[i]? = some x ∧ Ka K H n x k := by
  have hi := (List.getElem?_eq_some_iff.mp e).1
  have hi' : i < xs.length := by rw [h.1]; exact hi
  have hx : xs[i]? = some xs[i] := List.getElem?_eq_getElem hi'
  exact ⟨_, hx, h.2 i _ k hx e⟩
theorem Kts.at {H : Hp} {n i : Nat} {xs : List V} {ks : List Kt} {x : V} (h : Kts K H n xs ks) (e : xs[i]? = some x) : ∃ k, ks[i]? = some k ∧ Ka K H n x k := by
  have hi := (List.getElem?_eq_some_iff.mp e).1
  have hi' : i < ks.length := by rw [← h.1]; exact hi
  have hx : ks[i]? = some ks[i] := List.getElem?_eq_getElem hi'
  exact ⟨_, hx, h.2 i x _ e hx⟩
theorem Good.at {ks : List Kt} (g : Good ks) {i : Nat} {k : Kt} (e : ks[i]? = some k) : (ext ks)[i]? = some k ∧ ∃ k', (ext ks)[i + 1]? = some k' ∧ 0 ≤ k.1.1 ∧ k.1.1 < k.1.2 := by
  have hi := (List.getElem?_eq_some_iff.mp e).1
  have e1 : (ext ks)[i]? = some k := by
    unfold ext
    rw [List.getElem?_append_left hi]
    exact e
  have hl : i + 1 < (ext ks).length := by rw [ext_len]; omega
  have e2 : (ext ks)[i + 1]? = some (ext ks)[i + 1] := List.getElem?_eq_getElem hl
  have nf := g.nf k (List.mem_of_getElem? e)
  have a := g.asc i k _ e1 e2
  have b := ext_hi g e2
  have c := ext_lo g e1
  have d2 : qv k.1 < qv (1, 1) := by rw [qv11]; grind
  have d1 : qv (0, 1) ≤ qv k.1 := by rw [qv01]; exact c
  have d2 := (qv_lt nf.1 nf11).mp d2
  have d1 := (qv_le nf01 nf.1).mp d1
  refine ⟨e1, _, e2, ?_, ?_⟩
  · have : 0 * k.1.2 ≤ k.1.1 * 1 := d1
    omega
  · have : k.1.1 * 1 < 1 * k.1.2 := d2
    omega
theorem pl_ok {H : Hp} {n : Nat} {a : Addr} {q : Qt} (h : Fq K H n a q) (h0 : 0 ≤ q.1) (h1 : q.1 < q.2) : plOk K H (.ref a) = true := by
  rw [plOk_fr h.o h.nf, decide_eq_true h0, decide_eq_true h1]
  rfl
def spListW (K : PySem.W.Frag) : Sp := fun vs H Q _ => ∃ (a : Addr) (xs : List V) (lo hi : Int), vs = [.ref a, .int lo, .int hi] ∧ ob K H a = some (.lst xs) ∧ lo ≤ (xs.length : Int) ∧ (xs.length : Int) ≤ hi ∧ Q (.bl true) H
def spTupOf (K : PySem.W.Frag) : Sp := fun vs H Q _ => ∃ (a : Addr) (xs : List V) (n : Int), vs = [.ref a, .int n] ∧ ob K H a = some (.tup xs) ∧ Q (.bl (decide ((xs.length : Int) = n))) H
def spKnot (K : PySem.W.Frag) : Sp := fun vs H Q _ => ∃ (v : V) (k : Kt) (n : Nat), vs = [v] ∧ Ka K H n v k ∧ 0 ≤ k.1.1 ∧ k.1.1 < k.1.2 ∧ Q (.bl true) H
def spSlope (K : PySem.W.Frag) : Sp := fun vs H Q _ => ∃ (v u : V) (k k' : Kt) (n : Nat), vs = [v, u] ∧ Ka K H n v k ∧ Ka K H n u k' ∧ n ≤ 600 ∧ qv k.1 < qv k'.1 ∧ ∀ z a H', Same H H' → Fq K H' (4 * n + 6) a z → qv z = slp k k' → Q (.ref a) H'
abbrev sListW : Stmt := topS 18
theorem scListW : FnScope ["value", "least", "most"] ["value", "least", "most"] (defScope sListW) := ⟨rfl, rfl, rfl, by decide +kernel, rfl, by decide +kernel, by decide +kernel⟩
theorem k_ListW (T : Bt K mg) (D : Dfn K mg "is_list_within" sListW ["value", "least", "most"]) : Kn P w K mg base 1 "is_list_within" ["value", "least", "most"] (spListW K) := by
  refine Kn.mk' D scListW (fun vs H Q E h => ?_) (fun f cdv A outer s H vs Q E hr h => ?_)
  · obtain ⟨a, xs, lo, hi, rfl, _⟩ := h
    rfl
  obtain ⟨a, xs, lo, hi, rfl, oa, h0, h1, k⟩ := h
  refine ⟨_, (pss_one (ps_ret (pe_and (pe_callB call_isN (by rfl) T.b_isinstance (by decide +kernel) (pa_cons (pv 0) (pa_cons (pe_bltn (v := .ty "list") (by rfl) T.b_list (by decide +kernel) rfl) pa_nil))) (pe_one (pe_chain op_le op_le (pv 1) (pe_callB call_lenA (by rfl) T.b_len PySem.boot_len (pa_cons (pv 0) pa_nil)) (pv 2)))))), ?_⟩
  have ty : tyN K H (.ref a) = some "list" := by rw [tyN_ref, oa]; rfl
  have oi := itsO_ofL oa
  refine ⟨_, rfl, _, _, rfl, by decide, _, ty, _, rfl, if_yes rfl ?_⟩
  simp only [tChain, oi, cx_K, decide_true, decide_false, reduceCtorEq, gTp, gCons, gNil, ca_0, ca_1, ca_2, ca_3, ca_4, ca_5, ca_6, ca_7, ca_8, ca_9, ca_10, ca_11, ca_12, ca_13, ca_14, ca_15, ca_16, ca_17, ca_18, ca_19, ca_20, ca_21, ca_22, ca_23, ca_24, ca_25, ca_26, ca_27, ca_28, ca_29, ca_30, not_true_eq_false, not_false_eq_true, Int.reduceEq, Nat.reduceEqDiff, Nat.reduceLeDiff, rGcd, V.ty.injEq, eq_self, List.not_mem_nil, beq_self_eq_true, HO.lst.injEq, HO.tup.injEq, tFor_eq, iRng1, iList, iTup, nat10, tSeq, rIxA, rSetA, rIsN, rIsT, tTp, tLs, itsO_tup, itsO_lst, tyO_tup, tyO_lst, tyO_dK, tyN_non, tyN_bl, tyN_int, tyN_str, tyN_ref, tyNs_lt, isB, upd_same, upd_upd, sizeLine_eq, List.mem_cons, String.reduceBEq, String.reduceEq, Bool.or_false, Bool.or_true, Bool.and_false, Bool.false_or, Bool.and_self, Bool.false_and, Bool.not_false, Bool.not_true, List.any_cons, List.any_nil, atI_0, setI_0, atI_1, setI_1, atI_2, setI_2, atI_3, setI_3, atI_4, setI_4, atI_5, setI_5, atI_6, setI_6, tAsg, gName, tOp, tUn, tVar, tC, tCons, L2.tNil, tRet, tIfS, tTest, tCB, tCall, rI, rI0, rU, tNext, tB, tAnd, tOr, tNot, tAndV, tOrV, tNotV, tDrop, tIf, tPar, gSub, rIxL, rIxT, rEq, rNe, rSetL, tBits,
    L2.start, List.map_cons, List.map_nil, List.cons_append, List.nil_append, List.append_nil, List.length_cons, List.length_nil, List.replicate, Nat.reduceAdd, Nat.reduceSub, Nat.zero_add, List.getElem?_cons_zero, List.getElem?_cons_succ, List.set_cons_zero, List.set_cons_succ,
    Option.some.injEq, exists_eq_left', exists_eq_left, V.int.injEq, V.bl.injEq, V.ref.injEq, V.str.injEq, List.cons.injEq, reduceCtorEq, and_true, true_and, false_and, and_false, exists_false, or_false, false_or, or_true, true_or, exists_const, CMul, CDiv, CPow, and_assoc, exists_and_left, exists_and_right, Int.reducePow, Int.reduceNeg, Int.reduceLT, Int.reduceLE, Nat.reducePow, Nat.reduceLT, Int.reduceToNat, gt_iff_lt, ge_iff_le, decide_eq_true_eq, Bool.not_eq_true', decide_eq_false_iff_not, scal, ↓reduceIte, Bool.false_eq_true]
  rw [if_pos h0, decide_eq_true h1]
  exact k
abbrev sTupOf : Stmt := topS 19
theorem scTupOf : FnScope ["value", "many"] ["value", "many"] (defScope sTupOf) := ⟨rfl, rfl, rfl, by decide +kernel, rfl, by decide +kernel, by decide +kernel⟩
theorem k_TupOf (T : Bt K mg) (D : Dfn K mg "is_tuple_of" sTupOf ["value", "many"]) : Kn P w K mg base 1 "is_tuple_of" ["value", "many"] (spTupOf K) := by
  refine Kn.mk' D scTupOf (fun vs H Q E h => ?_) (fun f cdv A outer s H vs Q E hr h => ?_)
  · obtain ⟨a, xs, n, rfl, _⟩ := h
    rfl
  obtain ⟨a, xs, n, rfl, oa, k⟩ := h
  refine ⟨_, (pss_one (ps_ret (pe_and (pe_callB call_isN (by rfl) T.b_isinstance (by decide +kernel) (pa_cons (pv 0) (pa_cons (pe_bltn (v := .ty "tuple") (by rfl) T.b_tuple (by decide +kernel) rfl) pa_nil))) (pe_one (pe_cmpR op_eq (pe_callB call_lenA (by rfl) T.b_len PySem.boot_len (pa_cons (pv 0) pa_nil)) (pv 1) (nomark _)))))), ?_⟩
  have ty : tyO (ob K H a) = some "tuple" := by rw [oa]; rfl
  simp only [oa, cx_K, decide_true, decide_false, reduceCtorEq, gTp, gCons, gNil, ca_0, ca_1, ca_2, ca_3, ca_4, ca_5, ca_6, ca_7, ca_8, ca_9, ca_10, ca_11, ca_12, ca_13, ca_14, ca_15, ca_16, ca_17, ca_18, ca_19, ca_20, ca_21, ca_22, ca_23, ca_24, ca_25, ca_26, ca_27, ca_28, ca_29, ca_30, not_true_eq_false, not_false_eq_true, Int.reduceEq, Nat.reduceEqDiff, Nat.reduceLeDiff, rGcd, V.ty.injEq, eq_self, List.not_mem_nil, beq_self_eq_true, HO.lst.injEq, HO.tup.injEq, tFor_eq, iRng1, iList, iTup, nat10, tSeq, rIxA, rSetA, rIsN, rIsT, tTp, tLs, itsO_tup, itsO_lst, tyO_tup, tyO_lst, tyO_dK, tyN_non, tyN_bl, tyN_int, tyN_str, tyN_ref, tyNs_lt, isB, upd_same, upd_upd, sizeLine_eq, List.mem_cons, String.reduceBEq, String.reduceEq, Bool.or_false, Bool.or_true, Bool.and_false, Bool.false_or, Bool.and_self, Bool.false_and, Bool.not_false, Bool.not_true, List.any_cons, List.any_nil, atI_0, setI_0, atI_1, setI_1, atI_2, setI_2, atI_3, setI_3, atI_4, setI_4, atI_5, setI_5, atI_6, setI_6, tAsg, gName, tOp, tUn, tVar, tC, tCons, L2.tNil, tRet, tIfS, tTest, tCB, tCall, rI, rI0, rU, tNext, tB, tAnd, tOr, tNot, tAndV, tOrV, tNotV, tDrop, tIf, tPar, gSub, rIxL, rIxT, rEq, rNe, rSetL, tBits,
    L2.start, List.map_cons, List.map_nil, List.cons_append, List.nil_append, List.append_nil, List.length_cons, List.length_nil, List.replicate, Nat.reduceAdd, Nat.reduceSub, Nat.zero_add, List.getElem?_cons_zero, List.getElem?_cons_succ, List.set_cons_zero, List.set_cons_succ,
    Option.some.injEq, exists_eq_left', exists_eq_left, V.int.injEq, V.bl.injEq, V.ref.injEq, V.str.injEq, List.cons.injEq, reduceCtorEq, and_true, true_and, false_and, and_false, exists_false, or_false, false_or, or_true, true_or, exists_const, CMul, CDiv, CPow, and_assoc, exists_and_left, exists_and_right, Int.reducePow, Int.reduceNeg, Int.reduceLT, Int.reduceLE, Nat.reducePow, Nat.reduceLT, Int.reduceToNat, gt_iff_lt, ge_iff_le, decide_eq_true_eq, Bool.not_eq_true', decide_eq_false_iff_not, scal, ↓reduceIte, Bool.false_eq_true]
  exact k
abbrev sKnot : Stmt := topS 40
theorem scKnot : FnScope ["value"] ["value"] (defScope sKnot) := ⟨rfl, rfl, rfl, by decide +kernel, rfl, by decide +kernel, by decide +kernel⟩
theorem k_Knot (T : Bt K mg) (D : Dfn K mg "_is_knot" sKnot ["value"]) (d_is_tuple_of : Kn P w K mg base 1 "is_tuple_of" ["value", "many"] (spTupOf K)) (d_is_place : Kn P w K mg base 3 "is_place" ["value"] (spIsPlace K)) (d_is_fraction : Kn P w K mg base 2 "is_fraction" ["value"] (spIsFraction K)) : Kn P w K mg base 4 "_is_knot" ["value"] (spKnot K) := by
  refine Kn.mk' D scKnot (fun vs H Q E h => ?_) (fun f cdv A outer s H vs Q E hr h => ?_)
  · obtain ⟨v, k, n, rfl, _⟩ := h
    rfl
  obtain ⟨v, k, n, rfl, ka, h0, h1, q⟩ := h
  refine ⟨_, (pss_one (ps_ret (pe_and (pe_kn d_is_tuple_of hr (by rfl) (pa_cons (pv 0) (pa_cons pe_int pa_nil))) (pe_and (pe_kn d_is_place hr (by rfl) (pa_cons (pe_ix ix_any (pv 0) pe_int (fun _ _ => rfl)) pa_nil)) (pe_one (pe_kn d_is_fraction hr (by rfl) (pa_cons (pe_ix ix_any (pv 0) pe_int (fun _ _ => rfl)) pa_nil))))))), ?_⟩
  obtain ⟨t, a, b, rfl, ot, fa, fb⟩ := ka
  refine ⟨_, rfl, t, _, 2, rfl, ot, _, rfl, if_yes rfl ?_⟩
  refine ⟨_, rfl, t, 0, rfl, rfl, _, itsO_of ot, _, atI_0 _ _, _, rfl, Tyd.fr fa.o, _, rfl, if_yes (pl_ok fa h0 h1) ?_⟩
  refine ⟨_, rfl, t, 1, rfl, rfl, _, itsO_of ot, _, atI_1 _ _ _, _, rfl, Tyd.fr fb.o, ?_⟩
  rw [frOk_fr fb.o fb.nf]
  exact q
abbrev sSlope : Stmt := topS 41
theorem scSlope : FnScope ["knot", "end", "rise"] ["knot", "end"] (defScope sSlope) := ⟨rfl, rfl, rfl, by decide +kernel, rfl, by decide +kernel, by decide +kernel⟩
theorem k_Slope {z0 o0 : Addr} (C0 : Two01 K mg z0 o0) (T : Bt K mg) (D : Dfn K mg "_slope" sSlope ["knot", "end"]) (d_minus : Kn P w K mg base 3 "minus" ["left", "right"] (spBin K dif2)) (d_over : Kn P w K mg base 3 "over" ["left", "right"] (spQuo K)) (d_plus : Kn P w K mg base 3 "plus" ["left", "right"] (spBin K sum2)) : Kn P w K mg base 4 "_slope" ["knot", "end"] (spSlope K) := by
  refine Kn.mk' D scSlope (fun vs H Q E h => ?_) (fun f cdv A outer s H vs Q E hr h => ?_)
  · obtain ⟨v, u, k, k', n, rfl, _⟩ := h
    rfl
  obtain ⟨v, u, k, k', n, rfl, ka, ka', hn, hlt, q⟩ := h
  refine ⟨_, (pss_cons (ps_set (i := 2) scSlope.nd rfl (.inl rfl) (pe_kn d_minus hr (by rfl) (pa_cons (pe_ix ix_any (pv 1) pe_int (fun _ _ => rfl)) (pa_cons (pe_ix ix_any (pv 0) pe_int (fun _ _ => rfl)) pa_nil))))
      (pss_one (ps_ret (pe_kn d_plus hr (by rfl) (pa_cons (pe_glob (v := .ref o0) (by rfl) C0.g_ONE rfl) (pa_cons (pe_kn d_over hr (by rfl) (pa_cons (pv 2) (pa_cons (pe_kn d_minus hr (by rfl) (pa_cons (pe_ix ix_any (pv 1) pe_int (fun _ _ => rfl)) (pa_cons (pe_ix ix_any (pv 0) pe_int (fun _ _ => rfl)) pa_nil))) pa_nil))) pa_nil)))))), ?_⟩
  obtain ⟨t, a, b, rfl, ot, fa, fb⟩ := ka
  obtain ⟨u, c, d, rfl, ou, fc, fd⟩ := ka'
  refine ⟨_, rfl, u, 1, rfl, rfl, _, itsO_of ou, _, atI_1 _ _ _, _, rfl, t, 1, rfl, rfl, _, itsO_of ot, _, atI_1 _ _ _, av_dif fd fb fun r ra H1 er s1 fr => ?_⟩
  refine ⟨_, rfl, _, rfl, u, 0, rfl, rfl, _, itsO_of (ob_same s1 ou), _, atI_0 _ _, _, rfl, t, 0, rfl, rfl, _, itsO_of (ob_same s1 ot), _, atI_0 _ _, av_dif (fc.same s1) (fa.same s1) fun m ma H2 em s2 fm => ?_⟩
  refine av_quo (fr.same s2) fm (by rw [em]; grind) fun y ya H3 ey s3 fy => ?_
  have one : Fq K H3 1 o0 (1, 1) := ⟨C0.oo _, nf11, sz11 (by omega)⟩
  refine av_sum one fy fun z za H4 ez s4 fz => ?_
  refine q z za H4 (s1.trans (s2.trans (s3.trans s4))) (fz.mono (by omega)) ?_
  rw [ez, ey, er, em, qv11]
  rfl
end
end My

namespace My
open PySem PySem.Spec PyProof.Rows L2
section
variable {P : Program} {w : World} {K : PySem.W.Frag} {mg : Str → Option Value} {base : Heap}
def spAre (K : PySem.W.Frag) : Sp := fun vs H Q _ => ∃ (a : Addr) (xs : List V) (ks : List Kt) (n : Nat), vs = [.ref a] ∧ ob K H a = some (.lst xs) ∧ Kts K H n xs ks ∧ Good ks ∧ ks.length ≤ 8 ∧ n ≤ 3000 ∧ ∀ H', Same H H' → Q (.bl true) H'
def BlI (D : Addr) (H0 : Hp) (i : Nat) (H' : Hp) : Prop := H' D = some (.lst ((List.replicate i true).map V.bl)) ∧ Same H0 H'
theorem bl_snoc {D : Addr} {H0 H' : Hp} {i : Nat} (h : BlI D H0 i H') (hD : H0 D = none) : BlI D H0 (i + 1) (upd H' D (.lst ((List.replicate i true).map V.bl ++ [.bl true]))) := by
  refine ⟨?_, fun c o e => ?_⟩
  · rw [upd_same, List.replicate_succ', List.map_append]
    rfl
  · rw [upd_ne (ne_of_none e hD)]
    exact h.2 c o e
abbrev sAre : Stmt := topS 39
theorem scAre : FnScope ["value", "ascend", "knot", "after"] ["value"] (defScope sAre) := ⟨rfl, rfl, rfl, by decide +kernel, rfl, by decide +kernel, by decide +kernel⟩
theorem blk_scAre_0 : BlkOk ["value", "ascend", "knot", "after"] (defScope sAre) { kind := .function, names := [(".0", .local), ("knot", .local), ("_is_knot", .globalImplicit)], isGenerator := false, isCoroutine := false, more := [] } [("knot", 2)] := ⟨rfl, by decide +kernel, by decide +kernel, by decide +kernel, by decide +kernel⟩
theorem blk_scAre_1 : BlkOk ["value", "ascend", "knot", "after"] (defScope sAre) { kind := .function, names := [(".0", .local), ("knot", .local), ("after", .local), ("compare", .globalImplicit)], isGenerator := false, isCoroutine := false, more := [] } [("knot", 2), ("after", 3)] := ⟨rfl, by decide +kernel, by decide +kernel, by decide +kernel, by decide +kernel⟩
theorem k_Are {z0 o0 : Addr} {tkM : Tok} (C0 : Two01 K mg z0 o0) (gMK : mg "MOST_KNOTS" = some (.int 8 tkM)) (zA : mg "all" = none) (zZ : mg "zip" = none) (T : Bt K mg) (D : Dfn K mg "_are_knots" sAre ["value"]) (d_is_list_within : Kn P w K mg base 1 "is_list_within" ["value", "least", "most"] (spListW K)) (d__is_knot : Kn P w K mg base 4 "_is_knot" ["value"] (spKnot K)) (d_compare : Kn P w K mg base 3 "compare" ["left", "right"] (spCmp K)) : Kn P w K mg base 5 "_are_knots" ["value"] (spAre K) := by
  refine Kn.mk' D scAre (fun vs H Q E h => ?_) (fun f cdv A outer s H vs Q E hr h => ?_)
  · obtain ⟨a, xs, ks, n, rfl, _⟩ := h
    rfl
  obtain ⟨a, xs, ks, n, rfl, oa, kt, g, l8, hn, k⟩ := h
  refine ⟨_, (pss_cons (ps_if (PW.pt (pw_or (pt_not (pt_val (pe_kn d_is_list_within hr (by rfl) (pa_cons (pv 0) (pa_cons pe_int (pa_cons (pe_glob (v := .int 8) (by rfl) gMK ⟨_, rfl⟩) pa_nil)))))) (pw_or1 (pt_not (pt_val (pe_callB (cr_all rfl) (by rfl) zA (by decide +kernel) (pa_cons (pe_fr (pe_lc (own := [("knot", 2)]) (g := gName 2) (te := (tCall (spKnot K) [] E0 (tCons (tVar 2) L2.tNil))) rfl scAre.nd (pi_list (pv 0)) blk_scAre_0 (fun _ _ _ _ _ => by exact pg_name (i := 2) scAre.nd rfl (.inl rfl)) (fun _ _ _ _ _ => pts_nil) (fun _ _ _ _ _ => by exact (pe_kn d__is_knot hr (by rfl) (pa_cons (pv 2) pa_nil))))) pa_nil))))))) (pss_one (ps_ret pe_bl)) pss_nil)
      (pss_cons (ps_setLcF (i := 1) (own := [("knot", 2), ("after", 3)]) (g := gTup K 2 (gCons (gName 2) (gCons (gName 3) gNil))) (te := (tOp (rI0 fun i j => V.bl (decide (i < j))) (tCall (spCmp K) [] E0 (tCons (tOp (rIxA K) (tVar 2) (tC (.int 0))) (tCons (tOp (rIxA K) (tVar 3) (tC (.int 0))) L2.tNil))) (tC (.int 0)))) rfl scAre.nd rfl rfl (sw_true rfl rfl rfl rfl) (pi_zip (by rfl) zZ (pa_cons (pv 0) (pa_cons (pe_fr (pe_slice sl_list (pv 0) (po_some pe_int) po_none)) pa_nil))) blk_scAre_1 (fun _ _ _ _ _ => by exact pg_tup rfl (pgs_cons (pg_name (i := 2) scAre.nd rfl (.inl rfl)) (pgs_cons (pg_name (i := 3) scAre.nd rfl (.inl rfl)) pgs_nil))) (fun _ _ _ _ _ => pts_nil) (fun _ _ _ _ _ => by exact (pe_cmpR op_lt (pe_kn d_compare hr (by rfl) (pa_cons (pe_ix ix_any (pv 2) pe_int (fun _ _ => rfl)) (pa_cons (pe_ix ix_any (pv 3) pe_int (fun _ _ => rfl)) pa_nil))) pe_int (nomark _))))
      (pss_one (ps_ret (pe_and (pe_cmpR (op_eqF hr) (pe_ix ix_any (pe_ix ix_any (pv 0) pe_int (fun _ _ => rfl)) pe_int (fun _ _ => rfl)) (pe_glob (v := .ref z0) (by rfl) C0.g_ZERO rfl) (nomark _)) (pe_one (pe_callB (cr_all rfl) (by rfl) zA (by decide +kernel) (pa_cons (pv 1) pa_nil)))))))), ?_⟩
  obtain ⟨ha, ka⟩ := ob_H oa (fun _ z => by cases z)
  have hl := kt.1
  have h1 := g.one
  refine ⟨_, rfl, a, xs, 1, 8, rfl, oa, by omega, by omega, _, rfl, if_no rfl ?_⟩
  refine ⟨_, rfl, a, rfl, ⟨xs, .of ha⟩, fun D hD => lc_list (xs := xs) (BlI D H) ⟨upd_same, Same.new hD _⟩ (fun i H' _ h => .of (h.2 _ _ ha)) ?_ ?_⟩
  · rintro i x H' hi hB
    refine ⟨rfl, ?_⟩
    simp only [tYes, if_true]
    obtain ⟨kk, hk, kx⟩ := kt.at hi
    obtain ⟨_, _, _, p0, p1⟩ := g.at hk
    have hi' := (List.getElem?_eq_some_iff.mp hk).1
    exact ⟨_, rfl, x, kk, n, rfl, kx.same hB.2, p0, p1, _, hB.1, by rw [List.length_map, List.length_replicate, sizeLine_eq]; omega, bl_snoc hB hD⟩
  · intro H' hB fr
    refine ⟨D, List.replicate xs.length true, rfl, .of hB.1, ?_⟩
    rw [show (List.replicate xs.length true).all id = true by simp]
    refine ⟨_, rfl, if_no rfl ?_⟩
    have ha1 := hB.2 _ _ ha
    refine ⟨_, rfl, _, rfl, _, rfl, a, _, rfl, .of ha1, ?_⟩
    have ec : cutV xs (some ((fun i => i) 1)) none = xs.drop 1 := cut_from xs 1 (by omega)
    rw [show cutV xs (some 1) none = xs.drop 1 from ec]
    intro l2 hl2 fr2
    have s2 := Same.new hl2 (.lst (xs.drop 1))
    have hl3 : upd H' l2 (.lst (xs.drop 1)) l2 = some (.lst (xs.drop 1)) := upd_same
    have s0 := hB.2.trans s2
    generalize upd H' l2 (.lst (xs.drop 1)) = H2 at s2 hl3 s0 ⊢
    have ha2 := s0 _ _ ha
    have kt2 := kt.same s0
    have yl : (xs.drop 1).length = xs.length - 1 := List.length_drop
    refine ⟨a, l2, _, _, rfl, .of ha2, .of hl3, fun D2 hD2 => lc_zip (xs := xs) (ys := xs.drop 1) (by omega) (BlI D2 H2) ⟨upd_same, Same.new hD2 _⟩ (fun i H5 _ h => ⟨.of (h.2 _ _ ha2), .of (h.2 _ _ hl3)⟩) ?_ ?_⟩
    · intro i x y T H5 hx hy hB5 hT
      rw [List.getElem?_drop, Nat.add_comm] at hy
      have sT := Same.new hT (.tup [x, y])
      obtain ⟨kk, hk, kx⟩ := kt2.at hx
      obtain ⟨kk', hk', ky⟩ := kt2.at hy
      have lt := g.asc i kk kk' (g.at hk).1 (g.at hk').1
      obtain ⟨t1, a1, b1, rfl, ot1, f1, _⟩ := kx.same (hB5.2.trans sT)
      obtain ⟨t2, a2, b2, rfl, ot2, f2, _⟩ := ky.same (hB5.2.trans sT)
      refine ⟨T, _, rfl, .inl (.inl upd_same), rfl, _, _, rfl, _, _, rfl, rfl, rfl, ?_⟩
      simp only [tYes, if_true]
      have hi' := (List.getElem?_eq_some_iff.mp hk').1
      refine ⟨_, rfl, t1, 0, rfl, rfl, _, itsO_of ot1, _, atI_0 _ _, _, rfl, t2, 0, rfl, rfl, _, itsO_of ot2, _, atI_0 _ _, a1, a2, _, _, rfl, f1.mono (by omega), f2.mono (by omega), _, _, rfl, rfl, ?_⟩
      show ∃ acc, _ ∧ _ ∧ BlI D2 H2 (i + 1) (upd _ D2 (HO.lst (acc ++ [V.bl (decide (cmp2 kk.1 kk'.1 < 0))])))
      rw [decide_eq_true ((cmp_lt0 f1.nf f2.nf).mpr lt)]
      exact ⟨_, sT _ _ hB5.1, by rw [List.length_map, List.length_replicate, sizeLine_eq]; omega, bl_snoc ⟨sT _ _ hB5.1, hB5.2.trans sT⟩ hD2⟩
    · intro H5 hB5 fr5
      have oa5 := ob_same (s0.trans hB5.2) oa
      obtain ⟨k0, e0, _, _, z0'⟩ := ext_last g
      obtain ⟨x0, hx0, kx0⟩ := (kt2.same hB5.2).get e0
      obtain ⟨t0, a0, b0, rfl, ot0, f0, _⟩ := kx0
      have ei : atI xs 0 = some (.ref t0) := by
        match xs, hx0 with
        | y :: r, h => cases h; exact atI_0 _ _
      refine ⟨_, rfl, a, 0, rfl, rfl, _, itsO_ofL oa5, _, ei, t0, 0, rfl, rfl, _, itsO_of ot0, _, atI_0 _ _, a0, z0, _, (0, 1), rfl, rfl, f0.o, C0.oz _, _, rfl, if_yes (decide_eq_true z0') ?_⟩
      refine ⟨_, rfl, D2, List.replicate (xs.drop 1).length true, rfl, .of hB5.1, ?_⟩
      rw [show (List.replicate (xs.drop 1).length true).all id = true by simp]
      exact k H5 (s0.trans hB5.2)

end
end My

namespace My
open PySem PySem.Spec PyProof.Rows L2
section
variable {P : Program} {w : World} {K : PySem.W.Frag} {mg : Str → Option Value} {base : Heap}
/-- what the text says of the class Slot -/
structure SlC (K : PySem.W.Frag) (mg : Str → Option Value) (C : Addr) : Prop where
  cl : Cls K C
  nK : NoAttr K C "_knots"
  g : mg "Slot" = some (.ref C)
def slF (t : Addr) : List (Str × V) := [("_knots", .ref t)]
/-- a Slot at c with the knots ks -/
def SlAt (K : PySem.W.Frag) (C : Addr) (n : Nat) (H : Hp) (c : Addr) (ks : List Kt) : Prop := ∃ dx t xs, H c = some (.ins C dx (slF t)) ∧ ob K H t = some (.tup xs) ∧ Kts K H n xs ks
theorem SlAt.same {C : Addr} {n : Nat} {H H' : Hp} {c : Addr} {ks : List Kt} (h : SlAt K C n H c ks) (s : Same H H') : SlAt K C n H' c ks := by
  obtain ⟨dx, t, xs, a, b, d⟩ := h
  exact ⟨dx, t, xs, s _ _ a, ob_same s b, d.same s⟩
theorem SlAt.kp {C : Addr} {n : Nat} {H H' : Hp} {c s : Addr} {ys : List V} {ks : List Kt} (h : SlAt K C n H c ks) (e : Kp s H H') (hs : H s = some (.lst ys)) : SlAt K C n H' c ks := by
  obtain ⟨dx, t, xs, a, b, d⟩ := h
  exact ⟨dx, t, xs, e _ _ (by rintro rfl; rw [hs] at a; cases a) a, ob_kp e hs (fun _ z => by cases z) b, d.kp e hs⟩
def spSlInit (K : PySem.W.Frag) (C : Addr) : Sp := fun vs H Q _ => ∃ (H0 : Hp) (c dx a : Addr) (xs : List V) (ks : List Kt) (n : Nat), vs = [.ref c, .ref a] ∧ Same H0 H ∧ H0 c = none ∧ H c = some (.ins C dx []) ∧ ob K H0 a = some (.lst xs) ∧ Kts K H0 n xs ks ∧ Good ks ∧ ks.length ≤ 8 ∧ n ≤ 3000 ∧ ∀ H', Same H0 H' → SlAt K C n H' c ks → Q .non H'
def spKnots (K : PySem.W.Frag) (C : Addr) : Sp := fun vs H Q _ => ∃ (c : Addr) (ks : List Kt) (n : Nat), vs = [.ref c] ∧ SlAt K C n H c ks ∧ ∀ l xs H', H l = none → K.lookup l = none → H' l = some (.lst xs) → Same H H' → Kts K H' n xs ks → Q (.ref l) H'
abbrev sSlInit : Stmt := inClass (topS 37) 0
theorem scSlInit : FnScope ["self", "knots"] ["self", "knots"] (defScope sSlInit) := ⟨rfl, rfl, rfl, by decide +kernel, rfl, by decide +kernel, by decide +kernel⟩
theorem ok_SlInit {C f : Addr} {fd : FuncData} (T : Bt K mg) (Y : SlC K mg C) (d_require : Kn P w K mg base 1 "require" ["well_formed", "what"] spRequire) (d__are_knots : Kn P w K mg base 5 "_are_knots" ["value"] (spAre K)) (F : Fun K "__init__" "Slot.__init__" sSlInit f fd) : FnOk P w K mg base CX0 6 f fd ["self", "knots"] (spSlInit K C) := by
  refine F.ok scSlInit (fun vs H Q E h => ?_) (fun cdv A outer s H vs Q E hr h => ?_)
  · obtain ⟨H0, c, dx, a, xs, ks, n, rfl, _⟩ := h
    rfl
  obtain ⟨H0, c, dx, a, xs, ks, n, rfl, s0, c0, hc, oa, kt, g, l8, hn, k⟩ := h
  refine ⟨_, (pss_cons (ps_expr (pe_kn d_require hr (by rfl) (pa_cons (pe_kn d__are_knots hr (by rfl) (pa_cons (pv 1) pa_nil)) (pa_cons pe_str pa_nil))))
      (pss_one (ps_fld (pv 0) (pe_fr (pe_callTy call_tuple_of (by rfl) T.b_tuple (by decide +kernel) (pa_cons (pv 1) pa_nil))) rfl))), ?_⟩
  have oa1 := ob_same s0 oa
  have kt1 := kt.same s0
  refine ⟨_, rfl, a, xs, ks, n, rfl, oa1, kt1, g, l8, hn, fun H1 s1 => ⟨_, rfl, ?_⟩⟩
  obtain ⟨ha, ka⟩ := ob_H oa (fun _ z => by cases z)
  have s01 := s0.trans s1
  refine ⟨_, rfl, a, xs, rfl, .inl ⟨.of (s01 _ _ ha), fun l hl fr => ?_⟩⟩
  have s2 := Same.new hl (.tup xs)
  have kl : K.lookup l = none := fr l (by rw [upd_same]; simp)
  have ol := ob_new (H := H1) (o := .tup xs) kl
  have s02 := s01.trans s2
  have hc2 := s2 _ _ (s1 _ _ hc)
  generalize upd H1 l (.tup xs) = H2 at s2 ol s02 hc2 ⊢
  refine ⟨_, rfl, c, C, dx, [], rfl, hc2, Y.cl, Y.nK, (by show 0 < 1000; decide), ?_⟩
  have s3 : Same H0 (upd H2 c (.ins C dx (putF "_knots" (.ref l) []))) := same_put s02 c0
  exact k _ s3 ⟨dx, l, xs, upd_same, ob_put hc2 ol, kt.same s3⟩

abbrev sSlKnots : Stmt := inClass (topS 37) 1
theorem scSlKnots : FnScope ["self"] ["self"] (defScope sSlKnots) := ⟨rfl, rfl, rfl, by decide +kernel, rfl, by decide +kernel, by decide +kernel⟩
theorem ok_SlKnots {C f : Addr} {fd : FuncData} (T : Bt K mg) (Y : SlC K mg C) (F : Fun K "knots" "Slot.knots" sSlKnots f fd) : FnOk P w K mg base CX0 1 f fd ["self"] (spKnots K C) := by
  refine F.ok scSlKnots (fun vs H Q E h => ?_) (fun cdv A outer s H vs Q E hr h => ?_)
  · obtain ⟨c, ks, n, rfl, _⟩ := h
    rfl
  obtain ⟨c, ks, n, rfl, hc, k⟩ := h
  refine ⟨_, (pss_one (ps_ret (pe_fr (pe_callTy call_list_of (by rfl) T.b_list (by decide +kernel) (pa_cons (pe_fld (pv 0) rfl) pa_nil))))), ?_⟩
  obtain ⟨dx, t, xs, hi, ot, kt⟩ := hc
  refine ⟨_, rfl, c, C, dx, _, _, rfl, hi, Y.cl, Y.nK, rfl, t, xs, rfl, .inr (ob_tup ot), fun l hl fr => ?_⟩
  exact k l xs _ hl (fr l (by rw [upd_same]; simp)) upd_same (Same.new hl _) (kt.same (Same.new hl _))

end
end My

namespace My
open PySem PySem.Spec PyProof.Rows L2
section
variable {P : Program} {w : World} {K : PySem.W.Frag} {mg : Str → Option Value} {base : Heap}
/-- the pieces: pairs of neighbours -/
def Pcs (K : PySem.W.Frag) (H : Hp) (n : Nat) (us : List V) (ks : List Kt) : Prop := us.length = ks.length ∧ ∀ (i : Nat) k k', (ext ks)[i]? = some k → (ext ks)[i + 1]? = some k' → ∃ T v u, us[i]? = some (.ref T) ∧ ob K H T = some (.tup [v, u]) ∧ Ka K H n v k ∧ Ka K H n u k'
theorem Pcs.same {H H' : Hp} {n : Nat} {us : List V} {ks : List Kt} (h : Pcs K H n us ks) (s : Same H H') : Pcs K H' n us ks := ⟨h.1, fun i k k' a b => by
  obtain ⟨T, v, u, e, o, f, g⟩ := h.2 i k k' a b
  exact ⟨T, v, u, e, ob_same s o, f.same s, g.same s⟩⟩
def spPieces (K : PySem.W.Frag) (C : Addr) : Sp := fun vs H Q _ => ∃ (c : Addr) (ks : List Kt) (n : Nat), vs = [.ref c] ∧ SlAt K C n H c ks ∧ Good ks ∧ ks.length ≤ 8 ∧ 1 ≤ n ∧ ∀ l us H', Same H H' → H' l = some (.lst us) → ob K H' l = some (.lst us) → Pcs K H' n us ks → Q (.ref l) H'
/-- slopes, as far as acc goes -/
def SlL (K : PySem.W.Frag) (H : Hp) (n : Nat) (acc : List V) (ks : List Kt) : Prop := ∀ (j : Nat) x, acc[j]? = some x → ∃ a z, x = .ref a ∧ Fq K H n a z ∧ Slp ks j z
theorem SlL.same {H H' : Hp} {n : Nat} {acc : List V} {ks : List Kt} (h : SlL K H n acc ks) (s : Same H H') : SlL K H' n acc ks := fun j x e => by
  obtain ⟨a, z, e1, f, g⟩ := h j x e
  exact ⟨a, z, e1, f.same s, g⟩
theorem SlL.kp {H H' : Hp} {n : Nat} {s : Addr} {ys acc : List V} {ks : List Kt} (h : SlL K H n acc ks) (e : Kp s H H') (hs : H s = some (.lst ys)) : SlL K H' n acc ks := fun j x hx => by
  obtain ⟨a, z, e1, f, g⟩ := h j x hx
  exact ⟨a, z, e1, f.kp e hs, g⟩
theorem Fq.put {H : Hp} {n : Nat} {a D : Addr} {q : Qt} {xs : List V} {o : HO} (h : Fq K H n a q) (hD : H D = some (.lst xs)) : Fq K (upd H D o) n a q := by
  refine ⟨?_, h.nf, h.sz⟩
  have o' := h.o
  unfold ob at o' ⊢
  split
  · rename_i z e
    rw [e] at o'
    exact o'
  · rename_i e
    rw [e] at o'
    rw [upd_ne (fun z => by rw [z, hD] at o'; cases o')]
    exact o'
theorem SlL.snoc {H : Hp} {n : Nat} {D a : Addr} {z : Qt} {acc : List V} {ks : List Kt} (h : SlL K H n acc ks) (hD : H D = some (.lst acc)) (f : Fq K H n a z) (g : Slp ks acc.length z) : SlL K (upd H D (.lst (acc ++ [.ref a]))) n (acc ++ [.ref a]) ks := fun j x e => by
  rcases Nat.lt_or_ge j acc.length with l | l
  · rw [List.getElem?_append_left l] at e
    obtain ⟨b, y, e1, f1, g1⟩ := h j x e
    exact ⟨b, y, e1, f1.put hD, g1⟩
  · rw [List.getElem?_append_right l] at e
    have := (List.getElem?_eq_some_iff.mp e).1
    rw [List.length_singleton] at this
    rw [show j - acc.length = 0 by omega] at e
    cases e
    exact ⟨a, z, rfl, f.put hD, by rw [show j = acc.length by omega]; exact g⟩
def spSlopes (K : PySem.W.Frag) (C : Addr) : Sp := fun vs H Q _ => ∃ (c : Addr) (ks : List Kt) (n : Nat), vs = [.ref c] ∧ SlAt K C n H c ks ∧ Good ks ∧ ks.length ≤ 8 ∧ 1 ≤ n ∧ n ≤ 600 ∧ ∀ l acc H', H l = none → K.lookup l = none → H' l = some (.lst acc) → Same H H' → acc.length = ks.length → SlL K H' (4 * n + 6) acc ks → Q (.ref l) H'
theorem ext_ex {ks : List Kt} {i : Nat} (h : i < ks.length + 1) : ∃ k, (ext ks)[i]? = some k := ⟨_, List.getElem?_eq_getElem (by rw [ext_len]; exact h)⟩
theorem ext_at {ks : List Kt} {i : Nat} {k : Kt} (h : i < ks.length) : (ext ks)[i]? = some k ↔ ks[i]? = some k := by
  unfold ext
  rw [List.getElem?_append_left h]
abbrev sSlPcs : Stmt := inClass (topS 37) 6
theorem scSlPcs : FnScope ["self", "first_again"] ["self"] (defScope sSlPcs) := ⟨rfl, rfl, rfl, by decide +kernel, rfl, by decide +kernel, by decide +kernel⟩
theorem ok_SlPcs {C f : Addr} {fd : FuncData} (T : Bt K mg) (Y : SlC K mg C) {z0 o0 : Addr} (C0 : Two01 K mg z0 o0) (zZ : mg "zip" = none) (F : Fun K "_pieces" "Slot._pieces" sSlPcs f fd) : FnOk P w K mg base CX0 1 f fd ["self"] (spPieces K C) := by
  refine F.ok scSlPcs (fun vs H Q E h => ?_) (fun cdv A outer s H vs Q E hr h => ?_)
  · obtain ⟨c, ks, n, rfl, _⟩ := h
    rfl
  obtain ⟨c, ks, n, rfl, hc, g, l8, hn, k⟩ := h
  refine ⟨_, (pss_cons (ps_set (i := 1) scSlPcs.nd rfl (.inl rfl) (pe_tp (pa_cons (pe_glob (v := .ref o0) (by rfl) C0.g_ONE rfl) (pa_cons (pe_ix ix_any (pe_ix ix_any (pe_fld (pv 0) rfl) pe_int (fun _ _ => rfl)) pe_int (fun _ _ => rfl)) pa_nil))))
      (pss_one (ps_ret (pe_fr (pe_listZip rfl (by rfl) T.b_list (by rfl) zZ (pa_cons (pe_fld (pv 0) rfl) (pa_cons (pe_op op_catA (pe_slice sl_tup (pe_fld (pv 0) rfl) (po_some pe_int) po_none) (pe_tp (pa_cons (pv 1) pa_nil))) pa_nil))))))), ?_⟩
  obtain ⟨dx, t, xs, hi, ot, kt⟩ := hc
  obtain ⟨k0, e0, el, ee0, z0'⟩ := ext_last g
  obtain ⟨x0, hx0, t0, a0, b0, rfl, ot0, f0, g0⟩ := kt.get e0
  have ei : atI xs 0 = some (.ref t0) := by
    match xs, hx0 with
    | y :: r, h => cases h; exact atI_0 _ _
  have hl := kt.1
  have h1 := g.one
  refine ⟨_, rfl, c, C, dx, _, _, rfl, hi, Y.cl, Y.nK, rfl, t, 0, rfl, rfl, _, itsO_of ot, _, ei, t0, 1, rfl, rfl, _, itsO_of ot0, _, atI_1 _ _ _, sz2 (by show 2 ≤ 100; decide), fun p hp kp => ?_⟩
  have s1 := Same.new hp (.tup [.ref o0, .ref b0])
  have op := ob_new (H := H) (o := .tup [.ref o0, .ref b0]) kp
  generalize upd H p (.tup [.ref o0, .ref b0]) = H1 at s1 op ⊢
  have hi1 := s1 _ _ hi
  have ot1 := ob_same s1 ot
  have n1 : ¬ (HT.sIx xs.length 0 (some 1) = 0 ∧ HT.sIx xs.length xs.length none = xs.length) := by
    rintro ⟨e, _⟩
    have := HT.sIx_nat xs.length 0 1
    rw [show (some ((1 : Nat) : Int)) = some (1 : Int) from rfl, e] at this
    omega
  refine ⟨_, rfl, c, C, dx, _, _, rfl, hi1, Y.cl, Y.nK, rfl, _, rfl, c, C, dx, _, _, rfl, hi1, Y.cl, Y.nK, rfl, _, rfl, t, xs, rfl, ob_tup ot1, n1, ?_⟩
  have ec : cutV xs (some ((fun i => i) 1)) none = xs.drop 1 := cut_from xs 1 (by omega)
  rw [show cutV xs (some 1) none = xs.drop 1 from ec]
  intro p1 hp1
  have s2 := Same.new hp1 (.tup (xs.drop 1))
  have q1 : SqT K (upd H1 p1 (.tup (xs.drop 1))) p1 (xs.drop 1) := .inl (.inl upd_same)
  generalize upd H1 p1 (.tup (xs.drop 1)) = H2 at s2 q1 ⊢
  refine ⟨_, rfl, sz2 (by show 1 ≤ 100; decide), fun p2 hp2 kp2 => ?_⟩
  have s3 := Same.new hp2 (.tup [.ref p])
  have q2 : SqT K (upd H2 p2 (.tup [.ref p])) p2 [.ref p] := .inl (.inl upd_same)
  have q1 := Same.seqT s3 q1
  generalize upd H2 p2 (.tup [.ref p]) = H3 at s3 q1 q2 ⊢
  have s13 := s2.trans s3
  have dl : (xs.drop 1).length = xs.length - 1 := List.length_drop
  have fin : ∀ (r : Addr) (Hr : Hp), Same H3 Hr → SqT K Hr r (xs.drop 1 ++ [.ref p]) → ∃ a b xs' ys', [V.ref t, V.ref r] = [V.ref a, V.ref b] ∧ SqT K Hr a xs' ∧ SqT K Hr b ys' ∧ xs'.length = ys'.length ∧
      ∀ S (ts : List Addr) H', Hr S = none → Same Hr H' → H' S = some (.lst (ts.map V.ref)) → ts.length = xs'.length → (∀ (i : Nat) T x y, ts[i]? = some T → xs'[i]? = some x → ys'[i]? = some y → H' T = some (.tup [x, y])) → (∀ a, H' a ≠ none → K.lookup a = none) → Q (.ref S) H' := fun r Hr sr hr => by
    refine ⟨t, r, xs, _, rfl, ob_tup (ob_same (s13.trans sr) ot1), hr, by rw [List.length_append, dl, List.length_singleton]; omega, fun S ts H' hS s4 hl' lt pr fr => ?_⟩
    have sA := s1.trans (s13.trans (sr.trans s4))
    have kS : K.lookup S = none := fr S (by rw [hl']; simp)
    refine k S _ H' sA hl' ((ob_none kS).trans hl') ⟨by rw [List.length_map, lt, hl], fun i k1 k2 e1 e2 => ?_⟩
    have li := (List.getElem?_eq_some_iff.mp e2).1
    rw [ext_len] at li
    have e1' := (ext_at (by omega)).mp e1
    obtain ⟨v, hv, kv⟩ := kt.get e1'
    have hT : ts[i]? = some ts[i] := List.getElem?_eq_getElem (by omega)
    have out : ∀ u, (xs.drop 1 ++ [V.ref p])[i]? = some u → Ka K H' n u k2 → ∃ T v u, (ts.map V.ref)[i]? = some (.ref T) ∧ ob K H' T = some (.tup [v, u]) ∧ Ka K H' n v k1 ∧ Ka K H' n u k2 := fun u hu ku => by
      have oT := pr i _ v u hT hv hu
      exact ⟨ts[i], v, u, by rw [List.getElem?_map, hT]; rfl, (ob_none (fr _ (by rw [oT]; simp))).trans oT, kv.same sA, ku⟩
    by_cases hn' : i + 1 = ks.length
    · rw [hn', el] at e2
      cases e2
      refine out (.ref p) ?_ ⟨p, o0, b0, rfl, ob_same (s13.trans (sr.trans s4)) op, ⟨C0.oo _, nf11, sz11 hn⟩, g0.same sA⟩
      rw [List.getElem?_append_right (by omega), dl, show i - (xs.length - 1) = 0 by omega]
      rfl
    · have e2' := (ext_at (by omega)).mp e2
      obtain ⟨u, hu, ku⟩ := kt.get e2'
      refine out u ?_ (ku.same sA)
      rw [List.getElem?_append_left (by omega), List.getElem?_drop, Nat.add_comm]
      exact hu
  refine ⟨p1, p2, _, _, rfl, rfl, q1, q2, by rw [dl, List.length_singleton, sizeLine_eq]; omega, fun e => ?_, fun _ e => (by cases e), fun _ _ p3 hp3 => fin p3 _ (Same.new hp3 _) (.inl (.inl upd_same))⟩
  refine fin p2 H3 (Same.refl _) ?_
  rw [e]
  exact q2

end
end My

namespace My
open PySem PySem.Spec PyProof.Rows L2
section
variable {P : Program} {w : World} {K : PySem.W.Frag} {mg : Str → Option Value} {base : Heap}
def spCarried (K : PySem.W.Frag) (C : Addr) : Sp := fun vs H Q _ => ∃ (c a : Addr) (ks : List Kt) (n j : Nat) (t : Qt), vs = [.ref c, .ref a] ∧ SlAt K C n H c ks ∧ Good ks ∧ ks.length ≤ 8 ∧ 1 ≤ n ∧ n ≤ 140 ∧ Fq K H j a t ∧ j ≤ 600 ∧ ∀ z b H', Same H H' → Fq K H' (3 * j + 7 * n + 14) b z → Car ks t z → Q (.ref b) H'
/-- how many of the first i knots are not behind p -/
def CntI (ks : List Kt) (p : Rat) (i m : Nat) : Prop := m ≤ i ∧ (∀ (j : Nat) k, j < m → ks[j]? = some k → qv k.1 ≤ p) ∧ (m < i → ∃ k, ks[m]? = some k ∧ p < qv k.1)
theorem cnt_yes {ks : List Kt} {p : Rat} {i m : Nat} {k : Kt} (g : Good ks) (h : CntI ks p i m) (hk : ks[i]? = some k) (hp : qv k.1 ≤ p) : m = i ∧ CntI ks p (i + 1) (i + 1) := by
  have hm : m = i := by
    by_cases c : m < i
    · exfalso
      obtain ⟨k2, e2, lt⟩ := h.2.2 c
      have := asc_lt g (i - m - 1) m k2 k (g.at e2).1 (by rw [show m + 1 + (i - m - 1) = i by omega]; exact (g.at hk).1)
      grind
    · have := h.1
      omega
  refine ⟨hm, Nat.le_refl _, fun j k2 hj e => ?_, fun z => absurd z (Nat.lt_irrefl _)⟩
  rcases Nat.eq_or_lt_of_le (show j ≤ i by omega) with e' | e'
  · subst e'
    rw [hk] at e
    cases e
    exact hp
  · exact h.2.1 j k2 (by omega) e
theorem cnt_no {ks : List Kt} {p : Rat} {i m : Nat} {k : Kt} (h : CntI ks p i m) (hk : ks[i]? = some k) (hp : p < qv k.1) : CntI ks p (i + 1) m := by
  refine ⟨by have := h.1; omega, h.2.1, fun z => ?_⟩
  by_cases c : m < i
  · exact h.2.2 c
  · have := h.1
    rw [show m = i by omega]
    exact ⟨k, hk, hp⟩
theorem cnt_end {ks : List Kt} {p : Rat} {m : Nat} (g : Good ks) (h : CntI ks p ks.length m) (p0 : 0 ≤ p) (p1 : p < 1) : ∃ i k k', m = i + 1 ∧ i < ks.length ∧ (ext ks)[i]? = some k ∧ (ext ks)[i + 1]? = some k' ∧ qv k.1 ≤ p ∧ p < qv k'.1 := by
  obtain ⟨k0, e0, el, ee, z0⟩ := ext_last g
  have m0 : 0 < m := by
    rcases Nat.eq_zero_or_pos m with c | c
    · exfalso
      subst c
      obtain ⟨k, e, lt⟩ := h.2.2 g.one
      rw [e0] at e
      cases e
      rw [z0, qv01] at lt
      grind
    · exact c
  obtain ⟨i, rfl⟩ : ∃ i, m = i + 1 := ⟨m - 1, by omega⟩
  have li := h.1
  obtain ⟨k, e1⟩ := ext_ex (ks := ks) (i := i) (by omega)
  obtain ⟨k', e2⟩ := ext_ex (ks := ks) (i := i + 1) (by omega)
  refine ⟨i, k, k', rfl, by omega, e1, e2, h.2.1 i k (by omega) ((ext_at (by omega)).mp e1), ?_⟩
  by_cases c : i + 1 = ks.length
  · rw [c, el] at e2
    cases e2
    rw [qv11]
    exact p1
  · obtain ⟨k2, e3, lt⟩ := h.2.2 (by omega)
    have := (ext_at (by omega)).mp e2
    rw [e3] at this
    cases this
    exact lt
abbrev sSlCar : Stmt := inClass (topS 37) 3
theorem scSlCar : FnScope ["self", "turns", "place", "index", "behind", "knot", "end"] ["self", "turns"] (defScope sSlCar) := ⟨rfl, rfl, rfl, by decide +kernel, rfl, by decide +kernel, by decide +kernel⟩
theorem blk_scSlCar_0 : BlkOk ["self", "turns", "place", "index", "behind", "knot", "end"] (defScope sSlCar) { kind := .function, names := [(".0", .local), ("knot", .local), ("compare", .globalImplicit), ("place", .free)], isGenerator := false, isCoroutine := false, more := [] } [("knot", 5)] := ⟨rfl, by decide +kernel, by decide +kernel, by decide +kernel, by decide +kernel⟩
theorem ok_SlCar {C f : Addr} {fd : FuncData} (T : Bt K mg) (Y : SlC K mg C) (m__pieces : C8.Met P w K mg base 1 C "_pieces" (spPieces K C) []) (d_require : Kn P w K mg base 1 "require" ["well_formed", "what"] spRequire) (d_is_fraction : Kn P w K mg base 2 "is_fraction" ["value"] (spIsFraction K)) (d_part_of : Kn P w K mg base 3 "part_of" ["value"] (spUn K fun q => (q.1 % q.2, q.2))) (d_compare : Kn P w K mg base 3 "compare" ["left", "right"] (spCmp K)) (d_minus : Kn P w K mg base 3 "minus" ["left", "right"] (spBin K dif2)) (d_plus : Kn P w K mg base 3 "plus" ["left", "right"] (spBin K sum2)) (d_times : Kn P w K mg base 3 "times" ["left", "right"] (spBin K pro2)) (d__slope : Kn P w K mg base 4 "_slope" ["knot", "end"] (spSlope K)) (F : Fun K "carried" "Slot.carried" sSlCar f fd) : FnOk P w K mg base CX0 5 f fd ["self", "turns"] (spCarried K C) := by
  refine F.ok scSlCar (fun vs H Q E h => ?_) (fun cdv A outer s H vs Q E hr h => ?_)
  · obtain ⟨c, a, ks, n, j, t, rfl, _⟩ := h
    rfl
  obtain ⟨c, a, ks, n, j, t, rfl, hc, g, l8, hn, hn2, ft, hj, k⟩ := h
  refine ⟨_, (pss_cons (ps_expr (pe_kn d_require hr (by rfl) (pa_cons (pe_kn d_is_fraction hr (by rfl) (pa_cons (pv 1) pa_nil)) (pa_cons pe_str pa_nil))))
      (pss_cons (ps_set (i := 2) scSlCar.nd rfl (.inr rfl) (pe_kn d_part_of hr (by rfl) (pa_cons (pv 1) pa_nil)))
      (pss_cons (ps_set (i := 3) scSlCar.nd rfl (.inl rfl) (pe_op op_sub (pe_callB call_lenA (by rfl) T.b_len PySem.boot_len (pa_cons (pe_fr (pe_lc (own := [("knot", 5)]) (g := gName 5) (tt := (tTest (tOp (rI0 fun i j => V.bl (decide (i ≤ j))) (tCall (spCmp K) [] E0 (tCons (tOp (rIxA K) (tVar 5) (tC (.int 0))) (tCons (tVar 2) L2.tNil))) (tC (.int 0))))) (te := (tVar 5)) rfl scSlCar.nd (pi_tup (pe_fld (pv 0) rfl)) blk_scSlCar_0 (fun _ _ _ _ _ => by exact pg_name (i := 5) scSlCar.nd rfl (.inl rfl)) (fun _ _ _ _ _ => by exact (pts_one (pt_cmpR op_le (pe_kn d_compare hr (by rfl) (pa_cons (pe_ix ix_any (pv 5) pe_int (fun _ _ => rfl)) (pa_cons (pv 2) pa_nil))) pe_int (nomark _)))) (fun _ _ _ _ _ => by exact (pv 5)))) pa_nil)) pe_int))
      (pss_cons (ps_asg (pe_ix ix_any (C8.pe_mt0 m__pieces hr (by omega) (pv 0)) (pv 3) (fun _ _ => rfl)) (pg_tp 2 (by rfl) (pgs_cons (pg_name (i := 5) scSlCar.nd rfl (.inl rfl)) (pgs_cons (pg_name (i := 6) scSlCar.nd rfl (.inl rfl)) pgs_nil))))
      (pss_cons (ps_set (i := 4) scSlCar.nd rfl (.inl rfl) (pe_kn d_minus hr (by rfl) (pa_cons (pv 2) (pa_cons (pe_ix ix_any (pv 5) pe_int (fun _ _ => rfl)) pa_nil))))
      (pss_one (ps_ret (pe_kn d_plus hr (by rfl) (pa_cons (pe_kn d_plus hr (by rfl) (pa_cons (pe_kn d_minus hr (by rfl) (pa_cons (pv 1) (pa_cons (pv 4) pa_nil))) (pa_cons (pe_ix ix_any (pv 5) pe_int (fun _ _ => rfl)) pa_nil))) (pa_cons (pe_kn d_times hr (by rfl) (pa_cons (pv 4) (pa_cons (pe_kn d__slope hr (by rfl) (pa_cons (pv 5) (pa_cons (pv 6) pa_nil))) pa_nil))) pa_nil)))))))))), ?_⟩
  have hc' := hc
  obtain ⟨dx, tp, xs, hi, ot, kt⟩ := hc'
  refine ⟨_, rfl, _, rfl, Tyd.fr ft.o, _, by rw [frOk_fr ft.o ft.nf]; rfl, ?_⟩
  refine ⟨_, rfl, av_part ft fun e H1 s1 fe => ?_⟩
  obtain ⟨_, p0, p1⟩ := qv_part ft.nf
  have hi1 := s1 _ _ hi
  have ot1 := ob_same s1 ot
  have kt1 := kt.same s1
  have lk := kt.1
  refine ⟨_, rfl, c, C, dx, _, _, rfl, hi1, Y.cl, Y.nK, rfl, tp, rfl, ⟨xs, ob_tup ot1⟩, fun D hD => lc_tup (xs := xs) (fun i H' => ∃ acc, H' D = some (.lst acc) ∧ CntI ks (qv (t.1 % t.2, t.2)) i acc.length ∧ Same H1 H') ⟨[], upd_same, ⟨Nat.le_refl _, fun j k z => absurd z (Nat.not_lt_zero _), fun z => absurd z (Nat.lt_irrefl _)⟩, Same.new hD _⟩ (fun i H' _ ⟨_, _, _, h⟩ => ob_tup (ob_same h ot1)) ?_ ?_⟩
  · rintro i x H' hx ⟨acc, ha, hcn, s2⟩
    obtain ⟨kk, hk, kx⟩ := kt1.at hx
    obtain ⟨t1, a1, b1, rfl, o1, f1, _⟩ := kx.same s2
    have li := (List.getElem?_eq_some_iff.mp hk).1
    have lac := hcn.1
    refine ⟨rfl, ?_⟩
    refine ⟨_, rfl, t1, 0, rfl, rfl, _, itsO_of o1, _, atI_0 _ _, _, rfl, a1, e, _, _, rfl, f1.mono (by omega), (fe.same s2).mono (by omega), _, _, rfl, rfl, _, rfl, ite2 (fun h => ?_) (fun h => ?_)⟩
    · have h : cmp2 kk.1 (t.1 % t.2, t.2) ≤ 0 := of_decide_eq_true h
      obtain ⟨ei, cn⟩ := cnt_yes g hcn hk ((cmp_le0 f1.nf fe.nf).mp h)
      refine ⟨_, rfl, acc, ha, by rw [sizeLine_eq]; omega, acc ++ [.ref t1], upd_same, by rw [List.length_append, List.length_singleton, ei]; exact cn, fun b o z => ?_⟩
      rw [upd_ne (ne_of_none z hD)]
      exact s2 _ _ z
    · have h : ¬ cmp2 kk.1 (t.1 % t.2, t.2) ≤ 0 := fun z => h (decide_eq_true z)
      rw [cmp_le0 f1.nf fe.nf, Rat.not_le] at h
      exact ⟨acc, ha, cnt_no hcn hk h, s2⟩
  · rintro H' ⟨acc, ha, hcn, s2⟩ fr
    rw [lk] at hcn
    obtain ⟨i, k1, k2, em, li, e1, e2, c1, c2⟩ := cnt_end g hcn p0 p1
    have kD : K.lookup D = none := fr D (by rw [ha]; simp)
    have oD : ob K H' D = some (.lst acc) := (ob_none kD).trans ha
    refine ⟨D, rfl, acc, itsO_ofL oD, _, _, rfl, rfl, ?_⟩
    have s12 := s1.trans s2
    refine ⟨_, rfl, c, dx, _, rfl, s12 _ _ hi, rfl, c, ks, n, rfl, hc.same s12, g, l8, hn, fun l us H3 s3 hl ol pc => ?_⟩
    obtain ⟨T, v, u, eT, oT, kv, ku⟩ := pc.2 i k1 k2 e1 e2
    have ix : atI us ((fun i j => i - j) (acc.length : Int) 1) = some (.ref T) := by
      show atI us ((acc.length : Int) - 1) = some (.ref T)
      rw [em, show (((i + 1 : Nat) : Int) - 1) = (i : Int) by omega]
      exact atI_nat eT
    obtain ⟨tv, va, vb, rfl, ov, fva, fvb⟩ := kv
    obtain ⟨tu, ua, ub, rfl, ou, fua, fub⟩ := ku
    refine ⟨_, rfl, l, _, rfl, rfl, us, itsO_ofL ol, _, ix, T, rfl, _, oT, rfl, _, _, rfl, _, _, rfl, rfl, ?_⟩
    have fe3 := fe.same (s2.trans s3)
    have ft3 := ft.same (s12.trans s3)
    refine ⟨_, rfl, _, rfl, tv, 0, rfl, rfl, _, itsO_of ov, _, atI_0 _ _, av_dif fe3 fva fun b b1 H4 eb s4 fb => ?_⟩
    refine ⟨_, rfl, _, rfl, av_dif (ft3.same s4) fb fun d d1 H5 ed s5 fd => ?_⟩
    refine ⟨_, rfl, tv, 1, rfl, rfl, _, itsO_of (ob_same (s4.trans s5) ov), _, atI_1 _ _ _, av_sum fd (fvb.same (s4.trans s5)) fun m m1 H6 em' s6 fm => ?_⟩
    have s46 := s4.trans (s5.trans s6)
    refine ⟨_, rfl, _, rfl, _, rfl, .ref tv, .ref tu, k1, k2, n, rfl, ⟨tv, va, vb, rfl, ob_same s46 ov, fva.same s46, fvb.same s46⟩, ⟨tu, ua, ub, rfl, ob_same s46 ou, fua.same s46, fub.same s46⟩, by omega, g.asc i k1 k2 e1 e2, fun z z1 H7 s7 fz ez => ?_⟩
    refine av_pro ((fb.same (s5.trans s6)).same s7) fz fun y y1 H8 ey s8 fy => ?_
    refine av_sum (fm.same (s7.trans s8)) fy fun r r1 H9 er s9 fr' => ?_
    refine k r r1 H9 (s12.trans (s3.trans (s46.trans (s7.trans (s8.trans s9))))) (fr'.mono (by omega)) ⟨fr'.nf, i, k1, k2, e1, e2, c1, c2, ?_⟩
    rw [er, em', ed, ey, ez, eb]

end
end My

namespace My
open PySem PySem.Spec PyProof.Rows L2
section
variable {P : Program} {w : World} {K : PySem.W.Frag} {mg : Str → Option Value} {base : Heap}
/-- the store, while a list is written that is newer than it -/
theorem Sto.mut {H0 H' : Hp} {s l : Addr} {o : HO} (st0 : Sto K H0 s) (hl : H0 l = none) (kp : Kp s H0 H') (st : Sto K H' s) : Sto K (upd H' l o) s ∧ Kp s H0 (upd H' l o) := by
  obtain ⟨sc0, ns0, i0, b0, c0, d0, e0, f0, g1, g2, g3⟩ := st0
  obtain ⟨sc, ns, i, b, c, d, e, f, h1, h2, h3⟩ := st
  obtain ⟨r', hr⟩ := kp.2 _ _ g1
  rw [h1] at hr
  cases hr
  have n1 : s ≠ l := by rintro rfl; rw [g1] at hl; cases hl
  have n2 : sc0 ≠ l := by rintro rfl; rw [g2] at hl; cases hl
  refine ⟨⟨sc0, ns, i, b, c, d, e, f, by rw [upd_ne n1]; exact h1, by rw [upd_ne n2]; exact h2, h3⟩, fun b o n e => ?_, fun x r e => ?_⟩
  · rw [upd_ne (ne_of_none e hl)]
    exact kp.1 b o n e
  · obtain ⟨r2, hr2⟩ := kp.2 x r e
    exact ⟨r2, by rw [upd_ne n1]; exact hr2⟩
theorem Sto.ne' {H : Hp} {s l : Addr} (st : Sto K H s) (hl : H l = none) : l ≠ s := by
  rintro rfl
  obtain ⟨ys, hy⟩ := st.at
  rw [hy] at hl
  cases hl
theorem Kp.free {H H' : Hp} {s p : Addr} (kp : Kp s H H') (st : Sto K H' s) (hp : H' p = none) : H p = none := by
  have ne := st.ne' hp
  cases e : H p with
  | none => rfl
  | some o =>
    have := kp.1 p o ne e
    rw [hp] at this
    cases this
theorem Sto.ne {H : Hp} {s l : Addr} (st : Sto K H s) (hl : H l = none) : l ≠ s := by
  rintro rfl
  obtain ⟨ys, hy⟩ := st.at
  rw [hy] at hl
  cases hl
def spSize (K : PySem.W.Frag) : Sp := fun vs H Q _ => ∃ (s : Addr) (top : Int), vs = [.ref s, .int top] ∧ Sto K H s ∧ 0 ≤ top ∧ top < 2 ^ 60 ∧ ∀ r H', 0 ≤ r → r ≤ top → Kp s H H' → Sto K H' s → Q (.int r) H'
abbrev sSize : Stmt := topS 51
theorem scSize : FnScope ["_law_store_here", "_law_top", "_law_spot"] ["_law_store_here", "_law_top"] (defScope sSize) := ⟨rfl, rfl, rfl, by decide +kernel, rfl, by decide +kernel, by decide +kernel⟩
theorem k_Size (T : Bt K mg) (D : Dfn K mg "_law_size" sSize ["_law_store_here", "_law_top"]) (d__law_take : Kn P w K mg base 2 "_law_take" ["_law_store_here", "_law_many"] (spTake K)) : Kn P w K mg base 3 "_law_size" ["_law_store_here", "_law_top"] (spSize K) := by
  refine Kn.mk' D scSize (fun vs H Q E h => ?_) (fun f cdv A outer s H vs Q E hr h => ?_)
  · obtain ⟨s, top, rfl, _⟩ := h
    rfl
  obtain ⟨s, top, rfl, hS, t0, t1, k⟩ := h
  refine ⟨_, (pss_cons (ps_set (i := 2) scSize.nd rfl (.inl rfl) (pe_kn d__law_take hr (by rfl) (pa_cons (pv 0) (pa_cons pe_int pa_nil))))
      (pss_cons (ps_if (pt_cmpR op_lt (pv 2) pe_int (nomark _)) (pss_one (ps_ret (pe_callB (call_min2 rfl) (by rfl) T.b_min (by decide +kernel) (pa_cons (pv 2) (pa_cons (pv 1) pa_nil))))) pss_nil)
      (pss_cons (ps_if (PW.pt (pw_and (pt_cmpR op_eq (pv 2) pe_int (nomark _)) (pw_and1 (PW.pt (pw_or (pt_cmpR op_lt (pv 1) pe_int (nomark _)) (pw_or1 (pt_cmpR op_eq (pe_kn d__law_take hr (by rfl) (pa_cons (pv 0) (pa_cons pe_int pa_nil))) pe_int (nomark _)))))))) (pss_one (ps_ret (pv 1))) pss_nil)
      (pss_one (ps_ret (pe_kn d__law_take hr (by rfl) (pa_cons (pv 0) (pa_cons (pe_op op_add (pe_callB (call_min2 rfl) (by rfl) T.b_min (by decide +kernel) (pa_cons (pv 1) (pa_cons pe_int pa_nil))) pe_int) pa_nil)))))))), ?_⟩
  refine ⟨_, rfl, s, 12, rfl, hS, by omega, fun i H1 i0 i1 kp st => ?_⟩
  simp only [cx_K, decide_true, decide_false, reduceCtorEq, gTp, gCons, gNil, ca_0, ca_1, ca_2, ca_3, ca_4, ca_5, ca_6, ca_7, ca_8, ca_9, ca_10, ca_11, ca_12, ca_13, ca_14, ca_15, ca_16, ca_17, ca_18, ca_19, ca_20, ca_21, ca_22, ca_23, ca_24, ca_25, ca_26, ca_27, ca_28, ca_29, ca_30, not_true_eq_false, not_false_eq_true, Int.reduceEq, Nat.reduceEqDiff, Nat.reduceLeDiff, rGcd, V.ty.injEq, eq_self, List.not_mem_nil, beq_self_eq_true, HO.lst.injEq, HO.tup.injEq, tFor_eq, iRng1, iList, iTup, nat10, tSeq, rIxA, rSetA, rIsN, rIsT, tTp, tLs, itsO_tup, itsO_lst, tyO_tup, tyO_lst, tyO_dK, tyN_non, tyN_bl, tyN_int, tyN_str, tyN_ref, tyNs_lt, isB, upd_same, upd_upd, sizeLine_eq, List.mem_cons, String.reduceBEq, String.reduceEq, Bool.or_false, Bool.or_true, Bool.and_false, Bool.false_or, Bool.and_self, Bool.false_and, Bool.not_false, Bool.not_true, List.any_cons, List.any_nil, atI_0, setI_0, atI_1, setI_1, atI_2, setI_2, atI_3, setI_3, atI_4, setI_4, atI_5, setI_5, atI_6, setI_6, tAsg, gName, tOp, tUn, tVar, tC, tCons, L2.tNil, tRet, tIfS, tTest, tCB, tCall, rI, rI0, rU, tNext, tB, tAnd, tOr, tNot, tAndV, tOrV, tNotV, tDrop, tIf, tPar, gSub, rIxL, rIxT, rEq, rNe, rSetL, tBits,
    L2.start, List.map_cons, List.map_nil, List.cons_append, List.nil_append, List.append_nil, List.length_cons, List.length_nil, List.replicate, Nat.reduceAdd, Nat.reduceSub, Nat.zero_add, List.getElem?_cons_zero, List.getElem?_cons_succ, List.set_cons_zero, List.set_cons_succ,
    Option.some.injEq, exists_eq_left', exists_eq_left, V.int.injEq, V.bl.injEq, V.ref.injEq, V.str.injEq, List.cons.injEq, reduceCtorEq, and_true, true_and, false_and, and_false, exists_false, or_false, false_or, or_true, true_or, exists_const, CMul, CDiv, CPow, and_assoc, exists_and_left, exists_and_right, Int.reducePow, Int.reduceNeg, Int.reduceLT, Int.reduceLE, Nat.reducePow, Nat.reduceLT, Int.reduceToNat, gt_iff_lt, ge_iff_le, decide_eq_true_eq, Bool.not_eq_true', decide_eq_false_iff_not, scal, ↓reduceIte, Bool.false_eq_true]
  refine ite2 (fun h => ?_) (fun h => ?_)
  · refine k _ H1 ?_ ?_ kp st <;> split <;> omega
  have fin : ∀ H2, Kp s H1 H2 → Sto K H2 s → spTake K [.ref s, .int ((if 6 < top then 6 else top) + 1)] H2 Q C8.E0 := fun H2 kp2 st2 =>
    ⟨s, _, rfl, st2, by split <;> omega, fun j H3 j0 j1 kp3 st3 => k j H3 j0 (by split at j1 <;> omega) ((kp.trans kp2).trans kp3) st3⟩
  refine ite2 (fun _ => ite2 (fun _ => k top H1 t0 (Int.le_refl _) kp st) (fun _ => ⟨s, 3, rfl, st, by omega, fun j H2 j0 j1 kp2 st2 => ⟨rfl, ite2 (fun _ => k top H2 t0 (Int.le_refl _) (kp.trans kp2) st2) (fun _ => fin H2 kp2 st2)⟩⟩)) (fun _ => fin H1 (Kp.refl _ _) st)
def spRange (K : PySem.W.Frag) : Sp := fun vs H Q _ => ∃ (s : Addr) (lo hi : Int), vs = [.ref s, .int lo, .int hi] ∧ Sto K H s ∧ 0 ≤ lo ∧ hi < 2 ^ 100 ∧ ∀ r H', lo ≤ r → (r ≤ hi ∨ (hi ≤ lo ∧ r = lo)) → (hi ≤ lo → r = lo) → Kp s H H' → Sto K H' s → Q (.int r) H'
abbrev sRange : Stmt := topS 50
theorem scRange : FnScope ["_law_store_here", "_law_low", "_law_high", "_law_spot"] ["_law_store_here", "_law_low", "_law_high"] (defScope sRange) := ⟨rfl, rfl, rfl, by decide +kernel, rfl, by decide +kernel, by decide +kernel⟩
theorem k_Range (T : Bt K mg) (D : Dfn K mg "_law_range" sRange ["_law_store_here", "_law_low", "_law_high"]) (d__law_take : Kn P w K mg base 2 "_law_take" ["_law_store_here", "_law_many"] (spTake K)) : Kn P w K mg base 3 "_law_range" ["_law_store_here", "_law_low", "_law_high"] (spRange K) := by
  refine Kn.mk' D scRange (fun vs H Q E h => ?_) (fun f cdv A outer s H vs Q E hr h => ?_)
  · obtain ⟨s, lo, hi, rfl, _⟩ := h
    rfl
  obtain ⟨s, lo, hi, rfl, hS, l0, h1, k⟩ := h
  refine ⟨_, (pss_cons (ps_set (i := 3) scRange.nd rfl (.inl rfl) (pe_kn d__law_take hr (by rfl) (pa_cons (pv 0) (pa_cons pe_int pa_nil))))
      (pss_cons (ps_if (PW.pt (pw_or (pt_cmpR op_eq (pv 3) pe_int (nomark _)) (pw_or1 (pt_cmpR op_le (pv 2) (pv 1) (nomark _))))) (pss_one (ps_ret (pv 1))) pss_nil)
      (pss_cons (ps_if (pt_cmpR op_eq (pv 3) pe_int (nomark _)) (pss_one (ps_ret (pv 2))) pss_nil)
      (pss_one (ps_ret (pe_op op_add (pv 1) (pe_kn d__law_take hr (by rfl) (pa_cons (pv 0) (pa_cons (pe_op op_add (pe_op op_sub (pv 2) (pv 1)) pe_int) pa_nil))))))))), ?_⟩
  refine ⟨_, rfl, s, 6, rfl, hS, by omega, fun i H1 i0 i1 kp st => ?_⟩
  refine ⟨_, rfl, rfl, _, rfl, ite2 (fun h => ?_) (fun h => ?_)⟩
  · exact ⟨_, rfl, k lo H1 (Int.le_refl _) (by omega) (fun _ => rfl) kp st⟩
  refine ⟨_, rfl, _, rfl, _, _, rfl, rfl, _, rfl, ite2 (fun h2 => ?_) (fun h2 => ?_)⟩
  · exact ⟨_, rfl, k lo H1 (Int.le_refl _) (.inr ⟨of_decide_eq_true h2, rfl⟩) (fun _ => rfl) kp st⟩
  have h2 : ¬ hi ≤ lo := fun z => h2 (decide_eq_true z)
  refine ⟨_, rfl, rfl, _, rfl, ite2 (fun h => ?_) (fun h => ?_)⟩
  · exact ⟨_, rfl, k hi H1 (by omega) (by omega) (fun z => absurd z h2) kp st⟩
  refine ⟨_, rfl, _, rfl, _, rfl, _, rfl, _, _, rfl, rfl, _, _, rfl, rfl, s, _, rfl, st, by omega, fun j H2 j0 j1 kp2 st2 => ⟨_, _, rfl, rfl, ?_⟩⟩
  exact k (lo + j) H2 (by omega) (by omega) (fun z => absurd z h2) (kp.trans kp2) st2
theorem Fq.kps {H H' : Hp} {n : Nat} {a s : Addr} {q : Qt} (h : Fq K H n a q) (e : Kp s H H') (st : Sto K H s) : Fq K H' n a q := by
  obtain ⟨ys, hys⟩ := st.at
  exact h.kp e hys
theorem Kts.kps {H H' : Hp} {n : Nat} {s : Addr} {xs : List V} {ks : List Kt} (h : Kts K H n xs ks) (e : Kp s H H') (st : Sto K H s) : Kts K H' n xs ks := by
  obtain ⟨ys, hys⟩ := st.at
  exact h.kp e hys
theorem SlAt.kps {C : Addr} {H H' : Hp} {n : Nat} {c s : Addr} {ks : List Kt} (h : SlAt K C n H c ks) (e : Kp s H H') (st : Sto K H s) : SlAt K C n H' c ks := by
  obtain ⟨ys, hys⟩ := st.at
  exact h.kp e hys
theorem SlL.kps {H H' : Hp} {n : Nat} {s : Addr} {acc : List V} {ks : List Kt} (h : SlL K H n acc ks) (e : Kp s H H') (st : Sto K H s) : SlL K H' n acc ks := by
  obtain ⟨ys, hys⟩ := st.at
  exact h.kp e hys
theorem Ka.put {H : Hp} {n : Nat} {D : Addr} {v : V} {k : Kt} {xs : List V} {o : HO} (h : Ka K H n v k) (hD : H D = some (.lst xs)) : Ka K (upd H D o) n v k := by
  obtain ⟨t, a, b, e, ot, f, g⟩ := h
  refine ⟨t, a, b, e, ?_, f.put hD, g.put hD⟩
  unfold ob at ot ⊢
  split
  · rename_i z e'
    rw [e'] at ot
    exact ot
  · rename_i e'
    rw [e'] at ot
    rw [upd_ne (fun z => by rw [z, hD] at ot; cases ot)]
    exact ot
theorem Kts.snoc {H : Hp} {n : Nat} {D : Addr} {x : V} {k : Kt} {xs : List V} {ks : List Kt} (h : Kts K H n xs ks) (hD : H D = some (.lst xs)) (hk : Ka K H n x k) : Kts K (upd H D (.lst (xs ++ [x]))) n (xs ++ [x]) (ks ++ [k]) := ⟨by rw [List.length_append, List.length_append, h.1]; rfl, fun i y q e1 e2 => by
  have hl := h.1
  rcases Nat.lt_or_ge i xs.length with l | l
  · rw [List.getElem?_append_left l] at e1
    rw [List.getElem?_append_left (by omega)] at e2
    exact (h.2 i y q e1 e2).put hD
  · rw [List.getElem?_append_right l] at e1
    rw [List.getElem?_append_right (by omega)] at e2
    have := (List.getElem?_eq_some_iff.mp e1).1
    rw [List.length_singleton] at this
    rw [show i - xs.length = 0 by omega] at e1
    rw [show i - ks.length = 0 by omega] at e2
    cases e1
    cases e2
    exact hk.put hD⟩
theorem rat_div_lt {a b c : Rat} (h : a < b) (hc : 0 < c) : a / c < b / c := by
  rw [Rat.div_lt_iff hc]
  have : b / c * c = b := by grind
  rw [this]
  exact h
/-- knots in the making: the last place is spot / bottom -/
structure Grow (many bottom spot : Int) (i : Nat) (ks : List Kt) : Prop where
  len : ks.length = i
  nf : ∀ k ∈ ks, Nf k.1 ∧ Nf k.2
  zero : ∀ k, ks[0]? = some k → k.1 = (0, 1)
  asc : ∀ (j : Nat) k k', ks[j]? = some k → ks[j + 1]? = some k' → qv k.1 < qv k'.1
  last : ∀ (j : Nat) k, j + 1 = i → ks[j]? = some k → qv k.1 = (spot : Rat) / (bottom : Rat)
  lo : 0 ≤ spot
  hi : (1 ≤ i ∧ spot + many + 1 ≤ bottom + (i : Int)) ∨ (i = 0 ∧ spot = 0)
theorem grow_0 (many bottom : Int) : Grow many bottom 0 0 [] := ⟨rfl, fun k h => (by cases h), fun k h => (by simp at h), fun j k k' h => (by simp at h), fun j k e h => (by simp at h), by omega, .inr ⟨rfl, rfl⟩⟩
theorem Grow.good {many bottom spot : Int} {i : Nat} {ks : List Kt} (h : Grow many bottom spot i ks) (hm : many = (i : Int)) (h1 : 1 ≤ i) (hb : 0 < bottom) : Good ks := by
  refine ⟨by rw [h.len]; exact h1, h.nf, h.zero, fun j k k' e1 e2 => ?_⟩
  have l2 := (List.getElem?_eq_some_iff.mp e2).1
  rw [ext_len, h.len] at l2
  have e1' := (ext_at (by rw [h.len]; omega)).mp e1
  by_cases c : j + 1 = i
  · have el : (ext ks)[ks.length]? = some ((1, 1), (ks.getD 0 ((0, 1), (0, 1))).2) := by
      unfold ext
      rw [List.getElem?_append_right (Nat.le_refl _), Nat.sub_self]
      rfl
    rw [c, ← h.len, el] at e2
    cases e2
    rw [h.last j k c e1', qv11]
    have hb' : (0 : Rat) < (bottom : Rat) := by exact_mod_cast hb
    rw [Rat.div_lt_iff hb']
    have := h.hi
    have lt : spot < bottom := by omega
    have lt' : (spot : Rat) < (bottom : Rat) := by exact_mod_cast lt
    grind
  · exact h.asc j k k' e1' ((ext_at (by rw [h.len]; omega)).mp e2)
theorem Grow.snoc {many bottom spot spot' : Int} {i : Nat} {ks : List Kt} {k : Kt} (h : Grow many bottom spot i ks) (hb : 0 < bottom) (n1 : Nf k.1) (n2 : Nf k.2) (e : qv k.1 = (spot' : Rat) / (bottom : Rat)) (h0 : i = 0 → spot' = 0) (h1 : i ≠ 0 → spot < spot') (hh : spot' + many + 1 ≤ bottom + ((i + 1 : Nat) : Int) ∨ False) (h2 : 0 ≤ spot') : Grow many bottom spot' (i + 1) (ks ++ [k]) := by
  have hb' : (0 : Rat) < (bottom : Rat) := by exact_mod_cast hb
  have hl := h.len
  have at_ : ∀ (j : Nat) q, (ks ++ [k])[j]? = some q → (j < i ∧ ks[j]? = some q) ∨ (j = i ∧ q = k) := fun j q e1 => by
    rcases Nat.lt_or_ge j ks.length with l | l
    · rw [List.getElem?_append_left l] at e1
      exact .inl ⟨by omega, e1⟩
    · rw [List.getElem?_append_right l] at e1
      have := (List.getElem?_eq_some_iff.mp e1).1
      rw [List.length_singleton] at this
      rw [show j - ks.length = 0 by omega] at e1
      cases e1
      exact .inr ⟨by omega, rfl⟩
  refine ⟨by rw [List.length_append, hl]; rfl, fun q hq => ?_, fun q e1 => ?_, fun j q q' e1 e2 => ?_, fun j q ej e1 => ?_, h2, .inl ⟨by omega, by rcases hh with hh | hh; exact hh; cases hh⟩⟩
  · rcases List.mem_append.mp hq with z | z
    · exact h.nf q z
    · rw [List.mem_singleton] at z
      subst z
      exact ⟨n1, n2⟩
  · rcases at_ 0 q e1 with ⟨_, z⟩ | ⟨z, rfl⟩
    · exact h.zero q z
    · refine qv_inj n1 nf01 ?_
      rw [e, h0 z.symm, qv01]
      push_cast
      grind
  · rcases at_ _ q' e2 with ⟨z, e2'⟩ | ⟨z, rfl⟩
    · rcases at_ _ q e1 with ⟨_, e1'⟩ | ⟨z', _⟩
      · exact h.asc j q q' e1' e2'
      · omega
    · rcases at_ _ q e1 with ⟨_, e1'⟩ | ⟨z', _⟩
      · rw [h.last j q z e1', e]
        have lt := h1 (by omega)
        have lt' : (spot : Rat) < (spot' : Rat) := by exact_mod_cast lt
        exact rat_div_lt lt' hb'
      · omega
  · rcases at_ _ q e1 with ⟨z, _⟩ | ⟨_, rfl⟩
    · omega
    · exact e
theorem lw_qv {z : Qt} {t b : Int} (h : Lw z t b) (hb : 0 < b) : Nf z ∧ qv z = (t : Rat) / (b : Rat) := ⟨(h.2 (by omega)).1, qv_is (h.2 (by omega)) (by omega)⟩
def spKn (K : PySem.W.Frag) : Sp := fun vs H Q _ => ∃ (s : Addr) (top : Int), vs = [.ref s, .int top] ∧ Sto K H s ∧ 1 ≤ top ∧ top ≤ 8 ∧ ∀ l xs ks H', H l = none → K.lookup l = none → H' l = some (.lst xs) → Kts K H' 20 xs ks → Good ks → ks.length ≤ 8 → Kp s H H' → Sto K H' s → Q (.ref l) H'
def KnI (K : PySem.W.Frag) (s D lean : Addr) (ql : Qt) (top many bottom kind : Int) (H H0 : Hp) (i : Nat) (σ : L2.St) (H' : Hp) : Prop := ∃ (lift : Addr) (qf : Qt) (spot : Int) (x9 x10 : Option V) (acc : List V) (ks : List Kt),
  σ = [some (.ref s), some (.int top), some (.int many), some (.int bottom), some (.int kind), some (.ref lean), some (.ref lift), some (.ref D), some (.int spot), x9, x10] ∧
  Grow many bottom spot i ks ∧ H' D = some (.lst acc) ∧ Kts K H' 20 acc ks ∧ Fq K H' 2 lean ql ∧ Fq K H' 13 lift qf ∧ Kp s H H' ∧ Kp s H0 H' ∧ Sto K H' s
abbrev sKn : Stmt := topS 70
theorem scKn : FnScope ["_law_store_here", "_law_top", "_law_many", "_law_bottom", "_law_kind", "_law_lean", "_law_lift", "_law_rows", "_law_spot", "_law_k", "_law_place_here"] ["_law_store_here", "_law_top"] (defScope sKn) := ⟨rfl, rfl, rfl, by decide +kernel, rfl, by decide +kernel, by decide +kernel⟩
theorem k_Kn (T : Bt K mg) (D : Dfn K mg "_law_knots" sKn ["_law_store_here", "_law_top"]) (d__law_take : Kn P w K mg base 2 "_law_take" ["_law_store_here", "_law_many"] (spTake K)) (d__law_size : Kn P w K mg base 3 "_law_size" ["_law_store_here", "_law_top"] (spSize K)) (d__law_range : Kn P w K mg base 3 "_law_range" ["_law_store_here", "_law_low", "_law_high"] (spRange K)) (d__law_pick : Kn P w K mg base 3 "_law_pick" ["_law_store_here", "_law_row"] (spPick K)) (d__law_lowest : Kn P w K mg base 2 "_law_lowest" ["_law_top", "_law_bottom"] (spLowest K)) (d__law_frac : Kn P w K mg base 3 "_law_frac" ["_law_store_here"] (spDFrac K 10)) (d__law_times : Kn P w K mg base 3 "_law_times" ["_law_left", "_law_right"] (spBin K pro2)) : Kn P w K mg base 4 "_law_knots" ["_law_store_here", "_law_top"] (spKn K) := by
  refine Kn.mk' D scKn (fun vs H Q E h => ?_) (fun f cdv A outer s H vs Q E hr h => ?_)
  · obtain ⟨s, top, rfl, _⟩ := h
    rfl
  obtain ⟨s, top, rfl, hS, t1, t8, k⟩ := h
  refine ⟨_, (pss_cons (ps_set (i := 2) scKn.nd rfl (.inl rfl) (pe_op op_add pe_int (pe_kn d__law_size hr (by rfl) (pa_cons (pv 0) (pa_cons (pe_op op_sub (pv 1) pe_int) pa_nil)))))
      (pss_cons (ps_set (i := 3) scKn.nd rfl (.inl rfl) (pe_op op_add (pv 2) (pe_kn d__law_take hr (by rfl) (pa_cons (pv 0) (pa_cons pe_int pa_nil)))))
      (pss_cons (ps_set (i := 4) scKn.nd rfl (.inl rfl) (pe_kn d__law_take hr (by rfl) (pa_cons (pv 0) (pa_cons pe_int pa_nil))))
      (pss_cons (ps_set (i := 5) scKn.nd rfl (.inl rfl) (pe_kn d__law_pick hr (by rfl) (pa_cons (pv 0) (pa_cons (pe_ls (pa_cons (pe_tp (pa_cons (pe_un un_neg pe_int) (pa_cons pe_int pa_nil))) (pa_cons (pe_tp (pa_cons (pe_un un_neg pe_int) (pa_cons pe_int pa_nil))) (pa_cons (pe_tp (pa_cons pe_int (pa_cons pe_int pa_nil))) (pa_cons (pe_tp (pa_cons (pe_un un_neg pe_int) (pa_cons pe_int pa_nil))) pa_nil))))) pa_nil))))
      (pss_cons (ps_set (i := 6) scKn.nd rfl (.inl rfl) (pe_kn d__law_frac hr (by rfl) (pa_cons (pv 0) pa_nil)))
      (pss_cons (ps_set (i := 7) scKn.nd rfl (.inl rfl) (pe_ls pa_nil))
      (pss_cons (ps_set (i := 8) scKn.nd rfl (.inl rfl) pe_int)
      (pss_cons (ps_for PassesOwn.never rfl (pi_range1 (by rfl) T.b_range (pa_cons (pv 2) pa_nil)) (pg_name (i := 9) scKn.nd rfl (.inl rfl)) (pss_cons (ps_if (pt_cmpR op_gt (pv 9) pe_int (nomark _)) (pss_one (ps_set (i := 8) scKn.nd rfl (.inl rfl) (pe_kn d__law_range hr (by rfl) (pa_cons (pv 0) (pa_cons (pe_op op_add (pv 8) pe_int) (pa_cons (pe_op op_add (pe_op op_sub (pv 3) (pv 2)) (pv 9)) pa_nil)))))) pss_nil)
      (pss_cons (ps_set (i := 10) scKn.nd rfl (.inl rfl) (pe_kn d__law_lowest hr (by rfl) (pa_cons (pv 8) (pa_cons (pv 3) pa_nil))))
      (pss_cons (ps_if (pt_cmpR op_eq (pv 4) pe_int (nomark _)) (pss_one (ps_set (i := 6) scKn.nd rfl (.inl rfl) (pe_kn d__law_times hr (by rfl) (pa_cons (pv 5) (pa_cons (pv 10) pa_nil))))) (pss_one (ps_if (pt_cmpR op_gt (pv 4) pe_int (nomark _)) (pss_one (ps_set (i := 6) scKn.nd rfl (.inl rfl) (pe_kn d__law_frac hr (by rfl) (pa_cons (pv 0) pa_nil)))) pss_nil)))
      (pss_one (ps_expr (pe_bm PySem.F.plainAttrs_list PySem.F.slot_list_append PySem.F.type_list_append mt_append (pv 7) (pa_cons (pe_tp (pa_cons (pv 10) (pa_cons (pv 6) pa_nil))) pa_nil))))))))
      (pss_one (ps_ret (pv 7))))))))))), ?_⟩
  refine ⟨_, rfl, _, rfl, _, _, rfl, rfl, s, top - 1, rfl, hS, by omega, by omega, fun r H1 r0 r1 kp1 st1 => ⟨_, _, rfl, rfl, ?_⟩⟩
  refine ⟨_, rfl, _, rfl, s, 12, rfl, st1, by omega, fun b H2 b0 b1 kp2 st2 => ⟨_, _, rfl, rfl, ?_⟩⟩
  refine ⟨_, rfl, s, 4, rfl, st2, by omega, fun kd H3 k0 k1 kp3 st3 => ?_⟩
  have kp03 := kp1.trans (kp2.trans kp3)
  simp only [cx_K, decide_true, decide_false, reduceCtorEq, gTp, gCons, gNil, ca_0, ca_1, ca_2, ca_3, ca_4, ca_5, ca_6, ca_7, ca_8, ca_9, ca_10, ca_11, ca_12, ca_13, ca_14, ca_15, ca_16, ca_17, ca_18, ca_19, ca_20, ca_21, ca_22, ca_23, ca_24, ca_25, ca_26, ca_27, ca_28, ca_29, ca_30, not_true_eq_false, not_false_eq_true, Int.reduceEq, Nat.reduceEqDiff, Nat.reduceLeDiff, rGcd, V.ty.injEq, eq_self, List.not_mem_nil, beq_self_eq_true, HO.lst.injEq, HO.tup.injEq, tFor_eq, iRng1, iList, iTup, nat10, tSeq, rIxA, rSetA, rIsN, rIsT, tTp, tLs, itsO_tup, itsO_lst, tyO_tup, tyO_lst, tyO_dK, tyN_non, tyN_bl, tyN_int, tyN_str, tyN_ref, tyNs_lt, isB, upd_same, upd_upd, sizeLine_eq, List.mem_cons, String.reduceBEq, String.reduceEq, Bool.or_false, Bool.or_true, Bool.and_false, Bool.false_or, Bool.and_self, Bool.false_and, Bool.not_false, Bool.not_true, List.any_cons, List.any_nil, atI_0, setI_0, atI_1, setI_1, atI_2, setI_2, atI_3, setI_3, atI_4, setI_4, atI_5, setI_5, atI_6, setI_6, tAsg, gName, tOp, tUn, tVar, tC, tCons, L2.tNil, tRet, tIfS, tTest, tCB, tCall, rI, rI0, rU, tNext, tB, tAnd, tOr, tNot, tAndV, tOrV, tNotV, tDrop, tIf, tPar, gSub, rIxL, rIxT, rEq, rNe, rSetL, tBits,
    L2.start, List.map_cons, List.map_nil, List.cons_append, List.nil_append, List.append_nil, List.length_cons, List.length_nil, List.replicate, Nat.reduceAdd, Nat.reduceSub, Nat.zero_add, List.getElem?_cons_zero, List.getElem?_cons_succ, List.set_cons_zero, List.set_cons_succ,
    Option.some.injEq, exists_eq_left', exists_eq_left, V.int.injEq, V.bl.injEq, V.ref.injEq, V.str.injEq, List.cons.injEq, reduceCtorEq, and_true, true_and, false_and, and_false, exists_false, or_false, false_or, or_true, true_or, exists_const, CMul, CDiv, CPow, and_assoc, exists_and_left, exists_and_right, Int.reducePow, Int.reduceNeg, Int.reduceLT, Int.reduceLE, Nat.reducePow, Nat.reduceLT, Int.reduceToNat, gt_iff_lt, ge_iff_le, decide_eq_true_eq, Bool.not_eq_true', decide_eq_false_iff_not, scal, ↓reduceIte, Bool.false_eq_true]
  intro p1 h1 w1 p2 h2 w2 p3 h3 w3 p4 h4 w4 l hl wl
  have o1 := ob_new (H := H3) (o := .tup [.int (-1), .int 1]) w1
  have s1 := Same.new h1 (.tup [.int (-1), .int 1])
  generalize upd H3 p1 (.tup [.int (-1), .int 1]) = G1 at o1 s1 h2 h3 h4 hl ⊢
  have o2 := ob_new (H := G1) (o := .tup [.int (-2), .int 1]) w2
  have s2 := Same.new h2 (.tup [.int (-2), .int 1])
  generalize upd G1 p2 (.tup [.int (-2), .int 1]) = G2 at o2 s2 h3 h4 hl ⊢
  have o3 := ob_new (H := G2) (o := .tup [.int 1, .int 1]) w3
  have s3 := Same.new h3 (.tup [.int 1, .int 1])
  generalize upd G2 p3 (.tup [.int 1, .int 1]) = G3 at o3 s3 h4 hl ⊢
  have o4 := ob_new (H := G3) (o := .tup [.int (-1), .int 2]) w4
  have s4 := Same.new h4 (.tup [.int (-1), .int 2])
  generalize upd G3 p4 (.tup [.int (-1), .int 2]) = G4 at o4 s4 hl ⊢
  have sL := Same.new hl (.lst [.ref p1, .ref p2, .ref p3, .ref p4])
  have hl' : upd G4 l (.lst [.ref p1, .ref p2, .ref p3, .ref p4]) l = some (.lst [.ref p1, .ref p2, .ref p3, .ref p4]) := upd_same
  have s14 := s1.trans (s2.trans (s3.trans (s4.trans sL)))
  have st4 := st3.same s14
  have f1 : Fq K (upd G4 l (.lst [.ref p1, .ref p2, .ref p3, .ref p4])) 2 p1 (-1, 1) := ⟨ob_same (s2.trans (s3.trans (s4.trans sL))) o1, ⟨by decide, by decide⟩, by decide, by decide⟩
  have f2 : Fq K (upd G4 l (.lst [.ref p1, .ref p2, .ref p3, .ref p4])) 2 p2 (-2, 1) := ⟨ob_same (s3.trans (s4.trans sL)) o2, ⟨by decide, by decide⟩, by decide, by decide⟩
  have f3 : Fq K (upd G4 l (.lst [.ref p1, .ref p2, .ref p3, .ref p4])) 2 p3 (1, 1) := ⟨ob_same (s4.trans sL) o3, nf11, by decide, by decide⟩
  have f4 : Fq K (upd G4 l (.lst [.ref p1, .ref p2, .ref p3, .ref p4])) 2 p4 (-1, 2) := ⟨ob_same sL o4, ⟨by decide, by decide⟩, by decide, by decide⟩
  have nl : l ≠ s := (st3.same (s1.trans (s2.trans (s3.trans s4)))).ne' hl
  generalize upd G4 l (.lst [.ref p1, .ref p2, .ref p3, .ref p4]) = G5 at hl' s14 st4 f1 f2 f3 f4 ⊢
  refine ⟨s, l, _, rfl, st4, hl', Ne.symm nl, by simp, by simp, fun lv H6 hlv kp6 st6 => ?_⟩
  obtain ⟨lean, ql, rfl, fl⟩ : ∃ a z, lv = .ref a ∧ Fq K H6 2 a z := by
    simp only [List.mem_cons, List.not_mem_nil, or_false] at hlv
    rcases hlv with rfl | rfl | rfl | rfl
    · exact ⟨_, _, rfl, f1.kps kp6 st4⟩
    · exact ⟨_, _, rfl, f2.kps kp6 st4⟩
    · exact ⟨_, _, rfl, f3.kps kp6 st4⟩
    · exact ⟨_, _, rfl, f4.kps kp6 st4⟩
  have kp06 := kp03.trans ((Kp.same s14).trans kp6)
  clear f1 f2 f3 f4 hl' s14 st4 o1 o2 o3 o4 s1 s2 s3 s4 sL nl
  refine ⟨s, rfl, st6, fun lf qf H7 flf kp7 st7 => ?_⟩
  have fl7 := fl.kps kp7 st6
  have kp07 := kp06.trans kp7
  intro D hD kD
  refine ⟨by omega, by omega, ?_⟩
  have sD := Same.new hD (.lst [])
  refine forI_range (lo := 0) (n := (1 + r).toNat) (KnI K s D lean ql top (1 + r) (1 + r + b) kd H H7) ⟨lf, qf, 0, none, none, [], [], rfl, grow_0 _ _, upd_same, ⟨rfl, fun i x k e => (by simp at e)⟩, fl7.same sD, (flf.mono (by omega)).same sD, kp07.trans (Kp.same sD), Kp.same sD, st7.same sD⟩ ?_ ?_
  · rintro i σ H' hi ⟨lift, qf, spot, x9, x10, acc, ks, rfl, gr, hDa, kts, fle, fli, kpA, kpB, st⟩
    have lk := gr.len
    have la := kts.1
    have app : ∀ (lift2 place : Addr) (qp qf2 : Qt) (spot2 : Int) (H8 : Hp), Grow (1 + r) (1 + r + b) spot2 (i + 1) (ks ++ [(qp, qf2)]) → H8 D = some (.lst acc) → Kts K H8 20 acc ks → Fq K H8 2 lean ql → Fq K H8 13 lift2 qf2 → Fq K H8 10 place qp → Kp s H7 H8 → Sto K H8 s → tBM K "list" rAppend (tVar 7) (tCons (tTp K (tCons (tVar 10) (tCons (tVar 6) L2.tNil))) L2.tNil) [some (.ref s), some (.int top), some (.int (1 + r)), some (.int (1 + r + b)), some (.int kd), some (.ref lean), some (.ref lift2), some (.ref D), some (.int spot2), some (.int (0 + (i : Int))), some (.ref place)] H8 fun _ H1 => KnI K s D lean ql top (1 + r) (1 + r + b) kd H H7 (i + 1) [some (.ref s), some (.int top), some (.int (1 + r)), some (.int (1 + r + b)), some (.int kd), some (.ref lean), some (.ref lift2), some (.ref D), some (.int spot2), some (.int (0 + (i : Int))), some (.ref place)] H1 := by
      intro lift2 place qp qf2 spot2 H8 g8 d8 k8 a8 b8 c8 e8 s8
      refine ⟨_, rfl, .inl ⟨rfl, _, .of d8⟩, _, rfl, _, rfl, sz2 (by show 2 ≤ 100; decide), fun p hp kp => ?_⟩
      have s9 := Same.new hp (.tup [.ref place, .ref lift2])
      have op := ob_new (H := H8) (o := .tup [.ref place, .ref lift2]) kp
      have d9 := s9 _ _ d8
      have k9 := k8.same s9
      have a9 := a8.same s9
      have b9 := b8.same s9
      have c9 := c8.same s9
      have e9 := e8.trans (Kp.same s9)
      have t9 := s8.same s9
      generalize upd H8 p (.tup [.ref place, .ref lift2]) = H9 at op d9 k9 a9 b9 c9 e9 t9 ⊢
      obtain ⟨m1, m2⟩ := st7.mut (o := .lst (acc ++ [.ref p])) hD e9 t9
      refine ⟨D, acc, .ref p, rfl, rfl, d9, by rw [sizeLine_eq]; omega, lift2, qf2, spot2, _, _, acc ++ [.ref p], ks ++ [(qp, qf2)], rfl, g8, upd_same, Kts.snoc k9 d9 ⟨p, place, lift2, rfl, op, c9.mono (by omega), b9.mono (by omega)⟩, a9.put d9, b9.put d9, kp07.trans m2, m2, m1⟩
    have tail : ∀ (spot2 : Int) (Hs : Hp), (i = 0 → spot2 = 0) → (i ≠ 0 → spot < spot2) → spot2 + (1 + r) + 1 ≤ (1 + r + b) + ((i + 1 : Nat) : Int) → 0 ≤ spot2 → Hs D = some (.lst acc) → Kts K Hs 20 acc ks → Fq K Hs 2 lean ql → Fq K Hs 13 lift qf → Kp s H7 Hs → Sto K Hs s →
        spLowest K [.int spot2, .int (1 + r + b)] Hs (fun x H1 => if kd = 1 then spBin K pro2 [.ref lean, x] H1 (fun x_1 H1 => tBM K "list" rAppend (tVar 7) (tCons (tTp K (tCons (tVar 10) (tCons (tVar 6) L2.tNil))) L2.tNil) [some (.ref s), some (.int top), some (.int (1 + r)), some (.int (1 + r + b)), some (.int kd), some (.ref lean), some x_1, some (.ref D), some (.int spot2), some (.int (0 + (i : Int))), some x] H1 fun _ H1 => KnI K s D lean ql top (1 + r) (1 + r + b) kd H H7 (i + 1) [some (.ref s), some (.int top), some (.int (1 + r)), some (.int (1 + r + b)), some (.int kd), some (.ref lean), some x_1, some (.ref D), some (.int spot2), some (.int (0 + (i : Int))), some x] H1) E0 else if 1 < kd then spDFrac K 10 [.ref s] H1 (fun x_1 H1 => tBM K "list" rAppend (tVar 7) (tCons (tTp K (tCons (tVar 10) (tCons (tVar 6) L2.tNil))) L2.tNil) [some (.ref s), some (.int top), some (.int (1 + r)), some (.int (1 + r + b)), some (.int kd), some (.ref lean), some x_1, some (.ref D), some (.int spot2), some (.int (0 + (i : Int))), some x] H1 fun _ H1 => KnI K s D lean ql top (1 + r) (1 + r + b) kd H H7 (i + 1) [some (.ref s), some (.int top), some (.int (1 + r)), some (.int (1 + r + b)), some (.int kd), some (.ref lean), some x_1, some (.ref D), some (.int spot2), some (.int (0 + (i : Int))), some x] H1) E0 else tBM K "list" rAppend (tVar 7) (tCons (tTp K (tCons (tVar 10) (tCons (tVar 6) L2.tNil))) L2.tNil) [some (.ref s), some (.int top), some (.int (1 + r)), some (.int (1 + r + b)), some (.int kd), some (.ref lean), some (.ref lift), some (.ref D), some (.int spot2), some (.int (0 + (i : Int))), some x] H1 fun _ H1 => KnI K s D lean ql top (1 + r) (1 + r + b) kd H H7 (i + 1) [some (.ref s), some (.int top), some (.int (1 + r)), some (.int (1 + r + b)), some (.int kd), some (.ref lean), some (.ref lift), some (.ref D), some (.int spot2), some (.int (0 + (i : Int))), some x] H1) E0 := by
      intro spot2 Hs z0 z1 z2 z3 d8 k8 a8 b8 e8 s8
      refine ⟨_, _, rfl, ?_, fun qp hq p H8 sp o8 => ?_⟩
      · have e : 2 ^ 10 ≤ 2 ^ 8000 := Nat.pow_le_pow_right (by omega) (by omega)
        omega
      obtain ⟨nq, eq⟩ := lw_qv hq (by omega)
      have fp : Fq K H8 10 p qp := ⟨o8, nq, is_sz (by omega) (hq.2 (by omega)) (by omega) (by omega)⟩
      have d9 := sp _ _ d8
      have k9 := k8.same sp
      have a9 := a8.same sp
      have b9 := b8.same sp
      have e9 := e8.trans (Kp.same sp)
      have t9 := s8.same sp
      have gw : ∀ (qf2 : Qt), Nf qf2 → Grow (1 + r) (1 + r + b) spot2 (i + 1) (ks ++ [(qp, qf2)]) := fun qf2 n2 => gr.snoc (by omega) nq n2 eq z0 z1 (.inl z2) z3
      refine ite2 (fun c => ?_) (fun c => ite2 (fun c2 => ?_) (fun c2 => ?_))
      · refine av_pro a9 fp fun y y1 H9 ey s9 fy => ?_
        exact app y1 p qp y spot2 H9 (gw y fy.nf) (s9 _ _ d9) (k9.same s9) (a9.same s9) fy (fp.same s9) (e9.trans (Kp.same s9)) (t9.same s9)
      · refine ⟨s, rfl, t9, fun y1 y H9 fy kp9 st9 => ?_⟩
        exact app y1 p qp y spot2 H9 (gw y fy.nf) (kp9 _ _ (st7.ne' hD) d9) (k9.kps kp9 t9) (a9.kps kp9 t9) (fy.mono (by omega)) (fp.kps kp9 t9) (e9.trans kp9) st9
      · exact app lift p qp qf spot2 H8 (gw qf b9.nf) d9 k9 a9 b9 fp e9 t9
    simp only [cx_K, decide_true, decide_false, reduceCtorEq, gTp, gCons, gNil, ca_0, ca_1, ca_2, ca_3, ca_4, ca_5, ca_6, ca_7, ca_8, ca_9, ca_10, ca_11, ca_12, ca_13, ca_14, ca_15, ca_16, ca_17, ca_18, ca_19, ca_20, ca_21, ca_22, ca_23, ca_24, ca_25, ca_26, ca_27, ca_28, ca_29, ca_30, not_true_eq_false, not_false_eq_true, Int.reduceEq, Nat.reduceEqDiff, Nat.reduceLeDiff, rGcd, V.ty.injEq, eq_self, List.not_mem_nil, beq_self_eq_true, HO.lst.injEq, HO.tup.injEq, tFor_eq, iRng1, iList, iTup, nat10, tSeq, rIxA, rSetA, rIsN, rIsT, tTp, tLs, itsO_tup, itsO_lst, tyO_tup, tyO_lst, tyO_dK, tyN_non, tyN_bl, tyN_int, tyN_str, tyN_ref, tyNs_lt, isB, upd_same, upd_upd, sizeLine_eq, List.mem_cons, String.reduceBEq, String.reduceEq, Bool.or_false, Bool.or_true, Bool.and_false, Bool.false_or, Bool.and_self, Bool.false_and, Bool.not_false, Bool.not_true, List.any_cons, List.any_nil, atI_0, setI_0, atI_1, setI_1, atI_2, setI_2, atI_3, setI_3, atI_4, setI_4, atI_5, setI_5, atI_6, setI_6, tAsg, gName, tOp, tUn, tVar, tC, tCons, L2.tNil, tRet, tIfS, tTest, tCB, tCall, rI, rI0, rU, tNext, tB, tAnd, tOr, tNot, tAndV, tOrV, tNotV, tDrop, tIf, tPar, gSub, rIxL, rIxT, rEq, rNe, rSetL, tBits,
    L2.start, List.map_cons, List.map_nil, List.cons_append, List.nil_append, List.append_nil, List.length_cons, List.length_nil, List.replicate, Nat.reduceAdd, Nat.reduceSub, Nat.zero_add, List.getElem?_cons_zero, List.getElem?_cons_succ, List.set_cons_zero, List.set_cons_succ,
    Option.some.injEq, exists_eq_left', exists_eq_left, V.int.injEq, V.bl.injEq, V.ref.injEq, V.str.injEq, List.cons.injEq, reduceCtorEq, and_true, true_and, false_and, and_false, exists_false, or_false, false_or, or_true, true_or, exists_const, CMul, CDiv, CPow, and_assoc, exists_and_left, exists_and_right, Int.reducePow, Int.reduceNeg, Int.reduceLT, Int.reduceLE, Nat.reducePow, Nat.reduceLT, Int.reduceToNat, gt_iff_lt, ge_iff_le, decide_eq_true_eq, Bool.not_eq_true', decide_eq_false_iff_not, scal, ↓reduceIte, Bool.false_eq_true]
    refine ite2 (fun c => ?_) (fun c => ?_)
    · have hhi := gr.hi
      have hlo := gr.lo
      refine ⟨s, _, _, rfl, st, by omega, by omega, fun sp2 H8 a1 a2 _ kp8 st8 => ?_⟩
      exact tail sp2 H8 (by omega) (fun _ => by omega) (by omega) (by omega) (kp8 _ _ (st7.ne' hD) hDa) (kts.kps kp8 st) (fle.kps kp8 st) (fli.kps kp8 st) (kpB.trans kp8) st8
    · have ei : i = 0 := by omega
      have hz : spot = 0 := by
        have := gr.hi
        omega
      exact tail spot H' (fun _ => hz) (fun z => absurd ei z) (by omega) gr.lo hDa kts fle fli kpB st
  · rintro σ H' ⟨lift, qf, spot, x9, x10, acc, ks, rfl, gr, hDa, kts, fle, fli, kpA, kpB, st⟩
    simp only [cx_K, decide_true, decide_false, reduceCtorEq, gTp, gCons, gNil, ca_0, ca_1, ca_2, ca_3, ca_4, ca_5, ca_6, ca_7, ca_8, ca_9, ca_10, ca_11, ca_12, ca_13, ca_14, ca_15, ca_16, ca_17, ca_18, ca_19, ca_20, ca_21, ca_22, ca_23, ca_24, ca_25, ca_26, ca_27, ca_28, ca_29, ca_30, not_true_eq_false, not_false_eq_true, Int.reduceEq, Nat.reduceEqDiff, Nat.reduceLeDiff, rGcd, V.ty.injEq, eq_self, List.not_mem_nil, beq_self_eq_true, HO.lst.injEq, HO.tup.injEq, tFor_eq, iRng1, iList, iTup, nat10, tSeq, rIxA, rSetA, rIsN, rIsT, tTp, tLs, itsO_tup, itsO_lst, tyO_tup, tyO_lst, tyO_dK, tyN_non, tyN_bl, tyN_int, tyN_str, tyN_ref, tyNs_lt, isB, upd_same, upd_upd, sizeLine_eq, List.mem_cons, String.reduceBEq, String.reduceEq, Bool.or_false, Bool.or_true, Bool.and_false, Bool.false_or, Bool.and_self, Bool.false_and, Bool.not_false, Bool.not_true, List.any_cons, List.any_nil, atI_0, setI_0, atI_1, setI_1, atI_2, setI_2, atI_3, setI_3, atI_4, setI_4, atI_5, setI_5, atI_6, setI_6, tAsg, gName, tOp, tUn, tVar, tC, tCons, L2.tNil, tRet, tIfS, tTest, tCB, tCall, rI, rI0, rU, tNext, tB, tAnd, tOr, tNot, tAndV, tOrV, tNotV, tDrop, tIf, tPar, gSub, rIxL, rIxT, rEq, rNe, rSetL, tBits,
    L2.start, List.map_cons, List.map_nil, List.cons_append, List.nil_append, List.append_nil, List.length_cons, List.length_nil, List.replicate, Nat.reduceAdd, Nat.reduceSub, Nat.zero_add, List.getElem?_cons_zero, List.getElem?_cons_succ, List.set_cons_zero, List.set_cons_succ,
    Option.some.injEq, exists_eq_left', exists_eq_left, V.int.injEq, V.bl.injEq, V.ref.injEq, V.str.injEq, List.cons.injEq, reduceCtorEq, and_true, true_and, false_and, and_false, exists_false, or_false, false_or, or_true, true_or, exists_const, CMul, CDiv, CPow, and_assoc, exists_and_left, exists_and_right, Int.reducePow, Int.reduceNeg, Int.reduceLT, Int.reduceLE, Nat.reducePow, Nat.reduceLT, Int.reduceToNat, gt_iff_lt, ge_iff_le, decide_eq_true_eq, Bool.not_eq_true', decide_eq_false_iff_not, scal, ↓reduceIte, Bool.false_eq_true]
    have lk := gr.len
    refine k D acc ks H' (kp07.free st7 hD) kD hDa kts (gr.good (by omega) (by omega) (by omega)) (by omega) kpA st

end
end My

namespace My
open PySem PySem.Spec PyProof.Rows L2
section
variable {P : Program} {w : World} {K : PySem.W.Frag} {mg : Str → Option Value} {base : Heap}
theorem good_firsts {ks ks' : List Kt} (g : Good ks) (hl : ks'.length = ks.length) (h : ∀ (j : Nat) k', ks'[j]? = some k' → ∃ k, ks[j]? = some k ∧ k'.1 = k.1) (nf : ∀ k ∈ ks', Nf k.2) : Good ks' := by
  have hE : ∀ (j : Nat) k', (ext ks')[j]? = some k' → ∃ k, (ext ks)[j]? = some k ∧ k'.1 = k.1 := fun j k' e => by
    have lj := (List.getElem?_eq_some_iff.mp e).1
    rw [ext_len] at lj
    by_cases c : j < ks'.length
    · obtain ⟨k, e1, e2⟩ := h j k' ((ext_at c).mp e)
      exact ⟨k, (ext_at (by omega)).mpr e1, e2⟩
    · have ej : j = ks'.length := by omega
      have el : (ext ks')[ks'.length]? = some ((1, 1), (ks'.getD 0 ((0, 1), (0, 1))).2) := by
        unfold ext
        rw [List.getElem?_append_right (Nat.le_refl _), Nat.sub_self]
        rfl
      rw [ej, el] at e
      cases e
      obtain ⟨k0, _, el2, _, _⟩ := ext_last g
      exact ⟨((1, 1), k0.2), by rw [ej, hl]; exact el2, rfl⟩
  refine ⟨by rw [hl]; exact g.one, fun k hk => ⟨?_, nf k hk⟩, fun k e => ?_, fun i k k' e1 e2 => ?_⟩
  · obtain ⟨i, hi, ei⟩ := List.getElem_of_mem hk
    obtain ⟨q, e1, e2⟩ := h i k (by rw [List.getElem?_eq_getElem hi, ei])
    rw [e2]
    exact (g.nf q (List.mem_of_getElem? e1)).1
  · obtain ⟨q, e1, e2⟩ := h 0 k e
    rw [e2]
    exact g.zero q e1
  · obtain ⟨q, a1, a2⟩ := hE i k e1
    obtain ⟨q', b1, b2⟩ := hE (i + 1) k' e2
    rw [a2, b2]
    exact g.asc i q q' a1 b1
/-- knots with the same places, as far as i -/
structure Fst (ks : List Kt) (i : Nat) (ks' : List Kt) : Prop where
  len : ks'.length = i
  fst : ∀ (j : Nat) k', ks'[j]? = some k' → ∃ k, ks[j]? = some k ∧ k'.1 = k.1
  nf : ∀ k ∈ ks', Nf k.2
theorem Fst.nil (ks : List Kt) : Fst ks 0 [] := ⟨rfl, fun j k h => (by simp at h), fun k h => (by cases h)⟩
theorem Fst.snoc {ks ks' : List Kt} {i : Nat} {k : Kt} {q : Qt} (h : Fst ks i ks') (e : ks[i]? = some k) (n : Nf q) : Fst ks (i + 1) (ks' ++ [(k.1, q)]) := by
  have hl := h.len
  refine ⟨by rw [List.length_append, hl]; rfl, fun j k' e1 => ?_, fun r hr => ?_⟩
  · rcases Nat.lt_or_ge j ks'.length with l | l
    · rw [List.getElem?_append_left l] at e1
      exact h.fst j k' e1
    · rw [List.getElem?_append_right l] at e1
      have := (List.getElem?_eq_some_iff.mp e1).1
      rw [List.length_singleton] at this
      rw [show j - ks'.length = 0 by omega] at e1
      cases e1
      exact ⟨k, by rw [show j = i by omega]; exact e, rfl⟩
  · rcases List.mem_append.mp hr with z | z
    · exact h.nf r z
    · rw [List.mem_singleton] at z
      subst z
      exact n
theorem Kts.sml {H : Hp} {n : Nat} {xs : List V} {ks : List Kt} (h : Kts K H n xs ks) : ∀ k ∈ ks, Sz n k.1 := fun k hk => by
  obtain ⟨i, hi, e⟩ := List.getElem_of_mem hk
  obtain ⟨x, _, t, a, b, _, _, f, _⟩ := h.get (i := i) (k := k) (by rw [List.getElem?_eq_getElem hi, e])
  exact f.sz
theorem Fst.sml {ks ks' : List Kt} {i n : Nat} (h : Fst ks i ks') (hk : ∀ k ∈ ks, Sz n k.1) : ∀ k ∈ ks', Sz n k.1 := fun k hm => by
  obtain ⟨j, hj, e⟩ := List.getElem_of_mem hm
  obtain ⟨q, e1, e2⟩ := h.fst j k (by rw [List.getElem?_eq_getElem hj, e])
  rw [e2]
  exact hk q (List.mem_of_getElem? e1)
def spSome (K : PySem.W.Frag) : Sp := fun vs H Q _ => ∃ (s : Addr), vs = [.ref s] ∧ Sto K H s ∧ ∀ l xs ks H', H l = none → K.lookup l = none → H' l = some (.lst xs) → Kts K H' 134 xs ks → Good ks → (∀ k ∈ ks, Sz 20 k.1) → ks.length ≤ 8 → Kp s H H' → Sto K H' s → Q (.ref l) H'
abbrev sKw : Stmt := topS 71
theorem scKw : FnScope ["_law_store_here", "_law_row"] ["_law_store_here"] (defScope sKw) := ⟨rfl, rfl, rfl, by decide +kernel, rfl, by decide +kernel, by decide +kernel⟩
theorem blk_scKw_0 : BlkOk ["_law_store_here", "_law_row"] (defScope sKw) { kind := .function, names := [(".0", .local), ("_law_row", .local), ("_law_frac_wide", .globalImplicit), ("_law_store_here", .free)], isGenerator := false, isCoroutine := false, more := [] } [("_law_row", 1)] := ⟨rfl, by decide +kernel, by decide +kernel, by decide +kernel, by decide +kernel⟩
theorem k_Kw (T : Bt K mg) (D : Dfn K mg "_law_knots_wide" sKw ["_law_store_here"]) (d__law_frac_wide : Kn P w K mg base 4 "_law_frac_wide" ["_law_store_here"] (spDFrac K 133)) (d__law_knots : Kn P w K mg base 4 "_law_knots" ["_law_store_here", "_law_top"] (spKn K)) : Kn P w K mg base 5 "_law_knots_wide" ["_law_store_here"] (spSome K) := by
  refine Kn.mk' D scKw (fun vs H Q E h => ?_) (fun f cdv A outer s H vs Q E hr h => ?_)
  · obtain ⟨s, rfl, _⟩ := h
    rfl
  obtain ⟨s, rfl, hS, k⟩ := h
  refine ⟨_, (pss_one (ps_ret (pe_fr (pe_lc (own := [("_law_row", 1)]) (g := gName 1) (te := (tTp K (tCons (tOp (rIxA K) (tVar 1) (tC (.int 0))) (tCons (tCall (spDFrac K 133) [] E0 (tCons (tVar 0) L2.tNil)) L2.tNil)))) rfl scKw.nd (pi_list (pe_kn d__law_knots hr (by rfl) (pa_cons (pv 0) (pa_cons pe_int pa_nil)))) blk_scKw_0 (fun _ _ _ _ _ => by exact pg_name (i := 1) scKw.nd rfl (.inl rfl)) (fun _ _ _ _ _ => pts_nil) (fun _ _ _ _ _ => by exact (pe_tp (pa_cons (pe_ix ix_any (pv 1) pe_int (fun _ _ => rfl)) (pa_cons (pe_kn d__law_frac_wide hr (by rfl) (pa_cons (pv 0) pa_nil)) pa_nil)))))))), ?_⟩
  refine ⟨_, rfl, s, 3, rfl, hS, by omega, by omega, fun l xs ks H1 hl kl h1 kt g l8 kp1 st1 => ?_⟩
  have nl : l ≠ s := hS.ne' hl
  have lk := kt.1
  refine ⟨l, rfl, ⟨xs, .of h1⟩, fun D hD => lc_list (xs := xs) (fun i H' => ∃ acc ks', H' D = some (.lst acc) ∧ Fst ks i ks' ∧ Kts K H' 134 acc ks' ∧ Kp s H1 H' ∧ Sto K H' s) ⟨[], [], upd_same, Fst.nil ks, ⟨rfl, fun i x k e => (by simp at e)⟩, Kp.same (Same.new hD _), st1.same (Same.new hD _)⟩ (fun i H' _ ⟨_, _, _, _, _, h, _⟩ => .of (h _ _ nl h1)) ?_ ?_⟩
  · rintro i x H' hx ⟨acc, ks', ha, hf, hk, kpP, st⟩
    refine ⟨rfl, ?_⟩
    simp only [tYes, if_true]
    obtain ⟨kk, ek, kx⟩ := (kt.kps kpP st1).at hx
    obtain ⟨t, a, b, rfl, ot, fa, fb⟩ := kx
    have nD : D ≠ s := st1.ne' hD
    refine ⟨_, rfl, t, 0, rfl, rfl, _, itsO_of ot, _, atI_0 _ _, _, rfl, s, rfl, st, fun f q H2 fq kp2 st2 => ⟨sz2 (by show 2 ≤ 100; decide), fun p hp kp => ?_⟩⟩
    have fa2 := fa.kps kp2 st
    have hk2 := hk.kps kp2 st
    have ha2 := kp2 _ _ nD ha
    have s3 := Same.new hp (.tup [.ref a, .ref f])
    have op := ob_new (H := H2) (o := .tup [.ref a, .ref f]) kp
    have fa3 := fa2.same s3
    have fq3 := fq.same s3
    have hk3 := hk2.same s3
    have ha3 := s3 _ _ ha2
    have st3 := st2.same s3
    have kp3 := kpP.trans (kp2.trans (Kp.same s3))
    generalize upd H2 p (.tup [.ref a, .ref f]) = H3 at op fa3 fq3 hk3 ha3 st3 kp3 ⊢
    obtain ⟨m1, m2⟩ := st1.mut (o := .lst (acc ++ [.ref p])) hD kp3 st3
    have la := hk.1
    have lf := hf.len
    have li := (List.getElem?_eq_some_iff.mp ek).1
    exact ⟨acc, ha3, by rw [sizeLine_eq]; omega, acc ++ [.ref p], ks' ++ [(kk.1, q)], upd_same, hf.snoc ek fq.nf, Kts.snoc (k := (kk.1, q)) hk3 ha3 ⟨p, a, f, rfl, op, fa3.mono (by omega), fq3.mono (by omega)⟩, m2, m1⟩
  · rintro H' ⟨acc, ks', ha, hf, hk, kpP, st⟩ fr
    rw [lk] at hf
    exact k D acc ks' H' (kp1.free st1 hD) (fr D (by rw [ha]; simp)) ha hk (good_firsts g hf.len hf.fst hf.nf) (hf.sml kt.sml) (by rw [hf.len]; exact l8) (kp1.trans kpP) st

end
end My

namespace My
open PySem PySem.Spec PyProof.Rows L2
section
variable {P : Program} {w : World} {K : PySem.W.Frag} {mg : Str → Option Value} {base : Heap}
def rabs (x : Rat) : Rat := if x < 0 then -x else x
theorem qv_abs {q : Qt} (h : Nf q) : qv ((q.1.natAbs : Int), q.2) = rabs (qv q) := by
  have b := pos2 h
  have b' : (q.2 : Rat) ≠ 0 := by grind
  have key : qv q < 0 ↔ q.1 < 0 := by
    have := qv_lt h nf01
    rw [qv01] at this
    rw [this]
    show q.1 * 1 < 0 * q.2 ↔ _
    omega
  unfold rabs
  split
  · rename_i c
    have c := key.mp c
    rw [show ((q.1.natAbs : Int)) = -q.1 by omega]
    exact qv_neg q
  · rename_i c
    have c : ¬ q.1 < 0 := fun z => c (key.mpr z)
    rw [show ((q.1.natAbs : Int)) = q.1 by omega]
/-- the greatest of the lifts, as far as i -/
def sw (ks : List Kt) (i : Nat) : Rat := (ks.take i).foldl (fun m k => if m < rabs (qv k.2) then rabs (qv k.2) else m) 0
theorem sw_0 (ks : List Kt) : sw ks 0 = 0 := rfl
theorem sw_s {ks : List Kt} {i : Nat} {k : Kt} (h : ks[i]? = some k) : sw ks (i + 1) = if sw ks i < rabs (qv k.2) then rabs (qv k.2) else sw ks i := by
  unfold sw
  rw [List.take_add_one, h, List.foldl_append]
  rfl
def spGrt (K : PySem.W.Frag) : Sp := fun vs H Q _ => ∃ (a b : Addr) (p q : Qt), vs = [.ref a, .ref b] ∧ Fq K H 3000 a p ∧ Fq K H 3000 b q ∧ (qv p < qv q → Q (.ref b) H) ∧ (¬ qv p < qv q → Q (.ref a) H)
abbrev sGrt : Stmt := topS 31
theorem scGrt : FnScope ["left", "right"] ["left", "right"] (defScope sGrt) := ⟨rfl, rfl, rfl, by decide +kernel, rfl, by decide +kernel, by decide +kernel⟩
theorem k_Grt (T : Bt K mg) (D : Dfn K mg "greater" sGrt ["left", "right"]) (d_compare : Kn P w K mg base 3 "compare" ["left", "right"] (spCmp K)) : Kn P w K mg base 4 "greater" ["left", "right"] (spGrt K) := by
  refine Kn.mk' D scGrt (fun vs H Q E h => ?_) (fun f cdv A outer s H vs Q E hr h => ?_)
  · obtain ⟨a, b, p, q, rfl, _⟩ := h
    rfl
  obtain ⟨a, b, p, q, rfl, hp, hq, k1, k2⟩ := h
  refine ⟨_, (pss_one (ps_ret (pe_ifExp (pt_cmpR op_lt (pe_kn d_compare hr (by rfl) (pa_cons (pv 0) (pa_cons (pv 1) pa_nil))) pe_int (nomark _)) (pv 1) (pv 0)))), ?_⟩
  refine ⟨_, rfl, _, rfl, a, b, p, q, rfl, hp, hq, _, _, rfl, rfl, _, rfl, ite2 (fun h => ?_) (fun h => ?_)⟩
  · exact ⟨_, rfl, k1 ((cmp_lt0 hp.nf hq.nf).mp (of_decide_eq_true h))⟩
  · exact ⟨_, rfl, k2 fun z => h (decide_eq_true ((cmp_lt0 hp.nf hq.nf).mpr z))⟩
def spSway (K : PySem.W.Frag) (C : Addr) : Sp := fun vs H Q _ => ∃ (c : Addr) (ks : List Kt) (n : Nat), vs = [.ref c] ∧ SlAt K C n H c ks ∧ n ≤ 2900 ∧ 1 ≤ n ∧ ∀ a z H', Same H H' → Fq K H' n a z → qv z = sw ks ks.length → Q (.ref a) H'
abbrev sSlSway : Stmt := inClass (topS 37) 5
theorem scSlSway : FnScope ["self", "most", "_", "lift"] ["self"] (defScope sSlSway) := ⟨rfl, rfl, rfl, by decide +kernel, rfl, by decide +kernel, by decide +kernel⟩
theorem ok_SlSway {C f : Addr} {fd : FuncData} (T : Bt K mg) (Y : SlC K mg C) {z0 o0 : Addr} (C0 : Two01 K mg z0 o0) (d_greater : Kn P w K mg base 4 "greater" ["left", "right"] (spGrt K)) (d_magnitude : Kn P w K mg base 3 "magnitude" ["value"] (spUn K fun q => ((q.1.natAbs : Int), q.2))) (F : Fun K "sway" "Slot.sway" sSlSway f fd) : FnOk P w K mg base CX0 5 f fd ["self"] (spSway K C) := by
  refine F.ok scSlSway (fun vs H Q E h => ?_) (fun cdv A outer s H vs Q E hr h => ?_)
  · obtain ⟨c, ks, n, rfl, _⟩ := h
    rfl
  obtain ⟨c, ks, n, rfl, hc, hn, hn1, k⟩ := h
  refine ⟨_, (pss_cons (ps_set (i := 1) scSlSway.nd rfl (.inl rfl) (pe_glob (v := .ref z0) (by rfl) C0.g_ZERO rfl))
      (pss_cons (ps_for PassesOwn.never rfl (pi_tup (pe_fld (pv 0) rfl)) (pg_tp 2 (by rfl) (pgs_cons (pg_name (i := 2) scSlSway.nd rfl (.inl rfl)) (pgs_cons (pg_name (i := 3) scSlSway.nd rfl (.inl rfl)) pgs_nil))) (pss_one (ps_set (i := 1) scSlSway.nd rfl (.inl rfl) (pe_kn d_greater hr (by rfl) (pa_cons (pv 1) (pa_cons (pe_kn d_magnitude hr (by rfl) (pa_cons (pv 3) pa_nil)) pa_nil))))))
      (pss_one (ps_ret (pv 1))))), ?_⟩
  obtain ⟨dx, tp, xs, hi, ot, kt⟩ := hc
  have lk := kt.1
  refine ⟨_, rfl, c, C, dx, _, _, rfl, hi, Y.cl, Y.nK, rfl, tp, rfl, ⟨xs, ob_tup ot⟩, forI_tup (xs := xs) (fun i σ H' => ∃ m qm x2 x3, σ = [some (V.ref c), some (.ref m), x2, x3] ∧ Same H H' ∧ Fq K H' n m qm ∧ qv qm = sw ks i) ⟨z0, (0, 1), none, none, rfl, Same.refl _, ⟨C0.oz _, nf01, sz01 hn1⟩, by rw [qv01]; rfl⟩ ?_ ?_ ?_⟩
  · rintro i σ H' _ ⟨m, qm, x2, x3, rfl, s, f, e⟩
    exact ob_tup (ob_same s ot)
  · rintro i v σ H' hv ⟨m, qm, x2, x3, rfl, s, f, e⟩
    obtain ⟨kk, ek, t, a, b, rfl, oT, fa, fb⟩ := (kt.same s).at hv
    refine ⟨t, rfl, _, oT, rfl, _, _, rfl, _, _, rfl, rfl, ?_⟩
    refine ⟨_, rfl, _, rfl, b, kk.2, rfl, fb.mono (by omega), fun d H2 s2 o2 => ?_⟩
    have fd : Fq K H2 n d ((kk.2.1.natAbs : Int), kk.2.2) := ⟨o2, nf_abs fb.nf, by show ((kk.2.1.natAbs : Int)).natAbs < 2 ^ n; rw [Int.natAbs_natCast]; exact fb.sz.1, fb.sz.2⟩
    have es := sw_s ek
    have ed := qv_abs fb.nf
    refine ⟨m, d, qm, _, rfl, (f.same s2).mono (by omega), fd.mono (by omega), fun lt => ?_, fun ge => ?_⟩
    · exact ⟨d, _, _, _, rfl, s.trans s2, fd, by rw [es, if_pos (by rw [← e, ← ed]; exact lt)]; exact ed⟩
    · exact ⟨m, qm, _, _, rfl, s.trans s2, f.same s2, by rw [es, if_neg (by rw [← e, ← ed]; exact ge)]; exact e⟩
  · rintro σ H' ⟨m, qm, x2, x3, rfl, s, f, e⟩
    exact ⟨_, rfl, k m qm H' s f (by rw [e, lk])⟩
end
end My

namespace My
open PySem PySem.Spec PyProof.Rows L2
section
variable {P : Program} {w : World} {K : PySem.W.Frag} {mg : Str → Option Value} {base : Heap}
def spSgn (K : PySem.W.Frag) : Sp := fun vs H Q _ => ∃ (a b : Addr) (p q : Qt), vs = [.ref a, .ref b] ∧ Fq K H 4000 a p ∧ Fq K H 4000 b q ∧ ∀ s : Int, (s < 0 ↔ qv p < qv q) → (0 < s ↔ qv q < qv p) → Q (.int s) H
theorem sg_lt {p q : Qt} (hp : Nf p) (hq : Nf q) : (((if p.1 * q.2 - q.1 * p.2 > 0 then 1 else 0) - (if p.1 * q.2 - q.1 * p.2 < 0 then 1 else 0) : Int) < 0 ↔ qv p < qv q) ∧ (0 < ((if p.1 * q.2 - q.1 * p.2 > 0 then 1 else 0) - (if p.1 * q.2 - q.1 * p.2 < 0 then 1 else 0) : Int) ↔ qv q < qv p) := by
  rw [qv_lt hp hq, qv_lt hq hp]
  refine ⟨?_, ?_⟩ <;> split <;> split <;> omega
abbrev sSgn : Stmt := topS 57
theorem scSgn : FnScope ["_law_left", "_law_right", "_law_gap"] ["_law_left", "_law_right"] (defScope sSgn) := ⟨rfl, rfl, rfl, by decide +kernel, rfl, by decide +kernel, by decide +kernel⟩
theorem k_Sgn (T : Bt K mg) (D : Dfn K mg "_law_sign" sSgn ["_law_left", "_law_right"]) : Kn P w K mg base 1 "_law_sign" ["_law_left", "_law_right"] (spSgn K) := by
  refine Kn.mk' D scSgn (fun vs H Q E h => ?_) (fun f cdv A outer s H vs Q E hr h => ?_)
  · obtain ⟨a, b, p, q, rfl, _⟩ := h
    rfl
  obtain ⟨a, b, p, q, rfl, hp, hq, k⟩ := h
  refine ⟨_, (pss_cons (ps_set (i := 2) scSgn.nd rfl (.inl rfl) (pe_op op_sub (pe_op op_mulW (pe_ix ix_any (pv 0) pe_int (fun _ _ => rfl)) (pe_ix ix_any (pv 1) pe_int (fun _ _ => rfl))) (pe_op op_mulW (pe_ix ix_any (pv 1) pe_int (fun _ _ => rfl)) (pe_ix ix_any (pv 0) pe_int (fun _ _ => rfl)))))
      (pss_one (ps_ret (pe_op op_sub (pe_callTy call_int1 (by rfl) T.b_int (by decide +kernel) (pa_cons (pe_cmpR op_gt (pv 2) pe_int (nomark _)) pa_nil)) (pe_callTy call_int1 (by rfl) T.b_int (by decide +kernel) (pa_cons (pe_cmpR op_lt (pv 2) pe_int (nomark _)) pa_nil)))))), ?_⟩
  have o1 := hp.o
  have o2 := hq.o
  obtain ⟨w1, w2⟩ := sg_lt hp.nf hq.nf
  refine ⟨_, rfl, a, 0, rfl, rfl, _, itsO_of o1, _, atI_0 _ _, _, rfl, b, 1, rfl, rfl, _, itsO_of o2, _, atI_1 _ _ _, _, _, rfl, rfl, mulW hp.sz.1 hq.sz.2 (by omega), _, rfl, b, 0, rfl, rfl, _, itsO_of o2, _, atI_0 _ _, _, rfl, a, 1, rfl, rfl, _, itsO_of o1, _, atI_1 _ _ _, _, _, rfl, rfl, mulW hq.sz.1 hp.sz.2 (by omega), _, _, rfl, rfl, ?_⟩
  simp only [cx_K, decide_true, decide_false, reduceCtorEq, gTp, gCons, gNil, ca_0, ca_1, ca_2, ca_3, ca_4, ca_5, ca_6, ca_7, ca_8, ca_9, ca_10, ca_11, ca_12, ca_13, ca_14, ca_15, ca_16, ca_17, ca_18, ca_19, ca_20, ca_21, ca_22, ca_23, ca_24, ca_25, ca_26, ca_27, ca_28, ca_29, ca_30, not_true_eq_false, not_false_eq_true, Int.reduceEq, Nat.reduceEqDiff, Nat.reduceLeDiff, rGcd, V.ty.injEq, eq_self, List.not_mem_nil, beq_self_eq_true, HO.lst.injEq, HO.tup.injEq, tFor_eq, iRng1, iList, iTup, nat10, tSeq, rIxA, rSetA, rIsN, rIsT, tTp, tLs, itsO_tup, itsO_lst, tyO_tup, tyO_lst, tyO_dK, tyN_non, tyN_bl, tyN_int, tyN_str, tyN_ref, tyNs_lt, isB, upd_same, upd_upd, sizeLine_eq, List.mem_cons, String.reduceBEq, String.reduceEq, Bool.or_false, Bool.or_true, Bool.and_false, Bool.false_or, Bool.and_self, Bool.false_and, Bool.not_false, Bool.not_true, List.any_cons, List.any_nil, atI_0, setI_0, atI_1, setI_1, atI_2, setI_2, atI_3, setI_3, atI_4, setI_4, atI_5, setI_5, atI_6, setI_6, tAsg, gName, tOp, tUn, tVar, tC, tCons, L2.tNil, tRet, tIfS, tTest, tCB, tCall, rI, rI0, rU, tNext, tB, tAnd, tOr, tNot, tAndV, tOrV, tNotV, tDrop, tIf, tPar, gSub, rIxL, rIxT, rEq, rNe, rSetL, tBits,
    L2.start, List.map_cons, List.map_nil, List.cons_append, List.nil_append, List.append_nil, List.length_cons, List.length_nil, List.replicate, Nat.reduceAdd, Nat.reduceSub, Nat.zero_add, List.getElem?_cons_zero, List.getElem?_cons_succ, List.set_cons_zero, List.set_cons_succ,
    Option.some.injEq, exists_eq_left', exists_eq_left, V.int.injEq, V.bl.injEq, V.ref.injEq, V.str.injEq, List.cons.injEq, reduceCtorEq, and_true, true_and, false_and, and_false, exists_false, or_false, false_or, or_true, true_or, exists_const, CMul, CDiv, CPow, and_assoc, exists_and_left, exists_and_right, Int.reducePow, Int.reduceNeg, Int.reduceLT, Int.reduceLE, Nat.reducePow, Nat.reduceLT, Int.reduceToNat, gt_iff_lt, ge_iff_le, decide_eq_true_eq, Bool.not_eq_true', decide_eq_false_iff_not, scal, ↓reduceIte, Bool.false_eq_true]
  exact k _ w1 w2
def spMost (K : PySem.W.Frag) : Sp := fun vs H Q _ => ∃ (a : Addr) (xs : List V) (ks : List Kt) (n : Nat), vs = [.ref a] ∧ ob K H a = some (.lst xs) ∧ Kts K H n xs ks ∧ n ≤ 4000 ∧ 1 ≤ n ∧ ∀ m z H', Same H H' → Fq K H' n m z → qv z = sw ks ks.length → Q (.ref m) H'
abbrev sMost : Stmt := topS 74
theorem scMost : FnScope ["_law_knots_here", "_law_most_here", "_law_place_here", "_law_lift", "_law_size_here"] ["_law_knots_here"] (defScope sMost) := ⟨rfl, rfl, rfl, by decide +kernel, rfl, by decide +kernel, by decide +kernel⟩
theorem k_Most (T : Bt K mg) (D : Dfn K mg "_law_most" sMost ["_law_knots_here"]) (d__law_sign : Kn P w K mg base 1 "_law_sign" ["_law_left", "_law_right"] (spSgn K)) : Kn P w K mg base 2 "_law_most" ["_law_knots_here"] (spMost K) := by
  refine Kn.mk' D scMost (fun vs H Q E h => ?_) (fun f cdv A outer s H vs Q E hr h => ?_)
  · obtain ⟨a, xs, ks, n, rfl, _⟩ := h
    rfl
  obtain ⟨a, xs, ks, n, rfl, oa, kt, hn, hn1, k⟩ := h
  refine ⟨_, (pss_cons (ps_set (i := 1) scMost.nd rfl (.inl rfl) (pe_tp (pa_cons pe_int (pa_cons pe_int pa_nil))))
      (pss_cons (ps_for PassesOwn.never rfl (pi_list (pv 0)) (pg_tp 2 (by rfl) (pgs_cons (pg_name (i := 2) scMost.nd rfl (.inl rfl)) (pgs_cons (pg_name (i := 3) scMost.nd rfl (.inl rfl)) pgs_nil))) (pss_cons (ps_set (i := 4) scMost.nd rfl (.inl rfl) (pe_tp (pa_cons (pe_callB call_abs (by rfl) T.b_abs (by decide +kernel) (pa_cons (pe_ix ix_any (pv 3) pe_int (fun _ _ => rfl)) pa_nil)) (pa_cons (pe_ix ix_any (pv 3) pe_int (fun _ _ => rfl)) pa_nil))))
      (pss_one (ps_if (pt_cmpR op_lt (pe_kn d__law_sign hr (by rfl) (pa_cons (pv 1) (pa_cons (pv 4) pa_nil))) pe_int (nomark _)) (pss_one (ps_set (i := 1) scMost.nd rfl (.inl rfl) (pv 4))) pss_nil))))
      (pss_one (ps_ret (pv 1))))), ?_⟩
  obtain ⟨ha, ka⟩ := ob_H oa (fun _ z => by cases z)
  have lk := kt.1
  refine ⟨sz2 (by show 2 ≤ 100; decide), fun pz hz kz => ?_⟩
  have s1 := Same.new hz (.tup [.int 0, .int 1])
  have o1 := ob_new (H := H) (o := .tup [.int 0, .int 1]) kz
  generalize upd H pz (.tup [.int 0, .int 1]) = H1 at s1 o1 ⊢
  refine ⟨_, rfl, a, rfl, ⟨xs, .of (s1 _ _ ha)⟩, forI_list (xs := xs) (fun i σ H' => ∃ m qm x2 x3 x4, σ = [some (V.ref a), some (.ref m), x2, x3, x4] ∧ Same H H' ∧ Fq K H' n m qm ∧ qv qm = sw ks i) ⟨pz, (0, 1), none, none, none, rfl, s1, ⟨o1, nf01, sz01 hn1⟩, by rw [qv01]; rfl⟩ ?_ ?_ ?_⟩
  · rintro i σ H' _ ⟨m, qm, x2, x3, x4, rfl, s, f, e⟩
    exact .of (s _ _ ha)
  · rintro i v σ H' hv ⟨m, qm, x2, x3, x4, rfl, s, f, e⟩
    obtain ⟨kk, ek, t, c, b, rfl, oT, fc, fb⟩ := (kt.same s).at hv
    refine ⟨t, rfl, _, oT, rfl, _, _, rfl, _, _, rfl, rfl, ?_⟩
    refine ⟨_, rfl, b, 0, rfl, rfl, _, itsO_of fb.o, _, atI_0 _ _, _, rfl, _, rfl, b, 1, rfl, rfl, _, itsO_of fb.o, _, atI_1 _ _ _, sz2 (by show 2 ≤ 100; decide), fun p hp kp => ?_⟩
    have s2 := Same.new hp (.tup [.int (if kk.2.1 < 0 then -kk.2.1 else kk.2.1), .int kk.2.2])
    have o2 := ob_new (H := H') (o := .tup [.int (if kk.2.1 < 0 then -kk.2.1 else kk.2.1), .int kk.2.2]) kp
    generalize upd H' p (.tup [.int (if kk.2.1 < 0 then -kk.2.1 else kk.2.1), .int kk.2.2]) = H2 at s2 o2 ⊢
    rw [abs_if] at o2
    have fd : Fq K H2 n p ((kk.2.1.natAbs : Int), kk.2.2) := ⟨o2, nf_abs fb.nf, by show ((kk.2.1.natAbs : Int)).natAbs < 2 ^ n; rw [Int.natAbs_natCast]; exact fb.sz.1, fb.sz.2⟩
    have es := sw_s ek
    have ed := qv_abs fb.nf
    refine ⟨_, rfl, _, rfl, m, p, qm, _, rfl, (f.same s2).mono hn, fd.mono hn, fun sg w1 w2 => ⟨_, _, rfl, rfl, _, rfl, ite2 (fun h => ?_) (fun h => ?_)⟩⟩
    · have lt := w1.mp (of_decide_eq_true h)
      exact ⟨_, rfl, p, _, _, _, _, rfl, s.trans s2, fd, by rw [es, if_pos (by rw [← e, ← ed]; exact lt)]; exact ed⟩
    · have ge : ¬ qv qm < qv ((kk.2.1.natAbs : Int), kk.2.2) := fun z => h (decide_eq_true (w1.mpr z))
      exact ⟨m, qm, _, _, _, rfl, s.trans s2, f.same s2, by rw [es, if_neg (by rw [← e, ← ed]; exact ge)]; exact e⟩
  · rintro σ H' ⟨m, qm, x2, x3, x4, rfl, s, f, e⟩
    exact ⟨_, rfl, k m qm H' s f (by rw [e, lk])⟩
end
end My

namespace My
open PySem PySem.Spec PyProof.Rows L2
section
variable {P : Program} {w : World} {K : PySem.W.Frag} {mg : Str → Option Value} {base : Heap}
theorem ext_eq {ks : List Kt} (g : Good ks) : ∃ k0, ks[0]? = some k0 ∧ ext ks = ks ++ [((1, 1), k0.2)] := by
  match ks, g with
  | x :: r, g => exact ⟨x, rfl, rfl⟩
  | [], g => exact absurd g.one (by decide)
theorem Kts.app {H : Hp} {n : Nat} {x : V} {k : Kt} {xs : List V} {ks : List Kt} (h : Kts K H n xs ks) (hk : Ka K H n x k) : Kts K H n (xs ++ [x]) (ks ++ [k]) := ⟨by rw [List.length_append, List.length_append, h.1]; rfl, fun i y q e1 e2 => by
  have hl := h.1
  rcases Nat.lt_or_ge i xs.length with l | l
  · rw [List.getElem?_append_left l] at e1
    rw [List.getElem?_append_left (by omega)] at e2
    exact h.2 i y q e1 e2
  · rw [List.getElem?_append_right l] at e1
    rw [List.getElem?_append_right (by omega)] at e2
    have := (List.getElem?_eq_some_iff.mp e1).1
    rw [List.length_singleton] at this
    rw [show i - xs.length = 0 by omega] at e1
    rw [show i - ks.length = 0 by omega] at e2
    cases e1
    cases e2
    exact hk⟩
theorem line_ok {ks : List Kt} (g : Good ks) {t z : Qt} (ht : Nf t) (c : Car ks t z) {i : Nat} {k k' : Kt} (h1 : (ext ks)[i]? = some k) (h2 : (ext ks)[i + 1]? = some k') (u0 : qv k.1 ≤ qv (t.1 % t.2, t.2)) (u1 : qv (t.1 % t.2, t.2) ≤ qv k'.1) :
    (qv z - qv t - qv k.2) * (qv k'.1 - qv k.1) = (qv k'.2 - qv k.2) * (qv (t.1 % t.2, t.2) - qv k.1) := by
  obtain ⟨ep, _, _⟩ := qv_part ht
  have lin := car_lin g ht c h1 h2 (w := t.1 / t.2) (u := qv (t.1 % t.2, t.2)) (by rw [ep]; grind) u0 u1
  have asc := g.asc i k k' h1 h2
  have nz : qv k'.1 - qv k.1 ≠ 0 := by grind
  generalize qv (t.1 % t.2, t.2) = p at *
  unfold slp at lin
  rw [lin]
  generalize ((t.1 / t.2 : Int) : Rat) = w at *
  grind
def spLine (K : PySem.W.Frag) : Sp := fun vs H Q _ => ∃ (kl ta za : Addr) (xs : List V) (ks : List Kt) (n j m : Nat) (t z : Qt), vs = [.ref kl, .ref ta, .ref za] ∧ H kl = some (.lst xs) ∧ K.lookup kl = none ∧ Kts K H n xs ks ∧ Good ks ∧ ks.length ≤ 8 ∧ 1 ≤ n ∧ n ≤ 140 ∧ Fq K H j ta t ∧ j ≤ 300 ∧ Fq K H m za z ∧ m ≤ 2000 ∧ Car ks t z ∧ ∀ H', Same H H' → Q (.bl true) H'
abbrev sLine : Stmt := topS 73
theorem scLine : FnScope ["_law_knots_here", "_law_turns", "_law_told", "_law_place_here", "_law_lift", "_law_ends", "_law_k", "_law_low", "_law_start", "_law_high", "_law_stop", "_law_left"] ["_law_knots_here", "_law_turns", "_law_told"] (defScope sLine) := ⟨rfl, rfl, rfl, by decide +kernel, rfl, by decide +kernel, by decide +kernel⟩
theorem k_Line (T : Bt K mg) (D : Dfn K mg "_law_on_line" sLine ["_law_knots_here", "_law_turns", "_law_told"]) (d__law_is_frac : Kn P w K mg base 2 "_law_is_frac" ["_law_told"] (spLFrac K)) (d__law_part : Kn P w K mg base 3 "_law_part" ["_law_value"] (spUn K fun q => (q.1 % q.2, q.2))) (d__law_minus : Kn P w K mg base 3 "_law_minus" ["_law_left", "_law_right"] (spBin K dif2)) (d__law_sign : Kn P w K mg base 1 "_law_sign" ["_law_left", "_law_right"] (spSgn K)) (d__law_times : Kn P w K mg base 3 "_law_times" ["_law_left", "_law_right"] (spBin K pro2)) : Kn P w K mg base 4 "_law_on_line" ["_law_knots_here", "_law_turns", "_law_told"] (spLine K) := by
  refine Kn.mk' D scLine (fun vs H Q E h => ?_) (fun f cdv A outer s H vs Q E hr h => ?_)
  · obtain ⟨kl, ta, za, xs, ks, n, j, m, t, z, rfl, _⟩ := h
    rfl
  obtain ⟨kl, ta, za, xs, ks, n, j, m, t, z, rfl, hk, kk, kt, g, l8, hn, hn2, ft, hj, fz, hm, car, q⟩ := h
  refine ⟨_, (pss_cons (ps_if (pt_not (pt_val (pe_kn d__law_is_frac hr (by rfl) (pa_cons (pv 2) pa_nil)))) (pss_one (ps_ret pe_bl)) pss_nil)
      (pss_cons (ps_set (i := 3) scLine.nd rfl (.inl rfl) (pe_kn d__law_part hr (by rfl) (pa_cons (pv 1) pa_nil)))
      (pss_cons (ps_set (i := 4) scLine.nd rfl (.inl rfl) (pe_kn d__law_minus hr (by rfl) (pa_cons (pv 2) (pa_cons (pv 1) pa_nil))))
      (pss_cons (ps_set (i := 5) scLine.nd rfl (.inl rfl) (pe_fr (pe_op op_cat (pv 0) (pe_ls (pa_cons (pe_tp (pa_cons (pe_tp (pa_cons pe_int (pa_cons pe_int pa_nil))) (pa_cons (pe_ix ix_any (pe_ix ix_any (pv 0) pe_int (fun _ _ => rfl)) pe_int (fun _ _ => rfl)) pa_nil))) pa_nil)))))
      (pss_cons (ps_for PassesOwn.never rfl (pi_range1 (by rfl) T.b_range (pa_cons (pe_callB call_lenA (by rfl) T.b_len PySem.boot_len (pa_cons (pv 0) pa_nil)) pa_nil)) (pg_name (i := 6) scLine.nd rfl (.inl rfl)) (pss_cons (ps_asg (pe_ix ix_any (pv 5) (pv 6) (fun _ _ => rfl)) (pg_tp 2 (by rfl) (pgs_cons (pg_name (i := 7) scLine.nd rfl (.inl rfl)) (pgs_cons (pg_name (i := 8) scLine.nd rfl (.inl rfl)) pgs_nil))))
      (pss_cons (ps_asg (pe_ix ix_any (pv 5) (pe_op op_add (pv 6) pe_int) (fun _ _ => rfl)) (pg_tp 2 (by rfl) (pgs_cons (pg_name (i := 9) scLine.nd rfl (.inl rfl)) (pgs_cons (pg_name (i := 10) scLine.nd rfl (.inl rfl)) pgs_nil))))
      (pss_one (ps_if (PW.pt (pw_and (pt_cmpR op_lt (pe_kn d__law_sign hr (by rfl) (pa_cons (pv 7) (pa_cons (pv 3) pa_nil))) pe_int (nomark _)) (pw_and1 (pt_cmpR op_lt (pe_kn d__law_sign hr (by rfl) (pa_cons (pv 3) (pa_cons (pv 9) pa_nil))) pe_int (nomark _))))) (pss_cons (ps_set (i := 11) scLine.nd rfl (.inl rfl) (pe_kn d__law_times hr (by rfl) (pa_cons (pe_kn d__law_minus hr (by rfl) (pa_cons (pv 4) (pa_cons (pv 8) pa_nil))) (pa_cons (pe_kn d__law_minus hr (by rfl) (pa_cons (pv 9) (pa_cons (pv 7) pa_nil))) pa_nil))))
      (pss_one (ps_if (pt_cmpR (op_neF hr) (pv 11) (pe_kn d__law_times hr (by rfl) (pa_cons (pe_kn d__law_minus hr (by rfl) (pa_cons (pv 10) (pa_cons (pv 8) pa_nil))) (pa_cons (pe_kn d__law_minus hr (by rfl) (pa_cons (pv 3) (pa_cons (pv 7) pa_nil))) pa_nil))) (nomark _)) (pss_one (ps_ret pe_bl)) pss_nil))) pss_nil)))))
      (pss_one (ps_ret pe_bl))))))), ?_⟩
  refine ⟨_, rfl, za, z, rfl, fz.mono (by omega), _, rfl, if_no rfl ?_⟩
  refine ⟨_, rfl, av_part ft fun pa H1 s1 fp => ?_⟩
  refine ⟨_, rfl, _, rfl, av_dif (fz.same s1) (ft.same s1) fun lf la H2 elf s2 fl => ?_⟩
  have s12 := s1.trans s2
  have fp2 := fp.same s2
  obtain ⟨k0, ek0, eext⟩ := ext_eq g
  obtain ⟨x0, hx0, t0, a0, b0, rfl, ot0, fa0, fb0⟩ := kt.get ek0
  have h8 := kt.1
  have ei : atI xs 0 = some (.ref t0) := by
    match xs, hx0 with
    | y :: r, h => cases h; exact atI_0 _ _
  refine ⟨_, rfl, sz2 (by show 2 ≤ 100; decide), fun p1 hp1 kp1 => ?_⟩
  have s3 := Same.new hp1 (.tup [.int 1, .int 1])
  have o1 := ob_new (H := H2) (o := .tup [.int 1, .int 1]) kp1
  generalize upd H2 p1 (.tup [.int 1, .int 1]) = H3 at s3 o1 ⊢
  have s13 := s12.trans s3
  refine ⟨_, rfl, kl, 0, rfl, rfl, _, itsO_ofL ((ob_none kk).trans (s13 _ _ hk)), _, ei, t0, 1, rfl, rfl, _, itsO_of (ob_same s13 ot0), _, atI_1 _ _ _, sz2 (by show 2 ≤ 100; decide), fun p2 hp2 kp2 => ⟨sz2 (by show 1 ≤ 100; decide), fun p3 hp3 kp3 => ?_⟩⟩
  have s4 := Same.new hp2 (.tup [.ref p1, .ref b0])
  have o2 := ob_new (H := H3) (o := .tup [.ref p1, .ref b0]) kp2
  generalize upd H3 p2 (.tup [.ref p1, .ref b0]) = H4 at s4 o2 hp3 ⊢
  have s5 := Same.new hp3 (.lst [.ref p2])
  have h5 : upd H4 p3 (.lst [.ref p2]) p3 = some (.lst [.ref p2]) := upd_same
  generalize upd H4 p3 (.lst [.ref p2]) = H5 at s5 h5 ⊢
  have s15 := s13.trans (s4.trans s5)
  refine ⟨kl, p3, xs, _, rfl, rfl, s15 _ _ hk, h5, by show xs.length + 1 ≤ sizeLine; rw [sizeLine_eq]; omega, fun ends hE frE => ?_⟩
  have s6 := Same.new hE (.lst (xs ++ [.ref p2]))
  have h6 : upd H5 ends (.lst (xs ++ [.ref p2])) ends = some (.lst (xs ++ [.ref p2])) := upd_same
  have kE : K.lookup ends = none := frE ends (by rw [upd_same]; simp)
  have o1 := ob_same (s4.trans (s5.trans s6)) o1
  have o2 := ob_same (s5.trans s6) o2
  have s16 := s15.trans s6
  have s26 := s3.trans (s4.trans (s5.trans s6))
  generalize upd H5 ends (.lst (xs ++ [.ref p2])) = H6 at s6 h6 o1 o2 s16 s26 ⊢
  have kE6 : Kts K H6 n (xs ++ [.ref p2]) (ext ks) := by
    rw [eext]
    exact (kt.same s16).app ⟨p2, p1, b0, rfl, o2, ⟨o1, nf11, sz11 hn⟩, fb0.same s16⟩
  have fp6 := fp2.same s26
  have fl6 := fl.same s26
  have oE := (ob_none kE).trans h6
  clear s13 s15 s6 s5 s4 s3 h5 hp1 hp2 hp3 hE frE
  refine ⟨_, rfl, kl, rfl, xs, itsO_ofL ((ob_none kk).trans (s16 _ _ hk)), _, rfl, by omega, by omega, ?_⟩
  refine forI_range (lo := 0) (n := xs.length) (fun i σ H' => ∃ x6 x7 x8 x9 x10 x11, σ = [some (V.ref kl), some (.ref ta), some (.ref za), some (.ref pa), some (.ref la), some (.ref ends), x6, x7, x8, x9, x10, x11] ∧ Same H6 H') ⟨none, none, none, none, none, none, rfl, Same.refl _⟩ ?_ ?_
  · rintro i σ H' hi ⟨x6, x7, x8, x9, x10, x11, rfl, sX⟩
    obtain ⟨e, e1⟩ := ext_ex (ks := ks) (i := i) (by omega)
    obtain ⟨e', e2⟩ := ext_ex (ks := ks) (i := i + 1) (by omega)
    obtain ⟨v, hv, tv, va, vb, rfl, otv, fva, fvb⟩ := (kE6.same sX).get e1
    obtain ⟨u, hu, tu, ua, ub, rfl, otu, fua, fub⟩ := (kE6.same sX).get e2
    have oEX := ob_same sX oE
    have i0 : ∀ {xs : List V} {x : V}, xs[i]? = some x → atI xs (0 + (i : Int)) = some x := fun e => by
      rw [show (0 + (i : Int)) = ((i : Nat) : Int) by omega]
      exact atI_nat e
    have i1 : ∀ {xs : List V} {x : V}, xs[i + 1]? = some x → atI xs (0 + (i : Int) + 1) = some x := fun e => by
      rw [show (0 + (i : Int) + 1) = ((i + 1 : Nat) : Int) by omega]
      exact atI_nat e
    refine ⟨_, rfl, _, rfl, ends, _, rfl, rfl, _, itsO_ofL oEX, _, i0 hv, tv, rfl, _, otv, rfl, _, _, rfl, _, _, rfl, rfl, ?_⟩
    refine ⟨_, rfl, _, rfl, _, _, rfl, rfl, ends, _, rfl, rfl, _, itsO_ofL oEX, _, i1 hu, tu, rfl, _, otu, rfl, _, _, rfl, _, _, rfl, rfl, ?_⟩
    have fpX := fp6.same sX
    have flX := fl6.same sX
    refine ⟨_, rfl, _, rfl, va, pa, _, _, rfl, fva.mono (by omega), fpX.mono (by omega), fun sg w1 w2 => ⟨_, _, rfl, rfl, _, rfl, ite2 (fun h => ?_) (fun h => ?_)⟩⟩
    · have u0 : qv e.1 ≤ qv (t.1 % t.2, t.2) := Rat.not_lt.mp fun z => absurd (w2.mpr z) (by have : sg < 1 := of_decide_eq_true h; omega)
      refine ⟨_, rfl, _, rfl, pa, ua, _, _, rfl, fpX.mono (by omega), fua.mono (by omega), fun sg2 w3 w4 => ⟨_, _, rfl, rfl, _, rfl, ite2 (fun h2 => ?_) (fun h2 => ?_)⟩⟩
      · have u1 : qv (t.1 % t.2, t.2) ≤ qv e'.1 := Rat.not_lt.mp fun z => absurd (w4.mpr z) (by have : sg2 < 1 := of_decide_eq_true h2; omega)
        have ln := line_ok g ft.nf car e1 e2 u0 u1
        refine ⟨_, rfl, _, rfl, av_dif flX fvb fun d1 da G1 ed1 r1 fd1 => ?_⟩
        refine ⟨_, rfl, _, rfl, av_dif (fua.same r1) (fva.same r1) fun d2 db G2 ed2 r2 fd2 => ?_⟩
        refine av_pro (fd1.same r2) fd2 fun d3 dc G3 ed3 r3 fd3 => ?_
        have r13 := r1.trans (r2.trans r3)
        refine ⟨_, rfl, _, rfl, _, rfl, av_dif (fub.same r13) (fvb.same r13) fun d4 dd G4 ed4 r4 fd4 => ?_⟩
        have r14 := r13.trans r4
        refine ⟨_, rfl, _, rfl, av_dif (fpX.same r14) (fva.same r14) fun d5 de G5 ed5 r5 fd5 => ?_⟩
        refine av_pro (fd4.same r5) fd5 fun d6 df G6 ed6 r6 fd6 => ?_
        have eq : d3 = d6 := qv_inj fd3.nf fd6.nf (by rw [ed3, ed6, ed1, ed2, ed4, ed5, elf]; exact ln)
        refine ⟨dc, df, d3, d6, rfl, rfl, ob_same (r4.trans (r5.trans r6)) fd3.o, fd6.o, _, rfl, if_no (by rw [decide_eq_true eq]; rfl) ?_⟩
        exact ⟨_, _, _, _, _, _, rfl, sX.trans (r14.trans (r5.trans r6))⟩
      · exact ⟨_, _, _, _, _, _, rfl, sX⟩
    · exact ⟨_, _, _, _, _, _, rfl, sX⟩
  · rintro σ H' ⟨x6, x7, x8, x9, x10, x11, rfl, sX⟩
    exact q H' (s16.trans sX)

end
end My

namespace My
open PySem PySem.Spec PyProof.Rows L2
section
variable {P : Program} {w : World} {K : PySem.W.Frag} {mg : Str → Option Value} {base : Heap}
/-! ### the sway bounds what a slot adds -/
theorem sw_mono {ks : List Kt} {i : Nat} (h : i < ks.length) : sw ks i ≤ sw ks (i + 1) := by
  have hk : ks[i]? = some ks[i] := List.getElem?_eq_getElem h
  rw [sw_s hk]
  split <;> grind
theorem sw_up {ks : List Kt} : ∀ (d i : Nat), i + d ≤ ks.length → sw ks i ≤ sw ks (i + d)
  | 0, i, _ => by
    show sw ks i ≤ sw ks i
    exact Rat.le_refl
  | d + 1, i, h => by
    have a := sw_up (ks := ks) d i (by omega)
    have b := sw_mono (ks := ks) (i := i + d) (by omega)
    rw [show i + (d + 1) = i + d + 1 by omega]
    grind
theorem sw_ge {ks : List Kt} {i : Nat} {k : Kt} (h : ks[i]? = some k) : rabs (qv k.2) ≤ sw ks ks.length := by
  have hi := (List.getElem?_eq_some_iff.mp h).1
  have a := sw_up (ks := ks) (ks.length - (i + 1)) (i + 1) (by omega)
  rw [show i + 1 + (ks.length - (i + 1)) = ks.length by omega] at a
  have b : rabs (qv k.2) ≤ sw ks (i + 1) := by
    rw [sw_s h]
    split <;> grind
  grind
/-- it is reached at one of the knots, where there is one -/
theorem sw_at {ks : List Kt} : ∀ (i : Nat), i ≤ ks.length → 1 ≤ i → ∃ j k, j < i ∧ ks[j]? = some k ∧ sw ks i = rabs (qv k.2)
  | 0, _, h => absurd h (by decide)
  | i + 1, hl, _ => by
    have hk : ks[i]? = some ks[i] := List.getElem?_eq_getElem (by omega)
    rw [sw_s hk]
    split
    · exact ⟨i, _, by omega, hk, rfl⟩
    · rename_i c
      rcases Nat.eq_zero_or_pos i with z | z
      · refine ⟨i, _, by omega, hk, ?_⟩
        subst z
        rw [sw_0] at c ⊢
        unfold rabs at c ⊢
        split at c <;> grind
      · obtain ⟨j, k, a, b, e⟩ := sw_at (ks := ks) i (by omega) z
        exact ⟨j, k, by omega, b, e⟩
theorem rabs_le {x m : Rat} : rabs x ≤ m ↔ x ≤ m ∧ -x ≤ m := by
  unfold rabs
  constructor
  · intro h
    split at h <;> grind
  · intro h
    split <;> grind
/-- what is between two lifts -/
theorem between {x0 x1 p y0 y1 d m : Rat} (h0 : x0 ≤ p) (h1 : p ≤ x1) (hx : x0 < x1) (e : (d - y0) * (x1 - x0) = (y1 - y0) * (p - x0)) (a : rabs y0 ≤ m) (b : rabs y1 ≤ m) : rabs d ≤ m := by
  rw [rabs_le] at *
  have hw : 0 < x1 - x0 := by grind
  have s0 : 0 ≤ p - x0 := by grind
  have s1 : 0 ≤ x1 - p := by grind
  have k1 : d * (x1 - x0) = y0 * (x1 - p) + y1 * (p - x0) := by grind
  have u1 : 0 ≤ (m - y0) * (x1 - p) := Rat.mul_nonneg (by grind) s1
  have u2 : 0 ≤ (m - y1) * (p - x0) := Rat.mul_nonneg (by grind) s0
  have v1 : 0 ≤ (m + y0) * (x1 - p) := Rat.mul_nonneg (by grind) s1
  have v2 : 0 ≤ (m + y1) * (p - x0) := Rat.mul_nonneg (by grind) s0
  refine ⟨?_, ?_⟩
  · rw [← Rat.not_lt]
    intro c
    have := Rat.mul_lt_mul_of_pos_right c hw
    grind
  · rw [← Rat.not_lt]
    intro c
    have := Rat.mul_lt_mul_of_pos_right c hw
    grind
end
end My

namespace My
open PySem PySem.Spec PyProof.Rows L2
section
variable {P : Program} {w : World} {K : PySem.W.Frag} {mg : Str → Option Value} {base : Heap}
def spFits (K : PySem.W.Frag) : Nat → Sp
  | 0 => fun _ _ _ _ => False
  | n + 1 => fun vs H Q _ => ∃ x, vs = [x] ∧ ((∃ i : Int, x = .int i ∧ ∀ H', Same H H' → Q (.bl (decide (i.natAbs < 10 ^ 40))) H') ∨ (∃ (a : Addr) (p : Qt), n ≠ 0 ∧ x = .ref a ∧ ob K H a = some (.tup [.int p.1, .int p.2]) ∧ ∀ H', Same H H' → Q (.bl (decide (p.1.natAbs < 10 ^ 40) && decide (p.2.natAbs < 10 ^ 40))) H'))
def FitI (K : PySem.W.Frag) (a : Addr) (p : Qt) (H : Hp) (i : Nat) (σ : L2.St) (H' : Hp) : Prop := ∃ y, σ = [some (.ref a), y] ∧ Same H H' ∧ (1 ≤ i → p.1.natAbs < 10 ^ 40) ∧ (2 ≤ i → p.2.natAbs < 10 ^ 40)

abbrev sFits : Stmt := topS 62
theorem scFits : FnScope ["_law_thing", "_law_item"] ["_law_thing"] (defScope sFits) := ⟨rfl, rfl, rfl, by decide +kernel, rfl, by decide +kernel, by decide +kernel⟩
theorem k_Fits (n : Nat) (T : Bt K mg) (D : Dfn K mg "_law_fits" sFits ["_law_thing"]) (d__law_fits : Kn P w K mg base n "_law_fits" ["_law_thing"] (spFits K n)) : Kn P w K mg base (n + 1) "_law_fits" ["_law_thing"] (spFits K (n + 1)) := by
  refine Kn.mk' D scFits (fun vs H Q E h => ?_) (fun f cdv A outer s H vs Q E hr h => ?_)
  · obtain ⟨x, rfl, _⟩ := h
    rfl
  obtain ⟨x, rfl, h⟩ := h
  refine ⟨_, (pss_cons (ps_if (pt_val (pe_callB call_isT (by rfl) T.b_isinstance (by decide +kernel) (pa_cons (pv 0) (pa_cons (pe_tp (pa_cons (pe_bltn (v := .ty "list") (by rfl) T.b_list (by decide +kernel) rfl) (pa_cons (pe_bltn (v := .ty "tuple") (by rfl) T.b_tuple (by decide +kernel) rfl) pa_nil))) pa_nil)))) (pss_cons (ps_for PassesOwn.never rfl (pi_tup (pv 0)) (pg_name (i := 1) scFits.nd rfl (.inl rfl)) (pss_one (ps_if (pt_not (pt_val (pe_kn d__law_fits hr (by rfl) (pa_cons (pv 1) pa_nil)))) (pss_one (ps_ret pe_bl)) pss_nil)))
      (pss_one (ps_ret pe_bl))) pss_nil)
      (pss_one (ps_ret (pe_or (pe_not (pe_callB call_isN (by rfl) T.b_isinstance (by decide +kernel) (pa_cons (pv 0) (pa_cons (pe_bltn (v := .ty "int") (by rfl) T.b_int (by decide +kernel) rfl) pa_nil)))) (pe_one (pe_cmpR op_lt (pe_callB call_abs (by rfl) T.b_abs (by decide +kernel) (pa_cons (pv 0) pa_nil)) (pe_op op_pow pe_int pe_int) (nomark _))))))), ?_⟩
  rcases h with ⟨i, rfl, k⟩ | ⟨a, p, hn, rfl, oa, k⟩
  · simp only [cx_K, decide_true, decide_false, reduceCtorEq, gTp, gCons, gNil, ca_0, ca_1, ca_2, ca_3, ca_4, ca_5, ca_6, ca_7, ca_8, ca_9, ca_10, ca_11, ca_12, ca_13, ca_14, ca_15, ca_16, ca_17, ca_18, ca_19, ca_20, ca_21, ca_22, ca_23, ca_24, ca_25, ca_26, ca_27, ca_28, ca_29, ca_30, not_true_eq_false, not_false_eq_true, Int.reduceEq, Nat.reduceEqDiff, Nat.reduceLeDiff, rGcd, V.ty.injEq, eq_self, List.not_mem_nil, beq_self_eq_true, HO.lst.injEq, HO.tup.injEq, tFor_eq, iRng1, iList, iTup, nat10, tSeq, rIxA, rSetA, rIsN, rIsT, tTp, tLs, itsO_tup, itsO_lst, tyO_tup, tyO_lst, tyO_dK, tyN_non, tyN_bl, tyN_int, tyN_str, tyN_ref, tyNs_lt, isB, upd_same, upd_upd, sizeLine_eq, List.mem_cons, String.reduceBEq, String.reduceEq, Bool.or_false, Bool.or_true, Bool.and_false, Bool.false_or, Bool.and_self, Bool.false_and, Bool.not_false, Bool.not_true, List.any_cons, List.any_nil, atI_0, setI_0, atI_1, setI_1, atI_2, setI_2, atI_3, setI_3, atI_4, setI_4, atI_5, setI_5, atI_6, setI_6, tAsg, gName, tOp, tUn, tVar, tC, tCons, L2.tNil, tRet, tIfS, tTest, tCB, tCall, rI, rI0, rU, tNext, tB, tAnd, tOr, tNot, tAndV, tOrV, tNotV, tDrop, tIf, tPar, gSub, rIxL, rIxT, rEq, rNe, rSetL, tBits,
    L2.start, List.map_cons, List.map_nil, List.cons_append, List.nil_append, List.append_nil, List.length_cons, List.length_nil, List.replicate, Nat.reduceAdd, Nat.reduceSub, Nat.zero_add, List.getElem?_cons_zero, List.getElem?_cons_succ, List.set_cons_zero, List.set_cons_succ,
    Option.some.injEq, exists_eq_left', exists_eq_left, V.int.injEq, V.bl.injEq, V.ref.injEq, V.str.injEq, List.cons.injEq, reduceCtorEq, and_true, true_and, false_and, and_false, exists_false, or_false, false_or, or_true, true_or, exists_const, CMul, CDiv, CPow, and_assoc, exists_and_left, exists_and_right, Int.reducePow, Int.reduceNeg, Int.reduceLT, Int.reduceLE, Nat.reducePow, Nat.reduceLT, Int.reduceToNat, gt_iff_lt, ge_iff_le, decide_eq_true_eq, Bool.not_eq_true', decide_eq_false_iff_not, scal, ↓reduceIte, Bool.false_eq_true]
    intro p hp kp
    have s1 := Same.new hp (.tup [V.ty "list", V.ty "tuple"])
    generalize upd H p (.tup [V.ty "list", V.ty "tuple"]) = H1 at s1 ⊢
    have e : decide ((if i < 0 then -i else i) < 10000000000000000000000000000000000000000) = decide (i.natAbs < 10 ^ 40) := decide_eq_decide.mpr (by omega)
    rw [e]
    exact k H1 s1
  · simp only [oa, cx_K, decide_true, decide_false, reduceCtorEq, gTp, gCons, gNil, ca_0, ca_1, ca_2, ca_3, ca_4, ca_5, ca_6, ca_7, ca_8, ca_9, ca_10, ca_11, ca_12, ca_13, ca_14, ca_15, ca_16, ca_17, ca_18, ca_19, ca_20, ca_21, ca_22, ca_23, ca_24, ca_25, ca_26, ca_27, ca_28, ca_29, ca_30, not_true_eq_false, not_false_eq_true, Int.reduceEq, Nat.reduceEqDiff, Nat.reduceLeDiff, rGcd, V.ty.injEq, eq_self, List.not_mem_nil, beq_self_eq_true, HO.lst.injEq, HO.tup.injEq, tFor_eq, iRng1, iList, iTup, nat10, tSeq, rIxA, rSetA, rIsN, rIsT, tTp, tLs, itsO_tup, itsO_lst, tyO_tup, tyO_lst, tyO_dK, tyN_non, tyN_bl, tyN_int, tyN_str, tyN_ref, tyNs_lt, isB, upd_same, upd_upd, sizeLine_eq, List.mem_cons, String.reduceBEq, String.reduceEq, Bool.or_false, Bool.or_true, Bool.and_false, Bool.false_or, Bool.and_self, Bool.false_and, Bool.not_false, Bool.not_true, List.any_cons, List.any_nil, atI_0, setI_0, atI_1, setI_1, atI_2, setI_2, atI_3, setI_3, atI_4, setI_4, atI_5, setI_5, atI_6, setI_6, tAsg, gName, tOp, tUn, tVar, tC, tCons, L2.tNil, tRet, tIfS, tTest, tCB, tCall, rI, rI0, rU, tNext, tB, tAnd, tOr, tNot, tAndV, tOrV, tNotV, tDrop, tIf, tPar, gSub, rIxL, rIxT, rEq, rNe, rSetL, tBits,
    L2.start, List.map_cons, List.map_nil, List.cons_append, List.nil_append, List.append_nil, List.length_cons, List.length_nil, List.replicate, Nat.reduceAdd, Nat.reduceSub, Nat.zero_add, List.getElem?_cons_zero, List.getElem?_cons_succ, List.set_cons_zero, List.set_cons_succ,
    Option.some.injEq, exists_eq_left', exists_eq_left, V.int.injEq, V.bl.injEq, V.ref.injEq, V.str.injEq, List.cons.injEq, reduceCtorEq, and_true, true_and, false_and, and_false, exists_false, or_false, false_or, or_true, true_or, exists_const, CMul, CDiv, CPow, and_assoc, exists_and_left, exists_and_right, Int.reducePow, Int.reduceNeg, Int.reduceLT, Int.reduceLE, Nat.reducePow, Nat.reduceLT, Int.reduceToNat, gt_iff_lt, ge_iff_le, decide_eq_true_eq, Bool.not_eq_true', decide_eq_false_iff_not, scal, ↓reduceIte, Bool.false_eq_true]
    intro p1 hp kp
    have s1 := Same.new hp (.tup [V.ty "list", V.ty "tuple"])
    generalize upd H p1 (.tup [V.ty "list", V.ty "tuple"]) = H1 at s1 ⊢
    have oa1 := ob_same s1 oa
    obtain ⟨n, rfl⟩ : ∃ m, n = m + 1 := ⟨n - 1, by omega⟩
    refine ⟨_, by rw [oa1]; rfl, if_yes rfl ⟨⟨_, ob_tup oa1⟩, forI_tup (xs := [.int p.1, .int p.2]) (FitI K a p H) ⟨none, rfl, s1, by omega, by omega⟩ ?_ ?_ ?_⟩⟩
    · rintro i σ H' _ ⟨y, rfl, s2, _, _⟩
      exact ob_tup (ob_same s2 oa)
    · rintro i x σ H' hi ⟨y, rfl, s2, b1, b2⟩
      match i with
      | 0 =>
        cases hi
        refine ⟨_, rfl, _, rfl, .inl ⟨_, rfl, fun H2 s3 => ⟨_, rfl, ?_⟩⟩⟩
        have s23 := s2.trans s3
        refine ite2 (fun h => ?_) (fun h => ?_)
        · have e : (decide (p.1.natAbs < 10 ^ 40) && decide (p.2.natAbs < 10 ^ 40)) = false := by rw [Bool.and_eq_false_iff]; exact .inl (by simpa using h)
          rw [e] at k
          exact k H2 s23
        · exact ⟨_, rfl, s23, fun _ => by simpa using h, fun z => by omega⟩
      | 1 =>
        cases hi
        refine ⟨_, rfl, _, rfl, .inl ⟨_, rfl, fun H2 s3 => ⟨_, rfl, ?_⟩⟩⟩
        have s23 := s2.trans s3
        refine ite2 (fun h => ?_) (fun h => ?_)
        · have e : (decide (p.1.natAbs < 10 ^ 40) && decide (p.2.natAbs < 10 ^ 40)) = false := by rw [Bool.and_eq_false_iff]; exact .inr (by simpa using h)
          rw [e] at k
          exact k H2 s23
        · exact ⟨_, rfl, s23, fun _ => b1 (by omega), fun _ => by simpa using h⟩
      | j + 2 => cases hi
    · rintro σ H' ⟨y, rfl, s2, b1, b2⟩
      have c1 := b1 (by show 1 ≤ 2; decide)
      have c2 := b2 (by show 2 ≤ 2; decide)
      have e : (decide (p.1.natAbs < 10 ^ 40) && decide (p.2.natAbs < 10 ^ 40)) = true := by rw [decide_eq_true c1, decide_eq_true c2]; rfl
      rw [e] at k
      exact k H' s2
end
end My

namespace My
open PySem PySem.Spec PyProof.Rows L2
section
variable {P : Program} {w : World} {K : PySem.W.Frag} {mg : Str → Option Value} {base : Heap}
theorem Fq.kps' {H H' : Hp} {n : Nat} {a s : Addr} {q : Qt} (h : Fq K H n a q) (e : Kp s H H') (st : Sto K H s) : Fq K H' n a q := h.kps e st
/-- fractions in a list -/
def Frs (K : PySem.W.Frag) (H : Hp) (n : Nat) (acc : List V) : Prop := ∀ x ∈ acc, ∃ a q, x = .ref a ∧ Fq K H n a q
theorem Frs.kps {H H' : Hp} {n : Nat} {s : Addr} {acc : List V} (h : Frs K H n acc) (e : Kp s H H') (st : Sto K H s) : Frs K H' n acc := fun x hx => by
  obtain ⟨a, q, e1, f⟩ := h x hx
  exact ⟨a, q, e1, f.kps e st⟩
theorem Frs.same {H H' : Hp} {n : Nat} {acc : List V} (h : Frs K H n acc) (e : Same H H') : Frs K H' n acc := fun x hx => by
  obtain ⟨a, q, e1, f⟩ := h x hx
  exact ⟨a, q, e1, f.same e⟩
theorem Frs.put {H : Hp} {n : Nat} {D : Addr} {acc xs : List V} {o : HO} (h : Frs K H n acc) (hD : H D = some (.lst xs)) : Frs K (upd H D o) n acc := fun x hx => by
  obtain ⟨a, q, e1, f⟩ := h x hx
  exact ⟨a, q, e1, f.put hD⟩
theorem Frs.snoc {H : Hp} {n : Nat} {acc : List V} {a : Addr} {q : Qt} (h : Frs K H n acc) (f : Fq K H n a q) : Frs K H n (acc ++ [.ref a]) := fun x hx => by
  rcases List.mem_append.mp hx with z | z
  · exact h x z
  · rw [List.mem_singleton] at z
    exact ⟨a, q, z, f⟩
/-- one of them is at the place z, some turns on; its parts are small -/
def Hit (K : PySem.W.Frag) (H : Hp) (acc : List V) (z : Qt) : Prop := ∃ a q, V.ref a ∈ acc ∧ Fq K H 60 a q ∧ ∃ w : Int, qv q = qv z + (w : Rat)
theorem Hit.kps {H H' : Hp} {s : Addr} {acc : List V} {z : Qt} (h : Hit K H acc z) (e : Kp s H H') (st : Sto K H s) : Hit K H' acc z := by
  obtain ⟨a, q, m, f, w⟩ := h
  exact ⟨a, q, m, f.kps e st, w⟩
theorem Hit.same {H H' : Hp} {acc : List V} {z : Qt} (h : Hit K H acc z) (e : Same H H') : Hit K H' acc z := by
  obtain ⟨a, q, m, f, w⟩ := h
  exact ⟨a, q, m, f.same e, w⟩
theorem Hit.put {H : Hp} {D : Addr} {acc xs : List V} {z : Qt} {o : HO} (h : Hit K H acc z) (hD : H D = some (.lst xs)) : Hit K (upd H D o) acc z := by
  obtain ⟨a, q, m, f, w⟩ := h
  exact ⟨a, q, m, f.put hD, w⟩
theorem Hit.mem {H : Hp} {acc acc' : List V} {z : Qt} (h : Hit K H acc z) (hm : ∀ x ∈ acc, x ∈ acc') : Hit K H acc' z := by
  obtain ⟨a, q, m, f, w⟩ := h
  exact ⟨a, q, hm _ m, f, w⟩
def spAskT (K : PySem.W.Frag) : Sp := fun vs H Q _ => ∃ (s kl : Addr) (xs : List V) (ks : List Kt), vs = [.ref s, .ref kl] ∧ Sto K H s ∧ H kl = some (.lst xs) ∧ K.lookup kl = none ∧ kl ≠ s ∧ Kts K H 134 xs ks ∧ (∀ k ∈ ks, Sz 20 k.1) ∧ ks.length ≤ 8 ∧
  ∀ l acc H', H l = none → K.lookup l = none → H' l = some (.lst acc) → acc.length ≤ 13 → Frs K H' 160 acc → (∀ k ∈ ks, Hit K H' acc k.1) → Kp s H H' → Sto K H' s → Q (.ref l) H'
abbrev sAskT : Stmt := topS 75
theorem scAskT : FnScope ["_law_store_here", "_law_knots_here", "_law_out", "_law_place_here", "_law_lift", "_law_k", "_law_turns"] ["_law_store_here", "_law_knots_here"] (defScope sAskT) := ⟨rfl, rfl, rfl, by decide +kernel, rfl, by decide +kernel, by decide +kernel⟩
theorem blk_scAskT_0 : BlkOk ["_law_store_here", "_law_knots_here", "_law_out", "_law_place_here", "_law_lift", "_law_k", "_law_turns"] (defScope sAskT) { kind := .function, names := [(".0", .local), ("_law_turns", .local), ("_law_fits", .globalImplicit)], isGenerator := false, isCoroutine := false, more := [] } [("_law_turns", 6)] := ⟨rfl, by decide +kernel, by decide +kernel, by decide +kernel, by decide +kernel⟩
theorem k_AskT (T : Bt K mg) (D : Dfn K mg "_law_asked_turns" sAskT ["_law_store_here", "_law_knots_here"]) (d__law_frac_wide : Kn P w K mg base 4 "_law_frac_wide" ["_law_store_here"] (spDFrac K 133)) (d__law_whole : Kn P w K mg base 3 "_law_whole" ["_law_store_here", "_law_reach"] (spLInt K)) (d__law_plus : Kn P w K mg base 3 "_law_plus" ["_law_left", "_law_right"] (spBin K sum2)) (d__law_place_wide : Kn P w K mg base 4 "_law_place_wide" ["_law_store_here"] (spDPlace K 133)) (d__law_fits : Kn P w K mg base 2 "_law_fits" ["_law_thing"] (spFits K 2)) : Kn P w K mg base 5 "_law_asked_turns" ["_law_store_here", "_law_knots_here"] (spAskT K) := by
  refine Kn.mk' D scAskT (fun vs H Q E h => ?_) (fun f cdv A outer s H vs Q E hr h => ?_)
  · obtain ⟨s, kl, xs, ks, rfl, _⟩ := h
    rfl
  obtain ⟨s, kl, xs, ks, rfl, hS, hk, kk, nk, kt, sml, l8, q⟩ := h
  refine ⟨_, (pss_cons (ps_set (i := 2) scAskT.nd rfl (.inl rfl) (pe_ls (pa_cons (pe_kn d__law_frac_wide hr (by rfl) (pa_cons (pv 0) pa_nil)) (pa_cons (pe_kn d__law_frac_wide hr (by rfl) (pa_cons (pv 0) pa_nil)) (pa_cons (pe_tp (pa_cons (pe_kn d__law_whole hr (by rfl) (pa_cons (pv 0) (pa_cons pe_int pa_nil))) (pa_cons pe_int pa_nil))) pa_nil)))))
      (pss_cons (ps_for PassesOwn.never rfl (pi_list (pv 1)) (pg_tp 2 (by rfl) (pgs_cons (pg_name (i := 3) scAskT.nd rfl (.inl rfl)) (pgs_cons (pg_name (i := 4) scAskT.nd rfl (.inl rfl)) pgs_nil))) (pss_one (ps_expr (pe_bm PySem.F.plainAttrs_list PySem.F.slot_list_append PySem.F.type_list_append mt_append (pv 2) (pa_cons (pe_kn d__law_plus hr (by rfl) (pa_cons (pv 3) (pa_cons (pe_tp (pa_cons (pe_kn d__law_whole hr (by rfl) (pa_cons (pv 0) (pa_cons (pe_op op_pow pe_int pe_int) pa_nil))) (pa_cons pe_int pa_nil))) pa_nil))) pa_nil)))))
      (pss_cons (ps_for PassesOwn.never rfl (pi_range1 (by rfl) T.b_range (pa_cons pe_int pa_nil)) (pg_name (i := 5) scAskT.nd rfl (.inl rfl)) (pss_one (ps_expr (pe_bm PySem.F.plainAttrs_list PySem.F.slot_list_append PySem.F.type_list_append mt_append (pv 2) (pa_cons (pe_kn d__law_plus hr (by rfl) (pa_cons (pe_kn d__law_place_wide hr (by rfl) (pa_cons (pv 0) pa_nil)) (pa_cons (pe_tp (pa_cons (pe_kn d__law_whole hr (by rfl) (pa_cons (pv 0) (pa_cons pe_int pa_nil))) (pa_cons pe_int pa_nil))) pa_nil))) pa_nil)))))
      (pss_one (ps_ret (pe_fr (pe_lc (own := [("_law_turns", 6)]) (g := gName 6) (tt := (tTest (tCall (spFits K 2) [] E0 (tCons (tVar 6) L2.tNil)))) (te := (tVar 6)) rfl scAskT.nd (pi_list (pv 2)) blk_scAskT_0 (fun _ _ _ _ _ => by exact pg_name (i := 6) scAskT.nd rfl (.inl rfl)) (fun _ _ _ _ _ => by exact (pts_one (pt_val (pe_kn d__law_fits hr (by rfl) (pa_cons (pv 6) pa_nil))))) (fun _ _ _ _ _ => by exact (pv 6))))))))), ?_⟩
  refine ⟨_, rfl, s, rfl, hS, fun a1 q1 H1 f1 kp1 st1 => ?_⟩
  refine ⟨_, rfl, s, rfl, st1, fun a2 q2 H2 f2 kp2 st2 => ?_⟩
  refine ⟨_, rfl, s, 3, rfl, st2, by omega, by omega, fun w H3 w0 w1 kp3 st3 => ⟨sz2 (by show 2 ≤ 100; decide), fun p hp kp => ⟨sz2 (by show 3 ≤ 100; decide), fun D hD kD => ?_⟩⟩⟩
  have sp := Same.new hp (.tup [.int w, .int 1])
  have op := ob_new (H := H3) (o := .tup [.int w, .int 1]) kp
  have kpB := (kp1.trans (kp2.trans kp3)).trans (Kp.same sp)
  have stB := st3.same sp
  have f1B := ((f1.kps kp2 st1).kps kp3 st2).same sp
  have f2B := (f2.kps kp3 st2).same sp
  generalize upd H3 p (.tup [.int w, .int 1]) = HB at sp op kpB stB f1B f2B hD ⊢
  have fwB : Fq K HB 3 p (w, 1) := ⟨op, nf_int w, by show w.natAbs < 2 ^ 3; omega, by show 1 < 2 ^ 3; omega⟩
  have kB := kpB _ _ nk hk
  have ktB := kt.kps kpB hS
  clear kp1 kp2 kp3 st1 st2 st3 f1 f2 sp op
  have sD := Same.new hD (.lst [.ref a1, .ref a2, .ref p])
  have nD : D ≠ s := stB.ne' hD
  have nkD : kl ≠ D := ne_of_none kB hD
  have fB : Frs K HB 160 [.ref a1, .ref a2, .ref p] := fun x hx => by
    simp only [List.mem_cons, List.not_mem_nil, or_false] at hx
    rcases hx with rfl | rfl | rfl
    · exact ⟨a1, q1, rfl, f1B.mono (by omega)⟩
    · exact ⟨a2, q2, rfl, f2B.mono (by omega)⟩
    · exact ⟨p, _, rfl, fwB.mono (by omega)⟩
  have lk := kt.1
  refine ⟨_, rfl, kl, rfl, ⟨xs, .of (sD _ _ kB)⟩, forI_list (xs := xs) (fun i σ H' => ∃ acc x3 x4, σ = [some (V.ref s), some (.ref kl), some (.ref D), x3, x4, none, none] ∧ H' D = some (.lst acc) ∧ acc.length = 3 + i ∧ Frs K H' 160 acc ∧ (∀ (j : Nat) k, j < i → ks[j]? = some k → Hit K H' acc k.1) ∧ Kp s HB H' ∧ Sto K H' s) ⟨[.ref a1, .ref a2, .ref p], none, none, rfl, upd_same, rfl, fB.same sD, fun j k h => absurd h (Nat.not_lt_zero _), Kp.same sD, stB.same sD⟩ ?_ ?_ ?_⟩
  · rintro i σ H' _ ⟨acc, x3, x4, rfl, hd, la, fr, hh, kpP, st⟩
    exact .of (kpP _ _ nk kB)
  · rintro i v σ H' hv ⟨acc, x3, x4, rfl, hd, la, fr, hh, kpP, st⟩
    obtain ⟨kk', ek, t, c, b, rfl, oT, fc, fb⟩ := (ktB.kps kpP stB).at hv
    have fc20 : Fq K H' 20 c kk'.1 := ⟨fc.o, fc.nf, sml kk' (List.mem_of_getElem? ek)⟩
    have li := (List.getElem?_eq_some_iff.mp ek).1
    refine ⟨t, rfl, _, oT, rfl, _, _, rfl, _, _, rfl, rfl, ?_⟩
    refine ⟨_, rfl, .inl ⟨rfl, _, .of hd⟩, _, rfl, _, rfl, _, _, rfl, rfl, ⟨by decide, by decide⟩, s, 10 ^ 6, rfl, st, by omega, by omega, fun w' H5 w0' w1' kp5 st5 => ⟨sz2 (by show 2 ≤ 100; decide), fun p2 hp2 kp2 => ?_⟩⟩
    have s6 := Same.new hp2 (.tup [.int w', .int 1])
    have o6 := ob_new (H := H5) (o := .tup [.int w', .int 1]) kp2
    have fc6 := (fc20.kps kp5 st).same s6
    have fr6 := (fr.kps kp5 st).same s6
    have hd6 := s6 _ _ (kp5 _ _ nD hd)
    have hh6 : ∀ (j : Nat) k, j < i → ks[j]? = some k → Hit K (upd H5 p2 (.tup [.int w', .int 1])) acc k.1 := fun j k a b => ((hh j k a b).kps kp5 st).same s6
    have st6 := st5.same s6
    have kp6 := kpP.trans (kp5.trans (Kp.same s6))
    generalize upd H5 p2 (.tup [.int w', .int 1]) = H6 at o6 fc6 fr6 hd6 hh6 st6 kp6 ⊢
    have fw6 : Fq K H6 20 p2 (w', 1) := ⟨o6, nf_int w', by show w'.natAbs < 2 ^ 20; omega, by show 1 < 2 ^ 20; omega⟩
    refine av_sum fc6 fw6 fun tt ta H7 et s7 ft => ?_
    have hd7 := s7 _ _ hd6
    obtain ⟨m1, m2⟩ := stB.mut (o := .lst (acc ++ [.ref ta])) hD (kp6.trans (Kp.same s7)) (st6.same s7)
    refine ⟨D, acc, .ref ta, rfl, rfl, hd7, by rw [sizeLine_eq]; omega, acc ++ [.ref ta], _, _, rfl, upd_same, by rw [List.length_append, la]; rfl, ((fr6.same s7).snoc (ft.mono (by omega))).put hd7, fun j k hj e => ?_, m2, m1⟩
    rcases Nat.eq_or_lt_of_le (show j ≤ i by omega) with e' | e'
    · subst e'
      rw [ek] at e
      cases e
      exact ⟨ta, tt, List.mem_append_right _ (List.mem_singleton_self _), (ft.mono (by omega)).put hd7, w', by rw [et, qv_int]⟩
    · exact (((hh6 j k e' e).same s7).mem fun x hx => List.mem_append_left _ hx).put hd7
  · rintro σ H' ⟨acc, x3, x4, rfl, hd, la, fr, hh, kpP, st⟩
    rw [lk] at la hh
    refine ⟨_, rfl, by omega, by omega, ?_⟩
    refine forI_range (lo := 0) (n := 2) (fun i σ H' => ∃ acc x3 x4 x5, σ = [some (V.ref s), some (.ref kl), some (.ref D), x3, x4, x5, none] ∧ H' D = some (.lst acc) ∧ acc.length = 3 + ks.length + i ∧ Frs K H' 160 acc ∧ (∀ (j : Nat) k, j < ks.length → ks[j]? = some k → Hit K H' acc k.1) ∧ Kp s HB H' ∧ Sto K H' s) ⟨acc, x3, x4, none, rfl, hd, la, fr, hh, kpP, st⟩ ?_ ?_
    · rintro i σ H' hi ⟨acc, x3, x4, x5, rfl, hd, la, fr, hh, kpP, st⟩
      refine ⟨_, rfl, .inl ⟨rfl, _, .of hd⟩, _, rfl, s, rfl, st, fun pa qa H5 fa kp5 st5 => ⟨_, rfl, s, 4, rfl, st5, by omega, by omega, fun w' H6 w0' w1' kp6 st6 => ⟨sz2 (by show 2 ≤ 100; decide), fun p2 hp2 kp2 => ?_⟩⟩⟩
      have s6 := Same.new hp2 (.tup [.int w', .int 1])
      have o6 := ob_new (H := H6) (o := .tup [.int w', .int 1]) kp2
      have kp56 := kp5.trans kp6
      have fa6 := (fa.f.kps kp6 st5).same s6
      have fr6 := (fr.kps kp56 st).same s6
      have hd6 := s6 _ _ (kp56 _ _ nD hd)
      have hh6 : ∀ (j : Nat) k, j < ks.length → ks[j]? = some k → Hit K (upd H6 p2 (.tup [.int w', .int 1])) acc k.1 := fun j k a b => ((hh j k a b).kps kp56 st).same s6
      have st7 := st6.same s6
      have kp7 := kpP.trans (kp56.trans (Kp.same s6))
      generalize upd H6 p2 (.tup [.int w', .int 1]) = H7 at o6 fa6 fr6 hd6 hh6 st7 kp7 ⊢
      have fw6 : Fq K H7 4 p2 (w', 1) := ⟨o6, nf_int w', by show w'.natAbs < 2 ^ 4; omega, by show 1 < 2 ^ 4; omega⟩
      refine av_sum fa6 fw6 fun tt ta H8 et s7 ft => ?_
      have hd7 := s7 _ _ hd6
      obtain ⟨m1, m2⟩ := stB.mut (o := .lst (acc ++ [.ref ta])) hD (kp7.trans (Kp.same s7)) (st7.same s7)
      exact ⟨D, acc, .ref ta, rfl, rfl, hd7, by rw [sizeLine_eq]; omega, acc ++ [.ref ta], _, _, _, rfl, upd_same, by rw [List.length_append, la]; rfl, ((fr6.same s7).snoc (ft.mono (by omega))).put hd7, fun j k hj e => (((hh6 j k hj e).same s7).mem fun x hx => List.mem_append_left _ hx).put hd7, m2, m1⟩
    · rintro σ HC ⟨acc, x3, x4, x5, rfl, hd, la, fr, hh, kpP, st⟩
      refine ⟨_, rfl, D, rfl, ⟨acc, .of hd⟩, fun D2 hD2 => lc_list (xs := acc) (fun i H' => ∃ res, H' D2 = some (.lst res) ∧ res.length ≤ i ∧ Same HC H' ∧ (∀ x ∈ res, x ∈ acc) ∧ ∀ (j : Nat) a q, j < i → acc[j]? = some (.ref a) → Fq K HC 60 a q → V.ref a ∈ res) ⟨[], upd_same, Nat.le_refl _, Same.new hD2 _, fun x hx => (by cases hx), fun j a q h => absurd h (Nat.not_lt_zero _)⟩ (fun i H' _ ⟨_, _, _, h, _⟩ => .of (h _ _ hd)) ?_ ?_⟩
      · rintro m x H' hx ⟨res, hr, lr, sR, sub, big⟩
        obtain ⟨a, q', rfl, f⟩ := fr x (List.mem_of_getElem? hx)
        have lm := (List.getElem?_eq_some_iff.mp hx).1
        refine ⟨rfl, ?_⟩
        refine ⟨_, rfl, .ref a, rfl, .inr ⟨a, q', by decide, rfl, ob_same sR f.o, fun H2 s2 => ⟨_, rfl, ?_⟩⟩⟩
        have hr2 := s2 _ _ hr
        refine ite2 (fun h => ?_) (fun h => ?_)
        · refine ⟨_, rfl, res, hr2, by rw [sizeLine_eq]; omega, res ++ [.ref a], upd_same, by rw [List.length_append, List.length_singleton]; omega, fun b o e => ?_, fun x hx' => ?_, fun j a' q2 hj e f2 => ?_⟩
          · rw [upd_ne (ne_of_none e hD2)]
            exact s2 _ _ (sR _ _ e)
          · rcases List.mem_append.mp hx' with z | z
            · exact sub x z
            · rw [List.mem_singleton] at z
              rw [z]
              exact List.mem_of_getElem? hx
          · rcases Nat.eq_or_lt_of_le (show j ≤ m by omega) with e' | e'
            · rw [e', hx] at e
              cases e
              exact List.mem_append_right _ (List.mem_singleton_self _)
            · exact List.mem_append_left _ (big j a' q2 e' e f2)
        · refine ⟨res, hr2, by omega, sR.trans s2, sub, fun j a' q2 hj e f2 => ?_⟩
          rcases Nat.eq_or_lt_of_le (show j ≤ m by omega) with e' | e'
          · exfalso
            rw [e', hx] at e
            cases e
            have eo := f2.o
            rw [f.o] at eo
            have eq : q' = q2 := by
              have z := Option.some.inj eo
              injection z with z
              injection z with z1 z2
              injection z2 with z2 _
              injection z1 with z1
              injection z2 with z2
              exact Prod.ext z1 z2
            apply h
            have b1 := f2.sz.1
            have b2 := f2.sz.2
            rw [eq, decide_eq_true (show q2.1.natAbs < 10 ^ 40 by omega), decide_eq_true (show q2.2.natAbs < 10 ^ 40 by omega)]
            rfl
          · exact big j a' q2 e' e f2
      · rintro HD ⟨res, hr, lr, sR, sub, big⟩ frR
        have kR : K.lookup D2 = none := frR D2 (by rw [hr]; simp)
        have hD2' : H D2 = none := kpB.free stB (kpP.free st hD2)
        refine q D2 res HD hD2' kR hr (by omega) (fun x hx => ?_) (fun k hk' => ?_) (kpB.trans (kpP.trans (Kp.same sR))) (st.same sR)
        · obtain ⟨a, z, e, f⟩ := fr x (sub x hx)
          exact ⟨a, z, e, f.same sR⟩
        · obtain ⟨j, hj, ej⟩ := List.getElem_of_mem hk'
          obtain ⟨a, z, ma, fa, w3⟩ := hh j k hj (by rw [List.getElem?_eq_getElem hj, ej])
          obtain ⟨i', hi', ei'⟩ := List.getElem_of_mem ma
          exact ⟨a, z, big i' a z hi' (by rw [List.getElem?_eq_getElem hi', ei']) fa, fa.same sR, w3⟩

end
end My

namespace My
open PySem PySem.Spec PyProof.Rows L2
section
variable {P : Program} {w : World} {K : PySem.W.Frag} {mg : Str → Option Value} {base : Heap}
/-! ### what a slot adds -/
theorem ext_lift {ks : List Kt} (g : Good ks) {i : Nat} {k : Kt} (h : (ext ks)[i]? = some k) : rabs (qv k.2) ≤ sw ks ks.length := by
  have l := (List.getElem?_eq_some_iff.mp h).1
  rw [ext_len] at l
  by_cases c : i < ks.length
  · exact sw_ge ((ext_at c).mp h)
  · obtain ⟨k0, e0, el, _, _⟩ := ext_last g
    rw [show i = ks.length by omega, el] at h
    cases h
    show rabs (qv k0.2) ≤ _
    exact sw_ge e0
theorem car_le {ks : List Kt} (g : Good ks) {t z : Qt} (ht : Nf t) (c : Car ks t z) : rabs (qv z - qv t) ≤ sw ks ks.length := by
  obtain ⟨_, i, k, k', e1, e2, u0, u1, _⟩ := id c
  exact between u0 (Rat.le_of_lt u1) (g.asc i k k' e1 e2) (line_ok g ht c e1 e2 u0 (Rat.le_of_lt u1)) (ext_lift g e1) (ext_lift g e2)
theorem car_add {ks : List Kt} (g : Good ks) {t t' z z' : Qt} {m : Int} (ht : Nf t) (ht' : Nf t') (c : Car ks t z) (c' : Car ks t' z') (e : qv t' = qv t + (m : Rat)) : qv z' = qv z + (m : Rat) := by
  obtain ⟨_, i, k, k', e1, e2, u0, u1, _⟩ := id c
  obtain ⟨ep, _, _⟩ := qv_part ht
  have a := car_lin g ht c e1 e2 (w := t.1 / t.2) (u := qv (t.1 % t.2, t.2)) (by rw [ep]; grind) u0 (Rat.le_of_lt u1)
  have b := car_lin g ht' c' e1 e2 (w := t.1 / t.2 + m) (u := qv (t.1 % t.2, t.2)) (by rw [e]; push_cast; rw [ep]; grind) u0 (Rat.le_of_lt u1)
  rw [a, b]
  push_cast
  grind
theorem car_at {ks : List Kt} (g : Good ks) {t z : Qt} {i : Nat} {k : Kt} {w : Int} (ht : Nf t) (c : Car ks t z) (e : ks[i]? = some k) (et : qv t = qv k.1 + (w : Rat)) : qv z - qv t = qv k.2 := by
  obtain ⟨e1, k', e2, _, _⟩ := g.at e
  have asc := g.asc i k k' e1 e2
  have a := car_lin g ht c e1 e2 (w := w) (u := qv k.1) (by rw [et]; grind) Rat.le_refl (Rat.le_of_lt asc)
  rw [a, et]
  grind
/-- one of the turns at which the sway is reached -/
def Rch (K : PySem.W.Frag) (H : Hp) (ks : List Kt) (acc : List V) : Prop := ∃ (i : Nat) (a : Addr) (q : Qt), acc[i]? = some (.ref a) ∧ Fq K H 160 a q ∧ ∀ z, Car ks q z → rabs (qv z - qv q) = sw ks ks.length
theorem rch_of {H : Hp} {ks : List Kt} {acc : List V} (g : Good ks) (h : ∀ k ∈ ks, Hit K H acc k.1) : Rch K H ks acc := by
  obtain ⟨j, k, hj, ek, es⟩ := sw_at (ks := ks) ks.length (Nat.le_refl _) g.one
  obtain ⟨a, q, hm, f, w, eq⟩ := h k (List.mem_of_getElem? ek)
  obtain ⟨i, hi, ei⟩ := List.getElem_of_mem hm
  exact ⟨i, a, q, by rw [List.getElem?_eq_getElem hi, ei], f.mono (by omega), fun z c => by rw [car_at g f.nf c ek eq, es]⟩
theorem good_even : Good [((0, 1), (0, 1))] := by
  refine ⟨by decide, fun k hk => ?_, fun k e => ?_, fun i k k' e1 e2 => ?_⟩
  · rw [List.mem_singleton] at hk
    subst hk
    exact ⟨nf01, nf01⟩
  · cases e
    rfl
  · have l := (List.getElem?_eq_some_iff.mp e2).1
    rw [ext_len] at l
    have l : i + 1 < 2 := l
    have ei : i = 0 := by omega
    subst ei
    cases e1
    cases e2
    show qv (0, 1) < qv (1, 1)
    rw [qv01, qv11]
    grind
theorem car_even {t z : Qt} (ht : Nf t) (c : Car [((0, 1), (0, 1))] t z) : qv z - qv t = 0 := by
  have g := good_even
  have e1 : (ext [((0, 1), (0, 1))])[0]? = some (((0, 1), (0, 1)) : Kt) := rfl
  have e2 : (ext [((0, 1), (0, 1))])[0 + 1]? = some (((1, 1), (0, 1)) : Kt) := rfl
  obtain ⟨ep, p0, p1⟩ := qv_part ht
  have a := line_ok g ht c e1 e2 (by show qv (0, 1) ≤ _; rw [qv01]; exact p0) (by show _ ≤ qv (1, 1); rw [qv11]; grind)
  have b : (qv z - qv t - qv (0, 1)) * (qv (1, 1) - qv (0, 1)) = (qv (0, 1) - qv (0, 1)) * (qv (t.1 % t.2, t.2) - qv (0, 1)) := a
  rw [qv01, qv11] at b
  grind
end
end My

namespace My
open PySem PySem.Spec PyProof.Rows L2
section
variable {P : Program} {w : World} {K : PySem.W.Frag} {mg : Str → Option Value} {base : Heap}
theorem eqv_tup {H : Hp} {a b : Addr} {xs : List V} (oa : ob K H a = some (.tup xs)) (ob' : ob K H b = some (.tup xs)) (hs : xs.all scv = true) (hl : xs.length ≤ 1000) : Eqv K H 1 (.ref a) (.ref b) := by
  refine .inr ⟨a, b, xs, xs, rfl, rfl, .inl ⟨oa, ob'⟩, rfl, hl, fun i x y hx hy => ?_⟩
  rw [hx] at hy
  cases hy
  exact ⟨rfl, List.all_eq_true.mp hs x (List.mem_of_getElem? hx)⟩
theorem eqv_fr1 {H : Hp} {a b : Addr} {p : Qt} (oa : ob K H a = some (.tup [.int p.1, .int p.2])) (ob' : ob K H b = some (.tup [.int p.1, .int p.2])) : Eqv K H 1 (.ref a) (.ref b) := eqv_tup (xs := [.int p.1, .int p.2]) oa ob' rfl (by show 2 ≤ 1000; decide)
def spSh (K : PySem.W.Frag) (C : Addr) : Sp := fun vs H Q _ => ∃ (s c kl al : Addr) (xs acc : List V) (ks : List Kt), vs = [.ref s, .ref c, .ref kl, .ref al] ∧ Sto K H s ∧ SlAt K C 134 H c ks ∧ Good ks ∧ ks.length ≤ 8 ∧ H kl = some (.lst xs) ∧ K.lookup kl = none ∧ kl ≠ s ∧ Kts K H 134 xs ks ∧
  H al = some (.lst acc) ∧ K.lookup al = none ∧ al ≠ s ∧ acc.length ≤ 1000 ∧ Frs K H 160 acc ∧ Rch K H ks acc ∧ ∀ H', Kp s H H' → Sto K H' s → Q (.bl true) H'
abbrev sSh : Stmt := topS 76
theorem scSh : FnScope ["_law_store_here", "_law_slot", "_law_knots_here", "_law_asked", "_law_sway", "_law_reached", "_law_turns", "_law_told", "_law_added", "_law_more", "_law_moved"] ["_law_store_here", "_law_slot", "_law_knots_here", "_law_asked"] (defScope sSh) := ⟨rfl, rfl, rfl, by decide +kernel, rfl, by decide +kernel, by decide +kernel⟩
theorem k_Sh {C : Addr} (m_sway : C8.Met P w K mg base 5 C "sway" (spSway K C) []) (m_carried : C8.Met P w K mg base 5 C "carried" (spCarried K C) []) (T : Bt K mg) (D : Dfn K mg "_law_slot_holds" sSh ["_law_store_here", "_law_slot", "_law_knots_here", "_law_asked"]) (d__law_same : Kn P w K mg base 4 "_law_same" ["_law_told", "_law_due"] (spSame K 3)) (d__law_most : Kn P w K mg base 2 "_law_most" ["_law_knots_here"] (spMost K)) (d__law_on_line : Kn P w K mg base 4 "_law_on_line" ["_law_knots_here", "_law_turns", "_law_told"] (spLine K)) (d__law_minus : Kn P w K mg base 3 "_law_minus" ["_law_left", "_law_right"] (spBin K dif2)) (d__law_sign : Kn P w K mg base 1 "_law_sign" ["_law_left", "_law_right"] (spSgn K)) (d__law_whole : Kn P w K mg base 3 "_law_whole" ["_law_store_here", "_law_reach"] (spLInt K)) (d__law_plus : Kn P w K mg base 3 "_law_plus" ["_law_left", "_law_right"] (spBin K sum2)) (d__law_fits : Kn P w K mg base 2 "_law_fits" ["_law_thing"] (spFits K 2)) : Kn P w K mg base 6 "_law_slot_holds" ["_law_store_here", "_law_slot", "_law_knots_here", "_law_asked"] (spSh K C) := by
  refine Kn.mk' D scSh (fun vs H Q E h => ?_) (fun f cdv A outer s H vs Q E hr h => ?_)
  · obtain ⟨s, c, kl, al, xs, acc, ks, rfl, _⟩ := h
    rfl
  obtain ⟨s, c, kl, al, xs, acc, ks, rfl, hS, hc, g, l8, hk, kk, nk, kt, ha, ka, na, la, fr, rch, q⟩ := h
  refine ⟨_, (pss_cons (ps_set (i := 4) scSh.nd rfl (.inl rfl) (C8.pe_mt0 m_sway hr (by omega) (pv 1)))
      (pss_cons (ps_set (i := 5) scSh.nd rfl (.inl rfl) pe_bl)
      (pss_cons (ps_if (pt_not (pt_val (pe_kn d__law_same hr (by rfl) (pa_cons (pv 4) (pa_cons (pe_kn d__law_most hr (by rfl) (pa_cons (pv 2) pa_nil)) pa_nil))))) (pss_one (ps_ret pe_bl)) pss_nil)
      (pss_cons (ps_for PassesOwn.never rfl (pi_list (pv 3)) (pg_name (i := 6) scSh.nd rfl (.inl rfl)) (pss_cons (ps_set (i := 7) scSh.nd rfl (.inl rfl) (C8.pe_mt m_carried hr (by omega) (pv 1) (pa_cons (pv 6) pa_nil)))
      (pss_cons (ps_if (pt_not (pt_val (pe_kn d__law_on_line hr (by rfl) (pa_cons (pv 2) (pa_cons (pv 6) (pa_cons (pv 7) pa_nil)))))) (pss_one (ps_ret pe_bl)) pss_nil)
      (pss_cons (ps_set (i := 8) scSh.nd rfl (.inl rfl) (pe_kn d__law_minus hr (by rfl) (pa_cons (pv 7) (pa_cons (pv 6) pa_nil))))
      (pss_cons (ps_if (pt_cmpR op_gt (pe_kn d__law_sign hr (by rfl) (pa_cons (pe_tp (pa_cons (pe_callB call_abs (by rfl) T.b_abs (by decide +kernel) (pa_cons (pe_ix ix_any (pv 8) pe_int (fun _ _ => rfl)) pa_nil)) (pa_cons (pe_ix ix_any (pv 8) pe_int (fun _ _ => rfl)) pa_nil))) (pa_cons (pv 4) pa_nil))) pe_int (nomark _)) (pss_one (ps_ret pe_bl)) pss_nil)
      (pss_cons (ps_set (i := 5) scSh.nd rfl (.inl rfl) (pe_or (pv 5) (pe_one (pe_cmpR (op_eqF hr) (pe_tp (pa_cons (pe_callB call_abs (by rfl) T.b_abs (by decide +kernel) (pa_cons (pe_ix ix_any (pv 8) pe_int (fun _ _ => rfl)) pa_nil)) (pa_cons (pe_ix ix_any (pv 8) pe_int (fun _ _ => rfl)) pa_nil))) (pv 4) (nomark _)))))
      (pss_cons (ps_set (i := 9) scSh.nd rfl (.inl rfl) (pe_tp (pa_cons (pe_kn d__law_whole hr (by rfl) (pa_cons (pv 0) (pa_cons pe_int pa_nil))) (pa_cons pe_int pa_nil))))
      (pss_cons (ps_set (i := 10) scSh.nd rfl (.inl rfl) (pe_kn d__law_plus hr (by rfl) (pa_cons (pv 6) (pa_cons (pv 9) pa_nil))))
      (pss_one (ps_if (PW.pt (pw_and (pt_val (pe_kn d__law_fits hr (by rfl) (pa_cons (pv 10) pa_nil))) (pw_and1 (pt_not (pt_val (pe_kn d__law_same hr (by rfl) (pa_cons (C8.pe_mt m_carried hr (by omega) (pv 1) (pa_cons (pv 10) pa_nil)) (pa_cons (pe_kn d__law_plus hr (by rfl) (pa_cons (pv 7) (pa_cons (pv 9) pa_nil))) pa_nil)))))))) (pss_one (ps_ret pe_bl)) pss_nil))))))))))
      (pss_one (ps_ret (pv 5))))))), ?_⟩
  have hkl := kt.1
  obtain ⟨dx0, t0, u0, hi0, _, _⟩ := id hc
  refine ⟨_, rfl, c, dx0, _, rfl, hi0, rfl, c, ks, 134, rfl, hc, by omega, by omega, fun sw1 zs H1 s1 f1 ez => ?_⟩
  refine ⟨_, rfl, _, rfl, kl, xs, ks, 134, rfl, (ob_none kk).trans (s1 _ _ hk), kt.same s1, by omega, by omega, fun m1 zm H2 s2 f2 em => ?_⟩
  obtain rfl : zs = zm := qv_inj f1.nf f2.nf (by rw [ez, em])
  have f12 := f1.same s2
  refine ⟨_, _, rfl, (eqv_fr1 f12.o f2.o).up, fun H3 s3 => ⟨_, rfl, if_no rfl ?_⟩⟩
  have s13 := s1.trans (s2.trans s3)
  have f3 := f12.same s3
  have st3 := hS.same s13
  have hc3 := hc.same s13
  have hk3 := s13 _ _ hk
  have kt3 := kt.same s13
  have ha3 := s13 _ _ ha
  have fr3 := fr.same s13
  clear s1 f1 s2 f2 f12 s3 hc hi0 em
  refine ⟨_, rfl, al, rfl, ⟨acc, .of ha3⟩, forI_list (xs := acc) (fun i σ H' => ∃ (r : Bool) (x6 x7 x8 x9 x10 : Option V), σ = [some (V.ref s), some (.ref c), some (.ref kl), some (.ref al), some (.ref sw1), some (.bl r), x6, x7, x8, x9, x10] ∧ Kp s H3 H' ∧ Sto K H' s ∧ ∀ (j : Nat) a q, j < i → acc[j]? = some (.ref a) → Fq K H3 160 a q → (∀ z, Car ks q z → rabs (qv z - qv q) = sw ks ks.length) → r = true) ⟨false, none, none, none, none, none, rfl, Kp.refl _ _, st3, fun j a q h => absurd h (Nat.not_lt_zero _)⟩ ?_ ?_ ?_⟩
  · rintro i σ H' _ ⟨r, x6, x7, x8, x9, x10, rfl, kp, st, hr'⟩
    exact .of (kp _ _ na ha3)
  · rintro i v σ H' hv ⟨r, x6, x7, x8, x9, x10, rfl, kp, st, hr'⟩
    obtain ⟨ta, t, rfl, ft3⟩ := fr3 v (List.mem_of_getElem? hv)
    have ft := ft3.kps kp st3
    have hcX := hc3.kps kp st3
    have hkX := kp _ _ nk hk3
    have ktX := kt3.kps kp st3
    have fsX := f3.kps kp st3
    obtain ⟨dx1, t1, u1, hi1, _, _⟩ := id hcX
    refine ⟨_, rfl, c, dx1, _, rfl, hi1, rfl, _, rfl, c, ta, ks, 134, 160, t, rfl, hcX, g, l8, by omega, by omega, ft, by omega, fun z za G1 r1 fz car => ?_⟩
    refine ⟨_, rfl, _, rfl, _, rfl, kl, ta, za, xs, ks, 134, 160, _, t, z, rfl, r1 _ _ hkX, kk, ktX.same r1, g, l8, by omega, by omega, ft.same r1, by omega, fz, by omega, car, fun G2 r2 => ⟨_, rfl, if_no rfl ?_⟩⟩
    have r12 := r1.trans r2
    refine ⟨_, rfl, _, rfl, av_dif (fz.same r2) (ft.same r12) fun d da G3 ed r3 fd => ?_⟩
    have r13 := r12.trans r3
    have nd := nf_abs fd.nf
    have ead := qv_abs fd.nf
    refine ⟨_, rfl, da, 0, rfl, rfl, _, itsO_of fd.o, _, atI_0 _ _, _, rfl, _, rfl, da, 1, rfl, rfl, _, itsO_of fd.o, _, atI_1 _ _ _, sz2 (by show 2 ≤ 100; decide), fun p hp kpp => ?_⟩
    have r4 := Same.new hp (.tup [.int (if d.1 < 0 then -d.1 else d.1), .int d.2])
    have o4 := ob_new (H := G3) (o := .tup [.int (if d.1 < 0 then -d.1 else d.1), .int d.2]) kpp
    generalize upd G3 p (.tup [.int (if d.1 < 0 then -d.1 else d.1), .int d.2]) = G4 at r4 o4 ⊢
    rw [abs_if] at o4
    have f4 : Fq K G4 3900 p ((d.1.natAbs : Int), d.2) := ⟨o4, nd, by show ((d.1.natAbs : Int)).natAbs < 2 ^ 3900; rw [Int.natAbs_natCast]; exact (fd.sz.mono (by omega)).1, (fd.sz.mono (by omega)).2⟩
    have r14 := r13.trans r4
    refine ⟨_, rfl, p, sw1, _, _, rfl, f4.mono (by omega), (fsX.same r14).mono (by omega), fun sg w1 w2 => ⟨_, _, rfl, rfl, _, rfl, if_no (decide_eq_false fun z3 => ?_) ?_⟩⟩
    · have := w2.mp z3
      rw [ead, ed, ez] at this
      have := car_le g ft.nf car
      grind
    refine ⟨_, rfl, r, rfl, ?_⟩
    cases r with
    | true =>
      refine if_yes rfl ?_
      have stG := st.same r14
      refine ⟨_, rfl, s, 3, rfl, stG, by omega, by omega, fun w J1 w0 w1' kpj stj => ⟨sz2 (by show 2 ≤ 100; decide), fun pm hpm kpm => ?_⟩⟩
      have j2 := Same.new hpm (.tup [.int w, .int 1])
      have om := ob_new (H := J1) (o := .tup [.int w, .int 1]) kpm
      have ftJ := ((ft.same r14).kps kpj stG).same j2
      have fzJ := (((fz.same (r2.trans (r3.trans r4)))).kps kpj stG).same j2
      have hcJ := ((hcX.same r14).kps kpj stG).same j2
      have stJ := stj.same j2
      have kpJ := kp.trans ((Kp.same r14).trans (kpj.trans (Kp.same j2)))
      generalize upd J1 pm (.tup [.int w, .int 1]) = J2 at om ftJ fzJ hcJ stJ kpJ ⊢
      have fm : Fq K J2 3 pm (w, 1) := ⟨om, nf_int w, by show w.natAbs < 2 ^ 3; omega, by show 1 < 2 ^ 3; omega⟩
      refine ⟨_, rfl, _, rfl, av_sum ftJ fm fun mq ma J3 emq j3 fmq => ?_⟩
      refine ⟨_, rfl, .ref ma, rfl, .inr ⟨ma, mq, by decide, rfl, fmq.o, fun J4 j4 => ⟨_, rfl, ite2 (fun hb => ?_) (fun hb => ?_)⟩⟩⟩
      · have hc4 := hcJ.same (j3.trans j4)
        obtain ⟨dx9, t9, u9, hi9, _, _⟩ := id hc4
        refine ⟨_, rfl, c, dx9, _, rfl, hi9, rfl, _, rfl, c, ma, ks, 134, 170, mq, rfl, hc4, g, l8, by omega, by omega, (fmq.same j4).mono (by omega), by omega, fun z' zb J5 j5 fz' car' => ?_⟩
        have j35 := j3.trans (j4.trans j5)
        refine ⟨_, rfl, _, rfl, av_sum (fzJ.same j35) (fm.same j35) fun y yb J6 ey j6 fy => ?_⟩
        have eqz : z' = y := qv_inj fz'.nf fy.nf (by rw [ey, qv_int]; exact car_add g ft.nf fmq.nf car car' (by rw [emq, qv_int]))
        refine ⟨_, _, rfl, (eqv_fr1 (ob_same j6 fz'.o) (by rw [eqz]; exact fy.o)).up, fun J7 j7 => ⟨_, rfl, if_no rfl ?_⟩⟩
        exact ⟨_, _, _, _, _, _, rfl, kpJ.trans (Kp.same (j35.trans (j6.trans j7))), stJ.same (j35.trans (j6.trans j7)), fun j a q _ _ _ _ => rfl⟩
      · exact ⟨_, _, _, _, _, _, rfl, kpJ.trans (Kp.same (j3.trans j4)), stJ.same (j3.trans j4), fun j a q _ _ _ _ => rfl⟩
    | false =>
      refine if_no rfl ?_
      refine ⟨_, rfl, da, 0, rfl, rfl, _, itsO_of (ob_same r4 fd.o), _, atI_0 _ _, _, rfl, _, rfl, da, 1, rfl, rfl, _, itsO_of (ob_same r4 fd.o), _, atI_1 _ _ _, sz2 (by show 2 ≤ 100; decide), fun p5 hp5 kp5 => ?_⟩
      have r5 := Same.new hp5 (.tup [.int (if d.1 < 0 then -d.1 else d.1), .int d.2])
      have o5 := ob_new (H := G4) (o := .tup [.int (if d.1 < 0 then -d.1 else d.1), .int d.2]) kp5
      generalize upd G4 p5 (.tup [.int (if d.1 < 0 then -d.1 else d.1), .int d.2]) = G5 at r5 o5 ⊢
      rw [abs_if] at o5
      have r15 := r14.trans r5
      refine ⟨_, rfl, p5, sw1, ((d.1.natAbs : Int), d.2), zs, rfl, rfl, o5, (fsX.same r15).o, ?_⟩
      have hnew : ∀ (j : Nat) a q, j < i + 1 → acc[j]? = some (V.ref a) → Fq K H3 160 a q → (∀ z, Car ks q z → rabs (qv z - qv q) = sw ks ks.length) → decide (((d.1.natAbs : Int), d.2) = zs) = true := fun j a q hj e f hz => by
        rcases Nat.eq_or_lt_of_le (show j ≤ i by omega) with e' | e'
        · rw [e', hv] at e
          cases e
          have eo := f.o
          rw [ft3.o] at eo
          have eq : t = q := by
            have z := Option.some.inj eo
            injection z with z
            injection z with z1 z2
            injection z2 with z2 _
            injection z1 with z1
            injection z2 with z2
            exact Prod.ext z1 z2
          rw [← eq] at hz
          exact decide_eq_true (qv_inj nd f3.nf (by rw [ead, ed, ez]; exact hz z car))
        · exact absurd (hr' j a q e' e f hz) Bool.noConfusion
      have stG := st.same r15
      refine ⟨_, rfl, s, 3, rfl, stG, by omega, by omega, fun w J1 w0 w1' kpj stj => ⟨sz2 (by show 2 ≤ 100; decide), fun pm hpm kpm => ?_⟩⟩
      have j2 := Same.new hpm (.tup [.int w, .int 1])
      have om := ob_new (H := J1) (o := .tup [.int w, .int 1]) kpm
      have ftJ := ((ft.same r15).kps kpj stG).same j2
      have fzJ := (((fz.same (r2.trans (r3.trans r4))).same r5).kps kpj stG).same j2
      have hcJ := ((hcX.same r15).kps kpj stG).same j2
      have stJ := stj.same j2
      have kpJ := kp.trans ((Kp.same r15).trans (kpj.trans (Kp.same j2)))
      generalize upd J1 pm (.tup [.int w, .int 1]) = J2 at om ftJ fzJ hcJ stJ kpJ ⊢
      have fm : Fq K J2 3 pm (w, 1) := ⟨om, nf_int w, by show w.natAbs < 2 ^ 3; omega, by show 1 < 2 ^ 3; omega⟩
      refine ⟨_, rfl, _, rfl, av_sum ftJ fm fun mq ma J3 emq j3 fmq => ?_⟩
      refine ⟨_, rfl, .ref ma, rfl, .inr ⟨ma, mq, by decide, rfl, fmq.o, fun J4 j4 => ⟨_, rfl, ite2 (fun hb => ?_) (fun hb => ?_)⟩⟩⟩
      · have hc4 := hcJ.same (j3.trans j4)
        obtain ⟨dx9, t9, u9, hi9, _, _⟩ := id hc4
        refine ⟨_, rfl, c, dx9, _, rfl, hi9, rfl, _, rfl, c, ma, ks, 134, 170, mq, rfl, hc4, g, l8, by omega, by omega, (fmq.same j4).mono (by omega), by omega, fun z' zb J5 j5 fz' car' => ?_⟩
        have j35 := j3.trans (j4.trans j5)
        refine ⟨_, rfl, _, rfl, av_sum (fzJ.same j35) (fm.same j35) fun y yb J6 ey j6 fy => ?_⟩
        have eqz : z' = y := qv_inj fz'.nf fy.nf (by rw [ey, qv_int]; exact car_add g ft.nf fmq.nf car car' (by rw [emq, qv_int]))
        refine ⟨_, _, rfl, (eqv_fr1 (ob_same j6 fz'.o) (by rw [eqz]; exact fy.o)).up, fun J7 j7 => ⟨_, rfl, if_no rfl ?_⟩⟩
        exact ⟨_, _, _, _, _, _, rfl, kpJ.trans (Kp.same (j35.trans (j6.trans j7))), stJ.same (j35.trans (j6.trans j7)), hnew⟩
      · exact ⟨_, _, _, _, _, _, rfl, kpJ.trans (Kp.same (j3.trans j4)), stJ.same (j3.trans j4), hnew⟩
  · rintro σ H' ⟨r, x6, x7, x8, x9, x10, rfl, kp, st, hr'⟩
    obtain ⟨i, a, zq, e, f, hz⟩ := rch
    have er : r = true := hr' i a zq (List.getElem?_eq_some_iff.mp e).1 e (f.same s13) hz
    rw [er]
    exact ⟨_, rfl, q H' ((Kp.same s13).trans kp) st⟩

end
end My

namespace My
open PySem PySem.Spec PyProof.Rows L2
/-! ### own == and != with a right side of any known kind -/
theorem looks_X {X : Cx} {pins : List (Addr × Obj)} {σ : L2.St} {H : Hp} {s : Shared} {x : V} {u t : Value} (I : Inv X pins σ H s) (rx : RelV x u) (ty : TyX X.K H x t) : PySem.W.Looks (model X.prog X.w) s.heap (typeOf u) t := by
  obtain ⟨P, Z, p, _⟩ := kit_of I rx ty
  exact Z.ty _ _ I.kIn p
def rOwnA (K : PySem.W.Frag) (C : Addr) (sp : Sp) (E : XK) : R2 := fun x y H Q => ∃ a dx fs t, x = .ref a ∧ H a = some (.ins C dx fs) ∧ TyX K H y t ∧ PySem.W.notFirst K C t = true ∧ sp [x, y] H Q E
theorem op_ownA {X : Cx} {CX : CXT} {n : Nat} {C g : Addr} {fd : FuncData} {ps : List Str} {sp : Sp} {E : XK} {op : CmpOp} (hop : ∀ a b, compareOp op a b = richCompare op a b) (hs : PySem.W.findIn X.K (.ref C) (cmpInfo op).2.1 = some (some (.ref g))) (hf : PySem.W.isFn X.K (.ref g) = true) (F : FnOk X.prog X.w X.K X.mg X.base CX n g fd ps sp) (hb : Binds X.K fd ps [])
    (hr : Room n X.A) (hx : Passes CX X E) : OpR X (compareOp op) (rOwnA X.K C sp E) := by
  intro pins s σ H x y v u Q I rx ry h
  obtain ⟨a, dx, fs, t, rfl, ha, ty, hn, q⟩ := h
  cases (show v = Value.ref a from rx)
  obtain ⟨mA, J, _⟩ := ins_get I.hok ha
  obtain ⟨od, J, _⟩ := J.look
  obtain ⟨m, hF⟩ := I.fr
  rw [hop]
  refine PySem.W.cmp_K (op := op) (tb := t) hr.units0 hF I.ok.mod.kin J (looks_X I ry ty) hn hs hf ?_
  refine wpAny_mono (run_fn (us := [.ref a, u]) (vs := [.ref a, y]) F hr hb .nil hx I (.cons rfl (.cons ry .nil)) q) (fun w s' z => ?_) fun _ _ x => x
  obtain ⟨z', H', I', rz, qz⟩ := z
  exact SlX.cmpback rz ⟨z', H', I', rz, qz⟩
def rNeOwnA (K : PySem.W.Frag) (C : Addr) (sp : Sp) (E : XK) : R2 := fun x y H Q => ∃ a dx fs t, x = .ref a ∧ H a = some (.ins C dx fs) ∧ TyX K H y t ∧ PySem.W.notFirst K C t = true ∧ sp [x, y] H (fun v H' => ∃ c, v = .bl c ∧ Q (.bl !c) H') E
theorem op_neOwnA {X : Cx} {CX : CXT} {n : Nat} {C g : Addr} {fd : FuncData} {ps : List Str} {sp : Sp} {E : XK} (hp : PySem.W.plainOver X.K C = true) (hne : PySem.W.findIn X.K (.ref C) "__ne__" = some (some (.builtin "object.__ne__"))) (hs : PySem.W.findIn X.K (.ref C) "__eq__" = some (some (.ref g))) (hf : PySem.W.isFn X.K (.ref g) = true) (F : FnOk X.prog X.w X.K X.mg X.base CX n g fd ps sp) (hb : Binds X.K fd ps [])
    (hr : Room (n + 1) X.A) (hx : Passes CX X E) : OpR X (compareOp .NotEq) (rNeOwnA X.K C sp E) := by
  intro pins s σ H x y v u Q I rx ry h
  obtain ⟨a, dx, fs, t, rfl, ha, ty, hn, q⟩ := h
  cases (show v = Value.ref a from rx)
  obtain ⟨mA, J, _⟩ := ins_get I.hok ha
  obtain ⟨od, J, _⟩ := J.look
  obtain ⟨m, hF⟩ := I.fr
  show wpAny (model X.prog X.w) X.A (richCompare .NotEq (.ref a) u) (EP X pins σ Q) X.xe s
  refine ne_K (tb := t) (by have := hr.un; omega) hF I.ok.mod.kin J (looks_X I ry ty) hn hp hne hs hf ?_
  have hl := F.len _ _ _ _ q
  have r2 : Vals [V.ref a, y] [Value.ref a, u] := .cons rfl (.cons ry .nil)
  refine wpAny_call (codeAny_mono (F.run X.A.in1 X.stack s H ⟨[.ref a, u], []⟩ [.ref a, u] [.ref a, y] _ E hr.in1 I.env0.in1 (by
    have := hb s [.ref a, u] I.kIn (by simpa using hl)
    simpa using this) r2 q) fun r s' hq => ?_)
  cases r with
  | error e => exact hx pins σ H s e s' I hq
  | ok fl =>
    cases fl with
    | ret w =>
      obtain ⟨z, H', I', rz, c, ez, qz⟩ := I.after hq
      subst ez
      cases rz
      exact ⟨c, rfl, .bl !c, H', I', rfl, qz⟩
    | next => exact False.elim hq
    | brk => exact False.elim hq
    | cont => exact False.elim hq
def rEqK (K : PySem.W.Frag) : R2 := fun x y H Q => ∃ (a b : Addr) (xs ys : List V) (ks rs : List Kt) (n m : Nat), x = .ref a ∧ y = .ref b ∧ ob K H a = some (.tup xs) ∧ ob K H b = some (.tup ys) ∧ Kts K H n xs ks ∧ Kts K H m ys rs ∧ ks.length ≤ 8 ∧ rs.length ≤ 8 ∧ Q (.bl (decide (ks = rs))) H
def kd (k : Kt) : PyData := .tuple [.tuple [.int k.1.1, .int k.1.2], .tuple [.int k.2.1, .int k.2.2]]
section
variable {P : Program} {w : World} {K : PySem.W.Frag} {mg : Str → Option Value} {base : Heap}
theorem dp_ka {H : Hp} {n : Nat} {x : V} {k : Kt} (h : Ka K H n x k) : Dp K H x (kd k) := by
  obtain ⟨t, a, b, rfl, o, f, g⟩ := h
  exact .tup (ob_tup o) (.cons (dp_fr f.o) (.cons (dp_fr g.o) .nil))
theorem dp_kts {H : Hp} {n : Nat} : ∀ {xs : List V} {ks : List Kt}, Kts K H n xs ks → DpAll K H xs (ks.map kd)
  | [], [], _ => .nil
  | x :: xs, k :: ks, h => .cons (dp_ka (h.2 0 x k rfl rfl)) (dp_kts ⟨by have := h.1; simpa using this, fun i y z a b => h.2 (i + 1) y z a b⟩)
  | [], _ :: _, h => by have := h.1; simp at this
  | _ :: _, [], h => by have := h.1; simp at this
theorem eqv_kd (k r : Kt) : PyData.eqv (kd k) (kd r) = decide (k = r) := by
  show (PyData.eqv (.tuple [.int k.1.1, .int k.1.2]) (.tuple [.int r.1.1, .int r.1.2]) && (PyData.eqv (.tuple [.int k.2.1, .int k.2.2]) (.tuple [.int r.2.1, .int r.2.2]) && true)) = decide (k = r)
  rw [eqv_fr, eqv_fr, Bool.and_true]
  by_cases h : k = r
  · subst h
    simp
  · rw [decide_eq_false h]
    by_cases h1 : k.1 = r.1
    · have h2 : k.2 ≠ r.2 := fun z => h (Prod.ext h1 z)
      simp [h1, h2]
    · simp [h1]
theorem eqv_kdl : ∀ (ks rs : List Kt), PyData.eqvAll (ks.map kd) (rs.map kd) = decide (ks = rs)
  | [], [] => rfl
  | k :: ks, r :: rs => by
    show (PyData.eqv (kd k) (kd r) && PyData.eqvAll (ks.map kd) (rs.map kd)) = _
    rw [eqv_kd, eqv_kdl ks rs]
    by_cases h : k = r
    · subst h
      simp
    · simp [h]
  | [], r :: rs => by simp [PyData.eqvAll]
  | k :: ks, [] => by simp [PyData.eqvAll]
theorem shp_kd : ∀ (ks : List Kt), ks.length ≤ 8 → SeqAt.shaped (.tuple (ks.map kd)) = true
  | [], _ => rfl
  | [_], _ => rfl
  | [_, _], _ => rfl
  | [_, _, _], _ => rfl
  | [_, _, _, _], _ => rfl
  | [_, _, _, _, _], _ => rfl
  | [_, _, _, _, _, _], _ => rfl
  | [_, _, _, _, _, _, _], _ => rfl
  | [_, _, _, _, _, _, _, _], _ => rfl
  | _ :: _ :: _ :: _ :: _ :: _ :: _ :: _ :: _ :: l, h => by simp only [List.length_cons] at h; omega
theorem op_eqK {X : Cx} {j : Nat} (hr : Room j X.A) : OpR X (compareOp .Eq) (rEqK X.K) := fun pins s σ H x y v u Q I rx ry h => by
  obtain ⟨a, b, xs, ys, ks, rs, n, m, ex, ey, oa, ob', kt, rt, l8, m8, k⟩ := h
  subst ex ey
  refine op_eqD (by have := hr.un; omega) pins s σ H _ _ v u Q I rx ry ⟨.tuple (ks.map kd), .tuple (rs.map kd), .tup (ob_tup oa) (dp_kts kt), .tup (ob_tup ob') (dp_kts rt), shp_kd ks l8, shp_kd rs m8, ?_⟩
  rw [show PyData.eqv (.tuple (ks.map kd)) (.tuple (rs.map kd)) = PyData.eqvAll (ks.map kd) (rs.map kd) from rfl, eqv_kdl]
  exact k
def Oth (K : PySem.W.Frag) (C : Addr) (t : Value) : Prop := PySem.W.kitOne K t (.ref C) = some false ∧ PySem.W.notFirst K C t = true
def spSlEq (K : PySem.W.Frag) (C : Addr) : Sp := fun vs H Q _ => ∃ (c d : Addr) (ks rs : List Kt) (n m : Nat), vs = [.ref c, .ref d] ∧ SlAt K C n H c ks ∧ SlAt K C m H d rs ∧ ks.length ≤ 8 ∧ rs.length ≤ 8 ∧ Q (.bl (decide (ks = rs))) H
def spSlNo (K : PySem.W.Frag) (C : Addr) : Sp := fun vs H Q _ => ∃ (c : Addr) (y : V) (ks : List Kt) (n : Nat) (t : Value), vs = [.ref c, y] ∧ SlAt K C n H c ks ∧ TyX K H y t ∧ PySem.W.kitOne K t (.ref C) = some false ∧ Q (.bl false) H
def spSlU (K : PySem.W.Frag) (C : Addr) : Sp := fun vs H Q E => spSlEq K C vs H Q E ∨ spSlNo K C vs H Q E
theorem FnOk.or {k : Nat} {f : Addr} {fd : FuncData} {ps : List Str} {sp1 sp2 : Sp} {CX : CXT} (F : FnOk P w K mg base CX k f fd ps sp1) (G : FnOk P w K mg base CX k f fd ps sp2) : FnOk P w K mg base CX k f fd ps (fun vs H Q E => sp1 vs H Q E ∨ sp2 vs H Q E) :=
  ⟨fun vs H Q E h => h.elim (F.len _ _ _ _) (G.len _ _ _ _), fun A outer s H args us vs Q E a b c d h => h.elim (F.run A outer s H args us vs Q E a b c d) (G.run A outer s H args us vs Q E a b c d)⟩
abbrev sSlEq : Stmt := inClass (topS 37) 2
theorem scSlEq : FnScope ["self", "other"] ["self", "other"] (defScope sSlEq) := ⟨rfl, rfl, rfl, by decide +kernel, rfl, by decide +kernel, by decide +kernel⟩
theorem ok_SlEq {C f : Addr} {fd : FuncData} (T : Bt K mg) (Y : SlC K mg C) (IC : C8.InsC K C) (F : Fun K "__eq__" "Slot.__eq__" sSlEq f fd) : FnOk P w K mg base CX0 5 f fd ["self", "other"] (spSlEq K C) := by
  refine F.ok scSlEq (fun vs H Q E h => ?_) (fun cdv A outer s H vs Q E hr h => ?_)
  · obtain ⟨c, d, ks, rs, n, m, rfl, _⟩ := h
    rfl
  obtain ⟨c, d, ks, rs, n, m, rfl, hc, hd, l8, m8, k⟩ := h
  refine ⟨_, (pss_one (ps_ret (pe_and (pe_callB (C8.call_isC IC) (by rfl) T.b_isinstance (by decide +kernel) (pa_cons (pv 1) (pa_cons (pe_glob (v := .ref C) (by rfl) Y.g rfl) pa_nil))) (pe_one (pe_cmpR (op_eqK hr) (pe_fld (pv 0) rfl) (pe_fld (pv 1) rfl) (nomark _)))))), ?_⟩
  obtain ⟨dx, t, xs, hi, ot, kt⟩ := id hc
  obtain ⟨dx', t', xs', hi', ot', kt'⟩ := id hd
  refine ⟨_, rfl, d, dx', _, rfl, hi', true, rfl, ?_⟩
  rw [if_pos rfl]
  exact ⟨_, rfl, c, C, dx, _, _, rfl, hi, Y.cl, Y.nK, rfl, _, rfl, d, C, dx', _, _, rfl, hi', Y.cl, Y.nK, rfl, t, t', xs, xs', ks, rs, n, m, rfl, rfl, ot, ot', kt, kt', l8, m8, k⟩

theorem ok_SlEqN {C f : Addr} {fd : FuncData} (T : Bt K mg) (Y : SlC K mg C) (F : Fun K "__eq__" "Slot.__eq__" sSlEq f fd) : FnOk P w K mg base CX0 5 f fd ["self", "other"] (spSlNo K C) := by
  refine F.ok scSlEq (fun vs H Q E h => ?_) (fun cdv A outer s H vs Q E hr h => ?_)
  · obtain ⟨c, y, ks, n, t, rfl, _⟩ := h
    rfl
  obtain ⟨c, y, ks, n, t, rfl, hc, ty, hk, k⟩ := h
  refine ⟨_, (pss_one (ps_ret (pe_and (pe_callB call_isi (by rfl) T.b_isinstance (by decide +kernel) (pa_cons (pv 1) (pa_cons (pe_glob (v := .ref C) (by rfl) Y.g rfl) pa_nil))) (pe_one (pe_cmpR (op_eqK hr) (pe_fld (pv 0) rfl) (pe_fld (pv 1) rfl) (nomark _)))))), ?_⟩
  refine ⟨_, rfl, y, .ref C, t, .ref C, false, rfl, .own C, ty, hk, false, rfl, ?_⟩
  rw [if_neg Bool.noConfusion]
  exact k

theorem nf_self {C : Addr} : PySem.W.notFirst K C (.ref C) = true := by
  unfold PySem.W.notFirst
  simp

/-- == and != of a slot with anything -/
structure EqK (P : Program) (w : World) (K : PySem.W.Frag) (mg : Str → Option Value) (base : Heap) (C : Addr) : Prop where
  ex : ∃ (g : Addr) (fd : FuncData) (ps : List Str), PySem.W.findIn K (.ref C) "__eq__" = some (some (.ref g)) ∧ PySem.W.isFn K (.ref g) = true ∧ FnOk P w K mg base CX0 5 g fd ps (spSlU K C) ∧ Binds K fd ps []
  po : PySem.W.plainOver K C = true
  ne : PySem.W.findIn K (.ref C) "__ne__" = some (some (.builtin "object.__ne__"))
end
section
variable {X : Cx} {C : Addr} {j : Nat}
theorem op_eqA (c : EqK X.prog X.w X.K X.mg X.base C) (hr : Room j X.A) (hk : 5 ≤ j) : OpR X (compareOp .Eq) (rOwnA X.K C (spSlU X.K C) E0) := by
  obtain ⟨g, fd, ps, h1, h2, F, b⟩ := c.ex
  exact op_ownA (fun _ _ => rfl) h1 h2 F b (hr.mono hk) pass0
theorem op_neA (c : EqK X.prog X.w X.K X.mg X.base C) (hr : Room j X.A) (hk : 6 ≤ j) : OpR X (compareOp .NotEq) (rNeOwnA X.K C (spSlU X.K C) E0) := by
  obtain ⟨g, fd, ps, h1, h2, F, b⟩ := c.ex
  exact op_neOwnA c.po c.ne h1 h2 F b (hr.mono hk) pass0
end
section
variable {P : Program} {w : World} {K : PySem.W.Frag} {mg : Str → Option Value} {base : Heap}
theorem sl_ty {C : Addr} {n : Nat} {H : Hp} {c : Addr} {ks : List Kt} (I : C8.InsC K C) (h : SlAt K C n H c ks) : TyX K H (.ref c) (.ref C) := by
  obtain ⟨dx, t, xs, hi, _⟩ := h
  exact .base (.ins hi I.cl I.ha I.hn I.htk I.hm)
/-- a slot on both sides -/
theorem uEq {C : Addr} {H : Hp} {c d : Addr} {ks rs : List Kt} {n j : Nat} {Q : VK} {E : XK} (I : C8.InsC K C) (hc : SlAt K C n H c ks) (hd : SlAt K C j H d rs) (l8 : ks.length ≤ 8) (m8 : rs.length ≤ 8) (h : Q (.bl (decide (ks = rs))) H) : rOwnA K C (spSlU K C) E (.ref c) (.ref d) H Q := by
  obtain ⟨dx, t, xs, hi, _⟩ := id hc
  exact ⟨c, dx, _, .ref C, rfl, hi, sl_ty I hd, nf_self, .inl ⟨c, d, ks, rs, n, j, rfl, hc, hd, l8, m8, h⟩⟩
theorem uNe {C : Addr} {H : Hp} {c d : Addr} {ks rs : List Kt} {n j : Nat} {Q : VK} {E : XK} (I : C8.InsC K C) (hc : SlAt K C n H c ks) (hd : SlAt K C j H d rs) (l8 : ks.length ≤ 8) (m8 : rs.length ≤ 8) (h : Q (.bl !(decide (ks = rs))) H) : rNeOwnA K C (spSlU K C) E (.ref c) (.ref d) H Q := by
  obtain ⟨dx, t, xs, hi, _⟩ := id hc
  exact ⟨c, dx, _, .ref C, rfl, hi, sl_ty I hd, nf_self, .inl ⟨c, d, ks, rs, n, j, rfl, hc, hd, l8, m8, _, rfl, h⟩⟩
/-- what is no slot -/
def NoSl (K : PySem.W.Frag) (C : Addr) (H : Hp) (y : V) : Prop := ∃ t, TyX K H y t ∧ Oth K C t
theorem uEqN {C : Addr} {H : Hp} {c : Addr} {y : V} {ks : List Kt} {n : Nat} {Q : VK} {E : XK} (hc : SlAt K C n H c ks) (hy : NoSl K C H y) (h : Q (.bl false) H) : rOwnA K C (spSlU K C) E (.ref c) y H Q := by
  obtain ⟨dx, t, xs, hi, _⟩ := id hc
  obtain ⟨t, ty, ho⟩ := hy
  exact ⟨c, dx, _, t, rfl, hi, ty, ho.2, .inr ⟨c, y, ks, n, t, rfl, hc, ty, ho.1, h⟩⟩
theorem uNeN {C : Addr} {H : Hp} {c : Addr} {y : V} {ks : List Kt} {n : Nat} {Q : VK} {E : XK} (hc : SlAt K C n H c ks) (hy : NoSl K C H y) (h : Q (.bl true) H) : rNeOwnA K C (spSlU K C) E (.ref c) y H Q := by
  obtain ⟨dx, t, xs, hi, _⟩ := id hc
  obtain ⟨t, ty, ho⟩ := hy
  exact ⟨c, dx, _, t, rfl, hi, ty, ho.2, .inr ⟨c, y, ks, n, t, rfl, hc, ty, ho.1, _, rfl, h⟩⟩
end
end My

namespace My
open PySem PySem.Spec PyProof.Rows L2
/-- a property that may be read -/
structure PropK (P : Program) (w : World) (K : PySem.W.Frag) (mg : Str → Option Value) (base : Heap) (k : Nat) (C : Addr) (f : Str) (sp : Sp) : Prop where
  ex : ∃ (p g : Addr) (fd : FuncData), Cls K C ∧ PropOf K C f p g ∧ FnOk P w K mg base CX0 k g fd ["self"] sp ∧ Binds K fd ["self"] []
section
variable {X : Cx}
theorem pe_propK {j k : Nat} {C : Addr} {f : Str} {sp : Sp} {e : Expr} {pos : Pos} {ta : TE} (c : PropK X.prog X.w X.K X.mg X.base k C f sp) (hr : Room j X.A) (hk : k + 1 ≤ j) (he : PE X e ta) (hab : attributeBase e f X.env (eval e X.env) = eval e X.env := by rfl) : PE X (.Attribute e f pos) (tProp C sp [] E0 ta) := by
  obtain ⟨p, g, fd, cl, hp, F, b⟩ := c.ex
  exact pe_prop he cl hp F (hr.mono hk) b .nil pass0 hab
theorem pe_kn0 {j k : Nat} {x : Str} {sp : Sp} {p pos : Pos} (F : Kn X.prog X.w X.K X.mg X.base k x [] sp) (hr : Room j X.A) (hg : Gl X x) (hj : k ≤ j := by omega) (hdb : (x == ("__debug__" : Str)) = false := by decide) : PE X (.Call (.Name x p) [] [] pos) (tCall sp [] E0 L2.tNil) := by
  obtain ⟨f, fd, m, kp, b, G⟩ := F.ex
  exact pe_call0 G (hr.mono hj) hg m kp b .nil pass0 hdb
end
section
variable {P : Program} {w : World} {K : PySem.W.Frag} {mg : Str → Option Value} {base : Heap}
/-- two lists of the same knots -/
theorem eqv_kts {H : Hp} {a b : Addr} {n m : Nat} {xs ys : List V} {ks : List Kt} (oa : ob K H a = some (.lst xs)) (ob' : ob K H b = some (.lst ys)) (h1 : Kts K H n xs ks) (h2 : Kts K H m ys ks) (l8 : ks.length ≤ 8) : Eqv K H 3 (.ref a) (.ref b) := by
  have e1 := h1.1
  have e2 := h2.1
  refine .inr ⟨a, b, xs, ys, rfl, rfl, .inr ⟨oa, ob'⟩, by omega, by omega, fun i x y hx hy => ?_⟩
  obtain ⟨k, ek, t, a1, b1, rfl, o1, f1, g1⟩ := h1.at hx
  obtain ⟨k', ek', u, a2, b2, rfl, o2, f2, g2⟩ := h2.at hy
  rw [ek] at ek'
  cases ek'
  refine .inr ⟨t, u, _, _, rfl, rfl, .inl ⟨o1, o2⟩, rfl, by show 2 ≤ 1000; decide, fun j v w hv hw => ?_⟩
  match j, hv, hw with
  | 0, hv, hw =>
    cases hv
    cases hw
    exact eqv_fr1 f1.o f2.o
  | 1, hv, hw =>
    cases hv
    cases hw
    exact eqv_fr1 g1.o g2.o
  | j + 2, hv, _ => cases hv
def spEven (K : PySem.W.Frag) (C : Addr) : Sp := fun vs H Q _ => vs = [] ∧ ∀ c H', Same H H' → SlAt K C 1 H' c [((0, 1), (0, 1))] → Q (.ref c) H'
abbrev sEven : Stmt := topS 38
theorem scEven : FnScope [] [] (defScope sEven) := ⟨rfl, rfl, rfl, by decide +kernel, rfl, by decide +kernel, by decide +kernel⟩
theorem k_Even {z0 o0 C : Addr} (C0 : Two01 K mg z0 o0) (mk1 : C8.Mak P w K mg base 6 "Slot" C (spSlInit K C) []) (T : Bt K mg) (D : Dfn K mg "even_slot" sEven []) : Kn P w K mg base 8 "even_slot" [] (spEven K C) := by
  refine Kn.mk' D scEven (fun vs H Q E h => ?_) (fun f cdv A outer s H vs Q E hr h => ?_)
  · obtain ⟨rfl, _⟩ := h
    rfl
  obtain ⟨rfl, k⟩ := h
  refine ⟨_, (pss_one (ps_ret (C8.pe_mk mk1 hr (by omega) (by rfl) (pa_cons (pe_ls (pa_cons (pe_tp (pa_cons (pe_glob (v := .ref z0) (by rfl) C0.g_ZERO rfl) (pa_cons (pe_glob (v := .ref z0) (by rfl) C0.g_ZERO rfl) pa_nil))) pa_nil)) pa_nil)))), ?_⟩
  refine ⟨sz2 (by show 2 ≤ 100; decide), fun p1 h1 k1 => ⟨sz2 (by show 1 ≤ 100; decide), fun p2 h2 k2 => ?_⟩⟩
  have s1 := Same.new h1 (.tup [.ref z0, .ref z0])
  have o1 := ob_new (H := H) (o := .tup [.ref z0, .ref z0]) k1
  generalize upd H p1 (.tup [.ref z0, .ref z0]) = H1 at s1 o1 h2 ⊢
  have s2 := Same.new h2 (.lst [.ref p1])
  have o2 := ob_new (H := H1) (o := .lst [.ref p1]) k2
  generalize upd H1 p2 (.lst [.ref p1]) = H2 at s2 o2 ⊢
  have o1 := ob_same s2 o1
  intro c dx hcn hdn hne
  have fz : Fq K H2 1 z0 (0, 1) := ⟨C0.oz _, nf01, sz01 (Nat.le_refl 1)⟩
  exact ⟨H2, c, dx, p2, [.ref p1], [((0, 1), (0, 1))], 1, rfl, same_make hcn hdn, hcn, upd_same, o2, ⟨rfl, fun i x k e1 e2 => by
    have l := (List.getElem?_eq_some_iff.mp e1).1
    rw [List.length_singleton] at l
    obtain rfl : i = 0 := by omega
    cases e1
    cases e2
    exact ⟨p1, z0, z0, rfl, o1, fz, fz⟩⟩, good_even, by decide, by omega, fun H' s' hs => ⟨rfl, k c H' (s1.trans (s2.trans s')) hs⟩⟩

end
end My

namespace My
open PySem PySem.Spec PyProof.Rows L2
section
variable {P : Program} {w : World} {K : PySem.W.Frag} {mg : Str → Option Value} {base : Heap}
theorem atI_m1 {α : Type} {xs : List α} (h : xs ≠ []) : atI xs (-1) = xs[xs.length - 1]? := by
  have hl : 0 < xs.length := by
    cases xs with
    | nil => exact absurd rfl h
    | cons a r => simp
  unfold atI ixN
  rw [if_neg (by omega), if_pos (by omega)]
  show xs[((-1 : Int) + (xs.length : Int)).toNat]? = _
  rw [show ((-1 : Int) + (xs.length : Int)).toNat = xs.length - 1 by omega]
theorem cut_m1 (xs : List V) : cutV xs none (some (-1)) = xs.take (xs.length - 1) := by
  unfold cutV
  rw [HT.sIx_none]
  show (xs.drop 0).take (((-1 : Int) + (xs.length : Int)).toNat - 0) = _
  rw [List.drop_zero]
  congr 1
  omega
theorem Kts.cat {H : Hp} {n : Nat} {xs ys : List V} {ks rs : List Kt} (h : Kts K H n xs ks) (g : Kts K H n ys rs) : Kts K H n (xs ++ ys) (ks ++ rs) := ⟨by rw [List.length_append, List.length_append, h.1, g.1], fun i x k e1 e2 => by
  have hl := h.1
  by_cases c : i < xs.length
  · rw [List.getElem?_append_left c] at e1
    rw [List.getElem?_append_left (by omega)] at e2
    exact h.2 i x k e1 e2
  · rw [List.getElem?_append_right (by omega)] at e1
    rw [List.getElem?_append_right (by omega), ← hl] at e2
    exact g.2 _ x k e1 e2⟩
theorem Kts.take {H : Hp} {n : Nat} {xs : List V} {ks : List Kt} (h : Kts K H n xs ks) (j : Nat) : Kts K H n (xs.take j) (ks.take j) := ⟨by rw [List.length_take, List.length_take, h.1], fun i x k e1 e2 => by
  rw [List.getElem?_take] at e1 e2
  split at e1
  · rename_i c
    rw [if_pos c] at e2
    exact h.2 i x k e1 e2
  · cases e1⟩
theorem Kts.drop {H : Hp} {n : Nat} {xs : List V} {ks : List Kt} (h : Kts K H n xs ks) (j : Nat) : Kts K H n (xs.drop j) (ks.drop j) := ⟨by rw [List.length_drop, List.length_drop, h.1], fun i x k e1 e2 => by
  rw [List.getElem?_drop] at e1 e2
  exact h.2 _ x k e1 e2⟩
theorem Kts.one {H : Hp} {n : Nat} {x : V} {k : Kt} (h : Ka K H n x k) : Kts K H n [x] [k] := ⟨rfl, fun i x' k' e1 e2 => by
  have l := (List.getElem?_eq_some_iff.mp e1).1
  rw [List.length_singleton] at l
  obtain rfl : i = 0 := by omega
  cases e1
  cases e2
  exact h⟩
theorem set_tk {α : Type} {ks : List α} {i : Nat} (h : i < ks.length) (k : α) : ks.take i ++ [k] ++ ks.drop (i + 1) = ks.set i k := by
  rw [List.set_eq_take_append_cons_drop, if_pos h, List.append_assoc]
  rfl
theorem good_put {ks : List Kt} {i : Nat} {k : Kt} {q : Qt} (g : Good ks) (e : ks[i]? = some k) (n : Nf q) : Good (ks.take i ++ [(k.1, q)] ++ ks.drop (i + 1)) := by
  have hi := (List.getElem?_eq_some_iff.mp e).1
  rw [set_tk hi]
  refine good_firsts g (List.length_set ..) (fun j k' e1 => ?_) fun k' hk => ?_
  · rw [List.getElem?_set] at e1
    split at e1
    · rename_i c
      subst c
      cases e1
      exact ⟨k, e, rfl⟩
    · exact ⟨k', e1, rfl⟩
  · rcases List.mem_or_eq_of_mem_set hk with z | rfl
    · exact (g.nf _ z).2
    · exact n
theorem len_put {α : Type} {ks : List α} {i : Nat} (h : i < ks.length) (k : α) : (ks.take i ++ [k] ++ ks.drop (i + 1)).length = ks.length := by rw [set_tk h, List.length_set]
theorem ne_put {ks : List Kt} {i : Nat} {k : Kt} {q : Qt} (e : ks[i]? = some k) (n : q ≠ k.2) : ks ≠ ks.take i ++ [(k.1, q)] ++ ks.drop (i + 1) := fun z => by
  have hi := (List.getElem?_eq_some_iff.mp e).1
  rw [set_tk hi] at z
  have y := congrArg (fun l => l[i]?) z
  simp only [e, List.getElem?_set_self hi] at y
  cases k
  simp only [Option.some.injEq, Prod.mk.injEq] at y
  exact n y.2.symm
/-- the last place moved up -/
theorem good_last {ks : List Kt} {k : Kt} {z l : Qt} (g : Good ks) (h2 : 2 ≤ ks.length) (e : ks[ks.length - 1]? = some k) (nz : Nf z) (nl : Nf l) (z0 : qv k.1 < qv z) (z1 : qv z < 1) : Good (ks.take (ks.length - 1) ++ [(z, l)]) := by
  obtain ⟨k0, e0, ex⟩ := ext_eq g
  have hl : (ks.take (ks.length - 1) ++ [(z, l)]).length = ks.length := by rw [List.length_append, List.length_take, List.length_singleton]; omega
  have old : ∀ j, j < ks.length - 1 → (ks.take (ks.length - 1) ++ [(z, l)])[j]? = ks[j]? := fun j hj => by
    rw [List.getElem?_append_left (by rw [List.length_take]; omega), List.getElem?_take, if_pos hj]
  have new : (ks.take (ks.length - 1) ++ [(z, l)])[ks.length - 1]? = some (z, l) := by
    rw [List.getElem?_append_right (by rw [List.length_take]; omega), List.length_take, show ks.length - 1 - min (ks.length - 1) ks.length = 0 by omega]
    rfl
  generalize ks.take (ks.length - 1) ++ [(z, l)] = rs at hl old new ⊢
  have split : ∀ (j : Nat) r, rs[j]? = some r → (j < ks.length - 1 ∧ ks[j]? = some r) ∨ (j = ks.length - 1 ∧ r = (z, l)) := fun j r er => by
    have lj := (List.getElem?_eq_some_iff.mp er).1
    by_cases c : j < ks.length - 1
    · rw [old j c] at er
      exact .inl ⟨c, er⟩
    · have ej : j = ks.length - 1 := by omega
      rw [ej, new] at er
      cases er
      exact .inr ⟨ej, rfl⟩
  refine ⟨by omega, fun r hr => ?_, fun r er => ?_, fun i r r' e1 e2 => ?_⟩
  · obtain ⟨j, hj, ej⟩ := List.getElem_of_mem hr
    rcases split j r (by rw [List.getElem?_eq_getElem hj, ej]) with ⟨_, a⟩ | ⟨_, rfl⟩
    · exact g.nf _ (List.mem_of_getElem? a)
    · exact ⟨nz, nl⟩
  · rcases split 0 r er with ⟨_, a⟩ | ⟨a, _⟩
    · exact g.zero r a
    · omega
  · have li := (List.getElem?_eq_some_iff.mp e2).1
    rw [ext_len] at li
    have a1 : rs[i]? = some r := by
      have : (ext rs)[i]? = rs[i]? := by unfold ext; rw [List.getElem?_append_left (by omega)]
      rw [← this]
      exact e1
    by_cases c : i + 1 < rs.length
    · have a2 : rs[i + 1]? = some r' := by
        have : (ext rs)[i + 1]? = rs[i + 1]? := by unfold ext; rw [List.getElem?_append_left c]
        rw [← this]
        exact e2
      rcases split i r a1 with ⟨b1, b2⟩ | ⟨b1, _⟩
      · have c1 := (ext_at (by omega)).mpr b2
        rcases split (i + 1) r' a2 with ⟨d1, d2⟩ | ⟨d1, rfl⟩
        · exact g.asc i r r' c1 ((ext_at (by omega)).mpr d2)
        · have := g.asc i r k c1 ((ext_at (by omega)).mpr (by rw [d1]; exact e))
          show qv r.1 < qv z
          grind
      · omega
    · have ei : i = ks.length - 1 := by omega
      rw [ei, new] at a1
      cases a1
      have a2 : (ext rs)[rs.length]? = some ((1, 1), (rs.getD 0 ((0, 1), (0, 1))).2) := by
        unfold ext
        rw [List.getElem?_append_right (Nat.le_refl _), Nat.sub_self]
        rfl
      rw [show i + 1 = rs.length by omega, a2] at e2
      cases e2
      show qv z < qv (1, 1)
      rw [qv11]
      exact z1
theorem ne_last {ks : List Kt} {k : Kt} {z l : Qt} (h1 : 1 ≤ ks.length) (e : ks[ks.length - 1]? = some k) (n : qv k.1 < qv z) : ks ≠ ks.take (ks.length - 1) ++ [(z, l)] := fun y => by
  have w := congrArg (fun r => r[ks.length - 1]?) y
  simp only [e] at w
  rw [List.getElem?_append_right (by rw [List.length_take]; omega), List.length_take, show ks.length - 1 - min (ks.length - 1) ks.length = 0 by omega] at w
  cases w
  exact absurd n (Rat.lt_irrefl)
end
end My

namespace My
open PySem PySem.Spec PyProof.Rows L2
section
variable {P : Program} {w : World} {K : PySem.W.Frag} {mg : Str → Option Value} {base : Heap}
def spKH (K : PySem.W.Frag) (C : Addr) : Sp := fun vs H Q _ => ∃ (s c kl : Addr) (xs : List V) (ks : List Kt), vs = [.ref s, .ref c, .ref kl] ∧ Sto K H s ∧ SlAt K C 134 H c ks ∧ Good ks ∧ ks.length ≤ 8 ∧ H kl = some (.lst xs) ∧ K.lookup kl = none ∧ kl ≠ s ∧ Kts K H 134 xs ks ∧ ∀ H', Kp s H H' → Sto K H' s → Q (.bl true) H'
theorem tyX_same {H H' : Hp} {x : V} {t : Value} (s : Same H H') (h : TyX K H x t) : TyX K H' x t := by
  cases h with
  | base b =>
    cases b with
    | non => exact .base .non
    | bl y => exact .base (.bl y)
    | int y => exact .base (.int y)
    | str y => exact .base (.str y)
    | flt y => exact .base (.flt y)
    | lst e => exact .base (.lst (s _ _ e))
    | frz e => exact .base (.frz (s _ _ e))
    | tup e => exact .base (.tup (s _ _ e))
    | dK e => exact .base (.dK (s _ _ e))
    | dT e => exact .base (.dT (s _ _ e))
    | ins e a b c d f => exact .base (.ins (s _ _ e) a b c d f)
  | byt b => exact .byt b
  | set e => exact .set (s _ _ e)
  | kList e c => exact .kList e c
  | kTuple e c => exact .kTuple e c
  | kDict e c => exact .kDict e c
  | fTuple e => exact .fTuple (s _ _ e)
  | fDict e => exact .fDict (s _ _ e)
/-- the other kinds -/
structure Kinds (K : PySem.W.Frag) (C S : Addr) : Prop where
  bt : ∀ n ∈ ["NoneType", "bool", "int", "str", "tuple", "list", "dict"], Oth K C (.type n)
  sp : Oth K C (.ref S)
theorem nosl_n {C S : Addr} {H : Hp} {x : V} {n : String} (k : Kinds K C S) (h : tyN K H x = some n) : NoSl K C H x := ⟨_, tyN_X h, k.bt n (tyN_mem h)⟩
theorem nosl_tup {C S : Addr} {H : Hp} {a : Addr} {xs : List V} (k : Kinds K C S) (h : ob K H a = some (.tup xs)) : NoSl K C H (.ref a) := nosl_n (n := "tuple") k (by rw [tyN_ref, h]; rfl)
theorem nosl_lst {C S : Addr} {H : Hp} {a : Addr} {xs : List V} (k : Kinds K C S) (h : ob K H a = some (.lst xs)) : NoSl K C H (.ref a) := nosl_n (n := "list") k (by rw [tyN_ref, h]; rfl)
theorem nosl_dct {C S : Addr} {H : Hp} {a : Addr} {xs : List (Key × V)} (k : Kinds K C S) (h : ob K H a = some (.dK xs)) : NoSl K C H (.ref a) := nosl_n (n := "dict") k (by rw [tyN_ref, h]; rfl)
theorem nf13 : Nf (1, 3) := ⟨by decide, by decide⟩
theorem nfm112 : Nf (-1, 12) := ⟨by decide, by decide⟩
def KHMid (s c kl tl oc ac : Addr) (j : Nat) (pa la ua : Addr) (H : Hp) (σ : L2.St) (H' : Hp) : Prop := ∃ x10 x11, σ = [some (V.ref s), some (.ref c), some (.ref kl), some (.ref tl), some (.int j), some (.ref pa), some (.ref la), some (.ref ua), some (.ref oc), some (.ref ac), x10, x11, none, none] ∧ Kp s H H' ∧ Sto K H' s
theorem qv12 : qv (1, 2) = 1 / 2 := rfl
def UnA (K : PySem.W.Frag) (H : Hp) (q : Qt) (v : V) : Prop := ∃ a z, v = .ref a ∧ Fq K H 10 a z ∧ z ≠ q
theorem UnA.same {H H' : Hp} {q : Qt} {v : V} (h : UnA K H q v) (s : Same H H') : UnA K H' q v := by
  obtain ⟨a, z, e, f, n⟩ := h
  exact ⟨a, z, e, f.same s, n⟩
theorem UnA.kp {H H' : Hp} {s : Addr} {q : Qt} {v : V} (h : UnA K H q v) (e : Kp s H H') (st : Sto K H s) : UnA K H' q v := by
  obtain ⟨a, z, e1, f, n⟩ := h
  exact ⟨a, z, e1, f.kps e st, n⟩
abbrev sKH : Stmt := topS 77
theorem scKH : FnScope ["_law_store_here", "_law_slot", "_law_knots_here", "_law_told", "_law_spot", "_law_place_here", "_law_lift", "_law_unlike", "_law_other", "_law_alike", "_law_last", "_law_apart", "_law_stranger", "_law_one"] ["_law_store_here", "_law_slot", "_law_knots_here"] (defScope sKH) := ⟨rfl, rfl, rfl, by decide +kernel, rfl, by decide +kernel, by decide +kernel⟩
theorem blk_scKH_0 : BlkOk ["_law_store_here", "_law_slot", "_law_knots_here", "_law_told", "_law_spot", "_law_place_here", "_law_lift", "_law_unlike", "_law_other", "_law_alike", "_law_last", "_law_apart", "_law_stranger", "_law_one"] (defScope sKH) { kind := .function, names := [(".0", .local), ("_law_one", .local), ("_law_lift", .free)], isGenerator := false, isCoroutine := false, more := [] } [("_law_one", 13)] := ⟨rfl, by decide +kernel, by decide +kernel, by decide +kernel, by decide +kernel⟩
theorem k_KH {C CY zd : Addr} (Y : SlC K mg C) (IC : C8.InsC K C) (ICY : C8.InsC K CY) (KD : Kinds K C CY) (ZD : ∀ H, ob K H zd = some (.tup [.int 0, .int 1])) (oQ : EqK P w K mg base C) (pK : PropK P w K mg base 1 C "knots" (spKnots K C)) (mk1 : C8.Mak P w K mg base 6 "Slot" C (spSlInit K C) []) (mkC : C8.Mak P w K mg base 5 "Cycle" CY (spCyInit K CY) [.ref zd]) (T : Bt K mg) (D : Dfn K mg "_law_knots_hold" sKH ["_law_store_here", "_law_slot", "_law_knots_here"]) (d__law_same : Kn P w K mg base 5 "_law_same" ["_law_told", "_law_due"] (spSame K 4)) (d__law_take : Kn P w K mg base 2 "_law_take" ["_law_store_here", "_law_many"] (spTake K)) (d__law_pick : Kn P w K mg base 3 "_law_pick" ["_law_store_here", "_law_row"] (spPick K)) (d__law_times : Kn P w K mg base 3 "_law_times" ["_law_left", "_law_right"] (spBin K pro2)) (d__law_plus : Kn P w K mg base 3 "_law_plus" ["_law_left", "_law_right"] (spBin K sum2)) : Kn P w K mg base 8 "_law_knots_hold" ["_law_store_here", "_law_slot", "_law_knots_here"] (spKH K C) := by
  refine Kn.mk' D scKH (fun vs H Q E h => ?_) (fun f cdv A outer s H vs Q E hr h => ?_)
  · obtain ⟨s, c, kl, xs, ks, rfl, _⟩ := h
    rfl
  obtain ⟨s, c, kl, xs, ks, rfl, hS, hc, g, l8, hk, kk, nk, kt, q⟩ := h
  refine ⟨_, (pss_cons (ps_set (i := 3) scKH.nd rfl (.inl rfl) (pe_propK pK hr (by omega) (pv 1)))
      (pss_cons (ps_if (pt_not (pt_val (pe_kn d__law_same hr (by rfl) (pa_cons (pv 3) (pa_cons (pv 2) pa_nil))))) (pss_one (ps_ret pe_bl)) pss_nil)
      (pss_cons (ps_expr (pe_bm0 PySem.F.plainAttrs_list PySem.F.slot_list_pop PySem.F.type_list_pop mt_pop (pv 3)))
      (pss_cons (ps_expr (pe_bm PySem.F.plainAttrs_list PySem.F.slot_list_insert PySem.F.type_list_insert mt_insert (pv 3) (pa_cons pe_int (pa_cons pe_non pa_nil))))
      (pss_cons (ps_set (i := 4) scKH.nd rfl (.inl rfl) (pe_kn d__law_take hr (by rfl) (pa_cons (pv 0) (pa_cons (pe_callB call_lenA (by rfl) T.b_len PySem.boot_len (pa_cons (pv 2) pa_nil)) pa_nil))))
      (pss_cons (ps_asg (pe_ix ix_any (pv 2) (pv 4) (fun _ _ => rfl)) (pg_tp 2 (by rfl) (pgs_cons (pg_name (i := 5) scKH.nd rfl (.inl rfl)) (pgs_cons (pg_name (i := 6) scKH.nd rfl (.inr rfl)) pgs_nil))))
      (pss_cons (ps_set (i := 7) scKH.nd rfl (.inl rfl) (pe_kn d__law_pick hr (by rfl) (pa_cons (pv 0) (pa_cons (pe_fr (pe_lc (own := [("_law_one", 13)]) (g := gName 13) (tt := (tTest (tOp (rNeF K) (tVar 13) (tVar 6)))) (te := (tVar 13)) rfl scKH.nd (pi_list (pe_ls (pa_cons (pe_tp (pa_cons pe_int (pa_cons pe_int pa_nil))) (pa_cons (pe_tp (pa_cons pe_int (pa_cons pe_int pa_nil))) (pa_cons (pe_tp (pa_cons (pe_un un_neg pe_int) (pa_cons pe_int pa_nil))) pa_nil))))) blk_scKH_0 (fun _ _ _ _ _ => by exact pg_name (i := 13) scKH.nd rfl (.inl rfl)) (fun _ _ _ _ _ => by exact (pts_one (pt_cmpR (op_neF hr) (pv 13) (pv 6) (nomark _)))) (fun _ _ _ _ _ => by exact (pv 13)))) pa_nil))))
      (pss_cons (ps_set (i := 8) scKH.nd rfl (.inl rfl) (C8.pe_mk mk1 hr (by omega) (by rfl) (pa_cons (pe_fr (pe_op op_cat (pe_fr (pe_op op_cat (pe_fr (pe_slice sl_list (pv 2) po_none (po_some (pv 4)))) (pe_ls (pa_cons (pe_tp (pa_cons (pv 5) (pa_cons (pv 7) pa_nil))) pa_nil)))) (pe_fr (pe_slice sl_list (pv 2) (po_some (pe_op op_add (pv 4) pe_int)) po_none)))) pa_nil)))
      (pss_cons (ps_set (i := 9) scKH.nd rfl (.inl rfl) (C8.pe_mk mk1 hr (by omega) (by rfl) (pa_cons (pe_fr (pe_callTy call_list_of (by rfl) T.b_list (by decide +kernel) (pa_cons (pv 2) pa_nil))) pa_nil)))
      (pss_cons (ps_if (PW.pt (pw_or (pt_not (pt_cmpR (op_eqA oQ hr (by omega)) (pv 1) (pv 9) (nomark _))) (pw_or (pt_cmpR (op_neA oQ hr (by omega)) (pv 1) (pv 9) (nomark _)) (pw_or (pt_cmpR (op_eqA oQ hr (by omega)) (pv 1) (pv 8) (nomark _)) (pw_or1 (pt_not (pt_cmpR (op_neA oQ hr (by omega)) (pv 1) (pv 8) (nomark _)))))))) (pss_one (ps_ret pe_bl)) pss_nil)
      (C8.pss_cut (ps_if (pt_cmpR op_gt (pe_callB call_lenA (by rfl) T.b_len PySem.boot_len (pa_cons (pv 2) pa_nil)) pe_int (nomark _)) (pss_cons (ps_set (i := 10) scKH.nd rfl (.inl rfl) (pe_kn d__law_times hr (by rfl) (pa_cons (pe_tp (pa_cons pe_int (pa_cons pe_int pa_nil))) (pa_cons (pe_kn d__law_plus hr (by rfl) (pa_cons (pe_ix ix_any (pe_ix ix_any (pv 2) (pe_un un_neg pe_int) (fun _ _ => rfl)) pe_int (fun _ _ => rfl)) (pa_cons (pe_tp (pa_cons pe_int (pa_cons pe_int pa_nil))) pa_nil))) pa_nil))))
      (pss_cons (ps_set (i := 11) scKH.nd rfl (.inl rfl) (C8.pe_mk mk1 hr (by omega) (by rfl) (pa_cons (pe_fr (pe_op op_cat (pe_fr (pe_slice sl_list (pv 2) po_none (po_some (pe_un un_neg pe_int)))) (pe_ls (pa_cons (pe_tp (pa_cons (pv 10) (pa_cons (pe_ix ix_any (pe_ix ix_any (pv 2) (pe_un un_neg pe_int) (fun _ _ => rfl)) pe_int (fun _ _ => rfl)) pa_nil))) pa_nil)))) pa_nil)))
      (pss_one (ps_if (PW.pt (pw_or (pt_cmpR (op_eqA oQ hr (by omega)) (pv 1) (pv 11) (nomark _)) (pw_or (pt_not (pt_cmpR (op_neA oQ hr (by omega)) (pv 1) (pv 11) (nomark _))) (pw_or1 (pt_cmpR (op_eqA oQ hr (by omega)) (pv 11) (pv 1) (nomark _)))))) (pss_one (ps_ret pe_bl)) pss_nil)))) pss_nil)
      (pss_cons (ps_for PassesOwn.never rfl (pi_list (pe_ls (pa_cons pe_non (pa_cons pe_int (pa_cons pe_bl (pa_cons (pv 2) (pa_cons (pe_fr (pe_callTy call_tuple_of (by rfl) T.b_tuple (by decide +kernel) (pa_cons (pv 2) pa_nil))) (pa_cons pe_str (pa_cons pe_dn (pa_cons (C8.pe_mk mkC hr (by omega) (by rfl) (pa_cons (pe_tp (pa_cons pe_int (pa_cons pe_int pa_nil))) pa_nil)) pa_nil)))))))))) (pg_name (i := 12) scKH.nd rfl (.inl rfl)) (pss_one (ps_if (PW.pt (pw_or (pt_cmpR (op_eqA oQ hr (by omega)) (pv 1) (pv 12) (nomark _)) (pw_or1 (pt_not (pt_cmpR (op_neA oQ hr (by omega)) (pv 1) (pv 12) (nomark _)))))) (pss_one (ps_ret pe_bl)) pss_nil)))
      (pss_one (ps_ret (pe_kn d__law_same hr (by rfl) (pa_cons (pe_propK pK hr (by omega) (pv 1)) (pa_cons (pv 2) pa_nil))))))))))))))))), ?_⟩
  have hkl := kt.1
  obtain ⟨dx0, t0, u0, hi0, _, _⟩ := id hc
  refine ⟨_, rfl, c, dx0, _, rfl, hi0, c, ks, 134, rfl, hc, fun tl ys H1 hl1 kl1 h1 s1 kt1 => ?_⟩
  have hk1 := s1 _ _ hk
  refine ⟨_, rfl, _, rfl, _, _, rfl, eqv_kts ((ob_none kl1).trans h1) ((ob_none kk).trans hk1) kt1 (kt.same s1) l8, fun H2 s2 => ⟨_, rfl, if_no rfl ?_⟩⟩
  have h2 := s2 _ _ h1
  have yl := kt1.1
  have g1 := g.one
  have nT : tl ≠ s := fun e => by
    rw [e] at hl1
    obtain ⟨z, hz⟩ := hS.at
    rw [hz] at hl1
    cases hl1
  obtain ⟨y, ey⟩ : ∃ y, ys[ys.length - 1]? = some y := ⟨_, List.getElem?_eq_getElem (by omega)⟩
  have st2 := hS.same (s1.trans s2)
  obtain ⟨st3, kp3⟩ := hS.mut (o := .lst ys.dropLast) hl1 (Kp.same (s1.trans s2)) st2
  refine ⟨_, rfl, .inl ⟨rfl, _, .of h2⟩, tl, ys, y, rfl, rfl, h2, ey, ?_⟩
  have h3 : upd H2 tl (.lst ys.dropLast) tl = some (.lst ys.dropLast) := upd_same
  obtain ⟨st4, kp4⟩ := hS.mut (o := .lst (List.take (0 : Int).toNat ys.dropLast ++ [V.non] ++ List.drop (0 : Int).toNat ys.dropLast)) hl1 kp3 st3
  refine ⟨_, rfl, .inl ⟨rfl, _, .of h3⟩, tl, ys.dropLast, 0, .non, rfl, rfl, h3, by rw [sizeLine_eq, List.length_dropLast]; omega, by decide, by decide, ?_⟩
  generalize upd (upd H2 tl (.lst ys.dropLast)) tl (.lst (List.take (0 : Int).toNat ys.dropLast ++ [V.non] ++ List.drop (0 : Int).toNat ys.dropLast)) = H4 at st4 kp4 ⊢
  have hk4 := kp4 _ _ nk hk
  clear h3 kp3 st3 st2 ey h2 yl kt1 s2 s1 hk1 h1 kl1 nT hi0
  refine ⟨_, rfl, _, rfl, kl, rfl, xs, itsO_ofL ((ob_none kk).trans hk4), s, _, rfl, st4, by omega, fun r H5 r0 r1 kp5 st5 => ?_⟩
  obtain ⟨j, rfl⟩ := Int.eq_ofNat_of_zero_le r0
  have hj : j < ks.length := by omega
  obtain ⟨kj, ej⟩ : ∃ k, ks[j]? = some k := ⟨_, List.getElem?_eq_getElem hj⟩
  have kp5 := kp4.trans kp5
  have hk5 := kp5 _ _ nk hk
  have kt5 := kt.kps kp5 hS
  obtain ⟨x, ex, t, pa, la, rfl, ot, fp, fl⟩ := kt5.get ej
  refine ⟨_, rfl, _, rfl, kl, j, rfl, rfl, xs, itsO_ofL ((ob_none kk).trans hk5), _, atI_nat ex, t, rfl, _, ot, rfl, _, _, rfl, _, _, rfl, rfl, ?_⟩
  have nlr := (g.nf _ (List.mem_of_getElem? ej)).2
  refine ⟨_, rfl, ?_⟩
  refine ⟨sz2 (by show 2 ≤ 100; decide), fun u1 hu1 ku1 => ⟨sz2 (by show 2 ≤ 100; decide), fun u2 hu2 ku2 => ⟨_, rfl, sz2 (by show 2 ≤ 100; decide), fun u3 hu3 ku3 => ⟨sz2 (by show 3 ≤ 100; decide), fun U hU kU => ?_⟩⟩⟩⟩
  have a1 := Same.new hu1 (.tup [.int 1, .int 3])
  have a2 := Same.new hu2 (.tup [.int 0, .int 1])
  have a3 := Same.new hu3 (.tup [.int (-1), .int 12])
  have a4 := Same.new hU (.lst [.ref u1, .ref u2, .ref u3])
  have b1 := ob_same (a2.trans (a3.trans a4)) (ob_new (K := K) (o := .tup [.int 1, .int 3]) ku1)
  have b2 := ob_same (a3.trans a4) (ob_new (K := K) (o := .tup [.int 0, .int 1]) ku2)
  have b3 := ob_same a4 (ob_new (K := K) (o := .tup [.int (-1), .int 12]) ku3)
  have sA := a1.trans (a2.trans (a3.trans a4))
  have hU' : upd (upd (upd (upd H5 u1 (.tup [.int 1, .int 3])) u2 (.tup [.int 0, .int 1])) u3 (.tup [.int (-1), .int 12])) U (.lst [.ref u1, .ref u2, .ref u3]) U = some (.lst [.ref u1, .ref u2, .ref u3]) := upd_same
  generalize upd (upd (upd (upd H5 u1 (.tup [.int 1, .int 3])) u2 (.tup [.int 0, .int 1])) u3 (.tup [.int (-1), .int 12])) U (.lst [.ref u1, .ref u2, .ref u3]) = H6 at b1 b2 b3 sA hU' ⊢
  have all : ∀ v ∈ [V.ref u1, .ref u2, .ref u3], ∃ a z, v = .ref a ∧ Fq K H6 10 a z ∧ (z = (1, 3) ∨ z = (0, 1) ∨ z = (-1, 12)) := fun v hv => by
    simp only [List.mem_cons, List.not_mem_nil, or_false] at hv
    rcases hv with rfl | rfl | rfl
    · exact ⟨u1, (1, 3), rfl, ⟨b1, nf13, sz10 (by decide) (by decide)⟩, .inl rfl⟩
    · exact ⟨u2, (0, 1), rfl, ⟨b2, nf01, sz10 (by decide) (by decide)⟩, .inr (.inl rfl)⟩
    · exact ⟨u3, (-1, 12), rfl, ⟨b3, nfm112, sz10 (by decide) (by decide)⟩, .inr (.inr rfl)⟩
  clear a1 a2 a3 a4 hu1 ku1 hu2 ku2 hu3 ku3 b3
  have st6 := st5.same sA
  have kp6 := kp5.trans (Kp.same sA)
  have ol6 := ob_same sA fl.o
  refine ⟨U, rfl, ⟨_, .of hU'⟩, fun D hD => ?_⟩
  refine lc_list (xs := [.ref u1, .ref u2, .ref u3]) (fun i H' => ∃ l, H' D = some (.lst l) ∧ l.length ≤ i ∧ Same H6 H' ∧ (∀ v ∈ l, UnA K H6 kj.2 v) ∧ (0 < i → (1, 3) ≠ kj.2 → V.ref u1 ∈ l) ∧ (1 < i → (0, 1) ≠ kj.2 → V.ref u2 ∈ l)) ⟨[], upd_same, Nat.le_refl _, Same.new hD _, fun v hv => (by cases hv), fun z => absurd z (by omega), fun z => absurd z (by omega)⟩ ?_ ?_ ?_
  · rintro i H' _ ⟨l, h1, _, sD, _⟩
    exact .of (sD _ _ hU')
  · rintro i v H' hv ⟨l, h1, hl, sD, un, m1, m2⟩
    obtain ⟨a, z, rfl, fz, hz⟩ := all v (List.mem_of_getElem? hv)
    have li : i < 3 := (List.getElem?_eq_some_iff.mp hv).1
    refine ⟨rfl, _, rfl, _, rfl, a, la, z, kj.2, rfl, rfl, ob_same sD fz.o, ob_same sD ol6, _, rfl, ite2 (fun hne => ?_) (fun heq => ?_)⟩
    · have hne : z ≠ kj.2 := by simpa using hne
      refine ⟨_, rfl, l, h1, by rw [sizeLine_eq]; omega, l ++ [.ref a], upd_same, by rw [List.length_append, List.length_singleton]; omega, fun b o e => ?_, fun v hv' => ?_, fun i0 n => ?_, fun i1 n => ?_⟩
      · rw [upd_ne (ne_of_none e hD)]
        exact sD _ _ e
      · rcases List.mem_append.mp hv' with y | y
        · exact un v y
        · rw [List.mem_singleton] at y
          exact ⟨a, z, y, fz, hne⟩
      · by_cases c : 0 < i
        · exact List.mem_append_left _ (m1 c n)
        · obtain rfl : i = 0 := by omega
          cases hv
          exact List.mem_append_right _ (List.mem_singleton_self _)
      · by_cases c : 1 < i
        · exact List.mem_append_left _ (m2 c n)
        · obtain rfl : i = 1 := by omega
          cases hv
          exact List.mem_append_right _ (List.mem_singleton_self _)
    · have heq : z = kj.2 := by simpa using heq
      have idz : ∀ {q}, ob K H6 a = some (.tup [.int q.1, .int q.2]) → q = kj.2 := fun {q} o => by
        rw [← heq]
        have eo := fz.o
        rw [o] at eo
        have w := Option.some.inj eo
        injection w with w
        injection w with w1 w2
        injection w2 with w2 _
        injection w1 with w1
        injection w2 with w2
        exact Prod.ext w1 w2
      refine ⟨l, h1, by omega, sD, un, fun i0 n => ?_, fun i1 n => ?_⟩
      · by_cases c : 0 < i
        · exact m1 c n
        · obtain rfl : i = 0 := by omega
          cases hv
          exact absurd (idz (q := (1, 3)) b1) n
      · by_cases c : 1 < i
        · exact m2 c n
        · obtain rfl : i = 1 := by omega
          cases hv
          exact absurd (idz (q := (0, 1)) b2) n
  rintro H7 ⟨l, h1, hl, sD, un, m1, m2⟩ frD
  have hl : l.length ≤ 3 := hl
  have kD : K.lookup D = none := frD D (by rw [h1]; simp)
  have ln : 0 < l.length := by
    by_cases c : ((1, 3) : Qt) = kj.2
    · exact List.length_pos_of_mem (m2 (by show 1 < 3; decide) (by rw [← c]; decide))
    · exact List.length_pos_of_mem (m1 (by show 0 < 3; decide) c)
  have un7 : ∀ v ∈ l, UnA K H7 kj.2 v := fun v hv => (un v hv).same sD
  have st7 := st6.same sD
  have kp7 := kp6.trans (Kp.same sD)
  have nD : s ≠ D := (st6.ne' hD).symm
  have fp7 := (fp.same sA).same sD
  clear m1 m2 un all b1 b2 hU' hD sA sD ol6 frD
  refine ⟨s, D, l, rfl, st7, h1, nD, ln, by omega, fun x H8 hx kp8 st8 => ?_⟩
  have fp8 := fp7.kps kp8 st7
  obtain ⟨ua, uq, rfl, fu, ne⟩ := (un7 x hx).kp kp8 st7
  have kp8 := kp7.trans kp8
  clear un7 hx h1 hl ln nD kD st7 kp7 kp6 st6 kp4 st4 st5
  have hk8 := kp8 _ _ nk hk
  have kt8 := kt.kps kp8 hS
  have hj' : j < xs.length := by omega
  refine ⟨_, rfl, _, rfl, j, rfl, kl, xs, rfl, .of hk8, ?_⟩
  rw [cut_to xs j (by omega)]
  refine fun d1 hd1 fr1 => ?_
  have a1 := Same.new hd1 (.lst (xs.take j))
  have e1 : upd H8 d1 (.lst (xs.take j)) d1 = some (.lst (xs.take j)) := upd_same
  generalize upd H8 d1 (.lst (xs.take j)) = G1 at a1 e1 ⊢
  clear fr1
  refine ⟨_, rfl, _, rfl, sz2 (by show 2 ≤ 100; decide), fun t1 ht1 kt1 => ⟨sz2 (by show 1 ≤ 100; decide), fun d2 hd2 kd2 => ?_⟩⟩
  have a2 := Same.new ht1 (.tup [.ref pa, .ref ua])
  have a3 := Same.new hd2 (.lst [.ref t1])
  have o2 := ob_same a3 (ob_new (K := K) (o := .tup [.ref pa, .ref ua]) kt1)
  have e2 : upd (upd G1 t1 (.tup [.ref pa, .ref ua])) d2 (.lst [.ref t1]) d2 = some (.lst [.ref t1]) := upd_same
  generalize upd (upd G1 t1 (.tup [.ref pa, .ref ua])) d2 (.lst [.ref t1]) = G2 at a3 o2 e2 ⊢
  have a23 := a2.trans a3
  refine ⟨d1, d2, _, _, rfl, rfl, a23 _ _ e1, e2, by rw [sizeLine_eq, List.length_take, List.length_singleton]; omega, fun d3 hd3 fr3 => ?_⟩
  have a4 := Same.new hd3 (.lst (xs.take j ++ [.ref t1]))
  have e3 : upd G2 d3 (.lst (xs.take j ++ [.ref t1])) d3 = some (.lst (xs.take j ++ [.ref t1])) := upd_same
  generalize upd G2 d3 (.lst (xs.take j ++ [.ref t1])) = G3 at a4 e3 ⊢
  clear fr3
  have sG := a1.trans (a23.trans a4)
  refine ⟨_, rfl, _, rfl, _, _, rfl, rfl, _, rfl, kl, xs, rfl, .of (sG _ _ hk8), ?_⟩
  rw [show cutV xs (some ((fun i j => i + j) (j : Int) 1)) none = xs.drop (j + 1) from cut_from xs (j + 1) (by omega)]
  refine fun d4 hd4 fr4 => ?_
  have a5 := Same.new hd4 (.lst (xs.drop (j + 1)))
  have e4 : upd G3 d4 (.lst (xs.drop (j + 1))) d4 = some (.lst (xs.drop (j + 1))) := upd_same
  generalize upd G3 d4 (.lst (xs.drop (j + 1))) = G4 at a5 e4 ⊢
  clear fr4
  refine ⟨d3, d4, _, _, rfl, rfl, a5 _ _ e3, e4, by rw [sizeLine_eq, List.length_append, List.length_take, List.length_singleton, List.length_drop]; omega, fun d5 hd5 fr5 => ?_⟩
  have a6 := Same.new hd5 (.lst (xs.take j ++ [.ref t1] ++ xs.drop (j + 1)))
  have e5 : upd G4 d5 (.lst (xs.take j ++ [.ref t1] ++ xs.drop (j + 1))) d5 = some (.lst (xs.take j ++ [.ref t1] ++ xs.drop (j + 1))) := upd_same
  have kd5 : K.lookup d5 = none := fr5 d5 (by rw [upd_same]; simp)
  generalize upd G4 d5 (.lst (xs.take j ++ [.ref t1] ++ xs.drop (j + 1))) = G5 at a6 e5 ⊢
  clear fr5
  have sT := a4.trans (a5.trans a6)
  have s5' := a1.trans (a23.trans sT)
  have fu5 : Fq K G5 134 ua uq := (fu.same s5').mono (by omega)
  have kq : Ka K G5 134 (.ref t1) (kj.1, uq) := ⟨t1, pa, ua, rfl, ob_same sT o2, fp8.same s5', fu5⟩
  have ktO : Kts K G5 134 (xs.take j ++ [.ref t1] ++ xs.drop (j + 1)) (ks.take j ++ [(kj.1, uq)] ++ ks.drop (j + 1)) := (((kt8.same s5').take j).cat (.one kq)).cat ((kt8.same s5').drop (j + 1))
  have gO := good_put g ej fu.nf
  have lO : (ks.take j ++ [(kj.1, uq)] ++ ks.drop (j + 1)).length ≤ 8 := by rw [len_put hj]; exact l8
  have nO := ne_put ej ne
  have st5 := st8.same s5'
  have kp5 := kp8.trans (Kp.same s5')
  clear a1 a2 a3 a4 a5 a6 e1 e2 e3 e4 sT s5' sG a23 o2 kq fu5 fp8 fp7 fp fl fu ex ot hd1 hd2 hd3 hd4 hd5 ht1 kt1 kd2 hk8 kt8 kp8 st8
  intro oc dx hcn hdn hne
  refine ⟨G5, oc, dx, d5, _, _, 134, rfl, same_make hcn hdn, hcn, upd_same, (ob_none kd5).trans e5, ktO, gO, lO, by omega, fun G6 s6 slO => ⟨rfl, ?_⟩⟩
  clear hcn hdn hne e5 ktO kd5
  generalize ks.take j ++ [(kj.1, uq)] ++ ks.drop (j + 1) = os at gO lO nO slO
  have st6 := st5.same s6
  have kp6 := kp5.trans (Kp.same s6)
  clear st5 kp5 s6 hk5 kt5 ej nlr ne
  have hk6 := kp6 _ _ nk hk
  have kt6 := kt.kps kp6 hS
  refine ⟨_, rfl, kl, xs, rfl, .inl (.of hk6), fun d6 hd6 fr6 => ?_⟩
  have a1 := Same.new hd6 (.lst xs)
  have e1 : upd G6 d6 (.lst xs) d6 = some (.lst xs) := upd_same
  have kd6 : K.lookup d6 = none := fr6 d6 (by rw [upd_same]; simp)
  generalize upd G6 d6 (.lst xs) = G7 at a1 e1 ⊢
  intro ac dx hcn hdn hne
  refine ⟨G7, ac, dx, d6, _, _, 134, rfl, same_make hcn hdn, hcn, upd_same, (ob_none kd6).trans e1, kt6.same a1, g, l8, by omega, fun G8 s8 slA => ⟨rfl, ?_⟩⟩
  clear hcn hdn hne e1 kd6 fr6
  have a18 := a1.trans s8
  have st8 := st6.same a18
  have kp8 := kp6.trans (Kp.same a18)
  have slO := slO.same a18
  have slC := hc.kps kp8 hS
  have hk8 := kp8 _ _ nk hk
  have kt8 := kt.kps kp8 hS
  clear a18 a1 s8 hd6 st6 kp6 hk6 kt6
  refine ⟨_, rfl, _, rfl, uEq IC slC slA l8 l8 ?_⟩
  rw [decide_eq_true (rfl : ks = ks)]
  refine ⟨_, rfl, if_no rfl ?_⟩
  refine ⟨_, rfl, _, rfl, uNe IC slC slA l8 l8 ?_⟩
  rw [decide_eq_true (rfl : ks = ks)]
  refine ⟨_, rfl, if_no rfl ?_⟩
  refine ⟨_, rfl, _, rfl, uEq IC slC slO l8 lO ?_⟩
  rw [decide_eq_false nO]
  refine ⟨_, rfl, if_no rfl ?_⟩
  refine ⟨_, rfl, _, rfl, uNe IC slC slO l8 lO ?_⟩
  rw [decide_eq_false nO]
  refine ⟨_, rfl, if_no rfl ?_⟩
  refine ⟨KHMid (K := K) s c kl tl oc ac j pa la ua H, ?_, ?_⟩
  · have xne : xs ≠ [] := fun e => by rw [e] at hj'; cases hj'
    refine ⟨_, rfl, kl, rfl, xs, itsO_ofL ((ob_none kk).trans hk8), _, _, rfl, rfl, _, rfl, ite2 (fun h1 => ?_) (fun h1 => ?_)⟩
    · have h2 : 2 ≤ ks.length := by
        have := of_decide_eq_true h1
        omega
      obtain ⟨kL, eL⟩ : ∃ k, ks[ks.length - 1]? = some k := ⟨_, List.getElem?_eq_getElem (by omega)⟩
      obtain ⟨xL, exL, tL, pL, lL, rfl, otL, fpL, flL⟩ := kt8.get eL
      have eaL : atI xs (-1) = some (.ref tL) := (atI_m1 xne).trans (by rw [hkl]; exact exL)
      obtain ⟨nP, nQ⟩ := g.nf _ (List.mem_of_getElem? eL)
      have up1 : qv kL.1 < 1 := by
        obtain ⟨k0, _, x2, _, _⟩ := ext_last g
        have y := g.asc (ks.length - 1) kL _ ((ext_at (by omega)).mpr eL) (by rw [show ks.length - 1 + 1 = ks.length by omega]; exact x2)
        rw [show qv (((1, 1) : Qt), k0.2).1 = 1 from qv11] at y
        exact y
      refine ⟨sz2 (by show 2 ≤ 100; decide), fun q1 hq1 kq1 => ?_⟩
      have a1 := Same.new hq1 (.tup [.int 1, .int 2])
      have o1 := ob_new (K := K) (H := G8) (o := .tup [.int 1, .int 2]) kq1
      generalize upd G8 q1 (.tup [.int 1, .int 2]) = G9 at a1 o1 ⊢
      refine ⟨_, rfl, _, rfl, kl, -1, rfl, rfl, xs, itsO_ofL ((ob_none kk).trans (a1 _ _ hk8)), _, eaL, tL, 0, rfl, rfl, _, itsO_of (ob_same a1 otL), _, atI_0 _ _, sz2 (by show 2 ≤ 100; decide), fun q2 hq2 kq2 => ?_⟩
      have a2 := Same.new hq2 (.tup [.int 1, .int 1])
      have o2 := ob_new (K := K) (H := G9) (o := .tup [.int 1, .int 1]) kq2
      generalize upd G9 q2 (.tup [.int 1, .int 1]) = GA at a2 o2 ⊢
      refine av_sum (fpL.same (a1.trans a2)) (⟨o2, nf11, sz10 (by decide) (by decide)⟩ : Fq K GA 10 q2 (1, 1)) fun y ya GB ey sy fy => ?_
      refine av_pro (⟨ob_same (a2.trans sy) o1, nf12, sz10 (by decide) (by decide)⟩ : Fq K GB 10 q1 (1, 2)) fy fun z za GC ez sz fz => ?_
      have sC := a1.trans (a2.trans (sy.trans sz))
      have hkC := sC _ _ hk8
      refine ⟨_, rfl, _, rfl, _, rfl, kl, xs, rfl, .of hkC, ?_⟩
      rw [show cutV xs none (some ((fun i => -i) (1 : Int))) = xs.take (xs.length - 1) from cut_m1 xs]
      refine fun d1 hd1 fr1 => ?_
      have b1 := Same.new hd1 (.lst (xs.take (xs.length - 1)))
      have e1 : upd GC d1 (.lst (xs.take (xs.length - 1))) d1 = some (.lst (xs.take (xs.length - 1))) := upd_same
      generalize upd GC d1 (.lst (xs.take (xs.length - 1))) = GD at b1 e1 ⊢
      clear fr1
      refine ⟨_, rfl, _, rfl, _, rfl, kl, -1, rfl, rfl, xs, itsO_ofL ((ob_none kk).trans (b1 _ _ hkC)), _, eaL, tL, 1, rfl, rfl, _, itsO_of (ob_same (sC.trans b1) otL), _, atI_1 _ _ _, sz2 (by show 2 ≤ 100; decide), fun t2 ht2 kt2 => ⟨sz2 (by show 1 ≤ 100; decide), fun d2 hd2 kd2 => ?_⟩⟩
      have b2 := Same.new ht2 (.tup [.ref za, .ref lL])
      have b3 := Same.new hd2 (.lst [.ref t2])
      have o3 := ob_same b3 (ob_new (K := K) (o := .tup [.ref za, .ref lL]) kt2)
      have e2 : upd (upd GD t2 (.tup [.ref za, .ref lL])) d2 (.lst [.ref t2]) d2 = some (.lst [.ref t2]) := upd_same
      generalize upd (upd GD t2 (.tup [.ref za, .ref lL])) d2 (.lst [.ref t2]) = GE at b3 o3 e2 ⊢
      have b23 := b2.trans b3
      refine ⟨d1, d2, _, _, rfl, rfl, b23 _ _ e1, e2, by rw [sizeLine_eq, List.length_take, List.length_singleton]; omega, fun d3 hd3 fr3 => ?_⟩
      have b4 := Same.new hd3 (.lst (xs.take (xs.length - 1) ++ [.ref t2]))
      have e3 : upd GE d3 (.lst (xs.take (xs.length - 1) ++ [.ref t2])) d3 = some (.lst (xs.take (xs.length - 1) ++ [.ref t2])) := upd_same
      have kd3 : K.lookup d3 = none := fr3 d3 (by rw [upd_same]; simp)
      generalize upd GE d3 (.lst (xs.take (xs.length - 1) ++ [.ref t2])) = GF at b4 e3 ⊢
      clear fr3
      have sF := b1.trans (b23.trans b4)
      have s8F := sC.trans sF
      have ez' : qv z = (qv kL.1 + 1) / 2 := by
        rw [ez, ey, qv12, qv11]
        grind
      have z0 : qv kL.1 < qv z := by grind
      have z1 : qv z < 1 := by grind
      have gP := good_last g h2 eL fz.nf nQ z0 z1
      have nP := ne_last (z := z) (l := kL.2) (by omega) eL z0
      have lP : (ks.take (ks.length - 1) ++ [(z, kL.2)]).length ≤ 8 := by rw [List.length_append, List.length_take, List.length_singleton]; omega
      have kq : Ka K GF 200 (.ref t2) (z, kL.2) := ⟨t2, za, lL, rfl, ob_same b4 o3, (fz.same sF).mono (by omega), (flL.same s8F).mono (by omega)⟩
      have ktP : Kts K GF 200 (xs.take (xs.length - 1) ++ [.ref t2]) (ks.take (ks.length - 1) ++ [(z, kL.2)]) := by
        rw [hkl]
        exact (((kt8.same s8F).mono (by omega)).take (ks.length - 1)).cat (.one kq)
      have kpF := kp8.trans (Kp.same s8F)
      have stF := st8.same s8F
      have slF := slC.same s8F
      clear a1 a2 sy sz b1 b2 b3 b4 e1 e2 b23 sF o3 o1 o2 ey ez ez' fz fy hkC sC hd1 hd2 hd3 ht2 kt2 kd2 hq1 hq2 kq1 kq2 kq
      intro pc dx hcn hdn hne
      refine ⟨GF, pc, dx, d3, _, _, 200, rfl, same_make hcn hdn, hcn, upd_same, (ob_none kd3).trans e3, ktP, gP, lP, by omega, fun GG sg slP => ⟨rfl, ?_⟩⟩
      clear hcn hdn hne e3 ktP kd3
      have slG := slF.same sg
      refine ⟨_, rfl, _, rfl, uEq IC slG slP l8 lP ?_⟩
      rw [decide_eq_false nP]
      refine ⟨_, rfl, if_no rfl ?_⟩
      refine ⟨_, rfl, _, rfl, uNe IC slG slP l8 lP ?_⟩
      rw [decide_eq_false nP]
      refine ⟨_, rfl, if_no rfl ?_⟩
      refine ⟨_, rfl, _, rfl, uEq IC slP slG lP l8 ?_⟩
      rw [decide_eq_false nP.symm]
      refine ⟨_, rfl, if_no rfl ?_⟩
      exact ⟨_, _, rfl, kpF.trans (Kp.same sg), stF.same sg⟩
    · exact ⟨_, _, rfl, kp8, st8⟩
  · rintro σ H9 ⟨x10, x11, rfl, kp9, st9⟩
    have hk9 := kp9 _ _ nk hk
    have sl9 := hc.kps kp9 hS
    have kt9 := kt.kps kp9 hS
    refine ⟨_, rfl, _, rfl, kl, xs, rfl, .inl ⟨.of hk9, fun T hT frT => ?_⟩⟩
    have a1 := Same.new hT (.tup xs)
    have kT : K.lookup T = none := frT T (by rw [upd_same]; simp)
    have oT := ob_new (K := K) (H := H9) (o := .tup xs) kT
    generalize upd H9 T (.tup xs) = G1 at a1 oT ⊢
    clear frT
    refine fun dn hdn kdn => ⟨sz2 (by show 2 ≤ 100; decide), fun z1 hz1 kz1 => fun cy dx hcn hdn' hne => ?_⟩
    have a2 := Same.new hdn (.dK [])
    have oD := ob_new (K := K) (H := G1) (o := .dK []) kdn
    generalize upd G1 dn (.dK []) = G2 at a2 oD hz1 hcn hdn' ⊢
    have a3 := Same.new hz1 (.tup [.int 0, .int 1])
    have oz := ob_new (K := K) (H := G2) (o := .tup [.int 0, .int 1]) kz1
    generalize upd G2 z1 (.tup [.int 0, .int 1]) = G3 at a3 oz hcn hdn' ⊢
    refine ⟨G3, cy, dx, z1, zd, (0, 1), (0, 1), 1, rfl, same_make hcn hdn', hcn, upd_same, ⟨oz, nf01, sz01 (Nat.le_refl 1)⟩, ⟨⟨ZD _, nf01, sz01 (Nat.le_refl 1)⟩, by decide, by decide⟩, by omega, fun G4 s4 hcy => ⟨rfl, sz2 (by show 8 ≤ 100; decide), fun L hL kL => ?_⟩⟩
    clear hcn hdn' hne
    have a5 := Same.new hL (.lst [.non, .int 0, .bl true, .ref kl, .ref T, .str "slot", .ref dn, .ref cy])
    have hL' : upd G4 L (.lst [.non, .int 0, .bl true, .ref kl, .ref T, .str "slot", .ref dn, .ref cy]) L = some (.lst [.non, .int 0, .bl true, .ref kl, .ref T, .str "slot", .ref dn, .ref cy]) := upd_same
    generalize upd G4 L (.lst [.non, .int 0, .bl true, .ref kl, .ref T, .str "slot", .ref dn, .ref cy]) = G5 at a5 hL' ⊢
    have s45 := s4.trans a5
    have sT := a1.trans (a2.trans (a3.trans s45))
    have no : ∀ v ∈ [V.non, .int 0, .bl true, .ref kl, .ref T, .str "slot", .ref dn, .ref cy], NoSl K C G5 v := fun v hv => by
      simp only [List.mem_cons, List.not_mem_nil, or_false] at hv
      rcases hv with rfl | rfl | rfl | rfl | rfl | rfl | rfl | rfl
      · exact nosl_n KD (n := "NoneType") rfl
      · exact nosl_n KD (n := "int") rfl
      · exact nosl_n KD (n := "bool") rfl
      · exact nosl_lst KD ((ob_none kk).trans (sT _ _ hk9))
      · exact nosl_tup KD (ob_same (a2.trans (a3.trans s45)) oT)
      · exact nosl_n KD (n := "str") rfl
      · exact nosl_dct KD (ob_same (a3.trans s45) oD)
      · obtain ⟨dxc, ra, sa, v, hi, _⟩ := hcy.same a5
        exact ⟨_, .base (.ins hi ICY.cl ICY.ha ICY.hn ICY.htk ICY.hm), KD.sp⟩
    have kpT := kp9.trans (Kp.same sT)
    have stT := st9.same sT
    have slT := sl9.same sT
    have hkT := sT _ _ hk9
    have ktT := kt9.same sT
    clear a1 a2 a3 a5 s4 s45 sT hcy oT oD oz hL hT hdn hz1 kL kT kdn kz1 sl9 hk9 kt9 st9 kp9
    refine ⟨L, rfl, ⟨_, .of hL'⟩, forI_list (xs := [.non, .int 0, .bl true, .ref kl, .ref T, .str "slot", .ref dn, .ref cy]) (fun i σ H' => ∃ x12, σ = [some (V.ref s), some (.ref c), some (.ref kl), some (.ref tl), some (.int j), some (.ref pa), some (.ref la), some (.ref ua), some (.ref oc), some (.ref ac), x10, x11, x12, none] ∧ H' = G5) ⟨none, rfl, rfl⟩ ?_ ?_ ?_⟩
    · rintro i σ H' _ ⟨x12, rfl, rfl⟩
      exact .of hL'
    · rintro i v σ H' hv ⟨x12, rfl, rfl⟩
      have nv := no v (List.mem_of_getElem? hv)
      refine ⟨_, rfl, _, rfl, uEqN slT nv ?_⟩
      refine ⟨_, rfl, if_no rfl ?_⟩
      refine ⟨_, rfl, _, rfl, uNeN slT nv ?_⟩
      refine ⟨_, rfl, if_no rfl ?_⟩
      exact ⟨_, rfl, rfl⟩
    · rintro σ H' ⟨x12, rfl, rfl⟩
      obtain ⟨dx2, t2, u2, hi2, _, _⟩ := id slT
      refine ⟨_, rfl, c, dx2, _, rfl, hi2, c, ks, 134, rfl, slT, fun l3 ys3 G6 hl3 kl3 h3 s3 kt3 => ?_⟩
      exact ⟨_, rfl, _, _, rfl, eqv_kts ((ob_none kl3).trans h3) ((ob_none kk).trans (s3 _ _ hkT)) kt3 (ktT.same s3) l8, fun G7 s7 => q G7 (kpT.trans (Kp.same (s3.trans s7))) (stT.same (s3.trans s7))⟩

end
end My

namespace My
open PySem PySem.Spec PyProof.Rows L2
section
variable {P : Program} {w : World} {K : PySem.W.Frag} {mg : Str → Option Value} {base : Heap}
/-! ### what heaps keep of data -/
/-- from H to H' all that is told by kind stays; the lists of F may be written -/
def Stp (K : PySem.W.Frag) (F : Addr → Prop) (H H' : Hp) : Prop := ∀ a z, ob K H a = some z → (tyO (some z)).isSome → ob K H' a = some z ∨ (F a ∧ ∃ ys zs, z = .lst ys ∧ ob K H' a = some (.lst zs))
theorem Stp.refl (F : Addr → Prop) (H : Hp) : Stp K F H H := fun _ _ h _ => .inl h
theorem Stp.trans {F : Addr → Prop} {H H' H'' : Hp} (p : Stp K F H H') (q : Stp K F H' H'') : Stp K F H H'' := fun a z h t => by
  rcases p a z h t with e | ⟨f, ys, zs, rfl, e⟩
  · exact q a z e t
  · rcases q a _ e rfl with e2 | ⟨_, ys', zs', ee, e2⟩
    · exact .inr ⟨f, ys, zs, rfl, e2⟩
    · exact .inr ⟨f, ys, zs', rfl, e2⟩
theorem Stp.of_same {F : Addr → Prop} {H H' : Hp} (s : Same H H') : Stp K F H H' := fun _ _ h _ => .inl (ob_same s h)
theorem Stp.of_kp {F : Addr → Prop} {s : Addr} {H H' : Hp} (k : Kp s H H') (st : Sto K H s) (st' : Sto K H' s) (hF : F s) : Stp K F H H' := fun a z h _ => by
  by_cases c : a = s
  · subst c
    obtain ⟨ys, hy⟩ := st.ob
    obtain ⟨zs, hz⟩ := st'.ob
    rw [hy] at h
    cases h
    exact .inr ⟨hF, ys, zs, rfl, hz⟩
  · exact .inl (ob_kp2 k c h)
theorem Stp.of_put {F : Addr → Prop} {H : Hp} {D : Addr} {ys zs : List V} (hD : H D = some (.lst ys)) (hF : F D) : Stp K F H (upd H D (.lst zs)) := fun a z h t => by
  unfold ob at h ⊢
  split
  · rename_i o ho
    rw [ho] at h
    exact .inl h
  · rename_i ho
    rw [ho] at h
    by_cases c : a = D
    · subst c
      rw [hD] at h
      cases h
      exact .inr ⟨hF, ys, zs, rfl, upd_same⟩
    · rw [upd_ne c]
      exact .inl h
theorem Stp.weak {F G : Addr → Prop} {H H' : Hp} (p : Stp K F H H') (w : ∀ a, F a → G a) : Stp K G H H' := fun a z h t => (p a z h t).imp id fun ⟨f, x⟩ => ⟨w a f, x⟩
theorem tup_stp {F : Addr → Prop} {H H' : Hp} {a : Addr} {xs : List V} (p : Stp K F H H') (h : ob K H a = some (.tup xs)) : ob K H' a = some (.tup xs) := by
  rcases p a _ h rfl with e | ⟨_, ys, zs, e, _⟩
  · exact e
  · cases e
theorem lst_stp {F : Addr → Prop} {H H' : Hp} {a : Addr} {xs : List V} (p : Stp K F H H') (n : ¬F a) (h : ob K H a = some (.lst xs)) : ob K H' a = some (.lst xs) := by
  rcases p a _ h rfl with e | ⟨f, _⟩
  · exact e
  · exact absurd f n
theorem ty_stp {F : Addr → Prop} {H H' : Hp} {v : V} {t : String} (p : Stp K F H H') (h : tyN K H v = some t) : tyN K H' v = some t := by
  cases v with
  | ref a =>
    rw [tyN_ref] at h ⊢
    cases e : ob K H a with
    | none => rw [e] at h; cases h
    | some z =>
      rw [e] at h
      rcases p a z e (by rw [h]; rfl) with e2 | ⟨_, ys, zs, rfl, e2⟩
      · rw [e2]
        exact h
      · rw [e2]
        exact h
  | _ => exact h
theorem tys_stp {F : Addr → Prop} {H H' : Hp} {v : V} (p : Stp K F H H') (h : (tyN K H v).isSome) : (tyN K H' v).isSome := by
  obtain ⟨t, ht⟩ := Option.isSome_iff_exists.mp h
  rw [ty_stp p ht]
  rfl
/-- its items, if it is a tuple, are the same -/
theorem back_stp {F : Addr → Prop} {H H' : Hp} {a : Addr} {xs : List V} (p : Stp K F H H') (h : (tyN K H (.ref a)).isSome) (o : ob K H' a = some (.tup xs)) : ob K H a = some (.tup xs) := by
  rw [tyN_ref] at h
  cases e : ob K H a with
  | none => rw [e] at h; cases h
  | some z =>
    rw [e] at h
    rcases p a z e h with e2 | ⟨_, ys, zs, rfl, e2⟩
    · rw [e2] at o
      exact o
    · rw [e2] at o
      cases o
theorem Tyd.stp {F : Addr → Prop} {H H' : Hp} {v : V} (p : Stp K F H H') (h : Tyd K H v) : Tyd K H' v := ⟨tys_stp p h.1, fun a xs e o x hx => by
  subst e
  exact tys_stp p (h.2 a xs rfl (back_stp p h.1 o) x hx)⟩
theorem frOk_stp {F : Addr → Prop} {H H' : Hp} {v : V} (p : Stp K F H H') (h : (tyN K H v).isSome) : frOk K H' v = frOk K H v := by
  cases e : frOk K H v with
  | true =>
    obtain ⟨a, z, rfl, ho, hn⟩ := frOk_inv e
    exact frOk_fr (tup_stp p ho) hn
  | false =>
    cases e' : frOk K H' v with
    | false => rfl
    | true =>
      obtain ⟨a, z, rfl, ho, hn⟩ := frOk_inv e'
      rw [frOk_fr (back_stp p h ho) hn] at e
      cases e
theorem plOk_stp {F : Addr → Prop} {H H' : Hp} {v : V} (p : Stp K F H H') (h : (tyN K H v).isSome) : plOk K H' v = plOk K H v := by
  cases e : frOk K H v with
  | true =>
    obtain ⟨a, z, rfl, ho, hn⟩ := frOk_inv e
    rw [plOk_fr ho hn, plOk_fr (tup_stp p ho) hn]
  | false => rw [plOk_no e, plOk_no (by rw [frOk_stp p h]; exact e)]
theorem Fq.stp {F : Addr → Prop} {H H' : Hp} {n : Nat} {a : Addr} {q : Qt} (h : Fq K H n a q) (p : Stp K F H H') : Fq K H' n a q := ⟨tup_stp p h.o, h.nf, h.sz⟩
theorem Ka.stp {F : Addr → Prop} {H H' : Hp} {n : Nat} {v : V} {k : Kt} (h : Ka K H n v k) (p : Stp K F H H') : Ka K H' n v k := by
  obtain ⟨t, a, b, e, o, f, g⟩ := h
  exact ⟨t, a, b, e, tup_stp p o, f.stp p, g.stp p⟩
theorem Kts.stp {F : Addr → Prop} {H H' : Hp} {n : Nat} {xs : List V} {ks : List Kt} (h : Kts K H n xs ks) (p : Stp K F H H') : Kts K H' n xs ks := ⟨h.1, fun i x k a b => (h.2 i x k a b).stp p⟩
theorem Gd.stp {F : Addr → Prop} {H H' : Hp} {v : V} (h : Gd K H v) (p : Stp K F H H') : Gd K H' v := ⟨h.ty.stp p, by rw [frOk_stp p h.ty.1]; exact h.no⟩
/-! ### what is no list of knots -/
/-- a value that is judged as a knot -/
def JK (K : PySem.W.Frag) (H : Hp) (v : V) (b : Bool) : Prop := (∃ t, tyN K H v = some t ∧ t ≠ "tuple" ∧ b = false) ∨ ∃ a xs, v = .ref a ∧ ob K H a = some (.tup xs) ∧ ((xs.length ≠ 2 ∧ b = false) ∨ ∃ x y, xs = [x, y] ∧ Tyd K H x ∧ Tyd K H y ∧ b = (plOk K H x && frOk K H y))
theorem JK.stp {F : Addr → Prop} {H H' : Hp} {v : V} {b : Bool} (p : Stp K F H H') (h : JK K H v b) : JK K H' v b := by
  rcases h with ⟨t, ht, n, e⟩ | ⟨a, xs, rfl, o, h⟩
  · exact .inl ⟨t, ty_stp p ht, n, e⟩
  · refine .inr ⟨a, xs, rfl, tup_stp p o, h.imp id fun ⟨x, y, e, tx, ty, eb⟩ => ⟨x, y, e, tx.stp p, ty.stp p, by rw [plOk_stp p tx.1, frOk_stp p ty.1]; exact eb⟩⟩
theorem JK.yes {H : Hp} {n : Nat} {v : V} {k : Kt} (h : Ka K H n v k) (h0 : 0 ≤ k.1.1) (h1 : k.1.1 < k.1.2) : JK K H v true := by
  obtain ⟨t, a, b, rfl, o, f, g⟩ := h
  exact .inr ⟨t, _, rfl, o, .inr ⟨_, _, rfl, Tyd.fr f.o, Tyd.fr g.o, by rw [pl_ok f h0 h1, frOk_fr g.o g.nf]; rfl⟩⟩
/-- the knots of a slot -/
def Plc (ks : List Kt) : Prop := ∀ k ∈ ks, Nf k.1 ∧ Nf k.2 ∧ 0 ≤ k.1.1 ∧ k.1.1 < k.1.2
theorem Good.plc {ks : List Kt} (g : Good ks) : Plc ks := fun k hk => by
  obtain ⟨i, hi, e⟩ := List.getElem_of_mem hk
  obtain ⟨_, _, _, p0, p1⟩ := g.at (i := i) (k := k) (by rw [List.getElem?_eq_getElem hi, e])
  exact ⟨(g.nf k hk).1, (g.nf k hk).2, p0, p1⟩
/-- in no order, or not from 0 -/
def NoOrd (ks : List Kt) : Prop := (∃ k, ks[0]? = some k ∧ k.1 ≠ (0, 1)) ∨ ∃ i k k', ks[i]? = some k ∧ ks[i + 1]? = some k' ∧ ¬ qv k.1 < qv k'.1
/-- a list that is judged as knots -/
def BadL (K : PySem.W.Frag) (H : Hp) (xs : List V) : Prop := (xs.length = 0 ∨ 8 < xs.length) ∨ (1 ≤ xs.length ∧ xs.length ≤ 8 ∧ ∃ bs : List Bool, bs.length = xs.length ∧ (∀ (i : Nat) x b, xs[i]? = some x → bs[i]? = some b → JK K H x b) ∧
  (false ∈ bs ∨ ∃ (ks : List Kt) (n : Nat), Kts K H n xs ks ∧ n ≤ 3000 ∧ Plc ks ∧ NoOrd ks ∧ bs = List.replicate xs.length true))
theorem BadL.stp {F : Addr → Prop} {H H' : Hp} {xs : List V} (p : Stp K F H H') (h : BadL K H xs) : BadL K H' xs := by
  rcases h with h | ⟨h1, h2, bs, hl, hb, h⟩
  · exact .inl h
  · exact .inr ⟨h1, h2, bs, hl, fun i x b e1 e2 => (hb i x b e1 e2).stp p, h.imp id fun ⟨ks, n, kt, hn, pl, no, e⟩ => ⟨ks, n, kt.stp p, hn, pl, no, e⟩⟩
/-- a value that is no list of knots, and none of F -/
def BadK (K : PySem.W.Frag) (F : Addr → Prop) (H : Hp) (v : V) : Prop := (∃ t, tyN K H v = some t ∧ t ≠ "list") ∨ ∃ a xs, v = .ref a ∧ ob K H a = some (.lst xs) ∧ ¬F a ∧ BadL K H xs
theorem BadK.stp {F : Addr → Prop} {H H' : Hp} {v : V} (h : BadK K F H v) (p : Stp K F H H') : BadK K F H' v := by
  rcases h with ⟨t, ht, n⟩ | ⟨a, xs, rfl, o, n, h⟩
  · exact .inl ⟨t, ty_stp p ht, n⟩
  · exact .inr ⟨a, xs, rfl, lst_stp p n o, n, h.stp p⟩
theorem BadK.weak {F G : Addr → Prop} {H : Hp} {v : V} (h : BadK K F H v) (w : ∀ a z, ob K H a = some z → G a → F a) : BadK K G H v := h.imp id fun ⟨a, xs, e, o, n, b⟩ => ⟨a, xs, e, o, fun g => n (w a _ o g), b⟩
theorem bad_ord {H : Hp} {n : Nat} {xs : List V} {ks : List Kt} (kt : Kts K H n xs ks) (hn : n ≤ 3000) (h1 : 1 ≤ ks.length) (pl : Plc ks) (no : NoOrd ks) : BadL K H xs := by
  have hl := kt.1
  by_cases c : 8 < xs.length
  · exact .inl (.inr c)
  · refine .inr ⟨by omega, by omega, List.replicate xs.length true, List.length_replicate, fun i x b e1 e2 => ?_, .inr ⟨ks, n, kt, hn, pl, no, rfl⟩⟩
    obtain ⟨k, ek, hk⟩ := kt.at e1
    obtain ⟨_, _, p0, p1⟩ := pl k (List.mem_of_getElem? ek)
    rw [List.getElem?_replicate] at e2
    split at e2
    · cases e2
      exact JK.yes hk p0 p1
    · cases e2
/-- one item of a list of knots is none -/
theorem bad_at {H : Hp} {n : Nat} {xs ys : List V} {ks rs : List Kt} {x : V} (kt : Kts K H n xs ks) (rt : Kts K H n ys rs) (pl : Plc ks) (pr : Plc rs) (l8 : ks.length + rs.length ≤ 7) (j : JK K H x false) : BadL K H (xs ++ [x] ++ ys) := by
  have hl := kt.1
  have hr := rt.1
  have ln : (xs ++ [x] ++ ys).length = xs.length + 1 + ys.length := by rw [List.length_append, List.length_append, List.length_singleton]
  refine .inr ⟨by omega, by omega, List.replicate xs.length true ++ [false] ++ List.replicate ys.length true, by rw [ln, List.length_append, List.length_append, List.length_replicate, List.length_replicate, List.length_singleton], fun i y b e1 e2 => ?_, .inl (by simp)⟩
  have tt : ∀ {m i : Nat} {b : Bool}, (List.replicate m true)[i]? = some b → b = true := fun {m i b} e => by
    rw [List.getElem?_replicate] at e
    split at e
    · cases e
      rfl
    · cases e
  by_cases c : i < xs.length
  · rw [List.getElem?_append_left (by rw [List.length_append]; omega), List.getElem?_append_left c] at e1
    rw [List.getElem?_append_left (by rw [List.length_append, List.length_replicate]; omega), List.getElem?_append_left (by rw [List.length_replicate]; exact c)] at e2
    cases tt e2
    obtain ⟨k, ek, hk⟩ := kt.at e1
    obtain ⟨_, _, p0, p1⟩ := pl k (List.mem_of_getElem? ek)
    exact JK.yes hk p0 p1
  · by_cases c2 : i = xs.length
    · subst c2
      rw [List.getElem?_append_left (by rw [List.length_append, List.length_singleton]; omega), List.getElem?_append_right (Nat.le_refl _), Nat.sub_self] at e1
      rw [List.getElem?_append_left (by rw [List.length_append, List.length_replicate, List.length_singleton]; omega), List.getElem?_append_right (by rw [List.length_replicate]; exact Nat.le_refl _), List.length_replicate, Nat.sub_self] at e2
      cases e1
      cases e2
      exact j
    · rw [List.getElem?_append_right (by rw [List.length_append, List.length_singleton]; omega), List.length_append, List.length_singleton] at e1
      rw [List.getElem?_append_right (by rw [List.length_append, List.length_replicate, List.length_singleton]; omega)] at e2
      cases tt e2
      obtain ⟨k, ek, hk⟩ := rt.at e1
      obtain ⟨_, _, p0, p1⟩ := pr k (List.mem_of_getElem? ek)
      exact JK.yes hk p0 p1
end
end My

namespace My
open PySem PySem.Spec PyProof.Rows L2
section
variable {P : Program} {w : World} {K : PySem.W.Frag} {mg : Str → Option Value} {base : Heap}
def spListA (K : PySem.W.Frag) : Sp := fun vs H Q _ => ∃ (v : V) (lo hi : Int), vs = [v, .int lo, .int hi] ∧ ((∃ (a : Addr) (xs : List V), v = .ref a ∧ ob K H a = some (.lst xs) ∧ Q (.bl (decide (lo ≤ (xs.length : Int)) && decide ((xs.length : Int) ≤ hi))) H) ∨ ∃ t, tyN K H v = some t ∧ t ≠ "list" ∧ Q (.bl false) H)
def spTupA (K : PySem.W.Frag) : Sp := fun vs H Q _ => ∃ (v : V) (n : Int), vs = [v, .int n] ∧ ((∃ (a : Addr) (xs : List V), v = .ref a ∧ ob K H a = some (.tup xs) ∧ Q (.bl (decide ((xs.length : Int) = n))) H) ∨ ∃ t, tyN K H v = some t ∧ t ≠ "tuple" ∧ Q (.bl false) H)
def spKnotA (K : PySem.W.Frag) : Sp := fun vs H Q _ => ∃ (v : V) (b : Bool), vs = [v] ∧ JK K H v b ∧ Q (.bl b) H
def spAreX (K : PySem.W.Frag) : Sp := fun vs H Q _ => ∃ (v : V) (F : Addr → Prop), vs = [v] ∧ BadK K F H v ∧ ∀ H', Same H H' → Q (.bl false) H'
def BsI (D : Addr) (bs : List Bool) (H0 : Hp) (i : Nat) (H' : Hp) : Prop := H' D = some (.lst ((bs.take i).map V.bl)) ∧ Same H0 H'
theorem bs_snoc {D : Addr} {bs : List Bool} {H0 H' : Hp} {i : Nat} {b : Bool} (h : BsI D bs H0 i H') (hD : H0 D = none) (e : bs[i]? = some b) : BsI D bs H0 (i + 1) (upd H' D (.lst ((bs.take i).map V.bl ++ [.bl b]))) := by
  refine ⟨?_, fun c o x => ?_⟩
  · rw [upd_same, List.take_succ, e, List.map_append]
    rfl
  · rw [upd_ne (ne_of_none x hD)]
    exact h.2 c o x
/-- where the places ascend -/
def asc (ks : List Kt) : List Bool := (List.range (ks.length - 1)).map fun i => match ks[i]?, ks[i + 1]? with
  | some k, some k' => decide (qv k.1 < qv k'.1)
  | _, _ => true
theorem asc_len (ks : List Kt) : (asc ks).length = ks.length - 1 := by unfold asc; rw [List.length_map, List.length_range]
theorem asc_at {ks : List Kt} {i : Nat} {k k' : Kt} (h : ks[i]? = some k) (h' : ks[i + 1]? = some k') : (asc ks)[i]? = some (decide (qv k.1 < qv k'.1)) := by
  have l := (List.getElem?_eq_some_iff.mp h').1
  unfold asc
  rw [List.getElem?_map, List.getElem?_range (by omega)]
  simp only [Option.map_some, h, h']
abbrev sListA : Stmt := topS 18
theorem scListA : FnScope ["value", "least", "most"] ["value", "least", "most"] (defScope sListA) := ⟨rfl, rfl, rfl, by decide +kernel, rfl, by decide +kernel, by decide +kernel⟩
theorem k_ListA (T : Bt K mg) (D : Dfn K mg "is_list_within" sListA ["value", "least", "most"]) : Kn P w K mg base 1 "is_list_within" ["value", "least", "most"] (spListA K) := by
  refine Kn.mk' D scListA (fun vs H Q E h => ?_) (fun f cdv A outer s H vs Q E hr h => ?_)
  · obtain ⟨v, lo, hi, rfl, _⟩ := h
    rfl
  obtain ⟨v, lo, hi, rfl, h⟩ := h
  refine ⟨_, (pss_one (ps_ret (pe_and (pe_callB call_isN (by rfl) T.b_isinstance (by decide +kernel) (pa_cons (pv 0) (pa_cons (pe_bltn (v := .ty "list") (by rfl) T.b_list (by decide +kernel) rfl) pa_nil))) (pe_one (pe_chain op_le op_le (pv 1) (pe_callB call_lenA (by rfl) T.b_len PySem.boot_len (pa_cons (pv 0) pa_nil)) (pv 2)))))), ?_⟩
  rcases h with ⟨a, xs, rfl, o, k⟩ | ⟨t, ht, nt, k⟩
  · have ty : tyN K H (.ref a) = some "list" := by rw [tyN_ref, o]; rfl
    have oi := itsO_ofL o
    refine ⟨_, rfl, _, _, rfl, by decide, _, ty, _, rfl, if_yes rfl ?_⟩
    simp only [tChain, oi, cx_K, decide_true, decide_false, reduceCtorEq, gTp, gCons, gNil, ca_0, ca_1, ca_2, ca_3, ca_4, ca_5, ca_6, ca_7, ca_8, ca_9, ca_10, ca_11, ca_12, ca_13, ca_14, ca_15, ca_16, ca_17, ca_18, ca_19, ca_20, ca_21, ca_22, ca_23, ca_24, ca_25, ca_26, ca_27, ca_28, ca_29, ca_30, not_true_eq_false, not_false_eq_true, Int.reduceEq, Nat.reduceEqDiff, Nat.reduceLeDiff, rGcd, V.ty.injEq, eq_self, List.not_mem_nil, beq_self_eq_true, HO.lst.injEq, HO.tup.injEq, tFor_eq, iRng1, iList, iTup, nat10, tSeq, rIxA, rSetA, rIsN, rIsT, tTp, tLs, itsO_tup, itsO_lst, tyO_tup, tyO_lst, tyO_dK, tyN_non, tyN_bl, tyN_int, tyN_str, tyN_ref, tyNs_lt, isB, upd_same, upd_upd, sizeLine_eq, List.mem_cons, String.reduceBEq, String.reduceEq, Bool.or_false, Bool.or_true, Bool.and_false, Bool.false_or, Bool.and_self, Bool.false_and, Bool.not_false, Bool.not_true, List.any_cons, List.any_nil, atI_0, setI_0, atI_1, setI_1, atI_2, setI_2, atI_3, setI_3, atI_4, setI_4, atI_5, setI_5, atI_6, setI_6, tAsg, gName, tOp, tUn, tVar, tC, tCons, L2.tNil, tRet, tIfS, tTest, tCB, tCall, rI, rI0, rU, tNext, tB, tAnd, tOr, tNot, tAndV, tOrV, tNotV, tDrop, tIf, tPar, gSub, rIxL, rIxT, rEq, rNe, rSetL, tBits,
    L2.start, List.map_cons, List.map_nil, List.cons_append, List.nil_append, List.append_nil, List.length_cons, List.length_nil, List.replicate, Nat.reduceAdd, Nat.reduceSub, Nat.zero_add, List.getElem?_cons_zero, List.getElem?_cons_succ, List.set_cons_zero, List.set_cons_succ,
    Option.some.injEq, exists_eq_left', exists_eq_left, V.int.injEq, V.bl.injEq, V.ref.injEq, V.str.injEq, List.cons.injEq, reduceCtorEq, and_true, true_and, false_and, and_false, exists_false, or_false, false_or, or_true, true_or, exists_const, CMul, CDiv, CPow, and_assoc, exists_and_left, exists_and_right, Int.reducePow, Int.reduceNeg, Int.reduceLT, Int.reduceLE, Nat.reducePow, Nat.reduceLT, Int.reduceToNat, gt_iff_lt, ge_iff_le, decide_eq_true_eq, Bool.not_eq_true', decide_eq_false_iff_not, scal, ↓reduceIte, Bool.false_eq_true]
    refine ite2 (fun h => ?_) (fun h => ?_)
    · rw [decide_eq_true h, Bool.true_and] at k
      exact k
    · rw [decide_eq_false h, Bool.false_and] at k
      exact k
  · refine ⟨_, rfl, _, _, rfl, by decide, _, ht, _, rfl, if_no ?_ k⟩
    have mt := tyN_mem ht
    simp only [List.mem_cons, List.not_mem_nil, or_false] at mt
    rcases mt with rfl | rfl | rfl | rfl | rfl | rfl | rfl <;> first | rfl | exact absurd rfl nt
abbrev sTupA : Stmt := topS 19
theorem scTupA : FnScope ["value", "many"] ["value", "many"] (defScope sTupA) := ⟨rfl, rfl, rfl, by decide +kernel, rfl, by decide +kernel, by decide +kernel⟩
theorem k_TupA (T : Bt K mg) (D : Dfn K mg "is_tuple_of" sTupA ["value", "many"]) : Kn P w K mg base 1 "is_tuple_of" ["value", "many"] (spTupA K) := by
  refine Kn.mk' D scTupA (fun vs H Q E h => ?_) (fun f cdv A outer s H vs Q E hr h => ?_)
  · obtain ⟨v, n, rfl, _⟩ := h
    rfl
  obtain ⟨v, n, rfl, h⟩ := h
  refine ⟨_, (pss_one (ps_ret (pe_and (pe_callB call_isN (by rfl) T.b_isinstance (by decide +kernel) (pa_cons (pv 0) (pa_cons (pe_bltn (v := .ty "tuple") (by rfl) T.b_tuple (by decide +kernel) rfl) pa_nil))) (pe_one (pe_cmpR op_eq (pe_callB call_lenA (by rfl) T.b_len PySem.boot_len (pa_cons (pv 0) pa_nil)) (pv 1) (nomark _)))))), ?_⟩
  rcases h with ⟨a, xs, rfl, o, k⟩ | ⟨t, ht, nt, k⟩
  · have ty : tyO (ob K H a) = some "tuple" := by rw [o]; rfl
    simp only [o, cx_K, decide_true, decide_false, reduceCtorEq, gTp, gCons, gNil, ca_0, ca_1, ca_2, ca_3, ca_4, ca_5, ca_6, ca_7, ca_8, ca_9, ca_10, ca_11, ca_12, ca_13, ca_14, ca_15, ca_16, ca_17, ca_18, ca_19, ca_20, ca_21, ca_22, ca_23, ca_24, ca_25, ca_26, ca_27, ca_28, ca_29, ca_30, not_true_eq_false, not_false_eq_true, Int.reduceEq, Nat.reduceEqDiff, Nat.reduceLeDiff, rGcd, V.ty.injEq, eq_self, List.not_mem_nil, beq_self_eq_true, HO.lst.injEq, HO.tup.injEq, tFor_eq, iRng1, iList, iTup, nat10, tSeq, rIxA, rSetA, rIsN, rIsT, tTp, tLs, itsO_tup, itsO_lst, tyO_tup, tyO_lst, tyO_dK, tyN_non, tyN_bl, tyN_int, tyN_str, tyN_ref, tyNs_lt, isB, upd_same, upd_upd, sizeLine_eq, List.mem_cons, String.reduceBEq, String.reduceEq, Bool.or_false, Bool.or_true, Bool.and_false, Bool.false_or, Bool.and_self, Bool.false_and, Bool.not_false, Bool.not_true, List.any_cons, List.any_nil, atI_0, setI_0, atI_1, setI_1, atI_2, setI_2, atI_3, setI_3, atI_4, setI_4, atI_5, setI_5, atI_6, setI_6, tAsg, gName, tOp, tUn, tVar, tC, tCons, L2.tNil, tRet, tIfS, tTest, tCB, tCall, rI, rI0, rU, tNext, tB, tAnd, tOr, tNot, tAndV, tOrV, tNotV, tDrop, tIf, tPar, gSub, rIxL, rIxT, rEq, rNe, rSetL, tBits,
    L2.start, List.map_cons, List.map_nil, List.cons_append, List.nil_append, List.append_nil, List.length_cons, List.length_nil, List.replicate, Nat.reduceAdd, Nat.reduceSub, Nat.zero_add, List.getElem?_cons_zero, List.getElem?_cons_succ, List.set_cons_zero, List.set_cons_succ,
    Option.some.injEq, exists_eq_left', exists_eq_left, V.int.injEq, V.bl.injEq, V.ref.injEq, V.str.injEq, List.cons.injEq, reduceCtorEq, and_true, true_and, false_and, and_false, exists_false, or_false, false_or, or_true, true_or, exists_const, CMul, CDiv, CPow, and_assoc, exists_and_left, exists_and_right, Int.reducePow, Int.reduceNeg, Int.reduceLT, Int.reduceLE, Nat.reducePow, Nat.reduceLT, Int.reduceToNat, gt_iff_lt, ge_iff_le, decide_eq_true_eq, Bool.not_eq_true', decide_eq_false_iff_not, scal, ↓reduceIte, Bool.false_eq_true]
    exact k
  · refine ⟨_, rfl, _, _, rfl, by decide, _, ht, _, rfl, if_no ?_ k⟩
    have mt := tyN_mem ht
    simp only [List.mem_cons, List.not_mem_nil, or_false] at mt
    rcases mt with rfl | rfl | rfl | rfl | rfl | rfl | rfl <;> first | rfl | exact absurd rfl nt
abbrev sKnotA : Stmt := topS 40
theorem scKnotA : FnScope ["value"] ["value"] (defScope sKnotA) := ⟨rfl, rfl, rfl, by decide +kernel, rfl, by decide +kernel, by decide +kernel⟩
theorem k_KnotA (T : Bt K mg) (D : Dfn K mg "_is_knot" sKnotA ["value"]) (d_is_tuple_of : Kn P w K mg base 1 "is_tuple_of" ["value", "many"] (spTupA K)) (d_is_place : Kn P w K mg base 3 "is_place" ["value"] (spIsPlace K)) (d_is_fraction : Kn P w K mg base 2 "is_fraction" ["value"] (spIsFraction K)) : Kn P w K mg base 4 "_is_knot" ["value"] (spKnotA K) := by
  refine Kn.mk' D scKnotA (fun vs H Q E h => ?_) (fun f cdv A outer s H vs Q E hr h => ?_)
  · obtain ⟨v, b, rfl, _⟩ := h
    rfl
  obtain ⟨v, b, rfl, h, q⟩ := h
  refine ⟨_, (pss_one (ps_ret (pe_and (pe_kn d_is_tuple_of hr (by rfl) (pa_cons (pv 0) (pa_cons pe_int pa_nil))) (pe_and (pe_kn d_is_place hr (by rfl) (pa_cons (pe_ix ix_any (pv 0) pe_int (fun _ _ => rfl)) pa_nil)) (pe_one (pe_kn d_is_fraction hr (by rfl) (pa_cons (pe_ix ix_any (pv 0) pe_int (fun _ _ => rfl)) pa_nil))))))), ?_⟩
  rcases h with ⟨t, ht, nt, rfl⟩ | ⟨a, xs, rfl, o, ⟨n2, rfl⟩ | ⟨x, y, rfl, tx, ty, rfl⟩⟩
  · exact ⟨_, rfl, v, 2, rfl, .inr ⟨t, ht, nt, _, rfl, if_no rfl q⟩⟩
  · refine ⟨_, rfl, .ref a, 2, rfl, .inl ⟨a, xs, rfl, o, ?_⟩⟩
    rw [decide_eq_false (show ¬ (xs.length : Int) = 2 by omega)]
    exact ⟨_, rfl, if_no rfl q⟩
  · refine ⟨_, rfl, .ref a, 2, rfl, .inl ⟨a, _, rfl, o, _, rfl, if_yes rfl ?_⟩⟩
    refine ⟨_, rfl, a, 0, rfl, rfl, _, itsO_of o, _, atI_0 _ _, x, rfl, tx, ?_⟩
    cases e : plOk K H x with
    | false =>
      rw [e, Bool.false_and] at q
      exact ⟨_, rfl, if_no rfl q⟩
    | true =>
      rw [e, Bool.true_and] at q
      exact ⟨_, rfl, if_yes rfl ⟨_, rfl, a, 1, rfl, rfl, _, itsO_of o, _, atI_1 _ _ _, y, rfl, ty, q⟩⟩
abbrev sAreX : Stmt := topS 39
theorem scAreX : FnScope ["value", "ascend", "knot", "after"] ["value"] (defScope sAreX) := ⟨rfl, rfl, rfl, by decide +kernel, rfl, by decide +kernel, by decide +kernel⟩
theorem blk_scAreX_0 : BlkOk ["value", "ascend", "knot", "after"] (defScope sAreX) { kind := .function, names := [(".0", .local), ("knot", .local), ("_is_knot", .globalImplicit)], isGenerator := false, isCoroutine := false, more := [] } [("knot", 2)] := ⟨rfl, by decide +kernel, by decide +kernel, by decide +kernel, by decide +kernel⟩
theorem blk_scAreX_1 : BlkOk ["value", "ascend", "knot", "after"] (defScope sAreX) { kind := .function, names := [(".0", .local), ("knot", .local), ("after", .local), ("compare", .globalImplicit)], isGenerator := false, isCoroutine := false, more := [] } [("knot", 2), ("after", 3)] := ⟨rfl, by decide +kernel, by decide +kernel, by decide +kernel, by decide +kernel⟩
theorem k_AreX {z0 o0 : Addr} {tkM : Tok} (C0 : Two01 K mg z0 o0) (gMK : mg "MOST_KNOTS" = some (.int 8 tkM)) (zA : mg "all" = none) (zZ : mg "zip" = none) (T : Bt K mg) (D : Dfn K mg "_are_knots" sAreX ["value"]) (d_is_list_within : Kn P w K mg base 1 "is_list_within" ["value", "least", "most"] (spListA K)) (d__is_knot : Kn P w K mg base 4 "_is_knot" ["value"] (spKnotA K)) (d_compare : Kn P w K mg base 3 "compare" ["left", "right"] (spCmp K)) : Kn P w K mg base 5 "_are_knots" ["value"] (spAreX K) := by
  refine Kn.mk' D scAreX (fun vs H Q E h => ?_) (fun f cdv A outer s H vs Q E hr h => ?_)
  · obtain ⟨v, F, rfl, _⟩ := h
    rfl
  obtain ⟨v, F, rfl, h, k⟩ := h
  refine ⟨_, (pss_cons (ps_if (PW.pt (pw_or (pt_not (pt_val (pe_kn d_is_list_within hr (by rfl) (pa_cons (pv 0) (pa_cons pe_int (pa_cons (pe_glob (v := .int 8) (by rfl) gMK ⟨_, rfl⟩) pa_nil)))))) (pw_or1 (pt_not (pt_val (pe_callB (cr_all rfl) (by rfl) zA (by decide +kernel) (pa_cons (pe_fr (pe_lc (own := [("knot", 2)]) (g := gName 2) (te := (tCall (spKnotA K) [] E0 (tCons (tVar 2) L2.tNil))) rfl scAreX.nd (pi_list (pv 0)) blk_scAreX_0 (fun _ _ _ _ _ => by exact pg_name (i := 2) scAreX.nd rfl (.inl rfl)) (fun _ _ _ _ _ => pts_nil) (fun _ _ _ _ _ => by exact (pe_kn d__is_knot hr (by rfl) (pa_cons (pv 2) pa_nil))))) pa_nil))))))) (pss_one (ps_ret pe_bl)) pss_nil)
      (pss_cons (ps_setLcF (i := 1) (own := [("knot", 2), ("after", 3)]) (g := gTup K 2 (gCons (gName 2) (gCons (gName 3) gNil))) (te := (tOp (rI0 fun i j => V.bl (decide (i < j))) (tCall (spCmp K) [] E0 (tCons (tOp (rIxA K) (tVar 2) (tC (.int 0))) (tCons (tOp (rIxA K) (tVar 3) (tC (.int 0))) L2.tNil))) (tC (.int 0)))) rfl scAreX.nd rfl rfl (sw_true rfl rfl rfl rfl) (pi_zip (by rfl) zZ (pa_cons (pv 0) (pa_cons (pe_fr (pe_slice sl_list (pv 0) (po_some pe_int) po_none)) pa_nil))) blk_scAreX_1 (fun _ _ _ _ _ => by exact pg_tup rfl (pgs_cons (pg_name (i := 2) scAreX.nd rfl (.inl rfl)) (pgs_cons (pg_name (i := 3) scAreX.nd rfl (.inl rfl)) pgs_nil))) (fun _ _ _ _ _ => pts_nil) (fun _ _ _ _ _ => by exact (pe_cmpR op_lt (pe_kn d_compare hr (by rfl) (pa_cons (pe_ix ix_any (pv 2) pe_int (fun _ _ => rfl)) (pa_cons (pe_ix ix_any (pv 3) pe_int (fun _ _ => rfl)) pa_nil))) pe_int (nomark _))))
      (pss_one (ps_ret (pe_and (pe_cmpR (op_eqF hr) (pe_ix ix_any (pe_ix ix_any (pv 0) pe_int (fun _ _ => rfl)) pe_int (fun _ _ => rfl)) (pe_glob (v := .ref z0) (by rfl) C0.g_ZERO rfl) (nomark _)) (pe_one (pe_callB (cr_all rfl) (by rfl) zA (by decide +kernel) (pa_cons (pv 1) pa_nil)))))))), ?_⟩
  rcases h with ⟨t, ht, nt⟩ | ⟨a, xs, rfl, oa, _, hb⟩
  · exact ⟨_, rfl, v, 1, 8, rfl, .inr ⟨t, ht, nt, _, rfl, if_yes rfl (k H (Same.refl H))⟩⟩
  · obtain ⟨ha, ka⟩ := ob_H oa (fun _ z => by cases z)
    refine ⟨_, rfl, .ref a, 1, 8, rfl, .inl ⟨a, xs, rfl, oa, ?_⟩⟩
    rcases hb with hb | ⟨h1, h8, bs, hl, jk, hb⟩
    · rw [show (decide ((1 : Int) ≤ (xs.length : Int)) && decide ((xs.length : Int) ≤ 8)) = false by
        rcases hb with hb | hb
        · rw [decide_eq_false (by omega), Bool.false_and]
        · rw [decide_eq_false (show ¬ (xs.length : Int) ≤ 8 by omega), Bool.and_false]]
      exact ⟨_, rfl, if_yes rfl (k H (Same.refl H))⟩
    · rw [decide_eq_true (by omega), decide_eq_true (show (xs.length : Int) ≤ 8 by omega)]
      refine ⟨_, rfl, if_no rfl ?_⟩
      have hz : ∀ i x, xs[i]? = some x → ∃ b, bs[i]? = some b ∧ JK K H x b := fun i x e => by
        have li := (List.getElem?_eq_some_iff.mp e).1
        have eb : bs[i]? = some bs[i] := List.getElem?_eq_getElem (by omega)
        exact ⟨_, eb, jk i x _ e eb⟩
      refine ⟨_, rfl, a, rfl, ⟨xs, .of ha⟩, fun D hD => lc_list (xs := xs) (BsI D bs H) ⟨upd_same, Same.new hD _⟩ (fun i H' _ h => .of (h.2 _ _ ha)) ?_ ?_⟩
      · rintro i x H' hi hB
        refine ⟨rfl, ?_⟩
        simp only [tYes, if_true]
        obtain ⟨b, eb, jb⟩ := hz i x hi
        have li := (List.getElem?_eq_some_iff.mp hi).1
        exact ⟨_, rfl, x, b, rfl, jb.stp (F := fun _ => False) (Stp.of_same hB.2), _, hB.1, by rw [List.length_map, List.length_take, sizeLine_eq]; omega, bs_snoc hB hD eb⟩
      · intro H' hB fr
        have hB1 := hB.1
        rw [← hl, List.take_length] at hB1
        refine ⟨D, bs, rfl, .of hB1, ?_⟩
        rcases hb with hb | ⟨ks, n, kt, hn, pl, no, rfl⟩
        · rw [show bs.all id = false by rw [List.all_eq_false]; exact ⟨false, hb, by decide⟩]
          exact ⟨_, rfl, if_yes rfl (k H' hB.2)⟩
        rw [show (List.replicate xs.length true).all id = true by simp]
        refine ⟨_, rfl, if_no rfl ?_⟩
        have ha1 := hB.2 _ _ ha
        refine ⟨_, rfl, _, rfl, _, rfl, a, _, rfl, .of ha1, ?_⟩
        have ec : cutV xs (some ((fun i => i) 1)) none = xs.drop 1 := cut_from xs 1 (by omega)
        rw [show cutV xs (some 1) none = xs.drop 1 from ec]
        intro l2 hl2 fr2
        have s2 := Same.new hl2 (.lst (xs.drop 1))
        have hl3 : upd H' l2 (.lst (xs.drop 1)) l2 = some (.lst (xs.drop 1)) := upd_same
        have s0 := hB.2.trans s2
        generalize upd H' l2 (.lst (xs.drop 1)) = H2 at s2 hl3 s0 ⊢
        have ha2 := s0 _ _ ha
        have kt2 := kt.same s0
        have hkl := kt.1
        have yl : (xs.drop 1).length = xs.length - 1 := List.length_drop
        refine ⟨a, l2, _, _, rfl, .of ha2, .of hl3, fun D2 hD2 => lc_zip (xs := xs) (ys := xs.drop 1) (by omega) (BsI D2 (asc ks) H2) ⟨upd_same, Same.new hD2 _⟩ (fun i H5 _ h => ⟨.of (h.2 _ _ ha2), .of (h.2 _ _ hl3)⟩) ?_ ?_⟩
        · intro i x y T H5 hx hy hB5 hT
          rw [List.getElem?_drop, Nat.add_comm] at hy
          have sT := Same.new hT (.tup [x, y])
          obtain ⟨kk, hk, kx⟩ := kt2.at hx
          obtain ⟨kk', hk', ky⟩ := kt2.at hy
          obtain ⟨t1, a1, b1, rfl, ot1, f1, _⟩ := kx.same (hB5.2.trans sT)
          obtain ⟨t2, a2, b2, rfl, ot2, f2, _⟩ := ky.same (hB5.2.trans sT)
          refine ⟨T, _, rfl, .inl (.inl upd_same), rfl, _, _, rfl, _, _, rfl, rfl, rfl, ?_⟩
          simp only [tYes, if_true]
          have hi' := (List.getElem?_eq_some_iff.mp hk').1
          refine ⟨_, rfl, t1, 0, rfl, rfl, _, itsO_of ot1, _, atI_0 _ _, _, rfl, t2, 0, rfl, rfl, _, itsO_of ot2, _, atI_0 _ _, a1, a2, _, _, rfl, f1.mono (by omega), f2.mono (by omega), _, _, rfl, rfl, ?_⟩
          show ∃ acc, _ ∧ _ ∧ BsI D2 (asc ks) H2 (i + 1) (upd _ D2 (HO.lst (acc ++ [V.bl (decide (cmp2 kk.1 kk'.1 < 0))])))
          rw [show decide (cmp2 kk.1 kk'.1 < 0) = decide (qv kk.1 < qv kk'.1) from decide_eq_decide.mpr (cmp_lt0 f1.nf f2.nf)]
          exact ⟨_, sT _ _ hB5.1, by rw [List.length_map, List.length_take, sizeLine_eq]; omega, bs_snoc (show BsI D2 (asc ks) H2 i _ from ⟨sT _ _ hB5.1, hB5.2.trans sT⟩) hD2 (asc_at hk hk')⟩
        · intro H5 hB5 fr5
          have oa5 := ob_same (s0.trans hB5.2) oa
          obtain ⟨k0, e0⟩ : ∃ k0, ks[0]? = some k0 := ⟨_, List.getElem?_eq_getElem (by omega)⟩
          obtain ⟨x0, hx0, kx0⟩ := (kt2.same hB5.2).get e0
          obtain ⟨t0, a0, b0, rfl, ot0, f0, _⟩ := kx0
          have ei : atI xs 0 = some (.ref t0) := by
            match xs, hx0 with
            | y :: r, h => cases h; exact atI_0 _ _
          refine ⟨_, rfl, a, 0, rfl, rfl, _, itsO_ofL oa5, _, ei, t0, 0, rfl, rfl, _, itsO_of ot0, _, atI_0 _ _, a0, z0, _, (0, 1), rfl, rfl, f0.o, C0.oz _, _, rfl, ?_⟩
          by_cases c : k0.1 = (0, 1)
          · refine if_yes (decide_eq_true c) ?_
            have hB6 := hB5.1
            have la : (asc ks).length = (xs.drop 1).length := by rw [asc_len, yl, hkl]
            rw [← la, List.take_length] at hB6
            refine ⟨_, rfl, D2, asc ks, rfl, .of hB6, ?_⟩
            rw [show (asc ks).all id = false by
              rw [List.all_eq_false]
              rcases no with ⟨q, e, n⟩ | ⟨i, q, q', e1, e2, n⟩
              · rw [e0] at e
                cases e
                exact absurd c n
              · exact ⟨false, List.mem_of_getElem? (by rw [asc_at e1 e2, decide_eq_false n]), by decide⟩]
            exact k H5 (s0.trans hB5.2)
          · refine if_no (decide_eq_false c) ?_
            exact k H5 (s0.trans hB5.2)

end
end My

namespace My
open PySem PySem.Spec PyProof.Rows L2
section
variable {P : Program} {w : World} {K : PySem.W.Frag} {mg : Str → Option Value} {base : Heap}
end
/-! ### what a def that raises keeps -/
structure KnX (P : Program) (w : World) (K : PySem.W.Frag) (mg : Str → Option Value) (base : Heap) (k : Nat) (x : Str) (ps : List Str) (sp : Sp) : Prop where
  ex : ∃ f fd, mg x = some (.ref f) ∧ PySem.W.keepIn K (.ref f) = true ∧ Binds K fd ps [] ∧ FnOk P w K mg base (L2.CX P w) k f fd ps sp
theorem KnX.mk' {P : Program} {w : World} {K : PySem.W.Frag} {mg : Str → Option Value} {base : Heap} {x : Str} {st : Stmt} {N ps : List Str} {k : Nat} {sp : Sp} (D : Dfn K mg x st ps) (S : FnScope N ps (defScope st)) (len : ∀ vs H Q E, sp vs H Q E → vs.length = ps.length)
    (hbody : ∀ (f : Addr) (cdv : Value) (A : Around) (outer : List Env) (s : Shared) (H : Hp) (vs : List V) (Q : VK) (E : XK), Room k (A.deeper (envOfC x (defScope st) s.heap.objs.size f cdv)) → sp vs H Q E →
      ∃ t, PSs (cxOf (L2.CX P w) P w K mg base N x (defScope st) f cdv A outer s H E) (defBody st) t ∧ t { nx := fun _ H' => Q .non H', rt := Q } (start N vs) H) : KnX P w K mg base (k + 1) x ps sp := by
  obtain ⟨f, fd, F, m, b⟩ := D.ex
  exact ⟨f, fd, m, F.kp, b, F.okX S len (hbody f)⟩
section
variable {X : Cx}
theorem pe_knX {j k : Nat} {x : Str} {ps : List Str} {sp : Sp} {p pos : Pos} {e : Expr} {es : List Expr} {t : TA} {W : WX} (E : XK) (F : KnX X.prog X.w X.K X.mg X.base k x ps sp) (hr : Room j X.A) (hg : Gl X x) (tk : Takes X W) (hW : ∀ cls d σ H, E cls d H → W cls d σ H) (ha : PA X (e :: es) t) (hj : k ≤ j := by omega)
    (hdb : (x == ("__debug__" : Str)) = false := by decide) (he : starEach (e :: es) X.env = (false, eval e X.env) :: starEach es X.env := by rfl) (hpl : (backTo pos (starEach es X.env)).any (·.1) = false := by rfl) :
    PE X (.Call (.Name x p) (e :: es) [] pos) (tCall sp [] E t) := by
  obtain ⟨f, fd, m, kp, b, G⟩ := F.ex
  exact pe_call G (hr.mono hj) hg m kp b .nil (passes_call tk hW) ha hdb he hpl
end
/-! ### BadValue -/
structure BvT (K : PySem.W.Frag) (mg : Str → Option Value) (C : Addr) : Prop where
  g : mg "BadValue" = some (.ref C)
  ox : OexC K C
  no : PySem.W.findIn K (.ref C) "what" = some none
  ini : ∃ fI fd, PySem.W.findIn K (.ref C) "__init__" = some (some (.ref fI)) ∧ PySem.W.typeIn K (.ref fI) = some (.type "function") ∧ Fun K "__init__" "BadValue.__init__" (inClass (topS 4) 0) fI fd ∧ Binds K fd ["self", "what"] []
def spInit (C : Addr) : Sp := fun vs H Q _ => ∃ (a : Addr) (y : V), vs = [.ref a, y] ∧ H a = some (exo a C none) ∧ ∀ dx, H dx = none → dx ≠ a → Q .non (upd (upd H dx (exd dx [("what", y)])) a (exo a C (some dx)))
/-- an error of BadValue: its own dict d, what it names -/
def Bv (K : PySem.W.Frag) (C : Addr) (H : Hp) (E : XK) (y : V) : Prop := ∀ (d : Addr) (H' : Hp), Same H H' → H' d = some (.xd [("what", y)]) → E (.ref C) (some d) H'
def spRequireX (K : PySem.W.Frag) (C : Addr) : Sp := fun vs H _ E => ∃ y : V, vs = [.bl false, y] ∧ Bv K C H E y
section
variable {P : Program} {w : World} {K : PySem.W.Frag} {mg : Str → Option Value} {base : Heap}
abbrev sInitB : Stmt := inClass (topS 4) 0
theorem scInitB : FnScope ["self", "what"] ["self", "what"] (defScope sInitB) := ⟨rfl, rfl, rfl, by decide +kernel, rfl, by decide +kernel, by decide +kernel⟩
theorem ok_initB {C fI : Addr} {fd : FuncData} (B : BvT K mg C) (F : Fun K "__init__" "BadValue.__init__" sInitB fI fd) : FnOk P w K mg base CX0 1 fI fd ["self", "what"] (spInit C) := by
  refine F.ok scInitB (fun vs H Q E h => ?_) (fun cdv A outer s H vs Q E hr h => ?_)
  · obtain ⟨a, y, rfl, _⟩ := h
    rfl
  obtain ⟨a, y, rfl, ha, k⟩ := h
  refine ⟨_, pss_one (ps_ost (pv 0) (pv 1)), ?_⟩
  exact ⟨_, rfl, _, rfl, a, C, rfl, B.ox, B.no, .inl ⟨ha, k⟩⟩
theorem kx_Require {C : Addr} (B : BvT K mg C) (D : Dfn K mg "require" sRequire ["well_formed", "what"]) : KnX P w K mg base 3 "require" ["well_formed", "what"] (spRequireX K C) := by
  refine KnX.mk' D scRequire (fun vs H Q E h => ?_) (fun f cdv A outer s H vs Q E hr h => ?_)
  · obtain ⟨y, rfl, _⟩ := h
    rfl
  obtain ⟨y, rfl, k⟩ := h
  obtain ⟨fI, fd, iC, tI, F, b⟩ := B.ini
  refine ⟨_, (pss_one (ps_if (pt_not (pt_val (pv 0))) (pss_one (ps_raise rfl (takes_of rfl rfl rfl rfl) (pmk_oex B.ox iC tI (ok_initB B F) hr b .nil pass0 (by rfl) B.g (pa_cons (pv 1) pa_nil)))) pss_nil)), ?_⟩
  refine ⟨_, rfl, _, rfl, iteT ?_⟩
  refine ⟨_, rfl, by show 1 ≤ 1000; decide, fun a na => ⟨a, y, rfl, upd_same, fun dx ndx ne => ⟨rfl, dx, [("what", y)], upd_same, ?_, ?_, ?_⟩⟩⟩
  · rw [upd_ne ne, upd_same]
  · rw [upd_ne ne] at ndx
    exact ndx
  · rw [upd_ne ne] at ndx
    refine k dx _ (fun b o e => ?_) upd_same
    rw [upd_ne (ne_of_none e ndx), del_ne (ne_of_none e na), upd_ne (ne_of_none e na), upd_ne (ne_of_none e ndx), upd_ne (ne_of_none e na)]
    exact e
theorem Bv.same {C : Addr} {H H' : Hp} {E : XK} {y : V} (h : Bv K C H E y) (s : Same H H') : Bv K C H' E y := fun d H'' s2 hd => h d H'' (s.trans s2) hd
def spSlInitX (K : PySem.W.Frag) (CB : Addr) : Sp := fun vs H _ E => ∃ (H0 : Hp) (c : Addr) (v : V) (F : Addr → Prop), vs = [.ref c, v] ∧ Same H0 H ∧ BadK K F H0 v ∧ Bv K CB H E (.str "knots")
def spBadM (K : PySem.W.Frag) (CB : Addr) (nm : Str) : Sp := fun vs H _ E => ∃ x v, vs = [x, v] ∧ Gd K H v ∧ Bv K CB H E (.str nm)
theorem kx_SlInit {CB f : Addr} {fd : FuncData} (d_x : KnX P w K mg base 3 "require" ["well_formed", "what"] (spRequireX K CB)) (d__are_knots : Kn P w K mg base 5 "_are_knots" ["value"] (spAreX K)) (F : Fun K "__init__" "Slot.__init__" sSlInit f fd) : FnOk P w K mg base (L2.CX P w) 6 f fd ["self", "knots"] (spSlInitX K CB) := by
  refine F.okX scSlInit (fun vs H Q E h => ?_) (fun cdv A outer s H vs Q E hr h => ?_)
  · obtain ⟨H0, c, v, F, rfl, _⟩ := h
    rfl
  obtain ⟨H0, c, v, F, rfl, s0, hb, k⟩ := h
  refine ⟨_, (pss_cons (ps_expr (pe_knX E d_x hr (by rfl) (takes_of rfl rfl rfl rfl) (fun _ _ _ _ h => h) (pa_cons (pe_kn d__are_knots hr (by rfl) (pa_cons (pv 1) pa_nil)) (pa_cons pe_str pa_nil)))) (pss_one ps_never)), ?_⟩
  exact ⟨_, rfl, v, F, rfl, hb.stp (Stp.of_same s0), fun H' s' => ⟨_, rfl, k.same s'⟩⟩
theorem kx_SlCar {CB f : Addr} {fd : FuncData} (d_x : KnX P w K mg base 3 "require" ["well_formed", "what"] (spRequireX K CB)) (d_is_fraction : Kn P w K mg base 2 "is_fraction" ["value"] (spIsFraction K)) (F : Fun K "carried" "Slot.carried" sSlCar f fd) : FnOk P w K mg base (L2.CX P w) 5 f fd ["self", "turns"] (spBadM K CB "turns") := by
  refine F.okX scSlCar (fun vs H Q E h => ?_) (fun cdv A outer s H vs Q E hr h => ?_)
  · obtain ⟨x, v, rfl, _⟩ := h
    rfl
  obtain ⟨x, v, rfl, hv, k⟩ := h
  refine ⟨_, (pss_cons (ps_expr (pe_knX E d_x hr (by rfl) (takes_of rfl rfl rfl rfl) (fun _ _ _ _ h => h) (pa_cons (pe_kn d_is_fraction hr (by rfl) (pa_cons (pv 1) pa_nil)) (pa_cons pe_str pa_nil)))) (pss_cons ps_never (pss_cons ps_never (pss_cons ps_never (pss_cons ps_never (pss_one ps_never)))))), ?_⟩
  exact ⟨_, rfl, v, rfl, hv.ty, _, by rw [hv.no]; rfl, k⟩
end
end My

namespace My
open PySem PySem.Spec PyProof.Rows L2
section
variable {P : Program} {w : World} {K : PySem.W.Frag} {mg : Str → Option Value} {base : Heap}
end
/-- what the written part says of the errors' classes: C is BadValue, S SkyError, A the eleven by name -/
structure AskT (K : PySem.W.Frag) (mg : Str → Option Value) (C S : Addr) (A : String → Addr) : Prop where
  sky : mg "SkyError" = some (.ref S)
  exm : PySem.W.exmOne K (.ref C) (.ref S) = some true
  g : ∀ n ∈ ["BadValue", "Mismatch", "Still", "Endless", "TooMany", "NoName", "Taken", "Locked", "Looped", "Broken", "ReadError"], mg (Str.ofString n) = some (.ref (A n))
  k : ∀ n ∈ ["BadValue", "Mismatch", "Still", "Endless", "TooMany", "NoName", "Taken", "Locked", "Looped", "Broken", "ReadError"], PySem.W.kitOne K (.ref C) (.ref (A n)) = some (n == "BadValue")
  ve : PySem.W.kitOne K (.ref C) (.type "ValueError") = some true
  b_VE : mg "ValueError" = none
  hcl : (PySem.W.clsIn K C).isSome = true
  hga : PySem.W.findIn K (.ref C) "__getattribute__" = some (some (.builtin "BaseException.__getattribute__"))
  hgt : PySem.W.findIn K (.ref C) "__getattr__" = some none
  hsub : PySem.W.subIn K (.ref C) (.type "BaseException") = some true
  ha : PySem.W.findIn K (.ref C) "__class__" = some (some (.builtin "object.__class__"))
  hn : PySem.W.specialIn K (.builtin "object.__class__") "__get__" = some (some (.builtin "getset_descriptor.__get__"))
  htk : PySem.W.takesIn K (.builtin "object.__class__") = some true
  hm : PySem.W.mroIn K C (.type "object") = some true
  xf : XfC K C
/-- isinstance of a caught error that has its dict -/
def kitV (K : PySem.W.Frag) (C : Addr) : V → Option Bool
  | .ref D => PySem.W.kitOne K (.ref C) (.ref D)
  | .ty n => PySem.W.kitOne K (.ref C) (.type n)
  | _ => none
def rIsX (K : PySem.W.Frag) (C a : Addr) (cls : Value) (d : Option Addr) : List V → Hp → VK → Prop := fun xs H Q => ∃ c, xs = [.ref a, c] ∧ cls = .ref C ∧ ∃ dd, d = some dd ∧ (∃ fs, H dd = some (.xd fs)) ∧ ∃ b, kitV K C c = some b ∧ Q (.bl b) H
theorem call_isX {X : Cx} {C S a : Addr} {A : String → Addr} {oe : Obj} {cls : Value} {d : Option Addr} {pn : List (Addr × Obj)} (T : AskT X.K X.mg C S A) (hz : Zc cls d oe) (hf : ∃ vs, oe.data = .fields vs) : CallR (X.suite a ((a, oe) :: pn)) (.builtin "isinstance") (rIsX X.K C a cls d) := fun pins s σ H xs us Q I r h => by
  obtain ⟨c, rfl, rfl, dd, rfl, ⟨fs, hfs⟩, b, hb, q⟩ := h
  obtain ⟨u1, u2, rfl, r1, r2⟩ := vals2 r
  cases r1
  obtain ⟨hget, _⟩ := I.pin (a, oe) (List.mem_append.mpr (.inl List.mem_cons_self))
  obtain ⟨vs, hv⟩ := hf
  obtain ⟨mA, ⟨od, es, ep, ho, hr0⟩, hr⟩ := (show ObjOk X.prog X.w H s.heap dd (.xd fs) from I.hok dd _ hfs)
  have J : PySem.W.InstAt s.heap a oe C (some od) := ⟨hget, hz.1, by unfold PySem.W.notCls; rw [hv] <;> rfl, by rw [hz.2]; exact ho⟩
  have Z := PySem.W.kitx_exc (K := X.K) (C := C) (x := a) (ox := oe) (od := some od) T.hcl T.hga T.hgt T.hsub T.ha T.hn T.htk T.hm
  cases c with
  | ref D =>
    obtain rfl : u2 = Value.ref D := r2
    exact PySem.W.kia_one Z I.kIn J hb (fun z => nomatch z) fun tk => ⟨.bl b, H, I.kept (t' := tk) fun _ _ z => z, rfl, q⟩
  | ty n =>
    obtain rfl : u2 = Value.type n := r2
    exact PySem.W.kia_one Z I.kIn J hb (fun z => nomatch z) fun tk => ⟨.bl b, H, I.kept (t' := tk) fun _ _ z => z, rfl, q⟩
  | _ => cases hb
def rLenA (K : PySem.W.Frag) : List V → Hp → VK → Prop := fun xs H Q => ∃ p, xs = [.ref p] ∧ ∃ ys, itsO (ob K H p) = some ys ∧ Q (.int ys.length) H
/-- a wish of the right number of slots is wish enough -/
theorem takes_len {X : Cx} {W : WX} (t : Takes X W) : Takes X (fun cls d σ H => σ.length = X.N.length → W cls d σ H) := fun u s' ⟨a, B, sI, pins, σ, H, cls, d, e, I, nb, up, sky, na, os, ag, w⟩ =>
  t u s' ⟨a, B, sI, pins, σ, H, cls, d, e, I, nb, up, sky, na, os, ag, w I.len⟩
/-- what the law's asking makes of a call: told, or BadValue and what it names -/
def TAsk (K : PySem.W.Frag) (C : Addr) : (XK → Hp → VK → Prop) → Hp → VK → Prop := fun tl H Q =>
  tl (fun cls d H' => cls = .ref C ∧ ∃ dd y, d = some dd ∧ H' dd = some (.xd [("what", y)]) ∧ ∀ p H'', Same H' H'' → ob K H'' p = some (.tup [.str "BadValue", y]) → Q (.ref p) H'') H
    (fun v H1 => ([V.str "told", v] : List V).length ≤ sizeLine ∧ ∀ p, H1 p = none → K.lookup p = none → Q (.ref p) (upd H1 p (.tup [.str "told", v])))
theorem vals_rfs : ∀ (l : List Addr) (us : List Value), Vals (l.map V.ref) us → us = l.map Value.ref
  | [], us, h => by
    cases h
    rfl
  | a :: l, us, h => by
    cases h with
    | cons h1 h2 =>
      rename_i u us
      obtain rfl : u = Value.ref a := h1
      rw [vals_rfs l us h2]
      rfl
def rIsXT (K : PySem.W.Frag) (C a : Addr) (cls : Value) (d : Option Addr) : List V → Hp → VK → Prop := fun xs H Q => ∃ tp, xs = [.ref a, .ref tp] ∧ cls = .ref C ∧ ∃ dd, d = some dd ∧ (∃ fs, H dd = some (.xd fs)) ∧ ∃ (l : List Addr) (b : Bool), H tp = some (.tup (l.map V.ref)) ∧ PySem.W.kitAny K (.ref C) (l.map Value.ref) = some b ∧ Q (.bl b) H
theorem call_isXT {X : Cx} {C S a : Addr} {A : String → Addr} {oe : Obj} {cls : Value} {d : Option Addr} {pn : List (Addr × Obj)} (T : AskT X.K X.mg C S A) (hz : Zc cls d oe) (hf : ∃ vs, oe.data = .fields vs) : CallR (X.suite a ((a, oe) :: pn)) (.builtin "isinstance") (rIsXT X.K C a cls d) := fun pins s σ H xs us Q I r h => by
  obtain ⟨tp, rfl, rfl, dd, rfl, ⟨fs, hfs⟩, l, b, hT, hb, q⟩ := h
  obtain ⟨u1, u2, rfl, r1, r2⟩ := vals2 r
  cases r1
  cases (show u2 = Value.ref tp from r2)
  obtain ⟨hget, _⟩ := I.pin (a, oe) (List.mem_append.mpr (.inl List.mem_cons_self))
  obtain ⟨vs, hv⟩ := hf
  obtain ⟨mA, ⟨od, es, ep, ho, hr0⟩, hr⟩ := (show ObjOk X.prog X.w H s.heap dd (.xd fs) from I.hok dd _ hfs)
  have J : PySem.W.InstAt s.heap a oe C (some od) := ⟨hget, hz.1, by unfold PySem.W.notCls; rw [hv] <;> rfl, by rw [hz.2]; exact ho⟩
  have Z := PySem.W.kitx_exc (K := X.K) (C := C) (x := a) (ox := oe) (od := some od) T.hcl T.hga T.hgt T.hsub T.ha T.hn T.htk T.hm
  obtain ⟨_, its, rv, o, h1, h2, n, h3⟩ := (show ObjOk X.prog X.w H s.heap tp (.tup (l.map V.ref)) from I.hok tp _ hT)
  have e3 := vals_rfs l its rv
  subst e3
  obtain ⟨oc, od', dt, sl⟩ := o
  simp only at h2 h3
  subst h2 h3
  exact PySem.W.kia_tup Z I.kIn J h1 hb (fun z => nomatch z) fun tk => ⟨.bl b, H, I.kept (t' := tk) fun _ _ z => z, rfl, q⟩
abbrev sAsked : Stmt := topS 72
theorem scAsked : FnScope ["_law_call", "e"] ["_law_call"] (defScope sAsked) := ⟨rfl, rfl, rfl, by decide +kernel, rfl, by decide +kernel, by decide +kernel⟩

theorem asked_gives {X : Cx} {C S : Addr} {A : String → Addr} {g : Addr} {cdg : Value} {q : Str} (Z : Bt X.K X.mg) (B : BvT X.K X.mg C) (T : AskT X.K X.mg C S A) : LamX.GivesTo X ["_law_call", "e"] "_law_answer" (defScope sAsked) g cdg (defBody sAsked) "_law_call" q (TAsk X.K C) := by
  intro f c' s H Q tl act hc h
  refine ⟨_, pss_one (ps_try_as (X := (cxOf C8.CX0 X.prog X.w X.K X.mg X.base ["_law_call", "e"] "_law_answer" (defScope sAsked) g cdg X.A X.stack s H C8.E0).nox) (i := 1) (c := .ref S)
      (tb := fun W D σ H => ∃ Ech : XK, (∀ cls d σ' H', Ech cls d H' → σ'.length = 2 → W cls d σ' H') ∧ tRet (tTp X.K (tCons (tC (.str "told")) (tCons (fun σZ HZ Q => σZ[0]? = some (some (.ref f)) ∧ HZ c' = some (LamX.CodeO c' q) ∧ tl Ech HZ Q) L2.tNil))) D σ H)
      rfl rfl scAsked.nd rfl rfl ⟨rfl, by decide, .inl T.sky⟩ takes0 (fun W pn xe tk _ => ?_) (fun a oe cls d pn hz hf => (pss_cons (ps_if (pt_val (pe_callB (call_isXT (X := (cxOf C8.CX0 X.prog X.w X.K X.mg X.base ["_law_call", "e"] "_law_answer" (defScope sAsked) g cdg X.A X.stack s H C8.E0).nox) (a := a) (pn := pn) T hz hf) (by rfl) Z.b_isinstance (by decide +kernel) (pa_cons (pv 1) (pa_cons (show PE (Cx.suite (cxOf C8.CX0 X.prog X.w X.K X.mg X.base ["_law_call", "e"] "_law_answer" (defScope sAsked) g cdg X.A X.stack s H C8.E0).nox a ((a, oe) :: pn)) _ (tTp X.K (tCons (tC (.ref (A "Broken"))) (tCons (tC (.ref (A "Endless"))) (tCons (tC (.ref (A "Locked"))) (tCons (tC (.ref (A "Looped"))) (tCons (tC (.ref (A "Mismatch"))) (tCons (tC (.ref (A "NoName"))) (tCons (tC (.ref (A "ReadError"))) (tCons (tC (.ref (A "Still"))) (tCons (tC (.ref (A "Taken"))) (tCons (tC (.ref (A "TooMany"))) L2.tNil))))))))))) from pe_tp (pa_cons (pe_glob (v := .ref (A "Broken")) (by rfl) (T.g "Broken" (by decide)) rfl) (pa_cons (pe_glob (v := .ref (A "Endless")) (by rfl) (T.g "Endless" (by decide)) rfl) (pa_cons (pe_glob (v := .ref (A "Locked")) (by rfl) (T.g "Locked" (by decide)) rfl) (pa_cons (pe_glob (v := .ref (A "Looped")) (by rfl) (T.g "Looped" (by decide)) rfl) (pa_cons (pe_glob (v := .ref (A "Mismatch")) (by rfl) (T.g "Mismatch" (by decide)) rfl) (pa_cons (pe_glob (v := .ref (A "NoName")) (by rfl) (T.g "NoName" (by decide)) rfl) (pa_cons (pe_glob (v := .ref (A "ReadError")) (by rfl) (T.g "ReadError" (by decide)) rfl) (pa_cons (pe_glob (v := .ref (A "Still")) (by rfl) (T.g "Still" (by decide)) rfl) (pa_cons (pe_glob (v := .ref (A "Taken")) (by rfl) (T.g "Taken" (by decide)) rfl) (pa_cons (pe_glob (v := .ref (A "TooMany")) (by rfl) (T.g "TooMany" (by decide)) rfl) pa_nil))))))))))) pa_nil)))) (pss_one ps_never) pss_nil)
      (pss_cons (ps_if (PW.pt (pw_or (pt_not (pt_val (pe_callB (call_isX (X := (cxOf C8.CX0 X.prog X.w X.K X.mg X.base ["_law_call", "e"] "_law_answer" (defScope sAsked) g cdg X.A X.stack s H C8.E0).nox) (a := a) (pn := pn) T hz hf) (by rfl) Z.b_isinstance (by decide +kernel) (pa_cons (pv 1) (pa_cons (pe_glob (v := .ref (A "BadValue")) (by rfl) (T.g "BadValue" (by decide)) rfl) pa_nil))))) (pw_or1 (pt_not (pt_val (pe_callB (call_isX (X := (cxOf C8.CX0 X.prog X.w X.K X.mg X.base ["_law_call", "e"] "_law_answer" (defScope sAsked) g cdg X.A X.stack s H C8.E0).nox) (a := a) (pn := pn) T hz hf) (by rfl) Z.b_isinstance (by decide +kernel) (pa_cons (pv 1) (pa_cons (pe_bltn (v := .ty "ValueError") (by rfl) T.b_VE (by decide +kernel) rfl) pa_nil)))))))) (pss_one ps_never) pss_nil)
      (pss_one (ps_ret (show PE (Cx.suite (cxOf C8.CX0 X.prog X.w X.K X.mg X.base ["_law_call", "e"] "_law_answer" (defScope sAsked) g cdg X.A X.stack s H C8.E0).nox a ((a, oe) :: pn)) _ (tTp X.K (tCons (tC (.str "BadValue")) (tCons (tXf a cls d C "what" (tVar 1)) L2.tNil))) from pe_tp (pa_cons pe_str (pa_cons (pe_xf (X := (cxOf C8.CX0 X.prog X.w X.K X.mg X.base ["_law_call", "e"] "_law_answer" (defScope sAsked) g cdg X.A X.stack s H C8.E0).nox) (a := a) (pn := pn) T.xf B.no hz hf (pv 1)) pa_nil))))))))), ?_⟩
  · refine ⟨fun pins s' σ H' D I h' => ?_⟩
    obtain ⟨Ech, hW, h2⟩ := h'
    exact (pss_one (ps_ret (pe_tp (pa_cons pe_str (pa_cons (act _ pn xe Ech _ _ (takes_len tk) (fun cls d σ' H' e l => hW cls d σ' H' e l)) pa_nil))))).run pins s' σ H' D I h2
  · refine ⟨fun cls d H' => cls = .ref C ∧ ∃ dd y, d = some dd ∧ H' dd = some (.xd [("what", y)]) ∧ ∀ p H'', Same H' H'' → ob X.K H'' p = some (.tup [.str "BadValue", y]) → Q (.ref p) H'', fun cls d σ' H' e l => ?_, rfl, hc, h⟩
    obtain ⟨rfl, dd, y, rfl, hd, k⟩ := e
    obtain ⟨x0, x1, rfl⟩ : ∃ x0 x1, σ' = [x0, x1] := by
      match σ', l with
      | [x0, x1], _ => exact ⟨x0, x1, rfl⟩
    refine ⟨true, T.exm, fun _ a ha => ?_, fun z => nomatch z⟩
    have kf : ∀ n ∈ ["BadValue", "Mismatch", "Still", "Endless", "TooMany", "NoName", "Taken", "Locked", "Looped", "Broken", "ReadError"], n ≠ "BadValue" → PySem.W.kitOne X.K (.ref C) (.ref (A n)) = some false := fun n hn hne => by
      rw [T.k n hn]
      exact congrArg some (beq_eq_false_iff_ne.mpr hne)
    refine ⟨_, rfl, by rw [sizeLine_eq]; show 10 ≤ 16777216; decide, fun tp htp ktp => ?_⟩
    have s1 := Same.new htp (.tup ([A "Broken", A "Endless", A "Locked", A "Looped", A "Mismatch", A "NoName", A "ReadError", A "Still", A "Taken", A "TooMany"].map V.ref))
    have ht1 : upd H' tp (.tup ([A "Broken", A "Endless", A "Locked", A "Looped", A "Mismatch", A "NoName", A "ReadError", A "Still", A "Taken", A "TooMany"].map V.ref)) tp = some (.tup ([A "Broken", A "Endless", A "Locked", A "Looped", A "Mismatch", A "NoName", A "ReadError", A "Still", A "Taken", A "TooMany"].map V.ref)) := upd_same
    refine ⟨tp, rfl, rfl, dd, rfl, ⟨_, s1 _ _ hd⟩, [A "Broken", A "Endless", A "Locked", A "Looped", A "Mismatch", A "NoName", A "ReadError", A "Still", A "Taken", A "TooMany"], false, ht1, ?_, _, rfl, iteF ?_⟩
    · show PySem.W.kitAny X.K (.ref C) ([A "Broken", A "Endless", A "Locked", A "Looped", A "Mismatch", A "NoName", A "ReadError", A "Still", A "Taken", A "TooMany"].map Value.ref) = some false
      simp only [List.map_cons, List.map_nil, PySem.W.kitAny, kf "Broken" (by decide) (by decide), kf "Endless" (by decide) (by decide), kf "Locked" (by decide) (by decide), kf "Looped" (by decide) (by decide), kf "Mismatch" (by decide) (by decide), kf "NoName" (by decide) (by decide), kf "ReadError" (by decide) (by decide), kf "Still" (by decide) (by decide), kf "Taken" (by decide) (by decide), kf "TooMany" (by decide) (by decide)]
    have hd1 := s1 _ _ hd
    refine ⟨_, rfl, .ref (A "BadValue"), rfl, rfl, dd, rfl, ⟨_, hd1⟩, true, (T.k "BadValue" (by decide)).trans rfl, _, rfl, iteF ?_⟩
    refine ⟨_, rfl, .ty "ValueError", rfl, rfl, dd, rfl, ⟨_, hd1⟩, true, T.ve, _, rfl, iteF ?_⟩
    refine ⟨_, rfl, rfl, rfl, dd, _, y, rfl, hd1, rfl, by rw [sizeLine_eq]; show 2 ≤ 16777216; decide, fun p hp kp => ?_⟩
    exact k p _ (s1.trans (Same.new hp _)) (ob_new kp)
end My

namespace My
open PySem PySem.Spec PyProof.Rows L2
section
variable {P : Program} {w : World} {K : PySem.W.Frag} {mg : Str → Option Value} {base : Heap}
/-! ### the tables, while the draws go on -/
theorem tabs_kp {T : List (Addr × Str)} {H H' : Hp} {s : Addr} {ys : List V} (e : Kp s H H') (hs : H s = some (.lst ys)) (t : LamX.Tabs T H) : LamX.Tabs T H' := fun p hp => by
  obtain ⟨ps, h1, h2, h3⟩ := t p hp
  refine ⟨ps, e _ _ (by rintro z; rw [z, hs] at h1; cases h1) h1, h2, fun pos cv hc => ?_⟩
  obtain ⟨c, e1, e2⟩ := h3 pos cv hc
  exact ⟨c, e1, e _ _ (by rintro z; rw [z, hs] at e2; unfold LamX.CodeO at e2; cases e2) e2⟩
theorem tabs_same {T : List (Addr × Str)} {H H' : Hp} (e : Same H H') (t : LamX.Tabs T H) : LamX.Tabs T H' := t.ext e
/-- all but the store and the tables stands -/
def Bg (s : Addr) (H H' : Hp) : Prop := ∀ b o, b ≠ s → (∀ ps, o ≠ .tbl ps) → H b = some o → H' b = some o
theorem Bg.refl (s : Addr) (H : Hp) : Bg s H H := fun _ _ _ _ h => h
theorem Bg.trans {s : Addr} {H H1 H2 : Hp} (a : Bg s H H1) (b : Bg s H1 H2) : Bg s H H2 := fun c o n m h => b c o n m (a c o n m h)
theorem Bg.kp {s : Addr} {H H1 : Hp} (a : Kp s H H1) : Bg s H H1 := fun c o n _ h => a c o n h
theorem Bg.same {s : Addr} {H H1 : Hp} (a : Same H H1) : Bg s H H1 := fun c o _ _ h => a c o h
theorem Bg.ext {s : Addr} {H H1 : Hp} (a : LamX.ExtN H H1) : Bg s H H1 := fun c o _ m h => a c o h m
theorem ob_bg {H H' : Hp} {s a : Addr} {ys xs : List V} (e : Bg s H H') (hs : H s = some (.lst ys)) (h : ob K H a = some (.tup xs)) : ob K H' a = some (.tup xs) := by
  unfold ob at h ⊢
  split
  · rename_i o q
    rw [q] at h
    exact h
  · rename_i q
    rw [q] at h
    exact e _ _ (by rintro rfl; rw [hs] at h; cases h) (fun ps z => by cases z) h
theorem Fq.bg {H H' : Hp} {s a : Addr} {n : Nat} {ys : List V} {q : Qt} (h : Fq K H n a q) (e : Bg s H H') (hs : H s = some (.lst ys)) : Fq K H' n a q := ⟨ob_bg e hs h.o, h.nf, h.sz⟩
theorem Sto.ext {H H' : Hp} {s : Addr} (h : Sto K H s) (e : LamX.ExtN H H') : Sto K H' s := by
  obtain ⟨sc, ns, i, b, c, d, x, f, h1, h2, h3⟩ := h
  exact ⟨sc, ns, i, b, c, d, x, f, e _ _ h1 (fun ps z => by cases z), e _ _ h2 (fun ps z => by cases z), h3⟩
theorem ob_ext {H H' : Hp} {a : Addr} {z : HO} (e : LamX.ExtN H H') (n : ∀ ps, z ≠ .tbl ps) (h : ob K H a = some z) : ob K H' a = some z := by
  unfold ob at h ⊢
  split
  · rename_i o q
    rw [q] at h
    exact h
  · rename_i q
    rw [q] at h
    exact e _ _ h n
theorem tyO_ntbl {z : HO} (h : (tyO (some z)).isSome) : ∀ ps, z ≠ .tbl ps := fun ps e => by subst e; cases h
theorem tyS_ext {H H' : Hp} {v : V} (e : LamX.ExtN H H') (h : (tyN K H v).isSome) : (tyN K H' v).isSome := by
  cases v with
  | ref a =>
    cases hz : ob K H a with
    | none => rw [tyN_ref, hz] at h; cases h
    | some z =>
      rw [tyN_ref, hz] at h
      rw [tyN_ref, ob_ext e (tyO_ntbl h) hz]
      exact h
  | _ => exact h
theorem Gd.ext {H H' : Hp} {v : V} (e : LamX.ExtN H H') (h : Gd K H v) : Gd K H' v := by
  cases v with
  | ref a =>
    cases hz : ob K H a with
    | none =>
      have := h.ty.1
      rw [tyN_ref, hz] at this
      cases this
    | some z =>
      have nz : ∀ ps, z ≠ .tbl ps := tyO_ntbl (by have := h.ty.1; rw [tyN_ref, hz] at this; exact this)
      have hz' := ob_ext e nz hz
      refine ⟨⟨tyS_ext e h.ty.1, fun b xs ev o x hx => ?_⟩, ?_⟩
      · cases ev
        rw [hz'] at o
        exact tyS_ext e (h.ty.2 a xs rfl (hz.trans o) x hx)
      · have e2 : frOk K H' (.ref a) = frOk K H (.ref a) := by simp only [frOk, hz, hz']
        rw [e2]
        exact h.no
  | _ => exact ⟨⟨h.ty.1, fun _ _ e => by cases e⟩, h.no⟩
structure LawS (K : PySem.W.Frag) (T : List (Addr × Str)) (H : Hp) (s : Addr) : Prop where
  st : Sto K H s
  tb : LamX.Tabs T H
theorem LawS.same {T : List (Addr × Str)} {H H' : Hp} {s : Addr} (h : LawS K T H s) (e : Same H H') : LawS K T H' s := ⟨h.st.same e, tabs_same e h.tb⟩
theorem LawS.kp {T : List (Addr × Str)} {H H' : Hp} {s : Addr} (h : LawS K T H s) (e : Kp s H H') (st : Sto K H' s) : LawS K T H' s := by
  obtain ⟨ys, hy⟩ := h.st.at
  exact ⟨st, tabs_kp e hy h.tb⟩
end
/-! ### what raises, through the class -/
structure MakX (P : Program) (w : World) (K : PySem.W.Frag) (mg : Str → Option Value) (base : Heap) (k : Nat) (x : Str) (C : Addr) (sp : Sp) (dvs : List V) : Prop where
  ex : ∃ (f : Addr) (fd : FuncData) (ps : List Str) (ds : List Value), L2.Mk K C f ∧ FnOk P w K mg base (L2.CX P w) k f fd ps sp ∧ mg x = some (.ref C) ∧ Binds K fd ps ds ∧ Vals dvs ds
structure MetX (P : Program) (w : World) (K : PySem.W.Frag) (mg : Str → Option Value) (base : Heap) (k : Nat) (C : Addr) (m : Str) (sp : Sp) : Prop where
  ex : ∃ (f : Addr) (fd : FuncData) (ps : List Str), Cls K C ∧ Meth K C m f ∧ FnOk P w K mg base (L2.CX P w) k f fd ps sp ∧ Binds K fd ps []
section
variable {X : Cx} {j k : Nat} {C : Addr} {x m : Str} {sp : Sp} {dvs : List V} {p pos apos : Pos} {e o : Expr} {es : List Expr} {ta : TE} {t : TA} {W : WX}
theorem pe_mkX (E : XK) (c : MakX X.prog X.w X.K X.mg X.base k x C sp dvs) (hr : Room j X.A) (hk : k + 1 ≤ j) (hg : Gl X x) (tk : Takes X W) (hW : ∀ cls d σ H, E cls d H → W cls d σ H) (ha : PA X (e :: es) t)
    (hdb : (x == ("__debug__" : Str)) = false := by decide) (he : starEach (e :: es) X.env = (false, eval e X.env) :: starEach es X.env := by rfl) (hpl : (backTo pos (starEach es X.env)).any (·.1) = false := by rfl) :
    PE X (.Call (.Name x p) (e :: es) [] pos) (tMake C sp dvs E t) := by
  obtain ⟨f, fd, ps, ds, M, F, hm, b, d⟩ := c.ex
  exact pe_make M F (hr.mono hk) hg hm b d (passes_call tk hW) ha hdb he hpl
theorem pe_metX {pl : Sem Bool} (E : XK) (c : MetX X.prog X.w X.K X.mg X.base k C m sp) (hr : Room j X.A) (hk : k ≤ j) (tk : Takes X W) (hW : ∀ cls d σ H, E cls d H → W cls d σ H) (he : PE X o ta) (ha : PA X (e :: es) t)
    (hst : starEach (e :: es) X.env = (false, eval e X.env) :: starEach es X.env := by rfl) (hpl : (backTo pos (starEach es X.env)).any (·.1) = false := by rfl)
    (ht : eval (.Call (.Attribute o m apos) (e :: es) [] pos) X.env = (do
      let ov ← eval o X.env
      standAt apos.atName
      let (f, first) ← holding [ov] (getMethod ov m pl)
      callWith pos f first (backTo pos (starEach (e :: es) X.env)) (backToKw pos (keywordEach [] X.env))) := by rfl) :
    PE X (.Call (.Attribute o m apos) (e :: es) [] pos) (tMeth C m sp [] E ta t) := by
  obtain ⟨f, fd, ps, hc, hm, F, b⟩ := c.ex
  exact pe_meth (pl := pl) he hc hm F (hr.mono hk) b .nil (passes_call tk hW) ha hst hpl ht
end
section
variable {P : Program} {w : World} {K : PySem.W.Frag} {mg : Str → Option Value} {base : Heap}
theorem Stp.of_ext {F : Addr → Prop} {H H' : Hp} (e : LamX.ExtN H H') : Stp K F H H' := fun a z h t => .inl (ob_ext e (fun ps hz => by rw [hz] at t; cases t) h)
theorem Kts.ext {H H' : Hp} {n : Nat} {xs : List V} {ks : List Kt} (h : Kts K H n xs ks) (e : LamX.ExtN H H') : Kts K H' n xs ks := h.stp (F := fun _ => False) (Stp.of_ext e)
theorem SlAt.ext {C : Addr} {n : Nat} {H H' : Hp} {c : Addr} {ks : List Kt} (h : SlAt K C n H c ks) (e : LamX.ExtN H H') : SlAt K C n H' c ks := by
  obtain ⟨dx, t, xs, a, b, d⟩ := h
  exact ⟨dx, t, xs, e _ _ a (fun ps z => by cases z), tup_stp (F := fun _ => False) (Stp.of_ext e) b, d.ext e⟩
end
end My

namespace My
open PySem PySem.Spec PyProof.Rows L2
section
variable {P : Program} {w : World} {K : PySem.W.Frag} {mg : Str → Option Value} {base : Heap}
theorem tabs_put {T : List (Addr × Str)} {H : Hp} {l : Addr} {xs : List V} {o : HO} (hl : H l = some (.lst xs)) (t : LamX.Tabs T H) : LamX.Tabs T (upd H l o) := fun p hp => by
  obtain ⟨ps, h1, h2, h3⟩ := t p hp
  refine ⟨ps, by rw [upd_ne (fun e => by rw [e, hl] at h1; cases h1)]; exact h1, h2, fun pos cv hc => ?_⟩
  obtain ⟨c, e1, e2⟩ := h3 pos cv hc
  exact ⟨c, e1, by rw [upd_ne (fun e => by rw [e, hl] at e2; unfold LamX.CodeO at e2; cases e2)]; exact e2⟩
theorem good_lo {ks : List Kt} (g : Good ks) {i : Nat} {k : Kt} (e : ks[i]? = some k) : 0 ≤ qv k.1 := ext_lo g (g.at e).1
theorem good_pos {ks : List Kt} (g : Good ks) {i : Nat} {k : Kt} (h : 1 ≤ i) (e : ks[i]? = some k) : 0 < qv k.1 := by
  have l := (List.getElem?_eq_some_iff.mp e).1
  obtain ⟨k', e'⟩ : ∃ k', ks[i - 1]? = some k' := ⟨_, List.getElem?_eq_getElem (by omega)⟩
  have a := good_lo g e'
  have b := g.asc (i - 1) k' k (g.at e').1 (by rw [show i - 1 + 1 = i by omega]; exact (g.at e).1)
  grind
theorem ne_z {q : Qt} (h : 0 < qv q) : q ≠ (0, 1) := fun e => by
  rw [e, qv01] at h
  exact absurd h (Rat.lt_irrefl)
theorem good_step {ks : List Kt} (g : Good ks) {i : Nat} {k k' : Kt} (e : ks[i]? = some k) (e' : ks[i + 1]? = some k') : qv k.1 < qv k'.1 := g.asc i k k' (g.at e).1 (g.at e').1
theorem Plc.take {ks : List Kt} (h : Plc ks) (j : Nat) : Plc (ks.take j) := fun k hk => h k (List.mem_of_mem_take hk)
theorem Plc.drop {ks : List Kt} (h : Plc ks) (j : Nat) : Plc (ks.drop j) := fun k hk => h k (List.mem_of_mem_drop hk)
theorem Plc.cat {ks rs : List Kt} (h : Plc ks) (g : Plc rs) : Plc (ks ++ rs) := fun k hk => (List.mem_append.mp hk).elim (h k) (g k)
theorem Plc.one {k : Kt} (h : Nf k.1 ∧ Nf k.2 ∧ 0 ≤ k.1.1 ∧ k.1.1 < k.1.2) : Plc [k] := fun k' hk => by
  rw [List.mem_singleton] at hk
  subst hk
  exact h
theorem Plc.rev {ks : List Kt} (h : Plc ks) : Plc ks.reverse := fun k hk => h k (List.mem_reverse.mp hk)
theorem Kts.nil {H : Hp} {n : Nat} : Kts K H n [] [] := ⟨rfl, fun i x k e _ => by cases e⟩
theorem Kts.rev {H : Hp} {n : Nat} {xs : List V} {ks : List Kt} (h : Kts K H n xs ks) : Kts K H n xs.reverse ks.reverse := ⟨by rw [List.length_reverse, List.length_reverse, h.1], fun i x k e1 e2 => by
  have l := (List.getElem?_eq_some_iff.mp e1).1
  rw [List.length_reverse] at l
  have hl := h.1
  rw [List.getElem?_reverse l] at e1
  rw [List.getElem?_reverse (by omega)] at e2
  exact h.2 _ x k e1 (by rw [hl]; exact e2)⟩
/-- one knot twice -/
theorem bad_twice {H : Hp} {n j : Nat} {xs : List V} {ks : List Kt} {k : Kt} (kt : Kts K H n xs ks) (hn : n ≤ 3000) (pl : Plc ks) (e : ks[j]? = some k) : BadL K H (xs.take (j + 1) ++ xs.drop j) := by
  have l := (List.getElem?_eq_some_iff.mp e).1
  refine bad_ord ((kt.take (j + 1)).cat (kt.drop j)) hn (by rw [List.length_append, List.length_take]; omega) ((pl.take _).cat (pl.drop _)) (.inr ⟨j, k, k, ?_, ?_, Rat.lt_irrefl⟩)
  · rw [List.getElem?_append_left (by rw [List.length_take]; omega), List.getElem?_take, if_pos (by omega)]
    exact e
  · rw [List.getElem?_append_right (by rw [List.length_take]; omega), List.length_take, List.getElem?_drop, show j + (j + 1 - min (j + 1) ks.length) = j by omega]
    exact e
/-- two knots the wrong way round -/
theorem bad_swap {H : Hp} {n j : Nat} {xs : List V} {ks : List Kt} {x y : V} (g : Good ks) (kt : Kts K H n xs ks) (hn : n ≤ 3000) (e1 : xs[j]? = some x) (e2 : xs[j + 1]? = some y) : BadL K H (xs.take j ++ [y, x] ++ xs.drop (j + 2)) := by
  obtain ⟨k, ek, kx⟩ := kt.at e1
  obtain ⟨k', ek', ky⟩ := kt.at e2
  have l := (List.getElem?_eq_some_iff.mp ek').1
  have pl := g.plc
  have two : Kts K H n [y, x] [k', k] := (Kts.one ky).cat (.one kx)
  have p2 : Plc [k', k] := (Plc.one (pl k' (List.mem_of_getElem? ek'))).cat (.one (pl k (List.mem_of_getElem? ek)))
  refine bad_ord (((kt.take j).cat two).cat (kt.drop (j + 2))) hn (by simp only [List.length_append, List.length_cons, List.length_nil]; omega) (((pl.take _).cat p2).cat (pl.drop _)) (.inr ⟨j, k', k, ?_, ?_, ?_⟩)
  · rw [List.getElem?_append_left (by simp only [List.length_append, List.length_cons, List.length_nil, List.length_take]; omega), List.getElem?_append_right (by rw [List.length_take]; omega), List.length_take, show j - min j ks.length = 0 by omega]
    rfl
  · rw [List.getElem?_append_left (by simp only [List.length_append, List.length_cons, List.length_nil, List.length_take]; omega), List.getElem?_append_right (by rw [List.length_take]; omega), List.length_take, show j + 1 - min j ks.length = 1 by omega]
    rfl
  · have := good_step g ek ek'
    grind
/-- the first knot left out -/
theorem bad_tail {H : Hp} {n : Nat} {xs : List V} {ks : List Kt} (g : Good ks) (kt : Kts K H n xs ks) (hn : n ≤ 3000) (h2 : 2 ≤ ks.length) : BadL K H (xs.drop 1) := by
  obtain ⟨k, e⟩ : ∃ k, ks[1]? = some k := ⟨_, List.getElem?_eq_getElem (by omega)⟩
  exact bad_ord (kt.drop 1) hn (by rw [List.length_drop]; omega) (g.plc.drop 1) (.inl ⟨k, by rw [List.getElem?_drop]; exact e, ne_z (good_pos g (Nat.le_refl 1) e)⟩)
/-- the knots backwards -/
theorem bad_rev {H : Hp} {n : Nat} {xs : List V} {ks : List Kt} (g : Good ks) (kt : Kts K H n xs ks) (hn : n ≤ 3000) (h2 : 2 ≤ ks.length) : BadL K H xs.reverse := by
  obtain ⟨k, e⟩ : ∃ k, ks[ks.length - 1]? = some k := ⟨_, List.getElem?_eq_getElem (by omega)⟩
  exact bad_ord kt.rev hn (by rw [List.length_reverse]; omega) g.plc.rev (.inl ⟨k, by rw [List.getElem?_reverse (by omega)]; exact e, ne_z (good_pos g (by omega) e)⟩)
/-- a knot at the place q: no place, or another one than 0 -/
theorem bad_first {H : Hp} {n : Nat} {p t la : Addr} {xs : List V} {ks : List Kt} {q lq : Qt} (kt : Kts K H n xs ks) (pl : Plc ks) (hn : n ≤ 3000) (l8 : ks.length ≤ 8) (h1 : 1 ≤ ks.length) (op : ob K H p = some (.tup [.int q.1, .int q.2])) (fl : Fq K H n la lq) (ot : ob K H t = some (.tup [.ref p, .ref la]))
    (h : plOk K H (.ref p) = false ∨ (Nf q ∧ Sz n q ∧ 0 ≤ q.1 ∧ q.1 < q.2 ∧ q ≠ (0, 1))) : BadL K H ([.ref t] ++ xs.drop 1) := by
  rcases h with h | ⟨nq, sq, q0, q1, ne⟩
  · exact bad_at (xs := []) (ks := []) (x := .ref t) .nil (kt.drop 1) (fun k hk => by cases hk) (pl.drop 1) (by rw [List.length_drop]; simp only [List.length_nil]; omega) (.inr ⟨t, _, rfl, ot, .inr ⟨_, _, rfl, Tyd.fr (q := q) op, Tyd.fr fl.o, by rw [h]; rfl⟩⟩)
  · have kk : Ka K H n (.ref t) (q, lq) := ⟨t, p, la, rfl, ot, ⟨op, nq, sq⟩, fl⟩
    exact bad_ord ((Kts.one kk).cat (kt.drop 1)) hn (by rw [List.length_append]; simp only [List.length_singleton]; omega) ((Plc.one ⟨nq, fl.nf, q0, q1⟩).cat (pl.drop 1)) (.inl ⟨(q, lq), rfl, ne⟩)
/-- a last knot at no place, or at 0 -/
theorem bad_end {H : Hp} {n : Nat} {t la : Addr} {v : V} {xs : List V} {ks : List Kt} {lq : Qt} (g : Good ks) (kt : Kts K H n xs ks) (hn : n ≤ 3000) (l8 : ks.length ≤ 8) (fl : Fq K H n la lq) (ot : ob K H t = some (.tup [v, .ref la])) (tv : Tyd K H v)
    (h : plOk K H v = false ∨ ∃ p, v = .ref p ∧ Fq K H n p (0, 1)) : BadL K H (xs.take 7 ++ [.ref t]) := by
  have h1 := g.one
  have pl := g.plc
  rcases h with h | ⟨p, rfl, fp⟩
  · have := bad_at (ys := []) (rs := []) (x := .ref t) (kt.take 7) .nil (pl.take 7) (fun k hk => by cases hk) (by rw [List.length_take]; simp only [List.length_nil]; omega) (.inr ⟨t, _, rfl, ot, .inr ⟨_, _, rfl, tv, Tyd.fr fl.o, by rw [h]; rfl⟩⟩)
    rw [List.append_nil] at this
    exact this
  · have kk : Ka K H n (.ref t) ((0, 1), lq) := ⟨t, p, la, rfl, ot, fp, fl⟩
    have lt : (ks.take 7).length = min 7 ks.length := List.length_take
    obtain ⟨k, e⟩ : ∃ k, ks[min 7 ks.length - 1]? = some k := ⟨_, List.getElem?_eq_getElem (by omega)⟩
    refine bad_ord ((kt.take 7).cat (.one kk)) hn (by rw [List.length_append, List.length_singleton]; omega) ((pl.take 7).cat (.one ⟨nf01, fl.nf, by show (0 : Int) ≤ 0; decide, by show (0 : Int) < 1; decide⟩)) (.inr ⟨min 7 ks.length - 1, k, ((0, 1), lq), ?_, ?_, ?_⟩)
    · rw [List.getElem?_append_left (by omega), List.getElem?_take, if_pos (by omega)]
      exact e
    · rw [List.getElem?_append_right (by omega), lt, show min 7 ks.length - 1 + 1 - min 7 ks.length = 0 by omega]
      rfl
    · have := good_lo g e
      rw [show qv (((0, 1) : Qt), lq).1 = 0 from qv01]
      grind
/-- the first knot, one at 11/12 and one at a smaller place -/
theorem bad_low {H : Hp} {n : Nat} {t u p r la : Addr} {xs : List V} {ks : List Kt} {lq q : Qt} (g : Good ks) (kt : Kts K H n xs ks) (hn : n ≤ 3000) (fl : Fq K H n la lq) (ot : ob K H t = some (.tup [.ref p, .ref la])) (ou : ob K H u = some (.tup [.ref r, .ref la])) (fp : Fq K H n p (11, 12)) (fr : Fq K H n r q)
    (q0 : 0 ≤ q.1) (q1 : q.1 < q.2) (lo : qv q < qv (11, 12)) : BadL K H (xs.take 1 ++ [.ref t, .ref u]) := by
  have h1 := g.one
  have lt : (ks.take 1).length = 1 := by rw [List.length_take]; omega
  have two : Kts K H n [.ref t, .ref u] [((11, 12), lq), (q, lq)] := (Kts.one ⟨t, p, la, rfl, ot, fp, fl⟩).cat (.one ⟨u, r, la, rfl, ou, fr, fl⟩)
  refine bad_ord ((kt.take 1).cat two) hn (by rw [List.length_append]; omega) ((g.plc.take 1).cat ((Plc.one ⟨fp.nf, fl.nf, by show (0 : Int) ≤ 11; decide, by show (11 : Int) < 12; decide⟩).cat (.one ⟨fr.nf, fl.nf, q0, q1⟩))) (.inr ⟨1, ((11, 12), lq), (q, lq), ?_, ?_, ?_⟩)
  · rw [List.getElem?_append_right (by omega), lt]
    rfl
  · rw [List.getElem?_append_right (by omega), lt]
    rfl
  · show ¬ qv (11, 12) < qv q
    grind
end
end My

namespace My
open PySem PySem.Spec PyProof.Rows L2
section
variable {P : Program} {w : World} {K : PySem.W.Frag} {mg : Str → Option Value} {base : Heap}
abbrev sRefd : Stmt := topS 78
theorem scRefd : FnScope ["_law_store_here", "_law_slot", "_law_knots_here", "_law_spot", "_law_place_here", "_law_lift", "_law_knot", "_law_many", "_law_wrong", "_law_low", "_law_at", "_law_bad", "_law_turns", "_law_k"] ["_law_store_here", "_law_slot", "_law_knots_here"] (defScope sRefd) := ⟨rfl, rfl, rfl, by decide +kernel, rfl, by decide +kernel, by decide +kernel⟩
theorem blk_scRefd_0 : BlkOk ["_law_store_here", "_law_slot", "_law_knots_here", "_law_spot", "_law_place_here", "_law_lift", "_law_knot", "_law_many", "_law_wrong", "_law_low", "_law_at", "_law_bad", "_law_turns", "_law_k"] (defScope sRefd) { kind := .function, names := [(".0", .local), ("_law_k", .local), ("_law_lowest", .globalImplicit), ("_law_lift", .free), ("_law_many", .free)], isGenerator := false, isCoroutine := false, more := [] } [("_law_k", 13)] := ⟨rfl, by decide +kernel, by decide +kernel, by decide +kernel, by decide +kernel⟩
def qLam : Str := ("_law_refused" ++ ".<locals>.") ++ "<lambda>"
structure AskD (K : PySem.W.Frag) (mg : Str → Option Value) (g : Addr) (oc : Value) (od : Option Addr) (dV kV doc pm : Value) (an : Option Addr) (cdv ct : Value) (osl : Array (Option Value)) : Prop where
  m : mg "_law_answer" = some (.ref g)
  kp : PySem.W.keepIn K (.ref g) = true
  lk : K.lookup g = some ⟨oc, od, .func (PySem.W.fnOf "_law_answer" "_law_answer" (defArgs sAsked) (defBody sAsked) (defScope sAsked) dV kV doc pm an cdv ct), osl⟩
  cd : PySem.W.codeIn K cdv "_law_answer" = true
  b : Binds K (PySem.W.fnOf "_law_answer" "_law_answer" (defArgs sAsked) (defBody sAsked) (defScope sAsked) dV kV doc pm an cdv ct) ["_law_call"] []
def spRefd (K : PySem.W.Frag) (C Pt : Addr) : Sp := fun vs H Q _ => ∃ (s c kl : Addr) (xs : List V) (ks : List Kt), vs = [.ref s, .ref c, .ref kl] ∧ LawS K [(Pt, qLam)] H s ∧ SlAt K C 134 H c ks ∧ Good ks ∧ ks.length ≤ 8 ∧ H kl = some (.lst xs) ∧ K.lookup kl = none ∧ kl ≠ s ∧ Kts K H 134 xs ks ∧ ∀ H', Bg s H H' → LawS K [(Pt, qLam)] H' s → Q (.bl true) H'
/-- the addresses that are written: the store and the list of wrong ones -/
def Fz (s D : Addr) : Addr → Prop := fun a => a = s ∨ a = D
/-- the list of wrong ones at D; H0 is the heap before it -/
structure Wrg (K : PySem.W.Frag) (T : List (Addr × Str)) (s D : Addr) (H0 H' : Hp) (acc : List V) : Prop where
  ls : LawS K T H' s
  kp : Kp s H0 H'
  hd : H' D = some (.lst acc)
  al : ∀ v ∈ acc, BadK K (Fz s D) H' v
  ln : acc.length ≤ 20
theorem Wrg.go {T : List (Addr × Str)} {s D : Addr} {H0 H1 H2 : Hp} {acc : List V} (st0 : Sto K H0 s) (h0 : H0 D = none) (w : Wrg K T s D H0 H1 acc) (kp : Kp s H1 H2) (st : Sto K H2 s) : Wrg K T s D H0 H2 acc :=
  ⟨w.ls.kp kp st, w.kp.trans kp, kp _ _ (st0.ne' h0) w.hd, fun v hv => (w.al v hv).stp (Stp.of_kp kp w.ls.st st (.inl rfl)), w.ln⟩
theorem Wrg.put {T : List (Addr × Str)} {s D : Addr} {H0 H : Hp} {acc : List V} {v : V} (st0 : Sto K H0 s) (h0 : H0 D = none) (w : Wrg K T s D H0 H acc) (hv : BadK K (Fz s D) H v) (l : acc.length < 20) : Wrg K T s D H0 (upd H D (.lst (acc ++ [v]))) (acc ++ [v]) := by
  obtain ⟨m1, m2⟩ := st0.mut (o := .lst (acc ++ [v])) h0 w.kp w.ls.st
  refine ⟨⟨m1, tabs_put w.hd w.ls.tb⟩, m2, upd_same, fun x hx => ?_, by rw [List.length_append, List.length_singleton]; omega⟩
  have p : Stp K (Fz s D) H (upd H D (.lst (acc ++ [v]))) := Stp.of_put w.hd (.inr rfl)
  rcases List.mem_append.mp hx with z | z
  · exact (w.al x z).stp p
  · rw [List.mem_singleton] at z
    subst z
    exact hv.stp p
theorem bad_new {H : Hp} {s D d : Addr} {xs : List V} (o : H d = some (.lst xs)) (kd : K.lookup d = none) (ns : d ≠ s) (hD : H D = none) (b : BadL K H xs) : BadK K (Fz s D) H (.ref d) :=
  .inr ⟨d, xs, rfl, (ob_none kd).trans o, fun z => z.elim ns (ne_of_none o hD), b⟩
def RfM (K : PySem.W.Frag) (T : List (Addr × Str)) (s sl kl : Addr) (j : Int) (pa la : Addr) (kb : V) (m : Int) (H : Hp) (n : Nat) (σ : L2.St) (H' : Hp) : Prop := ∃ (D : Addr) (Hd : Hp) (x9 x10 : Option V) (acc : List V), σ = [some (.ref s), some (.ref sl), some (.ref kl), some (.int j), some (.ref pa), some (.ref la), some kb, some (.int m), some (.ref D), x9, x10, none, none, none] ∧ Kp s H Hd ∧ Sto K Hd s ∧ Hd D = none ∧ K.lookup D = none ∧ Wrg K T s D Hd H' acc ∧ acc.length ≤ n
theorem bad_add {H : Hp} {s D d : Addr} {xs : List V} (o : H d = some (.lst xs)) (kd : K.lookup d = none) (ns : d ≠ s) (nD : d ≠ D) (b : BadL K H xs) : BadK K (Fz s D) H (.ref d) :=
  .inr ⟨d, xs, rfl, (ob_none kd).trans o, fun z => z.elim ns nD, b⟩
theorem rf_app {T : List (Addr × Str)} {s sl kl pa la D : Addr} {j m : Int} {kb v : V} {H Hd H6 H7 : Hp} {x9 x10 : Option V} {acc : List V} {n : Nat} (kpd : Kp s H Hd) (std : Sto K Hd s) (hD : Hd D = none) (kD : K.lookup D = none) (w : Wrg K T s D Hd H6 acc) (kp : Kp s H6 H7) (st : Sto K H7 s) (hv : BadK K (Fz s D) H7 v) (ln : acc.length ≤ n) (hn : n < 20) :
    rAppend (.ref D) [v] H7 fun _ H1 => RfM K T s sl kl j pa la kb m H (n + 1) [some (.ref s), some (.ref sl), some (.ref kl), some (.int j), some (.ref pa), some (.ref la), some kb, some (.int m), some (.ref D), x9, x10, none, none, none] H1 := by
  have w2 := w.go std hD kp st
  exact ⟨D, acc, v, rfl, rfl, w2.hd, by rw [sizeLine_eq]; omega, D, Hd, x9, x10, _, rfl, kpd, std, hD, kD, w2.put std hD hv (by omega), by rw [List.length_append, List.length_singleton]; omega⟩
theorem sz134 {q : Qt} (h1 : q.1.natAbs < 2 ^ 12) (h2 : q.2.natAbs < 2 ^ 12) : Sz 134 q := Sz.mono (a := 12) ⟨h1, h2⟩ (by decide)
def FstP (K : PySem.W.Frag) (H : Hp) (x : V) : Prop := ∃ p q, x = .ref p ∧ ob K H p = some (.tup [.int q.1, .int q.2]) ∧ (plOk K H (.ref p) = false ∨ (Nf q ∧ Sz 134 q ∧ 0 ≤ q.1 ∧ q.1 < q.2 ∧ q ≠ (0, 1)))
theorem FstP.stp {F : Addr → Prop} {H H' : Hp} {x : V} (h : FstP K H x) (p : Stp K F H H') : FstP K H' x := by
  obtain ⟨a, q, e, o, h⟩ := h
  exact ⟨a, q, e, tup_stp p o, h.imp (fun z => by rw [plOk_stp p (Tyd.fr (q := q) o).1]; exact z) id⟩
def LstP (K : PySem.W.Frag) (H : Hp) (v : V) : Prop := Tyd K H v ∧ (plOk K H v = false ∨ ∃ p, v = .ref p ∧ Fq K H 134 p (0, 1))
theorem LstP.stp {F : Addr → Prop} {H H' : Hp} {x : V} (h : LstP K H x) (p : Stp K F H H') : LstP K H' x := ⟨h.1.stp p, h.2.imp (fun z => by rw [plOk_stp p h.1.1]; exact z) fun ⟨a, e, f⟩ => ⟨a, e, f.stp p⟩⟩
def LowP (K : PySem.W.Frag) (H : Hp) (x : V) : Prop := ∃ p q, x = .ref p ∧ Fq K H 134 p q ∧ 0 ≤ q.1 ∧ q.1 < q.2 ∧ qv q < qv (11, 12)
theorem LowP.stp {F : Addr → Prop} {H H' : Hp} {x : V} (h : LowP K H x) (p : Stp K F H H') : LowP K H' x := by
  obtain ⟨a, q, e, f, h⟩ := h
  exact ⟨a, q, e, f.stp p, h⟩
theorem cut_any (xs : List V) (j : Nat) : cutV xs none (some (j : Int)) = xs.take j := by
  unfold cutV
  rw [HT.sIx_none, HT.sIx_nat, List.drop_zero, Nat.sub_zero]
  exact List.take_eq_take_min.symm
theorem ok_Refd {C CB S fa g c Pt : Addr} {A : String → Addr} {oc dV kV doc pm cdv ct oc' dV' kV' doc' pm' ct' : Value} {od an od' an' : Option Addr} {osl osl' : Array (Option Value)} (T : Bt K mg) (B : BvT K mg CB) (AT : AskT K mg CB S A) (AS : AskD K mg g oc od dV kV doc pm an cdv ct osl)
    (lkR : K.lookup fa = some ⟨oc', od', .func (PySem.W.fnOf "_law_refused" "_law_refused" (defArgs sRefd) (defBody sRefd) (defScope sRefd) dV' kV' doc' pm' an' (.ref c) ct'), osl'⟩) (cdR : PySem.W.codeIn K (.ref c) "_law_refused" = true) (TB : LamX.TabB base mg c Pt)
    (MXS : MakX P w K mg base 6 "Slot" C (spSlInitX K CB) []) (MXC : MetX P w K mg base 5 C "carried" (spBadM K CB "turns"))
    (d__law_take : Kn P w K mg base 2 "_law_take" ["_law_store_here", "_law_many"] (spTake K)) (d__law_pick : Kn P w K mg base 3 "_law_pick" ["_law_store_here", "_law_row"] (spPick K)) (d__law_bad_frac : Kn P w K mg base 4 "_law_bad_frac" ["_law_store_here"] (spBadFrac K)) (d__law_lowest : Kn P w K mg base 2 "_law_lowest" ["_law_top", "_law_bottom"] (spLowest K)) (d__law_same : Kn P w K mg base 5 "_law_same" ["_law_told", "_law_due"] (spSame K 4)) : FnOk P w K mg base CX0 10 fa (PySem.W.fnOf "_law_refused" "_law_refused" (defArgs sRefd) (defBody sRefd) (defScope sRefd) dV' kV' doc' pm' an' (.ref c) ct') ["_law_store_here", "_law_slot", "_law_knots_here"] (spRefd K C Pt) := by
  refine fn_of lkR cdR scRefd (fun vs H Q E h => ?_) fun A outer s H vs Q E hr h => ?_
  · obtain ⟨s, c, kl, xs, ks, rfl, _⟩ := h
    rfl
  obtain ⟨s, sl, kl, xs, ks, rfl, LS0, hc, g, l8, hk, kk, nk, kt, q⟩ := h
  refine ⟨_, PSs.nox (pss_cons (ps_set (i := 3) scRefd.nd rfl (.inl rfl) (pe_kn d__law_take hr (by rfl) (pa_cons (pv 0) (pa_cons (pe_callB call_lenA (by rfl) T.b_len PySem.boot_len (pa_cons (pv 2) pa_nil)) pa_nil))))
      (pss_cons (ps_asg (pe_ix ix_any (pv 2) (pv 3) (fun _ _ => rfl)) (pg_tp 2 (by rfl) (pgs_cons (pg_name (i := 4) scRefd.nd rfl (.inl rfl)) (pgs_cons (pg_name (i := 5) scRefd.nd rfl (.inr rfl)) pgs_nil))))
      (pss_cons (ps_set (i := 6) scRefd.nd rfl (.inl rfl) (pe_kn d__law_pick hr (by rfl) (pa_cons (pv 0) (pa_cons (pe_ls (pa_cons (pe_ls (pa_cons (pv 4) (pa_cons (pv 5) pa_nil))) (pa_cons (pe_tp (pa_cons (pv 4) pa_nil)) (pa_cons (pe_tp (pa_cons (pv 4) (pa_cons (pv 5) (pa_cons (pv 5) pa_nil)))) (pa_cons (pe_tp (pa_cons (pv 4) (pa_cons (pe_kn d__law_bad_frac hr (by rfl) (pa_cons (pv 0) pa_nil)) pa_nil))) (pa_cons pe_non (pa_cons (pv 4) pa_nil))))))) pa_nil))))
      (pss_cons (ps_set (i := 7) scRefd.nd rfl (.inr rfl) (pe_op op_add pe_int (pe_kn d__law_take hr (by rfl) (pa_cons (pv 0) (pa_cons pe_int pa_nil)))))
      (C8.pss_cut (ps_set (i := 8) scRefd.nd rfl (.inl rfl) (pe_ls (pa_cons (pe_fr (pe_op op_cat (pe_fr (pe_op op_cat (pe_fr (pe_slice sl_list (pv 2) po_none (po_some (pv 3)))) (pe_ls (pa_cons (pv 6) pa_nil)))) (pe_fr (pe_slice sl_list (pv 2) (po_some (pe_op op_add (pv 3) pe_int)) po_none)))) (pa_cons (pe_fr (pe_op op_cat (pe_fr (pe_slice sl_list (pv 2) po_none (po_some (pe_op op_add (pv 3) pe_int)))) (pe_fr (pe_slice sl_list (pv 2) (po_some (pv 3)) po_none)))) (pa_cons (pe_ls pa_nil) (pa_cons (pe_fr (pe_callTy call_tuple_of (by rfl) T.b_tuple (by decide +kernel) (pa_cons (pv 2) pa_nil))) (pa_cons pe_non pa_nil)))))))
      (C8.pss_cut (ps_expr (pe_bm PySem.F.plainAttrs_list PySem.F.slot_list_append PySem.F.type_list_append mt_append (pv 8) (pa_cons (pe_fr (pe_lc (own := [("_law_k", 13)]) (g := gName 13) (te := (tTp K (tCons (tCall (spLowest K) [] E0 (tCons (tVar 13) (tCons (tVar 7) L2.tNil))) (tCons (tVar 5) L2.tNil)))) rfl scRefd.nd (pi_range1 (by rfl) T.b_range (pa_cons (pv 7) pa_nil)) blk_scRefd_0 (fun _ _ _ _ _ => by exact pg_name (i := 13) scRefd.nd rfl (.inl rfl)) (fun _ _ _ _ _ => pts_nil) (fun _ _ _ _ _ => by exact (pe_tp (pa_cons (pe_kn d__law_lowest hr (by rfl) (pa_cons (pv 13) (pa_cons (pv 7) pa_nil))) (pa_cons (pv 5) pa_nil)))))) pa_nil)))
      (C8.pss_cut (ps_expr (pe_bm PySem.F.plainAttrs_list PySem.F.slot_list_append PySem.F.type_list_append mt_append (pv 8) (pa_cons (pe_fr (pe_op op_cat (pe_ls (pa_cons (pe_tp (pa_cons (pe_kn d__law_pick hr (by rfl) (pa_cons (pv 0) (pa_cons (pe_ls (pa_cons (pe_tp (pa_cons pe_int (pa_cons pe_int pa_nil))) (pa_cons (pe_tp (pa_cons (pe_un un_neg pe_int) (pa_cons pe_int pa_nil))) (pa_cons (pe_tp (pa_cons pe_int (pa_cons pe_int pa_nil))) (pa_cons (pe_tp (pa_cons pe_int (pa_cons pe_int pa_nil))) (pa_cons (pe_tp (pa_cons pe_int (pa_cons pe_int pa_nil))) pa_nil)))))) pa_nil))) (pa_cons (pv 5) pa_nil))) pa_nil)) (pe_fr (pe_slice sl_list (pv 2) (po_some pe_int) po_none)))) pa_nil)))
      (C8.pss_cut (ps_expr (pe_bm PySem.F.plainAttrs_list PySem.F.slot_list_append PySem.F.type_list_append mt_append (pv 8) (pa_cons (pe_fr (pe_op op_cat (pe_fr (pe_slice sl_list (pv 2) po_none (po_some pe_int))) (pe_ls (pa_cons (pe_tp (pa_cons (pe_kn d__law_pick hr (by rfl) (pa_cons (pv 0) (pa_cons (pe_ls (pa_cons (pe_tp (pa_cons pe_int (pa_cons pe_int pa_nil))) (pa_cons (pe_tp (pa_cons (pe_un un_neg pe_int) (pa_cons pe_int pa_nil))) (pa_cons (pe_tp (pa_cons pe_int (pa_cons pe_int pa_nil))) (pa_cons (pe_tp (pa_cons pe_int (pa_cons pe_int pa_nil))) (pa_cons (pe_tp (pa_cons pe_int (pa_cons pe_int pa_nil))) (pa_cons pe_int pa_nil))))))) pa_nil))) (pa_cons (pv 5) pa_nil))) pa_nil)))) pa_nil)))
      (pss_cons (ps_set (i := 9) scRefd.nd rfl (.inl rfl) (pe_kn d__law_pick hr (by rfl) (pa_cons (pv 0) (pa_cons (pe_ls (pa_cons (pe_tp (pa_cons pe_int (pa_cons pe_int pa_nil))) (pa_cons (pe_tp (pa_cons pe_int (pa_cons pe_int pa_nil))) (pa_cons (pe_tp (pa_cons pe_int (pa_cons pe_int pa_nil))) pa_nil)))) pa_nil))))
      (C8.pss_cut (ps_expr (pe_bm PySem.F.plainAttrs_list PySem.F.slot_list_append PySem.F.type_list_append mt_append (pv 8) (pa_cons (pe_fr (pe_op op_cat (pe_fr (pe_slice sl_list (pv 2) po_none (po_some pe_int))) (pe_ls (pa_cons (pe_tp (pa_cons (pe_tp (pa_cons pe_int (pa_cons pe_int pa_nil))) (pa_cons (pv 5) pa_nil))) (pa_cons (pe_tp (pa_cons (pv 9) (pa_cons (pv 5) pa_nil))) pa_nil))))) pa_nil)))
      (C8.pss_cut (ps_if (pt_cmpR op_gt (pe_callB call_lenA (by rfl) T.b_len PySem.boot_len (pa_cons (pv 2) pa_nil)) pe_int (nomark _)) (pss_cons (ps_expr (pe_bm PySem.F.plainAttrs_list PySem.F.slot_list_append PySem.F.type_list_append mt_append (pv 8) (pa_cons (pe_fr (pe_slice sl_list (pv 2) (po_some pe_int) po_none)) pa_nil)))
      (pss_one (ps_expr (pe_bm PySem.F.plainAttrs_list PySem.F.slot_list_append PySem.F.type_list_append mt_append (pv 8) (pa_cons (pe_fr (pe_revL (pv 2))) pa_nil))))) pss_nil)
      (C8.pss_cut (ps_if (pt_cmpR op_gt (pe_callB call_lenA (by rfl) T.b_len PySem.boot_len (pa_cons (pv 2) pa_nil)) pe_int (nomark _)) (pss_cons (ps_set (i := 10) scRefd.nd rfl (.inl rfl) (pe_op op_add pe_int (pe_kn d__law_take hr (by rfl) (pa_cons (pv 0) (pa_cons (pe_op op_sub (pe_callB call_lenA (by rfl) T.b_len PySem.boot_len (pa_cons (pv 2) pa_nil)) pe_int) pa_nil)))))
      (pss_one (ps_expr (pe_bm PySem.F.plainAttrs_list PySem.F.slot_list_append PySem.F.type_list_append mt_append (pv 8) (pa_cons (pe_fr (pe_op op_cat (pe_fr (pe_op op_cat (pe_fr (pe_slice sl_list (pv 2) po_none (po_some (pv 10)))) (pe_ls (pa_cons (pe_ix ix_any (pv 2) (pe_op op_add (pv 10) pe_int) (fun _ _ => rfl)) (pa_cons (pe_ix ix_any (pv 2) (pv 10) (fun _ _ => rfl)) pa_nil))))) (pe_fr (pe_slice sl_list (pv 2) (po_some (pe_op op_add (pv 10) pe_int)) po_none)))) pa_nil))))) pss_nil)
      (pss_cons (ps_for PassesOwn.never rfl (pi_list (pv 8)) (pg_name (i := 11) scRefd.nd rfl (.inr rfl)) (pss_one (ps_if (pt_not (pt_val (pe_kn d__law_same hr (by rfl) (pa_cons (LamX.pe_lamcall (T := [(Pt, qLam)]) (TT := TAsk K CB) (t := fun E => tMake C (spSlInitX K CB) [] E (tCons (tVar 11) L2.tNil)) (by rfl) AS.m AS.kp AS.lk AS.cd AS.b scAsked rfl (.inl rfl) (asked_gives T B AT) TB rfl (List.mem_cons_self ..) (fun p hp _ => by simp only [List.mem_cons, List.not_mem_nil, or_false] at hp; subst hp; rfl) hr (LamX.lamS_by (by show LamX.lamSB (defScope sRefd) _ = true; decide +kernel)) rfl (fun _ _ _ _ _ => rfl) (fun A outer s H E f c' hr' => pe_mkX E MXS hr' (by omega) (by rfl) (takes_of rfl rfl rfl rfl) (fun _ _ _ _ h => h) (pa_cons (pv 11) pa_nil))) (pa_cons (pe_tp (pa_cons pe_str (pa_cons pe_str pa_nil))) pa_nil))))) (pss_one (ps_ret pe_bl)) pss_nil)))
      (pss_cons (ps_set (i := 12) scRefd.nd rfl (.inr rfl) (pe_kn d__law_bad_frac hr (by rfl) (pa_cons (pv 0) pa_nil)))
      (pss_one (ps_ret (pe_kn d__law_same hr (by rfl) (pa_cons (LamX.pe_lamcall (T := [(Pt, qLam)]) (TT := TAsk K CB) (t := fun E => tMeth C "carried" (spBadM K CB "turns") [] E (tVar 1) (tCons (tVar 12) L2.tNil)) (by rfl) AS.m AS.kp AS.lk AS.cd AS.b scAsked rfl (.inl rfl) (asked_gives T B AT) TB rfl (List.mem_cons_self ..) (fun p hp _ => by simp only [List.mem_cons, List.not_mem_nil, or_false] at hp; subst hp; rfl) hr (LamX.lamS_by (by show LamX.lamSB (defScope sRefd) _ = true; decide +kernel)) rfl (fun _ _ _ _ _ => rfl) (fun A outer s H E f c' hr' => pe_metX E MXC hr' (by omega) (takes_of rfl rfl rfl rfl) (fun _ _ _ _ h => h) (pv 1) (pa_cons (pv 12) pa_nil))) (pa_cons (pe_tp (pa_cons pe_str (pa_cons pe_str pa_nil))) pa_nil))))))))))))))))))), ?_⟩
  simp only [cx_K]
  have hkl := kt.1
  have g1 := g.one
  have hS := LS0.st
  refine ⟨_, rfl, _, rfl, kl, rfl, xs, itsO_ofL ((ob_none kk).trans hk), s, _, rfl, hS, by omega, fun r H1 r0 r1 kp1 st1 => ?_⟩
  obtain ⟨j, rfl⟩ := Int.eq_ofNat_of_zero_le r0
  have hj : j < ks.length := by omega
  obtain ⟨kj, ej⟩ : ∃ k, ks[j]? = some k := ⟨_, List.getElem?_eq_getElem hj⟩
  have hk1 := kp1 _ _ nk hk
  obtain ⟨x0, ex, t, pa, la, rfl, ot0, fp0, fl0⟩ := kt.get ej
  have ot := tup_stp (Stp.of_kp (F := Fz s s) kp1 hS st1 (.inl rfl)) ot0
  have fp := fp0.kps kp1 hS
  have fl := fl0.kps kp1 hS
  refine ⟨_, rfl, _, rfl, kl, j, rfl, rfl, xs, itsO_ofL ((ob_none kk).trans hk1), _, atI_nat ex, t, rfl, _, ot, rfl, _, _, rfl, _, _, rfl, rfl, ?_⟩
  refine ⟨_, rfl, _, rfl, _, rfl, sz2 (by show 2 ≤ 100; decide), fun p1 h1 k1 => ⟨_, rfl, sz2 (by show 1 ≤ 100; decide), fun p2 h2 k2 => ⟨_, rfl, _, rfl, _, rfl, sz2 (by show 3 ≤ 100; decide), fun p3 h3 k3 => ?_⟩⟩⟩
  have a1 := Same.new h1 (.lst [.ref pa, .ref la])
  have a2 := Same.new h2 (.tup [.ref pa])
  have a3 := Same.new h3 (.tup [.ref pa, .ref la, .ref la])
  have b1 : ob K (upd (upd (upd H1 p1 (.lst [.ref pa, .ref la])) p2 (.tup [.ref pa])) p3 (.tup [.ref pa, .ref la, .ref la])) p1 = some (.lst [.ref pa, .ref la]) := ob_same (a2.trans a3) (ob_new k1)
  have b2 : ob K (upd (upd (upd H1 p1 (.lst [.ref pa, .ref la])) p2 (.tup [.ref pa])) p3 (.tup [.ref pa, .ref la, .ref la])) p2 = some (.tup [.ref pa]) := ob_same a3 (ob_new k2)
  have b3 : ob K (upd (upd (upd H1 p1 (.lst [.ref pa, .ref la])) p2 (.tup [.ref pa])) p3 (.tup [.ref pa, .ref la, .ref la])) p3 = some (.tup [.ref pa, .ref la, .ref la]) := ob_new k3
  have sA := a1.trans (a2.trans a3)
  generalize upd (upd (upd H1 p1 (.lst [.ref pa, .ref la])) p2 (.tup [.ref pa])) p3 (.tup [.ref pa, .ref la, .ref la]) = H2 at b1 b2 b3 sA ⊢
  clear a1 a2 a3 h1 h2 h3 k1 k2 k3
  have st2 := st1.same sA
  refine ⟨_, rfl, _, rfl, s, rfl, st2, fun bv H3 gb kp3 st3 => ⟨sz2 (by show 2 ≤ 100; decide), fun p4 h4 k4 => ⟨_, rfl, sz2 (by show 6 ≤ 100; decide), fun P hP kP => ?_⟩⟩⟩
  have q3 : Stp K (Fz s s) H2 H3 := Stp.of_kp kp3 st2 st3 (.inl rfl)
  have j1 : JK K H3 (.ref p1) false := JK.stp q3 (.inl ⟨"list", by rw [tyN_ref, b1]; rfl, by decide, rfl⟩)
  have j2 : JK K H3 (.ref p2) false := JK.stp q3 (.inr ⟨p2, _, rfl, b2, .inl ⟨by show ¬ (1 : Nat) = 2; decide, rfl⟩⟩)
  have j3 : JK K H3 (.ref p3) false := JK.stp q3 (.inr ⟨p3, _, rfl, b3, .inl ⟨by show ¬ (3 : Nat) = 2; decide, rfl⟩⟩)
  have q03 : Stp K (Fz s s) H1 H3 := (Stp.of_same sA).trans q3
  have fp3 := fp.stp q03
  have fl3 := fl.stp q03
  have a4 := Same.new h4 (.tup [.ref pa, bv])
  have b4 := ob_new (K := K) (H := H3) (o := .tup [.ref pa, bv]) k4
  have a5 := Same.new hP (.lst [.ref p1, .ref p2, .ref p3, .ref p4, .non, .ref pa])
  have hP' : upd (upd H3 p4 (.tup [.ref pa, bv])) P (.lst [.ref p1, .ref p2, .ref p3, .ref p4, .non, .ref pa]) P = some (.lst [.ref p1, .ref p2, .ref p3, .ref p4, .non, .ref pa]) := upd_same
  generalize hH4 : upd (upd H3 p4 (.tup [.ref pa, bv])) P (.lst [.ref p1, .ref p2, .ref p3, .ref p4, .non, .ref pa]) = H4 at a5 hP' ⊢
  have s4 := a4.trans a5
  have q4 : Stp K (Fz s s) H3 H4 := Stp.of_same s4
  have fp4 := fp3.stp q4
  have fl4 := fl3.stp q4
  have all : ∀ v ∈ [V.ref p1, .ref p2, .ref p3, .ref p4, .non, .ref pa], JK K H4 v false := fun v hv => by
    simp only [List.mem_cons, List.not_mem_nil, or_false] at hv
    rcases hv with rfl | rfl | rfl | rfl | rfl | rfl
    · exact j1.stp q4
    · exact j2.stp q4
    · exact j3.stp q4
    · have gb4 := gb.stp q4
      refine .inr ⟨p4, _, rfl, ob_same a5 b4, .inr ⟨_, _, rfl, Tyd.fr fp4.o, gb4.ty, ?_⟩⟩
      rw [gb4.no, Bool.and_false]
    · exact .inl ⟨"NoneType", rfl, by decide, rfl⟩
    · exact .inr ⟨pa, _, rfl, fp4.o, .inr ⟨_, _, rfl, ⟨rfl, fun _ _ e => by cases e⟩, ⟨rfl, fun _ _ e => by cases e⟩, rfl⟩⟩
  have st4 := st3.same s4
  have nP : s ≠ P := by
    obtain ⟨z, hz⟩ := st3.at
    rintro rfl
    rw [(a4 _ _ hz : upd H3 p4 (.tup [.ref pa, bv]) s = _)] at hP
    cases hP
  have kp4 := kp1.trans ((Kp.same sA).trans (kp3.trans (Kp.same s4)))
  refine ⟨s, P, _, rfl, st4, hP', nP, by show 0 < 6; decide, by show 6 < 1000; decide, fun kb H5 hkb kp5 st5 => ?_⟩
  have jb : JK K H5 kb false := (all kb hkb).stp (Stp.of_kp (F := Fz s s) kp5 st4 st5 (.inl rfl))
  have kp05 := kp4.trans kp5
  clear all hkb j1 j2 j3 b1 b2 b3 b4 q3 q03 q4 fp4 fl4 fp3 fl3 s4 a4 a5 hH4 hP' gb hP h4 k4 kP sA st1 st2 st3 kp3 kp1 kp4 hk1 ot fp fl st4 nP
  refine ⟨_, rfl, s, 20, rfl, st5, by omega, fun u H6 u0 u1 kp6' st6 => ⟨_, _, rfl, rfl, ?_⟩⟩
  have jb6 := jb.stp (Stp.of_kp (F := Fz s s) kp6' st5 st6 (.inl rfl))
  have kp6 := kp05.trans kp6'
  have LS6 := LS0.kp kp6 st6
  have hk6 := kp6 _ _ nk hk
  have kt6 := kt.kps kp6 hS
  clear jb kp05 st5 kp5 kp6' H1 H2 H3 H4 H5
  refine ⟨RfM K [(Pt, qLam)] s sl kl j pa la kb ((fun i j => i + j) 9 u) H 5, ?_, ?_⟩
  · have hj' : j < xs.length := by omega
    refine ⟨_, rfl, _, rfl, _, rfl, kl, xs, rfl, .of hk6, ?_⟩
    rw [cut_to xs j (by omega)]
    refine fun d1 hd1 fr1 => ?_
    have a1 := Same.new hd1 (.lst (xs.take j))
    have e1 : upd H6 d1 (.lst (xs.take j)) d1 = some (.lst (xs.take j)) := upd_same
    generalize upd H6 d1 (.lst (xs.take j)) = G1 at a1 e1 ⊢
    clear fr1
    refine ⟨_, rfl, sz2 (by show 1 ≤ 100; decide), fun d2 hd2 kd2 => ?_⟩
    have a2 := Same.new hd2 (.lst [kb])
    have e2 : upd G1 d2 (.lst [kb]) d2 = some (.lst [kb]) := upd_same
    generalize upd G1 d2 (.lst [kb]) = G2 at a2 e2 ⊢
    refine ⟨d1, d2, _, _, rfl, rfl, a2 _ _ e1, e2, by rw [sizeLine_eq, List.length_take, List.length_singleton]; omega, fun d3 hd3 fr3 => ?_⟩
    have a3 := Same.new hd3 (.lst (xs.take j ++ [kb]))
    have e3 : upd G2 d3 (.lst (xs.take j ++ [kb])) d3 = some (.lst (xs.take j ++ [kb])) := upd_same
    generalize upd G2 d3 (.lst (xs.take j ++ [kb])) = G3 at a3 e3 ⊢
    clear fr3
    have s3 := a1.trans (a2.trans a3)
    refine ⟨_, rfl, _, rfl, _, _, rfl, rfl, _, rfl, kl, xs, rfl, .of (s3 _ _ hk6), ?_⟩
    rw [show cutV xs (some ((fun i j => i + j) (j : Int) 1)) none = xs.drop (j + 1) from cut_from xs (j + 1) (by omega)]
    refine fun d4 hd4 fr4 => ?_
    have a4 := Same.new hd4 (.lst (xs.drop (j + 1)))
    have e4 : upd G3 d4 (.lst (xs.drop (j + 1))) d4 = some (.lst (xs.drop (j + 1))) := upd_same
    generalize upd G3 d4 (.lst (xs.drop (j + 1))) = G4 at a4 e4 ⊢
    clear fr4
    refine ⟨d3, d4, _, _, rfl, rfl, a4 _ _ e3, e4, by rw [sizeLine_eq, List.length_append, List.length_take, List.length_singleton, List.length_drop]; omega, fun d5 hd5 fr5 => ?_⟩
    have kd5 : K.lookup d5 = none := fr5 d5 (by rw [upd_same]; simp)
    have n5 := (st6.same (s3.trans a4)).ne' hd5
    have a5 := Same.new hd5 (.lst (xs.take j ++ [kb] ++ xs.drop (j + 1)))
    have e5 : upd G4 d5 (.lst (xs.take j ++ [kb] ++ xs.drop (j + 1))) d5 = some (.lst (xs.take j ++ [kb] ++ xs.drop (j + 1))) := upd_same
    generalize upd G4 d5 (.lst (xs.take j ++ [kb] ++ xs.drop (j + 1))) = G5 at a5 e5 ⊢
    clear fr5
    have s5 := s3.trans (a4.trans a5)
    clear a1 a2 a3 a4 a5 e1 e2 e3 e4 s3 hd1 hd2 hd3 hd4 hd5 kd2
    refine ⟨_, rfl, _, rfl, _, _, rfl, rfl, _, rfl, kl, xs, rfl, .of (s5 _ _ hk6), ?_⟩
    rw [show cutV xs none (some ((fun i j => i + j) (j : Int) 1)) = xs.take (j + 1) from cut_to xs (j + 1) (by omega)]
    refine fun d6 hd6 fr6 => ?_
    have a6 := Same.new hd6 (.lst (xs.take (j + 1)))
    have e6 : upd G5 d6 (.lst (xs.take (j + 1))) d6 = some (.lst (xs.take (j + 1))) := upd_same
    generalize upd G5 d6 (.lst (xs.take (j + 1))) = G6 at a6 e6 ⊢
    clear fr6
    refine ⟨_, rfl, _, rfl, _, rfl, kl, xs, rfl, .of ((s5.trans a6) _ _ hk6), ?_⟩
    rw [cut_from xs j (by omega)]
    refine fun d7 hd7 fr7 => ?_
    have a7 := Same.new hd7 (.lst (xs.drop j))
    have e7 : upd G6 d7 (.lst (xs.drop j)) d7 = some (.lst (xs.drop j)) := upd_same
    generalize upd G6 d7 (.lst (xs.drop j)) = G7 at a7 e7 ⊢
    clear fr7
    refine ⟨d6, d7, _, _, rfl, rfl, a7 _ _ e6, e7, by rw [sizeLine_eq, List.length_take, List.length_drop]; omega, fun d8 hd8 fr8 => ?_⟩
    have kd8 : K.lookup d8 = none := fr8 d8 (by rw [upd_same]; simp)
    have n8 := (st6.same (s5.trans (a6.trans a7))).ne' hd8
    have a8 := Same.new hd8 (.lst (xs.take (j + 1) ++ xs.drop j))
    have e8 : upd G7 d8 (.lst (xs.take (j + 1) ++ xs.drop j)) d8 = some (.lst (xs.take (j + 1) ++ xs.drop j)) := upd_same
    generalize upd G7 d8 (.lst (xs.take (j + 1) ++ xs.drop j)) = G8 at a8 e8 ⊢
    clear fr8
    have s58 := a6.trans (a7.trans a8)
    have s8 := s5.trans s58
    clear a6 a7 a8 e6 e7 hd6 hd7 hd8
    refine ⟨sz2 (by show 0 ≤ 100; decide), fun d9 hd9 kd9 => ?_⟩
    have n9 := (st6.same s8).ne' hd9
    have a9 := Same.new hd9 (.lst [])
    have e9 : upd G8 d9 (.lst []) d9 = some (.lst []) := upd_same
    generalize upd G8 d9 (.lst []) = G9 at a9 e9 ⊢
    refine ⟨_, rfl, kl, xs, rfl, .inl ⟨.of ((s8.trans a9) _ _ hk6), fun dT hdT frT => ?_⟩⟩
    have aT := Same.new hdT (.tup xs)
    have kdT : K.lookup dT = none := frT dT (by rw [upd_same]; simp)
    have oT := ob_new (K := K) (H := G9) (o := .tup xs) kdT
    generalize upd G9 dT (.tup xs) = GA at aT oT ⊢
    clear frT
    refine ⟨sz2 (by show 5 ≤ 100; decide), fun D hD kD => ?_⟩
    have s9 := s8.trans (a9.trans aT)
    have stA := st6.same s9
    have kpA := kp6.trans (Kp.same s9)
    have LSA := LS6.same s9
    have ktA := kt6.same s9
    have e5A := (s58.trans (a9.trans aT)) _ _ e5
    have e8A := (a9.trans aT) _ _ e8
    have e9A := aT _ _ e9
    have q6 : Stp K (Fz s s) H6 GA := Stp.of_same s9
    have aD := Same.new hD (.lst [.ref d5, .ref d8, .ref d9, .ref dT, .non])
    have qD : Stp K (Fz s D) GA (upd GA D (.lst [.ref d5, .ref d8, .ref d9, .ref dT, .non])) := Stp.of_same aD
    have pl := g.plc
    refine ⟨D, GA, none, none, [.ref d5, .ref d8, .ref d9, .ref dT, .non], rfl, kpA, stA, hD, kD, ⟨LSA.same aD, Kp.same aD, upd_same, fun v hv => ?_, by show 5 ≤ 20; decide⟩, Nat.le_refl _⟩
    simp only [List.mem_cons, List.not_mem_nil, or_false] at hv
    rcases hv with rfl | rfl | rfl | rfl | rfl
    · exact (bad_new e5A kd5 n5 hD (bad_at (ktA.take j) (ktA.drop (j + 1)) (pl.take j) (pl.drop (j + 1)) (by rw [List.length_take, List.length_drop]; omega) (jb6.stp q6))).stp qD
    · exact (bad_new e8A kd8 n8 hD (bad_twice ktA (by omega) pl ej)).stp qD
    · exact (bad_new e9A kd9 n9 hD (.inl (.inl rfl))).stp qD
    · exact (show BadK K (Fz s D) GA (.ref dT) from .inl ⟨"tuple", by rw [tyN_ref, oT]; rfl, by decide⟩).stp qD
    · exact .inl ⟨"NoneType", rfl, by decide⟩
  clear hk6 kt6 LS6 st6 jb6 kp6 H6
  have hS' := hS
  have kts : ∀ H', Kp s H H' → H' kl = some (.lst xs) ∧ Kts K H' 134 xs ks ∧ Fq K H' 134 la kj.2 := fun H' kp => ⟨kp _ _ nk hk, kt.kps kp hS, fl0.kps kp hS⟩
  rintro σ H6 ⟨D, Hd, x9, x10, acc, rfl, kpd, std, hD, kD, w, ln⟩
  refine ⟨RfM K [(Pt, qLam)] s sl kl j pa la kb ((fun i j => i + j) 9 u) H 6, ?_, ?_⟩
  · obtain ⟨hk6, kt6, fl6⟩ := kts H6 (kpd.trans w.kp)
    have st6 := w.ls.st
    refine ⟨_, rfl, .inl ⟨rfl, _, .of w.hd⟩, _, rfl, _, rfl, by show -(2 ^ 62) ≤ 9 + u; omega, by show 9 + u < 2 ^ 62; omega, fun D2 hD2 => lc_range (lo := 0) (n := (9 + u).toNat) (fun i H' => ∃ l, H' D2 = some (.lst l) ∧ l.length = i ∧ Same H6 H') ⟨[], upd_same, rfl, Same.new hD2 _⟩ ?_ ?_⟩
    · rintro i H' hi ⟨l, h1, hl, sD⟩
      refine ⟨rfl, ?_⟩
      simp only [tYes, if_true]
      refine ⟨_, rfl, _, rfl, _, _, rfl, Nat.lt_of_lt_of_le (show (9 + u).natAbs < 2 ^ 10 by omega) (Nat.pow_le_pow_right (by decide) (by decide)), fun z hz p H7 s7 op => ⟨_, rfl, sz2 (by show 2 ≤ 100; decide), fun tp htp ktp => ?_⟩⟩
      have s8 := s7.trans (Same.new htp (.tup [.ref p, .ref la]))
      refine ⟨l, s8 _ _ h1, by rw [sizeLine_eq]; omega, l ++ [.ref tp], upd_same, by rw [List.length_append, hl]; rfl, fun b o e => ?_⟩
      rw [upd_ne (ne_of_none e hD2)]
      exact s8 _ _ (sD _ _ e)
    · rintro H7 ⟨l, h1, hl, sD⟩ fr
      have kD2 : K.lookup D2 = none := fr D2 (by rw [h1]; simp)
      exact rf_app kpd std hD kD w (Kp.same sD) (st6.same sD) (bad_add h1 kD2 (st6.ne' hD2) (ne_of_none w.hd hD2).symm (.inl (.inr (by omega)))) ln (by decide)
  rintro σ H6 ⟨D, Hd, x9, x10, acc, rfl, kpd, std, hD, kD, w, ln⟩
  refine ⟨RfM K [(Pt, qLam)] s sl kl j pa la kb ((fun i j => i + j) 9 u) H 7, ?_, ?_⟩
  · obtain ⟨hk6, kt6, fl6⟩ := kts H6 (kpd.trans w.kp)
    have st6 := w.ls.st
    refine ⟨_, rfl, .inl ⟨rfl, _, .of w.hd⟩, _, rfl, sz2 (by show 2 ≤ 100; decide), fun pt1 ht1 kt1 => ?_⟩
    have at1 := Same.new ht1 (.tup [.int 1, .int 1000])
    have ot1 := ob_new (K := K) (H := H6) (o := .tup [.int 1, .int 1000]) kt1
    generalize upd H6 pt1 (.tup [.int 1, .int 1000]) = T1 at at1 ot1 ⊢
    refine ⟨_, rfl, sz2 (by show 2 ≤ 100; decide), fun pt2 ht2 kt2 => ?_⟩
    have at2 := Same.new ht2 (.tup [.int (-1), .int 2])
    have ot2 := ob_new (K := K) (H := T1) (o := .tup [.int (-1), .int 2]) kt2
    generalize upd T1 pt2 (.tup [.int (-1), .int 2]) = T2 at at2 ot2 ⊢
    refine ⟨sz2 (by show 2 ≤ 100; decide), fun pt3 ht3 kt3 => ?_⟩
    have at3 := Same.new ht3 (.tup [.int 0, .int 2])
    have ot3 := ob_new (K := K) (H := T2) (o := .tup [.int 0, .int 2]) kt3
    generalize upd T2 pt3 (.tup [.int 0, .int 2]) = T3 at at3 ot3 ⊢
    refine ⟨sz2 (by show 2 ≤ 100; decide), fun pt4 ht4 kt4 => ?_⟩
    have at4 := Same.new ht4 (.tup [.int 1, .int 1])
    have ot4 := ob_new (K := K) (H := T3) (o := .tup [.int 1, .int 1]) kt4
    generalize upd T3 pt4 (.tup [.int 1, .int 1]) = T4 at at4 ot4 ⊢
    refine ⟨sz2 (by show 2 ≤ 100; decide), fun pt5 ht5 kt5 => ?_⟩
    have at5 := Same.new ht5 (.tup [.int 1, .int 3])
    have ot5 := ob_new (K := K) (H := T4) (o := .tup [.int 1, .int 3]) kt5
    generalize upd T4 pt5 (.tup [.int 1, .int 3]) = T5 at at5 ot5 ⊢
    refine ⟨sz2 (by show 5 ≤ 100; decide), fun d1 hd1 kd1 => ?_⟩
    have a1 := Same.new hd1 (.lst [.ref pt1, .ref pt2, .ref pt3, .ref pt4, .ref pt5])
    have e1 : upd T5 d1 (.lst [.ref pt1, .ref pt2, .ref pt3, .ref pt4, .ref pt5]) d1 = some (.lst [.ref pt1, .ref pt2, .ref pt3, .ref pt4, .ref pt5]) := upd_same
    generalize upd T5 d1 (.lst [.ref pt1, .ref pt2, .ref pt3, .ref pt4, .ref pt5]) = G1 at a1 e1 ⊢
    have sA := at1.trans (at2.trans (at3.trans (at4.trans (at5.trans a1))))
    have all : ∀ v ∈ [.ref pt1, .ref pt2, .ref pt3, .ref pt4, .ref pt5], FstP K G1 v := fun v hv => by
      simp only [List.mem_cons, List.not_mem_nil, or_false] at hv
      rcases hv with rfl | rfl | rfl | rfl | rfl
      · exact ⟨pt1, (1, 1000), rfl, ob_same (at2.trans (at3.trans (at4.trans (at5.trans a1)))) ot1, .inr ⟨⟨by decide, by decide⟩, sz134 (by decide) (by decide), by decide, by decide, by decide⟩⟩
      · have o := ob_same (at3.trans (at4.trans (at5.trans a1))) ot2
        exact ⟨pt2, (-1, 2), rfl, o, .inl (by simp only [plOk, frOk, o]; decide)⟩
      · have o := ob_same (at4.trans (at5.trans a1)) ot3
        exact ⟨pt3, (0, 2), rfl, o, .inl (by simp only [plOk, frOk, o]; decide)⟩
      · have o := ob_same (at5.trans a1) ot4
        exact ⟨pt4, (1, 1), rfl, o, .inl (by simp only [plOk, frOk, o]; decide)⟩
      · exact ⟨pt5, (1, 3), rfl, ob_same a1 ot5, .inr ⟨⟨by decide, by decide⟩, sz134 (by decide) (by decide), by decide, by decide, by decide⟩⟩
    have stA := st6.same sA
    have nd1 : s ≠ d1 := (st6.same (at1.trans (at2.trans (at3.trans (at4.trans at5))))).ne' hd1 |>.symm
    clear at1 at2 at3 at4 at5 a1 ot1 ot2 ot3 ot4 ot5 ht1 ht2 ht3 ht4 ht5 kt1 kt2 kt3 kt4 kt5
    refine ⟨s, d1, _, rfl, stA, e1, nd1, by show 0 < 5; decide, by show 5 < 1000; decide, fun x G2 hx kp2' st2 => ?_⟩
    obtain ⟨p, pq, rfl, op, hp⟩ := (all x hx).stp (Stp.of_kp (F := Fz s s) kp2' stA st2 (.inl rfl))
    have kp2 := (Kp.same sA).trans kp2'
    clear kp2' all hx e1 hd1 kd1 nd1 stA sA T1 T2 T3 T4 T5 G1
    refine ⟨_, rfl, sz2 (by show 2 ≤ 100; decide), fun t ht ktt => ⟨sz2 (by show 1 ≤ 100; decide), fun d2 hd2 kd2 => ?_⟩⟩
    have a2 := Same.new ht (.tup [.ref p, .ref la])
    have a3 := Same.new hd2 (.lst [.ref t])
    have ot' := ob_same a3 (ob_new (K := K) (o := .tup [.ref p, .ref la]) ktt)
    have e2 : upd (upd G2 t (.tup [.ref p, .ref la])) d2 (.lst [.ref t]) d2 = some (.lst [.ref t]) := upd_same
    generalize upd (upd G2 t (.tup [.ref p, .ref la])) d2 (.lst [.ref t]) = G3 at a3 ot' e2 ⊢
    have s23 := a2.trans a3
    have kp3 := kp2.trans (Kp.same s23)
    have st3 := st2.same s23
    refine ⟨_, rfl, _, rfl, kl, xs, rfl, .of (kp3 _ _ nk hk6), ?_⟩
    rw [show cutV xs (some 1) none = xs.drop 1 from cut_from xs 1 (by omega)]
    refine fun d3 hd3 fr3 => ?_
    have a4 := Same.new hd3 (.lst (xs.drop 1))
    have e4 : upd G3 d3 (.lst (xs.drop 1)) d3 = some (.lst (xs.drop 1)) := upd_same
    generalize upd G3 d3 (.lst (xs.drop 1)) = G4 at a4 e4 ⊢
    clear fr3
    refine ⟨d2, d3, _, _, rfl, rfl, a4 _ _ e2, e4, by rw [sizeLine_eq, List.length_singleton, List.length_drop]; omega, fun d5 hd5 fr5 => ?_⟩
    have kd5 : K.lookup d5 = none := fr5 d5 (by rw [upd_same]; simp)
    have n5 := (st3.same a4).ne' hd5
    have nD5 : d5 ≠ D := (ne_of_none (a4 _ _ (kp3 _ _ (std.ne' hD) w.hd)) hd5).symm
    have a5 := Same.new hd5 (.lst ([.ref t] ++ xs.drop 1))
    have e5 : upd G4 d5 (.lst ([.ref t] ++ xs.drop 1)) d5 = some (.lst ([.ref t] ++ xs.drop 1)) := upd_same
    generalize upd G4 d5 (.lst ([.ref t] ++ xs.drop 1)) = G5 at a5 e5 ⊢
    clear fr5
    have s5 := a4.trans a5
    have q5 : Stp K (Fz s s) G2 G5 := Stp.of_same (s23.trans s5)
    have kp5 := kp3.trans (Kp.same s5)
    have st5 := st3.same s5
    obtain ⟨_, kt5, fl5⟩ := kts G5 ((kpd.trans w.kp).trans kp5)
    obtain ⟨p', pq', ee, op5, hp5⟩ := (show FstP K G2 (.ref p) from ⟨p, pq, rfl, op, hp⟩).stp q5
    cases ee
    exact rf_app kpd std hD kD w kp5 st5 (bad_add e5 kd5 n5 nD5 (bad_first kt5 g.plc (by omega) l8 g1 op5 fl5 (ob_same s5 ot') hp5)) ln (by decide)
  rintro σ H6 ⟨D, Hd, x9, x10, acc, rfl, kpd, std, hD, kD, w, ln⟩
  refine ⟨RfM K [(Pt, qLam)] s sl kl j pa la kb ((fun i j => i + j) 9 u) H 8, ?_, ?_⟩
  · obtain ⟨hk6, kt6, fl6⟩ := kts H6 (kpd.trans w.kp)
    have st6 := w.ls.st
    refine ⟨_, rfl, .inl ⟨rfl, _, .of w.hd⟩, _, rfl, _, rfl, kl, xs, rfl, .of hk6, ?_⟩
    rw [show cutV xs none (some 7) = xs.take 7 from cut_any xs 7]
    refine fun d0 hd0 fr0 => ?_
    have a0 := Same.new hd0 (.lst (xs.take 7))
    have e0 : upd H6 d0 (.lst (xs.take 7)) d0 = some (.lst (xs.take 7)) := upd_same
    generalize upd H6 d0 (.lst (xs.take 7)) = G0 at a0 e0 ⊢
    clear fr0
    refine ⟨_, rfl, sz2 (by show 2 ≤ 100; decide), fun pt1 ht1 kt1 => ?_⟩
    have at1 := Same.new ht1 (.tup [.int 1, .int 1])
    have ot1 := ob_new (K := K) (H := G0) (o := .tup [.int 1, .int 1]) kt1
    generalize upd G0 pt1 (.tup [.int 1, .int 1]) = T1 at at1 ot1 ⊢
    refine ⟨_, rfl, sz2 (by show 2 ≤ 100; decide), fun pt2 ht2 kt2 => ?_⟩
    have at2 := Same.new ht2 (.tup [.int (-1), .int 12])
    have ot2 := ob_new (K := K) (H := T1) (o := .tup [.int (-1), .int 12]) kt2
    generalize upd T1 pt2 (.tup [.int (-1), .int 12]) = T2 at at2 ot2 ⊢
    refine ⟨sz2 (by show 2 ≤ 100; decide), fun pt3 ht3 kt3 => ?_⟩
    have at3 := Same.new ht3 (.tup [.int 3, .int 2])
    have ot3 := ob_new (K := K) (H := T2) (o := .tup [.int 3, .int 2]) kt3
    generalize upd T2 pt3 (.tup [.int 3, .int 2]) = T3 at at3 ot3 ⊢
    refine ⟨sz2 (by show 2 ≤ 100; decide), fun pt4 ht4 kt4 => ?_⟩
    have at4 := Same.new ht4 (.tup [.int 0, .int 1])
    have ot4 := ob_new (K := K) (H := T3) (o := .tup [.int 0, .int 1]) kt4
    generalize upd T3 pt4 (.tup [.int 0, .int 1]) = T4 at at4 ot4 ⊢
    refine ⟨sz2 (by show 2 ≤ 100; decide), fun pt5 ht5 kt5 => ?_⟩
    have at5 := Same.new ht5 (.tup [.int 2, .int 4])
    have ot5 := ob_new (K := K) (H := T4) (o := .tup [.int 2, .int 4]) kt5
    generalize upd T4 pt5 (.tup [.int 2, .int 4]) = T5 at at5 ot5 ⊢
    refine ⟨sz2 (by show 6 ≤ 100; decide), fun d1 hd1 kd1 => ?_⟩
    have a1 := Same.new hd1 (.lst [.ref pt1, .ref pt2, .ref pt3, .ref pt4, .ref pt5, .int 0])
    have e1 : upd T5 d1 (.lst [.ref pt1, .ref pt2, .ref pt3, .ref pt4, .ref pt5, .int 0]) d1 = some (.lst [.ref pt1, .ref pt2, .ref pt3, .ref pt4, .ref pt5, .int 0]) := upd_same
    generalize upd T5 d1 (.lst [.ref pt1, .ref pt2, .ref pt3, .ref pt4, .ref pt5, .int 0]) = G1 at a1 e1 ⊢
    have sB := at1.trans (at2.trans (at3.trans (at4.trans (at5.trans a1))))
    have sA := a0.trans sB
    have all : ∀ v ∈ [.ref pt1, .ref pt2, .ref pt3, .ref pt4, .ref pt5, .int 0], LstP K G1 v := fun v hv => by
      simp only [List.mem_cons, List.not_mem_nil, or_false] at hv
      rcases hv with rfl | rfl | rfl | rfl | rfl | rfl
      · have o := ob_same (at2.trans (at3.trans (at4.trans (at5.trans a1)))) ot1
        exact ⟨Tyd.fr (q := (1, 1)) o, .inl (by simp only [plOk, frOk, o]; decide)⟩
      · have o := ob_same (at3.trans (at4.trans (at5.trans a1))) ot2
        exact ⟨Tyd.fr (q := (-1, 12)) o, .inl (by simp only [plOk, frOk, o]; decide)⟩
      · have o := ob_same (at4.trans (at5.trans a1)) ot3
        exact ⟨Tyd.fr (q := (3, 2)) o, .inl (by simp only [plOk, frOk, o]; decide)⟩
      · have o := ob_same (at5.trans a1) ot4
        exact ⟨Tyd.fr (q := (0, 1)) o, .inr ⟨pt4, rfl, o, nf01, sz01 (by decide)⟩⟩
      · have o := ob_same a1 ot5
        exact ⟨Tyd.fr (q := (2, 4)) o, .inl (by simp only [plOk, frOk, o]; decide)⟩
      · exact ⟨⟨rfl, fun _ _ e => by cases e⟩, .inl rfl⟩
    have stA := st6.same sA
    have nd1 : s ≠ d1 := (st6.same (a0.trans (at1.trans (at2.trans (at3.trans (at4.trans at5)))))).ne' hd1 |>.symm
    have e0' := sB _ _ e0
    have nd0 : d0 ≠ s := st6.ne' hd0
    clear at1 at2 at3 at4 at5 a0 a1 ot1 ot2 ot3 ot4 ot5 ht1 ht2 ht3 ht4 ht5 kt1 kt2 kt3 kt4 kt5 e0 sB
    refine ⟨s, d1, _, rfl, stA, e1, nd1, by show 0 < 6; decide, by show 6 < 1000; decide, fun x G2 hx kp2' st2 => ?_⟩
    have lp := (all x hx).stp (Stp.of_kp (F := Fz s s) kp2' stA st2 (.inl rfl))
    have e02 := kp2' _ _ nd0 e0'
    have kp2 := (Kp.same sA).trans kp2'
    clear kp2' all hx e1 hd0 hd1 kd1 nd1 stA sA e0' T1 T2 T3 T4 T5 G0 G1
    refine ⟨_, rfl, sz2 (by show 2 ≤ 100; decide), fun t ht ktt => ⟨sz2 (by show 1 ≤ 100; decide), fun d2 hd2 kd2 => ?_⟩⟩
    have a2 := Same.new ht (.tup [x, .ref la])
    have a3 := Same.new hd2 (.lst [.ref t])
    have ot' := ob_same a3 (ob_new (K := K) (o := .tup [x, .ref la]) ktt)
    have e2 : upd (upd G2 t (.tup [x, .ref la])) d2 (.lst [.ref t]) d2 = some (.lst [.ref t]) := upd_same
    generalize upd (upd G2 t (.tup [x, .ref la])) d2 (.lst [.ref t]) = G3 at a3 ot' e2 ⊢
    have s23 := a2.trans a3
    have kp3 := kp2.trans (Kp.same s23)
    have st3 := st2.same s23
    refine ⟨d0, d2, _, _, rfl, rfl, s23 _ _ e02, e2, by rw [sizeLine_eq, List.length_singleton, List.length_take]; omega, fun d5 hd5 fr5 => ?_⟩
    have kd5 : K.lookup d5 = none := fr5 d5 (by rw [upd_same]; simp)
    have n5 := st3.ne' hd5
    have nD5 : d5 ≠ D := (ne_of_none (kp3 _ _ (std.ne' hD) w.hd) hd5).symm
    have a5 := Same.new hd5 (.lst (xs.take 7 ++ [.ref t]))
    have e5 : upd G3 d5 (.lst (xs.take 7 ++ [.ref t])) d5 = some (.lst (xs.take 7 ++ [.ref t])) := upd_same
    generalize upd G3 d5 (.lst (xs.take 7 ++ [.ref t])) = G5 at a5 e5 ⊢
    clear fr5
    have kp5 := kp3.trans (Kp.same a5)
    have st5 := st3.same a5
    obtain ⟨_, kt5, fl5⟩ := kts G5 ((kpd.trans w.kp).trans kp5)
    obtain ⟨tv, hv⟩ := lp.stp (Stp.of_same (F := Fz s s) (s23.trans a5))
    exact rf_app kpd std hD kD w kp5 st5 (bad_add e5 kd5 n5 nD5 (bad_end g kt5 (by omega) l8 fl5 (ob_same a5 ot') tv hv)) ln (by decide)
  rintro σ H6 ⟨D, Hd, x9, x10, acc, rfl, kpd, std, hD, kD, w, ln⟩
  obtain ⟨hk6, kt6, fl6⟩ := kts H6 (kpd.trans w.kp)
  have st6 := w.ls.st
  refine ⟨_, rfl, sz2 (by show 2 ≤ 100; decide), fun pt1 ht1 kt1 => ?_⟩
  have at1 := Same.new ht1 (.tup [.int 1, .int 1000])
  have ot1 := ob_new (K := K) (H := H6) (o := .tup [.int 1, .int 1000]) kt1
  generalize upd H6 pt1 (.tup [.int 1, .int 1000]) = T1 at at1 ot1 ⊢
  refine ⟨sz2 (by show 2 ≤ 100; decide), fun pt2 ht2 kt2 => ?_⟩
  have at2 := Same.new ht2 (.tup [.int 1, .int 3])
  have ot2 := ob_new (K := K) (H := T1) (o := .tup [.int 1, .int 3]) kt2
  generalize upd T1 pt2 (.tup [.int 1, .int 3]) = T2 at at2 ot2 ⊢
  refine ⟨sz2 (by show 2 ≤ 100; decide), fun pt3 ht3 kt3 => ?_⟩
  have at3 := Same.new ht3 (.tup [.int 10, .int 11])
  have ot3 := ob_new (K := K) (H := T2) (o := .tup [.int 10, .int 11]) kt3
  generalize upd T2 pt3 (.tup [.int 10, .int 11]) = T3 at at3 ot3 ⊢
  refine ⟨sz2 (by show 3 ≤ 100; decide), fun d1 hd1 kd1 => ?_⟩
  have a1 := Same.new hd1 (.lst [.ref pt1, .ref pt2, .ref pt3])
  have e1 : upd T3 d1 (.lst [.ref pt1, .ref pt2, .ref pt3]) d1 = some (.lst [.ref pt1, .ref pt2, .ref pt3]) := upd_same
  generalize upd T3 d1 (.lst [.ref pt1, .ref pt2, .ref pt3]) = G1 at a1 e1 ⊢
  have sA := at1.trans (at2.trans (at3.trans a1))
  have all : ∀ v ∈ [.ref pt1, .ref pt2, .ref pt3], LowP K G1 v := fun v hv => by
    simp only [List.mem_cons, List.not_mem_nil, or_false] at hv
    rcases hv with rfl | rfl | rfl
    · exact ⟨pt1, (1, 1000), rfl, ⟨ob_same (at2.trans (at3.trans a1)) ot1, ⟨by decide, by decide⟩, sz134 (by decide) (by decide)⟩, by decide, by decide, (qv_lt ⟨by decide, by decide⟩ nf1112).mpr (by decide)⟩
    · exact ⟨pt2, (1, 3), rfl, ⟨ob_same (at3.trans a1) ot2, ⟨by decide, by decide⟩, sz134 (by decide) (by decide)⟩, by decide, by decide, (qv_lt ⟨by decide, by decide⟩ nf1112).mpr (by decide)⟩
    · exact ⟨pt3, (10, 11), rfl, ⟨ob_same a1 ot3, ⟨by decide, by decide⟩, sz134 (by decide) (by decide)⟩, by decide, by decide, (qv_lt ⟨by decide, by decide⟩ nf1112).mpr (by decide)⟩
  have stA := st6.same sA
  have nd1 : s ≠ d1 := (st6.same (at1.trans (at2.trans at3))).ne' hd1 |>.symm
  clear at1 at2 at3 a1 ot1 ot2 ot3 ht1 ht2 ht3 kt1 kt2 kt3
  refine ⟨s, d1, _, rfl, stA, e1, nd1, by show 0 < 3; decide, by show 3 < 1000; decide, fun x G2 hx kp2' st2 => ?_⟩
  obtain ⟨lo, lq, rfl, flo, lo0, lo1, llt⟩ := (all x hx).stp (Stp.of_kp (F := Fz s s) kp2' stA st2 (.inl rfl))
  have kp2 := (Kp.same sA).trans kp2'
  clear kp2' all hx e1 hd1 kd1 nd1 stA sA T1 T2 T3 G1
  refine ⟨RfM K [(Pt, qLam)] s sl kl j pa la kb ((fun i j => i + j) 9 u) H 9, ?_, ?_⟩
  · refine ⟨_, rfl, .inl ⟨rfl, _, .of (kp2 _ _ (std.ne' hD) w.hd)⟩, _, rfl, _, rfl, kl, xs, rfl, .of (kp2 _ _ nk hk6), ?_⟩
    rw [show cutV xs none (some 1) = xs.take 1 from cut_any xs 1]
    refine fun d0 hd0 fr0 => ?_
    have a0 := Same.new hd0 (.lst (xs.take 1))
    have e0 : upd G2 d0 (.lst (xs.take 1)) d0 = some (.lst (xs.take 1)) := upd_same
    generalize upd G2 d0 (.lst (xs.take 1)) = G0 at a0 e0 ⊢
    clear fr0
    refine ⟨sz2 (by show 2 ≤ 100; decide), fun p1 h1 k1 => ⟨_, rfl, sz2 (by show 2 ≤ 100; decide), fun p2 h2 k2 => ⟨_, rfl, _, rfl, sz2 (by show 2 ≤ 100; decide), fun p3 h3 k3 => ⟨sz2 (by show 2 ≤ 100; decide), fun d2 hd2 kd2 => ?_⟩⟩⟩⟩
    have b1 := Same.new h1 (.tup [.int 11, .int 12])
    have b2 := Same.new h2 (.tup [.ref p1, .ref la])
    have b3 := Same.new h3 (.tup [.ref lo, .ref la])
    have b4 := Same.new hd2 (.lst [.ref p2, .ref p3])
    have c1 := ob_same (b2.trans (b3.trans b4)) (ob_new (K := K) (o := .tup [.int 11, .int 12]) k1)
    have c2 := ob_same (b3.trans b4) (ob_new (K := K) (o := .tup [.ref p1, .ref la]) k2)
    have c3 := ob_same b4 (ob_new (K := K) (o := .tup [.ref lo, .ref la]) k3)
    have e2 : upd (upd (upd (upd G0 p1 (.tup [.int 11, .int 12])) p2 (.tup [.ref p1, .ref la])) p3 (.tup [.ref lo, .ref la])) d2 (.lst [.ref p2, .ref p3]) d2 = some (.lst [.ref p2, .ref p3]) := upd_same
    have s4 := b1.trans (b2.trans (b3.trans b4))
    generalize upd (upd (upd (upd G0 p1 (.tup [.int 11, .int 12])) p2 (.tup [.ref p1, .ref la])) p3 (.tup [.ref lo, .ref la])) d2 (.lst [.ref p2, .ref p3]) = G3 at c1 c2 c3 e2 s4 ⊢
    clear b1 b2 b3 b4 h1 h2 h3 hd2 k1 k2 k3
    refine ⟨d0, d2, _, _, rfl, rfl, s4 _ _ e0, e2, by rw [sizeLine_eq, List.length_take]; show min 1 xs.length + 2 ≤ 16777216; omega, fun d5 hd5 fr5 => ?_⟩
    have s04 := a0.trans s4
    have kp3 := kp2.trans (Kp.same s04)
    have st3 := st2.same s04
    have kd5 : K.lookup d5 = none := fr5 d5 (by rw [upd_same]; simp)
    have n5 := st3.ne' hd5
    have nD5 : d5 ≠ D := (ne_of_none (kp3 _ _ (std.ne' hD) w.hd) hd5).symm
    have a5 := Same.new hd5 (.lst (xs.take 1 ++ [.ref p2, .ref p3]))
    have e5 : upd G3 d5 (.lst (xs.take 1 ++ [.ref p2, .ref p3])) d5 = some (.lst (xs.take 1 ++ [.ref p2, .ref p3])) := upd_same
    generalize upd G3 d5 (.lst (xs.take 1 ++ [.ref p2, .ref p3])) = G5 at a5 e5 ⊢
    clear fr5
    have kp5 := kp3.trans (Kp.same a5)
    have st5 := st3.same a5
    obtain ⟨_, kt5, fl5⟩ := kts G5 ((kpd.trans w.kp).trans kp5)
    exact rf_app kpd std hD kD w kp5 st5 (bad_add e5 kd5 n5 nD5 (bad_low g kt5 (by omega) fl5 (ob_same a5 c2) (ob_same a5 c3) ⟨ob_same a5 c1, nf1112, sz134 (by decide) (by decide)⟩ (flo.same (s04.trans a5)) lo0 lo1 llt)) ln (by decide)
  clear llt lo0 lo1 flo kp2 st2 G2 kt6 fl6 st6 hk6 w ln kD hD std kpd H6
  rintro σ H6 ⟨D, Hd, x9, x10, acc, rfl, kpd, std, hD, kD, w, ln⟩
  refine ⟨RfM K [(Pt, qLam)] s sl kl j pa la kb ((fun i j => i + j) 9 u) H 11, ?_, ?_⟩
  · obtain ⟨hk6, kt6, fl6⟩ := kts H6 (kpd.trans w.kp)
    have st6 := w.ls.st
    refine ⟨_, rfl, kl, rfl, xs, itsO_ofL ((ob_none kk).trans hk6), _, _, rfl, rfl, _, rfl, ite2 (fun hc1 => ?_) (fun _ => ⟨D, Hd, x9, x10, acc, rfl, kpd, std, hD, kD, w, by omega⟩)⟩
    have h2 : 2 ≤ ks.length := by
      have := of_decide_eq_true hc1
      omega
    refine ⟨_, rfl, .inl ⟨rfl, _, .of w.hd⟩, _, rfl, _, rfl, kl, xs, rfl, .of hk6, ?_⟩
    rw [show cutV xs (some 1) none = xs.drop 1 from cut_from xs 1 (by omega)]
    refine fun d1 hd1 fr1 => ?_
    have kd1 : K.lookup d1 = none := fr1 d1 (by rw [upd_same]; simp)
    have n1 := st6.ne' hd1
    have nD1 : d1 ≠ D := (ne_of_none w.hd hd1).symm
    have a1 := Same.new hd1 (.lst (xs.drop 1))
    have e1 : upd H6 d1 (.lst (xs.drop 1)) d1 = some (.lst (xs.drop 1)) := upd_same
    generalize upd H6 d1 (.lst (xs.drop 1)) = G1 at a1 e1 ⊢
    clear fr1
    have st1 := st6.same a1
    have w1 := w.go std hD (Kp.same a1) st1
    have bd1 : BadK K (Fz s D) G1 (.ref d1) := bad_add e1 kd1 n1 nD1 (bad_tail g (kt6.same a1) (by omega) h2)
    have w2 := w1.put std hD bd1 (by omega)
    refine ⟨D, acc, .ref d1, rfl, rfl, w1.hd, by rw [sizeLine_eq]; omega, ?_⟩
    generalize upd G1 D (.lst (acc ++ [.ref d1])) = G2 at w2 ⊢
    have kp2 := w2.kp
    obtain ⟨hk2, kt2, fl2⟩ := kts G2 (kpd.trans kp2)
    refine ⟨_, rfl, .inl ⟨rfl, _, .of w2.hd⟩, _, rfl, kl, xs, rfl, .of hk2, fun d5 hd5 fr5 => ?_⟩
    have kd5 : K.lookup d5 = none := fr5 d5 (by rw [upd_same]; simp)
    have n5 := w2.ls.st.ne' hd5
    have nD5 : d5 ≠ D := (ne_of_none w2.hd hd5).symm
    have a5 := Same.new hd5 (.lst xs.reverse)
    have e5 : upd G2 d5 (.lst xs.reverse) d5 = some (.lst xs.reverse) := upd_same
    generalize upd G2 d5 (.lst xs.reverse) = G5 at a5 e5 ⊢
    clear fr5
    exact rf_app kpd std hD kD w2 (Kp.same a5) (w2.ls.st.same a5) (bad_add e5 kd5 n5 nD5 (bad_rev g (kt2.same a5) (by omega) h2)) (show _ ≤ 10 by rw [List.length_append, List.length_singleton]; omega) (by decide)
  rintro σ H6 ⟨D, Hd, x9, x10, acc, rfl, kpd, std, hD, kD, w, ln⟩
  refine ⟨RfM K [(Pt, qLam)] s sl kl j pa la kb ((fun i j => i + j) 9 u) H 12, ?_, ?_⟩
  · obtain ⟨hk6, kt6, fl6⟩ := kts H6 (kpd.trans w.kp)
    have st6 := w.ls.st
    refine ⟨_, rfl, kl, rfl, xs, itsO_ofL ((ob_none kk).trans hk6), _, _, rfl, rfl, _, rfl, ite2 (fun hc1 => ?_) (fun _ => ⟨D, Hd, x9, x10, acc, rfl, kpd, std, hD, kD, w, by omega⟩)⟩
    have h3 : 3 ≤ ks.length := by
      have := of_decide_eq_true hc1
      omega
    refine ⟨_, rfl, _, rfl, kl, rfl, xs, itsO_ofL ((ob_none kk).trans hk6), _, _, rfl, rfl, s, _, rfl, st6, by show (xs.length : Int) - 2 < 2 ^ 200; omega, fun r H7 r0 r1 kp7 st7 => ⟨_, _, rfl, rfl, ?_⟩⟩
    have r1 : r < (xs.length : Int) - 2 ∨ r = 0 := r1
    obtain ⟨i, rfl⟩ := Int.eq_ofNat_of_zero_le r0
    have hi : i + 2 < ks.length := by omega
    have w7 := w.go std hD kp7 st7
    obtain ⟨hk7, kt7, fl7⟩ := kts H7 (kpd.trans w7.kp)
    obtain ⟨x1, ex1⟩ : ∃ x, xs[i + 1]? = some x := ⟨_, List.getElem?_eq_getElem (by omega)⟩
    obtain ⟨x2, ex2⟩ : ∃ x, xs[i + 1 + 1]? = some x := ⟨_, List.getElem?_eq_getElem (by omega)⟩
    refine ⟨_, rfl, .inl ⟨rfl, _, .of w7.hd⟩, _, rfl, _, rfl, _, rfl, kl, xs, rfl, .of hk7, ?_⟩
    rw [show cutV xs none (some ((fun i j => i + j) (1 : Int) (i : Int))) = xs.take (i + 1) from by
      show cutV xs none (some ((1 : Int) + (i : Int))) = _
      rw [show (1 : Int) + (i : Int) = ((i + 1 : Nat) : Int) by omega]
      exact cut_any xs (i + 1)]
    refine fun d1 hd1 fr1 => ?_
    have a1 := Same.new hd1 (.lst (xs.take (i + 1)))
    have e1 : upd H7 d1 (.lst (xs.take (i + 1))) d1 = some (.lst (xs.take (i + 1))) := upd_same
    generalize upd H7 d1 (.lst (xs.take (i + 1))) = G1 at a1 e1 ⊢
    clear fr1
    have o1 := (ob_none kk).trans (a1 _ _ hk7)
    refine ⟨_, rfl, _, rfl, _, _, rfl, rfl, kl, _, rfl, rfl, xs, itsO_ofL o1, x2, by show atI xs ((1 : Int) + (i : Int) + 1) = _; rw [show (1 : Int) + (i : Int) + 1 = ((i + 1 + 1 : Nat) : Int) by omega]; exact atI_nat ex2, _, rfl, _, rfl, kl, _, rfl, rfl, xs, itsO_ofL o1, x1, by show atI xs ((1 : Int) + (i : Int)) = _; rw [show (1 : Int) + (i : Int) = ((i + 1 : Nat) : Int) by omega]; exact atI_nat ex1, sz2 (by show 2 ≤ 100; decide), fun d2 hd2 kd2 => ?_⟩
    have a2 := Same.new hd2 (.lst [x2, x1])
    have e2 : upd G1 d2 (.lst [x2, x1]) d2 = some (.lst [x2, x1]) := upd_same
    generalize upd G1 d2 (.lst [x2, x1]) = G2 at a2 e2 ⊢
    refine ⟨d1, d2, _, _, rfl, rfl, a2 _ _ e1, e2, by rw [sizeLine_eq, List.length_take]; show min (i + 1) xs.length + 2 ≤ 16777216; omega, fun d3 hd3 fr3 => ?_⟩
    have a3 := Same.new hd3 (.lst (xs.take (i + 1) ++ [x2, x1]))
    have e3 : upd G2 d3 (.lst (xs.take (i + 1) ++ [x2, x1])) d3 = some (.lst (xs.take (i + 1) ++ [x2, x1])) := upd_same
    generalize upd G2 d3 (.lst (xs.take (i + 1) ++ [x2, x1])) = G3 at a3 e3 ⊢
    clear fr3
    have s3 := a1.trans (a2.trans a3)
    refine ⟨_, rfl, _, rfl, _, _, rfl, rfl, _, rfl, kl, xs, rfl, .of (s3 _ _ hk7), ?_⟩
    rw [show cutV xs (some ((fun i j => i + j) ((fun i j => i + j) (1 : Int) (i : Int)) 2)) none = xs.drop (i + 1 + 2) from by
      show cutV xs (some ((1 : Int) + (i : Int) + 2)) none = _
      rw [show (1 : Int) + (i : Int) + 2 = ((i + 1 + 2 : Nat) : Int) by omega]
      exact cut_from xs (i + 1 + 2) (by omega)]
    refine fun d4 hd4 fr4 => ?_
    have a4 := Same.new hd4 (.lst (xs.drop (i + 1 + 2)))
    have e4 : upd G3 d4 (.lst (xs.drop (i + 1 + 2))) d4 = some (.lst (xs.drop (i + 1 + 2))) := upd_same
    generalize upd G3 d4 (.lst (xs.drop (i + 1 + 2))) = G4 at a4 e4 ⊢
    clear fr4
    refine ⟨d3, d4, _, _, rfl, rfl, a4 _ _ e3, e4, by rw [sizeLine_eq]; simp only [List.length_append, List.length_take, List.length_drop, List.length_cons, List.length_nil]; omega, fun d5 hd5 fr5 => ?_⟩
    have s4 := s3.trans a4
    have kd5 : K.lookup d5 = none := fr5 d5 (by rw [upd_same]; simp)
    have n5 := (st7.same s4).ne' hd5
    have nD5 : d5 ≠ D := (ne_of_none (s4 _ _ w7.hd) hd5).symm
    have a5 := Same.new hd5 (.lst (xs.take (i + 1) ++ [x2, x1] ++ xs.drop (i + 1 + 2)))
    have e5 : upd G4 d5 (.lst (xs.take (i + 1) ++ [x2, x1] ++ xs.drop (i + 1 + 2))) d5 = some (.lst (xs.take (i + 1) ++ [x2, x1] ++ xs.drop (i + 1 + 2))) := upd_same
    generalize upd G4 d5 (.lst (xs.take (i + 1) ++ [x2, x1] ++ xs.drop (i + 1 + 2))) = G5 at a5 e5 ⊢
    clear fr5
    have s5 := s4.trans a5
    exact rf_app kpd std hD kD w7 (Kp.same s5) (st7.same s5) (bad_add e5 kd5 n5 nD5 (bad_swap g (kt7.same s5) (by omega) ex1 ex2)) ln (by decide)
  rintro σ H6 ⟨D, Hd, x9, x10, acc, rfl, kpd, std, hD, kD, w, ln⟩
  have kpT := kpd.trans w.kp
  have sl6 := hc.kps kpT hS
  have bg6 : Bg s H H6 := Bg.kp kpT
  have hd6 := w.hd
  refine ⟨_, rfl, D, rfl, ⟨acc, .of hd6⟩, forI_list (xs := acc) (fun i σ H' => ∃ x11, σ = [some (V.ref s), some (.ref sl), some (.ref kl), some (.int j), some (.ref pa), some (.ref la), some kb, some (.int ((fun i j => i + j) 9 u)), some (.ref D), x9, x10, x11, none, none] ∧ H' D = some (.lst acc) ∧ LamX.Tabs [(Pt, qLam)] H' ∧ Sto K H' s ∧ Bg s H6 H' ∧ SlAt K C 134 H' sl ks ∧ ∀ v ∈ acc, BadK K (Fz s D) H' v) ⟨none, rfl, hd6, w.ls.tb, w.ls.st, Bg.refl _ _, sl6, w.al⟩ ?_ ?_ ?_⟩
  · rintro i σ H' _ ⟨x11, rfl, hd', _⟩
    exact .of hd'
  · rintro i v σ H' hv ⟨x11, rfl, hd', tb, st, bg, sl', al⟩
    have hb := al v (List.mem_of_getElem? hv)
    refine ⟨tb, fun Ha ea ta => ?_⟩
    refine ⟨_, rfl, fun ci dx hcn hdn hne => ?_⟩
    refine ⟨Ha, ci, v, Fz s D, rfl, same_make hcn hdn, hb.stp (Stp.of_ext ea), fun d Hb sb hbd => ⟨rfl, d, _, rfl, hbd, fun p Hc sc op => ?_⟩⟩
    have sX := (same_make hcn hdn).trans (sb.trans sc)
    clear hcn hdn hne hbd sb sc
    refine ⟨sz2 (by show 2 ≤ 100; decide), fun p2 hp2 kp2 => ?_⟩
    have s2 := Same.new hp2 (.tup [.str "BadValue", .str "knots"])
    have o2 := ob_new (K := K) (H := Hc) (o := .tup [.str "BadValue", .str "knots"]) kp2
    generalize upd Hc p2 (.tup [.str "BadValue", .str "knots"]) = Hd2 at s2 o2 ⊢
    refine ⟨_, _, rfl, (eqv_tup (ob_same s2 op) o2 (by rfl) (by show 2 ≤ 1000; decide)).up.up, fun He se => ⟨_, rfl, if_no rfl ?_⟩⟩
    have sT := sX.trans (s2.trans se)
    have qT : Stp K (Fz s D) H' He := (Stp.of_ext ea).trans (Stp.of_same sT)
    exact ⟨_, rfl, sT _ _ (ea _ _ hd' (fun ps z => by cases z)), tabs_same sT ta, (st.ext ea).same sT, bg.trans ((Bg.ext ea).trans (Bg.same sT)), (sl'.ext ea).same sT, fun v hv => (al v hv).stp qT⟩
  · rintro σ H' ⟨x11, rfl, _, tb, st, bg, sl', _⟩
    refine ⟨_, rfl, s, rfl, st, fun bv H7 gb kp7 st7 => ?_⟩
    have sl7 := sl'.kps kp7 st
    have tb7 : LamX.Tabs [(Pt, qLam)] H7 := ((LawS.mk st tb).kp kp7 st7).tb
    refine ⟨tb7, fun Ha ea ta => ?_⟩
    have sla := sl7.ext ea
    obtain ⟨dxa, tta, ua, hia, _, _⟩ := id sla
    have qa : Stp K (Fz s D) H7 Ha := Stp.of_ext ea
    refine ⟨_, rfl, sl, dxa, _, rfl, hia, rfl, _, rfl, .ref sl, bv, rfl, gb.stp qa, fun d Hb sb hbd => ⟨rfl, d, _, rfl, hbd, fun p Hc sc op => ?_⟩⟩
    refine ⟨sz2 (by show 2 ≤ 100; decide), fun p2 hp2 kp2 => ?_⟩
    have s2 := Same.new hp2 (.tup [.str "BadValue", .str "turns"])
    have o2 := ob_new (K := K) (H := Hc) (o := .tup [.str "BadValue", .str "turns"]) kp2
    generalize upd Hc p2 (.tup [.str "BadValue", .str "turns"]) = Hd2 at s2 o2 ⊢
    refine ⟨_, _, rfl, (eqv_tup (ob_same s2 op) o2 (by rfl) (by show 2 ≤ 1000; decide)).up.up, fun He se => ?_⟩
    have sT := sb.trans (sc.trans (s2.trans se))
    exact q He (bg6.trans (bg.trans ((Bg.kp kp7).trans ((Bg.ext ea).trans (Bg.same sT))))) ⟨(st7.ext ea).same sT, tabs_same sT ta⟩
end
end My

namespace My
open PySem PySem.Spec PyProof.Rows L2
section
variable {P : Program} {w : World} {K : PySem.W.Frag} {mg : Str → Option Value} {base : Heap}
theorem Stp.of_bg {F : Addr → Prop} {s : Addr} {H H' : Hp} (e : Bg s H H') (st : Sto K H s) (st' : Sto K H' s) (hF : F s) : Stp K F H H' := fun a z h t => by
  by_cases c : a = s
  · subst c
    obtain ⟨ys, hy⟩ := st.ob
    obtain ⟨zs, hz⟩ := st'.ob
    rw [hy] at h
    cases h
    exact .inr ⟨hF, ys, zs, rfl, hz⟩
  · unfold ob at h ⊢
    split
    · rename_i o ho
      rw [ho] at h
      exact .inl h
    · rename_i ho
      rw [ho] at h
      exact .inl (e a z c (fun ps hz => by rw [hz] at t; cases t) h)
theorem SlAt.put {C D : Addr} {n : Nat} {H : Hp} {c : Addr} {ks : List Kt} {ys zs : List V} (h : SlAt K C n H c ks) (hD : H D = some (.lst ys)) : SlAt K C n (upd H D (.lst zs)) c ks := by
  obtain ⟨dx, t, xs, a, b, d⟩ := h
  have p : Stp K (fun x => x = D) H (upd H D (.lst zs)) := Stp.of_put hD rfl
  exact ⟨dx, t, xs, by rw [upd_ne (by rintro rfl; rw [hD] at a; cases a)]; exact a, tup_stp p b, d.stp p⟩
theorem SlAt.bg {C s : Addr} {n : Nat} {H H' : Hp} {c : Addr} {ks : List Kt} (h : SlAt K C n H c ks) (e : Bg s H H') (st : Sto K H s) (st' : Sto K H' s) : SlAt K C n H' c ks := by
  obtain ⟨dx, t, xs, a, b, d⟩ := h
  have p : Stp K (fun x => x = s) H H' := Stp.of_bg e st st' rfl
  obtain ⟨zs, hz⟩ := st.at
  exact ⟨dx, t, xs, e _ _ (by rintro rfl; rw [hz] at a; cases a) (fun ps z => by cases z) a, tup_stp p b, d.stp p⟩
theorem SlAt.mono {C : Addr} {n m : Nat} {H : Hp} {c : Addr} {ks : List Kt} (h : SlAt K C n H c ks) (l : n ≤ m) : SlAt K C m H c ks := by
  obtain ⟨dx, t, xs, a, b, d⟩ := h
  exact ⟨dx, t, xs, a, b, d.mono l⟩
/-- a list of knots -/
structure KL (K : PySem.W.Frag) (s : Addr) (H : Hp) (l : Addr) (xs : List V) (ks : List Kt) : Prop where
  h : H l = some (.lst xs)
  k : K.lookup l = none
  n : l ≠ s
  t : Kts K H 134 xs ks
  g : Good ks
  z : ∀ k ∈ ks, Sz 20 k.1
  l8 : ks.length ≤ 8
theorem KL.kp {s l : Addr} {H H' : Hp} {xs : List V} {ks : List Kt} (h : KL K s H l xs ks) (e : Kp s H H') (st : Sto K H s) : KL K s H' l xs ks := ⟨e _ _ h.n h.h, h.k, h.n, h.t.kps e st, h.g, h.z, h.l8⟩
theorem KL.bg {s l : Addr} {H H' : Hp} {xs : List V} {ks : List Kt} (h : KL K s H l xs ks) (e : Bg s H H') (st : Sto K H s) (st' : Sto K H' s) : KL K s H' l xs ks := ⟨e _ _ h.n (fun ps z => by cases z) h.h, h.k, h.n, h.t.stp (F := fun x => x = s) (Stp.of_bg e st st' rfl), h.g, h.z, h.l8⟩
theorem KL.put {s l D : Addr} {H : Hp} {xs ys zs : List V} {ks : List Kt} (h : KL K s H l xs ks) (hD : H D = some (.lst ys)) (n : l ≠ D) : KL K s (upd H D (.lst zs)) l xs ks := ⟨by rw [upd_ne n]; exact h.h, h.k, h.n, h.t.stp (F := fun x => x = D) (Stp.of_put hD rfl), h.g, h.z, h.l8⟩
def KLx (K : PySem.W.Frag) (s : Addr) (H : Hp) (x : V) : Prop := ∃ l xs ks, x = .ref l ∧ KL K s H l xs ks
theorem KLx.kp {s : Addr} {H H' : Hp} {x : V} (h : KLx K s H x) (e : Kp s H H') (st : Sto K H s) : KLx K s H' x := by
  obtain ⟨l, xs, ks, e1, k⟩ := h
  exact ⟨l, xs, ks, e1, k.kp e st⟩
/-- turns that are asked -/
structure AF (K : PySem.W.Frag) (s : Addr) (H : Hp) (al : Addr) (acc : List V) (ks : List Kt) : Prop where
  h : H al = some (.lst acc)
  k : K.lookup al = none
  n : al ≠ s
  l : acc.length ≤ 1000
  f : Frs K H 160 acc
  r : Rch K H ks acc
theorem Frs.stp {F : Addr → Prop} {H H' : Hp} {n : Nat} {acc : List V} (h : Frs K H n acc) (p : Stp K F H H') : Frs K H' n acc := fun x hx => by
  obtain ⟨a, q, e, f⟩ := h x hx
  exact ⟨a, q, e, f.stp p⟩
theorem Rch.stp {F : Addr → Prop} {H H' : Hp} {ks : List Kt} {acc : List V} (h : Rch K H ks acc) (p : Stp K F H H') : Rch K H' ks acc := by
  obtain ⟨i, a, q, e, f, z⟩ := h
  exact ⟨i, a, q, e, f.stp p, z⟩
theorem AF.bg {s al : Addr} {H H' : Hp} {acc : List V} {ks : List Kt} (h : AF K s H al acc ks) (e : Bg s H H') (st : Sto K H s) (st' : Sto K H' s) : AF K s H' al acc ks := ⟨e _ _ h.n (fun ps z => by cases z) h.h, h.k, h.n, h.l, h.f.stp (F := fun x => x = s) (Stp.of_bg e st st' rfl), h.r.stp (F := fun x => x = s) (Stp.of_bg e st st' rfl)⟩
theorem sw_even : rabs 0 = sw [(((0, 1), (0, 1)) : Kt)] 1 := by
  rw [sw_s (i := 0) (k := ((0, 1), (0, 1))) rfl, sw_0, show qv (((0, 1), (0, 1)) : Kt).2 = 0 from qv01]
  unfold rabs
  split <;> grind
def spLaw (K : PySem.W.Frag) (Pt : Addr) : Sp := fun vs H Q _ => ∃ (a : Addr) (ns : List Int), vs = [.ref a] ∧ SqL K H a (ns.map V.int) ∧ H Pt = some (.tbl #[]) ∧ ∀ H', Q (.bl true) H'
abbrev sLaw : Stmt := topS 79
theorem scLaw : FnScope ["_law_script", "_law_store_here", "_law_knots_here", "_law_others", "_law_passed", "_law_slot", "_law_other", "_law_asked", "_law_even", "_law_plain", "_law_knot"] ["_law_script"] (defScope sLaw) := ⟨rfl, rfl, rfl, by decide +kernel, rfl, by decide +kernel, by decide +kernel⟩
theorem blk_scLaw_0 : BlkOk ["_law_script", "_law_store_here", "_law_knots_here", "_law_others", "_law_passed", "_law_slot", "_law_other", "_law_asked", "_law_even", "_law_plain", "_law_knot"] (defScope sLaw) { kind := .function, names := [(".0", .local), ("_law_knot", .local)], isGenerator := false, isCoroutine := false, more := [] } [("_law_knot", 10)] := ⟨rfl, by decide +kernel, by decide +kernel, by decide +kernel, by decide +kernel⟩
theorem ok_law {C fa P1 : Addr} {fd : FuncData} (F : Fun K "law" "law" sLaw fa fd) (T : Bt K mg) (mk1 : C8.Mak P w K mg base 6 "Slot" C (spSlInit K C) []) (d_even : Kn P w K mg base 8 "even_slot" [] (spEven K C)) (d__law_store : Kn P w K mg base 1 "_law_store" ["_law_script"] (spStore K)) (d__law_knots : Kn P w K mg base 4 "_law_knots" ["_law_store_here", "_law_top"] (spKn K)) (d__law_knots_wide : Kn P w K mg base 5 "_law_knots_wide" ["_law_store_here"] (spSome K)) (d__law_pick : Kn P w K mg base 3 "_law_pick" ["_law_store_here", "_law_row"] (spPick K)) (d__law_same : Kn P w K mg base 5 "_law_same" ["_law_told", "_law_due"] (spSame K 4)) (d__law_asked_turns : Kn P w K mg base 5 "_law_asked_turns" ["_law_store_here", "_law_knots_here"] (spAskT K)) (d__law_knots_hold : Kn P w K mg base 8 "_law_knots_hold" ["_law_store_here", "_law_slot", "_law_knots_here"] (spKH K C)) (d__law_slot_holds : Kn P w K mg base 6 "_law_slot_holds" ["_law_store_here", "_law_slot", "_law_knots_here", "_law_asked"] (spSh K C)) (d__law_refused : Kn P w K mg base 10 "_law_refused" ["_law_store_here", "_law_slot", "_law_knots_here"] (spRefd K C P1)) : FnOk P w K mg base CX0 11 fa fd ["_law_script"] (spLaw K P1) := by
  refine F.ok scLaw (fun vs H Q E h => ?_) (fun cdv A outer s H vs Q E hr h => ?_)
  · obtain ⟨sa, ns, rfl, _⟩ := h
    rfl
  obtain ⟨sa, ns, rfl, hsa, hP, q⟩ := h
  refine ⟨_, (pss_cons (ps_set (i := 1) scLaw.nd rfl (.inl rfl) (pe_kn d__law_store hr (by rfl) (pa_cons (pv 0) pa_nil)))
      (pss_cons (ps_set (i := 2) scLaw.nd rfl (.inl rfl) (pe_ls (pa_cons (pe_kn d__law_knots hr (by rfl) (pa_cons (pv 1) (pa_cons pe_int pa_nil))) (pa_cons (pe_kn d__law_knots hr (by rfl) (pa_cons (pv 1) (pa_cons pe_int pa_nil))) (pa_cons (pe_kn d__law_knots hr (by rfl) (pa_cons (pv 1) (pa_cons pe_int pa_nil))) (pa_cons (pe_kn d__law_knots_wide hr (by rfl) (pa_cons (pv 1) pa_nil)) pa_nil))))))
      (pss_cons (ps_set (i := 2) scLaw.nd rfl (.inl rfl) (pe_kn d__law_pick hr (by rfl) (pa_cons (pv 1) (pa_cons (pv 2) pa_nil))))
      (pss_cons (ps_set (i := 3) scLaw.nd rfl (.inl rfl) (pe_kn d__law_pick hr (by rfl) (pa_cons (pv 1) (pa_cons (pe_ls (pa_cons (pe_kn d__law_knots hr (by rfl) (pa_cons (pv 1) (pa_cons pe_int pa_nil))) (pa_cons (pe_kn d__law_knots hr (by rfl) (pa_cons (pv 1) (pa_cons pe_int pa_nil))) (pa_cons (pe_kn d__law_knots_wide hr (by rfl) (pa_cons (pv 1) pa_nil)) pa_nil)))) pa_nil))))
      (pss_cons (ps_set (i := 4) scLaw.nd rfl (.inl rfl) (pe_fr (pe_callTy call_list_of (by rfl) T.b_list (by decide +kernel) (pa_cons (pv 2) pa_nil))))
      (pss_cons (ps_set (i := 5) scLaw.nd rfl (.inl rfl) (C8.pe_mk mk1 hr (by omega) (by rfl) (pa_cons (pv 4) pa_nil)))
      (pss_cons (ps_if (pt_not (pt_val (pe_kn d__law_same hr (by rfl) (pa_cons (pv 4) (pa_cons (pv 2) pa_nil))))) (pss_one (ps_ret pe_bl)) pss_nil)
      (pss_cons (ps_expr (pe_bm0 PySem.F.plainAttrs_list PySem.F.slot_list_clear PySem.F.type_list_clear mt_clear (pv 4)))
      (pss_cons (ps_set (i := 6) scLaw.nd rfl (.inl rfl) (C8.pe_mk mk1 hr (by omega) (by rfl) (pa_cons (pe_fr (pe_callTy call_list_of (by rfl) T.b_list (by decide +kernel) (pa_cons (pv 3) pa_nil))) pa_nil)))
      (pss_cons (ps_set (i := 7) scLaw.nd rfl (.inl rfl) (pe_kn d__law_asked_turns hr (by rfl) (pa_cons (pv 1) (pa_cons (pv 2) pa_nil))))
      (pss_cons (ps_if (PW.pt (pw_or (pt_not (pt_val (pe_kn d__law_knots_hold hr (by rfl) (pa_cons (pv 1) (pa_cons (pv 5) (pa_cons (pv 2) pa_nil)))))) (pw_or1 (pt_not (pt_val (pe_kn d__law_slot_holds hr (by rfl) (pa_cons (pv 1) (pa_cons (pv 5) (pa_cons (pv 2) (pa_cons (pv 7) pa_nil)))))))))) (pss_one (ps_ret pe_bl)) pss_nil)
      (pss_cons (ps_if (pt_not (pt_val (pe_kn d__law_slot_holds hr (by rfl) (pa_cons (pv 1) (pa_cons (pv 6) (pa_cons (pv 3) (pa_cons (pe_fr (pe_op op_cat (pv 7) (pe_fr (pe_lc (own := [("_law_knot", 10)]) (g := gName 10) (te := (tOp (rIxA K) (tVar 10) (tC (.int 0)))) rfl scLaw.nd (pi_list (pv 3)) blk_scLaw_0 (fun _ _ _ _ _ => by exact pg_name (i := 10) scLaw.nd rfl (.inl rfl)) (fun _ _ _ _ _ => pts_nil) (fun _ _ _ _ _ => by exact (pe_ix ix_any (pv 10) pe_int (fun _ _ => rfl))))))) pa_nil))))))) (pss_one (ps_ret pe_bl)) pss_nil)
      (pss_cons (ps_if (PW.pt (pw_or (pt_not (pt_val (pe_kn d__law_refused hr (by rfl) (pa_cons (pv 1) (pa_cons (pv 5) (pa_cons (pv 2) pa_nil)))))) (pw_or1 (pt_not (pt_val (pe_kn d__law_refused hr (by rfl) (pa_cons (pv 1) (pa_cons (pv 6) (pa_cons (pv 3) pa_nil))))))))) (pss_one (ps_ret pe_bl)) pss_nil)
      (pss_cons (ps_set (i := 8) scLaw.nd rfl (.inl rfl) (pe_kn0 d_even hr (by rfl)))
      (pss_cons (ps_set (i := 9) scLaw.nd rfl (.inl rfl) (pe_ls (pa_cons (pe_tp (pa_cons (pe_tp (pa_cons pe_int (pa_cons pe_int pa_nil))) (pa_cons (pe_tp (pa_cons pe_int (pa_cons pe_int pa_nil))) pa_nil))) pa_nil)))
      (pss_cons (ps_if (PW.pt (pw_or (pt_not (pt_val (pe_kn d__law_knots_hold hr (by rfl) (pa_cons (pv 1) (pa_cons (pv 8) (pa_cons (pv 9) pa_nil)))))) (pw_or1 (pt_not (pt_val (pe_kn d__law_slot_holds hr (by rfl) (pa_cons (pv 1) (pa_cons (pv 8) (pa_cons (pv 9) (pa_cons (pe_fr (pe_slice sl_list (pv 7) po_none (po_some pe_int))) pa_nil)))))))))) (pss_one (ps_ret pe_bl)) pss_nil)
      (pss_one (ps_ret (pe_kn d__law_slot_holds hr (by rfl) (pa_cons (pv 1) (pa_cons (pv 5) (pa_cons (pv 2) (pa_cons (pv 7) pa_nil))))))))))))))))))))))), ?_⟩
  have TBL : ∀ H1, Same H H1 → LamX.Tabs [(P1, qLam)] H1 := fun H1 s1 p hp => by
    simp only [List.mem_cons, List.not_mem_nil, or_false] at hp
    subst hp
    exact LamX.TabS.nil (s1 _ _ hP)
  simp only [cx_K]
  refine ⟨_, rfl, sa, ns, rfl, hsa, fun s H1 s1 st1 => ?_⟩
  have LS1 : LawS K [(P1, qLam)] H1 s := ⟨st1, TBL H1 s1⟩
  clear TBL hP hsa s1
  refine ⟨_, rfl, s, 8, rfl, st1, by decide, by decide, fun l1 x1 k1 H2 n1 c1 h1 t1 g1 b1 kp2 st2 => ?_⟩
  refine ⟨_, rfl, s, 8, rfl, st2, by decide, by decide, fun l2 x2 k2 H3 n2 c2 h2 t2 g2 b2 kp3 st3 => ?_⟩
  refine ⟨_, rfl, s, 2, rfl, st3, by decide, by decide, fun l3 x3 k3 H4 n3 c3 h3 t3 g3 b3 kp4 st4 => ?_⟩
  refine ⟨_, rfl, s, rfl, st4, fun l4 x4 k4 H5 n4 c4 h4 t4 g4 z4 b4 kp5 st5 => ?_⟩
  refine ⟨sz2 (by show 4 ≤ 100; decide), fun P hPn kPn => ?_⟩
  have sP := Same.new hPn (.lst [.ref l1, .ref l2, .ref l3, .ref l4])
  have eP : upd H5 P (.lst [.ref l1, .ref l2, .ref l3, .ref l4]) P = some (.lst [.ref l1, .ref l2, .ref l3, .ref l4]) := upd_same
  have nP : s ≠ P := (st5.ne' hPn).symm
  have all : ∀ v ∈ [V.ref l1, .ref l2, .ref l3, .ref l4], KLx K s H5 v := fun v hv => by
    simp only [List.mem_cons, List.not_mem_nil, or_false] at hv
    rcases hv with rfl | rfl | rfl | rfl
    · exact ⟨l1, x1, k1, rfl, (KL.mk h1 c1 (st1.ne' n1) (t1.mono (by omega)) g1 t1.sml b1 : KL K s H2 l1 x1 k1).kp (kp3.trans (kp4.trans kp5)) st2⟩
    · exact ⟨l2, x2, k2, rfl, (KL.mk h2 c2 (st2.ne' n2) (t2.mono (by omega)) g2 t2.sml b2 : KL K s H3 l2 x2 k2).kp (kp4.trans kp5) st3⟩
    · exact ⟨l3, x3, k3, rfl, (KL.mk h3 c3 (st3.ne' n3) (t3.mono (by omega)) g3 t3.sml b3 : KL K s H4 l3 x3 k3).kp kp5 st4⟩
    · exact ⟨l4, x4, k4, rfl, KL.mk h4 c4 (st4.ne' n4) t4 g4 z4 b4⟩
  have LS5 := LS1.kp (kp2.trans (kp3.trans (kp4.trans kp5))) st5
  generalize upd H5 P (.lst [.ref l1, .ref l2, .ref l3, .ref l4]) = H6 at sP eP ⊢
  have st6 := st5.same sP
  refine ⟨_, rfl, _, rfl, s, P, _, rfl, st6, eP, nP, by show 0 < 4; decide, by show 4 < 1000; decide, fun x H7 hx kp7 st7 => ?_⟩
  obtain ⟨kl, xs, ks, rfl, KL7⟩ := (all x hx).kp ((Kp.same sP).trans kp7) st5
  have LS7 := LS5.kp ((Kp.same sP).trans kp7) st7
  clear all hx eP nP sP hPn kPn n1 n2 n3 n4 c1 c2 c3 c4 h1 h2 h3 h4 t1 t2 t3 t4 g1 g2 g3 g4 z4 b1 b2 b3 b4 kp2 kp3 kp4 kp5 kp7 st1 st2 st3 st4 st5 st6 LS1 LS5 H1 H2 H3 H4 H5 H6 x1 x2 x3 x4 k1 k2 k3 k4 l1 l2 l3 l4
  refine ⟨_, rfl, _, rfl, s, 8, rfl, st7, by decide, by decide, fun l1 x1 k1 H2 n1 c1 h1 t1 g1 b1 kp2 st2 => ?_⟩
  refine ⟨_, rfl, s, 3, rfl, st2, by decide, by decide, fun l2 x2 k2 H3 n2 c2 h2 t2 g2 b2 kp3 st3 => ?_⟩
  refine ⟨_, rfl, s, rfl, st3, fun l4 x4 k4 H5 n4 c4 h4 t4 g4 z4 b4 kp5 st5 => ?_⟩
  refine ⟨sz2 (by show 3 ≤ 100; decide), fun P2 hPn kPn => ?_⟩
  have sP := Same.new hPn (.lst [.ref l1, .ref l2, .ref l4])
  have eP : upd H5 P2 (.lst [.ref l1, .ref l2, .ref l4]) P2 = some (.lst [.ref l1, .ref l2, .ref l4]) := upd_same
  have nP : s ≠ P2 := (st5.ne' hPn).symm
  have all : ∀ v ∈ [V.ref l1, .ref l2, .ref l4], KLx K s H5 v := fun v hv => by
    simp only [List.mem_cons, List.not_mem_nil, or_false] at hv
    rcases hv with rfl | rfl | rfl
    · exact ⟨l1, x1, k1, rfl, (KL.mk h1 c1 (st7.ne' n1) (t1.mono (by omega)) g1 t1.sml b1 : KL K s H2 l1 x1 k1).kp (kp3.trans kp5) st2⟩
    · exact ⟨l2, x2, k2, rfl, (KL.mk h2 c2 (st2.ne' n2) (t2.mono (by omega)) g2 t2.sml b2 : KL K s H3 l2 x2 k2).kp kp5 st3⟩
    · exact ⟨l4, x4, k4, rfl, KL.mk h4 c4 (st3.ne' n4) t4 g4 z4 b4⟩
  have kp75 := kp2.trans (kp3.trans kp5)
  generalize upd H5 P2 (.lst [.ref l1, .ref l2, .ref l4]) = H6 at sP eP ⊢
  have st6 := st5.same sP
  refine ⟨s, P2, _, rfl, st6, eP, nP, by show 0 < 3; decide, by show 3 < 1000; decide, fun x H8 hx kp8' st8 => ?_⟩
  obtain ⟨ol, ys, os, rfl, OL8⟩ := (all x hx).kp ((Kp.same sP).trans kp8') st5
  have kp8 := kp75.trans ((Kp.same sP).trans kp8')
  have LS8 := LS7.kp kp8 st8
  have KL8 := KL7.kp kp8 st7
  clear all hx eP nP sP hPn kPn n1 n2 n4 c1 c2 c4 h1 h2 h4 t1 t2 t4 g1 g2 g4 z4 b1 b2 b4 kp2 kp3 kp5 kp8' kp75 kp8 st2 st3 st5 st6 st7 LS7 KL7 H2 H3 H5 H6 H7 x1 x2 x4 k1 k2 k4 l1 l2 l4
  refine ⟨_, rfl, kl, xs, rfl, .inl (.of KL8.h), fun pa hpa frP => ?_⟩
  have a1 := Same.new hpa (.lst xs)
  have e1 : upd H8 pa (.lst xs) pa = some (.lst xs) := upd_same
  have kpa : K.lookup pa = none := frP pa (by rw [upd_same]; simp)
  generalize upd H8 pa (.lst xs) = G1 at a1 e1 ⊢
  clear frP
  refine ⟨_, rfl, fun c dx hcn hdn hne => ?_⟩
  refine ⟨G1, c, dx, pa, xs, ks, 134, rfl, same_make hcn hdn, hcn, upd_same, (ob_none kpa).trans e1, KL8.t.same a1, KL8.g, KL8.l8, by omega, fun G2 s2 slC => ⟨rfl, ?_⟩⟩
  clear hcn hdn hne
  have s12 := a1.trans s2
  have e2 := s2 _ _ e1
  refine ⟨_, rfl, _, rfl, _, _, rfl, eqv_kts ((ob_none kpa).trans e2) ((ob_none KL8.k).trans (s12 _ _ KL8.h)) (KL8.t.same s12) (KL8.t.same s12) KL8.l8, fun G3 s3 => ⟨_, rfl, if_no rfl ?_⟩⟩
  have e3 := s3 _ _ e2
  have s13 := s12.trans s3
  refine ⟨_, rfl, .inl ⟨rfl, _, .of e3⟩, pa, xs, rfl, rfl, e3, ?_⟩
  obtain ⟨m1, m2⟩ := st8.mut (o := .lst []) hpa (Kp.same s13) (st8.same s13)
  have npk : kl ≠ pa := ne_of_none KL8.h hpa
  have npo : ol ≠ pa := ne_of_none OL8.h hpa
  have tb4 := tabs_put (o := .lst []) e3 (tabs_same s13 LS8.tb)
  have KL4 := (KL8.kp (Kp.same s13) st8).put (zs := []) e3 npk
  have OL4 := (OL8.kp (Kp.same s13) st8).put (zs := []) e3 npo
  have sl4 := (slC.same s3).put (zs := []) e3
  generalize upd G3 pa (.lst []) = G4 at m1 m2 tb4 KL4 OL4 sl4 ⊢
  have LS4 : LawS K [(P1, qLam)] G4 s := ⟨m1, tb4⟩
  clear m2 tb4 m1 e3 s13 s3 e2 s12 slC s2 e1 a1 hpa npk npo KL8 OL8 LS8 st8 G1 G2 G3 H8
  have st4 := LS4.st
  refine ⟨_, rfl, ol, ys, rfl, .inl (.of OL4.h), fun po hpo frO => ?_⟩
  have a1 := Same.new hpo (.lst ys)
  have e1 : upd G4 po (.lst ys) po = some (.lst ys) := upd_same
  have kpo : K.lookup po = none := frO po (by rw [upd_same]; simp)
  generalize upd G4 po (.lst ys) = G5 at a1 e1 ⊢
  clear frO
  intro oc dx hcn hdn hne
  refine ⟨G5, oc, dx, po, ys, os, 134, rfl, same_make hcn hdn, hcn, upd_same, (ob_none kpo).trans e1, OL4.t.same a1, OL4.g, OL4.l8, by omega, fun G6 s6 slO => ⟨rfl, ?_⟩⟩
  clear hcn hdn hne
  have s46 := a1.trans s6
  have LS6 := LS4.same s46
  have st6 := LS6.st
  have KL6 := KL4.kp (Kp.same s46) st4
  have OL6 := OL4.kp (Kp.same s46) st4
  have sl6 := sl4.same s46
  clear s46 s6 e1 kpo a1 hpo KL4 OL4 sl4 LS4 st4 G4 G5
  refine ⟨_, rfl, _, rfl, s, kl, xs, ks, rfl, st6, KL6.h, KL6.k, KL6.n, KL6.t, KL6.z, KL6.l8, fun al acc J hal kal ha la fr hit kpJ stJ => ?_⟩
  have KLJ := KL6.kp kpJ st6
  have OLJ := OL6.kp kpJ st6
  have slJ := sl6.kps kpJ st6
  have soJ := slO.kps kpJ st6
  have LSJ := LS6.kp kpJ stJ
  have AFJ : AF K s J al acc ks := ⟨ha, kal, st6.ne' hal, by omega, fr, rch_of KL6.g hit⟩
  clear hit ha hal fr kal kpJ KL6 OL6 sl6 slO LS6 st6
  have fK : ∀ H', Bg s J H' → Sto K H' s → KL K s H' kl xs ks ∧ KL K s H' ol ys os ∧ SlAt K C 134 H' c ks ∧ SlAt K C 134 H' oc os ∧ AF K s H' al acc ks := fun H' b st => ⟨KLJ.bg b stJ st, OLJ.bg b stJ st, slJ.bg b stJ st, soJ.bg b stJ st, AFJ.bg b stJ st⟩
  refine ⟨_, rfl, _, rfl, _, rfl, s, c, kl, xs, ks, rfl, stJ, slJ, KLJ.g, KLJ.l8, KLJ.h, KLJ.k, KLJ.n, KLJ.t, fun J1 kp1 st1 => ⟨_, rfl, if_no rfl ?_⟩⟩
  have b1 : Bg s J J1 := Bg.kp kp1
  have LS1 := LSJ.kp kp1 st1
  obtain ⟨K1, O1, s1, o1, A1⟩ := fK J1 b1 st1
  refine ⟨_, rfl, _, rfl, _, rfl, _, rfl, s, c, kl, al, xs, acc, ks, rfl, st1, s1, K1.g, K1.l8, K1.h, K1.k, K1.n, K1.t, A1.h, A1.k, A1.n, A1.l, A1.f, A1.r, fun J2 kp2 st2 => ⟨_, rfl, if_no rfl ?_⟩⟩
  have b2 := b1.trans (Bg.kp kp2)
  have LS2 := LS1.kp kp2 st2
  clear K1 O1 s1 o1 A1 kp1 kp2 b1 LS1 st1 J1
  obtain ⟨K2, O2, s2, o2, A2⟩ := fK J2 b2 st2
  have hol := O2.t.1
  have lol := O2.l8
  refine ⟨_, rfl, _, rfl, _, rfl, _, rfl, _, rfl, ol, rfl, ⟨_, .of O2.h⟩, fun D hD => lc_list (xs := ys) (fun i H' => ∃ l, H' D = some (.lst l) ∧ l.length = i ∧ Same J2 H' ∧ (∀ x ∈ l, ∃ a q, x = .ref a ∧ Fq K J2 160 a q) ∧ ∀ (m : Nat) k, m < i → os[m]? = some k → ∃ a, V.ref a ∈ l ∧ Fq K J2 60 a k.1) ⟨[], upd_same, rfl, Same.new hD _, fun x hx => (by cases hx), fun m k h => absurd h (Nat.not_lt_zero _)⟩ (fun i H' _ ⟨l, _, _, sD, _⟩ => .of (sD _ _ O2.h)) ?_ ?_⟩
  · rintro i x H' hi ⟨l, h1, hl, sD, fa, hm⟩
    have li := (List.getElem?_eq_some_iff.mp hi).1
    obtain ⟨k, ek, t, a, b, rfl, ot, f, _⟩ := O2.t.at hi
    refine ⟨rfl, ?_⟩
    simp only [tYes, if_true]
    refine ⟨_, rfl, t, 0, rfl, rfl, _, itsO_of (ob_same sD ot), _, atI_0 _ _, l, h1, by rw [sizeLine_eq]; omega, l ++ [.ref a], upd_same, by rw [List.length_append, hl]; rfl, fun b' o e => ?_, fun y hy => ?_, fun m k' hm' e => ?_⟩
    · rw [upd_ne (ne_of_none e hD)]
      exact sD _ _ e
    · rcases List.mem_append.mp hy with z | z
      · exact fa y z
      · rw [List.mem_singleton] at z
        exact ⟨a, _, z, f.mono (by omega)⟩
    · rcases Nat.eq_or_lt_of_le (show m ≤ i by omega) with e' | e'
      · rw [e', ek] at e
        cases e
        exact ⟨a, List.mem_append_right _ (List.mem_singleton_self _), f.o, f.nf, (O2.z k (List.mem_of_getElem? ek)).mono (by omega)⟩
      · obtain ⟨a', ma, fa'⟩ := hm m k' e' e
        exact ⟨a', List.mem_append_left _ ma, fa'⟩
  rintro J3 ⟨res, h3, l3, s23, fa, hm⟩ frD
  have hal2 := s23 _ _ A2.h
  have aln := A2.l
  refine ⟨al, D, acc, res, rfl, rfl, hal2, h3, by rw [sizeLine_eq]; omega, fun E hE frE => ?_⟩
  have s34 := Same.new hE (.lst (acc ++ res))
  have eE : upd J3 E (.lst (acc ++ res)) E = some (.lst (acc ++ res)) := upd_same
  have kE : K.lookup E = none := frE E (by rw [upd_same]; simp)
  have nE : E ≠ s := (st2.same s23).ne' hE
  generalize upd J3 E (.lst (acc ++ res)) = J4 at s34 eE ⊢
  clear frE frD
  have s24 := s23.trans s34
  have st4 := st2.same s24
  have b4 := b2.trans (Bg.same s24)
  have LS4 := LS2.same s24
  obtain ⟨K4, O4, s4, o4, A4⟩ := fK J4 b4 st4
  have rE : Rch K J4 os (acc ++ res) := rch_of O4.g fun k hk => by
    obtain ⟨m, hm1, em⟩ := List.getElem_of_mem hk
    obtain ⟨a, ma, f⟩ := hm m k (by rw [hol]; exact hm1) (by rw [List.getElem?_eq_getElem hm1, em])
    exact ⟨a, k.1, List.mem_append_right _ ma, f.same s24, 0, by push_cast; grind⟩
  have fE : Frs K J4 160 (acc ++ res) := fun x hx => by
    rcases List.mem_append.mp hx with z | z
    · exact A4.f x z
    · obtain ⟨a, q, e, f⟩ := fa x z
      exact ⟨a, q, e, f.same s24⟩
  refine ⟨s, oc, ol, E, ys, acc ++ res, os, rfl, st4, o4, O4.g, O4.l8, O4.h, O4.k, O4.n, O4.t, eE, kE, nE, by rw [List.length_append]; omega, fE, rE, fun J5 kp5 st5 => ⟨_, rfl, if_no rfl ?_⟩⟩
  have b5 := b4.trans (Bg.kp kp5)
  have LS5 := LS4.kp kp5 st5
  clear K2 O2 s2 o2 A2 K4 O4 s4 o4 A4 rE fE fa hm kE nE eE hE s34 s24 s23 h3 l3 hal2 kp5 LS4 LS2 b2 b4 st4 st2 hD hol lol J2 J3 J4
  obtain ⟨K5, O5, s5, o5, A5⟩ := fK J5 b5 st5
  refine ⟨_, rfl, _, rfl, _, rfl, s, c, kl, xs, ks, rfl, LS5, s5, K5.g, K5.l8, K5.h, K5.k, K5.n, K5.t, fun J6 b6' LS6 => ⟨_, rfl, if_no rfl ?_⟩⟩
  have b6 := b5.trans b6'
  obtain ⟨K6, O6, s6, o6, A6⟩ := fK J6 b6 LS6.st
  refine ⟨_, rfl, _, rfl, _, rfl, s, oc, ol, ys, os, rfl, LS6, o6, O6.g, O6.l8, O6.h, O6.k, O6.n, O6.t, fun J7 b7' LS7 => ⟨_, rfl, if_no rfl ?_⟩⟩
  have b7 := b6.trans b7'
  have st7 := LS7.st
  clear K5 O5 s5 o5 A5 K6 O6 s6 o6 A6 b6' b7' b5 b6 LS5 LS6 st5 J5 J6
  refine ⟨rfl, fun ec J8 s78 sle => ?_⟩
  refine ⟨sz2 (by show 2 ≤ 100; decide), fun p1 hp1 kp1 => ⟨sz2 (by show 2 ≤ 100; decide), fun p2 hp2 kp2 => ⟨sz2 (by show 2 ≤ 100; decide), fun p3 hp3 kp3 => ⟨sz2 (by show 1 ≤ 100; decide), fun L hL kL => ?_⟩⟩⟩⟩
  have a1 := Same.new hp1 (.tup [.int 0, .int 1])
  have a2 := Same.new hp2 (.tup [.int 0, .int 1])
  have a3 := Same.new hp3 (.tup [.ref p1, .ref p2])
  have a4 := Same.new hL (.lst [.ref p3])
  have c1 := ob_same (a2.trans (a3.trans a4)) (ob_new (K := K) (o := .tup [.int 0, .int 1]) kp1)
  have c2 := ob_same (a3.trans a4) (ob_new (K := K) (o := .tup [.int 0, .int 1]) kp2)
  have c3 := ob_same a4 (ob_new (K := K) (o := .tup [.ref p1, .ref p2]) kp3)
  have eL : upd (upd (upd (upd J8 p1 (.tup [.int 0, .int 1])) p2 (.tup [.int 0, .int 1])) p3 (.tup [.ref p1, .ref p2])) L (.lst [.ref p3]) L = some (.lst [.ref p3]) := upd_same
  have nL : L ≠ s := (st7.same (s78.trans (a1.trans (a2.trans a3)))).ne' hL
  have s84 := a1.trans (a2.trans (a3.trans a4))
  generalize upd (upd (upd (upd J8 p1 (.tup [.int 0, .int 1])) p2 (.tup [.int 0, .int 1])) p3 (.tup [.ref p1, .ref p2])) L (.lst [.ref p3]) = J9 at c1 c2 c3 eL s84 ⊢
  have s79 := s78.trans s84
  have st9 := st7.same s79
  have b9 := b7.trans (Bg.same s79)
  have LS9 := LS7.same s79
  have sle9 := (sle.same s84).mono (show 1 ≤ 134 by decide)
  have f1 : Fq K J9 134 p1 (0, 1) := ⟨c1, nf01, sz01 (by decide)⟩
  have f2 : Fq K J9 134 p2 (0, 1) := ⟨c2, nf01, sz01 (by decide)⟩
  have kt9 : Kts K J9 134 [.ref p3] [((0, 1), (0, 1))] := Kts.one ⟨p3, p1, p2, rfl, c3, f1, f2⟩
  have LL9 : KL K s J9 L [.ref p3] [((0, 1), (0, 1))] := ⟨eL, kL, nL, kt9, good_even, fun k hk => by
    rw [List.mem_singleton] at hk
    rw [hk]
    exact sz01 (by decide), by decide⟩
  clear a1 a2 a3 a4 c1 c2 c3 eL nL s84 s79 s78 sle f1 f2 kt9 hp1 kp1 hp2 kp2 hp3 kp3 hL kL b7 LS7 st7
  refine ⟨_, rfl, _, rfl, _, rfl, s, ec, L, _, _, rfl, st9, sle9, LL9.g, LL9.l8, LL9.h, LL9.k, LL9.n, LL9.t, fun JA kpA stA => ⟨_, rfl, if_no rfl ?_⟩⟩
  have bA := b9.trans (Bg.kp kpA)
  have LLA := LL9.kp kpA st9
  have slA := sle9.kps kpA st9
  obtain ⟨KA, OA, sA, oA, AA⟩ := fK JA bA stA
  refine ⟨_, rfl, _, rfl, _, rfl, _, rfl, _, rfl, al, acc, rfl, .of AA.h, ?_⟩
  rw [show cutV acc none (some 4) = acc.take 4 from cut_any acc 4]
  refine fun E hE frE => ?_
  have kE : K.lookup E = none := frE E (by rw [upd_same]; simp)
  have nE : E ≠ s := stA.ne' hE
  have s1 := Same.new hE (.lst (acc.take 4))
  have eE : upd JA E (.lst (acc.take 4)) E = some (.lst (acc.take 4)) := upd_same
  generalize upd JA E (.lst (acc.take 4)) = JB at s1 eE ⊢
  clear frE
  have stB := stA.same s1
  have bB := bA.trans (Bg.same s1)
  have LLB := LLA.kp (Kp.same s1) stA
  have slB := slA.same s1
  have fB : Frs K JB 160 (acc.take 4) := fun x hx => by
    obtain ⟨a, q, e, f⟩ := AA.f x (List.mem_of_mem_take hx)
    exact ⟨a, q, e, f.same s1⟩
  have rB : Rch K JB [((0, 1), (0, 1))] (acc.take 4) := by
    obtain ⟨i, a, q, e, _, _⟩ := AA.r
    have li := (List.getElem?_eq_some_iff.mp e).1
    have e0 : acc[0]? = some acc[0] := List.getElem?_eq_getElem (by omega)
    obtain ⟨a0, q0, ea, f0⟩ := AA.f _ (List.mem_of_getElem? e0)
    refine ⟨0, a0, q0, ?_, f0.same s1, fun z cz => ?_⟩
    · rw [List.getElem?_take, if_pos (by decide), e0, ea]
    · rw [car_even f0.nf cz]
      exact sw_even
  have la4 : (acc.take 4).length ≤ 1000 := by
    rw [List.length_take]
    omega
  refine ⟨s, ec, L, E, _, _, _, rfl, stB, slB, LLB.g, LLB.l8, LLB.h, LLB.k, LLB.n, LLB.t, eE, kE, nE, la4, fB, rB, fun JC kpC stC => ⟨_, rfl, if_no rfl ?_⟩⟩
  have bC := bB.trans (Bg.kp kpC)
  obtain ⟨KC, OC, sC, oC, AC⟩ := fK JC bC stC
  exact ⟨_, rfl, _, rfl, _, rfl, _, rfl, s, c, kl, al, xs, acc, ks, rfl, stC, sC, KC.g, KC.l8, KC.h, KC.k, KC.n, KC.t, AC.h, AC.k, AC.n, AC.l, AC.f, AC.r, fun JD _ _ => q JD⟩

end
end My

namespace My
open PySem PySem.Spec PyProof.Rows L2
theorem ob_con {K : PySem.W.Frag} {z : Addr} {dd : Option Addr} {x y : Int} {t0 t1 : Tok} {n : Nat} {sl : Array (Option Value)} (h : K.lookup z = some ⟨.type "tuple", dd, .seq #[.int x t0, .int y t1] n, sl⟩) (H : Hp) : ob K H z = some (.tup [.int x, .int y]) := by
  unfold ob obK
  rw [h]
  show (if 2 ≤ sizeLine then _ else _) = _
  rw [if_pos (by rw [sizeLine_eq]; omega)]
  rfl
/-! ### the end: what the top has written -/
theorem dfn_mk {K : PySem.W.Frag} {h : Heap} {mg : Str → Option Value} {x : Str} {st : Stmt} {ps : List Str} {f : Addr} {oc kV doc pm cd ct : Value} {od an : Option Addr} {sl : Array (Option Value)} (X : K.In h) (G : h.Ns mainGlobals mg)
    (a : PySem.W.nsIn K mainGlobals x = some (some (.ref f))) (l : K.lookup f = some ⟨oc, od, .func (PySem.W.fnOf x x (defArgs st) (defBody st) (defScope st) .none kV doc pm an cd ct), sl⟩) (c : PySem.W.codeIn K cd x = true) (k : PySem.W.keepIn K (.ref f) = true)
    (hb : ∀ (kV doc pm : Value) (an : Option Addr) (cdv ct : Value) (us : List Value), us.length = ps.length → bindArgs (PySem.W.fnOf x x (defArgs st) (defBody st) (defScope st) .none kV doc pm an cdv ct) ⟨us, []⟩ = pure (ps.zip us)) : Dfn K mg x st ps :=
  ⟨f, _, fun_mk l c k, PySem.W.mg_of X G a, (fun_mk l c k).binds hb⟩
theorem all_mk {P : Program} {w : World} {K : PySem.W.Frag} {h : Heap} {mg : Str → Option Value} {fa : Addr} (X : K.In h) (G : h.Ns mainGlobals mg) (hfa : mg "law" = some (.ref fa)) {C S fI : Addr} {nm qn : Str} {N0 : Addr} {bs bm : List Value} {sn : List Str} {sub : List Value} {ab : Bool} {col : Option Bool} {dd : Option Addr} {m0 m1 m2 m3 m5 : Option Value} {ocI kVI dcI pmI cdI ctI : Value} {odI anI : Option Addr} {slI : Array (Option Value)} {C_Mismatch : Addr} {C_Still : Addr} {C_Endless : Addr} {C_TooMany : Addr} {C_NoName : Addr} {C_Taken : Addr} {C_Locked : Addr} {C_Looped : Addr} {C_Broken : Addr} {C_ReadError : Addr} {f_A : Addr} {oc_A kV_A dc_A pm_A cd_A ct_A : Value} {od_A an_A : Option Addr} {sl_A : Array (Option Value)} {f_R1 c_R1 : Addr} {oc_R1 kV_R1 dc_R1 pm_R1 ct_R1 : Value} {od_R1 an_R1 : Option Addr} {sl_R1 : Array (Option Value)} {fL : Addr} {ocL kVL dcL pmL cdvL ctL : Value} {odL anL : Option Addr} {slL : Array (Option Value)} {z0 : Addr} {ddZ : Option Addr} {taZ tbZ : Tok} {nnZ : Nat} {ssZ : Array (Option Value)} {o0 : Addr} {ddO : Option Addr} {taO tbO : Tok} {nnO : Nat} {ssO : Array (Option Value)} {SL : Addr} {CY : Addr} {fIN : Addr} {ocIN kVIN dcIN pmIN cdIN ctIN : Value} {odIN anIN : Option Addr} {slIN : Array (Option Value)} {fKN : Addr} {pKN : Addr} {rKN : List Value} {ocKN kVKN dcKN pmKN cdKN ctKN : Value} {odKN anKN : Option Addr} {slKN : Array (Option Value)} {fPC : Addr} {ocPC kVPC dcPC pmPC cdPC ctPC : Value} {odPC anPC : Option Addr} {slPC : Array (Option Value)} {fSW : Addr} {ocSW kVSW dcSW pmSW cdSW ctSW : Value} {odSW anSW : Option Addr} {slSW : Array (Option Value)} {fCR : Addr} {ocCR kVCR dcCR pmCR cdCR ctCR : Value} {odCR anCR : Option Addr} {slCR : Array (Option Value)} {fEQ : Addr} {ocEQ kVEQ dcEQ pmEQ cdEQ ctEQ : Value} {odEQ anEQ : Option Addr} {slEQ : Array (Option Value)} {fWI tY : Addr} {ocTY : Value} {odTY : Option Addr} {slTY : Array (Option Value)} {nTY : Nat} {ocWI kVWI dcWI pmWI cdWI ctWI : Value} {odWI anWI : Option Addr} {slWI : Array (Option Value)} {zi : Addr} {ddI : Option Addr} {taI tbI : Tok} {nnI : Nat} {ssI : Array (Option Value)} {f0Require : Addr} {oc0Require kV0Require dc0Require pm0Require cd0Require ct0Require : Value} {od0Require an0Require : Option Addr} {sl0Require : Array (Option Value)} {tkMOST_KNOTS : Tok} {f0Are : Addr} {oc0Are kV0Are dc0Are pm0Are cd0Are ct0Are : Value} {od0Are an0Are : Option Addr} {sl0Are : Array (Option Value)} {f0ListW : Addr} {oc0ListW kV0ListW dc0ListW pm0ListW cd0ListW ct0ListW : Value} {od0ListW an0ListW : Option Addr} {sl0ListW : Array (Option Value)} {f0Knot : Addr} {oc0Knot kV0Knot dc0Knot pm0Knot cd0Knot ct0Knot : Value} {od0Knot an0Knot : Option Addr} {sl0Knot : Array (Option Value)} {f0TupOf : Addr} {oc0TupOf kV0TupOf dc0TupOf pm0TupOf cd0TupOf ct0TupOf : Value} {od0TupOf an0TupOf : Option Addr} {sl0TupOf : Array (Option Value)} {f0IsPlace : Addr} {oc0IsPlace kV0IsPlace dc0IsPlace pm0IsPlace cd0IsPlace ct0IsPlace : Value} {od0IsPlace an0IsPlace : Option Addr} {sl0IsPlace : Array (Option Value)} {f0IsFraction : Addr} {oc0IsFraction kV0IsFraction dc0IsFraction pm0IsFraction cd0IsFraction ct0IsFraction : Value} {od0IsFraction an0IsFraction : Option Addr} {sl0IsFraction : Array (Option Value)} {f0Whole : Addr} {oc0Whole kV0Whole dc0Whole pm0Whole cd0Whole ct0Whole : Value} {od0Whole an0Whole : Option Addr} {sl0Whole : Array (Option Value)} {f0Compare : Addr} {oc0Compare kV0Compare dc0Compare pm0Compare cd0Compare ct0Compare : Value} {od0Compare an0Compare : Option Addr} {sl0Compare : Array (Option Value)} {f0Even : Addr} {oc0Even kV0Even dc0Even pm0Even cd0Even ct0Even : Value} {od0Even an0Even : Option Addr} {sl0Even : Array (Option Value)} {f0Store : Addr} {oc0Store kV0Store dc0Store pm0Store cd0Store ct0Store : Value} {od0Store an0Store : Option Addr} {sl0Store : Array (Option Value)} {f0Kn : Addr} {oc0Kn kV0Kn dc0Kn pm0Kn cd0Kn ct0Kn : Value} {od0Kn an0Kn : Option Addr} {sl0Kn : Array (Option Value)} {f0Take : Addr} {oc0Take kV0Take dc0Take pm0Take cd0Take ct0Take : Value} {od0Take an0Take : Option Addr} {sl0Take : Array (Option Value)} {f0Mixed : Addr} {oc0Mixed kV0Mixed dc0Mixed pm0Mixed cd0Mixed ct0Mixed : Value} {od0Mixed an0Mixed : Option Addr} {sl0Mixed : Array (Option Value)} {f0Size : Addr} {oc0Size kV0Size dc0Size pm0Size cd0Size ct0Size : Value} {od0Size an0Size : Option Addr} {sl0Size : Array (Option Value)} {f0Range : Addr} {oc0Range kV0Range dc0Range pm0Range cd0Range ct0Range : Value} {od0Range an0Range : Option Addr} {sl0Range : Array (Option Value)} {f0Pick : Addr} {oc0Pick kV0Pick dc0Pick pm0Pick cd0Pick ct0Pick : Value} {od0Pick an0Pick : Option Addr} {sl0Pick : Array (Option Value)} {f0Lowest : Addr} {oc0Lowest kV0Lowest dc0Lowest pm0Lowest cd0Lowest ct0Lowest : Value} {od0Lowest an0Lowest : Option Addr} {sl0Lowest : Array (Option Value)} {f0Gcd : Addr} {oc0Gcd kV0Gcd dc0Gcd pm0Gcd cd0Gcd ct0Gcd : Value} {od0Gcd an0Gcd : Option Addr} {sl0Gcd : Array (Option Value)} {f0DFrac : Addr} {oc0DFrac kV0DFrac dc0DFrac pm0DFrac cd0DFrac ct0DFrac : Value} {od0DFrac an0DFrac : Option Addr} {sl0DFrac : Array (Option Value)} {f0LTimes : Addr} {oc0LTimes kV0LTimes dc0LTimes pm0LTimes cd0LTimes ct0LTimes : Value} {od0LTimes an0LTimes : Option Addr} {sl0LTimes : Array (Option Value)} {f0Kw : Addr} {oc0Kw kV0Kw dc0Kw pm0Kw cd0Kw ct0Kw : Value} {od0Kw an0Kw : Option Addr} {sl0Kw : Array (Option Value)} {f0DFracW : Addr} {oc0DFracW kV0DFracW dc0DFracW pm0DFracW cd0DFracW ct0DFracW : Value} {od0DFracW an0DFracW : Option Addr} {sl0DFracW : Array (Option Value)} {f0Great : Addr} {oc0Great kV0Great dc0Great pm0Great cd0Great ct0Great : Value} {od0Great an0Great : Option Addr} {sl0Great : Array (Option Value)} {f0LInt : Addr} {oc0LInt kV0LInt dc0LInt pm0LInt cd0LInt ct0LInt : Value} {od0LInt an0LInt : Option Addr} {sl0LInt : Array (Option Value)} {f0Same : Addr} {oc0Same kV0Same dc0Same pm0Same cd0Same ct0Same : Value} {od0Same an0Same : Option Addr} {sl0Same : Array (Option Value)} {f0LWhole : Addr} {oc0LWhole kV0LWhole dc0LWhole pm0LWhole cd0LWhole ct0LWhole : Value} {od0LWhole an0LWhole : Option Addr} {sl0LWhole : Array (Option Value)} {f0AskT : Addr} {oc0AskT kV0AskT dc0AskT pm0AskT cd0AskT ct0AskT : Value} {od0AskT an0AskT : Option Addr} {sl0AskT : Array (Option Value)} {f0LPlus : Addr} {oc0LPlus kV0LPlus dc0LPlus pm0LPlus cd0LPlus ct0LPlus : Value} {od0LPlus an0LPlus : Option Addr} {sl0LPlus : Array (Option Value)} {f0DPlaceW : Addr} {oc0DPlaceW kV0DPlaceW dc0DPlaceW pm0DPlaceW cd0DPlaceW ct0DPlaceW : Value} {od0DPlaceW an0DPlaceW : Option Addr} {sl0DPlaceW : Array (Option Value)} {f0DPlace : Addr} {oc0DPlace kV0DPlace dc0DPlace pm0DPlace cd0DPlace ct0DPlace : Value} {od0DPlace an0DPlace : Option Addr} {sl0DPlace : Array (Option Value)} {f0Fits : Addr} {oc0Fits kV0Fits dc0Fits pm0Fits cd0Fits ct0Fits : Value} {od0Fits an0Fits : Option Addr} {sl0Fits : Array (Option Value)} {f0Period : Addr} {oc0Period kV0Period dc0Period pm0Period cd0Period ct0Period : Value} {od0Period an0Period : Option Addr} {sl0Period : Array (Option Value)} {f0Magn : Addr} {oc0Magn kV0Magn dc0Magn pm0Magn cd0Magn ct0Magn : Value} {od0Magn an0Magn : Option Addr} {sl0Magn : Array (Option Value)} {f0Over : Addr} {oc0Over kV0Over dc0Over pm0Over cd0Over ct0Over : Value} {od0Over an0Over : Option Addr} {sl0Over : Array (Option Value)} {t0Fraction : Addr} {ocT0Fraction : Value} {odT0Fraction : Option Addr} {slT0Fraction : Array (Option Value)} {tk0Fraction : Tok} {nT0Fraction : Nat} {f0Fraction : Addr} {oc0Fraction kV0Fraction dc0Fraction pm0Fraction cd0Fraction ct0Fraction : Value} {od0Fraction an0Fraction : Option Addr} {sl0Fraction : Array (Option Value)} {f0KH : Addr} {oc0KH kV0KH dc0KH pm0KH cd0KH ct0KH : Value} {od0KH an0KH : Option Addr} {sl0KH : Array (Option Value)} {f0Grt : Addr} {oc0Grt kV0Grt dc0Grt pm0Grt cd0Grt ct0Grt : Value} {od0Grt an0Grt : Option Addr} {sl0Grt : Array (Option Value)} {f0Part : Addr} {oc0Part kV0Part dc0Part pm0Part cd0Part ct0Part : Value} {od0Part an0Part : Option Addr} {sl0Part : Array (Option Value)} {f0Minus : Addr} {oc0Minus kV0Minus dc0Minus pm0Minus cd0Minus ct0Minus : Value} {od0Minus an0Minus : Option Addr} {sl0Minus : Array (Option Value)} {f0Plus : Addr} {oc0Plus kV0Plus dc0Plus pm0Plus cd0Plus ct0Plus : Value} {od0Plus an0Plus : Option Addr} {sl0Plus : Array (Option Value)} {f0Times : Addr} {oc0Times kV0Times dc0Times pm0Times cd0Times ct0Times : Value} {od0Times an0Times : Option Addr} {sl0Times : Array (Option Value)} {f0Slope : Addr} {oc0Slope kV0Slope dc0Slope pm0Slope cd0Slope ct0Slope : Value} {od0Slope an0Slope : Option Addr} {sl0Slope : Array (Option Value)} {f0Sh : Addr} {oc0Sh kV0Sh dc0Sh pm0Sh cd0Sh ct0Sh : Value} {od0Sh an0Sh : Option Addr} {sl0Sh : Array (Option Value)} {f0Most : Addr} {oc0Most kV0Most dc0Most pm0Most cd0Most ct0Most : Value} {od0Most an0Most : Option Addr} {sl0Most : Array (Option Value)} {f0Sgn : Addr} {oc0Sgn kV0Sgn dc0Sgn pm0Sgn cd0Sgn ct0Sgn : Value} {od0Sgn an0Sgn : Option Addr} {sl0Sgn : Array (Option Value)} {f0Line : Addr} {oc0Line kV0Line dc0Line pm0Line cd0Line ct0Line : Value} {od0Line an0Line : Option Addr} {sl0Line : Array (Option Value)} {f0LFrac : Addr} {oc0LFrac kV0LFrac dc0LFrac pm0LFrac cd0LFrac ct0LFrac : Value} {od0LFrac an0LFrac : Option Addr} {sl0LFrac : Array (Option Value)} {f0LPart : Addr} {oc0LPart kV0LPart dc0LPart pm0LPart cd0LPart ct0LPart : Value} {od0LPart an0LPart : Option Addr} {sl0LPart : Array (Option Value)} {f0LMinus : Addr} {oc0LMinus kV0LMinus dc0LMinus pm0LMinus cd0LMinus ct0LMinus : Value} {od0LMinus an0LMinus : Option Addr} {sl0LMinus : Array (Option Value)} {f0AreX : Addr} {oc0AreX kV0AreX dc0AreX pm0AreX cd0AreX ct0AreX : Value} {od0AreX an0AreX : Option Addr} {sl0AreX : Array (Option Value)} {f0ListA : Addr} {oc0ListA kV0ListA dc0ListA pm0ListA cd0ListA ct0ListA : Value} {od0ListA an0ListA : Option Addr} {sl0ListA : Array (Option Value)} {f0KnotA : Addr} {oc0KnotA kV0KnotA dc0KnotA pm0KnotA cd0KnotA ct0KnotA : Value} {od0KnotA an0KnotA : Option Addr} {sl0KnotA : Array (Option Value)} {f0TupA : Addr} {oc0TupA kV0TupA dc0TupA pm0TupA cd0TupA ct0TupA : Value} {od0TupA an0TupA : Option Addr} {sl0TupA : Array (Option Value)} {f0BadFrac : Addr} {oc0BadFrac kV0BadFrac dc0BadFrac pm0BadFrac cd0BadFrac ct0BadFrac : Value} {od0BadFrac an0BadFrac : Option Addr} {sl0BadFrac : Array (Option Value)}
    (z_int : PySem.W.nsIn K mainGlobals "int" = some none)
    (z_len : PySem.W.nsIn K mainGlobals "len" = some none)
    (z_list : PySem.W.nsIn K mainGlobals "list" = some none)
    (z_abs : PySem.W.nsIn K mainGlobals "abs" = some none)
    (z_range : PySem.W.nsIn K mainGlobals "range" = some none)
    (z_min : PySem.W.nsIn K mainGlobals "min" = some none)
    (z_max : PySem.W.nsIn K mainGlobals "max" = some none)
    (z_isinstance : PySem.W.nsIn K mainGlobals "isinstance" = some none)
    (z_bool : PySem.W.nsIn K mainGlobals "bool" = some none)
    (z_str : PySem.W.nsIn K mainGlobals "str" = some none)
    (z_dict : PySem.W.nsIn K mainGlobals "dict" = some none)
    (z_tuple : PySem.W.nsIn K mainGlobals "tuple" = some none)
    (z_gcd : PySem.W.nsIn K mainGlobals "gcd" = some (some (.builtin "math.gcd")))
    (z_VE : PySem.W.nsIn K mainGlobals "ValueError" = some none)
    (aC : PySem.W.nsIn K mainGlobals "BadValue" = some (some (.ref C)))
    (aS : PySem.W.nsIn K mainGlobals "SkyError" = some (some (.ref S)))
    (xL : K.lookup C = some (excClassObj nm qn C N0 bs bm true sn sub ab col dd m0 m1 m2 m3 m5 "ValueError.__new__"))
    (hbm : PySem.HandSPX.refsVE bm = true)
    (sa : PySem.W.findIn K (.ref C) "__setattr__" = some (some (.builtin "object.__setattr__")))
    (ga : PySem.W.findIn K (.ref C) "__getattribute__" = some (some (.builtin "BaseException.__getattribute__")))
    (gg : PySem.W.findIn K (.ref C) "__getattr__" = some none)
    (gc : PySem.W.findIn K (.ref C) "__class__" = some (some (.builtin "object.__class__")))
    (nw : PySem.W.findIn K (.ref C) "what" = some none)
    (aI : PySem.W.findIn K (.ref C) "__init__" = some (some (.ref fI)))
    (tI : PySem.W.typeIn K (.ref fI) = some (.type "function"))
    (lI : K.lookup fI = some ⟨ocI, odI, .func (PySem.W.fnOf "__init__" "BadValue.__init__" (defArgs sInitB) (defBody sInitB) (defScope sInitB) .none kVI dcI pmI anI cdI ctI), slI⟩)
    (cI : PySem.W.codeIn K cdI "BadValue.__init__" = true)
    (kI : PySem.W.keepIn K (.ref fI) = true)
    (kC : PySem.W.keepIn K (.ref C) = true)
    (eC : PySem.W.subIn K (.ref C) (.type "BaseException") = some true)
    (tC : PySem.W.typeIn K (.ref C) = some (.type "type"))
    (hC : PySem.W.hasDictIn K C = true)
    (mC : PySem.W.mroIn K C (.type "object") = some true)
    (vC : PySem.W.subIn K (.ref C) (.type "ValueError") = some true)
    (spc : PySem.W.specialIn K (.builtin "object.__class__") "__get__" = some (some (.builtin "getset_descriptor.__get__")))
    (tkc : PySem.W.takesIn K (.builtin "object.__class__") = some true)
    (eS : PySem.W.subIn K (.ref S) (.type "BaseException") = some true)
    (hS : PySem.W.hasDictIn K S = true)
    (tS : PySem.W.typeIn K (.ref S) = some (.type "type"))
    (cS : PySem.W.subIn K (.ref C) (.ref S) = some true)
    (a_Mismatch : PySem.W.nsIn K mainGlobals "Mismatch" = some (some (.ref C_Mismatch)))
    (t_Mismatch : PySem.W.typeIn K (.ref C_Mismatch) = some (.type "type"))
    (h_Mismatch : PySem.W.hasDictIn K C_Mismatch = true)
    (s_Mismatch : PySem.W.subIn K (.ref C) (.ref C_Mismatch) = some false)
    (n_Mismatch : (Value.ref C == Value.ref C_Mismatch) = false)
    (a_Still : PySem.W.nsIn K mainGlobals "Still" = some (some (.ref C_Still)))
    (t_Still : PySem.W.typeIn K (.ref C_Still) = some (.type "type"))
    (h_Still : PySem.W.hasDictIn K C_Still = true)
    (s_Still : PySem.W.subIn K (.ref C) (.ref C_Still) = some false)
    (n_Still : (Value.ref C == Value.ref C_Still) = false)
    (a_Endless : PySem.W.nsIn K mainGlobals "Endless" = some (some (.ref C_Endless)))
    (t_Endless : PySem.W.typeIn K (.ref C_Endless) = some (.type "type"))
    (h_Endless : PySem.W.hasDictIn K C_Endless = true)
    (s_Endless : PySem.W.subIn K (.ref C) (.ref C_Endless) = some false)
    (n_Endless : (Value.ref C == Value.ref C_Endless) = false)
    (a_TooMany : PySem.W.nsIn K mainGlobals "TooMany" = some (some (.ref C_TooMany)))
    (t_TooMany : PySem.W.typeIn K (.ref C_TooMany) = some (.type "type"))
    (h_TooMany : PySem.W.hasDictIn K C_TooMany = true)
    (s_TooMany : PySem.W.subIn K (.ref C) (.ref C_TooMany) = some false)
    (n_TooMany : (Value.ref C == Value.ref C_TooMany) = false)
    (a_NoName : PySem.W.nsIn K mainGlobals "NoName" = some (some (.ref C_NoName)))
    (t_NoName : PySem.W.typeIn K (.ref C_NoName) = some (.type "type"))
    (h_NoName : PySem.W.hasDictIn K C_NoName = true)
    (s_NoName : PySem.W.subIn K (.ref C) (.ref C_NoName) = some false)
    (n_NoName : (Value.ref C == Value.ref C_NoName) = false)
    (a_Taken : PySem.W.nsIn K mainGlobals "Taken" = some (some (.ref C_Taken)))
    (t_Taken : PySem.W.typeIn K (.ref C_Taken) = some (.type "type"))
    (h_Taken : PySem.W.hasDictIn K C_Taken = true)
    (s_Taken : PySem.W.subIn K (.ref C) (.ref C_Taken) = some false)
    (n_Taken : (Value.ref C == Value.ref C_Taken) = false)
    (a_Locked : PySem.W.nsIn K mainGlobals "Locked" = some (some (.ref C_Locked)))
    (t_Locked : PySem.W.typeIn K (.ref C_Locked) = some (.type "type"))
    (h_Locked : PySem.W.hasDictIn K C_Locked = true)
    (s_Locked : PySem.W.subIn K (.ref C) (.ref C_Locked) = some false)
    (n_Locked : (Value.ref C == Value.ref C_Locked) = false)
    (a_Looped : PySem.W.nsIn K mainGlobals "Looped" = some (some (.ref C_Looped)))
    (t_Looped : PySem.W.typeIn K (.ref C_Looped) = some (.type "type"))
    (h_Looped : PySem.W.hasDictIn K C_Looped = true)
    (s_Looped : PySem.W.subIn K (.ref C) (.ref C_Looped) = some false)
    (n_Looped : (Value.ref C == Value.ref C_Looped) = false)
    (a_Broken : PySem.W.nsIn K mainGlobals "Broken" = some (some (.ref C_Broken)))
    (t_Broken : PySem.W.typeIn K (.ref C_Broken) = some (.type "type"))
    (h_Broken : PySem.W.hasDictIn K C_Broken = true)
    (s_Broken : PySem.W.subIn K (.ref C) (.ref C_Broken) = some false)
    (n_Broken : (Value.ref C == Value.ref C_Broken) = false)
    (a_ReadError : PySem.W.nsIn K mainGlobals "ReadError" = some (some (.ref C_ReadError)))
    (t_ReadError : PySem.W.typeIn K (.ref C_ReadError) = some (.type "type"))
    (h_ReadError : PySem.W.hasDictIn K C_ReadError = true)
    (s_ReadError : PySem.W.subIn K (.ref C) (.ref C_ReadError) = some false)
    (n_ReadError : (Value.ref C == Value.ref C_ReadError) = false)
    (a_A : PySem.W.nsIn K mainGlobals "_law_answer" = some (some (.ref f_A)))
    (l_A : K.lookup f_A = some ⟨oc_A, od_A, .func (PySem.W.fnOf "_law_answer" "_law_answer" (defArgs sAsked) (defBody sAsked) (defScope sAsked) .none kV_A dc_A pm_A an_A cd_A ct_A), sl_A⟩)
    (c_A : PySem.W.codeIn K cd_A "_law_answer" = true)
    (k_A : PySem.W.keepIn K (.ref f_A) = true)
    (a_R1 : PySem.W.nsIn K mainGlobals "_law_refused" = some (some (.ref f_R1)))
    (l_R1 : K.lookup f_R1 = some ⟨oc_R1, od_R1, .func (PySem.W.fnOf "_law_refused" "_law_refused" (defArgs sRefd) (defBody sRefd) (defScope sRefd) .none kV_R1 dc_R1 pm_R1 an_R1 (.ref c_R1) ct_R1), sl_R1⟩)
    (cd_R1 : PySem.W.codeIn K (.ref c_R1) "_law_refused" = true)
    (k_R1 : PySem.W.keepIn K (.ref f_R1) = true)
    (aL : PySem.W.nsIn K mainGlobals "law" = some (some (.ref fL)))
    (lL : K.lookup fL = some ⟨ocL, odL, .func (PySem.W.fnOf "law" "law" (defArgs sLaw) (defBody sLaw) (defScope sLaw) .none kVL dcL pmL anL cdvL ctL), slL⟩)
    (cL : PySem.W.codeIn K cdvL "law" = true)
    (kL : PySem.W.keepIn K (.ref fL) = true)
    (aZ : PySem.W.nsIn K mainGlobals "ZERO" = some (some (.ref z0)))
    (o_Z : K.lookup z0 = some ⟨.type "tuple", ddZ, .seq #[.int 0 taZ, .int 1 tbZ] nnZ, ssZ⟩)
    (aO : PySem.W.nsIn K mainGlobals "ONE" = some (some (.ref o0)))
    (o_O : K.lookup o0 = some ⟨.type "tuple", ddO, .seq #[.int 1 taO, .int 1 tbO] nnO, ssO⟩)
    (aSL : PySem.W.nsIn K mainGlobals "Slot" = some (some (.ref SL)))
    (ypg : PySem.W.plainGet K SL Str.empty = true)
    (yhd : PySem.W.hasDictIn K SL = true)
    (ypo : PySem.W.plainOver K SL = true)
    (ysa : PySem.W.findIn K (.ref SL) "__setattr__" = some (some (.builtin "object.__setattr__")))
    (yn__knots : PySem.W.findIn K (.ref SL) "_knots" = some none)
    (ymk : PySem.W.makesIn K SL = true)
    (ykp : PySem.W.keepIn K (.ref SL) = true)
    (yca : PySem.W.findIn K (.ref SL) "__class__" = some (some (.builtin "object.__class__")))
    (yro : PySem.W.mroIn K SL (.type "object") = some true)
    (aCY : PySem.W.nsIn K mainGlobals "Cycle" = some (some (.ref CY)))
    (wpg : PySem.W.plainGet K CY Str.empty = true)
    (whd : PySem.W.hasDictIn K CY = true)
    (wpo : PySem.W.plainOver K CY = true)
    (wsa : PySem.W.findIn K (.ref CY) "__setattr__" = some (some (.builtin "object.__setattr__")))
    (wn_rate : PySem.W.findIn K (.ref CY) "rate" = some none)
    (wn_start : PySem.W.findIn K (.ref CY) "start" = some none)
    (wn_period : PySem.W.findIn K (.ref CY) "period" = some none)
    (wmk : PySem.W.makesIn K CY = true)
    (wkp : PySem.W.keepIn K (.ref CY) = true)
    (wca : PySem.W.findIn K (.ref CY) "__class__" = some (some (.builtin "object.__class__")))
    (wro : PySem.W.mroIn K CY (.type "object") = some true)
    (y1IN : PySem.W.findIn K (.ref SL) "__init__" = some (some (.ref fIN)))
    (y2IN : PySem.W.isFn K (.ref fIN) = true)
    (lIN : K.lookup fIN = some ⟨ocIN, odIN, .func (PySem.W.fnOf "__init__" "Slot.__init__" (defArgs sSlInit) (defBody sSlInit) (defScope sSlInit) .none kVIN dcIN pmIN anIN cdIN ctIN), slIN⟩)
    (cIN : PySem.W.codeIn K cdIN "Slot.__init__" = true)
    (kIN : PySem.W.keepIn K (.ref fIN) = true)
    (p1 : PySem.W.findIn K (.ref SL) "knots" = some (some (.ref pKN)))
    (p2 : PySem.W.specialIn K (.ref pKN) "__get__" = some (some (.builtin "property.__get__")))
    (p3 : PySem.W.takesIn K (.ref pKN) = some true)
    (p4 : PySem.W.recIn K pKN "property" = some (.ref fKN :: rKN))
    (lKN : K.lookup fKN = some ⟨ocKN, odKN, .func (PySem.W.fnOf "knots" "Slot.knots" (defArgs sSlKnots) (defBody sSlKnots) (defScope sSlKnots) .none kVKN dcKN pmKN anKN cdKN ctKN), slKN⟩)
    (cKN : PySem.W.codeIn K cdKN "Slot.knots" = true)
    (kKN : PySem.W.keepIn K (.ref fKN) = true)
    (y1PC : PySem.W.findIn K (.ref SL) "_pieces" = some (some (.ref fPC)))
    (y2PC : PySem.W.isFn K (.ref fPC) = true)
    (lPC : K.lookup fPC = some ⟨ocPC, odPC, .func (PySem.W.fnOf "_pieces" "Slot._pieces" (defArgs sSlPcs) (defBody sSlPcs) (defScope sSlPcs) .none kVPC dcPC pmPC anPC cdPC ctPC), slPC⟩)
    (cPC : PySem.W.codeIn K cdPC "Slot._pieces" = true)
    (kPC : PySem.W.keepIn K (.ref fPC) = true)
    (y1SW : PySem.W.findIn K (.ref SL) "sway" = some (some (.ref fSW)))
    (y2SW : PySem.W.isFn K (.ref fSW) = true)
    (lSW : K.lookup fSW = some ⟨ocSW, odSW, .func (PySem.W.fnOf "sway" "Slot.sway" (defArgs sSlSway) (defBody sSlSway) (defScope sSlSway) .none kVSW dcSW pmSW anSW cdSW ctSW), slSW⟩)
    (cSW : PySem.W.codeIn K cdSW "Slot.sway" = true)
    (kSW : PySem.W.keepIn K (.ref fSW) = true)
    (y1CR : PySem.W.findIn K (.ref SL) "carried" = some (some (.ref fCR)))
    (y2CR : PySem.W.isFn K (.ref fCR) = true)
    (lCR : K.lookup fCR = some ⟨ocCR, odCR, .func (PySem.W.fnOf "carried" "Slot.carried" (defArgs sSlCar) (defBody sSlCar) (defScope sSlCar) .none kVCR dcCR pmCR anCR cdCR ctCR), slCR⟩)
    (cCR : PySem.W.codeIn K cdCR "Slot.carried" = true)
    (kCR : PySem.W.keepIn K (.ref fCR) = true)
    (y1EQ : PySem.W.findIn K (.ref SL) "__eq__" = some (some (.ref fEQ)))
    (y2EQ : PySem.W.isFn K (.ref fEQ) = true)
    (lEQ : K.lookup fEQ = some ⟨ocEQ, odEQ, .func (PySem.W.fnOf "__eq__" "Slot.__eq__" (defArgs sSlEq) (defBody sSlEq) (defScope sSlEq) .none kVEQ dcEQ pmEQ anEQ cdEQ ctEQ), slEQ⟩)
    (cEQ : PySem.W.codeIn K cdEQ "Slot.__eq__" = true)
    (kEQ : PySem.W.keepIn K (.ref fEQ) = true)
    (yne : PySem.W.findIn K (.ref SL) "__ne__" = some (some (.builtin "object.__ne__")))
    (yty : PySem.W.typeIn K (.ref SL) = some (.type "type"))
    (ks_NoneType : PySem.W.subIn K (.type "NoneType") (.ref SL) = some false)
    (ks_bool : PySem.W.subIn K (.type "bool") (.ref SL) = some false)
    (ks_int : PySem.W.subIn K (.type "int") (.ref SL) = some false)
    (ks_str : PySem.W.subIn K (.type "str") (.ref SL) = some false)
    (ks_tuple : PySem.W.subIn K (.type "tuple") (.ref SL) = some false)
    (ks_list : PySem.W.subIn K (.type "list") (.ref SL) = some false)
    (ks_dict : PySem.W.subIn K (.type "dict") (.ref SL) = some false)
    (ks_cy : PySem.W.subIn K (.ref CY) (.ref SL) = some false)
    (n_cy : (Value.ref CY == Value.ref SL) = false)
    (w1 : PySem.W.findIn K (.ref CY) "__init__" = some (some (.ref fWI)))
    (w2 : PySem.W.isFn K (.ref fWI) = true)
    (lWI : K.lookup fWI = some ⟨ocWI, odWI, .func (PySem.W.fnOf "__init__" "Cycle.__init__" (defArgs sCyInit) (defBody sCyInit) (defScope sCyInit) (.ref tY) kVWI dcWI pmWI anWI cdWI ctWI), slWI⟩)
    (cWI : PySem.W.codeIn K cdWI "Cycle.__init__" = true)
    (kWI : PySem.W.keepIn K (.ref fWI) = true)
    (lTY : K.lookup tY = some ⟨ocTY, odTY, .seq #[.ref zi] nTY, slTY⟩)
    (o_I : K.lookup zi = some ⟨.type "tuple", ddI, .seq #[.int 0 taI, .int 1 tbI] nnI, ssI⟩)
    (a0Require : PySem.W.nsIn K mainGlobals "require" = some (some (.ref f0Require)))
    (l0Require : K.lookup f0Require = some ⟨oc0Require, od0Require, .func (PySem.W.fnOf "require" "require" (defArgs sRequire) (defBody sRequire) (defScope sRequire) .none kV0Require dc0Require pm0Require an0Require cd0Require ct0Require), sl0Require⟩)
    (c0Require : PySem.W.codeIn K cd0Require "require" = true)
    (k0Require : PySem.W.keepIn K (.ref f0Require) = true)
    (g_MOST_KNOTS : PySem.W.nsIn K mainGlobals "MOST_KNOTS" = some (some (.int 8 tkMOST_KNOTS)))
    (z_all : PySem.W.nsIn K mainGlobals "all" = some none)
    (z_zip : PySem.W.nsIn K mainGlobals "zip" = some none)
    (a0Are : PySem.W.nsIn K mainGlobals "_are_knots" = some (some (.ref f0Are)))
    (l0Are : K.lookup f0Are = some ⟨oc0Are, od0Are, .func (PySem.W.fnOf "_are_knots" "_are_knots" (defArgs sAre) (defBody sAre) (defScope sAre) .none kV0Are dc0Are pm0Are an0Are cd0Are ct0Are), sl0Are⟩)
    (c0Are : PySem.W.codeIn K cd0Are "_are_knots" = true)
    (k0Are : PySem.W.keepIn K (.ref f0Are) = true)
    (a0ListW : PySem.W.nsIn K mainGlobals "is_list_within" = some (some (.ref f0ListW)))
    (l0ListW : K.lookup f0ListW = some ⟨oc0ListW, od0ListW, .func (PySem.W.fnOf "is_list_within" "is_list_within" (defArgs sListW) (defBody sListW) (defScope sListW) .none kV0ListW dc0ListW pm0ListW an0ListW cd0ListW ct0ListW), sl0ListW⟩)
    (c0ListW : PySem.W.codeIn K cd0ListW "is_list_within" = true)
    (k0ListW : PySem.W.keepIn K (.ref f0ListW) = true)
    (a0Knot : PySem.W.nsIn K mainGlobals "_is_knot" = some (some (.ref f0Knot)))
    (l0Knot : K.lookup f0Knot = some ⟨oc0Knot, od0Knot, .func (PySem.W.fnOf "_is_knot" "_is_knot" (defArgs sKnot) (defBody sKnot) (defScope sKnot) .none kV0Knot dc0Knot pm0Knot an0Knot cd0Knot ct0Knot), sl0Knot⟩)
    (c0Knot : PySem.W.codeIn K cd0Knot "_is_knot" = true)
    (k0Knot : PySem.W.keepIn K (.ref f0Knot) = true)
    (a0TupOf : PySem.W.nsIn K mainGlobals "is_tuple_of" = some (some (.ref f0TupOf)))
    (l0TupOf : K.lookup f0TupOf = some ⟨oc0TupOf, od0TupOf, .func (PySem.W.fnOf "is_tuple_of" "is_tuple_of" (defArgs sTupOf) (defBody sTupOf) (defScope sTupOf) .none kV0TupOf dc0TupOf pm0TupOf an0TupOf cd0TupOf ct0TupOf), sl0TupOf⟩)
    (c0TupOf : PySem.W.codeIn K cd0TupOf "is_tuple_of" = true)
    (k0TupOf : PySem.W.keepIn K (.ref f0TupOf) = true)
    (a0IsPlace : PySem.W.nsIn K mainGlobals "is_place" = some (some (.ref f0IsPlace)))
    (l0IsPlace : K.lookup f0IsPlace = some ⟨oc0IsPlace, od0IsPlace, .func (PySem.W.fnOf "is_place" "is_place" (defArgs sIsPlace) (defBody sIsPlace) (defScope sIsPlace) .none kV0IsPlace dc0IsPlace pm0IsPlace an0IsPlace cd0IsPlace ct0IsPlace), sl0IsPlace⟩)
    (c0IsPlace : PySem.W.codeIn K cd0IsPlace "is_place" = true)
    (k0IsPlace : PySem.W.keepIn K (.ref f0IsPlace) = true)
    (a0IsFraction : PySem.W.nsIn K mainGlobals "is_fraction" = some (some (.ref f0IsFraction)))
    (l0IsFraction : K.lookup f0IsFraction = some ⟨oc0IsFraction, od0IsFraction, .func (PySem.W.fnOf "is_fraction" "is_fraction" (defArgs sIsFraction) (defBody sIsFraction) (defScope sIsFraction) .none kV0IsFraction dc0IsFraction pm0IsFraction an0IsFraction cd0IsFraction ct0IsFraction), sl0IsFraction⟩)
    (c0IsFraction : PySem.W.codeIn K cd0IsFraction "is_fraction" = true)
    (k0IsFraction : PySem.W.keepIn K (.ref f0IsFraction) = true)
    (a0Whole : PySem.W.nsIn K mainGlobals "is_whole" = some (some (.ref f0Whole)))
    (l0Whole : K.lookup f0Whole = some ⟨oc0Whole, od0Whole, .func (PySem.W.fnOf "is_whole" "is_whole" (defArgs sWhole) (defBody sWhole) (defScope sWhole) .none kV0Whole dc0Whole pm0Whole an0Whole cd0Whole ct0Whole), sl0Whole⟩)
    (c0Whole : PySem.W.codeIn K cd0Whole "is_whole" = true)
    (k0Whole : PySem.W.keepIn K (.ref f0Whole) = true)
    (a0Compare : PySem.W.nsIn K mainGlobals "compare" = some (some (.ref f0Compare)))
    (l0Compare : K.lookup f0Compare = some ⟨oc0Compare, od0Compare, .func (PySem.W.fnOf "compare" "compare" (defArgs sCompare) (defBody sCompare) (defScope sCompare) .none kV0Compare dc0Compare pm0Compare an0Compare cd0Compare ct0Compare), sl0Compare⟩)
    (c0Compare : PySem.W.codeIn K cd0Compare "compare" = true)
    (k0Compare : PySem.W.keepIn K (.ref f0Compare) = true)
    (a0Even : PySem.W.nsIn K mainGlobals "even_slot" = some (some (.ref f0Even)))
    (l0Even : K.lookup f0Even = some ⟨oc0Even, od0Even, .func (PySem.W.fnOf "even_slot" "even_slot" (defArgs sEven) (defBody sEven) (defScope sEven) .none kV0Even dc0Even pm0Even an0Even cd0Even ct0Even), sl0Even⟩)
    (c0Even : PySem.W.codeIn K cd0Even "even_slot" = true)
    (k0Even : PySem.W.keepIn K (.ref f0Even) = true)
    (a0Store : PySem.W.nsIn K mainGlobals "_law_store" = some (some (.ref f0Store)))
    (l0Store : K.lookup f0Store = some ⟨oc0Store, od0Store, .func (PySem.W.fnOf "_law_store" "_law_store" (defArgs sStore) (defBody sStore) (defScope sStore) .none kV0Store dc0Store pm0Store an0Store cd0Store ct0Store), sl0Store⟩)
    (c0Store : PySem.W.codeIn K cd0Store "_law_store" = true)
    (k0Store : PySem.W.keepIn K (.ref f0Store) = true)
    (a0Kn : PySem.W.nsIn K mainGlobals "_law_knots" = some (some (.ref f0Kn)))
    (l0Kn : K.lookup f0Kn = some ⟨oc0Kn, od0Kn, .func (PySem.W.fnOf "_law_knots" "_law_knots" (defArgs sKn) (defBody sKn) (defScope sKn) .none kV0Kn dc0Kn pm0Kn an0Kn cd0Kn ct0Kn), sl0Kn⟩)
    (c0Kn : PySem.W.codeIn K cd0Kn "_law_knots" = true)
    (k0Kn : PySem.W.keepIn K (.ref f0Kn) = true)
    (a0Take : PySem.W.nsIn K mainGlobals "_law_take" = some (some (.ref f0Take)))
    (l0Take : K.lookup f0Take = some ⟨oc0Take, od0Take, .func (PySem.W.fnOf "_law_take" "_law_take" (defArgs sTake) (defBody sTake) (defScope sTake) .none kV0Take dc0Take pm0Take an0Take cd0Take ct0Take), sl0Take⟩)
    (c0Take : PySem.W.codeIn K cd0Take "_law_take" = true)
    (k0Take : PySem.W.keepIn K (.ref f0Take) = true)
    (a0Mixed : PySem.W.nsIn K mainGlobals "_law_mixed" = some (some (.ref f0Mixed)))
    (l0Mixed : K.lookup f0Mixed = some ⟨oc0Mixed, od0Mixed, .func (PySem.W.fnOf "_law_mixed" "_law_mixed" (defArgs sMixed) (defBody sMixed) (defScope sMixed) .none kV0Mixed dc0Mixed pm0Mixed an0Mixed cd0Mixed ct0Mixed), sl0Mixed⟩)
    (c0Mixed : PySem.W.codeIn K cd0Mixed "_law_mixed" = true)
    (k0Mixed : PySem.W.keepIn K (.ref f0Mixed) = true)
    (a0Size : PySem.W.nsIn K mainGlobals "_law_size" = some (some (.ref f0Size)))
    (l0Size : K.lookup f0Size = some ⟨oc0Size, od0Size, .func (PySem.W.fnOf "_law_size" "_law_size" (defArgs sSize) (defBody sSize) (defScope sSize) .none kV0Size dc0Size pm0Size an0Size cd0Size ct0Size), sl0Size⟩)
    (c0Size : PySem.W.codeIn K cd0Size "_law_size" = true)
    (k0Size : PySem.W.keepIn K (.ref f0Size) = true)
    (a0Range : PySem.W.nsIn K mainGlobals "_law_range" = some (some (.ref f0Range)))
    (l0Range : K.lookup f0Range = some ⟨oc0Range, od0Range, .func (PySem.W.fnOf "_law_range" "_law_range" (defArgs sRange) (defBody sRange) (defScope sRange) .none kV0Range dc0Range pm0Range an0Range cd0Range ct0Range), sl0Range⟩)
    (c0Range : PySem.W.codeIn K cd0Range "_law_range" = true)
    (k0Range : PySem.W.keepIn K (.ref f0Range) = true)
    (a0Pick : PySem.W.nsIn K mainGlobals "_law_pick" = some (some (.ref f0Pick)))
    (l0Pick : K.lookup f0Pick = some ⟨oc0Pick, od0Pick, .func (PySem.W.fnOf "_law_pick" "_law_pick" (defArgs sPick) (defBody sPick) (defScope sPick) .none kV0Pick dc0Pick pm0Pick an0Pick cd0Pick ct0Pick), sl0Pick⟩)
    (c0Pick : PySem.W.codeIn K cd0Pick "_law_pick" = true)
    (k0Pick : PySem.W.keepIn K (.ref f0Pick) = true)
    (a0Lowest : PySem.W.nsIn K mainGlobals "_law_lowest" = some (some (.ref f0Lowest)))
    (l0Lowest : K.lookup f0Lowest = some ⟨oc0Lowest, od0Lowest, .func (PySem.W.fnOf "_law_lowest" "_law_lowest" (defArgs sLowest) (defBody sLowest) (defScope sLowest) .none kV0Lowest dc0Lowest pm0Lowest an0Lowest cd0Lowest ct0Lowest), sl0Lowest⟩)
    (c0Lowest : PySem.W.codeIn K cd0Lowest "_law_lowest" = true)
    (k0Lowest : PySem.W.keepIn K (.ref f0Lowest) = true)
    (a0Gcd : PySem.W.nsIn K mainGlobals "_law_gcd" = some (some (.ref f0Gcd)))
    (l0Gcd : K.lookup f0Gcd = some ⟨oc0Gcd, od0Gcd, .func (PySem.W.fnOf "_law_gcd" "_law_gcd" (defArgs sGcd) (defBody sGcd) (defScope sGcd) .none kV0Gcd dc0Gcd pm0Gcd an0Gcd cd0Gcd ct0Gcd), sl0Gcd⟩)
    (c0Gcd : PySem.W.codeIn K cd0Gcd "_law_gcd" = true)
    (k0Gcd : PySem.W.keepIn K (.ref f0Gcd) = true)
    (a0DFrac : PySem.W.nsIn K mainGlobals "_law_frac" = some (some (.ref f0DFrac)))
    (l0DFrac : K.lookup f0DFrac = some ⟨oc0DFrac, od0DFrac, .func (PySem.W.fnOf "_law_frac" "_law_frac" (defArgs sDFrac) (defBody sDFrac) (defScope sDFrac) .none kV0DFrac dc0DFrac pm0DFrac an0DFrac cd0DFrac ct0DFrac), sl0DFrac⟩)
    (c0DFrac : PySem.W.codeIn K cd0DFrac "_law_frac" = true)
    (k0DFrac : PySem.W.keepIn K (.ref f0DFrac) = true)
    (a0LTimes : PySem.W.nsIn K mainGlobals "_law_times" = some (some (.ref f0LTimes)))
    (l0LTimes : K.lookup f0LTimes = some ⟨oc0LTimes, od0LTimes, .func (PySem.W.fnOf "_law_times" "_law_times" (defArgs sLTimes) (defBody sLTimes) (defScope sLTimes) .none kV0LTimes dc0LTimes pm0LTimes an0LTimes cd0LTimes ct0LTimes), sl0LTimes⟩)
    (c0LTimes : PySem.W.codeIn K cd0LTimes "_law_times" = true)
    (k0LTimes : PySem.W.keepIn K (.ref f0LTimes) = true)
    (a0Kw : PySem.W.nsIn K mainGlobals "_law_knots_wide" = some (some (.ref f0Kw)))
    (l0Kw : K.lookup f0Kw = some ⟨oc0Kw, od0Kw, .func (PySem.W.fnOf "_law_knots_wide" "_law_knots_wide" (defArgs sKw) (defBody sKw) (defScope sKw) .none kV0Kw dc0Kw pm0Kw an0Kw cd0Kw ct0Kw), sl0Kw⟩)
    (c0Kw : PySem.W.codeIn K cd0Kw "_law_knots_wide" = true)
    (k0Kw : PySem.W.keepIn K (.ref f0Kw) = true)
    (a0DFracW : PySem.W.nsIn K mainGlobals "_law_frac_wide" = some (some (.ref f0DFracW)))
    (l0DFracW : K.lookup f0DFracW = some ⟨oc0DFracW, od0DFracW, .func (PySem.W.fnOf "_law_frac_wide" "_law_frac_wide" (defArgs sDFracW) (defBody sDFracW) (defScope sDFracW) .none kV0DFracW dc0DFracW pm0DFracW an0DFracW cd0DFracW ct0DFracW), sl0DFracW⟩)
    (c0DFracW : PySem.W.codeIn K cd0DFracW "_law_frac_wide" = true)
    (k0DFracW : PySem.W.keepIn K (.ref f0DFracW) = true)
    (a0Great : PySem.W.nsIn K mainGlobals "_law_great" = some (some (.ref f0Great)))
    (l0Great : K.lookup f0Great = some ⟨oc0Great, od0Great, .func (PySem.W.fnOf "_law_great" "_law_great" (defArgs sGreat) (defBody sGreat) (defScope sGreat) .none kV0Great dc0Great pm0Great an0Great cd0Great ct0Great), sl0Great⟩)
    (c0Great : PySem.W.codeIn K cd0Great "_law_great" = true)
    (k0Great : PySem.W.keepIn K (.ref f0Great) = true)
    (a0LInt : PySem.W.nsIn K mainGlobals "_law_whole" = some (some (.ref f0LInt)))
    (l0LInt : K.lookup f0LInt = some ⟨oc0LInt, od0LInt, .func (PySem.W.fnOf "_law_whole" "_law_whole" (defArgs sLInt) (defBody sLInt) (defScope sLInt) .none kV0LInt dc0LInt pm0LInt an0LInt cd0LInt ct0LInt), sl0LInt⟩)
    (c0LInt : PySem.W.codeIn K cd0LInt "_law_whole" = true)
    (k0LInt : PySem.W.keepIn K (.ref f0LInt) = true)
    (a0Same : PySem.W.nsIn K mainGlobals "_law_same" = some (some (.ref f0Same)))
    (l0Same : K.lookup f0Same = some ⟨oc0Same, od0Same, .func (PySem.W.fnOf "_law_same" "_law_same" (defArgs sSame) (defBody sSame) (defScope sSame) .none kV0Same dc0Same pm0Same an0Same cd0Same ct0Same), sl0Same⟩)
    (c0Same : PySem.W.codeIn K cd0Same "_law_same" = true)
    (k0Same : PySem.W.keepIn K (.ref f0Same) = true)
    (a0LWhole : PySem.W.nsIn K mainGlobals "_law_is_whole" = some (some (.ref f0LWhole)))
    (l0LWhole : K.lookup f0LWhole = some ⟨oc0LWhole, od0LWhole, .func (PySem.W.fnOf "_law_is_whole" "_law_is_whole" (defArgs sLWhole) (defBody sLWhole) (defScope sLWhole) .none kV0LWhole dc0LWhole pm0LWhole an0LWhole cd0LWhole ct0LWhole), sl0LWhole⟩)
    (c0LWhole : PySem.W.codeIn K cd0LWhole "_law_is_whole" = true)
    (k0LWhole : PySem.W.keepIn K (.ref f0LWhole) = true)
    (a0AskT : PySem.W.nsIn K mainGlobals "_law_asked_turns" = some (some (.ref f0AskT)))
    (l0AskT : K.lookup f0AskT = some ⟨oc0AskT, od0AskT, .func (PySem.W.fnOf "_law_asked_turns" "_law_asked_turns" (defArgs sAskT) (defBody sAskT) (defScope sAskT) .none kV0AskT dc0AskT pm0AskT an0AskT cd0AskT ct0AskT), sl0AskT⟩)
    (c0AskT : PySem.W.codeIn K cd0AskT "_law_asked_turns" = true)
    (k0AskT : PySem.W.keepIn K (.ref f0AskT) = true)
    (a0LPlus : PySem.W.nsIn K mainGlobals "_law_plus" = some (some (.ref f0LPlus)))
    (l0LPlus : K.lookup f0LPlus = some ⟨oc0LPlus, od0LPlus, .func (PySem.W.fnOf "_law_plus" "_law_plus" (defArgs sLPlus) (defBody sLPlus) (defScope sLPlus) .none kV0LPlus dc0LPlus pm0LPlus an0LPlus cd0LPlus ct0LPlus), sl0LPlus⟩)
    (c0LPlus : PySem.W.codeIn K cd0LPlus "_law_plus" = true)
    (k0LPlus : PySem.W.keepIn K (.ref f0LPlus) = true)
    (a0DPlaceW : PySem.W.nsIn K mainGlobals "_law_place_wide" = some (some (.ref f0DPlaceW)))
    (l0DPlaceW : K.lookup f0DPlaceW = some ⟨oc0DPlaceW, od0DPlaceW, .func (PySem.W.fnOf "_law_place_wide" "_law_place_wide" (defArgs sDPlaceW) (defBody sDPlaceW) (defScope sDPlaceW) .none kV0DPlaceW dc0DPlaceW pm0DPlaceW an0DPlaceW cd0DPlaceW ct0DPlaceW), sl0DPlaceW⟩)
    (c0DPlaceW : PySem.W.codeIn K cd0DPlaceW "_law_place_wide" = true)
    (k0DPlaceW : PySem.W.keepIn K (.ref f0DPlaceW) = true)
    (a0DPlace : PySem.W.nsIn K mainGlobals "_law_place" = some (some (.ref f0DPlace)))
    (l0DPlace : K.lookup f0DPlace = some ⟨oc0DPlace, od0DPlace, .func (PySem.W.fnOf "_law_place" "_law_place" (defArgs sDPlace) (defBody sDPlace) (defScope sDPlace) .none kV0DPlace dc0DPlace pm0DPlace an0DPlace cd0DPlace ct0DPlace), sl0DPlace⟩)
    (c0DPlace : PySem.W.codeIn K cd0DPlace "_law_place" = true)
    (k0DPlace : PySem.W.keepIn K (.ref f0DPlace) = true)
    (a0Fits : PySem.W.nsIn K mainGlobals "_law_fits" = some (some (.ref f0Fits)))
    (l0Fits : K.lookup f0Fits = some ⟨oc0Fits, od0Fits, .func (PySem.W.fnOf "_law_fits" "_law_fits" (defArgs sFits) (defBody sFits) (defScope sFits) .none kV0Fits dc0Fits pm0Fits an0Fits cd0Fits ct0Fits), sl0Fits⟩)
    (c0Fits : PySem.W.codeIn K cd0Fits "_law_fits" = true)
    (k0Fits : PySem.W.keepIn K (.ref f0Fits) = true)
    (a0Period : PySem.W.nsIn K mainGlobals "_period_of" = some (some (.ref f0Period)))
    (l0Period : K.lookup f0Period = some ⟨oc0Period, od0Period, .func (PySem.W.fnOf "_period_of" "_period_of" (defArgs sPeriod) (defBody sPeriod) (defScope sPeriod) .none kV0Period dc0Period pm0Period an0Period cd0Period ct0Period), sl0Period⟩)
    (c0Period : PySem.W.codeIn K cd0Period "_period_of" = true)
    (k0Period : PySem.W.keepIn K (.ref f0Period) = true)
    (a0Magn : PySem.W.nsIn K mainGlobals "magnitude" = some (some (.ref f0Magn)))
    (l0Magn : K.lookup f0Magn = some ⟨oc0Magn, od0Magn, .func (PySem.W.fnOf "magnitude" "magnitude" (defArgs sMagn) (defBody sMagn) (defScope sMagn) .none kV0Magn dc0Magn pm0Magn an0Magn cd0Magn ct0Magn), sl0Magn⟩)
    (c0Magn : PySem.W.codeIn K cd0Magn "magnitude" = true)
    (k0Magn : PySem.W.keepIn K (.ref f0Magn) = true)
    (a0Over : PySem.W.nsIn K mainGlobals "over" = some (some (.ref f0Over)))
    (l0Over : K.lookup f0Over = some ⟨oc0Over, od0Over, .func (PySem.W.fnOf "over" "over" (defArgs sOver) (defBody sOver) (defScope sOver) .none kV0Over dc0Over pm0Over an0Over cd0Over ct0Over), sl0Over⟩)
    (c0Over : PySem.W.codeIn K cd0Over "over" = true)
    (k0Over : PySem.W.keepIn K (.ref f0Over) = true)
    (a0Fraction : PySem.W.nsIn K mainGlobals "fraction" = some (some (.ref f0Fraction)))
    (l0Fraction : K.lookup f0Fraction = some ⟨oc0Fraction, od0Fraction, .func (PySem.W.fnOf "fraction" "fraction" (defArgs sFraction) (defBody sFraction) (defScope sFraction) (.ref t0Fraction) kV0Fraction dc0Fraction pm0Fraction an0Fraction cd0Fraction ct0Fraction), sl0Fraction⟩)
    (c0Fraction : PySem.W.codeIn K cd0Fraction "fraction" = true)
    (k0Fraction : PySem.W.keepIn K (.ref f0Fraction) = true)
    (lT0Fraction : K.lookup t0Fraction = some ⟨ocT0Fraction, odT0Fraction, .seq #[.int 1 tk0Fraction] nT0Fraction, slT0Fraction⟩)
    (a0KH : PySem.W.nsIn K mainGlobals "_law_knots_hold" = some (some (.ref f0KH)))
    (l0KH : K.lookup f0KH = some ⟨oc0KH, od0KH, .func (PySem.W.fnOf "_law_knots_hold" "_law_knots_hold" (defArgs sKH) (defBody sKH) (defScope sKH) .none kV0KH dc0KH pm0KH an0KH cd0KH ct0KH), sl0KH⟩)
    (c0KH : PySem.W.codeIn K cd0KH "_law_knots_hold" = true)
    (k0KH : PySem.W.keepIn K (.ref f0KH) = true)
    (a0Grt : PySem.W.nsIn K mainGlobals "greater" = some (some (.ref f0Grt)))
    (l0Grt : K.lookup f0Grt = some ⟨oc0Grt, od0Grt, .func (PySem.W.fnOf "greater" "greater" (defArgs sGrt) (defBody sGrt) (defScope sGrt) .none kV0Grt dc0Grt pm0Grt an0Grt cd0Grt ct0Grt), sl0Grt⟩)
    (c0Grt : PySem.W.codeIn K cd0Grt "greater" = true)
    (k0Grt : PySem.W.keepIn K (.ref f0Grt) = true)
    (a0Part : PySem.W.nsIn K mainGlobals "part_of" = some (some (.ref f0Part)))
    (l0Part : K.lookup f0Part = some ⟨oc0Part, od0Part, .func (PySem.W.fnOf "part_of" "part_of" (defArgs sPart) (defBody sPart) (defScope sPart) .none kV0Part dc0Part pm0Part an0Part cd0Part ct0Part), sl0Part⟩)
    (c0Part : PySem.W.codeIn K cd0Part "part_of" = true)
    (k0Part : PySem.W.keepIn K (.ref f0Part) = true)
    (a0Minus : PySem.W.nsIn K mainGlobals "minus" = some (some (.ref f0Minus)))
    (l0Minus : K.lookup f0Minus = some ⟨oc0Minus, od0Minus, .func (PySem.W.fnOf "minus" "minus" (defArgs sMinus) (defBody sMinus) (defScope sMinus) .none kV0Minus dc0Minus pm0Minus an0Minus cd0Minus ct0Minus), sl0Minus⟩)
    (c0Minus : PySem.W.codeIn K cd0Minus "minus" = true)
    (k0Minus : PySem.W.keepIn K (.ref f0Minus) = true)
    (a0Plus : PySem.W.nsIn K mainGlobals "plus" = some (some (.ref f0Plus)))
    (l0Plus : K.lookup f0Plus = some ⟨oc0Plus, od0Plus, .func (PySem.W.fnOf "plus" "plus" (defArgs sPlus) (defBody sPlus) (defScope sPlus) .none kV0Plus dc0Plus pm0Plus an0Plus cd0Plus ct0Plus), sl0Plus⟩)
    (c0Plus : PySem.W.codeIn K cd0Plus "plus" = true)
    (k0Plus : PySem.W.keepIn K (.ref f0Plus) = true)
    (a0Times : PySem.W.nsIn K mainGlobals "times" = some (some (.ref f0Times)))
    (l0Times : K.lookup f0Times = some ⟨oc0Times, od0Times, .func (PySem.W.fnOf "times" "times" (defArgs sTimes) (defBody sTimes) (defScope sTimes) .none kV0Times dc0Times pm0Times an0Times cd0Times ct0Times), sl0Times⟩)
    (c0Times : PySem.W.codeIn K cd0Times "times" = true)
    (k0Times : PySem.W.keepIn K (.ref f0Times) = true)
    (a0Slope : PySem.W.nsIn K mainGlobals "_slope" = some (some (.ref f0Slope)))
    (l0Slope : K.lookup f0Slope = some ⟨oc0Slope, od0Slope, .func (PySem.W.fnOf "_slope" "_slope" (defArgs sSlope) (defBody sSlope) (defScope sSlope) .none kV0Slope dc0Slope pm0Slope an0Slope cd0Slope ct0Slope), sl0Slope⟩)
    (c0Slope : PySem.W.codeIn K cd0Slope "_slope" = true)
    (k0Slope : PySem.W.keepIn K (.ref f0Slope) = true)
    (a0Sh : PySem.W.nsIn K mainGlobals "_law_slot_holds" = some (some (.ref f0Sh)))
    (l0Sh : K.lookup f0Sh = some ⟨oc0Sh, od0Sh, .func (PySem.W.fnOf "_law_slot_holds" "_law_slot_holds" (defArgs sSh) (defBody sSh) (defScope sSh) .none kV0Sh dc0Sh pm0Sh an0Sh cd0Sh ct0Sh), sl0Sh⟩)
    (c0Sh : PySem.W.codeIn K cd0Sh "_law_slot_holds" = true)
    (k0Sh : PySem.W.keepIn K (.ref f0Sh) = true)
    (a0Most : PySem.W.nsIn K mainGlobals "_law_most" = some (some (.ref f0Most)))
    (l0Most : K.lookup f0Most = some ⟨oc0Most, od0Most, .func (PySem.W.fnOf "_law_most" "_law_most" (defArgs sMost) (defBody sMost) (defScope sMost) .none kV0Most dc0Most pm0Most an0Most cd0Most ct0Most), sl0Most⟩)
    (c0Most : PySem.W.codeIn K cd0Most "_law_most" = true)
    (k0Most : PySem.W.keepIn K (.ref f0Most) = true)
    (a0Sgn : PySem.W.nsIn K mainGlobals "_law_sign" = some (some (.ref f0Sgn)))
    (l0Sgn : K.lookup f0Sgn = some ⟨oc0Sgn, od0Sgn, .func (PySem.W.fnOf "_law_sign" "_law_sign" (defArgs sSgn) (defBody sSgn) (defScope sSgn) .none kV0Sgn dc0Sgn pm0Sgn an0Sgn cd0Sgn ct0Sgn), sl0Sgn⟩)
    (c0Sgn : PySem.W.codeIn K cd0Sgn "_law_sign" = true)
    (k0Sgn : PySem.W.keepIn K (.ref f0Sgn) = true)
    (a0Line : PySem.W.nsIn K mainGlobals "_law_on_line" = some (some (.ref f0Line)))
    (l0Line : K.lookup f0Line = some ⟨oc0Line, od0Line, .func (PySem.W.fnOf "_law_on_line" "_law_on_line" (defArgs sLine) (defBody sLine) (defScope sLine) .none kV0Line dc0Line pm0Line an0Line cd0Line ct0Line), sl0Line⟩)
    (c0Line : PySem.W.codeIn K cd0Line "_law_on_line" = true)
    (k0Line : PySem.W.keepIn K (.ref f0Line) = true)
    (a0LFrac : PySem.W.nsIn K mainGlobals "_law_is_frac" = some (some (.ref f0LFrac)))
    (l0LFrac : K.lookup f0LFrac = some ⟨oc0LFrac, od0LFrac, .func (PySem.W.fnOf "_law_is_frac" "_law_is_frac" (defArgs sLFrac) (defBody sLFrac) (defScope sLFrac) .none kV0LFrac dc0LFrac pm0LFrac an0LFrac cd0LFrac ct0LFrac), sl0LFrac⟩)
    (c0LFrac : PySem.W.codeIn K cd0LFrac "_law_is_frac" = true)
    (k0LFrac : PySem.W.keepIn K (.ref f0LFrac) = true)
    (a0LPart : PySem.W.nsIn K mainGlobals "_law_part" = some (some (.ref f0LPart)))
    (l0LPart : K.lookup f0LPart = some ⟨oc0LPart, od0LPart, .func (PySem.W.fnOf "_law_part" "_law_part" (defArgs sLPart) (defBody sLPart) (defScope sLPart) .none kV0LPart dc0LPart pm0LPart an0LPart cd0LPart ct0LPart), sl0LPart⟩)
    (c0LPart : PySem.W.codeIn K cd0LPart "_law_part" = true)
    (k0LPart : PySem.W.keepIn K (.ref f0LPart) = true)
    (a0LMinus : PySem.W.nsIn K mainGlobals "_law_minus" = some (some (.ref f0LMinus)))
    (l0LMinus : K.lookup f0LMinus = some ⟨oc0LMinus, od0LMinus, .func (PySem.W.fnOf "_law_minus" "_law_minus" (defArgs sLMinus) (defBody sLMinus) (defScope sLMinus) .none kV0LMinus dc0LMinus pm0LMinus an0LMinus cd0LMinus ct0LMinus), sl0LMinus⟩)
    (c0LMinus : PySem.W.codeIn K cd0LMinus "_law_minus" = true)
    (k0LMinus : PySem.W.keepIn K (.ref f0LMinus) = true)
    (a0AreX : PySem.W.nsIn K mainGlobals "_are_knots" = some (some (.ref f0AreX)))
    (l0AreX : K.lookup f0AreX = some ⟨oc0AreX, od0AreX, .func (PySem.W.fnOf "_are_knots" "_are_knots" (defArgs sAreX) (defBody sAreX) (defScope sAreX) .none kV0AreX dc0AreX pm0AreX an0AreX cd0AreX ct0AreX), sl0AreX⟩)
    (c0AreX : PySem.W.codeIn K cd0AreX "_are_knots" = true)
    (k0AreX : PySem.W.keepIn K (.ref f0AreX) = true)
    (a0ListA : PySem.W.nsIn K mainGlobals "is_list_within" = some (some (.ref f0ListA)))
    (l0ListA : K.lookup f0ListA = some ⟨oc0ListA, od0ListA, .func (PySem.W.fnOf "is_list_within" "is_list_within" (defArgs sListA) (defBody sListA) (defScope sListA) .none kV0ListA dc0ListA pm0ListA an0ListA cd0ListA ct0ListA), sl0ListA⟩)
    (c0ListA : PySem.W.codeIn K cd0ListA "is_list_within" = true)
    (k0ListA : PySem.W.keepIn K (.ref f0ListA) = true)
    (a0KnotA : PySem.W.nsIn K mainGlobals "_is_knot" = some (some (.ref f0KnotA)))
    (l0KnotA : K.lookup f0KnotA = some ⟨oc0KnotA, od0KnotA, .func (PySem.W.fnOf "_is_knot" "_is_knot" (defArgs sKnotA) (defBody sKnotA) (defScope sKnotA) .none kV0KnotA dc0KnotA pm0KnotA an0KnotA cd0KnotA ct0KnotA), sl0KnotA⟩)
    (c0KnotA : PySem.W.codeIn K cd0KnotA "_is_knot" = true)
    (k0KnotA : PySem.W.keepIn K (.ref f0KnotA) = true)
    (a0TupA : PySem.W.nsIn K mainGlobals "is_tuple_of" = some (some (.ref f0TupA)))
    (l0TupA : K.lookup f0TupA = some ⟨oc0TupA, od0TupA, .func (PySem.W.fnOf "is_tuple_of" "is_tuple_of" (defArgs sTupA) (defBody sTupA) (defScope sTupA) .none kV0TupA dc0TupA pm0TupA an0TupA cd0TupA ct0TupA), sl0TupA⟩)
    (c0TupA : PySem.W.codeIn K cd0TupA "is_tuple_of" = true)
    (k0TupA : PySem.W.keepIn K (.ref f0TupA) = true)
    (a0BadFrac : PySem.W.nsIn K mainGlobals "_law_bad_frac" = some (some (.ref f0BadFrac)))
    (l0BadFrac : K.lookup f0BadFrac = some ⟨oc0BadFrac, od0BadFrac, .func (PySem.W.fnOf "_law_bad_frac" "_law_bad_frac" (defArgs sBadFrac) (defBody sBadFrac) (defScope sBadFrac) .none kV0BadFrac dc0BadFrac pm0BadFrac an0BadFrac cd0BadFrac ct0BadFrac), sl0BadFrac⟩)
    (c0BadFrac : PySem.W.codeIn K cd0BadFrac "_law_bad_frac" = true)
    (k0BadFrac : PySem.W.keepIn K (.ref f0BadFrac) = true) :
    ∃ fd : FuncData, (∀ (s : Shared) (v : Value), BindsTo s fd ⟨[v], []⟩ [("_law_script", v)]) ∧ ∀ base : Heap, K.In base → base.Ns mainGlobals mg → ∀ P1 : Addr, LamX.TabB base mg c_R1 P1 → FnOk P w K mg base CX0 11 fa fd ["_law_script"] (spLaw K P1) := by
  have T : Bt K mg := ⟨PySem.W.mg_none_of X G z_int, PySem.W.mg_none_of X G z_len, PySem.W.mg_none_of X G z_list, PySem.W.mg_none_of X G z_abs, PySem.W.mg_none_of X G z_range, PySem.W.mg_none_of X G z_min, PySem.W.mg_none_of X G z_max, PySem.W.mg_none_of X G z_isinstance, PySem.W.mg_none_of X G z_bool, PySem.W.mg_none_of X G z_str, PySem.W.mg_none_of X G z_dict, PySem.W.mg_none_of X G z_tuple, PySem.W.mg_of X G z_gcd⟩
  have FI := fun_mk (st := sInitB) lI cI kI
  have bI := FI.binds (ps := ["self", "what"]) fun _ _ _ _ _ _ us hl => match us, hl with | [_, _], _ => rfl
  have B : BvT K mg C := ⟨PySem.W.mg_of X G aC, ⟨⟨nm, qn, N0, bs, bm, sn, sub, ab, col, dd, m0, m1, m2, m3, m5, xL, hbm⟩, sa, eC, tC, kC⟩, nw, fI, _, aI, tI, FI, bI⟩
  have icC : (PySem.W.clsIn K C).isSome = true := by
    obtain ⟨cd, hc, _⟩ := PySem.W.any_some hC
    rw [hc]; rfl
  let A : String → Addr := fun n => if n = "Mismatch" then C_Mismatch else if n = "Still" then C_Still else if n = "Endless" then C_Endless else if n = "TooMany" then C_TooMany else if n = "NoName" then C_NoName else if n = "Taken" then C_Taken else if n = "Locked" then C_Locked else if n = "Looped" then C_Looped else if n = "Broken" then C_Broken else if n = "ReadError" then C_ReadError else C
  have kit : ∀ D : Addr, PySem.W.typeIn K (.ref D) = some (.type "type") → PySem.W.hasDictIn K D = true → PySem.W.subIn K (.ref C) (.ref D) = some false → (Value.ref C == Value.ref D) = false → PySem.W.kitOne K (.ref C) (.ref D) = some false := fun D h1 h2 h3 h4 => by
    obtain ⟨cd, hc, _⟩ := PySem.W.any_some h2
    unfold PySem.W.kitOne PySem.W.kitCls
    rw [h4, if_neg Bool.false_ne_true]
    show (if ((PySem.W.clsIn K D).isSome && PySem.W.typeIn K (.ref D) == some (.type "type")) = true then PySem.W.subIn K (.ref C) (.ref D) else none) = some false
    rw [hc, h1, if_pos (by rfl)]
    exact h3
  have AT : AskT K mg C S A := {
    sky := PySem.W.mg_of X G aS
    exm := PySem.W.exm_ref eS hS tS cS
    g := fun n hn => by
      simp only [List.mem_cons, List.not_mem_nil, or_false] at hn
      rcases hn with rfl | rfl | rfl | rfl | rfl | rfl | rfl | rfl | rfl | rfl | rfl
      · exact PySem.W.mg_of X G aC
      · exact PySem.W.mg_of X G a_Mismatch
      · exact PySem.W.mg_of X G a_Still
      · exact PySem.W.mg_of X G a_Endless
      · exact PySem.W.mg_of X G a_TooMany
      · exact PySem.W.mg_of X G a_NoName
      · exact PySem.W.mg_of X G a_Taken
      · exact PySem.W.mg_of X G a_Locked
      · exact PySem.W.mg_of X G a_Looped
      · exact PySem.W.mg_of X G a_Broken
      · exact PySem.W.mg_of X G a_ReadError
    k := fun n hn => by
      simp only [List.mem_cons, List.not_mem_nil, or_false] at hn
      rcases hn with rfl | rfl | rfl | rfl | rfl | rfl | rfl | rfl | rfl | rfl | rfl
      · show PySem.W.kitOne K (.ref C) (.ref C) = some true
        unfold PySem.W.kitOne
        rw [if_pos (by simp)]
      · exact kit C_Mismatch t_Mismatch h_Mismatch s_Mismatch n_Mismatch
      · exact kit C_Still t_Still h_Still s_Still n_Still
      · exact kit C_Endless t_Endless h_Endless s_Endless n_Endless
      · exact kit C_TooMany t_TooMany h_TooMany s_TooMany n_TooMany
      · exact kit C_NoName t_NoName h_NoName s_NoName n_NoName
      · exact kit C_Taken t_Taken h_Taken s_Taken n_Taken
      · exact kit C_Locked t_Locked h_Locked s_Locked n_Locked
      · exact kit C_Looped t_Looped h_Looped s_Looped n_Looped
      · exact kit C_Broken t_Broken h_Broken s_Broken n_Broken
      · exact kit C_ReadError t_ReadError h_ReadError s_ReadError n_ReadError
    ve := by
      unfold PySem.W.kitOne PySem.W.kitCls
      rw [if_neg (by simp)]
      show (if PySem.W.kitMeta "ValueError" = true then PySem.W.subIn K (.ref C) (.type "ValueError") else none) = some true
      rw [if_pos (by decide +kernel)]
      exact vC
    b_VE := PySem.W.mg_none_of X G z_VE
    hcl := icC
    hga := ga
    hgt := gg
    hsub := eC
    ha := gc
    hn := spc
    htk := tkc
    hm := mC
    xf := ⟨ga, gg, eC, hC⟩ }
  have FA := fun_mk (st := sAsked) l_A c_A k_A
  have AS : AskD K mg f_A oc_A od_A .none kV_A dc_A pm_A an_A cd_A ct_A sl_A := ⟨PySem.W.mg_of X G a_A, k_A, l_A, c_A, FA.binds (ps := ["_law_call"]) fun _ _ _ _ _ _ us hl => match us, hl with | [_], _ => rfl⟩
  have F_R1 := fun_mk (st := sRefd) l_R1 cd_R1 k_R1
  have b_R1 := F_R1.binds (ps := ["_law_store_here", "_law_slot", "_law_knots_here"]) fun _ _ _ _ _ _ us hl => match us, hl with | [_, _, _], _ => rfl
  have C0 : Two01 K mg z0 o0 := ⟨PySem.W.mg_of X G aZ, PySem.W.mg_of X G aO, ob_con o_Z, ob_con o_O⟩
  have yC : Cls K SL := ⟨ypg, yhd, ypo, ysa⟩
  have yI : C8.InsC K SL := ⟨yC, yca, spc, tkc, yro, by
    unfold PySem.W.kitOne
    rw [if_pos (by simp)]⟩
  have wC : Cls K CY := ⟨wpg, whd, wpo, wsa⟩
  have wI : C8.InsC K CY := ⟨wC, wca, spc, tkc, wro, by
    unfold PySem.W.kitOne
    rw [if_pos (by simp)]⟩
  have Y : SlC K mg SL := ⟨yC, yn__knots, PySem.W.mg_of X G aSL⟩
  have W : CyC K mg CY := ⟨wC, wn_rate, wn_start, wn_period, PySem.W.mg_of X G aCY⟩
  have FIN := fun_mk (st := sSlInit) lIN cIN kIN
  have bIN := FIN.binds (ps := ["self", "knots"]) fun _ _ _ _ _ _ us hl => match us, hl with | [_, _], _ => rfl
  have FKN := fun_mk (st := sSlKnots) lKN cKN kKN
  have bKN := FKN.binds (ps := ["self"]) fun _ _ _ _ _ _ us hl => match us, hl with | [_], _ => rfl
  have FPC := fun_mk (st := sSlPcs) lPC cPC kPC
  have bPC := FPC.binds (ps := ["self"]) fun _ _ _ _ _ _ us hl => match us, hl with | [_], _ => rfl
  have MPC : Meth K SL "_pieces" fPC := ⟨y1PC, y2PC, kPC⟩
  have FSW := fun_mk (st := sSlSway) lSW cSW kSW
  have bSW := FSW.binds (ps := ["self"]) fun _ _ _ _ _ _ us hl => match us, hl with | [_], _ => rfl
  have MSW : Meth K SL "sway" fSW := ⟨y1SW, y2SW, kSW⟩
  have FCR := fun_mk (st := sSlCar) lCR cCR kCR
  have bCR := FCR.binds (ps := ["self", "turns"]) fun _ _ _ _ _ _ us hl => match us, hl with | [_, _], _ => rfl
  have MCR : Meth K SL "carried" fCR := ⟨y1CR, y2CR, kCR⟩
  have FEQ := fun_mk (st := sSlEq) lEQ cEQ kEQ
  have bEQ := FEQ.binds (ps := ["self", "other"]) fun _ _ _ _ _ _ us hl => match us, hl with | [_, _], _ => rfl
  have YM : L2.Mk K SL fIN := ⟨ymk, y1IN, y2IN, ykp⟩
  have WM : L2.Mk K CY fWI := ⟨wmk, w1, w2, wkp⟩
  have FWI : FunD K "__init__" "Cycle.__init__" (defArgs sCyInit) (defBody sCyInit) (defScope sCyInit) [.ref zi] [] fWI _ := ⟨⟨ocWI, odWI, _, kVWI, dcWI, pmWI, anWI, cdWI, ctWI, slWI, rfl, lWI, cWI, .inr ⟨by simp, tY, _, [.ref zi], nTY, rfl, lTY, rfl, .cons rfl .nil⟩, .inl rfl⟩, kWI⟩
  obtain ⟨dsY1, vY1, bY1⟩ := FWI.binds1 (ps := ["self", "rate", "start"]) 2 0 (by simp) rfl fun T kV doc pm an cdv ct us its hu hi => match us, its, hu, hi with
    | [u1, u2], [i1], _, _ => ⟨_, rfl, rfl⟩
  have ozi := ob_con o_I
  have oth : ∀ t : Value, (t == Value.ref SL) = false → PySem.W.subIn K t (.ref SL) = some false → Oth K SL t := fun t h1 h2 => by
    obtain ⟨cd, hc, _⟩ := PySem.W.any_some yhd
    refine ⟨?_, ?_⟩
    · unfold PySem.W.kitOne PySem.W.kitCls
      rw [h1, if_neg Bool.false_ne_true]
      show (if ((PySem.W.clsIn K SL).isSome && PySem.W.typeIn K (.ref SL) == some (.type "type")) = true then PySem.W.subIn K t (.ref SL) else none) = some false
      rw [hc, yty, if_pos (by rfl)]
      exact h2
    · unfold PySem.W.notFirst
      rw [h1, h2]
      rfl
  have KD : Kinds K SL CY := ⟨fun n hn => by
    simp only [List.mem_cons, List.not_mem_nil, or_false] at hn
    rcases hn with rfl | rfl | rfl | rfl | rfl | rfl | rfl
    · exact oth _ rfl ks_NoneType
    · exact oth _ rfl ks_bool
    · exact oth _ rfl ks_int
    · exact oth _ rfl ks_str
    · exact oth _ rfl ks_tuple
    · exact oth _ rfl ks_list
    · exact oth _ rfl ks_dict, oth _ n_cy ks_cy⟩
  have DRequire : Dfn K mg "require" sRequire ["well_formed", "what"] := dfn_mk X G a0Require l0Require c0Require k0Require fun _ _ _ _ _ _ us hl => match us, hl with | [_, _], _ => rfl
  have DAre : Dfn K mg "_are_knots" sAre ["value"] := dfn_mk X G a0Are l0Are c0Are k0Are fun _ _ _ _ _ _ us hl => match us, hl with | [_], _ => rfl
  have DListW : Dfn K mg "is_list_within" sListW ["value", "least", "most"] := dfn_mk X G a0ListW l0ListW c0ListW k0ListW fun _ _ _ _ _ _ us hl => match us, hl with | [_, _, _], _ => rfl
  have DKnot : Dfn K mg "_is_knot" sKnot ["value"] := dfn_mk X G a0Knot l0Knot c0Knot k0Knot fun _ _ _ _ _ _ us hl => match us, hl with | [_], _ => rfl
  have DTupOf : Dfn K mg "is_tuple_of" sTupOf ["value", "many"] := dfn_mk X G a0TupOf l0TupOf c0TupOf k0TupOf fun _ _ _ _ _ _ us hl => match us, hl with | [_, _], _ => rfl
  have DIsPlace : Dfn K mg "is_place" sIsPlace ["value"] := dfn_mk X G a0IsPlace l0IsPlace c0IsPlace k0IsPlace fun _ _ _ _ _ _ us hl => match us, hl with | [_], _ => rfl
  have DIsFraction : Dfn K mg "is_fraction" sIsFraction ["value"] := dfn_mk X G a0IsFraction l0IsFraction c0IsFraction k0IsFraction fun _ _ _ _ _ _ us hl => match us, hl with | [_], _ => rfl
  have DWhole : Dfn K mg "is_whole" sWhole ["value"] := dfn_mk X G a0Whole l0Whole c0Whole k0Whole fun _ _ _ _ _ _ us hl => match us, hl with | [_], _ => rfl
  have DCompare : Dfn K mg "compare" sCompare ["left", "right"] := dfn_mk X G a0Compare l0Compare c0Compare k0Compare fun _ _ _ _ _ _ us hl => match us, hl with | [_, _], _ => rfl
  have DEven : Dfn K mg "even_slot" sEven [] := dfn_mk X G a0Even l0Even c0Even k0Even fun _ _ _ _ _ _ us hl => match us, hl with | [], _ => rfl
  have DStore : Dfn K mg "_law_store" sStore ["_law_script"] := dfn_mk X G a0Store l0Store c0Store k0Store fun _ _ _ _ _ _ us hl => match us, hl with | [_], _ => rfl
  have DKn : Dfn K mg "_law_knots" sKn ["_law_store_here", "_law_top"] := dfn_mk X G a0Kn l0Kn c0Kn k0Kn fun _ _ _ _ _ _ us hl => match us, hl with | [_, _], _ => rfl
  have DTake : Dfn K mg "_law_take" sTake ["_law_store_here", "_law_many"] := dfn_mk X G a0Take l0Take c0Take k0Take fun _ _ _ _ _ _ us hl => match us, hl with | [_, _], _ => rfl
  have DMixed : Dfn K mg "_law_mixed" sMixed ["_law_number", "_law_turn"] := dfn_mk X G a0Mixed l0Mixed c0Mixed k0Mixed fun _ _ _ _ _ _ us hl => match us, hl with | [_, _], _ => rfl
  have DSize : Dfn K mg "_law_size" sSize ["_law_store_here", "_law_top"] := dfn_mk X G a0Size l0Size c0Size k0Size fun _ _ _ _ _ _ us hl => match us, hl with | [_, _], _ => rfl
  have DRange : Dfn K mg "_law_range" sRange ["_law_store_here", "_law_low", "_law_high"] := dfn_mk X G a0Range l0Range c0Range k0Range fun _ _ _ _ _ _ us hl => match us, hl with | [_, _, _], _ => rfl
  have DPick : Dfn K mg "_law_pick" sPick ["_law_store_here", "_law_row"] := dfn_mk X G a0Pick l0Pick c0Pick k0Pick fun _ _ _ _ _ _ us hl => match us, hl with | [_, _], _ => rfl
  have DLowest : Dfn K mg "_law_lowest" sLowest ["_law_top", "_law_bottom"] := dfn_mk X G a0Lowest l0Lowest c0Lowest k0Lowest fun _ _ _ _ _ _ us hl => match us, hl with | [_, _], _ => rfl
  have DGcd : Dfn K mg "_law_gcd" sGcd ["_law_left", "_law_right"] := dfn_mk X G a0Gcd l0Gcd c0Gcd k0Gcd fun _ _ _ _ _ _ us hl => match us, hl with | [_, _], _ => rfl
  have DDFrac : Dfn K mg "_law_frac" sDFrac ["_law_store_here"] := dfn_mk X G a0DFrac l0DFrac c0DFrac k0DFrac fun _ _ _ _ _ _ us hl => match us, hl with | [_], _ => rfl
  have DLTimes : Dfn K mg "_law_times" sLTimes ["_law_left", "_law_right"] := dfn_mk X G a0LTimes l0LTimes c0LTimes k0LTimes fun _ _ _ _ _ _ us hl => match us, hl with | [_, _], _ => rfl
  have DKw : Dfn K mg "_law_knots_wide" sKw ["_law_store_here"] := dfn_mk X G a0Kw l0Kw c0Kw k0Kw fun _ _ _ _ _ _ us hl => match us, hl with | [_], _ => rfl
  have DDFracW : Dfn K mg "_law_frac_wide" sDFracW ["_law_store_here"] := dfn_mk X G a0DFracW l0DFracW c0DFracW k0DFracW fun _ _ _ _ _ _ us hl => match us, hl with | [_], _ => rfl
  have DGreat : Dfn K mg "_law_great" sGreat ["_law_store_here"] := dfn_mk X G a0Great l0Great c0Great k0Great fun _ _ _ _ _ _ us hl => match us, hl with | [_], _ => rfl
  have DLInt : Dfn K mg "_law_whole" sLInt ["_law_store_here", "_law_reach"] := dfn_mk X G a0LInt l0LInt c0LInt k0LInt fun _ _ _ _ _ _ us hl => match us, hl with | [_, _], _ => rfl
  have DSame : Dfn K mg "_law_same" sSame ["_law_told", "_law_due"] := dfn_mk X G a0Same l0Same c0Same k0Same fun _ _ _ _ _ _ us hl => match us, hl with | [_, _], _ => rfl
  have DLWhole : Dfn K mg "_law_is_whole" sLWhole ["_law_told"] := dfn_mk X G a0LWhole l0LWhole c0LWhole k0LWhole fun _ _ _ _ _ _ us hl => match us, hl with | [_], _ => rfl
  have DAskT : Dfn K mg "_law_asked_turns" sAskT ["_law_store_here", "_law_knots_here"] := dfn_mk X G a0AskT l0AskT c0AskT k0AskT fun _ _ _ _ _ _ us hl => match us, hl with | [_, _], _ => rfl
  have DLPlus : Dfn K mg "_law_plus" sLPlus ["_law_left", "_law_right"] := dfn_mk X G a0LPlus l0LPlus c0LPlus k0LPlus fun _ _ _ _ _ _ us hl => match us, hl with | [_, _], _ => rfl
  have DDPlaceW : Dfn K mg "_law_place_wide" sDPlaceW ["_law_store_here"] := dfn_mk X G a0DPlaceW l0DPlaceW c0DPlaceW k0DPlaceW fun _ _ _ _ _ _ us hl => match us, hl with | [_], _ => rfl
  have DDPlace : Dfn K mg "_law_place" sDPlace ["_law_store_here"] := dfn_mk X G a0DPlace l0DPlace c0DPlace k0DPlace fun _ _ _ _ _ _ us hl => match us, hl with | [_], _ => rfl
  have DFits : Dfn K mg "_law_fits" sFits ["_law_thing"] := dfn_mk X G a0Fits l0Fits c0Fits k0Fits fun _ _ _ _ _ _ us hl => match us, hl with | [_], _ => rfl
  have DPeriod : Dfn K mg "_period_of" sPeriod ["rate"] := dfn_mk X G a0Period l0Period c0Period k0Period fun _ _ _ _ _ _ us hl => match us, hl with | [_], _ => rfl
  have DMagn : Dfn K mg "magnitude" sMagn ["value"] := dfn_mk X G a0Magn l0Magn c0Magn k0Magn fun _ _ _ _ _ _ us hl => match us, hl with | [_], _ => rfl
  have DOver : Dfn K mg "over" sOver ["left", "right"] := dfn_mk X G a0Over l0Over c0Over k0Over fun _ _ _ _ _ _ us hl => match us, hl with | [_, _], _ => rfl
  have FDFraction : FunD K "fraction" "fraction" (defArgs sFraction) (defBody sFraction) (defScope sFraction) [.int 1] [] f0Fraction _ := ⟨⟨oc0Fraction, od0Fraction, _, kV0Fraction, dc0Fraction, pm0Fraction, an0Fraction, cd0Fraction, ct0Fraction, sl0Fraction, rfl, l0Fraction, c0Fraction, .inr ⟨by simp, t0Fraction, _, [.int 1 tk0Fraction], nT0Fraction, rfl, lT0Fraction, rfl, .cons ⟨tk0Fraction, rfl⟩ .nil⟩, .inl rfl⟩, k0Fraction⟩
  have DFraction : DfnD K mg "fraction" sFraction ["numerator", "denominator"] := by
    obtain ⟨ds, hv, hb⟩ := FDFraction.binds1 (ps := ["numerator", "denominator"]) 2 1 (by simp) rfl fun T kV doc pm an cdv ct us its hu hi => match us, its, hu, hi with
      | [u0, u1], [i1], _, _ => ⟨_, rfl, rfl⟩
    cases hv
    exact ⟨f0Fraction, _, _, FDFraction, PySem.W.mg_of X G a0Fraction, hb⟩
  have DKH : Dfn K mg "_law_knots_hold" sKH ["_law_store_here", "_law_slot", "_law_knots_here"] := dfn_mk X G a0KH l0KH c0KH k0KH fun _ _ _ _ _ _ us hl => match us, hl with | [_, _, _], _ => rfl
  have DGrt : Dfn K mg "greater" sGrt ["left", "right"] := dfn_mk X G a0Grt l0Grt c0Grt k0Grt fun _ _ _ _ _ _ us hl => match us, hl with | [_, _], _ => rfl
  have DPart : Dfn K mg "part_of" sPart ["value"] := dfn_mk X G a0Part l0Part c0Part k0Part fun _ _ _ _ _ _ us hl => match us, hl with | [_], _ => rfl
  have DMinus : Dfn K mg "minus" sMinus ["left", "right"] := dfn_mk X G a0Minus l0Minus c0Minus k0Minus fun _ _ _ _ _ _ us hl => match us, hl with | [_, _], _ => rfl
  have DPlus : Dfn K mg "plus" sPlus ["left", "right"] := dfn_mk X G a0Plus l0Plus c0Plus k0Plus fun _ _ _ _ _ _ us hl => match us, hl with | [_, _], _ => rfl
  have DTimes : Dfn K mg "times" sTimes ["left", "right"] := dfn_mk X G a0Times l0Times c0Times k0Times fun _ _ _ _ _ _ us hl => match us, hl with | [_, _], _ => rfl
  have DSlope : Dfn K mg "_slope" sSlope ["knot", "end"] := dfn_mk X G a0Slope l0Slope c0Slope k0Slope fun _ _ _ _ _ _ us hl => match us, hl with | [_, _], _ => rfl
  have DSh : Dfn K mg "_law_slot_holds" sSh ["_law_store_here", "_law_slot", "_law_knots_here", "_law_asked"] := dfn_mk X G a0Sh l0Sh c0Sh k0Sh fun _ _ _ _ _ _ us hl => match us, hl with | [_, _, _, _], _ => rfl
  have DMost : Dfn K mg "_law_most" sMost ["_law_knots_here"] := dfn_mk X G a0Most l0Most c0Most k0Most fun _ _ _ _ _ _ us hl => match us, hl with | [_], _ => rfl
  have DSgn : Dfn K mg "_law_sign" sSgn ["_law_left", "_law_right"] := dfn_mk X G a0Sgn l0Sgn c0Sgn k0Sgn fun _ _ _ _ _ _ us hl => match us, hl with | [_, _], _ => rfl
  have DLine : Dfn K mg "_law_on_line" sLine ["_law_knots_here", "_law_turns", "_law_told"] := dfn_mk X G a0Line l0Line c0Line k0Line fun _ _ _ _ _ _ us hl => match us, hl with | [_, _, _], _ => rfl
  have DLFrac : Dfn K mg "_law_is_frac" sLFrac ["_law_told"] := dfn_mk X G a0LFrac l0LFrac c0LFrac k0LFrac fun _ _ _ _ _ _ us hl => match us, hl with | [_], _ => rfl
  have DLPart : Dfn K mg "_law_part" sLPart ["_law_value"] := dfn_mk X G a0LPart l0LPart c0LPart k0LPart fun _ _ _ _ _ _ us hl => match us, hl with | [_], _ => rfl
  have DLMinus : Dfn K mg "_law_minus" sLMinus ["_law_left", "_law_right"] := dfn_mk X G a0LMinus l0LMinus c0LMinus k0LMinus fun _ _ _ _ _ _ us hl => match us, hl with | [_, _], _ => rfl
  have DAreX : Dfn K mg "_are_knots" sAreX ["value"] := dfn_mk X G a0AreX l0AreX c0AreX k0AreX fun _ _ _ _ _ _ us hl => match us, hl with | [_], _ => rfl
  have DListA : Dfn K mg "is_list_within" sListA ["value", "least", "most"] := dfn_mk X G a0ListA l0ListA c0ListA k0ListA fun _ _ _ _ _ _ us hl => match us, hl with | [_, _, _], _ => rfl
  have DKnotA : Dfn K mg "_is_knot" sKnotA ["value"] := dfn_mk X G a0KnotA l0KnotA c0KnotA k0KnotA fun _ _ _ _ _ _ us hl => match us, hl with | [_], _ => rfl
  have DTupA : Dfn K mg "is_tuple_of" sTupA ["value", "many"] := dfn_mk X G a0TupA l0TupA c0TupA k0TupA fun _ _ _ _ _ _ us hl => match us, hl with | [_, _], _ => rfl
  have DBadFrac : Dfn K mg "_law_bad_frac" sBadFrac ["_law_store_here"] := dfn_mk X G a0BadFrac l0BadFrac c0BadFrac k0BadFrac fun _ _ _ _ _ _ us hl => match us, hl with | [_], _ => rfl
  have FL := fun_mk (st := sLaw) lL cL kL
  refine ⟨PySem.W.fnOf "law" "law" (defArgs sLaw) (defBody sLaw) (defScope sLaw) .none kVL dcL pmL anL cdvL ctL, fun s v => .of_eq rfl, fun base _ _ P1 TB1 => ?_⟩
  have e := hfa.symm.trans (PySem.W.mg_of X G aL)
  cases e
  have kRequire := k_Require (P := P) (w := w) (base := base) T DRequire
  have kListW := k_ListW (P := P) (w := w) (base := base) T DListW
  have kTupOf := k_TupOf (P := P) (w := w) (base := base) T DTupOf
  have kWhole := k_Whole (P := P) (w := w) (base := base) T DWhole
  have kIsFraction := k_IsFraction (P := P) (w := w) (base := base) T DIsFraction kWhole
  have kIsPlace := k_IsPlace (P := P) (w := w) (base := base) T DIsPlace kIsFraction
  have kKnot := k_Knot (P := P) (w := w) (base := base) T DKnot kTupOf kIsPlace kIsFraction
  have kCompare := k_Compare (P := P) (w := w) (base := base) T DCompare kRequire kIsFraction
  have kAre := k_Are (P := P) (w := w) (base := base) C0 (PySem.W.mg_of X G g_MOST_KNOTS) (PySem.W.mg_none_of X G z_all) (PySem.W.mg_none_of X G z_zip) T DAre kListW kKnot kCompare
  have mIN : C8.Mak P w K mg base 6 "Slot" SL (spSlInit K SL) [] := ⟨fIN, _, _, [], YM, ok_SlInit T Y kRequire kAre FIN, Y.g, bIN, .nil⟩
  have kEven := k_Even (P := P) (w := w) (base := base) C0 mIN T DEven
  have kStore := k_Store (P := P) (w := w) (base := base) T DStore
  have kMixed := k_Mixed (P := P) (w := w) (base := base) T DMixed
  have kTake := k_Take (P := P) (w := w) (base := base) T DTake kMixed
  have kSize := k_Size (P := P) (w := w) (base := base) T DSize kTake
  have kRange := k_Range (P := P) (w := w) (base := base) T DRange kTake
  have kPick := k_Pick (P := P) (w := w) (base := base) T DPick kTake
  have kGcd := k_Gcd (P := P) (w := w) (base := base) T DGcd
  have kLowest := k_Lowest (P := P) (w := w) (base := base) T DLowest kGcd
  have kDFrac := k_DFrac (P := P) (w := w) (base := base) T DDFrac kTake kLowest
  have kLTimes := k_LTimes (P := P) (w := w) (base := base) T DLTimes kLowest
  have kKn := k_Kn (P := P) (w := w) (base := base) T DKn kTake kSize kRange kPick kLowest kDFrac kLTimes
  have kGreat := k_Great (P := P) (w := w) (base := base) T DGreat kTake
  have kLInt := k_LInt (P := P) (w := w) (base := base) T DLInt kTake
  have kDFracW := k_DFracW (P := P) (w := w) (base := base) T DDFracW kTake kLowest kGreat kLInt kDFrac
  have kKw := k_Kw (P := P) (w := w) (base := base) T DKw kDFracW kKn
  have kLWhole := k_LWhole (P := P) (w := w) (base := base) T DLWhole
  have kSame4 := k_same (P := P) (w := w) (base := base) T DSame kLWhole 4
  have kLPlus := k_LPlus (P := P) (w := w) (base := base) T DLPlus kLowest
  have kDPlace := k_DPlace (P := P) (w := w) (base := base) T DDPlace kTake kLowest
  have kDPlaceW := k_DPlaceW (P := P) (w := w) (base := base) T DDPlaceW kTake kLowest kDPlace kGreat
  have kFits0 : Kn P w K mg base 0 "_law_fits" ["_law_thing"] (spFits K 0) := Kn.none DFits
  have kFits1 := k_Fits 0 T DFits kFits0
  have kFits2 := k_Fits 1 T DFits kFits1
  have kAskT := k_AskT (P := P) (w := w) (base := base) T DAskT kDFracW kLInt kLPlus kDPlaceW kFits2
  have oQ : EqK P w K mg base SL := ⟨⟨fEQ, _, _, y1EQ, y2EQ, My.FnOk.or (ok_SlEq (P := P) (w := w) (base := base) T Y yI FEQ) (ok_SlEqN (P := P) (w := w) (base := base) T Y FEQ), bEQ⟩, ypo, yne⟩
  have mKN : PropK P w K mg base 1 SL "knots" (spKnots K SL) := ⟨pKN, fKN, _, yC, ⟨p1, p2, p3, _, p4⟩, ok_SlKnots T Y FKN, bKN⟩
  have kMagn := k_Magn (P := P) (w := w) (base := base) T DMagn kRequire kIsFraction
  have kFraction := k_Fraction (P := P) (w := w) (base := base) T DFraction kRequire kWhole
  have kOver := k_Over (P := P) (w := w) (base := base) T DOver kRequire kIsFraction kFraction
  have kPeriod := k_Period (P := P) (w := w) (base := base) C0 T DPeriod kMagn kOver
  have mkC : C8.Mak P w K mg base 5 "Cycle" CY (spCyInit K CY) [.ref zi] := ⟨fWI, _, _, dsY1, WM, ok_CyInit T W kRequire kIsFraction kIsPlace kPeriod FWI, W.g, bY1, vY1⟩
  have kKH := k_KH (P := P) (w := w) (base := base) Y yI wI KD ozi oQ mKN mIN mkC T DKH kSame4 kTake kPick kLTimes kLPlus
  have kGrt := k_Grt (P := P) (w := w) (base := base) T DGrt kCompare
  have mSW : C8.Met P w K mg base 5 SL "sway" (spSway K SL) [] := ⟨fSW, _, _, [], yC, MSW, ok_SlSway T Y C0 kGrt kMagn FSW, bSW, .nil⟩
  have mPC : C8.Met P w K mg base 1 SL "_pieces" (spPieces K SL) [] := ⟨fPC, _, _, [], yC, MPC, ok_SlPcs T Y C0 (PySem.W.mg_none_of X G z_zip) FPC, bPC, .nil⟩
  have kPart := k_Part (P := P) (w := w) (base := base) T DPart kRequire kIsFraction
  have kMinus := k_Minus (P := P) (w := w) (base := base) T DMinus kRequire kIsFraction kFraction
  have kPlus := k_Plus (P := P) (w := w) (base := base) T DPlus kRequire kIsFraction kFraction
  have kTimes := k_Times (P := P) (w := w) (base := base) T DTimes kRequire kIsFraction kFraction
  have kSlope := k_Slope (P := P) (w := w) (base := base) C0 T DSlope kMinus kOver kPlus
  have mCR : C8.Met P w K mg base 5 SL "carried" (spCarried K SL) [] := ⟨fCR, _, _, [], yC, MCR, ok_SlCar T Y mPC kRequire kIsFraction kPart kCompare kMinus kPlus kTimes kSlope FCR, bCR, .nil⟩
  have kSame3 := k_same (P := P) (w := w) (base := base) T DSame kLWhole 3
  have kSgn := k_Sgn (P := P) (w := w) (base := base) T DSgn
  have kMost := k_Most (P := P) (w := w) (base := base) T DMost kSgn
  have kLFrac := k_LFrac (P := P) (w := w) (base := base) T DLFrac kLWhole kGcd
  have kLPart := k_LPart (P := P) (w := w) (base := base) T DLPart kLowest
  have kLMinus := k_LMinus (P := P) (w := w) (base := base) T DLMinus kLowest
  have kLine := k_Line (P := P) (w := w) (base := base) T DLine kLFrac kLPart kLMinus kSgn kLTimes
  have kSh := k_Sh (P := P) (w := w) (base := base) mSW mCR T DSh kSame3 kMost kLine kLMinus kSgn kLInt kLPlus kFits2
  have kxRequire := kx_Require (P := P) (w := w) (base := base) B DRequire
  have kListA := k_ListA (P := P) (w := w) (base := base) T DListA
  have kTupA := k_TupA (P := P) (w := w) (base := base) T DTupA
  have kKnotA := k_KnotA (P := P) (w := w) (base := base) T DKnotA kTupA kIsPlace kIsFraction
  have kAreX := k_AreX (P := P) (w := w) (base := base) C0 (PySem.W.mg_of X G g_MOST_KNOTS) (PySem.W.mg_none_of X G z_all) (PySem.W.mg_none_of X G z_zip) T DAreX kListA kKnotA kCompare
  have mkX : MakX P w K mg base 6 "Slot" SL (spSlInitX K C) [] := ⟨fIN, _, _, [], YM, kx_SlInit kxRequire kAreX FIN, Y.g, bIN, .nil⟩
  have mtX : MetX P w K mg base 5 SL "carried" (spBadM K C "turns") := ⟨fCR, _, _, yC, MCR, kx_SlCar kxRequire kIsFraction FCR, bCR⟩
  have kBadFrac := k_BadFrac (P := P) (w := w) (base := base) T DBadFrac kTake kDFrac kPick
  have kR1 : Kn P w K mg base 10 "_law_refused" ["_law_store_here", "_law_slot", "_law_knots_here"] (spRefd K SL P1) := ⟨f_R1, _, PySem.W.mg_of X G a_R1, k_R1, b_R1, ok_Refd T B AT AS l_R1 cd_R1 TB1 mkX mtX kTake kPick kBadFrac kLowest kSame4⟩
  exact ok_law FL T mIN kEven kStore kKn kKw kPick kSame4 kAskT kKH kSh kR1
end My

namespace My
open PySem PySem.Spec PyProof.Rows L2
/-- the end as the head asks for it -/
theorem law_at {l : PySem.W.OpenLaw} {w : World} {K : PySem.W.Frag} {h : Heap} {mg : Str → Option Value} {fa c1 P1 : Addr} (hT1 : h.get? P1 = some { cls := .none, data := .fields #[] }) (nP1 : K.lookup P1 = none)
    (C1 : PySem.W.CodeHd h c1 P1) 
    (R : ∃ fd : FuncData, (∀ (s : Shared) (v : Value), BindsTo s fd ⟨[v], []⟩ [("_law_script", v)]) ∧ ∀ base : Heap, K.In base → base.Ns mainGlobals mg → ∀ P1 : Addr, LamX.TabB base mg c1 P1 → FnOk l.prog w K mg base CX0 11 fa fd ["_law_script"] (spLaw K P1)) :
    LamX.LawAtS l w K CX0 11 63 "_law_script" mg fa h := by
  obtain ⟨fd, hb, F⟩ := R
  have m1 : (c1, P1) ∈ [(c1, P1)] := List.mem_cons_self ..
  have all : ∀ {p : Addr × Addr} {q : Addr × Addr → Prop}, q (c1, P1) → p ∈ [(c1, P1)] → q p := fun {p q} h1 hp => by
    simp only [List.mem_cons, List.not_mem_nil, or_false] at hp
    rcases hp with rfl
    exact h1
  refine ⟨fd, [(c1, P1)], spLaw K P1, fun p hp => all (q := fun p => h.get? p.2 = _) hT1 hp, fun p hp => all (q := fun p => K.lookup p.2 = none) nP1 hp, fun p hp => all (q := fun p => PySem.W.CodeHd h p.1 p.2) C1 hp, hb, fun H a ns hl hbits hH hS => ?_, fun base X G TB => F base X G P1 (TB _ m1) ⟩
  exact ⟨a, ns, rfl, hS, hH _ m1, fun _ => rfl⟩
theorem walk_mk {l : PySem.W.OpenLaw} {q : Program} {loose : List Str} {XP : (Str → Option Value) → Heap → Prop} {YP : World → Heap → Prop} {d : DefRec} {K : Params → PySem.W.Frag} (hn : l.most = some 63) (hdf : d.params.defaults = [])
    (hY : ∀ (w : World) (h : Heap), YP w h → (K w.params).In h)
    (F : ∀ (w : World) (mg : Str → Option Value) (fa : Addr) (h : Heap), YP w h → (K w.params).In h → h.Ns mainGlobals mg → mg d.name = some (.ref fa) → LamX.LawAtS l w (K w.params) CX0 11 63 "_law_script" mg fa h) :
    PySem.W.WalkO q loose XP YP l.row.toRowW d [] (fun f vs => PySem.call f vs) :=
  LamX.walk_ofTs (CX := fun _ => CX0) hn (by decide) hdf ⟨rfl, by decide, by decide⟩ hY F fun _ _ _ _ _ z => z
end My
open PySem PySem.W PyProof.Rows
set_option maxRecDepth 100000 in
set_option maxHeartbeats 0 in
theorem PySem.Challenge.cw_wheelsky_k40_slot_carries_holds : PySem.Challenge.rw_wheelsky_k40_slot_carries.Holds := by
  w_on; o_law; k_head; (case hw => w_witness2)
  k_fill
  refine My.walk_mk (l := PySem.Challenge.rw_wheelsky_k40_slot_carries) rfl rfl (fun w h Y => km_in_of Y) ?F
  case F =>
    intro w mg fa h Y KX G hmg
    refine' My.law_at (km_tabs_of Y _ (List.mem_cons_self ..)) ?nP1 ?cH1  (My.all_mk KX G hmg ?z_int ?z_len ?z_list ?z_abs ?z_range ?z_min ?z_max ?z_isinstance ?z_bool ?z_str ?z_dict ?z_tuple ?z_gcd ?z_VE ?aC ?aS ?xL ?hbm ?sa ?ga ?gg ?gc ?nw ?aI ?tI ?lI ?cI ?kI ?kC ?eC ?tC ?hC ?mC ?vC ?spc ?tkc ?eS ?hS ?tS ?cS ?a_Mismatch ?t_Mismatch ?h_Mismatch ?s_Mismatch ?n_Mismatch ?a_Still ?t_Still ?h_Still ?s_Still ?n_Still ?a_Endless ?t_Endless ?h_Endless ?s_Endless ?n_Endless ?a_TooMany ?t_TooMany ?h_TooMany ?s_TooMany ?n_TooMany ?a_NoName ?t_NoName ?h_NoName ?s_NoName ?n_NoName ?a_Taken ?t_Taken ?h_Taken ?s_Taken ?n_Taken ?a_Locked ?t_Locked ?h_Locked ?s_Locked ?n_Locked ?a_Looped ?t_Looped ?h_Looped ?s_Looped ?n_Looped ?a_Broken ?t_Broken ?h_Broken ?s_Broken ?n_Broken ?a_ReadError ?t_ReadError ?h_ReadError ?s_ReadError ?n_ReadError ?a_A ?l_A ?c_A ?k_A ?a_R1 ?l_R1 ?cd_R1 ?k_R1 ?aL ?lL ?cL ?kL ?aZ ?o_Z ?aO ?o_O ?aSL ?ypg ?yhd ?ypo ?ysa ?yn__knots ?ymk ?ykp ?yca ?yro ?aCY ?wpg ?whd ?wpo ?wsa ?wn_rate ?wn_start ?wn_period ?wmk ?wkp ?wca ?wro ?y1IN ?y2IN ?lIN ?cIN ?kIN ?p1 ?p2 ?p3 ?p4 ?lKN ?cKN ?kKN ?y1PC ?y2PC ?lPC ?cPC ?kPC ?y1SW ?y2SW ?lSW ?cSW ?kSW ?y1CR ?y2CR ?lCR ?cCR ?kCR ?y1EQ ?y2EQ ?lEQ ?cEQ ?kEQ ?yne ?yty ?ks_NoneType ?ks_bool ?ks_int ?ks_str ?ks_tuple ?ks_list ?ks_dict ?ks_cy ?n_cy ?w1 ?w2 ?lWI ?cWI ?kWI ?lTY ?o_I ?a0Require ?l0Require ?c0Require ?k0Require ?g_MOST_KNOTS ?z_all ?z_zip ?a0Are ?l0Are ?c0Are ?k0Are ?a0ListW ?l0ListW ?c0ListW ?k0ListW ?a0Knot ?l0Knot ?c0Knot ?k0Knot ?a0TupOf ?l0TupOf ?c0TupOf ?k0TupOf ?a0IsPlace ?l0IsPlace ?c0IsPlace ?k0IsPlace ?a0IsFraction ?l0IsFraction ?c0IsFraction ?k0IsFraction ?a0Whole ?l0Whole ?c0Whole ?k0Whole ?a0Compare ?l0Compare ?c0Compare ?k0Compare ?a0Even ?l0Even ?c0Even ?k0Even ?a0Store ?l0Store ?c0Store ?k0Store ?a0Kn ?l0Kn ?c0Kn ?k0Kn ?a0Take ?l0Take ?c0Take ?k0Take ?a0Mixed ?l0Mixed ?c0Mixed ?k0Mixed ?a0Size ?l0Size ?c0Size ?k0Size ?a0Range ?l0Range ?c0Range ?k0Range ?a0Pick ?l0Pick ?c0Pick ?k0Pick ?a0Lowest ?l0Lowest ?c0Lowest ?k0Lowest ?a0Gcd ?l0Gcd ?c0Gcd ?k0Gcd ?a0DFrac ?l0DFrac ?c0DFrac ?k0DFrac ?a0LTimes ?l0LTimes ?c0LTimes ?k0LTimes ?a0Kw ?l0Kw ?c0Kw ?k0Kw ?a0DFracW ?l0DFracW ?c0DFracW ?k0DFracW ?a0Great ?l0Great ?c0Great ?k0Great ?a0LInt ?l0LInt ?c0LInt ?k0LInt ?a0Same ?l0Same ?c0Same ?k0Same ?a0LWhole ?l0LWhole ?c0LWhole ?k0LWhole ?a0AskT ?l0AskT ?c0AskT ?k0AskT ?a0LPlus ?l0LPlus ?c0LPlus ?k0LPlus ?a0DPlaceW ?l0DPlaceW ?c0DPlaceW ?k0DPlaceW ?a0DPlace ?l0DPlace ?c0DPlace ?k0DPlace ?a0Fits ?l0Fits ?c0Fits ?k0Fits ?a0Period ?l0Period ?c0Period ?k0Period ?a0Magn ?l0Magn ?c0Magn ?k0Magn ?a0Over ?l0Over ?c0Over ?k0Over ?a0Fraction ?l0Fraction ?c0Fraction ?k0Fraction ?lT0Fraction ?a0KH ?l0KH ?c0KH ?k0KH ?a0Grt ?l0Grt ?c0Grt ?k0Grt ?a0Part ?l0Part ?c0Part ?k0Part ?a0Minus ?l0Minus ?c0Minus ?k0Minus ?a0Plus ?l0Plus ?c0Plus ?k0Plus ?a0Times ?l0Times ?c0Times ?k0Times ?a0Slope ?l0Slope ?c0Slope ?k0Slope ?a0Sh ?l0Sh ?c0Sh ?k0Sh ?a0Most ?l0Most ?c0Most ?k0Most ?a0Sgn ?l0Sgn ?c0Sgn ?k0Sgn ?a0Line ?l0Line ?c0Line ?k0Line ?a0LFrac ?l0LFrac ?c0LFrac ?k0LFrac ?a0LPart ?l0LPart ?c0LPart ?k0LPart ?a0LMinus ?l0LMinus ?c0LMinus ?k0LMinus ?a0AreX ?l0AreX ?c0AreX ?k0AreX ?a0ListA ?l0ListA ?c0ListA ?k0ListA ?a0KnotA ?l0KnotA ?c0KnotA ?k0KnotA ?a0TupA ?l0TupA ?c0TupA ?k0TupA ?a0BadFrac ?l0BadFrac ?c0BadFrac ?k0BadFrac)
    (case z_int => k_is); (case z_len => k_is); (case z_list => k_is); (case z_abs => k_is); (case z_range => k_is); (case z_min => k_is); (case z_max => k_is); (case z_isinstance => k_is)
    (case z_bool => k_is); (case z_str => k_is); (case z_dict => k_is); (case z_tuple => k_is); (case z_gcd => k_is); (case z_VE => k_is); (case aC => k_is); (case aS => k_is)
    (case xL => k_is); (case hbm => decide +kernel); (case sa => k_is); (case ga => k_is); (case gg => k_is); (case gc => k_is); (case nw => k_is); (case aI => k_is)
    (case tI => k_is); (case lI => k_is); (case cI => k_is); (case kI => k_is); (case kC => k_is); (case eC => k_is); (case tC => k_is); (case hC => k_is)
    (case mC => k_is); (case vC => k_is); (case spc => k_is); (case tkc => k_is); (case eS => k_is); (case hS => k_is); (case tS => k_is); (case cS => k_is)
    (case a_Mismatch => k_is); (case t_Mismatch => k_is); (case h_Mismatch => k_is); (case s_Mismatch => k_is); (case n_Mismatch => decide +kernel); (case a_Still => k_is); (case t_Still => k_is); (case h_Still => k_is)
    (case s_Still => k_is); (case n_Still => decide +kernel); (case a_Endless => k_is); (case t_Endless => k_is); (case h_Endless => k_is); (case s_Endless => k_is); (case n_Endless => decide +kernel); (case a_TooMany => k_is)
    (case t_TooMany => k_is); (case h_TooMany => k_is); (case s_TooMany => k_is); (case n_TooMany => decide +kernel); (case a_NoName => k_is); (case t_NoName => k_is); (case h_NoName => k_is); (case s_NoName => k_is)
    (case n_NoName => decide +kernel); (case a_Taken => k_is); (case t_Taken => k_is); (case h_Taken => k_is); (case s_Taken => k_is); (case n_Taken => decide +kernel); (case a_Locked => k_is); (case t_Locked => k_is)
    (case h_Locked => k_is); (case s_Locked => k_is); (case n_Locked => decide +kernel); (case a_Looped => k_is); (case t_Looped => k_is); (case h_Looped => k_is); (case s_Looped => k_is); (case n_Looped => decide +kernel)
    (case a_Broken => k_is); (case t_Broken => k_is); (case h_Broken => k_is); (case s_Broken => k_is); (case n_Broken => decide +kernel); (case a_ReadError => k_is); (case t_ReadError => k_is); (case h_ReadError => k_is)
    (case s_ReadError => k_is); (case n_ReadError => decide +kernel); (case a_A => k_is); (case l_A => k_is); (case c_A => k_is); (case k_A => k_is); (case a_R1 => k_is); (case l_R1 => k_is)
    (case cd_R1 => k_is); (case k_R1 => k_is); (case aL => k_is); (case lL => k_is); (case cL => k_is); (case kL => k_is); (case aZ => k_is); (case o_Z => k_is)
    (case aO => k_is); (case o_O => k_is); (case aSL => k_is); (case ypg => k_is); (case yhd => k_is); (case ypo => k_is); (case ysa => k_is); (case yn__knots => k_is)
    (case ymk => k_is); (case ykp => k_is); (case yca => k_is); (case yro => k_is); (case aCY => k_is); (case wpg => k_is); (case whd => k_is); (case wpo => k_is)
    (case wsa => k_is); (case wn_rate => k_is); (case wn_start => k_is); (case wn_period => k_is); (case wmk => k_is); (case wkp => k_is); (case wca => k_is); (case wro => k_is)
    (case y1IN => k_is); (case y2IN => k_is); (case lIN => k_is); (case cIN => k_is); (case kIN => k_is); (case p1 => k_is); (case p2 => k_is); (case p3 => k_is)
    (case p4 => k_is); (case lKN => k_is); (case cKN => k_is); (case kKN => k_is); (case y1PC => k_is); (case y2PC => k_is); (case lPC => k_is); (case cPC => k_is)
    (case kPC => k_is); (case y1SW => k_is); (case y2SW => k_is); (case lSW => k_is); (case cSW => k_is); (case kSW => k_is); (case y1CR => k_is); (case y2CR => k_is)
    (case lCR => k_is); (case cCR => k_is); (case kCR => k_is); (case y1EQ => k_is); (case y2EQ => k_is); (case lEQ => k_is); (case cEQ => k_is); (case kEQ => k_is)
    (case yne => k_is); (case yty => k_is); (case ks_NoneType => k_is); (case ks_bool => k_is); (case ks_int => k_is); (case ks_str => k_is); (case ks_tuple => k_is); (case ks_list => k_is)
    (case ks_dict => k_is); (case ks_cy => k_is); (case n_cy => decide +kernel); (case w1 => k_is); (case w2 => k_is); (case lWI => k_is); (case cWI => k_is); (case kWI => k_is)
    (case lTY => k_is); (case o_I => k_is); (case a0Require => k_is); (case l0Require => k_is); (case c0Require => k_is); (case k0Require => k_is); (case g_MOST_KNOTS => k_is); (case z_all => k_is)
    (case z_zip => k_is); (case a0Are => k_is); (case l0Are => k_is); (case c0Are => k_is); (case k0Are => k_is); (case a0ListW => k_is); (case l0ListW => k_is); (case c0ListW => k_is)
    (case k0ListW => k_is); (case a0Knot => k_is); (case l0Knot => k_is); (case c0Knot => k_is); (case k0Knot => k_is); (case a0TupOf => k_is); (case l0TupOf => k_is); (case c0TupOf => k_is)
    (case k0TupOf => k_is); (case a0IsPlace => k_is); (case l0IsPlace => k_is); (case c0IsPlace => k_is); (case k0IsPlace => k_is); (case a0IsFraction => k_is); (case l0IsFraction => k_is); (case c0IsFraction => k_is)
    (case k0IsFraction => k_is); (case a0Whole => k_is); (case l0Whole => k_is); (case c0Whole => k_is); (case k0Whole => k_is); (case a0Compare => k_is); (case l0Compare => k_is); (case c0Compare => k_is)
    (case k0Compare => k_is); (case a0Even => k_is); (case l0Even => k_is); (case c0Even => k_is); (case k0Even => k_is); (case a0Store => k_is); (case l0Store => k_is); (case c0Store => k_is)
    (case k0Store => k_is); (case a0Kn => k_is); (case l0Kn => k_is); (case c0Kn => k_is); (case k0Kn => k_is); (case a0Take => k_is); (case l0Take => k_is); (case c0Take => k_is)
    (case k0Take => k_is); (case a0Mixed => k_is); (case l0Mixed => k_is); (case c0Mixed => k_is); (case k0Mixed => k_is); (case a0Size => k_is); (case l0Size => k_is); (case c0Size => k_is)
    (case k0Size => k_is); (case a0Range => k_is); (case l0Range => k_is); (case c0Range => k_is); (case k0Range => k_is); (case a0Pick => k_is); (case l0Pick => k_is); (case c0Pick => k_is)
    (case k0Pick => k_is); (case a0Lowest => k_is); (case l0Lowest => k_is); (case c0Lowest => k_is); (case k0Lowest => k_is); (case a0Gcd => k_is); (case l0Gcd => k_is); (case c0Gcd => k_is)
    (case k0Gcd => k_is); (case a0DFrac => k_is); (case l0DFrac => k_is); (case c0DFrac => k_is); (case k0DFrac => k_is); (case a0LTimes => k_is); (case l0LTimes => k_is); (case c0LTimes => k_is)
    (case k0LTimes => k_is); (case a0Kw => k_is); (case l0Kw => k_is); (case c0Kw => k_is); (case k0Kw => k_is); (case a0DFracW => k_is); (case l0DFracW => k_is); (case c0DFracW => k_is)
    (case k0DFracW => k_is); (case a0Great => k_is); (case l0Great => k_is); (case c0Great => k_is); (case k0Great => k_is); (case a0LInt => k_is); (case l0LInt => k_is); (case c0LInt => k_is)
    (case k0LInt => k_is); (case a0Same => k_is); (case l0Same => k_is); (case c0Same => k_is); (case k0Same => k_is); (case a0LWhole => k_is); (case l0LWhole => k_is); (case c0LWhole => k_is)
    (case k0LWhole => k_is); (case a0AskT => k_is); (case l0AskT => k_is); (case c0AskT => k_is); (case k0AskT => k_is); (case a0LPlus => k_is); (case l0LPlus => k_is); (case c0LPlus => k_is)
    (case k0LPlus => k_is); (case a0DPlaceW => k_is); (case l0DPlaceW => k_is); (case c0DPlaceW => k_is); (case k0DPlaceW => k_is); (case a0DPlace => k_is); (case l0DPlace => k_is); (case c0DPlace => k_is)
    (case k0DPlace => k_is); (case a0Fits => k_is); (case l0Fits => k_is); (case c0Fits => k_is); (case k0Fits => k_is); (case a0Period => k_is); (case l0Period => k_is); (case c0Period => k_is)
    (case k0Period => k_is); (case a0Magn => k_is); (case l0Magn => k_is); (case c0Magn => k_is); (case k0Magn => k_is); (case a0Over => k_is); (case l0Over => k_is); (case c0Over => k_is)
    (case k0Over => k_is); (case a0Fraction => k_is); (case l0Fraction => k_is); (case c0Fraction => k_is); (case k0Fraction => k_is); (case lT0Fraction => k_is); (case a0KH => k_is); (case l0KH => k_is)
    (case c0KH => k_is); (case k0KH => k_is); (case a0Grt => k_is); (case l0Grt => k_is); (case c0Grt => k_is); (case k0Grt => k_is); (case a0Part => k_is); (case l0Part => k_is)
    (case c0Part => k_is); (case k0Part => k_is); (case a0Minus => k_is); (case l0Minus => k_is); (case c0Minus => k_is); (case k0Minus => k_is); (case a0Plus => k_is); (case l0Plus => k_is)
    (case c0Plus => k_is); (case k0Plus => k_is); (case a0Times => k_is); (case l0Times => k_is); (case c0Times => k_is); (case k0Times => k_is); (case a0Slope => k_is); (case l0Slope => k_is)
    (case c0Slope => k_is); (case k0Slope => k_is); (case a0Sh => k_is); (case l0Sh => k_is); (case c0Sh => k_is); (case k0Sh => k_is); (case a0Most => k_is); (case l0Most => k_is)
    (case c0Most => k_is); (case k0Most => k_is); (case a0Sgn => k_is); (case l0Sgn => k_is); (case c0Sgn => k_is); (case k0Sgn => k_is); (case a0Line => k_is); (case l0Line => k_is)
    (case c0Line => k_is); (case k0Line => k_is); (case a0LFrac => k_is); (case l0LFrac => k_is); (case c0LFrac => k_is); (case k0LFrac => k_is); (case a0LPart => k_is); (case l0LPart => k_is)
    (case c0LPart => k_is); (case k0LPart => k_is); (case a0LMinus => k_is); (case l0LMinus => k_is); (case c0LMinus => k_is); (case k0LMinus => k_is); (case a0AreX => k_is); (case l0AreX => k_is)
    (case c0AreX => k_is); (case k0AreX => k_is); (case a0ListA => k_is); (case l0ListA => k_is); (case c0ListA => k_is); (case k0ListA => k_is); (case a0KnotA => k_is); (case l0KnotA => k_is)
    (case c0KnotA => k_is); (case k0KnotA => k_is); (case a0TupA => k_is); (case l0TupA => k_is); (case c0TupA => k_is); (case k0TupA => k_is); (case a0BadFrac => k_is); (case l0BadFrac => k_is)
    (case c0BadFrac => k_is); (case k0BadFrac => k_is)
    (case cH1 => exact codeHd_of_K KX (by kernel_rfl))
    (case nP1 => kernel_rfl)
