import PyProof.Rows.All
import Wide.All
import OpenK.AllK
import Wide.FinOn
import HandS.ForMost
import HandS.Exc
import HandS.Codes
import HandS.Wide
import HandS.WideBits
import HandS.Gcd
import HandS.IsInst
import HandS.Defaults
import HandS.Conv
import HandS.Sort
import HandS.List
import KE.KDictList
import HandS.Zip
import KE.KDictZip
import HandS.ClsMeth
import HandS.Iter
import HandS.Comp
import HandS.TupAny
import HandS.Property
import HandS.More
import HandS.EndTab
import PySem.Challenge.RW_wheelsky_k41_slot_slopes
set_option Elab.async false
set_option linter.all false
set_option maxRecDepth 100000
set_option maxHeartbeats 4000000
namespace My
open PySem PySem.Spec PyProof.Rows L2
def topS (i : Nat) : Stmt := PySem.Challenge.pw_wheelsky_k41_slot_slopes.main.body.getD i (.Pass ⟨0, 0, 0, 0⟩)
/-! ### a def of the top, and what it is known to keep -/
structure Dfn (K : PySem.W.Frag) (mg : Str → Option Value) (x : Str) (st : Stmt) (ps : List Str) : Prop where
  ex : ∃ f fd, Fun K x x st f fd ∧ mg x = some (.ref f) ∧ Binds K fd ps []
structure Kn (P : Program) (w : World) (K : PySem.W.Frag) (mg : Str → Option Value) (base : Heap) (k : Nat) (x : Str) (ps : List Str) (sp : Sp) : Prop where
  ex : ∃ f fd, mg x = some (.ref f) ∧ PySem.W.keepIn K (.ref f) = true ∧ Binds K fd ps [] ∧ FnOk P w K mg base CX0 k f fd ps sp
theorem Kn.mk' {P : Program} {w : World} {K : PySem.W.Frag} {mg : Str → Option Value} {base : Heap} {x : Str} {st : Stmt} {N ps : List Str} {k : Nat} {sp : Sp} (D : Dfn K mg x st ps) (S : FnScope N ps (defScope st)) (len : ∀ vs H Q E, sp vs H Q E → vs.length = ps.length)
    (hbody : ∀ (f : Addr) (cdv : Value) (A : Around) (outer : List Env) (s : Shared) (H : Hp) (vs : List V) (Q : VK) (E : XK), Room k (A.deeper (envOfC x (defScope st) s.heap.objs.size f cdv)) → sp vs H Q E →
      ∃ t, PSs (cxOf CX0 P w K mg base N x (defScope st) f cdv A outer s H E).nox (defBody st) t ∧ t { nx := fun _ H' => Q .non H', rt := Q } (start N vs) H) : Kn P w K mg base (k + 1) x ps sp := by
  obtain ⟨f, fd, F, m, b⟩ := D.ex
  exact ⟨f, fd, m, F.kp, b, F.ok S len (hbody f)⟩
section
variable {X : Cx}
theorem pe_kn {j k : Nat} {x : Str} {ps : List Str} {sp : Sp} {p pos : Pos} {e : Expr} {es : List Expr} {t : TA} (F : Kn X.prog X.w X.K X.mg X.base k x ps sp) (hr : Room j X.A) (hg : Gl X x) (ha : PA X (e :: es) t) (hj : k ≤ j := by omega)
    (hdb : (x == ("__debug__" : Str)) = false := by decide) (he : starEach (e :: es) X.env = (false, eval e X.env) :: starEach es X.env := by rfl) (hpl : (backTo pos (starEach es X.env)).any (·.1) = false := by rfl) :
    PE X (.Call (.Name x p) (e :: es) [] pos) (tCall sp [] E0 t) := by
  obtain ⟨f, fd, m, kp, b, G⟩ := F.ex
  exact pe_call G (hr.mono hj) hg m kp b .nil pass0 ha hdb he hpl
end
/-! ### heaps -/
/-- all but s stands -/
def Kp (s : Addr) (H H' : Hp) : Prop := (∀ b o, b ≠ s → H b = some o → H' b = some o) ∧ ∀ x r, H s = some (.lst (x :: r)) → ∃ r', H' s = some (.lst (x :: r'))
instance {s : Addr} {H H' : Hp} : CoeFun (Kp s H H') (fun _ => ∀ b o, b ≠ s → H b = some o → H' b = some o) := ⟨fun h => h.1⟩
theorem Kp.refl (s : Addr) (H : Hp) : Kp s H H := ⟨fun _ _ _ e => e, fun _ r e => ⟨r, e⟩⟩
theorem Kp.trans {s : Addr} {H H1 H2 : Hp} (a : Kp s H H1) (b : Kp s H1 H2) : Kp s H H2 := ⟨fun c o n e => b.1 c o n (a.1 c o n e), fun x r e => by
  obtain ⟨r', e'⟩ := a.2 x r e
  exact b.2 x r' e'⟩
theorem Kp.same {s : Addr} {H H1 : Hp} (a : Same H H1) : Kp s H H1 := ⟨fun b o _ e => a b o e, fun x r e => ⟨r, a _ _ e⟩⟩
theorem Same.new {H : Hp} {p : Addr} (h : H p = none) (o : HO) : Same H (upd H p o) := fun b u q => by rw [upd_ne (ne_of_none q h)]; exact q
theorem Kp.put {s : Addr} {H : Hp} {x : V} {r r' : List V} (h : H s = some (.lst (x :: r))) : Kp s H (upd H s (.lst (x :: r'))) := ⟨fun b u n e => by rw [upd_ne n]; exact e, fun y q e => by
  rw [h] at e
  cases e
  exact ⟨r', upd_same⟩⟩
/-- the store of the draws at s -/
def Sr (K : PySem.W.Frag) (H : Hp) (s : Addr) (sc : Addr) (ns : List Int) (i b c d e f : Int) : Prop :=
  H s = some (.lst [.ref sc, .int i, .int b, .int c, .int d, .int e, .int f]) ∧ H sc = some (.lst (ns.map V.int)) ∧ s ≠ sc ∧ 0 ≤ i ∧ K.lookup s = none ∧ K.lookup sc = none
def Sto (K : PySem.W.Frag) (H : Hp) (s : Addr) : Prop := ∃ sc ns i b c d e f, Sr K H s sc ns i b c d e f
theorem Sr.same {K : PySem.W.Frag} {H H1 : Hp} {s sc : Addr} {ns : List Int} {i b c d e f : Int} (h : Sr K H s sc ns i b c d e f) (a : Same H H1) : Sr K H1 s sc ns i b c d e f := ⟨a _ _ h.1, a _ _ h.2.1, h.2.2⟩
theorem Sto.same {K : PySem.W.Frag} {H H1 : Hp} {s : Addr} (h : Sto K H s) (a : Same H H1) : Sto K H1 s := by
  obtain ⟨sc, ns, i, b, c, d, e, f, h⟩ := h
  exact ⟨sc, ns, i, b, c, d, e, f, h.same a⟩
theorem Sr.put {K : PySem.W.Frag} {H : Hp} {s sc : Addr} {ns : List Int} {i b c d e f i' b' c' d' e' f' : Int} (h : Sr K H s sc ns i b c d e f) (hi : 0 ≤ i') :
    Sr K (upd H s (.lst [.ref sc, .int i', .int b', .int c', .int d', .int e', .int f'])) s sc ns i' b' c' d' e' f' :=
  ⟨upd_same, by rw [upd_ne (Ne.symm h.2.2.1)]; exact h.2.1, h.2.2.1, hi, h.2.2.2.2⟩
theorem Kp.seqT {s : Addr} {K : PySem.W.Frag} {H H' : Hp} {a : Addr} {xs ys : List V} (e : Kp s H H') (hs : H s = some (.lst ys)) (h : SqT K H a xs) : SqT K H' a xs := by
  rcases h with (h | ⟨o, h⟩) | h
  · exact .inl (.inl (e _ _ (by rintro rfl; rw [hs] at h; cases h) h))
  · exact .inl (.inr ⟨o, e _ _ (by rintro rfl; rw [hs] at h; cases h) h⟩)
  · exact .inr h
theorem Same.seqT {K : PySem.W.Frag} {H H' : Hp} {a : Addr} {xs : List V} (e : Same H H') (h : SqT K H a xs) : SqT K H' a xs := by
  rcases h with (h | ⟨o, h⟩) | h
  · exact .inl (.inl (e _ _ h))
  · exact .inl (.inr ⟨o, e _ _ h⟩)
  · exact .inr h
/-- the built-ins' names, unbound -/
structure Bt (K : PySem.W.Frag) (mg : Str → Option Value) : Prop where
  b_int : mg "int" = none
  b_len : mg "len" = none
  b_list : mg "list" = none
  b_abs : mg "abs" = none
  b_range : mg "range" = none
  b_min : mg "min" = none
  b_max : mg "max" = none
  b_isinstance : mg "isinstance" = none
  b_bool : mg "bool" = none
  b_str : mg "str" = none
  b_dict : mg "dict" = none
  b_tuple : mg "tuple" = none
  g_gcd : mg "gcd" = some (.builtin "math.gcd")
end My

namespace My
open PySem PySem.Spec PyProof.Rows L2
theorem cx_K {CX : CXT} {P : Program} {w : World} {K : PySem.W.Frag} {mg : Str → Option Value} {base : Heap} {N : List Str} {qual : Str} {scope : Scope} {f : Addr} {cd : Value} {A : Around} {outer : List Env} {s : Shared} {H : Hp} {E : XK} : (cxOf CX P w K mg base N qual scope f cd A outer s H E).K = K := rfl
/-! ### what stands at an address, the written part first -/
def obK (o : Obj) : Option HO := match o.cls, o.data with
  | .type "tuple", .seq its _ => if its.size ≤ sizeLine then (its.toList.mapM absV).map HO.tup else none
  | _, _ => none
def ob (K : PySem.W.Frag) (H : Hp) (a : Addr) : Option HO := match K.lookup a with
  | some o => obK o
  | none => H a
theorem absV_rel {u : Value} {x : V} (h : absV u = some x) : RelV x u := by
  cases u <;> simp only [absV, Option.some.injEq, reduceCtorEq] at h <;> subst h
  all_goals first | exact rfl | exact ⟨_, rfl⟩
theorem absV_all : ∀ {us : List Value} {xs : List V}, us.mapM absV = some xs → Vals xs us
  | [], xs, h => by
    simp at h
    subst h
    exact .nil
  | u :: us, xs, h => by
    rw [List.mapM_cons] at h
    cases e1 : absV u with
    | none => simp [e1] at h
    | some x =>
      cases e2 : us.mapM absV with
      | none => simp [e1, e2] at h
      | some r =>
        simp [e1, e2] at h
        subst h
        exact .cons (absV_rel e1) (absV_all e2)
theorem obK_tup {o : Obj} {z : HO} (h : obK o = some z) : ∃ xs its n, z = .tup xs ∧ o.cls = .type "tuple" ∧ o.data = .seq its n ∧ its.size ≤ sizeLine ∧ Vals xs its.toList := by
  unfold obK at h
  split at h
  · rename_i its n e1 e2
    split at h
    · rename_i hz
      cases e : its.toList.mapM absV with
      | none => rw [e] at h; cases h
      | some xs =>
        rw [e] at h
        exact ⟨xs, its, n, (Option.some.inj h).symm, e1, e2, hz, absV_all e⟩
    · cases h
  · cases h
theorem ob_none {K : PySem.W.Frag} {H : Hp} {a : Addr} (h : K.lookup a = none) : ob K H a = H a := by unfold ob; rw [h]
theorem ob_tup {K : PySem.W.Frag} {H : Hp} {a : Addr} {xs : List V} (h : ob K H a = some (.tup xs)) : SqT K H a xs := by
  unfold ob at h
  split at h
  · rename_i o e
    obtain ⟨ys, its, n, z, h1, h2, h3, h4⟩ := obK_tup h
    cases z
    exact .inr ⟨o, its, n, e, h1, h2, h3, h4⟩
  · exact .inl (.inl h)
theorem ob_H {K : PySem.W.Frag} {H : Hp} {a : Addr} {z : HO} (h : ob K H a = some z) (n : ∀ xs, z ≠ .tup xs) : H a = some z ∧ K.lookup a = none := by
  unfold ob at h
  split at h
  · obtain ⟨ys, its, n', z', _⟩ := obK_tup h
    exact absurd z' (n ys)
  · rename_i e
    exact ⟨h, e⟩
theorem ob_lst {K : PySem.W.Frag} {H : Hp} {a : Addr} {xs : List V} (h : ob K H a = some (.lst xs)) : SqL K H a xs := .of (ob_H h (fun _ z => by cases z)).1
theorem ob_same {K : PySem.W.Frag} {H H' : Hp} {a : Addr} {z : HO} (e : Same H H') (h : ob K H a = some z) : ob K H' a = some z := by
  unfold ob at h ⊢
  split
  · rename_i o q
    rw [q] at h
    exact h
  · rename_i q
    rw [q] at h
    exact e _ _ h
theorem ob_kp {K : PySem.W.Frag} {H H' : Hp} {s a : Addr} {ys : List V} {z : HO} (e : Kp s H H') (hs : H s = some (.lst ys)) (n : ∀ ys, z ≠ .lst ys) (h : ob K H a = some z) : ob K H' a = some z := by
  unfold ob at h ⊢
  split
  · rename_i o q
    rw [q] at h
    exact h
  · rename_i q
    rw [q] at h
    exact e _ _ (by rintro rfl; rw [hs] at h; exact n _ (Option.some.inj h).symm) h
theorem ob_new {K : PySem.W.Frag} {H : Hp} {p : Addr} {o : HO} (k : K.lookup p = none) : ob K (upd H p o) p = some o := by rw [ob_none k, upd_same]
/-- a built-in type's name, of what stands somewhere -/
def tyO : Option HO → Option String
  | some (.tup _) => some "tuple"
  | some (.lst _) => some "list"
  | some (.dK _) => some "dict"
  | _ => none
def tyN (K : PySem.W.Frag) (H : Hp) : V → Option String
  | .non => some "NoneType"
  | .bl _ => some "bool"
  | .int _ => some "int"
  | .str _ => some "str"
  | .ref a => tyO (ob K H a)
  | _ => none
theorem tyO_tup (xs : List V) : tyO (some (.tup xs)) = some "tuple" := rfl
theorem tyO_lst (xs : List V) : tyO (some (.lst xs)) = some "list" := rfl
theorem tyO_dK (xs : List (Key × V)) : tyO (some (.dK xs)) = some "dict" := rfl
theorem tyN_non {K : PySem.W.Frag} {H : Hp} : tyN K H .non = some "NoneType" := rfl
theorem tyN_bl {K : PySem.W.Frag} {H : Hp} (b : Bool) : tyN K H (.bl b) = some "bool" := rfl
theorem tyN_int {K : PySem.W.Frag} {H : Hp} (b : Int) : tyN K H (.int b) = some "int" := rfl
theorem tyN_str {K : PySem.W.Frag} {H : Hp} (b : Str) : tyN K H (.str b) = some "str" := rfl
theorem tyN_ref {K : PySem.W.Frag} {H : Hp} (a : Addr) : tyN K H (.ref a) = tyO (ob K H a) := rfl
theorem tyN_X {K : PySem.W.Frag} {H : Hp} {x : V} {t : String} (h : tyN K H x = some t) : TyX K H x (.type t) := by
  cases x with
  | non => cases h; exact .base .non
  | bl b => cases h; exact .base (.bl b)
  | int i => cases h; exact .base (.int i)
  | str z => cases h; exact .base (.str z)
  | byt _ => cases h
  | flt _ => cases h
  | ty _ => cases h
  | ref a =>
    have h1 : tyO (ob K H a) = some t := h
    cases e : ob K H a with
    | none => rw [e] at h1; cases h1
    | some z =>
      rw [e] at h1
      cases z with
      | tup xs =>
        cases h1
        unfold ob at e
        split at e
        · rename_i o q
          obtain ⟨_, _, _, _, c, _⟩ := obK_tup e
          exact .kTuple q c
        · exact .base (.tup e)
      | lst xs => cases h1; exact .base (.lst (ob_H e (fun _ z => by cases z)).1)
      | dK kvs => cases h1; exact .base (.dK (ob_H e (fun _ z => by cases z)).1)
      | _ => cases h1
/-- isinstance(x, T) by names -/
def isB (a b : String) : Bool := a == b || (a == "bool" && b == "int")
def rIsN (K : PySem.W.Frag) : List V → Hp → VK → Prop := fun xs H Q => ∃ x n, xs = [x, .ty n] ∧ n ∈ ["int", "bool", "str", "list", "tuple", "dict"] ∧ ∃ t, tyN K H x = some t ∧ Q (.bl (isB t n)) H
theorem tyN_mem {K : PySem.W.Frag} {H : Hp} {x : V} {t : String} (h : tyN K H x = some t) : t ∈ ["NoneType", "bool", "int", "str", "tuple", "list", "dict"] := by
  cases x with
  | non => cases h; decide
  | bl b => cases h; decide
  | int i => cases h; decide
  | str z => cases h; decide
  | byt _ => cases h
  | flt _ => cases h
  | ty _ => cases h
  | ref a =>
    have h1 : tyO (ob K H a) = some t := h
    unfold tyO at h1
    split at h1 <;> first | (cases h1; decide) | cases h1
theorem kit_all : ∀ t ∈ ["NoneType", "bool", "int", "str", "tuple", "list", "dict"], ∀ n ∈ ["int", "bool", "str", "list", "tuple", "dict"], kitB t n = some (isB t n) := by decide +kernel
/-- isinstance(x, (T, ..)) -/
def tyNs : List V → Option (List String)
  | [] => some []
  | .ty n :: r => if n ∈ ["int", "bool", "str", "list", "tuple", "dict"] then (tyNs r).map (n :: ·) else none
  | _ :: _ => none
theorem tyNs_of : ∀ {cs : List V} {ns : List String}, tyNs cs = some ns → cs = ns.map V.ty ∧ ∀ n ∈ ns, n ∈ ["int", "bool", "str", "list", "tuple", "dict"]
  | [], ns, h => by cases h; exact ⟨rfl, fun _ z => absurd z (by simp)⟩
  | c :: r, ns, h => by
    cases c with
    | ty n =>
      unfold tyNs at h
      split at h
      · rename_i hn
        cases e : tyNs r with
        | none => rw [e] at h; cases h
        | some ms =>
          rw [e] at h
          cases h
          obtain ⟨h1, h2⟩ := tyNs_of e
          refine ⟨by rw [h1]; rfl, fun m hm => ?_⟩
          rcases List.mem_cons.mp hm with z | z
          · rw [z]; exact hn
          · exact h2 m z
      · cases h
    | _ => cases h
theorem tyNs_lt : tyNs [.ty "list", .ty "tuple"] = some ["list", "tuple"] := by decide
def rIsT (K : PySem.W.Frag) : List V → Hp → VK → Prop := fun xs H Q => ∃ x tp, xs = [x, .ref tp] ∧ ∃ cs, H tp = some (.tup cs) ∧ ∃ ns, tyNs cs = some ns ∧ ∃ t, tyN K H x = some t ∧ Q (.bl (ns.any (isB t))) H
section
variable {X : Cx}
theorem call_isN : CallR X (.builtin "isinstance") (rIsN X.K) := fun pins s σ H xs us Q I r h => by
  obtain ⟨x, n, rfl, hn, t, ht, q⟩ := h
  exact call_isi pins s σ H _ us Q I r ⟨x, .ty n, .type t, .type n, isB t n, rfl, .ty n, tyN_X ht, kit_ty (kit_all t (tyN_mem ht) n hn), q⟩
theorem kitAny_of {K : PySem.W.Frag} {t : String} (ht : t ∈ ["NoneType", "bool", "int", "str", "tuple", "list", "dict"]) : ∀ {ns : List String}, (∀ n ∈ ns, n ∈ ["int", "bool", "str", "list", "tuple", "dict"]) → PySem.W.kitAny K (.type t) (ns.map Value.type) = some (ns.any (isB t))
  | [], _ => rfl
  | n :: ns, h => by
    have e1 : PySem.W.kitOne K (.type t) (.type n) = some (isB t n) := kit_ty (kit_all t ht n (h n List.mem_cons_self))
    have e2 := kitAny_of (K := K) ht (ns := ns) fun m hm => h m (List.mem_cons_of_mem _ hm)
    rw [List.map_cons, List.any_cons]
    unfold PySem.W.kitAny
    rw [e1]
    cases isB t n
    · simpa using e2
    · rfl
theorem clsV_all : ∀ ns : List String, Paired ClsV (ns.map V.ty) (ns.map Value.type)
  | [] => .nil
  | n :: ns => .cons (.ty n) (clsV_all ns)
theorem call_isT : CallR X (.builtin "isinstance") (rIsT X.K) := fun pins s σ H xs us Q I r h => by
  obtain ⟨x, tp, rfl, cs, hT, ns, hns, t, ht, q⟩ := h
  obtain ⟨rfl, hn⟩ := tyNs_of hns
  exact call_isiT pins s σ H _ us Q I r ⟨x, tp, _, .type t, _, _, rfl, hT, clsV_all ns, tyN_X ht, kitAny_of (tyN_mem ht) hn, q⟩
/-- xs[i], t[i] -/
def itsO : Option HO → Option (List V)
  | some (.tup xs) => some xs
  | some (.lst xs) => some xs
  | _ => none
theorem itsO_tup (xs : List V) : itsO (some (.tup xs)) = some xs := rfl
theorem itsO_lst (xs : List V) : itsO (some (.lst xs)) = some xs := rfl
theorem itsO_or {K : PySem.W.Frag} {H : Hp} {a : Addr} {xs : List V} (h : itsO (ob K H a) = some xs) : SqL K H a xs ∨ SqT K H a xs := by
  cases e : ob K H a with
  | none => rw [e] at h; cases h
  | some z =>
    rw [e] at h
    cases z with
    | tup ys => cases h; exact .inr (ob_tup e)
    | lst ys => cases h; exact .inl (ob_lst e)
    | _ => cases h
def rIxA (K : PySem.W.Frag) : R2 := fun x y H Q => ∃ p i, x = .ref p ∧ y = .int i ∧ ∃ xs, itsO (ob K H p) = some xs ∧ ∃ v, atI xs i = some v ∧ Q v H
theorem ix_any : IxR X (rIxA X.K) := fun value slice pins s σ H x y v u Q I rx ry h hs => by
  obtain ⟨p, i, rfl, rfl, xs, hx, w, hw, q⟩ := h
  rcases itsO_or hx with z | z
  · exact ix_list value slice pins s σ H _ _ v u Q I rx ry ⟨p, xs, i, w, rfl, rfl, z, hw, q⟩ hs
  · exact ix_tup value slice pins s σ H _ _ v u Q I rx ry ⟨p, xs, i, w, rfl, rfl, z, hw, q⟩ hs
theorem call_lenA : CallR X (.builtin "len") (fun xs H Q => ∃ p, xs = [.ref p] ∧ ∃ ys, itsO (ob X.K H p) = some ys ∧ Q (.int ys.length) H) := fun pins s σ H xs us Q I r h => by
  obtain ⟨p, rfl, ys, hy, q⟩ := h
  exact call_len_seq pins s σ H _ us Q I r ⟨p, ys, rfl, itsO_or hy, q⟩
/-! new tuples and lists, away from the written part -/
variable {es : List Expr} {t : TA} {pos : Pos}
def tTp (K : PySem.W.Frag) (t : TA) : TE := fun σ H Q => t σ H fun xs H1 => xs.length ≤ sizeLine ∧ ∀ p, H1 p = none → K.lookup p = none → Q (.ref p) (upd H1 p (.tup xs))
def tLs (K : PySem.W.Frag) (t : TA) : TE := fun σ H Q => t σ H fun xs H1 => xs.length ≤ sizeLine ∧ ∀ p, H1 p = none → K.lookup p = none → Q (.ref p) (upd H1 p (.lst xs))
theorem new_K {pins : List (Addr × Obj)} {σ : L2.St} {H : Hp} {s : Shared} (I : Inv X pins σ H s) : X.K.lookup s.heap.objs.size = none := by
  cases e : X.K.lookup s.heap.objs.size with
  | none => rfl
  | some o => exact absurd (Heap.lt_size (I.kIn _ _ e)) (Nat.lt_irrefl _)
theorem pe_tp {x1} (h : PA X es t) : PE X (.Tuple es x1 pos) (tTp X.K t) := by
  refine ⟨fun pins s σ H Q I hq => ?_⟩
  refine wpAny_Tuple_spliced (thn (h.run pos pins s σ H _ I hq) fun us s1 ⟨xs, H1, I1, r, z, q⟩ => ⟨by rw [← r.length]; exact z, ?_⟩)
  have hf : H1 s1.heap.objs.size = none := I1.hok.fresh (Nat.le_refl _)
  refine ⟨.ref s1.heap.objs.size, upd H1 s1.heap.objs.size (.tup xs), I1.laid (t' := s1.toks) (fun b u e => Heap.get?_push_of_some _ e) (Nat.le_refl _) ?_, rfl, q _ hf (new_K I1)⟩
  exact ⟨z, us, r, ⟨_, Heap.get?_push_size _ rfl, rfl, _, rfl⟩⟩
theorem pe_ls (h : PA X es t) : PE X (.List es pos) (tLs X.K t) := by
  refine ⟨fun pins s σ H Q I hq => ?_⟩
  refine wpAny_List_spliced (thn (h.run pos pins s σ H _ I hq) fun us s1 ⟨xs, H1, I1, r, z, q⟩ => ⟨by rw [← r.length]; exact z, ?_⟩)
  have hf : H1 s1.heap.objs.size = none := I1.hok.fresh (Nat.le_refl _)
  refine ⟨.ref s1.heap.objs.size, upd H1 s1.heap.objs.size (.lst xs), I1.laid (t' := s1.toks) (fun b u e => Heap.get?_push_of_some _ e) (Nat.le_refl _) ?_, rfl, q _ hf (new_K I1)⟩
  exact ⟨z, us, 0, r, Heap.get?_push_size _ rfl⟩
end
/-- a, b = t -/
def gTp (K : PySem.W.Frag) (n : Nat) (t : TGs) : TG := fun v σ H Q => ∃ a, v = .ref a ∧ ∃ xs, ob K H a = some (.tup xs) ∧ xs.length = n ∧ t xs σ H Q
theorem pg_tp {X : Cx} {pos : Pos} {es : List Expr} {k : Nat} {t : TGs} (n : Nat) (hc : X.calm = true) (h : PGs X es t) (hn : (assignEach es X.env).length = n := by rfl) (hst : (assignEach es X.env).findIdx? (·.1) = none := by rfl) : PG X (.Tuple es k pos) (gTp X.K n t) :=
  ⟨fun pins s σ H v u Q I r hw => by
    obtain ⟨a, e, xs, hx, hl, q⟩ := hw
    exact (pg_tup (n := n) hc h hn hst).run pins s σ H v u Q I r ⟨a, xs, e, ob_tup hx, hl, q⟩⟩
/-- {} -/
def tDn (K : PySem.W.Frag) : TE := fun _ H Q => ∀ p, H p = none → K.lookup p = none → Q (.ref p) (upd H p (.dK []))
theorem pe_dn {X : Cx} {pos : Pos} : PE X (.Dict [] [] pos) (tDn X.K) := ⟨fun pins s σ H Q I h => by
  refine wpAny_Dict_empty ⟨.ref s.heap.objs.size, upd H s.heap.objs.size (.dK []), ?_, rfl, h _ (I.hok.fresh (Nat.le_refl _)) (new_K I)⟩
  exact I.laid (t' := s.toks) (fun _ _ e => Heap.get?_push_of_some _ e) (Nat.le_refl _) (dk_empty s.heap I.big)⟩
/-! ### loops -/
def ForI (J : It) (g : TG) (tb : TS) (D : Ends) (σ : L2.St) (H : Hp) : Prop := ∃ W : Nat → Nat → L2.St → Hp → Prop, (∃ m, W 0 m σ H) ∧ ∀ i m σ H, W i m σ H →
  (J.stop i H ∧ D.nx σ H) ∨ (J.go i H ∧ ∃ N : L2.St → Hp → Prop, (∀ σ' H', N σ' H' → ∃ m', m' < m ∧ W (i + 1) m' σ' H') ∧ ∀ x H', J.yld i H x H' → g x σ H' fun σ2 H2 => tb { D with nx := N, ct := N, bk := D.nx } σ2 H2)
theorem tFor_eq (wi : TI) (g : TG) (tb : TS) (D : Ends) (σ : L2.St) (H : Hp) : tFor wi g tb D σ H = wi σ H fun J H1 => ForI J g tb D σ H1 := rfl
section
variable {g : TG} {tb : TS} {D : Ends} {σ : L2.St} {H : Hp}
theorem forI_range {lo : Int} {n : Nat} (Pv : Nat → L2.St → Hp → Prop) (h0 : Pv 0 σ H)
    (hs : ∀ i σ H, i < n → Pv i σ H → g (.int (lo + i)) σ H fun σ2 H2 => tb { D with nx := Pv (i + 1), ct := Pv (i + 1), bk := D.nx } σ2 H2) (hd : ∀ σ H, Pv n σ H → D.nx σ H) : ForI (Itr lo n) g tb D σ H := for_range Pv h0 hs hd
theorem forI_list {K : PySem.W.Frag} {a : Addr} {xs : List V} (Pv : Nat → L2.St → Hp → Prop) (h0 : Pv 0 σ H) (hl : ∀ i σ H, i ≤ xs.length → Pv i σ H → SqL K H a xs)
    (hs : ∀ i x σ H, xs[i]? = some x → Pv i σ H → g x σ H fun σ2 H2 => tb { D with nx := Pv (i + 1), ct := Pv (i + 1), bk := D.nx } σ2 H2) (hd : ∀ σ H, Pv xs.length σ H → D.nx σ H) : ForI (Itl K a) g tb D σ H := for_list Pv h0 hl hs hd
theorem forI_tup {K : PySem.W.Frag} {a : Addr} {xs : List V} (Pv : Nat → L2.St → Hp → Prop) (h0 : Pv 0 σ H) (hl : ∀ i σ H, i ≤ xs.length → Pv i σ H → SqT K H a xs)
    (hs : ∀ i x σ H, xs[i]? = some x → Pv i σ H → g x σ H fun σ2 H2 => tb { D with nx := Pv (i + 1), ct := Pv (i + 1), bk := D.nx } σ2 H2) (hd : ∀ σ H, Pv xs.length σ H → D.nx σ H) : ForI (Itt K a) g tb D σ H := for_tup Pv h0 hl hs hd
end
theorem ca_0 : ((0 : Nat) : Int) = 0 := rfl
theorem ca_1 : ((1 : Nat) : Int) = 1 := rfl
theorem ca_2 : ((2 : Nat) : Int) = 2 := rfl
theorem ca_3 : ((3 : Nat) : Int) = 3 := rfl
theorem ca_4 : ((4 : Nat) : Int) = 4 := rfl
theorem ca_5 : ((5 : Nat) : Int) = 5 := rfl
theorem ca_6 : ((6 : Nat) : Int) = 6 := rfl
theorem ca_7 : ((7 : Nat) : Int) = 7 := rfl
theorem ca_8 : ((8 : Nat) : Int) = 8 := rfl
theorem ca_9 : ((9 : Nat) : Int) = 9 := rfl
theorem ca_10 : ((10 : Nat) : Int) = 10 := rfl
theorem ca_11 : ((11 : Nat) : Int) = 11 := rfl
theorem ca_12 : ((12 : Nat) : Int) = 12 := rfl
theorem ca_13 : ((13 : Nat) : Int) = 13 := rfl
theorem ca_14 : ((14 : Nat) : Int) = 14 := rfl
theorem ca_15 : ((15 : Nat) : Int) = 15 := rfl
theorem ca_16 : ((16 : Nat) : Int) = 16 := rfl
theorem ca_17 : ((17 : Nat) : Int) = 17 := rfl
theorem ca_18 : ((18 : Nat) : Int) = 18 := rfl
theorem ca_19 : ((19 : Nat) : Int) = 19 := rfl
theorem ca_20 : ((20 : Nat) : Int) = 20 := rfl
theorem ca_21 : ((21 : Nat) : Int) = 21 := rfl
theorem ca_22 : ((22 : Nat) : Int) = 22 := rfl
theorem ca_23 : ((23 : Nat) : Int) = 23 := rfl
theorem ca_24 : ((24 : Nat) : Int) = 24 := rfl
theorem ca_25 : ((25 : Nat) : Int) = 25 := rfl
theorem ca_26 : ((26 : Nat) : Int) = 26 := rfl
theorem ca_27 : ((27 : Nat) : Int) = 27 := rfl
theorem ca_28 : ((28 : Nat) : Int) = 28 := rfl
theorem ca_29 : ((29 : Nat) : Int) = 29 := rfl
theorem ca_30 : ((30 : Nat) : Int) = 30 := rfl
theorem nat10 : (10 : Int).natAbs = 10 := rfl
/-- list(xs), away from the written part -/
theorem call_listK {X : Cx} : CallR X (.type "list") (fun xs H Q => ∃ p, xs = [.ref p] ∧ ∃ ys, (SqL X.K H p ys ∨ SqT X.K H p ys) ∧ ∀ l, H l = none → X.K.lookup l = none → Q (.ref l) (upd H l (.lst ys))) := fun pins s σ H xs us Q I r h => by
  obtain ⟨p, e0, ys, hy, k⟩ := h
  subst e0
  obtain ⟨u, e1, ru⟩ := vals1 r
  subst e1
  cases ru
  have laid (its : List Value) (rv : Vals ys its) (hz : ys.length ≤ sizeLine) (hh : Heap) (cap : Nat) (kp : ∀ b o, s.heap.get? b = some o → hh.get? b = some o)
      (e : hh.get? s.heap.objs.size = some { cls := .type "list", dict := none, data := .seq its.toArray cap, slots := #[] }) : EP X pins σ Q (.ref s.heap.objs.size) { s with heap := hh } := by
    have ok : ObjOk X.prog X.w (upd H s.heap.objs.size (.lst ys)) hh s.heap.objs.size (.lst ys) := ⟨hz, its, cap, rv, e⟩
    exact ⟨.ref s.heap.objs.size, _, I.laid (t' := s.toks) kp (Nat.le_refl _) ok, rfl, k _ (I.hok.fresh (Nat.le_refl _)) (new_K I)⟩
  cases hy with
  | inl hy =>
    obtain ⟨its, rv, pl, hz⟩ := I.list hy
    obtain ⟨o, ho, hc, n, hd⟩ := pl.isList
    have hl := rv.length
    exact call_list_seq p (.inl rfl) ho hc hd (laid its rv hz) (by simp only [List.size_toArray]; omega)
  | inr hy =>
    obtain ⟨its, rv, pl, hz⟩ := I.tuple hy
    obtain ⟨o, ho, hc, n, hd⟩ := pl
    have hl := rv.length
    exact call_list_seq p (.inr rfl) ho hc hd (laid its rv hz) (by simp only [List.size_toArray]; omega)
/-- xs[i] = v -/
def setI (xs : List V) (i : Int) (v : V) : Option (List V) := (ixN xs.length i).map fun j => xs.set j v
theorem setI_nat {xs ys : List V} {j : Nat} {v : V} (h : j < xs.length) (e : xs.set j v = ys) : setI xs (j : Int) v = some ys := by
  have e1 : ixN xs.length (j : Int) = some j := by
    unfold ixN
    rw [if_pos (by omega), if_pos (by omega)]
    simp
  unfold setI
  rw [e1, ← e]
  rfl
def rSetA : V → V → V → Hp → (Hp → Prop) → Prop := fun o i v H Q => ∃ p k, o = .ref p ∧ i = .int k ∧ ∃ xs, H p = some (.lst xs) ∧ ∃ ys, setI xs k v = some ys ∧ Q (upd H p (.lst ys))
section
variable {X : Cx}
theorem set_any : PSet X rSetA := by
  intro pins s σ H o i v uo ui uv Q I ro ri rv h
  obtain ⟨p, k, rfl, rfl, xs, hx, ys, hy, q⟩ := h
  unfold setI at hy
  cases e : ixN xs.length k with
  | none => rw [e] at hy; cases hy
  | some j =>
    rw [e] at hy
    cases hy
    exact set_list pins s σ H _ _ _ uo ui uv Q I ro ri rv ⟨p, xs, k, j, rfl, rfl, hx, e, q⟩
end
theorem atI_0 {α : Type} (x0 : α) (l : List α) : atI (x0 :: l) 0 = some x0 := atI_nat (j := 0) rfl
theorem setI_0 (x0 v : V) (l : List V) : setI (x0 :: l) 0 v = some (v :: l) := setI_nat (j := 0) (by simp) (by rfl)
theorem atI_1 {α : Type} (x0 x1 : α) (l : List α) : atI (x0 :: x1 :: l) 1 = some x1 := atI_nat (j := 1) rfl
theorem setI_1 (x0 x1 v : V) (l : List V) : setI (x0 :: x1 :: l) 1 v = some (x0 :: v :: l) := setI_nat (j := 1) (by simp) (by rfl)
theorem atI_2 {α : Type} (x0 x1 x2 : α) (l : List α) : atI (x0 :: x1 :: x2 :: l) 2 = some x2 := atI_nat (j := 2) rfl
theorem setI_2 (x0 x1 x2 v : V) (l : List V) : setI (x0 :: x1 :: x2 :: l) 2 v = some (x0 :: x1 :: v :: l) := setI_nat (j := 2) (by simp) (by rfl)
theorem atI_3 {α : Type} (x0 x1 x2 x3 : α) (l : List α) : atI (x0 :: x1 :: x2 :: x3 :: l) 3 = some x3 := atI_nat (j := 3) rfl
theorem setI_3 (x0 x1 x2 x3 v : V) (l : List V) : setI (x0 :: x1 :: x2 :: x3 :: l) 3 v = some (x0 :: x1 :: x2 :: v :: l) := setI_nat (j := 3) (by simp) (by rfl)
theorem atI_4 {α : Type} (x0 x1 x2 x3 x4 : α) (l : List α) : atI (x0 :: x1 :: x2 :: x3 :: x4 :: l) 4 = some x4 := atI_nat (j := 4) rfl
theorem setI_4 (x0 x1 x2 x3 x4 v : V) (l : List V) : setI (x0 :: x1 :: x2 :: x3 :: x4 :: l) 4 v = some (x0 :: x1 :: x2 :: x3 :: v :: l) := setI_nat (j := 4) (by simp) (by rfl)
theorem atI_5 {α : Type} (x0 x1 x2 x3 x4 x5 : α) (l : List α) : atI (x0 :: x1 :: x2 :: x3 :: x4 :: x5 :: l) 5 = some x5 := atI_nat (j := 5) rfl
theorem setI_5 (x0 x1 x2 x3 x4 x5 v : V) (l : List V) : setI (x0 :: x1 :: x2 :: x3 :: x4 :: x5 :: l) 5 v = some (x0 :: x1 :: x2 :: x3 :: x4 :: v :: l) := setI_nat (j := 5) (by simp) (by rfl)
theorem atI_6 {α : Type} (x0 x1 x2 x3 x4 x5 x6 : α) (l : List α) : atI (x0 :: x1 :: x2 :: x3 :: x4 :: x5 :: x6 :: l) 6 = some x6 := atI_nat (j := 6) rfl
theorem setI_6 (x0 x1 x2 x3 x4 x5 x6 v : V) (l : List V) : setI (x0 :: x1 :: x2 :: x3 :: x4 :: x5 :: x6 :: l) 6 v = some (x0 :: x1 :: x2 :: x3 :: x4 :: x5 :: v :: l) := setI_nat (j := 6) (by simp) (by rfl)
end My

namespace My
open PySem PySem.Spec PyProof.Rows L2
section
variable {X : Cx}
/-- any(xs), a list of ints -/
def rAnyI (K : PySem.W.Frag) : List V → Hp → VK → Prop := fun vs H Q => ∃ (a : Addr) (ns : List Int), vs = [V.ref a] ∧ SqL K H a (ns.map V.int) ∧ Q (.bl (ns.any fun n => decide (n ≠ 0))) H
theorem vals_int_at : ∀ {ns : List Int} {us : List Value} {i : Nat} {v : Value}, Vals (ns.map V.int) us → us[i]? = some v → ∃ (n : Int) (t : Tok), ns[i]? = some n ∧ v = .int n t
  | [], us, i, v, h, e => by
    cases h
    cases e
  | n :: ns, us, i, v, h, e => by
    cases h with
    | cons a b =>
      cases i with
      | zero =>
        cases e
        obtain ⟨t, et⟩ := a
        exact ⟨n, t, rfl, et⟩
      | succ i => exact vals_int_at (ns := ns) (i := i) b e
theorem any_rangeI : ∀ ns : List Int, (List.range ns.length).any (fun i => decide (ns.getD i 0 ≠ 0)) = ns.any fun n => decide (n ≠ 0)
  | [] => rfl
  | n :: ns => by
    rw [List.length_cons, List.range_succ_eq_map, List.any_cons, List.any_map, List.any_cons, ← any_rangeI ns]
    all_goals rfl
theorem cr_anyI (hc : X.calm = true) : CallR X (.builtin "any") (rAnyI X.K) := by
  intro pins s σ H vs us Q I r h
  obtain ⟨a, ns, rfl, hs, q⟩ := h
  obtain ⟨its, rv, hl, _⟩ := I.list hs
  rw [Vals.ref1 r]
  have hlen := rv.length
  rw [List.length_map] at hlen
  refine call_any_walk (iter_any hl.isList fun s₂ e2 st hne => ?_)
  subst e2
  refine ⟨_, _, _, _, _, _, _, rfl, Walks.list (A := X.A.in1) (I.ok.hd hc) _ a hne its.toArray, st, (fun i v s Q E hv hq => ?_ : TruthOf X.prog X.w X.A.in1 (fun i v => its.toArray[i]? = some v) (fun i => decide (ns.getD i 0 ≠ 0))), fun h' tk hk => ?_⟩
  · have hv' : its[i]? = some v := by simpa using hv
    obtain ⟨n, t, hn, rfl⟩ := vals_int_at rv hv'
    have hg : ns.getD i 0 = n := by rw [List.getD_eq_getElem?_getD, hn] <;> rfl
    have hq' : Q (decide (ns.getD i 0 ≠ 0)) s := hq
    rw [hg, show decide (n ≠ 0) = (n != 0) from by by_cases h : n = 0 <;> simp [h]] at hq'
    exact PySem.P.truthy_int hq'
  · refine ⟨.bl _, H, I.kept fun b o eo => hk b o (fun hmem => ?_) (Heap.get?_push_of_some _ eo), ?_, q⟩
    · rcases List.mem_cons.mp hmem with e1 | hmem
      · exact absurd (e1 ▸ Heap.lt_size eo) (Nat.lt_irrefl _)
      · cases hmem
    · show Value.bool _ = Value.bool _
      rw [← any_rangeI, List.size_toArray, ← hlen]
/-- list(o.values()) -/
def tListVals (K : PySem.W.Frag) (td : TE) : TE := fun σ H Q => td σ H fun x H1 => ∃ a kvs, x = V.ref a ∧ H1 a = some (.dK kvs) ∧ ∀ p, H1 p = none → K.lookup p = none → Q (.ref p) (upd H1 p (.lst (kvs.map (·.2))))
variable {o : Expr} {p pos apos mpos : Pos} {td : TE}
theorem pe_listVals (hc : X.calm = true) (hg : Gl X "list") (hm : X.mg "list" = none) (hd : PE X o td) (hbase : attributeBase o "values" X.env (eval o X.env) = eval o X.env := by rfl) (hline : (apos.endLine == mpos.line) = true := by rfl)
    (hse : starEach [Expr.Call (.Attribute o "values" apos) [] [] mpos] X.env = [(false, eval (Expr.Call (.Attribute o "values" apos) [] [] mpos) X.env)] := by rfl) :
    PE X (.Call (.Name "list" p) [.Call (.Attribute o "values" apos) [] [] mpos] [] pos) (tListVals X.K td) := by
  refine ⟨fun pins s σ H Q I h => ?_⟩
  refine wpAny_Call_Name_kw (ld_blt I hg hm (u := .type "list") (by first | rfl | decide +kernel) ?_ (by first | decide +kernel | decide) (by first | decide +kernel | decide))
  rw [hse]
  refine PySem.callWith_type1 (wpAny_Call_method0_late hbase hline (thn (hd.run pins s σ H _ I h) fun v s1 ⟨x, H1, I1, r1, a, kvs, ex, ha, q⟩ => ?_))
  subst ex
  obtain rfl : v = Value.ref a := r1
  obtain ⟨_, hsys, vs, rel, dof⟩ := dk_of I1.hok ha
  obtain ⟨z, _, _, _, _⟩ := (show ObjOk X.prog X.w H1 s1.heap a (.dK kvs) from I1.hok a _ ha)
  obtain ⟨ep, dat⟩ := dof.dictAt
  have dat' := dat
  obtain ⟨ob, es, ho, ex, hdat, hko, hpr, hnd⟩ := dat'
  refine ⟨"dict", "dict.values", F.plainAttrs_dict, F.slot_dict_values, F.type_dict_values, ⟨ob, ho, ex.1⟩, fun b e => ?_, Calls.callWith_builtin rfl (PySem.evalArgs_none ?_)⟩
  · cases e
    exact ⟨ob, ho, ex.2.1⟩
  refine call_meetsIn F.slot_dict_values ⟨ob, ho, ex.1⟩ F.entry_dict_values (F.args_dict_values_1 _) (meets_dict_values (mixKind X.prog X.w) a hsys) ⟨⟨vs, dof⟩, ?_⟩
  have k1 : ∀ b u, s1.heap.get? b = some u → (s1.heap.push { cls := .type "dict_values", data := .fields #[.ref a] }).get? b = some u := fun b u e => Heap.get?_push_of_some _ e
  have dat1 : (s1.heap.push { cls := .type "dict_values", data := .fields #[.ref a] }).DictAt (mixKind X.prog X.w) a vs ep := dat.keep k1
  have hl : kvs.length = vs.length := Paired.length rel
  have I2 : Inv X pins σ H1 { s1 with heap := s1.heap.push { cls := .type "dict_values", data := .fields #[.ref a] } } := I1.kept (t' := s1.toks) fun b u e => Heap.get?_push_of_some _ e
  refine PySem.W.kdl_call (PySem.W.kdl_values (knd := mixKind X.prog X.w) (kvs := vs) (ep := ep) (r := s1.heap.objs.size) (d := a)) (I.ok.hd hc) ⟨⟨_, Heap.get?_push_size _ rfl, rfl, rfl⟩, dat1⟩ (by rw [← hl]; exact z) fun h' tk acc' c' hkeep hS hacc => ?_
  have hsz : (s1.heap.push { cls := .type "dict_values", data := .fields #[.ref a] }).objs.size = s1.heap.objs.size + 1 := Heap.size_push _ _
  have fr := I2.hok.fresh (a := (s1.heap.push { cls := .type "dict_values", data := .fields #[.ref a] }).objs.size) (Nat.le_refl _)
  refine ⟨.ref (s1.heap.push { cls := .type "dict_values", data := .fields #[.ref a] }).objs.size, upd H1 (s1.heap.push { cls := .type "dict_values", data := .fields #[.ref a] }).objs.size (.lst (kvs.map (·.2))), I2.laid hkeep (Nat.le_refl _) (show ObjOk X.prog X.w _ _ _ (.lst (kvs.map (·.2))) from ⟨by rw [List.length_map]; exact z, acc'.toList, c', ?_, ?_⟩), rfl, q _ fr (new_K I2)⟩
  · have el : acc'.toList.length = acc'.size := by simp
    refine vals_of_at (by rw [List.length_map, el, hacc.1, hl]) fun j x w h1 h2 => ?_
    obtain ⟨k, hky⟩ := hacc.2 j w (by rw [← Array.getElem?_toList]; exact h2)
    obtain ⟨y, e1, e2⟩ := KV.at' rel hky
    rw [List.getElem?_map, e1] at h1
    cases h1
    exact e2
  · exact hS
end
section
variable {X : Cx}
/-- what is tracked is none of the written part's -/
def tFr (K : PySem.W.Frag) (t : TE) : TE := fun σ H Q => t σ H fun v H' => (∀ a, H' a ≠ none → K.lookup a = none) → Q v H'
theorem pe_fr {e : Expr} {t : TE} (h : PE X e t) : PE X e (tFr X.K t) := ⟨fun pins s σ H Q I hw => thn (h.run pins s σ H _ I hw) fun u s1 ⟨v, H1, I1, r, q⟩ => ⟨v, H1, I1, r, q fun a ha => by
  cases z : X.K.lookup a with
  | none => rfl
  | some o => exact absurd (I1.bs a o (I1.ok.mod.kin a o z)).2 ha⟩⟩
end
/-- name = [..] on one line; what is tracked is none of the written part's -/
theorem ps_setLcF {X : Cx} {i : Nat} {y : Str} {py : Pos} {elt tg iter : Expr} {ifs : List Expr} {scope : Scope} {own : List (Str × Nat)} {pos spos : Pos} {wi : TI} {g : TG} {tt : TT} {te : TE} (hc : X.calm = true) (hN : X.N.Nodup) (hy : X.N[i]? = some y) (hyl : X.env.scope.names.lookup y = some .local)
    (hsw : swapsWith (.ListComp elt [⟨tg, iter, ifs, 0⟩] scope pos) (some (.Name y py)) spos.line X.env = pure true) (hi : PI X tg iter wi) (ok : BlkOk X.N X.env.scope scope own)
    (hg : ∀ (s : Shared) (H : Hp) (C : Addr) (cl : List (Str × Addr)) (fp : List Addr), PG (X.blk s H scope (compEnvC scope cl C X.env) fp) tg g) (ht : ∀ (s : Shared) (H : Hp) (C : Addr) (cl : List (Str × Addr)) (fp : List Addr), PTs (X.blk s H scope (compEnvC scope cl C X.env) fp) ifs tt)
    (he : ∀ (s : Shared) (H : Hp) (C : Addr) (cl : List (Str × Addr)) (fp : List Addr), PE (X.blk s H scope (compEnvC scope cl C X.env) fp) elt te) (hs : ∀ x, foldedSetIterable iter X.env x = pure x := by intro _; rfl) :
    PS X (.Assign [.Name y py] (.ListComp elt [⟨tg, iter, ifs, 0⟩] scope pos) spos) (tAsg (tFr X.K (tLc wi g tt te (own.map (·.2)))) (gName i)) := by
  refine ⟨fun pins s σ H D I h => ?_⟩
  rw [exec_Assign_Name_used _ _ _ _ hsw]
  refine wpAny_bind (wpAny_standAt (wpAny_bind ?_))
  show wpAny _ X.A (do let _ ← comprehension (.ListComp elt [⟨tg, iter, ifs, 0⟩] scope pos) scope X.env (firstIterPos [⟨tg, iter, ifs, 0⟩] pos) (newList []) false (eval iter X.env) (some (assign (.Name y py) X.env))) _ _ s
  have h : tLc wi g tt te (own.map (·.2)) σ H (fun x H1 => (∀ a, H1 a ≠ none → X.K.lookup a = none) → gName i x σ H1 D.nx) := h
  refine wpAny_bind (thn (lc_core (Qf := fun _ s' => SP X pins D .next s') hc hN I hi ok hg ht he hs h fun L C s' m H' I' q hn f => ?_) fun _ s' hq => wpAny_pure (wpAny_pure hq))
  have fr : ∀ a, H' a ≠ none → X.K.lookup a = none := fun a ha => by
    cases z : X.K.lookup a with
    | none => rfl
    | some o => exact absurd (I'.bs a o (I'.ok.mod.kin a o z)).2 ha
  show wpAny _ _ (assign (.Name y py) X.env (.ref L)) _ _ _
  refine wpAny_assign_Name (store_ok2 (v := V.ref L) I' hN hy (.inl hyl) rfl (fun s2 I2 ⟨a, sb, ha⟩ => ?_) (.inr hyl))
  obtain ⟨f0, f1, f2, f3, f4, f5⟩ := f
  have haC : C ≠ a := by
    rcases ha with z | z
    · rw [z]; exact f1
    · exact fun e => f4 y a z e.symm
  refine ⟨m, hn.sameBut sb haC, fun h3 sb3 => ?_⟩
  exact ⟨_, H', I2.turned (t' := s2.toks) (fun b o hb e => (sb3.2 b hb).trans e) f0 f1 f3 f4 f5, q fr⟩
theorem cut_to (xs : List V) (j : Nat) (hj : j ≤ xs.length) : cutV xs none (some (j : Int)) = xs.take j := by
  have e := HT.sIx_nat xs.length xs.length j
  unfold cutV
  rw [e, HT.sIx_none, List.drop_zero, Nat.sub_zero, Nat.min_eq_left hj]
theorem cut_from (xs : List V) (j : Nat) (hj : j ≤ xs.length) : cutV xs (some (j : Int)) none = xs.drop j := by
  have e := HT.sIx_nat xs.length 0 j
  unfold cutV
  rw [e, HT.sIx_none, Nat.min_eq_left hj, List.take_of_length_le (by rw [List.length_drop]; omega)]
end My

namespace My
open PySem PySem.Spec PyProof.Rows L2
/-- a comprehension over zip of two lists, the second one not the longer -/
theorem lc_zip {K : PySem.W.Frag} {a b : Addr} {xs ys : List V} {g : TG} {tt : TT} {te : TE} {vs : List Nat} {σ : L2.St} {H1 : Hp} {D : Addr} {Qd : Hp → Prop} (hle : ys.length ≤ xs.length) (Pv : Nat → Hp → Prop) (h0 : Pv 0 (upd H1 D (.lst []))) (hl : ∀ i H, i ≤ ys.length → Pv i H → SqL K H a xs ∧ SqL K H b ys)
    (hs : ∀ (i : Nat) (x y : V) (T : Addr) (H : Hp), xs[i]? = some x → ys[i]? = some y → Pv i H → H T = none → g (.ref T) (wipe σ vs) (upd H T (.tup [x, y])) fun σ2 H2 => wipe σ2 vs = wipe σ vs ∧ tt σ2 H2 fun b H3 =>
      if b = true then te σ2 H3 fun y H4 => ∃ acc, H4 D = some (.lst acc) ∧ acc.length < sizeLine ∧ Pv (i + 1) (upd H4 D (.lst (acc ++ [y]))) else Pv (i + 1) H3) (hd : ∀ H, Pv ys.length H → Qd H) :
    ∃ W : Nat → Nat → Hp → Prop, (∃ m, W 0 m (upd H1 D (.lst []))) ∧ ∀ i m H, W i m H →
      ((Itz K a b).stop i H ∧ Qd H) ∨ ((Itz K a b).go i H ∧ ∃ Nx : Hp → Prop, (∀ H', Nx H' → ∃ m', m' < m ∧ W (i + 1) m' H') ∧ ∀ x H', (Itz K a b).yld i H x H' → g x (wipe σ vs) H' fun σ2 H2 => wipe σ2 vs = wipe σ vs ∧ tt σ2 H2 fun b H3 =>
        if b = true then te σ2 H3 fun y H4 => ∃ acc, H4 D = some (.lst acc) ∧ acc.length < sizeLine ∧ Nx (upd H4 D (.lst (acc ++ [y]))) else Nx H3) := by
  refine ⟨fun i m H => m = ys.length - i ∧ i ≤ ys.length ∧ Pv i H, ⟨ys.length, by simp, Nat.zero_le _, h0⟩, ?_⟩
  rintro i m H ⟨rfl, hi, p⟩
  obtain ⟨qx, qy⟩ := hl i H hi p
  by_cases hlt : i < ys.length
  · have hx : xs[i]? = some xs[i] := List.getElem?_eq_getElem (by omega)
    have hy : ys[i]? = some ys[i] := List.getElem?_eq_getElem hlt
    refine .inr ⟨⟨xs, ys, _, _, qx, qy, hx, hy⟩, Pv (i + 1), fun H' p' => ⟨ys.length - (i + 1), by omega, rfl, hlt, p'⟩, fun v H' y => ?_⟩
    obtain ⟨T, x', y', rfl, hT, rfl, f1, f2⟩ := y
    exact hs i x' y' T H (f1 xs qx) (f2 ys qy) p hT
  · have e : i = ys.length := by omega
    subst e
    exact .inl ⟨⟨xs, ys, qx, qy, Or.inr (Nat.le_refl _)⟩, hd H p⟩
end My

namespace MyZ
open PySem PySem.Calls PyProof.Rows RZ
section
variable {prog : Program} {w : World} {A : Around} {E : Value → Shared → Prop} {s : Shared}
theorem zip_no_len : typeLookup (.type "zip") "__len__" = pure none := am_miss_of_fast (by decide +kernel)
theorem zip_no_hint : typeLookup (.type "zip") "__length_hint__" = pure none := am_miss_of_fast (by decide +kernel)
/-- the next pair of two tuples, while the pair before is held -/
theorem next_item {z TI TO T i1 i2 l1 l2 : Addr} {f : Bool} {oT : Obj} {k1 k2 : Nat} {xs ys : Array Value} {x y : Value} {Q : Option Value → Shared → Prop} (D : ZipApart z TI TO i1 i2 l1 l2)
    (hz : IsZipHeld s.heap z TI TO T f) (hT : s.heap.get? T = some oT) (hTI : IsPair s.heap TI (.ref i1) (.ref i2))
    (h1 : s.heap.IsTupleIter i1 l1 k1) (h2 : s.heap.IsTupleIter i2 l2 k2) (hl1 : s.heap.IsTuple l1 xs) (hl2 : s.heap.IsTuple l2 ys) (hx : xs[k1]? = some x) (hy : ys[k2]? = some y)
    (hQ : ∀ h', IsZipHeld h' z TI TO T true → h'.IsTupleIter i1 l1 (k1 + 1) → h'.IsTupleIter i2 l2 (k2 + 1) → IsPair h' s.heap.objs.size x y → h'.objs.size = s.heap.objs.size + 1 →
      (∀ c o, c ≠ z → c ≠ i1 → c ≠ i2 → s.heap.get? c = some o → h'.get? c = some o) → Q (some (.ref s.heap.objs.size)) { s with heap := h' }) :
    wpAny (model prog w) A (pyNext (.ref z)) Q E s := by
  have hTy : s.TypeIs (.ref z) "zip" := ⟨_, hz, rfl⟩
  unfold pyNext
  refine wpAny_bind (wpAny_attempt (wpAny_callSpecial?_slot (name := Str.ofString "__next__") hTy F.slot_zip_next
    (wpAny_call_entry F.slot_zip_next hTy F.entry_zip_next ?_ (F.args_zip_next_1 _))))
  show wpAny _ _ (field (.ref z) 2 >>= _) _ _ _
  refine wpAny_bind (wpAny_field hz rfl (x := .bool false) rfl ?_)
  show wpAny _ _ (field (.ref z) 3 >>= _) _ _ _
  refine wpAny_bind (wpAny_field hz rfl (x := .ref TI) rfl ?_)
  refine wpAny_bind (wpAny_seqItems hTI rfl ?_)
  show wpAny _ _ (Builtin.SmallTypes.ownedTupleIsFree (.ref z) >>= _) _ _ _
  refine wpAny_bind (wpAny_tupleHeld_zip hz hT fun g1 z1 b1 => ?_)
  simp only [Bool.false_eq_true, if_false]
  refine wpAny_bind ?_
  rw [← Array.forIn_toList]
  simp only [List.forIn_cons, List.forIn_nil]
  refine wpAny_bind (wpAny_bind (wpAny_holding ?_))
  show wpAny _ _ (Builtin.SmallTypes.nextOf (.ref i1) >>= _) _ _ _
  refine wpAny_bind (nextOf_tuple_item (s := { s with heap := g1 }) (h1.extBut b1.extBut D.i1z) (hl1.extBut b1.extBut D.l1z) hx fun g2 n1 b2 => wpAny_pure ?_)
  refine wpAny_pure ?_
  refine wpAny_bind (wpAny_bind (wpAny_holding ?_))
  show wpAny _ _ (Builtin.SmallTypes.nextOf (.ref i2) >>= _) _ _ _
  refine wpAny_bind (nextOf_tuple_item (s := { s with heap := g2 }) ((h2.extBut b1.extBut D.i2z).extBut b2.extBut D.i12.symm) ((hl2.extBut b1.extBut D.l2z).extBut b2.extBut D.l2i1) hy fun g3 n2 b3 => wpAny_pure ?_)
  refine wpAny_pure (wpAny_pure ?_)
  show wpAny _ _ (newTuple [x, y] >>= _) _ _ _
  refine wpAny_bind (wpAny_newTuple ?_)
  have hsz : g3.objs.size = s.heap.objs.size := by rw [b3.1, b2.1, b1.1]
  have z3 : IsZipHeld g3 z TI TO T true := b3.extBut _ _ D.i2z.symm (b2.extBut _ _ D.i1z.symm z1)
  have hk : ∀ c o, c ≠ z → c ≠ i1 → c ≠ i2 → s.heap.get? c = some o → g3.get? c = some o := fun c o c1 c2 c3 e => b3.extBut _ _ c3 (b2.extBut _ _ c2 (b1.extBut _ _ c1 e))
  have m1 : g3.IsTupleIter i1 l1 (k1 + 1) := n1.extBut b3.extBut D.i12
  refine wpAny_pure ⟨_, rfl, wpAny_pure ?_⟩
  show Q (some (.ref g3.objs.size)) _
  have hp : IsPair (g3.push { cls := .type "tuple", data := .seq #[x, y] }) g3.objs.size x y := Heap.get?_push_size _ rfl
  have z4 : (g3.push { cls := .type "tuple", data := .seq #[x, y] }).objs.size = g3.objs.size + 1 := Heap.size_push ..
  rw [hsz] at hp z4 ⊢
  exact hQ _ (Heap.get?_push_of_some _ z3) (m1.at fun o e => Heap.get?_push_of_some _ e) (n2.at fun o e => Heap.get?_push_of_some _ e) hp z4 fun c o c1 c2 c3 e => Heap.get?_push_of_some _ (hk c o c1 c2 c3 e)
theorem next_end {z TI TO T i1 i2 l1 l2 : Addr} {f : Bool} {oT : Obj} {k1 k2 : Nat} {xs ys : Array Value} {Q : Option Value → Shared → Prop} (hh : A.handled = none) (D : ZipApart z TI TO i1 i2 l1 l2)
    (hz : IsZipHeld s.heap z TI TO T f) (hT : s.heap.get? T = some oT) (hTI : IsPair s.heap TI (.ref i1) (.ref i2))
    (h1 : s.heap.IsTupleIter i1 l1 k1) (hl1 : s.heap.IsTuple l1 xs) (hend : xs[k1]? = none)
    (hQ : ∀ h', (∀ c o, c ≠ z → c ≠ i1 → c ≠ i2 → s.heap.get? c = some o → h'.get? c = some o) → Q none { s with heap := h' }) :
    wpAny (model prog w) A (pyNext (.ref z)) Q E s := by
  have hTy : s.TypeIs (.ref z) "zip" := ⟨_, hz, rfl⟩
  unfold pyNext
  refine wpAny_bind (wpAny_attempt (wpAny_callSpecial?_slot (name := Str.ofString "__next__") hTy F.slot_zip_next
    (wpAny_call_entry F.slot_zip_next hTy F.entry_zip_next ?_ (F.args_zip_next_1 _))))
  show wpAny _ _ (field (.ref z) 2 >>= _) _ _ _
  refine wpAny_bind (wpAny_field hz rfl (x := .bool false) rfl ?_)
  show wpAny _ _ (field (.ref z) 3 >>= _) _ _ _
  refine wpAny_bind (wpAny_field hz rfl (x := .ref TI) rfl ?_)
  refine wpAny_bind (wpAny_seqItems hTI rfl ?_)
  show wpAny _ _ (Builtin.SmallTypes.ownedTupleIsFree (.ref z) >>= _) _ _ _
  refine wpAny_bind (wpAny_tupleHeld_zip hz hT fun g1 z1 b1 => ?_)
  simp only [Bool.false_eq_true, if_false]
  refine wpAny_bind ?_
  rw [← Array.forIn_toList]
  simp only [List.forIn_cons, List.forIn_nil]
  refine wpAny_bind (wpAny_bind (wpAny_holding ?_))
  show wpAny _ _ (Builtin.SmallTypes.nextOf (.ref i1) >>= _) _ _ _
  refine wpAny_bind (nextOf_tuple_end (s := { s with heap := g1 }) hh (h1.extBut b1.extBut D.i1z) (hl1.extBut b1.extBut D.l1z) hend fun g2 e b2 he => ?_)
  obtain ⟨o, ho, hc⟩ := he
  refine wpAny_bind (wpAny_isInstance (T := "StopIteration") (b := true) ⟨o, ho, hc⟩ isSubtype_stop ?_)
  exact wpAny_pure (hQ _ fun c o c1 c2 _ x => b2 _ _ c2 (b1.extBut _ _ c1 x))
end
end MyZ

namespace MyZ
open PySem PySem.Calls PyProof.Rows RZ
/-- the pairs that have been given out -/
structure PS (n0 : Nat) (xs ys : Array Value) (i : Nat) (acc : List Addr) (h : Heap) : Prop where
  len : acc.length = i
  asc : acc.Pairwise (· < ·)
  lo : ∀ T ∈ acc, n0 ≤ T
  lt : ∀ T ∈ acc, T < h.objs.size
  prs : ∀ (j : Nat) T u v, acc[j]? = some T → xs[j]? = some u → ys[j]? = some v → IsPair h T u v
theorem PS.keep {n0 : Nat} {xs ys : Array Value} {i : Nat} {acc : List Addr} {h h' : Heap} (p : PS n0 xs ys i acc h) (hs : h.objs.size ≤ h'.objs.size) (k : ∀ b o, n0 ≤ b → h.get? b = some o → h'.get? b = some o) : PS n0 xs ys i acc h' :=
  ⟨p.len, p.asc, p.lo, fun T hT => Nat.lt_of_lt_of_le (p.lt T hT) hs, fun j T u v a b c => k T _ (p.lo T (List.mem_of_getElem? a)) (p.prs j T u v a b c)⟩
theorem PS.snoc {n0 : Nat} {xs ys : Array Value} {i T : Nat} {u v : Value} {acc : List Addr} {h : Heap} (p : PS n0 xs ys i acc h) (hT : ∀ x ∈ acc, x < T) (h0 : n0 ≤ T) (h1 : T < h.objs.size) (hx : xs[i]? = some u) (hy : ys[i]? = some v) (hp : IsPair h T u v) : PS n0 xs ys (i + 1) (acc ++ [T]) h := by
  refine ⟨by rw [List.length_append, p.len]; rfl, ?_, ?_, ?_, ?_⟩
  · rw [List.pairwise_append]
    refine ⟨p.asc, List.pairwise_singleton _ _, fun a ha b hb => ?_⟩
    rw [List.mem_singleton] at hb
    subst hb
    exact hT a ha
  · intro x hx
    rcases List.mem_append.mp hx with hx | hx
    · exact p.lo x hx
    · rw [List.mem_singleton] at hx
      subst hx
      exact h0
  · intro x hx
    rcases List.mem_append.mp hx with hx | hx
    · exact p.lt x hx
    · rw [List.mem_singleton] at hx
      subst hx
      exact h1
  · intro j T' a b e1 e2 e3
    rcases Nat.lt_or_ge j acc.length with z | z
    · rw [List.getElem?_append_left z] at e1
      exact p.prs j T' a b e1 e2 e3
    · rw [List.getElem?_append_right z] at e1
      have l := (List.getElem?_eq_some_iff.mp e1).1
      rw [List.length_singleton] at l
      have ej : j = i := by
        rw [p.len] at l z
        omega
      rw [ej, p.len, Nat.sub_self] at e1
      cases e1
      rw [ej, hx] at e2
      rw [ej, hy] at e3
      cases e2
      cases e3
      exact hp
/-- the zip of two tuples, i pairs given out -/
structure ZS (n0 : Nat) (z TI TO i1 i2 l1 l2 : Addr) (xs ys : Array Value) (i : Nat) (acc : List Addr) (h : Heap) : Prop where
  ti : IsPair h TI (.ref i1) (.ref i2)
  a1 : h.IsTupleIter i1 l1 i
  a2 : h.IsTupleIter i2 l2 i
  b1 : h.IsTuple l1 xs
  b2 : h.IsTuple l2 ys
  zz : (IsZip h z TI TO .none ∧ ∃ a b, IsPair h TO a b) ∨ ∃ T f oT, IsZipHeld h z TI TO T f ∧ h.get? T = some oT ∧ n0 ≤ T
  ps : PS n0 xs ys i acc h
structure Low (n0 : Nat) (z TI TO i1 i2 l1 l2 S : Addr) : Prop where
  lz : z < n0
  lTI : TI < n0
  lTO : TO < n0
  li1 : i1 < n0
  li2 : i2 < n0
  ll1 : l1 < n0
  ll2 : l2 < n0
  lS : S < n0
  Sz : S ≠ z
  STI : S ≠ TI
  STO : S ≠ TO
  Si1 : S ≠ i1
  Si2 : S ≠ i2
  Sl1 : S ≠ l1
  Sl2 : S ≠ l2
section
variable {prog : Program} {w : World} {A : Around} {R : Result → Shared → Prop} {n0 : Nat} {z TI TO i1 i2 l1 l2 S : Addr} {xs ys : Array Value} {n : Nat}
theorem zs_step {i : Nat} {acc : List Addr} {s : Shared} {x y : Value} {Q : Option Value → Shared → Prop} {E : Value → Shared → Prop} (D : ZipApart z TI TO i1 i2 l1 l2) (L : Low n0 z TI TO i1 i2 l1 l2 S) (st : ZS n0 z TI TO i1 i2 l1 l2 xs ys i acc s.heap) (h0 : n0 ≤ s.heap.objs.size) (hx : xs[i]? = some x) (hy : ys[i]? = some y)
    (hQ : ∀ h', ZS n0 z TI TO i1 i2 l1 l2 xs ys (i + 1) (acc ++ [s.heap.objs.size]) h' → h'.objs.size = s.heap.objs.size + 1 → (∀ c o, c ≠ z → c ≠ TO → c ≠ i1 → c ≠ i2 → s.heap.get? c = some o → h'.get? c = some o) → Q (some (.ref s.heap.objs.size)) { s with heap := h' }) :
    wpAny (model prog w) A (pyNext (.ref z)) Q E s := by
  have nz : ∀ b, n0 ≤ b → b ≠ z ∧ b ≠ TO ∧ b ≠ i1 ∧ b ≠ i2 := fun b hb => ⟨Nat.ne_of_gt (Nat.lt_of_lt_of_le L.lz hb), Nat.ne_of_gt (Nat.lt_of_lt_of_le L.lTO hb), Nat.ne_of_gt (Nat.lt_of_lt_of_le L.li1 hb), Nat.ne_of_gt (Nat.lt_of_lt_of_le L.li2 hb)⟩
  have fin : ∀ h', (IsZip h' z TI TO .none ∧ ∃ a b, IsPair h' TO a b) ∨ (∃ T f oT, IsZipHeld h' z TI TO T f ∧ h'.get? T = some oT ∧ n0 ≤ T) → h'.IsTupleIter i1 l1 (i + 1) → h'.IsTupleIter i2 l2 (i + 1) → IsPair h' s.heap.objs.size x y → h'.objs.size = s.heap.objs.size + 1 →
      (∀ c o, c ≠ z → c ≠ TO → c ≠ i1 → c ≠ i2 → s.heap.get? c = some o → h'.get? c = some o) → Q (some (.ref s.heap.objs.size)) { s with heap := h' } := fun h' c1 c2 c3 c4 c5 c6 => by
    refine hQ h' ⟨c6 _ _ D.TIz D.TITO D.TIi1 D.TIi2 st.ti, c2, c3, st.b1.at fun o e => c6 _ _ D.l1z D.l1TO D.l1i1 D.l1i2 e, st.b2.at fun o e => c6 _ _ D.l2z D.l2TO D.l2i1 D.l2i2 e, c1, ?_⟩ c5 c6
    refine (st.ps.keep (by omega) fun b o hb e => ?_).snoc st.ps.lt h0 (by omega) hx hy c4
    obtain ⟨d1, d2, d3, d4⟩ := nz b hb
    exact c6 b o d1 d2 d3 d4 e
  rcases st.zz with ⟨hz, a, b, hTO⟩ | ⟨T, f, oT, hz, hT, nT⟩
  · refine pyNext_zipT_item D hz st.ti hTO st.a1 st.a2 st.b1 st.b2 hx hy fun h' c1 c2 c3 c4 c5 c6 c7 => ?_
    exact fin h' (.inr ⟨s.heap.objs.size, false, _, c1, c5, h0⟩) c3 c4 c5 c6 c7
  · refine next_item D hz hT st.ti st.a1 st.a2 st.b1 st.b2 hx hy fun h' c1 c2 c3 c4 c5 c6 => ?_
    obtain ⟨d1, d2, d3, d4⟩ := nz T nT
    exact fin h' (.inr ⟨T, true, oT, c1, c6 T oT d1 d3 d4 hT, nT⟩) c2 c3 c4 c5 fun c o e1 _ e3 e4 e => c6 c o e1 e3 e4 e
theorem zs_end {acc : List Addr} {s : Shared} {Q : Option Value → Shared → Prop} {E : Value → Shared → Prop} (hh : A.handled = none) (D : ZipApart z TI TO i1 i2 l1 l2) (L : Low n0 z TI TO i1 i2 l1 l2 S) (st : ZS n0 z TI TO i1 i2 l1 l2 xs ys n acc s.heap) (hx : xs.size = n)
    (hQ : ∀ h', (∀ c o, c ≠ z → c ≠ TO → c ≠ i1 → c ≠ i2 → s.heap.get? c = some o → h'.get? c = some o) → Q none { s with heap := h' }) :
    wpAny (model prog w) A (pyNext (.ref z)) Q E s := by
  have he : xs[n]? = none := by rw [Array.getElem?_eq_none (by omega)]
  rcases st.zz with ⟨hz, a, b, hTO⟩ | ⟨T, f, oT, hz, hT, nT⟩
  · exact pyNext_zipT_end hh D hz st.ti hTO st.a1 st.a2 st.b1 st.b2 (.inl he) hQ
  · exact next_end (k2 := n) (ys := ys) hh D hz hT st.ti st.a1 st.b1 he fun h' c => hQ h' fun c' o e1 _ e3 e4 e => c c' o e1 e3 e4 e
end
end MyZ

namespace MyZ
open PySem PySem.Calls PyProof.Rows RZ
/-- a plain list's object -/
abbrev lsO (acc : List Addr) (c : Nat) : Obj := { cls := .type "list", dict := none, data := .seq (acc.map Value.ref).toArray c, slots := #[] }
def FK (z TO i1 i2 S : Addr) (h h' : Heap) : Prop := ∀ b o, b ≠ S → b ≠ z → b ≠ TO → b ≠ i1 → b ≠ i2 → h.get? b = some o → h'.get? b = some o
section
variable {prog : Program} {w : World} {A : Around} {R : Result → Shared → Prop} {n0 : Nat} {z TI TO i1 i2 l1 l2 S : Addr} {xs ys : Array Value} {n : Nat}
theorem ZS.keep {i : Nat} {acc : List Addr} {h h' : Heap} (L : Low n0 z TI TO i1 i2 l1 l2 S) (st : ZS n0 z TI TO i1 i2 l1 l2 xs ys i acc h) (hs : h.objs.size ≤ h'.objs.size) (k : ∀ b o, b ≠ S → h.get? b = some o → h'.get? b = some o) : ZS n0 z TI TO i1 i2 l1 l2 xs ys i acc h' := by
  have hi : ∀ b, n0 ≤ b → b ≠ S := fun b hb => Nat.ne_of_gt (Nat.lt_of_lt_of_le L.lS hb)
  refine ⟨k _ _ L.STI.symm st.ti, st.a1.at fun o e => k _ _ L.Si1.symm e, st.a2.at fun o e => k _ _ L.Si2.symm e, st.b1.at fun o e => k _ _ L.Sl1.symm e, st.b2.at fun o e => k _ _ L.Sl2.symm e, ?_, st.ps.keep hs fun b o hb e => k b o (hi b hb) e⟩
  rcases st.zz with ⟨hz, a, b, hTO⟩ | ⟨T, f, oT, hz, hT, nT⟩
  · exact .inl ⟨k _ _ L.Sz.symm hz, a, b, k _ _ L.STO.symm hTO⟩
  · exact .inr ⟨T, f, oT, k _ _ L.Sz.symm hz, k _ _ (hi T nT) hT, nT⟩
theorem zs_loop (hh : A.in1.handled = none) (D : ZipApart z TI TO i1 i2 l1 l2) (L : Low n0 z TI TO i1 i2 l1 l2 S) (hxs : xs.size = n) (hys : ys.size = n) (hn : n ≤ sizeLine) (res : Value) :
    ∀ (k i : Nat) (s : Shared) (acc : List Addr) (c : Nat), n - i = k → i ≤ n → ZS n0 z TI TO i1 i2 l1 l2 xs ys i acc s.heap → n0 ≤ s.heap.objs.size → s.heap.get? S = some (lsO acc c) →
    (∀ h' acc' c', FK z TO i1 i2 S s.heap h' → PS n0 xs ys n acc' h' → h'.get? S = some (lsO acc' c') → R (.ok (.ret res)) { s with heap := h' }) →
    codeAny (model prog w) A (.builtin "list.extend.loop" ⟨[.ref S, .ref z, res], []⟩) R s := by
  intro k
  induction k with
  | zero =>
    intro i s acc c hk hi st h0 hS hR
    have hin : i = n := by omega
    subst hin
    refine codeAny_builtin F.entry_extend_loop ?_
    rw [Around.under_plainId F.plain_extend_loop _]
    show wpAny _ A.in1 (pyNext (.ref z) >>= _) _ _ s
    refine wpAny_bind (zs_end hh D L st hxs fun h' hk => ?_)
    have hi : ∀ b, n0 ≤ b → b ≠ z ∧ b ≠ TO ∧ b ≠ i1 ∧ b ≠ i2 := fun b hb => ⟨Nat.ne_of_gt (Nat.lt_of_lt_of_le L.lz hb), Nat.ne_of_gt (Nat.lt_of_lt_of_le L.lTO hb), Nat.ne_of_gt (Nat.lt_of_lt_of_le L.li1 hb), Nat.ne_of_gt (Nat.lt_of_lt_of_le L.li2 hb)⟩
    have pk : PS n0 xs ys i acc h' := by
      refine ⟨st.ps.len, st.ps.asc, st.ps.lo, fun T hT => ?_, fun j T u v a b c => ?_⟩
      · obtain ⟨j, hj, e⟩ := List.getElem_of_mem hT
        have e1 : acc[j]? = some T := by rw [List.getElem?_eq_getElem hj, e]
        have lj : j < i := by rw [← st.ps.len]; exact hj
        have e2 : xs[j]? = some xs[j] := Array.getElem?_eq_getElem (by omega)
        have e3 : ys[j]? = some ys[j] := Array.getElem?_eq_getElem (by omega)
        have hp := st.ps.prs j T _ _ e1 e2 e3
        obtain ⟨d1, d2, d3, d4⟩ := hi T (st.ps.lo T hT)
        exact Heap.lt_size (hk T _ d1 d2 d3 d4 hp)
      · obtain ⟨d1, d2, d3, d4⟩ := hi T (st.ps.lo T (List.mem_of_getElem? a))
        exact hk T _ d1 d2 d3 d4 (st.ps.prs j T u v a b c)
    exact wpAny_pure (hR h' acc c (fun b o _ c1 c2 c3 c4 e => hk b o c1 c2 c3 c4 e) pk (hk S _ L.Sz L.STO L.Si1 L.Si2 hS))
  | succ k ih =>
    intro i s acc c hk hi st h0 hS hR
    have hlt : i < n := by omega
    refine codeAny_builtin F.entry_extend_loop ?_
    rw [Around.under_plainId F.plain_extend_loop _]
    show wpAny _ A.in1 (pyNext (.ref z) >>= _) _ _ s
    have e2 : xs[i]? = some xs[i] := Array.getElem?_eq_getElem (by omega)
    have e3 : ys[i]? = some ys[i] := Array.getElem?_eq_getElem (by omega)
    refine wpAny_bind (zs_step D L st h0 e2 e3 fun h1 st1 sz1 fk1 => ?_)
    have hS1 := fk1 S _ L.Sz L.STO L.Si1 L.Si2 hS
    show wpAny _ A.in1 (updateSeq S (·.push (.ref s.heap.objs.size)) >>= _) _ _ _
    refine wpAny_bind ?_
    have la := st.ps.len
    have hU := Heap.get?_update_self (Obj.mapSeq (·.push (Value.ref s.heap.objs.size))) hS1 rfl
    have eU : Obj.mapSeq (·.push (Value.ref s.heap.objs.size)) (lsO acc c) = lsO (acc ++ [s.heap.objs.size]) (if ((acc.map Value.ref).toArray.push (Value.ref s.heap.objs.size)).size == (acc.map Value.ref).toArray.size then c else c + 1) := by
      simp only [Obj.mapSeq, lsO, List.map_append, List.map_cons, List.map_nil, List.push_toArray]
    rw [eU] at hU
    refine wpAny_updateSeq hS1 rfl (wpAny_pure ⟨plainId_quiet F.plain_extend_loop _, ih (i + 1) _ (acc ++ [s.heap.objs.size]) _ (by omega) hlt (ZS.keep L st1 (by show h1.objs.size ≤ (h1.update S _).objs.size; rw [Heap.size_update]; exact Nat.le_refl _) fun b o hb e => ?_) (by show n0 ≤ (h1.update S _).objs.size; rw [Heap.size_update]; omega) hU fun h' acc' c' fk ps' hS' => ?_⟩)
      (by rw [List.size_toArray, List.length_map]; omega) (by simp only [Array.size_push, List.size_toArray, List.length_map]; omega)
    · exact (Heap.get?_update_other _ _ (Ne.symm hb)).trans e
    · refine hR h' acc' c' (fun b o c0 c1 c2 c3 c4 e => fk b o c0 c1 c2 c3 c4 ?_) ps' hS'
      exact (Heap.get?_update_other _ _ (Ne.symm c0)).trans (fk1 b o c1 c2 c3 c4 e)
end
end MyZ

namespace MyZ
open PySem PySem.Calls PyProof.Rows RZ
section
variable {prog : Program} {w : World} {A : Around} {R : Result → Shared → Prop} {n0 : Nat} {z TI TO i1 i2 l1 l2 S : Addr} {xs ys : Array Value} {n : Nat} {s : Shared}
theorem zs_extend (hh : A.in1.handled = none) (D : ZipApart z TI TO i1 i2 l1 l2) (L : Low n0 z TI TO i1 i2 l1 l2 S) (hxs : xs.size = n) (hys : ys.size = n) (hn : n ≤ sizeLine) (res : Value) (c : Nat)
    (hz : IsZip s.heap z TI TO .none) (st : ZS n0 z TI TO i1 i2 l1 l2 xs ys 0 [] s.heap) (h0 : n0 ≤ s.heap.objs.size) (hS : s.heap.get? S = some (lsO [] c))
    (hR : ∀ h' acc' c', FK z TO i1 i2 S s.heap h' → PS n0 xs ys n acc' h' → h'.get? S = some (lsO acc' c') → R (.ok (.ret res)) { s with heap := h' }) :
    wpAny (model prog w) A.in1 (Builtin.List.listExtendWith (.ref S) (.ref z) res)
      (fun fin s' => match fin with | .done f => R (.ok f) s' | .again c' => c'.quiet = true ∧ codeAny (model prog w) A c' R s') (fun e s' => R (.error e) s') s := by
  have hT : s.TypeIs (.ref z) "zip" := ⟨_, hz, rfl⟩
  unfold Builtin.List.listExtendWith
  refine wpAny_bind (wpAny_typeOf hT ?_)
  have t1 : Builtin.List.listSameRef (.ref S) (.ref z) = false := by simp [Builtin.List.listSameRef, L.Sz]
  have t2 : (Value.type "zip" == Value.type "list") = false := by decide
  have t3 : (Value.type "zip" == Value.type "tuple") = false := by decide
  simp only [t1, t2, t3, Bool.or_false, Bool.false_eq_true, if_false]
  refine wpAny_bind (wpAny_pyIter_zip hz ?_)
  refine wpAny_bind (wpAny_holding ?_)
  unfold Builtin.List.listLengthHint
  refine wpAny_bind (wpAny_specialOf hT zip_no_len ?_)
  show wpAny _ A.in1 (specialOf (Value.ref z) (Str.ofString "__length_hint__") >>= _) _ _ _
  refine wpAny_bind (wpAny_specialOf hT zip_no_hint ?_)
  refine wpAny_pure ?_
  show wpAny _ A.in1 (rule "list.extend.makes-room" >>= fun _ => Builtin.List.listTouch (.ref S) >>= fun _ =>
    again (.builtin "list.extend.loop" ⟨[.ref S, .ref z, res], []⟩)) _ _ _
  refine wpAny_bind (wpAny_rule ?_)
  refine wpAny_bind ?_
  show wpAny _ A.in1 (updateSeq S (·.push .none) >>= fun _ => updateSeq S (·.pop)) _ _ _
  refine wpAny_bind (wpAny_updateSeq (hz := by seq_fits) hS rfl ?_)
  have hS2 := Heap.get?_update_self (Obj.mapSeq (·.push Value.none)) hS rfl
  refine wpAny_updateSeq (hz := by seq_fits) hS2 rfl ?_
  have hS3 := Heap.get?_update_self (Obj.mapSeq (·.pop)) hS2 rfl
  have oth : ∀ b o, b ≠ S → s.heap.get? b = some o → ((s.heap.update S (Obj.mapSeq (·.push Value.none))).update S (Obj.mapSeq (·.pop))).get? b = some o :=
    fun b o hb e => (Heap.get?_update_other _ _ (Ne.symm hb)).trans ((Heap.get?_update_other _ _ (Ne.symm hb)).trans e)
  refine wpAny_pure ⟨plainId_quiet F.plain_extend_loop _, zs_loop hh D L hxs hys hn res n 0 _ [] (c + 1 + 1) rfl (Nat.zero_le _) (ZS.keep L st ?_ oth) ?_ hS3 fun h' acc' c' fk ps' hS' => ?_⟩
  · show s.heap.objs.size ≤ ((s.heap.update S _).update S _).objs.size
    rw [Heap.size_update, Heap.size_update]
    exact Nat.le_refl _
  · show n0 ≤ ((s.heap.update S _).update S _).objs.size
    rw [Heap.size_update, Heap.size_update]
    exact h0
  · exact hR h' acc' c' (fun b o c0 c1 c2 c3 c4 e => fk b o c0 c1 c2 c3 c4 (oth b o c0 e)) ps' hS'
theorem zs_init (hh : A.in1.handled = none) (D : ZipApart z TI TO i1 i2 l1 l2) (L : Low n0 z TI TO i1 i2 l1 l2 S) (hxs : xs.size = n) (hys : ys.size = n) (hn : n ≤ sizeLine)
    (hz : IsZip s.heap z TI TO .none) (st : ZS n0 z TI TO i1 i2 l1 l2 xs ys 0 [] s.heap) (h0 : n0 ≤ s.heap.objs.size) (hS : s.heap.get? S = some { cls := .type "list", data := .seq #[] })
    (hR : ∀ h' acc' c', FK z TO i1 i2 S s.heap h' → PS n0 xs ys n acc' h' → h'.get? S = some (lsO acc' c') → R (.ok (.ret .none)) { s with heap := h' }) :
    wpAny (model prog w) A.in1 (Builtin.«list.__init__» ⟨[.ref S, .ref z], []⟩)
      (fun fin s' => match fin with | .done f => R (.ok f) s' | .again c' => c'.quiet = true ∧ codeAny (model prog w) A c' R s') (fun e s' => R (.error e) s') s := by
  show wpAny _ A.in1 (do let old ← Builtin.List.listItems (.ref S); Builtin.List.listUpdate (.ref S) (fun _ => #[]); letGo old.toList.reverse; Builtin.List.listExtendWith (.ref S) (.ref z) .none) _ _ s
  refine wpAny_bind ?_
  unfold Builtin.List.listItems
  refine wpAny_bind (wpAny_seqItems hS rfl (wpAny_pure ?_))
  show wpAny _ A.in1 (updateSeq S (fun _ => #[]) >>= fun _ => letGo (#[] : Array Value).toList.reverse >>= fun _ => Builtin.List.listExtendWith (.ref S) (.ref z) .none) _ _ s
  refine wpAny_bind (wpAny_updateSeq hS rfl ?_)
  have hS2 := Heap.get?_update_self (Obj.mapSeq (fun _ => (#[] : Array Value))) hS rfl
  have oth : ∀ b o, b ≠ S → s.heap.get? b = some o → (s.heap.update S (Obj.mapSeq (fun _ => (#[] : Array Value)))).get? b = some o :=
    fun b o hb e => (Heap.get?_update_other _ _ (Ne.symm hb)).trans e
  refine wpAny_bind (wpAny_letGo ?_)
  refine zs_extend hh D L hxs hys hn .none 0 (oth _ _ L.Sz.symm hz) (ZS.keep L st ?_ oth) ?_ hS2 fun h' acc' c' fk ps' hS' => ?_
  · show s.heap.objs.size ≤ (s.heap.update S _).objs.size
    rw [Heap.size_update]
    exact Nat.le_refl _
  · show n0 ≤ (s.heap.update S _).objs.size
    rw [Heap.size_update]
    exact h0
  · exact hR h' acc' c' (fun b o c0 c1 c2 c3 c4 e => fk b o c0 c1 c2 c3 c4 (oth b o c0 e)) ps' hS'
end
/-- list(z), z a zip of two tuples of one length -/
theorem call_listZip {prog : Program} {w : World} {A : Around} {E : Value → Shared → Prop} {s : Shared} {z TI TO i1 i2 l1 l2 : Addr} {xs ys : Array Value} {n : Nat} {Q : Value → Shared → Prop} (hh : A.handled = none) (D : ZipApart z TI TO i1 i2 l1 l2) (hxs : xs.size = n) (hys : ys.size = n) (hn : n ≤ sizeLine)
    (hz : IsZip s.heap z TI TO .none) (hTI : IsPair s.heap TI (.ref i1) (.ref i2)) {a b : Value} (hTO : IsPair s.heap TO a b) (a1 : s.heap.IsTupleIter i1 l1 0) (a2 : s.heap.IsTupleIter i2 l2 0) (b1 : s.heap.IsTuple l1 xs) (b2 : s.heap.IsTuple l2 ys)
    (hQ : ∀ h' acc c', (∀ b o, b ≠ z → b ≠ TO → b ≠ i1 → b ≠ i2 → s.heap.get? b = some o → h'.get? b = some o) → PS (s.heap.objs.size + 1) xs ys n acc h' → h'.get? s.heap.objs.size = some (lsO acc c') → Q (.ref s.heap.objs.size) { s with heap := h' }) :
    wpAny (model prog w) A (call (.type "list") [.ref z]) Q E s := by
  refine callType_codes (Q₁ := fun obj s₁ => obj = .ref s.heap.objs.size ∧ s₁ = { s with heap := s.heap.push { cls := .type "list", data := .seq #[] } }) PySem.F.called_list (PySem.F.typeCall_list_1 _) PySem.F.entry_list_init
    (code_list_new _ ⟨rfl, rfl⟩) fun obj s₁ h₁ => ?_
  obtain ⟨rfl, rfl⟩ := h₁
  have hS : (s.heap.push { cls := .type "list", data := .seq #[] }).get? s.heap.objs.size = some { cls := .type "list", data := .seq #[] } := Heap.get?_push_size _ rfl
  have up : ∀ b o, s.heap.get? b = some o → (s.heap.push { cls := .type "list", data := .seq #[] }).get? b = some o := fun b o e => Heap.get?_push_of_some _ e
  have g1 := Heap.lt_size hz
  have g2 := Heap.lt_size hTI
  have g3 := Heap.lt_size hTO
  have g4 : i1 < s.heap.objs.size := by obtain ⟨_, e, _⟩ := a1; exact Heap.lt_size e
  have g5 : i2 < s.heap.objs.size := by obtain ⟨_, e, _⟩ := a2; exact Heap.lt_size e
  have g6 : l1 < s.heap.objs.size := by obtain ⟨_, e, _⟩ := b1; exact Heap.lt_size e
  have g7 : l2 < s.heap.objs.size := by obtain ⟨_, e, _⟩ := b2; exact Heap.lt_size e
  have sz := Heap.size_push s.heap { cls := .type "list", data := .seq #[] }
  have L : Low (s.heap.objs.size + 1) z TI TO i1 i2 l1 l2 s.heap.objs.size := ⟨Nat.lt_succ_of_lt g1, Nat.lt_succ_of_lt g2, Nat.lt_succ_of_lt g3, Nat.lt_succ_of_lt g4, Nat.lt_succ_of_lt g5, Nat.lt_succ_of_lt g6, Nat.lt_succ_of_lt g7, Nat.lt_succ_self _,
    Nat.ne_of_gt g1, Nat.ne_of_gt g2, Nat.ne_of_gt g3, Nat.ne_of_gt g4, Nat.ne_of_gt g5, Nat.ne_of_gt g6, Nat.ne_of_gt g7⟩
  refine ⟨⟨_, hS, rfl⟩, PySem.F.args_list_init_2 _ _, zs_init (A := A.in1) hh D L hxs hys hn (up _ _ hz)
    ⟨up _ _ hTI, a1.at fun o e => up _ _ e, a2.at fun o e => up _ _ e, b1.at fun o e => up _ _ e, b2.at fun o e => up _ _ e, .inl ⟨up _ _ hz, a, b, up _ _ hTO⟩, ⟨rfl, List.Pairwise.nil, fun T h => (by cases h), fun T h => (by cases h), fun j T u v h => (by simp at h)⟩⟩ (Nat.le_of_eq sz.symm) hS fun h' acc' c' fk ps' hS' => ?_⟩
  exact ⟨rfl, hQ h' acc' c' (fun b o c1 c2 c3 c4 e => fk b o (Nat.ne_of_lt (Heap.lt_size e)) c1 c2 c3 c4 (up b o e)) ps' hS'⟩
end MyZ

namespace My
open PySem PySem.Spec PyProof.Rows L2 RZ
/-- the heap with the pairs and their list -/
def zipH (H : Hp) (S : Addr) (acc : List Addr) (xs ys : List V) : Hp := fun b =>
  if b = S then some (.lst (acc.map V.ref)) else if b ∈ acc then some (.tup [xs.getD (acc.idxOf b) .non, ys.getD (acc.idxOf b) .non]) else H b
theorem zipH_S {H : Hp} {S : Addr} {acc : List Addr} {xs ys : List V} : zipH H S acc xs ys S = some (.lst (acc.map V.ref)) := if_pos rfl
theorem zipH_old {H : Hp} {S b n : Addr} {acc : List Addr} {xs ys : List V} (hb : b < n) (hS : n ≤ S) (ha : ∀ T ∈ acc, n ≤ T) : zipH H S acc xs ys b = H b := by
  unfold zipH
  rw [if_neg (fun e => absurd hb (by rw [e]; exact Nat.not_lt.mpr hS)), if_neg (fun e => absurd hb (Nat.not_lt.mpr (ha b e)))]
theorem idx_asc {acc : List Addr} (h : acc.Pairwise (· < ·)) {i : Nat} {T : Addr} (e : acc[i]? = some T) : acc.idxOf T = i := by
  have nd : acc.Nodup := h.imp fun h => Nat.ne_of_lt h
  obtain ⟨hi, e⟩ := List.getElem?_eq_some_iff.mp e
  subst e
  exact nd.idxOf_getElem i hi
theorem zipH_T {H : Hp} {S T : Addr} {acc : List Addr} {xs ys : List V} {i : Nat} {x y : V} (h : acc.Pairwise (· < ·)) (e : acc[i]? = some T) (n : T ≠ S) (hx : xs[i]? = some x) (hy : ys[i]? = some y) : zipH H S acc xs ys T = some (.tup [x, y]) := by
  unfold zipH
  rw [if_neg n, if_pos (List.mem_of_getElem? e), idx_asc h e]
  simp [List.getD, hx, hy]
theorem vals_refs : ∀ acc : List Addr, Vals (acc.map V.ref) (acc.map Value.ref)
  | [] => .nil
  | a :: r => .cons rfl (vals_refs r)
def tListZip (K : PySem.W.Frag) (ta : TA) : TE := fun σ H Q => ta σ H fun vs H1 => ∃ a b xs ys, vs = [V.ref a, .ref b] ∧ SqT K H1 a xs ∧ SqT K H1 b ys ∧ xs.length = ys.length ∧
  ∀ S (ts : List Addr) H', H1 S = none → Same H1 H' → H' S = some (.lst (ts.map V.ref)) → ts.length = xs.length → (∀ (i : Nat) T x y, ts[i]? = some T → xs[i]? = some x → ys[i]? = some y → H' T = some (.tup [x, y])) → Q (.ref S) H'
section
variable {X : Cx} {e e2 : Expr} {ta : TA} {p p2 pos qos : Pos}
theorem pe_listZip (hc : X.calm = true) (hg : Gl X "list") (hm : X.mg "list" = none) (hg2 : Gl X "zip") (hm2 : X.mg "zip" = none) (ha : PA X [e, e2] ta)
    (hs : starEach [e, e2] X.env = (false, eval e X.env) :: starEach [e2] X.env := by rfl) (hpl : (backTo qos (starEach [e2] X.env)).any (·.1) = false := by rfl)
    (hse : starEach [Expr.Call (.Name "zip" p2) [e, e2] [] qos] X.env = [(false, eval (Expr.Call (.Name "zip" p2) [e, e2] [] qos) X.env)] := by rfl) :
    PE X (.Call (.Name "list" p) [.Call (.Name "zip" p2) [e, e2] [] qos] [] pos) (tListZip X.K ta) := by
  refine ⟨fun pins s σ H Q I h => ?_⟩
  refine wpAny_Call_Name_kw (ld_blt I hg hm (u := .type "list") (by first | rfl | decide +kernel) ?_ (by first | decide +kernel | decide) (by first | decide +kernel | decide))
  rw [hse]
  refine PySem.callWith_type1 ?_
  refine Call_ (ld_blt I hg2 hm2 PyProof.Rows.boot_zip (PyProof.Rows.callWith_type1 (thn (ha.run qos pins s σ H _ I h) fun us s1 ⟨vs, H1, I1, r1, q1⟩ => ?_) hs hpl))
  obtain ⟨a, b, xs, ys, ex, hqx, hqy, hl, q⟩ := q1
  subst ex
  cases r1 with
  | cons r rr =>
    cases rr with
    | cons r' rr =>
      cases rr
      cases r
      cases r'
      obtain ⟨its, rv, b1, z1⟩ := I1.tuple hqx
      obtain ⟨its2, rv2, b2, z2⟩ := I1.tuple hqy
      have l1 := rv.length
      have l2 := rv2.length
      refine RZ.call_zipT b1 b2 fun h1 hz hTI hTO a1 a2 hsz hk => ?_
      have g4 : a < s1.heap.objs.size := by obtain ⟨_, e, _⟩ := b1; exact Heap.lt_size e
      have g5 : b < s1.heap.objs.size := by obtain ⟨_, e, _⟩ := b2; exact Heap.lt_size e
      have a1' : h1.IsTuple a its.toArray := let ⟨o, e, r⟩ := b1; ⟨o, hk _ _ e, r⟩
      have b2' : h1.IsTuple b its2.toArray := let ⟨o, e, r⟩ := b2; ⟨o, hk _ _ e, r⟩
      refine MyZ.call_listZip (s := { s1 with heap := h1 }) (n := xs.length) (I1.ok.hd hc) (PySem.W.ktu_apart s1.heap.objs.size a b g4 g5) (by rw [List.size_toArray]; omega) (by rw [List.size_toArray]; omega) z1 hz hTI hTO a1 a2 a1' b2' fun h2 acc c' fk ps hS => ?_
      have n5 : h1.objs.size = s1.heap.objs.size + 5 := hsz
      have k : ∀ c o, s1.heap.get? c = some o → h2.get? c = some o := fun c o ec => by
        have lc := Heap.lt_size ec
        exact fk c o (fun z => by rw [z] at lc; exact absurd lc (Nat.not_lt.mpr (Nat.le_add_right _ _))) (fun z => by rw [z] at lc; exact absurd lc (Nat.not_lt.mpr (Nat.le_add_right _ _))) (fun z => by rw [z] at lc; exact absurd lc (Nat.lt_irrefl _)) (fun z => by rw [z] at lc; exact absurd lc (Nat.not_lt.mpr (Nat.le_add_right _ _))) (hk c o ec)
      have lS : s1.heap.objs.size ≤ h1.objs.size := by omega
      have lT : ∀ T ∈ acc, s1.heap.objs.size ≤ T := fun T hT => Nat.le_trans (by show s1.heap.objs.size ≤ h1.objs.size + 1; omega) (ps.lo T hT)
      have nT : ∀ T ∈ acc, T ≠ h1.objs.size := fun T hT => Nat.ne_of_gt (ps.lo T hT)
      have old : ∀ c, c < s1.heap.objs.size → zipH H1 h1.objs.size acc xs ys c = H1 c := fun c lc => zipH_old lc lS lT
      have el : ∀ (i : Nat) T, acc[i]? = some T → ∃ x y u v, xs[i]? = some x ∧ ys[i]? = some y ∧ RelV x u ∧ RelV y v ∧ IsPair h2 T u v := fun i T eT => by
        have hi := (List.getElem?_eq_some_iff.mp eT).1
        have la := ps.len
        have hx : xs[i]? = some xs[i] := List.getElem?_eq_getElem (by omega)
        have hy : ys[i]? = some ys[i] := List.getElem?_eq_getElem (by omega)
        obtain ⟨u, hu, ru⟩ := rv.get hx
        obtain ⟨v, hv, rv'⟩ := rv2.get hy
        exact ⟨_, _, u, v, hx, hy, ru, rv', ps.prs i T u v eT (by simpa using hu) (by simpa using hv)⟩
      have un : Un X.fs [] H1 (zipH H1 h1.objs.size acc xs ys) s1.heap h2 := ⟨fun c o ec _ _ _ => k c o ec, fun c o ec _ _ _ => ⟨o.slots, k c o ec⟩, fun c o ec n _ => (old c (Heap.lt_size ec)).trans n, fun c o ec _ => ⟨o, k c o ec⟩,
        fun c zs ec => (old c (I1.hok.lt ec)).trans ec, fun c o u ec => (old c (I1.hok.lt ec)).trans ec, fun c pz ec => ⟨#[], by rw [old c (I1.hok.lt ec), ec]; simp⟩⟩
      have hok : HOk X.prog X.w (zipH H1 h1.objs.size acc xs ys) h2 := fun c o ec => by
        by_cases lc : c < s1.heap.objs.size
        · rw [old c lc] at ec
          exact (I1.hok c o ec).stay (fun b u _ q => k b u q) (fun b q => (old b (I1.hok.lt q)).trans q) fun b zs q => (old b (I1.hok.lt q)).trans q
        · by_cases cS : c = h1.objs.size
          · rw [cS, zipH_S] at ec
            cases ec
            rw [cS]
            exact ⟨by rw [List.length_map, ps.len]; exact z1, acc.map Value.ref, c', vals_refs acc, hS⟩
          · by_cases cm : c ∈ acc
            · obtain ⟨i, hi, ei⟩ := List.getElem_of_mem cm
              have eT : acc[i]? = some c := by rw [List.getElem?_eq_getElem hi, ei]
              obtain ⟨x, y, u, v, hx, hy, ru, rv', pr⟩ := el i c eT
              rw [zipH_T ps.asc eT cS hx hy] at ec
              cases ec
              exact ⟨by show 2 ≤ sizeLine; decide, [u, v], .cons ru (.cons rv' .nil), ⟨_, pr, rfl, _, rfl⟩⟩
            · exfalso
              unfold zipH at ec
              rw [if_neg cS, if_neg cm] at ec
              exact lc (I1.hok.lt ec)
      exact ⟨.ref h1.objs.size, _, I1.un (t' := s1.toks) un hok, rfl, q h1.objs.size acc _ (I1.hok.fresh lS) (fun c o ec => (old c (I1.hok.lt ec)).trans ec) zipH_S (by rw [ps.len]) fun i T x y eT hx hy => zipH_T ps.asc eT (nT T (List.mem_of_getElem? eT)) hx hy⟩
end
end My

namespace My
open PySem PySem.Spec PyProof.Rows L2
/-! ### numbers: fractions in lowest terms -/
abbrev Qt := Int × Int
def Nf (q : Qt) : Prop := 1 ≤ q.2 ∧ Int.gcd q.1 q.2 = 1
/-- q is t / b in lowest terms -/
def Is (q : Qt) (t b : Int) : Prop := Nf q ∧ q.1 * b = t * q.2
def Sz (k : Nat) (q : Qt) : Prop := q.1.natAbs < 2 ^ k ∧ q.2.natAbs < 2 ^ k
theorem nf_cop {q : Qt} (h : Nf q) : Nat.Coprime q.1.natAbs q.2.natAbs := h.2
theorem nf_unique {p q : Qt} (hp : Nf p) (hq : Nf q) (h : p.1 * q.2 = q.1 * p.2) : p = q := by
  have h1 : p.1.natAbs * q.2.natAbs = q.1.natAbs * p.2.natAbs := by rw [← Int.natAbs_mul, ← Int.natAbs_mul, h]
  have d1 : p.2.natAbs ∣ q.2.natAbs := (nf_cop hp).symm.dvd_of_dvd_mul_left (n := q.2.natAbs) (m := p.1.natAbs) (by rw [h1]; exact Nat.dvd_mul_left _ _)
  have d2 : q.2.natAbs ∣ p.2.natAbs := (nf_cop hq).symm.dvd_of_dvd_mul_left (n := p.2.natAbs) (m := q.1.natAbs) (by rw [← h1]; exact Nat.dvd_mul_left _ _)
  have e := Nat.dvd_antisymm d1 d2
  have a1 := hp.1
  have a2 := hq.1
  have e2 : p.2 = q.2 := by omega
  rw [e2] at h
  have e1 : p.1 = q.1 := Int.eq_of_mul_eq_mul_right (show q.2 ≠ 0 by omega) h
  exact Prod.ext e1 e2
theorem is_unique {p q : Qt} {t b : Int} (hb : b ≠ 0) (hp : Is p t b) (hq : Is q t b) : p = q := by
  refine nf_unique hp.1 hq.1 ?_
  have h1 := hp.2
  have h2 := hq.2
  have h3 : b * (p.1 * q.2) = b * (q.1 * p.2) := by
    have e1 : b * (p.1 * q.2) = (p.1 * b) * q.2 := by rw [Int.mul_comm p.1 b, Int.mul_assoc]
    have e2 : b * (q.1 * p.2) = (q.1 * b) * p.2 := by rw [Int.mul_comm q.1 b, Int.mul_assoc]
    rw [e1, e2, h1, h2, Int.mul_assoc, Int.mul_assoc, Int.mul_comm p.2 q.2]
  exact Int.eq_of_mul_eq_mul_left hb h3
theorem is_le {q : Qt} {t b : Int} (hb : b ≠ 0) (h : Is q t b) : q.1.natAbs ≤ t.natAbs ∧ q.2.natAbs ≤ b.natAbs := by
  have h1 : q.1.natAbs * b.natAbs = t.natAbs * q.2.natAbs := by rw [← Int.natAbs_mul, ← Int.natAbs_mul, h.2]
  have d : q.2.natAbs ∣ b.natAbs := (nf_cop h.1).symm.dvd_of_dvd_mul_left (n := b.natAbs) (m := q.1.natAbs) (by rw [h1]; exact Nat.dvd_mul_left _ _)
  have hb' : 0 < b.natAbs := by omega
  have le2 := Nat.le_of_dvd hb' d
  refine ⟨?_, le2⟩
  have q2 : 0 < q.2.natAbs := by have := h.1.1; omega
  have h2 : q.1.natAbs * q.2.natAbs ≤ t.natAbs * q.2.natAbs := by rw [← h1]; exact Nat.mul_le_mul_left _ le2
  exact Nat.le_of_mul_le_mul_right h2 q2
theorem is_sz {q : Qt} {t b : Int} {k : Nat} (hb : b ≠ 0) (h : Is q t b) (ht : t.natAbs < 2 ^ k) (hk : b.natAbs < 2 ^ k) : Sz k q :=
  ⟨Nat.lt_of_le_of_lt (is_le hb h).1 ht, Nat.lt_of_le_of_lt (is_le hb h).2 hk⟩
/-- exact division by the greatest common divisor -/
theorem gcd_pos {t b : Int} (hb : b ≠ 0) : 0 < Int.gcd t b := Nat.gcd_pos_of_pos_right _ (by omega)
theorem gcd_le {t b : Int} (hb : b ≠ 0) : Int.gcd t b ≤ b.natAbs := Nat.le_of_dvd (by omega) (Nat.gcd_dvd_right _ _)
theorem is_div {t b : Int} (hb : 0 < b) : Is (t / (Int.gcd t b : Nat), b / (Int.gcd t b : Nat)) t b := by
  have hg := gcd_pos (t := t) (b := b) (by omega)
  obtain ⟨x, hx⟩ := Int.gcd_dvd_left (a := t) (b := b)
  obtain ⟨y, hy⟩ := Int.gcd_dvd_right (a := t) (b := b)
  have hg' : ((Int.gcd t b : Nat) : Int) ≠ 0 := by omega
  have e1 : t / (Int.gcd t b : Nat) = x := by conv => lhs; lhs; rw [hx]
                                              exact Int.mul_ediv_cancel_left _ hg'
  have e2 : b / (Int.gcd t b : Nat) = y := by conv => lhs; lhs; rw [hy]
                                              exact Int.mul_ediv_cancel_left _ hg'
  rw [e1, e2]
  have hy0 : 0 < y := by
    rcases Int.lt_trichotomy y 0 with z | z | z
    · have := Int.mul_neg_of_pos_of_neg (show (0 : Int) < (Int.gcd t b : Nat) by omega) z
      omega
    · rw [z, Int.mul_zero] at hy
      omega
    · exact z
  refine ⟨⟨by show 1 ≤ y; omega, ?_⟩, ?_⟩
  · show Int.gcd x y = 1
    have h : Int.gcd t b = Int.gcd t b * Int.gcd x y := by
      have k : Int.gcd (((Int.gcd t b : Nat) : Int) * x) (((Int.gcd t b : Nat) : Int) * y) = Int.gcd t b * Int.gcd x y := by rw [Int.gcd_mul_left, Int.natAbs_natCast]
      rwa [← hx, ← hy] at k
    exact Nat.eq_of_mul_eq_mul_left hg (by rw [← h, Nat.mul_one])
  · show x * b = t * y
    conv => lhs; rw [hy]
    conv => rhs; rw [hx]
    rw [← Int.mul_assoc, Int.mul_comm x]
theorem is_neg {q : Qt} {t b : Int} (h : Is q (-t) (-b)) : Is q t b := ⟨h.1, by have := h.2; rw [Int.mul_neg, Int.neg_mul] at this; omega⟩
theorem gcd_neg2 (t b : Int) : Int.gcd (-t) (-b) = Int.gcd t b := by rw [Int.gcd_neg, Int.neg_gcd]
/-- what fraction hands back -/
theorem is_fdiv {t b : Int} (hb : b ≠ 0) : Is (t.fdiv (if b < 0 then -((Int.gcd t b : Nat) : Int) else (Int.gcd t b : Nat)), b.fdiv (if b < 0 then -((Int.gcd t b : Nat) : Int) else (Int.gcd t b : Nat))) t b := by
  by_cases h : b < 0
  · rw [if_pos h]
    have e := is_div (t := -t) (b := -b) (by omega)
    rw [gcd_neg2] at e
    have k : ∀ x : Int, x.fdiv (-((Int.gcd t b : Nat) : Int)) = (-x) / ((Int.gcd t b : Nat) : Int) := fun x => by
      rw [← Int.fdiv_eq_ediv_of_nonneg _ (by omega), ← Int.neg_fdiv_neg (-x), Int.neg_neg]
    rw [k, k]
    exact is_neg e
  · rw [if_neg h, Int.fdiv_eq_ediv_of_nonneg _ (by omega), Int.fdiv_eq_ediv_of_nonneg _ (by omega)]
    exact is_div (by omega)
theorem mulW {i j : Int} {a b : Nat} (ha : i.natAbs < 2 ^ a) (hb : j.natAbs < 2 ^ b) (h : a + b ≤ 900000) : CMulW i j := by
  refine wide_mul (a := a + 1) (b := b + 1) (Nat.lt_of_lt_of_le ha (Nat.pow_le_pow_right (by omega) (by omega))) (Nat.lt_of_lt_of_le hb (Nat.pow_le_pow_right (by omega) (by omega))) (by omega) (by omega) (by omega)
theorem szMul {i j : Int} {a b : Nat} (ha : i.natAbs < 2 ^ a) (hb : j.natAbs < 2 ^ b) : (i * j).natAbs < 2 ^ (a + b) := wide_lt ha hb
theorem szAdd {i j : Int} {a b c : Nat} (ha : i.natAbs < 2 ^ a) (hb : j.natAbs < 2 ^ b) (h1 : a + 1 ≤ c) (h2 : b + 1 ≤ c) : (i + j).natAbs < 2 ^ c := by
  have e1 : 2 ^ (a + 1) ≤ 2 ^ c := Nat.pow_le_pow_right (by omega) h1
  have e2 : 2 ^ (b + 1) ≤ 2 ^ c := Nat.pow_le_pow_right (by omega) h2
  rw [Nat.pow_succ] at e1 e2
  have := Int.natAbs_add_le i j
  omega
theorem szSub {i j : Int} {a b c : Nat} (ha : i.natAbs < 2 ^ a) (hb : j.natAbs < 2 ^ b) (h1 : a + 1 ≤ c) (h2 : b + 1 ≤ c) : (i - j).natAbs < 2 ^ c := by
  rw [Int.sub_eq_add_neg]
  exact szAdd ha (by rw [Int.natAbs_neg]; exact hb) h1 h2
theorem szMono {i : Int} {a b : Nat} (ha : i.natAbs < 2 ^ a) (h : a ≤ b) : i.natAbs < 2 ^ b := Nat.lt_of_lt_of_le ha (Nat.pow_le_pow_right (by omega) h)
theorem Sz.mono {q : Qt} {a b : Nat} (ha : Sz a q) (h : a ≤ b) : Sz b q := ⟨szMono ha.1 h, szMono ha.2 h⟩
/-- // by any number of a bounded size -/
def CDivX (_ j : Int) : Prop := j ≠ 0 ∧ j.natAbs < 2 ^ 8999
theorem op_fdivX {X : Cx} : OpR X (binaryOp .FloorDiv) (rI CDivX fun i j => .int (i.fdiv j)) := by
  intro pins s σ H x y v u Q I rx ry h
  obtain ⟨i, j, rfl, rfl, hc, q⟩ := h
  obtain ⟨t, rfl⟩ := rx
  obtain ⟨t', rfl⟩ := ry
  exact floordiv_int hc.1 ⟨.int _, H, I.tok _, ⟨_, rfl⟩, q⟩ (.inl (PyProof.noPylong_of_log2 (Nat.lt_of_lt_of_le (PySem.Flt.log2_lt_of (by omega) hc.2) (by omega))))
/-! ### fractions as values -/
def frt (q : Qt) : HO := .tup [.int q.1, .int q.2]
end My

namespace My
open PySem PySem.Spec PyProof.Rows L2
section
variable {P : Program} {w : World} {K : PySem.W.Frag} {mg : Str → Option Value} {base : Heap}
def spMixed : Sp := fun vs H Q _ => ∃ a b : Int, vs = [.int a, .int b] ∧ ∀ r : Int, Q (.int r) H
theorem mulW_mod {i : Int} {n : Int} (h0 : 0 < n) (h : n < 2 ^ 64) : CMulW (i % n) (i % n) := by
  have h1 := Int.emod_nonneg i (show n ≠ 0 by omega)
  have h2 := Int.emod_lt_of_pos i h0
  exact wide_mul (a := 64) (b := 64) (by omega) (by omega) (by omega) (by omega) (by omega)
abbrev sMixed : Stmt := topS 30
theorem scMixed : FnScope ["_law_number", "_law_turn", "_law_value"] ["_law_number", "_law_turn"] (defScope sMixed) := ⟨rfl, rfl, rfl, by decide +kernel, rfl, by decide +kernel, by decide +kernel⟩
theorem k_Mixed (T : Bt K mg) (D : Dfn K mg "_law_mixed" sMixed ["_law_number", "_law_turn"]) : Kn P w K mg base 1 "_law_mixed" ["_law_number", "_law_turn"] spMixed := by
  refine Kn.mk' D scMixed (fun vs H Q E h => ?_) (fun f cdv A outer s H vs Q E hr h => ?_)
  · obtain ⟨a, b, rfl, _⟩ := h
    rfl
  obtain ⟨a, b, rfl, q⟩ := h
  refine ⟨_, (pss_cons (ps_set (i := 2) scMixed.nd rfl (.inl rfl) (pe_op op_mod (pe_op op_add (pe_op op_add (pe_op op_mul (pe_op op_mod (pe_callTy call_int1 (by rfl) T.b_int (by decide +kernel) (pa_cons (pv 0) pa_nil)) pe_int) pe_int) (pe_op op_mul (pv 1) pe_int)) pe_int) pe_int))
      (pss_cons (ps_set (i := 2) scMixed.nd rfl (.inl rfl) (pe_op op_mod (pe_op op_add (pe_op op_add (pe_op op_add (pe_op op_mulW (pv 2) (pv 2)) (pe_op op_mul (pv 2) pe_int)) (pe_op op_mul (pv 1) pe_int)) pe_int) pe_int))
      (pss_cons (ps_set (i := 2) scMixed.nd rfl (.inl rfl) (pe_op op_mod (pe_op op_add (pe_op op_add (pe_op op_mul (pv 2) pe_int) (pe_op op_fdiv (pv 2) pe_int)) pe_int) pe_int))
      (pss_cons (ps_set (i := 2) scMixed.nd rfl (.inl rfl) (pe_op op_mod (pe_op op_add (pe_op op_mulW (pv 2) (pv 2)) (pv 1)) pe_int))
      (pss_one (ps_ret (pe_op op_fdiv (pv 2) pe_int))))))), ?_⟩
  simp only [cx_K, decide_true, decide_false, reduceCtorEq, gTp, gCons, gNil, ca_0, ca_1, ca_2, ca_3, ca_4, ca_5, ca_6, ca_7, ca_8, ca_9, ca_10, ca_11, ca_12, ca_13, ca_14, ca_15, ca_16, ca_17, ca_18, ca_19, ca_20, ca_21, ca_22, ca_23, ca_24, ca_25, ca_26, ca_27, ca_28, ca_29, ca_30, not_true_eq_false, not_false_eq_true, Int.reduceEq, Nat.reduceEqDiff, Nat.reduceLeDiff, rGcd, V.ty.injEq, eq_self, List.not_mem_nil, beq_self_eq_true, HO.lst.injEq, HO.tup.injEq, tFor_eq, iRng1, iList, iTup, nat10, tSeq, rIxA, rSetA, rIsN, rIsT, tTp, tLs, itsO_tup, itsO_lst, tyO_tup, tyO_lst, tyO_dK, tyN_non, tyN_bl, tyN_int, tyN_str, tyN_ref, tyNs_lt, isB, upd_same, upd_upd, sizeLine_eq, List.mem_cons, String.reduceBEq, String.reduceEq, Bool.or_false, Bool.or_true, Bool.and_false, Bool.false_or, Bool.and_self, Bool.false_and, Bool.not_false, Bool.not_true, List.any_cons, List.any_nil, atI_0, setI_0, atI_1, setI_1, atI_2, setI_2, atI_3, setI_3, atI_4, setI_4, atI_5, setI_5, atI_6, setI_6, tAsg, gName, tOp, tUn, tVar, tC, tCons, L2.tNil, tRet, tIfS, tTest, tCB, tCall, rI, rI0, rU, tNext, tB, tAnd, tOr, tNot, tAndV, tOrV, tNotV, tDrop, tIf, tPar, gSub, rIxL, rIxT, rEq, rNe, rSetL, tBits,
    L2.start, List.map_cons, List.map_nil, List.cons_append, List.nil_append, List.append_nil, List.length_cons, List.length_nil, List.replicate, Nat.reduceAdd, Nat.reduceSub, Nat.zero_add, List.getElem?_cons_zero, List.getElem?_cons_succ, List.set_cons_zero, List.set_cons_succ,
    Option.some.injEq, exists_eq_left', exists_eq_left, V.int.injEq, V.bl.injEq, V.ref.injEq, V.str.injEq, List.cons.injEq, reduceCtorEq, and_true, true_and, false_and, and_false, exists_false, or_false, false_or, or_true, true_or, exists_const, CMul, CDiv, CPow, and_assoc, exists_and_left, exists_and_right, Int.reducePow, Int.reduceNeg, Int.reduceLT, Int.reduceLE, Nat.reducePow, Nat.reduceLT, Int.reduceToNat, gt_iff_lt, ge_iff_le, decide_eq_true_eq, Bool.not_eq_true', decide_eq_false_iff_not, scal, ↓reduceIte, Bool.false_eq_true]
  exact ⟨mulW_mod (by omega) (by omega), mulW_mod (by omega) (by omega), q _⟩
theorem at_ints {ns : List Int} {i : Int} (h0 : 0 ≤ i) (h : i < (ns.length : Int)) : ∃ z, atI (ns.map V.int) i = some (.int z) := by
  have hk : i.toNat < ns.length := by omega
  have q : atI (ns.map V.int) ((i.toNat : Nat) : Int) = some (.int ns[i.toNat]) := atI_nat (by rw [List.getElem?_map, List.getElem?_eq_getElem hk] <;> rfl)
  rw [show ((i.toNat : Nat) : Int) = i by omega] at q
  exact ⟨_, q⟩
theorem bits_le {m : Int} (h : m.natAbs < 2 ^ 200) : Builtin.Int.intBits m ≤ 200 := by
  unfold Builtin.Int.intBits
  split
  · omega
  · have := PySem.Flt.log2_lt_of (show 0 < 200 by omega) h
    omega
def TakeA (K : PySem.W.Frag) (s : Addr) (m : Int) (H : Hp) (σ' : L2.St) (H' : Hp) : Prop := ∃ x, σ' = [some (.ref s), some (.int m), x, none, none, none, none] ∧ Kp s H H' ∧ Sto K H' s
def TakeB (K : PySem.W.Frag) (s : Addr) (m : Int) (H : Hp) (σ' : L2.St) (H' : Hp) : Prop := ∃ x n, σ' = [some (.ref s), some (.int m), x, none, some (.int n), none, none] ∧ Kp s H H' ∧ Sto K H' s
def TakeC (s : Addr) (m : Int) (x : Option V) (n : Int) (H3 : Hp) (k : Nat) (σ : L2.St) (H' : Hp) : Prop := ∃ v y, σ = [some (.ref s), some (.int m), x, none, some (.int n), some (.int v), y] ∧ H' = H3
def spTake (K : PySem.W.Frag) : Sp := fun vs H Q _ => ∃ (s : Addr) (m : Int), vs = [.ref s, .int m] ∧ Sto K H s ∧ m < 2 ^ 200 ∧ ∀ r H', 0 ≤ r → (r < m ∨ r = 0) → Kp s H H' → Sto K H' s → Q (.int r) H'
abbrev sTake : Stmt := topS 32
theorem scTake : FnScope ["_law_store_here", "_law_many", "_law_cell", "_law_digit", "_law_number", "_law_value", "_law_k"] ["_law_store_here", "_law_many"] (defScope sTake) := ⟨rfl, rfl, rfl, by decide +kernel, rfl, by decide +kernel, by decide +kernel⟩
theorem k_Take (T : Bt K mg) (D : Dfn K mg "_law_take" sTake ["_law_store_here", "_law_many"]) (d__law_mixed : Kn P w K mg base 1 "_law_mixed" ["_law_number", "_law_turn"] spMixed) : Kn P w K mg base 2 "_law_take" ["_law_store_here", "_law_many"] (spTake K) := by
  refine Kn.mk' D scTake (fun vs H Q E h => ?_) (fun f cdv A outer s H vs Q E hr h => ?_)
  · obtain ⟨a, m, rfl, _⟩ := h
    rfl
  obtain ⟨s, m, rfl, hS, hm, q⟩ := h
  refine ⟨_, (pss_cons (ps_if (pt_cmpR op_lt (pv 1) pe_int (nomark _)) (pss_one (ps_ret pe_int)) pss_nil)
      (pss_cons (ps_asg (pe_op op_add (pe_ix ix_any (pv 0) pe_int (fun _ _ => rfl)) pe_int) (pg_sub (pv 0) pe_int set_any))
      (C8.pss_cut (ps_if (PW.pt (pw_and (pt_cmpR op_lt (pe_ix ix_any (pv 0) pe_int (fun _ _ => rfl)) pe_int (nomark _)) (pw_and (pt_cmpR op_lt (pe_ix ix_any (pv 0) pe_int (fun _ _ => rfl)) pe_int (nomark _)) (pw_and1 (pt_cmpR op_lt (pe_ix ix_any (pv 0) pe_int (fun _ _ => rfl)) (pe_callB call_lenA (by rfl) T.b_len PySem.boot_len (pa_cons (pe_ix ix_any (pv 0) pe_int (fun _ _ => rfl)) pa_nil)) (nomark _)))))) (pss_cons (ps_set (i := 2) scTake.nd rfl (.inl rfl) (pe_callTy call_int1 (by rfl) T.b_int (by decide +kernel) (pa_cons (pe_ix ix_any (pe_ix ix_any (pv 0) pe_int (fun _ _ => rfl)) (pe_ix ix_any (pv 0) pe_int (fun _ _ => rfl)) (fun _ _ => rfl)) pa_nil)))
      (pss_cons (ps_asg (pe_op op_add (pe_ix ix_any (pv 0) pe_int (fun _ _ => rfl)) pe_int) (pg_sub (pv 0) pe_int set_any))
      (pss_one (ps_if (pt_cmpR op_lt (pe_callB call_abs (by rfl) T.b_abs (by decide +kernel) (pa_cons (pv 2) pa_nil)) (pe_op op_pow pe_int pe_int) (nomark _)) (pss_cons (ps_asg pe_int (pg_sub (pv 0) pe_int set_any))
      (pss_one (ps_asg (pv 2) (pg_sub (pv 0) pe_int set_any)))) (pss_one (ps_asg (pe_callB call_abs (by rfl) T.b_abs (by decide +kernel) (pa_cons (pv 2) pa_nil)) (pg_sub (pv 0) pe_int set_any))))))) pss_nil)
      (pss_cons (ps_if (pt_cmpR op_gt (pe_ix ix_any (pv 0) pe_int (fun _ _ => rfl)) pe_int (nomark _)) (pss_cons (ps_set (i := 3) scTake.nd rfl (.inl rfl) (pe_op op_modN (pe_callTy call_int1 (by rfl) T.b_int (by decide +kernel) (pa_cons (pe_ix ix_any (pv 0) pe_int (fun _ _ => rfl)) pa_nil)) (pv 1)))
      (pss_cons (ps_asg (pe_op op_fdivW (pe_ix ix_any (pv 0) pe_int (fun _ _ => rfl)) (pv 1)) (pg_sub (pv 0) pe_int set_any))
      (pss_one (ps_ret (pv 3))))) pss_nil)
      (pss_cons (ps_set (i := 4) scTake.nd rfl (.inl rfl) (pe_ix ix_any (pv 0) pe_int (fun _ _ => rfl)))
      (C8.pss_cut (ps_if (pt_cmpR op_gt (pe_ix ix_any (pv 0) pe_int (fun _ _ => rfl)) pe_int (nomark _)) (pss_cons (ps_asg (pe_op op_sub (pe_ix ix_any (pv 0) pe_int (fun _ _ => rfl)) pe_int) (pg_sub (pv 0) pe_int set_any))
      (pss_one (ps_set (i := 4) scTake.nd rfl (.inl rfl) (pe_ix ix_any (pv 0) pe_int (fun _ _ => rfl))))) pss_nil)
      (pss_cons (ps_set (i := 5) scTake.nd rfl (.inl rfl) pe_int)
      (pss_cons (ps_for PassesOwn.never rfl (pi_range1 (by rfl) T.b_range (pa_cons (pe_op op_add pe_int (pe_op op_fdiv (pe_bits (pv 1)) pe_int)) pa_nil)) (pg_name (i := 6) scTake.nd rfl (.inl rfl)) (pss_one (ps_set (i := 5) scTake.nd rfl (.inl rfl) (pe_op op_add (pe_op op_mul (pv 5) pe_int) (pe_kn d__law_mixed hr (by rfl) (pa_cons (pv 4) (pa_cons (pe_op op_add (pe_op op_mul (pe_ix ix_any (pv 0) pe_int (fun _ _ => rfl)) pe_int) (pv 6)) pa_nil)))))))
      (pss_one (ps_ret (pe_op op_modN (pv 5) (pv 1)))))))))))), ?_⟩
  obtain ⟨sc, ns, i, b, c, d, e, f, hs, hsc, hne, hi, ks, ksc⟩ := hS
  have o1 := (ob_none ks).trans hs
  simp only [o1, hs, cx_K, decide_true, decide_false, reduceCtorEq, gTp, gCons, gNil, ca_0, ca_1, ca_2, ca_3, ca_4, ca_5, ca_6, ca_7, ca_8, ca_9, ca_10, ca_11, ca_12, ca_13, ca_14, ca_15, ca_16, ca_17, ca_18, ca_19, ca_20, ca_21, ca_22, ca_23, ca_24, ca_25, ca_26, ca_27, ca_28, ca_29, ca_30, not_true_eq_false, not_false_eq_true, Int.reduceEq, Nat.reduceEqDiff, Nat.reduceLeDiff, rGcd, V.ty.injEq, eq_self, List.not_mem_nil, beq_self_eq_true, HO.lst.injEq, HO.tup.injEq, tFor_eq, iRng1, iList, iTup, nat10, tSeq, rIxA, rSetA, rIsN, rIsT, tTp, tLs, itsO_tup, itsO_lst, tyO_tup, tyO_lst, tyO_dK, tyN_non, tyN_bl, tyN_int, tyN_str, tyN_ref, tyNs_lt, isB, upd_same, upd_upd, sizeLine_eq, List.mem_cons, String.reduceBEq, String.reduceEq, Bool.or_false, Bool.or_true, Bool.and_false, Bool.false_or, Bool.and_self, Bool.false_and, Bool.not_false, Bool.not_true, List.any_cons, List.any_nil, atI_0, setI_0, atI_1, setI_1, atI_2, setI_2, atI_3, setI_3, atI_4, setI_4, atI_5, setI_5, atI_6, setI_6, tAsg, gName, tOp, tUn, tVar, tC, tCons, L2.tNil, tRet, tIfS, tTest, tCB, tCall, rI, rI0, rU, tNext, tB, tAnd, tOr, tNot, tAndV, tOrV, tNotV, tDrop, tIf, tPar, gSub, rIxL, rIxT, rEq, rNe, rSetL, tBits,
    L2.start, List.map_cons, List.map_nil, List.cons_append, List.nil_append, List.append_nil, List.length_cons, List.length_nil, List.replicate, Nat.reduceAdd, Nat.reduceSub, Nat.zero_add, List.getElem?_cons_zero, List.getElem?_cons_succ, List.set_cons_zero, List.set_cons_succ,
    Option.some.injEq, exists_eq_left', exists_eq_left, V.int.injEq, V.bl.injEq, V.ref.injEq, V.str.injEq, List.cons.injEq, reduceCtorEq, and_true, true_and, false_and, and_false, exists_false, or_false, false_or, or_true, true_or, exists_const, CMul, CDiv, CPow, and_assoc, exists_and_left, exists_and_right, Int.reducePow, Int.reduceNeg, Int.reduceLT, Int.reduceLE, Nat.reducePow, Nat.reduceLT, Int.reduceToNat, gt_iff_lt, ge_iff_le, decide_eq_true_eq, Bool.not_eq_true', decide_eq_false_iff_not, scal, ↓reduceIte, Bool.false_eq_true]
  refine ite2 (fun h2 => ?_) (fun h2 => ?_)
  · exact q 0 H (Int.le_refl 0) (.inr rfl) (Kp.refl _ _) ⟨sc, ns, i, b, c, d, e, f, hs, hsc, hne, hi, ks, ksc⟩
  have S1 := Sr.put (i' := i) (b' := b) (c' := c + 1) (d' := d) (e' := e) (f' := f) (⟨hs, hsc, hne, hi, ks, ksc⟩ : Sr K H s sc ns i b c d e f) hi
  have kp1 : Kp s H (upd H s (.lst [.ref sc, .int i, .int b, .int (c + 1), .int d, .int e, .int f])) := Kp.put hs
  generalize upd H s (.lst [.ref sc, .int i, .int b, .int (c + 1), .int d, .int e, .int f]) = H1 at S1 kp1 ⊢
  refine ⟨TakeA K s m H, ?_, ?_⟩
  · obtain ⟨hs, hsc, hne, hi, ks, ksc⟩ := id S1
    have o1 := (ob_none ks).trans hs
    have o2 := (ob_none ksc).trans hsc
    have no : TakeA K s m H [some (.ref s), some (.int m), none, none, none, none, none] H1 := ⟨none, rfl, kp1, _, _, _, _, _, _, _, _, S1⟩
    simp only [o1, o2, hs, List.length_map, cx_K, decide_true, decide_false, reduceCtorEq, gTp, gCons, gNil, ca_0, ca_1, ca_2, ca_3, ca_4, ca_5, ca_6, ca_7, ca_8, ca_9, ca_10, ca_11, ca_12, ca_13, ca_14, ca_15, ca_16, ca_17, ca_18, ca_19, ca_20, ca_21, ca_22, ca_23, ca_24, ca_25, ca_26, ca_27, ca_28, ca_29, ca_30, not_true_eq_false, not_false_eq_true, Int.reduceEq, Nat.reduceEqDiff, Nat.reduceLeDiff, rGcd, V.ty.injEq, eq_self, List.not_mem_nil, beq_self_eq_true, HO.lst.injEq, HO.tup.injEq, tFor_eq, iRng1, iList, iTup, nat10, tSeq, rIxA, rSetA, rIsN, rIsT, tTp, tLs, itsO_tup, itsO_lst, tyO_tup, tyO_lst, tyO_dK, tyN_non, tyN_bl, tyN_int, tyN_str, tyN_ref, tyNs_lt, isB, upd_same, upd_upd, sizeLine_eq, List.mem_cons, String.reduceBEq, String.reduceEq, Bool.or_false, Bool.or_true, Bool.and_false, Bool.false_or, Bool.and_self, Bool.false_and, Bool.not_false, Bool.not_true, List.any_cons, List.any_nil, atI_0, setI_0, atI_1, setI_1, atI_2, setI_2, atI_3, setI_3, atI_4, setI_4, atI_5, setI_5, atI_6, setI_6, tAsg, gName, tOp, tUn, tVar, tC, tCons, L2.tNil, tRet, tIfS, tTest, tCB, tCall, rI, rI0, rU, tNext, tB, tAnd, tOr, tNot, tAndV, tOrV, tNotV, tDrop, tIf, tPar, gSub, rIxL, rIxT, rEq, rNe, rSetL, tBits,
    L2.start, List.map_cons, List.map_nil, List.cons_append, List.nil_append, List.append_nil, List.length_cons, List.length_nil, List.replicate, Nat.reduceAdd, Nat.reduceSub, Nat.zero_add, List.getElem?_cons_zero, List.getElem?_cons_succ, List.set_cons_zero, List.set_cons_succ,
    Option.some.injEq, exists_eq_left', exists_eq_left, V.int.injEq, V.bl.injEq, V.ref.injEq, V.str.injEq, List.cons.injEq, reduceCtorEq, and_true, true_and, false_and, and_false, exists_false, or_false, false_or, or_true, true_or, exists_const, CMul, CDiv, CPow, and_assoc, exists_and_left, exists_and_right, Int.reducePow, Int.reduceNeg, Int.reduceLT, Int.reduceLE, Nat.reducePow, Nat.reduceLT, Int.reduceToNat, gt_iff_lt, ge_iff_le, decide_eq_true_eq, Bool.not_eq_true', decide_eq_false_iff_not, scal, ↓reduceIte, Bool.false_eq_true]
    refine ite2 (fun _ => ?_) (fun _ => no)
    refine ite2 (fun _ => ?_) (fun _ => no)
    refine ite2 (fun hlt => ?_) (fun _ => no)
    obtain ⟨z, hz⟩ := at_ints hi hlt
    simp only [hz, cx_K, decide_true, decide_false, reduceCtorEq, gTp, gCons, gNil, ca_0, ca_1, ca_2, ca_3, ca_4, ca_5, ca_6, ca_7, ca_8, ca_9, ca_10, ca_11, ca_12, ca_13, ca_14, ca_15, ca_16, ca_17, ca_18, ca_19, ca_20, ca_21, ca_22, ca_23, ca_24, ca_25, ca_26, ca_27, ca_28, ca_29, ca_30, not_true_eq_false, not_false_eq_true, Int.reduceEq, Nat.reduceEqDiff, Nat.reduceLeDiff, rGcd, V.ty.injEq, eq_self, List.not_mem_nil, beq_self_eq_true, HO.lst.injEq, HO.tup.injEq, tFor_eq, iRng1, iList, iTup, nat10, tSeq, rIxA, rSetA, rIsN, rIsT, tTp, tLs, itsO_tup, itsO_lst, tyO_tup, tyO_lst, tyO_dK, tyN_non, tyN_bl, tyN_int, tyN_str, tyN_ref, tyNs_lt, isB, upd_same, upd_upd, sizeLine_eq, List.mem_cons, String.reduceBEq, String.reduceEq, Bool.or_false, Bool.or_true, Bool.and_false, Bool.false_or, Bool.and_self, Bool.false_and, Bool.not_false, Bool.not_true, List.any_cons, List.any_nil, atI_0, setI_0, atI_1, setI_1, atI_2, setI_2, atI_3, setI_3, atI_4, setI_4, atI_5, setI_5, atI_6, setI_6, tAsg, gName, tOp, tUn, tVar, tC, tCons, L2.tNil, tRet, tIfS, tTest, tCB, tCall, rI, rI0, rU, tNext, tB, tAnd, tOr, tNot, tAndV, tOrV, tNotV, tDrop, tIf, tPar, gSub, rIxL, rIxT, rEq, rNe, rSetL, tBits,
    L2.start, List.map_cons, List.map_nil, List.cons_append, List.nil_append, List.append_nil, List.length_cons, List.length_nil, List.replicate, Nat.reduceAdd, Nat.reduceSub, Nat.zero_add, List.getElem?_cons_zero, List.getElem?_cons_succ, List.set_cons_zero, List.set_cons_succ,
    Option.some.injEq, exists_eq_left', exists_eq_left, V.int.injEq, V.bl.injEq, V.ref.injEq, V.str.injEq, List.cons.injEq, reduceCtorEq, and_true, true_and, false_and, and_false, exists_false, or_false, false_or, or_true, true_or, exists_const, CMul, CDiv, CPow, and_assoc, exists_and_left, exists_and_right, Int.reducePow, Int.reduceNeg, Int.reduceLT, Int.reduceLE, Nat.reducePow, Nat.reduceLT, Int.reduceToNat, gt_iff_lt, ge_iff_le, decide_eq_true_eq, Bool.not_eq_true', decide_eq_false_iff_not, scal, ↓reduceIte, Bool.false_eq_true]
    refine ite2 (fun _ => ?_) (fun _ => ?_)
    · have S2 := S1.put (i' := i + 1) (b' := b) (c' := c + 1) (d' := d) (e' := 2) (f' := z) (by omega)
      exact ⟨_, rfl, kp1.trans (Kp.put hs), _, _, _, _, _, _, _, _, S2⟩
    · have S2 := S1.put (i' := i + 1) (b' := if z < 0 then -z else z) (c' := c + 1) (d' := d) (e' := e) (f' := f) (by omega)
      exact ⟨_, rfl, kp1.trans (Kp.put hs), _, _, _, _, _, _, _, _, S2⟩
  rintro σ' H2 ⟨x, rfl, kp2, sc, ns, i, b, c, d, e, f, S2⟩
  obtain ⟨hs, hsc, hne, hi, ks, ksc⟩ := id S2
  have o1 := (ob_none ks).trans hs
  simp only [o1, hs, cx_K, decide_true, decide_false, reduceCtorEq, gTp, gCons, gNil, ca_0, ca_1, ca_2, ca_3, ca_4, ca_5, ca_6, ca_7, ca_8, ca_9, ca_10, ca_11, ca_12, ca_13, ca_14, ca_15, ca_16, ca_17, ca_18, ca_19, ca_20, ca_21, ca_22, ca_23, ca_24, ca_25, ca_26, ca_27, ca_28, ca_29, ca_30, not_true_eq_false, not_false_eq_true, Int.reduceEq, Nat.reduceEqDiff, Nat.reduceLeDiff, rGcd, V.ty.injEq, eq_self, List.not_mem_nil, beq_self_eq_true, HO.lst.injEq, HO.tup.injEq, tFor_eq, iRng1, iList, iTup, nat10, tSeq, rIxA, rSetA, rIsN, rIsT, tTp, tLs, itsO_tup, itsO_lst, tyO_tup, tyO_lst, tyO_dK, tyN_non, tyN_bl, tyN_int, tyN_str, tyN_ref, tyNs_lt, isB, upd_same, upd_upd, sizeLine_eq, List.mem_cons, String.reduceBEq, String.reduceEq, Bool.or_false, Bool.or_true, Bool.and_false, Bool.false_or, Bool.and_self, Bool.false_and, Bool.not_false, Bool.not_true, List.any_cons, List.any_nil, atI_0, setI_0, atI_1, setI_1, atI_2, setI_2, atI_3, setI_3, atI_4, setI_4, atI_5, setI_5, atI_6, setI_6, tAsg, gName, tOp, tUn, tVar, tC, tCons, L2.tNil, tRet, tIfS, tTest, tCB, tCall, rI, rI0, rU, tNext, tB, tAnd, tOr, tNot, tAndV, tOrV, tNotV, tDrop, tIf, tPar, gSub, rIxL, rIxT, rEq, rNe, rSetL, tBits,
    L2.start, List.map_cons, List.map_nil, List.cons_append, List.nil_append, List.append_nil, List.length_cons, List.length_nil, List.replicate, Nat.reduceAdd, Nat.reduceSub, Nat.zero_add, List.getElem?_cons_zero, List.getElem?_cons_succ, List.set_cons_zero, List.set_cons_succ,
    Option.some.injEq, exists_eq_left', exists_eq_left, V.int.injEq, V.bl.injEq, V.ref.injEq, V.str.injEq, List.cons.injEq, reduceCtorEq, and_true, true_and, false_and, and_false, exists_false, or_false, false_or, or_true, true_or, exists_const, CMul, CDiv, CPow, and_assoc, exists_and_left, exists_and_right, Int.reducePow, Int.reduceNeg, Int.reduceLT, Int.reduceLE, Nat.reducePow, Nat.reduceLT, Int.reduceToNat, gt_iff_lt, ge_iff_le, decide_eq_true_eq, Bool.not_eq_true', decide_eq_false_iff_not, scal, ↓reduceIte, Bool.false_eq_true]
  have hm0 : m ≠ 0 := by omega
  refine ite2 (fun hb => ?_) (fun hb => ?_)
  · have S3 := S2.put (i' := i) (b' := b / m) (c' := c) (d' := d) (e' := e) (f' := f) hi
    refine ⟨hm0, wide_div (b := 200) (by omega) (by omega) (by omega) (by omega), q _ _ ?_ (.inl ?_) (kp2.trans (Kp.put hs)) ⟨_, _, _, _, _, _, _, _, S3⟩⟩
    · rw [Int.fmod_eq_emod_of_nonneg b (by omega)]
      exact Int.emod_nonneg _ hm0
    · rw [Int.fmod_eq_emod_of_nonneg b (by omega)]
      exact Int.emod_lt_of_pos _ (by omega)
  refine ⟨TakeB K s m H, ?_, ?_⟩
  · simp only [o1, hs, cx_K, decide_true, decide_false, reduceCtorEq, gTp, gCons, gNil, ca_0, ca_1, ca_2, ca_3, ca_4, ca_5, ca_6, ca_7, ca_8, ca_9, ca_10, ca_11, ca_12, ca_13, ca_14, ca_15, ca_16, ca_17, ca_18, ca_19, ca_20, ca_21, ca_22, ca_23, ca_24, ca_25, ca_26, ca_27, ca_28, ca_29, ca_30, not_true_eq_false, not_false_eq_true, Int.reduceEq, Nat.reduceEqDiff, Nat.reduceLeDiff, rGcd, V.ty.injEq, eq_self, List.not_mem_nil, beq_self_eq_true, HO.lst.injEq, HO.tup.injEq, tFor_eq, iRng1, iList, iTup, nat10, tSeq, rIxA, rSetA, rIsN, rIsT, tTp, tLs, itsO_tup, itsO_lst, tyO_tup, tyO_lst, tyO_dK, tyN_non, tyN_bl, tyN_int, tyN_str, tyN_ref, tyNs_lt, isB, upd_same, upd_upd, sizeLine_eq, List.mem_cons, String.reduceBEq, String.reduceEq, Bool.or_false, Bool.or_true, Bool.and_false, Bool.false_or, Bool.and_self, Bool.false_and, Bool.not_false, Bool.not_true, List.any_cons, List.any_nil, atI_0, setI_0, atI_1, setI_1, atI_2, setI_2, atI_3, setI_3, atI_4, setI_4, atI_5, setI_5, atI_6, setI_6, tAsg, gName, tOp, tUn, tVar, tC, tCons, L2.tNil, tRet, tIfS, tTest, tCB, tCall, rI, rI0, rU, tNext, tB, tAnd, tOr, tNot, tAndV, tOrV, tNotV, tDrop, tIf, tPar, gSub, rIxL, rIxT, rEq, rNe, rSetL, tBits,
    L2.start, List.map_cons, List.map_nil, List.cons_append, List.nil_append, List.append_nil, List.length_cons, List.length_nil, List.replicate, Nat.reduceAdd, Nat.reduceSub, Nat.zero_add, List.getElem?_cons_zero, List.getElem?_cons_succ, List.set_cons_zero, List.set_cons_succ,
    Option.some.injEq, exists_eq_left', exists_eq_left, V.int.injEq, V.bl.injEq, V.ref.injEq, V.str.injEq, List.cons.injEq, reduceCtorEq, and_true, true_and, false_and, and_false, exists_false, or_false, false_or, or_true, true_or, exists_const, CMul, CDiv, CPow, and_assoc, exists_and_left, exists_and_right, Int.reducePow, Int.reduceNeg, Int.reduceLT, Int.reduceLE, Nat.reducePow, Nat.reduceLT, Int.reduceToNat, gt_iff_lt, ge_iff_le, decide_eq_true_eq, Bool.not_eq_true', decide_eq_false_iff_not, scal, ↓reduceIte, Bool.false_eq_true]
    refine ite2 (fun he => ?_) (fun he => ?_)
    · have S3 := S2.put (i' := i) (b' := b) (c' := c) (d' := d) (e' := e - 1) (f' := f) hi
      have o3 := (ob_none ks).trans S3.1
      simp only [o3, cx_K, decide_true, decide_false, reduceCtorEq, gTp, gCons, gNil, ca_0, ca_1, ca_2, ca_3, ca_4, ca_5, ca_6, ca_7, ca_8, ca_9, ca_10, ca_11, ca_12, ca_13, ca_14, ca_15, ca_16, ca_17, ca_18, ca_19, ca_20, ca_21, ca_22, ca_23, ca_24, ca_25, ca_26, ca_27, ca_28, ca_29, ca_30, not_true_eq_false, not_false_eq_true, Int.reduceEq, Nat.reduceEqDiff, Nat.reduceLeDiff, rGcd, V.ty.injEq, eq_self, List.not_mem_nil, beq_self_eq_true, HO.lst.injEq, HO.tup.injEq, tFor_eq, iRng1, iList, iTup, nat10, tSeq, rIxA, rSetA, rIsN, rIsT, tTp, tLs, itsO_tup, itsO_lst, tyO_tup, tyO_lst, tyO_dK, tyN_non, tyN_bl, tyN_int, tyN_str, tyN_ref, tyNs_lt, isB, upd_same, upd_upd, sizeLine_eq, List.mem_cons, String.reduceBEq, String.reduceEq, Bool.or_false, Bool.or_true, Bool.and_false, Bool.false_or, Bool.and_self, Bool.false_and, Bool.not_false, Bool.not_true, List.any_cons, List.any_nil, atI_0, setI_0, atI_1, setI_1, atI_2, setI_2, atI_3, setI_3, atI_4, setI_4, atI_5, setI_5, atI_6, setI_6, tAsg, gName, tOp, tUn, tVar, tC, tCons, L2.tNil, tRet, tIfS, tTest, tCB, tCall, rI, rI0, rU, tNext, tB, tAnd, tOr, tNot, tAndV, tOrV, tNotV, tDrop, tIf, tPar, gSub, rIxL, rIxT, rEq, rNe, rSetL, tBits,
    L2.start, List.map_cons, List.map_nil, List.cons_append, List.nil_append, List.append_nil, List.length_cons, List.length_nil, List.replicate, Nat.reduceAdd, Nat.reduceSub, Nat.zero_add, List.getElem?_cons_zero, List.getElem?_cons_succ, List.set_cons_zero, List.set_cons_succ,
    Option.some.injEq, exists_eq_left', exists_eq_left, V.int.injEq, V.bl.injEq, V.ref.injEq, V.str.injEq, List.cons.injEq, reduceCtorEq, and_true, true_and, false_and, and_false, exists_false, or_false, false_or, or_true, true_or, exists_const, CMul, CDiv, CPow, and_assoc, exists_and_left, exists_and_right, Int.reducePow, Int.reduceNeg, Int.reduceLT, Int.reduceLE, Nat.reducePow, Nat.reduceLT, Int.reduceToNat, gt_iff_lt, ge_iff_le, decide_eq_true_eq, Bool.not_eq_true', decide_eq_false_iff_not, scal, ↓reduceIte, Bool.false_eq_true]
      exact ⟨_, _, rfl, kp2.trans (Kp.put hs), _, _, _, _, _, _, _, _, S3⟩
    · exact ⟨_, _, rfl, kp2, _, _, _, _, _, _, _, _, S2⟩
  rintro σ' H3 ⟨x, n, rfl, kp3, sc, ns, i, b, c, d, e, f, S3⟩
  obtain ⟨hs, hsc, hne, hi, ks, ksc⟩ := id S3
  have o1 := (ob_none ks).trans hs
  simp only [o1, hs, cx_K, decide_true, decide_false, reduceCtorEq, gTp, gCons, gNil, ca_0, ca_1, ca_2, ca_3, ca_4, ca_5, ca_6, ca_7, ca_8, ca_9, ca_10, ca_11, ca_12, ca_13, ca_14, ca_15, ca_16, ca_17, ca_18, ca_19, ca_20, ca_21, ca_22, ca_23, ca_24, ca_25, ca_26, ca_27, ca_28, ca_29, ca_30, not_true_eq_false, not_false_eq_true, Int.reduceEq, Nat.reduceEqDiff, Nat.reduceLeDiff, rGcd, V.ty.injEq, eq_self, List.not_mem_nil, beq_self_eq_true, HO.lst.injEq, HO.tup.injEq, tFor_eq, iRng1, iList, iTup, nat10, tSeq, rIxA, rSetA, rIsN, rIsT, tTp, tLs, itsO_tup, itsO_lst, tyO_tup, tyO_lst, tyO_dK, tyN_non, tyN_bl, tyN_int, tyN_str, tyN_ref, tyNs_lt, isB, upd_same, upd_upd, sizeLine_eq, List.mem_cons, String.reduceBEq, String.reduceEq, Bool.or_false, Bool.or_true, Bool.and_false, Bool.false_or, Bool.and_self, Bool.false_and, Bool.not_false, Bool.not_true, List.any_cons, List.any_nil, atI_0, setI_0, atI_1, setI_1, atI_2, setI_2, atI_3, setI_3, atI_4, setI_4, atI_5, setI_5, atI_6, setI_6, tAsg, gName, tOp, tUn, tVar, tC, tCons, L2.tNil, tRet, tIfS, tTest, tCB, tCall, rI, rI0, rU, tNext, tB, tAnd, tOr, tNot, tAndV, tOrV, tNotV, tDrop, tIf, tPar, gSub, rIxL, rIxT, rEq, rNe, rSetL, tBits,
    L2.start, List.map_cons, List.map_nil, List.cons_append, List.nil_append, List.append_nil, List.length_cons, List.length_nil, List.replicate, Nat.reduceAdd, Nat.reduceSub, Nat.zero_add, List.getElem?_cons_zero, List.getElem?_cons_succ, List.set_cons_zero, List.set_cons_succ,
    Option.some.injEq, exists_eq_left', exists_eq_left, V.int.injEq, V.bl.injEq, V.ref.injEq, V.str.injEq, List.cons.injEq, reduceCtorEq, and_true, true_and, false_and, and_false, exists_false, or_false, false_or, or_true, true_or, exists_const, CMul, CDiv, CPow, and_assoc, exists_and_left, exists_and_right, Int.reducePow, Int.reduceNeg, Int.reduceLT, Int.reduceLE, Nat.reducePow, Nat.reduceLT, Int.reduceToNat, gt_iff_lt, ge_iff_le, decide_eq_true_eq, Bool.not_eq_true', decide_eq_false_iff_not, scal, ↓reduceIte, Bool.false_eq_true]
  have hbits : Builtin.Int.intBits m ≤ 200 := bits_le (by omega)
  refine ⟨by omega, by omega, forI_range (TakeC s m x n H3) ⟨0, none, rfl, rfl⟩ ?_ ?_⟩
  · rintro k σ H' hk ⟨v, y, rfl, rfl⟩
    simp only [o1, hs, cx_K, decide_true, decide_false, reduceCtorEq, gTp, gCons, gNil, ca_0, ca_1, ca_2, ca_3, ca_4, ca_5, ca_6, ca_7, ca_8, ca_9, ca_10, ca_11, ca_12, ca_13, ca_14, ca_15, ca_16, ca_17, ca_18, ca_19, ca_20, ca_21, ca_22, ca_23, ca_24, ca_25, ca_26, ca_27, ca_28, ca_29, ca_30, not_true_eq_false, not_false_eq_true, Int.reduceEq, Nat.reduceEqDiff, Nat.reduceLeDiff, rGcd, V.ty.injEq, eq_self, List.not_mem_nil, beq_self_eq_true, HO.lst.injEq, HO.tup.injEq, tFor_eq, iRng1, iList, iTup, nat10, tSeq, rIxA, rSetA, rIsN, rIsT, tTp, tLs, itsO_tup, itsO_lst, tyO_tup, tyO_lst, tyO_dK, tyN_non, tyN_bl, tyN_int, tyN_str, tyN_ref, tyNs_lt, isB, upd_same, upd_upd, sizeLine_eq, List.mem_cons, String.reduceBEq, String.reduceEq, Bool.or_false, Bool.or_true, Bool.and_false, Bool.false_or, Bool.and_self, Bool.false_and, Bool.not_false, Bool.not_true, List.any_cons, List.any_nil, atI_0, setI_0, atI_1, setI_1, atI_2, setI_2, atI_3, setI_3, atI_4, setI_4, atI_5, setI_5, atI_6, setI_6, tAsg, gName, tOp, tUn, tVar, tC, tCons, L2.tNil, tRet, tIfS, tTest, tCB, tCall, rI, rI0, rU, tNext, tB, tAnd, tOr, tNot, tAndV, tOrV, tNotV, tDrop, tIf, tPar, gSub, rIxL, rIxT, rEq, rNe, rSetL, tBits,
    L2.start, List.map_cons, List.map_nil, List.cons_append, List.nil_append, List.append_nil, List.length_cons, List.length_nil, List.replicate, Nat.reduceAdd, Nat.reduceSub, Nat.zero_add, List.getElem?_cons_zero, List.getElem?_cons_succ, List.set_cons_zero, List.set_cons_succ,
    Option.some.injEq, exists_eq_left', exists_eq_left, V.int.injEq, V.bl.injEq, V.ref.injEq, V.str.injEq, List.cons.injEq, reduceCtorEq, and_true, true_and, false_and, and_false, exists_false, or_false, false_or, or_true, true_or, exists_const, CMul, CDiv, CPow, and_assoc, exists_and_left, exists_and_right, Int.reducePow, Int.reduceNeg, Int.reduceLT, Int.reduceLE, Nat.reducePow, Nat.reduceLT, Int.reduceToNat, gt_iff_lt, ge_iff_le, decide_eq_true_eq, Bool.not_eq_true', decide_eq_false_iff_not, scal, ↓reduceIte, Bool.false_eq_true]
    refine ⟨_, _, rfl, fun r => ?_⟩
    simp only [cx_K, decide_true, decide_false, reduceCtorEq, gTp, gCons, gNil, ca_0, ca_1, ca_2, ca_3, ca_4, ca_5, ca_6, ca_7, ca_8, ca_9, ca_10, ca_11, ca_12, ca_13, ca_14, ca_15, ca_16, ca_17, ca_18, ca_19, ca_20, ca_21, ca_22, ca_23, ca_24, ca_25, ca_26, ca_27, ca_28, ca_29, ca_30, not_true_eq_false, not_false_eq_true, Int.reduceEq, Nat.reduceEqDiff, Nat.reduceLeDiff, rGcd, V.ty.injEq, eq_self, List.not_mem_nil, beq_self_eq_true, HO.lst.injEq, HO.tup.injEq, tFor_eq, iRng1, iList, iTup, nat10, tSeq, rIxA, rSetA, rIsN, rIsT, tTp, tLs, itsO_tup, itsO_lst, tyO_tup, tyO_lst, tyO_dK, tyN_non, tyN_bl, tyN_int, tyN_str, tyN_ref, tyNs_lt, isB, upd_same, upd_upd, sizeLine_eq, List.mem_cons, String.reduceBEq, String.reduceEq, Bool.or_false, Bool.or_true, Bool.and_false, Bool.false_or, Bool.and_self, Bool.false_and, Bool.not_false, Bool.not_true, List.any_cons, List.any_nil, atI_0, setI_0, atI_1, setI_1, atI_2, setI_2, atI_3, setI_3, atI_4, setI_4, atI_5, setI_5, atI_6, setI_6, tAsg, gName, tOp, tUn, tVar, tC, tCons, L2.tNil, tRet, tIfS, tTest, tCB, tCall, rI, rI0, rU, tNext, tB, tAnd, tOr, tNot, tAndV, tOrV, tNotV, tDrop, tIf, tPar, gSub, rIxL, rIxT, rEq, rNe, rSetL, tBits,
    L2.start, List.map_cons, List.map_nil, List.cons_append, List.nil_append, List.append_nil, List.length_cons, List.length_nil, List.replicate, Nat.reduceAdd, Nat.reduceSub, Nat.zero_add, List.getElem?_cons_zero, List.getElem?_cons_succ, List.set_cons_zero, List.set_cons_succ,
    Option.some.injEq, exists_eq_left', exists_eq_left, V.int.injEq, V.bl.injEq, V.ref.injEq, V.str.injEq, List.cons.injEq, reduceCtorEq, and_true, true_and, false_and, and_false, exists_false, or_false, false_or, or_true, true_or, exists_const, CMul, CDiv, CPow, and_assoc, exists_and_left, exists_and_right, Int.reducePow, Int.reduceNeg, Int.reduceLT, Int.reduceLE, Nat.reducePow, Nat.reduceLT, Int.reduceToNat, gt_iff_lt, ge_iff_le, decide_eq_true_eq, Bool.not_eq_true', decide_eq_false_iff_not, scal, ↓reduceIte, Bool.false_eq_true]
    exact ⟨_, _, rfl, rfl⟩
  · rintro σ H' ⟨v, y, rfl, rfl⟩
    simp only [cx_K, decide_true, decide_false, reduceCtorEq, gTp, gCons, gNil, ca_0, ca_1, ca_2, ca_3, ca_4, ca_5, ca_6, ca_7, ca_8, ca_9, ca_10, ca_11, ca_12, ca_13, ca_14, ca_15, ca_16, ca_17, ca_18, ca_19, ca_20, ca_21, ca_22, ca_23, ca_24, ca_25, ca_26, ca_27, ca_28, ca_29, ca_30, not_true_eq_false, not_false_eq_true, Int.reduceEq, Nat.reduceEqDiff, Nat.reduceLeDiff, rGcd, V.ty.injEq, eq_self, List.not_mem_nil, beq_self_eq_true, HO.lst.injEq, HO.tup.injEq, tFor_eq, iRng1, iList, iTup, nat10, tSeq, rIxA, rSetA, rIsN, rIsT, tTp, tLs, itsO_tup, itsO_lst, tyO_tup, tyO_lst, tyO_dK, tyN_non, tyN_bl, tyN_int, tyN_str, tyN_ref, tyNs_lt, isB, upd_same, upd_upd, sizeLine_eq, List.mem_cons, String.reduceBEq, String.reduceEq, Bool.or_false, Bool.or_true, Bool.and_false, Bool.false_or, Bool.and_self, Bool.false_and, Bool.not_false, Bool.not_true, List.any_cons, List.any_nil, atI_0, setI_0, atI_1, setI_1, atI_2, setI_2, atI_3, setI_3, atI_4, setI_4, atI_5, setI_5, atI_6, setI_6, tAsg, gName, tOp, tUn, tVar, tC, tCons, L2.tNil, tRet, tIfS, tTest, tCB, tCall, rI, rI0, rU, tNext, tB, tAnd, tOr, tNot, tAndV, tOrV, tNotV, tDrop, tIf, tPar, gSub, rIxL, rIxT, rEq, rNe, rSetL, tBits,
    L2.start, List.map_cons, List.map_nil, List.cons_append, List.nil_append, List.append_nil, List.length_cons, List.length_nil, List.replicate, Nat.reduceAdd, Nat.reduceSub, Nat.zero_add, List.getElem?_cons_zero, List.getElem?_cons_succ, List.set_cons_zero, List.set_cons_succ,
    Option.some.injEq, exists_eq_left', exists_eq_left, V.int.injEq, V.bl.injEq, V.ref.injEq, V.str.injEq, List.cons.injEq, reduceCtorEq, and_true, true_and, false_and, and_false, exists_false, or_false, false_or, or_true, true_or, exists_const, CMul, CDiv, CPow, and_assoc, exists_and_left, exists_and_right, Int.reducePow, Int.reduceNeg, Int.reduceLT, Int.reduceLE, Nat.reducePow, Nat.reduceLT, Int.reduceToNat, gt_iff_lt, ge_iff_le, decide_eq_true_eq, Bool.not_eq_true', decide_eq_false_iff_not, scal, ↓reduceIte, Bool.false_eq_true]
    refine ⟨hm0, q _ _ ?_ (.inl ?_) kp3 ⟨_, _, _, _, _, _, _, _, S3⟩⟩
    · rw [Int.fmod_eq_emod_of_nonneg v (by omega)]
      exact Int.emod_nonneg _ hm0
    · rw [Int.fmod_eq_emod_of_nonneg v (by omega)]
      exact Int.emod_lt_of_pos _ (by omega)
end
end My

namespace My
open PySem PySem.Spec PyProof.Rows L2
section
variable {P : Program} {w : World} {K : PySem.W.Frag} {mg : Str → Option Value} {base : Heap}
theorem abs_if (n : Int) : (if n < 0 then -n else n) = (n.natAbs : Int) := by split <;> omega
def spGcd : Sp := fun vs H Q _ => ∃ a b : Int, vs = [.int a, .int b] ∧ Q (.int ((Int.gcd a b : Nat) : Int)) H
def GcdW (a b : Int) (H : Hp) (σ : L2.St) (H' : Hp) : Prop := ∃ l r : Int, σ = [some (.int l), some (.int r)] ∧ H' = H ∧ 0 ≤ l ∧ 0 ≤ r ∧ Int.gcd l r = Int.gcd a b
def GcdM (σ : L2.St) (_ : Hp) : Nat := match σ with
  | [_, some (.int r)] => r.toNat
  | _ => 0
abbrev sGcd : Stmt := topS 36
theorem scGcd : FnScope ["_law_left", "_law_right"] ["_law_left", "_law_right"] (defScope sGcd) := ⟨rfl, rfl, rfl, by decide +kernel, rfl, by decide +kernel, by decide +kernel⟩
theorem k_Gcd (T : Bt K mg) (D : Dfn K mg "_law_gcd" sGcd ["_law_left", "_law_right"]) : Kn P w K mg base 1 "_law_gcd" ["_law_left", "_law_right"] spGcd := by
  refine Kn.mk' D scGcd (fun vs H Q E h => ?_) (fun f cdv A outer s H vs Q E hr h => ?_)
  · obtain ⟨a, b, rfl, _⟩ := h
    rfl
  obtain ⟨a, b, rfl, q⟩ := h
  refine ⟨_, (pss_cons (ps_set (i := 0) scGcd.nd rfl (.inl rfl) (pe_callB call_abs (by rfl) T.b_abs (by decide +kernel) (pa_cons (pv 0) pa_nil)))
      (pss_cons (ps_set (i := 1) scGcd.nd rfl (.inl rfl) (pe_callB call_abs (by rfl) T.b_abs (by decide +kernel) (pa_cons (pv 1) pa_nil)))
      (pss_cons (ps_while PassesOwn.never (pt_cmpR op_gt (pv 1) pe_int (nomark _)) (pss_one (ps_par (i := 0) (j := 1) (by rfl) scGcd.nd rfl rfl (by decide) rfl rfl (pa_cons (pv 1) (pa_cons (pe_op op_modN (pe_callTy call_int1 (by rfl) T.b_int (by decide +kernel) (pa_cons (pv 0) pa_nil)) (pv 1)) pa_nil)) (by rfl))))
      (pss_one (ps_ret (pv 0)))))), ?_⟩
  simp only [abs_if, cx_K, decide_true, decide_false, reduceCtorEq, gTp, gCons, gNil, ca_0, ca_1, ca_2, ca_3, ca_4, ca_5, ca_6, ca_7, ca_8, ca_9, ca_10, ca_11, ca_12, ca_13, ca_14, ca_15, ca_16, ca_17, ca_18, ca_19, ca_20, ca_21, ca_22, ca_23, ca_24, ca_25, ca_26, ca_27, ca_28, ca_29, ca_30, not_true_eq_false, not_false_eq_true, Int.reduceEq, Nat.reduceEqDiff, Nat.reduceLeDiff, rGcd, V.ty.injEq, eq_self, List.not_mem_nil, beq_self_eq_true, HO.lst.injEq, HO.tup.injEq, tFor_eq, iRng1, iList, iTup, nat10, tSeq, rIxA, rSetA, rIsN, rIsT, tTp, tLs, itsO_tup, itsO_lst, tyO_tup, tyO_lst, tyO_dK, tyN_non, tyN_bl, tyN_int, tyN_str, tyN_ref, tyNs_lt, isB, upd_same, upd_upd, sizeLine_eq, List.mem_cons, String.reduceBEq, String.reduceEq, Bool.or_false, Bool.or_true, Bool.and_false, Bool.false_or, Bool.and_self, Bool.false_and, Bool.not_false, Bool.not_true, List.any_cons, List.any_nil, atI_0, setI_0, atI_1, setI_1, atI_2, setI_2, atI_3, setI_3, atI_4, setI_4, atI_5, setI_5, atI_6, setI_6, tAsg, gName, tOp, tUn, tVar, tC, tCons, L2.tNil, tRet, tIfS, tTest, tCB, tCall, rI, rI0, rU, tNext, tB, tAnd, tOr, tNot, tAndV, tOrV, tNotV, tDrop, tIf, tPar, gSub, rIxL, rIxT, rEq, rNe, rSetL, tBits,
    L2.start, List.map_cons, List.map_nil, List.cons_append, List.nil_append, List.append_nil, List.length_cons, List.length_nil, List.replicate, Nat.reduceAdd, Nat.reduceSub, Nat.zero_add, List.getElem?_cons_zero, List.getElem?_cons_succ, List.set_cons_zero, List.set_cons_succ,
    Option.some.injEq, exists_eq_left', exists_eq_left, V.int.injEq, V.bl.injEq, V.ref.injEq, V.str.injEq, List.cons.injEq, reduceCtorEq, and_true, true_and, false_and, and_false, exists_false, or_false, false_or, or_true, true_or, exists_const, CMul, CDiv, CPow, and_assoc, exists_and_left, exists_and_right, Int.reducePow, Int.reduceNeg, Int.reduceLT, Int.reduceLE, Nat.reducePow, Nat.reduceLT, Int.reduceToNat, gt_iff_lt, ge_iff_le, decide_eq_true_eq, Bool.not_eq_true', decide_eq_false_iff_not, scal, ↓reduceIte, Bool.false_eq_true]
  refine while_by (GcdW a b H) GcdM ⟨_, _, rfl, rfl, by omega, by omega, rfl⟩ ?_ ?_
  · rintro σ H' ⟨l, r, rfl, rfl, hl, hr, e⟩
    simp only [cx_K, decide_true, decide_false, reduceCtorEq, gTp, gCons, gNil, ca_0, ca_1, ca_2, ca_3, ca_4, ca_5, ca_6, ca_7, ca_8, ca_9, ca_10, ca_11, ca_12, ca_13, ca_14, ca_15, ca_16, ca_17, ca_18, ca_19, ca_20, ca_21, ca_22, ca_23, ca_24, ca_25, ca_26, ca_27, ca_28, ca_29, ca_30, not_true_eq_false, not_false_eq_true, Int.reduceEq, Nat.reduceEqDiff, Nat.reduceLeDiff, rGcd, V.ty.injEq, eq_self, List.not_mem_nil, beq_self_eq_true, HO.lst.injEq, HO.tup.injEq, tFor_eq, iRng1, iList, iTup, nat10, tSeq, rIxA, rSetA, rIsN, rIsT, tTp, tLs, itsO_tup, itsO_lst, tyO_tup, tyO_lst, tyO_dK, tyN_non, tyN_bl, tyN_int, tyN_str, tyN_ref, tyNs_lt, isB, upd_same, upd_upd, sizeLine_eq, List.mem_cons, String.reduceBEq, String.reduceEq, Bool.or_false, Bool.or_true, Bool.and_false, Bool.false_or, Bool.and_self, Bool.false_and, Bool.not_false, Bool.not_true, List.any_cons, List.any_nil, atI_0, setI_0, atI_1, setI_1, atI_2, setI_2, atI_3, setI_3, atI_4, setI_4, atI_5, setI_5, atI_6, setI_6, tAsg, gName, tOp, tUn, tVar, tC, tCons, L2.tNil, tRet, tIfS, tTest, tCB, tCall, rI, rI0, rU, tNext, tB, tAnd, tOr, tNot, tAndV, tOrV, tNotV, tDrop, tIf, tPar, gSub, rIxL, rIxT, rEq, rNe, rSetL, tBits,
    L2.start, List.map_cons, List.map_nil, List.cons_append, List.nil_append, List.append_nil, List.length_cons, List.length_nil, List.replicate, Nat.reduceAdd, Nat.reduceSub, Nat.zero_add, List.getElem?_cons_zero, List.getElem?_cons_succ, List.set_cons_zero, List.set_cons_succ,
    Option.some.injEq, exists_eq_left', exists_eq_left, V.int.injEq, V.bl.injEq, V.ref.injEq, V.str.injEq, List.cons.injEq, reduceCtorEq, and_true, true_and, false_and, and_false, exists_false, or_false, false_or, or_true, true_or, exists_const, CMul, CDiv, CPow, and_assoc, exists_and_left, exists_and_right, Int.reducePow, Int.reduceNeg, Int.reduceLT, Int.reduceLE, Nat.reducePow, Nat.reduceLT, Int.reduceToNat, gt_iff_lt, ge_iff_le, decide_eq_true_eq, Bool.not_eq_true', decide_eq_false_iff_not, scal, ↓reduceIte, Bool.false_eq_true]
    refine ite2 (fun h => ?_) (fun h => ?_)
    · refine ⟨by omega, ⟨_, _, rfl, rfl, hr, ?_, ?_⟩, ?_⟩
      · rw [Int.fmod_eq_emod_of_nonneg l hr]
        exact Int.emod_nonneg _ (by omega)
      · rw [Int.fmod_eq_emod_of_nonneg l hr, ← e]
        show Nat.gcd r.natAbs (l % r).natAbs = Nat.gcd l.natAbs r.natAbs
        rw [Int.natAbs_emod_of_nonneg hl, Nat.gcd_comm l.natAbs, Nat.gcd_rec r.natAbs l.natAbs, Nat.gcd_comm]
      · show (l.fmod r).toNat < r.toNat
        rw [Int.fmod_eq_emod_of_nonneg l hr]
        have := Int.emod_lt_of_pos l h
        omega
    · have hr0 : r = 0 := by omega
      subst hr0
      have e2 : l = ((Int.gcd a b : Nat) : Int) := by
        rw [← e, Int.gcd_zero_right]
        omega
      rw [e2]
      exact q
  · rintro σ H' Q' Q2 hq ⟨v, e, i, j, h1, h2, k, ek, h⟩
    exact ⟨v, e, i, j, h1, h2, k, ek, hq _ _ h⟩
/-- the law's own lowest terms; 0 beneath gives 0 -/
def Lw (q : Qt) (t b : Int) : Prop := (b = 0 → q = (0, 1)) ∧ (b ≠ 0 → Is q t b)
/-- hands back a fraction, all else as it was -/
def Gv (K : PySem.W.Frag) (H : Hp) (Q : VK) (q : Qt) : Prop := ∀ (p : Addr) (H' : Hp), Same H H' → ob K H' p = some (frt q) → Q (.ref p) H'
theorem Gv.new {K : PySem.W.Frag} {H : Hp} {Q : VK} {q : Qt} (h : Gv K H Q q) {p : Addr} (hp : H p = none) (kp : K.lookup p = none) : Q (.ref p) (upd H p (.tup [.int q.1, .int q.2])) := h p _ (Same.new hp _) (ob_new kp)
def spLowest (K : PySem.W.Frag) : Sp := fun vs H Q _ => ∃ t b : Int, vs = [.int t, .int b] ∧ b.natAbs < 2 ^ 8000 ∧ ∀ q, Lw q t b → Gv K H Q q
abbrev sLowest : Stmt := topS 37
theorem scLowest : FnScope ["_law_top", "_law_bottom", "_law_common"] ["_law_top", "_law_bottom"] (defScope sLowest) := ⟨rfl, rfl, rfl, by decide +kernel, rfl, by decide +kernel, by decide +kernel⟩
theorem k_Lowest (T : Bt K mg) (D : Dfn K mg "_law_lowest" sLowest ["_law_top", "_law_bottom"]) (d__law_gcd : Kn P w K mg base 1 "_law_gcd" ["_law_left", "_law_right"] spGcd) : Kn P w K mg base 2 "_law_lowest" ["_law_top", "_law_bottom"] (spLowest K) := by
  refine Kn.mk' D scLowest (fun vs H Q E h => ?_) (fun f cdv A outer s H vs Q E hr h => ?_)
  · obtain ⟨t, b, rfl, _⟩ := h
    rfl
  obtain ⟨t, b, rfl, hz, q⟩ := h
  refine ⟨_, (pss_cons (ps_if (pt_cmpR op_eq (pv 1) pe_int (nomark _)) (pss_one (ps_ret (pe_tp (pa_cons pe_int (pa_cons pe_int pa_nil))))) pss_nil)
      (pss_cons (ps_if (pt_cmpR op_lt (pv 1) pe_int (nomark _)) (pss_cons (ps_set (i := 0) scLowest.nd rfl (.inl rfl) (pe_un un_neg (pv 0)))
      (pss_one (ps_set (i := 1) scLowest.nd rfl (.inl rfl) (pe_un un_neg (pv 1))))) pss_nil)
      (pss_cons (ps_set (i := 2) scLowest.nd rfl (.inl rfl) (pe_kn d__law_gcd hr (by rfl) (pa_cons (pv 0) (pa_cons (pv 1) pa_nil))))
      (pss_one (ps_ret (pe_tp (pa_cons (pe_op op_fdivW (pv 0) (pv 2)) (pa_cons (pe_op op_fdivW (pv 1) (pv 2)) pa_nil)))))))), ?_⟩
  simp only [cx_K, decide_true, decide_false, reduceCtorEq, gTp, gCons, gNil, ca_0, ca_1, ca_2, ca_3, ca_4, ca_5, ca_6, ca_7, ca_8, ca_9, ca_10, ca_11, ca_12, ca_13, ca_14, ca_15, ca_16, ca_17, ca_18, ca_19, ca_20, ca_21, ca_22, ca_23, ca_24, ca_25, ca_26, ca_27, ca_28, ca_29, ca_30, not_true_eq_false, not_false_eq_true, Int.reduceEq, Nat.reduceEqDiff, Nat.reduceLeDiff, rGcd, V.ty.injEq, eq_self, List.not_mem_nil, beq_self_eq_true, HO.lst.injEq, HO.tup.injEq, tFor_eq, iRng1, iList, iTup, nat10, tSeq, rIxA, rSetA, rIsN, rIsT, tTp, tLs, itsO_tup, itsO_lst, tyO_tup, tyO_lst, tyO_dK, tyN_non, tyN_bl, tyN_int, tyN_str, tyN_ref, tyNs_lt, isB, upd_same, upd_upd, sizeLine_eq, List.mem_cons, String.reduceBEq, String.reduceEq, Bool.or_false, Bool.or_true, Bool.and_false, Bool.false_or, Bool.and_self, Bool.false_and, Bool.not_false, Bool.not_true, List.any_cons, List.any_nil, atI_0, setI_0, atI_1, setI_1, atI_2, setI_2, atI_3, setI_3, atI_4, setI_4, atI_5, setI_5, atI_6, setI_6, tAsg, gName, tOp, tUn, tVar, tC, tCons, L2.tNil, tRet, tIfS, tTest, tCB, tCall, rI, rI0, rU, tNext, tB, tAnd, tOr, tNot, tAndV, tOrV, tNotV, tDrop, tIf, tPar, gSub, rIxL, rIxT, rEq, rNe, rSetL, tBits,
    L2.start, List.map_cons, List.map_nil, List.cons_append, List.nil_append, List.append_nil, List.length_cons, List.length_nil, List.replicate, Nat.reduceAdd, Nat.reduceSub, Nat.zero_add, List.getElem?_cons_zero, List.getElem?_cons_succ, List.set_cons_zero, List.set_cons_succ,
    Option.some.injEq, exists_eq_left', exists_eq_left, V.int.injEq, V.bl.injEq, V.ref.injEq, V.str.injEq, List.cons.injEq, reduceCtorEq, and_true, true_and, false_and, and_false, exists_false, or_false, false_or, or_true, true_or, exists_const, CMul, CDiv, CPow, and_assoc, exists_and_left, exists_and_right, Int.reducePow, Int.reduceNeg, Int.reduceLT, Int.reduceLE, Nat.reducePow, Nat.reduceLT, Int.reduceToNat, gt_iff_lt, ge_iff_le, decide_eq_true_eq, Bool.not_eq_true', decide_eq_false_iff_not, scal, ↓reduceIte, Bool.false_eq_true]
  refine ite2 (fun h => ?_) (fun h => ?_)
  · exact fun p hp kp => (q (0, 1) ⟨fun _ => rfl, fun z => absurd h z⟩).new hp kp
  have key : ∀ t' b' : Int, 0 < b' → b'.natAbs < 2 ^ 8000 → (∀ q, Is q t' b' → Gv K H Q q) → CDivW t' ((Int.gcd t' b' : Nat) : Int) ∧ CDivW b' ((Int.gcd t' b' : Nat) : Int) ∧ ∀ p, H p = none → K.lookup p = none → Q (.ref p) (upd H p (.tup [.int (t' / ((Int.gcd t' b' : Nat) : Int)), .int (b' / ((Int.gcd t' b' : Nat) : Int))])) := fun t' b' h0 hz hq => by
    have g0 := gcd_pos (t := t') (b := b') (by omega)
    have g1 := gcd_le (t := t') (b := b') (by omega)
    have g2 : ((Int.gcd t' b' : Nat) : Int).natAbs < 2 ^ 8000 := by rw [Int.natAbs_natCast]; omega
    exact ⟨wide_div (b := 8000) (by omega) g2 (by omega) (by omega), wide_div (b := 8000) (by omega) g2 (by omega) (by omega), fun p hp kp => (hq _ (is_div h0)).new hp kp⟩
  refine ite2 (fun hb => ?_) (fun hb => ?_)
  · have k := key (-t) (-b) (by omega) (by rw [Int.natAbs_neg]; exact hz) fun z hz => q z ⟨fun e => absurd e h, fun _ => is_neg hz⟩
    refine ⟨_, _, rfl, ?_⟩
    simp only [cx_K, decide_true, decide_false, reduceCtorEq, gTp, gCons, gNil, ca_0, ca_1, ca_2, ca_3, ca_4, ca_5, ca_6, ca_7, ca_8, ca_9, ca_10, ca_11, ca_12, ca_13, ca_14, ca_15, ca_16, ca_17, ca_18, ca_19, ca_20, ca_21, ca_22, ca_23, ca_24, ca_25, ca_26, ca_27, ca_28, ca_29, ca_30, not_true_eq_false, not_false_eq_true, Int.reduceEq, Nat.reduceEqDiff, Nat.reduceLeDiff, rGcd, V.ty.injEq, eq_self, List.not_mem_nil, beq_self_eq_true, HO.lst.injEq, HO.tup.injEq, tFor_eq, iRng1, iList, iTup, nat10, tSeq, rIxA, rSetA, rIsN, rIsT, tTp, tLs, itsO_tup, itsO_lst, tyO_tup, tyO_lst, tyO_dK, tyN_non, tyN_bl, tyN_int, tyN_str, tyN_ref, tyNs_lt, isB, upd_same, upd_upd, sizeLine_eq, List.mem_cons, String.reduceBEq, String.reduceEq, Bool.or_false, Bool.or_true, Bool.and_false, Bool.false_or, Bool.and_self, Bool.false_and, Bool.not_false, Bool.not_true, List.any_cons, List.any_nil, atI_0, setI_0, atI_1, setI_1, atI_2, setI_2, atI_3, setI_3, atI_4, setI_4, atI_5, setI_5, atI_6, setI_6, tAsg, gName, tOp, tUn, tVar, tC, tCons, L2.tNil, tRet, tIfS, tTest, tCB, tCall, rI, rI0, rU, tNext, tB, tAnd, tOr, tNot, tAndV, tOrV, tNotV, tDrop, tIf, tPar, gSub, rIxL, rIxT, rEq, rNe, rSetL, tBits,
    L2.start, List.map_cons, List.map_nil, List.cons_append, List.nil_append, List.append_nil, List.length_cons, List.length_nil, List.replicate, Nat.reduceAdd, Nat.reduceSub, Nat.zero_add, List.getElem?_cons_zero, List.getElem?_cons_succ, List.set_cons_zero, List.set_cons_succ,
    Option.some.injEq, exists_eq_left', exists_eq_left, V.int.injEq, V.bl.injEq, V.ref.injEq, V.str.injEq, List.cons.injEq, reduceCtorEq, and_true, true_and, false_and, and_false, exists_false, or_false, false_or, or_true, true_or, exists_const, CMul, CDiv, CPow, and_assoc, exists_and_left, exists_and_right, Int.reducePow, Int.reduceNeg, Int.reduceLT, Int.reduceLE, Nat.reducePow, Nat.reduceLT, Int.reduceToNat, gt_iff_lt, ge_iff_le, decide_eq_true_eq, Bool.not_eq_true', decide_eq_false_iff_not, scal, ↓reduceIte, Bool.false_eq_true]
    exact k
  · have k := key t b (by omega) hz fun z hz => q z ⟨fun e => absurd e h, fun _ => hz⟩
    refine ⟨_, _, rfl, ?_⟩
    simp only [cx_K, decide_true, decide_false, reduceCtorEq, gTp, gCons, gNil, ca_0, ca_1, ca_2, ca_3, ca_4, ca_5, ca_6, ca_7, ca_8, ca_9, ca_10, ca_11, ca_12, ca_13, ca_14, ca_15, ca_16, ca_17, ca_18, ca_19, ca_20, ca_21, ca_22, ca_23, ca_24, ca_25, ca_26, ca_27, ca_28, ca_29, ca_30, not_true_eq_false, not_false_eq_true, Int.reduceEq, Nat.reduceEqDiff, Nat.reduceLeDiff, rGcd, V.ty.injEq, eq_self, List.not_mem_nil, beq_self_eq_true, HO.lst.injEq, HO.tup.injEq, tFor_eq, iRng1, iList, iTup, nat10, tSeq, rIxA, rSetA, rIsN, rIsT, tTp, tLs, itsO_tup, itsO_lst, tyO_tup, tyO_lst, tyO_dK, tyN_non, tyN_bl, tyN_int, tyN_str, tyN_ref, tyNs_lt, isB, upd_same, upd_upd, sizeLine_eq, List.mem_cons, String.reduceBEq, String.reduceEq, Bool.or_false, Bool.or_true, Bool.and_false, Bool.false_or, Bool.and_self, Bool.false_and, Bool.not_false, Bool.not_true, List.any_cons, List.any_nil, atI_0, setI_0, atI_1, setI_1, atI_2, setI_2, atI_3, setI_3, atI_4, setI_4, atI_5, setI_5, atI_6, setI_6, tAsg, gName, tOp, tUn, tVar, tC, tCons, L2.tNil, tRet, tIfS, tTest, tCB, tCall, rI, rI0, rU, tNext, tB, tAnd, tOr, tNot, tAndV, tOrV, tNotV, tDrop, tIf, tPar, gSub, rIxL, rIxT, rEq, rNe, rSetL, tBits,
    L2.start, List.map_cons, List.map_nil, List.cons_append, List.nil_append, List.append_nil, List.length_cons, List.length_nil, List.replicate, Nat.reduceAdd, Nat.reduceSub, Nat.zero_add, List.getElem?_cons_zero, List.getElem?_cons_succ, List.set_cons_zero, List.set_cons_succ,
    Option.some.injEq, exists_eq_left', exists_eq_left, V.int.injEq, V.bl.injEq, V.ref.injEq, V.str.injEq, List.cons.injEq, reduceCtorEq, and_true, true_and, false_and, and_false, exists_false, or_false, false_or, or_true, true_or, exists_const, CMul, CDiv, CPow, and_assoc, exists_and_left, exists_and_right, Int.reducePow, Int.reduceNeg, Int.reduceLT, Int.reduceLE, Nat.reducePow, Nat.reduceLT, Int.reduceToNat, gt_iff_lt, ge_iff_le, decide_eq_true_eq, Bool.not_eq_true', decide_eq_false_iff_not, scal, ↓reduceIte, Bool.false_eq_true]
    exact k
end
end My

namespace My
open PySem PySem.Spec PyProof.Rows L2
section
variable {P : Program} {w : World} {K : PySem.W.Frag} {mg : Str → Option Value} {base : Heap}
end
structure DfnD (K : PySem.W.Frag) (mg : Str → Option Value) (x : Str) (st : Stmt) (ps : List Str) : Prop where
  ex : ∃ f fd dvs, FunD K x x (defArgs st) (defBody st) (defScope st) dvs [] f fd ∧ mg x = some (.ref f) ∧ Binds K fd ps []
theorem Kn.mkD {P : Program} {w : World} {K : PySem.W.Frag} {mg : Str → Option Value} {base : Heap} {x : Str} {st : Stmt} {N ps : List Str} {k : Nat} {sp : Sp} (D : DfnD K mg x st ps) (S : FnScope N ps (defScope st)) (len : ∀ vs H Q E, sp vs H Q E → vs.length = ps.length)
    (hbody : ∀ (f : Addr) (cdv : Value) (A : Around) (outer : List Env) (s : Shared) (H : Hp) (vs : List V) (Q : VK) (E : XK), Room k (A.deeper (envOfC x (defScope st) s.heap.objs.size f cdv)) → sp vs H Q E →
      ∃ t, PSs (cxOf CX0 P w K mg base N x (defScope st) f cdv A outer s H E).nox (defBody st) t ∧ t { nx := fun _ H' => Q .non H', rt := Q } (start N vs) H) : Kn P w K mg base (k + 1) x ps sp := by
  obtain ⟨f, fd, dvs, F, m, b⟩ := D.ex
  exact ⟨f, fd, m, F.kp, b, F.ok S len fun cdv A outer s H vs Q E hr h => let ⟨t, a, c⟩ := hbody f cdv A outer s H vs Q E hr h; ⟨t, a.nox, c⟩⟩
section
variable {P : Program} {w : World} {K : PySem.W.Frag} {mg : Str → Option Value} {base : Heap}
def spRequire : Sp := fun vs H Q _ => ∃ x : V, vs = [.bl true, x] ∧ Q .non H
abbrev sRequire : Stmt := topS 6
theorem scRequire : FnScope ["well_formed", "what"] ["well_formed", "what"] (defScope sRequire) := ⟨rfl, rfl, rfl, by decide +kernel, rfl, by decide +kernel, by decide +kernel⟩
theorem k_Require (T : Bt K mg) (D : Dfn K mg "require" sRequire ["well_formed", "what"]) : Kn P w K mg base 1 "require" ["well_formed", "what"] spRequire := by
  refine Kn.mk' D scRequire (fun vs H Q E h => ?_) (fun f cdv A outer s H vs Q E hr h => ?_)
  · obtain ⟨x, rfl, _⟩ := h
    rfl
  obtain ⟨x, rfl, q⟩ := h
  refine ⟨_, (pss_one (ps_if (pt_not (pt_val (pv 0))) (pss_one ps_never) pss_nil)), ?_⟩
  simp only [cx_K, decide_true, decide_false, reduceCtorEq, gTp, gCons, gNil, ca_0, ca_1, ca_2, ca_3, ca_4, ca_5, ca_6, ca_7, ca_8, ca_9, ca_10, ca_11, ca_12, ca_13, ca_14, ca_15, ca_16, ca_17, ca_18, ca_19, ca_20, ca_21, ca_22, ca_23, ca_24, ca_25, ca_26, ca_27, ca_28, ca_29, ca_30, not_true_eq_false, not_false_eq_true, Int.reduceEq, Nat.reduceEqDiff, Nat.reduceLeDiff, rGcd, V.ty.injEq, eq_self, List.not_mem_nil, beq_self_eq_true, HO.lst.injEq, HO.tup.injEq, tFor_eq, iRng1, iList, iTup, nat10, tSeq, rIxA, rSetA, rIsN, rIsT, tTp, tLs, itsO_tup, itsO_lst, tyO_tup, tyO_lst, tyO_dK, tyN_non, tyN_bl, tyN_int, tyN_str, tyN_ref, tyNs_lt, isB, upd_same, upd_upd, sizeLine_eq, List.mem_cons, String.reduceBEq, String.reduceEq, Bool.or_false, Bool.or_true, Bool.and_false, Bool.false_or, Bool.and_self, Bool.false_and, Bool.not_false, Bool.not_true, List.any_cons, List.any_nil, atI_0, setI_0, atI_1, setI_1, atI_2, setI_2, atI_3, setI_3, atI_4, setI_4, atI_5, setI_5, atI_6, setI_6, tAsg, gName, tOp, tUn, tVar, tC, tCons, L2.tNil, tRet, tIfS, tTest, tCB, tCall, rI, rI0, rU, tNext, tB, tAnd, tOr, tNot, tAndV, tOrV, tNotV, tDrop, tIf, tPar, gSub, rIxL, rIxT, rEq, rNe, rSetL, tBits,
    L2.start, List.map_cons, List.map_nil, List.cons_append, List.nil_append, List.append_nil, List.length_cons, List.length_nil, List.replicate, Nat.reduceAdd, Nat.reduceSub, Nat.zero_add, List.getElem?_cons_zero, List.getElem?_cons_succ, List.set_cons_zero, List.set_cons_succ,
    Option.some.injEq, exists_eq_left', exists_eq_left, V.int.injEq, V.bl.injEq, V.ref.injEq, V.str.injEq, List.cons.injEq, reduceCtorEq, and_true, true_and, false_and, and_false, exists_false, or_false, false_or, or_true, true_or, exists_const, CMul, CDiv, CPow, and_assoc, exists_and_left, exists_and_right, Int.reducePow, Int.reduceNeg, Int.reduceLT, Int.reduceLE, Nat.reducePow, Nat.reduceLT, Int.reduceToNat, gt_iff_lt, ge_iff_le, decide_eq_true_eq, Bool.not_eq_true', decide_eq_false_iff_not, scal, ↓reduceIte, Bool.false_eq_true]
  exact q
def wholeV : V → Bool
  | .int _ => true
  | _ => false
theorem wholeV_ty {H : Hp} {v : V} {t : String} (h : tyN K H v = some t) : wholeV v = (t == "int") := by
  cases v with
  | ref a =>
    have h1 : tyO (ob K H a) = some t := h
    unfold tyO at h1
    split at h1 <;> first | (cases h1; rfl) | cases h1
  | _ => first | (cases h; rfl) | cases h
def spWhole (K : PySem.W.Frag) : Sp := fun vs H Q _ => ∃ v, vs = [v] ∧ (tyN K H v).isSome ∧ Q (.bl (wholeV v)) H
abbrev sWhole : Stmt := topS 7
theorem scWhole : FnScope ["value"] ["value"] (defScope sWhole) := ⟨rfl, rfl, rfl, by decide +kernel, rfl, by decide +kernel, by decide +kernel⟩
theorem k_Whole (T : Bt K mg) (D : Dfn K mg "is_whole" sWhole ["value"]) : Kn P w K mg base 1 "is_whole" ["value"] (spWhole K) := by
  refine Kn.mk' D scWhole (fun vs H Q E h => ?_) (fun f cdv A outer s H vs Q E hr h => ?_)
  · obtain ⟨v, rfl, _⟩ := h
    rfl
  obtain ⟨v, rfl, hv, q⟩ := h
  refine ⟨_, (pss_one (ps_ret (pe_and (pe_callB call_isN (by rfl) T.b_isinstance (by decide +kernel) (pa_cons (pv 0) (pa_cons (pe_bltn (v := .ty "int") (by rfl) T.b_int (by decide +kernel) rfl) pa_nil))) (pe_one (pe_not (pe_callB call_isN (by rfl) T.b_isinstance (by decide +kernel) (pa_cons (pv 0) (pa_cons (pe_bltn (v := .ty "bool") (by rfl) T.b_bool (by decide +kernel) rfl) pa_nil)))))))), ?_⟩
  obtain ⟨t, ht⟩ := Option.isSome_iff_exists.mp hv
  rw [wholeV_ty ht] at q
  have mt := tyN_mem ht
  simp only [List.mem_cons, List.not_mem_nil, or_false] at mt
  rcases mt with rfl | rfl | rfl | rfl | rfl | rfl | rfl <;> (simp only [ht, cx_K, decide_true, decide_false, reduceCtorEq, gTp, gCons, gNil, ca_0, ca_1, ca_2, ca_3, ca_4, ca_5, ca_6, ca_7, ca_8, ca_9, ca_10, ca_11, ca_12, ca_13, ca_14, ca_15, ca_16, ca_17, ca_18, ca_19, ca_20, ca_21, ca_22, ca_23, ca_24, ca_25, ca_26, ca_27, ca_28, ca_29, ca_30, not_true_eq_false, not_false_eq_true, Int.reduceEq, Nat.reduceEqDiff, Nat.reduceLeDiff, rGcd, V.ty.injEq, eq_self, List.not_mem_nil, beq_self_eq_true, HO.lst.injEq, HO.tup.injEq, tFor_eq, iRng1, iList, iTup, nat10, tSeq, rIxA, rSetA, rIsN, rIsT, tTp, tLs, itsO_tup, itsO_lst, tyO_tup, tyO_lst, tyO_dK, tyN_non, tyN_bl, tyN_int, tyN_str, tyN_ref, tyNs_lt, isB, upd_same, upd_upd, sizeLine_eq, List.mem_cons, String.reduceBEq, String.reduceEq, Bool.or_false, Bool.or_true, Bool.and_false, Bool.false_or, Bool.and_self, Bool.false_and, Bool.not_false, Bool.not_true, List.any_cons, List.any_nil, atI_0, setI_0, atI_1, setI_1, atI_2, setI_2, atI_3, setI_3, atI_4, setI_4, atI_5, setI_5, atI_6, setI_6, tAsg, gName, tOp, tUn, tVar, tC, tCons, L2.tNil, tRet, tIfS, tTest, tCB, tCall, rI, rI0, rU, tNext, tB, tAnd, tOr, tNot, tAndV, tOrV, tNotV, tDrop, tIf, tPar, gSub, rIxL, rIxT, rEq, rNe, rSetL, tBits,
    L2.start, List.map_cons, List.map_nil, List.cons_append, List.nil_append, List.append_nil, List.length_cons, List.length_nil, List.replicate, Nat.reduceAdd, Nat.reduceSub, Nat.zero_add, List.getElem?_cons_zero, List.getElem?_cons_succ, List.set_cons_zero, List.set_cons_succ,
    Option.some.injEq, exists_eq_left', exists_eq_left, V.int.injEq, V.bl.injEq, V.ref.injEq, V.str.injEq, List.cons.injEq, reduceCtorEq, and_true, true_and, false_and, and_false, exists_false, or_false, false_or, or_true, true_or, exists_const, CMul, CDiv, CPow, and_assoc, exists_and_left, exists_and_right, Int.reducePow, Int.reduceNeg, Int.reduceLT, Int.reduceLE, Nat.reducePow, Nat.reduceLT, Int.reduceToNat, gt_iff_lt, ge_iff_le, decide_eq_true_eq, Bool.not_eq_true', decide_eq_false_iff_not, scal, ↓reduceIte, Bool.false_eq_true]; simpa using q)
abbrev sLWhole : Stmt := topS 41
theorem scLWhole : FnScope ["_law_told"] ["_law_told"] (defScope sLWhole) := ⟨rfl, rfl, rfl, by decide +kernel, rfl, by decide +kernel, by decide +kernel⟩
theorem k_LWhole (T : Bt K mg) (D : Dfn K mg "_law_is_whole" sLWhole ["_law_told"]) : Kn P w K mg base 1 "_law_is_whole" ["_law_told"] (spWhole K) := by
  refine Kn.mk' D scLWhole (fun vs H Q E h => ?_) (fun f cdv A outer s H vs Q E hr h => ?_)
  · obtain ⟨v, rfl, _⟩ := h
    rfl
  obtain ⟨v, rfl, hv, q⟩ := h
  refine ⟨_, (pss_one (ps_ret (pe_and (pe_callB call_isN (by rfl) T.b_isinstance (by decide +kernel) (pa_cons (pv 0) (pa_cons (pe_bltn (v := .ty "int") (by rfl) T.b_int (by decide +kernel) rfl) pa_nil))) (pe_one (pe_not (pe_callB call_isN (by rfl) T.b_isinstance (by decide +kernel) (pa_cons (pv 0) (pa_cons (pe_bltn (v := .ty "bool") (by rfl) T.b_bool (by decide +kernel) rfl) pa_nil)))))))), ?_⟩
  obtain ⟨t, ht⟩ := Option.isSome_iff_exists.mp hv
  rw [wholeV_ty ht] at q
  have mt := tyN_mem ht
  simp only [List.mem_cons, List.not_mem_nil, or_false] at mt
  rcases mt with rfl | rfl | rfl | rfl | rfl | rfl | rfl <;> (simp only [ht, cx_K, decide_true, decide_false, reduceCtorEq, gTp, gCons, gNil, ca_0, ca_1, ca_2, ca_3, ca_4, ca_5, ca_6, ca_7, ca_8, ca_9, ca_10, ca_11, ca_12, ca_13, ca_14, ca_15, ca_16, ca_17, ca_18, ca_19, ca_20, ca_21, ca_22, ca_23, ca_24, ca_25, ca_26, ca_27, ca_28, ca_29, ca_30, not_true_eq_false, not_false_eq_true, Int.reduceEq, Nat.reduceEqDiff, Nat.reduceLeDiff, rGcd, V.ty.injEq, eq_self, List.not_mem_nil, beq_self_eq_true, HO.lst.injEq, HO.tup.injEq, tFor_eq, iRng1, iList, iTup, nat10, tSeq, rIxA, rSetA, rIsN, rIsT, tTp, tLs, itsO_tup, itsO_lst, tyO_tup, tyO_lst, tyO_dK, tyN_non, tyN_bl, tyN_int, tyN_str, tyN_ref, tyNs_lt, isB, upd_same, upd_upd, sizeLine_eq, List.mem_cons, String.reduceBEq, String.reduceEq, Bool.or_false, Bool.or_true, Bool.and_false, Bool.false_or, Bool.and_self, Bool.false_and, Bool.not_false, Bool.not_true, List.any_cons, List.any_nil, atI_0, setI_0, atI_1, setI_1, atI_2, setI_2, atI_3, setI_3, atI_4, setI_4, atI_5, setI_5, atI_6, setI_6, tAsg, gName, tOp, tUn, tVar, tC, tCons, L2.tNil, tRet, tIfS, tTest, tCB, tCall, rI, rI0, rU, tNext, tB, tAnd, tOr, tNot, tAndV, tOrV, tNotV, tDrop, tIf, tPar, gSub, rIxL, rIxT, rEq, rNe, rSetL, tBits,
    L2.start, List.map_cons, List.map_nil, List.cons_append, List.nil_append, List.append_nil, List.length_cons, List.length_nil, List.replicate, Nat.reduceAdd, Nat.reduceSub, Nat.zero_add, List.getElem?_cons_zero, List.getElem?_cons_succ, List.set_cons_zero, List.set_cons_succ,
    Option.some.injEq, exists_eq_left', exists_eq_left, V.int.injEq, V.bl.injEq, V.ref.injEq, V.str.injEq, List.cons.injEq, reduceCtorEq, and_true, true_and, false_and, and_false, exists_false, or_false, false_or, or_true, true_or, exists_const, CMul, CDiv, CPow, and_assoc, exists_and_left, exists_and_right, Int.reducePow, Int.reduceNeg, Int.reduceLT, Int.reduceLE, Nat.reducePow, Nat.reduceLT, Int.reduceToNat, gt_iff_lt, ge_iff_le, decide_eq_true_eq, Bool.not_eq_true', decide_eq_false_iff_not, scal, ↓reduceIte, Bool.false_eq_true]; simpa using q)
def spFraction (K : PySem.W.Frag) : Sp := fun vs H Q _ => ∃ n d : Int, vs = [.int n, .int d] ∧ d ≠ 0 ∧ d.natAbs < 2 ^ 8000 ∧ ∀ q, Is q n d → Gv K H Q q
theorem gcdX {n d : Int} (h0 : d ≠ 0) (hz : d.natAbs < 2 ^ 8000) (x : Int) : CDivX x (if d < 0 then -((Int.gcd n d : Nat) : Int) else (Int.gcd n d : Nat)) := by
  have g0 := gcd_pos (t := n) (b := d) h0
  have g1 := gcd_le (t := n) (b := d) h0
  have e : 2 ^ 8000 ≤ 2 ^ 8999 := Nat.pow_le_pow_right (by omega) (by omega)
  unfold CDivX
  split <;> refine ⟨by omega, by omega⟩
abbrev sFraction : Stmt := topS 13
theorem scFraction : FnScope ["numerator", "denominator", "divisor"] ["numerator", "denominator"] (defScope sFraction) := ⟨rfl, rfl, rfl, by decide +kernel, rfl, by decide +kernel, by decide +kernel⟩
theorem k_Fraction (T : Bt K mg) (D : DfnD K mg "fraction" sFraction ["numerator", "denominator"]) (d_require : Kn P w K mg base 1 "require" ["well_formed", "what"] spRequire) (d_is_whole : Kn P w K mg base 1 "is_whole" ["value"] (spWhole K)) : Kn P w K mg base 2 "fraction" ["numerator", "denominator"] (spFraction K) := by
  refine Kn.mkD D scFraction (fun vs H Q E h => ?_) (fun f cdv A outer s H vs Q E hr h => ?_)
  · obtain ⟨n, d, rfl, _⟩ := h
    rfl
  obtain ⟨n, d, rfl, h0, hz, q⟩ := h
  refine ⟨_, (pss_cons (ps_expr (pe_kn d_require hr (by rfl) (pa_cons (pe_kn d_is_whole hr (by rfl) (pa_cons (pv 0) pa_nil)) (pa_cons pe_str pa_nil))))
      (pss_cons (ps_expr (pe_kn d_require hr (by rfl) (pa_cons (pe_and (pe_kn d_is_whole hr (by rfl) (pa_cons (pv 1) pa_nil)) (pe_one (pe_cmpR op_ne (pv 1) pe_int (nomark _)))) (pa_cons pe_str pa_nil))))
      (pss_cons (ps_set (i := 2) scFraction.nd rfl (.inl rfl) (pe_callBfun cr_gcd (by rfl) T.g_gcd (pa_cons (pv 0) (pa_cons (pv 1) pa_nil))))
      (pss_cons (ps_if (pt_cmpR op_lt (pv 1) pe_int (nomark _)) (pss_one (ps_set (i := 2) scFraction.nd rfl (.inl rfl) (pe_un un_neg (pv 2)))) pss_nil)
      (pss_one (ps_ret (pe_tp (pa_cons (pe_op op_fdivX (pv 0) (pv 2)) (pa_cons (pe_op op_fdivX (pv 1) (pv 2)) pa_nil))))))))), ?_⟩
  simp only [cx_K, decide_true, decide_false, reduceCtorEq, gTp, gCons, gNil, ca_0, ca_1, ca_2, ca_3, ca_4, ca_5, ca_6, ca_7, ca_8, ca_9, ca_10, ca_11, ca_12, ca_13, ca_14, ca_15, ca_16, ca_17, ca_18, ca_19, ca_20, ca_21, ca_22, ca_23, ca_24, ca_25, ca_26, ca_27, ca_28, ca_29, ca_30, not_true_eq_false, not_false_eq_true, Int.reduceEq, Nat.reduceEqDiff, Nat.reduceLeDiff, rGcd, V.ty.injEq, eq_self, List.not_mem_nil, beq_self_eq_true, HO.lst.injEq, HO.tup.injEq, tFor_eq, iRng1, iList, iTup, nat10, tSeq, rIxA, rSetA, rIsN, rIsT, tTp, tLs, itsO_tup, itsO_lst, tyO_tup, tyO_lst, tyO_dK, tyN_non, tyN_bl, tyN_int, tyN_str, tyN_ref, tyNs_lt, isB, upd_same, upd_upd, sizeLine_eq, List.mem_cons, String.reduceBEq, String.reduceEq, Bool.or_false, Bool.or_true, Bool.and_false, Bool.false_or, Bool.and_self, Bool.false_and, Bool.not_false, Bool.not_true, List.any_cons, List.any_nil, atI_0, setI_0, atI_1, setI_1, atI_2, setI_2, atI_3, setI_3, atI_4, setI_4, atI_5, setI_5, atI_6, setI_6, tAsg, gName, tOp, tUn, tVar, tC, tCons, L2.tNil, tRet, tIfS, tTest, tCB, tCall, rI, rI0, rU, tNext, tB, tAnd, tOr, tNot, tAndV, tOrV, tNotV, tDrop, tIf, tPar, gSub, rIxL, rIxT, rEq, rNe, rSetL, tBits,
    L2.start, List.map_cons, List.map_nil, List.cons_append, List.nil_append, List.append_nil, List.length_cons, List.length_nil, List.replicate, Nat.reduceAdd, Nat.reduceSub, Nat.zero_add, List.getElem?_cons_zero, List.getElem?_cons_succ, List.set_cons_zero, List.set_cons_succ,
    Option.some.injEq, exists_eq_left', exists_eq_left, V.int.injEq, V.bl.injEq, V.ref.injEq, V.str.injEq, List.cons.injEq, reduceCtorEq, and_true, true_and, false_and, and_false, exists_false, or_false, false_or, or_true, true_or, exists_const, CMul, CDiv, CPow, and_assoc, exists_and_left, exists_and_right, Int.reducePow, Int.reduceNeg, Int.reduceLT, Int.reduceLE, Nat.reducePow, Nat.reduceLT, Int.reduceToNat, gt_iff_lt, ge_iff_le, decide_eq_true_eq, Bool.not_eq_true', decide_eq_false_iff_not, scal, ↓reduceIte, Bool.false_eq_true]
  refine ⟨_, rfl, rfl, ⟨_, rfl, ⟨_, rfl, rfl, ⟨true, rfl, ?_⟩⟩⟩⟩
  rw [if_pos rfl]
  refine ⟨_, by rw [decide_eq_false h0]; rfl, ?_⟩
  simp only [cx_K, decide_true, decide_false, reduceCtorEq, gTp, gCons, gNil, ca_0, ca_1, ca_2, ca_3, ca_4, ca_5, ca_6, ca_7, ca_8, ca_9, ca_10, ca_11, ca_12, ca_13, ca_14, ca_15, ca_16, ca_17, ca_18, ca_19, ca_20, ca_21, ca_22, ca_23, ca_24, ca_25, ca_26, ca_27, ca_28, ca_29, ca_30, not_true_eq_false, not_false_eq_true, Int.reduceEq, Nat.reduceEqDiff, Nat.reduceLeDiff, rGcd, V.ty.injEq, eq_self, List.not_mem_nil, beq_self_eq_true, HO.lst.injEq, HO.tup.injEq, tFor_eq, iRng1, iList, iTup, nat10, tSeq, rIxA, rSetA, rIsN, rIsT, tTp, tLs, itsO_tup, itsO_lst, tyO_tup, tyO_lst, tyO_dK, tyN_non, tyN_bl, tyN_int, tyN_str, tyN_ref, tyNs_lt, isB, upd_same, upd_upd, sizeLine_eq, List.mem_cons, String.reduceBEq, String.reduceEq, Bool.or_false, Bool.or_true, Bool.and_false, Bool.false_or, Bool.and_self, Bool.false_and, Bool.not_false, Bool.not_true, List.any_cons, List.any_nil, atI_0, setI_0, atI_1, setI_1, atI_2, setI_2, atI_3, setI_3, atI_4, setI_4, atI_5, setI_5, atI_6, setI_6, tAsg, gName, tOp, tUn, tVar, tC, tCons, L2.tNil, tRet, tIfS, tTest, tCB, tCall, rI, rI0, rU, tNext, tB, tAnd, tOr, tNot, tAndV, tOrV, tNotV, tDrop, tIf, tPar, gSub, rIxL, rIxT, rEq, rNe, rSetL, tBits,
    L2.start, List.map_cons, List.map_nil, List.cons_append, List.nil_append, List.append_nil, List.length_cons, List.length_nil, List.replicate, Nat.reduceAdd, Nat.reduceSub, Nat.zero_add, List.getElem?_cons_zero, List.getElem?_cons_succ, List.set_cons_zero, List.set_cons_succ,
    Option.some.injEq, exists_eq_left', exists_eq_left, V.int.injEq, V.bl.injEq, V.ref.injEq, V.str.injEq, List.cons.injEq, reduceCtorEq, and_true, true_and, false_and, and_false, exists_false, or_false, false_or, or_true, true_or, exists_const, CMul, CDiv, CPow, and_assoc, exists_and_left, exists_and_right, Int.reducePow, Int.reduceNeg, Int.reduceLT, Int.reduceLE, Nat.reducePow, Nat.reduceLT, Int.reduceToNat, gt_iff_lt, ge_iff_le, decide_eq_true_eq, Bool.not_eq_true', decide_eq_false_iff_not, scal, ↓reduceIte, Bool.false_eq_true]
  have k := gcdX (n := n) h0 hz
  have v := is_fdiv (t := n) h0
  refine ite2 (fun h => ?_) (fun h => ?_)
  · rw [if_pos h] at v
    simp only [if_pos h] at k
    exact ⟨k _, k _, fun p hp kp => (q _ v).new hp kp⟩
  · rw [if_neg h] at v
    simp only [if_neg h] at k
    exact ⟨k _, k _, fun p hp kp => (q _ v).new hp kp⟩
def frOk (K : PySem.W.Frag) (H : Hp) : V → Bool
  | .ref a => match ob K H a with
    | some (.tup [.int n, .int d]) => decide (1 ≤ d) && decide (Int.gcd n d = 1)
    | _ => false
  | _ => false
theorem frOk_fr {H : Hp} {a : Addr} {q : Qt} (h : ob K H a = some (frt q)) (hn : Nf q) : frOk K H (.ref a) = true := by
  simp only [frOk, h, frt]
  show (decide (1 ≤ q.2) && decide (Int.gcd q.1 q.2 = 1)) = true
  rw [decide_eq_true hn.1, decide_eq_true hn.2]
  rfl
/-- v and, if it is a tuple, its items are of known kinds -/
def Tyd (K : PySem.W.Frag) (H : Hp) (v : V) : Prop := (tyN K H v).isSome ∧ ∀ a xs, v = .ref a → ob K H a = some (.tup xs) → ∀ x ∈ xs, (tyN K H x).isSome
theorem Tyd.fr {H : Hp} {a : Addr} {q : Qt} (h : ob K H a = some (frt q)) : Tyd K H (.ref a) := by
  refine ⟨by rw [tyN_ref, h]; rfl, fun b xs e hx x hm => ?_⟩
  cases e
  rw [h] at hx
  cases hx
  simp only [List.mem_cons, List.not_mem_nil, or_false] at hm
  rcases hm with rfl | rfl <;> rfl
theorem tyN_tuple {H : Hp} {v : V} (h : tyN K H v = some "tuple") : ∃ a xs, v = .ref a ∧ ob K H a = some (.tup xs) := by
  cases v with
  | ref a =>
    have h1 : tyO (ob K H a) = some "tuple" := h
    unfold tyO at h1
    split at h1 <;> first | exact ⟨a, _, rfl, by assumption⟩ | (exfalso; revert h1; decide)
  | _ => exfalso; revert h; simp only [tyN]; decide
def spIsFraction (K : PySem.W.Frag) : Sp := fun vs H Q _ => ∃ v, vs = [v] ∧ Tyd K H v ∧ Q (.bl (frOk K H v)) H
abbrev sIsFraction : Stmt := topS 14
theorem scIsFraction : FnScope ["value", "numerator", "denominator"] ["value"] (defScope sIsFraction) := ⟨rfl, rfl, rfl, by decide +kernel, rfl, by decide +kernel, by decide +kernel⟩
theorem k_IsFraction (T : Bt K mg) (D : Dfn K mg "is_fraction" sIsFraction ["value"]) (d_is_whole : Kn P w K mg base 1 "is_whole" ["value"] (spWhole K)) : Kn P w K mg base 2 "is_fraction" ["value"] (spIsFraction K) := by
  refine Kn.mk' D scIsFraction (fun vs H Q E h => ?_) (fun f cdv A outer s H vs Q E hr h => ?_)
  · obtain ⟨v, rfl, _⟩ := h
    rfl
  obtain ⟨v, rfl, hv, q⟩ := h
  refine ⟨_, (pss_cons (ps_if (PW.pt (pw_or (pt_not (pt_val (pe_callB call_isN (by rfl) T.b_isinstance (by decide +kernel) (pa_cons (pv 0) (pa_cons (pe_bltn (v := .ty "tuple") (by rfl) T.b_tuple (by decide +kernel) rfl) pa_nil))))) (pw_or1 (pt_cmpR op_ne (pe_callB call_lenA (by rfl) T.b_len PySem.boot_len (pa_cons (pv 0) pa_nil)) pe_int (nomark _))))) (pss_one (ps_ret pe_bl)) pss_nil)
      (pss_cons (ps_asg (pv 0) (pg_tp 2 (by rfl) (pgs_cons (pg_name (i := 1) scIsFraction.nd rfl (.inl rfl)) (pgs_cons (pg_name (i := 2) scIsFraction.nd rfl (.inl rfl)) pgs_nil))))
      (pss_cons (ps_if (PW.pt (pw_or (pt_not (pt_val (pe_kn d_is_whole hr (by rfl) (pa_cons (pv 1) pa_nil)))) (pw_or1 (pt_not (pt_val (pe_kn d_is_whole hr (by rfl) (pa_cons (pv 2) pa_nil))))))) (pss_one (ps_ret pe_bl)) pss_nil)
      (pss_one (ps_ret (pe_and (pe_cmpR op_ge (pv 2) pe_int (nomark _)) (pe_one (pe_cmpR op_eq (pe_callBfun cr_gcd (by rfl) T.g_gcd (pa_cons (pv 1) (pa_cons (pv 2) pa_nil))) pe_int (nomark _))))))))), ?_⟩
  obtain ⟨t, ht⟩ := Option.isSome_iff_exists.mp hv.1
  by_cases e : t = "tuple"
  · subst e
    obtain ⟨a, xs, rfl, ha⟩ := tyN_tuple ht
    have hx := hv.2 a xs rfl ha
    match xs, ha, hx with
    | [], ha, hx =>
      have e : frOk K H (.ref a) = false := by simp only [frOk, ha]
      rw [e] at q
      simp only [ha, cx_K, decide_true, decide_false, reduceCtorEq, gTp, gCons, gNil, ca_0, ca_1, ca_2, ca_3, ca_4, ca_5, ca_6, ca_7, ca_8, ca_9, ca_10, ca_11, ca_12, ca_13, ca_14, ca_15, ca_16, ca_17, ca_18, ca_19, ca_20, ca_21, ca_22, ca_23, ca_24, ca_25, ca_26, ca_27, ca_28, ca_29, ca_30, not_true_eq_false, not_false_eq_true, Int.reduceEq, Nat.reduceEqDiff, Nat.reduceLeDiff, rGcd, V.ty.injEq, eq_self, List.not_mem_nil, beq_self_eq_true, HO.lst.injEq, HO.tup.injEq, tFor_eq, iRng1, iList, iTup, nat10, tSeq, rIxA, rSetA, rIsN, rIsT, tTp, tLs, itsO_tup, itsO_lst, tyO_tup, tyO_lst, tyO_dK, tyN_non, tyN_bl, tyN_int, tyN_str, tyN_ref, tyNs_lt, isB, upd_same, upd_upd, sizeLine_eq, List.mem_cons, String.reduceBEq, String.reduceEq, Bool.or_false, Bool.or_true, Bool.and_false, Bool.false_or, Bool.and_self, Bool.false_and, Bool.not_false, Bool.not_true, List.any_cons, List.any_nil, atI_0, setI_0, atI_1, setI_1, atI_2, setI_2, atI_3, setI_3, atI_4, setI_4, atI_5, setI_5, atI_6, setI_6, tAsg, gName, tOp, tUn, tVar, tC, tCons, L2.tNil, tRet, tIfS, tTest, tCB, tCall, rI, rI0, rU, tNext, tB, tAnd, tOr, tNot, tAndV, tOrV, tNotV, tDrop, tIf, tPar, gSub, rIxL, rIxT, rEq, rNe, rSetL, tBits,
    L2.start, List.map_cons, List.map_nil, List.cons_append, List.nil_append, List.append_nil, List.length_cons, List.length_nil, List.replicate, Nat.reduceAdd, Nat.reduceSub, Nat.zero_add, List.getElem?_cons_zero, List.getElem?_cons_succ, List.set_cons_zero, List.set_cons_succ,
    Option.some.injEq, exists_eq_left', exists_eq_left, V.int.injEq, V.bl.injEq, V.ref.injEq, V.str.injEq, List.cons.injEq, reduceCtorEq, and_true, true_and, false_and, and_false, exists_false, or_false, false_or, or_true, true_or, exists_const, CMul, CDiv, CPow, and_assoc, exists_and_left, exists_and_right, Int.reducePow, Int.reduceNeg, Int.reduceLT, Int.reduceLE, Nat.reducePow, Nat.reduceLT, Int.reduceToNat, gt_iff_lt, ge_iff_le, decide_eq_true_eq, Bool.not_eq_true', decide_eq_false_iff_not, scal, ↓reduceIte, Bool.false_eq_true]
      exact q
    | [x], ha, hx =>
      have e : frOk K H (.ref a) = false := by simp only [frOk, ha]
      rw [e] at q
      simp only [ha, cx_K, decide_true, decide_false, reduceCtorEq, gTp, gCons, gNil, ca_0, ca_1, ca_2, ca_3, ca_4, ca_5, ca_6, ca_7, ca_8, ca_9, ca_10, ca_11, ca_12, ca_13, ca_14, ca_15, ca_16, ca_17, ca_18, ca_19, ca_20, ca_21, ca_22, ca_23, ca_24, ca_25, ca_26, ca_27, ca_28, ca_29, ca_30, not_true_eq_false, not_false_eq_true, Int.reduceEq, Nat.reduceEqDiff, Nat.reduceLeDiff, rGcd, V.ty.injEq, eq_self, List.not_mem_nil, beq_self_eq_true, HO.lst.injEq, HO.tup.injEq, tFor_eq, iRng1, iList, iTup, nat10, tSeq, rIxA, rSetA, rIsN, rIsT, tTp, tLs, itsO_tup, itsO_lst, tyO_tup, tyO_lst, tyO_dK, tyN_non, tyN_bl, tyN_int, tyN_str, tyN_ref, tyNs_lt, isB, upd_same, upd_upd, sizeLine_eq, List.mem_cons, String.reduceBEq, String.reduceEq, Bool.or_false, Bool.or_true, Bool.and_false, Bool.false_or, Bool.and_self, Bool.false_and, Bool.not_false, Bool.not_true, List.any_cons, List.any_nil, atI_0, setI_0, atI_1, setI_1, atI_2, setI_2, atI_3, setI_3, atI_4, setI_4, atI_5, setI_5, atI_6, setI_6, tAsg, gName, tOp, tUn, tVar, tC, tCons, L2.tNil, tRet, tIfS, tTest, tCB, tCall, rI, rI0, rU, tNext, tB, tAnd, tOr, tNot, tAndV, tOrV, tNotV, tDrop, tIf, tPar, gSub, rIxL, rIxT, rEq, rNe, rSetL, tBits,
    L2.start, List.map_cons, List.map_nil, List.cons_append, List.nil_append, List.append_nil, List.length_cons, List.length_nil, List.replicate, Nat.reduceAdd, Nat.reduceSub, Nat.zero_add, List.getElem?_cons_zero, List.getElem?_cons_succ, List.set_cons_zero, List.set_cons_succ,
    Option.some.injEq, exists_eq_left', exists_eq_left, V.int.injEq, V.bl.injEq, V.ref.injEq, V.str.injEq, List.cons.injEq, reduceCtorEq, and_true, true_and, false_and, and_false, exists_false, or_false, false_or, or_true, true_or, exists_const, CMul, CDiv, CPow, and_assoc, exists_and_left, exists_and_right, Int.reducePow, Int.reduceNeg, Int.reduceLT, Int.reduceLE, Nat.reducePow, Nat.reduceLT, Int.reduceToNat, gt_iff_lt, ge_iff_le, decide_eq_true_eq, Bool.not_eq_true', decide_eq_false_iff_not, scal, ↓reduceIte, Bool.false_eq_true]
      exact q
    | [x, y], ha, hx =>
      have hx1 := hx x (by simp)
      have hx2 := hx y (by simp)
      simp only [ha, cx_K, decide_true, decide_false, reduceCtorEq, gTp, gCons, gNil, ca_0, ca_1, ca_2, ca_3, ca_4, ca_5, ca_6, ca_7, ca_8, ca_9, ca_10, ca_11, ca_12, ca_13, ca_14, ca_15, ca_16, ca_17, ca_18, ca_19, ca_20, ca_21, ca_22, ca_23, ca_24, ca_25, ca_26, ca_27, ca_28, ca_29, ca_30, not_true_eq_false, not_false_eq_true, Int.reduceEq, Nat.reduceEqDiff, Nat.reduceLeDiff, rGcd, V.ty.injEq, eq_self, List.not_mem_nil, beq_self_eq_true, HO.lst.injEq, HO.tup.injEq, tFor_eq, iRng1, iList, iTup, nat10, tSeq, rIxA, rSetA, rIsN, rIsT, tTp, tLs, itsO_tup, itsO_lst, tyO_tup, tyO_lst, tyO_dK, tyN_non, tyN_bl, tyN_int, tyN_str, tyN_ref, tyNs_lt, isB, upd_same, upd_upd, sizeLine_eq, List.mem_cons, String.reduceBEq, String.reduceEq, Bool.or_false, Bool.or_true, Bool.and_false, Bool.false_or, Bool.and_self, Bool.false_and, Bool.not_false, Bool.not_true, List.any_cons, List.any_nil, atI_0, setI_0, atI_1, setI_1, atI_2, setI_2, atI_3, setI_3, atI_4, setI_4, atI_5, setI_5, atI_6, setI_6, tAsg, gName, tOp, tUn, tVar, tC, tCons, L2.tNil, tRet, tIfS, tTest, tCB, tCall, rI, rI0, rU, tNext, tB, tAnd, tOr, tNot, tAndV, tOrV, tNotV, tDrop, tIf, tPar, gSub, rIxL, rIxT, rEq, rNe, rSetL, tBits,
    L2.start, List.map_cons, List.map_nil, List.cons_append, List.nil_append, List.append_nil, List.length_cons, List.length_nil, List.replicate, Nat.reduceAdd, Nat.reduceSub, Nat.zero_add, List.getElem?_cons_zero, List.getElem?_cons_succ, List.set_cons_zero, List.set_cons_succ,
    Option.some.injEq, exists_eq_left', exists_eq_left, V.int.injEq, V.bl.injEq, V.ref.injEq, V.str.injEq, List.cons.injEq, reduceCtorEq, and_true, true_and, false_and, and_false, exists_false, or_false, false_or, or_true, true_or, exists_const, CMul, CDiv, CPow, and_assoc, exists_and_left, exists_and_right, Int.reducePow, Int.reduceNeg, Int.reduceLT, Int.reduceLE, Nat.reducePow, Nat.reduceLT, Int.reduceToNat, gt_iff_lt, ge_iff_le, decide_eq_true_eq, Bool.not_eq_true', decide_eq_false_iff_not, scal, ↓reduceIte, Bool.false_eq_true]
      refine ⟨_, rfl, hx1, ?_⟩
      cases x with
      | int n =>
        refine ⟨true, rfl, ?_⟩
        rw [if_neg Bool.noConfusion]
        refine ⟨_, rfl, hx2, ?_⟩
        cases y with
        | int d =>
          refine ⟨true, rfl, ?_⟩
          rw [if_neg Bool.noConfusion]
          simp only [ha, cx_K, decide_true, decide_false, reduceCtorEq, gTp, gCons, gNil, ca_0, ca_1, ca_2, ca_3, ca_4, ca_5, ca_6, ca_7, ca_8, ca_9, ca_10, ca_11, ca_12, ca_13, ca_14, ca_15, ca_16, ca_17, ca_18, ca_19, ca_20, ca_21, ca_22, ca_23, ca_24, ca_25, ca_26, ca_27, ca_28, ca_29, ca_30, not_true_eq_false, not_false_eq_true, Int.reduceEq, Nat.reduceEqDiff, Nat.reduceLeDiff, rGcd, V.ty.injEq, eq_self, List.not_mem_nil, beq_self_eq_true, HO.lst.injEq, HO.tup.injEq, tFor_eq, iRng1, iList, iTup, nat10, tSeq, rIxA, rSetA, rIsN, rIsT, tTp, tLs, itsO_tup, itsO_lst, tyO_tup, tyO_lst, tyO_dK, tyN_non, tyN_bl, tyN_int, tyN_str, tyN_ref, tyNs_lt, isB, upd_same, upd_upd, sizeLine_eq, List.mem_cons, String.reduceBEq, String.reduceEq, Bool.or_false, Bool.or_true, Bool.and_false, Bool.false_or, Bool.and_self, Bool.false_and, Bool.not_false, Bool.not_true, List.any_cons, List.any_nil, atI_0, setI_0, atI_1, setI_1, atI_2, setI_2, atI_3, setI_3, atI_4, setI_4, atI_5, setI_5, atI_6, setI_6, tAsg, gName, tOp, tUn, tVar, tC, tCons, L2.tNil, tRet, tIfS, tTest, tCB, tCall, rI, rI0, rU, tNext, tB, tAnd, tOr, tNot, tAndV, tOrV, tNotV, tDrop, tIf, tPar, gSub, rIxL, rIxT, rEq, rNe, rSetL, tBits,
    L2.start, List.map_cons, List.map_nil, List.cons_append, List.nil_append, List.append_nil, List.length_cons, List.length_nil, List.replicate, Nat.reduceAdd, Nat.reduceSub, Nat.zero_add, List.getElem?_cons_zero, List.getElem?_cons_succ, List.set_cons_zero, List.set_cons_succ,
    Option.some.injEq, exists_eq_left', exists_eq_left, V.int.injEq, V.bl.injEq, V.ref.injEq, V.str.injEq, List.cons.injEq, reduceCtorEq, and_true, true_and, false_and, and_false, exists_false, or_false, false_or, or_true, true_or, exists_const, CMul, CDiv, CPow, and_assoc, exists_and_left, exists_and_right, Int.reducePow, Int.reduceNeg, Int.reduceLT, Int.reduceLE, Nat.reducePow, Nat.reduceLT, Int.reduceToNat, gt_iff_lt, ge_iff_le, decide_eq_true_eq, Bool.not_eq_true', decide_eq_false_iff_not, scal, ↓reduceIte, Bool.false_eq_true]
          refine ite2 (fun h => ?_) (fun h => ?_)
          · have e : frOk K H (.ref a) = decide (((n.natAbs.gcd d.natAbs : Nat) : Int) = 1) := by
              simp only [frOk, ha]
              rw [decide_eq_true h, Bool.true_and]
              show decide (Nat.gcd n.natAbs d.natAbs = 1) = _
              exact decide_eq_decide.mpr (by omega)
            rw [e] at q
            exact q
          · have e : frOk K H (.ref a) = false := by
              simp only [frOk, ha]
              rw [decide_eq_false h, Bool.false_and]
            rw [e] at q
            exact q
        | _ =>
          refine ⟨false, rfl, ?_⟩
          rw [if_pos rfl]
          have e : frOk K H (.ref a) = false := by simp only [frOk, ha]
          rw [e] at q
          exact q
      | _ =>
        refine ⟨false, rfl, ?_⟩
        rw [if_pos rfl]
        have e : frOk K H (.ref a) = false := by simp only [frOk, ha]
        rw [e] at q
        exact q
    | x :: y :: z :: r, ha, hx =>
      have e : frOk K H (.ref a) = false := by simp only [frOk, ha]
      rw [e] at q
      simp only [ha, cx_K, decide_true, decide_false, reduceCtorEq, gTp, gCons, gNil, ca_0, ca_1, ca_2, ca_3, ca_4, ca_5, ca_6, ca_7, ca_8, ca_9, ca_10, ca_11, ca_12, ca_13, ca_14, ca_15, ca_16, ca_17, ca_18, ca_19, ca_20, ca_21, ca_22, ca_23, ca_24, ca_25, ca_26, ca_27, ca_28, ca_29, ca_30, not_true_eq_false, not_false_eq_true, Int.reduceEq, Nat.reduceEqDiff, Nat.reduceLeDiff, rGcd, V.ty.injEq, eq_self, List.not_mem_nil, beq_self_eq_true, HO.lst.injEq, HO.tup.injEq, tFor_eq, iRng1, iList, iTup, nat10, tSeq, rIxA, rSetA, rIsN, rIsT, tTp, tLs, itsO_tup, itsO_lst, tyO_tup, tyO_lst, tyO_dK, tyN_non, tyN_bl, tyN_int, tyN_str, tyN_ref, tyNs_lt, isB, upd_same, upd_upd, sizeLine_eq, List.mem_cons, String.reduceBEq, String.reduceEq, Bool.or_false, Bool.or_true, Bool.and_false, Bool.false_or, Bool.and_self, Bool.false_and, Bool.not_false, Bool.not_true, List.any_cons, List.any_nil, atI_0, setI_0, atI_1, setI_1, atI_2, setI_2, atI_3, setI_3, atI_4, setI_4, atI_5, setI_5, atI_6, setI_6, tAsg, gName, tOp, tUn, tVar, tC, tCons, L2.tNil, tRet, tIfS, tTest, tCB, tCall, rI, rI0, rU, tNext, tB, tAnd, tOr, tNot, tAndV, tOrV, tNotV, tDrop, tIf, tPar, gSub, rIxL, rIxT, rEq, rNe, rSetL, tBits,
    L2.start, List.map_cons, List.map_nil, List.cons_append, List.nil_append, List.append_nil, List.length_cons, List.length_nil, List.replicate, Nat.reduceAdd, Nat.reduceSub, Nat.zero_add, List.getElem?_cons_zero, List.getElem?_cons_succ, List.set_cons_zero, List.set_cons_succ,
    Option.some.injEq, exists_eq_left', exists_eq_left, V.int.injEq, V.bl.injEq, V.ref.injEq, V.str.injEq, List.cons.injEq, reduceCtorEq, and_true, true_and, false_and, and_false, exists_false, or_false, false_or, or_true, true_or, exists_const, CMul, CDiv, CPow, and_assoc, exists_and_left, exists_and_right, Int.reducePow, Int.reduceNeg, Int.reduceLT, Int.reduceLE, Nat.reducePow, Nat.reduceLT, Int.reduceToNat, gt_iff_lt, ge_iff_le, decide_eq_true_eq, Bool.not_eq_true', decide_eq_false_iff_not, scal, ↓reduceIte, Bool.false_eq_true]
      refine ite2 (fun h => q) (fun h => ?_)
      exfalso
      omega
  · have e1 : frOk K H v = false := by
      cases v with
      | ref a =>
        have h1 : tyO (ob K H a) = some t := ht
        cases hz : ob K H a with
        | none => simp only [frOk, hz]
        | some z =>
          cases z with
          | tup xs =>
            rw [hz] at h1
            exact absurd (Option.some.inj h1).symm e
          | _ => simp only [frOk, hz]
      | _ => rfl
    rw [e1] at q
    have mt := tyN_mem ht
    simp only [List.mem_cons, List.not_mem_nil, or_false] at mt
    rcases mt with rfl | rfl | rfl | rfl | rfl | rfl | rfl <;> first | exact absurd rfl e | (simp only [ht, cx_K, decide_true, decide_false, reduceCtorEq, gTp, gCons, gNil, ca_0, ca_1, ca_2, ca_3, ca_4, ca_5, ca_6, ca_7, ca_8, ca_9, ca_10, ca_11, ca_12, ca_13, ca_14, ca_15, ca_16, ca_17, ca_18, ca_19, ca_20, ca_21, ca_22, ca_23, ca_24, ca_25, ca_26, ca_27, ca_28, ca_29, ca_30, not_true_eq_false, not_false_eq_true, Int.reduceEq, Nat.reduceEqDiff, Nat.reduceLeDiff, rGcd, V.ty.injEq, eq_self, List.not_mem_nil, beq_self_eq_true, HO.lst.injEq, HO.tup.injEq, tFor_eq, iRng1, iList, iTup, nat10, tSeq, rIxA, rSetA, rIsN, rIsT, tTp, tLs, itsO_tup, itsO_lst, tyO_tup, tyO_lst, tyO_dK, tyN_non, tyN_bl, tyN_int, tyN_str, tyN_ref, tyNs_lt, isB, upd_same, upd_upd, sizeLine_eq, List.mem_cons, String.reduceBEq, String.reduceEq, Bool.or_false, Bool.or_true, Bool.and_false, Bool.false_or, Bool.and_self, Bool.false_and, Bool.not_false, Bool.not_true, List.any_cons, List.any_nil, atI_0, setI_0, atI_1, setI_1, atI_2, setI_2, atI_3, setI_3, atI_4, setI_4, atI_5, setI_5, atI_6, setI_6, tAsg, gName, tOp, tUn, tVar, tC, tCons, L2.tNil, tRet, tIfS, tTest, tCB, tCall, rI, rI0, rU, tNext, tB, tAnd, tOr, tNot, tAndV, tOrV, tNotV, tDrop, tIf, tPar, gSub, rIxL, rIxT, rEq, rNe, rSetL, tBits,
    L2.start, List.map_cons, List.map_nil, List.cons_append, List.nil_append, List.append_nil, List.length_cons, List.length_nil, List.replicate, Nat.reduceAdd, Nat.reduceSub, Nat.zero_add, List.getElem?_cons_zero, List.getElem?_cons_succ, List.set_cons_zero, List.set_cons_succ,
    Option.some.injEq, exists_eq_left', exists_eq_left, V.int.injEq, V.bl.injEq, V.ref.injEq, V.str.injEq, List.cons.injEq, reduceCtorEq, and_true, true_and, false_and, and_false, exists_false, or_false, false_or, or_true, true_or, exists_const, CMul, CDiv, CPow, and_assoc, exists_and_left, exists_and_right, Int.reducePow, Int.reduceNeg, Int.reduceLT, Int.reduceLE, Nat.reducePow, Nat.reduceLT, Int.reduceToNat, gt_iff_lt, ge_iff_le, decide_eq_true_eq, Bool.not_eq_true', decide_eq_false_iff_not, scal, ↓reduceIte, Bool.false_eq_true]; exact q)
end
end My

namespace My
open PySem PySem.Spec PyProof.Rows L2
section
variable {P : Program} {w : World} {K : PySem.W.Frag} {mg : Str → Option Value} {base : Heap}
theorem nf_part {q : Qt} (h : Nf q) : Nf (q.1 % q.2, q.2) := by
  refine ⟨h.1, ?_⟩
  show Int.gcd (q.1 % q.2) q.2 = 1
  have e : q.1 % q.2 = q.1 + (-(q.1 / q.2)) * q.2 := by
    have := Int.emod_add_mul_ediv q.1 q.2
    rw [Int.neg_mul, Int.mul_comm]
    omega
  rw [e, Int.gcd_add_mul_right_left]
  exact h.2
theorem nf_abs {q : Qt} (h : Nf q) : Nf ((q.1.natAbs : Int), q.2) := ⟨h.1, by
  show Int.gcd (q.1.natAbs : Int) q.2 = 1
  rw [← h.2]
  rfl⟩
theorem nf_neg {q : Qt} (h : Nf q) : Nf (-q.1, q.2) := ⟨h.1, by
  show Int.gcd (-q.1) q.2 = 1
  rw [Int.neg_gcd]
  exact h.2⟩
def off (q : Qt) : Qt := (if q.2 < 2 * (q.1 % q.2) then q.1 % q.2 - q.2 else q.1 % q.2, q.2)
theorem nf_off {q : Qt} (h : Nf q) : Nf (off q) := by
  have k := nf_part h
  unfold off
  split
  · refine ⟨h.1, ?_⟩
    show Int.gcd (q.1 % q.2 - q.2) q.2 = 1
    rw [show q.1 % q.2 - q.2 = q.1 % q.2 + (-1) * q.2 by omega, Int.gcd_add_mul_right_left]
    exact k.2
  · exact k
theorem is_self {q : Qt} (h : Nf q) : Is q q.1 q.2 := ⟨h, rfl⟩
def sum2 (p q : Qt) (z : Qt) : Prop := Is z (p.1 * q.2 + q.1 * p.2) (p.2 * q.2)
theorem Nf.ne {q : Qt} (h : Nf q) : q.2 ≠ 0 := by have := h.1; omega
theorem mul_ne {a b : Int} (h1 : 1 ≤ a) (h2 : 1 ≤ b) : a * b ≠ 0 := Int.mul_ne_zero (by omega) (by omega)
theorem szPart {q : Qt} {k : Nat} (h : Nf q) (hz : Sz k q) : Sz k (q.1 % q.2, q.2) := by
  refine ⟨?_, hz.2⟩
  have h1 := Int.emod_nonneg q.1 h.ne
  have h2 := Int.emod_lt_of_pos q.1 (show 0 < q.2 by have := h.1; omega)
  have := hz.2
  show (q.1 % q.2).natAbs < 2 ^ k
  omega
theorem szOff {q : Qt} {k : Nat} (h : Nf q) (hz : Sz k q) : Sz k (off q) := by
  have h1 := Int.emod_nonneg q.1 h.ne
  have h2 := Int.emod_lt_of_pos q.1 (show 0 < q.2 by have := h.1; omega)
  have h3 := hz.2
  have h4 := h.1
  unfold off
  refine ⟨?_, h3⟩
  show (if q.2 < 2 * (q.1 % q.2) then q.1 % q.2 - q.2 else q.1 % q.2).natAbs < 2 ^ k
  split <;> omega
/-- a fraction at a, in lowest terms, of a bounded size -/
structure Fq (K : PySem.W.Frag) (H : Hp) (k : Nat) (a : Addr) (q : Qt) : Prop where
  o : ob K H a = some (.tup [.int q.1, .int q.2])
  nf : Nf q
  sz : Sz k q
theorem Fq.same {H H' : Hp} {k : Nat} {a : Addr} {q : Qt} (h : Fq K H k a q) (s : Same H H') : Fq K H' k a q := ⟨ob_same s h.o, h.nf, h.sz⟩
theorem Fq.kp {H H' : Hp} {k : Nat} {a s : Addr} {q : Qt} {ys : List V} (h : Fq K H k a q) (e : Kp s H H') (hs : H s = some (.lst ys)) : Fq K H' k a q := ⟨ob_kp e hs (fun _ z => by cases z) h.o, h.nf, h.sz⟩
theorem Fq.mono {H : Hp} {j k : Nat} {a : Addr} {q : Qt} (h : Fq K H j a q) (l : j ≤ k) : Fq K H k a q := ⟨h.o, h.nf, h.sz.mono l⟩
def spBin (K : PySem.W.Frag) (R : Qt → Qt → Qt → Prop) : Sp := fun vs H Q _ => ∃ (a b : Addr) (p q : Qt), vs = [.ref a, .ref b] ∧ Fq K H 3000 a p ∧ Fq K H 3000 b q ∧ ∀ z, R p q z → Gv K H Q z
def spUn (K : PySem.W.Frag) (g : Qt → Qt) : Sp := fun vs H Q _ => ∃ (a : Addr) (q : Qt), vs = [.ref a] ∧ Fq K H 8000 a q ∧ Gv K H Q (g q)
def spFloor (K : PySem.W.Frag) : Sp := fun vs H Q _ => ∃ (a : Addr) (q : Qt), vs = [.ref a] ∧ Fq K H 8000 a q ∧ Q (.int (q.1 / q.2)) H
abbrev sPlus : Stmt := topS 16
theorem scPlus : FnScope ["left", "right"] ["left", "right"] (defScope sPlus) := ⟨rfl, rfl, rfl, by decide +kernel, rfl, by decide +kernel, by decide +kernel⟩
theorem k_Plus (T : Bt K mg) (D : Dfn K mg "plus" sPlus ["left", "right"]) (d_require : Kn P w K mg base 1 "require" ["well_formed", "what"] spRequire) (d_is_fraction : Kn P w K mg base 2 "is_fraction" ["value"] (spIsFraction K)) (d_fraction : Kn P w K mg base 2 "fraction" ["numerator", "denominator"] (spFraction K)) : Kn P w K mg base 3 "plus" ["left", "right"] (spBin K sum2) := by
  refine Kn.mk' D scPlus (fun vs H Q E h => ?_) (fun f cdv A outer s H vs Q E hr h => ?_)
  · obtain ⟨a, b, p, q, rfl, _⟩ := h
    rfl
  obtain ⟨a, b, p, q, rfl, hp, hq, k⟩ := h
  refine ⟨_, (pss_cons (ps_expr (pe_kn d_require hr (by rfl) (pa_cons (pe_kn d_is_fraction hr (by rfl) (pa_cons (pv 0) pa_nil)) (pa_cons pe_str pa_nil))))
      (pss_cons (ps_expr (pe_kn d_require hr (by rfl) (pa_cons (pe_kn d_is_fraction hr (by rfl) (pa_cons (pv 1) pa_nil)) (pa_cons pe_str pa_nil))))
      (pss_one (ps_ret (pe_kn d_fraction hr (by rfl) (pa_cons (pe_op op_add (pe_op op_mulW (pe_ix ix_any (pv 0) pe_int (fun _ _ => rfl)) (pe_ix ix_any (pv 1) pe_int (fun _ _ => rfl))) (pe_op op_mulW (pe_ix ix_any (pv 1) pe_int (fun _ _ => rfl)) (pe_ix ix_any (pv 0) pe_int (fun _ _ => rfl)))) (pa_cons (pe_op op_mulW (pe_ix ix_any (pv 0) pe_int (fun _ _ => rfl)) (pe_ix ix_any (pv 1) pe_int (fun _ _ => rfl))) pa_nil))))))), ?_⟩
  simp only [cx_K, decide_true, decide_false, reduceCtorEq, gTp, gCons, gNil, ca_0, ca_1, ca_2, ca_3, ca_4, ca_5, ca_6, ca_7, ca_8, ca_9, ca_10, ca_11, ca_12, ca_13, ca_14, ca_15, ca_16, ca_17, ca_18, ca_19, ca_20, ca_21, ca_22, ca_23, ca_24, ca_25, ca_26, ca_27, ca_28, ca_29, ca_30, not_true_eq_false, not_false_eq_true, Int.reduceEq, Nat.reduceEqDiff, Nat.reduceLeDiff, rGcd, V.ty.injEq, eq_self, List.not_mem_nil, beq_self_eq_true, HO.lst.injEq, HO.tup.injEq, tFor_eq, iRng1, iList, iTup, nat10, tSeq, rIxA, rSetA, rIsN, rIsT, tTp, tLs, itsO_tup, itsO_lst, tyO_tup, tyO_lst, tyO_dK, tyN_non, tyN_bl, tyN_int, tyN_str, tyN_ref, tyNs_lt, isB, upd_same, upd_upd, sizeLine_eq, List.mem_cons, String.reduceBEq, String.reduceEq, Bool.or_false, Bool.or_true, Bool.and_false, Bool.false_or, Bool.and_self, Bool.false_and, Bool.not_false, Bool.not_true, List.any_cons, List.any_nil, atI_0, setI_0, atI_1, setI_1, atI_2, setI_2, atI_3, setI_3, atI_4, setI_4, atI_5, setI_5, atI_6, setI_6, tAsg, gName, tOp, tUn, tVar, tC, tCons, L2.tNil, tRet, tIfS, tTest, tCB, tCall, rI, rI0, rU, tNext, tB, tAnd, tOr, tNot, tAndV, tOrV, tNotV, tDrop, tIf, tPar, gSub, rIxL, rIxT, rEq, rNe, rSetL, tBits,
    L2.start, List.map_cons, List.map_nil, List.cons_append, List.nil_append, List.append_nil, List.length_cons, List.length_nil, List.replicate, Nat.reduceAdd, Nat.reduceSub, Nat.zero_add, List.getElem?_cons_zero, List.getElem?_cons_succ, List.set_cons_zero, List.set_cons_succ,
    Option.some.injEq, exists_eq_left', exists_eq_left, V.int.injEq, V.bl.injEq, V.ref.injEq, V.str.injEq, List.cons.injEq, reduceCtorEq, and_true, true_and, false_and, and_false, exists_false, or_false, false_or, or_true, true_or, exists_const, CMul, CDiv, CPow, and_assoc, exists_and_left, exists_and_right, Int.reducePow, Int.reduceNeg, Int.reduceLT, Int.reduceLE, Nat.reducePow, Nat.reduceLT, Int.reduceToNat, gt_iff_lt, ge_iff_le, decide_eq_true_eq, Bool.not_eq_true', decide_eq_false_iff_not, scal, ↓reduceIte, Bool.false_eq_true]
  refine ⟨_, rfl, Tyd.fr hp.o, _, by rw [frOk_fr hp.o hp.nf], _, rfl, Tyd.fr hq.o, _, by rw [frOk_fr hq.o hq.nf], ?_⟩
  simp only [hp.o, hq.o, cx_K, decide_true, decide_false, reduceCtorEq, gTp, gCons, gNil, ca_0, ca_1, ca_2, ca_3, ca_4, ca_5, ca_6, ca_7, ca_8, ca_9, ca_10, ca_11, ca_12, ca_13, ca_14, ca_15, ca_16, ca_17, ca_18, ca_19, ca_20, ca_21, ca_22, ca_23, ca_24, ca_25, ca_26, ca_27, ca_28, ca_29, ca_30, not_true_eq_false, not_false_eq_true, Int.reduceEq, Nat.reduceEqDiff, Nat.reduceLeDiff, rGcd, V.ty.injEq, eq_self, List.not_mem_nil, beq_self_eq_true, HO.lst.injEq, HO.tup.injEq, tFor_eq, iRng1, iList, iTup, nat10, tSeq, rIxA, rSetA, rIsN, rIsT, tTp, tLs, itsO_tup, itsO_lst, tyO_tup, tyO_lst, tyO_dK, tyN_non, tyN_bl, tyN_int, tyN_str, tyN_ref, tyNs_lt, isB, upd_same, upd_upd, sizeLine_eq, List.mem_cons, String.reduceBEq, String.reduceEq, Bool.or_false, Bool.or_true, Bool.and_false, Bool.false_or, Bool.and_self, Bool.false_and, Bool.not_false, Bool.not_true, List.any_cons, List.any_nil, atI_0, setI_0, atI_1, setI_1, atI_2, setI_2, atI_3, setI_3, atI_4, setI_4, atI_5, setI_5, atI_6, setI_6, tAsg, gName, tOp, tUn, tVar, tC, tCons, L2.tNil, tRet, tIfS, tTest, tCB, tCall, rI, rI0, rU, tNext, tB, tAnd, tOr, tNot, tAndV, tOrV, tNotV, tDrop, tIf, tPar, gSub, rIxL, rIxT, rEq, rNe, rSetL, tBits,
    L2.start, List.map_cons, List.map_nil, List.cons_append, List.nil_append, List.append_nil, List.length_cons, List.length_nil, List.replicate, Nat.reduceAdd, Nat.reduceSub, Nat.zero_add, List.getElem?_cons_zero, List.getElem?_cons_succ, List.set_cons_zero, List.set_cons_succ,
    Option.some.injEq, exists_eq_left', exists_eq_left, V.int.injEq, V.bl.injEq, V.ref.injEq, V.str.injEq, List.cons.injEq, reduceCtorEq, and_true, true_and, false_and, and_false, exists_false, or_false, false_or, or_true, true_or, exists_const, CMul, CDiv, CPow, and_assoc, exists_and_left, exists_and_right, Int.reducePow, Int.reduceNeg, Int.reduceLT, Int.reduceLE, Nat.reducePow, Nat.reduceLT, Int.reduceToNat, gt_iff_lt, ge_iff_le, decide_eq_true_eq, Bool.not_eq_true', decide_eq_false_iff_not, scal, ↓reduceIte, Bool.false_eq_true]
  exact ⟨mulW hp.sz.1 hq.sz.2 (by omega), mulW hq.sz.1 hp.sz.2 (by omega), mulW hp.sz.2 hq.sz.2 (by omega), _, _, rfl, mul_ne hp.nf.1 hq.nf.1, szMono (szMul hp.sz.2 hq.sz.2) (by omega), k⟩
def spLFrac (K : PySem.W.Frag) : Sp := fun vs H Q _ => ∃ (a : Addr) (q : Qt), vs = [.ref a] ∧ Fq K H 8000 a q ∧ Q (.bl true) H
abbrev sLFrac : Stmt := topS 42
theorem scLFrac : FnScope ["_law_told"] ["_law_told"] (defScope sLFrac) := ⟨rfl, rfl, rfl, by decide +kernel, rfl, by decide +kernel, by decide +kernel⟩
theorem k_LFrac (T : Bt K mg) (D : Dfn K mg "_law_is_frac" sLFrac ["_law_told"]) (d__law_is_whole : Kn P w K mg base 1 "_law_is_whole" ["_law_told"] (spWhole K)) (d__law_gcd : Kn P w K mg base 1 "_law_gcd" ["_law_left", "_law_right"] spGcd) : Kn P w K mg base 2 "_law_is_frac" ["_law_told"] (spLFrac K) := by
  refine Kn.mk' D scLFrac (fun vs H Q E h => ?_) (fun f cdv A outer s H vs Q E hr h => ?_)
  · obtain ⟨a, q, rfl, _⟩ := h
    rfl
  obtain ⟨a, q, rfl, hq, k⟩ := h
  refine ⟨_, (pss_cons (ps_if (PW.pt (pw_or (pt_not (pt_val (pe_callB call_isN (by rfl) T.b_isinstance (by decide +kernel) (pa_cons (pv 0) (pa_cons (pe_bltn (v := .ty "tuple") (by rfl) T.b_tuple (by decide +kernel) rfl) pa_nil))))) (pw_or1 (pt_cmpR op_ne (pe_callB call_lenA (by rfl) T.b_len PySem.boot_len (pa_cons (pv 0) pa_nil)) pe_int (nomark _))))) (pss_one (ps_ret pe_bl)) pss_nil)
      (pss_cons (ps_if (PW.pt (pw_or (pt_not (pt_val (pe_kn d__law_is_whole hr (by rfl) (pa_cons (pe_ix ix_any (pv 0) pe_int (fun _ _ => rfl)) pa_nil)))) (pw_or1 (pt_not (pt_val (pe_kn d__law_is_whole hr (by rfl) (pa_cons (pe_ix ix_any (pv 0) pe_int (fun _ _ => rfl)) pa_nil))))))) (pss_one (ps_ret pe_bl)) pss_nil)
      (pss_one (ps_ret (pe_and (pe_cmpR op_gt (pe_ix ix_any (pv 0) pe_int (fun _ _ => rfl)) pe_int (nomark _)) (pe_one (pe_cmpR op_eq (pe_kn d__law_gcd hr (by rfl) (pa_cons (pe_ix ix_any (pv 0) pe_int (fun _ _ => rfl)) (pa_cons (pe_ix ix_any (pv 0) pe_int (fun _ _ => rfl)) pa_nil))) pe_int (nomark _)))))))), ?_⟩
  simp only [hq.o, cx_K, decide_true, decide_false, reduceCtorEq, gTp, gCons, gNil, ca_0, ca_1, ca_2, ca_3, ca_4, ca_5, ca_6, ca_7, ca_8, ca_9, ca_10, ca_11, ca_12, ca_13, ca_14, ca_15, ca_16, ca_17, ca_18, ca_19, ca_20, ca_21, ca_22, ca_23, ca_24, ca_25, ca_26, ca_27, ca_28, ca_29, ca_30, not_true_eq_false, not_false_eq_true, Int.reduceEq, Nat.reduceEqDiff, Nat.reduceLeDiff, rGcd, V.ty.injEq, eq_self, List.not_mem_nil, beq_self_eq_true, HO.lst.injEq, HO.tup.injEq, tFor_eq, iRng1, iList, iTup, nat10, tSeq, rIxA, rSetA, rIsN, rIsT, tTp, tLs, itsO_tup, itsO_lst, tyO_tup, tyO_lst, tyO_dK, tyN_non, tyN_bl, tyN_int, tyN_str, tyN_ref, tyNs_lt, isB, upd_same, upd_upd, sizeLine_eq, List.mem_cons, String.reduceBEq, String.reduceEq, Bool.or_false, Bool.or_true, Bool.and_false, Bool.false_or, Bool.and_self, Bool.false_and, Bool.not_false, Bool.not_true, List.any_cons, List.any_nil, atI_0, setI_0, atI_1, setI_1, atI_2, setI_2, atI_3, setI_3, atI_4, setI_4, atI_5, setI_5, atI_6, setI_6, tAsg, gName, tOp, tUn, tVar, tC, tCons, L2.tNil, tRet, tIfS, tTest, tCB, tCall, rI, rI0, rU, tNext, tB, tAnd, tOr, tNot, tAndV, tOrV, tNotV, tDrop, tIf, tPar, gSub, rIxL, rIxT, rEq, rNe, rSetL, tBits,
    L2.start, List.map_cons, List.map_nil, List.cons_append, List.nil_append, List.append_nil, List.length_cons, List.length_nil, List.replicate, Nat.reduceAdd, Nat.reduceSub, Nat.zero_add, List.getElem?_cons_zero, List.getElem?_cons_succ, List.set_cons_zero, List.set_cons_succ,
    Option.some.injEq, exists_eq_left', exists_eq_left, V.int.injEq, V.bl.injEq, V.ref.injEq, V.str.injEq, List.cons.injEq, reduceCtorEq, and_true, true_and, false_and, and_false, exists_false, or_false, false_or, or_true, true_or, exists_const, CMul, CDiv, CPow, and_assoc, exists_and_left, exists_and_right, Int.reducePow, Int.reduceNeg, Int.reduceLT, Int.reduceLE, Nat.reducePow, Nat.reduceLT, Int.reduceToNat, gt_iff_lt, ge_iff_le, decide_eq_true_eq, Bool.not_eq_true', decide_eq_false_iff_not, scal, ↓reduceIte, Bool.false_eq_true]
  refine ⟨_, rfl, rfl, true, rfl, ?_⟩
  rw [if_neg Bool.noConfusion]
  simp only [hq.o, cx_K, decide_true, decide_false, reduceCtorEq, gTp, gCons, gNil, ca_0, ca_1, ca_2, ca_3, ca_4, ca_5, ca_6, ca_7, ca_8, ca_9, ca_10, ca_11, ca_12, ca_13, ca_14, ca_15, ca_16, ca_17, ca_18, ca_19, ca_20, ca_21, ca_22, ca_23, ca_24, ca_25, ca_26, ca_27, ca_28, ca_29, ca_30, not_true_eq_false, not_false_eq_true, Int.reduceEq, Nat.reduceEqDiff, Nat.reduceLeDiff, rGcd, V.ty.injEq, eq_self, List.not_mem_nil, beq_self_eq_true, HO.lst.injEq, HO.tup.injEq, tFor_eq, iRng1, iList, iTup, nat10, tSeq, rIxA, rSetA, rIsN, rIsT, tTp, tLs, itsO_tup, itsO_lst, tyO_tup, tyO_lst, tyO_dK, tyN_non, tyN_bl, tyN_int, tyN_str, tyN_ref, tyNs_lt, isB, upd_same, upd_upd, sizeLine_eq, List.mem_cons, String.reduceBEq, String.reduceEq, Bool.or_false, Bool.or_true, Bool.and_false, Bool.false_or, Bool.and_self, Bool.false_and, Bool.not_false, Bool.not_true, List.any_cons, List.any_nil, atI_0, setI_0, atI_1, setI_1, atI_2, setI_2, atI_3, setI_3, atI_4, setI_4, atI_5, setI_5, atI_6, setI_6, tAsg, gName, tOp, tUn, tVar, tC, tCons, L2.tNil, tRet, tIfS, tTest, tCB, tCall, rI, rI0, rU, tNext, tB, tAnd, tOr, tNot, tAndV, tOrV, tNotV, tDrop, tIf, tPar, gSub, rIxL, rIxT, rEq, rNe, rSetL, tBits,
    L2.start, List.map_cons, List.map_nil, List.cons_append, List.nil_append, List.append_nil, List.length_cons, List.length_nil, List.replicate, Nat.reduceAdd, Nat.reduceSub, Nat.zero_add, List.getElem?_cons_zero, List.getElem?_cons_succ, List.set_cons_zero, List.set_cons_succ,
    Option.some.injEq, exists_eq_left', exists_eq_left, V.int.injEq, V.bl.injEq, V.ref.injEq, V.str.injEq, List.cons.injEq, reduceCtorEq, and_true, true_and, false_and, and_false, exists_false, or_false, false_or, or_true, true_or, exists_const, CMul, CDiv, CPow, and_assoc, exists_and_left, exists_and_right, Int.reducePow, Int.reduceNeg, Int.reduceLT, Int.reduceLE, Nat.reducePow, Nat.reduceLT, Int.reduceToNat, gt_iff_lt, ge_iff_le, decide_eq_true_eq, Bool.not_eq_true', decide_eq_false_iff_not, scal, ↓reduceIte, Bool.false_eq_true]
  refine ⟨_, rfl, rfl, true, rfl, ?_⟩
  rw [if_neg Bool.noConfusion]
  simp only [hq.o, cx_K, decide_true, decide_false, reduceCtorEq, gTp, gCons, gNil, ca_0, ca_1, ca_2, ca_3, ca_4, ca_5, ca_6, ca_7, ca_8, ca_9, ca_10, ca_11, ca_12, ca_13, ca_14, ca_15, ca_16, ca_17, ca_18, ca_19, ca_20, ca_21, ca_22, ca_23, ca_24, ca_25, ca_26, ca_27, ca_28, ca_29, ca_30, not_true_eq_false, not_false_eq_true, Int.reduceEq, Nat.reduceEqDiff, Nat.reduceLeDiff, rGcd, V.ty.injEq, eq_self, List.not_mem_nil, beq_self_eq_true, HO.lst.injEq, HO.tup.injEq, tFor_eq, iRng1, iList, iTup, nat10, tSeq, rIxA, rSetA, rIsN, rIsT, tTp, tLs, itsO_tup, itsO_lst, tyO_tup, tyO_lst, tyO_dK, tyN_non, tyN_bl, tyN_int, tyN_str, tyN_ref, tyNs_lt, isB, upd_same, upd_upd, sizeLine_eq, List.mem_cons, String.reduceBEq, String.reduceEq, Bool.or_false, Bool.or_true, Bool.and_false, Bool.false_or, Bool.and_self, Bool.false_and, Bool.not_false, Bool.not_true, List.any_cons, List.any_nil, atI_0, setI_0, atI_1, setI_1, atI_2, setI_2, atI_3, setI_3, atI_4, setI_4, atI_5, setI_5, atI_6, setI_6, tAsg, gName, tOp, tUn, tVar, tC, tCons, L2.tNil, tRet, tIfS, tTest, tCB, tCall, rI, rI0, rU, tNext, tB, tAnd, tOr, tNot, tAndV, tOrV, tNotV, tDrop, tIf, tPar, gSub, rIxL, rIxT, rEq, rNe, rSetL, tBits,
    L2.start, List.map_cons, List.map_nil, List.cons_append, List.nil_append, List.append_nil, List.length_cons, List.length_nil, List.replicate, Nat.reduceAdd, Nat.reduceSub, Nat.zero_add, List.getElem?_cons_zero, List.getElem?_cons_succ, List.set_cons_zero, List.set_cons_succ,
    Option.some.injEq, exists_eq_left', exists_eq_left, V.int.injEq, V.bl.injEq, V.ref.injEq, V.str.injEq, List.cons.injEq, reduceCtorEq, and_true, true_and, false_and, and_false, exists_false, or_false, false_or, or_true, true_or, exists_const, CMul, CDiv, CPow, and_assoc, exists_and_left, exists_and_right, Int.reducePow, Int.reduceNeg, Int.reduceLT, Int.reduceLE, Nat.reducePow, Nat.reduceLT, Int.reduceToNat, gt_iff_lt, ge_iff_le, decide_eq_true_eq, Bool.not_eq_true', decide_eq_false_iff_not, scal, ↓reduceIte, Bool.false_eq_true]
  rw [if_pos (show 0 < q.2 by have := hq.nf.1; omega)]
  refine ⟨_, _, rfl, rfl, ?_⟩
  have e : decide (V.int ((Int.gcd q.1 q.2 : Nat) : Int) = V.int 1) = true := by rw [hq.nf.2]; rfl
  rw [e]
  exact k
def dif2 (p q : Qt) (z : Qt) : Prop := Is z (p.1 * q.2 - q.1 * p.2) (p.2 * q.2)
def pro2 (p q : Qt) (z : Qt) : Prop := Is z (p.1 * q.1) (p.2 * q.2)
def quo2 (p q : Qt) (z : Qt) : Prop := Is z (p.1 * q.2) (p.2 * q.1)
def cmp2 (p q : Qt) : Int := if p.1 * q.2 = q.1 * p.2 then 0 else if p.1 * q.2 < q.1 * p.2 then -1 else 1
def spQuo (K : PySem.W.Frag) : Sp := fun vs H Q _ => ∃ (a b : Addr) (p q : Qt), vs = [.ref a, .ref b] ∧ Fq K H 3000 a p ∧ Fq K H 3000 b q ∧ q.1 ≠ 0 ∧ ∀ z, quo2 p q z → Gv K H Q z
def spCmp (K : PySem.W.Frag) : Sp := fun vs H Q _ => ∃ (a b : Addr) (p q : Qt), vs = [.ref a, .ref b] ∧ Fq K H 3000 a p ∧ Fq K H 3000 b q ∧ Q (.int (cmp2 p q)) H
abbrev sMinus : Stmt := topS 17
theorem scMinus : FnScope ["left", "right"] ["left", "right"] (defScope sMinus) := ⟨rfl, rfl, rfl, by decide +kernel, rfl, by decide +kernel, by decide +kernel⟩
theorem k_Minus (T : Bt K mg) (D : Dfn K mg "minus" sMinus ["left", "right"]) (d_require : Kn P w K mg base 1 "require" ["well_formed", "what"] spRequire) (d_is_fraction : Kn P w K mg base 2 "is_fraction" ["value"] (spIsFraction K)) (d_fraction : Kn P w K mg base 2 "fraction" ["numerator", "denominator"] (spFraction K)) : Kn P w K mg base 3 "minus" ["left", "right"] (spBin K dif2) := by
  refine Kn.mk' D scMinus (fun vs H Q E h => ?_) (fun f cdv A outer s H vs Q E hr h => ?_)
  · obtain ⟨a, b, p, q, rfl, _⟩ := h
    rfl
  obtain ⟨a, b, p, q, rfl, hp, hq, k⟩ := h
  refine ⟨_, (pss_cons (ps_expr (pe_kn d_require hr (by rfl) (pa_cons (pe_kn d_is_fraction hr (by rfl) (pa_cons (pv 0) pa_nil)) (pa_cons pe_str pa_nil))))
      (pss_cons (ps_expr (pe_kn d_require hr (by rfl) (pa_cons (pe_kn d_is_fraction hr (by rfl) (pa_cons (pv 1) pa_nil)) (pa_cons pe_str pa_nil))))
      (pss_one (ps_ret (pe_kn d_fraction hr (by rfl) (pa_cons (pe_op op_sub (pe_op op_mulW (pe_ix ix_any (pv 0) pe_int (fun _ _ => rfl)) (pe_ix ix_any (pv 1) pe_int (fun _ _ => rfl))) (pe_op op_mulW (pe_ix ix_any (pv 1) pe_int (fun _ _ => rfl)) (pe_ix ix_any (pv 0) pe_int (fun _ _ => rfl)))) (pa_cons (pe_op op_mulW (pe_ix ix_any (pv 0) pe_int (fun _ _ => rfl)) (pe_ix ix_any (pv 1) pe_int (fun _ _ => rfl))) pa_nil))))))), ?_⟩
  simp only [cx_K, decide_true, decide_false, reduceCtorEq, gTp, gCons, gNil, ca_0, ca_1, ca_2, ca_3, ca_4, ca_5, ca_6, ca_7, ca_8, ca_9, ca_10, ca_11, ca_12, ca_13, ca_14, ca_15, ca_16, ca_17, ca_18, ca_19, ca_20, ca_21, ca_22, ca_23, ca_24, ca_25, ca_26, ca_27, ca_28, ca_29, ca_30, not_true_eq_false, not_false_eq_true, Int.reduceEq, Nat.reduceEqDiff, Nat.reduceLeDiff, rGcd, V.ty.injEq, eq_self, List.not_mem_nil, beq_self_eq_true, HO.lst.injEq, HO.tup.injEq, tFor_eq, iRng1, iList, iTup, nat10, tSeq, rIxA, rSetA, rIsN, rIsT, tTp, tLs, itsO_tup, itsO_lst, tyO_tup, tyO_lst, tyO_dK, tyN_non, tyN_bl, tyN_int, tyN_str, tyN_ref, tyNs_lt, isB, upd_same, upd_upd, sizeLine_eq, List.mem_cons, String.reduceBEq, String.reduceEq, Bool.or_false, Bool.or_true, Bool.and_false, Bool.false_or, Bool.and_self, Bool.false_and, Bool.not_false, Bool.not_true, List.any_cons, List.any_nil, atI_0, setI_0, atI_1, setI_1, atI_2, setI_2, atI_3, setI_3, atI_4, setI_4, atI_5, setI_5, atI_6, setI_6, tAsg, gName, tOp, tUn, tVar, tC, tCons, L2.tNil, tRet, tIfS, tTest, tCB, tCall, rI, rI0, rU, tNext, tB, tAnd, tOr, tNot, tAndV, tOrV, tNotV, tDrop, tIf, tPar, gSub, rIxL, rIxT, rEq, rNe, rSetL, tBits,
    L2.start, List.map_cons, List.map_nil, List.cons_append, List.nil_append, List.append_nil, List.length_cons, List.length_nil, List.replicate, Nat.reduceAdd, Nat.reduceSub, Nat.zero_add, List.getElem?_cons_zero, List.getElem?_cons_succ, List.set_cons_zero, List.set_cons_succ,
    Option.some.injEq, exists_eq_left', exists_eq_left, V.int.injEq, V.bl.injEq, V.ref.injEq, V.str.injEq, List.cons.injEq, reduceCtorEq, and_true, true_and, false_and, and_false, exists_false, or_false, false_or, or_true, true_or, exists_const, CMul, CDiv, CPow, and_assoc, exists_and_left, exists_and_right, Int.reducePow, Int.reduceNeg, Int.reduceLT, Int.reduceLE, Nat.reducePow, Nat.reduceLT, Int.reduceToNat, gt_iff_lt, ge_iff_le, decide_eq_true_eq, Bool.not_eq_true', decide_eq_false_iff_not, scal, ↓reduceIte, Bool.false_eq_true]
  refine ⟨_, rfl, Tyd.fr hp.o, _, by rw [frOk_fr hp.o hp.nf], _, rfl, Tyd.fr hq.o, _, by rw [frOk_fr hq.o hq.nf], ?_⟩
  simp only [hp.o, hq.o, cx_K, decide_true, decide_false, reduceCtorEq, gTp, gCons, gNil, ca_0, ca_1, ca_2, ca_3, ca_4, ca_5, ca_6, ca_7, ca_8, ca_9, ca_10, ca_11, ca_12, ca_13, ca_14, ca_15, ca_16, ca_17, ca_18, ca_19, ca_20, ca_21, ca_22, ca_23, ca_24, ca_25, ca_26, ca_27, ca_28, ca_29, ca_30, not_true_eq_false, not_false_eq_true, Int.reduceEq, Nat.reduceEqDiff, Nat.reduceLeDiff, rGcd, V.ty.injEq, eq_self, List.not_mem_nil, beq_self_eq_true, HO.lst.injEq, HO.tup.injEq, tFor_eq, iRng1, iList, iTup, nat10, tSeq, rIxA, rSetA, rIsN, rIsT, tTp, tLs, itsO_tup, itsO_lst, tyO_tup, tyO_lst, tyO_dK, tyN_non, tyN_bl, tyN_int, tyN_str, tyN_ref, tyNs_lt, isB, upd_same, upd_upd, sizeLine_eq, List.mem_cons, String.reduceBEq, String.reduceEq, Bool.or_false, Bool.or_true, Bool.and_false, Bool.false_or, Bool.and_self, Bool.false_and, Bool.not_false, Bool.not_true, List.any_cons, List.any_nil, atI_0, setI_0, atI_1, setI_1, atI_2, setI_2, atI_3, setI_3, atI_4, setI_4, atI_5, setI_5, atI_6, setI_6, tAsg, gName, tOp, tUn, tVar, tC, tCons, L2.tNil, tRet, tIfS, tTest, tCB, tCall, rI, rI0, rU, tNext, tB, tAnd, tOr, tNot, tAndV, tOrV, tNotV, tDrop, tIf, tPar, gSub, rIxL, rIxT, rEq, rNe, rSetL, tBits,
    L2.start, List.map_cons, List.map_nil, List.cons_append, List.nil_append, List.append_nil, List.length_cons, List.length_nil, List.replicate, Nat.reduceAdd, Nat.reduceSub, Nat.zero_add, List.getElem?_cons_zero, List.getElem?_cons_succ, List.set_cons_zero, List.set_cons_succ,
    Option.some.injEq, exists_eq_left', exists_eq_left, V.int.injEq, V.bl.injEq, V.ref.injEq, V.str.injEq, List.cons.injEq, reduceCtorEq, and_true, true_and, false_and, and_false, exists_false, or_false, false_or, or_true, true_or, exists_const, CMul, CDiv, CPow, and_assoc, exists_and_left, exists_and_right, Int.reducePow, Int.reduceNeg, Int.reduceLT, Int.reduceLE, Nat.reducePow, Nat.reduceLT, Int.reduceToNat, gt_iff_lt, ge_iff_le, decide_eq_true_eq, Bool.not_eq_true', decide_eq_false_iff_not, scal, ↓reduceIte, Bool.false_eq_true]
  exact ⟨mulW hp.sz.1 hq.sz.2 (by omega), mulW hq.sz.1 hp.sz.2 (by omega), mulW hp.sz.2 hq.sz.2 (by omega), _, _, rfl, mul_ne hp.nf.1 hq.nf.1, szMono (szMul hp.sz.2 hq.sz.2) (by omega), k⟩
abbrev sTimes : Stmt := topS 18
theorem scTimes : FnScope ["left", "right"] ["left", "right"] (defScope sTimes) := ⟨rfl, rfl, rfl, by decide +kernel, rfl, by decide +kernel, by decide +kernel⟩
theorem k_Times (T : Bt K mg) (D : Dfn K mg "times" sTimes ["left", "right"]) (d_require : Kn P w K mg base 1 "require" ["well_formed", "what"] spRequire) (d_is_fraction : Kn P w K mg base 2 "is_fraction" ["value"] (spIsFraction K)) (d_fraction : Kn P w K mg base 2 "fraction" ["numerator", "denominator"] (spFraction K)) : Kn P w K mg base 3 "times" ["left", "right"] (spBin K pro2) := by
  refine Kn.mk' D scTimes (fun vs H Q E h => ?_) (fun f cdv A outer s H vs Q E hr h => ?_)
  · obtain ⟨a, b, p, q, rfl, _⟩ := h
    rfl
  obtain ⟨a, b, p, q, rfl, hp, hq, k⟩ := h
  refine ⟨_, (pss_cons (ps_expr (pe_kn d_require hr (by rfl) (pa_cons (pe_kn d_is_fraction hr (by rfl) (pa_cons (pv 0) pa_nil)) (pa_cons pe_str pa_nil))))
      (pss_cons (ps_expr (pe_kn d_require hr (by rfl) (pa_cons (pe_kn d_is_fraction hr (by rfl) (pa_cons (pv 1) pa_nil)) (pa_cons pe_str pa_nil))))
      (pss_one (ps_ret (pe_kn d_fraction hr (by rfl) (pa_cons (pe_op op_mulW (pe_ix ix_any (pv 0) pe_int (fun _ _ => rfl)) (pe_ix ix_any (pv 1) pe_int (fun _ _ => rfl))) (pa_cons (pe_op op_mulW (pe_ix ix_any (pv 0) pe_int (fun _ _ => rfl)) (pe_ix ix_any (pv 1) pe_int (fun _ _ => rfl))) pa_nil))))))), ?_⟩
  simp only [cx_K, decide_true, decide_false, reduceCtorEq, gTp, gCons, gNil, ca_0, ca_1, ca_2, ca_3, ca_4, ca_5, ca_6, ca_7, ca_8, ca_9, ca_10, ca_11, ca_12, ca_13, ca_14, ca_15, ca_16, ca_17, ca_18, ca_19, ca_20, ca_21, ca_22, ca_23, ca_24, ca_25, ca_26, ca_27, ca_28, ca_29, ca_30, not_true_eq_false, not_false_eq_true, Int.reduceEq, Nat.reduceEqDiff, Nat.reduceLeDiff, rGcd, V.ty.injEq, eq_self, List.not_mem_nil, beq_self_eq_true, HO.lst.injEq, HO.tup.injEq, tFor_eq, iRng1, iList, iTup, nat10, tSeq, rIxA, rSetA, rIsN, rIsT, tTp, tLs, itsO_tup, itsO_lst, tyO_tup, tyO_lst, tyO_dK, tyN_non, tyN_bl, tyN_int, tyN_str, tyN_ref, tyNs_lt, isB, upd_same, upd_upd, sizeLine_eq, List.mem_cons, String.reduceBEq, String.reduceEq, Bool.or_false, Bool.or_true, Bool.and_false, Bool.false_or, Bool.and_self, Bool.false_and, Bool.not_false, Bool.not_true, List.any_cons, List.any_nil, atI_0, setI_0, atI_1, setI_1, atI_2, setI_2, atI_3, setI_3, atI_4, setI_4, atI_5, setI_5, atI_6, setI_6, tAsg, gName, tOp, tUn, tVar, tC, tCons, L2.tNil, tRet, tIfS, tTest, tCB, tCall, rI, rI0, rU, tNext, tB, tAnd, tOr, tNot, tAndV, tOrV, tNotV, tDrop, tIf, tPar, gSub, rIxL, rIxT, rEq, rNe, rSetL, tBits,
    L2.start, List.map_cons, List.map_nil, List.cons_append, List.nil_append, List.append_nil, List.length_cons, List.length_nil, List.replicate, Nat.reduceAdd, Nat.reduceSub, Nat.zero_add, List.getElem?_cons_zero, List.getElem?_cons_succ, List.set_cons_zero, List.set_cons_succ,
    Option.some.injEq, exists_eq_left', exists_eq_left, V.int.injEq, V.bl.injEq, V.ref.injEq, V.str.injEq, List.cons.injEq, reduceCtorEq, and_true, true_and, false_and, and_false, exists_false, or_false, false_or, or_true, true_or, exists_const, CMul, CDiv, CPow, and_assoc, exists_and_left, exists_and_right, Int.reducePow, Int.reduceNeg, Int.reduceLT, Int.reduceLE, Nat.reducePow, Nat.reduceLT, Int.reduceToNat, gt_iff_lt, ge_iff_le, decide_eq_true_eq, Bool.not_eq_true', decide_eq_false_iff_not, scal, ↓reduceIte, Bool.false_eq_true]
  refine ⟨_, rfl, Tyd.fr hp.o, _, by rw [frOk_fr hp.o hp.nf], _, rfl, Tyd.fr hq.o, _, by rw [frOk_fr hq.o hq.nf], ?_⟩
  simp only [hp.o, hq.o, cx_K, decide_true, decide_false, reduceCtorEq, gTp, gCons, gNil, ca_0, ca_1, ca_2, ca_3, ca_4, ca_5, ca_6, ca_7, ca_8, ca_9, ca_10, ca_11, ca_12, ca_13, ca_14, ca_15, ca_16, ca_17, ca_18, ca_19, ca_20, ca_21, ca_22, ca_23, ca_24, ca_25, ca_26, ca_27, ca_28, ca_29, ca_30, not_true_eq_false, not_false_eq_true, Int.reduceEq, Nat.reduceEqDiff, Nat.reduceLeDiff, rGcd, V.ty.injEq, eq_self, List.not_mem_nil, beq_self_eq_true, HO.lst.injEq, HO.tup.injEq, tFor_eq, iRng1, iList, iTup, nat10, tSeq, rIxA, rSetA, rIsN, rIsT, tTp, tLs, itsO_tup, itsO_lst, tyO_tup, tyO_lst, tyO_dK, tyN_non, tyN_bl, tyN_int, tyN_str, tyN_ref, tyNs_lt, isB, upd_same, upd_upd, sizeLine_eq, List.mem_cons, String.reduceBEq, String.reduceEq, Bool.or_false, Bool.or_true, Bool.and_false, Bool.false_or, Bool.and_self, Bool.false_and, Bool.not_false, Bool.not_true, List.any_cons, List.any_nil, atI_0, setI_0, atI_1, setI_1, atI_2, setI_2, atI_3, setI_3, atI_4, setI_4, atI_5, setI_5, atI_6, setI_6, tAsg, gName, tOp, tUn, tVar, tC, tCons, L2.tNil, tRet, tIfS, tTest, tCB, tCall, rI, rI0, rU, tNext, tB, tAnd, tOr, tNot, tAndV, tOrV, tNotV, tDrop, tIf, tPar, gSub, rIxL, rIxT, rEq, rNe, rSetL, tBits,
    L2.start, List.map_cons, List.map_nil, List.cons_append, List.nil_append, List.append_nil, List.length_cons, List.length_nil, List.replicate, Nat.reduceAdd, Nat.reduceSub, Nat.zero_add, List.getElem?_cons_zero, List.getElem?_cons_succ, List.set_cons_zero, List.set_cons_succ,
    Option.some.injEq, exists_eq_left', exists_eq_left, V.int.injEq, V.bl.injEq, V.ref.injEq, V.str.injEq, List.cons.injEq, reduceCtorEq, and_true, true_and, false_and, and_false, exists_false, or_false, false_or, or_true, true_or, exists_const, CMul, CDiv, CPow, and_assoc, exists_and_left, exists_and_right, Int.reducePow, Int.reduceNeg, Int.reduceLT, Int.reduceLE, Nat.reducePow, Nat.reduceLT, Int.reduceToNat, gt_iff_lt, ge_iff_le, decide_eq_true_eq, Bool.not_eq_true', decide_eq_false_iff_not, scal, ↓reduceIte, Bool.false_eq_true]
  exact ⟨mulW hp.sz.1 hq.sz.1 (by omega), mulW hp.sz.2 hq.sz.2 (by omega), _, _, rfl, mul_ne hp.nf.1 hq.nf.1, szMono (szMul hp.sz.2 hq.sz.2) (by omega), k⟩
abbrev sOver : Stmt := topS 19
theorem scOver : FnScope ["left", "right"] ["left", "right"] (defScope sOver) := ⟨rfl, rfl, rfl, by decide +kernel, rfl, by decide +kernel, by decide +kernel⟩
theorem k_Over (T : Bt K mg) (D : Dfn K mg "over" sOver ["left", "right"]) (d_require : Kn P w K mg base 1 "require" ["well_formed", "what"] spRequire) (d_is_fraction : Kn P w K mg base 2 "is_fraction" ["value"] (spIsFraction K)) (d_fraction : Kn P w K mg base 2 "fraction" ["numerator", "denominator"] (spFraction K)) : Kn P w K mg base 3 "over" ["left", "right"] (spQuo K) := by
  refine Kn.mk' D scOver (fun vs H Q E h => ?_) (fun f cdv A outer s H vs Q E hr h => ?_)
  · obtain ⟨a, b, p, q, rfl, _⟩ := h
    rfl
  obtain ⟨a, b, p, q, rfl, hp, hq, h0, k⟩ := h
  refine ⟨_, (pss_cons (ps_expr (pe_kn d_require hr (by rfl) (pa_cons (pe_kn d_is_fraction hr (by rfl) (pa_cons (pv 0) pa_nil)) (pa_cons pe_str pa_nil))))
      (pss_cons (ps_expr (pe_kn d_require hr (by rfl) (pa_cons (pe_and (pe_kn d_is_fraction hr (by rfl) (pa_cons (pv 1) pa_nil)) (pe_one (pe_cmpR op_ne (pe_ix ix_any (pv 1) pe_int (fun _ _ => rfl)) pe_int (nomark _)))) (pa_cons pe_str pa_nil))))
      (pss_one (ps_ret (pe_kn d_fraction hr (by rfl) (pa_cons (pe_op op_mulW (pe_ix ix_any (pv 0) pe_int (fun _ _ => rfl)) (pe_ix ix_any (pv 1) pe_int (fun _ _ => rfl))) (pa_cons (pe_op op_mulW (pe_ix ix_any (pv 0) pe_int (fun _ _ => rfl)) (pe_ix ix_any (pv 1) pe_int (fun _ _ => rfl))) pa_nil))))))), ?_⟩
  simp only [cx_K, decide_true, decide_false, reduceCtorEq, gTp, gCons, gNil, ca_0, ca_1, ca_2, ca_3, ca_4, ca_5, ca_6, ca_7, ca_8, ca_9, ca_10, ca_11, ca_12, ca_13, ca_14, ca_15, ca_16, ca_17, ca_18, ca_19, ca_20, ca_21, ca_22, ca_23, ca_24, ca_25, ca_26, ca_27, ca_28, ca_29, ca_30, not_true_eq_false, not_false_eq_true, Int.reduceEq, Nat.reduceEqDiff, Nat.reduceLeDiff, rGcd, V.ty.injEq, eq_self, List.not_mem_nil, beq_self_eq_true, HO.lst.injEq, HO.tup.injEq, tFor_eq, iRng1, iList, iTup, nat10, tSeq, rIxA, rSetA, rIsN, rIsT, tTp, tLs, itsO_tup, itsO_lst, tyO_tup, tyO_lst, tyO_dK, tyN_non, tyN_bl, tyN_int, tyN_str, tyN_ref, tyNs_lt, isB, upd_same, upd_upd, sizeLine_eq, List.mem_cons, String.reduceBEq, String.reduceEq, Bool.or_false, Bool.or_true, Bool.and_false, Bool.false_or, Bool.and_self, Bool.false_and, Bool.not_false, Bool.not_true, List.any_cons, List.any_nil, atI_0, setI_0, atI_1, setI_1, atI_2, setI_2, atI_3, setI_3, atI_4, setI_4, atI_5, setI_5, atI_6, setI_6, tAsg, gName, tOp, tUn, tVar, tC, tCons, L2.tNil, tRet, tIfS, tTest, tCB, tCall, rI, rI0, rU, tNext, tB, tAnd, tOr, tNot, tAndV, tOrV, tNotV, tDrop, tIf, tPar, gSub, rIxL, rIxT, rEq, rNe, rSetL, tBits,
    L2.start, List.map_cons, List.map_nil, List.cons_append, List.nil_append, List.append_nil, List.length_cons, List.length_nil, List.replicate, Nat.reduceAdd, Nat.reduceSub, Nat.zero_add, List.getElem?_cons_zero, List.getElem?_cons_succ, List.set_cons_zero, List.set_cons_succ,
    Option.some.injEq, exists_eq_left', exists_eq_left, V.int.injEq, V.bl.injEq, V.ref.injEq, V.str.injEq, List.cons.injEq, reduceCtorEq, and_true, true_and, false_and, and_false, exists_false, or_false, false_or, or_true, true_or, exists_const, CMul, CDiv, CPow, and_assoc, exists_and_left, exists_and_right, Int.reducePow, Int.reduceNeg, Int.reduceLT, Int.reduceLE, Nat.reducePow, Nat.reduceLT, Int.reduceToNat, gt_iff_lt, ge_iff_le, decide_eq_true_eq, Bool.not_eq_true', decide_eq_false_iff_not, scal, ↓reduceIte, Bool.false_eq_true]
  refine ⟨_, rfl, Tyd.fr hp.o, _, by rw [frOk_fr hp.o hp.nf], _, rfl, Tyd.fr hq.o, true, by rw [frOk_fr hq.o hq.nf], ?_⟩
  rw [if_pos rfl]
  simp only [hq.o, cx_K, decide_true, decide_false, reduceCtorEq, gTp, gCons, gNil, ca_0, ca_1, ca_2, ca_3, ca_4, ca_5, ca_6, ca_7, ca_8, ca_9, ca_10, ca_11, ca_12, ca_13, ca_14, ca_15, ca_16, ca_17, ca_18, ca_19, ca_20, ca_21, ca_22, ca_23, ca_24, ca_25, ca_26, ca_27, ca_28, ca_29, ca_30, not_true_eq_false, not_false_eq_true, Int.reduceEq, Nat.reduceEqDiff, Nat.reduceLeDiff, rGcd, V.ty.injEq, eq_self, List.not_mem_nil, beq_self_eq_true, HO.lst.injEq, HO.tup.injEq, tFor_eq, iRng1, iList, iTup, nat10, tSeq, rIxA, rSetA, rIsN, rIsT, tTp, tLs, itsO_tup, itsO_lst, tyO_tup, tyO_lst, tyO_dK, tyN_non, tyN_bl, tyN_int, tyN_str, tyN_ref, tyNs_lt, isB, upd_same, upd_upd, sizeLine_eq, List.mem_cons, String.reduceBEq, String.reduceEq, Bool.or_false, Bool.or_true, Bool.and_false, Bool.false_or, Bool.and_self, Bool.false_and, Bool.not_false, Bool.not_true, List.any_cons, List.any_nil, atI_0, setI_0, atI_1, setI_1, atI_2, setI_2, atI_3, setI_3, atI_4, setI_4, atI_5, setI_5, atI_6, setI_6, tAsg, gName, tOp, tUn, tVar, tC, tCons, L2.tNil, tRet, tIfS, tTest, tCB, tCall, rI, rI0, rU, tNext, tB, tAnd, tOr, tNot, tAndV, tOrV, tNotV, tDrop, tIf, tPar, gSub, rIxL, rIxT, rEq, rNe, rSetL, tBits,
    L2.start, List.map_cons, List.map_nil, List.cons_append, List.nil_append, List.append_nil, List.length_cons, List.length_nil, List.replicate, Nat.reduceAdd, Nat.reduceSub, Nat.zero_add, List.getElem?_cons_zero, List.getElem?_cons_succ, List.set_cons_zero, List.set_cons_succ,
    Option.some.injEq, exists_eq_left', exists_eq_left, V.int.injEq, V.bl.injEq, V.ref.injEq, V.str.injEq, List.cons.injEq, reduceCtorEq, and_true, true_and, false_and, and_false, exists_false, or_false, false_or, or_true, true_or, exists_const, CMul, CDiv, CPow, and_assoc, exists_and_left, exists_and_right, Int.reducePow, Int.reduceNeg, Int.reduceLT, Int.reduceLE, Nat.reducePow, Nat.reduceLT, Int.reduceToNat, gt_iff_lt, ge_iff_le, decide_eq_true_eq, Bool.not_eq_true', decide_eq_false_iff_not, scal, ↓reduceIte, Bool.false_eq_true]
  refine ⟨_, by rw [decide_eq_false h0]; rfl, ?_⟩
  simp only [hp.o, hq.o, cx_K, decide_true, decide_false, reduceCtorEq, gTp, gCons, gNil, ca_0, ca_1, ca_2, ca_3, ca_4, ca_5, ca_6, ca_7, ca_8, ca_9, ca_10, ca_11, ca_12, ca_13, ca_14, ca_15, ca_16, ca_17, ca_18, ca_19, ca_20, ca_21, ca_22, ca_23, ca_24, ca_25, ca_26, ca_27, ca_28, ca_29, ca_30, not_true_eq_false, not_false_eq_true, Int.reduceEq, Nat.reduceEqDiff, Nat.reduceLeDiff, rGcd, V.ty.injEq, eq_self, List.not_mem_nil, beq_self_eq_true, HO.lst.injEq, HO.tup.injEq, tFor_eq, iRng1, iList, iTup, nat10, tSeq, rIxA, rSetA, rIsN, rIsT, tTp, tLs, itsO_tup, itsO_lst, tyO_tup, tyO_lst, tyO_dK, tyN_non, tyN_bl, tyN_int, tyN_str, tyN_ref, tyNs_lt, isB, upd_same, upd_upd, sizeLine_eq, List.mem_cons, String.reduceBEq, String.reduceEq, Bool.or_false, Bool.or_true, Bool.and_false, Bool.false_or, Bool.and_self, Bool.false_and, Bool.not_false, Bool.not_true, List.any_cons, List.any_nil, atI_0, setI_0, atI_1, setI_1, atI_2, setI_2, atI_3, setI_3, atI_4, setI_4, atI_5, setI_5, atI_6, setI_6, tAsg, gName, tOp, tUn, tVar, tC, tCons, L2.tNil, tRet, tIfS, tTest, tCB, tCall, rI, rI0, rU, tNext, tB, tAnd, tOr, tNot, tAndV, tOrV, tNotV, tDrop, tIf, tPar, gSub, rIxL, rIxT, rEq, rNe, rSetL, tBits,
    L2.start, List.map_cons, List.map_nil, List.cons_append, List.nil_append, List.append_nil, List.length_cons, List.length_nil, List.replicate, Nat.reduceAdd, Nat.reduceSub, Nat.zero_add, List.getElem?_cons_zero, List.getElem?_cons_succ, List.set_cons_zero, List.set_cons_succ,
    Option.some.injEq, exists_eq_left', exists_eq_left, V.int.injEq, V.bl.injEq, V.ref.injEq, V.str.injEq, List.cons.injEq, reduceCtorEq, and_true, true_and, false_and, and_false, exists_false, or_false, false_or, or_true, true_or, exists_const, CMul, CDiv, CPow, and_assoc, exists_and_left, exists_and_right, Int.reducePow, Int.reduceNeg, Int.reduceLT, Int.reduceLE, Nat.reducePow, Nat.reduceLT, Int.reduceToNat, gt_iff_lt, ge_iff_le, decide_eq_true_eq, Bool.not_eq_true', decide_eq_false_iff_not, scal, ↓reduceIte, Bool.false_eq_true]
  exact ⟨mulW hp.sz.1 hq.sz.2 (by omega), mulW hp.sz.2 hq.sz.1 (by omega), _, _, rfl, Int.mul_ne_zero hp.nf.ne h0, szMono (szMul hp.sz.2 hq.sz.1) (by omega), k⟩
abbrev sCompare : Stmt := topS 20
theorem scCompare : FnScope ["left", "right", "scaled_left", "scaled_right"] ["left", "right"] (defScope sCompare) := ⟨rfl, rfl, rfl, by decide +kernel, rfl, by decide +kernel, by decide +kernel⟩
theorem k_Compare (T : Bt K mg) (D : Dfn K mg "compare" sCompare ["left", "right"]) (d_require : Kn P w K mg base 1 "require" ["well_formed", "what"] spRequire) (d_is_fraction : Kn P w K mg base 2 "is_fraction" ["value"] (spIsFraction K)) : Kn P w K mg base 3 "compare" ["left", "right"] (spCmp K) := by
  refine Kn.mk' D scCompare (fun vs H Q E h => ?_) (fun f cdv A outer s H vs Q E hr h => ?_)
  · obtain ⟨a, b, p, q, rfl, _⟩ := h
    rfl
  obtain ⟨a, b, p, q, rfl, hp, hq, k⟩ := h
  refine ⟨_, (pss_cons (ps_expr (pe_kn d_require hr (by rfl) (pa_cons (pe_kn d_is_fraction hr (by rfl) (pa_cons (pv 0) pa_nil)) (pa_cons pe_str pa_nil))))
      (pss_cons (ps_expr (pe_kn d_require hr (by rfl) (pa_cons (pe_kn d_is_fraction hr (by rfl) (pa_cons (pv 1) pa_nil)) (pa_cons pe_str pa_nil))))
      (pss_cons (ps_set (i := 2) scCompare.nd rfl (.inl rfl) (pe_op op_mulW (pe_ix ix_any (pv 0) pe_int (fun _ _ => rfl)) (pe_ix ix_any (pv 1) pe_int (fun _ _ => rfl))))
      (pss_cons (ps_set (i := 3) scCompare.nd rfl (.inl rfl) (pe_op op_mulW (pe_ix ix_any (pv 1) pe_int (fun _ _ => rfl)) (pe_ix ix_any (pv 0) pe_int (fun _ _ => rfl))))
      (pss_cons (ps_if (pt_cmpR op_eq (pv 2) (pv 3) (nomark _)) (pss_one (ps_ret pe_int)) pss_nil)
      (pss_one (ps_ret (pe_ifExp (pt_cmpR op_lt (pv 2) (pv 3) (nomark _)) (pe_un un_neg pe_int) pe_int)))))))), ?_⟩
  simp only [cx_K, decide_true, decide_false, reduceCtorEq, gTp, gCons, gNil, ca_0, ca_1, ca_2, ca_3, ca_4, ca_5, ca_6, ca_7, ca_8, ca_9, ca_10, ca_11, ca_12, ca_13, ca_14, ca_15, ca_16, ca_17, ca_18, ca_19, ca_20, ca_21, ca_22, ca_23, ca_24, ca_25, ca_26, ca_27, ca_28, ca_29, ca_30, not_true_eq_false, not_false_eq_true, Int.reduceEq, Nat.reduceEqDiff, Nat.reduceLeDiff, rGcd, V.ty.injEq, eq_self, List.not_mem_nil, beq_self_eq_true, HO.lst.injEq, HO.tup.injEq, tFor_eq, iRng1, iList, iTup, nat10, tSeq, rIxA, rSetA, rIsN, rIsT, tTp, tLs, itsO_tup, itsO_lst, tyO_tup, tyO_lst, tyO_dK, tyN_non, tyN_bl, tyN_int, tyN_str, tyN_ref, tyNs_lt, isB, upd_same, upd_upd, sizeLine_eq, List.mem_cons, String.reduceBEq, String.reduceEq, Bool.or_false, Bool.or_true, Bool.and_false, Bool.false_or, Bool.and_self, Bool.false_and, Bool.not_false, Bool.not_true, List.any_cons, List.any_nil, atI_0, setI_0, atI_1, setI_1, atI_2, setI_2, atI_3, setI_3, atI_4, setI_4, atI_5, setI_5, atI_6, setI_6, tAsg, gName, tOp, tUn, tVar, tC, tCons, L2.tNil, tRet, tIfS, tTest, tCB, tCall, rI, rI0, rU, tNext, tB, tAnd, tOr, tNot, tAndV, tOrV, tNotV, tDrop, tIf, tPar, gSub, rIxL, rIxT, rEq, rNe, rSetL, tBits,
    L2.start, List.map_cons, List.map_nil, List.cons_append, List.nil_append, List.append_nil, List.length_cons, List.length_nil, List.replicate, Nat.reduceAdd, Nat.reduceSub, Nat.zero_add, List.getElem?_cons_zero, List.getElem?_cons_succ, List.set_cons_zero, List.set_cons_succ,
    Option.some.injEq, exists_eq_left', exists_eq_left, V.int.injEq, V.bl.injEq, V.ref.injEq, V.str.injEq, List.cons.injEq, reduceCtorEq, and_true, true_and, false_and, and_false, exists_false, or_false, false_or, or_true, true_or, exists_const, CMul, CDiv, CPow, and_assoc, exists_and_left, exists_and_right, Int.reducePow, Int.reduceNeg, Int.reduceLT, Int.reduceLE, Nat.reducePow, Nat.reduceLT, Int.reduceToNat, gt_iff_lt, ge_iff_le, decide_eq_true_eq, Bool.not_eq_true', decide_eq_false_iff_not, scal, ↓reduceIte, Bool.false_eq_true]
  refine ⟨_, rfl, Tyd.fr hp.o, _, by rw [frOk_fr hp.o hp.nf], _, rfl, Tyd.fr hq.o, _, by rw [frOk_fr hq.o hq.nf], ?_⟩
  simp only [hp.o, hq.o, cx_K, decide_true, decide_false, reduceCtorEq, gTp, gCons, gNil, ca_0, ca_1, ca_2, ca_3, ca_4, ca_5, ca_6, ca_7, ca_8, ca_9, ca_10, ca_11, ca_12, ca_13, ca_14, ca_15, ca_16, ca_17, ca_18, ca_19, ca_20, ca_21, ca_22, ca_23, ca_24, ca_25, ca_26, ca_27, ca_28, ca_29, ca_30, not_true_eq_false, not_false_eq_true, Int.reduceEq, Nat.reduceEqDiff, Nat.reduceLeDiff, rGcd, V.ty.injEq, eq_self, List.not_mem_nil, beq_self_eq_true, HO.lst.injEq, HO.tup.injEq, tFor_eq, iRng1, iList, iTup, nat10, tSeq, rIxA, rSetA, rIsN, rIsT, tTp, tLs, itsO_tup, itsO_lst, tyO_tup, tyO_lst, tyO_dK, tyN_non, tyN_bl, tyN_int, tyN_str, tyN_ref, tyNs_lt, isB, upd_same, upd_upd, sizeLine_eq, List.mem_cons, String.reduceBEq, String.reduceEq, Bool.or_false, Bool.or_true, Bool.and_false, Bool.false_or, Bool.and_self, Bool.false_and, Bool.not_false, Bool.not_true, List.any_cons, List.any_nil, atI_0, setI_0, atI_1, setI_1, atI_2, setI_2, atI_3, setI_3, atI_4, setI_4, atI_5, setI_5, atI_6, setI_6, tAsg, gName, tOp, tUn, tVar, tC, tCons, L2.tNil, tRet, tIfS, tTest, tCB, tCall, rI, rI0, rU, tNext, tB, tAnd, tOr, tNot, tAndV, tOrV, tNotV, tDrop, tIf, tPar, gSub, rIxL, rIxT, rEq, rNe, rSetL, tBits,
    L2.start, List.map_cons, List.map_nil, List.cons_append, List.nil_append, List.append_nil, List.length_cons, List.length_nil, List.replicate, Nat.reduceAdd, Nat.reduceSub, Nat.zero_add, List.getElem?_cons_zero, List.getElem?_cons_succ, List.set_cons_zero, List.set_cons_succ,
    Option.some.injEq, exists_eq_left', exists_eq_left, V.int.injEq, V.bl.injEq, V.ref.injEq, V.str.injEq, List.cons.injEq, reduceCtorEq, and_true, true_and, false_and, and_false, exists_false, or_false, false_or, or_true, true_or, exists_const, CMul, CDiv, CPow, and_assoc, exists_and_left, exists_and_right, Int.reducePow, Int.reduceNeg, Int.reduceLT, Int.reduceLE, Nat.reducePow, Nat.reduceLT, Int.reduceToNat, gt_iff_lt, ge_iff_le, decide_eq_true_eq, Bool.not_eq_true', decide_eq_false_iff_not, scal, ↓reduceIte, Bool.false_eq_true]
  refine ⟨mulW hp.sz.1 hq.sz.2 (by omega), mulW hq.sz.1 hp.sz.2 (by omega), ?_⟩
  unfold cmp2 at k
  refine ite2 (fun h => ?_) (fun h => ?_)
  · rw [if_pos h] at k
    exact k
  rw [if_neg h] at k
  refine ite2 (fun h => ?_) (fun h => ?_)
  · rw [if_pos h] at k
    exact k
  · rw [if_neg h] at k
    exact k
def spQuot (K : PySem.W.Frag) : Sp := fun vs H Q _ => ∃ (a : Addr) (z : Qt) (t b : Int), vs = [.ref a, .int t, .int b] ∧ Fq K H 3000 a z ∧ Is z t b ∧ t.natAbs < 2 ^ 3000 ∧ b.natAbs < 2 ^ 3000 ∧ Q (.bl true) H
abbrev sLPlus : Stmt := topS 38
theorem scLPlus : FnScope ["_law_left", "_law_right"] ["_law_left", "_law_right"] (defScope sLPlus) := ⟨rfl, rfl, rfl, by decide +kernel, rfl, by decide +kernel, by decide +kernel⟩
theorem k_LPlus (T : Bt K mg) (D : Dfn K mg "_law_plus" sLPlus ["_law_left", "_law_right"]) (d__law_lowest : Kn P w K mg base 2 "_law_lowest" ["_law_top", "_law_bottom"] (spLowest K)) : Kn P w K mg base 3 "_law_plus" ["_law_left", "_law_right"] (spBin K sum2) := by
  refine Kn.mk' D scLPlus (fun vs H Q E h => ?_) (fun f cdv A outer s H vs Q E hr h => ?_)
  · obtain ⟨a, b, p, q, rfl, _⟩ := h
    rfl
  obtain ⟨a, b, p, q, rfl, hp, hq, k⟩ := h
  refine ⟨_, (pss_one (ps_ret (pe_kn d__law_lowest hr (by rfl) (pa_cons (pe_op op_add (pe_op op_mulW (pe_ix ix_any (pv 0) pe_int (fun _ _ => rfl)) (pe_ix ix_any (pv 1) pe_int (fun _ _ => rfl))) (pe_op op_mulW (pe_ix ix_any (pv 1) pe_int (fun _ _ => rfl)) (pe_ix ix_any (pv 0) pe_int (fun _ _ => rfl)))) (pa_cons (pe_op op_mulW (pe_ix ix_any (pv 0) pe_int (fun _ _ => rfl)) (pe_ix ix_any (pv 1) pe_int (fun _ _ => rfl))) pa_nil))))), ?_⟩
  simp only [hp.o, hq.o, cx_K, decide_true, decide_false, reduceCtorEq, gTp, gCons, gNil, ca_0, ca_1, ca_2, ca_3, ca_4, ca_5, ca_6, ca_7, ca_8, ca_9, ca_10, ca_11, ca_12, ca_13, ca_14, ca_15, ca_16, ca_17, ca_18, ca_19, ca_20, ca_21, ca_22, ca_23, ca_24, ca_25, ca_26, ca_27, ca_28, ca_29, ca_30, not_true_eq_false, not_false_eq_true, Int.reduceEq, Nat.reduceEqDiff, Nat.reduceLeDiff, rGcd, V.ty.injEq, eq_self, List.not_mem_nil, beq_self_eq_true, HO.lst.injEq, HO.tup.injEq, tFor_eq, iRng1, iList, iTup, nat10, tSeq, rIxA, rSetA, rIsN, rIsT, tTp, tLs, itsO_tup, itsO_lst, tyO_tup, tyO_lst, tyO_dK, tyN_non, tyN_bl, tyN_int, tyN_str, tyN_ref, tyNs_lt, isB, upd_same, upd_upd, sizeLine_eq, List.mem_cons, String.reduceBEq, String.reduceEq, Bool.or_false, Bool.or_true, Bool.and_false, Bool.false_or, Bool.and_self, Bool.false_and, Bool.not_false, Bool.not_true, List.any_cons, List.any_nil, atI_0, setI_0, atI_1, setI_1, atI_2, setI_2, atI_3, setI_3, atI_4, setI_4, atI_5, setI_5, atI_6, setI_6, tAsg, gName, tOp, tUn, tVar, tC, tCons, L2.tNil, tRet, tIfS, tTest, tCB, tCall, rI, rI0, rU, tNext, tB, tAnd, tOr, tNot, tAndV, tOrV, tNotV, tDrop, tIf, tPar, gSub, rIxL, rIxT, rEq, rNe, rSetL, tBits,
    L2.start, List.map_cons, List.map_nil, List.cons_append, List.nil_append, List.append_nil, List.length_cons, List.length_nil, List.replicate, Nat.reduceAdd, Nat.reduceSub, Nat.zero_add, List.getElem?_cons_zero, List.getElem?_cons_succ, List.set_cons_zero, List.set_cons_succ,
    Option.some.injEq, exists_eq_left', exists_eq_left, V.int.injEq, V.bl.injEq, V.ref.injEq, V.str.injEq, List.cons.injEq, reduceCtorEq, and_true, true_and, false_and, and_false, exists_false, or_false, false_or, or_true, true_or, exists_const, CMul, CDiv, CPow, and_assoc, exists_and_left, exists_and_right, Int.reducePow, Int.reduceNeg, Int.reduceLT, Int.reduceLE, Nat.reducePow, Nat.reduceLT, Int.reduceToNat, gt_iff_lt, ge_iff_le, decide_eq_true_eq, Bool.not_eq_true', decide_eq_false_iff_not, scal, ↓reduceIte, Bool.false_eq_true]
  exact ⟨mulW hp.sz.1 hq.sz.2 (by omega), mulW hq.sz.1 hp.sz.2 (by omega), mulW hp.sz.2 hq.sz.2 (by omega), _, _, rfl, szMono (szMul hp.sz.2 hq.sz.2) (by omega), fun z hz => k z (hz.2 (mul_ne hp.nf.1 hq.nf.1))⟩
abbrev sPart : Stmt := topS 21
theorem scPart : FnScope ["value"] ["value"] (defScope sPart) := ⟨rfl, rfl, rfl, by decide +kernel, rfl, by decide +kernel, by decide +kernel⟩
theorem k_Part (T : Bt K mg) (D : Dfn K mg "part_of" sPart ["value"]) (d_require : Kn P w K mg base 1 "require" ["well_formed", "what"] spRequire) (d_is_fraction : Kn P w K mg base 2 "is_fraction" ["value"] (spIsFraction K)) : Kn P w K mg base 3 "part_of" ["value"] (spUn K fun q => (q.1 % q.2, q.2)) := by
  refine Kn.mk' D scPart (fun vs H Q E h => ?_) (fun f cdv A outer s H vs Q E hr h => ?_)
  · obtain ⟨a, q, rfl, _⟩ := h
    rfl
  obtain ⟨a, q, rfl, hq, k⟩ := h
  refine ⟨_, (pss_cons (ps_expr (pe_kn d_require hr (by rfl) (pa_cons (pe_kn d_is_fraction hr (by rfl) (pa_cons (pv 0) pa_nil)) (pa_cons pe_str pa_nil))))
      (pss_one (ps_ret (pe_tp (pa_cons (pe_op op_modN (pe_ix ix_any (pv 0) pe_int (fun _ _ => rfl)) (pe_ix ix_any (pv 0) pe_int (fun _ _ => rfl))) (pa_cons (pe_ix ix_any (pv 0) pe_int (fun _ _ => rfl)) pa_nil)))))), ?_⟩
  simp only [cx_K, decide_true, decide_false, reduceCtorEq, gTp, gCons, gNil, ca_0, ca_1, ca_2, ca_3, ca_4, ca_5, ca_6, ca_7, ca_8, ca_9, ca_10, ca_11, ca_12, ca_13, ca_14, ca_15, ca_16, ca_17, ca_18, ca_19, ca_20, ca_21, ca_22, ca_23, ca_24, ca_25, ca_26, ca_27, ca_28, ca_29, ca_30, not_true_eq_false, not_false_eq_true, Int.reduceEq, Nat.reduceEqDiff, Nat.reduceLeDiff, rGcd, V.ty.injEq, eq_self, List.not_mem_nil, beq_self_eq_true, HO.lst.injEq, HO.tup.injEq, tFor_eq, iRng1, iList, iTup, nat10, tSeq, rIxA, rSetA, rIsN, rIsT, tTp, tLs, itsO_tup, itsO_lst, tyO_tup, tyO_lst, tyO_dK, tyN_non, tyN_bl, tyN_int, tyN_str, tyN_ref, tyNs_lt, isB, upd_same, upd_upd, sizeLine_eq, List.mem_cons, String.reduceBEq, String.reduceEq, Bool.or_false, Bool.or_true, Bool.and_false, Bool.false_or, Bool.and_self, Bool.false_and, Bool.not_false, Bool.not_true, List.any_cons, List.any_nil, atI_0, setI_0, atI_1, setI_1, atI_2, setI_2, atI_3, setI_3, atI_4, setI_4, atI_5, setI_5, atI_6, setI_6, tAsg, gName, tOp, tUn, tVar, tC, tCons, L2.tNil, tRet, tIfS, tTest, tCB, tCall, rI, rI0, rU, tNext, tB, tAnd, tOr, tNot, tAndV, tOrV, tNotV, tDrop, tIf, tPar, gSub, rIxL, rIxT, rEq, rNe, rSetL, tBits,
    L2.start, List.map_cons, List.map_nil, List.cons_append, List.nil_append, List.append_nil, List.length_cons, List.length_nil, List.replicate, Nat.reduceAdd, Nat.reduceSub, Nat.zero_add, List.getElem?_cons_zero, List.getElem?_cons_succ, List.set_cons_zero, List.set_cons_succ,
    Option.some.injEq, exists_eq_left', exists_eq_left, V.int.injEq, V.bl.injEq, V.ref.injEq, V.str.injEq, List.cons.injEq, reduceCtorEq, and_true, true_and, false_and, and_false, exists_false, or_false, false_or, or_true, true_or, exists_const, CMul, CDiv, CPow, and_assoc, exists_and_left, exists_and_right, Int.reducePow, Int.reduceNeg, Int.reduceLT, Int.reduceLE, Nat.reducePow, Nat.reduceLT, Int.reduceToNat, gt_iff_lt, ge_iff_le, decide_eq_true_eq, Bool.not_eq_true', decide_eq_false_iff_not, scal, ↓reduceIte, Bool.false_eq_true]
  refine ⟨_, rfl, Tyd.fr hq.o, _, by rw [frOk_fr hq.o hq.nf], ?_⟩
  have fm : q.1.fmod q.2 = q.1 % q.2 := Int.fmod_eq_emod_of_nonneg _ (by have := hq.nf.1; omega)
  simp only [hq.o, fm, cx_K, decide_true, decide_false, reduceCtorEq, gTp, gCons, gNil, ca_0, ca_1, ca_2, ca_3, ca_4, ca_5, ca_6, ca_7, ca_8, ca_9, ca_10, ca_11, ca_12, ca_13, ca_14, ca_15, ca_16, ca_17, ca_18, ca_19, ca_20, ca_21, ca_22, ca_23, ca_24, ca_25, ca_26, ca_27, ca_28, ca_29, ca_30, not_true_eq_false, not_false_eq_true, Int.reduceEq, Nat.reduceEqDiff, Nat.reduceLeDiff, rGcd, V.ty.injEq, eq_self, List.not_mem_nil, beq_self_eq_true, HO.lst.injEq, HO.tup.injEq, tFor_eq, iRng1, iList, iTup, nat10, tSeq, rIxA, rSetA, rIsN, rIsT, tTp, tLs, itsO_tup, itsO_lst, tyO_tup, tyO_lst, tyO_dK, tyN_non, tyN_bl, tyN_int, tyN_str, tyN_ref, tyNs_lt, isB, upd_same, upd_upd, sizeLine_eq, List.mem_cons, String.reduceBEq, String.reduceEq, Bool.or_false, Bool.or_true, Bool.and_false, Bool.false_or, Bool.and_self, Bool.false_and, Bool.not_false, Bool.not_true, List.any_cons, List.any_nil, atI_0, setI_0, atI_1, setI_1, atI_2, setI_2, atI_3, setI_3, atI_4, setI_4, atI_5, setI_5, atI_6, setI_6, tAsg, gName, tOp, tUn, tVar, tC, tCons, L2.tNil, tRet, tIfS, tTest, tCB, tCall, rI, rI0, rU, tNext, tB, tAnd, tOr, tNot, tAndV, tOrV, tNotV, tDrop, tIf, tPar, gSub, rIxL, rIxT, rEq, rNe, rSetL, tBits,
    L2.start, List.map_cons, List.map_nil, List.cons_append, List.nil_append, List.append_nil, List.length_cons, List.length_nil, List.replicate, Nat.reduceAdd, Nat.reduceSub, Nat.zero_add, List.getElem?_cons_zero, List.getElem?_cons_succ, List.set_cons_zero, List.set_cons_succ,
    Option.some.injEq, exists_eq_left', exists_eq_left, V.int.injEq, V.bl.injEq, V.ref.injEq, V.str.injEq, List.cons.injEq, reduceCtorEq, and_true, true_and, false_and, and_false, exists_false, or_false, false_or, or_true, true_or, exists_const, CMul, CDiv, CPow, and_assoc, exists_and_left, exists_and_right, Int.reducePow, Int.reduceNeg, Int.reduceLT, Int.reduceLE, Nat.reducePow, Nat.reduceLT, Int.reduceToNat, gt_iff_lt, ge_iff_le, decide_eq_true_eq, Bool.not_eq_true', decide_eq_false_iff_not, scal, ↓reduceIte, Bool.false_eq_true]
  exact ⟨hq.nf.ne, fun p hp kp => k.new hp kp⟩
def spLFracs (K : PySem.W.Frag) : Sp := fun vs H Q _ => ∃ (l : Addr) (xs : List V), vs = [.ref l] ∧ H l = some (.lst xs) ∧ K.lookup l = none ∧ (∀ x ∈ xs, ∃ a q, x = .ref a ∧ Fq K H 8000 a q) ∧ Q (.bl true) H
def FracsI (l : Addr) (H : Hp) (_ : Nat) (σ : L2.St) (H' : Hp) : Prop := ∃ y, σ = [some (.ref l), y] ∧ H' = H
def spLeaves (K : PySem.W.Frag) : Sp := fun vs H Q _ => ∃ (a b : Addr) (p q : Qt), vs = [.ref a, .ref b] ∧ Fq K H 8000 a p ∧ Fq K H 8000 b q ∧ Q (.bl (decide (q.2 = p.2) && decide ((p.1 - q.1) % p.2 = 0))) H
abbrev sLFracs : Stmt := topS 43
theorem scLFracs : FnScope ["_law_told", "_law_value"] ["_law_told"] (defScope sLFracs) := ⟨rfl, rfl, rfl, by decide +kernel, rfl, by decide +kernel, by decide +kernel⟩
theorem k_LFracs (T : Bt K mg) (D : Dfn K mg "_law_is_fracs" sLFracs ["_law_told"]) (d__law_is_frac : Kn P w K mg base 2 "_law_is_frac" ["_law_told"] (spLFrac K)) : Kn P w K mg base 3 "_law_is_fracs" ["_law_told"] (spLFracs K) := by
  refine Kn.mk' D scLFracs (fun vs H Q E h => ?_) (fun f cdv A outer s H vs Q E hr h => ?_)
  · obtain ⟨l, xs, rfl, _⟩ := h
    rfl
  obtain ⟨l, xs, rfl, hl, kl, hx, k⟩ := h
  refine ⟨_, (pss_cons (ps_if (pt_not (pt_val (pe_callB call_isN (by rfl) T.b_isinstance (by decide +kernel) (pa_cons (pv 0) (pa_cons (pe_bltn (v := .ty "list") (by rfl) T.b_list (by decide +kernel) rfl) pa_nil))))) (pss_one (ps_ret pe_bl)) pss_nil)
      (pss_cons (ps_for PassesOwn.never rfl (pi_list (pv 0)) (pg_name (i := 1) scLFracs.nd rfl (.inl rfl)) (pss_one (ps_if (pt_not (pt_val (pe_kn d__law_is_frac hr (by rfl) (pa_cons (pv 1) pa_nil)))) (pss_one (ps_ret pe_bl)) pss_nil)))
      (pss_one (ps_ret pe_bl)))), ?_⟩
  have o := (ob_none kl).trans hl
  simp only [o, cx_K, decide_true, decide_false, reduceCtorEq, gTp, gCons, gNil, ca_0, ca_1, ca_2, ca_3, ca_4, ca_5, ca_6, ca_7, ca_8, ca_9, ca_10, ca_11, ca_12, ca_13, ca_14, ca_15, ca_16, ca_17, ca_18, ca_19, ca_20, ca_21, ca_22, ca_23, ca_24, ca_25, ca_26, ca_27, ca_28, ca_29, ca_30, not_true_eq_false, not_false_eq_true, Int.reduceEq, Nat.reduceEqDiff, Nat.reduceLeDiff, rGcd, V.ty.injEq, eq_self, List.not_mem_nil, beq_self_eq_true, HO.lst.injEq, HO.tup.injEq, tFor_eq, iRng1, iList, iTup, nat10, tSeq, rIxA, rSetA, rIsN, rIsT, tTp, tLs, itsO_tup, itsO_lst, tyO_tup, tyO_lst, tyO_dK, tyN_non, tyN_bl, tyN_int, tyN_str, tyN_ref, tyNs_lt, isB, upd_same, upd_upd, sizeLine_eq, List.mem_cons, String.reduceBEq, String.reduceEq, Bool.or_false, Bool.or_true, Bool.and_false, Bool.false_or, Bool.and_self, Bool.false_and, Bool.not_false, Bool.not_true, List.any_cons, List.any_nil, atI_0, setI_0, atI_1, setI_1, atI_2, setI_2, atI_3, setI_3, atI_4, setI_4, atI_5, setI_5, atI_6, setI_6, tAsg, gName, tOp, tUn, tVar, tC, tCons, L2.tNil, tRet, tIfS, tTest, tCB, tCall, rI, rI0, rU, tNext, tB, tAnd, tOr, tNot, tAndV, tOrV, tNotV, tDrop, tIf, tPar, gSub, rIxL, rIxT, rEq, rNe, rSetL, tBits,
    L2.start, List.map_cons, List.map_nil, List.cons_append, List.nil_append, List.append_nil, List.length_cons, List.length_nil, List.replicate, Nat.reduceAdd, Nat.reduceSub, Nat.zero_add, List.getElem?_cons_zero, List.getElem?_cons_succ, List.set_cons_zero, List.set_cons_succ,
    Option.some.injEq, exists_eq_left', exists_eq_left, V.int.injEq, V.bl.injEq, V.ref.injEq, V.str.injEq, List.cons.injEq, reduceCtorEq, and_true, true_and, false_and, and_false, exists_false, or_false, false_or, or_true, true_or, exists_const, CMul, CDiv, CPow, and_assoc, exists_and_left, exists_and_right, Int.reducePow, Int.reduceNeg, Int.reduceLT, Int.reduceLE, Nat.reducePow, Nat.reduceLT, Int.reduceToNat, gt_iff_lt, ge_iff_le, decide_eq_true_eq, Bool.not_eq_true', decide_eq_false_iff_not, scal, ↓reduceIte, Bool.false_eq_true]
  refine ⟨⟨xs, .of hl⟩, forI_list (xs := xs) (FracsI l H) ⟨none, rfl, rfl⟩ ?_ ?_ ?_⟩
  · rintro i σ H' _ ⟨y, rfl, rfl⟩
    exact .of hl
  · rintro i x σ H' hi ⟨y, rfl, rfl⟩
    obtain ⟨a, q, rfl, hq⟩ := hx x (List.mem_of_getElem? hi)
    simp only [cx_K, decide_true, decide_false, reduceCtorEq, gTp, gCons, gNil, ca_0, ca_1, ca_2, ca_3, ca_4, ca_5, ca_6, ca_7, ca_8, ca_9, ca_10, ca_11, ca_12, ca_13, ca_14, ca_15, ca_16, ca_17, ca_18, ca_19, ca_20, ca_21, ca_22, ca_23, ca_24, ca_25, ca_26, ca_27, ca_28, ca_29, ca_30, not_true_eq_false, not_false_eq_true, Int.reduceEq, Nat.reduceEqDiff, Nat.reduceLeDiff, rGcd, V.ty.injEq, eq_self, List.not_mem_nil, beq_self_eq_true, HO.lst.injEq, HO.tup.injEq, tFor_eq, iRng1, iList, iTup, nat10, tSeq, rIxA, rSetA, rIsN, rIsT, tTp, tLs, itsO_tup, itsO_lst, tyO_tup, tyO_lst, tyO_dK, tyN_non, tyN_bl, tyN_int, tyN_str, tyN_ref, tyNs_lt, isB, upd_same, upd_upd, sizeLine_eq, List.mem_cons, String.reduceBEq, String.reduceEq, Bool.or_false, Bool.or_true, Bool.and_false, Bool.false_or, Bool.and_self, Bool.false_and, Bool.not_false, Bool.not_true, List.any_cons, List.any_nil, atI_0, setI_0, atI_1, setI_1, atI_2, setI_2, atI_3, setI_3, atI_4, setI_4, atI_5, setI_5, atI_6, setI_6, tAsg, gName, tOp, tUn, tVar, tC, tCons, L2.tNil, tRet, tIfS, tTest, tCB, tCall, rI, rI0, rU, tNext, tB, tAnd, tOr, tNot, tAndV, tOrV, tNotV, tDrop, tIf, tPar, gSub, rIxL, rIxT, rEq, rNe, rSetL, tBits,
    L2.start, List.map_cons, List.map_nil, List.cons_append, List.nil_append, List.append_nil, List.length_cons, List.length_nil, List.replicate, Nat.reduceAdd, Nat.reduceSub, Nat.zero_add, List.getElem?_cons_zero, List.getElem?_cons_succ, List.set_cons_zero, List.set_cons_succ,
    Option.some.injEq, exists_eq_left', exists_eq_left, V.int.injEq, V.bl.injEq, V.ref.injEq, V.str.injEq, List.cons.injEq, reduceCtorEq, and_true, true_and, false_and, and_false, exists_false, or_false, false_or, or_true, true_or, exists_const, CMul, CDiv, CPow, and_assoc, exists_and_left, exists_and_right, Int.reducePow, Int.reduceNeg, Int.reduceLT, Int.reduceLE, Nat.reducePow, Nat.reduceLT, Int.reduceToNat, gt_iff_lt, ge_iff_le, decide_eq_true_eq, Bool.not_eq_true', decide_eq_false_iff_not, scal, ↓reduceIte, Bool.false_eq_true]
    exact ⟨a, q, rfl, hq, true, rfl, _, rfl, rfl⟩
  · rintro σ H' ⟨y, rfl, rfl⟩
    simp only [cx_K, decide_true, decide_false, reduceCtorEq, gTp, gCons, gNil, ca_0, ca_1, ca_2, ca_3, ca_4, ca_5, ca_6, ca_7, ca_8, ca_9, ca_10, ca_11, ca_12, ca_13, ca_14, ca_15, ca_16, ca_17, ca_18, ca_19, ca_20, ca_21, ca_22, ca_23, ca_24, ca_25, ca_26, ca_27, ca_28, ca_29, ca_30, not_true_eq_false, not_false_eq_true, Int.reduceEq, Nat.reduceEqDiff, Nat.reduceLeDiff, rGcd, V.ty.injEq, eq_self, List.not_mem_nil, beq_self_eq_true, HO.lst.injEq, HO.tup.injEq, tFor_eq, iRng1, iList, iTup, nat10, tSeq, rIxA, rSetA, rIsN, rIsT, tTp, tLs, itsO_tup, itsO_lst, tyO_tup, tyO_lst, tyO_dK, tyN_non, tyN_bl, tyN_int, tyN_str, tyN_ref, tyNs_lt, isB, upd_same, upd_upd, sizeLine_eq, List.mem_cons, String.reduceBEq, String.reduceEq, Bool.or_false, Bool.or_true, Bool.and_false, Bool.false_or, Bool.and_self, Bool.false_and, Bool.not_false, Bool.not_true, List.any_cons, List.any_nil, atI_0, setI_0, atI_1, setI_1, atI_2, setI_2, atI_3, setI_3, atI_4, setI_4, atI_5, setI_5, atI_6, setI_6, tAsg, gName, tOp, tUn, tVar, tC, tCons, L2.tNil, tRet, tIfS, tTest, tCB, tCall, rI, rI0, rU, tNext, tB, tAnd, tOr, tNot, tAndV, tOrV, tNotV, tDrop, tIf, tPar, gSub, rIxL, rIxT, rEq, rNe, rSetL, tBits,
    L2.start, List.map_cons, List.map_nil, List.cons_append, List.nil_append, List.append_nil, List.length_cons, List.length_nil, List.replicate, Nat.reduceAdd, Nat.reduceSub, Nat.zero_add, List.getElem?_cons_zero, List.getElem?_cons_succ, List.set_cons_zero, List.set_cons_succ,
    Option.some.injEq, exists_eq_left', exists_eq_left, V.int.injEq, V.bl.injEq, V.ref.injEq, V.str.injEq, List.cons.injEq, reduceCtorEq, and_true, true_and, false_and, and_false, exists_false, or_false, false_or, or_true, true_or, exists_const, CMul, CDiv, CPow, and_assoc, exists_and_left, exists_and_right, Int.reducePow, Int.reduceNeg, Int.reduceLT, Int.reduceLE, Nat.reducePow, Nat.reduceLT, Int.reduceToNat, gt_iff_lt, ge_iff_le, decide_eq_true_eq, Bool.not_eq_true', decide_eq_false_iff_not, scal, ↓reduceIte, Bool.false_eq_true]
    exact k
abbrev sLMinus : Stmt := topS 39
theorem scLMinus : FnScope ["_law_left", "_law_right"] ["_law_left", "_law_right"] (defScope sLMinus) := ⟨rfl, rfl, rfl, by decide +kernel, rfl, by decide +kernel, by decide +kernel⟩
theorem k_LMinus (T : Bt K mg) (D : Dfn K mg "_law_minus" sLMinus ["_law_left", "_law_right"]) (d__law_lowest : Kn P w K mg base 2 "_law_lowest" ["_law_top", "_law_bottom"] (spLowest K)) : Kn P w K mg base 3 "_law_minus" ["_law_left", "_law_right"] (spBin K dif2) := by
  refine Kn.mk' D scLMinus (fun vs H Q E h => ?_) (fun f cdv A outer s H vs Q E hr h => ?_)
  · obtain ⟨a, b, p, q, rfl, _⟩ := h
    rfl
  obtain ⟨a, b, p, q, rfl, hp, hq, k⟩ := h
  refine ⟨_, (pss_one (ps_ret (pe_kn d__law_lowest hr (by rfl) (pa_cons (pe_op op_sub (pe_op op_mulW (pe_ix ix_any (pv 0) pe_int (fun _ _ => rfl)) (pe_ix ix_any (pv 1) pe_int (fun _ _ => rfl))) (pe_op op_mulW (pe_ix ix_any (pv 1) pe_int (fun _ _ => rfl)) (pe_ix ix_any (pv 0) pe_int (fun _ _ => rfl)))) (pa_cons (pe_op op_mulW (pe_ix ix_any (pv 0) pe_int (fun _ _ => rfl)) (pe_ix ix_any (pv 1) pe_int (fun _ _ => rfl))) pa_nil))))), ?_⟩
  simp only [hp.o, hq.o, cx_K, decide_true, decide_false, reduceCtorEq, gTp, gCons, gNil, ca_0, ca_1, ca_2, ca_3, ca_4, ca_5, ca_6, ca_7, ca_8, ca_9, ca_10, ca_11, ca_12, ca_13, ca_14, ca_15, ca_16, ca_17, ca_18, ca_19, ca_20, ca_21, ca_22, ca_23, ca_24, ca_25, ca_26, ca_27, ca_28, ca_29, ca_30, not_true_eq_false, not_false_eq_true, Int.reduceEq, Nat.reduceEqDiff, Nat.reduceLeDiff, rGcd, V.ty.injEq, eq_self, List.not_mem_nil, beq_self_eq_true, HO.lst.injEq, HO.tup.injEq, tFor_eq, iRng1, iList, iTup, nat10, tSeq, rIxA, rSetA, rIsN, rIsT, tTp, tLs, itsO_tup, itsO_lst, tyO_tup, tyO_lst, tyO_dK, tyN_non, tyN_bl, tyN_int, tyN_str, tyN_ref, tyNs_lt, isB, upd_same, upd_upd, sizeLine_eq, List.mem_cons, String.reduceBEq, String.reduceEq, Bool.or_false, Bool.or_true, Bool.and_false, Bool.false_or, Bool.and_self, Bool.false_and, Bool.not_false, Bool.not_true, List.any_cons, List.any_nil, atI_0, setI_0, atI_1, setI_1, atI_2, setI_2, atI_3, setI_3, atI_4, setI_4, atI_5, setI_5, atI_6, setI_6, tAsg, gName, tOp, tUn, tVar, tC, tCons, L2.tNil, tRet, tIfS, tTest, tCB, tCall, rI, rI0, rU, tNext, tB, tAnd, tOr, tNot, tAndV, tOrV, tNotV, tDrop, tIf, tPar, gSub, rIxL, rIxT, rEq, rNe, rSetL, tBits,
    L2.start, List.map_cons, List.map_nil, List.cons_append, List.nil_append, List.append_nil, List.length_cons, List.length_nil, List.replicate, Nat.reduceAdd, Nat.reduceSub, Nat.zero_add, List.getElem?_cons_zero, List.getElem?_cons_succ, List.set_cons_zero, List.set_cons_succ,
    Option.some.injEq, exists_eq_left', exists_eq_left, V.int.injEq, V.bl.injEq, V.ref.injEq, V.str.injEq, List.cons.injEq, reduceCtorEq, and_true, true_and, false_and, and_false, exists_false, or_false, false_or, or_true, true_or, exists_const, CMul, CDiv, CPow, and_assoc, exists_and_left, exists_and_right, Int.reducePow, Int.reduceNeg, Int.reduceLT, Int.reduceLE, Nat.reducePow, Nat.reduceLT, Int.reduceToNat, gt_iff_lt, ge_iff_le, decide_eq_true_eq, Bool.not_eq_true', decide_eq_false_iff_not, scal, ↓reduceIte, Bool.false_eq_true]
  exact ⟨mulW hp.sz.1 hq.sz.2 (by omega), mulW hq.sz.1 hp.sz.2 (by omega), mulW hp.sz.2 hq.sz.2 (by omega), _, _, rfl, szMono (szMul hp.sz.2 hq.sz.2) (by omega), fun z hz => k z (hz.2 (mul_ne hp.nf.1 hq.nf.1))⟩
abbrev sLTimes : Stmt := topS 40
theorem scLTimes : FnScope ["_law_left", "_law_right"] ["_law_left", "_law_right"] (defScope sLTimes) := ⟨rfl, rfl, rfl, by decide +kernel, rfl, by decide +kernel, by decide +kernel⟩
theorem k_LTimes (T : Bt K mg) (D : Dfn K mg "_law_times" sLTimes ["_law_left", "_law_right"]) (d__law_lowest : Kn P w K mg base 2 "_law_lowest" ["_law_top", "_law_bottom"] (spLowest K)) : Kn P w K mg base 3 "_law_times" ["_law_left", "_law_right"] (spBin K pro2) := by
  refine Kn.mk' D scLTimes (fun vs H Q E h => ?_) (fun f cdv A outer s H vs Q E hr h => ?_)
  · obtain ⟨a, b, p, q, rfl, _⟩ := h
    rfl
  obtain ⟨a, b, p, q, rfl, hp, hq, k⟩ := h
  refine ⟨_, (pss_one (ps_ret (pe_kn d__law_lowest hr (by rfl) (pa_cons (pe_op op_mulW (pe_ix ix_any (pv 0) pe_int (fun _ _ => rfl)) (pe_ix ix_any (pv 1) pe_int (fun _ _ => rfl))) (pa_cons (pe_op op_mulW (pe_ix ix_any (pv 0) pe_int (fun _ _ => rfl)) (pe_ix ix_any (pv 1) pe_int (fun _ _ => rfl))) pa_nil))))), ?_⟩
  simp only [hp.o, hq.o, cx_K, decide_true, decide_false, reduceCtorEq, gTp, gCons, gNil, ca_0, ca_1, ca_2, ca_3, ca_4, ca_5, ca_6, ca_7, ca_8, ca_9, ca_10, ca_11, ca_12, ca_13, ca_14, ca_15, ca_16, ca_17, ca_18, ca_19, ca_20, ca_21, ca_22, ca_23, ca_24, ca_25, ca_26, ca_27, ca_28, ca_29, ca_30, not_true_eq_false, not_false_eq_true, Int.reduceEq, Nat.reduceEqDiff, Nat.reduceLeDiff, rGcd, V.ty.injEq, eq_self, List.not_mem_nil, beq_self_eq_true, HO.lst.injEq, HO.tup.injEq, tFor_eq, iRng1, iList, iTup, nat10, tSeq, rIxA, rSetA, rIsN, rIsT, tTp, tLs, itsO_tup, itsO_lst, tyO_tup, tyO_lst, tyO_dK, tyN_non, tyN_bl, tyN_int, tyN_str, tyN_ref, tyNs_lt, isB, upd_same, upd_upd, sizeLine_eq, List.mem_cons, String.reduceBEq, String.reduceEq, Bool.or_false, Bool.or_true, Bool.and_false, Bool.false_or, Bool.and_self, Bool.false_and, Bool.not_false, Bool.not_true, List.any_cons, List.any_nil, atI_0, setI_0, atI_1, setI_1, atI_2, setI_2, atI_3, setI_3, atI_4, setI_4, atI_5, setI_5, atI_6, setI_6, tAsg, gName, tOp, tUn, tVar, tC, tCons, L2.tNil, tRet, tIfS, tTest, tCB, tCall, rI, rI0, rU, tNext, tB, tAnd, tOr, tNot, tAndV, tOrV, tNotV, tDrop, tIf, tPar, gSub, rIxL, rIxT, rEq, rNe, rSetL, tBits,
    L2.start, List.map_cons, List.map_nil, List.cons_append, List.nil_append, List.append_nil, List.length_cons, List.length_nil, List.replicate, Nat.reduceAdd, Nat.reduceSub, Nat.zero_add, List.getElem?_cons_zero, List.getElem?_cons_succ, List.set_cons_zero, List.set_cons_succ,
    Option.some.injEq, exists_eq_left', exists_eq_left, V.int.injEq, V.bl.injEq, V.ref.injEq, V.str.injEq, List.cons.injEq, reduceCtorEq, and_true, true_and, false_and, and_false, exists_false, or_false, false_or, or_true, true_or, exists_const, CMul, CDiv, CPow, and_assoc, exists_and_left, exists_and_right, Int.reducePow, Int.reduceNeg, Int.reduceLT, Int.reduceLE, Nat.reducePow, Nat.reduceLT, Int.reduceToNat, gt_iff_lt, ge_iff_le, decide_eq_true_eq, Bool.not_eq_true', decide_eq_false_iff_not, scal, ↓reduceIte, Bool.false_eq_true]
  exact ⟨mulW hp.sz.1 hq.sz.1 (by omega), mulW hp.sz.2 hq.sz.2 (by omega), _, _, rfl, szMono (szMul hp.sz.2 hq.sz.2) (by omega), fun z hz => k z (hz.2 (mul_ne hp.nf.1 hq.nf.1))⟩
theorem frOk_inv {H : Hp} {v : V} (h : frOk K H v = true) : ∃ a q, v = .ref a ∧ ob K H a = some (.tup [.int q.1, .int q.2]) ∧ Nf q := by
  cases v with
  | ref a =>
    simp only [frOk] at h
    split at h
    · rename_i n d hz
      simp only [Bool.and_eq_true, decide_eq_true_eq] at h
      exact ⟨_, (n, d), rfl, hz, h.1, h.2⟩
    · cases h
  | _ => cases h
/-- a place: a fraction of 0 or more, less than 1 -/
def plOk (K : PySem.W.Frag) (H : Hp) (v : V) : Bool := frOk K H v && match v with
  | .ref a => match ob K H a with
    | some (.tup [.int n, .int d]) => decide (0 ≤ n) && decide (n < d)
    | _ => false
  | _ => false
theorem plOk_no {H : Hp} {v : V} (h : frOk K H v = false) : plOk K H v = false := by unfold plOk; rw [h]; rfl
theorem plOk_fr {H : Hp} {a : Addr} {q : Qt} (h : ob K H a = some (.tup [.int q.1, .int q.2])) (hn : Nf q) : plOk K H (.ref a) = (decide (0 ≤ q.1) && decide (q.1 < q.2)) := by
  have e := frOk_fr (K := K) h hn
  unfold plOk
  rw [e]
  simp only [h, Bool.true_and]
def spIsPlace (K : PySem.W.Frag) : Sp := fun vs H Q _ => ∃ v, vs = [v] ∧ Tyd K H v ∧ Q (.bl (plOk K H v)) H
abbrev sIsPlace : Stmt := topS 15
theorem scIsPlace : FnScope ["value"] ["value"] (defScope sIsPlace) := ⟨rfl, rfl, rfl, by decide +kernel, rfl, by decide +kernel, by decide +kernel⟩
theorem k_IsPlace (T : Bt K mg) (D : Dfn K mg "is_place" sIsPlace ["value"]) (d_is_fraction : Kn P w K mg base 2 "is_fraction" ["value"] (spIsFraction K)) : Kn P w K mg base 3 "is_place" ["value"] (spIsPlace K) := by
  refine Kn.mk' D scIsPlace (fun vs H Q E h => ?_) (fun f cdv A outer s H vs Q E hr h => ?_)
  · obtain ⟨v, rfl, _⟩ := h
    rfl
  obtain ⟨v, rfl, hv, q⟩ := h
  refine ⟨_, (pss_one (ps_ret (pe_and (pe_kn d_is_fraction hr (by rfl) (pa_cons (pv 0) pa_nil)) (pe_one (pe_chain op_le op_lt pe_int (pe_ix ix_any (pv 0) pe_int (fun _ _ => rfl)) (pe_ix ix_any (pv 0) pe_int (fun _ _ => rfl))))))), ?_⟩
  refine ⟨_, rfl, v, rfl, hv, ?_⟩
  cases e : frOk K H v with
  | false =>
    rw [plOk_no e] at q
    exact ⟨false, rfl, q⟩
  | true =>
    obtain ⟨a, z, rfl, ho, hn⟩ := frOk_inv e
    rw [plOk_fr ho hn] at q
    refine ⟨true, rfl, ?_⟩
    rw [if_pos rfl]
    simp only [ho, tChain, cx_K, decide_true, decide_false, reduceCtorEq, gTp, gCons, gNil, ca_0, ca_1, ca_2, ca_3, ca_4, ca_5, ca_6, ca_7, ca_8, ca_9, ca_10, ca_11, ca_12, ca_13, ca_14, ca_15, ca_16, ca_17, ca_18, ca_19, ca_20, ca_21, ca_22, ca_23, ca_24, ca_25, ca_26, ca_27, ca_28, ca_29, ca_30, not_true_eq_false, not_false_eq_true, Int.reduceEq, Nat.reduceEqDiff, Nat.reduceLeDiff, rGcd, V.ty.injEq, eq_self, List.not_mem_nil, beq_self_eq_true, HO.lst.injEq, HO.tup.injEq, tFor_eq, iRng1, iList, iTup, nat10, tSeq, rIxA, rSetA, rIsN, rIsT, tTp, tLs, itsO_tup, itsO_lst, tyO_tup, tyO_lst, tyO_dK, tyN_non, tyN_bl, tyN_int, tyN_str, tyN_ref, tyNs_lt, isB, upd_same, upd_upd, sizeLine_eq, List.mem_cons, String.reduceBEq, String.reduceEq, Bool.or_false, Bool.or_true, Bool.and_false, Bool.false_or, Bool.and_self, Bool.false_and, Bool.not_false, Bool.not_true, List.any_cons, List.any_nil, atI_0, setI_0, atI_1, setI_1, atI_2, setI_2, atI_3, setI_3, atI_4, setI_4, atI_5, setI_5, atI_6, setI_6, tAsg, gName, tOp, tUn, tVar, tC, tCons, L2.tNil, tRet, tIfS, tTest, tCB, tCall, rI, rI0, rU, tNext, tB, tAnd, tOr, tNot, tAndV, tOrV, tNotV, tDrop, tIf, tPar, gSub, rIxL, rIxT, rEq, rNe, rSetL, tBits,
    L2.start, List.map_cons, List.map_nil, List.cons_append, List.nil_append, List.append_nil, List.length_cons, List.length_nil, List.replicate, Nat.reduceAdd, Nat.reduceSub, Nat.zero_add, List.getElem?_cons_zero, List.getElem?_cons_succ, List.set_cons_zero, List.set_cons_succ,
    Option.some.injEq, exists_eq_left', exists_eq_left, V.int.injEq, V.bl.injEq, V.ref.injEq, V.str.injEq, List.cons.injEq, reduceCtorEq, and_true, true_and, false_and, and_false, exists_false, or_false, false_or, or_true, true_or, exists_const, CMul, CDiv, CPow, and_assoc, exists_and_left, exists_and_right, Int.reducePow, Int.reduceNeg, Int.reduceLT, Int.reduceLE, Nat.reducePow, Nat.reduceLT, Int.reduceToNat, gt_iff_lt, ge_iff_le, decide_eq_true_eq, Bool.not_eq_true', decide_eq_false_iff_not, scal, ↓reduceIte, Bool.false_eq_true]
    refine ite2 (fun h => ?_) (fun h => ?_)
    · rw [decide_eq_true h, Bool.true_and] at q
      exact q
    · rw [decide_eq_false h, Bool.false_and] at q
      exact q
def spLPlace (K : PySem.W.Frag) : Sp := fun vs H Q _ => ∃ (a : Addr) (q : Qt), vs = [.ref a] ∧ Fq K H 8000 a q ∧ 0 ≤ q.1 ∧ q.1 < q.2 ∧ Q (.bl true) H
end
end My

namespace My
open PySem PySem.Spec PyProof.Rows L2
section
variable {P : Program} {w : World} {K : PySem.W.Frag} {mg : Str → Option Value} {base : Heap}
/-- an int that the draws gave; all but the store stands -/
def spPick (K : PySem.W.Frag) : Sp := fun vs H Q _ => ∃ (s r : Addr) (xs : List V), vs = [.ref s, .ref r] ∧ Sto K H s ∧ H r = some (.lst xs) ∧ s ≠ r ∧ 0 < xs.length ∧ xs.length < 1000 ∧ ∀ x H', x ∈ xs → Kp s H H' → Sto K H' s → Q x H'
theorem at_mem {α : Type} {xs : List α} {i : Int} (h0 : 0 ≤ i) (h : i < (xs.length : Int)) : ∃ v ∈ xs, atI xs i = some v := by
  have hk : i.toNat < xs.length := by omega
  have q : atI xs ((i.toNat : Nat) : Int) = some xs[i.toNat] := atI_nat (List.getElem?_eq_getElem hk)
  rw [show ((i.toNat : Nat) : Int) = i by omega] at q
  exact ⟨_, List.getElem_mem hk, q⟩
theorem Sto.at {H : Hp} {s : Addr} (h : Sto K H s) : ∃ ys, H s = some (.lst ys) := by
  obtain ⟨sc, ns, i, b, c, d, e, f, h⟩ := h
  exact ⟨_, h.1⟩
theorem Kp.at {s : Addr} {H H' : Hp} {r : Addr} {o : HO} (e : Kp s H H') (n : s ≠ r) (h : H r = some o) : H' r = some o := e _ _ (Ne.symm n) h
abbrev sPick : Stmt := topS 33
theorem scPick : FnScope ["_law_store_here", "_law_row"] ["_law_store_here", "_law_row"] (defScope sPick) := ⟨rfl, rfl, rfl, by decide +kernel, rfl, by decide +kernel, by decide +kernel⟩
theorem k_Pick (T : Bt K mg) (D : Dfn K mg "_law_pick" sPick ["_law_store_here", "_law_row"]) (d__law_take : Kn P w K mg base 2 "_law_take" ["_law_store_here", "_law_many"] (spTake K)) : Kn P w K mg base 3 "_law_pick" ["_law_store_here", "_law_row"] (spPick K) := by
  refine Kn.mk' D scPick (fun vs H Q E h => ?_) (fun f cdv A outer s H vs Q E hr h => ?_)
  · obtain ⟨s, r, xs, rfl, _⟩ := h
    rfl
  obtain ⟨s, r, xs, rfl, hS, hr', ne, hl0, hl1, k⟩ := h
  refine ⟨_, (pss_one (ps_ret (pe_ix ix_list (pv 1) (pe_kn d__law_take hr (by rfl) (pa_cons (pv 0) (pa_cons (pe_callB call_len_seq (by rfl) T.b_len PySem.boot_len (pa_cons (pv 1) pa_nil)) pa_nil))) (fun _ _ => rfl)))), ?_⟩
  simp only [cx_K, decide_true, decide_false, reduceCtorEq, gTp, gCons, gNil, ca_0, ca_1, ca_2, ca_3, ca_4, ca_5, ca_6, ca_7, ca_8, ca_9, ca_10, ca_11, ca_12, ca_13, ca_14, ca_15, ca_16, ca_17, ca_18, ca_19, ca_20, ca_21, ca_22, ca_23, ca_24, ca_25, ca_26, ca_27, ca_28, ca_29, ca_30, not_true_eq_false, not_false_eq_true, Int.reduceEq, Nat.reduceEqDiff, Nat.reduceLeDiff, rGcd, V.ty.injEq, eq_self, List.not_mem_nil, beq_self_eq_true, HO.lst.injEq, HO.tup.injEq, tFor_eq, iRng1, iList, iTup, nat10, tSeq, rIxA, rSetA, rIsN, rIsT, tTp, tLs, itsO_tup, itsO_lst, tyO_tup, tyO_lst, tyO_dK, tyN_non, tyN_bl, tyN_int, tyN_str, tyN_ref, tyNs_lt, isB, upd_same, upd_upd, sizeLine_eq, List.mem_cons, String.reduceBEq, String.reduceEq, Bool.or_false, Bool.or_true, Bool.and_false, Bool.false_or, Bool.and_self, Bool.false_and, Bool.not_false, Bool.not_true, List.any_cons, List.any_nil, atI_0, setI_0, atI_1, setI_1, atI_2, setI_2, atI_3, setI_3, atI_4, setI_4, atI_5, setI_5, atI_6, setI_6, tAsg, gName, tOp, tUn, tVar, tC, tCons, L2.tNil, tRet, tIfS, tTest, tCB, tCall, rI, rI0, rU, tNext, tB, tAnd, tOr, tNot, tAndV, tOrV, tNotV, tDrop, tIf, tPar, gSub, rIxL, rIxT, rEq, rNe, rSetL, tBits,
    L2.start, List.map_cons, List.map_nil, List.cons_append, List.nil_append, List.append_nil, List.length_cons, List.length_nil, List.replicate, Nat.reduceAdd, Nat.reduceSub, Nat.zero_add, List.getElem?_cons_zero, List.getElem?_cons_succ, List.set_cons_zero, List.set_cons_succ,
    Option.some.injEq, exists_eq_left', exists_eq_left, V.int.injEq, V.bl.injEq, V.ref.injEq, V.str.injEq, List.cons.injEq, reduceCtorEq, and_true, true_and, false_and, and_false, exists_false, or_false, false_or, or_true, true_or, exists_const, CMul, CDiv, CPow, and_assoc, exists_and_left, exists_and_right, Int.reducePow, Int.reduceNeg, Int.reduceLT, Int.reduceLE, Nat.reducePow, Nat.reduceLT, Int.reduceToNat, gt_iff_lt, ge_iff_le, decide_eq_true_eq, Bool.not_eq_true', decide_eq_false_iff_not, scal, ↓reduceIte, Bool.false_eq_true]
  refine ⟨xs, .inl (.of hr'), s, _, rfl, hS, by omega, fun i H' h0 h1 kp st => ?_⟩
  obtain ⟨v, hv, e⟩ := at_mem (xs := xs) (i := i) h0 (by omega)
  exact ⟨xs, i, rfl, .of (kp.at ne hr'), v, e, k v H' hv kp st⟩
def spInt (K : PySem.W.Frag) (R : Int → Prop) : Sp := fun vs H Q _ => ∃ (s : Addr), vs = [.ref s] ∧ Sto K H s ∧ ∀ n H', R n → Kp s H H' → Sto K H' s → Q (.int n) H'
def spLInt (K : PySem.W.Frag) : Sp := fun vs H Q _ => ∃ (s : Addr) (r : Int), vs = [.ref s, .int r] ∧ Sto K H s ∧ 1 ≤ r ∧ r < 2 ^ 190 ∧ ∀ n H', -r ≤ n → n ≤ r → Kp s H H' → Sto K H' s → Q (.int n) H'
theorem menu {xs : List V} {i : Int} {R : V → Prop} (h0 : 0 ≤ i) (h : i < (xs.length : Int)) (k : ∀ v ∈ xs, R v) : ∃ v, atI xs i = some v ∧ R v := by
  obtain ⟨v, hv, e⟩ := at_mem h0 h
  exact ⟨v, e, k v hv⟩
abbrev sLInt : Stmt := topS 46
theorem scLInt : FnScope ["_law_store_here", "_law_reach", "_law_spot"] ["_law_store_here", "_law_reach"] (defScope sLInt) := ⟨rfl, rfl, rfl, by decide +kernel, rfl, by decide +kernel, by decide +kernel⟩
theorem k_LInt (T : Bt K mg) (D : Dfn K mg "_law_whole" sLInt ["_law_store_here", "_law_reach"]) (d__law_take : Kn P w K mg base 2 "_law_take" ["_law_store_here", "_law_many"] (spTake K)) : Kn P w K mg base 3 "_law_whole" ["_law_store_here", "_law_reach"] (spLInt K) := by
  refine Kn.mk' D scLInt (fun vs H Q E h => ?_) (fun f cdv A outer s H vs Q E hr h => ?_)
  · obtain ⟨s, r, rfl, _⟩ := h
    rfl
  obtain ⟨s, r, rfl, hS, hr1, hr2, k⟩ := h
  refine ⟨_, (pss_cons (ps_set (i := 2) scLInt.nd rfl (.inl rfl) (pe_kn d__law_take hr (by rfl) (pa_cons (pv 0) (pa_cons pe_int pa_nil))))
      (pss_cons (ps_if (pt_cmpR op_lt (pv 2) pe_int (nomark _)) (pss_one (ps_ret (pe_ix ix_any (pe_ls (pa_cons pe_int (pa_cons (pe_callB (call_min2 rfl) (by rfl) T.b_min (by decide +kernel) (pa_cons pe_int (pa_cons (pv 1) pa_nil))) (pa_cons (pe_un un_neg (pe_callB (call_min2 rfl) (by rfl) T.b_min (by decide +kernel) (pa_cons pe_int (pa_cons (pv 1) pa_nil)))) (pa_cons (pv 1) (pa_cons (pe_un un_neg (pv 1)) pa_nil)))))) (pv 2) (fun _ _ => rfl)))) pss_nil)
      (pss_one (ps_ret (pe_op op_sub (pe_kn d__law_take hr (by rfl) (pa_cons (pv 0) (pa_cons (pe_op op_add (pe_op op_mul pe_int (pv 1)) pe_int) pa_nil))) (pv 1)))))), ?_⟩
  simp only [cx_K, decide_true, decide_false, reduceCtorEq, gTp, gCons, gNil, ca_0, ca_1, ca_2, ca_3, ca_4, ca_5, ca_6, ca_7, ca_8, ca_9, ca_10, ca_11, ca_12, ca_13, ca_14, ca_15, ca_16, ca_17, ca_18, ca_19, ca_20, ca_21, ca_22, ca_23, ca_24, ca_25, ca_26, ca_27, ca_28, ca_29, ca_30, not_true_eq_false, not_false_eq_true, Int.reduceEq, Nat.reduceEqDiff, Nat.reduceLeDiff, rGcd, V.ty.injEq, eq_self, List.not_mem_nil, beq_self_eq_true, HO.lst.injEq, HO.tup.injEq, tFor_eq, iRng1, iList, iTup, nat10, tSeq, rIxA, rSetA, rIsN, rIsT, tTp, tLs, itsO_tup, itsO_lst, tyO_tup, tyO_lst, tyO_dK, tyN_non, tyN_bl, tyN_int, tyN_str, tyN_ref, tyNs_lt, isB, upd_same, upd_upd, sizeLine_eq, List.mem_cons, String.reduceBEq, String.reduceEq, Bool.or_false, Bool.or_true, Bool.and_false, Bool.false_or, Bool.and_self, Bool.false_and, Bool.not_false, Bool.not_true, List.any_cons, List.any_nil, atI_0, setI_0, atI_1, setI_1, atI_2, setI_2, atI_3, setI_3, atI_4, setI_4, atI_5, setI_5, atI_6, setI_6, tAsg, gName, tOp, tUn, tVar, tC, tCons, L2.tNil, tRet, tIfS, tTest, tCB, tCall, rI, rI0, rU, tNext, tB, tAnd, tOr, tNot, tAndV, tOrV, tNotV, tDrop, tIf, tPar, gSub, rIxL, rIxT, rEq, rNe, rSetL, tBits,
    L2.start, List.map_cons, List.map_nil, List.cons_append, List.nil_append, List.append_nil, List.length_cons, List.length_nil, List.replicate, Nat.reduceAdd, Nat.reduceSub, Nat.zero_add, List.getElem?_cons_zero, List.getElem?_cons_succ, List.set_cons_zero, List.set_cons_succ,
    Option.some.injEq, exists_eq_left', exists_eq_left, V.int.injEq, V.bl.injEq, V.ref.injEq, V.str.injEq, List.cons.injEq, reduceCtorEq, and_true, true_and, false_and, and_false, exists_false, or_false, false_or, or_true, true_or, exists_const, CMul, CDiv, CPow, and_assoc, exists_and_left, exists_and_right, Int.reducePow, Int.reduceNeg, Int.reduceLT, Int.reduceLE, Nat.reducePow, Nat.reduceLT, Int.reduceToNat, gt_iff_lt, ge_iff_le, decide_eq_true_eq, Bool.not_eq_true', decide_eq_false_iff_not, scal, ↓reduceIte, Bool.false_eq_true]
  refine ⟨s, 12, rfl, hS, by omega, fun i H1 h0 h1 kp st => ?_⟩
  simp only [cx_K, decide_true, decide_false, reduceCtorEq, gTp, gCons, gNil, ca_0, ca_1, ca_2, ca_3, ca_4, ca_5, ca_6, ca_7, ca_8, ca_9, ca_10, ca_11, ca_12, ca_13, ca_14, ca_15, ca_16, ca_17, ca_18, ca_19, ca_20, ca_21, ca_22, ca_23, ca_24, ca_25, ca_26, ca_27, ca_28, ca_29, ca_30, not_true_eq_false, not_false_eq_true, Int.reduceEq, Nat.reduceEqDiff, Nat.reduceLeDiff, rGcd, V.ty.injEq, eq_self, List.not_mem_nil, beq_self_eq_true, HO.lst.injEq, HO.tup.injEq, tFor_eq, iRng1, iList, iTup, nat10, tSeq, rIxA, rSetA, rIsN, rIsT, tTp, tLs, itsO_tup, itsO_lst, tyO_tup, tyO_lst, tyO_dK, tyN_non, tyN_bl, tyN_int, tyN_str, tyN_ref, tyNs_lt, isB, upd_same, upd_upd, sizeLine_eq, List.mem_cons, String.reduceBEq, String.reduceEq, Bool.or_false, Bool.or_true, Bool.and_false, Bool.false_or, Bool.and_self, Bool.false_and, Bool.not_false, Bool.not_true, List.any_cons, List.any_nil, atI_0, setI_0, atI_1, setI_1, atI_2, setI_2, atI_3, setI_3, atI_4, setI_4, atI_5, setI_5, atI_6, setI_6, tAsg, gName, tOp, tUn, tVar, tC, tCons, L2.tNil, tRet, tIfS, tTest, tCB, tCall, rI, rI0, rU, tNext, tB, tAnd, tOr, tNot, tAndV, tOrV, tNotV, tDrop, tIf, tPar, gSub, rIxL, rIxT, rEq, rNe, rSetL, tBits,
    L2.start, List.map_cons, List.map_nil, List.cons_append, List.nil_append, List.append_nil, List.length_cons, List.length_nil, List.replicate, Nat.reduceAdd, Nat.reduceSub, Nat.zero_add, List.getElem?_cons_zero, List.getElem?_cons_succ, List.set_cons_zero, List.set_cons_succ,
    Option.some.injEq, exists_eq_left', exists_eq_left, V.int.injEq, V.bl.injEq, V.ref.injEq, V.str.injEq, List.cons.injEq, reduceCtorEq, and_true, true_and, false_and, and_false, exists_false, or_false, false_or, or_true, true_or, exists_const, CMul, CDiv, CPow, and_assoc, exists_and_left, exists_and_right, Int.reducePow, Int.reduceNeg, Int.reduceLT, Int.reduceLE, Nat.reducePow, Nat.reduceLT, Int.reduceToNat, gt_iff_lt, ge_iff_le, decide_eq_true_eq, Bool.not_eq_true', decide_eq_false_iff_not, scal, ↓reduceIte, Bool.false_eq_true]
  refine ite2 (fun h => ?_) (fun h => ?_)
  · intro p hp kp'
    rw [ob_new kp']
    simp only [cx_K, decide_true, decide_false, reduceCtorEq, gTp, gCons, gNil, ca_0, ca_1, ca_2, ca_3, ca_4, ca_5, ca_6, ca_7, ca_8, ca_9, ca_10, ca_11, ca_12, ca_13, ca_14, ca_15, ca_16, ca_17, ca_18, ca_19, ca_20, ca_21, ca_22, ca_23, ca_24, ca_25, ca_26, ca_27, ca_28, ca_29, ca_30, not_true_eq_false, not_false_eq_true, Int.reduceEq, Nat.reduceEqDiff, Nat.reduceLeDiff, rGcd, V.ty.injEq, eq_self, List.not_mem_nil, beq_self_eq_true, HO.lst.injEq, HO.tup.injEq, tFor_eq, iRng1, iList, iTup, nat10, tSeq, rIxA, rSetA, rIsN, rIsT, tTp, tLs, itsO_tup, itsO_lst, tyO_tup, tyO_lst, tyO_dK, tyN_non, tyN_bl, tyN_int, tyN_str, tyN_ref, tyNs_lt, isB, upd_same, upd_upd, sizeLine_eq, List.mem_cons, String.reduceBEq, String.reduceEq, Bool.or_false, Bool.or_true, Bool.and_false, Bool.false_or, Bool.and_self, Bool.false_and, Bool.not_false, Bool.not_true, List.any_cons, List.any_nil, atI_0, setI_0, atI_1, setI_1, atI_2, setI_2, atI_3, setI_3, atI_4, setI_4, atI_5, setI_5, atI_6, setI_6, tAsg, gName, tOp, tUn, tVar, tC, tCons, L2.tNil, tRet, tIfS, tTest, tCB, tCall, rI, rI0, rU, tNext, tB, tAnd, tOr, tNot, tAndV, tOrV, tNotV, tDrop, tIf, tPar, gSub, rIxL, rIxT, rEq, rNe, rSetL, tBits,
    L2.start, List.map_cons, List.map_nil, List.cons_append, List.nil_append, List.append_nil, List.length_cons, List.length_nil, List.replicate, Nat.reduceAdd, Nat.reduceSub, Nat.zero_add, List.getElem?_cons_zero, List.getElem?_cons_succ, List.set_cons_zero, List.set_cons_succ,
    Option.some.injEq, exists_eq_left', exists_eq_left, V.int.injEq, V.bl.injEq, V.ref.injEq, V.str.injEq, List.cons.injEq, reduceCtorEq, and_true, true_and, false_and, and_false, exists_false, or_false, false_or, or_true, true_or, exists_const, CMul, CDiv, CPow, and_assoc, exists_and_left, exists_and_right, Int.reducePow, Int.reduceNeg, Int.reduceLT, Int.reduceLE, Nat.reducePow, Nat.reduceLT, Int.reduceToNat, gt_iff_lt, ge_iff_le, decide_eq_true_eq, Bool.not_eq_true', decide_eq_false_iff_not, scal, ↓reduceIte, Bool.false_eq_true]
    refine menu h0 (by simpa using h) fun v hv => ?_
    rw [if_neg (show ¬ r < 1 by omega)] at hv ⊢
    simp only [List.mem_cons, List.not_mem_nil, or_false] at hv
    rcases hv with rfl | rfl | rfl | rfl | rfl <;> exact k _ _ (by omega) (by omega) (kp.trans (Kp.same (Same.new hp _))) (st.same (Same.new hp _))
  · refine ⟨s, _, rfl, st, by omega, fun j H2 h0' h1' kp2 st2 => ?_⟩
    simp only [cx_K, decide_true, decide_false, reduceCtorEq, gTp, gCons, gNil, ca_0, ca_1, ca_2, ca_3, ca_4, ca_5, ca_6, ca_7, ca_8, ca_9, ca_10, ca_11, ca_12, ca_13, ca_14, ca_15, ca_16, ca_17, ca_18, ca_19, ca_20, ca_21, ca_22, ca_23, ca_24, ca_25, ca_26, ca_27, ca_28, ca_29, ca_30, not_true_eq_false, not_false_eq_true, Int.reduceEq, Nat.reduceEqDiff, Nat.reduceLeDiff, rGcd, V.ty.injEq, eq_self, List.not_mem_nil, beq_self_eq_true, HO.lst.injEq, HO.tup.injEq, tFor_eq, iRng1, iList, iTup, nat10, tSeq, rIxA, rSetA, rIsN, rIsT, tTp, tLs, itsO_tup, itsO_lst, tyO_tup, tyO_lst, tyO_dK, tyN_non, tyN_bl, tyN_int, tyN_str, tyN_ref, tyNs_lt, isB, upd_same, upd_upd, sizeLine_eq, List.mem_cons, String.reduceBEq, String.reduceEq, Bool.or_false, Bool.or_true, Bool.and_false, Bool.false_or, Bool.and_self, Bool.false_and, Bool.not_false, Bool.not_true, List.any_cons, List.any_nil, atI_0, setI_0, atI_1, setI_1, atI_2, setI_2, atI_3, setI_3, atI_4, setI_4, atI_5, setI_5, atI_6, setI_6, tAsg, gName, tOp, tUn, tVar, tC, tCons, L2.tNil, tRet, tIfS, tTest, tCB, tCall, rI, rI0, rU, tNext, tB, tAnd, tOr, tNot, tAndV, tOrV, tNotV, tDrop, tIf, tPar, gSub, rIxL, rIxT, rEq, rNe, rSetL, tBits,
    L2.start, List.map_cons, List.map_nil, List.cons_append, List.nil_append, List.append_nil, List.length_cons, List.length_nil, List.replicate, Nat.reduceAdd, Nat.reduceSub, Nat.zero_add, List.getElem?_cons_zero, List.getElem?_cons_succ, List.set_cons_zero, List.set_cons_succ,
    Option.some.injEq, exists_eq_left', exists_eq_left, V.int.injEq, V.bl.injEq, V.ref.injEq, V.str.injEq, List.cons.injEq, reduceCtorEq, and_true, true_and, false_and, and_false, exists_false, or_false, false_or, or_true, true_or, exists_const, CMul, CDiv, CPow, and_assoc, exists_and_left, exists_and_right, Int.reducePow, Int.reduceNeg, Int.reduceLT, Int.reduceLE, Nat.reducePow, Nat.reduceLT, Int.reduceToNat, gt_iff_lt, ge_iff_le, decide_eq_true_eq, Bool.not_eq_true', decide_eq_false_iff_not, scal, ↓reduceIte, Bool.false_eq_true]
    exact k _ _ (by omega) (by omega) (kp.trans kp2) st2
def GreatI (s : Addr) (spot : Int) (H1 : Hp) (_ : Nat) (σ : L2.St) (H' : Hp) : Prop := ∃ v y, σ = [some (.ref s), some (.int spot), some (.int v), y] ∧ H' = H1 ∧ 0 ≤ v ∧ v < 2 ^ 133
abbrev sGreat : Stmt := topS 47
theorem scGreat : FnScope ["_law_store_here", "_law_spot", "_law_value", "_law_k"] ["_law_store_here"] (defScope sGreat) := ⟨rfl, rfl, rfl, by decide +kernel, rfl, by decide +kernel, by decide +kernel⟩
theorem k_Great (T : Bt K mg) (D : Dfn K mg "_law_great" sGreat ["_law_store_here"]) (d__law_take : Kn P w K mg base 2 "_law_take" ["_law_store_here", "_law_many"] (spTake K)) : Kn P w K mg base 3 "_law_great" ["_law_store_here"] (spInt K fun n => n.natAbs < 2 ^ 133) := by
  refine Kn.mk' D scGreat (fun vs H Q E h => ?_) (fun f cdv A outer s H vs Q E hr h => ?_)
  · obtain ⟨s, rfl, _⟩ := h
    rfl
  obtain ⟨s, rfl, hS, k⟩ := h
  refine ⟨_, (pss_cons (ps_set (i := 1) scGreat.nd rfl (.inl rfl) (pe_kn d__law_take hr (by rfl) (pa_cons (pv 0) (pa_cons pe_int pa_nil))))
      (pss_cons (ps_if (pt_cmpR op_lt (pv 1) pe_int (nomark _)) (pss_one (ps_ret (pe_ix ix_any (pe_ls (pa_cons (pe_op op_sub (pe_op op_pow pe_int pe_int) pe_int) (pa_cons (pe_op op_sub pe_int (pe_op op_pow pe_int pe_int)) (pa_cons (pe_op op_pow pe_int pe_int) (pa_cons pe_int pa_nil))))) (pv 1) (fun _ _ => rfl)))) pss_nil)
      (pss_cons (ps_set (i := 2) scGreat.nd rfl (.inl rfl) (pe_kn d__law_take hr (by rfl) (pa_cons (pv 0) (pa_cons (pe_op op_pow pe_int pe_int) pa_nil))))
      (pss_cons (ps_for PassesOwn.never rfl (pi_range1 (by rfl) T.b_range (pa_cons (pe_kn d__law_take hr (by rfl) (pa_cons (pv 0) (pa_cons pe_int pa_nil))) pa_nil)) (pg_name (i := 3) scGreat.nd rfl (.inl rfl)) (pss_one (ps_set (i := 2) scGreat.nd rfl (.inl rfl) (pe_op op_fdiv (pv 2) pe_int))))
      (pss_cons (ps_if (pt_cmpR op_eq (pe_op op_mod (pv 1) pe_int) pe_int (nomark _)) (pss_one (ps_ret (pe_un un_neg (pv 2)))) pss_nil)
      (pss_one (ps_ret (pv 2)))))))), ?_⟩
  simp only [cx_K, decide_true, decide_false, reduceCtorEq, gTp, gCons, gNil, ca_0, ca_1, ca_2, ca_3, ca_4, ca_5, ca_6, ca_7, ca_8, ca_9, ca_10, ca_11, ca_12, ca_13, ca_14, ca_15, ca_16, ca_17, ca_18, ca_19, ca_20, ca_21, ca_22, ca_23, ca_24, ca_25, ca_26, ca_27, ca_28, ca_29, ca_30, not_true_eq_false, not_false_eq_true, Int.reduceEq, Nat.reduceEqDiff, Nat.reduceLeDiff, rGcd, V.ty.injEq, eq_self, List.not_mem_nil, beq_self_eq_true, HO.lst.injEq, HO.tup.injEq, tFor_eq, iRng1, iList, iTup, nat10, tSeq, rIxA, rSetA, rIsN, rIsT, tTp, tLs, itsO_tup, itsO_lst, tyO_tup, tyO_lst, tyO_dK, tyN_non, tyN_bl, tyN_int, tyN_str, tyN_ref, tyNs_lt, isB, upd_same, upd_upd, sizeLine_eq, List.mem_cons, String.reduceBEq, String.reduceEq, Bool.or_false, Bool.or_true, Bool.and_false, Bool.false_or, Bool.and_self, Bool.false_and, Bool.not_false, Bool.not_true, List.any_cons, List.any_nil, atI_0, setI_0, atI_1, setI_1, atI_2, setI_2, atI_3, setI_3, atI_4, setI_4, atI_5, setI_5, atI_6, setI_6, tAsg, gName, tOp, tUn, tVar, tC, tCons, L2.tNil, tRet, tIfS, tTest, tCB, tCall, rI, rI0, rU, tNext, tB, tAnd, tOr, tNot, tAndV, tOrV, tNotV, tDrop, tIf, tPar, gSub, rIxL, rIxT, rEq, rNe, rSetL, tBits,
    L2.start, List.map_cons, List.map_nil, List.cons_append, List.nil_append, List.append_nil, List.length_cons, List.length_nil, List.replicate, Nat.reduceAdd, Nat.reduceSub, Nat.zero_add, List.getElem?_cons_zero, List.getElem?_cons_succ, List.set_cons_zero, List.set_cons_succ,
    Option.some.injEq, exists_eq_left', exists_eq_left, V.int.injEq, V.bl.injEq, V.ref.injEq, V.str.injEq, List.cons.injEq, reduceCtorEq, and_true, true_and, false_and, and_false, exists_false, or_false, false_or, or_true, true_or, exists_const, CMul, CDiv, CPow, and_assoc, exists_and_left, exists_and_right, Int.reducePow, Int.reduceNeg, Int.reduceLT, Int.reduceLE, Nat.reducePow, Nat.reduceLT, Int.reduceToNat, gt_iff_lt, ge_iff_le, decide_eq_true_eq, Bool.not_eq_true', decide_eq_false_iff_not, scal, ↓reduceIte, Bool.false_eq_true]
  refine ⟨s, 12, rfl, hS, by omega, fun i H1 h0 h1 kp st => ?_⟩
  simp only [cx_K, decide_true, decide_false, reduceCtorEq, gTp, gCons, gNil, ca_0, ca_1, ca_2, ca_3, ca_4, ca_5, ca_6, ca_7, ca_8, ca_9, ca_10, ca_11, ca_12, ca_13, ca_14, ca_15, ca_16, ca_17, ca_18, ca_19, ca_20, ca_21, ca_22, ca_23, ca_24, ca_25, ca_26, ca_27, ca_28, ca_29, ca_30, not_true_eq_false, not_false_eq_true, Int.reduceEq, Nat.reduceEqDiff, Nat.reduceLeDiff, rGcd, V.ty.injEq, eq_self, List.not_mem_nil, beq_self_eq_true, HO.lst.injEq, HO.tup.injEq, tFor_eq, iRng1, iList, iTup, nat10, tSeq, rIxA, rSetA, rIsN, rIsT, tTp, tLs, itsO_tup, itsO_lst, tyO_tup, tyO_lst, tyO_dK, tyN_non, tyN_bl, tyN_int, tyN_str, tyN_ref, tyNs_lt, isB, upd_same, upd_upd, sizeLine_eq, List.mem_cons, String.reduceBEq, String.reduceEq, Bool.or_false, Bool.or_true, Bool.and_false, Bool.false_or, Bool.and_self, Bool.false_and, Bool.not_false, Bool.not_true, List.any_cons, List.any_nil, atI_0, setI_0, atI_1, setI_1, atI_2, setI_2, atI_3, setI_3, atI_4, setI_4, atI_5, setI_5, atI_6, setI_6, tAsg, gName, tOp, tUn, tVar, tC, tCons, L2.tNil, tRet, tIfS, tTest, tCB, tCall, rI, rI0, rU, tNext, tB, tAnd, tOr, tNot, tAndV, tOrV, tNotV, tDrop, tIf, tPar, gSub, rIxL, rIxT, rEq, rNe, rSetL, tBits,
    L2.start, List.map_cons, List.map_nil, List.cons_append, List.nil_append, List.append_nil, List.length_cons, List.length_nil, List.replicate, Nat.reduceAdd, Nat.reduceSub, Nat.zero_add, List.getElem?_cons_zero, List.getElem?_cons_succ, List.set_cons_zero, List.set_cons_succ,
    Option.some.injEq, exists_eq_left', exists_eq_left, V.int.injEq, V.bl.injEq, V.ref.injEq, V.str.injEq, List.cons.injEq, reduceCtorEq, and_true, true_and, false_and, and_false, exists_false, or_false, false_or, or_true, true_or, exists_const, CMul, CDiv, CPow, and_assoc, exists_and_left, exists_and_right, Int.reducePow, Int.reduceNeg, Int.reduceLT, Int.reduceLE, Nat.reducePow, Nat.reduceLT, Int.reduceToNat, gt_iff_lt, ge_iff_le, decide_eq_true_eq, Bool.not_eq_true', decide_eq_false_iff_not, scal, ↓reduceIte, Bool.false_eq_true]
  refine ite2 (fun h => ?_) (fun h => ?_)
  · intro p hp kp'
    rw [ob_new kp']
    simp only [cx_K, decide_true, decide_false, reduceCtorEq, gTp, gCons, gNil, ca_0, ca_1, ca_2, ca_3, ca_4, ca_5, ca_6, ca_7, ca_8, ca_9, ca_10, ca_11, ca_12, ca_13, ca_14, ca_15, ca_16, ca_17, ca_18, ca_19, ca_20, ca_21, ca_22, ca_23, ca_24, ca_25, ca_26, ca_27, ca_28, ca_29, ca_30, not_true_eq_false, not_false_eq_true, Int.reduceEq, Nat.reduceEqDiff, Nat.reduceLeDiff, rGcd, V.ty.injEq, eq_self, List.not_mem_nil, beq_self_eq_true, HO.lst.injEq, HO.tup.injEq, tFor_eq, iRng1, iList, iTup, nat10, tSeq, rIxA, rSetA, rIsN, rIsT, tTp, tLs, itsO_tup, itsO_lst, tyO_tup, tyO_lst, tyO_dK, tyN_non, tyN_bl, tyN_int, tyN_str, tyN_ref, tyNs_lt, isB, upd_same, upd_upd, sizeLine_eq, List.mem_cons, String.reduceBEq, String.reduceEq, Bool.or_false, Bool.or_true, Bool.and_false, Bool.false_or, Bool.and_self, Bool.false_and, Bool.not_false, Bool.not_true, List.any_cons, List.any_nil, atI_0, setI_0, atI_1, setI_1, atI_2, setI_2, atI_3, setI_3, atI_4, setI_4, atI_5, setI_5, atI_6, setI_6, tAsg, gName, tOp, tUn, tVar, tC, tCons, L2.tNil, tRet, tIfS, tTest, tCB, tCall, rI, rI0, rU, tNext, tB, tAnd, tOr, tNot, tAndV, tOrV, tNotV, tDrop, tIf, tPar, gSub, rIxL, rIxT, rEq, rNe, rSetL, tBits,
    L2.start, List.map_cons, List.map_nil, List.cons_append, List.nil_append, List.append_nil, List.length_cons, List.length_nil, List.replicate, Nat.reduceAdd, Nat.reduceSub, Nat.zero_add, List.getElem?_cons_zero, List.getElem?_cons_succ, List.set_cons_zero, List.set_cons_succ,
    Option.some.injEq, exists_eq_left', exists_eq_left, V.int.injEq, V.bl.injEq, V.ref.injEq, V.str.injEq, List.cons.injEq, reduceCtorEq, and_true, true_and, false_and, and_false, exists_false, or_false, false_or, or_true, true_or, exists_const, CMul, CDiv, CPow, and_assoc, exists_and_left, exists_and_right, Int.reducePow, Int.reduceNeg, Int.reduceLT, Int.reduceLE, Nat.reducePow, Nat.reduceLT, Int.reduceToNat, gt_iff_lt, ge_iff_le, decide_eq_true_eq, Bool.not_eq_true', decide_eq_false_iff_not, scal, ↓reduceIte, Bool.false_eq_true]
    refine menu h0 (by simpa using h) fun v hv => ?_
    simp only [List.mem_cons, List.not_mem_nil, or_false] at hv
    rcases hv with rfl | rfl | rfl | rfl <;> exact k _ _ (by show Int.natAbs _ < _; omega) (kp.trans (Kp.same (Same.new hp _))) (st.same (Same.new hp _))
  · refine ⟨s, _, rfl, st, by omega, fun j H2 j0 j1 kp2 st2 => ⟨s, 40, rfl, st2, by omega, fun m H3 m0 m1 kp3 st3 => ?_⟩⟩
    simp only [cx_K, decide_true, decide_false, reduceCtorEq, gTp, gCons, gNil, ca_0, ca_1, ca_2, ca_3, ca_4, ca_5, ca_6, ca_7, ca_8, ca_9, ca_10, ca_11, ca_12, ca_13, ca_14, ca_15, ca_16, ca_17, ca_18, ca_19, ca_20, ca_21, ca_22, ca_23, ca_24, ca_25, ca_26, ca_27, ca_28, ca_29, ca_30, not_true_eq_false, not_false_eq_true, Int.reduceEq, Nat.reduceEqDiff, Nat.reduceLeDiff, rGcd, V.ty.injEq, eq_self, List.not_mem_nil, beq_self_eq_true, HO.lst.injEq, HO.tup.injEq, tFor_eq, iRng1, iList, iTup, nat10, tSeq, rIxA, rSetA, rIsN, rIsT, tTp, tLs, itsO_tup, itsO_lst, tyO_tup, tyO_lst, tyO_dK, tyN_non, tyN_bl, tyN_int, tyN_str, tyN_ref, tyNs_lt, isB, upd_same, upd_upd, sizeLine_eq, List.mem_cons, String.reduceBEq, String.reduceEq, Bool.or_false, Bool.or_true, Bool.and_false, Bool.false_or, Bool.and_self, Bool.false_and, Bool.not_false, Bool.not_true, List.any_cons, List.any_nil, atI_0, setI_0, atI_1, setI_1, atI_2, setI_2, atI_3, setI_3, atI_4, setI_4, atI_5, setI_5, atI_6, setI_6, tAsg, gName, tOp, tUn, tVar, tC, tCons, L2.tNil, tRet, tIfS, tTest, tCB, tCall, rI, rI0, rU, tNext, tB, tAnd, tOr, tNot, tAndV, tOrV, tNotV, tDrop, tIf, tPar, gSub, rIxL, rIxT, rEq, rNe, rSetL, tBits,
    L2.start, List.map_cons, List.map_nil, List.cons_append, List.nil_append, List.append_nil, List.length_cons, List.length_nil, List.replicate, Nat.reduceAdd, Nat.reduceSub, Nat.zero_add, List.getElem?_cons_zero, List.getElem?_cons_succ, List.set_cons_zero, List.set_cons_succ,
    Option.some.injEq, exists_eq_left', exists_eq_left, V.int.injEq, V.bl.injEq, V.ref.injEq, V.str.injEq, List.cons.injEq, reduceCtorEq, and_true, true_and, false_and, and_false, exists_false, or_false, false_or, or_true, true_or, exists_const, CMul, CDiv, CPow, and_assoc, exists_and_left, exists_and_right, Int.reducePow, Int.reduceNeg, Int.reduceLT, Int.reduceLE, Nat.reducePow, Nat.reduceLT, Int.reduceToNat, gt_iff_lt, ge_iff_le, decide_eq_true_eq, Bool.not_eq_true', decide_eq_false_iff_not, scal, ↓reduceIte, Bool.false_eq_true]
    refine ⟨by omega, by omega, forI_range (GreatI s i H3) ⟨j, none, rfl, rfl, j0, by omega⟩ ?_ ?_⟩
    · rintro t σ H' _ ⟨v, y, rfl, rfl, v0, v1⟩
      simp only [cx_K, decide_true, decide_false, reduceCtorEq, gTp, gCons, gNil, ca_0, ca_1, ca_2, ca_3, ca_4, ca_5, ca_6, ca_7, ca_8, ca_9, ca_10, ca_11, ca_12, ca_13, ca_14, ca_15, ca_16, ca_17, ca_18, ca_19, ca_20, ca_21, ca_22, ca_23, ca_24, ca_25, ca_26, ca_27, ca_28, ca_29, ca_30, not_true_eq_false, not_false_eq_true, Int.reduceEq, Nat.reduceEqDiff, Nat.reduceLeDiff, rGcd, V.ty.injEq, eq_self, List.not_mem_nil, beq_self_eq_true, HO.lst.injEq, HO.tup.injEq, tFor_eq, iRng1, iList, iTup, nat10, tSeq, rIxA, rSetA, rIsN, rIsT, tTp, tLs, itsO_tup, itsO_lst, tyO_tup, tyO_lst, tyO_dK, tyN_non, tyN_bl, tyN_int, tyN_str, tyN_ref, tyNs_lt, isB, upd_same, upd_upd, sizeLine_eq, List.mem_cons, String.reduceBEq, String.reduceEq, Bool.or_false, Bool.or_true, Bool.and_false, Bool.false_or, Bool.and_self, Bool.false_and, Bool.not_false, Bool.not_true, List.any_cons, List.any_nil, atI_0, setI_0, atI_1, setI_1, atI_2, setI_2, atI_3, setI_3, atI_4, setI_4, atI_5, setI_5, atI_6, setI_6, tAsg, gName, tOp, tUn, tVar, tC, tCons, L2.tNil, tRet, tIfS, tTest, tCB, tCall, rI, rI0, rU, tNext, tB, tAnd, tOr, tNot, tAndV, tOrV, tNotV, tDrop, tIf, tPar, gSub, rIxL, rIxT, rEq, rNe, rSetL, tBits,
    L2.start, List.map_cons, List.map_nil, List.cons_append, List.nil_append, List.append_nil, List.length_cons, List.length_nil, List.replicate, Nat.reduceAdd, Nat.reduceSub, Nat.zero_add, List.getElem?_cons_zero, List.getElem?_cons_succ, List.set_cons_zero, List.set_cons_succ,
    Option.some.injEq, exists_eq_left', exists_eq_left, V.int.injEq, V.bl.injEq, V.ref.injEq, V.str.injEq, List.cons.injEq, reduceCtorEq, and_true, true_and, false_and, and_false, exists_false, or_false, false_or, or_true, true_or, exists_const, CMul, CDiv, CPow, and_assoc, exists_and_left, exists_and_right, Int.reducePow, Int.reduceNeg, Int.reduceLT, Int.reduceLE, Nat.reducePow, Nat.reduceLT, Int.reduceToNat, gt_iff_lt, ge_iff_le, decide_eq_true_eq, Bool.not_eq_true', decide_eq_false_iff_not, scal, ↓reduceIte, Bool.false_eq_true]
      exact ⟨_, _, rfl, rfl, by omega, by omega⟩
    · rintro σ H' ⟨v, y, rfl, rfl, v0, v1⟩
      simp only [cx_K, decide_true, decide_false, reduceCtorEq, gTp, gCons, gNil, ca_0, ca_1, ca_2, ca_3, ca_4, ca_5, ca_6, ca_7, ca_8, ca_9, ca_10, ca_11, ca_12, ca_13, ca_14, ca_15, ca_16, ca_17, ca_18, ca_19, ca_20, ca_21, ca_22, ca_23, ca_24, ca_25, ca_26, ca_27, ca_28, ca_29, ca_30, not_true_eq_false, not_false_eq_true, Int.reduceEq, Nat.reduceEqDiff, Nat.reduceLeDiff, rGcd, V.ty.injEq, eq_self, List.not_mem_nil, beq_self_eq_true, HO.lst.injEq, HO.tup.injEq, tFor_eq, iRng1, iList, iTup, nat10, tSeq, rIxA, rSetA, rIsN, rIsT, tTp, tLs, itsO_tup, itsO_lst, tyO_tup, tyO_lst, tyO_dK, tyN_non, tyN_bl, tyN_int, tyN_str, tyN_ref, tyNs_lt, isB, upd_same, upd_upd, sizeLine_eq, List.mem_cons, String.reduceBEq, String.reduceEq, Bool.or_false, Bool.or_true, Bool.and_false, Bool.false_or, Bool.and_self, Bool.false_and, Bool.not_false, Bool.not_true, List.any_cons, List.any_nil, atI_0, setI_0, atI_1, setI_1, atI_2, setI_2, atI_3, setI_3, atI_4, setI_4, atI_5, setI_5, atI_6, setI_6, tAsg, gName, tOp, tUn, tVar, tC, tCons, L2.tNil, tRet, tIfS, tTest, tCB, tCall, rI, rI0, rU, tNext, tB, tAnd, tOr, tNot, tAndV, tOrV, tNotV, tDrop, tIf, tPar, gSub, rIxL, rIxT, rEq, rNe, rSetL, tBits,
    L2.start, List.map_cons, List.map_nil, List.cons_append, List.nil_append, List.append_nil, List.length_cons, List.length_nil, List.replicate, Nat.reduceAdd, Nat.reduceSub, Nat.zero_add, List.getElem?_cons_zero, List.getElem?_cons_succ, List.set_cons_zero, List.set_cons_succ,
    Option.some.injEq, exists_eq_left', exists_eq_left, V.int.injEq, V.bl.injEq, V.ref.injEq, V.str.injEq, List.cons.injEq, reduceCtorEq, and_true, true_and, false_and, and_false, exists_false, or_false, false_or, or_true, true_or, exists_const, CMul, CDiv, CPow, and_assoc, exists_and_left, exists_and_right, Int.reducePow, Int.reduceNeg, Int.reduceLT, Int.reduceLE, Nat.reducePow, Nat.reduceLT, Int.reduceToNat, gt_iff_lt, ge_iff_le, decide_eq_true_eq, Bool.not_eq_true', decide_eq_false_iff_not, scal, ↓reduceIte, Bool.false_eq_true]
      have kk := (kp.trans kp2).trans kp3
      exact ite2 (fun _ => k _ _ (by show Int.natAbs _ < _; omega) kk st3) (fun _ => k _ _ (by show Int.natAbs _ < _; omega) kk st3)
def spDFrac (K : PySem.W.Frag) (n : Nat) : Sp := fun vs H Q _ => ∃ (s : Addr), vs = [.ref s] ∧ Sto K H s ∧ ∀ a q H', Fq K H' n a q → Kp s H H' → Sto K H' s → Q (.ref a) H'
theorem nf01 : Nf (0, 1) := ⟨by decide, by decide⟩
theorem nf11 : Nf (1, 1) := ⟨by decide, by decide⟩
theorem nfm1 : Nf (-1, 1) := ⟨by decide, by decide⟩
theorem nf12 : Nf (1, 2) := ⟨by decide, by decide⟩
theorem nfm2 : Nf (-1, 2) := ⟨by decide, by decide⟩
theorem sz10 {x y : Int} (h1 : x.natAbs < 1024) (h2 : y.natAbs < 1024) : Sz 10 (x, y) := ⟨by show x.natAbs < _; omega, by show y.natAbs < _; omega⟩
abbrev sDFrac : Stmt := topS 48
theorem scDFrac : FnScope ["_law_store_here", "_law_spot", "_law_bottom"] ["_law_store_here"] (defScope sDFrac) := ⟨rfl, rfl, rfl, by decide +kernel, rfl, by decide +kernel, by decide +kernel⟩
theorem k_DFrac (T : Bt K mg) (D : Dfn K mg "_law_frac" sDFrac ["_law_store_here"]) (d__law_take : Kn P w K mg base 2 "_law_take" ["_law_store_here", "_law_many"] (spTake K)) (d__law_lowest : Kn P w K mg base 2 "_law_lowest" ["_law_top", "_law_bottom"] (spLowest K)) : Kn P w K mg base 3 "_law_frac" ["_law_store_here"] (spDFrac K 10) := by
  refine Kn.mk' D scDFrac (fun vs H Q E h => ?_) (fun f cdv A outer s H vs Q E hr h => ?_)
  · obtain ⟨s, rfl, _⟩ := h
    rfl
  obtain ⟨s, rfl, hS, k⟩ := h
  refine ⟨_, (pss_cons (ps_set (i := 1) scDFrac.nd rfl (.inl rfl) (pe_kn d__law_take hr (by rfl) (pa_cons (pv 0) (pa_cons pe_int pa_nil))))
      (pss_cons (ps_if (pt_cmpR op_lt (pv 1) pe_int (nomark _)) (pss_one (ps_ret (pe_ix ix_any (pe_ls (pa_cons (pe_tp (pa_cons pe_int (pa_cons pe_int pa_nil))) (pa_cons (pe_tp (pa_cons pe_int (pa_cons pe_int pa_nil))) (pa_cons (pe_tp (pa_cons (pe_un un_neg pe_int) (pa_cons pe_int pa_nil))) (pa_cons (pe_tp (pa_cons pe_int (pa_cons pe_int pa_nil))) (pa_cons (pe_tp (pa_cons (pe_un un_neg pe_int) (pa_cons pe_int pa_nil))) pa_nil)))))) (pv 1) (fun _ _ => rfl)))) pss_nil)
      (pss_cons (ps_set (i := 2) scDFrac.nd rfl (.inl rfl) (pe_op op_add pe_int (pe_kn d__law_take hr (by rfl) (pa_cons (pv 0) (pa_cons pe_int pa_nil)))))
      (pss_one (ps_ret (pe_kn d__law_lowest hr (by rfl) (pa_cons (pe_op op_sub (pe_kn d__law_take hr (by rfl) (pa_cons (pv 0) (pa_cons (pe_op op_add (pe_op op_mul pe_int (pv 2)) pe_int) pa_nil))) (pe_op op_mul pe_int (pv 2))) (pa_cons (pv 2) pa_nil)))))))), ?_⟩
  simp only [cx_K, decide_true, decide_false, reduceCtorEq, gTp, gCons, gNil, ca_0, ca_1, ca_2, ca_3, ca_4, ca_5, ca_6, ca_7, ca_8, ca_9, ca_10, ca_11, ca_12, ca_13, ca_14, ca_15, ca_16, ca_17, ca_18, ca_19, ca_20, ca_21, ca_22, ca_23, ca_24, ca_25, ca_26, ca_27, ca_28, ca_29, ca_30, not_true_eq_false, not_false_eq_true, Int.reduceEq, Nat.reduceEqDiff, Nat.reduceLeDiff, rGcd, V.ty.injEq, eq_self, List.not_mem_nil, beq_self_eq_true, HO.lst.injEq, HO.tup.injEq, tFor_eq, iRng1, iList, iTup, nat10, tSeq, rIxA, rSetA, rIsN, rIsT, tTp, tLs, itsO_tup, itsO_lst, tyO_tup, tyO_lst, tyO_dK, tyN_non, tyN_bl, tyN_int, tyN_str, tyN_ref, tyNs_lt, isB, upd_same, upd_upd, sizeLine_eq, List.mem_cons, String.reduceBEq, String.reduceEq, Bool.or_false, Bool.or_true, Bool.and_false, Bool.false_or, Bool.and_self, Bool.false_and, Bool.not_false, Bool.not_true, List.any_cons, List.any_nil, atI_0, setI_0, atI_1, setI_1, atI_2, setI_2, atI_3, setI_3, atI_4, setI_4, atI_5, setI_5, atI_6, setI_6, tAsg, gName, tOp, tUn, tVar, tC, tCons, L2.tNil, tRet, tIfS, tTest, tCB, tCall, rI, rI0, rU, tNext, tB, tAnd, tOr, tNot, tAndV, tOrV, tNotV, tDrop, tIf, tPar, gSub, rIxL, rIxT, rEq, rNe, rSetL, tBits,
    L2.start, List.map_cons, List.map_nil, List.cons_append, List.nil_append, List.append_nil, List.length_cons, List.length_nil, List.replicate, Nat.reduceAdd, Nat.reduceSub, Nat.zero_add, List.getElem?_cons_zero, List.getElem?_cons_succ, List.set_cons_zero, List.set_cons_succ,
    Option.some.injEq, exists_eq_left', exists_eq_left, V.int.injEq, V.bl.injEq, V.ref.injEq, V.str.injEq, List.cons.injEq, reduceCtorEq, and_true, true_and, false_and, and_false, exists_false, or_false, false_or, or_true, true_or, exists_const, CMul, CDiv, CPow, and_assoc, exists_and_left, exists_and_right, Int.reducePow, Int.reduceNeg, Int.reduceLT, Int.reduceLE, Nat.reducePow, Nat.reduceLT, Int.reduceToNat, gt_iff_lt, ge_iff_le, decide_eq_true_eq, Bool.not_eq_true', decide_eq_false_iff_not, scal, ↓reduceIte, Bool.false_eq_true]
  refine ⟨s, 12, rfl, hS, by omega, fun i H1 z0 z1 kp st => ?_⟩
  simp only [cx_K, decide_true, decide_false, reduceCtorEq, gTp, gCons, gNil, ca_0, ca_1, ca_2, ca_3, ca_4, ca_5, ca_6, ca_7, ca_8, ca_9, ca_10, ca_11, ca_12, ca_13, ca_14, ca_15, ca_16, ca_17, ca_18, ca_19, ca_20, ca_21, ca_22, ca_23, ca_24, ca_25, ca_26, ca_27, ca_28, ca_29, ca_30, not_true_eq_false, not_false_eq_true, Int.reduceEq, Nat.reduceEqDiff, Nat.reduceLeDiff, rGcd, V.ty.injEq, eq_self, List.not_mem_nil, beq_self_eq_true, HO.lst.injEq, HO.tup.injEq, tFor_eq, iRng1, iList, iTup, nat10, tSeq, rIxA, rSetA, rIsN, rIsT, tTp, tLs, itsO_tup, itsO_lst, tyO_tup, tyO_lst, tyO_dK, tyN_non, tyN_bl, tyN_int, tyN_str, tyN_ref, tyNs_lt, isB, upd_same, upd_upd, sizeLine_eq, List.mem_cons, String.reduceBEq, String.reduceEq, Bool.or_false, Bool.or_true, Bool.and_false, Bool.false_or, Bool.and_self, Bool.false_and, Bool.not_false, Bool.not_true, List.any_cons, List.any_nil, atI_0, setI_0, atI_1, setI_1, atI_2, setI_2, atI_3, setI_3, atI_4, setI_4, atI_5, setI_5, atI_6, setI_6, tAsg, gName, tOp, tUn, tVar, tC, tCons, L2.tNil, tRet, tIfS, tTest, tCB, tCall, rI, rI0, rU, tNext, tB, tAnd, tOr, tNot, tAndV, tOrV, tNotV, tDrop, tIf, tPar, gSub, rIxL, rIxT, rEq, rNe, rSetL, tBits,
    L2.start, List.map_cons, List.map_nil, List.cons_append, List.nil_append, List.append_nil, List.length_cons, List.length_nil, List.replicate, Nat.reduceAdd, Nat.reduceSub, Nat.zero_add, List.getElem?_cons_zero, List.getElem?_cons_succ, List.set_cons_zero, List.set_cons_succ,
    Option.some.injEq, exists_eq_left', exists_eq_left, V.int.injEq, V.bl.injEq, V.ref.injEq, V.str.injEq, List.cons.injEq, reduceCtorEq, and_true, true_and, false_and, and_false, exists_false, or_false, false_or, or_true, true_or, exists_const, CMul, CDiv, CPow, and_assoc, exists_and_left, exists_and_right, Int.reducePow, Int.reduceNeg, Int.reduceLT, Int.reduceLE, Nat.reducePow, Nat.reduceLT, Int.reduceToNat, gt_iff_lt, ge_iff_le, decide_eq_true_eq, Bool.not_eq_true', decide_eq_false_iff_not, scal, ↓reduceIte, Bool.false_eq_true]
  refine ite2 (fun h => ?_) (fun h => ?_)
  · intro p1 h1 k1 p2 h2 k2 p3 h3 k3 p4 h4 k4 p5 h5 k5 p6 h6 k6
    rw [ob_new k6]
    simp only [cx_K, decide_true, decide_false, reduceCtorEq, gTp, gCons, gNil, ca_0, ca_1, ca_2, ca_3, ca_4, ca_5, ca_6, ca_7, ca_8, ca_9, ca_10, ca_11, ca_12, ca_13, ca_14, ca_15, ca_16, ca_17, ca_18, ca_19, ca_20, ca_21, ca_22, ca_23, ca_24, ca_25, ca_26, ca_27, ca_28, ca_29, ca_30, not_true_eq_false, not_false_eq_true, Int.reduceEq, Nat.reduceEqDiff, Nat.reduceLeDiff, rGcd, V.ty.injEq, eq_self, List.not_mem_nil, beq_self_eq_true, HO.lst.injEq, HO.tup.injEq, tFor_eq, iRng1, iList, iTup, nat10, tSeq, rIxA, rSetA, rIsN, rIsT, tTp, tLs, itsO_tup, itsO_lst, tyO_tup, tyO_lst, tyO_dK, tyN_non, tyN_bl, tyN_int, tyN_str, tyN_ref, tyNs_lt, isB, upd_same, upd_upd, sizeLine_eq, List.mem_cons, String.reduceBEq, String.reduceEq, Bool.or_false, Bool.or_true, Bool.and_false, Bool.false_or, Bool.and_self, Bool.false_and, Bool.not_false, Bool.not_true, List.any_cons, List.any_nil, atI_0, setI_0, atI_1, setI_1, atI_2, setI_2, atI_3, setI_3, atI_4, setI_4, atI_5, setI_5, atI_6, setI_6, tAsg, gName, tOp, tUn, tVar, tC, tCons, L2.tNil, tRet, tIfS, tTest, tCB, tCall, rI, rI0, rU, tNext, tB, tAnd, tOr, tNot, tAndV, tOrV, tNotV, tDrop, tIf, tPar, gSub, rIxL, rIxT, rEq, rNe, rSetL, tBits,
    L2.start, List.map_cons, List.map_nil, List.cons_append, List.nil_append, List.append_nil, List.length_cons, List.length_nil, List.replicate, Nat.reduceAdd, Nat.reduceSub, Nat.zero_add, List.getElem?_cons_zero, List.getElem?_cons_succ, List.set_cons_zero, List.set_cons_succ,
    Option.some.injEq, exists_eq_left', exists_eq_left, V.int.injEq, V.bl.injEq, V.ref.injEq, V.str.injEq, List.cons.injEq, reduceCtorEq, and_true, true_and, false_and, and_false, exists_false, or_false, false_or, or_true, true_or, exists_const, CMul, CDiv, CPow, and_assoc, exists_and_left, exists_and_right, Int.reducePow, Int.reduceNeg, Int.reduceLT, Int.reduceLE, Nat.reducePow, Nat.reduceLT, Int.reduceToNat, gt_iff_lt, ge_iff_le, decide_eq_true_eq, Bool.not_eq_true', decide_eq_false_iff_not, scal, ↓reduceIte, Bool.false_eq_true]
    refine menu z0 (by simpa using h) fun v hv => ?_
    simp only [List.mem_cons, List.not_mem_nil, or_false] at hv
    rcases hv with rfl | rfl | rfl | rfl | rfl
    · exact k _ _ _ ⟨ob_same ((Same.new h2 _).trans ((Same.new h3 _).trans ((Same.new h4 _).trans ((Same.new h5 _).trans (Same.new h6 _))))) (ob_new k1), nf01, sz10 (by decide) (by decide)⟩ (kp.trans (Kp.same ((Same.new h1 _).trans ((Same.new h2 _).trans ((Same.new h3 _).trans ((Same.new h4 _).trans ((Same.new h5 _).trans (Same.new h6 _)))))))) (st.same ((Same.new h1 _).trans ((Same.new h2 _).trans ((Same.new h3 _).trans ((Same.new h4 _).trans ((Same.new h5 _).trans (Same.new h6 _)))))))
    · exact k _ _ _ ⟨ob_same ((Same.new h3 _).trans ((Same.new h4 _).trans ((Same.new h5 _).trans (Same.new h6 _)))) (ob_new k2), nf11, sz10 (by decide) (by decide)⟩ (kp.trans (Kp.same ((Same.new h1 _).trans ((Same.new h2 _).trans ((Same.new h3 _).trans ((Same.new h4 _).trans ((Same.new h5 _).trans (Same.new h6 _)))))))) (st.same ((Same.new h1 _).trans ((Same.new h2 _).trans ((Same.new h3 _).trans ((Same.new h4 _).trans ((Same.new h5 _).trans (Same.new h6 _)))))))
    · exact k _ _ _ ⟨ob_same ((Same.new h4 _).trans ((Same.new h5 _).trans (Same.new h6 _))) (ob_new k3), nfm1, sz10 (by decide) (by decide)⟩ (kp.trans (Kp.same ((Same.new h1 _).trans ((Same.new h2 _).trans ((Same.new h3 _).trans ((Same.new h4 _).trans ((Same.new h5 _).trans (Same.new h6 _)))))))) (st.same ((Same.new h1 _).trans ((Same.new h2 _).trans ((Same.new h3 _).trans ((Same.new h4 _).trans ((Same.new h5 _).trans (Same.new h6 _)))))))
    · exact k _ _ _ ⟨ob_same ((Same.new h5 _).trans (Same.new h6 _)) (ob_new k4), nf12, sz10 (by decide) (by decide)⟩ (kp.trans (Kp.same ((Same.new h1 _).trans ((Same.new h2 _).trans ((Same.new h3 _).trans ((Same.new h4 _).trans ((Same.new h5 _).trans (Same.new h6 _)))))))) (st.same ((Same.new h1 _).trans ((Same.new h2 _).trans ((Same.new h3 _).trans ((Same.new h4 _).trans ((Same.new h5 _).trans (Same.new h6 _)))))))
    · exact k _ _ _ ⟨ob_same (Same.new h6 _) (ob_new k5), nfm2, sz10 (by decide) (by decide)⟩ (kp.trans (Kp.same ((Same.new h1 _).trans ((Same.new h2 _).trans ((Same.new h3 _).trans ((Same.new h4 _).trans ((Same.new h5 _).trans (Same.new h6 _)))))))) (st.same ((Same.new h1 _).trans ((Same.new h2 _).trans ((Same.new h3 _).trans ((Same.new h4 _).trans ((Same.new h5 _).trans (Same.new h6 _)))))))
  · refine ⟨s, 12, rfl, st, by omega, fun j H2 j0 j1 kp2 st2 => ?_⟩
    simp only [cx_K, decide_true, decide_false, reduceCtorEq, gTp, gCons, gNil, ca_0, ca_1, ca_2, ca_3, ca_4, ca_5, ca_6, ca_7, ca_8, ca_9, ca_10, ca_11, ca_12, ca_13, ca_14, ca_15, ca_16, ca_17, ca_18, ca_19, ca_20, ca_21, ca_22, ca_23, ca_24, ca_25, ca_26, ca_27, ca_28, ca_29, ca_30, not_true_eq_false, not_false_eq_true, Int.reduceEq, Nat.reduceEqDiff, Nat.reduceLeDiff, rGcd, V.ty.injEq, eq_self, List.not_mem_nil, beq_self_eq_true, HO.lst.injEq, HO.tup.injEq, tFor_eq, iRng1, iList, iTup, nat10, tSeq, rIxA, rSetA, rIsN, rIsT, tTp, tLs, itsO_tup, itsO_lst, tyO_tup, tyO_lst, tyO_dK, tyN_non, tyN_bl, tyN_int, tyN_str, tyN_ref, tyNs_lt, isB, upd_same, upd_upd, sizeLine_eq, List.mem_cons, String.reduceBEq, String.reduceEq, Bool.or_false, Bool.or_true, Bool.and_false, Bool.false_or, Bool.and_self, Bool.false_and, Bool.not_false, Bool.not_true, List.any_cons, List.any_nil, atI_0, setI_0, atI_1, setI_1, atI_2, setI_2, atI_3, setI_3, atI_4, setI_4, atI_5, setI_5, atI_6, setI_6, tAsg, gName, tOp, tUn, tVar, tC, tCons, L2.tNil, tRet, tIfS, tTest, tCB, tCall, rI, rI0, rU, tNext, tB, tAnd, tOr, tNot, tAndV, tOrV, tNotV, tDrop, tIf, tPar, gSub, rIxL, rIxT, rEq, rNe, rSetL, tBits,
    L2.start, List.map_cons, List.map_nil, List.cons_append, List.nil_append, List.append_nil, List.length_cons, List.length_nil, List.replicate, Nat.reduceAdd, Nat.reduceSub, Nat.zero_add, List.getElem?_cons_zero, List.getElem?_cons_succ, List.set_cons_zero, List.set_cons_succ,
    Option.some.injEq, exists_eq_left', exists_eq_left, V.int.injEq, V.bl.injEq, V.ref.injEq, V.str.injEq, List.cons.injEq, reduceCtorEq, and_true, true_and, false_and, and_false, exists_false, or_false, false_or, or_true, true_or, exists_const, CMul, CDiv, CPow, and_assoc, exists_and_left, exists_and_right, Int.reducePow, Int.reduceNeg, Int.reduceLT, Int.reduceLE, Nat.reducePow, Nat.reduceLT, Int.reduceToNat, gt_iff_lt, ge_iff_le, decide_eq_true_eq, Bool.not_eq_true', decide_eq_false_iff_not, scal, ↓reduceIte, Bool.false_eq_true]
    refine ⟨s, _, rfl, st2, by omega, fun m H3 m0 m1 kp3 st3 => ?_⟩
    simp only [cx_K, decide_true, decide_false, reduceCtorEq, gTp, gCons, gNil, ca_0, ca_1, ca_2, ca_3, ca_4, ca_5, ca_6, ca_7, ca_8, ca_9, ca_10, ca_11, ca_12, ca_13, ca_14, ca_15, ca_16, ca_17, ca_18, ca_19, ca_20, ca_21, ca_22, ca_23, ca_24, ca_25, ca_26, ca_27, ca_28, ca_29, ca_30, not_true_eq_false, not_false_eq_true, Int.reduceEq, Nat.reduceEqDiff, Nat.reduceLeDiff, rGcd, V.ty.injEq, eq_self, List.not_mem_nil, beq_self_eq_true, HO.lst.injEq, HO.tup.injEq, tFor_eq, iRng1, iList, iTup, nat10, tSeq, rIxA, rSetA, rIsN, rIsT, tTp, tLs, itsO_tup, itsO_lst, tyO_tup, tyO_lst, tyO_dK, tyN_non, tyN_bl, tyN_int, tyN_str, tyN_ref, tyNs_lt, isB, upd_same, upd_upd, sizeLine_eq, List.mem_cons, String.reduceBEq, String.reduceEq, Bool.or_false, Bool.or_true, Bool.and_false, Bool.false_or, Bool.and_self, Bool.false_and, Bool.not_false, Bool.not_true, List.any_cons, List.any_nil, atI_0, setI_0, atI_1, setI_1, atI_2, setI_2, atI_3, setI_3, atI_4, setI_4, atI_5, setI_5, atI_6, setI_6, tAsg, gName, tOp, tUn, tVar, tC, tCons, L2.tNil, tRet, tIfS, tTest, tCB, tCall, rI, rI0, rU, tNext, tB, tAnd, tOr, tNot, tAndV, tOrV, tNotV, tDrop, tIf, tPar, gSub, rIxL, rIxT, rEq, rNe, rSetL, tBits,
    L2.start, List.map_cons, List.map_nil, List.cons_append, List.nil_append, List.append_nil, List.length_cons, List.length_nil, List.replicate, Nat.reduceAdd, Nat.reduceSub, Nat.zero_add, List.getElem?_cons_zero, List.getElem?_cons_succ, List.set_cons_zero, List.set_cons_succ,
    Option.some.injEq, exists_eq_left', exists_eq_left, V.int.injEq, V.bl.injEq, V.ref.injEq, V.str.injEq, List.cons.injEq, reduceCtorEq, and_true, true_and, false_and, and_false, exists_false, or_false, false_or, or_true, true_or, exists_const, CMul, CDiv, CPow, and_assoc, exists_and_left, exists_and_right, Int.reducePow, Int.reduceNeg, Int.reduceLT, Int.reduceLE, Nat.reducePow, Nat.reduceLT, Int.reduceToNat, gt_iff_lt, ge_iff_le, decide_eq_true_eq, Bool.not_eq_true', decide_eq_false_iff_not, scal, ↓reduceIte, Bool.false_eq_true]
    refine ⟨_, _, rfl, ?_, fun q hq p H4 s4 o4 => ?_⟩
    · have e : 2 ^ 10 ≤ 2 ^ 8000 := Nat.pow_le_pow_right (by omega) (by omega)
      omega
    · have hI := hq.2 (show 1 + j ≠ 0 by omega)
      exact k p q H4 ⟨o4, hI.1, is_sz (by omega) hI (by omega) (by omega)⟩ (((kp.trans kp2).trans kp3).trans (Kp.same s4)) (st3.same s4)
abbrev sDFracW : Stmt := topS 49
theorem scDFracW : FnScope ["_law_store_here", "_law_spot"] ["_law_store_here"] (defScope sDFracW) := ⟨rfl, rfl, rfl, by decide +kernel, rfl, by decide +kernel, by decide +kernel⟩
theorem k_DFracW (T : Bt K mg) (D : Dfn K mg "_law_frac_wide" sDFracW ["_law_store_here"]) (d__law_take : Kn P w K mg base 2 "_law_take" ["_law_store_here", "_law_many"] (spTake K)) (d__law_lowest : Kn P w K mg base 2 "_law_lowest" ["_law_top", "_law_bottom"] (spLowest K)) (d__law_great : Kn P w K mg base 3 "_law_great" ["_law_store_here"] (spInt K fun n => n.natAbs < 2 ^ 133)) (d__law_whole : Kn P w K mg base 3 "_law_whole" ["_law_store_here", "_law_reach"] (spLInt K)) (d__law_frac : Kn P w K mg base 3 "_law_frac" ["_law_store_here"] (spDFrac K 10)) : Kn P w K mg base 4 "_law_frac_wide" ["_law_store_here"] (spDFrac K 133) := by
  refine Kn.mk' D scDFracW (fun vs H Q E h => ?_) (fun f cdv A outer s H vs Q E hr h => ?_)
  · obtain ⟨s, rfl, _⟩ := h
    rfl
  obtain ⟨s, rfl, hS, k⟩ := h
  refine ⟨_, (pss_cons (ps_set (i := 1) scDFracW.nd rfl (.inl rfl) (pe_kn d__law_take hr (by rfl) (pa_cons (pv 0) (pa_cons pe_int pa_nil))))
      (pss_cons (ps_if (pt_cmpR op_eq (pv 1) pe_int (nomark _)) (pss_one (ps_ret (pe_kn d__law_lowest hr (by rfl) (pa_cons (pe_kn d__law_great hr (by rfl) (pa_cons (pv 0) pa_nil)) (pa_cons (pe_callB (call_max2 rfl) (by rfl) T.b_max (by decide +kernel) (pa_cons pe_int (pa_cons (pe_callB call_abs (by rfl) T.b_abs (by decide +kernel) (pa_cons (pe_kn d__law_great hr (by rfl) (pa_cons (pv 0) pa_nil)) pa_nil)) pa_nil))) pa_nil))))) pss_nil)
      (pss_cons (ps_if (pt_cmpR op_eq (pv 1) pe_int (nomark _)) (pss_one (ps_ret (pe_kn d__law_lowest hr (by rfl) (pa_cons (pe_kn d__law_whole hr (by rfl) (pa_cons (pv 0) (pa_cons (pe_op op_pow pe_int pe_int) pa_nil))) (pa_cons (pe_op op_add pe_int (pe_kn d__law_take hr (by rfl) (pa_cons (pv 0) (pa_cons pe_int pa_nil)))) pa_nil))))) pss_nil)
      (pss_one (ps_ret (pe_kn d__law_frac hr (by rfl) (pa_cons (pv 0) pa_nil))))))), ?_⟩
  simp only [cx_K, decide_true, decide_false, reduceCtorEq, gTp, gCons, gNil, ca_0, ca_1, ca_2, ca_3, ca_4, ca_5, ca_6, ca_7, ca_8, ca_9, ca_10, ca_11, ca_12, ca_13, ca_14, ca_15, ca_16, ca_17, ca_18, ca_19, ca_20, ca_21, ca_22, ca_23, ca_24, ca_25, ca_26, ca_27, ca_28, ca_29, ca_30, not_true_eq_false, not_false_eq_true, Int.reduceEq, Nat.reduceEqDiff, Nat.reduceLeDiff, rGcd, V.ty.injEq, eq_self, List.not_mem_nil, beq_self_eq_true, HO.lst.injEq, HO.tup.injEq, tFor_eq, iRng1, iList, iTup, nat10, tSeq, rIxA, rSetA, rIsN, rIsT, tTp, tLs, itsO_tup, itsO_lst, tyO_tup, tyO_lst, tyO_dK, tyN_non, tyN_bl, tyN_int, tyN_str, tyN_ref, tyNs_lt, isB, upd_same, upd_upd, sizeLine_eq, List.mem_cons, String.reduceBEq, String.reduceEq, Bool.or_false, Bool.or_true, Bool.and_false, Bool.false_or, Bool.and_self, Bool.false_and, Bool.not_false, Bool.not_true, List.any_cons, List.any_nil, atI_0, setI_0, atI_1, setI_1, atI_2, setI_2, atI_3, setI_3, atI_4, setI_4, atI_5, setI_5, atI_6, setI_6, tAsg, gName, tOp, tUn, tVar, tC, tCons, L2.tNil, tRet, tIfS, tTest, tCB, tCall, rI, rI0, rU, tNext, tB, tAnd, tOr, tNot, tAndV, tOrV, tNotV, tDrop, tIf, tPar, gSub, rIxL, rIxT, rEq, rNe, rSetL, tBits,
    L2.start, List.map_cons, List.map_nil, List.cons_append, List.nil_append, List.append_nil, List.length_cons, List.length_nil, List.replicate, Nat.reduceAdd, Nat.reduceSub, Nat.zero_add, List.getElem?_cons_zero, List.getElem?_cons_succ, List.set_cons_zero, List.set_cons_succ,
    Option.some.injEq, exists_eq_left', exists_eq_left, V.int.injEq, V.bl.injEq, V.ref.injEq, V.str.injEq, List.cons.injEq, reduceCtorEq, and_true, true_and, false_and, and_false, exists_false, or_false, false_or, or_true, true_or, exists_const, CMul, CDiv, CPow, and_assoc, exists_and_left, exists_and_right, Int.reducePow, Int.reduceNeg, Int.reduceLT, Int.reduceLE, Nat.reducePow, Nat.reduceLT, Int.reduceToNat, gt_iff_lt, ge_iff_le, decide_eq_true_eq, Bool.not_eq_true', decide_eq_false_iff_not, scal, ↓reduceIte, Bool.false_eq_true]
  refine ⟨s, 8, rfl, hS, by omega, fun i H1 z0 z1 kp st => ?_⟩
  simp only [cx_K, decide_true, decide_false, reduceCtorEq, gTp, gCons, gNil, ca_0, ca_1, ca_2, ca_3, ca_4, ca_5, ca_6, ca_7, ca_8, ca_9, ca_10, ca_11, ca_12, ca_13, ca_14, ca_15, ca_16, ca_17, ca_18, ca_19, ca_20, ca_21, ca_22, ca_23, ca_24, ca_25, ca_26, ca_27, ca_28, ca_29, ca_30, not_true_eq_false, not_false_eq_true, Int.reduceEq, Nat.reduceEqDiff, Nat.reduceLeDiff, rGcd, V.ty.injEq, eq_self, List.not_mem_nil, beq_self_eq_true, HO.lst.injEq, HO.tup.injEq, tFor_eq, iRng1, iList, iTup, nat10, tSeq, rIxA, rSetA, rIsN, rIsT, tTp, tLs, itsO_tup, itsO_lst, tyO_tup, tyO_lst, tyO_dK, tyN_non, tyN_bl, tyN_int, tyN_str, tyN_ref, tyNs_lt, isB, upd_same, upd_upd, sizeLine_eq, List.mem_cons, String.reduceBEq, String.reduceEq, Bool.or_false, Bool.or_true, Bool.and_false, Bool.false_or, Bool.and_self, Bool.false_and, Bool.not_false, Bool.not_true, List.any_cons, List.any_nil, atI_0, setI_0, atI_1, setI_1, atI_2, setI_2, atI_3, setI_3, atI_4, setI_4, atI_5, setI_5, atI_6, setI_6, tAsg, gName, tOp, tUn, tVar, tC, tCons, L2.tNil, tRet, tIfS, tTest, tCB, tCall, rI, rI0, rU, tNext, tB, tAnd, tOr, tNot, tAndV, tOrV, tNotV, tDrop, tIf, tPar, gSub, rIxL, rIxT, rEq, rNe, rSetL, tBits,
    L2.start, List.map_cons, List.map_nil, List.cons_append, List.nil_append, List.append_nil, List.length_cons, List.length_nil, List.replicate, Nat.reduceAdd, Nat.reduceSub, Nat.zero_add, List.getElem?_cons_zero, List.getElem?_cons_succ, List.set_cons_zero, List.set_cons_succ,
    Option.some.injEq, exists_eq_left', exists_eq_left, V.int.injEq, V.bl.injEq, V.ref.injEq, V.str.injEq, List.cons.injEq, reduceCtorEq, and_true, true_and, false_and, and_false, exists_false, or_false, false_or, or_true, true_or, exists_const, CMul, CDiv, CPow, and_assoc, exists_and_left, exists_and_right, Int.reducePow, Int.reduceNeg, Int.reduceLT, Int.reduceLE, Nat.reducePow, Nat.reduceLT, Int.reduceToNat, gt_iff_lt, ge_iff_le, decide_eq_true_eq, Bool.not_eq_true', decide_eq_false_iff_not, scal, ↓reduceIte, Bool.false_eq_true]
  have big : 2 ^ 133 ≤ 2 ^ 8000 := Nat.pow_le_pow_right (by omega) (by omega)
  refine ite2 (fun h => ?_) (fun h => ite2 (fun h' => ?_) (fun h' => ?_))
  · refine ⟨s, rfl, st, fun t H2 ht kp2 st2 => ⟨s, rfl, st2, fun b H3 hb kp3 st3 => ?_⟩⟩
    simp only [abs_if, cx_K, decide_true, decide_false, reduceCtorEq, gTp, gCons, gNil, ca_0, ca_1, ca_2, ca_3, ca_4, ca_5, ca_6, ca_7, ca_8, ca_9, ca_10, ca_11, ca_12, ca_13, ca_14, ca_15, ca_16, ca_17, ca_18, ca_19, ca_20, ca_21, ca_22, ca_23, ca_24, ca_25, ca_26, ca_27, ca_28, ca_29, ca_30, not_true_eq_false, not_false_eq_true, Int.reduceEq, Nat.reduceEqDiff, Nat.reduceLeDiff, rGcd, V.ty.injEq, eq_self, List.not_mem_nil, beq_self_eq_true, HO.lst.injEq, HO.tup.injEq, tFor_eq, iRng1, iList, iTup, nat10, tSeq, rIxA, rSetA, rIsN, rIsT, tTp, tLs, itsO_tup, itsO_lst, tyO_tup, tyO_lst, tyO_dK, tyN_non, tyN_bl, tyN_int, tyN_str, tyN_ref, tyNs_lt, isB, upd_same, upd_upd, sizeLine_eq, List.mem_cons, String.reduceBEq, String.reduceEq, Bool.or_false, Bool.or_true, Bool.and_false, Bool.false_or, Bool.and_self, Bool.false_and, Bool.not_false, Bool.not_true, List.any_cons, List.any_nil, atI_0, setI_0, atI_1, setI_1, atI_2, setI_2, atI_3, setI_3, atI_4, setI_4, atI_5, setI_5, atI_6, setI_6, tAsg, gName, tOp, tUn, tVar, tC, tCons, L2.tNil, tRet, tIfS, tTest, tCB, tCall, rI, rI0, rU, tNext, tB, tAnd, tOr, tNot, tAndV, tOrV, tNotV, tDrop, tIf, tPar, gSub, rIxL, rIxT, rEq, rNe, rSetL, tBits,
    L2.start, List.map_cons, List.map_nil, List.cons_append, List.nil_append, List.append_nil, List.length_cons, List.length_nil, List.replicate, Nat.reduceAdd, Nat.reduceSub, Nat.zero_add, List.getElem?_cons_zero, List.getElem?_cons_succ, List.set_cons_zero, List.set_cons_succ,
    Option.some.injEq, exists_eq_left', exists_eq_left, V.int.injEq, V.bl.injEq, V.ref.injEq, V.str.injEq, List.cons.injEq, reduceCtorEq, and_true, true_and, false_and, and_false, exists_false, or_false, false_or, or_true, true_or, exists_const, CMul, CDiv, CPow, and_assoc, exists_and_left, exists_and_right, Int.reducePow, Int.reduceNeg, Int.reduceLT, Int.reduceLE, Nat.reducePow, Nat.reduceLT, Int.reduceToNat, gt_iff_lt, ge_iff_le, decide_eq_true_eq, Bool.not_eq_true', decide_eq_false_iff_not, scal, ↓reduceIte, Bool.false_eq_true]
    have hd : (if 1 < (b.natAbs : Int) then (b.natAbs : Int) else 1) ≠ 0 ∧ (if 1 < (b.natAbs : Int) then (b.natAbs : Int) else 1).natAbs < 2 ^ 133 := by
      have hb' : b.natAbs < 2 ^ 133 := hb
      split <;> refine ⟨by omega, by omega⟩
    generalize (if 1 < (b.natAbs : Int) then (b.natAbs : Int) else 1) = d at hd ⊢
    refine ⟨_, _, rfl, by omega, fun q hq p H4 s4 o4 => ?_⟩
    have hI := hq.2 hd.1
    exact k p q H4 ⟨o4, hI.1, is_sz hd.1 hI ht hd.2⟩ (((kp.trans kp2).trans kp3).trans (Kp.same s4)) (st3.same s4)
  · refine ⟨s, _, rfl, st, by omega, by omega, fun t H2 t0 t1 kp2 st2 => ⟨s, 1000, rfl, st2, by omega, fun b H3 b0 b1 kp3 st3 => ?_⟩⟩
    simp only [cx_K, decide_true, decide_false, reduceCtorEq, gTp, gCons, gNil, ca_0, ca_1, ca_2, ca_3, ca_4, ca_5, ca_6, ca_7, ca_8, ca_9, ca_10, ca_11, ca_12, ca_13, ca_14, ca_15, ca_16, ca_17, ca_18, ca_19, ca_20, ca_21, ca_22, ca_23, ca_24, ca_25, ca_26, ca_27, ca_28, ca_29, ca_30, not_true_eq_false, not_false_eq_true, Int.reduceEq, Nat.reduceEqDiff, Nat.reduceLeDiff, rGcd, V.ty.injEq, eq_self, List.not_mem_nil, beq_self_eq_true, HO.lst.injEq, HO.tup.injEq, tFor_eq, iRng1, iList, iTup, nat10, tSeq, rIxA, rSetA, rIsN, rIsT, tTp, tLs, itsO_tup, itsO_lst, tyO_tup, tyO_lst, tyO_dK, tyN_non, tyN_bl, tyN_int, tyN_str, tyN_ref, tyNs_lt, isB, upd_same, upd_upd, sizeLine_eq, List.mem_cons, String.reduceBEq, String.reduceEq, Bool.or_false, Bool.or_true, Bool.and_false, Bool.false_or, Bool.and_self, Bool.false_and, Bool.not_false, Bool.not_true, List.any_cons, List.any_nil, atI_0, setI_0, atI_1, setI_1, atI_2, setI_2, atI_3, setI_3, atI_4, setI_4, atI_5, setI_5, atI_6, setI_6, tAsg, gName, tOp, tUn, tVar, tC, tCons, L2.tNil, tRet, tIfS, tTest, tCB, tCall, rI, rI0, rU, tNext, tB, tAnd, tOr, tNot, tAndV, tOrV, tNotV, tDrop, tIf, tPar, gSub, rIxL, rIxT, rEq, rNe, rSetL, tBits,
    L2.start, List.map_cons, List.map_nil, List.cons_append, List.nil_append, List.append_nil, List.length_cons, List.length_nil, List.replicate, Nat.reduceAdd, Nat.reduceSub, Nat.zero_add, List.getElem?_cons_zero, List.getElem?_cons_succ, List.set_cons_zero, List.set_cons_succ,
    Option.some.injEq, exists_eq_left', exists_eq_left, V.int.injEq, V.bl.injEq, V.ref.injEq, V.str.injEq, List.cons.injEq, reduceCtorEq, and_true, true_and, false_and, and_false, exists_false, or_false, false_or, or_true, true_or, exists_const, CMul, CDiv, CPow, and_assoc, exists_and_left, exists_and_right, Int.reducePow, Int.reduceNeg, Int.reduceLT, Int.reduceLE, Nat.reducePow, Nat.reduceLT, Int.reduceToNat, gt_iff_lt, ge_iff_le, decide_eq_true_eq, Bool.not_eq_true', decide_eq_false_iff_not, scal, ↓reduceIte, Bool.false_eq_true]
    refine ⟨_, _, rfl, by omega, fun q hq p H4 s4 o4 => ?_⟩
    have hI := hq.2 (show 1 + b ≠ 0 by omega)
    exact k p q H4 ⟨o4, hI.1, is_sz (by omega) hI (by omega) (by omega)⟩ (((kp.trans kp2).trans kp3).trans (Kp.same s4)) (st3.same s4)
  · exact ⟨s, rfl, st, fun a q H2 hq kp2 st2 => k a q H2 (hq.mono (by omega)) (kp.trans kp2) st2⟩
/-- the script, read alone -/
def spStore (K : PySem.W.Frag) : Sp := fun vs H Q _ => ∃ (a : Addr) (ns : List Int), vs = [.ref a] ∧ SqL K H a (ns.map V.int) ∧ ∀ s H', Same H H' → Sto K H' s → Q (.ref s) H'
def StoreI (a : Addr) (H : Hp) (_ : Nat) (σ : L2.St) (H' : Hp) : Prop := ∃ (v : Int) (y : Option V), σ = [some (.ref a), some (.int v), y] ∧ H' = H
abbrev sStore : Stmt := topS 31
theorem scStore : FnScope ["_law_script", "_law_seed", "_law_cell"] ["_law_script"] (defScope sStore) := ⟨rfl, rfl, rfl, by decide +kernel, rfl, by decide +kernel, by decide +kernel⟩
theorem k_Store (T : Bt K mg) (D : Dfn K mg "_law_store" sStore ["_law_script"]) : Kn P w K mg base 1 "_law_store" ["_law_script"] (spStore K) := by
  refine Kn.mk' D scStore (fun vs H Q E h => ?_) (fun f cdv A outer s H vs Q E hr h => ?_)
  · obtain ⟨a, ns, rfl, _⟩ := h
    rfl
  obtain ⟨a, ns, rfl, hS, k⟩ := h
  refine ⟨_, (pss_cons (ps_set (i := 1) scStore.nd rfl (.inl rfl) (pe_op op_add (pe_callB call_len_seq (by rfl) T.b_len PySem.boot_len (pa_cons (pv 0) pa_nil)) pe_int))
      (pss_cons (ps_for PassesOwn.never rfl (pi_list (pv 0)) (pg_name (i := 2) scStore.nd rfl (.inl rfl)) (pss_one (ps_set (i := 1) scStore.nd rfl (.inl rfl) (pe_op op_mod (pe_op op_add (pe_op op_add (pe_op op_mul (pv 1) pe_int) (pe_op op_mod (pe_callTy call_int1 (by rfl) T.b_int (by decide +kernel) (pa_cons (pv 2) pa_nil)) pe_int)) pe_int) pe_int))))
      (pss_one (ps_ret (pe_ls (pa_cons (pe_callTy call_listK (by rfl) T.b_list (by decide +kernel) (pa_cons (pv 0) pa_nil)) (pa_cons pe_int (pa_cons pe_int (pa_cons pe_int (pa_cons (pv 1) (pa_cons pe_int (pa_cons pe_int pa_nil)))))))))))), ?_⟩
  simp only [cx_K, decide_true, decide_false, reduceCtorEq, gTp, gCons, gNil, ca_0, ca_1, ca_2, ca_3, ca_4, ca_5, ca_6, ca_7, ca_8, ca_9, ca_10, ca_11, ca_12, ca_13, ca_14, ca_15, ca_16, ca_17, ca_18, ca_19, ca_20, ca_21, ca_22, ca_23, ca_24, ca_25, ca_26, ca_27, ca_28, ca_29, ca_30, not_true_eq_false, not_false_eq_true, Int.reduceEq, Nat.reduceEqDiff, Nat.reduceLeDiff, rGcd, V.ty.injEq, eq_self, List.not_mem_nil, beq_self_eq_true, HO.lst.injEq, HO.tup.injEq, tFor_eq, iRng1, iList, iTup, nat10, tSeq, rIxA, rSetA, rIsN, rIsT, tTp, tLs, itsO_tup, itsO_lst, tyO_tup, tyO_lst, tyO_dK, tyN_non, tyN_bl, tyN_int, tyN_str, tyN_ref, tyNs_lt, isB, upd_same, upd_upd, sizeLine_eq, List.mem_cons, String.reduceBEq, String.reduceEq, Bool.or_false, Bool.or_true, Bool.and_false, Bool.false_or, Bool.and_self, Bool.false_and, Bool.not_false, Bool.not_true, List.any_cons, List.any_nil, atI_0, setI_0, atI_1, setI_1, atI_2, setI_2, atI_3, setI_3, atI_4, setI_4, atI_5, setI_5, atI_6, setI_6, tAsg, gName, tOp, tUn, tVar, tC, tCons, L2.tNil, tRet, tIfS, tTest, tCB, tCall, rI, rI0, rU, tNext, tB, tAnd, tOr, tNot, tAndV, tOrV, tNotV, tDrop, tIf, tPar, gSub, rIxL, rIxT, rEq, rNe, rSetL, tBits,
    L2.start, List.map_cons, List.map_nil, List.cons_append, List.nil_append, List.append_nil, List.length_cons, List.length_nil, List.replicate, Nat.reduceAdd, Nat.reduceSub, Nat.zero_add, List.getElem?_cons_zero, List.getElem?_cons_succ, List.set_cons_zero, List.set_cons_succ,
    Option.some.injEq, exists_eq_left', exists_eq_left, V.int.injEq, V.bl.injEq, V.ref.injEq, V.str.injEq, List.cons.injEq, reduceCtorEq, and_true, true_and, false_and, and_false, exists_false, or_false, false_or, or_true, true_or, exists_const, CMul, CDiv, CPow, and_assoc, exists_and_left, exists_and_right, Int.reducePow, Int.reduceNeg, Int.reduceLT, Int.reduceLE, Nat.reducePow, Nat.reduceLT, Int.reduceToNat, gt_iff_lt, ge_iff_le, decide_eq_true_eq, Bool.not_eq_true', decide_eq_false_iff_not, scal, ↓reduceIte, Bool.false_eq_true]
  refine ⟨_, .inl hS, ⟨_, hS⟩, forI_list (xs := ns.map V.int) (StoreI a H) ⟨_, none, rfl, rfl⟩ ?_ ?_ ?_⟩
  · rintro i σ H' _ ⟨v, y, rfl, rfl⟩
    exact hS
  · rintro i x σ H' hi ⟨v, y, rfl, rfl⟩
    obtain ⟨z, rfl⟩ : ∃ z, x = V.int z := by
      rw [List.getElem?_map] at hi
      cases e : ns[i]? with
      | none => rw [e] at hi; cases hi
      | some z => rw [e] at hi; exact ⟨z, (Option.some.inj hi).symm⟩
    simp only [cx_K, decide_true, decide_false, reduceCtorEq, gTp, gCons, gNil, ca_0, ca_1, ca_2, ca_3, ca_4, ca_5, ca_6, ca_7, ca_8, ca_9, ca_10, ca_11, ca_12, ca_13, ca_14, ca_15, ca_16, ca_17, ca_18, ca_19, ca_20, ca_21, ca_22, ca_23, ca_24, ca_25, ca_26, ca_27, ca_28, ca_29, ca_30, not_true_eq_false, not_false_eq_true, Int.reduceEq, Nat.reduceEqDiff, Nat.reduceLeDiff, rGcd, V.ty.injEq, eq_self, List.not_mem_nil, beq_self_eq_true, HO.lst.injEq, HO.tup.injEq, tFor_eq, iRng1, iList, iTup, nat10, tSeq, rIxA, rSetA, rIsN, rIsT, tTp, tLs, itsO_tup, itsO_lst, tyO_tup, tyO_lst, tyO_dK, tyN_non, tyN_bl, tyN_int, tyN_str, tyN_ref, tyNs_lt, isB, upd_same, upd_upd, sizeLine_eq, List.mem_cons, String.reduceBEq, String.reduceEq, Bool.or_false, Bool.or_true, Bool.and_false, Bool.false_or, Bool.and_self, Bool.false_and, Bool.not_false, Bool.not_true, List.any_cons, List.any_nil, atI_0, setI_0, atI_1, setI_1, atI_2, setI_2, atI_3, setI_3, atI_4, setI_4, atI_5, setI_5, atI_6, setI_6, tAsg, gName, tOp, tUn, tVar, tC, tCons, L2.tNil, tRet, tIfS, tTest, tCB, tCall, rI, rI0, rU, tNext, tB, tAnd, tOr, tNot, tAndV, tOrV, tNotV, tDrop, tIf, tPar, gSub, rIxL, rIxT, rEq, rNe, rSetL, tBits,
    L2.start, List.map_cons, List.map_nil, List.cons_append, List.nil_append, List.append_nil, List.length_cons, List.length_nil, List.replicate, Nat.reduceAdd, Nat.reduceSub, Nat.zero_add, List.getElem?_cons_zero, List.getElem?_cons_succ, List.set_cons_zero, List.set_cons_succ,
    Option.some.injEq, exists_eq_left', exists_eq_left, V.int.injEq, V.bl.injEq, V.ref.injEq, V.str.injEq, List.cons.injEq, reduceCtorEq, and_true, true_and, false_and, and_false, exists_false, or_false, false_or, or_true, true_or, exists_const, CMul, CDiv, CPow, and_assoc, exists_and_left, exists_and_right, Int.reducePow, Int.reduceNeg, Int.reduceLT, Int.reduceLE, Nat.reducePow, Nat.reduceLT, Int.reduceToNat, gt_iff_lt, ge_iff_le, decide_eq_true_eq, Bool.not_eq_true', decide_eq_false_iff_not, scal, ↓reduceIte, Bool.false_eq_true]
    exact ⟨_, _, rfl, rfl⟩
  · rintro σ H' ⟨v, y, rfl, rfl⟩
    simp only [cx_K, decide_true, decide_false, reduceCtorEq, gTp, gCons, gNil, ca_0, ca_1, ca_2, ca_3, ca_4, ca_5, ca_6, ca_7, ca_8, ca_9, ca_10, ca_11, ca_12, ca_13, ca_14, ca_15, ca_16, ca_17, ca_18, ca_19, ca_20, ca_21, ca_22, ca_23, ca_24, ca_25, ca_26, ca_27, ca_28, ca_29, ca_30, not_true_eq_false, not_false_eq_true, Int.reduceEq, Nat.reduceEqDiff, Nat.reduceLeDiff, rGcd, V.ty.injEq, eq_self, List.not_mem_nil, beq_self_eq_true, HO.lst.injEq, HO.tup.injEq, tFor_eq, iRng1, iList, iTup, nat10, tSeq, rIxA, rSetA, rIsN, rIsT, tTp, tLs, itsO_tup, itsO_lst, tyO_tup, tyO_lst, tyO_dK, tyN_non, tyN_bl, tyN_int, tyN_str, tyN_ref, tyNs_lt, isB, upd_same, upd_upd, sizeLine_eq, List.mem_cons, String.reduceBEq, String.reduceEq, Bool.or_false, Bool.or_true, Bool.and_false, Bool.false_or, Bool.and_self, Bool.false_and, Bool.not_false, Bool.not_true, List.any_cons, List.any_nil, atI_0, setI_0, atI_1, setI_1, atI_2, setI_2, atI_3, setI_3, atI_4, setI_4, atI_5, setI_5, atI_6, setI_6, tAsg, gName, tOp, tUn, tVar, tC, tCons, L2.tNil, tRet, tIfS, tTest, tCB, tCall, rI, rI0, rU, tNext, tB, tAnd, tOr, tNot, tAndV, tOrV, tNotV, tDrop, tIf, tPar, gSub, rIxL, rIxT, rEq, rNe, rSetL, tBits,
    L2.start, List.map_cons, List.map_nil, List.cons_append, List.nil_append, List.append_nil, List.length_cons, List.length_nil, List.replicate, Nat.reduceAdd, Nat.reduceSub, Nat.zero_add, List.getElem?_cons_zero, List.getElem?_cons_succ, List.set_cons_zero, List.set_cons_succ,
    Option.some.injEq, exists_eq_left', exists_eq_left, V.int.injEq, V.bl.injEq, V.ref.injEq, V.str.injEq, List.cons.injEq, reduceCtorEq, and_true, true_and, false_and, and_false, exists_false, or_false, false_or, or_true, true_or, exists_const, CMul, CDiv, CPow, and_assoc, exists_and_left, exists_and_right, Int.reducePow, Int.reduceNeg, Int.reduceLT, Int.reduceLE, Nat.reducePow, Nat.reduceLT, Int.reduceToNat, gt_iff_lt, ge_iff_le, decide_eq_true_eq, Bool.not_eq_true', decide_eq_false_iff_not, scal, ↓reduceIte, Bool.false_eq_true]
    refine ⟨_, .inl hS, fun l hl kl => ?_⟩
    intro s hs ks
    have s1 := Same.new hl (.lst (ns.map V.int))
    have e1 : upd H' l (.lst (ns.map V.int)) l = some (.lst (ns.map V.int)) := upd_same
    have n1 : s ≠ l := by rintro rfl; rw [upd_same] at hs; cases hs
    exact k s _ (s1.trans (Same.new hs _)) ⟨l, ns, 0, 0, 0, v, 0, 0, upd_same, by rw [upd_ne (Ne.symm n1)]; exact e1, n1, Int.le_refl 0, ks, kl⟩
end
end My

namespace My
open PySem PySem.Spec PyProof.Rows L2
section
variable {P : Program} {w : World} {K : PySem.W.Frag} {mg : Str → Option Value} {base : Heap}
/-- the same data, n levels deep at most -/
def scv : V → Bool
  | .non => true
  | .bl _ => true
  | .int _ => true
  | .str _ => true
  | _ => false
def Eqv (K : PySem.W.Frag) (H : Hp) : Nat → V → V → Prop
  | 0, x, y => x = y ∧ scv x = true
  | n + 1, x, y => (x = y ∧ scv x = true) ∨ ∃ (a b : Addr) (xs ys : List V), x = .ref a ∧ y = .ref b ∧ ((ob K H a = some (.tup xs) ∧ ob K H b = some (.tup ys)) ∨ (ob K H a = some (.lst xs) ∧ ob K H b = some (.lst ys))) ∧ xs.length = ys.length ∧ ys.length ≤ 1000 ∧
      ∀ (i : Nat) x y, xs[i]? = some x → ys[i]? = some y → Eqv K H n x y
theorem Eqv.same {H H' : Hp} (e : Same H H') : ∀ {n : Nat} {x y : V}, Eqv K H n x y → Eqv K H' n x y
  | 0, _, _, h => h
  | n + 1, x, y, .inl h => .inl h
  | n + 1, x, y, .inr ⟨a, b, xs, ys, h1, h2, h3, h4, h5, h6⟩ =>
    .inr ⟨a, b, xs, ys, h1, h2, h3.imp (fun z => ⟨ob_same e z.1, ob_same e z.2⟩) (fun z => ⟨ob_same e z.1, ob_same e z.2⟩), h4, h5, fun i x y hx hy => (h6 i x y hx hy).same e⟩
theorem Eqv.up {H : Hp} : ∀ {n : Nat} {x y : V}, Eqv K H n x y → Eqv K H (n + 1) x y
  | 0, _, _, h => .inl h
  | n + 1, x, y, .inl h => .inl h
  | n + 1, x, y, .inr ⟨a, b, xs, ys, h1, h2, h3, h4, h5, h6⟩ => .inr ⟨a, b, xs, ys, h1, h2, h3, h4, h5, fun i x y hx hy => (h6 i x y hx hy).up⟩
def spSame (K : PySem.W.Frag) : Nat → Sp
  | 0 => fun _ _ _ _ => False
  | n + 1 => fun vs H Q _ => ∃ x y, vs = [x, y] ∧ Eqv K H n x y ∧ ∀ H', Same H H' → Q (.bl true) H'
theorem Eqv.split {H : Hp} {n : Nat} {x y : V} (h : Eqv K H n x y) : (x = y ∧ scv x = true) ∨ ∃ m, n = m + 1 ∧ ∃ (a b : Addr) (xs ys : List V), x = .ref a ∧ y = .ref b ∧ ((ob K H a = some (.tup xs) ∧ ob K H b = some (.tup ys)) ∨ (ob K H a = some (.lst xs) ∧ ob K H b = some (.lst ys))) ∧ xs.length = ys.length ∧ ys.length ≤ 1000 ∧
    ∀ (i : Nat) x y, xs[i]? = some x → ys[i]? = some y → Eqv K H m x y := by
  cases n with
  | zero => exact .inl h
  | succ m =>
    rcases h with h | h
    · exact .inl h
    · exact .inr ⟨m, rfl, h⟩
def SameI (H : Hp) (a b : Addr) (_ : Nat) (σ : L2.St) (H' : Hp) : Prop := ∃ z, σ = [some (.ref a), some (.ref b), z] ∧ Same H H'
theorem Kn.none {x : Str} {ps : List Str} {st : Stmt} (D : Dfn K mg x st ps) : Kn P w K mg base 0 x ps (fun _ _ _ _ => False) := by
  obtain ⟨f, fd, F, m, b⟩ := D.ex
  exact ⟨f, fd, m, F.kp, b, ⟨fun vs H Q E h => h.elim, fun A outer s H args us vs Q E _ _ _ _ h => h.elim⟩⟩
abbrev sSame : Stmt := topS 44
theorem scSame : FnScope ["_law_told", "_law_due", "_law_k"] ["_law_told", "_law_due"] (defScope sSame) := ⟨rfl, rfl, rfl, by decide +kernel, rfl, by decide +kernel, by decide +kernel⟩
theorem k_Same (n : Nat) (T : Bt K mg) (D : Dfn K mg "_law_same" sSame ["_law_told", "_law_due"]) (d__law_is_whole : Kn P w K mg base 1 "_law_is_whole" ["_law_told"] (spWhole K)) (d__law_same : Kn P w K mg base (n + 1) "_law_same" ["_law_told", "_law_due"] (spSame K n)) : Kn P w K mg base (n + 2) "_law_same" ["_law_told", "_law_due"] (spSame K (n + 1)) := by
  refine Kn.mk' D scSame (fun vs H Q E h => ?_) (fun f cdv A outer s H vs Q E hr h => ?_)
  · obtain ⟨x, y, rfl, _⟩ := h
    rfl
  obtain ⟨x, y, rfl, he, k⟩ := h
  refine ⟨_, (pss_cons (ps_if (pt_cmpR op_isN (pv 1) pe_non (nomark _)) (pss_one (ps_ret (pe_cmpR op_isN (pv 0) pe_non (nomark _)))) pss_nil)
      (pss_cons (ps_if (pt_val (pe_callB call_isN (by rfl) T.b_isinstance (by decide +kernel) (pa_cons (pv 1) (pa_cons (pe_bltn (v := .ty "bool") (by rfl) T.b_bool (by decide +kernel) rfl) pa_nil)))) (pss_one (ps_ret (pe_and (pe_callB call_isN (by rfl) T.b_isinstance (by decide +kernel) (pa_cons (pv 0) (pa_cons (pe_bltn (v := .ty "bool") (by rfl) T.b_bool (by decide +kernel) rfl) pa_nil))) (pe_one (pe_cmpR op_eq (pv 0) (pv 1) (nomark _)))))) pss_nil)
      (pss_cons (ps_if (pt_val (pe_callB call_isN (by rfl) T.b_isinstance (by decide +kernel) (pa_cons (pv 1) (pa_cons (pe_bltn (v := .ty "int") (by rfl) T.b_int (by decide +kernel) rfl) pa_nil)))) (pss_one (ps_ret (pe_and (pe_kn d__law_is_whole hr (by rfl) (pa_cons (pv 0) pa_nil)) (pe_one (pe_cmpR op_eq (pv 0) (pv 1) (nomark _)))))) pss_nil)
      (pss_cons (ps_if (pt_val (pe_callB call_isN (by rfl) T.b_isinstance (by decide +kernel) (pa_cons (pv 1) (pa_cons (pe_bltn (v := .ty "str") (by rfl) T.b_str (by decide +kernel) rfl) pa_nil)))) (pss_one (ps_ret (pe_and (pe_callB call_isN (by rfl) T.b_isinstance (by decide +kernel) (pa_cons (pv 0) (pa_cons (pe_bltn (v := .ty "str") (by rfl) T.b_str (by decide +kernel) rfl) pa_nil))) (pe_one (pe_cmpR op_eq (pv 0) (pv 1) (nomark _)))))) pss_nil)
      (pss_cons (ps_if (pt_val (pe_callB call_isN (by rfl) T.b_isinstance (by decide +kernel) (pa_cons (pv 1) (pa_cons (pe_bltn (v := .ty "dict") (by rfl) T.b_dict (by decide +kernel) rfl) pa_nil)))) (pss_cons (ps_if (PW.pt (pw_or (pt_not (pt_val (pe_callB call_isN (by rfl) T.b_isinstance (by decide +kernel) (pa_cons (pv 0) (pa_cons (pe_bltn (v := .ty "dict") (by rfl) T.b_dict (by decide +kernel) rfl) pa_nil))))) (pw_or1 (pt_not (pt_val (pe_kn d__law_same hr (by rfl) (pa_cons (pe_callTy call_list_of (by rfl) T.b_list (by decide +kernel) (pa_cons (pv 0) pa_nil)) (pa_cons (pe_callTy call_list_of (by rfl) T.b_list (by decide +kernel) (pa_cons (pv 1) pa_nil)) pa_nil)))))))) (pss_one (ps_ret pe_bl)) pss_nil)
      (pss_one ps_never)) pss_nil)
      (pss_cons (ps_if (PW.pt (pw_and (pt_val (pe_callB call_isN (by rfl) T.b_isinstance (by decide +kernel) (pa_cons (pv 1) (pa_cons (pe_bltn (v := .ty "list") (by rfl) T.b_list (by decide +kernel) rfl) pa_nil)))) (pw_and1 (pt_not (pt_val (pe_callB call_isN (by rfl) T.b_isinstance (by decide +kernel) (pa_cons (pv 0) (pa_cons (pe_bltn (v := .ty "list") (by rfl) T.b_list (by decide +kernel) rfl) pa_nil)))))))) (pss_one (ps_ret pe_bl)) pss_nil)
      (pss_cons (ps_if (PW.pt (pw_and (pt_val (pe_callB call_isN (by rfl) T.b_isinstance (by decide +kernel) (pa_cons (pv 1) (pa_cons (pe_bltn (v := .ty "tuple") (by rfl) T.b_tuple (by decide +kernel) rfl) pa_nil)))) (pw_and1 (pt_not (pt_val (pe_callB call_isN (by rfl) T.b_isinstance (by decide +kernel) (pa_cons (pv 0) (pa_cons (pe_bltn (v := .ty "tuple") (by rfl) T.b_tuple (by decide +kernel) rfl) pa_nil)))))))) (pss_one (ps_ret pe_bl)) pss_nil)
      (pss_cons (ps_if (PW.pt (pw_or (pt_not (pt_val (pe_callB call_isT (by rfl) T.b_isinstance (by decide +kernel) (pa_cons (pv 1) (pa_cons (pe_tp (pa_cons (pe_bltn (v := .ty "list") (by rfl) T.b_list (by decide +kernel) rfl) (pa_cons (pe_bltn (v := .ty "tuple") (by rfl) T.b_tuple (by decide +kernel) rfl) pa_nil))) pa_nil))))) (pw_or1 (pt_cmpR op_ne (pe_callB call_lenA (by rfl) T.b_len PySem.boot_len (pa_cons (pv 0) pa_nil)) (pe_callB call_lenA (by rfl) T.b_len PySem.boot_len (pa_cons (pv 1) pa_nil)) (nomark _))))) (pss_one (ps_ret pe_bl)) pss_nil)
      (pss_cons (ps_for PassesOwn.never rfl (pi_range1 (by rfl) T.b_range (pa_cons (pe_callB call_lenA (by rfl) T.b_len PySem.boot_len (pa_cons (pv 1) pa_nil)) pa_nil)) (pg_name (i := 2) scSame.nd rfl (.inl rfl)) (pss_one (ps_if (pt_not (pt_val (pe_kn d__law_same hr (by rfl) (pa_cons (pe_ix ix_any (pv 0) (pv 2) (fun _ _ => rfl)) (pa_cons (pe_ix ix_any (pv 1) (pv 2) (fun _ _ => rfl)) pa_nil))))) (pss_one (ps_ret pe_bl)) pss_nil)))
      (pss_one (ps_ret pe_bl))))))))))), ?_⟩
  rcases he.split with ⟨rfl, hsc⟩ | ⟨m, rfl, a, b, xs, ys, rfl, rfl, ho, hl, h1000, hi⟩
  · cases x with
    | non =>
      simp only [cx_K, decide_true, decide_false, reduceCtorEq, gTp, gCons, gNil, ca_0, ca_1, ca_2, ca_3, ca_4, ca_5, ca_6, ca_7, ca_8, ca_9, ca_10, ca_11, ca_12, ca_13, ca_14, ca_15, ca_16, ca_17, ca_18, ca_19, ca_20, ca_21, ca_22, ca_23, ca_24, ca_25, ca_26, ca_27, ca_28, ca_29, ca_30, not_true_eq_false, not_false_eq_true, Int.reduceEq, Nat.reduceEqDiff, Nat.reduceLeDiff, rGcd, V.ty.injEq, eq_self, List.not_mem_nil, beq_self_eq_true, HO.lst.injEq, HO.tup.injEq, tFor_eq, iRng1, iList, iTup, nat10, tSeq, rIxA, rSetA, rIsN, rIsT, tTp, tLs, itsO_tup, itsO_lst, tyO_tup, tyO_lst, tyO_dK, tyN_non, tyN_bl, tyN_int, tyN_str, tyN_ref, tyNs_lt, isB, upd_same, upd_upd, sizeLine_eq, List.mem_cons, String.reduceBEq, String.reduceEq, Bool.or_false, Bool.or_true, Bool.and_false, Bool.false_or, Bool.and_self, Bool.false_and, Bool.not_false, Bool.not_true, List.any_cons, List.any_nil, atI_0, setI_0, atI_1, setI_1, atI_2, setI_2, atI_3, setI_3, atI_4, setI_4, atI_5, setI_5, atI_6, setI_6, tAsg, gName, tOp, tUn, tVar, tC, tCons, L2.tNil, tRet, tIfS, tTest, tCB, tCall, rI, rI0, rU, tNext, tB, tAnd, tOr, tNot, tAndV, tOrV, tNotV, tDrop, tIf, tPar, gSub, rIxL, rIxT, rEq, rNe, rSetL, tBits,
    L2.start, List.map_cons, List.map_nil, List.cons_append, List.nil_append, List.append_nil, List.length_cons, List.length_nil, List.replicate, Nat.reduceAdd, Nat.reduceSub, Nat.zero_add, List.getElem?_cons_zero, List.getElem?_cons_succ, List.set_cons_zero, List.set_cons_succ,
    Option.some.injEq, exists_eq_left', exists_eq_left, V.int.injEq, V.bl.injEq, V.ref.injEq, V.str.injEq, List.cons.injEq, reduceCtorEq, and_true, true_and, false_and, and_false, exists_false, or_false, false_or, or_true, true_or, exists_const, CMul, CDiv, CPow, and_assoc, exists_and_left, exists_and_right, Int.reducePow, Int.reduceNeg, Int.reduceLT, Int.reduceLE, Nat.reducePow, Nat.reduceLT, Int.reduceToNat, gt_iff_lt, ge_iff_le, decide_eq_true_eq, Bool.not_eq_true', decide_eq_false_iff_not, scal, ↓reduceIte, Bool.false_eq_true]
      exact k H (Same.refl H)
    | bl b =>
      simp only [cx_K, decide_true, decide_false, reduceCtorEq, gTp, gCons, gNil, ca_0, ca_1, ca_2, ca_3, ca_4, ca_5, ca_6, ca_7, ca_8, ca_9, ca_10, ca_11, ca_12, ca_13, ca_14, ca_15, ca_16, ca_17, ca_18, ca_19, ca_20, ca_21, ca_22, ca_23, ca_24, ca_25, ca_26, ca_27, ca_28, ca_29, ca_30, not_true_eq_false, not_false_eq_true, Int.reduceEq, Nat.reduceEqDiff, Nat.reduceLeDiff, rGcd, V.ty.injEq, eq_self, List.not_mem_nil, beq_self_eq_true, HO.lst.injEq, HO.tup.injEq, tFor_eq, iRng1, iList, iTup, nat10, tSeq, rIxA, rSetA, rIsN, rIsT, tTp, tLs, itsO_tup, itsO_lst, tyO_tup, tyO_lst, tyO_dK, tyN_non, tyN_bl, tyN_int, tyN_str, tyN_ref, tyNs_lt, isB, upd_same, upd_upd, sizeLine_eq, List.mem_cons, String.reduceBEq, String.reduceEq, Bool.or_false, Bool.or_true, Bool.and_false, Bool.false_or, Bool.and_self, Bool.false_and, Bool.not_false, Bool.not_true, List.any_cons, List.any_nil, atI_0, setI_0, atI_1, setI_1, atI_2, setI_2, atI_3, setI_3, atI_4, setI_4, atI_5, setI_5, atI_6, setI_6, tAsg, gName, tOp, tUn, tVar, tC, tCons, L2.tNil, tRet, tIfS, tTest, tCB, tCall, rI, rI0, rU, tNext, tB, tAnd, tOr, tNot, tAndV, tOrV, tNotV, tDrop, tIf, tPar, gSub, rIxL, rIxT, rEq, rNe, rSetL, tBits,
    L2.start, List.map_cons, List.map_nil, List.cons_append, List.nil_append, List.append_nil, List.length_cons, List.length_nil, List.replicate, Nat.reduceAdd, Nat.reduceSub, Nat.zero_add, List.getElem?_cons_zero, List.getElem?_cons_succ, List.set_cons_zero, List.set_cons_succ,
    Option.some.injEq, exists_eq_left', exists_eq_left, V.int.injEq, V.bl.injEq, V.ref.injEq, V.str.injEq, List.cons.injEq, reduceCtorEq, and_true, true_and, false_and, and_false, exists_false, or_false, false_or, or_true, true_or, exists_const, CMul, CDiv, CPow, and_assoc, exists_and_left, exists_and_right, Int.reducePow, Int.reduceNeg, Int.reduceLT, Int.reduceLE, Nat.reducePow, Nat.reduceLT, Int.reduceToNat, gt_iff_lt, ge_iff_le, decide_eq_true_eq, Bool.not_eq_true', decide_eq_false_iff_not, scal, ↓reduceIte, Bool.false_eq_true]
      exact k H (Same.refl H)
    | int i =>
      simp only [cx_K, decide_true, decide_false, reduceCtorEq, gTp, gCons, gNil, ca_0, ca_1, ca_2, ca_3, ca_4, ca_5, ca_6, ca_7, ca_8, ca_9, ca_10, ca_11, ca_12, ca_13, ca_14, ca_15, ca_16, ca_17, ca_18, ca_19, ca_20, ca_21, ca_22, ca_23, ca_24, ca_25, ca_26, ca_27, ca_28, ca_29, ca_30, not_true_eq_false, not_false_eq_true, Int.reduceEq, Nat.reduceEqDiff, Nat.reduceLeDiff, rGcd, V.ty.injEq, eq_self, List.not_mem_nil, beq_self_eq_true, HO.lst.injEq, HO.tup.injEq, tFor_eq, iRng1, iList, iTup, nat10, tSeq, rIxA, rSetA, rIsN, rIsT, tTp, tLs, itsO_tup, itsO_lst, tyO_tup, tyO_lst, tyO_dK, tyN_non, tyN_bl, tyN_int, tyN_str, tyN_ref, tyNs_lt, isB, upd_same, upd_upd, sizeLine_eq, List.mem_cons, String.reduceBEq, String.reduceEq, Bool.or_false, Bool.or_true, Bool.and_false, Bool.false_or, Bool.and_self, Bool.false_and, Bool.not_false, Bool.not_true, List.any_cons, List.any_nil, atI_0, setI_0, atI_1, setI_1, atI_2, setI_2, atI_3, setI_3, atI_4, setI_4, atI_5, setI_5, atI_6, setI_6, tAsg, gName, tOp, tUn, tVar, tC, tCons, L2.tNil, tRet, tIfS, tTest, tCB, tCall, rI, rI0, rU, tNext, tB, tAnd, tOr, tNot, tAndV, tOrV, tNotV, tDrop, tIf, tPar, gSub, rIxL, rIxT, rEq, rNe, rSetL, tBits,
    L2.start, List.map_cons, List.map_nil, List.cons_append, List.nil_append, List.append_nil, List.length_cons, List.length_nil, List.replicate, Nat.reduceAdd, Nat.reduceSub, Nat.zero_add, List.getElem?_cons_zero, List.getElem?_cons_succ, List.set_cons_zero, List.set_cons_succ,
    Option.some.injEq, exists_eq_left', exists_eq_left, V.int.injEq, V.bl.injEq, V.ref.injEq, V.str.injEq, List.cons.injEq, reduceCtorEq, and_true, true_and, false_and, and_false, exists_false, or_false, false_or, or_true, true_or, exists_const, CMul, CDiv, CPow, and_assoc, exists_and_left, exists_and_right, Int.reducePow, Int.reduceNeg, Int.reduceLT, Int.reduceLE, Nat.reducePow, Nat.reduceLT, Int.reduceToNat, gt_iff_lt, ge_iff_le, decide_eq_true_eq, Bool.not_eq_true', decide_eq_false_iff_not, scal, ↓reduceIte, Bool.false_eq_true]
      exact ⟨_, rfl, rfl, true, rfl, k H (Same.refl H)⟩
    | str z =>
      simp only [cx_K, decide_true, decide_false, reduceCtorEq, gTp, gCons, gNil, ca_0, ca_1, ca_2, ca_3, ca_4, ca_5, ca_6, ca_7, ca_8, ca_9, ca_10, ca_11, ca_12, ca_13, ca_14, ca_15, ca_16, ca_17, ca_18, ca_19, ca_20, ca_21, ca_22, ca_23, ca_24, ca_25, ca_26, ca_27, ca_28, ca_29, ca_30, not_true_eq_false, not_false_eq_true, Int.reduceEq, Nat.reduceEqDiff, Nat.reduceLeDiff, rGcd, V.ty.injEq, eq_self, List.not_mem_nil, beq_self_eq_true, HO.lst.injEq, HO.tup.injEq, tFor_eq, iRng1, iList, iTup, nat10, tSeq, rIxA, rSetA, rIsN, rIsT, tTp, tLs, itsO_tup, itsO_lst, tyO_tup, tyO_lst, tyO_dK, tyN_non, tyN_bl, tyN_int, tyN_str, tyN_ref, tyNs_lt, isB, upd_same, upd_upd, sizeLine_eq, List.mem_cons, String.reduceBEq, String.reduceEq, Bool.or_false, Bool.or_true, Bool.and_false, Bool.false_or, Bool.and_self, Bool.false_and, Bool.not_false, Bool.not_true, List.any_cons, List.any_nil, atI_0, setI_0, atI_1, setI_1, atI_2, setI_2, atI_3, setI_3, atI_4, setI_4, atI_5, setI_5, atI_6, setI_6, tAsg, gName, tOp, tUn, tVar, tC, tCons, L2.tNil, tRet, tIfS, tTest, tCB, tCall, rI, rI0, rU, tNext, tB, tAnd, tOr, tNot, tAndV, tOrV, tNotV, tDrop, tIf, tPar, gSub, rIxL, rIxT, rEq, rNe, rSetL, tBits,
    L2.start, List.map_cons, List.map_nil, List.cons_append, List.nil_append, List.append_nil, List.length_cons, List.length_nil, List.replicate, Nat.reduceAdd, Nat.reduceSub, Nat.zero_add, List.getElem?_cons_zero, List.getElem?_cons_succ, List.set_cons_zero, List.set_cons_succ,
    Option.some.injEq, exists_eq_left', exists_eq_left, V.int.injEq, V.bl.injEq, V.ref.injEq, V.str.injEq, List.cons.injEq, reduceCtorEq, and_true, true_and, false_and, and_false, exists_false, or_false, false_or, or_true, true_or, exists_const, CMul, CDiv, CPow, and_assoc, exists_and_left, exists_and_right, Int.reducePow, Int.reduceNeg, Int.reduceLT, Int.reduceLE, Nat.reducePow, Nat.reduceLT, Int.reduceToNat, gt_iff_lt, ge_iff_le, decide_eq_true_eq, Bool.not_eq_true', decide_eq_false_iff_not, scal, ↓reduceIte, Bool.false_eq_true]
      exact k H (Same.refl H)
    | _ => cases hsc
  rcases ho with ⟨oa, oc⟩ | ⟨oa, oc⟩
  · simp only [oa, oc, cx_K, decide_true, decide_false, reduceCtorEq, gTp, gCons, gNil, ca_0, ca_1, ca_2, ca_3, ca_4, ca_5, ca_6, ca_7, ca_8, ca_9, ca_10, ca_11, ca_12, ca_13, ca_14, ca_15, ca_16, ca_17, ca_18, ca_19, ca_20, ca_21, ca_22, ca_23, ca_24, ca_25, ca_26, ca_27, ca_28, ca_29, ca_30, not_true_eq_false, not_false_eq_true, Int.reduceEq, Nat.reduceEqDiff, Nat.reduceLeDiff, rGcd, V.ty.injEq, eq_self, List.not_mem_nil, beq_self_eq_true, HO.lst.injEq, HO.tup.injEq, tFor_eq, iRng1, iList, iTup, nat10, tSeq, rIxA, rSetA, rIsN, rIsT, tTp, tLs, itsO_tup, itsO_lst, tyO_tup, tyO_lst, tyO_dK, tyN_non, tyN_bl, tyN_int, tyN_str, tyN_ref, tyNs_lt, isB, upd_same, upd_upd, sizeLine_eq, List.mem_cons, String.reduceBEq, String.reduceEq, Bool.or_false, Bool.or_true, Bool.and_false, Bool.false_or, Bool.and_self, Bool.false_and, Bool.not_false, Bool.not_true, List.any_cons, List.any_nil, atI_0, setI_0, atI_1, setI_1, atI_2, setI_2, atI_3, setI_3, atI_4, setI_4, atI_5, setI_5, atI_6, setI_6, tAsg, gName, tOp, tUn, tVar, tC, tCons, L2.tNil, tRet, tIfS, tTest, tCB, tCall, rI, rI0, rU, tNext, tB, tAnd, tOr, tNot, tAndV, tOrV, tNotV, tDrop, tIf, tPar, gSub, rIxL, rIxT, rEq, rNe, rSetL, tBits,
    L2.start, List.map_cons, List.map_nil, List.cons_append, List.nil_append, List.append_nil, List.length_cons, List.length_nil, List.replicate, Nat.reduceAdd, Nat.reduceSub, Nat.zero_add, List.getElem?_cons_zero, List.getElem?_cons_succ, List.set_cons_zero, List.set_cons_succ,
    Option.some.injEq, exists_eq_left', exists_eq_left, V.int.injEq, V.bl.injEq, V.ref.injEq, V.str.injEq, List.cons.injEq, reduceCtorEq, and_true, true_and, false_and, and_false, exists_false, or_false, false_or, or_true, true_or, exists_const, CMul, CDiv, CPow, and_assoc, exists_and_left, exists_and_right, Int.reducePow, Int.reduceNeg, Int.reduceLT, Int.reduceLE, Nat.reducePow, Nat.reduceLT, Int.reduceToNat, gt_iff_lt, ge_iff_le, decide_eq_true_eq, Bool.not_eq_true', decide_eq_false_iff_not, scal, ↓reduceIte, Bool.false_eq_true]
    intro p hp kp
    have s1 := Same.new hp (.tup [V.ty "list", V.ty "tuple"])
    generalize upd H p (.tup [V.ty "list", V.ty "tuple"]) = H1 at s1 ⊢
    have oa1 := ob_same s1 oa
    have oc1 := ob_same s1 oc
    simp only [oa1, oc1, cx_K, decide_true, decide_false, reduceCtorEq, gTp, gCons, gNil, ca_0, ca_1, ca_2, ca_3, ca_4, ca_5, ca_6, ca_7, ca_8, ca_9, ca_10, ca_11, ca_12, ca_13, ca_14, ca_15, ca_16, ca_17, ca_18, ca_19, ca_20, ca_21, ca_22, ca_23, ca_24, ca_25, ca_26, ca_27, ca_28, ca_29, ca_30, not_true_eq_false, not_false_eq_true, Int.reduceEq, Nat.reduceEqDiff, Nat.reduceLeDiff, rGcd, V.ty.injEq, eq_self, List.not_mem_nil, beq_self_eq_true, HO.lst.injEq, HO.tup.injEq, tFor_eq, iRng1, iList, iTup, nat10, tSeq, rIxA, rSetA, rIsN, rIsT, tTp, tLs, itsO_tup, itsO_lst, tyO_tup, tyO_lst, tyO_dK, tyN_non, tyN_bl, tyN_int, tyN_str, tyN_ref, tyNs_lt, isB, upd_same, upd_upd, sizeLine_eq, List.mem_cons, String.reduceBEq, String.reduceEq, Bool.or_false, Bool.or_true, Bool.and_false, Bool.false_or, Bool.and_self, Bool.false_and, Bool.not_false, Bool.not_true, List.any_cons, List.any_nil, atI_0, setI_0, atI_1, setI_1, atI_2, setI_2, atI_3, setI_3, atI_4, setI_4, atI_5, setI_5, atI_6, setI_6, tAsg, gName, tOp, tUn, tVar, tC, tCons, L2.tNil, tRet, tIfS, tTest, tCB, tCall, rI, rI0, rU, tNext, tB, tAnd, tOr, tNot, tAndV, tOrV, tNotV, tDrop, tIf, tPar, gSub, rIxL, rIxT, rEq, rNe, rSetL, tBits,
    L2.start, List.map_cons, List.map_nil, List.cons_append, List.nil_append, List.append_nil, List.length_cons, List.length_nil, List.replicate, Nat.reduceAdd, Nat.reduceSub, Nat.zero_add, List.getElem?_cons_zero, List.getElem?_cons_succ, List.set_cons_zero, List.set_cons_succ,
    Option.some.injEq, exists_eq_left', exists_eq_left, V.int.injEq, V.bl.injEq, V.ref.injEq, V.str.injEq, List.cons.injEq, reduceCtorEq, and_true, true_and, false_and, and_false, exists_false, or_false, false_or, or_true, true_or, exists_const, CMul, CDiv, CPow, and_assoc, exists_and_left, exists_and_right, Int.reducePow, Int.reduceNeg, Int.reduceLT, Int.reduceLE, Nat.reducePow, Nat.reduceLT, Int.reduceToNat, gt_iff_lt, ge_iff_le, decide_eq_true_eq, Bool.not_eq_true', decide_eq_false_iff_not, scal, ↓reduceIte, Bool.false_eq_true]
    rw [if_neg (show ¬ ¬ ((xs.length : Int) = (ys.length : Int)) by omega)]
    refine ⟨by omega, by omega, forI_range (SameI H a b) ⟨none, rfl, s1⟩ ?_ ?_⟩
    · rintro i σ H' hlt ⟨z, rfl, s2⟩
      have hx : i < xs.length := by omega
      have hy : i < ys.length := by omega
      have oa2 := ob_same s2 oa
      have oc2 := ob_same s2 oc
      have ex : atI xs (0 + (i : Int)) = some xs[i] := by rw [Int.zero_add]; exact atI_nat (List.getElem?_eq_getElem hx)
      have ey : atI ys (0 + (i : Int)) = some ys[i] := by rw [Int.zero_add]; exact atI_nat (List.getElem?_eq_getElem hy)
      simp only [oa2, oc2, ex, ey, cx_K, decide_true, decide_false, reduceCtorEq, gTp, gCons, gNil, ca_0, ca_1, ca_2, ca_3, ca_4, ca_5, ca_6, ca_7, ca_8, ca_9, ca_10, ca_11, ca_12, ca_13, ca_14, ca_15, ca_16, ca_17, ca_18, ca_19, ca_20, ca_21, ca_22, ca_23, ca_24, ca_25, ca_26, ca_27, ca_28, ca_29, ca_30, not_true_eq_false, not_false_eq_true, Int.reduceEq, Nat.reduceEqDiff, Nat.reduceLeDiff, rGcd, V.ty.injEq, eq_self, List.not_mem_nil, beq_self_eq_true, HO.lst.injEq, HO.tup.injEq, tFor_eq, iRng1, iList, iTup, nat10, tSeq, rIxA, rSetA, rIsN, rIsT, tTp, tLs, itsO_tup, itsO_lst, tyO_tup, tyO_lst, tyO_dK, tyN_non, tyN_bl, tyN_int, tyN_str, tyN_ref, tyNs_lt, isB, upd_same, upd_upd, sizeLine_eq, List.mem_cons, String.reduceBEq, String.reduceEq, Bool.or_false, Bool.or_true, Bool.and_false, Bool.false_or, Bool.and_self, Bool.false_and, Bool.not_false, Bool.not_true, List.any_cons, List.any_nil, atI_0, setI_0, atI_1, setI_1, atI_2, setI_2, atI_3, setI_3, atI_4, setI_4, atI_5, setI_5, atI_6, setI_6, tAsg, gName, tOp, tUn, tVar, tC, tCons, L2.tNil, tRet, tIfS, tTest, tCB, tCall, rI, rI0, rU, tNext, tB, tAnd, tOr, tNot, tAndV, tOrV, tNotV, tDrop, tIf, tPar, gSub, rIxL, rIxT, rEq, rNe, rSetL, tBits,
    L2.start, List.map_cons, List.map_nil, List.cons_append, List.nil_append, List.append_nil, List.length_cons, List.length_nil, List.replicate, Nat.reduceAdd, Nat.reduceSub, Nat.zero_add, List.getElem?_cons_zero, List.getElem?_cons_succ, List.set_cons_zero, List.set_cons_succ,
    Option.some.injEq, exists_eq_left', exists_eq_left, V.int.injEq, V.bl.injEq, V.ref.injEq, V.str.injEq, List.cons.injEq, reduceCtorEq, and_true, true_and, false_and, and_false, exists_false, or_false, false_or, or_true, true_or, exists_const, CMul, CDiv, CPow, and_assoc, exists_and_left, exists_and_right, Int.reducePow, Int.reduceNeg, Int.reduceLT, Int.reduceLE, Nat.reducePow, Nat.reduceLT, Int.reduceToNat, gt_iff_lt, ge_iff_le, decide_eq_true_eq, Bool.not_eq_true', decide_eq_false_iff_not, scal, ↓reduceIte, Bool.false_eq_true]
      refine ⟨_, _, rfl, (hi i _ _ (List.getElem?_eq_getElem hx) (List.getElem?_eq_getElem hy)).same s2, fun H2 s3 => ⟨true, rfl, ?_⟩⟩
      rw [if_neg Bool.noConfusion]
      exact ⟨_, rfl, s2.trans s3⟩
    · rintro σ H' ⟨z, rfl, s2⟩
      simp only [cx_K, decide_true, decide_false, reduceCtorEq, gTp, gCons, gNil, ca_0, ca_1, ca_2, ca_3, ca_4, ca_5, ca_6, ca_7, ca_8, ca_9, ca_10, ca_11, ca_12, ca_13, ca_14, ca_15, ca_16, ca_17, ca_18, ca_19, ca_20, ca_21, ca_22, ca_23, ca_24, ca_25, ca_26, ca_27, ca_28, ca_29, ca_30, not_true_eq_false, not_false_eq_true, Int.reduceEq, Nat.reduceEqDiff, Nat.reduceLeDiff, rGcd, V.ty.injEq, eq_self, List.not_mem_nil, beq_self_eq_true, HO.lst.injEq, HO.tup.injEq, tFor_eq, iRng1, iList, iTup, nat10, tSeq, rIxA, rSetA, rIsN, rIsT, tTp, tLs, itsO_tup, itsO_lst, tyO_tup, tyO_lst, tyO_dK, tyN_non, tyN_bl, tyN_int, tyN_str, tyN_ref, tyNs_lt, isB, upd_same, upd_upd, sizeLine_eq, List.mem_cons, String.reduceBEq, String.reduceEq, Bool.or_false, Bool.or_true, Bool.and_false, Bool.false_or, Bool.and_self, Bool.false_and, Bool.not_false, Bool.not_true, List.any_cons, List.any_nil, atI_0, setI_0, atI_1, setI_1, atI_2, setI_2, atI_3, setI_3, atI_4, setI_4, atI_5, setI_5, atI_6, setI_6, tAsg, gName, tOp, tUn, tVar, tC, tCons, L2.tNil, tRet, tIfS, tTest, tCB, tCall, rI, rI0, rU, tNext, tB, tAnd, tOr, tNot, tAndV, tOrV, tNotV, tDrop, tIf, tPar, gSub, rIxL, rIxT, rEq, rNe, rSetL, tBits,
    L2.start, List.map_cons, List.map_nil, List.cons_append, List.nil_append, List.append_nil, List.length_cons, List.length_nil, List.replicate, Nat.reduceAdd, Nat.reduceSub, Nat.zero_add, List.getElem?_cons_zero, List.getElem?_cons_succ, List.set_cons_zero, List.set_cons_succ,
    Option.some.injEq, exists_eq_left', exists_eq_left, V.int.injEq, V.bl.injEq, V.ref.injEq, V.str.injEq, List.cons.injEq, reduceCtorEq, and_true, true_and, false_and, and_false, exists_false, or_false, false_or, or_true, true_or, exists_const, CMul, CDiv, CPow, and_assoc, exists_and_left, exists_and_right, Int.reducePow, Int.reduceNeg, Int.reduceLT, Int.reduceLE, Nat.reducePow, Nat.reduceLT, Int.reduceToNat, gt_iff_lt, ge_iff_le, decide_eq_true_eq, Bool.not_eq_true', decide_eq_false_iff_not, scal, ↓reduceIte, Bool.false_eq_true]
      exact k H' s2
  · simp only [oa, oc, cx_K, decide_true, decide_false, reduceCtorEq, gTp, gCons, gNil, ca_0, ca_1, ca_2, ca_3, ca_4, ca_5, ca_6, ca_7, ca_8, ca_9, ca_10, ca_11, ca_12, ca_13, ca_14, ca_15, ca_16, ca_17, ca_18, ca_19, ca_20, ca_21, ca_22, ca_23, ca_24, ca_25, ca_26, ca_27, ca_28, ca_29, ca_30, not_true_eq_false, not_false_eq_true, Int.reduceEq, Nat.reduceEqDiff, Nat.reduceLeDiff, rGcd, V.ty.injEq, eq_self, List.not_mem_nil, beq_self_eq_true, HO.lst.injEq, HO.tup.injEq, tFor_eq, iRng1, iList, iTup, nat10, tSeq, rIxA, rSetA, rIsN, rIsT, tTp, tLs, itsO_tup, itsO_lst, tyO_tup, tyO_lst, tyO_dK, tyN_non, tyN_bl, tyN_int, tyN_str, tyN_ref, tyNs_lt, isB, upd_same, upd_upd, sizeLine_eq, List.mem_cons, String.reduceBEq, String.reduceEq, Bool.or_false, Bool.or_true, Bool.and_false, Bool.false_or, Bool.and_self, Bool.false_and, Bool.not_false, Bool.not_true, List.any_cons, List.any_nil, atI_0, setI_0, atI_1, setI_1, atI_2, setI_2, atI_3, setI_3, atI_4, setI_4, atI_5, setI_5, atI_6, setI_6, tAsg, gName, tOp, tUn, tVar, tC, tCons, L2.tNil, tRet, tIfS, tTest, tCB, tCall, rI, rI0, rU, tNext, tB, tAnd, tOr, tNot, tAndV, tOrV, tNotV, tDrop, tIf, tPar, gSub, rIxL, rIxT, rEq, rNe, rSetL, tBits,
    L2.start, List.map_cons, List.map_nil, List.cons_append, List.nil_append, List.append_nil, List.length_cons, List.length_nil, List.replicate, Nat.reduceAdd, Nat.reduceSub, Nat.zero_add, List.getElem?_cons_zero, List.getElem?_cons_succ, List.set_cons_zero, List.set_cons_succ,
    Option.some.injEq, exists_eq_left', exists_eq_left, V.int.injEq, V.bl.injEq, V.ref.injEq, V.str.injEq, List.cons.injEq, reduceCtorEq, and_true, true_and, false_and, and_false, exists_false, or_false, false_or, or_true, true_or, exists_const, CMul, CDiv, CPow, and_assoc, exists_and_left, exists_and_right, Int.reducePow, Int.reduceNeg, Int.reduceLT, Int.reduceLE, Nat.reducePow, Nat.reduceLT, Int.reduceToNat, gt_iff_lt, ge_iff_le, decide_eq_true_eq, Bool.not_eq_true', decide_eq_false_iff_not, scal, ↓reduceIte, Bool.false_eq_true]
    intro p hp kp
    have s1 := Same.new hp (.tup [V.ty "list", V.ty "tuple"])
    generalize upd H p (.tup [V.ty "list", V.ty "tuple"]) = H1 at s1 ⊢
    have oa1 := ob_same s1 oa
    have oc1 := ob_same s1 oc
    simp only [oa1, oc1, cx_K, decide_true, decide_false, reduceCtorEq, gTp, gCons, gNil, ca_0, ca_1, ca_2, ca_3, ca_4, ca_5, ca_6, ca_7, ca_8, ca_9, ca_10, ca_11, ca_12, ca_13, ca_14, ca_15, ca_16, ca_17, ca_18, ca_19, ca_20, ca_21, ca_22, ca_23, ca_24, ca_25, ca_26, ca_27, ca_28, ca_29, ca_30, not_true_eq_false, not_false_eq_true, Int.reduceEq, Nat.reduceEqDiff, Nat.reduceLeDiff, rGcd, V.ty.injEq, eq_self, List.not_mem_nil, beq_self_eq_true, HO.lst.injEq, HO.tup.injEq, tFor_eq, iRng1, iList, iTup, nat10, tSeq, rIxA, rSetA, rIsN, rIsT, tTp, tLs, itsO_tup, itsO_lst, tyO_tup, tyO_lst, tyO_dK, tyN_non, tyN_bl, tyN_int, tyN_str, tyN_ref, tyNs_lt, isB, upd_same, upd_upd, sizeLine_eq, List.mem_cons, String.reduceBEq, String.reduceEq, Bool.or_false, Bool.or_true, Bool.and_false, Bool.false_or, Bool.and_self, Bool.false_and, Bool.not_false, Bool.not_true, List.any_cons, List.any_nil, atI_0, setI_0, atI_1, setI_1, atI_2, setI_2, atI_3, setI_3, atI_4, setI_4, atI_5, setI_5, atI_6, setI_6, tAsg, gName, tOp, tUn, tVar, tC, tCons, L2.tNil, tRet, tIfS, tTest, tCB, tCall, rI, rI0, rU, tNext, tB, tAnd, tOr, tNot, tAndV, tOrV, tNotV, tDrop, tIf, tPar, gSub, rIxL, rIxT, rEq, rNe, rSetL, tBits,
    L2.start, List.map_cons, List.map_nil, List.cons_append, List.nil_append, List.append_nil, List.length_cons, List.length_nil, List.replicate, Nat.reduceAdd, Nat.reduceSub, Nat.zero_add, List.getElem?_cons_zero, List.getElem?_cons_succ, List.set_cons_zero, List.set_cons_succ,
    Option.some.injEq, exists_eq_left', exists_eq_left, V.int.injEq, V.bl.injEq, V.ref.injEq, V.str.injEq, List.cons.injEq, reduceCtorEq, and_true, true_and, false_and, and_false, exists_false, or_false, false_or, or_true, true_or, exists_const, CMul, CDiv, CPow, and_assoc, exists_and_left, exists_and_right, Int.reducePow, Int.reduceNeg, Int.reduceLT, Int.reduceLE, Nat.reducePow, Nat.reduceLT, Int.reduceToNat, gt_iff_lt, ge_iff_le, decide_eq_true_eq, Bool.not_eq_true', decide_eq_false_iff_not, scal, ↓reduceIte, Bool.false_eq_true]
    rw [if_neg (show ¬ ¬ ((xs.length : Int) = (ys.length : Int)) by omega)]
    refine ⟨by omega, by omega, forI_range (SameI H a b) ⟨none, rfl, s1⟩ ?_ ?_⟩
    · rintro i σ H' hlt ⟨z, rfl, s2⟩
      have hx : i < xs.length := by omega
      have hy : i < ys.length := by omega
      have oa2 := ob_same s2 oa
      have oc2 := ob_same s2 oc
      have ex : atI xs (0 + (i : Int)) = some xs[i] := by rw [Int.zero_add]; exact atI_nat (List.getElem?_eq_getElem hx)
      have ey : atI ys (0 + (i : Int)) = some ys[i] := by rw [Int.zero_add]; exact atI_nat (List.getElem?_eq_getElem hy)
      simp only [oa2, oc2, ex, ey, cx_K, decide_true, decide_false, reduceCtorEq, gTp, gCons, gNil, ca_0, ca_1, ca_2, ca_3, ca_4, ca_5, ca_6, ca_7, ca_8, ca_9, ca_10, ca_11, ca_12, ca_13, ca_14, ca_15, ca_16, ca_17, ca_18, ca_19, ca_20, ca_21, ca_22, ca_23, ca_24, ca_25, ca_26, ca_27, ca_28, ca_29, ca_30, not_true_eq_false, not_false_eq_true, Int.reduceEq, Nat.reduceEqDiff, Nat.reduceLeDiff, rGcd, V.ty.injEq, eq_self, List.not_mem_nil, beq_self_eq_true, HO.lst.injEq, HO.tup.injEq, tFor_eq, iRng1, iList, iTup, nat10, tSeq, rIxA, rSetA, rIsN, rIsT, tTp, tLs, itsO_tup, itsO_lst, tyO_tup, tyO_lst, tyO_dK, tyN_non, tyN_bl, tyN_int, tyN_str, tyN_ref, tyNs_lt, isB, upd_same, upd_upd, sizeLine_eq, List.mem_cons, String.reduceBEq, String.reduceEq, Bool.or_false, Bool.or_true, Bool.and_false, Bool.false_or, Bool.and_self, Bool.false_and, Bool.not_false, Bool.not_true, List.any_cons, List.any_nil, atI_0, setI_0, atI_1, setI_1, atI_2, setI_2, atI_3, setI_3, atI_4, setI_4, atI_5, setI_5, atI_6, setI_6, tAsg, gName, tOp, tUn, tVar, tC, tCons, L2.tNil, tRet, tIfS, tTest, tCB, tCall, rI, rI0, rU, tNext, tB, tAnd, tOr, tNot, tAndV, tOrV, tNotV, tDrop, tIf, tPar, gSub, rIxL, rIxT, rEq, rNe, rSetL, tBits,
    L2.start, List.map_cons, List.map_nil, List.cons_append, List.nil_append, List.append_nil, List.length_cons, List.length_nil, List.replicate, Nat.reduceAdd, Nat.reduceSub, Nat.zero_add, List.getElem?_cons_zero, List.getElem?_cons_succ, List.set_cons_zero, List.set_cons_succ,
    Option.some.injEq, exists_eq_left', exists_eq_left, V.int.injEq, V.bl.injEq, V.ref.injEq, V.str.injEq, List.cons.injEq, reduceCtorEq, and_true, true_and, false_and, and_false, exists_false, or_false, false_or, or_true, true_or, exists_const, CMul, CDiv, CPow, and_assoc, exists_and_left, exists_and_right, Int.reducePow, Int.reduceNeg, Int.reduceLT, Int.reduceLE, Nat.reducePow, Nat.reduceLT, Int.reduceToNat, gt_iff_lt, ge_iff_le, decide_eq_true_eq, Bool.not_eq_true', decide_eq_false_iff_not, scal, ↓reduceIte, Bool.false_eq_true]
      refine ⟨_, _, rfl, (hi i _ _ (List.getElem?_eq_getElem hx) (List.getElem?_eq_getElem hy)).same s2, fun H2 s3 => ⟨true, rfl, ?_⟩⟩
      rw [if_neg Bool.noConfusion]
      exact ⟨_, rfl, s2.trans s3⟩
    · rintro σ H' ⟨z, rfl, s2⟩
      simp only [cx_K, decide_true, decide_false, reduceCtorEq, gTp, gCons, gNil, ca_0, ca_1, ca_2, ca_3, ca_4, ca_5, ca_6, ca_7, ca_8, ca_9, ca_10, ca_11, ca_12, ca_13, ca_14, ca_15, ca_16, ca_17, ca_18, ca_19, ca_20, ca_21, ca_22, ca_23, ca_24, ca_25, ca_26, ca_27, ca_28, ca_29, ca_30, not_true_eq_false, not_false_eq_true, Int.reduceEq, Nat.reduceEqDiff, Nat.reduceLeDiff, rGcd, V.ty.injEq, eq_self, List.not_mem_nil, beq_self_eq_true, HO.lst.injEq, HO.tup.injEq, tFor_eq, iRng1, iList, iTup, nat10, tSeq, rIxA, rSetA, rIsN, rIsT, tTp, tLs, itsO_tup, itsO_lst, tyO_tup, tyO_lst, tyO_dK, tyN_non, tyN_bl, tyN_int, tyN_str, tyN_ref, tyNs_lt, isB, upd_same, upd_upd, sizeLine_eq, List.mem_cons, String.reduceBEq, String.reduceEq, Bool.or_false, Bool.or_true, Bool.and_false, Bool.false_or, Bool.and_self, Bool.false_and, Bool.not_false, Bool.not_true, List.any_cons, List.any_nil, atI_0, setI_0, atI_1, setI_1, atI_2, setI_2, atI_3, setI_3, atI_4, setI_4, atI_5, setI_5, atI_6, setI_6, tAsg, gName, tOp, tUn, tVar, tC, tCons, L2.tNil, tRet, tIfS, tTest, tCB, tCall, rI, rI0, rU, tNext, tB, tAnd, tOr, tNot, tAndV, tOrV, tNotV, tDrop, tIf, tPar, gSub, rIxL, rIxT, rEq, rNe, rSetL, tBits,
    L2.start, List.map_cons, List.map_nil, List.cons_append, List.nil_append, List.append_nil, List.length_cons, List.length_nil, List.replicate, Nat.reduceAdd, Nat.reduceSub, Nat.zero_add, List.getElem?_cons_zero, List.getElem?_cons_succ, List.set_cons_zero, List.set_cons_succ,
    Option.some.injEq, exists_eq_left', exists_eq_left, V.int.injEq, V.bl.injEq, V.ref.injEq, V.str.injEq, List.cons.injEq, reduceCtorEq, and_true, true_and, false_and, and_false, exists_false, or_false, false_or, or_true, true_or, exists_const, CMul, CDiv, CPow, and_assoc, exists_and_left, exists_and_right, Int.reducePow, Int.reduceNeg, Int.reduceLT, Int.reduceLE, Nat.reducePow, Nat.reduceLT, Int.reduceToNat, gt_iff_lt, ge_iff_le, decide_eq_true_eq, Bool.not_eq_true', decide_eq_false_iff_not, scal, ↓reduceIte, Bool.false_eq_true]
      exact k H' s2
theorem k_same (T : Bt K mg) (D : Dfn K mg "_law_same" sSame ["_law_told", "_law_due"]) (d : Kn P w K mg base 1 "_law_is_whole" ["_law_told"] (spWhole K)) : ∀ n : Nat, Kn P w K mg base (n + 1) "_law_same" ["_law_told", "_law_due"] (spSame K n)
  | 0 => by
    obtain ⟨f, fd, m, kp, b, G⟩ := (Kn.none (P := P) (w := w) (base := base) D).ex
    exact ⟨f, fd, m, kp, b, (G.mono (Nat.zero_le _)).imp fun vs H Q E h => h.elim⟩
  | n + 1 => k_Same n T D d (k_same T D d n)
end
end My

namespace My
open PySem PySem.Spec PyProof.Rows L2
section
variable {P : Program} {w : World} {K : PySem.W.Frag} {mg : Str → Option Value} {base : Heap}
/-! ### what is no fraction -/
def fr2 : List V → Bool
  | [.int n, .int d] => decide (1 ≤ d) && decide (Int.gcd n d = 1)
  | _ => false
theorem frOk_tup {H : Hp} {a : Addr} {xs : List V} (o : ob K H a = some (.tup xs)) : frOk K H (.ref a) = fr2 xs := by
  simp only [frOk, o]
  unfold fr2
  split <;> simp_all
theorem tyN_same {H H' : Hp} {v : V} {t : String} (e : Same H H') (h : tyN K H v = some t) : tyN K H' v = some t := by
  cases v with
  | ref a =>
    have h1 : tyO (ob K H a) = some t := h
    show tyO (ob K H' a) = some t
    cases hz : ob K H a with
    | none => rw [hz] at h1; cases h1
    | some z => rw [ob_same e hz, ← hz]; exact h1
  | _ => exact h
theorem tyS_same {H H' : Hp} {v : V} (e : Same H H') (h : (tyN K H v).isSome) : (tyN K H' v).isSome := by
  obtain ⟨t, ht⟩ := Option.isSome_iff_exists.mp h
  rw [tyN_same e ht]
  rfl
theorem ob_back {H H' : Hp} {a : Addr} {z : HO} (e : Same H H') (h : (tyN K H (.ref a)).isSome) (o : ob K H' a = some z) : ob K H a = some z := by
  cases hz : ob K H a with
  | none =>
    rw [tyN_ref, hz] at h
    cases h
  | some y =>
    rw [← o, ob_same e hz]
structure Gd (K : PySem.W.Frag) (H : Hp) (v : V) : Prop where
  ty : Tyd K H v
  no : frOk K H v = false
theorem Gd.same {H H' : Hp} {v : V} (e : Same H H') (h : Gd K H v) : Gd K H' v := by
  refine ⟨⟨tyS_same e h.ty.1, fun a xs ev o x hx => ?_⟩, ?_⟩
  · subst ev
    exact tyS_same e (h.ty.2 a xs rfl (ob_back e h.ty.1 o) x hx)
  · cases v with
    | ref a =>
      cases hz : ob K H a with
      | none =>
        have := h.ty.1
        rw [tyN_ref, hz] at this
        cases this
      | some z =>
        have e2 : frOk K H' (.ref a) = frOk K H (.ref a) := by simp only [frOk, hz, ob_same e hz]
        rw [e2]
        exact h.no
    | _ => rfl
theorem gd_sc {H : Hp} {v : V} (h : scv v = true) : Gd K H v := by
  refine ⟨⟨?_, fun a xs e => ?_⟩, ?_⟩
  · cases v <;> first | rfl | cases h
  · subst e; cases h
  · cases v <;> first | rfl | cases h
theorem gd_tup {H : Hp} {a : Addr} {xs : List V} (o : ob K H a = some (.tup xs)) (hx : ∀ x ∈ xs, (tyN K H x).isSome) (f : fr2 xs = false) : Gd K H (.ref a) := by
  refine ⟨⟨by rw [tyN_ref, o]; rfl, fun b ys e o' => ?_⟩, by rw [frOk_tup o]; exact f⟩
  cases e
  rw [o] at o'
  cases o'
  exact hx
theorem gd_lst {H : Hp} {a : Addr} {xs : List V} (o : ob K H a = some (.lst xs)) : Gd K H (.ref a) := by
  refine ⟨⟨by rw [tyN_ref, o]; rfl, fun b ys e o' => ?_⟩, by simp only [frOk, o]⟩
  cases e
  rw [o] at o'
  cases o'
theorem gd_dict {H : Hp} {a : Addr} {xs : List (Key × V)} (o : ob K H a = some (.dK xs)) : Gd K H (.ref a) := by
  refine ⟨⟨by rw [tyN_ref, o]; rfl, fun b ys e o' => ?_⟩, by simp only [frOk, o]⟩
  cases e
  rw [o] at o'
  cases o'
/-! ### displays that only make -/
def Mk (R : Hp → V → Prop) (te : TE) : Prop := ∀ σ H Q, (∀ v H', Same H H' → R H' v → Q v H') → te σ H Q
def MkL (R : Hp → V → Prop) (n : Nat) (ta : TA) : Prop := ∀ σ H Q, (∀ vs H', Same H H' → vs.length = n → (∀ v ∈ vs, R H' v) → Q vs H') → ta σ H Q
theorem mkL_nil {R : Hp → V → Prop} : MkL R 0 L2.tNil := fun σ H Q k => k [] H (Same.refl H) rfl fun _ z => absurd z (by simp)
theorem mkL_cons {R : Hp → V → Prop} {n : Nat} {te : TE} {ta : TA} (mono : ∀ (H H' : Hp) (v : V), Same H H' → R H v → R H' v) (h1 : Mk R te) (h2 : MkL R n ta) : MkL R (n + 1) (tCons te ta) := fun σ H Q k =>
  h1 σ H _ fun v H1 s1 r1 => h2 σ H1 _ fun vs H2 s2 hn hr => k (v :: vs) H2 (s1.trans s2) (by rw [List.length_cons, hn]) fun x hx => by
    rcases List.mem_cons.mp hx with e | e
    · subst e; exact mono _ _ _ s2 r1
    · exact hr x e
theorem mk_c {v : V} (h : scv v = true) : Mk (Gd K) (tC v) := fun σ H Q k => k v H (Same.refl H) (gd_sc h)
theorem mk_tc {ta : TA} (xs : List V) (e : ∀ σ H Q, Q xs H → ta σ H Q) (hs : xs.all scv = true) (hf : fr2 xs = false) (hl : xs.length ≤ 100 := by decide) : Mk (Gd K) (tTp K ta) := fun σ H Q k => by
  refine e σ H _ ⟨by rw [sizeLine_eq]; omega, fun p hp kp => k _ _ (Same.new hp _) (gd_tup (ob_new kp) (fun x hx => ?_) hf)⟩
  exact (gd_sc (K := K) (H := upd H p (.tup xs)) (List.all_eq_true.mp hs x hx)).ty.1
theorem mk_ls {ta : TA} {n : Nat} {R : Hp → V → Prop} (h : MkL R n ta) (hl : n ≤ 100 := by decide) : Mk (Gd K) (tLs K ta) := fun σ H Q k =>
  h σ H _ fun vs H1 s1 hn _ => ⟨by rw [sizeLine_eq]; omega, fun p hp kp => k _ _ (s1.trans (Same.new hp _)) (gd_lst (ob_new kp))⟩
theorem mk_dn : Mk (Gd K) (tDn K) := fun σ H Q k p hp kp => k _ _ (Same.new hp _) (gd_dict (ob_new kp))
theorem mk_any {R : Hp → V → Prop} {te : TE} (h : Mk R te) : Mk (fun _ _ => True) te := fun σ H Q k => h σ H Q fun v H' s _ => k v H' s True.intro
theorem mk_tup {ta : TA} {n : Nat} {R : Hp → V → Prop} (h : MkL R n ta) (hl : n ≤ 100 := by decide) : Mk (fun _ _ => True) (tTp K ta) := fun σ H Q k =>
  h σ H _ fun vs H1 s1 hn _ => ⟨by rw [sizeLine_eq]; omega, fun p hp kp => k _ _ (s1.trans (Same.new hp _)) True.intro⟩
/-! the same where names are read -/
def MkA (σ : L2.St) (H0 : Hp) (R : Hp → V → Prop) (te : TE) : Prop := ∀ H, Same H0 H → ∀ Q, (∀ v H', Same H H' → R H' v → Q v H') → te σ H Q
def MkAL (σ : L2.St) (H0 : Hp) (R : Hp → V → Prop) (n : Nat) (ta : TA) : Prop := ∀ H, Same H0 H → ∀ Q, (∀ vs H', Same H H' → vs.length = n → (∀ v ∈ vs, R H' v) → Q vs H') → ta σ H Q
theorem mkA_nil {σ : L2.St} {H0 : Hp} {R : Hp → V → Prop} : MkAL σ H0 R 0 L2.tNil := fun H _ Q k => k [] H (Same.refl H) rfl fun _ z => absurd z (by simp)
theorem mkA_cons {σ : L2.St} {H0 : Hp} {R : Hp → V → Prop} {n : Nat} {te : TE} {ta : TA} (mono : ∀ (H H' : Hp) (v : V), Same H H' → R H v → R H' v) (h1 : MkA σ H0 R te) (h2 : MkAL σ H0 R n ta) : MkAL σ H0 R (n + 1) (tCons te ta) := fun H s Q k =>
  h1 H s _ fun v H1 s1 r1 => h2 H1 (s.trans s1) _ fun vs H2 s2 hn hr => k (v :: vs) H2 (s1.trans s2) (by rw [List.length_cons, hn]) fun x hx => by
    rcases List.mem_cons.mp hx with e | e
    · subst e; exact mono _ _ _ s2 r1
    · exact hr x e
theorem mkA_tc {σ : L2.St} {H0 : Hp} {ta : TA} (xs : List V) (e : ∀ H, Same H0 H → ∀ Q, Q xs H → ta σ H Q) (hs : ∀ x ∈ xs, (tyN K H0 x).isSome) (hf : fr2 xs = false) (hl : xs.length ≤ 100) : MkA σ H0 (Gd K) (tTp K ta) := fun H s Q k => by
  refine e H s _ ⟨by rw [sizeLine_eq]; omega, fun p hp kp => k _ _ (Same.new hp _) (gd_tup (ob_new kp) (fun x hx => ?_) hf)⟩
  exact tyS_same (s.trans (Same.new hp _)) (hs x hx)
theorem mkA_lc {σ : L2.St} {H0 : Hp} {ta : TA} (xs : List V) (e : ∀ H, Same H0 H → ∀ Q, Q xs H → ta σ H Q) (hl : xs.length ≤ 100) : MkA σ H0 (Gd K) (tLs K ta) := fun H s Q k => by
  exact e H s _ ⟨by rw [sizeLine_eq]; omega, fun p hp kp => k _ _ (Same.new hp _) (gd_lst (ob_new kp))⟩
theorem lsA {ta : TA} {n : Nat} {R : Hp → V → Prop} {σ : L2.St} {H : Hp} {Q : VK} (mono : ∀ (H H' : Hp) (v : V), Same H H' → R H v → R H' v) (h : MkAL σ H R n ta) (hl : n ≤ 100)
    (k : ∀ vs p H', Same H H' → H p = none → K.lookup p = none → vs.length = n → (∀ v ∈ vs, R H' v) → H' p = some (.lst vs) → Q (.ref p) H') : tLs K ta σ H Q :=
  h H (Same.refl H) _ fun vs H1 s1 hn hr => ⟨by rw [sizeLine_eq]; omega, fun p hp kp => k vs p _ (s1.trans (Same.new hp _)) (s1.free hp) kp hn (fun v hv => mono _ _ _ (Same.new hp _) (hr v hv)) upd_same⟩
/-! what is no fraction stays so while the draws go on -/
theorem ob_kp2 {H H' : Hp} {s a : Addr} {z : HO} (e : Kp s H H') (n : a ≠ s) (h : ob K H a = some z) : ob K H' a = some z := by
  unfold ob at h ⊢
  split
  · rename_i o q
    rw [q] at h
    exact h
  · rename_i q
    rw [q] at h
    exact e _ _ n h
theorem Sto.ob {H : Hp} {s : Addr} (h : Sto K H s) : ∃ ys, My.ob K H s = some (.lst ys) := by
  obtain ⟨sc, ns, i, b, c, d, e, f, h⟩ := h
  exact ⟨_, (ob_none h.2.2.2.2.1).trans h.1⟩
theorem tyS_kp {H H' : Hp} {s : Addr} {v : V} (e : Kp s H H') (t : Sto K H' s) (h : (tyN K H v).isSome) : (tyN K H' v).isSome := by
  cases v with
  | ref a =>
    by_cases ha : a = s
    · subst ha
      obtain ⟨ys, hy⟩ := t.ob
      rw [tyN_ref, hy]
      rfl
    · cases hz : ob K H a with
      | none => rw [tyN_ref, hz] at h; cases h
      | some z =>
        rw [tyN_ref, ob_kp2 e ha hz, ← hz]
        exact h
  | _ => exact h
theorem Gd.kp {H H' : Hp} {s : Addr} {v : V} (e : Kp s H H') (t : Sto K H' s) (h : Gd K H v) : Gd K H' v := by
  cases v with
  | ref a =>
    by_cases ha : a = s
    · subst ha
      obtain ⟨ys, hy⟩ := t.ob
      exact gd_lst hy
    · cases hz : ob K H a with
      | none =>
        have := h.ty.1
        rw [tyN_ref, hz] at this
        cases this
      | some z =>
        have hz' := ob_kp2 e ha hz
        refine ⟨⟨tyS_kp e t h.ty.1, fun b xs ev o x hx => ?_⟩, ?_⟩
        · cases ev
          rw [hz'] at o
          exact tyS_kp e t (h.ty.2 a xs rfl (hz.trans o) x hx)
        · have e2 : frOk K H' (.ref a) = frOk K H (.ref a) := by simp only [frOk, hz, hz']
          rw [e2]
          exact h.no
  | _ => exact ⟨⟨h.ty.1, fun _ _ e => by cases e⟩, h.no⟩
/-- a list display of such things -/
theorem lsX {ta : TA} {n : Nat} {R : Hp → V → Prop} {σ : L2.St} {H : Hp} {Q : VK} (mono : ∀ (H H' : Hp) (v : V), Same H H' → R H v → R H' v) (h : MkL R n ta) (hl : n ≤ 100)
    (k : ∀ vs p H', Same H H' → H p = none → K.lookup p = none → vs.length = n → (∀ v ∈ vs, R H' v) → H' p = some (.lst vs) → Q (.ref p) H') : tLs K ta σ H Q :=
  h σ H _ fun vs H1 s1 hn hr => ⟨by rw [sizeLine_eq]; omega, fun p hp kp => k vs p _ (s1.trans (Same.new hp _)) (s1.free hp) kp hn (fun v hv => mono _ _ _ (Same.new hp _) (hr v hv)) upd_same⟩
end
end My

namespace My
open PySem PySem.Spec PyProof.Rows L2
section
variable {P : Program} {w : World} {K : PySem.W.Frag} {mg : Str → Option Value} {base : Heap}
theorem nf_int (w : Int) : Nf (w, 1) := ⟨by show (1 : Int) ≤ 1; omega, by show Int.gcd w 1 = 1; exact Int.gcd_one_right _⟩
theorem sz_of {x y : Int} {k : Nat} (h1 : x.natAbs < 2 ^ k) (h2 : y.natAbs < 2 ^ k) : Sz k (x, y) := ⟨h1, h2⟩
theorem ne_new {H : Hp} {s p : Addr} {ys : List V} (h : H s = some (.lst ys)) (hp : H p = none) : s ≠ p := ne_of_none h hp
/-- a place at a -/
structure Pq (K : PySem.W.Frag) (H : Hp) (n : Nat) (a : Addr) (q : Qt) : Prop where
  f : Fq K H n a q
  lo : 0 ≤ q.1
  hi : q.1 < q.2
theorem Pq.mono {H : Hp} {j n : Nat} {a : Addr} {q : Qt} (h : Pq K H j a q) (l : j ≤ n) : Pq K H n a q := ⟨h.f.mono l, h.lo, h.hi⟩
theorem Pq.same {H H' : Hp} {n : Nat} {a : Addr} {q : Qt} (h : Pq K H n a q) (s : Same H H') : Pq K H' n a q := ⟨h.f.same s, h.lo, h.hi⟩
theorem Pq.kp {H H' : Hp} {n : Nat} {a s : Addr} {q : Qt} {ys : List V} (h : Pq K H n a q) (e : Kp s H H') (hs : H s = some (.lst ys)) : Pq K H' n a q := ⟨h.f.kp e hs, h.lo, h.hi⟩
theorem is_in {q : Qt} {t b : Int} (h : Is q t b) (h0 : 0 ≤ t) (h1 : t < b) : 0 ≤ q.1 ∧ q.1 < q.2 := by
  have e := h.2
  have n := h.1.1
  have b0 : 0 < b := by omega
  refine ⟨Int.not_lt.mp fun c => ?_, Int.not_le.mp fun c => ?_⟩
  · have z1 : q.1 * b < 0 := Int.mul_neg_of_neg_of_pos c b0
    have z2 : 0 ≤ t * q.2 := Int.mul_nonneg h0 (by omega)
    omega
  · have z1 : q.2 * b ≤ q.1 * b := Int.mul_le_mul_of_nonneg_right c (by omega)
    have z2 : t * q.2 < b * q.2 := Int.mul_lt_mul_of_pos_right h1 (by omega)
    have z3 : q.2 * b = b * q.2 := Int.mul_comm _ _
    omega
def spDPlace (K : PySem.W.Frag) (n : Nat) : Sp := fun vs H Q _ => ∃ (s : Addr), vs = [.ref s] ∧ Sto K H s ∧ ∀ a q H', Pq K H' n a q → Kp s H H' → Sto K H' s → Q (.ref a) H'
theorem nf1112 : Nf (11, 12) := ⟨by decide, by decide⟩
theorem nf21 : Nf (2, 1) := ⟨by decide, by decide⟩
theorem nf112 : Nf (1, 12) := ⟨by decide, by decide⟩
def spDPos (K : PySem.W.Frag) : Sp := fun vs H Q _ => ∃ (s : Addr), vs = [.ref s] ∧ Sto K H s ∧ ∀ a q H', (Fq K H' 10 a q ∧ 0 < q.1) → Kp s H H' → Sto K H' s → Q (.ref a) H'
def spDNz (K : PySem.W.Frag) : Sp := fun vs H Q _ => ∃ (s : Addr), vs = [.ref s] ∧ Sto K H s ∧ ∀ a q H', Fq K H' 10 a q → q.1 ≠ 0 → Kp s H H' → Sto K H' s → Q (.ref a) H'
theorem is_pos {q : Qt} {t b : Int} (h : Is q t b) (h0 : 0 < t) (h1 : 0 < b) : 0 < q.1 := by
  have e := h.2
  have n := h.1.1
  refine Int.not_le.mp fun c => ?_
  have z1 : 0 < t * q.2 := Int.mul_pos h0 (by omega)
  have z2 : q.1 * b ≤ 0 := Int.mul_nonpos_of_nonpos_of_nonneg c (by omega)
  omega
abbrev sDPos : Stmt := topS 50
theorem scDPos : FnScope ["_law_store_here", "_law_spot", "_law_bottom"] ["_law_store_here"] (defScope sDPos) := ⟨rfl, rfl, rfl, by decide +kernel, rfl, by decide +kernel, by decide +kernel⟩
theorem k_DPos (T : Bt K mg) (D : Dfn K mg "_law_positive" sDPos ["_law_store_here"]) (d__law_take : Kn P w K mg base 2 "_law_take" ["_law_store_here", "_law_many"] (spTake K)) (d__law_lowest : Kn P w K mg base 2 "_law_lowest" ["_law_top", "_law_bottom"] (spLowest K)) : Kn P w K mg base 3 "_law_positive" ["_law_store_here"] (spDPos K) := by
  refine Kn.mk' D scDPos (fun vs H Q E h => ?_) (fun f cdv A outer s H vs Q E hr h => ?_)
  · obtain ⟨s, rfl, _⟩ := h
    rfl
  obtain ⟨s, rfl, hS, k⟩ := h
  refine ⟨_, (pss_cons (ps_set (i := 1) scDPos.nd rfl (.inl rfl) (pe_kn d__law_take hr (by rfl) (pa_cons (pv 0) (pa_cons pe_int pa_nil))))
      (pss_cons (ps_if (pt_cmpR op_lt (pv 1) pe_int (nomark _)) (pss_one (ps_ret (pe_ix ix_any (pe_ls (pa_cons (pe_tp (pa_cons pe_int (pa_cons pe_int pa_nil))) (pa_cons (pe_tp (pa_cons pe_int (pa_cons pe_int pa_nil))) (pa_cons (pe_tp (pa_cons pe_int (pa_cons pe_int pa_nil))) (pa_cons (pe_tp (pa_cons pe_int (pa_cons pe_int pa_nil))) pa_nil))))) (pv 1) (fun _ _ => rfl)))) pss_nil)
      (pss_cons (ps_set (i := 2) scDPos.nd rfl (.inl rfl) (pe_op op_add pe_int (pe_kn d__law_take hr (by rfl) (pa_cons (pv 0) (pa_cons pe_int pa_nil)))))
      (pss_one (ps_ret (pe_kn d__law_lowest hr (by rfl) (pa_cons (pe_op op_add pe_int (pe_kn d__law_take hr (by rfl) (pa_cons (pv 0) (pa_cons (pe_op op_mul pe_int (pv 2)) pa_nil)))) (pa_cons (pv 2) pa_nil)))))))), ?_⟩
  simp only [cx_K, decide_true, decide_false, reduceCtorEq, gTp, gCons, gNil, ca_0, ca_1, ca_2, ca_3, ca_4, ca_5, ca_6, ca_7, ca_8, ca_9, ca_10, ca_11, ca_12, ca_13, ca_14, ca_15, ca_16, ca_17, ca_18, ca_19, ca_20, ca_21, ca_22, ca_23, ca_24, ca_25, ca_26, ca_27, ca_28, ca_29, ca_30, not_true_eq_false, not_false_eq_true, Int.reduceEq, Nat.reduceEqDiff, Nat.reduceLeDiff, rGcd, V.ty.injEq, eq_self, List.not_mem_nil, beq_self_eq_true, HO.lst.injEq, HO.tup.injEq, tFor_eq, iRng1, iList, iTup, nat10, tSeq, rIxA, rSetA, rIsN, rIsT, tTp, tLs, itsO_tup, itsO_lst, tyO_tup, tyO_lst, tyO_dK, tyN_non, tyN_bl, tyN_int, tyN_str, tyN_ref, tyNs_lt, isB, upd_same, upd_upd, sizeLine_eq, List.mem_cons, String.reduceBEq, String.reduceEq, Bool.or_false, Bool.or_true, Bool.and_false, Bool.false_or, Bool.and_self, Bool.false_and, Bool.not_false, Bool.not_true, List.any_cons, List.any_nil, atI_0, setI_0, atI_1, setI_1, atI_2, setI_2, atI_3, setI_3, atI_4, setI_4, atI_5, setI_5, atI_6, setI_6, tAsg, gName, tOp, tUn, tVar, tC, tCons, L2.tNil, tRet, tIfS, tTest, tCB, tCall, rI, rI0, rU, tNext, tB, tAnd, tOr, tNot, tAndV, tOrV, tNotV, tDrop, tIf, tPar, gSub, rIxL, rIxT, rEq, rNe, rSetL, tBits,
    L2.start, List.map_cons, List.map_nil, List.cons_append, List.nil_append, List.append_nil, List.length_cons, List.length_nil, List.replicate, Nat.reduceAdd, Nat.reduceSub, Nat.zero_add, List.getElem?_cons_zero, List.getElem?_cons_succ, List.set_cons_zero, List.set_cons_succ,
    Option.some.injEq, exists_eq_left', exists_eq_left, V.int.injEq, V.bl.injEq, V.ref.injEq, V.str.injEq, List.cons.injEq, reduceCtorEq, and_true, true_and, false_and, and_false, exists_false, or_false, false_or, or_true, true_or, exists_const, CMul, CDiv, CPow, and_assoc, exists_and_left, exists_and_right, Int.reducePow, Int.reduceNeg, Int.reduceLT, Int.reduceLE, Nat.reducePow, Nat.reduceLT, Int.reduceToNat, gt_iff_lt, ge_iff_le, decide_eq_true_eq, Bool.not_eq_true', decide_eq_false_iff_not, scal, ↓reduceIte, Bool.false_eq_true]
  refine ⟨s, 12, rfl, hS, by omega, fun i H1 z0 z1 kp st => ?_⟩
  simp only [cx_K, decide_true, decide_false, reduceCtorEq, gTp, gCons, gNil, ca_0, ca_1, ca_2, ca_3, ca_4, ca_5, ca_6, ca_7, ca_8, ca_9, ca_10, ca_11, ca_12, ca_13, ca_14, ca_15, ca_16, ca_17, ca_18, ca_19, ca_20, ca_21, ca_22, ca_23, ca_24, ca_25, ca_26, ca_27, ca_28, ca_29, ca_30, not_true_eq_false, not_false_eq_true, Int.reduceEq, Nat.reduceEqDiff, Nat.reduceLeDiff, rGcd, V.ty.injEq, eq_self, List.not_mem_nil, beq_self_eq_true, HO.lst.injEq, HO.tup.injEq, tFor_eq, iRng1, iList, iTup, nat10, tSeq, rIxA, rSetA, rIsN, rIsT, tTp, tLs, itsO_tup, itsO_lst, tyO_tup, tyO_lst, tyO_dK, tyN_non, tyN_bl, tyN_int, tyN_str, tyN_ref, tyNs_lt, isB, upd_same, upd_upd, sizeLine_eq, List.mem_cons, String.reduceBEq, String.reduceEq, Bool.or_false, Bool.or_true, Bool.and_false, Bool.false_or, Bool.and_self, Bool.false_and, Bool.not_false, Bool.not_true, List.any_cons, List.any_nil, atI_0, setI_0, atI_1, setI_1, atI_2, setI_2, atI_3, setI_3, atI_4, setI_4, atI_5, setI_5, atI_6, setI_6, tAsg, gName, tOp, tUn, tVar, tC, tCons, L2.tNil, tRet, tIfS, tTest, tCB, tCall, rI, rI0, rU, tNext, tB, tAnd, tOr, tNot, tAndV, tOrV, tNotV, tDrop, tIf, tPar, gSub, rIxL, rIxT, rEq, rNe, rSetL, tBits,
    L2.start, List.map_cons, List.map_nil, List.cons_append, List.nil_append, List.append_nil, List.length_cons, List.length_nil, List.replicate, Nat.reduceAdd, Nat.reduceSub, Nat.zero_add, List.getElem?_cons_zero, List.getElem?_cons_succ, List.set_cons_zero, List.set_cons_succ,
    Option.some.injEq, exists_eq_left', exists_eq_left, V.int.injEq, V.bl.injEq, V.ref.injEq, V.str.injEq, List.cons.injEq, reduceCtorEq, and_true, true_and, false_and, and_false, exists_false, or_false, false_or, or_true, true_or, exists_const, CMul, CDiv, CPow, and_assoc, exists_and_left, exists_and_right, Int.reducePow, Int.reduceNeg, Int.reduceLT, Int.reduceLE, Nat.reducePow, Nat.reduceLT, Int.reduceToNat, gt_iff_lt, ge_iff_le, decide_eq_true_eq, Bool.not_eq_true', decide_eq_false_iff_not, scal, ↓reduceIte, Bool.false_eq_true]
  refine ite2 (fun h => ?_) (fun h => ?_)
  · intro p1 h1 k1 p2 h2 k2 p3 h3 k3 p4 h4 k4 p5 h5 k5
    rw [ob_new k5]
    simp only [cx_K, decide_true, decide_false, reduceCtorEq, gTp, gCons, gNil, ca_0, ca_1, ca_2, ca_3, ca_4, ca_5, ca_6, ca_7, ca_8, ca_9, ca_10, ca_11, ca_12, ca_13, ca_14, ca_15, ca_16, ca_17, ca_18, ca_19, ca_20, ca_21, ca_22, ca_23, ca_24, ca_25, ca_26, ca_27, ca_28, ca_29, ca_30, not_true_eq_false, not_false_eq_true, Int.reduceEq, Nat.reduceEqDiff, Nat.reduceLeDiff, rGcd, V.ty.injEq, eq_self, List.not_mem_nil, beq_self_eq_true, HO.lst.injEq, HO.tup.injEq, tFor_eq, iRng1, iList, iTup, nat10, tSeq, rIxA, rSetA, rIsN, rIsT, tTp, tLs, itsO_tup, itsO_lst, tyO_tup, tyO_lst, tyO_dK, tyN_non, tyN_bl, tyN_int, tyN_str, tyN_ref, tyNs_lt, isB, upd_same, upd_upd, sizeLine_eq, List.mem_cons, String.reduceBEq, String.reduceEq, Bool.or_false, Bool.or_true, Bool.and_false, Bool.false_or, Bool.and_self, Bool.false_and, Bool.not_false, Bool.not_true, List.any_cons, List.any_nil, atI_0, setI_0, atI_1, setI_1, atI_2, setI_2, atI_3, setI_3, atI_4, setI_4, atI_5, setI_5, atI_6, setI_6, tAsg, gName, tOp, tUn, tVar, tC, tCons, L2.tNil, tRet, tIfS, tTest, tCB, tCall, rI, rI0, rU, tNext, tB, tAnd, tOr, tNot, tAndV, tOrV, tNotV, tDrop, tIf, tPar, gSub, rIxL, rIxT, rEq, rNe, rSetL, tBits,
    L2.start, List.map_cons, List.map_nil, List.cons_append, List.nil_append, List.append_nil, List.length_cons, List.length_nil, List.replicate, Nat.reduceAdd, Nat.reduceSub, Nat.zero_add, List.getElem?_cons_zero, List.getElem?_cons_succ, List.set_cons_zero, List.set_cons_succ,
    Option.some.injEq, exists_eq_left', exists_eq_left, V.int.injEq, V.bl.injEq, V.ref.injEq, V.str.injEq, List.cons.injEq, reduceCtorEq, and_true, true_and, false_and, and_false, exists_false, or_false, false_or, or_true, true_or, exists_const, CMul, CDiv, CPow, and_assoc, exists_and_left, exists_and_right, Int.reducePow, Int.reduceNeg, Int.reduceLT, Int.reduceLE, Nat.reducePow, Nat.reduceLT, Int.reduceToNat, gt_iff_lt, ge_iff_le, decide_eq_true_eq, Bool.not_eq_true', decide_eq_false_iff_not, scal, ↓reduceIte, Bool.false_eq_true]
    refine menu z0 (by show i < 4; omega) fun v hv => ?_
    simp only [List.mem_cons, List.not_mem_nil, or_false] at hv
    rcases hv with rfl | rfl | rfl | rfl
    · exact k _ _ _ ⟨⟨ob_same ((Same.new h2 _).trans ((Same.new h3 _).trans ((Same.new h4 _).trans (Same.new h5 _)))) (ob_new k1), nf11, sz10 (by decide) (by decide)⟩, by decide⟩ (kp.trans (Kp.same ((Same.new h1 _).trans ((Same.new h2 _).trans ((Same.new h3 _).trans ((Same.new h4 _).trans (Same.new h5 _))))))) (st.same ((Same.new h1 _).trans ((Same.new h2 _).trans ((Same.new h3 _).trans ((Same.new h4 _).trans (Same.new h5 _))))))
    · exact k _ _ _ ⟨⟨ob_same ((Same.new h3 _).trans ((Same.new h4 _).trans (Same.new h5 _))) (ob_new k2), nf12, sz10 (by decide) (by decide)⟩, by decide⟩ (kp.trans (Kp.same ((Same.new h1 _).trans ((Same.new h2 _).trans ((Same.new h3 _).trans ((Same.new h4 _).trans (Same.new h5 _))))))) (st.same ((Same.new h1 _).trans ((Same.new h2 _).trans ((Same.new h3 _).trans ((Same.new h4 _).trans (Same.new h5 _))))))
    · exact k _ _ _ ⟨⟨ob_same ((Same.new h4 _).trans (Same.new h5 _)) (ob_new k3), nf21, sz10 (by decide) (by decide)⟩, by decide⟩ (kp.trans (Kp.same ((Same.new h1 _).trans ((Same.new h2 _).trans ((Same.new h3 _).trans ((Same.new h4 _).trans (Same.new h5 _))))))) (st.same ((Same.new h1 _).trans ((Same.new h2 _).trans ((Same.new h3 _).trans ((Same.new h4 _).trans (Same.new h5 _))))))
    · exact k _ _ _ ⟨⟨ob_same (Same.new h5 _) (ob_new k4), nf112, sz10 (by decide) (by decide)⟩, by decide⟩ (kp.trans (Kp.same ((Same.new h1 _).trans ((Same.new h2 _).trans ((Same.new h3 _).trans ((Same.new h4 _).trans (Same.new h5 _))))))) (st.same ((Same.new h1 _).trans ((Same.new h2 _).trans ((Same.new h3 _).trans ((Same.new h4 _).trans (Same.new h5 _))))))
  · refine ⟨s, 12, rfl, st, by omega, fun j H2 j0 j1 kp2 st2 => ?_⟩
    simp only [cx_K, decide_true, decide_false, reduceCtorEq, gTp, gCons, gNil, ca_0, ca_1, ca_2, ca_3, ca_4, ca_5, ca_6, ca_7, ca_8, ca_9, ca_10, ca_11, ca_12, ca_13, ca_14, ca_15, ca_16, ca_17, ca_18, ca_19, ca_20, ca_21, ca_22, ca_23, ca_24, ca_25, ca_26, ca_27, ca_28, ca_29, ca_30, not_true_eq_false, not_false_eq_true, Int.reduceEq, Nat.reduceEqDiff, Nat.reduceLeDiff, rGcd, V.ty.injEq, eq_self, List.not_mem_nil, beq_self_eq_true, HO.lst.injEq, HO.tup.injEq, tFor_eq, iRng1, iList, iTup, nat10, tSeq, rIxA, rSetA, rIsN, rIsT, tTp, tLs, itsO_tup, itsO_lst, tyO_tup, tyO_lst, tyO_dK, tyN_non, tyN_bl, tyN_int, tyN_str, tyN_ref, tyNs_lt, isB, upd_same, upd_upd, sizeLine_eq, List.mem_cons, String.reduceBEq, String.reduceEq, Bool.or_false, Bool.or_true, Bool.and_false, Bool.false_or, Bool.and_self, Bool.false_and, Bool.not_false, Bool.not_true, List.any_cons, List.any_nil, atI_0, setI_0, atI_1, setI_1, atI_2, setI_2, atI_3, setI_3, atI_4, setI_4, atI_5, setI_5, atI_6, setI_6, tAsg, gName, tOp, tUn, tVar, tC, tCons, L2.tNil, tRet, tIfS, tTest, tCB, tCall, rI, rI0, rU, tNext, tB, tAnd, tOr, tNot, tAndV, tOrV, tNotV, tDrop, tIf, tPar, gSub, rIxL, rIxT, rEq, rNe, rSetL, tBits,
    L2.start, List.map_cons, List.map_nil, List.cons_append, List.nil_append, List.append_nil, List.length_cons, List.length_nil, List.replicate, Nat.reduceAdd, Nat.reduceSub, Nat.zero_add, List.getElem?_cons_zero, List.getElem?_cons_succ, List.set_cons_zero, List.set_cons_succ,
    Option.some.injEq, exists_eq_left', exists_eq_left, V.int.injEq, V.bl.injEq, V.ref.injEq, V.str.injEq, List.cons.injEq, reduceCtorEq, and_true, true_and, false_and, and_false, exists_false, or_false, false_or, or_true, true_or, exists_const, CMul, CDiv, CPow, and_assoc, exists_and_left, exists_and_right, Int.reducePow, Int.reduceNeg, Int.reduceLT, Int.reduceLE, Nat.reducePow, Nat.reduceLT, Int.reduceToNat, gt_iff_lt, ge_iff_le, decide_eq_true_eq, Bool.not_eq_true', decide_eq_false_iff_not, scal, ↓reduceIte, Bool.false_eq_true]
    refine ⟨s, _, rfl, st2, by omega, fun m H3 m0 m1 kp3 st3 => ?_⟩
    simp only [cx_K, decide_true, decide_false, reduceCtorEq, gTp, gCons, gNil, ca_0, ca_1, ca_2, ca_3, ca_4, ca_5, ca_6, ca_7, ca_8, ca_9, ca_10, ca_11, ca_12, ca_13, ca_14, ca_15, ca_16, ca_17, ca_18, ca_19, ca_20, ca_21, ca_22, ca_23, ca_24, ca_25, ca_26, ca_27, ca_28, ca_29, ca_30, not_true_eq_false, not_false_eq_true, Int.reduceEq, Nat.reduceEqDiff, Nat.reduceLeDiff, rGcd, V.ty.injEq, eq_self, List.not_mem_nil, beq_self_eq_true, HO.lst.injEq, HO.tup.injEq, tFor_eq, iRng1, iList, iTup, nat10, tSeq, rIxA, rSetA, rIsN, rIsT, tTp, tLs, itsO_tup, itsO_lst, tyO_tup, tyO_lst, tyO_dK, tyN_non, tyN_bl, tyN_int, tyN_str, tyN_ref, tyNs_lt, isB, upd_same, upd_upd, sizeLine_eq, List.mem_cons, String.reduceBEq, String.reduceEq, Bool.or_false, Bool.or_true, Bool.and_false, Bool.false_or, Bool.and_self, Bool.false_and, Bool.not_false, Bool.not_true, List.any_cons, List.any_nil, atI_0, setI_0, atI_1, setI_1, atI_2, setI_2, atI_3, setI_3, atI_4, setI_4, atI_5, setI_5, atI_6, setI_6, tAsg, gName, tOp, tUn, tVar, tC, tCons, L2.tNil, tRet, tIfS, tTest, tCB, tCall, rI, rI0, rU, tNext, tB, tAnd, tOr, tNot, tAndV, tOrV, tNotV, tDrop, tIf, tPar, gSub, rIxL, rIxT, rEq, rNe, rSetL, tBits,
    L2.start, List.map_cons, List.map_nil, List.cons_append, List.nil_append, List.append_nil, List.length_cons, List.length_nil, List.replicate, Nat.reduceAdd, Nat.reduceSub, Nat.zero_add, List.getElem?_cons_zero, List.getElem?_cons_succ, List.set_cons_zero, List.set_cons_succ,
    Option.some.injEq, exists_eq_left', exists_eq_left, V.int.injEq, V.bl.injEq, V.ref.injEq, V.str.injEq, List.cons.injEq, reduceCtorEq, and_true, true_and, false_and, and_false, exists_false, or_false, false_or, or_true, true_or, exists_const, CMul, CDiv, CPow, and_assoc, exists_and_left, exists_and_right, Int.reducePow, Int.reduceNeg, Int.reduceLT, Int.reduceLE, Nat.reducePow, Nat.reduceLT, Int.reduceToNat, gt_iff_lt, ge_iff_le, decide_eq_true_eq, Bool.not_eq_true', decide_eq_false_iff_not, scal, ↓reduceIte, Bool.false_eq_true]
    refine ⟨_, _, rfl, ?_, fun q hq p H4 s4 o4 => ?_⟩
    · have e : 2 ^ 10 ≤ 2 ^ 8000 := Nat.pow_le_pow_right (by omega) (by omega)
      omega
    · have hI := hq.2 (show 1 + j ≠ 0 by omega)
      exact k p q H4 ⟨⟨o4, hI.1, is_sz (by omega) hI (by omega) (by omega)⟩, is_pos hI (by omega) (by omega)⟩ (((kp.trans kp2).trans kp3).trans (Kp.same s4)) (st3.same s4)
abbrev sDNz : Stmt := topS 51
theorem scDNz : FnScope ["_law_store_here", "_law_value"] ["_law_store_here"] (defScope sDNz) := ⟨rfl, rfl, rfl, by decide +kernel, rfl, by decide +kernel, by decide +kernel⟩
theorem k_DNz (T : Bt K mg) (D : Dfn K mg "_law_no_zero" sDNz ["_law_store_here"]) (d__law_take : Kn P w K mg base 2 "_law_take" ["_law_store_here", "_law_many"] (spTake K)) (d__law_positive : Kn P w K mg base 3 "_law_positive" ["_law_store_here"] (spDPos K)) : Kn P w K mg base 4 "_law_no_zero" ["_law_store_here"] (spDNz K) := by
  refine Kn.mk' D scDNz (fun vs H Q E h => ?_) (fun f cdv A outer s H vs Q E hr h => ?_)
  · obtain ⟨s, rfl, _⟩ := h
    rfl
  obtain ⟨s, rfl, hS, k⟩ := h
  refine ⟨_, (pss_cons (ps_set (i := 1) scDNz.nd rfl (.inl rfl) (pe_kn d__law_positive hr (by rfl) (pa_cons (pv 0) pa_nil)))
      (pss_cons (ps_if (pt_cmpR op_eq (pe_kn d__law_take hr (by rfl) (pa_cons (pv 0) (pa_cons pe_int pa_nil))) pe_int (nomark _)) (pss_one (ps_ret (pe_tp (pa_cons (pe_un un_neg (pe_ix ix_any (pv 1) pe_int (fun _ _ => rfl))) (pa_cons (pe_ix ix_any (pv 1) pe_int (fun _ _ => rfl)) pa_nil))))) pss_nil)
      (pss_one (ps_ret (pv 1))))), ?_⟩
  simp only [cx_K, decide_true, decide_false, reduceCtorEq, gTp, gCons, gNil, ca_0, ca_1, ca_2, ca_3, ca_4, ca_5, ca_6, ca_7, ca_8, ca_9, ca_10, ca_11, ca_12, ca_13, ca_14, ca_15, ca_16, ca_17, ca_18, ca_19, ca_20, ca_21, ca_22, ca_23, ca_24, ca_25, ca_26, ca_27, ca_28, ca_29, ca_30, not_true_eq_false, not_false_eq_true, Int.reduceEq, Nat.reduceEqDiff, Nat.reduceLeDiff, rGcd, V.ty.injEq, eq_self, List.not_mem_nil, beq_self_eq_true, HO.lst.injEq, HO.tup.injEq, tFor_eq, iRng1, iList, iTup, nat10, tSeq, rIxA, rSetA, rIsN, rIsT, tTp, tLs, itsO_tup, itsO_lst, tyO_tup, tyO_lst, tyO_dK, tyN_non, tyN_bl, tyN_int, tyN_str, tyN_ref, tyNs_lt, isB, upd_same, upd_upd, sizeLine_eq, List.mem_cons, String.reduceBEq, String.reduceEq, Bool.or_false, Bool.or_true, Bool.and_false, Bool.false_or, Bool.and_self, Bool.false_and, Bool.not_false, Bool.not_true, List.any_cons, List.any_nil, atI_0, setI_0, atI_1, setI_1, atI_2, setI_2, atI_3, setI_3, atI_4, setI_4, atI_5, setI_5, atI_6, setI_6, tAsg, gName, tOp, tUn, tVar, tC, tCons, L2.tNil, tRet, tIfS, tTest, tCB, tCall, rI, rI0, rU, tNext, tB, tAnd, tOr, tNot, tAndV, tOrV, tNotV, tDrop, tIf, tPar, gSub, rIxL, rIxT, rEq, rNe, rSetL, tBits,
    L2.start, List.map_cons, List.map_nil, List.cons_append, List.nil_append, List.append_nil, List.length_cons, List.length_nil, List.replicate, Nat.reduceAdd, Nat.reduceSub, Nat.zero_add, List.getElem?_cons_zero, List.getElem?_cons_succ, List.set_cons_zero, List.set_cons_succ,
    Option.some.injEq, exists_eq_left', exists_eq_left, V.int.injEq, V.bl.injEq, V.ref.injEq, V.str.injEq, List.cons.injEq, reduceCtorEq, and_true, true_and, false_and, and_false, exists_false, or_false, false_or, or_true, true_or, exists_const, CMul, CDiv, CPow, and_assoc, exists_and_left, exists_and_right, Int.reducePow, Int.reduceNeg, Int.reduceLT, Int.reduceLE, Nat.reducePow, Nat.reduceLT, Int.reduceToNat, gt_iff_lt, ge_iff_le, decide_eq_true_eq, Bool.not_eq_true', decide_eq_false_iff_not, scal, ↓reduceIte, Bool.false_eq_true]
  refine ⟨s, rfl, hS, fun a q H1 hq kp st => ?_⟩
  simp only [cx_K, decide_true, decide_false, reduceCtorEq, gTp, gCons, gNil, ca_0, ca_1, ca_2, ca_3, ca_4, ca_5, ca_6, ca_7, ca_8, ca_9, ca_10, ca_11, ca_12, ca_13, ca_14, ca_15, ca_16, ca_17, ca_18, ca_19, ca_20, ca_21, ca_22, ca_23, ca_24, ca_25, ca_26, ca_27, ca_28, ca_29, ca_30, not_true_eq_false, not_false_eq_true, Int.reduceEq, Nat.reduceEqDiff, Nat.reduceLeDiff, rGcd, V.ty.injEq, eq_self, List.not_mem_nil, beq_self_eq_true, HO.lst.injEq, HO.tup.injEq, tFor_eq, iRng1, iList, iTup, nat10, tSeq, rIxA, rSetA, rIsN, rIsT, tTp, tLs, itsO_tup, itsO_lst, tyO_tup, tyO_lst, tyO_dK, tyN_non, tyN_bl, tyN_int, tyN_str, tyN_ref, tyNs_lt, isB, upd_same, upd_upd, sizeLine_eq, List.mem_cons, String.reduceBEq, String.reduceEq, Bool.or_false, Bool.or_true, Bool.and_false, Bool.false_or, Bool.and_self, Bool.false_and, Bool.not_false, Bool.not_true, List.any_cons, List.any_nil, atI_0, setI_0, atI_1, setI_1, atI_2, setI_2, atI_3, setI_3, atI_4, setI_4, atI_5, setI_5, atI_6, setI_6, tAsg, gName, tOp, tUn, tVar, tC, tCons, L2.tNil, tRet, tIfS, tTest, tCB, tCall, rI, rI0, rU, tNext, tB, tAnd, tOr, tNot, tAndV, tOrV, tNotV, tDrop, tIf, tPar, gSub, rIxL, rIxT, rEq, rNe, rSetL, tBits,
    L2.start, List.map_cons, List.map_nil, List.cons_append, List.nil_append, List.append_nil, List.length_cons, List.length_nil, List.replicate, Nat.reduceAdd, Nat.reduceSub, Nat.zero_add, List.getElem?_cons_zero, List.getElem?_cons_succ, List.set_cons_zero, List.set_cons_succ,
    Option.some.injEq, exists_eq_left', exists_eq_left, V.int.injEq, V.bl.injEq, V.ref.injEq, V.str.injEq, List.cons.injEq, reduceCtorEq, and_true, true_and, false_and, and_false, exists_false, or_false, false_or, or_true, true_or, exists_const, CMul, CDiv, CPow, and_assoc, exists_and_left, exists_and_right, Int.reducePow, Int.reduceNeg, Int.reduceLT, Int.reduceLE, Nat.reducePow, Nat.reduceLT, Int.reduceToNat, gt_iff_lt, ge_iff_le, decide_eq_true_eq, Bool.not_eq_true', decide_eq_false_iff_not, scal, ↓reduceIte, Bool.false_eq_true]
  refine ⟨s, 2, rfl, st, by omega, fun i H2 z0 z1 kp2 st2 => ?_⟩
  obtain ⟨ys, hys⟩ := st.at
  have hq2 := hq.1.kp kp2 hys
  have h0 := hq.2
  simp only [hq2.o, cx_K, decide_true, decide_false, reduceCtorEq, gTp, gCons, gNil, ca_0, ca_1, ca_2, ca_3, ca_4, ca_5, ca_6, ca_7, ca_8, ca_9, ca_10, ca_11, ca_12, ca_13, ca_14, ca_15, ca_16, ca_17, ca_18, ca_19, ca_20, ca_21, ca_22, ca_23, ca_24, ca_25, ca_26, ca_27, ca_28, ca_29, ca_30, not_true_eq_false, not_false_eq_true, Int.reduceEq, Nat.reduceEqDiff, Nat.reduceLeDiff, rGcd, V.ty.injEq, eq_self, List.not_mem_nil, beq_self_eq_true, HO.lst.injEq, HO.tup.injEq, tFor_eq, iRng1, iList, iTup, nat10, tSeq, rIxA, rSetA, rIsN, rIsT, tTp, tLs, itsO_tup, itsO_lst, tyO_tup, tyO_lst, tyO_dK, tyN_non, tyN_bl, tyN_int, tyN_str, tyN_ref, tyNs_lt, isB, upd_same, upd_upd, sizeLine_eq, List.mem_cons, String.reduceBEq, String.reduceEq, Bool.or_false, Bool.or_true, Bool.and_false, Bool.false_or, Bool.and_self, Bool.false_and, Bool.not_false, Bool.not_true, List.any_cons, List.any_nil, atI_0, setI_0, atI_1, setI_1, atI_2, setI_2, atI_3, setI_3, atI_4, setI_4, atI_5, setI_5, atI_6, setI_6, tAsg, gName, tOp, tUn, tVar, tC, tCons, L2.tNil, tRet, tIfS, tTest, tCB, tCall, rI, rI0, rU, tNext, tB, tAnd, tOr, tNot, tAndV, tOrV, tNotV, tDrop, tIf, tPar, gSub, rIxL, rIxT, rEq, rNe, rSetL, tBits,
    L2.start, List.map_cons, List.map_nil, List.cons_append, List.nil_append, List.append_nil, List.length_cons, List.length_nil, List.replicate, Nat.reduceAdd, Nat.reduceSub, Nat.zero_add, List.getElem?_cons_zero, List.getElem?_cons_succ, List.set_cons_zero, List.set_cons_succ,
    Option.some.injEq, exists_eq_left', exists_eq_left, V.int.injEq, V.bl.injEq, V.ref.injEq, V.str.injEq, List.cons.injEq, reduceCtorEq, and_true, true_and, false_and, and_false, exists_false, or_false, false_or, or_true, true_or, exists_const, CMul, CDiv, CPow, and_assoc, exists_and_left, exists_and_right, Int.reducePow, Int.reduceNeg, Int.reduceLT, Int.reduceLE, Nat.reducePow, Nat.reduceLT, Int.reduceToNat, gt_iff_lt, ge_iff_le, decide_eq_true_eq, Bool.not_eq_true', decide_eq_false_iff_not, scal, ↓reduceIte, Bool.false_eq_true]
  refine ite2 (fun h => ?_) (fun h => ?_)
  · intro p hp kn
    exact k p (-q.1, q.2) _ ⟨ob_new kn, nf_neg hq2.nf, by show (-q.1).natAbs < 2 ^ 10; rw [Int.natAbs_neg]; exact hq2.sz.1, hq2.sz.2⟩ (by show -q.1 ≠ 0; omega) ((kp.trans kp2).trans (Kp.same (Same.new hp _))) (st2.same (Same.new hp _))
  · exact k a q H2 hq2 (by omega) (kp.trans kp2) st2
def spMoment (K : PySem.W.Frag) : Sp := fun vs H Q _ => ∃ (s : Addr) (r : Int), vs = [.ref s, .int r] ∧ Sto K H s ∧ 1 ≤ r ∧ r < 2 ^ 60 ∧ ∀ a q H', Fq K H' 70 a q → Kp s H H' → Sto K H' s → Q (.ref a) H'
end
end My

namespace My
open PySem PySem.Spec PyProof.Rows L2
/-! ### C.m(..), m a static method -/
/-- C.m is a staticmethod: its record at p, its def at g -/
structure SMet (K : PySem.W.Frag) (C : Addr) (mc : Value) (m : Str) (p g : Addr) : Prop where
  at_ : PySem.W.findCls K (.ref C) mc m = some (.get (.builtin "staticmethod.__get__") (.ref p) .none (.ref C))
  rc : ∃ rest, PySem.W.recIn K p "staticmethod" = some (.ref g :: rest)
  kp : PySem.W.keepIn K (.ref g) = true
def tSMeth (C : Addr) (sp : Sp) (dvs : List V) (E : XK) (ta : TE) (t : TA) : TE := fun σ H Q => ta σ H fun x H1 => x = .ref C ∧ t σ H1 fun vs H2 => sp (vs ++ dvs) H2 Q E
section
variable {X : Cx} {CX : CXT} {k : Nat} {C p g : Addr} {mc : Value} {sp : Sp} {E : XK} {o e : Expr} {es : List Expr} {m : Str} {pos apos : Pos} {ta : TE} {t : TA} {pl : Sem Bool} {fd : FuncData} {ps : List Str} {ds : List Value} {dvs : List V}
theorem getsmet_ok {pins : List (Addr × Obj)} {σ : L2.St} {H : Hp} {s : Shared} {A : Around} {E : Value → Shared → Prop} {b : Bool} {Q : Value → Shared → Prop} (I : Inv X pins σ H s) (r : ClX.CRead X.K C mc) (c : SMet X.K C mc m p g)
    (h : ∀ s', Inv X pins σ H s' → Q (.ref g) s') : wpAny (model X.prog X.w) A (getAttr (.ref C) m b) Q E s := by
  obtain ⟨rest, hp⟩ := c.rc
  refine PySem.W.cls_bind I.kIn r.rd c.at_ ?_
  exact wpAny_call (PySem.W.sm_get (s := { s with toks := s.toks + 1 }) I.kIn hp (PySem.W.handed_on rfl (h _ (I.tok _))))
theorem pe_smeth (he : PE X o ta) (r : ClX.CRead X.K C mc) (c : SMet X.K C mc m p g) (F : FnOk X.prog X.w X.K X.mg X.base CX k g fd ps sp) (hr : Room k X.A) (hb : Binds X.K fd ps ds) (hd : Vals dvs ds) (hx : Passes CX X E) (ha : PA X (e :: es) t)
    (hst : starEach (e :: es) X.env = (false, eval e X.env) :: starEach es X.env := by rfl) (hpl : (backTo pos (starEach es X.env)).any (·.1) = false := by rfl)
    (ht : eval (.Call (.Attribute o m apos) (e :: es) [] pos) X.env = (do
      let ov ← eval o X.env
      standAt apos.atName
      let (f, first) ← holding [ov] (getMethod ov m pl)
      callWith pos f first (backTo pos (starEach (e :: es) X.env)) (backToKw pos (keywordEach [] X.env))) := by rfl) :
    PE X (.Call (.Attribute o m apos) (e :: es) [] pos) (tSMeth C sp dvs E ta t) := by
  refine ⟨fun pins s σ H Q I h => ?_⟩
  refine PySem.W.methodCall_KW (pl := pl) (thn (he.run pins s σ H _ I h) fun u s1 ⟨x, H1, I1, rx, ex, q⟩ => ?_) ht
  subst ex
  obtain rfl : u = Value.ref C := rx
  refine PySem.W.method_cls I1.kIn r.ga (getsmet_ok I1 r c fun s2 I2 => ?_)
  refine PySem.W.callWith_K (h₀ := X.base) I2.ok.mod.kin c.kp (thn (ha.run pos pins s2 σ H1 _ I2 q) fun us s3 ⟨vs, H2, I3, rv, q2⟩ => ⟨I3.kIn, ?_⟩) hst hpl
  exact run_fn F hr hb hd hx I3 rv q2
end
section
variable {P : Program} {w : World} {K : PySem.W.Frag} {mg : Str → Option Value} {base : Heap}
/-! ### the == of two fractions -/
def rEqF (K : PySem.W.Frag) : R2 := fun x y H Q => ∃ (a b : Addr) (p q : Qt), x = .ref a ∧ y = .ref b ∧ ob K H a = some (.tup [.int p.1, .int p.2]) ∧ ob K H b = some (.tup [.int q.1, .int q.2]) ∧ Q (.bl (decide (p = q))) H
def rNeF (K : PySem.W.Frag) : R2 := fun x y H Q => ∃ (a b : Addr) (p q : Qt), x = .ref a ∧ y = .ref b ∧ ob K H a = some (.tup [.int p.1, .int p.2]) ∧ ob K H b = some (.tup [.int q.1, .int q.2]) ∧ Q (.bl (!decide (p = q))) H
theorem dp_fr {H : Hp} {a : Addr} {p : Qt} (h : ob K H a = some (.tup [.int p.1, .int p.2])) : Dp K H (.ref a) (.tuple [.int p.1, .int p.2]) := .tup (ob_tup h) (.cons (.int _) (.cons (.int _) .nil))
theorem eqv_fr (p q : Qt) : PyData.eqv (.tuple [.int p.1, .int p.2]) (.tuple [.int q.1, .int q.2]) = decide (p = q) := by
  show ((p.1 == q.1) && ((p.2 == q.2) && true)) = decide (p = q)
  rw [Bool.and_true]
  by_cases h : p = q
  · subst h
    simp
  · rw [decide_eq_false h]
    by_cases h1 : p.1 = q.1
    · have h2 : p.2 ≠ q.2 := fun z => h (Prod.ext h1 z)
      simp [h1, h2]
    · simp [h1]
theorem op_eqF {X : Cx} {j : Nat} (hr : Room j X.A) : OpR X (compareOp .Eq) (rEqF X.K) := fun pins s σ H x y v u Q I rx ry h => by
  obtain ⟨a, b, p, q, ex, ey, oa, ob', k⟩ := h
  subst ex ey
  refine op_eqD (by have := hr.un; omega) pins s σ H _ _ v u Q I rx ry ⟨_, _, dp_fr oa, dp_fr ob', rfl, rfl, ?_⟩
  rw [eqv_fr]
  exact k
theorem op_neF {X : Cx} {j : Nat} (hr : Room j X.A) : OpR X (compareOp .NotEq) (rNeF X.K) := fun pins s σ H x y v u Q I rx ry h => by
  obtain ⟨a, b, p, q, ex, ey, oa, ob', k⟩ := h
  subst ex ey
  refine op_neD (by have := hr.un; omega) pins s σ H _ _ v u Q I rx ry ⟨_, _, dp_fr oa, dp_fr ob', rfl, rfl, ?_⟩
  rw [eqv_fr]
  exact k
end
end My

namespace My
open PySem PySem.Spec PyProof.Rows L2
section
variable {P : Program} {w : World} {K : PySem.W.Frag} {mg : Str → Option Value} {base : Heap}
/-- the two numbers that the program names -/
structure Two01 (K : PySem.W.Frag) (mg : Str → Option Value) (z o : Addr) : Prop where
  g_ZERO : mg "ZERO" = some (.ref z)
  g_ONE : mg "ONE" = some (.ref o)
  oz : ∀ H, ob K H z = some (.tup [.int 0, .int 1])
  oo : ∀ H, ob K H o = some (.tup [.int 1, .int 1])
theorem sz01 {k : Nat} (h : 1 ≤ k) : Sz k (0, 1) := Sz.mono (a := 1) ⟨by decide, by decide⟩ h
theorem sz11 {k : Nat} (h : 1 ≤ k) : Sz k (1, 1) := Sz.mono (a := 1) ⟨by decide, by decide⟩ h
/-- the period of a rate -/
def PerOk (K : PySem.W.Frag) (n : Nat) (H : Hp) (p : Qt) (v : V) : Prop := (p.1 = 0 ∧ v = .non) ∨ (p.1 ≠ 0 ∧ ∃ c, v = .ref c ∧ Fq K H n c (p.2, (p.1.natAbs : Int)))
theorem PerOk.mono {n k : Nat} {H : Hp} {p : Qt} {v : V} (h : PerOk K n H p v) (l : n ≤ k) : PerOk K k H p v := h.imp id fun ⟨a, c, e, f⟩ => ⟨a, c, e, f.mono l⟩
theorem PerOk.same {n : Nat} {H H' : Hp} {p : Qt} {v : V} (h : PerOk K n H p v) (s : Same H H') : PerOk K n H' p v := h.imp id fun ⟨a, c, e, f⟩ => ⟨a, c, e, f.same s⟩
def spPeriod (K : PySem.W.Frag) : Sp := fun vs H Q _ => ∃ (a : Addr) (p : Qt) (n : Nat), vs = [.ref a] ∧ Fq K H n a p ∧ n ≤ 2900 ∧ ∀ v H', Same H H' → PerOk K n H' p v → Q v H'
theorem quo_one {p z : Qt} (hp : Nf p) (h0 : p.1 ≠ 0) (h : quo2 (1, 1) ((p.1.natAbs : Int), p.2) z) : z = (p.2, (p.1.natAbs : Int)) := by
  have n : (p.1.natAbs : Int) ≠ 0 := by omega
  have h' : Is z (1 * p.2) (1 * (p.1.natAbs : Int)) := h
  rw [Int.one_mul, Int.one_mul] at h'
  refine is_unique n h' ⟨⟨by show 1 ≤ (p.1.natAbs : Int); omega, ?_⟩, rfl⟩
  show Nat.gcd p.2.natAbs p.1.natAbs = 1
  rw [Nat.gcd_comm]
  exact hp.2
theorem nf_zero {p : Qt} (hp : Nf p) : p = (0, 1) ↔ p.1 = 0 := by
  refine ⟨fun h => by rw [h], fun h => ?_⟩
  have g := hp.2
  rw [h] at g
  have g1 : p.2.natAbs = 1 := by simpa using g
  have p2 := hp.1
  exact Prod.ext h (by show p.2 = 1; omega)
end
end My

namespace My
open PySem PySem.Spec PyProof.Rows L2
section
variable {P : Program} {w : World} {K : PySem.W.Frag} {mg : Str → Option Value} {base : Heap}
/-- what the text says of the class Cycle -/
structure CyC (K : PySem.W.Frag) (mg : Str → Option Value) (C : Addr) : Prop where
  cl : Cls K C
  nR : NoAttr K C "rate"
  nS : NoAttr K C "start"
  nP : NoAttr K C "period"
  g : mg "Cycle" = some (.ref C)
def cyF (a b : Addr) (v : V) : List (Str × V) := [("rate", .ref a), ("start", .ref b), ("period", v)]
/-- a Cycle at c with the rate p and the start q -/
def CyAt (K : PySem.W.Frag) (C : Addr) (n : Nat) (H : Hp) (c : Addr) (p q : Qt) : Prop := ∃ dx a b v, H c = some (.ins C dx (cyF a b v)) ∧ Fq K H n a p ∧ Pq K H n b q ∧ PerOk K n H p v
theorem CyAt.mono {C : Addr} {n k : Nat} {H : Hp} {c : Addr} {p q : Qt} (h : CyAt K C n H c p q) (l : n ≤ k) : CyAt K C k H c p q := by
  obtain ⟨dx, a, b, v, h1, h2, h3, h4⟩ := h
  exact ⟨dx, a, b, v, h1, h2.mono l, h3.mono l, h4.mono l⟩
theorem CyAt.same {C : Addr} {n : Nat} {H H' : Hp} {c : Addr} {p q : Qt} (h : CyAt K C n H c p q) (s : Same H H') : CyAt K C n H' c p q := by
  obtain ⟨dx, a, b, v, h1, h2, h3, h4⟩ := h
  exact ⟨dx, a, b, v, s _ _ h1, h2.same s, h3.same s, h4.same s⟩
theorem PerOk.kp {n : Nat} {H H' : Hp} {p : Qt} {v : V} {s : Addr} {ys : List V} (h : PerOk K n H p v) (e : Kp s H H') (hs : H s = some (.lst ys)) : PerOk K n H' p v := h.imp id fun ⟨a, c, z, f⟩ => ⟨a, c, z, f.kp e hs⟩
theorem CyAt.kp {C : Addr} {n : Nat} {H H' : Hp} {c s : Addr} {ys : List V} {p q : Qt} (h : CyAt K C n H c p q) (e : Kp s H H') (hs : H s = some (.lst ys)) : CyAt K C n H' c p q := by
  obtain ⟨dx, a, b, v, h1, h2, h3, h4⟩ := h
  exact ⟨dx, a, b, v, e _ _ (by rintro rfl; rw [hs] at h1; cases h1) h1, h2.kp e hs, h3.kp e hs, h4.kp e hs⟩
theorem cy_rate (a b : Addr) (v : V) : (cyF a b v).lookup ("rate" : Str) = some (.ref a) := rfl
theorem cy_start (a b : Addr) (v : V) : (cyF a b v).lookup ("start" : Str) = some (.ref b) := rfl
theorem cy_period (a b : Addr) (v : V) : (cyF a b v).lookup ("period" : Str) = some v := rfl
theorem cy_put1 (x y : V) : putF "start" y [(("rate" : Str), x)] = [(("rate" : Str), x), (("start" : Str), y)] := by
  show (if ("rate" : Str) = "start" then _ else _) = _
  rw [if_neg (by decide +kernel)]
  rfl
theorem cy_put2 (x y z : V) : putF "period" z [(("rate" : Str), x), (("start" : Str), y)] = [(("rate" : Str), x), (("start" : Str), y), (("period" : Str), z)] := by
  show (if ("rate" : Str) = "period" then _ else (("rate" : Str), x) :: (if ("start" : Str) = "period" then _ else _)) = _
  rw [if_neg (by decide +kernel), if_neg (by decide +kernel)]
  rfl
def spCyInit (K : PySem.W.Frag) (C : Addr) : Sp := fun vs H Q _ => ∃ (H0 : Hp) (c dx a b : Addr) (p q : Qt) (n : Nat), vs = [.ref c, .ref a, .ref b] ∧ Same H0 H ∧ H0 c = none ∧ H c = some (.ins C dx []) ∧ Fq K H0 n a p ∧ Pq K H0 n b q ∧ n ≤ 2900 ∧ ∀ H', Same H0 H' → CyAt K C n H' c p q → Q .non H'
theorem ob_put {H : Hp} {c a C dx : Addr} {fs : List (Str × V)} {o : HO} {xs : List V} (hc : H c = some (.ins C dx fs)) (h : ob K H a = some (.tup xs)) : ob K (upd H c o) a = some (.tup xs) := by
  unfold ob at h ⊢
  split
  · rename_i z hz
    rw [hz] at h
    exact h
  · rename_i hz
    rw [hz] at h
    rw [upd_ne (by rintro rfl; rw [hc] at h; cases h)]
    exact h
theorem PerOk.put {n : Nat} {H : Hp} {c C dx : Addr} {fs : List (Str × V)} {o : HO} {p : Qt} {v : V} (hc : H c = some (.ins C dx fs)) (h : PerOk K n H p v) : PerOk K n (upd H c o) p v := h.imp id fun ⟨a, d, z, f⟩ => ⟨a, d, z, ob_put hc f.o, f.nf, f.sz⟩
theorem same_put {H0 H : Hp} {c : Addr} {o : HO} (s : Same H0 H) (n : H0 c = none) : Same H0 (upd H c o) := fun b u e => by
  rw [upd_ne (ne_of_none e n)]
  exact s b u e
theorem pl_true {H : Hp} {a : Addr} {n : Nat} {q : Qt} (h : Pq K H n a q) : plOk K H (.ref a) = true := by
  rw [plOk_fr h.f.o h.f.nf, decide_eq_true h.lo, decide_eq_true h.hi]
  rfl
end
end My

namespace My
open PySem PySem.Spec PyProof.Rows L2
section
variable {P : Program} {w : World} {K : PySem.W.Frag} {mg : Str → Option Value} {base : Heap}
/-- the turns of a cycle of the rate p and the start q at the moment m -/
def Tur (p q m y : Qt) : Prop := ∃ t, pro2 p m t ∧ sum2 q t y
theorem szSub' : True := trivial
theorem sum_sz {p q z : Qt} {i j k : Nat} (h : sum2 p q z) (hp : Nf p) (hq : Nf q) (sp : Sz i p) (sq : Sz j q) (l : i + j < k) : Sz k z :=
  is_sz (mul_ne hp.1 hq.1) h (szAdd (szMul sp.1 sq.2) (szMul sq.1 sp.2) (by omega) (by omega)) (szMono (szMul sp.2 sq.2) (by omega))
theorem dif_sz {p q z : Qt} {i j k : Nat} (h : dif2 p q z) (hp : Nf p) (hq : Nf q) (sp : Sz i p) (sq : Sz j q) (l : i + j < k) : Sz k z :=
  is_sz (mul_ne hp.1 hq.1) h (szSub (szMul sp.1 sq.2) (szMul sq.1 sp.2) (by omega) (by omega)) (szMono (szMul sp.2 sq.2) (by omega))
theorem pro_sz {p q z : Qt} {i j k : Nat} (h : pro2 p q z) (hp : Nf p) (hq : Nf q) (sp : Sz i p) (sq : Sz j q) (l : i + j < k) : Sz k z :=
  is_sz (mul_ne hp.1 hq.1) h (szMono (szMul sp.1 sq.1) (by omega)) (szMono (szMul sp.2 sq.2) (by omega))
theorem quo_sz {p q z : Qt} {i j k : Nat} (h : quo2 p q z) (hp : Nf p) (h0 : q.1 ≠ 0) (sp : Sz i p) (sq : Sz j q) (l : i + j < k) : Sz k z :=
  is_sz (Int.mul_ne_zero hp.ne h0) h (szMono (szMul sp.1 sq.2) (by omega)) (szMono (szMul sp.2 sq.1) (by omega))
theorem Tur.unique {p q m y z : Qt} (hp : Nf p) (hq : Nf q) (hm : Nf m) (h1 : Tur p q m y) (h2 : Tur p q m z) : y = z := by
  obtain ⟨t, a, b⟩ := h1
  obtain ⟨u, c, d⟩ := h2
  obtain rfl := is_unique (mul_ne hp.1 hm.1) a c
  exact is_unique (mul_ne hq.1 a.1.1) b d
def spTurns (K : PySem.W.Frag) (C : Addr) : Sp := fun vs H Q _ => ∃ (c a : Addr) (p q m : Qt) (n j : Nat), vs = [.ref c, .ref a] ∧ CyAt K C n H c p q ∧ Fq K H j a m ∧ n + j ≤ 2900 ∧ ∀ y, Tur p q m y → Sz (2 * n + j + 3) y → Gv K H Q y
def spPlace (K : PySem.W.Frag) (C : Addr) : Sp := fun vs H Q _ => ∃ (c a : Addr) (p q m : Qt) (n j : Nat), vs = [.ref c, .ref a] ∧ CyAt K C n H c p q ∧ Fq K H j a m ∧ n + j ≤ 2900 ∧ ∀ y, Tur p q m y → Sz (2 * n + j + 3) y → Gv K H Q (y.1 % y.2, y.2)
theorem same_make {H : Hp} {c dx C : Addr} (h1 : H c = none) (h2 : H dx = none) : Same H (upd (upd H dx (.own c)) c (.ins C dx [])) := fun b o e => by
  rw [upd_ne (ne_of_none e h1), upd_ne (ne_of_none e h2)]
  exact e
def spWith (K : PySem.W.Frag) (C : Addr) : Sp := fun vs H Q _ => ∃ (a b : Addr) (p q : Qt), vs = [.ref a, .ref b] ∧ Fq K H 140 a p ∧ p.1 ≠ 0 ∧ Pq K H 140 b q ∧ ∀ z c H', quo2 (1, 1) p z → Same H H' → CyAt K C 300 H' c z q → Q (.ref c) H'
end
end My

namespace My
open PySem PySem.Spec PyProof.Rows L2
section
variable {P : Program} {w : World} {K : PySem.W.Frag} {mg : Str → Option Value} {base : Heap}
/-! ### fractions as rational numbers -/
def qv (q : Qt) : Rat := (q.1 : Rat) / (q.2 : Rat)
theorem pos2 {q : Qt} (h : Nf q) : (0 : Rat) < (q.2 : Rat) := by
  have := h.1
  exact_mod_cast (show (0 : Int) < q.2 by omega)
theorem qv_is {z : Qt} {n d : Int} (h : Is z n d) (hd : d ≠ 0) : qv z = (n : Rat) / (d : Rat) := by
  have e : (z.1 : Rat) * d = n * z.2 := by exact_mod_cast h.2
  have hz := pos2 h.1
  have hd' : (d : Rat) ≠ 0 := by exact_mod_cast hd
  have hz' : (z.2 : Rat) ≠ 0 := by grind
  unfold qv
  grind
theorem is_qv {z : Qt} {n d : Int} (hz : Nf z) (hd : d ≠ 0) (h : qv z = (n : Rat) / (d : Rat)) : Is z n d := by
  refine ⟨hz, ?_⟩
  have hp := pos2 hz
  have hz' : (z.2 : Rat) ≠ 0 := by grind
  have hd' : (d : Rat) ≠ 0 := by exact_mod_cast hd
  have e : (z.1 : Rat) * d = n * z.2 := by
    unfold qv at h
    grind
  exact_mod_cast e
theorem qv_inj {p q : Qt} (hp : Nf p) (hq : Nf q) (h : qv p = qv q) : p = q := by
  have a : Is p q.1 q.2 := is_qv hp (by have := hq.1; omega) h
  exact is_unique (by have := hq.1; omega) a ⟨hq, rfl⟩
theorem qv_sum {p q z : Qt} (hp : Nf p) (hq : Nf q) (h : sum2 p q z) : qv z = qv p + qv q := by
  rw [qv_is h (mul_ne hp.1 hq.1)]
  have a := pos2 hp
  have b := pos2 hq
  have a' : (p.2 : Rat) ≠ 0 := by grind
  have b' : (q.2 : Rat) ≠ 0 := by grind
  unfold qv
  push_cast
  grind
theorem qv_dif {p q z : Qt} (hp : Nf p) (hq : Nf q) (h : dif2 p q z) : qv z = qv p - qv q := by
  rw [qv_is h (mul_ne hp.1 hq.1)]
  have a := pos2 hp
  have b := pos2 hq
  have a' : (p.2 : Rat) ≠ 0 := by grind
  have b' : (q.2 : Rat) ≠ 0 := by grind
  unfold qv
  push_cast
  grind
theorem qv_pro {p q z : Qt} (hp : Nf p) (hq : Nf q) (h : pro2 p q z) : qv z = qv p * qv q := by
  rw [qv_is h (mul_ne hp.1 hq.1)]
  have a := pos2 hp
  have b := pos2 hq
  have a' : (p.2 : Rat) ≠ 0 := by grind
  have b' : (q.2 : Rat) ≠ 0 := by grind
  unfold qv
  push_cast
  grind
theorem qv_ne {q : Qt} (hq : Nf q) : qv q ≠ 0 ↔ q.1 ≠ 0 := by
  have b := pos2 hq
  have b' : (q.2 : Rat) ≠ 0 := by grind
  constructor
  · intro h e
    apply h
    unfold qv
    rw [e]
    grind
  · intro h e
    have : (q.1 : Rat) ≠ 0 := by exact_mod_cast h
    unfold qv at e
    grind
theorem qv_quo {p q z : Qt} (hp : Nf p) (hq : Nf q) (h0 : q.1 ≠ 0) (h : quo2 p q z) : qv z = qv p / qv q := by
  rw [qv_is h (Int.mul_ne_zero hp.ne h0)]
  have a := pos2 hp
  have b := pos2 hq
  have a' : (p.2 : Rat) ≠ 0 := by grind
  have b' : (q.2 : Rat) ≠ 0 := by grind
  have c' : (q.1 : Rat) ≠ 0 := by exact_mod_cast h0
  unfold qv
  push_cast
  grind
theorem qv_lt {p q : Qt} (hp : Nf p) (hq : Nf q) : qv p < qv q ↔ p.1 * q.2 < q.1 * p.2 := by
  have a := pos2 hp
  have b := pos2 hq
  unfold qv
  rw [Rat.div_lt_iff a, show (q.1 : Rat) / (q.2 : Rat) * (p.2 : Rat) = ((q.1 : Rat) * p.2) / q.2 by grind, Rat.lt_div_iff b]
  exact_mod_cast Iff.rfl
theorem qv_le {p q : Qt} (hp : Nf p) (hq : Nf q) : qv p ≤ qv q ↔ p.1 * q.2 ≤ q.1 * p.2 := by
  have := qv_lt hq hp
  rw [← Rat.not_lt, this, Int.not_lt]
theorem qv01 : qv (0, 1) = 0 := by
  unfold qv
  push_cast
  grind
theorem qv11 : qv (1, 1) = 1 := by
  unfold qv
  push_cast
  grind
theorem qv21 : qv (2, 1) = 2 := by
  unfold qv
  push_cast
  grind
theorem qv_int (n : Int) : qv (n, 1) = (n : Rat) := by
  unfold qv
  push_cast
  grind
theorem qv_neg (q : Qt) : qv (-q.1, q.2) = - qv q := by
  unfold qv
  push_cast
  grind
theorem qv_lo {q : Qt} (hq : Nf q) (h : 0 ≤ q.1) : 0 ≤ qv q := by
  have := (qv_le (p := (0, 1)) nf01 hq).mpr (by show 0 * q.2 ≤ q.1 * 1; omega)
  rwa [qv01] at this
theorem qv_hi {q : Qt} (hq : Nf q) (h : q.1 < q.2) : qv q < 1 := by
  have := (qv_lt (q := (1, 1)) hq nf11).mpr (by show q.1 * 1 < 1 * q.2; omega)
  rwa [qv11] at this
theorem qv_part {q : Qt} (hq : Nf q) : qv (q.1 % q.2, q.2) = qv q - ((q.1 / q.2 : Int) : Rat) ∧ 0 ≤ qv (q.1 % q.2, q.2) ∧ qv (q.1 % q.2, q.2) < 1 := by
  have p2 := hq.1
  refine ⟨?_, qv_lo (nf_part hq) (Int.emod_nonneg _ (by omega)), qv_hi (nf_part hq) (Int.emod_lt_of_pos _ (by omega))⟩
  have e : (q.1 % q.2 : Int) = q.1 - q.2 * (q.1 / q.2) := by
    have := Int.emod_add_mul_ediv q.1 q.2
    omega
  have b := pos2 hq
  have b' : (q.2 : Rat) ≠ 0 := by grind
  unfold qv
  show ((q.1 % q.2 : Int) : Rat) / (q.2 : Rat) = _
  rw [e]
  push_cast
  generalize ((q.1 / q.2 : Int) : Rat) = f
  grind
theorem floor_uni {f w : Int} {p u : Rat} (h : (f : Rat) + p = (w : Rat) + u) (p0 : 0 ≤ p) (p1 : p < 1) (u0 : 0 ≤ u) (u1 : u < 1) : f = w := by
  have h1 : (f : Rat) < ((w + 1 : Int) : Rat) := by
    push_cast
    grind
  have h2 : (w : Rat) < ((f + 1 : Int) : Rat) := by
    push_cast
    grind
  have h1' : f < w + 1 := by exact_mod_cast h1
  have h2' : w < f + 1 := by exact_mod_cast h2
  omega
/-! ### a slot's knots -/
abbrev Kt := Qt × Qt
/-- the knots with the first again, a turn on -/
def ext (ks : List Kt) : List Kt := ks ++ [((1, 1), (ks.getD 0 ((0, 1), (0, 1))).2)]
structure Good (ks : List Kt) : Prop where
  one : 1 ≤ ks.length
  nf : ∀ k ∈ ks, Nf k.1 ∧ Nf k.2
  zero : ∀ k, ks[0]? = some k → k.1 = (0, 1)
  asc : ∀ i k k', (ext ks)[i]? = some k → (ext ks)[i + 1]? = some k' → qv k.1 < qv k'.1
theorem Good.nfE {ks : List Kt} (g : Good ks) : ∀ k ∈ ext ks, Nf k.1 ∧ Nf k.2 := by
  intro k hk
  unfold ext at hk
  rcases List.mem_append.mp hk with h | h
  · exact g.nf k h
  · rw [List.mem_singleton] at h
    subst h
    refine ⟨nf11, ?_⟩
    match ks, g.one, g.nf with
    | x :: r, _, n => exact (n x List.mem_cons_self).2
theorem ext_len (ks : List Kt) : (ext ks).length = ks.length + 1 := by unfold ext; rw [List.length_append]; rfl
theorem asc_lt {ks : List Kt} (g : Good ks) : ∀ (n i : Nat) (k k' : Kt), (ext ks)[i]? = some k → (ext ks)[i + 1 + n]? = some k' → qv k.1 < qv k'.1 := by
  intro n
  induction n with
  | zero => exact fun i k k' h1 h2 => g.asc i k k' h1 h2
  | succ n ih =>
    intro i k k' h1 h2
    have hl : i + 1 + n < (ext ks).length := by
      have := (List.getElem?_eq_some_iff.mp h2).1
      omega
    have h3 : (ext ks)[i + 1 + n]? = some (ext ks)[i + 1 + n] := List.getElem?_eq_getElem hl
    have a := ih i k _ h1 h3
    have b := g.asc (i + 1 + n) _ k' h3 h2
    grind
theorem asc_uni {ks : List Kt} (g : Good ks) {i j : Nat} {k k' l l' : Kt} {p : Rat} (h1 : (ext ks)[i]? = some k) (h2 : (ext ks)[i + 1]? = some k') (h3 : (ext ks)[j]? = some l) (h4 : (ext ks)[j + 1]? = some l')
    (a1 : qv k.1 ≤ p) (a2 : p < qv k'.1) (b1 : qv l.1 ≤ p) (b2 : p < qv l'.1) : i = j := by
  rcases Nat.lt_trichotomy i j with h | h | h
  · exfalso
    rcases Nat.eq_or_lt_of_le (show i + 1 ≤ j from h) with e | e
    · subst e
      rw [h2] at h3
      cases h3
      grind
    · have := asc_lt g (j - (i + 1) - 1) (i + 1) k' l h2 (by rw [show i + 1 + 1 + (j - (i + 1) - 1) = j by omega]; exact h3)
      grind
  · exact h
  · exfalso
    rcases Nat.eq_or_lt_of_le (show j + 1 ≤ i from h) with e | e
    · subst e
      rw [h4] at h1
      cases h1
      grind
    · have := asc_lt g (i - (j + 1) - 1) (j + 1) l' k h4 (by rw [show j + 1 + 1 + (i - (j + 1) - 1) = i by omega]; exact h1)
      grind
def slp (k k' : Kt) : Rat := 1 + (qv k'.2 - qv k.2) / (qv k'.1 - qv k.1)
/-- z is the slope of the i-th piece -/
def Slp (ks : List Kt) (i : Nat) (z : Qt) : Prop := Nf z ∧ ∃ k k', (ext ks)[i]? = some k ∧ (ext ks)[i + 1]? = some k' ∧ qv z = slp k k'
/-- z is what t is carried to -/
def Car (ks : List Kt) (t z : Qt) : Prop := Nf z ∧ ∃ i k k', (ext ks)[i]? = some k ∧ (ext ks)[i + 1]? = some k' ∧ qv k.1 ≤ qv (t.1 % t.2, t.2) ∧ qv (t.1 % t.2, t.2) < qv k'.1 ∧ qv z = qv t - (qv (t.1 % t.2, t.2) - qv k.1) + qv k.2 + (qv (t.1 % t.2, t.2) - qv k.1) * slp k k'
theorem ext_lo {ks : List Kt} (g : Good ks) {i : Nat} {k : Kt} (h : (ext ks)[i]? = some k) : 0 ≤ qv k.1 := by
  have h0 : ∃ k0, (ext ks)[0]? = some k0 ∧ k0.1 = (0, 1) := by
    match ks, g with
    | x :: r, g => exact ⟨x, rfl, g.zero x rfl⟩
    | [], g => exact absurd g.one (by decide)
  obtain ⟨k0, e0, z0⟩ := h0
  cases i with
  | zero =>
    rw [e0] at h
    cases h
    rw [z0, qv01]
    exact Rat.le_refl
  | succ n =>
    have := asc_lt g n 0 k0 k e0 (by rw [show 0 + 1 + n = n + 1 by omega]; exact h)
    rw [z0, qv01] at this
    grind
theorem ext_last {ks : List Kt} (g : Good ks) : ∃ k0, ks[0]? = some k0 ∧ (ext ks)[ks.length]? = some ((1, 1), k0.2) ∧ (ext ks)[0]? = some k0 ∧ k0.1 = (0, 1) := by
  match ks, g with
  | x :: r, g =>
    refine ⟨x, rfl, ?_, rfl, g.zero x rfl⟩
    unfold ext
    rw [List.getElem?_append_right (Nat.le_refl _), Nat.sub_self]
    rfl
  | [], g => exact absurd g.one (by decide)
theorem ext_hi {ks : List Kt} (g : Good ks) {i : Nat} {k : Kt} (h : (ext ks)[i]? = some k) : qv k.1 ≤ 1 := by
  obtain ⟨k0, _, el, _, _⟩ := ext_last g
  have hl := (List.getElem?_eq_some_iff.mp h).1
  rw [ext_len] at hl
  rcases Nat.eq_or_lt_of_le (show i ≤ ks.length by omega) with e | e
  · subst e
    rw [el] at h
    cases h
    rw [qv11]
    exact Rat.le_refl
  · have := asc_lt g (ks.length - i - 1) i k _ h (by rw [show i + 1 + (ks.length - i - 1) = ks.length by omega]; exact el)
    rw [qv11] at this
    grind
theorem car_lin {ks : List Kt} (g : Good ks) {t z : Qt} (ht : Nf t) (c : Car ks t z) {i : Nat} {k k' : Kt} (h1 : (ext ks)[i]? = some k) (h2 : (ext ks)[i + 1]? = some k') {w : Int} {u : Rat} (e : qv t = (w : Rat) + u) (u0 : qv k.1 ≤ u) (u1 : u ≤ qv k'.1) :
    qv z = (w : Rat) + qv k.1 + qv k.2 + (u - qv k.1) * slp k k' := by
  obtain ⟨_, j, l, l', h3, h4, b1, b2, ez⟩ := c
  obtain ⟨ep, p0, p1⟩ := qv_part ht
  generalize qv (t.1 % t.2, t.2) = p at *
  have k0 := ext_lo g h1
  have k1 := ext_hi g h2
  have wd := g.asc i k k' h1 h2
  have wd' : qv k'.1 - qv k.1 ≠ 0 := by grind
  by_cases hu : u < qv k'.1
  · have f := floor_uni (f := t.1 / t.2) (w := w) (p := p) (u := u) (by grind) p0 p1 (by grind) (by grind)
    rw [f] at ep
    have eu : p = u := by grind
    subst eu
    obtain rfl := asc_uni g h1 h2 h3 h4 u0 hu b1 b2
    rw [h1] at h3
    rw [h2] at h4
    cases h3
    cases h4
    grind
  · have hu' : u = qv k'.1 := by grind
    have tgt : (w : Rat) + qv k.1 + qv k.2 + (u - qv k.1) * slp k k' = (w : Rat) + qv k'.1 + qv k'.2 := by
      unfold slp
      rw [hu']
      grind
    rw [tgt]
    obtain ⟨a0, a1, el, a2, a3⟩ := ext_last g
    have hl := (List.getElem?_eq_some_iff.mp h2).1
    rw [ext_len] at hl
    by_cases hn : i + 1 = ks.length
    · rw [hn, el] at h2
      cases h2
      have eu : u = 1 := by rw [hu', qv11]
      have f := floor_uni (f := t.1 / t.2) (w := w + 1) (p := p) (u := 0) (by push_cast; grind) p0 p1 (by grind) (by grind)
      rw [f] at ep
      push_cast at ep
      have ep0 : p = 0 := by grind
      subst ep0
      have q0 : qv a0.1 = 0 := by rw [a3, qv01]
      have z0 : ∃ b, (ext ks)[0 + 1]? = some b := ⟨_, List.getElem?_eq_getElem (by rw [ext_len]; have := g.one; omega)⟩
      obtain ⟨b, hb⟩ := z0
      have bb := g.asc 0 a0 b a2 hb
      obtain rfl := asc_uni g a2 hb h3 h4 (by grind) (by grind) b1 b2
      rw [a2] at h3
      cases h3
      rw [ez, qv11, q0]
      grind
    · have z1 : ∃ b, (ext ks)[i + 1 + 1]? = some b := ⟨_, List.getElem?_eq_getElem (by rw [ext_len]; omega)⟩
      obtain ⟨b, hb⟩ := z1
      have bb := g.asc (i + 1) k' b h2 hb
      have b3 := ext_hi g hb
      have f := floor_uni (f := t.1 / t.2) (w := w) (p := p) (u := u) (by grind) p0 p1 (by grind) (by grind)
      rw [f] at ep
      have eu : p = u := by grind
      subst eu
      obtain rfl := asc_uni g h2 hb h3 h4 (by grind) (by grind) b1 b2
      rw [h2] at h3
      cases h3
      rw [ez]
      grind
end
end My

namespace My
open PySem PySem.Spec PyProof.Rows L2
section
variable {P : Program} {w : World} {K : PySem.W.Frag} {mg : Str → Option Value} {base : Heap}
theorem if_no {c : Bool} {A B : Prop} (e : c = false) (h : B) : if c = true then A else B := by
  rw [e, if_neg Bool.noConfusion]
  exact h
theorem if_yes {c : Bool} {A B : Prop} (e : c = true) (h : A) : if c = true then A else B := by
  rw [e, if_pos rfl]
  exact h
theorem itsO_of {H : Hp} {a : Addr} {xs : List V} (h : ob K H a = some (.tup xs)) : itsO (ob K H a) = some xs := by rw [h]; rfl
theorem itsO_ofL {H : Hp} {a : Addr} {xs : List V} (h : ob K H a = some (.lst xs)) : itsO (ob K H a) = some xs := by rw [h]; rfl
theorem sz2 {n : Nat} (h : n ≤ 100) : n ≤ sizeLine := by rw [sizeLine_eq]; omega
/-! ### using a def's promise -/
theorem av_sum {H : Hp} {Q : VK} {a b : Addr} {p q : Qt} {j k : Nat} (hp : Fq K H j a p) (hq : Fq K H k b q) (h : ∀ z c H', qv z = qv p + qv q → Same H H' → Fq K H' (j + k + 1) c z → Q (.ref c) H') (hj : j ≤ 3000 := by omega) (hk : k ≤ 3000 := by omega) (E : XK := C8.E0) : spBin K sum2 [.ref a, .ref b] H Q E :=
  ⟨a, b, p, q, rfl, hp.mono hj, hq.mono hk, fun z hz c H' s o => h z c H' (qv_sum hp.nf hq.nf hz) s ⟨o, hz.1, sum_sz hz hp.nf hq.nf hp.sz hq.sz (by omega)⟩⟩
theorem av_dif {H : Hp} {Q : VK} {a b : Addr} {p q : Qt} {j k : Nat} (hp : Fq K H j a p) (hq : Fq K H k b q) (h : ∀ z c H', qv z = qv p - qv q → Same H H' → Fq K H' (j + k + 1) c z → Q (.ref c) H') (hj : j ≤ 3000 := by omega) (hk : k ≤ 3000 := by omega) (E : XK := C8.E0) : spBin K dif2 [.ref a, .ref b] H Q E :=
  ⟨a, b, p, q, rfl, hp.mono hj, hq.mono hk, fun z hz c H' s o => h z c H' (qv_dif hp.nf hq.nf hz) s ⟨o, hz.1, dif_sz hz hp.nf hq.nf hp.sz hq.sz (by omega)⟩⟩
theorem av_pro {H : Hp} {Q : VK} {a b : Addr} {p q : Qt} {j k : Nat} (hp : Fq K H j a p) (hq : Fq K H k b q) (h : ∀ z c H', qv z = qv p * qv q → Same H H' → Fq K H' (j + k + 1) c z → Q (.ref c) H') (hj : j ≤ 3000 := by omega) (hk : k ≤ 3000 := by omega) (E : XK := C8.E0) : spBin K pro2 [.ref a, .ref b] H Q E :=
  ⟨a, b, p, q, rfl, hp.mono hj, hq.mono hk, fun z hz c H' s o => h z c H' (qv_pro hp.nf hq.nf hz) s ⟨o, hz.1, pro_sz hz hp.nf hq.nf hp.sz hq.sz (by omega)⟩⟩
theorem av_quo {H : Hp} {Q : VK} {a b : Addr} {p q : Qt} {j k : Nat} (hp : Fq K H j a p) (hq : Fq K H k b q) (h0 : qv q ≠ 0) (h : ∀ z c H', qv z = qv p / qv q → Same H H' → Fq K H' (j + k + 1) c z → Q (.ref c) H') (hj : j ≤ 3000 := by omega) (hk : k ≤ 3000 := by omega) (E : XK := C8.E0) : spQuo K [.ref a, .ref b] H Q E :=
  ⟨a, b, p, q, rfl, hp.mono hj, hq.mono hk, (qv_ne hq.nf).mp h0, fun z hz c H' s o => h z c H' (qv_quo hp.nf hq.nf ((qv_ne hq.nf).mp h0) hz) s ⟨o, hz.1, quo_sz hz hp.nf ((qv_ne hq.nf).mp h0) hp.sz hq.sz (by omega)⟩⟩
theorem av_part {H : Hp} {Q : VK} {a : Addr} {z : Qt} {k : Nat} (hz : Fq K H k a z) (h : ∀ e H', Same H H' → Fq K H' k e (z.1 % z.2, z.2) → Q (.ref e) H') (hk : k ≤ 8000 := by omega) (E : XK := C8.E0) : spUn K (fun q => (q.1 % q.2, q.2)) [.ref a] H Q E :=
  ⟨a, z, rfl, hz.mono hk, fun e H' s o => h e H' s ⟨o, nf_part hz.nf, szPart hz.nf hz.sz⟩⟩
theorem cmp_lt0 {p q : Qt} (hp : Nf p) (hq : Nf q) : cmp2 p q < 0 ↔ qv p < qv q := by
  rw [qv_lt hp hq]
  unfold cmp2
  split
  · omega
  · split <;> omega
theorem cmp_le0 {p q : Qt} (hp : Nf p) (hq : Nf q) : cmp2 p q ≤ 0 ↔ qv p ≤ qv q := by
  rw [qv_le hp hq]
  unfold cmp2
  split
  · omega
  · split <;> omega
/-- a knot -/
def Ka (K : PySem.W.Frag) (H : Hp) (n : Nat) (v : V) (k : Kt) : Prop := ∃ t a b, v = .ref t ∧ ob K H t = some (.tup [.ref a, .ref b]) ∧ Fq K H n a k.1 ∧ Fq K H n b k.2
theorem Ka.same {H H' : Hp} {n : Nat} {v : V} {k : Kt} (h : Ka K H n v k) (s : Same H H') : Ka K H' n v k := by
  obtain ⟨t, a, b, e, o, f, g⟩ := h
  exact ⟨t, a, b, e, ob_same s o, f.same s, g.same s⟩
theorem Ka.mono {H : Hp} {n m : Nat} {v : V} {k : Kt} (h : Ka K H n v k) (s : n ≤ m) : Ka K H m v k := by
  obtain ⟨t, a, b, e, o, f, g⟩ := h
  exact ⟨t, a, b, e, o, f.mono s, g.mono s⟩
theorem Ka.kp {H H' : Hp} {n : Nat} {s : Addr} {ys : List V} {v : V} {k : Kt} (h : Ka K H n v k) (e : Kp s H H') (hs : H s = some (.lst ys)) : Ka K H' n v k := by
  obtain ⟨t, a, b, e', o, f, g⟩ := h
  exact ⟨t, a, b, e', ob_kp e hs (fun _ z => by cases z) o, f.kp e hs, g.kp e hs⟩
/-- knots -/
def Kts (K : PySem.W.Frag) (H : Hp) (n : Nat) (xs : List V) (ks : List Kt) : Prop := xs.length = ks.length ∧ ∀ (i : Nat) x k, xs[i]? = some x → ks[i]? = some k → Ka K H n x k
theorem Kts.same {H H' : Hp} {n : Nat} {xs : List V} {ks : List Kt} (h : Kts K H n xs ks) (s : Same H H') : Kts K H' n xs ks := ⟨h.1, fun i x k a b => (h.2 i x k a b).same s⟩
theorem Kts.mono {H : Hp} {n m : Nat} {xs : List V} {ks : List Kt} (h : Kts K H n xs ks) (s : n ≤ m) : Kts K H m xs ks := ⟨h.1, fun i x k a b => (h.2 i x k a b).mono s⟩
theorem Kts.kp {H H' : Hp} {n : Nat} {s : Addr} {ys xs : List V} {ks : List Kt} (h : Kts K H n xs ks) (e : Kp s H H') (hs : H s = some (.lst ys)) : Kts K H' n xs ks := ⟨h.1, fun i x k a b => (h.2 i x k a b).kp e hs⟩
theorem Kts.get {H : Hp} {n i : Nat} {xs : List V} {ks : List Kt} {k : Kt} (h : Kts K H n xs ks) (e : ks[i]? = some k) : ∃ x, xs[i]? = some x ∧ Ka K H n x k := by
  have hi := (List.getElem?_eq_some_iff.mp e).1
  have hi' : i < xs.length := by rw [h.1]; exact hi
  have hx : xs[i]? = some xs[i] := List.getElem?_eq_getElem hi'
  exact ⟨_, hx, h.2 i _ k hx e⟩
theorem Kts.at {H : Hp} {n i : Nat} {xs : List V} {ks : List Kt} {x : V} (h : Kts K H n xs ks) (e : xs[i]? = some x) : ∃ k, ks[i]? = some k ∧ Ka K H n x k := by
  have hi := (List.getElem?_eq_some_iff.mp e).1
  have hi' : i < ks.length := by rw [← h.1]; exact hi
  have hx : ks[i]? = some ks[i] := List.getElem?_eq_getElem hi'
  exact ⟨_, hx, h.2 i x _ e hx⟩
theorem Good.at {ks : List Kt} (g : Good ks) {i : Nat} {k : Kt} (e : ks[i]? = some k) : (ext ks)[i]? = some k ∧ ∃ k', (ext ks)[i + 1]? = some k' ∧ 0 ≤ k.1.1 ∧ k.1.1 < k.1.2 := by
  have hi := (List.getElem?_eq_some_iff.mp e).1
  have e1 : (ext ks)[i]? = some k := by
    unfold ext
    rw [List.getElem?_append_left hi]
    exact e
  have hl : i + 1 < (ext ks).length := by rw [ext_len]; omega
  have e2 : (ext ks)[i + 1]? = some (ext ks)[i + 1] := List.getElem?_eq_getElem hl
  have nf := g.nf k (List.mem_of_getElem? e)
  have a := g.asc i k _ e1 e2
  have b := ext_hi g e2
  have c := ext_lo g e1
  have d2 : qv k.1 < qv (1, 1) := by rw [qv11]; grind
  have d1 : qv (0, 1) ≤ qv k.1 := by rw [qv01]; exact c
  have d2 := (qv_lt nf.1 nf11).mp d2
  have d1 := (qv_le nf01 nf.1).mp d1
  refine ⟨e1, _, e2, ?_, ?_⟩
  · have : 0 * k.1.2 ≤ k.1.1 * 1 := d1
    omega
  · have : k.1.1 * 1 < 1 * k.1.2 := d2
    omega
theorem pl_ok {H : Hp} {n : Nat} {a : Addr} {q : Qt} (h : Fq K H n a q) (h0 : 0 ≤ q.1) (h1 : q.1 < q.2) : plOk K H (.ref a) = true := by
  rw [plOk_fr h.o h.nf, decide_eq_true h0, decide_eq_true h1]
  rfl
def spListW (K : PySem.W.Frag) : Sp := fun vs H Q _ => ∃ (a : Addr) (xs : List V) (lo hi : Int), vs = [.ref a, .int lo, .int hi] ∧ ob K H a = some (.lst xs) ∧ lo ≤ (xs.length : Int) ∧ (xs.length : Int) ≤ hi ∧ Q (.bl true) H
def spTupOf (K : PySem.W.Frag) : Sp := fun vs H Q _ => ∃ (a : Addr) (xs : List V) (n : Int), vs = [.ref a, .int n] ∧ ob K H a = some (.tup xs) ∧ Q (.bl (decide ((xs.length : Int) = n))) H
def spKnot (K : PySem.W.Frag) : Sp := fun vs H Q _ => ∃ (v : V) (k : Kt) (n : Nat), vs = [v] ∧ Ka K H n v k ∧ 0 ≤ k.1.1 ∧ k.1.1 < k.1.2 ∧ Q (.bl true) H
def spSlope (K : PySem.W.Frag) : Sp := fun vs H Q _ => ∃ (v u : V) (k k' : Kt) (n : Nat), vs = [v, u] ∧ Ka K H n v k ∧ Ka K H n u k' ∧ n ≤ 600 ∧ qv k.1 < qv k'.1 ∧ ∀ z a H', Same H H' → Fq K H' (4 * n + 6) a z → qv z = slp k k' → Q (.ref a) H'
abbrev sListW : Stmt := topS 8
theorem scListW : FnScope ["value", "least", "most"] ["value", "least", "most"] (defScope sListW) := ⟨rfl, rfl, rfl, by decide +kernel, rfl, by decide +kernel, by decide +kernel⟩
theorem k_ListW (T : Bt K mg) (D : Dfn K mg "is_list_within" sListW ["value", "least", "most"]) : Kn P w K mg base 1 "is_list_within" ["value", "least", "most"] (spListW K) := by
  refine Kn.mk' D scListW (fun vs H Q E h => ?_) (fun f cdv A outer s H vs Q E hr h => ?_)
  · obtain ⟨a, xs, lo, hi, rfl, _⟩ := h
    rfl
  obtain ⟨a, xs, lo, hi, rfl, oa, h0, h1, k⟩ := h
  refine ⟨_, (pss_one (ps_ret (pe_and (pe_callB call_isN (by rfl) T.b_isinstance (by decide +kernel) (pa_cons (pv 0) (pa_cons (pe_bltn (v := .ty "list") (by rfl) T.b_list (by decide +kernel) rfl) pa_nil))) (pe_one (pe_chain op_le op_le (pv 1) (pe_callB call_lenA (by rfl) T.b_len PySem.boot_len (pa_cons (pv 0) pa_nil)) (pv 2)))))), ?_⟩
  have ty : tyN K H (.ref a) = some "list" := by rw [tyN_ref, oa]; rfl
  have oi := itsO_ofL oa
  refine ⟨_, rfl, _, _, rfl, by decide, _, ty, _, rfl, if_yes rfl ?_⟩
  simp only [tChain, oi, cx_K, decide_true, decide_false, reduceCtorEq, gTp, gCons, gNil, ca_0, ca_1, ca_2, ca_3, ca_4, ca_5, ca_6, ca_7, ca_8, ca_9, ca_10, ca_11, ca_12, ca_13, ca_14, ca_15, ca_16, ca_17, ca_18, ca_19, ca_20, ca_21, ca_22, ca_23, ca_24, ca_25, ca_26, ca_27, ca_28, ca_29, ca_30, not_true_eq_false, not_false_eq_true, Int.reduceEq, Nat.reduceEqDiff, Nat.reduceLeDiff, rGcd, V.ty.injEq, eq_self, List.not_mem_nil, beq_self_eq_true, HO.lst.injEq, HO.tup.injEq, tFor_eq, iRng1, iList, iTup, nat10, tSeq, rIxA, rSetA, rIsN, rIsT, tTp, tLs, itsO_tup, itsO_lst, tyO_tup, tyO_lst, tyO_dK, tyN_non, tyN_bl, tyN_int, tyN_str, tyN_ref, tyNs_lt, isB, upd_same, upd_upd, sizeLine_eq, List.mem_cons, String.reduceBEq, String.reduceEq, Bool.or_false, Bool.or_true, Bool.and_false, Bool.false_or, Bool.and_self, Bool.false_and, Bool.not_false, Bool.not_true, List.any_cons, List.any_nil, atI_0, setI_0, atI_1, setI_1, atI_2, setI_2, atI_3, setI_3, atI_4, setI_4, atI_5, setI_5, atI_6, setI_6, tAsg, gName, tOp, tUn, tVar, tC, tCons, L2.tNil, tRet, tIfS, tTest, tCB, tCall, rI, rI0, rU, tNext, tB, tAnd, tOr, tNot, tAndV, tOrV, tNotV, tDrop, tIf, tPar, gSub, rIxL, rIxT, rEq, rNe, rSetL, tBits,
    L2.start, List.map_cons, List.map_nil, List.cons_append, List.nil_append, List.append_nil, List.length_cons, List.length_nil, List.replicate, Nat.reduceAdd, Nat.reduceSub, Nat.zero_add, List.getElem?_cons_zero, List.getElem?_cons_succ, List.set_cons_zero, List.set_cons_succ,
    Option.some.injEq, exists_eq_left', exists_eq_left, V.int.injEq, V.bl.injEq, V.ref.injEq, V.str.injEq, List.cons.injEq, reduceCtorEq, and_true, true_and, false_and, and_false, exists_false, or_false, false_or, or_true, true_or, exists_const, CMul, CDiv, CPow, and_assoc, exists_and_left, exists_and_right, Int.reducePow, Int.reduceNeg, Int.reduceLT, Int.reduceLE, Nat.reducePow, Nat.reduceLT, Int.reduceToNat, gt_iff_lt, ge_iff_le, decide_eq_true_eq, Bool.not_eq_true', decide_eq_false_iff_not, scal, ↓reduceIte, Bool.false_eq_true]
  rw [if_pos h0, decide_eq_true h1]
  exact k
abbrev sTupOf : Stmt := topS 9
theorem scTupOf : FnScope ["value", "many"] ["value", "many"] (defScope sTupOf) := ⟨rfl, rfl, rfl, by decide +kernel, rfl, by decide +kernel, by decide +kernel⟩
theorem k_TupOf (T : Bt K mg) (D : Dfn K mg "is_tuple_of" sTupOf ["value", "many"]) : Kn P w K mg base 1 "is_tuple_of" ["value", "many"] (spTupOf K) := by
  refine Kn.mk' D scTupOf (fun vs H Q E h => ?_) (fun f cdv A outer s H vs Q E hr h => ?_)
  · obtain ⟨a, xs, n, rfl, _⟩ := h
    rfl
  obtain ⟨a, xs, n, rfl, oa, k⟩ := h
  refine ⟨_, (pss_one (ps_ret (pe_and (pe_callB call_isN (by rfl) T.b_isinstance (by decide +kernel) (pa_cons (pv 0) (pa_cons (pe_bltn (v := .ty "tuple") (by rfl) T.b_tuple (by decide +kernel) rfl) pa_nil))) (pe_one (pe_cmpR op_eq (pe_callB call_lenA (by rfl) T.b_len PySem.boot_len (pa_cons (pv 0) pa_nil)) (pv 1) (nomark _)))))), ?_⟩
  have ty : tyO (ob K H a) = some "tuple" := by rw [oa]; rfl
  simp only [oa, cx_K, decide_true, decide_false, reduceCtorEq, gTp, gCons, gNil, ca_0, ca_1, ca_2, ca_3, ca_4, ca_5, ca_6, ca_7, ca_8, ca_9, ca_10, ca_11, ca_12, ca_13, ca_14, ca_15, ca_16, ca_17, ca_18, ca_19, ca_20, ca_21, ca_22, ca_23, ca_24, ca_25, ca_26, ca_27, ca_28, ca_29, ca_30, not_true_eq_false, not_false_eq_true, Int.reduceEq, Nat.reduceEqDiff, Nat.reduceLeDiff, rGcd, V.ty.injEq, eq_self, List.not_mem_nil, beq_self_eq_true, HO.lst.injEq, HO.tup.injEq, tFor_eq, iRng1, iList, iTup, nat10, tSeq, rIxA, rSetA, rIsN, rIsT, tTp, tLs, itsO_tup, itsO_lst, tyO_tup, tyO_lst, tyO_dK, tyN_non, tyN_bl, tyN_int, tyN_str, tyN_ref, tyNs_lt, isB, upd_same, upd_upd, sizeLine_eq, List.mem_cons, String.reduceBEq, String.reduceEq, Bool.or_false, Bool.or_true, Bool.and_false, Bool.false_or, Bool.and_self, Bool.false_and, Bool.not_false, Bool.not_true, List.any_cons, List.any_nil, atI_0, setI_0, atI_1, setI_1, atI_2, setI_2, atI_3, setI_3, atI_4, setI_4, atI_5, setI_5, atI_6, setI_6, tAsg, gName, tOp, tUn, tVar, tC, tCons, L2.tNil, tRet, tIfS, tTest, tCB, tCall, rI, rI0, rU, tNext, tB, tAnd, tOr, tNot, tAndV, tOrV, tNotV, tDrop, tIf, tPar, gSub, rIxL, rIxT, rEq, rNe, rSetL, tBits,
    L2.start, List.map_cons, List.map_nil, List.cons_append, List.nil_append, List.append_nil, List.length_cons, List.length_nil, List.replicate, Nat.reduceAdd, Nat.reduceSub, Nat.zero_add, List.getElem?_cons_zero, List.getElem?_cons_succ, List.set_cons_zero, List.set_cons_succ,
    Option.some.injEq, exists_eq_left', exists_eq_left, V.int.injEq, V.bl.injEq, V.ref.injEq, V.str.injEq, List.cons.injEq, reduceCtorEq, and_true, true_and, false_and, and_false, exists_false, or_false, false_or, or_true, true_or, exists_const, CMul, CDiv, CPow, and_assoc, exists_and_left, exists_and_right, Int.reducePow, Int.reduceNeg, Int.reduceLT, Int.reduceLE, Nat.reducePow, Nat.reduceLT, Int.reduceToNat, gt_iff_lt, ge_iff_le, decide_eq_true_eq, Bool.not_eq_true', decide_eq_false_iff_not, scal, ↓reduceIte, Bool.false_eq_true]
  exact k
abbrev sKnot : Stmt := topS 27
theorem scKnot : FnScope ["value"] ["value"] (defScope sKnot) := ⟨rfl, rfl, rfl, by decide +kernel, rfl, by decide +kernel, by decide +kernel⟩
theorem k_Knot (T : Bt K mg) (D : Dfn K mg "_is_knot" sKnot ["value"]) (d_is_tuple_of : Kn P w K mg base 1 "is_tuple_of" ["value", "many"] (spTupOf K)) (d_is_place : Kn P w K mg base 3 "is_place" ["value"] (spIsPlace K)) (d_is_fraction : Kn P w K mg base 2 "is_fraction" ["value"] (spIsFraction K)) : Kn P w K mg base 4 "_is_knot" ["value"] (spKnot K) := by
  refine Kn.mk' D scKnot (fun vs H Q E h => ?_) (fun f cdv A outer s H vs Q E hr h => ?_)
  · obtain ⟨v, k, n, rfl, _⟩ := h
    rfl
  obtain ⟨v, k, n, rfl, ka, h0, h1, q⟩ := h
  refine ⟨_, (pss_one (ps_ret (pe_and (pe_kn d_is_tuple_of hr (by rfl) (pa_cons (pv 0) (pa_cons pe_int pa_nil))) (pe_and (pe_kn d_is_place hr (by rfl) (pa_cons (pe_ix ix_any (pv 0) pe_int (fun _ _ => rfl)) pa_nil)) (pe_one (pe_kn d_is_fraction hr (by rfl) (pa_cons (pe_ix ix_any (pv 0) pe_int (fun _ _ => rfl)) pa_nil))))))), ?_⟩
  obtain ⟨t, a, b, rfl, ot, fa, fb⟩ := ka
  refine ⟨_, rfl, t, _, 2, rfl, ot, _, rfl, if_yes rfl ?_⟩
  refine ⟨_, rfl, t, 0, rfl, rfl, _, itsO_of ot, _, atI_0 _ _, _, rfl, Tyd.fr fa.o, _, rfl, if_yes (pl_ok fa h0 h1) ?_⟩
  refine ⟨_, rfl, t, 1, rfl, rfl, _, itsO_of ot, _, atI_1 _ _ _, _, rfl, Tyd.fr fb.o, ?_⟩
  rw [frOk_fr fb.o fb.nf]
  exact q
abbrev sSlope : Stmt := topS 28
theorem scSlope : FnScope ["knot", "end", "rise"] ["knot", "end"] (defScope sSlope) := ⟨rfl, rfl, rfl, by decide +kernel, rfl, by decide +kernel, by decide +kernel⟩
theorem k_Slope {z0 o0 : Addr} (C0 : Two01 K mg z0 o0) (T : Bt K mg) (D : Dfn K mg "_slope" sSlope ["knot", "end"]) (d_minus : Kn P w K mg base 3 "minus" ["left", "right"] (spBin K dif2)) (d_over : Kn P w K mg base 3 "over" ["left", "right"] (spQuo K)) (d_plus : Kn P w K mg base 3 "plus" ["left", "right"] (spBin K sum2)) : Kn P w K mg base 4 "_slope" ["knot", "end"] (spSlope K) := by
  refine Kn.mk' D scSlope (fun vs H Q E h => ?_) (fun f cdv A outer s H vs Q E hr h => ?_)
  · obtain ⟨v, u, k, k', n, rfl, _⟩ := h
    rfl
  obtain ⟨v, u, k, k', n, rfl, ka, ka', hn, hlt, q⟩ := h
  refine ⟨_, (pss_cons (ps_set (i := 2) scSlope.nd rfl (.inl rfl) (pe_kn d_minus hr (by rfl) (pa_cons (pe_ix ix_any (pv 1) pe_int (fun _ _ => rfl)) (pa_cons (pe_ix ix_any (pv 0) pe_int (fun _ _ => rfl)) pa_nil))))
      (pss_one (ps_ret (pe_kn d_plus hr (by rfl) (pa_cons (pe_glob (v := .ref o0) (by rfl) C0.g_ONE rfl) (pa_cons (pe_kn d_over hr (by rfl) (pa_cons (pv 2) (pa_cons (pe_kn d_minus hr (by rfl) (pa_cons (pe_ix ix_any (pv 1) pe_int (fun _ _ => rfl)) (pa_cons (pe_ix ix_any (pv 0) pe_int (fun _ _ => rfl)) pa_nil))) pa_nil))) pa_nil)))))), ?_⟩
  obtain ⟨t, a, b, rfl, ot, fa, fb⟩ := ka
  obtain ⟨u, c, d, rfl, ou, fc, fd⟩ := ka'
  refine ⟨_, rfl, u, 1, rfl, rfl, _, itsO_of ou, _, atI_1 _ _ _, _, rfl, t, 1, rfl, rfl, _, itsO_of ot, _, atI_1 _ _ _, av_dif fd fb fun r ra H1 er s1 fr => ?_⟩
  refine ⟨_, rfl, _, rfl, u, 0, rfl, rfl, _, itsO_of (ob_same s1 ou), _, atI_0 _ _, _, rfl, t, 0, rfl, rfl, _, itsO_of (ob_same s1 ot), _, atI_0 _ _, av_dif (fc.same s1) (fa.same s1) fun m ma H2 em s2 fm => ?_⟩
  refine av_quo (fr.same s2) fm (by rw [em]; grind) fun y ya H3 ey s3 fy => ?_
  have one : Fq K H3 1 o0 (1, 1) := ⟨C0.oo _, nf11, sz11 (by omega)⟩
  refine av_sum one fy fun z za H4 ez s4 fz => ?_
  refine q z za H4 (s1.trans (s2.trans (s3.trans s4))) (fz.mono (by omega)) ?_
  rw [ez, ey, er, em, qv11]
  rfl
end
end My

namespace My
open PySem PySem.Spec PyProof.Rows L2
section
variable {P : Program} {w : World} {K : PySem.W.Frag} {mg : Str → Option Value} {base : Heap}
def spAre (K : PySem.W.Frag) : Sp := fun vs H Q _ => ∃ (a : Addr) (xs : List V) (ks : List Kt) (n : Nat), vs = [.ref a] ∧ ob K H a = some (.lst xs) ∧ Kts K H n xs ks ∧ Good ks ∧ ks.length ≤ 8 ∧ n ≤ 3000 ∧ ∀ H', Same H H' → Q (.bl true) H'
def BlI (D : Addr) (H0 : Hp) (i : Nat) (H' : Hp) : Prop := H' D = some (.lst ((List.replicate i true).map V.bl)) ∧ Same H0 H'
theorem bl_snoc {D : Addr} {H0 H' : Hp} {i : Nat} (h : BlI D H0 i H') (hD : H0 D = none) : BlI D H0 (i + 1) (upd H' D (.lst ((List.replicate i true).map V.bl ++ [.bl true]))) := by
  refine ⟨?_, fun c o e => ?_⟩
  · rw [upd_same, List.replicate_succ', List.map_append]
    rfl
  · rw [upd_ne (ne_of_none e hD)]
    exact h.2 c o e
abbrev sAre : Stmt := topS 26
theorem scAre : FnScope ["value", "ascend", "knot", "after"] ["value"] (defScope sAre) := ⟨rfl, rfl, rfl, by decide +kernel, rfl, by decide +kernel, by decide +kernel⟩
theorem blk_scAre_0 : BlkOk ["value", "ascend", "knot", "after"] (defScope sAre) { kind := .function, names := [(".0", .local), ("knot", .local), ("_is_knot", .globalImplicit)], isGenerator := false, isCoroutine := false, more := [] } [("knot", 2)] := ⟨rfl, by decide +kernel, by decide +kernel, by decide +kernel, by decide +kernel⟩
theorem blk_scAre_1 : BlkOk ["value", "ascend", "knot", "after"] (defScope sAre) { kind := .function, names := [(".0", .local), ("knot", .local), ("after", .local), ("compare", .globalImplicit)], isGenerator := false, isCoroutine := false, more := [] } [("knot", 2), ("after", 3)] := ⟨rfl, by decide +kernel, by decide +kernel, by decide +kernel, by decide +kernel⟩
theorem k_Are {z0 o0 : Addr} {tkM : Tok} (C0 : Two01 K mg z0 o0) (gMK : mg "MOST_KNOTS" = some (.int 8 tkM)) (zA : mg "all" = none) (zZ : mg "zip" = none) (T : Bt K mg) (D : Dfn K mg "_are_knots" sAre ["value"]) (d_is_list_within : Kn P w K mg base 1 "is_list_within" ["value", "least", "most"] (spListW K)) (d__is_knot : Kn P w K mg base 4 "_is_knot" ["value"] (spKnot K)) (d_compare : Kn P w K mg base 3 "compare" ["left", "right"] (spCmp K)) : Kn P w K mg base 5 "_are_knots" ["value"] (spAre K) := by
  refine Kn.mk' D scAre (fun vs H Q E h => ?_) (fun f cdv A outer s H vs Q E hr h => ?_)
  · obtain ⟨a, xs, ks, n, rfl, _⟩ := h
    rfl
  obtain ⟨a, xs, ks, n, rfl, oa, kt, g, l8, hn, k⟩ := h
  refine ⟨_, (pss_cons (ps_if (PW.pt (pw_or (pt_not (pt_val (pe_kn d_is_list_within hr (by rfl) (pa_cons (pv 0) (pa_cons pe_int (pa_cons (pe_glob (v := .int 8) (by rfl) gMK ⟨_, rfl⟩) pa_nil)))))) (pw_or1 (pt_not (pt_val (pe_callB (cr_all rfl) (by rfl) zA (by decide +kernel) (pa_cons (pe_fr (pe_lc (own := [("knot", 2)]) (g := gName 2) (te := (tCall (spKnot K) [] E0 (tCons (tVar 2) L2.tNil))) rfl scAre.nd (pi_list (pv 0)) blk_scAre_0 (fun _ _ _ _ _ => by exact pg_name (i := 2) scAre.nd rfl (.inl rfl)) (fun _ _ _ _ _ => pts_nil) (fun _ _ _ _ _ => by exact (pe_kn d__is_knot hr (by rfl) (pa_cons (pv 2) pa_nil))))) pa_nil))))))) (pss_one (ps_ret pe_bl)) pss_nil)
      (pss_cons (ps_setLcF (i := 1) (own := [("knot", 2), ("after", 3)]) (g := gTup K 2 (gCons (gName 2) (gCons (gName 3) gNil))) (te := (tOp (rI0 fun i j => V.bl (decide (i < j))) (tCall (spCmp K) [] E0 (tCons (tOp (rIxA K) (tVar 2) (tC (.int 0))) (tCons (tOp (rIxA K) (tVar 3) (tC (.int 0))) L2.tNil))) (tC (.int 0)))) rfl scAre.nd rfl rfl (sw_true rfl rfl rfl rfl) (pi_zip (by rfl) zZ (pa_cons (pv 0) (pa_cons (pe_fr (pe_slice sl_list (pv 0) (po_some pe_int) po_none)) pa_nil))) blk_scAre_1 (fun _ _ _ _ _ => by exact pg_tup rfl (pgs_cons (pg_name (i := 2) scAre.nd rfl (.inl rfl)) (pgs_cons (pg_name (i := 3) scAre.nd rfl (.inl rfl)) pgs_nil))) (fun _ _ _ _ _ => pts_nil) (fun _ _ _ _ _ => by exact (pe_cmpR op_lt (pe_kn d_compare hr (by rfl) (pa_cons (pe_ix ix_any (pv 2) pe_int (fun _ _ => rfl)) (pa_cons (pe_ix ix_any (pv 3) pe_int (fun _ _ => rfl)) pa_nil))) pe_int (nomark _))))
      (pss_one (ps_ret (pe_and (pe_cmpR (op_eqF hr) (pe_ix ix_any (pe_ix ix_any (pv 0) pe_int (fun _ _ => rfl)) pe_int (fun _ _ => rfl)) (pe_glob (v := .ref z0) (by rfl) C0.g_ZERO rfl) (nomark _)) (pe_one (pe_callB (cr_all rfl) (by rfl) zA (by decide +kernel) (pa_cons (pv 1) pa_nil)))))))), ?_⟩
  obtain ⟨ha, ka⟩ := ob_H oa (fun _ z => by cases z)
  have hl := kt.1
  have h1 := g.one
  refine ⟨_, rfl, a, xs, 1, 8, rfl, oa, by omega, by omega, _, rfl, if_no rfl ?_⟩
  refine ⟨_, rfl, a, rfl, ⟨xs, .of ha⟩, fun D hD => lc_list (xs := xs) (BlI D H) ⟨upd_same, Same.new hD _⟩ (fun i H' _ h => .of (h.2 _ _ ha)) ?_ ?_⟩
  · rintro i x H' hi hB
    refine ⟨rfl, ?_⟩
    simp only [tYes, if_true]
    obtain ⟨kk, hk, kx⟩ := kt.at hi
    obtain ⟨_, _, _, p0, p1⟩ := g.at hk
    have hi' := (List.getElem?_eq_some_iff.mp hk).1
    exact ⟨_, rfl, x, kk, n, rfl, kx.same hB.2, p0, p1, _, hB.1, by rw [List.length_map, List.length_replicate, sizeLine_eq]; omega, bl_snoc hB hD⟩
  · intro H' hB fr
    refine ⟨D, List.replicate xs.length true, rfl, .of hB.1, ?_⟩
    rw [show (List.replicate xs.length true).all id = true by simp]
    refine ⟨_, rfl, if_no rfl ?_⟩
    have ha1 := hB.2 _ _ ha
    refine ⟨_, rfl, _, rfl, _, rfl, a, _, rfl, .of ha1, ?_⟩
    have ec : cutV xs (some ((fun i => i) 1)) none = xs.drop 1 := cut_from xs 1 (by omega)
    rw [show cutV xs (some 1) none = xs.drop 1 from ec]
    intro l2 hl2 fr2
    have s2 := Same.new hl2 (.lst (xs.drop 1))
    have hl3 : upd H' l2 (.lst (xs.drop 1)) l2 = some (.lst (xs.drop 1)) := upd_same
    have s0 := hB.2.trans s2
    generalize upd H' l2 (.lst (xs.drop 1)) = H2 at s2 hl3 s0 ⊢
    have ha2 := s0 _ _ ha
    have kt2 := kt.same s0
    have yl : (xs.drop 1).length = xs.length - 1 := List.length_drop
    refine ⟨a, l2, _, _, rfl, .of ha2, .of hl3, fun D2 hD2 => lc_zip (xs := xs) (ys := xs.drop 1) (by omega) (BlI D2 H2) ⟨upd_same, Same.new hD2 _⟩ (fun i H5 _ h => ⟨.of (h.2 _ _ ha2), .of (h.2 _ _ hl3)⟩) ?_ ?_⟩
    · intro i x y T H5 hx hy hB5 hT
      rw [List.getElem?_drop, Nat.add_comm] at hy
      have sT := Same.new hT (.tup [x, y])
      obtain ⟨kk, hk, kx⟩ := kt2.at hx
      obtain ⟨kk', hk', ky⟩ := kt2.at hy
      have lt := g.asc i kk kk' (g.at hk).1 (g.at hk').1
      obtain ⟨t1, a1, b1, rfl, ot1, f1, _⟩ := kx.same (hB5.2.trans sT)
      obtain ⟨t2, a2, b2, rfl, ot2, f2, _⟩ := ky.same (hB5.2.trans sT)
      refine ⟨T, _, rfl, .inl (.inl upd_same), rfl, _, _, rfl, _, _, rfl, rfl, rfl, ?_⟩
      simp only [tYes, if_true]
      have hi' := (List.getElem?_eq_some_iff.mp hk').1
      refine ⟨_, rfl, t1, 0, rfl, rfl, _, itsO_of ot1, _, atI_0 _ _, _, rfl, t2, 0, rfl, rfl, _, itsO_of ot2, _, atI_0 _ _, a1, a2, _, _, rfl, f1.mono (by omega), f2.mono (by omega), _, _, rfl, rfl, ?_⟩
      show ∃ acc, _ ∧ _ ∧ BlI D2 H2 (i + 1) (upd _ D2 (HO.lst (acc ++ [V.bl (decide (cmp2 kk.1 kk'.1 < 0))])))
      rw [decide_eq_true ((cmp_lt0 f1.nf f2.nf).mpr lt)]
      exact ⟨_, sT _ _ hB5.1, by rw [List.length_map, List.length_replicate, sizeLine_eq]; omega, bl_snoc ⟨sT _ _ hB5.1, hB5.2.trans sT⟩ hD2⟩
    · intro H5 hB5 fr5
      have oa5 := ob_same (s0.trans hB5.2) oa
      obtain ⟨k0, e0, _, _, z0'⟩ := ext_last g
      obtain ⟨x0, hx0, kx0⟩ := (kt2.same hB5.2).get e0
      obtain ⟨t0, a0, b0, rfl, ot0, f0, _⟩ := kx0
      have ei : atI xs 0 = some (.ref t0) := by
        match xs, hx0 with
        | y :: r, h => cases h; exact atI_0 _ _
      refine ⟨_, rfl, a, 0, rfl, rfl, _, itsO_ofL oa5, _, ei, t0, 0, rfl, rfl, _, itsO_of ot0, _, atI_0 _ _, a0, z0, _, (0, 1), rfl, rfl, f0.o, C0.oz _, _, rfl, if_yes (decide_eq_true z0') ?_⟩
      refine ⟨_, rfl, D2, List.replicate (xs.drop 1).length true, rfl, .of hB5.1, ?_⟩
      rw [show (List.replicate (xs.drop 1).length true).all id = true by simp]
      exact k H5 (s0.trans hB5.2)

end
end My

namespace My
open PySem PySem.Spec PyProof.Rows L2
section
variable {P : Program} {w : World} {K : PySem.W.Frag} {mg : Str → Option Value} {base : Heap}
/-- what the text says of the class Slot -/
structure SlC (K : PySem.W.Frag) (mg : Str → Option Value) (C : Addr) : Prop where
  cl : Cls K C
  nK : NoAttr K C "_knots"
  g : mg "Slot" = some (.ref C)
def slF (t : Addr) : List (Str × V) := [("_knots", .ref t)]
/-- a Slot at c with the knots ks -/
def SlAt (K : PySem.W.Frag) (C : Addr) (n : Nat) (H : Hp) (c : Addr) (ks : List Kt) : Prop := ∃ dx t xs, H c = some (.ins C dx (slF t)) ∧ ob K H t = some (.tup xs) ∧ Kts K H n xs ks
theorem SlAt.same {C : Addr} {n : Nat} {H H' : Hp} {c : Addr} {ks : List Kt} (h : SlAt K C n H c ks) (s : Same H H') : SlAt K C n H' c ks := by
  obtain ⟨dx, t, xs, a, b, d⟩ := h
  exact ⟨dx, t, xs, s _ _ a, ob_same s b, d.same s⟩
theorem SlAt.kp {C : Addr} {n : Nat} {H H' : Hp} {c s : Addr} {ys : List V} {ks : List Kt} (h : SlAt K C n H c ks) (e : Kp s H H') (hs : H s = some (.lst ys)) : SlAt K C n H' c ks := by
  obtain ⟨dx, t, xs, a, b, d⟩ := h
  exact ⟨dx, t, xs, e _ _ (by rintro rfl; rw [hs] at a; cases a) a, ob_kp e hs (fun _ z => by cases z) b, d.kp e hs⟩
def spSlInit (K : PySem.W.Frag) (C : Addr) : Sp := fun vs H Q _ => ∃ (H0 : Hp) (c dx a : Addr) (xs : List V) (ks : List Kt) (n : Nat), vs = [.ref c, .ref a] ∧ Same H0 H ∧ H0 c = none ∧ H c = some (.ins C dx []) ∧ ob K H0 a = some (.lst xs) ∧ Kts K H0 n xs ks ∧ Good ks ∧ ks.length ≤ 8 ∧ n ≤ 3000 ∧ ∀ H', Same H0 H' → SlAt K C n H' c ks → Q .non H'
def spKnots (K : PySem.W.Frag) (C : Addr) : Sp := fun vs H Q _ => ∃ (c : Addr) (ks : List Kt) (n : Nat), vs = [.ref c] ∧ SlAt K C n H c ks ∧ ∀ l xs H', H l = none → K.lookup l = none → H' l = some (.lst xs) → Same H H' → Kts K H' n xs ks → Q (.ref l) H'
abbrev sSlInit : Stmt := inClass (topS 24) 0
theorem scSlInit : FnScope ["self", "knots"] ["self", "knots"] (defScope sSlInit) := ⟨rfl, rfl, rfl, by decide +kernel, rfl, by decide +kernel, by decide +kernel⟩
theorem ok_SlInit {C f : Addr} {fd : FuncData} (T : Bt K mg) (Y : SlC K mg C) (d_require : Kn P w K mg base 1 "require" ["well_formed", "what"] spRequire) (d__are_knots : Kn P w K mg base 5 "_are_knots" ["value"] (spAre K)) (F : Fun K "__init__" "Slot.__init__" sSlInit f fd) : FnOk P w K mg base CX0 6 f fd ["self", "knots"] (spSlInit K C) := by
  refine F.ok scSlInit (fun vs H Q E h => ?_) (fun cdv A outer s H vs Q E hr h => ?_)
  · obtain ⟨H0, c, dx, a, xs, ks, n, rfl, _⟩ := h
    rfl
  obtain ⟨H0, c, dx, a, xs, ks, n, rfl, s0, c0, hc, oa, kt, g, l8, hn, k⟩ := h
  refine ⟨_, (pss_cons (ps_expr (pe_kn d_require hr (by rfl) (pa_cons (pe_kn d__are_knots hr (by rfl) (pa_cons (pv 1) pa_nil)) (pa_cons pe_str pa_nil))))
      (pss_one (ps_fld (pv 0) (pe_fr (pe_callTy call_tuple_of (by rfl) T.b_tuple (by decide +kernel) (pa_cons (pv 1) pa_nil))) rfl))), ?_⟩
  have oa1 := ob_same s0 oa
  have kt1 := kt.same s0
  refine ⟨_, rfl, a, xs, ks, n, rfl, oa1, kt1, g, l8, hn, fun H1 s1 => ⟨_, rfl, ?_⟩⟩
  obtain ⟨ha, ka⟩ := ob_H oa (fun _ z => by cases z)
  have s01 := s0.trans s1
  refine ⟨_, rfl, a, xs, rfl, .inl ⟨.of (s01 _ _ ha), fun l hl fr => ?_⟩⟩
  have s2 := Same.new hl (.tup xs)
  have kl : K.lookup l = none := fr l (by rw [upd_same]; simp)
  have ol := ob_new (H := H1) (o := .tup xs) kl
  have s02 := s01.trans s2
  have hc2 := s2 _ _ (s1 _ _ hc)
  generalize upd H1 l (.tup xs) = H2 at s2 ol s02 hc2 ⊢
  refine ⟨_, rfl, c, C, dx, [], rfl, hc2, Y.cl, Y.nK, (by show 0 < 1000; decide), ?_⟩
  have s3 : Same H0 (upd H2 c (.ins C dx (putF "_knots" (.ref l) []))) := same_put s02 c0
  exact k _ s3 ⟨dx, l, xs, upd_same, ob_put hc2 ol, kt.same s3⟩

abbrev sSlKnots : Stmt := inClass (topS 24) 1
theorem scSlKnots : FnScope ["self"] ["self"] (defScope sSlKnots) := ⟨rfl, rfl, rfl, by decide +kernel, rfl, by decide +kernel, by decide +kernel⟩
theorem ok_SlKnots {C f : Addr} {fd : FuncData} (T : Bt K mg) (Y : SlC K mg C) (F : Fun K "knots" "Slot.knots" sSlKnots f fd) : FnOk P w K mg base CX0 1 f fd ["self"] (spKnots K C) := by
  refine F.ok scSlKnots (fun vs H Q E h => ?_) (fun cdv A outer s H vs Q E hr h => ?_)
  · obtain ⟨c, ks, n, rfl, _⟩ := h
    rfl
  obtain ⟨c, ks, n, rfl, hc, k⟩ := h
  refine ⟨_, (pss_one (ps_ret (pe_fr (pe_callTy call_list_of (by rfl) T.b_list (by decide +kernel) (pa_cons (pe_fld (pv 0) rfl) pa_nil))))), ?_⟩
  obtain ⟨dx, t, xs, hi, ot, kt⟩ := hc
  refine ⟨_, rfl, c, C, dx, _, _, rfl, hi, Y.cl, Y.nK, rfl, t, xs, rfl, .inr (ob_tup ot), fun l hl fr => ?_⟩
  exact k l xs _ hl (fr l (by rw [upd_same]; simp)) upd_same (Same.new hl _) (kt.same (Same.new hl _))

end
end My

namespace My
open PySem PySem.Spec PyProof.Rows L2
section
variable {P : Program} {w : World} {K : PySem.W.Frag} {mg : Str → Option Value} {base : Heap}
/-- the pieces: pairs of neighbours -/
def Pcs (K : PySem.W.Frag) (H : Hp) (n : Nat) (us : List V) (ks : List Kt) : Prop := us.length = ks.length ∧ ∀ (i : Nat) k k', (ext ks)[i]? = some k → (ext ks)[i + 1]? = some k' → ∃ T v u, us[i]? = some (.ref T) ∧ ob K H T = some (.tup [v, u]) ∧ Ka K H n v k ∧ Ka K H n u k'
theorem Pcs.same {H H' : Hp} {n : Nat} {us : List V} {ks : List Kt} (h : Pcs K H n us ks) (s : Same H H') : Pcs K H' n us ks := ⟨h.1, fun i k k' a b => by
  obtain ⟨T, v, u, e, o, f, g⟩ := h.2 i k k' a b
  exact ⟨T, v, u, e, ob_same s o, f.same s, g.same s⟩⟩
def spPieces (K : PySem.W.Frag) (C : Addr) : Sp := fun vs H Q _ => ∃ (c : Addr) (ks : List Kt) (n : Nat), vs = [.ref c] ∧ SlAt K C n H c ks ∧ Good ks ∧ ks.length ≤ 8 ∧ 1 ≤ n ∧ ∀ l us H', Same H H' → H' l = some (.lst us) → ob K H' l = some (.lst us) → Pcs K H' n us ks → Q (.ref l) H'
/-- slopes, as far as acc goes -/
def SlL (K : PySem.W.Frag) (H : Hp) (n : Nat) (acc : List V) (ks : List Kt) : Prop := ∀ (j : Nat) x, acc[j]? = some x → ∃ a z, x = .ref a ∧ Fq K H n a z ∧ Slp ks j z
theorem SlL.same {H H' : Hp} {n : Nat} {acc : List V} {ks : List Kt} (h : SlL K H n acc ks) (s : Same H H') : SlL K H' n acc ks := fun j x e => by
  obtain ⟨a, z, e1, f, g⟩ := h j x e
  exact ⟨a, z, e1, f.same s, g⟩
theorem SlL.kp {H H' : Hp} {n : Nat} {s : Addr} {ys acc : List V} {ks : List Kt} (h : SlL K H n acc ks) (e : Kp s H H') (hs : H s = some (.lst ys)) : SlL K H' n acc ks := fun j x hx => by
  obtain ⟨a, z, e1, f, g⟩ := h j x hx
  exact ⟨a, z, e1, f.kp e hs, g⟩
theorem Fq.put {H : Hp} {n : Nat} {a D : Addr} {q : Qt} {xs : List V} {o : HO} (h : Fq K H n a q) (hD : H D = some (.lst xs)) : Fq K (upd H D o) n a q := by
  refine ⟨?_, h.nf, h.sz⟩
  have o' := h.o
  unfold ob at o' ⊢
  split
  · rename_i z e
    rw [e] at o'
    exact o'
  · rename_i e
    rw [e] at o'
    rw [upd_ne (fun z => by rw [z, hD] at o'; cases o')]
    exact o'
theorem SlL.snoc {H : Hp} {n : Nat} {D a : Addr} {z : Qt} {acc : List V} {ks : List Kt} (h : SlL K H n acc ks) (hD : H D = some (.lst acc)) (f : Fq K H n a z) (g : Slp ks acc.length z) : SlL K (upd H D (.lst (acc ++ [.ref a]))) n (acc ++ [.ref a]) ks := fun j x e => by
  rcases Nat.lt_or_ge j acc.length with l | l
  · rw [List.getElem?_append_left l] at e
    obtain ⟨b, y, e1, f1, g1⟩ := h j x e
    exact ⟨b, y, e1, f1.put hD, g1⟩
  · rw [List.getElem?_append_right l] at e
    have := (List.getElem?_eq_some_iff.mp e).1
    rw [List.length_singleton] at this
    rw [show j - acc.length = 0 by omega] at e
    cases e
    exact ⟨a, z, rfl, f.put hD, by rw [show j = acc.length by omega]; exact g⟩
def spSlopes (K : PySem.W.Frag) (C : Addr) : Sp := fun vs H Q _ => ∃ (c : Addr) (ks : List Kt) (n : Nat), vs = [.ref c] ∧ SlAt K C n H c ks ∧ Good ks ∧ ks.length ≤ 8 ∧ 1 ≤ n ∧ n ≤ 600 ∧ ∀ l acc H', H l = none → K.lookup l = none → H' l = some (.lst acc) → Same H H' → acc.length = ks.length → SlL K H' (4 * n + 6) acc ks → Q (.ref l) H'
theorem ext_ex {ks : List Kt} {i : Nat} (h : i < ks.length + 1) : ∃ k, (ext ks)[i]? = some k := ⟨_, List.getElem?_eq_getElem (by rw [ext_len]; exact h)⟩
theorem ext_at {ks : List Kt} {i : Nat} {k : Kt} (h : i < ks.length) : (ext ks)[i]? = some k ↔ ks[i]? = some k := by
  unfold ext
  rw [List.getElem?_append_left h]
abbrev sSlPcs : Stmt := inClass (topS 24) 6
theorem scSlPcs : FnScope ["self", "first_again"] ["self"] (defScope sSlPcs) := ⟨rfl, rfl, rfl, by decide +kernel, rfl, by decide +kernel, by decide +kernel⟩
theorem ok_SlPcs {C f : Addr} {fd : FuncData} (T : Bt K mg) (Y : SlC K mg C) {z0 o0 : Addr} (C0 : Two01 K mg z0 o0) (zZ : mg "zip" = none) (F : Fun K "_pieces" "Slot._pieces" sSlPcs f fd) : FnOk P w K mg base CX0 1 f fd ["self"] (spPieces K C) := by
  refine F.ok scSlPcs (fun vs H Q E h => ?_) (fun cdv A outer s H vs Q E hr h => ?_)
  · obtain ⟨c, ks, n, rfl, _⟩ := h
    rfl
  obtain ⟨c, ks, n, rfl, hc, g, l8, hn, k⟩ := h
  refine ⟨_, (pss_cons (ps_set (i := 1) scSlPcs.nd rfl (.inl rfl) (pe_tp (pa_cons (pe_glob (v := .ref o0) (by rfl) C0.g_ONE rfl) (pa_cons (pe_ix ix_any (pe_ix ix_any (pe_fld (pv 0) rfl) pe_int (fun _ _ => rfl)) pe_int (fun _ _ => rfl)) pa_nil))))
      (pss_one (ps_ret (pe_fr (pe_listZip rfl (by rfl) T.b_list (by rfl) zZ (pa_cons (pe_fld (pv 0) rfl) (pa_cons (pe_op op_catA (pe_slice sl_tup (pe_fld (pv 0) rfl) (po_some pe_int) po_none) (pe_tp (pa_cons (pv 1) pa_nil))) pa_nil))))))), ?_⟩
  obtain ⟨dx, t, xs, hi, ot, kt⟩ := hc
  obtain ⟨k0, e0, el, ee0, z0'⟩ := ext_last g
  obtain ⟨x0, hx0, t0, a0, b0, rfl, ot0, f0, g0⟩ := kt.get e0
  have ei : atI xs 0 = some (.ref t0) := by
    match xs, hx0 with
    | y :: r, h => cases h; exact atI_0 _ _
  have hl := kt.1
  have h1 := g.one
  refine ⟨_, rfl, c, C, dx, _, _, rfl, hi, Y.cl, Y.nK, rfl, t, 0, rfl, rfl, _, itsO_of ot, _, ei, t0, 1, rfl, rfl, _, itsO_of ot0, _, atI_1 _ _ _, sz2 (by show 2 ≤ 100; decide), fun p hp kp => ?_⟩
  have s1 := Same.new hp (.tup [.ref o0, .ref b0])
  have op := ob_new (H := H) (o := .tup [.ref o0, .ref b0]) kp
  generalize upd H p (.tup [.ref o0, .ref b0]) = H1 at s1 op ⊢
  have hi1 := s1 _ _ hi
  have ot1 := ob_same s1 ot
  have n1 : ¬ (HT.sIx xs.length 0 (some 1) = 0 ∧ HT.sIx xs.length xs.length none = xs.length) := by
    rintro ⟨e, _⟩
    have := HT.sIx_nat xs.length 0 1
    rw [show (some ((1 : Nat) : Int)) = some (1 : Int) from rfl, e] at this
    omega
  refine ⟨_, rfl, c, C, dx, _, _, rfl, hi1, Y.cl, Y.nK, rfl, _, rfl, c, C, dx, _, _, rfl, hi1, Y.cl, Y.nK, rfl, _, rfl, t, xs, rfl, ob_tup ot1, n1, ?_⟩
  have ec : cutV xs (some ((fun i => i) 1)) none = xs.drop 1 := cut_from xs 1 (by omega)
  rw [show cutV xs (some 1) none = xs.drop 1 from ec]
  intro p1 hp1
  have s2 := Same.new hp1 (.tup (xs.drop 1))
  have q1 : SqT K (upd H1 p1 (.tup (xs.drop 1))) p1 (xs.drop 1) := .inl (.inl upd_same)
  generalize upd H1 p1 (.tup (xs.drop 1)) = H2 at s2 q1 ⊢
  refine ⟨_, rfl, sz2 (by show 1 ≤ 100; decide), fun p2 hp2 kp2 => ?_⟩
  have s3 := Same.new hp2 (.tup [.ref p])
  have q2 : SqT K (upd H2 p2 (.tup [.ref p])) p2 [.ref p] := .inl (.inl upd_same)
  have q1 := Same.seqT s3 q1
  generalize upd H2 p2 (.tup [.ref p]) = H3 at s3 q1 q2 ⊢
  have s13 := s2.trans s3
  have dl : (xs.drop 1).length = xs.length - 1 := List.length_drop
  have fin : ∀ (r : Addr) (Hr : Hp), Same H3 Hr → SqT K Hr r (xs.drop 1 ++ [.ref p]) → ∃ a b xs' ys', [V.ref t, V.ref r] = [V.ref a, V.ref b] ∧ SqT K Hr a xs' ∧ SqT K Hr b ys' ∧ xs'.length = ys'.length ∧
      ∀ S (ts : List Addr) H', Hr S = none → Same Hr H' → H' S = some (.lst (ts.map V.ref)) → ts.length = xs'.length → (∀ (i : Nat) T x y, ts[i]? = some T → xs'[i]? = some x → ys'[i]? = some y → H' T = some (.tup [x, y])) → (∀ a, H' a ≠ none → K.lookup a = none) → Q (.ref S) H' := fun r Hr sr hr => by
    refine ⟨t, r, xs, _, rfl, ob_tup (ob_same (s13.trans sr) ot1), hr, by rw [List.length_append, dl, List.length_singleton]; omega, fun S ts H' hS s4 hl' lt pr fr => ?_⟩
    have sA := s1.trans (s13.trans (sr.trans s4))
    have kS : K.lookup S = none := fr S (by rw [hl']; simp)
    refine k S _ H' sA hl' ((ob_none kS).trans hl') ⟨by rw [List.length_map, lt, hl], fun i k1 k2 e1 e2 => ?_⟩
    have li := (List.getElem?_eq_some_iff.mp e2).1
    rw [ext_len] at li
    have e1' := (ext_at (by omega)).mp e1
    obtain ⟨v, hv, kv⟩ := kt.get e1'
    have hT : ts[i]? = some ts[i] := List.getElem?_eq_getElem (by omega)
    have out : ∀ u, (xs.drop 1 ++ [V.ref p])[i]? = some u → Ka K H' n u k2 → ∃ T v u, (ts.map V.ref)[i]? = some (.ref T) ∧ ob K H' T = some (.tup [v, u]) ∧ Ka K H' n v k1 ∧ Ka K H' n u k2 := fun u hu ku => by
      have oT := pr i _ v u hT hv hu
      exact ⟨ts[i], v, u, by rw [List.getElem?_map, hT]; rfl, (ob_none (fr _ (by rw [oT]; simp))).trans oT, kv.same sA, ku⟩
    by_cases hn' : i + 1 = ks.length
    · rw [hn', el] at e2
      cases e2
      refine out (.ref p) ?_ ⟨p, o0, b0, rfl, ob_same (s13.trans (sr.trans s4)) op, ⟨C0.oo _, nf11, sz11 hn⟩, g0.same sA⟩
      rw [List.getElem?_append_right (by omega), dl, show i - (xs.length - 1) = 0 by omega]
      rfl
    · have e2' := (ext_at (by omega)).mp e2
      obtain ⟨u, hu, ku⟩ := kt.get e2'
      refine out u ?_ (ku.same sA)
      rw [List.getElem?_append_left (by omega), List.getElem?_drop, Nat.add_comm]
      exact hu
  refine ⟨p1, p2, _, _, rfl, rfl, q1, q2, by rw [dl, List.length_singleton, sizeLine_eq]; omega, fun e => ?_, fun _ e => (by cases e), fun _ _ p3 hp3 => fin p3 _ (Same.new hp3 _) (.inl (.inl upd_same))⟩
  refine fin p2 H3 (Same.refl _) ?_
  rw [e]
  exact q2

abbrev sSlSlopes : Stmt := inClass (topS 24) 4
theorem scSlSlopes : FnScope ["self", "knot", "end"] ["self"] (defScope sSlSlopes) := ⟨rfl, rfl, rfl, by decide +kernel, rfl, by decide +kernel, by decide +kernel⟩
theorem blk_scSlSlopes_0 : BlkOk ["self", "knot", "end"] (defScope sSlSlopes) { kind := .function, names := [(".0", .local), ("knot", .local), ("end", .local), ("_slope", .globalImplicit)], isGenerator := false, isCoroutine := false, more := [] } [("knot", 1), ("end", 2)] := ⟨rfl, by decide +kernel, by decide +kernel, by decide +kernel, by decide +kernel⟩
theorem ok_SlSlopes {C f : Addr} {fd : FuncData} (T : Bt K mg) (Y : SlC K mg C) (m__pieces : C8.Met P w K mg base 1 C "_pieces" (spPieces K C) []) (d__slope : Kn P w K mg base 4 "_slope" ["knot", "end"] (spSlope K)) (F : Fun K "slopes" "Slot.slopes" sSlSlopes f fd) : FnOk P w K mg base CX0 5 f fd ["self"] (spSlopes K C) := by
  refine F.ok scSlSlopes (fun vs H Q E h => ?_) (fun cdv A outer s H vs Q E hr h => ?_)
  · obtain ⟨c, ks, n, rfl, _⟩ := h
    rfl
  obtain ⟨c, ks, n, rfl, hc, g, l8, hn, hn2, k⟩ := h
  refine ⟨_, (pss_one (ps_ret (pe_fr (pe_lc (own := [("knot", 1), ("end", 2)]) (g := gTup K 2 (gCons (gName 1) (gCons (gName 2) gNil))) (te := (tCall (spSlope K) [] E0 (tCons (tVar 1) (tCons (tVar 2) L2.tNil)))) rfl scSlSlopes.nd (pi_list (C8.pe_mt0 m__pieces hr (by omega) (pv 0))) blk_scSlSlopes_0 (fun _ _ _ _ _ => by exact pg_tup rfl (pgs_cons (pg_name (i := 1) scSlSlopes.nd rfl (.inl rfl)) (pgs_cons (pg_name (i := 2) scSlSlopes.nd rfl (.inl rfl)) pgs_nil))) (fun _ _ _ _ _ => pts_nil) (fun _ _ _ _ _ => by exact (pe_kn d__slope hr (by rfl) (pa_cons (pv 1) (pa_cons (pv 2) pa_nil)))))))), ?_⟩
  have hc' := hc
  obtain ⟨dx, t, xs, hi, ot, kt⟩ := hc'
  refine ⟨_, rfl, c, dx, _, rfl, hi, rfl, c, ks, n, rfl, hc, g, l8, hn, fun l us H1 s1 hl ol pc => ?_⟩
  refine ⟨l, rfl, ⟨us, .of hl⟩, fun D hD => lc_list (xs := us) (fun i H' => ∃ acc, H' D = some (.lst acc) ∧ acc.length = i ∧ Same H1 H' ∧ SlL K H' (4 * n + 6) acc ks) ⟨[], upd_same, rfl, Same.new hD _, fun j x e => (by simp at e)⟩ (fun i H' _ ⟨_, _, _, h, _⟩ => .of (h _ _ hl)) ?_ ?_⟩
  · rintro i x H' hx ⟨acc, ha, la, s2, sl⟩
    have li := (List.getElem?_eq_some_iff.mp hx).1
    rw [pc.1] at li
    obtain ⟨k1, e1⟩ := ext_ex (ks := ks) (i := i) (by omega)
    obtain ⟨k2, e2⟩ := ext_ex (ks := ks) (i := i + 1) (by omega)
    have lt := g.asc i _ _ e1 e2
    obtain ⟨T, v, u, eT, oT, kv, ku⟩ := pc.2 i _ _ e1 e2
    rw [hx] at eT
    cases eT
    refine ⟨T, _, rfl, ob_tup (ob_same s2 oT), rfl, _, _, rfl, _, _, rfl, rfl, rfl, ?_⟩
    simp only [tYes, if_true]
    refine ⟨_, rfl, _, rfl, v, u, _, _, n, rfl, kv.same s2, ku.same s2, by omega, lt, fun z a H2 s3 fz ez => ?_⟩
    have ha2 := s3 _ _ ha
    refine ⟨acc, ha2, by rw [la, sizeLine_eq]; omega, acc ++ [.ref a], upd_same, by rw [List.length_append, la]; rfl, fun b o e => ?_, (sl.same s3).snoc ha2 fz ⟨fz.nf, _, _, by rw [la]; exact e1, by rw [la]; exact e2, ez⟩⟩
    rw [upd_ne (ne_of_none e hD)]
    exact s3 _ _ (s2 _ _ e)
  · rintro H' ⟨acc, ha, la, s2, sl⟩ fr
    exact k D acc H' (s1.free hD) (fr D (by rw [ha]; simp)) ha (s1.trans s2) (by rw [la, pc.1]) sl

end
end My

namespace My
open PySem PySem.Spec PyProof.Rows L2
section
variable {P : Program} {w : World} {K : PySem.W.Frag} {mg : Str → Option Value} {base : Heap}
def spCarried (K : PySem.W.Frag) (C : Addr) : Sp := fun vs H Q _ => ∃ (c a : Addr) (ks : List Kt) (n j : Nat) (t : Qt), vs = [.ref c, .ref a] ∧ SlAt K C n H c ks ∧ Good ks ∧ ks.length ≤ 8 ∧ 1 ≤ n ∧ n ≤ 140 ∧ Fq K H j a t ∧ j ≤ 600 ∧ ∀ z b H', Same H H' → Fq K H' (3 * j + 7 * n + 14) b z → Car ks t z → Q (.ref b) H'
/-- how many of the first i knots are not behind p -/
def CntI (ks : List Kt) (p : Rat) (i m : Nat) : Prop := m ≤ i ∧ (∀ (j : Nat) k, j < m → ks[j]? = some k → qv k.1 ≤ p) ∧ (m < i → ∃ k, ks[m]? = some k ∧ p < qv k.1)
theorem cnt_yes {ks : List Kt} {p : Rat} {i m : Nat} {k : Kt} (g : Good ks) (h : CntI ks p i m) (hk : ks[i]? = some k) (hp : qv k.1 ≤ p) : m = i ∧ CntI ks p (i + 1) (i + 1) := by
  have hm : m = i := by
    by_cases c : m < i
    · exfalso
      obtain ⟨k2, e2, lt⟩ := h.2.2 c
      have := asc_lt g (i - m - 1) m k2 k (g.at e2).1 (by rw [show m + 1 + (i - m - 1) = i by omega]; exact (g.at hk).1)
      grind
    · have := h.1
      omega
  refine ⟨hm, Nat.le_refl _, fun j k2 hj e => ?_, fun z => absurd z (Nat.lt_irrefl _)⟩
  rcases Nat.eq_or_lt_of_le (show j ≤ i by omega) with e' | e'
  · subst e'
    rw [hk] at e
    cases e
    exact hp
  · exact h.2.1 j k2 (by omega) e
theorem cnt_no {ks : List Kt} {p : Rat} {i m : Nat} {k : Kt} (h : CntI ks p i m) (hk : ks[i]? = some k) (hp : p < qv k.1) : CntI ks p (i + 1) m := by
  refine ⟨by have := h.1; omega, h.2.1, fun z => ?_⟩
  by_cases c : m < i
  · exact h.2.2 c
  · have := h.1
    rw [show m = i by omega]
    exact ⟨k, hk, hp⟩
theorem cnt_end {ks : List Kt} {p : Rat} {m : Nat} (g : Good ks) (h : CntI ks p ks.length m) (p0 : 0 ≤ p) (p1 : p < 1) : ∃ i k k', m = i + 1 ∧ i < ks.length ∧ (ext ks)[i]? = some k ∧ (ext ks)[i + 1]? = some k' ∧ qv k.1 ≤ p ∧ p < qv k'.1 := by
  obtain ⟨k0, e0, el, ee, z0⟩ := ext_last g
  have m0 : 0 < m := by
    rcases Nat.eq_zero_or_pos m with c | c
    · exfalso
      subst c
      obtain ⟨k, e, lt⟩ := h.2.2 g.one
      rw [e0] at e
      cases e
      rw [z0, qv01] at lt
      grind
    · exact c
  obtain ⟨i, rfl⟩ : ∃ i, m = i + 1 := ⟨m - 1, by omega⟩
  have li := h.1
  obtain ⟨k, e1⟩ := ext_ex (ks := ks) (i := i) (by omega)
  obtain ⟨k', e2⟩ := ext_ex (ks := ks) (i := i + 1) (by omega)
  refine ⟨i, k, k', rfl, by omega, e1, e2, h.2.1 i k (by omega) ((ext_at (by omega)).mp e1), ?_⟩
  by_cases c : i + 1 = ks.length
  · rw [c, el] at e2
    cases e2
    rw [qv11]
    exact p1
  · obtain ⟨k2, e3, lt⟩ := h.2.2 (by omega)
    have := (ext_at (by omega)).mp e2
    rw [e3] at this
    cases this
    exact lt
abbrev sSlCar : Stmt := inClass (topS 24) 3
theorem scSlCar : FnScope ["self", "turns", "place", "index", "behind", "knot", "end"] ["self", "turns"] (defScope sSlCar) := ⟨rfl, rfl, rfl, by decide +kernel, rfl, by decide +kernel, by decide +kernel⟩
theorem blk_scSlCar_0 : BlkOk ["self", "turns", "place", "index", "behind", "knot", "end"] (defScope sSlCar) { kind := .function, names := [(".0", .local), ("knot", .local), ("compare", .globalImplicit), ("place", .free)], isGenerator := false, isCoroutine := false, more := [] } [("knot", 5)] := ⟨rfl, by decide +kernel, by decide +kernel, by decide +kernel, by decide +kernel⟩
theorem ok_SlCar {C f : Addr} {fd : FuncData} (T : Bt K mg) (Y : SlC K mg C) (m__pieces : C8.Met P w K mg base 1 C "_pieces" (spPieces K C) []) (d_require : Kn P w K mg base 1 "require" ["well_formed", "what"] spRequire) (d_is_fraction : Kn P w K mg base 2 "is_fraction" ["value"] (spIsFraction K)) (d_part_of : Kn P w K mg base 3 "part_of" ["value"] (spUn K fun q => (q.1 % q.2, q.2))) (d_compare : Kn P w K mg base 3 "compare" ["left", "right"] (spCmp K)) (d_minus : Kn P w K mg base 3 "minus" ["left", "right"] (spBin K dif2)) (d_plus : Kn P w K mg base 3 "plus" ["left", "right"] (spBin K sum2)) (d_times : Kn P w K mg base 3 "times" ["left", "right"] (spBin K pro2)) (d__slope : Kn P w K mg base 4 "_slope" ["knot", "end"] (spSlope K)) (F : Fun K "carried" "Slot.carried" sSlCar f fd) : FnOk P w K mg base CX0 5 f fd ["self", "turns"] (spCarried K C) := by
  refine F.ok scSlCar (fun vs H Q E h => ?_) (fun cdv A outer s H vs Q E hr h => ?_)
  · obtain ⟨c, a, ks, n, j, t, rfl, _⟩ := h
    rfl
  obtain ⟨c, a, ks, n, j, t, rfl, hc, g, l8, hn, hn2, ft, hj, k⟩ := h
  refine ⟨_, (pss_cons (ps_expr (pe_kn d_require hr (by rfl) (pa_cons (pe_kn d_is_fraction hr (by rfl) (pa_cons (pv 1) pa_nil)) (pa_cons pe_str pa_nil))))
      (pss_cons (ps_set (i := 2) scSlCar.nd rfl (.inr rfl) (pe_kn d_part_of hr (by rfl) (pa_cons (pv 1) pa_nil)))
      (pss_cons (ps_set (i := 3) scSlCar.nd rfl (.inl rfl) (pe_op op_sub (pe_callB call_lenA (by rfl) T.b_len PySem.boot_len (pa_cons (pe_fr (pe_lc (own := [("knot", 5)]) (g := gName 5) (tt := (tTest (tOp (rI0 fun i j => V.bl (decide (i ≤ j))) (tCall (spCmp K) [] E0 (tCons (tOp (rIxA K) (tVar 5) (tC (.int 0))) (tCons (tVar 2) L2.tNil))) (tC (.int 0))))) (te := (tVar 5)) rfl scSlCar.nd (pi_tup (pe_fld (pv 0) rfl)) blk_scSlCar_0 (fun _ _ _ _ _ => by exact pg_name (i := 5) scSlCar.nd rfl (.inl rfl)) (fun _ _ _ _ _ => by exact (pts_one (pt_cmpR op_le (pe_kn d_compare hr (by rfl) (pa_cons (pe_ix ix_any (pv 5) pe_int (fun _ _ => rfl)) (pa_cons (pv 2) pa_nil))) pe_int (nomark _)))) (fun _ _ _ _ _ => by exact (pv 5)))) pa_nil)) pe_int))
      (pss_cons (ps_asg (pe_ix ix_any (C8.pe_mt0 m__pieces hr (by omega) (pv 0)) (pv 3) (fun _ _ => rfl)) (pg_tp 2 (by rfl) (pgs_cons (pg_name (i := 5) scSlCar.nd rfl (.inl rfl)) (pgs_cons (pg_name (i := 6) scSlCar.nd rfl (.inl rfl)) pgs_nil))))
      (pss_cons (ps_set (i := 4) scSlCar.nd rfl (.inl rfl) (pe_kn d_minus hr (by rfl) (pa_cons (pv 2) (pa_cons (pe_ix ix_any (pv 5) pe_int (fun _ _ => rfl)) pa_nil))))
      (pss_one (ps_ret (pe_kn d_plus hr (by rfl) (pa_cons (pe_kn d_plus hr (by rfl) (pa_cons (pe_kn d_minus hr (by rfl) (pa_cons (pv 1) (pa_cons (pv 4) pa_nil))) (pa_cons (pe_ix ix_any (pv 5) pe_int (fun _ _ => rfl)) pa_nil))) (pa_cons (pe_kn d_times hr (by rfl) (pa_cons (pv 4) (pa_cons (pe_kn d__slope hr (by rfl) (pa_cons (pv 5) (pa_cons (pv 6) pa_nil))) pa_nil))) pa_nil)))))))))), ?_⟩
  have hc' := hc
  obtain ⟨dx, tp, xs, hi, ot, kt⟩ := hc'
  refine ⟨_, rfl, _, rfl, Tyd.fr ft.o, _, by rw [frOk_fr ft.o ft.nf]; rfl, ?_⟩
  refine ⟨_, rfl, av_part ft fun e H1 s1 fe => ?_⟩
  obtain ⟨_, p0, p1⟩ := qv_part ft.nf
  have hi1 := s1 _ _ hi
  have ot1 := ob_same s1 ot
  have kt1 := kt.same s1
  have lk := kt.1
  refine ⟨_, rfl, c, C, dx, _, _, rfl, hi1, Y.cl, Y.nK, rfl, tp, rfl, ⟨xs, ob_tup ot1⟩, fun D hD => lc_tup (xs := xs) (fun i H' => ∃ acc, H' D = some (.lst acc) ∧ CntI ks (qv (t.1 % t.2, t.2)) i acc.length ∧ Same H1 H') ⟨[], upd_same, ⟨Nat.le_refl _, fun j k z => absurd z (Nat.not_lt_zero _), fun z => absurd z (Nat.lt_irrefl _)⟩, Same.new hD _⟩ (fun i H' _ ⟨_, _, _, h⟩ => ob_tup (ob_same h ot1)) ?_ ?_⟩
  · rintro i x H' hx ⟨acc, ha, hcn, s2⟩
    obtain ⟨kk, hk, kx⟩ := kt1.at hx
    obtain ⟨t1, a1, b1, rfl, o1, f1, _⟩ := kx.same s2
    have li := (List.getElem?_eq_some_iff.mp hk).1
    have lac := hcn.1
    refine ⟨rfl, ?_⟩
    refine ⟨_, rfl, t1, 0, rfl, rfl, _, itsO_of o1, _, atI_0 _ _, _, rfl, a1, e, _, _, rfl, f1.mono (by omega), (fe.same s2).mono (by omega), _, _, rfl, rfl, _, rfl, ite2 (fun h => ?_) (fun h => ?_)⟩
    · have h : cmp2 kk.1 (t.1 % t.2, t.2) ≤ 0 := of_decide_eq_true h
      obtain ⟨ei, cn⟩ := cnt_yes g hcn hk ((cmp_le0 f1.nf fe.nf).mp h)
      refine ⟨_, rfl, acc, ha, by rw [sizeLine_eq]; omega, acc ++ [.ref t1], upd_same, by rw [List.length_append, List.length_singleton, ei]; exact cn, fun b o z => ?_⟩
      rw [upd_ne (ne_of_none z hD)]
      exact s2 _ _ z
    · have h : ¬ cmp2 kk.1 (t.1 % t.2, t.2) ≤ 0 := fun z => h (decide_eq_true z)
      rw [cmp_le0 f1.nf fe.nf, Rat.not_le] at h
      exact ⟨acc, ha, cnt_no hcn hk h, s2⟩
  · rintro H' ⟨acc, ha, hcn, s2⟩ fr
    rw [lk] at hcn
    obtain ⟨i, k1, k2, em, li, e1, e2, c1, c2⟩ := cnt_end g hcn p0 p1
    have kD : K.lookup D = none := fr D (by rw [ha]; simp)
    have oD : ob K H' D = some (.lst acc) := (ob_none kD).trans ha
    refine ⟨D, rfl, acc, itsO_ofL oD, _, _, rfl, rfl, ?_⟩
    have s12 := s1.trans s2
    refine ⟨_, rfl, c, dx, _, rfl, s12 _ _ hi, rfl, c, ks, n, rfl, hc.same s12, g, l8, hn, fun l us H3 s3 hl ol pc => ?_⟩
    obtain ⟨T, v, u, eT, oT, kv, ku⟩ := pc.2 i k1 k2 e1 e2
    have ix : atI us ((fun i j => i - j) (acc.length : Int) 1) = some (.ref T) := by
      show atI us ((acc.length : Int) - 1) = some (.ref T)
      rw [em, show (((i + 1 : Nat) : Int) - 1) = (i : Int) by omega]
      exact atI_nat eT
    obtain ⟨tv, va, vb, rfl, ov, fva, fvb⟩ := kv
    obtain ⟨tu, ua, ub, rfl, ou, fua, fub⟩ := ku
    refine ⟨_, rfl, l, _, rfl, rfl, us, itsO_ofL ol, _, ix, T, rfl, _, oT, rfl, _, _, rfl, _, _, rfl, rfl, ?_⟩
    have fe3 := fe.same (s2.trans s3)
    have ft3 := ft.same (s12.trans s3)
    refine ⟨_, rfl, _, rfl, tv, 0, rfl, rfl, _, itsO_of ov, _, atI_0 _ _, av_dif fe3 fva fun b b1 H4 eb s4 fb => ?_⟩
    refine ⟨_, rfl, _, rfl, av_dif (ft3.same s4) fb fun d d1 H5 ed s5 fd => ?_⟩
    refine ⟨_, rfl, tv, 1, rfl, rfl, _, itsO_of (ob_same (s4.trans s5) ov), _, atI_1 _ _ _, av_sum fd (fvb.same (s4.trans s5)) fun m m1 H6 em' s6 fm => ?_⟩
    have s46 := s4.trans (s5.trans s6)
    refine ⟨_, rfl, _, rfl, _, rfl, .ref tv, .ref tu, k1, k2, n, rfl, ⟨tv, va, vb, rfl, ob_same s46 ov, fva.same s46, fvb.same s46⟩, ⟨tu, ua, ub, rfl, ob_same s46 ou, fua.same s46, fub.same s46⟩, by omega, g.asc i k1 k2 e1 e2, fun z z1 H7 s7 fz ez => ?_⟩
    refine av_pro ((fb.same (s5.trans s6)).same s7) fz fun y y1 H8 ey s8 fy => ?_
    refine av_sum (fm.same (s7.trans s8)) fy fun r r1 H9 er s9 fr' => ?_
    refine k r r1 H9 (s12.trans (s3.trans (s46.trans (s7.trans (s8.trans s9))))) (fr'.mono (by omega)) ⟨fr'.nf, i, k1, k2, e1, e2, c1, c2, ?_⟩
    rw [er, em', ed, ey, ez, eb]

end
end My

namespace My
open PySem PySem.Spec PyProof.Rows L2
section
variable {P : Program} {w : World} {K : PySem.W.Frag} {mg : Str → Option Value} {base : Heap}
/-- the store, while a list is written that is newer than it -/
theorem Sto.mut {H0 H' : Hp} {s l : Addr} {o : HO} (st0 : Sto K H0 s) (hl : H0 l = none) (kp : Kp s H0 H') (st : Sto K H' s) : Sto K (upd H' l o) s ∧ Kp s H0 (upd H' l o) := by
  obtain ⟨sc0, ns0, i0, b0, c0, d0, e0, f0, g1, g2, g3⟩ := st0
  obtain ⟨sc, ns, i, b, c, d, e, f, h1, h2, h3⟩ := st
  obtain ⟨r', hr⟩ := kp.2 _ _ g1
  rw [h1] at hr
  cases hr
  have n1 : s ≠ l := by rintro rfl; rw [g1] at hl; cases hl
  have n2 : sc0 ≠ l := by rintro rfl; rw [g2] at hl; cases hl
  refine ⟨⟨sc0, ns, i, b, c, d, e, f, by rw [upd_ne n1]; exact h1, by rw [upd_ne n2]; exact h2, h3⟩, fun b o n e => ?_, fun x r e => ?_⟩
  · rw [upd_ne (ne_of_none e hl)]
    exact kp.1 b o n e
  · obtain ⟨r2, hr2⟩ := kp.2 x r e
    exact ⟨r2, by rw [upd_ne n1]; exact hr2⟩
theorem Sto.ne' {H : Hp} {s l : Addr} (st : Sto K H s) (hl : H l = none) : l ≠ s := by
  rintro rfl
  obtain ⟨ys, hy⟩ := st.at
  rw [hy] at hl
  cases hl
theorem Kp.free {H H' : Hp} {s p : Addr} (kp : Kp s H H') (st : Sto K H' s) (hp : H' p = none) : H p = none := by
  have ne := st.ne' hp
  cases e : H p with
  | none => rfl
  | some o =>
    have := kp.1 p o ne e
    rw [hp] at this
    cases this
theorem Sto.ne {H : Hp} {s l : Addr} (st : Sto K H s) (hl : H l = none) : l ≠ s := by
  rintro rfl
  obtain ⟨ys, hy⟩ := st.at
  rw [hy] at hl
  cases hl
def spSize (K : PySem.W.Frag) : Sp := fun vs H Q _ => ∃ (s : Addr) (top : Int), vs = [.ref s, .int top] ∧ Sto K H s ∧ 0 ≤ top ∧ top < 2 ^ 60 ∧ ∀ r H', 0 ≤ r → r ≤ top → Kp s H H' → Sto K H' s → Q (.int r) H'
abbrev sSize : Stmt := topS 35
theorem scSize : FnScope ["_law_store_here", "_law_top", "_law_spot"] ["_law_store_here", "_law_top"] (defScope sSize) := ⟨rfl, rfl, rfl, by decide +kernel, rfl, by decide +kernel, by decide +kernel⟩
theorem k_Size (T : Bt K mg) (D : Dfn K mg "_law_size" sSize ["_law_store_here", "_law_top"]) (d__law_take : Kn P w K mg base 2 "_law_take" ["_law_store_here", "_law_many"] (spTake K)) : Kn P w K mg base 3 "_law_size" ["_law_store_here", "_law_top"] (spSize K) := by
  refine Kn.mk' D scSize (fun vs H Q E h => ?_) (fun f cdv A outer s H vs Q E hr h => ?_)
  · obtain ⟨s, top, rfl, _⟩ := h
    rfl
  obtain ⟨s, top, rfl, hS, t0, t1, k⟩ := h
  refine ⟨_, (pss_cons (ps_set (i := 2) scSize.nd rfl (.inl rfl) (pe_kn d__law_take hr (by rfl) (pa_cons (pv 0) (pa_cons pe_int pa_nil))))
      (pss_cons (ps_if (pt_cmpR op_lt (pv 2) pe_int (nomark _)) (pss_one (ps_ret (pe_callB (call_min2 rfl) (by rfl) T.b_min (by decide +kernel) (pa_cons (pv 2) (pa_cons (pv 1) pa_nil))))) pss_nil)
      (pss_cons (ps_if (PW.pt (pw_and (pt_cmpR op_eq (pv 2) pe_int (nomark _)) (pw_and1 (PW.pt (pw_or (pt_cmpR op_lt (pv 1) pe_int (nomark _)) (pw_or1 (pt_cmpR op_eq (pe_kn d__law_take hr (by rfl) (pa_cons (pv 0) (pa_cons pe_int pa_nil))) pe_int (nomark _)))))))) (pss_one (ps_ret (pv 1))) pss_nil)
      (pss_one (ps_ret (pe_kn d__law_take hr (by rfl) (pa_cons (pv 0) (pa_cons (pe_op op_add (pe_callB (call_min2 rfl) (by rfl) T.b_min (by decide +kernel) (pa_cons (pv 1) (pa_cons pe_int pa_nil))) pe_int) pa_nil)))))))), ?_⟩
  refine ⟨_, rfl, s, 12, rfl, hS, by omega, fun i H1 i0 i1 kp st => ?_⟩
  simp only [cx_K, decide_true, decide_false, reduceCtorEq, gTp, gCons, gNil, ca_0, ca_1, ca_2, ca_3, ca_4, ca_5, ca_6, ca_7, ca_8, ca_9, ca_10, ca_11, ca_12, ca_13, ca_14, ca_15, ca_16, ca_17, ca_18, ca_19, ca_20, ca_21, ca_22, ca_23, ca_24, ca_25, ca_26, ca_27, ca_28, ca_29, ca_30, not_true_eq_false, not_false_eq_true, Int.reduceEq, Nat.reduceEqDiff, Nat.reduceLeDiff, rGcd, V.ty.injEq, eq_self, List.not_mem_nil, beq_self_eq_true, HO.lst.injEq, HO.tup.injEq, tFor_eq, iRng1, iList, iTup, nat10, tSeq, rIxA, rSetA, rIsN, rIsT, tTp, tLs, itsO_tup, itsO_lst, tyO_tup, tyO_lst, tyO_dK, tyN_non, tyN_bl, tyN_int, tyN_str, tyN_ref, tyNs_lt, isB, upd_same, upd_upd, sizeLine_eq, List.mem_cons, String.reduceBEq, String.reduceEq, Bool.or_false, Bool.or_true, Bool.and_false, Bool.false_or, Bool.and_self, Bool.false_and, Bool.not_false, Bool.not_true, List.any_cons, List.any_nil, atI_0, setI_0, atI_1, setI_1, atI_2, setI_2, atI_3, setI_3, atI_4, setI_4, atI_5, setI_5, atI_6, setI_6, tAsg, gName, tOp, tUn, tVar, tC, tCons, L2.tNil, tRet, tIfS, tTest, tCB, tCall, rI, rI0, rU, tNext, tB, tAnd, tOr, tNot, tAndV, tOrV, tNotV, tDrop, tIf, tPar, gSub, rIxL, rIxT, rEq, rNe, rSetL, tBits,
    L2.start, List.map_cons, List.map_nil, List.cons_append, List.nil_append, List.append_nil, List.length_cons, List.length_nil, List.replicate, Nat.reduceAdd, Nat.reduceSub, Nat.zero_add, List.getElem?_cons_zero, List.getElem?_cons_succ, List.set_cons_zero, List.set_cons_succ,
    Option.some.injEq, exists_eq_left', exists_eq_left, V.int.injEq, V.bl.injEq, V.ref.injEq, V.str.injEq, List.cons.injEq, reduceCtorEq, and_true, true_and, false_and, and_false, exists_false, or_false, false_or, or_true, true_or, exists_const, CMul, CDiv, CPow, and_assoc, exists_and_left, exists_and_right, Int.reducePow, Int.reduceNeg, Int.reduceLT, Int.reduceLE, Nat.reducePow, Nat.reduceLT, Int.reduceToNat, gt_iff_lt, ge_iff_le, decide_eq_true_eq, Bool.not_eq_true', decide_eq_false_iff_not, scal, ↓reduceIte, Bool.false_eq_true]
  refine ite2 (fun h => ?_) (fun h => ?_)
  · refine k _ H1 ?_ ?_ kp st <;> split <;> omega
  have fin : ∀ H2, Kp s H1 H2 → Sto K H2 s → spTake K [.ref s, .int ((if 6 < top then 6 else top) + 1)] H2 Q C8.E0 := fun H2 kp2 st2 =>
    ⟨s, _, rfl, st2, by split <;> omega, fun j H3 j0 j1 kp3 st3 => k j H3 j0 (by split at j1 <;> omega) ((kp.trans kp2).trans kp3) st3⟩
  refine ite2 (fun _ => ite2 (fun _ => k top H1 t0 (Int.le_refl _) kp st) (fun _ => ⟨s, 3, rfl, st, by omega, fun j H2 j0 j1 kp2 st2 => ⟨rfl, ite2 (fun _ => k top H2 t0 (Int.le_refl _) (kp.trans kp2) st2) (fun _ => fin H2 kp2 st2)⟩⟩)) (fun _ => fin H1 (Kp.refl _ _) st)
def spRange (K : PySem.W.Frag) : Sp := fun vs H Q _ => ∃ (s : Addr) (lo hi : Int), vs = [.ref s, .int lo, .int hi] ∧ Sto K H s ∧ 0 ≤ lo ∧ hi < 2 ^ 100 ∧ ∀ r H', lo ≤ r → (r ≤ hi ∨ (hi ≤ lo ∧ r = lo)) → (hi ≤ lo → r = lo) → Kp s H H' → Sto K H' s → Q (.int r) H'
abbrev sRange : Stmt := topS 34
theorem scRange : FnScope ["_law_store_here", "_law_low", "_law_high", "_law_spot"] ["_law_store_here", "_law_low", "_law_high"] (defScope sRange) := ⟨rfl, rfl, rfl, by decide +kernel, rfl, by decide +kernel, by decide +kernel⟩
theorem k_Range (T : Bt K mg) (D : Dfn K mg "_law_range" sRange ["_law_store_here", "_law_low", "_law_high"]) (d__law_take : Kn P w K mg base 2 "_law_take" ["_law_store_here", "_law_many"] (spTake K)) : Kn P w K mg base 3 "_law_range" ["_law_store_here", "_law_low", "_law_high"] (spRange K) := by
  refine Kn.mk' D scRange (fun vs H Q E h => ?_) (fun f cdv A outer s H vs Q E hr h => ?_)
  · obtain ⟨s, lo, hi, rfl, _⟩ := h
    rfl
  obtain ⟨s, lo, hi, rfl, hS, l0, h1, k⟩ := h
  refine ⟨_, (pss_cons (ps_set (i := 3) scRange.nd rfl (.inl rfl) (pe_kn d__law_take hr (by rfl) (pa_cons (pv 0) (pa_cons pe_int pa_nil))))
      (pss_cons (ps_if (PW.pt (pw_or (pt_cmpR op_eq (pv 3) pe_int (nomark _)) (pw_or1 (pt_cmpR op_le (pv 2) (pv 1) (nomark _))))) (pss_one (ps_ret (pv 1))) pss_nil)
      (pss_cons (ps_if (pt_cmpR op_eq (pv 3) pe_int (nomark _)) (pss_one (ps_ret (pv 2))) pss_nil)
      (pss_one (ps_ret (pe_op op_add (pv 1) (pe_kn d__law_take hr (by rfl) (pa_cons (pv 0) (pa_cons (pe_op op_add (pe_op op_sub (pv 2) (pv 1)) pe_int) pa_nil))))))))), ?_⟩
  refine ⟨_, rfl, s, 6, rfl, hS, by omega, fun i H1 i0 i1 kp st => ?_⟩
  refine ⟨_, rfl, rfl, _, rfl, ite2 (fun h => ?_) (fun h => ?_)⟩
  · exact ⟨_, rfl, k lo H1 (Int.le_refl _) (by omega) (fun _ => rfl) kp st⟩
  refine ⟨_, rfl, _, rfl, _, _, rfl, rfl, _, rfl, ite2 (fun h2 => ?_) (fun h2 => ?_)⟩
  · exact ⟨_, rfl, k lo H1 (Int.le_refl _) (.inr ⟨of_decide_eq_true h2, rfl⟩) (fun _ => rfl) kp st⟩
  have h2 : ¬ hi ≤ lo := fun z => h2 (decide_eq_true z)
  refine ⟨_, rfl, rfl, _, rfl, ite2 (fun h => ?_) (fun h => ?_)⟩
  · exact ⟨_, rfl, k hi H1 (by omega) (by omega) (fun z => absurd z h2) kp st⟩
  refine ⟨_, rfl, _, rfl, _, rfl, _, rfl, _, _, rfl, rfl, _, _, rfl, rfl, s, _, rfl, st, by omega, fun j H2 j0 j1 kp2 st2 => ⟨_, _, rfl, rfl, ?_⟩⟩
  exact k (lo + j) H2 (by omega) (by omega) (fun z => absurd z h2) (kp.trans kp2) st2
theorem Fq.kps {H H' : Hp} {n : Nat} {a s : Addr} {q : Qt} (h : Fq K H n a q) (e : Kp s H H') (st : Sto K H s) : Fq K H' n a q := by
  obtain ⟨ys, hys⟩ := st.at
  exact h.kp e hys
theorem Kts.kps {H H' : Hp} {n : Nat} {s : Addr} {xs : List V} {ks : List Kt} (h : Kts K H n xs ks) (e : Kp s H H') (st : Sto K H s) : Kts K H' n xs ks := by
  obtain ⟨ys, hys⟩ := st.at
  exact h.kp e hys
theorem SlAt.kps {C : Addr} {H H' : Hp} {n : Nat} {c s : Addr} {ks : List Kt} (h : SlAt K C n H c ks) (e : Kp s H H') (st : Sto K H s) : SlAt K C n H' c ks := by
  obtain ⟨ys, hys⟩ := st.at
  exact h.kp e hys
theorem SlL.kps {H H' : Hp} {n : Nat} {s : Addr} {acc : List V} {ks : List Kt} (h : SlL K H n acc ks) (e : Kp s H H') (st : Sto K H s) : SlL K H' n acc ks := by
  obtain ⟨ys, hys⟩ := st.at
  exact h.kp e hys
theorem Ka.put {H : Hp} {n : Nat} {D : Addr} {v : V} {k : Kt} {xs : List V} {o : HO} (h : Ka K H n v k) (hD : H D = some (.lst xs)) : Ka K (upd H D o) n v k := by
  obtain ⟨t, a, b, e, ot, f, g⟩ := h
  refine ⟨t, a, b, e, ?_, f.put hD, g.put hD⟩
  unfold ob at ot ⊢
  split
  · rename_i z e'
    rw [e'] at ot
    exact ot
  · rename_i e'
    rw [e'] at ot
    rw [upd_ne (fun z => by rw [z, hD] at ot; cases ot)]
    exact ot
theorem Kts.snoc {H : Hp} {n : Nat} {D : Addr} {x : V} {k : Kt} {xs : List V} {ks : List Kt} (h : Kts K H n xs ks) (hD : H D = some (.lst xs)) (hk : Ka K H n x k) : Kts K (upd H D (.lst (xs ++ [x]))) n (xs ++ [x]) (ks ++ [k]) := ⟨by rw [List.length_append, List.length_append, h.1]; rfl, fun i y q e1 e2 => by
  have hl := h.1
  rcases Nat.lt_or_ge i xs.length with l | l
  · rw [List.getElem?_append_left l] at e1
    rw [List.getElem?_append_left (by omega)] at e2
    exact (h.2 i y q e1 e2).put hD
  · rw [List.getElem?_append_right l] at e1
    rw [List.getElem?_append_right (by omega)] at e2
    have := (List.getElem?_eq_some_iff.mp e1).1
    rw [List.length_singleton] at this
    rw [show i - xs.length = 0 by omega] at e1
    rw [show i - ks.length = 0 by omega] at e2
    cases e1
    cases e2
    exact hk.put hD⟩
theorem rat_div_lt {a b c : Rat} (h : a < b) (hc : 0 < c) : a / c < b / c := by
  rw [Rat.div_lt_iff hc]
  have : b / c * c = b := by grind
  rw [this]
  exact h
/-- knots in the making: the last place is spot / bottom -/
structure Grow (many bottom spot : Int) (i : Nat) (ks : List Kt) : Prop where
  len : ks.length = i
  nf : ∀ k ∈ ks, Nf k.1 ∧ Nf k.2
  zero : ∀ k, ks[0]? = some k → k.1 = (0, 1)
  asc : ∀ (j : Nat) k k', ks[j]? = some k → ks[j + 1]? = some k' → qv k.1 < qv k'.1
  last : ∀ (j : Nat) k, j + 1 = i → ks[j]? = some k → qv k.1 = (spot : Rat) / (bottom : Rat)
  lo : 0 ≤ spot
  hi : (1 ≤ i ∧ spot + many + 1 ≤ bottom + (i : Int)) ∨ (i = 0 ∧ spot = 0)
theorem grow_0 (many bottom : Int) : Grow many bottom 0 0 [] := ⟨rfl, fun k h => (by cases h), fun k h => (by simp at h), fun j k k' h => (by simp at h), fun j k e h => (by simp at h), by omega, .inr ⟨rfl, rfl⟩⟩
theorem Grow.good {many bottom spot : Int} {i : Nat} {ks : List Kt} (h : Grow many bottom spot i ks) (hm : many = (i : Int)) (h1 : 1 ≤ i) (hb : 0 < bottom) : Good ks := by
  refine ⟨by rw [h.len]; exact h1, h.nf, h.zero, fun j k k' e1 e2 => ?_⟩
  have l2 := (List.getElem?_eq_some_iff.mp e2).1
  rw [ext_len, h.len] at l2
  have e1' := (ext_at (by rw [h.len]; omega)).mp e1
  by_cases c : j + 1 = i
  · have el : (ext ks)[ks.length]? = some ((1, 1), (ks.getD 0 ((0, 1), (0, 1))).2) := by
      unfold ext
      rw [List.getElem?_append_right (Nat.le_refl _), Nat.sub_self]
      rfl
    rw [c, ← h.len, el] at e2
    cases e2
    rw [h.last j k c e1', qv11]
    have hb' : (0 : Rat) < (bottom : Rat) := by exact_mod_cast hb
    rw [Rat.div_lt_iff hb']
    have := h.hi
    have lt : spot < bottom := by omega
    have lt' : (spot : Rat) < (bottom : Rat) := by exact_mod_cast lt
    grind
  · exact h.asc j k k' e1' ((ext_at (by rw [h.len]; omega)).mp e2)
theorem Grow.snoc {many bottom spot spot' : Int} {i : Nat} {ks : List Kt} {k : Kt} (h : Grow many bottom spot i ks) (hb : 0 < bottom) (n1 : Nf k.1) (n2 : Nf k.2) (e : qv k.1 = (spot' : Rat) / (bottom : Rat)) (h0 : i = 0 → spot' = 0) (h1 : i ≠ 0 → spot < spot') (hh : spot' + many + 1 ≤ bottom + ((i + 1 : Nat) : Int) ∨ False) (h2 : 0 ≤ spot') : Grow many bottom spot' (i + 1) (ks ++ [k]) := by
  have hb' : (0 : Rat) < (bottom : Rat) := by exact_mod_cast hb
  have hl := h.len
  have at_ : ∀ (j : Nat) q, (ks ++ [k])[j]? = some q → (j < i ∧ ks[j]? = some q) ∨ (j = i ∧ q = k) := fun j q e1 => by
    rcases Nat.lt_or_ge j ks.length with l | l
    · rw [List.getElem?_append_left l] at e1
      exact .inl ⟨by omega, e1⟩
    · rw [List.getElem?_append_right l] at e1
      have := (List.getElem?_eq_some_iff.mp e1).1
      rw [List.length_singleton] at this
      rw [show j - ks.length = 0 by omega] at e1
      cases e1
      exact .inr ⟨by omega, rfl⟩
  refine ⟨by rw [List.length_append, hl]; rfl, fun q hq => ?_, fun q e1 => ?_, fun j q q' e1 e2 => ?_, fun j q ej e1 => ?_, h2, .inl ⟨by omega, by rcases hh with hh | hh; exact hh; cases hh⟩⟩
  · rcases List.mem_append.mp hq with z | z
    · exact h.nf q z
    · rw [List.mem_singleton] at z
      subst z
      exact ⟨n1, n2⟩
  · rcases at_ 0 q e1 with ⟨_, z⟩ | ⟨z, rfl⟩
    · exact h.zero q z
    · refine qv_inj n1 nf01 ?_
      rw [e, h0 z.symm, qv01]
      push_cast
      grind
  · rcases at_ _ q' e2 with ⟨z, e2'⟩ | ⟨z, rfl⟩
    · rcases at_ _ q e1 with ⟨_, e1'⟩ | ⟨z', _⟩
      · exact h.asc j q q' e1' e2'
      · omega
    · rcases at_ _ q e1 with ⟨_, e1'⟩ | ⟨z', _⟩
      · rw [h.last j q z e1', e]
        have lt := h1 (by omega)
        have lt' : (spot : Rat) < (spot' : Rat) := by exact_mod_cast lt
        exact rat_div_lt lt' hb'
      · omega
  · rcases at_ _ q e1 with ⟨z, _⟩ | ⟨_, rfl⟩
    · omega
    · exact e
theorem lw_qv {z : Qt} {t b : Int} (h : Lw z t b) (hb : 0 < b) : Nf z ∧ qv z = (t : Rat) / (b : Rat) := ⟨(h.2 (by omega)).1, qv_is (h.2 (by omega)) (by omega)⟩
def spKn (K : PySem.W.Frag) : Sp := fun vs H Q _ => ∃ (s : Addr) (top : Int), vs = [.ref s, .int top] ∧ Sto K H s ∧ 1 ≤ top ∧ top ≤ 8 ∧ ∀ l xs ks H', H l = none → K.lookup l = none → H' l = some (.lst xs) → Kts K H' 20 xs ks → Good ks → ks.length ≤ 8 → Kp s H H' → Sto K H' s → Q (.ref l) H'
def KnI (K : PySem.W.Frag) (s D lean : Addr) (ql : Qt) (top many bottom kind : Int) (H H0 : Hp) (i : Nat) (σ : L2.St) (H' : Hp) : Prop := ∃ (lift : Addr) (qf : Qt) (spot : Int) (x9 x10 : Option V) (acc : List V) (ks : List Kt),
  σ = [some (.ref s), some (.int top), some (.int many), some (.int bottom), some (.int kind), some (.ref lean), some (.ref lift), some (.ref D), some (.int spot), x9, x10] ∧
  Grow many bottom spot i ks ∧ H' D = some (.lst acc) ∧ Kts K H' 20 acc ks ∧ Fq K H' 2 lean ql ∧ Fq K H' 13 lift qf ∧ Kp s H H' ∧ Kp s H0 H' ∧ Sto K H' s
abbrev sKn : Stmt := topS 52
theorem scKn : FnScope ["_law_store_here", "_law_top", "_law_many", "_law_bottom", "_law_kind", "_law_lean", "_law_lift", "_law_rows", "_law_spot", "_law_k", "_law_place"] ["_law_store_here", "_law_top"] (defScope sKn) := ⟨rfl, rfl, rfl, by decide +kernel, rfl, by decide +kernel, by decide +kernel⟩
theorem k_Kn (T : Bt K mg) (D : Dfn K mg "_law_knots" sKn ["_law_store_here", "_law_top"]) (d__law_take : Kn P w K mg base 2 "_law_take" ["_law_store_here", "_law_many"] (spTake K)) (d__law_size : Kn P w K mg base 3 "_law_size" ["_law_store_here", "_law_top"] (spSize K)) (d__law_range : Kn P w K mg base 3 "_law_range" ["_law_store_here", "_law_low", "_law_high"] (spRange K)) (d__law_pick : Kn P w K mg base 3 "_law_pick" ["_law_store_here", "_law_row"] (spPick K)) (d__law_lowest : Kn P w K mg base 2 "_law_lowest" ["_law_top", "_law_bottom"] (spLowest K)) (d__law_frac : Kn P w K mg base 3 "_law_frac" ["_law_store_here"] (spDFrac K 10)) (d__law_times : Kn P w K mg base 3 "_law_times" ["_law_left", "_law_right"] (spBin K pro2)) : Kn P w K mg base 4 "_law_knots" ["_law_store_here", "_law_top"] (spKn K) := by
  refine Kn.mk' D scKn (fun vs H Q E h => ?_) (fun f cdv A outer s H vs Q E hr h => ?_)
  · obtain ⟨s, top, rfl, _⟩ := h
    rfl
  obtain ⟨s, top, rfl, hS, t1, t8, k⟩ := h
  refine ⟨_, (pss_cons (ps_set (i := 2) scKn.nd rfl (.inl rfl) (pe_op op_add pe_int (pe_kn d__law_size hr (by rfl) (pa_cons (pv 0) (pa_cons (pe_op op_sub (pv 1) pe_int) pa_nil)))))
      (pss_cons (ps_set (i := 3) scKn.nd rfl (.inl rfl) (pe_op op_add (pv 2) (pe_kn d__law_take hr (by rfl) (pa_cons (pv 0) (pa_cons pe_int pa_nil)))))
      (pss_cons (ps_set (i := 4) scKn.nd rfl (.inl rfl) (pe_kn d__law_take hr (by rfl) (pa_cons (pv 0) (pa_cons pe_int pa_nil))))
      (pss_cons (ps_set (i := 5) scKn.nd rfl (.inl rfl) (pe_kn d__law_pick hr (by rfl) (pa_cons (pv 0) (pa_cons (pe_ls (pa_cons (pe_tp (pa_cons (pe_un un_neg pe_int) (pa_cons pe_int pa_nil))) (pa_cons (pe_tp (pa_cons (pe_un un_neg pe_int) (pa_cons pe_int pa_nil))) (pa_cons (pe_tp (pa_cons pe_int (pa_cons pe_int pa_nil))) (pa_cons (pe_tp (pa_cons (pe_un un_neg pe_int) (pa_cons pe_int pa_nil))) pa_nil))))) pa_nil))))
      (pss_cons (ps_set (i := 6) scKn.nd rfl (.inl rfl) (pe_kn d__law_frac hr (by rfl) (pa_cons (pv 0) pa_nil)))
      (pss_cons (ps_set (i := 7) scKn.nd rfl (.inl rfl) (pe_ls pa_nil))
      (pss_cons (ps_set (i := 8) scKn.nd rfl (.inl rfl) pe_int)
      (pss_cons (ps_for PassesOwn.never rfl (pi_range1 (by rfl) T.b_range (pa_cons (pv 2) pa_nil)) (pg_name (i := 9) scKn.nd rfl (.inl rfl)) (pss_cons (ps_if (pt_cmpR op_gt (pv 9) pe_int (nomark _)) (pss_one (ps_set (i := 8) scKn.nd rfl (.inl rfl) (pe_kn d__law_range hr (by rfl) (pa_cons (pv 0) (pa_cons (pe_op op_add (pv 8) pe_int) (pa_cons (pe_op op_add (pe_op op_sub (pv 3) (pv 2)) (pv 9)) pa_nil)))))) pss_nil)
      (pss_cons (ps_set (i := 10) scKn.nd rfl (.inl rfl) (pe_kn d__law_lowest hr (by rfl) (pa_cons (pv 8) (pa_cons (pv 3) pa_nil))))
      (pss_cons (ps_if (pt_cmpR op_eq (pv 4) pe_int (nomark _)) (pss_one (ps_set (i := 6) scKn.nd rfl (.inl rfl) (pe_kn d__law_times hr (by rfl) (pa_cons (pv 5) (pa_cons (pv 10) pa_nil))))) (pss_one (ps_if (pt_cmpR op_gt (pv 4) pe_int (nomark _)) (pss_one (ps_set (i := 6) scKn.nd rfl (.inl rfl) (pe_kn d__law_frac hr (by rfl) (pa_cons (pv 0) pa_nil)))) pss_nil)))
      (pss_one (ps_expr (pe_bm PySem.F.plainAttrs_list PySem.F.slot_list_append PySem.F.type_list_append mt_append (pv 7) (pa_cons (pe_tp (pa_cons (pv 10) (pa_cons (pv 6) pa_nil))) pa_nil))))))))
      (pss_one (ps_ret (pv 7))))))))))), ?_⟩
  refine ⟨_, rfl, _, rfl, _, _, rfl, rfl, s, top - 1, rfl, hS, by omega, by omega, fun r H1 r0 r1 kp1 st1 => ⟨_, _, rfl, rfl, ?_⟩⟩
  refine ⟨_, rfl, _, rfl, s, 12, rfl, st1, by omega, fun b H2 b0 b1 kp2 st2 => ⟨_, _, rfl, rfl, ?_⟩⟩
  refine ⟨_, rfl, s, 4, rfl, st2, by omega, fun kd H3 k0 k1 kp3 st3 => ?_⟩
  have kp03 := kp1.trans (kp2.trans kp3)
  simp only [cx_K, decide_true, decide_false, reduceCtorEq, gTp, gCons, gNil, ca_0, ca_1, ca_2, ca_3, ca_4, ca_5, ca_6, ca_7, ca_8, ca_9, ca_10, ca_11, ca_12, ca_13, ca_14, ca_15, ca_16, ca_17, ca_18, ca_19, ca_20, ca_21, ca_22, ca_23, ca_24, ca_25, ca_26, ca_27, ca_28, ca_29, ca_30, not_true_eq_false, not_false_eq_true, Int.reduceEq, Nat.reduceEqDiff, Nat.reduceLeDiff, rGcd, V.ty.injEq, eq_self, List.not_mem_nil, beq_self_eq_true, HO.lst.injEq, HO.tup.injEq, tFor_eq, iRng1, iList, iTup, nat10, tSeq, rIxA, rSetA, rIsN, rIsT, tTp, tLs, itsO_tup, itsO_lst, tyO_tup, tyO_lst, tyO_dK, tyN_non, tyN_bl, tyN_int, tyN_str, tyN_ref, tyNs_lt, isB, upd_same, upd_upd, sizeLine_eq, List.mem_cons, String.reduceBEq, String.reduceEq, Bool.or_false, Bool.or_true, Bool.and_false, Bool.false_or, Bool.and_self, Bool.false_and, Bool.not_false, Bool.not_true, List.any_cons, List.any_nil, atI_0, setI_0, atI_1, setI_1, atI_2, setI_2, atI_3, setI_3, atI_4, setI_4, atI_5, setI_5, atI_6, setI_6, tAsg, gName, tOp, tUn, tVar, tC, tCons, L2.tNil, tRet, tIfS, tTest, tCB, tCall, rI, rI0, rU, tNext, tB, tAnd, tOr, tNot, tAndV, tOrV, tNotV, tDrop, tIf, tPar, gSub, rIxL, rIxT, rEq, rNe, rSetL, tBits,
    L2.start, List.map_cons, List.map_nil, List.cons_append, List.nil_append, List.append_nil, List.length_cons, List.length_nil, List.replicate, Nat.reduceAdd, Nat.reduceSub, Nat.zero_add, List.getElem?_cons_zero, List.getElem?_cons_succ, List.set_cons_zero, List.set_cons_succ,
    Option.some.injEq, exists_eq_left', exists_eq_left, V.int.injEq, V.bl.injEq, V.ref.injEq, V.str.injEq, List.cons.injEq, reduceCtorEq, and_true, true_and, false_and, and_false, exists_false, or_false, false_or, or_true, true_or, exists_const, CMul, CDiv, CPow, and_assoc, exists_and_left, exists_and_right, Int.reducePow, Int.reduceNeg, Int.reduceLT, Int.reduceLE, Nat.reducePow, Nat.reduceLT, Int.reduceToNat, gt_iff_lt, ge_iff_le, decide_eq_true_eq, Bool.not_eq_true', decide_eq_false_iff_not, scal, ↓reduceIte, Bool.false_eq_true]
  intro p1 h1 w1 p2 h2 w2 p3 h3 w3 p4 h4 w4 l hl wl
  have o1 := ob_new (H := H3) (o := .tup [.int (-1), .int 1]) w1
  have s1 := Same.new h1 (.tup [.int (-1), .int 1])
  generalize upd H3 p1 (.tup [.int (-1), .int 1]) = G1 at o1 s1 h2 h3 h4 hl ⊢
  have o2 := ob_new (H := G1) (o := .tup [.int (-2), .int 1]) w2
  have s2 := Same.new h2 (.tup [.int (-2), .int 1])
  generalize upd G1 p2 (.tup [.int (-2), .int 1]) = G2 at o2 s2 h3 h4 hl ⊢
  have o3 := ob_new (H := G2) (o := .tup [.int 1, .int 1]) w3
  have s3 := Same.new h3 (.tup [.int 1, .int 1])
  generalize upd G2 p3 (.tup [.int 1, .int 1]) = G3 at o3 s3 h4 hl ⊢
  have o4 := ob_new (H := G3) (o := .tup [.int (-1), .int 2]) w4
  have s4 := Same.new h4 (.tup [.int (-1), .int 2])
  generalize upd G3 p4 (.tup [.int (-1), .int 2]) = G4 at o4 s4 hl ⊢
  have sL := Same.new hl (.lst [.ref p1, .ref p2, .ref p3, .ref p4])
  have hl' : upd G4 l (.lst [.ref p1, .ref p2, .ref p3, .ref p4]) l = some (.lst [.ref p1, .ref p2, .ref p3, .ref p4]) := upd_same
  have s14 := s1.trans (s2.trans (s3.trans (s4.trans sL)))
  have st4 := st3.same s14
  have f1 : Fq K (upd G4 l (.lst [.ref p1, .ref p2, .ref p3, .ref p4])) 2 p1 (-1, 1) := ⟨ob_same (s2.trans (s3.trans (s4.trans sL))) o1, ⟨by decide, by decide⟩, by decide, by decide⟩
  have f2 : Fq K (upd G4 l (.lst [.ref p1, .ref p2, .ref p3, .ref p4])) 2 p2 (-2, 1) := ⟨ob_same (s3.trans (s4.trans sL)) o2, ⟨by decide, by decide⟩, by decide, by decide⟩
  have f3 : Fq K (upd G4 l (.lst [.ref p1, .ref p2, .ref p3, .ref p4])) 2 p3 (1, 1) := ⟨ob_same (s4.trans sL) o3, nf11, by decide, by decide⟩
  have f4 : Fq K (upd G4 l (.lst [.ref p1, .ref p2, .ref p3, .ref p4])) 2 p4 (-1, 2) := ⟨ob_same sL o4, ⟨by decide, by decide⟩, by decide, by decide⟩
  have nl : l ≠ s := (st3.same (s1.trans (s2.trans (s3.trans s4)))).ne' hl
  generalize upd G4 l (.lst [.ref p1, .ref p2, .ref p3, .ref p4]) = G5 at hl' s14 st4 f1 f2 f3 f4 ⊢
  refine ⟨s, l, _, rfl, st4, hl', Ne.symm nl, by simp, by simp, fun lv H6 hlv kp6 st6 => ?_⟩
  obtain ⟨lean, ql, rfl, fl⟩ : ∃ a z, lv = .ref a ∧ Fq K H6 2 a z := by
    simp only [List.mem_cons, List.not_mem_nil, or_false] at hlv
    rcases hlv with rfl | rfl | rfl | rfl
    · exact ⟨_, _, rfl, f1.kps kp6 st4⟩
    · exact ⟨_, _, rfl, f2.kps kp6 st4⟩
    · exact ⟨_, _, rfl, f3.kps kp6 st4⟩
    · exact ⟨_, _, rfl, f4.kps kp6 st4⟩
  have kp06 := kp03.trans ((Kp.same s14).trans kp6)
  clear f1 f2 f3 f4 hl' s14 st4 o1 o2 o3 o4 s1 s2 s3 s4 sL nl
  refine ⟨s, rfl, st6, fun lf qf H7 flf kp7 st7 => ?_⟩
  have fl7 := fl.kps kp7 st6
  have kp07 := kp06.trans kp7
  intro D hD kD
  refine ⟨by omega, by omega, ?_⟩
  have sD := Same.new hD (.lst [])
  refine forI_range (lo := 0) (n := (1 + r).toNat) (KnI K s D lean ql top (1 + r) (1 + r + b) kd H H7) ⟨lf, qf, 0, none, none, [], [], rfl, grow_0 _ _, upd_same, ⟨rfl, fun i x k e => (by simp at e)⟩, fl7.same sD, (flf.mono (by omega)).same sD, kp07.trans (Kp.same sD), Kp.same sD, st7.same sD⟩ ?_ ?_
  · rintro i σ H' hi ⟨lift, qf, spot, x9, x10, acc, ks, rfl, gr, hDa, kts, fle, fli, kpA, kpB, st⟩
    have lk := gr.len
    have la := kts.1
    have app : ∀ (lift2 place : Addr) (qp qf2 : Qt) (spot2 : Int) (H8 : Hp), Grow (1 + r) (1 + r + b) spot2 (i + 1) (ks ++ [(qp, qf2)]) → H8 D = some (.lst acc) → Kts K H8 20 acc ks → Fq K H8 2 lean ql → Fq K H8 13 lift2 qf2 → Fq K H8 10 place qp → Kp s H7 H8 → Sto K H8 s → tBM K "list" rAppend (tVar 7) (tCons (tTp K (tCons (tVar 10) (tCons (tVar 6) L2.tNil))) L2.tNil) [some (.ref s), some (.int top), some (.int (1 + r)), some (.int (1 + r + b)), some (.int kd), some (.ref lean), some (.ref lift2), some (.ref D), some (.int spot2), some (.int (0 + (i : Int))), some (.ref place)] H8 fun _ H1 => KnI K s D lean ql top (1 + r) (1 + r + b) kd H H7 (i + 1) [some (.ref s), some (.int top), some (.int (1 + r)), some (.int (1 + r + b)), some (.int kd), some (.ref lean), some (.ref lift2), some (.ref D), some (.int spot2), some (.int (0 + (i : Int))), some (.ref place)] H1 := by
      intro lift2 place qp qf2 spot2 H8 g8 d8 k8 a8 b8 c8 e8 s8
      refine ⟨_, rfl, .inl ⟨rfl, _, .of d8⟩, _, rfl, _, rfl, sz2 (by show 2 ≤ 100; decide), fun p hp kp => ?_⟩
      have s9 := Same.new hp (.tup [.ref place, .ref lift2])
      have op := ob_new (H := H8) (o := .tup [.ref place, .ref lift2]) kp
      have d9 := s9 _ _ d8
      have k9 := k8.same s9
      have a9 := a8.same s9
      have b9 := b8.same s9
      have c9 := c8.same s9
      have e9 := e8.trans (Kp.same s9)
      have t9 := s8.same s9
      generalize upd H8 p (.tup [.ref place, .ref lift2]) = H9 at op d9 k9 a9 b9 c9 e9 t9 ⊢
      obtain ⟨m1, m2⟩ := st7.mut (o := .lst (acc ++ [.ref p])) hD e9 t9
      refine ⟨D, acc, .ref p, rfl, rfl, d9, by rw [sizeLine_eq]; omega, lift2, qf2, spot2, _, _, acc ++ [.ref p], ks ++ [(qp, qf2)], rfl, g8, upd_same, Kts.snoc k9 d9 ⟨p, place, lift2, rfl, op, c9.mono (by omega), b9.mono (by omega)⟩, a9.put d9, b9.put d9, kp07.trans m2, m2, m1⟩
    have tail : ∀ (spot2 : Int) (Hs : Hp), (i = 0 → spot2 = 0) → (i ≠ 0 → spot < spot2) → spot2 + (1 + r) + 1 ≤ (1 + r + b) + ((i + 1 : Nat) : Int) → 0 ≤ spot2 → Hs D = some (.lst acc) → Kts K Hs 20 acc ks → Fq K Hs 2 lean ql → Fq K Hs 13 lift qf → Kp s H7 Hs → Sto K Hs s →
        spLowest K [.int spot2, .int (1 + r + b)] Hs (fun x H1 => if kd = 1 then spBin K pro2 [.ref lean, x] H1 (fun x_1 H1 => tBM K "list" rAppend (tVar 7) (tCons (tTp K (tCons (tVar 10) (tCons (tVar 6) L2.tNil))) L2.tNil) [some (.ref s), some (.int top), some (.int (1 + r)), some (.int (1 + r + b)), some (.int kd), some (.ref lean), some x_1, some (.ref D), some (.int spot2), some (.int (0 + (i : Int))), some x] H1 fun _ H1 => KnI K s D lean ql top (1 + r) (1 + r + b) kd H H7 (i + 1) [some (.ref s), some (.int top), some (.int (1 + r)), some (.int (1 + r + b)), some (.int kd), some (.ref lean), some x_1, some (.ref D), some (.int spot2), some (.int (0 + (i : Int))), some x] H1) E0 else if 1 < kd then spDFrac K 10 [.ref s] H1 (fun x_1 H1 => tBM K "list" rAppend (tVar 7) (tCons (tTp K (tCons (tVar 10) (tCons (tVar 6) L2.tNil))) L2.tNil) [some (.ref s), some (.int top), some (.int (1 + r)), some (.int (1 + r + b)), some (.int kd), some (.ref lean), some x_1, some (.ref D), some (.int spot2), some (.int (0 + (i : Int))), some x] H1 fun _ H1 => KnI K s D lean ql top (1 + r) (1 + r + b) kd H H7 (i + 1) [some (.ref s), some (.int top), some (.int (1 + r)), some (.int (1 + r + b)), some (.int kd), some (.ref lean), some x_1, some (.ref D), some (.int spot2), some (.int (0 + (i : Int))), some x] H1) E0 else tBM K "list" rAppend (tVar 7) (tCons (tTp K (tCons (tVar 10) (tCons (tVar 6) L2.tNil))) L2.tNil) [some (.ref s), some (.int top), some (.int (1 + r)), some (.int (1 + r + b)), some (.int kd), some (.ref lean), some (.ref lift), some (.ref D), some (.int spot2), some (.int (0 + (i : Int))), some x] H1 fun _ H1 => KnI K s D lean ql top (1 + r) (1 + r + b) kd H H7 (i + 1) [some (.ref s), some (.int top), some (.int (1 + r)), some (.int (1 + r + b)), some (.int kd), some (.ref lean), some (.ref lift), some (.ref D), some (.int spot2), some (.int (0 + (i : Int))), some x] H1) E0 := by
      intro spot2 Hs z0 z1 z2 z3 d8 k8 a8 b8 e8 s8
      refine ⟨_, _, rfl, ?_, fun qp hq p H8 sp o8 => ?_⟩
      · have e : 2 ^ 10 ≤ 2 ^ 8000 := Nat.pow_le_pow_right (by omega) (by omega)
        omega
      obtain ⟨nq, eq⟩ := lw_qv hq (by omega)
      have fp : Fq K H8 10 p qp := ⟨o8, nq, is_sz (by omega) (hq.2 (by omega)) (by omega) (by omega)⟩
      have d9 := sp _ _ d8
      have k9 := k8.same sp
      have a9 := a8.same sp
      have b9 := b8.same sp
      have e9 := e8.trans (Kp.same sp)
      have t9 := s8.same sp
      have gw : ∀ (qf2 : Qt), Nf qf2 → Grow (1 + r) (1 + r + b) spot2 (i + 1) (ks ++ [(qp, qf2)]) := fun qf2 n2 => gr.snoc (by omega) nq n2 eq z0 z1 (.inl z2) z3
      refine ite2 (fun c => ?_) (fun c => ite2 (fun c2 => ?_) (fun c2 => ?_))
      · refine av_pro a9 fp fun y y1 H9 ey s9 fy => ?_
        exact app y1 p qp y spot2 H9 (gw y fy.nf) (s9 _ _ d9) (k9.same s9) (a9.same s9) fy (fp.same s9) (e9.trans (Kp.same s9)) (t9.same s9)
      · refine ⟨s, rfl, t9, fun y1 y H9 fy kp9 st9 => ?_⟩
        exact app y1 p qp y spot2 H9 (gw y fy.nf) (kp9 _ _ (st7.ne' hD) d9) (k9.kps kp9 t9) (a9.kps kp9 t9) (fy.mono (by omega)) (fp.kps kp9 t9) (e9.trans kp9) st9
      · exact app lift p qp qf spot2 H8 (gw qf b9.nf) d9 k9 a9 b9 fp e9 t9
    simp only [cx_K, decide_true, decide_false, reduceCtorEq, gTp, gCons, gNil, ca_0, ca_1, ca_2, ca_3, ca_4, ca_5, ca_6, ca_7, ca_8, ca_9, ca_10, ca_11, ca_12, ca_13, ca_14, ca_15, ca_16, ca_17, ca_18, ca_19, ca_20, ca_21, ca_22, ca_23, ca_24, ca_25, ca_26, ca_27, ca_28, ca_29, ca_30, not_true_eq_false, not_false_eq_true, Int.reduceEq, Nat.reduceEqDiff, Nat.reduceLeDiff, rGcd, V.ty.injEq, eq_self, List.not_mem_nil, beq_self_eq_true, HO.lst.injEq, HO.tup.injEq, tFor_eq, iRng1, iList, iTup, nat10, tSeq, rIxA, rSetA, rIsN, rIsT, tTp, tLs, itsO_tup, itsO_lst, tyO_tup, tyO_lst, tyO_dK, tyN_non, tyN_bl, tyN_int, tyN_str, tyN_ref, tyNs_lt, isB, upd_same, upd_upd, sizeLine_eq, List.mem_cons, String.reduceBEq, String.reduceEq, Bool.or_false, Bool.or_true, Bool.and_false, Bool.false_or, Bool.and_self, Bool.false_and, Bool.not_false, Bool.not_true, List.any_cons, List.any_nil, atI_0, setI_0, atI_1, setI_1, atI_2, setI_2, atI_3, setI_3, atI_4, setI_4, atI_5, setI_5, atI_6, setI_6, tAsg, gName, tOp, tUn, tVar, tC, tCons, L2.tNil, tRet, tIfS, tTest, tCB, tCall, rI, rI0, rU, tNext, tB, tAnd, tOr, tNot, tAndV, tOrV, tNotV, tDrop, tIf, tPar, gSub, rIxL, rIxT, rEq, rNe, rSetL, tBits,
    L2.start, List.map_cons, List.map_nil, List.cons_append, List.nil_append, List.append_nil, List.length_cons, List.length_nil, List.replicate, Nat.reduceAdd, Nat.reduceSub, Nat.zero_add, List.getElem?_cons_zero, List.getElem?_cons_succ, List.set_cons_zero, List.set_cons_succ,
    Option.some.injEq, exists_eq_left', exists_eq_left, V.int.injEq, V.bl.injEq, V.ref.injEq, V.str.injEq, List.cons.injEq, reduceCtorEq, and_true, true_and, false_and, and_false, exists_false, or_false, false_or, or_true, true_or, exists_const, CMul, CDiv, CPow, and_assoc, exists_and_left, exists_and_right, Int.reducePow, Int.reduceNeg, Int.reduceLT, Int.reduceLE, Nat.reducePow, Nat.reduceLT, Int.reduceToNat, gt_iff_lt, ge_iff_le, decide_eq_true_eq, Bool.not_eq_true', decide_eq_false_iff_not, scal, ↓reduceIte, Bool.false_eq_true]
    refine ite2 (fun c => ?_) (fun c => ?_)
    · have hhi := gr.hi
      have hlo := gr.lo
      refine ⟨s, _, _, rfl, st, by omega, by omega, fun sp2 H8 a1 a2 _ kp8 st8 => ?_⟩
      exact tail sp2 H8 (by omega) (fun _ => by omega) (by omega) (by omega) (kp8 _ _ (st7.ne' hD) hDa) (kts.kps kp8 st) (fle.kps kp8 st) (fli.kps kp8 st) (kpB.trans kp8) st8
    · have ei : i = 0 := by omega
      have hz : spot = 0 := by
        have := gr.hi
        omega
      exact tail spot H' (fun _ => hz) (fun z => absurd ei z) (by omega) gr.lo hDa kts fle fli kpB st
  · rintro σ H' ⟨lift, qf, spot, x9, x10, acc, ks, rfl, gr, hDa, kts, fle, fli, kpA, kpB, st⟩
    simp only [cx_K, decide_true, decide_false, reduceCtorEq, gTp, gCons, gNil, ca_0, ca_1, ca_2, ca_3, ca_4, ca_5, ca_6, ca_7, ca_8, ca_9, ca_10, ca_11, ca_12, ca_13, ca_14, ca_15, ca_16, ca_17, ca_18, ca_19, ca_20, ca_21, ca_22, ca_23, ca_24, ca_25, ca_26, ca_27, ca_28, ca_29, ca_30, not_true_eq_false, not_false_eq_true, Int.reduceEq, Nat.reduceEqDiff, Nat.reduceLeDiff, rGcd, V.ty.injEq, eq_self, List.not_mem_nil, beq_self_eq_true, HO.lst.injEq, HO.tup.injEq, tFor_eq, iRng1, iList, iTup, nat10, tSeq, rIxA, rSetA, rIsN, rIsT, tTp, tLs, itsO_tup, itsO_lst, tyO_tup, tyO_lst, tyO_dK, tyN_non, tyN_bl, tyN_int, tyN_str, tyN_ref, tyNs_lt, isB, upd_same, upd_upd, sizeLine_eq, List.mem_cons, String.reduceBEq, String.reduceEq, Bool.or_false, Bool.or_true, Bool.and_false, Bool.false_or, Bool.and_self, Bool.false_and, Bool.not_false, Bool.not_true, List.any_cons, List.any_nil, atI_0, setI_0, atI_1, setI_1, atI_2, setI_2, atI_3, setI_3, atI_4, setI_4, atI_5, setI_5, atI_6, setI_6, tAsg, gName, tOp, tUn, tVar, tC, tCons, L2.tNil, tRet, tIfS, tTest, tCB, tCall, rI, rI0, rU, tNext, tB, tAnd, tOr, tNot, tAndV, tOrV, tNotV, tDrop, tIf, tPar, gSub, rIxL, rIxT, rEq, rNe, rSetL, tBits,
    L2.start, List.map_cons, List.map_nil, List.cons_append, List.nil_append, List.append_nil, List.length_cons, List.length_nil, List.replicate, Nat.reduceAdd, Nat.reduceSub, Nat.zero_add, List.getElem?_cons_zero, List.getElem?_cons_succ, List.set_cons_zero, List.set_cons_succ,
    Option.some.injEq, exists_eq_left', exists_eq_left, V.int.injEq, V.bl.injEq, V.ref.injEq, V.str.injEq, List.cons.injEq, reduceCtorEq, and_true, true_and, false_and, and_false, exists_false, or_false, false_or, or_true, true_or, exists_const, CMul, CDiv, CPow, and_assoc, exists_and_left, exists_and_right, Int.reducePow, Int.reduceNeg, Int.reduceLT, Int.reduceLE, Nat.reducePow, Nat.reduceLT, Int.reduceToNat, gt_iff_lt, ge_iff_le, decide_eq_true_eq, Bool.not_eq_true', decide_eq_false_iff_not, scal, ↓reduceIte, Bool.false_eq_true]
    have lk := gr.len
    refine k D acc ks H' (kp07.free st7 hD) kD hDa kts (gr.good (by omega) (by omega) (by omega)) (by omega) kpA st

end
end My

namespace My
open PySem PySem.Spec PyProof.Rows L2
section
variable {P : Program} {w : World} {K : PySem.W.Frag} {mg : Str → Option Value} {base : Heap}
theorem good_firsts {ks ks' : List Kt} (g : Good ks) (hl : ks'.length = ks.length) (h : ∀ (j : Nat) k', ks'[j]? = some k' → ∃ k, ks[j]? = some k ∧ k'.1 = k.1) (nf : ∀ k ∈ ks', Nf k.2) : Good ks' := by
  have hE : ∀ (j : Nat) k', (ext ks')[j]? = some k' → ∃ k, (ext ks)[j]? = some k ∧ k'.1 = k.1 := fun j k' e => by
    have lj := (List.getElem?_eq_some_iff.mp e).1
    rw [ext_len] at lj
    by_cases c : j < ks'.length
    · obtain ⟨k, e1, e2⟩ := h j k' ((ext_at c).mp e)
      exact ⟨k, (ext_at (by omega)).mpr e1, e2⟩
    · have ej : j = ks'.length := by omega
      have el : (ext ks')[ks'.length]? = some ((1, 1), (ks'.getD 0 ((0, 1), (0, 1))).2) := by
        unfold ext
        rw [List.getElem?_append_right (Nat.le_refl _), Nat.sub_self]
        rfl
      rw [ej, el] at e
      cases e
      obtain ⟨k0, _, el2, _, _⟩ := ext_last g
      exact ⟨((1, 1), k0.2), by rw [ej, hl]; exact el2, rfl⟩
  refine ⟨by rw [hl]; exact g.one, fun k hk => ⟨?_, nf k hk⟩, fun k e => ?_, fun i k k' e1 e2 => ?_⟩
  · obtain ⟨i, hi, ei⟩ := List.getElem_of_mem hk
    obtain ⟨q, e1, e2⟩ := h i k (by rw [List.getElem?_eq_getElem hi, ei])
    rw [e2]
    exact (g.nf q (List.mem_of_getElem? e1)).1
  · obtain ⟨q, e1, e2⟩ := h 0 k e
    rw [e2]
    exact g.zero q e1
  · obtain ⟨q, a1, a2⟩ := hE i k e1
    obtain ⟨q', b1, b2⟩ := hE (i + 1) k' e2
    rw [a2, b2]
    exact g.asc i q q' a1 b1
/-- knots with the same places, as far as i -/
structure Fst (ks : List Kt) (i : Nat) (ks' : List Kt) : Prop where
  len : ks'.length = i
  fst : ∀ (j : Nat) k', ks'[j]? = some k' → ∃ k, ks[j]? = some k ∧ k'.1 = k.1
  nf : ∀ k ∈ ks', Nf k.2
theorem Fst.nil (ks : List Kt) : Fst ks 0 [] := ⟨rfl, fun j k h => (by simp at h), fun k h => (by cases h)⟩
theorem Fst.snoc {ks ks' : List Kt} {i : Nat} {k : Kt} {q : Qt} (h : Fst ks i ks') (e : ks[i]? = some k) (n : Nf q) : Fst ks (i + 1) (ks' ++ [(k.1, q)]) := by
  have hl := h.len
  refine ⟨by rw [List.length_append, hl]; rfl, fun j k' e1 => ?_, fun r hr => ?_⟩
  · rcases Nat.lt_or_ge j ks'.length with l | l
    · rw [List.getElem?_append_left l] at e1
      exact h.fst j k' e1
    · rw [List.getElem?_append_right l] at e1
      have := (List.getElem?_eq_some_iff.mp e1).1
      rw [List.length_singleton] at this
      rw [show j - ks'.length = 0 by omega] at e1
      cases e1
      exact ⟨k, by rw [show j = i by omega]; exact e, rfl⟩
  · rcases List.mem_append.mp hr with z | z
    · exact h.nf r z
    · rw [List.mem_singleton] at z
      subst z
      exact n
def spSome (K : PySem.W.Frag) : Sp := fun vs H Q _ => ∃ (s : Addr), vs = [.ref s] ∧ Sto K H s ∧ ∀ l xs ks H', H l = none → K.lookup l = none → H' l = some (.lst xs) → Kts K H' 134 xs ks → Good ks → ks.length ≤ 8 → Kp s H H' → Sto K H' s → Q (.ref l) H'
abbrev sKw : Stmt := topS 53
theorem scKw : FnScope ["_law_store_here", "_law_row"] ["_law_store_here"] (defScope sKw) := ⟨rfl, rfl, rfl, by decide +kernel, rfl, by decide +kernel, by decide +kernel⟩
theorem blk_scKw_0 : BlkOk ["_law_store_here", "_law_row"] (defScope sKw) { kind := .function, names := [(".0", .local), ("_law_row", .local), ("_law_frac_wide", .globalImplicit), ("_law_store_here", .free)], isGenerator := false, isCoroutine := false, more := [] } [("_law_row", 1)] := ⟨rfl, by decide +kernel, by decide +kernel, by decide +kernel, by decide +kernel⟩
theorem k_Kw (T : Bt K mg) (D : Dfn K mg "_law_knots_wide" sKw ["_law_store_here"]) (d__law_frac_wide : Kn P w K mg base 4 "_law_frac_wide" ["_law_store_here"] (spDFrac K 133)) (d__law_knots : Kn P w K mg base 4 "_law_knots" ["_law_store_here", "_law_top"] (spKn K)) : Kn P w K mg base 5 "_law_knots_wide" ["_law_store_here"] (spSome K) := by
  refine Kn.mk' D scKw (fun vs H Q E h => ?_) (fun f cdv A outer s H vs Q E hr h => ?_)
  · obtain ⟨s, rfl, _⟩ := h
    rfl
  obtain ⟨s, rfl, hS, k⟩ := h
  refine ⟨_, (pss_one (ps_ret (pe_fr (pe_lc (own := [("_law_row", 1)]) (g := gName 1) (te := (tTp K (tCons (tOp (rIxA K) (tVar 1) (tC (.int 0))) (tCons (tCall (spDFrac K 133) [] E0 (tCons (tVar 0) L2.tNil)) L2.tNil)))) rfl scKw.nd (pi_list (pe_kn d__law_knots hr (by rfl) (pa_cons (pv 0) (pa_cons pe_int pa_nil)))) blk_scKw_0 (fun _ _ _ _ _ => by exact pg_name (i := 1) scKw.nd rfl (.inl rfl)) (fun _ _ _ _ _ => pts_nil) (fun _ _ _ _ _ => by exact (pe_tp (pa_cons (pe_ix ix_any (pv 1) pe_int (fun _ _ => rfl)) (pa_cons (pe_kn d__law_frac_wide hr (by rfl) (pa_cons (pv 0) pa_nil)) pa_nil)))))))), ?_⟩
  refine ⟨_, rfl, s, 3, rfl, hS, by omega, by omega, fun l xs ks H1 hl kl h1 kt g l8 kp1 st1 => ?_⟩
  have nl : l ≠ s := hS.ne' hl
  have lk := kt.1
  refine ⟨l, rfl, ⟨xs, .of h1⟩, fun D hD => lc_list (xs := xs) (fun i H' => ∃ acc ks', H' D = some (.lst acc) ∧ Fst ks i ks' ∧ Kts K H' 134 acc ks' ∧ Kp s H1 H' ∧ Sto K H' s) ⟨[], [], upd_same, Fst.nil ks, ⟨rfl, fun i x k e => (by simp at e)⟩, Kp.same (Same.new hD _), st1.same (Same.new hD _)⟩ (fun i H' _ ⟨_, _, _, _, _, h, _⟩ => .of (h _ _ nl h1)) ?_ ?_⟩
  · rintro i x H' hx ⟨acc, ks', ha, hf, hk, kpP, st⟩
    refine ⟨rfl, ?_⟩
    simp only [tYes, if_true]
    obtain ⟨kk, ek, kx⟩ := (kt.kps kpP st1).at hx
    obtain ⟨t, a, b, rfl, ot, fa, fb⟩ := kx
    have nD : D ≠ s := st1.ne' hD
    refine ⟨_, rfl, t, 0, rfl, rfl, _, itsO_of ot, _, atI_0 _ _, _, rfl, s, rfl, st, fun f q H2 fq kp2 st2 => ⟨sz2 (by show 2 ≤ 100; decide), fun p hp kp => ?_⟩⟩
    have fa2 := fa.kps kp2 st
    have hk2 := hk.kps kp2 st
    have ha2 := kp2 _ _ nD ha
    have s3 := Same.new hp (.tup [.ref a, .ref f])
    have op := ob_new (H := H2) (o := .tup [.ref a, .ref f]) kp
    have fa3 := fa2.same s3
    have fq3 := fq.same s3
    have hk3 := hk2.same s3
    have ha3 := s3 _ _ ha2
    have st3 := st2.same s3
    have kp3 := kpP.trans (kp2.trans (Kp.same s3))
    generalize upd H2 p (.tup [.ref a, .ref f]) = H3 at op fa3 fq3 hk3 ha3 st3 kp3 ⊢
    obtain ⟨m1, m2⟩ := st1.mut (o := .lst (acc ++ [.ref p])) hD kp3 st3
    have la := hk.1
    have lf := hf.len
    have li := (List.getElem?_eq_some_iff.mp ek).1
    exact ⟨acc, ha3, by rw [sizeLine_eq]; omega, acc ++ [.ref p], ks' ++ [(kk.1, q)], upd_same, hf.snoc ek fq.nf, Kts.snoc (k := (kk.1, q)) hk3 ha3 ⟨p, a, f, rfl, op, fa3.mono (by omega), fq3.mono (by omega)⟩, m2, m1⟩
  · rintro H' ⟨acc, ks', ha, hf, hk, kpP, st⟩ fr
    rw [lk] at hf
    exact k D acc ks' H' (kp1.free st1 hD) (fr D (by rw [ha]; simp)) ha hk (good_firsts g hf.len hf.fst hf.nf) (by rw [hf.len]; exact l8) (kp1.trans kpP) st

abbrev sSome : Stmt := topS 56
theorem scSome : FnScope ["_law_store_here", "_law_kind"] ["_law_store_here"] (defScope sSome) := ⟨rfl, rfl, rfl, by decide +kernel, rfl, by decide +kernel, by decide +kernel⟩
theorem k_Some (T : Bt K mg) (D : Dfn K mg "_law_some_knots" sSome ["_law_store_here"]) (d__law_take : Kn P w K mg base 2 "_law_take" ["_law_store_here", "_law_many"] (spTake K)) (d__law_knots : Kn P w K mg base 4 "_law_knots" ["_law_store_here", "_law_top"] (spKn K)) (d__law_knots_wide : Kn P w K mg base 5 "_law_knots_wide" ["_law_store_here"] (spSome K)) : Kn P w K mg base 6 "_law_some_knots" ["_law_store_here"] (spSome K) := by
  refine Kn.mk' D scSome (fun vs H Q E h => ?_) (fun f cdv A outer s H vs Q E hr h => ?_)
  · obtain ⟨s, rfl, _⟩ := h
    rfl
  obtain ⟨s, rfl, hS, k⟩ := h
  refine ⟨_, (pss_cons (ps_set (i := 1) scSome.nd rfl (.inl rfl) (pe_kn d__law_take hr (by rfl) (pa_cons (pv 0) (pa_cons pe_int pa_nil))))
      (pss_cons (ps_if (pt_cmpR op_eq (pv 1) pe_int (nomark _)) (pss_one (ps_ret (pe_kn d__law_knots_wide hr (by rfl) (pa_cons (pv 0) pa_nil)))) pss_nil)
      (pss_one (ps_ret (pe_kn d__law_knots hr (by rfl) (pa_cons (pv 0) (pa_cons (pe_ix ix_any (pe_ls (pa_cons pe_int (pa_cons pe_int (pa_cons pe_int pa_nil)))) (pe_op op_sub (pv 1) pe_int) (fun _ _ => rfl)) pa_nil))))))), ?_⟩
  refine ⟨_, rfl, s, 4, rfl, hS, by omega, fun kd H1 k0 k1 kp1 st1 => ?_⟩
  refine ⟨_, rfl, rfl, _, rfl, ite2 (fun h => ?_) (fun h => ?_)⟩
  · exact ⟨_, rfl, s, rfl, st1, fun l xs ks H' hl kl h' kt g l8 kp' st' => k l xs ks H' (kp1.free st1 hl) kl h' kt g l8 (kp1.trans kp') st'⟩
  · have nk : kd ≠ 0 := fun z => h (by rw [z]; rfl)
    refine ⟨_, rfl, sz2 (by show 3 ≤ 100; decide), fun p hp kp => ?_⟩
    have sp := Same.new hp (.lst [.int 8, .int 8, .int 3])
    have op := ob_new (H := H1) (o := .lst [.int 8, .int 8, .int 3]) kp
    have st2 := st1.same sp
    have kp2 := kp1.trans (Kp.same sp)
    generalize upd H1 p (.lst [.int 8, .int 8, .int 3]) = H2 at op st2 kp2 ⊢
    have fin : ∀ top : Int, 1 ≤ top → top ≤ 8 → spKn K [.ref s, .int top] H2 Q C8.E0 := fun top a b => ⟨s, top, rfl, st2, a, b, fun l xs ks H' hl kl h' kt g l8 kp' st' => k l xs ks H' (kp2.free st2 hl) kl h' (kt.mono (by omega)) g l8 (kp2.trans kp') st'⟩
    refine ⟨_, rfl, _, _, rfl, rfl, p, _, rfl, rfl, _, itsO_ofL op, ?_⟩
    obtain rfl | rfl | rfl : kd = 1 ∨ kd = 2 ∨ kd = 3 := by omega
    · exact ⟨_, atI_0 _ _, fin 8 (by omega) (by omega)⟩
    · exact ⟨_, atI_1 _ _ _, fin 8 (by omega) (by omega)⟩
    · exact ⟨_, atI_2 _ _ _ _, fin 3 (by omega) (by omega)⟩

end
end My

namespace My
open PySem PySem.Spec PyProof.Rows L2
section
variable {P : Program} {w : World} {K : PySem.W.Frag} {mg : Str → Option Value} {base : Heap}
def spPiece (K : PySem.W.Frag) (C : Addr) : Sp := fun vs H Q _ => ∃ (s c lo wd sl : Addr) (ks : List Kt) (n i : Nat) (k k' : Kt) (qlo qwd qsl : Qt), vs = [.ref s, .ref c, .ref lo, .ref wd, .ref sl] ∧ Sto K H s ∧ SlAt K C n H c ks ∧ Good ks ∧ ks.length ≤ 8 ∧ 1 ≤ n ∧ n ≤ 140 ∧
  (ext ks)[i]? = some k ∧ (ext ks)[i + 1]? = some k' ∧ Fq K H 140 lo qlo ∧ qv qlo = qv k.1 ∧ Fq K H 290 wd qwd ∧ qv qwd = qv k'.1 - qv k.1 ∧ Fq K H 600 sl qsl ∧ qv qsl = slp k k' ∧ ∀ H', Kp s H H' → Sto K H' s → Q (.bl true) H'
/-- a share -/
def Shr (K : PySem.W.Frag) (H : Hp) (v : V) : Prop := ∃ a z, v = .ref a ∧ Fq K H 5 a z ∧ 0 ≤ qv z ∧ qv z ≤ 1
theorem Shr.same {H H' : Hp} {v : V} (h : Shr K H v) (s : Same H H') : Shr K H' v := by
  obtain ⟨a, z, e, f, g⟩ := h
  exact ⟨a, z, e, f.same s, g⟩
theorem Shr.kps {H H' : Hp} {v : V} {s : Addr} (h : Shr K H v) (e : Kp s H H') (st : Sto K H s) : Shr K H' v := by
  obtain ⟨a, z, e', f, g⟩ := h
  exact ⟨a, z, e', f.kps e st, g⟩
/-- turns within a piece -/
def Trn (K : PySem.W.Frag) (H : Hp) (k k' : Kt) (w : Int) (v : V) (z : Qt) : Prop := ∃ a, v = .ref a ∧ Fq K H 550 a z ∧ ∃ u : Rat, qv z = (w : Rat) + u ∧ qv k.1 ≤ u ∧ u ≤ qv k'.1
def Lin (k k' : Kt) (w : Int) (z y : Qt) : Prop := qv y = (w : Rat) + qv k.1 + qv k.2 + (qv z - (w : Rat) - qv k.1) * slp k k'
theorem Trn.same {H H' : Hp} {k k' : Kt} {w : Int} {v : V} {z : Qt} (h : Trn K H k k' w v z) (s : Same H H') : Trn K H' k k' w v z := by
  obtain ⟨a, e, f, g⟩ := h
  exact ⟨a, e, f.same s, g⟩
theorem Trn.put {H : Hp} {k k' : Kt} {w : Int} {v : V} {z : Qt} {D : Addr} {xs : List V} {o : HO} (h : Trn K H k k' w v z) (hD : H D = some (.lst xs)) : Trn K (upd H D o) k k' w v z := by
  obtain ⟨a, e, f, g⟩ := h
  exact ⟨a, e, f.put hD, g⟩
theorem two_snoc {α β : Type} {R R' : Nat → α → β → Prop} {xs : List α} {ys : List β} {x : α} {y : β} (hl : xs.length = ys.length) (h : ∀ (j : Nat) a b, xs[j]? = some a → ys[j]? = some b → R j a b) (w : ∀ j a b, R j a b → R' j a b) (n : R' xs.length x y) : ∀ (j : Nat) a b, (xs ++ [x])[j]? = some a → (ys ++ [y])[j]? = some b → R' j a b := fun j a b e1 e2 => by
  rcases Nat.lt_or_ge j xs.length with l | l
  · rw [List.getElem?_append_left l] at e1
    rw [List.getElem?_append_left (by omega)] at e2
    exact w j a b (h j a b e1 e2)
  · rw [List.getElem?_append_right l] at e1
    rw [List.getElem?_append_right (by omega)] at e2
    have := (List.getElem?_eq_some_iff.mp e1).1
    rw [List.length_singleton] at this
    have ej : j = xs.length := by omega
    rw [show j - xs.length = 0 by omega] at e1
    rw [show j - ys.length = 0 by omega] at e2
    cases e1
    cases e2
    rw [ej]
    exact n
theorem rat_share {a b : Rat} (h0 : 0 ≤ a) (h1 : a ≤ 1) (hb : 0 ≤ b) : 0 ≤ a * b ∧ a * b ≤ b := by
  have p := Rat.mul_nonneg h0 hb
  have q := Rat.mul_nonneg (show 0 ≤ 1 - a by grind) hb
  refine ⟨p, ?_⟩
  grind
theorem rat_unit {r b : Int} (h0 : 0 ≤ r) (h1 : r ≤ b) (hb : 0 < b) : 0 ≤ (r : Rat) / (b : Rat) ∧ (r : Rat) / (b : Rat) ≤ 1 := by
  have hb' : (0 : Rat) < (b : Rat) := by exact_mod_cast hb
  have r0 : (0 : Rat) ≤ (r : Rat) := by exact_mod_cast h0
  have r1 : (r : Rat) ≤ (b : Rat) := by exact_mod_cast h1
  refine ⟨?_, ?_⟩
  · rw [← Rat.not_lt, Rat.div_lt_iff hb']
    grind
  · rw [← Rat.not_lt, Rat.lt_div_iff hb']
    grind
abbrev sPiece : Stmt := topS 55
theorem scPiece : FnScope ["_law_store_here", "_law_slot", "_law_low", "_law_width", "_law_slope", "_law_bottom", "_law_shares", "_law_whole_here", "_law_turns", "_law_carried", "_law_k", "_law_way", "_law_share", "_law_one"] ["_law_store_here", "_law_slot", "_law_low", "_law_width", "_law_slope"] (defScope sPiece) := ⟨rfl, rfl, rfl, by decide +kernel, rfl, by decide +kernel, by decide +kernel⟩
theorem blk_scPiece_0 : BlkOk ["_law_store_here", "_law_slot", "_law_low", "_law_width", "_law_slope", "_law_bottom", "_law_shares", "_law_whole_here", "_law_turns", "_law_carried", "_law_k", "_law_way", "_law_share", "_law_one"] (defScope sPiece) { kind := .function, names := [(".0", .local), ("_law_share", .local), ("_law_plus", .globalImplicit), ("_law_times", .globalImplicit), ("_law_low", .free), ("_law_whole_here", .free), ("_law_width", .free)], isGenerator := false, isCoroutine := false, more := [] } [("_law_share", 12)] := ⟨rfl, by decide +kernel, by decide +kernel, by decide +kernel, by decide +kernel⟩
theorem blk_scPiece_1 : BlkOk ["_law_store_here", "_law_slot", "_law_low", "_law_width", "_law_slope", "_law_bottom", "_law_shares", "_law_whole_here", "_law_turns", "_law_carried", "_law_k", "_law_way", "_law_share", "_law_one"] (defScope sPiece) { kind := .function, names := [(".0", .local), ("_law_one", .local), ("_law_slot", .free)], isGenerator := false, isCoroutine := false, more := [] } [("_law_one", 13)] := ⟨rfl, by decide +kernel, by decide +kernel, by decide +kernel, by decide +kernel⟩
theorem k_Piece {C : Addr} (m_carried : C8.Met P w K mg base 5 C "carried" (spCarried K C) []) (T : Bt K mg) (D : Dfn K mg "_law_piece_holds" sPiece ["_law_store_here", "_law_slot", "_law_low", "_law_width", "_law_slope"]) (d__law_take : Kn P w K mg base 2 "_law_take" ["_law_store_here", "_law_many"] (spTake K)) (d__law_lowest : Kn P w K mg base 2 "_law_lowest" ["_law_top", "_law_bottom"] (spLowest K)) (d__law_range : Kn P w K mg base 3 "_law_range" ["_law_store_here", "_law_low", "_law_high"] (spRange K)) (d__law_whole : Kn P w K mg base 3 "_law_whole" ["_law_store_here", "_law_reach"] (spLInt K)) (d__law_plus : Kn P w K mg base 3 "_law_plus" ["_law_left", "_law_right"] (spBin K sum2)) (d__law_minus : Kn P w K mg base 3 "_law_minus" ["_law_left", "_law_right"] (spBin K dif2)) (d__law_times : Kn P w K mg base 3 "_law_times" ["_law_left", "_law_right"] (spBin K pro2)) (d__law_is_fracs : Kn P w K mg base 3 "_law_is_fracs" ["_law_told"] (spLFracs K)) : Kn P w K mg base 6 "_law_piece_holds" ["_law_store_here", "_law_slot", "_law_low", "_law_width", "_law_slope"] (spPiece K C) := by
  refine Kn.mk' D scPiece (fun vs H Q E h => ?_) (fun f cdv A outer s H vs Q E hr h => ?_)
  · obtain ⟨s, c, lo, wd, sl, ks, n, i, k, k', qlo, qwd, qsl, rfl, _⟩ := h
    rfl
  obtain ⟨s, c, lo, wd, sl, ks, n, i, k, k', qlo, qwd, qsl, rfl, hS, hc, g, l8, hn, hn2, e1, e2, flo, elo, fwd, ewd, fsl, esl, q⟩ := h
  refine ⟨_, (pss_cons (ps_set (i := 5) scPiece.nd rfl (.inl rfl) (pe_op op_add pe_int (pe_kn d__law_take hr (by rfl) (pa_cons (pv 0) (pa_cons pe_int pa_nil)))))
      (pss_cons (ps_set (i := 6) scPiece.nd rfl (.inl rfl) (pe_ls (pa_cons (pe_kn d__law_lowest hr (by rfl) (pa_cons (pe_kn d__law_range hr (by rfl) (pa_cons (pv 0) (pa_cons pe_int (pa_cons (pv 5) pa_nil)))) (pa_cons (pv 5) pa_nil))) (pa_cons (pe_kn d__law_lowest hr (by rfl) (pa_cons (pe_kn d__law_range hr (by rfl) (pa_cons (pv 0) (pa_cons pe_int (pa_cons (pv 5) pa_nil)))) (pa_cons (pv 5) pa_nil))) pa_nil))))
      (pss_cons (ps_set (i := 7) scPiece.nd rfl (.inr rfl) (pe_tp (pa_cons (pe_kn d__law_whole hr (by rfl) (pa_cons (pv 0) (pa_cons (pe_ix ix_any (pe_ls (pa_cons pe_int (pa_cons (pe_op op_pow pe_int pe_int) pa_nil))) (pe_kn d__law_take hr (by rfl) (pa_cons (pv 0) (pa_cons pe_int pa_nil))) (fun _ _ => rfl)) pa_nil))) (pa_cons pe_int pa_nil))))
      (pss_cons (ps_setLcF (i := 8) (own := [("_law_share", 12)]) (g := gName 12) (te := (tCall (spBin K sum2) [] E0 (tCons (tVar 7) (tCons (tCall (spBin K sum2) [] E0 (tCons (tVar 2) (tCons (tCall (spBin K pro2) [] E0 (tCons (tVar 12) (tCons (tVar 3) L2.tNil))) L2.tNil))) L2.tNil)))) rfl scPiece.nd rfl rfl (sw_true rfl rfl rfl rfl) (pi_list (pe_fr (pe_op op_cat (pv 6) (pe_ls (pa_cons (pe_tp (pa_cons pe_int (pa_cons pe_int pa_nil))) (pa_cons (pe_tp (pa_cons pe_int (pa_cons pe_int pa_nil))) pa_nil)))))) blk_scPiece_0 (fun _ _ _ _ _ => by exact pg_name (i := 12) scPiece.nd rfl (.inl rfl)) (fun _ _ _ _ _ => pts_nil) (fun _ _ _ _ _ => by exact (pe_kn d__law_plus hr (by rfl) (pa_cons (pv 7) (pa_cons (pe_kn d__law_plus hr (by rfl) (pa_cons (pv 2) (pa_cons (pe_kn d__law_times hr (by rfl) (pa_cons (pv 12) (pa_cons (pv 3) pa_nil))) pa_nil))) pa_nil)))))
      (pss_cons (ps_setLcF (i := 9) (own := [("_law_one", 13)]) (g := gName 13) (te := (tMeth C "carried" (spCarried K C) [] C8.E0 (tVar 1) (tCons (tVar 13) L2.tNil))) rfl scPiece.nd rfl rfl (sw_true rfl rfl rfl rfl) (pi_list (pv 8)) blk_scPiece_1 (fun _ _ _ _ _ => by exact pg_name (i := 13) scPiece.nd rfl (.inl rfl)) (fun _ _ _ _ _ => pts_nil) (fun _ _ _ _ _ => by exact (C8.pe_mt m_carried hr (by omega) (pv 1) (pa_cons (pv 13) pa_nil))))
      (pss_cons (ps_if (pt_not (pt_val (pe_kn d__law_is_fracs hr (by rfl) (pa_cons (pv 9) pa_nil)))) (pss_one (ps_ret pe_bl)) pss_nil)
      (pss_cons (ps_for PassesOwn.never rfl (pi_range1 (by rfl) T.b_range (pa_cons pe_int pa_nil)) (pg_name (i := 10) scPiece.nd rfl (.inl rfl)) (pss_cons (ps_set (i := 11) scPiece.nd rfl (.inl rfl) (pe_kn d__law_minus hr (by rfl) (pa_cons (pe_ix ix_any (pv 8) (pe_op op_add (pv 10) pe_int) (fun _ _ => rfl)) (pa_cons (pe_ix ix_any (pv 8) (pv 10) (fun _ _ => rfl)) pa_nil))))
      (pss_one (ps_if (pt_cmpR (op_neF hr) (pe_kn d__law_minus hr (by rfl) (pa_cons (pe_ix ix_any (pv 9) (pe_op op_add (pv 10) pe_int) (fun _ _ => rfl)) (pa_cons (pe_ix ix_any (pv 9) (pv 10) (fun _ _ => rfl)) pa_nil))) (pe_kn d__law_times hr (by rfl) (pa_cons (pv 4) (pa_cons (pv 11) pa_nil))) (nomark _)) (pss_one (ps_ret pe_bl)) pss_nil))))
      (pss_one (ps_ret pe_bl))))))))), ?_⟩
  have wp : 0 < qv qwd := by
    have := g.asc i k k' e1 e2
    grind
  refine ⟨_, rfl, s, 12, rfl, hS, by omega, fun b H1 b0 b1 kp1 st1 => ⟨_, _, rfl, rfl, ?_⟩⟩
  have e8 : 2 ^ 10 ≤ 2 ^ 8000 := Nat.pow_le_pow_right (by omega) (by omega)
  refine ⟨_, rfl, _, rfl, s, 0, 1 + b, rfl, st1, by omega, by omega, fun r2 H2 c0 c1 _ kp2 st2 => ⟨_, rfl, _, _, rfl, by omega, fun z2 hz2 a2 H3 s3 o3 => ?_⟩⟩
  obtain ⟨nz2, ez2⟩ := lw_qv hz2 (by omega)
  have fz2 : Fq K H3 5 a2 z2 := ⟨o3, nz2, is_sz (by omega) (hz2.2 (by omega)) (by omega) (by omega)⟩
  have sh2 : Shr K H3 (.ref a2) := ⟨a2, z2, rfl, fz2, by rw [ez2]; exact rat_unit (by omega) (by omega) (by omega)⟩
  have st3 := st2.same s3
  have kp3 := kp1.trans (kp2.trans (Kp.same s3))
  refine ⟨_, rfl, _, rfl, s, 0, 1 + b, rfl, st3, by omega, by omega, fun r4 H4 d0 d1 _ kp4 st4 => ⟨_, rfl, _, _, rfl, by omega, fun z5 hz5 a5 H5 s5 o5 => ?_⟩⟩
  obtain ⟨nz5, ez5⟩ := lw_qv hz5 (by omega)
  have fz5 : Fq K H5 5 a5 z5 := ⟨o5, nz5, is_sz (by omega) (hz5.2 (by omega)) (by omega) (by omega)⟩
  have sh5 : Shr K H5 (.ref a5) := ⟨a5, z5, rfl, fz5, by rw [ez5]; exact rat_unit (by omega) (by omega) (by omega)⟩
  have sh2' := (sh2.kps kp4 st3).same s5
  have st5 := st4.same s5
  have kp5 := kp3.trans (kp4.trans (Kp.same s5))
  clear sh2 fz2 kp3 kp4 st3 st4 s5 o5 s3 o3 kp2 st2 kp1 st1 fz5 hz2 hz5
  refine ⟨sz2 (by show 2 ≤ 100; decide), fun pl hpl kpl => ?_⟩
  have sL := Same.new hpl (.lst [.ref a2, .ref a5])
  have hl : upd H5 pl (.lst [.ref a2, .ref a5]) pl = some (.lst [.ref a2, .ref a5]) := upd_same
  have sh2 := sh2'.same sL
  have sh5 := sh5.same sL
  have st6 := st5.same sL
  have kp6 := kp5.trans (Kp.same sL)
  have npl : pl ≠ s := st5.ne' hpl
  generalize upd H5 pl (.lst [.ref a2, .ref a5]) = H6 at sL hl sh2 sh5 st6 kp6 ⊢
  clear sL sh2' st5 kp5 hpl
  refine ⟨_, rfl, _, _, rfl, rfl, ?_⟩
  show CPow 10 30 ∧ _
  refine ⟨?_, ?_⟩
  · exact ⟨by decide, by decide⟩
  refine ⟨sz2 (by show 2 ≤ 100; decide), fun pw hpw kpw => ?_⟩
  have hw : upd H6 pw (.lst [.int 3, (fun (i j : Int) => V.int (i ^ j.toNat)) 10 30]) pw = some (.lst [.int 3, .int (10 ^ 30)]) := upd_same
  have sW := Same.new hpw (.lst [.int 3, (fun (i j : Int) => V.int (i ^ j.toNat)) 10 30])
  have npw := st6.ne' hpw
  have st7 := st6.same sW
  generalize upd H6 pw (.lst [.int 3, (fun (i j : Int) => V.int (i ^ j.toNat)) 10 30]) = H7 at hw sW st7 ⊢
  refine ⟨_, rfl, s, 2, rfl, st7, by omega, fun j H8 j0 j1 kp8 st8 => ?_⟩
  obtain ⟨r, er, r1, r3⟩ : ∃ r : Int, atI [V.int 3, .int (10 ^ 30)] j = some (.int r) ∧ 1 ≤ r ∧ r ≤ 10 ^ 30 := by
    obtain rfl | rfl : j = 0 ∨ j = 1 := by omega
    · exact ⟨3, atI_0 _ _, by omega, by omega⟩
    · exact ⟨10 ^ 30, atI_1 _ _ _, by omega, by omega⟩
  refine ⟨pw, j, rfl, rfl, _, itsO_ofL ((ob_none kpw).trans (kp8 _ _ npw hw)), _, er, s, r, rfl, st8, r1, by omega, fun w H9 w0 w1 kp9 st9 => ⟨sz2 (by show 2 ≤ 100; decide), fun pq hpq kpq => ?_⟩⟩
  have sQ := Same.new hpq (.tup [.int w, .int 1])
  have oq := ob_new (H := H9) (o := .tup [.int w, .int 1]) kpq
  have kpX := (Kp.same sW).trans (kp8.trans (kp9.trans (Kp.same sQ)))
  have hl9 := kpX _ _ npl hl
  have sh2 := sh2.kps kpX st6
  have sh5 := sh5.kps kpX st6
  have kpA := kp6.trans kpX
  have stA := st9.same sQ
  generalize upd H9 pq (.tup [.int w, .int 1]) = HA at oq kpX hl9 sh2 sh5 kpA stA ⊢
  have fw : Fq K HA 101 pq (w, 1) := ⟨oq, nf_int w, ⟨by show w.natAbs < 2 ^ 101; omega, by show 1 < 2 ^ 101; omega⟩⟩
  have hcA := hc.kps kpA hS
  have floA := flo.kps kpA hS
  have fwdA := fwd.kps kpA hS
  have fslA := fsl.kps kpA hS
  clear sW hw st7 kp8 st8 kp9 st9 sQ hpq kpX hl st6 kp6 hpw oq
  refine ⟨_, rfl, sz2 (by show 2 ≤ 100; decide), fun p1 h1 k1' => ⟨sz2 (by show 2 ≤ 100; decide), fun p2 h2 k2' => ⟨sz2 (by show 2 ≤ 100; decide), fun p3 h3 k3' => ?_⟩⟩⟩
  have t1 := Same.new h1 (.tup [.int 0, .int 1])
  have o1 := ob_new (H := HA) (o := .tup [.int 0, .int 1]) k1'
  generalize upd HA p1 (.tup [.int 0, .int 1]) = G1 at t1 o1 h2 h3 ⊢
  have t2 := Same.new h2 (.tup [.int 1, .int 1])
  have o2 := ob_new (H := G1) (o := .tup [.int 1, .int 1]) k2'
  generalize upd G1 p2 (.tup [.int 1, .int 1]) = G2 at t2 o2 h3 ⊢
  have t3 := Same.new h3 (.lst [.ref p1, .ref p2])
  have l3 : upd G2 p3 (.lst [.ref p1, .ref p2]) p3 = some (.lst [.ref p1, .ref p2]) := upd_same
  generalize upd G2 p3 (.lst [.ref p1, .ref p2]) = G3 at t3 l3 ⊢
  have t123 := t1.trans (t2.trans t3)
  refine ⟨pl, p3, _, _, rfl, rfl, t123 _ _ hl9, l3, by show 4 ≤ sizeLine; exact sz2 (by omega), fun p4 h4 fr4 => ?_⟩
  have t4 := Same.new h4 (.lst ([.ref a2, .ref a5] ++ [.ref p1, .ref p2]))
  have l4 : upd G3 p4 (.lst ([.ref a2, .ref a5] ++ [.ref p1, .ref p2])) p4 = some (.lst [.ref a2, .ref a5, .ref p1, .ref p2]) := upd_same
  have t14 := t123.trans t4
  have o1 := ob_same (t2.trans (t3.trans t4)) o1
  have o2 := ob_same (t3.trans t4) o2
  generalize upd G3 p4 (.lst ([.ref a2, .ref a5] ++ [.ref p1, .ref p2])) = HB at t4 l4 t14 o1 o2 ⊢
  have shs : ∀ x ∈ [V.ref a2, .ref a5, .ref p1, .ref p2], Shr K HB x := by
    intro x hx
    simp only [List.mem_cons, List.not_mem_nil, or_false] at hx
    rcases hx with rfl | rfl | rfl | rfl
    · exact sh2.same t14
    · exact sh5.same t14
    · exact ⟨p1, (0, 1), rfl, ⟨o1, nf01, by decide, by decide⟩, by rw [qv01]; grind, by rw [qv01]; grind⟩
    · exact ⟨p2, (1, 1), rfl, ⟨o2, nf11, by decide, by decide⟩, by rw [qv11]; grind, by rw [qv11]; grind⟩
  have hcB := hcA.same t14
  have floB := floA.same t14
  have fwdB := fwdA.same t14
  have fslB := fslA.same t14
  have fwB := fw.same t14
  have stB := stA.same t14
  have kpB := kpA.trans (Kp.same t14)
  clear t1 t2 t3 t4 t123 l3 h1 h2 h3 h4 o1 o2 sh2 sh5 hl9 t14
  refine ⟨p4, rfl, ⟨_, .of l4⟩, fun D hD => lc_list (xs := [V.ref a2, .ref a5, .ref p1, .ref p2]) (fun i H' => ∃ (acc : List V) (zs : List Qt), H' D = some (.lst acc) ∧ acc.length = i ∧ zs.length = i ∧ Same HB H' ∧ ∀ (j : Nat) x z, acc[j]? = some x → zs[j]? = some z → Trn K H' k k' w x z) ⟨[], [], upd_same, rfl, rfl, Same.new hD _, fun j x z e => (by simp at e)⟩ (fun i H' _ ⟨_, _, _, _, _, h, _⟩ => .of (h _ _ l4)) ?_ ?_⟩
  · rintro m x H' hx ⟨acc, zs, ha, la, lz, sB, tr⟩
    obtain ⟨ax, zx, rfl, fx, x0, x1⟩ := (shs x (List.mem_of_getElem? hx)).same sB
    refine ⟨rfl, ?_⟩
    simp only [tYes, if_true]
    refine ⟨_, rfl, _, rfl, _, rfl, _, rfl, av_pro fx (fwdB.same sB) fun y y1 H2 ey s2 fy => av_sum (floB.same (sB.trans s2)) fy fun v v1 H3 ev s3 fv => av_sum (fwB.same (sB.trans (s2.trans s3))) fv fun t t1 H4 et s4 ft => ?_⟩
    have s24 := s2.trans (s3.trans s4)
    have ml := (List.getElem?_eq_some_iff.mp hx).1
    have ml : m < 4 := ml
    have ha4 := s24 _ _ ha
    refine ⟨acc, ha4, by rw [sizeLine_eq]; omega, acc ++ [.ref t1], zs ++ [t], upd_same, by rw [List.length_append, la]; rfl, by rw [List.length_append, lz]; rfl, fun b o e => ?_, two_snoc (R := fun _ x z => Trn K H' k k' w x z) (R' := fun _ x z => Trn K (upd H4 D (.lst (acc ++ [.ref t1]))) k k' w x z) (by omega) tr (fun _ _ _ h => (h.same s24).put ha4) ?_⟩
    · rw [upd_ne (ne_of_none e hD)]
      exact s24 _ _ (sB _ _ e)
    · refine Trn.put (H := H4) ⟨t1, rfl, ft.mono (by omega), qv qlo + qv zx * qv qwd, ?_, ?_, ?_⟩ ha4
      · rw [et, ev, ey, qv_int]
      · have := (rat_share x0 x1 (Rat.le_of_lt wp)).1
        rw [elo]
        grind
      · have := (rat_share x0 x1 (Rat.le_of_lt wp)).2
        rw [elo]
        grind
  · rintro H' ⟨acc, zs, ha, la, lz, sB, tr⟩ frD
    have la : acc.length = 4 := la
    have lz : zs.length = 4 := lz
    have kD : K.lookup D = none := frD D (by rw [ha]; simp)
    have oD : ob K H' D = some (.lst acc) := (ob_none kD).trans ha
    have hcC := hcB.same sB
    refine ⟨_, rfl, D, rfl, ⟨acc, .of ha⟩, fun D2 hD2 => lc_list (xs := acc) (fun i H2 => ∃ (cs : List V) (ys : List Qt), H2 D2 = some (.lst cs) ∧ cs.length = i ∧ ys.length = i ∧ Same H' H2 ∧ ∀ (j : Nat) x y, cs[j]? = some x → ys[j]? = some y → ∃ b z, x = .ref b ∧ Fq K H2 3000 b y ∧ zs[j]? = some z ∧ Lin k k' w z y) ⟨[], [], upd_same, rfl, rfl, Same.new hD2 _, fun j x z e => (by simp at e)⟩ (fun i H2 _ ⟨_, _, _, _, _, h, _⟩ => .of (h _ _ ha)) ?_ ?_⟩
    · rintro m x H2 hx ⟨cs, ys, hb, lb, ly, sC, cr⟩
      have ml := (List.getElem?_eq_some_iff.mp hx).1
      have hz : zs[m]? = some zs[m] := List.getElem?_eq_getElem (by omega)
      obtain ⟨at', rfl, ft, u, eu, u0, u1⟩ := tr m x _ hx hz
      refine ⟨rfl, ?_⟩
      simp only [tYes, if_true]
      have hc2 := hcC.same sC
      obtain ⟨dx, tt, xs, hi, _, _⟩ := hc2
      refine ⟨_, rfl, c, dx, _, rfl, hi, rfl, _, rfl, c, at', ks, n, 550, _, rfl, hcC.same sC, g, l8, hn, hn2, ft.same sC, by omega, fun y yb H3 s3 fy car => ?_⟩
      have hb3 := s3 _ _ hb
      have lin := car_lin g ft.nf car e1 e2 eu u0 u1
      refine ⟨cs, hb3, by rw [sizeLine_eq]; omega, cs ++ [.ref yb], ys ++ [y], upd_same, by rw [List.length_append, lb]; rfl, by rw [List.length_append, ly]; rfl, fun b o e => ?_, two_snoc (R := fun j x y => ∃ b z, x = .ref b ∧ Fq K H2 3000 b y ∧ zs[j]? = some z ∧ Lin k k' w z y) (by omega) cr (fun j a b ⟨q1, q2, q3, q4, q5, q6⟩ => ⟨q1, q2, q3, (q4.same s3).put hb3, q5, q6⟩) ⟨yb, _, rfl, (fy.mono (by omega)).put hb3, by rw [lb]; exact hz, ?_⟩⟩
      · rw [upd_ne (ne_of_none e hD2)]
        exact s3 _ _ (sC _ _ e)
      · unfold Lin
        rw [lin, eu]
        grind
    · rintro H2 ⟨cs, ys, hb, lb, ly, sC, cr⟩ frD2
      rw [la] at lb ly
      have kD2 : K.lookup D2 = none := frD2 D2 (by rw [hb]; simp)
      have oD2 : ob K H2 D2 = some (.lst cs) := (ob_none kD2).trans hb
      refine ⟨_, rfl, D2, cs, rfl, hb, kD2, fun x hx => ?_, ?_⟩
      · obtain ⟨i', hi', ei'⟩ := List.getElem_of_mem hx
        have ey : ys[i']? = some ys[i'] := List.getElem?_eq_getElem (by omega)
        obtain ⟨b', z', e', f', _⟩ := cr i' x _ (by rw [List.getElem?_eq_getElem hi', ei']) ey
        exact ⟨b', _, e', f'.mono (by omega)⟩
      refine ⟨_, rfl, if_no rfl ?_⟩
      have kpD := kpB.trans (Kp.same (sB.trans sC))
      have stD := stB.same (sB.trans sC)
      have oD' := ob_same sC oD
      have trD : ∀ (j : Nat) x z, acc[j]? = some x → zs[j]? = some z → Trn K H2 k k' w x z := fun j x z a b => (tr j x z a b).same sC
      have fslD := fslB.same (sB.trans sC)
      simp only [cx_K, decide_true, decide_false, reduceCtorEq, gTp, gCons, gNil, ca_0, ca_1, ca_2, ca_3, ca_4, ca_5, ca_6, ca_7, ca_8, ca_9, ca_10, ca_11, ca_12, ca_13, ca_14, ca_15, ca_16, ca_17, ca_18, ca_19, ca_20, ca_21, ca_22, ca_23, ca_24, ca_25, ca_26, ca_27, ca_28, ca_29, ca_30, not_true_eq_false, not_false_eq_true, Int.reduceEq, Nat.reduceEqDiff, Nat.reduceLeDiff, rGcd, V.ty.injEq, eq_self, List.not_mem_nil, beq_self_eq_true, HO.lst.injEq, HO.tup.injEq, tFor_eq, iRng1, iList, iTup, nat10, tSeq, rIxA, rSetA, rIsN, rIsT, tTp, tLs, itsO_tup, itsO_lst, tyO_tup, tyO_lst, tyO_dK, tyN_non, tyN_bl, tyN_int, tyN_str, tyN_ref, tyNs_lt, isB, upd_same, upd_upd, sizeLine_eq, List.mem_cons, String.reduceBEq, String.reduceEq, Bool.or_false, Bool.or_true, Bool.and_false, Bool.false_or, Bool.and_self, Bool.false_and, Bool.not_false, Bool.not_true, List.any_cons, List.any_nil, atI_0, setI_0, atI_1, setI_1, atI_2, setI_2, atI_3, setI_3, atI_4, setI_4, atI_5, setI_5, atI_6, setI_6, tAsg, gName, tOp, tUn, tVar, tC, tCons, L2.tNil, tRet, tIfS, tTest, tCB, tCall, rI, rI0, rU, tNext, tB, tAnd, tOr, tNot, tAndV, tOrV, tNotV, tDrop, tIf, tPar, gSub, rIxL, rIxT, rEq, rNe, rSetL, tBits,
    L2.start, List.map_cons, List.map_nil, List.cons_append, List.nil_append, List.append_nil, List.length_cons, List.length_nil, List.replicate, Nat.reduceAdd, Nat.reduceSub, Nat.zero_add, List.getElem?_cons_zero, List.getElem?_cons_succ, List.set_cons_zero, List.set_cons_succ,
    Option.some.injEq, exists_eq_left', exists_eq_left, V.int.injEq, V.bl.injEq, V.ref.injEq, V.str.injEq, List.cons.injEq, reduceCtorEq, and_true, true_and, false_and, and_false, exists_false, or_false, false_or, or_true, true_or, exists_const, CMul, CDiv, CPow, and_assoc, exists_and_left, exists_and_right, Int.reducePow, Int.reduceNeg, Int.reduceLT, Int.reduceLE, Nat.reducePow, Nat.reduceLT, Int.reduceToNat, gt_iff_lt, ge_iff_le, decide_eq_true_eq, Bool.not_eq_true', decide_eq_false_iff_not, scal, ↓reduceIte, Bool.false_eq_true]
      refine forI_range (lo := 0) (n := 3) (fun i σ H' => ∃ x10 x11, σ = [some (V.ref s), some (V.ref c), some (V.ref lo), some (V.ref wd), some (V.ref sl), some (V.int (1 + b)), some (V.ref pl), some (V.ref pq), some (V.ref D), some (V.ref D2), x10, x11, none, none] ∧ Same H2 H') ⟨none, none, rfl, Same.refl _⟩ ?_ ?_
      · rintro m σ H3 hm ⟨x10, x11, rfl, s3⟩
        have g1 : acc[m]? = some acc[m] := List.getElem?_eq_getElem (by omega)
        have g2 : acc[m + 1]? = some acc[m + 1] := List.getElem?_eq_getElem (by omega)
        have g3 : zs[m]? = some zs[m] := List.getElem?_eq_getElem (by omega)
        have g4 : zs[m + 1]? = some zs[m + 1] := List.getElem?_eq_getElem (by omega)
        have g5 : cs[m]? = some cs[m] := List.getElem?_eq_getElem (by omega)
        have g6 : cs[m + 1]? = some cs[m + 1] := List.getElem?_eq_getElem (by omega)
        have g7 : ys[m]? = some ys[m] := List.getElem?_eq_getElem (by omega)
        have g8 : ys[m + 1]? = some ys[m + 1] := List.getElem?_eq_getElem (by omega)
        obtain ⟨ta, ea, fa, _⟩ := trD _ _ _ g1 g3
        obtain ⟨tb, eb, fb, _⟩ := trD _ _ _ g2 g4
        obtain ⟨ca, za, eca, fca, hza, la'⟩ := cr _ _ _ g5 g7
        obtain ⟨cb, zb, ecb, fcb, hzb, lb'⟩ := cr _ _ _ g6 g8
        rw [g3] at hza
        cases hza
        rw [g4] at hzb
        cases hzb
        rw [ea] at g1
        rw [eb] at g2
        rw [eca] at g5
        rw [ecb] at g6
        have i0 : ∀ {xs : List V} {x : V}, xs[m]? = some x → atI xs (0 + (m : Int)) = some x := fun e => by
          rw [show (0 + (m : Int)) = ((m : Nat) : Int) by omega]
          exact atI_nat e
        have i1 : ∀ {xs : List V} {x : V}, xs[m + 1]? = some x → atI xs (0 + (m : Int) + 1) = some x := fun e => by
          rw [show (0 + (m : Int) + 1) = ((m + 1 : Nat) : Int) by omega]
          exact atI_nat e
        have oA := ob_same s3 oD'
        refine ⟨_, rfl, _, rfl, _, _, rfl, rfl, D, _, rfl, rfl, _, itsO_ofL oA, _, i1 g2, _, rfl, _, rfl, D, _, rfl, rfl, _, itsO_ofL oA, _, i0 g1, av_dif (fb.same s3) (fa.same s3) fun wy wa H4 ew s4 fw' => ?_⟩
        have s34 := s3.trans s4
        have oB := ob_same s34 oD2
        refine ⟨_, rfl, _, rfl, _, _, rfl, rfl, D2, _, rfl, rfl, _, itsO_ofL oB, _, i1 g6, _, rfl, _, rfl, D2, _, rfl, rfl, _, itsO_ofL oB, _, i0 g5, av_dif (fcb.same s34) (fca.same s34) fun d da H5 ed s5 fd => ?_⟩
        refine ⟨_, rfl, _, rfl, av_pro (fslD.same (s34.trans s5)) (fw'.same s5) fun e ea' H6 ee s6 fe => ?_⟩
        have eq : d = e := qv_inj fd.nf fe.nf (by
          unfold Lin at la' lb'
          rw [ed, ee, ew, esl, la', lb']
          grind)
        refine ⟨da, ea', d, e, rfl, rfl, ob_same s6 fd.o, fe.o, _, rfl, if_no (by rw [decide_eq_true eq]; rfl) ?_⟩
        exact ⟨_, _, rfl, s34.trans (s5.trans s6)⟩
      · rintro σ H3 ⟨x10, x11, rfl, s3⟩
        exact q H3 (kpD.trans (Kp.same s3)) (stD.same s3)

end
end My

namespace My
open PySem PySem.Spec PyProof.Rows L2
section
variable {P : Program} {w : World} {K : PySem.W.Frag} {mg : Str → Option Value} {base : Heap}
theorem eqv_tup {H : Hp} {a b : Addr} {xs : List V} (oa : ob K H a = some (.tup xs)) (ob' : ob K H b = some (.tup xs)) (hs : xs.all scv = true) (hl : xs.length ≤ 1000) : Eqv K H 1 (.ref a) (.ref b) := by
  refine .inr ⟨a, b, xs, xs, rfl, rfl, .inl ⟨oa, ob'⟩, rfl, hl, fun i x y hx hy => ?_⟩
  rw [hx] at hy
  cases hy
  exact ⟨rfl, List.all_eq_true.mp hs x (List.mem_of_getElem? hx)⟩
theorem eqv_fr1 {H : Hp} {a b : Addr} {p : Qt} (oa : ob K H a = some (.tup [.int p.1, .int p.2])) (ob' : ob K H b = some (.tup [.int p.1, .int p.2])) : Eqv K H 1 (.ref a) (.ref b) := eqv_tup (xs := [.int p.1, .int p.2]) oa ob' rfl (by show 2 ≤ 1000; decide)
/-- two lists of the same fractions -/
theorem eqv_frs {H : Hp} {a b : Addr} {xs ys : List V} (oa : ob K H a = some (.lst xs)) (ob' : ob K H b = some (.lst ys)) (hl : xs.length = ys.length) (h8 : xs.length ≤ 1000) (h : ∀ (i : Nat) x y, xs[i]? = some x → ys[i]? = some y → ∃ c d p n m, x = .ref c ∧ y = .ref d ∧ Fq K H n c p ∧ Fq K H m d p) : Eqv K H 2 (.ref a) (.ref b) := by
  refine .inr ⟨a, b, xs, ys, rfl, rfl, .inr ⟨oa, ob'⟩, hl, by omega, fun i x y hx hy => ?_⟩
  obtain ⟨c, d, p, n, m, rfl, rfl, f1, f2⟩ := h i x y hx hy
  exact eqv_fr1 f1.o f2.o
theorem slp_uni {ks : List Kt} {j : Nat} {y z : Qt} (h1 : Slp ks j y) (h2 : Slp ks j z) : y = z := by
  obtain ⟨n1, k, k', a1, a2, e1⟩ := h1
  obtain ⟨n2, l, l', b1, b2, e2⟩ := h2
  rw [a1] at b1
  rw [a2] at b2
  cases b1
  cases b2
  exact qv_inj n1 n2 (by rw [e1, e2])
theorem ext_eq {ks : List Kt} (g : Good ks) : ∃ k0, ks[0]? = some k0 ∧ ext ks = ks ++ [((1, 1), k0.2)] := by
  match ks, g with
  | x :: r, g => exact ⟨x, rfl, rfl⟩
  | [], g => exact absurd g.one (by decide)
theorem Kts.app {H : Hp} {n : Nat} {x : V} {k : Kt} {xs : List V} {ks : List Kt} (h : Kts K H n xs ks) (hk : Ka K H n x k) : Kts K H n (xs ++ [x]) (ks ++ [k]) := ⟨by rw [List.length_append, List.length_append, h.1]; rfl, two_snoc (R := fun _ x k => Ka K H n x k) (R' := fun _ x k => Ka K H n x k) h.1 h.2 (fun _ _ _ z => z) hk⟩
theorem Kts.put {H : Hp} {n : Nat} {D : Addr} {xs ys : List V} {ks : List Kt} {o : HO} (h : Kts K H n xs ks) (hD : H D = some (.lst ys)) : Kts K (upd H D o) n xs ks := ⟨h.1, fun i x k a b => (h.2 i x k a b).put hD⟩
theorem SlL.put {H : Hp} {n : Nat} {D : Addr} {acc ys : List V} {ks : List Kt} {o : HO} (h : SlL K H n acc ks) (hD : H D = some (.lst ys)) : SlL K (upd H D o) n acc ks := fun j x e => by
  obtain ⟨a, z, e1, f, g⟩ := h j x e
  exact ⟨a, z, e1, f.put hD, g⟩
theorem ob_lput {H : Hp} {a D : Addr} {xs ys : List V} {o : HO} (h : ob K H a = some (.tup xs)) (hD : H D = some (.lst ys)) : ob K (upd H D o) a = some (.tup xs) := by
  unfold ob at h ⊢
  split
  · rename_i z e
    rw [e] at h
    exact h
  · rename_i e
    rw [e] at h
    rw [upd_ne (fun z => by rw [z, hD] at h; cases h)]
    exact h
theorem SlAt.put {C : Addr} {H : Hp} {n : Nat} {c D : Addr} {ys : List V} {ks : List Kt} {o : HO} (h : SlAt K C n H c ks) (hD : H D = some (.lst ys)) : SlAt K C n (upd H D o) c ks := by
  obtain ⟨dx, t, xs, a, b, d⟩ := h
  exact ⟨dx, t, xs, by rw [upd_ne (fun z => by rw [z, hD] at a; cases a)]; exact a, ob_lput b hD, d.put hD⟩
theorem tot_sz {a b c z : Qt} {n : Nat} (ha : Nf a) (hb : Nf b) (hc : Nf c) (hz : Nf z) (sa : Sz n a) (sb : Sz n b) (sc : Sz n c) (e : qv z = qv a + qv b - qv c) : Sz (3 * n + 3) z := by
  have hd : a.2 * b.2 * c.2 ≠ 0 := Int.mul_ne_zero (Int.mul_ne_zero ha.ne hb.ne) hc.ne
  have a' : (a.2 : Rat) ≠ 0 := by have := pos2 ha; grind
  have b' : (b.2 : Rat) ≠ 0 := by have := pos2 hb; grind
  have c' : (c.2 : Rat) ≠ 0 := by have := pos2 hc; grind
  have h : Is z ((a.1 * b.2 + b.1 * a.2) * c.2 - c.1 * (a.2 * b.2)) (a.2 * b.2 * c.2) := is_qv hz hd (by
    rw [e]
    unfold qv
    push_cast
    grind)
  have q1 : (a.1 * b.2 + b.1 * a.2).natAbs < 2 ^ (2 * n + 1) := szAdd (szMul sa.1 sb.2) (szMul sb.1 sa.2) (by omega) (by omega)
  refine is_sz hd h (szSub (szMul q1 sc.2) (szMul sc.1 (szMul sa.2 sb.2)) (by omega) (by omega)) (szMono (szMul (szMul sa.2 sb.2) sc.2) (by omega))
def spHold (K : PySem.W.Frag) (C : Addr) : Sp := fun vs H Q _ => ∃ (s c kl : Addr) (xs : List V) (ks : List Kt) (n : Nat), vs = [.ref s, .ref c, .ref kl] ∧ Sto K H s ∧ SlAt K C n H c ks ∧ Good ks ∧ ks.length ≤ 8 ∧ 1 ≤ n ∧ n ≤ 140 ∧ H kl = some (.lst xs) ∧ K.lookup kl = none ∧ kl ≠ s ∧ Kts K H n xs ks ∧ ∀ H', Kp s H H' → Sto K H' s → Q (.bl true) H'
def HoI (K : PySem.W.Frag) (s c kl told kept ends : Addr) (n : Nat) (ks : List Kt) (k0 : Kt) (H0 : Hp) (i : Nat) (σ : L2.St) (H' : Hp) : Prop := ∃ (tot : Addr) (qt : Qt) (x7 x8 x9 x10 x11 x12 : Option V),
  σ = [some (.ref s), some (.ref c), some (.ref kl), some (.ref told), some (.ref kept), some (.ref ends), some (.ref tot), x7, x8, x9, x10, x11, x12] ∧ Fq K H' (3 * n + 3) tot qt ∧ (∀ e, (ext ks)[i]? = some e → qv qt = qv e.1 + qv e.2 - qv k0.2) ∧ Kp s H0 H' ∧ Sto K H' s
abbrev sHold : Stmt := topS 54
theorem scHold : FnScope ["_law_store_here", "_law_slot", "_law_knots_here", "_law_told", "_law_kept", "_law_ends", "_law_total", "_law_k", "_law_low", "_law_start", "_law_high", "_law_stop", "_law_width"] ["_law_store_here", "_law_slot", "_law_knots_here"] (defScope sHold) := ⟨rfl, rfl, rfl, by decide +kernel, rfl, by decide +kernel, by decide +kernel⟩
theorem k_Hold {C : Addr} (m_slopes : C8.Met P w K mg base 5 C "slopes" (spSlopes K C) []) (T : Bt K mg) (D : Dfn K mg "_law_slopes_hold" sHold ["_law_store_here", "_law_slot", "_law_knots_here"]) (d__law_is_fracs : Kn P w K mg base 3 "_law_is_fracs" ["_law_told"] (spLFracs K)) (d__law_minus : Kn P w K mg base 3 "_law_minus" ["_law_left", "_law_right"] (spBin K dif2)) (d__law_times : Kn P w K mg base 3 "_law_times" ["_law_left", "_law_right"] (spBin K pro2)) (d__law_plus : Kn P w K mg base 3 "_law_plus" ["_law_left", "_law_right"] (spBin K sum2)) (d__law_piece_holds : Kn P w K mg base 6 "_law_piece_holds" ["_law_store_here", "_law_slot", "_law_low", "_law_width", "_law_slope"] (spPiece K C)) (d__law_same : Kn P w K mg base 4 "_law_same" ["_law_told", "_law_due"] (spSame K 3)) : Kn P w K mg base 7 "_law_slopes_hold" ["_law_store_here", "_law_slot", "_law_knots_here"] (spHold K C) := by
  refine Kn.mk' D scHold (fun vs H Q E h => ?_) (fun f cdv A outer s H vs Q E hr h => ?_)
  · obtain ⟨s, c, kl, xs, ks, n, rfl, _⟩ := h
    rfl
  obtain ⟨s, c, kl, xs, ks, n, rfl, hS, hc, g, l8, hn, hn2, hk, kk, nk, kt, q⟩ := h
  refine ⟨_, (pss_cons (ps_set (i := 3) scHold.nd rfl (.inl rfl) (C8.pe_mt0 m_slopes hr (by omega) (pv 1)))
      (pss_cons (ps_if (PW.pt (pw_or (pt_not (pt_val (pe_kn d__law_is_fracs hr (by rfl) (pa_cons (pv 3) pa_nil)))) (pw_or1 (pt_cmpR op_ne (pe_callB call_lenA (by rfl) T.b_len PySem.boot_len (pa_cons (pv 3) pa_nil)) (pe_callB call_lenA (by rfl) T.b_len PySem.boot_len (pa_cons (pv 2) pa_nil)) (nomark _))))) (pss_one (ps_ret pe_bl)) pss_nil)
      (pss_cons (ps_set (i := 4) scHold.nd rfl (.inl rfl) (pe_fr (pe_callTy call_list_of (by rfl) T.b_list (by decide +kernel) (pa_cons (pv 3) pa_nil))))
      (pss_cons (ps_set (i := 5) scHold.nd rfl (.inl rfl) (pe_fr (pe_op op_cat (pv 2) (pe_ls (pa_cons (pe_tp (pa_cons (pe_tp (pa_cons pe_int (pa_cons pe_int pa_nil))) (pa_cons (pe_ix ix_any (pe_ix ix_any (pv 2) pe_int (fun _ _ => rfl)) pe_int (fun _ _ => rfl)) pa_nil))) pa_nil)))))
      (pss_cons (ps_set (i := 6) scHold.nd rfl (.inl rfl) (pe_tp (pa_cons pe_int (pa_cons pe_int pa_nil))))
      (pss_cons (ps_for PassesOwn.never rfl (pi_range1 (by rfl) T.b_range (pa_cons (pe_callB call_lenA (by rfl) T.b_len PySem.boot_len (pa_cons (pv 2) pa_nil)) pa_nil)) (pg_name (i := 7) scHold.nd rfl (.inl rfl)) (pss_cons (ps_asg (pe_ix ix_any (pv 5) (pv 7) (fun _ _ => rfl)) (pg_tp 2 (by rfl) (pgs_cons (pg_name (i := 8) scHold.nd rfl (.inl rfl)) (pgs_cons (pg_name (i := 9) scHold.nd rfl (.inl rfl)) pgs_nil))))
      (pss_cons (ps_asg (pe_ix ix_any (pv 5) (pe_op op_add (pv 7) pe_int) (fun _ _ => rfl)) (pg_tp 2 (by rfl) (pgs_cons (pg_name (i := 10) scHold.nd rfl (.inl rfl)) (pgs_cons (pg_name (i := 11) scHold.nd rfl (.inl rfl)) pgs_nil))))
      (pss_cons (ps_set (i := 12) scHold.nd rfl (.inl rfl) (pe_kn d__law_minus hr (by rfl) (pa_cons (pv 10) (pa_cons (pv 8) pa_nil))))
      (pss_cons (ps_if (pt_cmpR (op_neF hr) (pe_kn d__law_times hr (by rfl) (pa_cons (pe_kn d__law_minus hr (by rfl) (pa_cons (pe_ix ix_any (pv 4) (pv 7) (fun _ _ => rfl)) (pa_cons (pe_tp (pa_cons pe_int (pa_cons pe_int pa_nil))) pa_nil))) (pa_cons (pv 12) pa_nil))) (pe_kn d__law_minus hr (by rfl) (pa_cons (pv 11) (pa_cons (pv 9) pa_nil))) (nomark _)) (pss_one (ps_ret pe_bl)) pss_nil)
      (pss_cons (ps_set (i := 6) scHold.nd rfl (.inl rfl) (pe_kn d__law_plus hr (by rfl) (pa_cons (pv 6) (pa_cons (pe_kn d__law_times hr (by rfl) (pa_cons (pe_ix ix_any (pv 4) (pv 7) (fun _ _ => rfl)) (pa_cons (pv 12) pa_nil))) pa_nil))))
      (pss_one (ps_if (pt_not (pt_val (pe_kn d__law_piece_holds hr (by rfl) (pa_cons (pv 0) (pa_cons (pv 1) (pa_cons (pv 8) (pa_cons (pv 12) (pa_cons (pe_ix ix_any (pv 4) (pv 7) (fun _ _ => rfl)) pa_nil)))))))) (pss_one (ps_ret pe_bl)) pss_nil))))))))
      (pss_cons (ps_expr (pe_bm0 PySem.F.plainAttrs_list PySem.F.slot_list_reverse PySem.F.type_list_reverse mt_reverse (pv 3)))
      (pss_cons (ps_expr (pe_bm0 PySem.F.plainAttrs_list PySem.F.slot_list_pop PySem.F.type_list_pop mt_pop (pv 3)))
      (pss_one (ps_ret (pe_and (pe_cmpR (op_eqF hr) (pv 6) (pe_tp (pa_cons pe_int (pa_cons pe_int pa_nil))) (nomark _)) (pe_one (pe_kn d__law_same hr (by rfl) (pa_cons (C8.pe_mt0 m_slopes hr (by omega) (pv 1)) (pa_cons (pv 4) pa_nil))))))))))))))), ?_⟩
  have hc' := hc
  obtain ⟨dx, tt, us, hi, _, _⟩ := hc'
  refine ⟨_, rfl, c, dx, _, rfl, hi, rfl, c, ks, n, rfl, hc, g, l8, hn, by omega, fun told acc H1 hT kT h1 s1 la sl => ?_⟩
  have h8 := kt.1
  refine ⟨_, rfl, told, acc, rfl, h1, kT, fun x hx => ?_, ?_⟩
  · obtain ⟨i', hi', ei'⟩ := List.getElem_of_mem hx
    obtain ⟨a, z, e, f, _⟩ := sl i' x (by rw [List.getElem?_eq_getElem hi', ei'])
    exact ⟨a, z, e, f.mono (by omega)⟩
  refine ⟨_, rfl, _, rfl, told, rfl, acc, itsO_ofL ((ob_none kT).trans h1), _, rfl, kl, rfl, xs, itsO_ofL ((ob_none kk).trans (s1 _ _ hk)), ?_⟩
  refine ⟨rfl, _, rfl, if_no (by simp [la, h8]) ?_⟩
  refine ⟨_, rfl, told, acc, rfl, .inl (.of h1), fun kept hK frK => ?_⟩
  have s2 := Same.new hK (.lst acc)
  have kK : K.lookup kept = none := frK kept (by rw [upd_same]; simp)
  have h2 : upd H1 kept (.lst acc) kept = some (.lst acc) := upd_same
  generalize upd H1 kept (.lst acc) = H2 at s2 h2 ⊢
  have s12 := s1.trans s2
  obtain ⟨k0, ek0, eext⟩ := ext_eq g
  obtain ⟨x0, hx0, t0, a0, b0, rfl, ot0, fa0, fb0⟩ := kt.get ek0
  have ei : atI xs 0 = some (.ref t0) := by
    match xs, hx0 with
    | y :: r, h => cases h; exact atI_0 _ _
  refine ⟨_, rfl, sz2 (by show 2 ≤ 100; decide), fun p1 hp1 kp1 => ?_⟩
  have s3 := Same.new hp1 (.tup [.int 1, .int 1])
  have o1 := ob_new (H := H2) (o := .tup [.int 1, .int 1]) kp1
  generalize upd H2 p1 (.tup [.int 1, .int 1]) = H3 at s3 o1 ⊢
  have s13 := s12.trans s3
  refine ⟨_, rfl, kl, 0, rfl, rfl, _, itsO_ofL ((ob_none kk).trans (s13 _ _ hk)), _, ei, t0, 1, rfl, rfl, _, itsO_of (ob_same s13 ot0), _, atI_1 _ _ _, sz2 (by show 2 ≤ 100; decide), fun p2 hp2 kp2 => ⟨sz2 (by show 1 ≤ 100; decide), fun p3 hp3 kp3 => ?_⟩⟩
  have s4 := Same.new hp2 (.tup [.ref p1, .ref b0])
  have o2 := ob_new (H := H3) (o := .tup [.ref p1, .ref b0]) kp2
  generalize upd H3 p2 (.tup [.ref p1, .ref b0]) = H4 at s4 o2 hp3 ⊢
  have s5 := Same.new hp3 (.lst [.ref p2])
  have h5 : upd H4 p3 (.lst [.ref p2]) p3 = some (.lst [.ref p2]) := upd_same
  generalize upd H4 p3 (.lst [.ref p2]) = H5 at s5 h5 ⊢
  have s15 := s13.trans (s4.trans s5)
  refine ⟨kl, p3, xs, _, rfl, rfl, s15 _ _ hk, h5, by show xs.length + 1 ≤ sizeLine; rw [sizeLine_eq]; omega, fun ends hE frE => ?_⟩
  have s6 := Same.new hE (.lst (xs ++ [.ref p2]))
  have h6 : upd H5 ends (.lst (xs ++ [.ref p2])) ends = some (.lst (xs ++ [.ref p2])) := upd_same
  have kE : K.lookup ends = none := frE ends (by rw [upd_same]; simp)
  have o1 := ob_same (s4.trans (s5.trans s6)) o1
  have o2 := ob_same (s5.trans s6) o2
  have s16 := s15.trans s6
  have h26 := (s3.trans (s4.trans (s5.trans s6))) _ _ h2
  have s26 := s2.trans (s3.trans (s4.trans (s5.trans s6)))
  generalize upd H5 ends (.lst (xs ++ [.ref p2])) = H6 at s6 h6 o1 o2 s16 h26 s26 ⊢
  have kE6 : Kts K H6 n (xs ++ [.ref p2]) (ext ks) := by
    rw [eext]
    exact (kt.same s16).app ⟨p2, p1, b0, rfl, o2, ⟨o1, nf11, sz11 hn⟩, fb0.same s16⟩
  clear s13 s15 s6 s5 s4 s3 h2 h5 hp1 hp2 hp3 hE s12 s2
  refine ⟨sz2 (by show 2 ≤ 100; decide), fun pt hpt kpt => ?_⟩
  have s7 := Same.new hpt (.tup [.int 0, .int 1])
  have o7 := ob_new (H := H6) (o := .tup [.int 0, .int 1]) kpt
  have h67 := s7 _ _ h6
  have h27 := s7 _ _ h26
  have s17 := s16.trans s7
  have s27 := s26.trans s7
  have kE7 := kE6.same s7
  generalize upd H6 pt (.tup [.int 0, .int 1]) = H7 at s7 o7 h67 h27 s17 s27 kE7 ⊢
  clear s7 s16 h6 h26 kE6 hpt s26
  have st7 := hS.same s17
  have nT : told ≠ s := hS.ne' hT
  have nK : kept ≠ s := (hS.same s1).ne' hK
  have nE : ends ≠ s := fun z => by
    rw [z] at h67
    obtain ⟨sc, ns, i1, i2, i3, i4, i5, i6, r1, _⟩ := st7
    rw [h67] at r1
    have e0 : (xs ++ [V.ref p2])[1]? = some (.int i1) := by
      have := Option.some.inj r1
      rw [HO.lst.inj this]
      rfl
    obtain ⟨k1, _, t', a', b', e1, _⟩ := kE7.at e0
    cases e1
  have oK7 : ob K H7 kept = some (.lst acc) := (ob_none kK).trans h27
  refine ⟨_, rfl, kl, rfl, xs, itsO_ofL ((ob_none kk).trans (s17 _ _ hk)), _, rfl, by omega, by omega, ?_⟩
  refine forI_range (lo := 0) (n := xs.length) (HoI K s c kl told kept ends n ks k0 H7) ⟨pt, (0, 1), none, none, none, none, none, none, rfl, ⟨o7, nf01, sz01 (by omega)⟩, fun e he => ?_, Kp.refl _ _, st7⟩ ?_ ?_
  · obtain ⟨k0', e0', _, ee, z0⟩ := ext_last g
    rw [ek0] at e0'
    cases e0'
    rw [ee] at he
    cases he
    rw [z0, qv01]
    grind
  · rintro m σ H' hm ⟨tot, qt, x7, x8, x9, x10, x11, x12, rfl, ftot, ev, kp, st⟩
    obtain ⟨e, e1⟩ := ext_ex (ks := ks) (i := m) (by omega)
    obtain ⟨e', e2⟩ := ext_ex (ks := ks) (i := m + 1) (by omega)
    have asc := g.asc m e e' e1 e2
    have ktm := kE7.kps kp st7
    obtain ⟨v, hv, tv, va, vb, rfl, otv, fva, fvb⟩ := ktm.get e1
    obtain ⟨u, hu, tu, ua, ub, rfl, otu, fua, fub⟩ := ktm.get e2
    have ga : acc[m]? = some acc[m] := List.getElem?_eq_getElem (by omega)
    obtain ⟨sa, zs, esa, fsa, nz, q1, q2, b1, b2, esl⟩ := ((sl.same s27).kps kp st7) m _ ga
    rw [e1] at b1
    rw [e2] at b2
    cases b1
    cases b2
    rw [esa] at ga
    have oE := (ob_none kE).trans (kp _ _ nE h67)
    have oK := (ob_none kK).trans (kp _ _ nK h27)
    have hcm := (hc.same s17).kps kp st7
    have i0 : ∀ {xs : List V} {x : V}, xs[m]? = some x → atI xs (0 + (m : Int)) = some x := fun e => by
      rw [show (0 + (m : Int)) = ((m : Nat) : Int) by omega]
      exact atI_nat e
    have i1 : ∀ {xs : List V} {x : V}, xs[m + 1]? = some x → atI xs (0 + (m : Int) + 1) = some x := fun e => by
      rw [show (0 + (m : Int) + 1) = ((m + 1 : Nat) : Int) by omega]
      exact atI_nat e
    refine ⟨_, rfl, _, rfl, ends, _, rfl, rfl, _, itsO_ofL oE, _, i0 hv, tv, rfl, _, otv, rfl, _, _, rfl, _, _, rfl, rfl, ?_⟩
    refine ⟨_, rfl, _, rfl, _, _, rfl, rfl, ends, _, rfl, rfl, _, itsO_ofL oE, _, i1 hu, tu, rfl, _, otu, rfl, _, _, rfl, _, _, rfl, rfl, ?_⟩
    refine ⟨_, rfl, _, rfl, av_dif fua fva fun wd wa G1 ew r1 fw => ?_⟩
    refine ⟨_, rfl, _, rfl, kept, _, rfl, rfl, _, itsO_ofL (ob_same r1 oK), _, i0 ga, sz2 (by show 2 ≤ 100; decide), fun po hpo kpo => ?_⟩
    have r2 := Same.new hpo (.tup [.int 1, .int 1])
    have oo := ob_new (H := G1) (o := .tup [.int 1, .int 1]) kpo
    generalize upd G1 po (.tup [.int 1, .int 1]) = G2 at r2 oo ⊢
    have r12 := r1.trans r2
    refine av_dif (fsa.same r12) (⟨oo, nf11, sz11 (Nat.le_refl 1)⟩ : Fq K G2 1 po (1, 1)) fun d1 da G3 ed1 r3 fd1 => ?_
    refine ⟨_, rfl, av_pro fd1 (fw.same (r2.trans r3)) fun d2 db G4 ed2 r4 fd2 => ?_⟩
    have r14 := r12.trans (r3.trans r4)
    refine ⟨_, rfl, _, rfl, av_dif (fub.same r14) (fvb.same r14) fun d3 dc G5 ed3 r5 fd3 => ?_⟩
    have eqd : d2 = d3 := qv_inj fd2.nf fd3.nf (by
      rw [ed2, ed3, ed1, ew, esl, qv11]
      unfold slp
      have : qv e'.1 - qv e.1 ≠ 0 := by grind
      grind)
    refine ⟨db, dc, d2, d3, rfl, rfl, ob_same r5 fd2.o, fd3.o, _, rfl, if_no (by rw [decide_eq_true eqd]; rfl) ?_⟩
    have r15 := r14.trans r5
    refine ⟨_, rfl, _, rfl, _, rfl, kept, _, rfl, rfl, _, itsO_ofL (ob_same r15 oK), _, i0 ga, _, rfl, av_pro (fsa.same r15) (fw.same (r2.trans (r3.trans (r4.trans r5)))) fun d4 dd G6 ed4 r6 fd4 => ?_⟩
    have r16 := r15.trans r6
    refine av_sum (ftot.same r16) fd4 fun d5 de G7 ed5 r7 fd5 => ?_
    have r17 := r16.trans r7
    have eval5 : qv d5 = qv e'.1 + qv e'.2 - qv k0.2 := by
      rw [ed5, ed4, ev e e1, ew, esl]
      unfold slp
      have : qv e'.1 - qv e.1 ≠ 0 := by grind
      grind
    have stn := st.same r17
    refine ⟨_, rfl, _, rfl, _, rfl, _, rfl, _, rfl, _, rfl, kept, _, rfl, rfl, _, itsO_ofL (ob_same r17 oK), _, i0 ga, s, c, va, wa, sa, ks, n, m, e, e', e.1, wd, zs, rfl, stn, hcm.same r17, g, l8, hn, hn2, e1, e2, (fva.same r17).mono (by omega), rfl, ((fw.same (r2.trans (r3.trans (r4.trans (r5.trans (r6.trans r7)))))).mono (by omega)), ew, (fsa.same r17).mono (by omega), esl, fun G8 kp8 st8 => ⟨_, rfl, if_no rfl ?_⟩⟩
    refine ⟨de, d5, _, _, _, _, _, _, rfl, (Fq.mk fd5.o fd5.nf (tot_sz fua.nf fub.nf (fb0.nf) fd5.nf fua.sz fub.sz fb0.sz eval5)).kps kp8 stn, fun e3 he3 => ?_, (kp.trans (Kp.same r17)).trans kp8, st8⟩
    rw [e2] at he3
    cases he3
    exact eval5
  · rintro σ H' ⟨tot, qt, x7, x8, x9, x10, x11, x12, rfl, ftot, ev, kp, st⟩
    obtain ⟨k0', e0', el, _, _⟩ := ext_last g
    rw [ek0] at e0'
    cases e0'
    have eq1 : qt = (1, 1) := qv_inj ftot.nf nf11 (by
      rw [ev _ (by rw [h8]; exact el), qv11]
      grind)
    have hT' := kp _ _ nT (s27 _ _ h1)
    have ntk : told ≠ kept := ne_of_none h1 hK
    have hK' := kp _ _ nK h27
    have kpH := (Kp.same s17).trans kp
    have hcE := (hc.same s17).kps kp st7
    have slE := (sl.same s27).kps kp st7
    refine ⟨_, rfl, .inl ⟨rfl, _, .of hT'⟩, told, acc, rfl, rfl, hT', ?_⟩
    obtain ⟨m1, m2⟩ := hS.mut (o := .lst acc.reverse) hT kpH st
    have hTA : upd H' told (.lst acc.reverse) told = some (.lst acc.reverse) := upd_same
    have hKA : upd H' told (.lst acc.reverse) kept = some (.lst acc) := by
      rw [upd_ne (Ne.symm ntk)]
      exact hK'
    have ftA := ftot.put (o := .lst acc.reverse) hT'
    have hcA := hcE.put (o := .lst acc.reverse) hT'
    have slA := slE.put (o := .lst acc.reverse) hT'
    generalize upd H' told (.lst acc.reverse) = HA at m1 m2 hTA hKA ftA hcA slA ⊢
    have g1 := g.one
    have lr : acc.reverse.length - 1 < acc.reverse.length := by rw [List.length_reverse]; omega
    refine ⟨_, rfl, .inl ⟨rfl, _, .of hTA⟩, told, acc.reverse, _, rfl, rfl, hTA, List.getElem?_eq_getElem lr, ?_⟩
    obtain ⟨m3, m4⟩ := hS.mut (o := .lst acc.reverse.dropLast) hT m2 m1
    have hKB : upd HA told (.lst acc.reverse.dropLast) kept = some (.lst acc) := by
      rw [upd_ne (Ne.symm ntk)]
      exact hKA
    have ftB := ftA.put (o := .lst acc.reverse.dropLast) hTA
    have hcB := hcA.put (o := .lst acc.reverse.dropLast) hTA
    have slB := slA.put (o := .lst acc.reverse.dropLast) hTA
    generalize upd HA told (.lst acc.reverse.dropLast) = HB at m3 m4 hKB ftB hcB slB ⊢
    refine ⟨_, rfl, sz2 (by show 2 ≤ 100; decide), fun po hpo kpo => ?_⟩
    have r1 := Same.new hpo (.tup [.int 1, .int 1])
    have oo := ob_new (H := HB) (o := .tup [.int 1, .int 1]) kpo
    generalize upd HB po (.tup [.int 1, .int 1]) = HC at r1 oo ⊢
    refine ⟨tot, po, qt, (1, 1), rfl, rfl, ob_same r1 ftB.o, oo, _, rfl, if_yes (decide_eq_true eq1) ?_⟩
    have hcC := hcB.same r1
    have hcC' := hcC
    obtain ⟨dx2, tt2, us2, hi2, _, _⟩ := hcC'
    refine ⟨_, rfl, c, dx2, _, rfl, hi2, rfl, c, ks, n, rfl, hcC, g, l8, hn, by omega, fun l2 acc2 H2' hl2 kl2 h2' r2 la2 sl2 => ?_⟩
    have r12 := r1.trans r2
    refine ⟨_, rfl, _, _, rfl, eqv_frs ((ob_none kl2).trans h2') ((ob_none kK).trans (r12 _ _ hKB)) (by omega) (by omega) fun i x y ex ey => ?_, fun H9 r9 => q H9 (m4.trans (Kp.same (r12.trans r9))) (m3.same (r12.trans r9))⟩
    obtain ⟨a1, z1, rfl, f1, p1'⟩ := sl2 i x ex
    obtain ⟨a2, z2, rfl, f2, p2'⟩ := (slB.same r12) i y ey
    obtain rfl := slp_uni p1' p2'
    exact ⟨a1, a2, z1, _, _, rfl, rfl, f1, f2⟩

end
end My

namespace My
open PySem PySem.Spec PyProof.Rows L2
section
variable {P : Program} {w : World} {K : PySem.W.Frag} {mg : Str → Option Value} {base : Heap}
def spFitsI : Sp := fun vs H Q _ => ∃ n : Int, vs = [.int n] ∧ ∀ b H', Same H H' → Q (.bl b) H'
def spFitsT (K : PySem.W.Frag) : Sp := fun vs H Q _ => ∃ (a : Addr) (x y : Int), vs = [.ref a] ∧ ob K H a = some (.tup [.int x, .int y]) ∧ ∀ b H', Same H H' → Q (.bl b) H'
def FitsI (a : Addr) (H : Hp) (_ : Nat) (σ : L2.St) (H' : Hp) : Prop := ∃ z, σ = [some (.ref a), z] ∧ Same H H'

abbrev sFits : Stmt := topS 45
theorem scFits : FnScope ["_law_thing", "_law_item"] ["_law_thing"] (defScope sFits) := ⟨rfl, rfl, rfl, by decide +kernel, rfl, by decide +kernel, by decide +kernel⟩
theorem k_Fits (T : Bt K mg) (D : Dfn K mg "_law_fits" sFits ["_law_thing"]) (d__law_fits : Kn P w K mg base 0 "_law_fits" ["_law_thing"] (fun _ _ _ _ => False)) : Kn P w K mg base 1 "_law_fits" ["_law_thing"] spFitsI := by
  refine Kn.mk' D scFits (fun vs H Q E h => ?_) (fun f cdv A outer s H vs Q E hr h => ?_)
  · obtain ⟨n, rfl, _⟩ := h
    rfl
  obtain ⟨n, rfl, k⟩ := h
  refine ⟨_, (pss_cons (ps_if (pt_val (pe_callB call_isT (by rfl) T.b_isinstance (by decide +kernel) (pa_cons (pv 0) (pa_cons (pe_tp (pa_cons (pe_bltn (v := .ty "list") (by rfl) T.b_list (by decide +kernel) rfl) (pa_cons (pe_bltn (v := .ty "tuple") (by rfl) T.b_tuple (by decide +kernel) rfl) pa_nil))) pa_nil)))) (pss_cons (ps_for PassesOwn.never rfl (pi_tup (pv 0)) (pg_name (i := 1) scFits.nd rfl (.inl rfl)) (pss_one (ps_if (pt_not (pt_val (pe_kn d__law_fits hr (by rfl) (pa_cons (pv 1) pa_nil)))) (pss_one (ps_ret pe_bl)) pss_nil)))
      (pss_one (ps_ret pe_bl))) pss_nil)
      (pss_one (ps_ret (pe_or (pe_not (pe_callB call_isN (by rfl) T.b_isinstance (by decide +kernel) (pa_cons (pv 0) (pa_cons (pe_bltn (v := .ty "int") (by rfl) T.b_int (by decide +kernel) rfl) pa_nil)))) (pe_one (pe_cmpR op_lt (pe_callB call_abs (by rfl) T.b_abs (by decide +kernel) (pa_cons (pv 0) pa_nil)) (pe_op op_pow pe_int pe_int) (nomark _))))))), ?_⟩
  simp only [cx_K, decide_true, decide_false, reduceCtorEq, gTp, gCons, gNil, ca_0, ca_1, ca_2, ca_3, ca_4, ca_5, ca_6, ca_7, ca_8, ca_9, ca_10, ca_11, ca_12, ca_13, ca_14, ca_15, ca_16, ca_17, ca_18, ca_19, ca_20, ca_21, ca_22, ca_23, ca_24, ca_25, ca_26, ca_27, ca_28, ca_29, ca_30, not_true_eq_false, not_false_eq_true, Int.reduceEq, Nat.reduceEqDiff, Nat.reduceLeDiff, rGcd, V.ty.injEq, eq_self, List.not_mem_nil, beq_self_eq_true, HO.lst.injEq, HO.tup.injEq, tFor_eq, iRng1, iList, iTup, nat10, tSeq, rIxA, rSetA, rIsN, rIsT, tTp, tLs, itsO_tup, itsO_lst, tyO_tup, tyO_lst, tyO_dK, tyN_non, tyN_bl, tyN_int, tyN_str, tyN_ref, tyNs_lt, isB, upd_same, upd_upd, sizeLine_eq, List.mem_cons, String.reduceBEq, String.reduceEq, Bool.or_false, Bool.or_true, Bool.and_false, Bool.false_or, Bool.and_self, Bool.false_and, Bool.not_false, Bool.not_true, List.any_cons, List.any_nil, atI_0, setI_0, atI_1, setI_1, atI_2, setI_2, atI_3, setI_3, atI_4, setI_4, atI_5, setI_5, atI_6, setI_6, tAsg, gName, tOp, tUn, tVar, tC, tCons, L2.tNil, tRet, tIfS, tTest, tCB, tCall, rI, rI0, rU, tNext, tB, tAnd, tOr, tNot, tAndV, tOrV, tNotV, tDrop, tIf, tPar, gSub, rIxL, rIxT, rEq, rNe, rSetL, tBits,
    L2.start, List.map_cons, List.map_nil, List.cons_append, List.nil_append, List.append_nil, List.length_cons, List.length_nil, List.replicate, Nat.reduceAdd, Nat.reduceSub, Nat.zero_add, List.getElem?_cons_zero, List.getElem?_cons_succ, List.set_cons_zero, List.set_cons_succ,
    Option.some.injEq, exists_eq_left', exists_eq_left, V.int.injEq, V.bl.injEq, V.ref.injEq, V.str.injEq, List.cons.injEq, reduceCtorEq, and_true, true_and, false_and, and_false, exists_false, or_false, false_or, or_true, true_or, exists_const, CMul, CDiv, CPow, and_assoc, exists_and_left, exists_and_right, Int.reducePow, Int.reduceNeg, Int.reduceLT, Int.reduceLE, Nat.reducePow, Nat.reduceLT, Int.reduceToNat, gt_iff_lt, ge_iff_le, decide_eq_true_eq, Bool.not_eq_true', decide_eq_false_iff_not, scal, ↓reduceIte, Bool.false_eq_true]
  intro p hp kp
  have s1 := Same.new hp (.tup [V.ty "list", V.ty "tuple"])
  generalize upd H p (.tup [V.ty "list", V.ty "tuple"]) = H1 at s1 ⊢
  exact k _ H1 s1
theorem k_Fits2 (T : Bt K mg) (D : Dfn K mg "_law_fits" sFits ["_law_thing"]) (d__law_fits : Kn P w K mg base 1 "_law_fits" ["_law_thing"] spFitsI) : Kn P w K mg base 2 "_law_fits" ["_law_thing"] (spFitsT K) := by
  refine Kn.mk' D scFits (fun vs H Q E h => ?_) (fun f cdv A outer s H vs Q E hr h => ?_)
  · obtain ⟨a, x, y, rfl, _⟩ := h
    rfl
  obtain ⟨a, x, y, rfl, oa, k⟩ := h
  refine ⟨_, (pss_cons (ps_if (pt_val (pe_callB call_isT (by rfl) T.b_isinstance (by decide +kernel) (pa_cons (pv 0) (pa_cons (pe_tp (pa_cons (pe_bltn (v := .ty "list") (by rfl) T.b_list (by decide +kernel) rfl) (pa_cons (pe_bltn (v := .ty "tuple") (by rfl) T.b_tuple (by decide +kernel) rfl) pa_nil))) pa_nil)))) (pss_cons (ps_for PassesOwn.never rfl (pi_tup (pv 0)) (pg_name (i := 1) scFits.nd rfl (.inl rfl)) (pss_one (ps_if (pt_not (pt_val (pe_kn d__law_fits hr (by rfl) (pa_cons (pv 1) pa_nil)))) (pss_one (ps_ret pe_bl)) pss_nil)))
      (pss_one (ps_ret pe_bl))) pss_nil)
      (pss_one (ps_ret (pe_or (pe_not (pe_callB call_isN (by rfl) T.b_isinstance (by decide +kernel) (pa_cons (pv 0) (pa_cons (pe_bltn (v := .ty "int") (by rfl) T.b_int (by decide +kernel) rfl) pa_nil)))) (pe_one (pe_cmpR op_lt (pe_callB call_abs (by rfl) T.b_abs (by decide +kernel) (pa_cons (pv 0) pa_nil)) (pe_op op_pow pe_int pe_int) (nomark _))))))), ?_⟩
  simp only [oa, cx_K, decide_true, decide_false, reduceCtorEq, gTp, gCons, gNil, ca_0, ca_1, ca_2, ca_3, ca_4, ca_5, ca_6, ca_7, ca_8, ca_9, ca_10, ca_11, ca_12, ca_13, ca_14, ca_15, ca_16, ca_17, ca_18, ca_19, ca_20, ca_21, ca_22, ca_23, ca_24, ca_25, ca_26, ca_27, ca_28, ca_29, ca_30, not_true_eq_false, not_false_eq_true, Int.reduceEq, Nat.reduceEqDiff, Nat.reduceLeDiff, rGcd, V.ty.injEq, eq_self, List.not_mem_nil, beq_self_eq_true, HO.lst.injEq, HO.tup.injEq, tFor_eq, iRng1, iList, iTup, nat10, tSeq, rIxA, rSetA, rIsN, rIsT, tTp, tLs, itsO_tup, itsO_lst, tyO_tup, tyO_lst, tyO_dK, tyN_non, tyN_bl, tyN_int, tyN_str, tyN_ref, tyNs_lt, isB, upd_same, upd_upd, sizeLine_eq, List.mem_cons, String.reduceBEq, String.reduceEq, Bool.or_false, Bool.or_true, Bool.and_false, Bool.false_or, Bool.and_self, Bool.false_and, Bool.not_false, Bool.not_true, List.any_cons, List.any_nil, atI_0, setI_0, atI_1, setI_1, atI_2, setI_2, atI_3, setI_3, atI_4, setI_4, atI_5, setI_5, atI_6, setI_6, tAsg, gName, tOp, tUn, tVar, tC, tCons, L2.tNil, tRet, tIfS, tTest, tCB, tCall, rI, rI0, rU, tNext, tB, tAnd, tOr, tNot, tAndV, tOrV, tNotV, tDrop, tIf, tPar, gSub, rIxL, rIxT, rEq, rNe, rSetL, tBits,
    L2.start, List.map_cons, List.map_nil, List.cons_append, List.nil_append, List.append_nil, List.length_cons, List.length_nil, List.replicate, Nat.reduceAdd, Nat.reduceSub, Nat.zero_add, List.getElem?_cons_zero, List.getElem?_cons_succ, List.set_cons_zero, List.set_cons_succ,
    Option.some.injEq, exists_eq_left', exists_eq_left, V.int.injEq, V.bl.injEq, V.ref.injEq, V.str.injEq, List.cons.injEq, reduceCtorEq, and_true, true_and, false_and, and_false, exists_false, or_false, false_or, or_true, true_or, exists_const, CMul, CDiv, CPow, and_assoc, exists_and_left, exists_and_right, Int.reducePow, Int.reduceNeg, Int.reduceLT, Int.reduceLE, Nat.reducePow, Nat.reduceLT, Int.reduceToNat, gt_iff_lt, ge_iff_le, decide_eq_true_eq, Bool.not_eq_true', decide_eq_false_iff_not, scal, ↓reduceIte, Bool.false_eq_true]
  intro p hp kp
  have s1 := Same.new hp (.tup [V.ty "list", V.ty "tuple"])
  generalize upd H p (.tup [V.ty "list", V.ty "tuple"]) = H1 at s1 ⊢
  have oa1 := ob_same s1 oa
  simp only [oa1, cx_K, decide_true, decide_false, reduceCtorEq, gTp, gCons, gNil, ca_0, ca_1, ca_2, ca_3, ca_4, ca_5, ca_6, ca_7, ca_8, ca_9, ca_10, ca_11, ca_12, ca_13, ca_14, ca_15, ca_16, ca_17, ca_18, ca_19, ca_20, ca_21, ca_22, ca_23, ca_24, ca_25, ca_26, ca_27, ca_28, ca_29, ca_30, not_true_eq_false, not_false_eq_true, Int.reduceEq, Nat.reduceEqDiff, Nat.reduceLeDiff, rGcd, V.ty.injEq, eq_self, List.not_mem_nil, beq_self_eq_true, HO.lst.injEq, HO.tup.injEq, tFor_eq, iRng1, iList, iTup, nat10, tSeq, rIxA, rSetA, rIsN, rIsT, tTp, tLs, itsO_tup, itsO_lst, tyO_tup, tyO_lst, tyO_dK, tyN_non, tyN_bl, tyN_int, tyN_str, tyN_ref, tyNs_lt, isB, upd_same, upd_upd, sizeLine_eq, List.mem_cons, String.reduceBEq, String.reduceEq, Bool.or_false, Bool.or_true, Bool.and_false, Bool.false_or, Bool.and_self, Bool.false_and, Bool.not_false, Bool.not_true, List.any_cons, List.any_nil, atI_0, setI_0, atI_1, setI_1, atI_2, setI_2, atI_3, setI_3, atI_4, setI_4, atI_5, setI_5, atI_6, setI_6, tAsg, gName, tOp, tUn, tVar, tC, tCons, L2.tNil, tRet, tIfS, tTest, tCB, tCall, rI, rI0, rU, tNext, tB, tAnd, tOr, tNot, tAndV, tOrV, tNotV, tDrop, tIf, tPar, gSub, rIxL, rIxT, rEq, rNe, rSetL, tBits,
    L2.start, List.map_cons, List.map_nil, List.cons_append, List.nil_append, List.append_nil, List.length_cons, List.length_nil, List.replicate, Nat.reduceAdd, Nat.reduceSub, Nat.zero_add, List.getElem?_cons_zero, List.getElem?_cons_succ, List.set_cons_zero, List.set_cons_succ,
    Option.some.injEq, exists_eq_left', exists_eq_left, V.int.injEq, V.bl.injEq, V.ref.injEq, V.str.injEq, List.cons.injEq, reduceCtorEq, and_true, true_and, false_and, and_false, exists_false, or_false, false_or, or_true, true_or, exists_const, CMul, CDiv, CPow, and_assoc, exists_and_left, exists_and_right, Int.reducePow, Int.reduceNeg, Int.reduceLT, Int.reduceLE, Nat.reducePow, Nat.reduceLT, Int.reduceToNat, gt_iff_lt, ge_iff_le, decide_eq_true_eq, Bool.not_eq_true', decide_eq_false_iff_not, scal, ↓reduceIte, Bool.false_eq_true]
  refine ⟨⟨_, ob_tup oa1⟩, forI_tup (xs := [.int x, .int y]) (FitsI a H) ⟨none, rfl, s1⟩ ?_ ?_ ?_⟩
  · rintro i σ H' _ ⟨z, rfl, s2⟩
    exact ob_tup (ob_same s2 oa)
  · rintro i v σ H' hi ⟨z, rfl, s2⟩
    obtain ⟨n, rfl⟩ : ∃ n : Int, v = .int n := by
      have hv := List.mem_of_getElem? hi
      simp only [List.mem_cons, List.not_mem_nil, or_false] at hv
      rcases hv with rfl | rfl <;> exact ⟨_, rfl⟩
    simp only [cx_K, decide_true, decide_false, reduceCtorEq, gTp, gCons, gNil, ca_0, ca_1, ca_2, ca_3, ca_4, ca_5, ca_6, ca_7, ca_8, ca_9, ca_10, ca_11, ca_12, ca_13, ca_14, ca_15, ca_16, ca_17, ca_18, ca_19, ca_20, ca_21, ca_22, ca_23, ca_24, ca_25, ca_26, ca_27, ca_28, ca_29, ca_30, not_true_eq_false, not_false_eq_true, Int.reduceEq, Nat.reduceEqDiff, Nat.reduceLeDiff, rGcd, V.ty.injEq, eq_self, List.not_mem_nil, beq_self_eq_true, HO.lst.injEq, HO.tup.injEq, tFor_eq, iRng1, iList, iTup, nat10, tSeq, rIxA, rSetA, rIsN, rIsT, tTp, tLs, itsO_tup, itsO_lst, tyO_tup, tyO_lst, tyO_dK, tyN_non, tyN_bl, tyN_int, tyN_str, tyN_ref, tyNs_lt, isB, upd_same, upd_upd, sizeLine_eq, List.mem_cons, String.reduceBEq, String.reduceEq, Bool.or_false, Bool.or_true, Bool.and_false, Bool.false_or, Bool.and_self, Bool.false_and, Bool.not_false, Bool.not_true, List.any_cons, List.any_nil, atI_0, setI_0, atI_1, setI_1, atI_2, setI_2, atI_3, setI_3, atI_4, setI_4, atI_5, setI_5, atI_6, setI_6, tAsg, gName, tOp, tUn, tVar, tC, tCons, L2.tNil, tRet, tIfS, tTest, tCB, tCall, rI, rI0, rU, tNext, tB, tAnd, tOr, tNot, tAndV, tOrV, tNotV, tDrop, tIf, tPar, gSub, rIxL, rIxT, rEq, rNe, rSetL, tBits,
    L2.start, List.map_cons, List.map_nil, List.cons_append, List.nil_append, List.append_nil, List.length_cons, List.length_nil, List.replicate, Nat.reduceAdd, Nat.reduceSub, Nat.zero_add, List.getElem?_cons_zero, List.getElem?_cons_succ, List.set_cons_zero, List.set_cons_succ,
    Option.some.injEq, exists_eq_left', exists_eq_left, V.int.injEq, V.bl.injEq, V.ref.injEq, V.str.injEq, List.cons.injEq, reduceCtorEq, and_true, true_and, false_and, and_false, exists_false, or_false, false_or, or_true, true_or, exists_const, CMul, CDiv, CPow, and_assoc, exists_and_left, exists_and_right, Int.reducePow, Int.reduceNeg, Int.reduceLT, Int.reduceLE, Nat.reducePow, Nat.reduceLT, Int.reduceToNat, gt_iff_lt, ge_iff_le, decide_eq_true_eq, Bool.not_eq_true', decide_eq_false_iff_not, scal, ↓reduceIte, Bool.false_eq_true]
    refine ⟨n, rfl, fun b H2 s3 => ⟨b, rfl, ?_⟩⟩
    cases b
    · rw [if_pos rfl]
      exact k false H2 (s2.trans s3)
    · rw [if_neg (by simp)]
      exact ⟨_, rfl, s2.trans s3⟩
  · rintro σ H' ⟨z, rfl, s2⟩
    simp only [cx_K, decide_true, decide_false, reduceCtorEq, gTp, gCons, gNil, ca_0, ca_1, ca_2, ca_3, ca_4, ca_5, ca_6, ca_7, ca_8, ca_9, ca_10, ca_11, ca_12, ca_13, ca_14, ca_15, ca_16, ca_17, ca_18, ca_19, ca_20, ca_21, ca_22, ca_23, ca_24, ca_25, ca_26, ca_27, ca_28, ca_29, ca_30, not_true_eq_false, not_false_eq_true, Int.reduceEq, Nat.reduceEqDiff, Nat.reduceLeDiff, rGcd, V.ty.injEq, eq_self, List.not_mem_nil, beq_self_eq_true, HO.lst.injEq, HO.tup.injEq, tFor_eq, iRng1, iList, iTup, nat10, tSeq, rIxA, rSetA, rIsN, rIsT, tTp, tLs, itsO_tup, itsO_lst, tyO_tup, tyO_lst, tyO_dK, tyN_non, tyN_bl, tyN_int, tyN_str, tyN_ref, tyNs_lt, isB, upd_same, upd_upd, sizeLine_eq, List.mem_cons, String.reduceBEq, String.reduceEq, Bool.or_false, Bool.or_true, Bool.and_false, Bool.false_or, Bool.and_self, Bool.false_and, Bool.not_false, Bool.not_true, List.any_cons, List.any_nil, atI_0, setI_0, atI_1, setI_1, atI_2, setI_2, atI_3, setI_3, atI_4, setI_4, atI_5, setI_5, atI_6, setI_6, tAsg, gName, tOp, tUn, tVar, tC, tCons, L2.tNil, tRet, tIfS, tTest, tCB, tCall, rI, rI0, rU, tNext, tB, tAnd, tOr, tNot, tAndV, tOrV, tNotV, tDrop, tIf, tPar, gSub, rIxL, rIxT, rEq, rNe, rSetL, tBits,
    L2.start, List.map_cons, List.map_nil, List.cons_append, List.nil_append, List.append_nil, List.length_cons, List.length_nil, List.replicate, Nat.reduceAdd, Nat.reduceSub, Nat.zero_add, List.getElem?_cons_zero, List.getElem?_cons_succ, List.set_cons_zero, List.set_cons_succ,
    Option.some.injEq, exists_eq_left', exists_eq_left, V.int.injEq, V.bl.injEq, V.ref.injEq, V.str.injEq, List.cons.injEq, reduceCtorEq, and_true, true_and, false_and, and_false, exists_false, or_false, false_or, or_true, true_or, exists_const, CMul, CDiv, CPow, and_assoc, exists_and_left, exists_and_right, Int.reducePow, Int.reduceNeg, Int.reduceLT, Int.reduceLE, Nat.reducePow, Nat.reduceLT, Int.reduceToNat, gt_iff_lt, ge_iff_le, decide_eq_true_eq, Bool.not_eq_true', decide_eq_false_iff_not, scal, ↓reduceIte, Bool.false_eq_true]
    exact k true H' s2
def spFitsR (K : PySem.W.Frag) : Sp := fun vs H Q _ => ∃ (t a b : Addr) (x1 y1 x2 y2 : Int), vs = [.ref t] ∧ ob K H t = some (.tup [.ref a, .ref b]) ∧ ob K H a = some (.tup [.int x1, .int y1]) ∧ ob K H b = some (.tup [.int x2, .int y2]) ∧ ∀ b H', Same H H' → Q (.bl b) H'
theorem k_Fits3 (T : Bt K mg) (D : Dfn K mg "_law_fits" sFits ["_law_thing"]) (d__law_fits : Kn P w K mg base 2 "_law_fits" ["_law_thing"] (spFitsT K)) : Kn P w K mg base 3 "_law_fits" ["_law_thing"] (spFitsR K) := by
  refine Kn.mk' D scFits (fun vs H Q E h => ?_) (fun f cdv A outer s H vs Q E hr h => ?_)
  · obtain ⟨t, a, b, x1, y1, x2, y2, rfl, _⟩ := h
    rfl
  obtain ⟨t, a, b, x1, y1, x2, y2, rfl, ot, oa, o2, k⟩ := h
  refine ⟨_, (pss_cons (ps_if (pt_val (pe_callB call_isT (by rfl) T.b_isinstance (by decide +kernel) (pa_cons (pv 0) (pa_cons (pe_tp (pa_cons (pe_bltn (v := .ty "list") (by rfl) T.b_list (by decide +kernel) rfl) (pa_cons (pe_bltn (v := .ty "tuple") (by rfl) T.b_tuple (by decide +kernel) rfl) pa_nil))) pa_nil)))) (pss_cons (ps_for PassesOwn.never rfl (pi_tup (pv 0)) (pg_name (i := 1) scFits.nd rfl (.inl rfl)) (pss_one (ps_if (pt_not (pt_val (pe_kn d__law_fits hr (by rfl) (pa_cons (pv 1) pa_nil)))) (pss_one (ps_ret pe_bl)) pss_nil)))
      (pss_one (ps_ret pe_bl))) pss_nil)
      (pss_one (ps_ret (pe_or (pe_not (pe_callB call_isN (by rfl) T.b_isinstance (by decide +kernel) (pa_cons (pv 0) (pa_cons (pe_bltn (v := .ty "int") (by rfl) T.b_int (by decide +kernel) rfl) pa_nil)))) (pe_one (pe_cmpR op_lt (pe_callB call_abs (by rfl) T.b_abs (by decide +kernel) (pa_cons (pv 0) pa_nil)) (pe_op op_pow pe_int pe_int) (nomark _))))))), ?_⟩
  simp only [ot, cx_K, decide_true, decide_false, reduceCtorEq, gTp, gCons, gNil, ca_0, ca_1, ca_2, ca_3, ca_4, ca_5, ca_6, ca_7, ca_8, ca_9, ca_10, ca_11, ca_12, ca_13, ca_14, ca_15, ca_16, ca_17, ca_18, ca_19, ca_20, ca_21, ca_22, ca_23, ca_24, ca_25, ca_26, ca_27, ca_28, ca_29, ca_30, not_true_eq_false, not_false_eq_true, Int.reduceEq, Nat.reduceEqDiff, Nat.reduceLeDiff, rGcd, V.ty.injEq, eq_self, List.not_mem_nil, beq_self_eq_true, HO.lst.injEq, HO.tup.injEq, tFor_eq, iRng1, iList, iTup, nat10, tSeq, rIxA, rSetA, rIsN, rIsT, tTp, tLs, itsO_tup, itsO_lst, tyO_tup, tyO_lst, tyO_dK, tyN_non, tyN_bl, tyN_int, tyN_str, tyN_ref, tyNs_lt, isB, upd_same, upd_upd, sizeLine_eq, List.mem_cons, String.reduceBEq, String.reduceEq, Bool.or_false, Bool.or_true, Bool.and_false, Bool.false_or, Bool.and_self, Bool.false_and, Bool.not_false, Bool.not_true, List.any_cons, List.any_nil, atI_0, setI_0, atI_1, setI_1, atI_2, setI_2, atI_3, setI_3, atI_4, setI_4, atI_5, setI_5, atI_6, setI_6, tAsg, gName, tOp, tUn, tVar, tC, tCons, L2.tNil, tRet, tIfS, tTest, tCB, tCall, rI, rI0, rU, tNext, tB, tAnd, tOr, tNot, tAndV, tOrV, tNotV, tDrop, tIf, tPar, gSub, rIxL, rIxT, rEq, rNe, rSetL, tBits,
    L2.start, List.map_cons, List.map_nil, List.cons_append, List.nil_append, List.append_nil, List.length_cons, List.length_nil, List.replicate, Nat.reduceAdd, Nat.reduceSub, Nat.zero_add, List.getElem?_cons_zero, List.getElem?_cons_succ, List.set_cons_zero, List.set_cons_succ,
    Option.some.injEq, exists_eq_left', exists_eq_left, V.int.injEq, V.bl.injEq, V.ref.injEq, V.str.injEq, List.cons.injEq, reduceCtorEq, and_true, true_and, false_and, and_false, exists_false, or_false, false_or, or_true, true_or, exists_const, CMul, CDiv, CPow, and_assoc, exists_and_left, exists_and_right, Int.reducePow, Int.reduceNeg, Int.reduceLT, Int.reduceLE, Nat.reducePow, Nat.reduceLT, Int.reduceToNat, gt_iff_lt, ge_iff_le, decide_eq_true_eq, Bool.not_eq_true', decide_eq_false_iff_not, scal, ↓reduceIte, Bool.false_eq_true]
  intro p hp kp
  have s1 := Same.new hp (.tup [V.ty "list", V.ty "tuple"])
  generalize upd H p (.tup [V.ty "list", V.ty "tuple"]) = H1 at s1 ⊢
  have ot1 := ob_same s1 ot
  simp only [ot1, cx_K, decide_true, decide_false, reduceCtorEq, gTp, gCons, gNil, ca_0, ca_1, ca_2, ca_3, ca_4, ca_5, ca_6, ca_7, ca_8, ca_9, ca_10, ca_11, ca_12, ca_13, ca_14, ca_15, ca_16, ca_17, ca_18, ca_19, ca_20, ca_21, ca_22, ca_23, ca_24, ca_25, ca_26, ca_27, ca_28, ca_29, ca_30, not_true_eq_false, not_false_eq_true, Int.reduceEq, Nat.reduceEqDiff, Nat.reduceLeDiff, rGcd, V.ty.injEq, eq_self, List.not_mem_nil, beq_self_eq_true, HO.lst.injEq, HO.tup.injEq, tFor_eq, iRng1, iList, iTup, nat10, tSeq, rIxA, rSetA, rIsN, rIsT, tTp, tLs, itsO_tup, itsO_lst, tyO_tup, tyO_lst, tyO_dK, tyN_non, tyN_bl, tyN_int, tyN_str, tyN_ref, tyNs_lt, isB, upd_same, upd_upd, sizeLine_eq, List.mem_cons, String.reduceBEq, String.reduceEq, Bool.or_false, Bool.or_true, Bool.and_false, Bool.false_or, Bool.and_self, Bool.false_and, Bool.not_false, Bool.not_true, List.any_cons, List.any_nil, atI_0, setI_0, atI_1, setI_1, atI_2, setI_2, atI_3, setI_3, atI_4, setI_4, atI_5, setI_5, atI_6, setI_6, tAsg, gName, tOp, tUn, tVar, tC, tCons, L2.tNil, tRet, tIfS, tTest, tCB, tCall, rI, rI0, rU, tNext, tB, tAnd, tOr, tNot, tAndV, tOrV, tNotV, tDrop, tIf, tPar, gSub, rIxL, rIxT, rEq, rNe, rSetL, tBits,
    L2.start, List.map_cons, List.map_nil, List.cons_append, List.nil_append, List.append_nil, List.length_cons, List.length_nil, List.replicate, Nat.reduceAdd, Nat.reduceSub, Nat.zero_add, List.getElem?_cons_zero, List.getElem?_cons_succ, List.set_cons_zero, List.set_cons_succ,
    Option.some.injEq, exists_eq_left', exists_eq_left, V.int.injEq, V.bl.injEq, V.ref.injEq, V.str.injEq, List.cons.injEq, reduceCtorEq, and_true, true_and, false_and, and_false, exists_false, or_false, false_or, or_true, true_or, exists_const, CMul, CDiv, CPow, and_assoc, exists_and_left, exists_and_right, Int.reducePow, Int.reduceNeg, Int.reduceLT, Int.reduceLE, Nat.reducePow, Nat.reduceLT, Int.reduceToNat, gt_iff_lt, ge_iff_le, decide_eq_true_eq, Bool.not_eq_true', decide_eq_false_iff_not, scal, ↓reduceIte, Bool.false_eq_true]
  refine ⟨⟨_, ob_tup ot1⟩, forI_tup (xs := [.ref a, .ref b]) (FitsI t H) ⟨none, rfl, s1⟩ ?_ ?_ ?_⟩
  · rintro i σ H' _ ⟨z, rfl, s2⟩
    exact ob_tup (ob_same s2 ot)
  · rintro i v σ H' hi ⟨z, rfl, s2⟩
    obtain ⟨n, x, y, rfl, hn⟩ : ∃ n x y, v = .ref n ∧ ob K H n = some (.tup [.int x, .int y]) := by
      have hv := List.mem_of_getElem? hi
      simp only [List.mem_cons, List.not_mem_nil, or_false] at hv
      rcases hv with rfl | rfl
      · exact ⟨_, _, _, rfl, oa⟩
      · exact ⟨_, _, _, rfl, o2⟩
    simp only [cx_K, decide_true, decide_false, reduceCtorEq, gTp, gCons, gNil, ca_0, ca_1, ca_2, ca_3, ca_4, ca_5, ca_6, ca_7, ca_8, ca_9, ca_10, ca_11, ca_12, ca_13, ca_14, ca_15, ca_16, ca_17, ca_18, ca_19, ca_20, ca_21, ca_22, ca_23, ca_24, ca_25, ca_26, ca_27, ca_28, ca_29, ca_30, not_true_eq_false, not_false_eq_true, Int.reduceEq, Nat.reduceEqDiff, Nat.reduceLeDiff, rGcd, V.ty.injEq, eq_self, List.not_mem_nil, beq_self_eq_true, HO.lst.injEq, HO.tup.injEq, tFor_eq, iRng1, iList, iTup, nat10, tSeq, rIxA, rSetA, rIsN, rIsT, tTp, tLs, itsO_tup, itsO_lst, tyO_tup, tyO_lst, tyO_dK, tyN_non, tyN_bl, tyN_int, tyN_str, tyN_ref, tyNs_lt, isB, upd_same, upd_upd, sizeLine_eq, List.mem_cons, String.reduceBEq, String.reduceEq, Bool.or_false, Bool.or_true, Bool.and_false, Bool.false_or, Bool.and_self, Bool.false_and, Bool.not_false, Bool.not_true, List.any_cons, List.any_nil, atI_0, setI_0, atI_1, setI_1, atI_2, setI_2, atI_3, setI_3, atI_4, setI_4, atI_5, setI_5, atI_6, setI_6, tAsg, gName, tOp, tUn, tVar, tC, tCons, L2.tNil, tRet, tIfS, tTest, tCB, tCall, rI, rI0, rU, tNext, tB, tAnd, tOr, tNot, tAndV, tOrV, tNotV, tDrop, tIf, tPar, gSub, rIxL, rIxT, rEq, rNe, rSetL, tBits,
    L2.start, List.map_cons, List.map_nil, List.cons_append, List.nil_append, List.append_nil, List.length_cons, List.length_nil, List.replicate, Nat.reduceAdd, Nat.reduceSub, Nat.zero_add, List.getElem?_cons_zero, List.getElem?_cons_succ, List.set_cons_zero, List.set_cons_succ,
    Option.some.injEq, exists_eq_left', exists_eq_left, V.int.injEq, V.bl.injEq, V.ref.injEq, V.str.injEq, List.cons.injEq, reduceCtorEq, and_true, true_and, false_and, and_false, exists_false, or_false, false_or, or_true, true_or, exists_const, CMul, CDiv, CPow, and_assoc, exists_and_left, exists_and_right, Int.reducePow, Int.reduceNeg, Int.reduceLT, Int.reduceLE, Nat.reducePow, Nat.reduceLT, Int.reduceToNat, gt_iff_lt, ge_iff_le, decide_eq_true_eq, Bool.not_eq_true', decide_eq_false_iff_not, scal, ↓reduceIte, Bool.false_eq_true]
    refine ⟨n, x, y, rfl, ob_same s2 hn, fun b H2 s3 => ⟨b, rfl, ?_⟩⟩
    cases b
    · rw [if_pos rfl]
      exact k false H2 (s2.trans s3)
    · rw [if_neg (by simp)]
      exact ⟨_, rfl, s2.trans s3⟩
  · rintro σ H' ⟨z, rfl, s2⟩
    simp only [cx_K, decide_true, decide_false, reduceCtorEq, gTp, gCons, gNil, ca_0, ca_1, ca_2, ca_3, ca_4, ca_5, ca_6, ca_7, ca_8, ca_9, ca_10, ca_11, ca_12, ca_13, ca_14, ca_15, ca_16, ca_17, ca_18, ca_19, ca_20, ca_21, ca_22, ca_23, ca_24, ca_25, ca_26, ca_27, ca_28, ca_29, ca_30, not_true_eq_false, not_false_eq_true, Int.reduceEq, Nat.reduceEqDiff, Nat.reduceLeDiff, rGcd, V.ty.injEq, eq_self, List.not_mem_nil, beq_self_eq_true, HO.lst.injEq, HO.tup.injEq, tFor_eq, iRng1, iList, iTup, nat10, tSeq, rIxA, rSetA, rIsN, rIsT, tTp, tLs, itsO_tup, itsO_lst, tyO_tup, tyO_lst, tyO_dK, tyN_non, tyN_bl, tyN_int, tyN_str, tyN_ref, tyNs_lt, isB, upd_same, upd_upd, sizeLine_eq, List.mem_cons, String.reduceBEq, String.reduceEq, Bool.or_false, Bool.or_true, Bool.and_false, Bool.false_or, Bool.and_self, Bool.false_and, Bool.not_false, Bool.not_true, List.any_cons, List.any_nil, atI_0, setI_0, atI_1, setI_1, atI_2, setI_2, atI_3, setI_3, atI_4, setI_4, atI_5, setI_5, atI_6, setI_6, tAsg, gName, tOp, tUn, tVar, tC, tCons, L2.tNil, tRet, tIfS, tTest, tCB, tCall, rI, rI0, rU, tNext, tB, tAnd, tOr, tNot, tAndV, tOrV, tNotV, tDrop, tIf, tPar, gSub, rIxL, rIxT, rEq, rNe, rSetL, tBits,
    L2.start, List.map_cons, List.map_nil, List.cons_append, List.nil_append, List.append_nil, List.length_cons, List.length_nil, List.replicate, Nat.reduceAdd, Nat.reduceSub, Nat.zero_add, List.getElem?_cons_zero, List.getElem?_cons_succ, List.set_cons_zero, List.set_cons_succ,
    Option.some.injEq, exists_eq_left', exists_eq_left, V.int.injEq, V.bl.injEq, V.ref.injEq, V.str.injEq, List.cons.injEq, reduceCtorEq, and_true, true_and, false_and, and_false, exists_false, or_false, false_or, or_true, true_or, exists_const, CMul, CDiv, CPow, and_assoc, exists_and_left, exists_and_right, Int.reducePow, Int.reduceNeg, Int.reduceLT, Int.reduceLE, Nat.reducePow, Nat.reduceLT, Int.reduceToNat, gt_iff_lt, ge_iff_le, decide_eq_true_eq, Bool.not_eq_true', decide_eq_false_iff_not, scal, ↓reduceIte, Bool.false_eq_true]
    exact k true H' s2
def spFitsK (K : PySem.W.Frag) : Sp := fun vs H Q _ => ∃ (a : Addr) (xs : List V) (ks : List Kt) (n : Nat), vs = [.ref a] ∧ H a = some (.lst xs) ∧ K.lookup a = none ∧ Kts K H n xs ks ∧ ∀ b H', Same H H' → Q (.bl b) H'
theorem k_Fits4 (T : Bt K mg) (D : Dfn K mg "_law_fits" sFits ["_law_thing"]) (d__law_fits : Kn P w K mg base 3 "_law_fits" ["_law_thing"] (spFitsR K)) : Kn P w K mg base 4 "_law_fits" ["_law_thing"] (spFitsK K) := by
  refine Kn.mk' D scFits (fun vs H Q E h => ?_) (fun f cdv A outer s H vs Q E hr h => ?_)
  · obtain ⟨a, xs, ks, n, rfl, _⟩ := h
    rfl
  obtain ⟨a, xs, ks, n, rfl, ha, ka, kt, k⟩ := h
  refine ⟨_, (pss_cons (ps_if (pt_val (pe_callB call_isT (by rfl) T.b_isinstance (by decide +kernel) (pa_cons (pv 0) (pa_cons (pe_tp (pa_cons (pe_bltn (v := .ty "list") (by rfl) T.b_list (by decide +kernel) rfl) (pa_cons (pe_bltn (v := .ty "tuple") (by rfl) T.b_tuple (by decide +kernel) rfl) pa_nil))) pa_nil)))) (pss_cons (ps_for PassesOwn.never rfl (pi_list (pv 0)) (pg_name (i := 1) scFits.nd rfl (.inl rfl)) (pss_one (ps_if (pt_not (pt_val (pe_kn d__law_fits hr (by rfl) (pa_cons (pv 1) pa_nil)))) (pss_one (ps_ret pe_bl)) pss_nil)))
      (pss_one (ps_ret pe_bl))) pss_nil)
      (pss_one (ps_ret (pe_or (pe_not (pe_callB call_isN (by rfl) T.b_isinstance (by decide +kernel) (pa_cons (pv 0) (pa_cons (pe_bltn (v := .ty "int") (by rfl) T.b_int (by decide +kernel) rfl) pa_nil)))) (pe_one (pe_cmpR op_lt (pe_callB call_abs (by rfl) T.b_abs (by decide +kernel) (pa_cons (pv 0) pa_nil)) (pe_op op_pow pe_int pe_int) (nomark _))))))), ?_⟩
  have oa := (ob_none ka).trans ha
  simp only [oa, cx_K, decide_true, decide_false, reduceCtorEq, gTp, gCons, gNil, ca_0, ca_1, ca_2, ca_3, ca_4, ca_5, ca_6, ca_7, ca_8, ca_9, ca_10, ca_11, ca_12, ca_13, ca_14, ca_15, ca_16, ca_17, ca_18, ca_19, ca_20, ca_21, ca_22, ca_23, ca_24, ca_25, ca_26, ca_27, ca_28, ca_29, ca_30, not_true_eq_false, not_false_eq_true, Int.reduceEq, Nat.reduceEqDiff, Nat.reduceLeDiff, rGcd, V.ty.injEq, eq_self, List.not_mem_nil, beq_self_eq_true, HO.lst.injEq, HO.tup.injEq, tFor_eq, iRng1, iList, iTup, nat10, tSeq, rIxA, rSetA, rIsN, rIsT, tTp, tLs, itsO_tup, itsO_lst, tyO_tup, tyO_lst, tyO_dK, tyN_non, tyN_bl, tyN_int, tyN_str, tyN_ref, tyNs_lt, isB, upd_same, upd_upd, sizeLine_eq, List.mem_cons, String.reduceBEq, String.reduceEq, Bool.or_false, Bool.or_true, Bool.and_false, Bool.false_or, Bool.and_self, Bool.false_and, Bool.not_false, Bool.not_true, List.any_cons, List.any_nil, atI_0, setI_0, atI_1, setI_1, atI_2, setI_2, atI_3, setI_3, atI_4, setI_4, atI_5, setI_5, atI_6, setI_6, tAsg, gName, tOp, tUn, tVar, tC, tCons, L2.tNil, tRet, tIfS, tTest, tCB, tCall, rI, rI0, rU, tNext, tB, tAnd, tOr, tNot, tAndV, tOrV, tNotV, tDrop, tIf, tPar, gSub, rIxL, rIxT, rEq, rNe, rSetL, tBits,
    L2.start, List.map_cons, List.map_nil, List.cons_append, List.nil_append, List.append_nil, List.length_cons, List.length_nil, List.replicate, Nat.reduceAdd, Nat.reduceSub, Nat.zero_add, List.getElem?_cons_zero, List.getElem?_cons_succ, List.set_cons_zero, List.set_cons_succ,
    Option.some.injEq, exists_eq_left', exists_eq_left, V.int.injEq, V.bl.injEq, V.ref.injEq, V.str.injEq, List.cons.injEq, reduceCtorEq, and_true, true_and, false_and, and_false, exists_false, or_false, false_or, or_true, true_or, exists_const, CMul, CDiv, CPow, and_assoc, exists_and_left, exists_and_right, Int.reducePow, Int.reduceNeg, Int.reduceLT, Int.reduceLE, Nat.reducePow, Nat.reduceLT, Int.reduceToNat, gt_iff_lt, ge_iff_le, decide_eq_true_eq, Bool.not_eq_true', decide_eq_false_iff_not, scal, ↓reduceIte, Bool.false_eq_true]
  intro p hp kp
  have s1 := Same.new hp (.tup [V.ty "list", V.ty "tuple"])
  generalize upd H p (.tup [V.ty "list", V.ty "tuple"]) = H1 at s1 ⊢
  have oa1 := ob_same s1 oa
  simp only [oa1, cx_K, decide_true, decide_false, reduceCtorEq, gTp, gCons, gNil, ca_0, ca_1, ca_2, ca_3, ca_4, ca_5, ca_6, ca_7, ca_8, ca_9, ca_10, ca_11, ca_12, ca_13, ca_14, ca_15, ca_16, ca_17, ca_18, ca_19, ca_20, ca_21, ca_22, ca_23, ca_24, ca_25, ca_26, ca_27, ca_28, ca_29, ca_30, not_true_eq_false, not_false_eq_true, Int.reduceEq, Nat.reduceEqDiff, Nat.reduceLeDiff, rGcd, V.ty.injEq, eq_self, List.not_mem_nil, beq_self_eq_true, HO.lst.injEq, HO.tup.injEq, tFor_eq, iRng1, iList, iTup, nat10, tSeq, rIxA, rSetA, rIsN, rIsT, tTp, tLs, itsO_tup, itsO_lst, tyO_tup, tyO_lst, tyO_dK, tyN_non, tyN_bl, tyN_int, tyN_str, tyN_ref, tyNs_lt, isB, upd_same, upd_upd, sizeLine_eq, List.mem_cons, String.reduceBEq, String.reduceEq, Bool.or_false, Bool.or_true, Bool.and_false, Bool.false_or, Bool.and_self, Bool.false_and, Bool.not_false, Bool.not_true, List.any_cons, List.any_nil, atI_0, setI_0, atI_1, setI_1, atI_2, setI_2, atI_3, setI_3, atI_4, setI_4, atI_5, setI_5, atI_6, setI_6, tAsg, gName, tOp, tUn, tVar, tC, tCons, L2.tNil, tRet, tIfS, tTest, tCB, tCall, rI, rI0, rU, tNext, tB, tAnd, tOr, tNot, tAndV, tOrV, tNotV, tDrop, tIf, tPar, gSub, rIxL, rIxT, rEq, rNe, rSetL, tBits,
    L2.start, List.map_cons, List.map_nil, List.cons_append, List.nil_append, List.append_nil, List.length_cons, List.length_nil, List.replicate, Nat.reduceAdd, Nat.reduceSub, Nat.zero_add, List.getElem?_cons_zero, List.getElem?_cons_succ, List.set_cons_zero, List.set_cons_succ,
    Option.some.injEq, exists_eq_left', exists_eq_left, V.int.injEq, V.bl.injEq, V.ref.injEq, V.str.injEq, List.cons.injEq, reduceCtorEq, and_true, true_and, false_and, and_false, exists_false, or_false, false_or, or_true, true_or, exists_const, CMul, CDiv, CPow, and_assoc, exists_and_left, exists_and_right, Int.reducePow, Int.reduceNeg, Int.reduceLT, Int.reduceLE, Nat.reducePow, Nat.reduceLT, Int.reduceToNat, gt_iff_lt, ge_iff_le, decide_eq_true_eq, Bool.not_eq_true', decide_eq_false_iff_not, scal, ↓reduceIte, Bool.false_eq_true]
  refine ⟨⟨_, .of (s1 _ _ ha)⟩, forI_list (xs := xs) (FitsI a H) ⟨none, rfl, s1⟩ ?_ ?_ ?_⟩
  · rintro i σ H' _ ⟨z, rfl, s2⟩
    exact .of (s2 _ _ ha)
  · rintro i v σ H' hi ⟨z, rfl, s2⟩
    obtain ⟨kk, ek, t, c, d, rfl, ot, fc, fd⟩ := kt.at hi
    simp only [cx_K, decide_true, decide_false, reduceCtorEq, gTp, gCons, gNil, ca_0, ca_1, ca_2, ca_3, ca_4, ca_5, ca_6, ca_7, ca_8, ca_9, ca_10, ca_11, ca_12, ca_13, ca_14, ca_15, ca_16, ca_17, ca_18, ca_19, ca_20, ca_21, ca_22, ca_23, ca_24, ca_25, ca_26, ca_27, ca_28, ca_29, ca_30, not_true_eq_false, not_false_eq_true, Int.reduceEq, Nat.reduceEqDiff, Nat.reduceLeDiff, rGcd, V.ty.injEq, eq_self, List.not_mem_nil, beq_self_eq_true, HO.lst.injEq, HO.tup.injEq, tFor_eq, iRng1, iList, iTup, nat10, tSeq, rIxA, rSetA, rIsN, rIsT, tTp, tLs, itsO_tup, itsO_lst, tyO_tup, tyO_lst, tyO_dK, tyN_non, tyN_bl, tyN_int, tyN_str, tyN_ref, tyNs_lt, isB, upd_same, upd_upd, sizeLine_eq, List.mem_cons, String.reduceBEq, String.reduceEq, Bool.or_false, Bool.or_true, Bool.and_false, Bool.false_or, Bool.and_self, Bool.false_and, Bool.not_false, Bool.not_true, List.any_cons, List.any_nil, atI_0, setI_0, atI_1, setI_1, atI_2, setI_2, atI_3, setI_3, atI_4, setI_4, atI_5, setI_5, atI_6, setI_6, tAsg, gName, tOp, tUn, tVar, tC, tCons, L2.tNil, tRet, tIfS, tTest, tCB, tCall, rI, rI0, rU, tNext, tB, tAnd, tOr, tNot, tAndV, tOrV, tNotV, tDrop, tIf, tPar, gSub, rIxL, rIxT, rEq, rNe, rSetL, tBits,
    L2.start, List.map_cons, List.map_nil, List.cons_append, List.nil_append, List.append_nil, List.length_cons, List.length_nil, List.replicate, Nat.reduceAdd, Nat.reduceSub, Nat.zero_add, List.getElem?_cons_zero, List.getElem?_cons_succ, List.set_cons_zero, List.set_cons_succ,
    Option.some.injEq, exists_eq_left', exists_eq_left, V.int.injEq, V.bl.injEq, V.ref.injEq, V.str.injEq, List.cons.injEq, reduceCtorEq, and_true, true_and, false_and, and_false, exists_false, or_false, false_or, or_true, true_or, exists_const, CMul, CDiv, CPow, and_assoc, exists_and_left, exists_and_right, Int.reducePow, Int.reduceNeg, Int.reduceLT, Int.reduceLE, Nat.reducePow, Nat.reduceLT, Int.reduceToNat, gt_iff_lt, ge_iff_le, decide_eq_true_eq, Bool.not_eq_true', decide_eq_false_iff_not, scal, ↓reduceIte, Bool.false_eq_true]
    refine ⟨t, c, d, _, _, _, _, rfl, ob_same s2 ot, ob_same s2 fc.o, ob_same s2 fd.o, fun b H2 s3 => ⟨b, rfl, ?_⟩⟩
    cases b
    · rw [if_pos rfl]
      exact k false H2 (s2.trans s3)
    · rw [if_neg (by simp)]
      exact ⟨_, rfl, s2.trans s3⟩
  · rintro σ H' ⟨z, rfl, s2⟩
    simp only [cx_K, decide_true, decide_false, reduceCtorEq, gTp, gCons, gNil, ca_0, ca_1, ca_2, ca_3, ca_4, ca_5, ca_6, ca_7, ca_8, ca_9, ca_10, ca_11, ca_12, ca_13, ca_14, ca_15, ca_16, ca_17, ca_18, ca_19, ca_20, ca_21, ca_22, ca_23, ca_24, ca_25, ca_26, ca_27, ca_28, ca_29, ca_30, not_true_eq_false, not_false_eq_true, Int.reduceEq, Nat.reduceEqDiff, Nat.reduceLeDiff, rGcd, V.ty.injEq, eq_self, List.not_mem_nil, beq_self_eq_true, HO.lst.injEq, HO.tup.injEq, tFor_eq, iRng1, iList, iTup, nat10, tSeq, rIxA, rSetA, rIsN, rIsT, tTp, tLs, itsO_tup, itsO_lst, tyO_tup, tyO_lst, tyO_dK, tyN_non, tyN_bl, tyN_int, tyN_str, tyN_ref, tyNs_lt, isB, upd_same, upd_upd, sizeLine_eq, List.mem_cons, String.reduceBEq, String.reduceEq, Bool.or_false, Bool.or_true, Bool.and_false, Bool.false_or, Bool.and_self, Bool.false_and, Bool.not_false, Bool.not_true, List.any_cons, List.any_nil, atI_0, setI_0, atI_1, setI_1, atI_2, setI_2, atI_3, setI_3, atI_4, setI_4, atI_5, setI_5, atI_6, setI_6, tAsg, gName, tOp, tUn, tVar, tC, tCons, L2.tNil, tRet, tIfS, tTest, tCB, tCall, rI, rI0, rU, tNext, tB, tAnd, tOr, tNot, tAndV, tOrV, tNotV, tDrop, tIf, tPar, gSub, rIxL, rIxT, rEq, rNe, rSetL, tBits,
    L2.start, List.map_cons, List.map_nil, List.cons_append, List.nil_append, List.append_nil, List.length_cons, List.length_nil, List.replicate, Nat.reduceAdd, Nat.reduceSub, Nat.zero_add, List.getElem?_cons_zero, List.getElem?_cons_succ, List.set_cons_zero, List.set_cons_succ,
    Option.some.injEq, exists_eq_left', exists_eq_left, V.int.injEq, V.bl.injEq, V.ref.injEq, V.str.injEq, List.cons.injEq, reduceCtorEq, and_true, true_and, false_and, and_false, exists_false, or_false, false_or, or_true, true_or, exists_const, CMul, CDiv, CPow, and_assoc, exists_and_left, exists_and_right, Int.reducePow, Int.reduceNeg, Int.reduceLT, Int.reduceLE, Nat.reducePow, Nat.reduceLT, Int.reduceToNat, gt_iff_lt, ge_iff_le, decide_eq_true_eq, Bool.not_eq_true', decide_eq_false_iff_not, scal, ↓reduceIte, Bool.false_eq_true]
    exact k true H' s2
def spEven (K : PySem.W.Frag) (C : Addr) : Sp := fun vs H Q _ => vs = [] ∧ ∀ c H', Same H H' → SlAt K C 1 H' c [((0, 1), (0, 1))] → Q (.ref c) H'
theorem good_even : Good [((0, 1), (0, 1))] := by
  refine ⟨by decide, fun k hk => ?_, fun k e => ?_, fun i k k' e1 e2 => ?_⟩
  · rw [List.mem_singleton] at hk
    subst hk
    exact ⟨nf01, nf01⟩
  · cases e
    rfl
  · have l := (List.getElem?_eq_some_iff.mp e2).1
    rw [ext_len] at l
    have l : i + 1 < 2 := l
    have ei : i = 0 := by omega
    subst ei
    cases e1
    cases e2
    show qv (0, 1) < qv (1, 1)
    rw [qv01, qv11]
    grind
abbrev sEven : Stmt := topS 25
theorem scEven : FnScope [] [] (defScope sEven) := ⟨rfl, rfl, rfl, by decide +kernel, rfl, by decide +kernel, by decide +kernel⟩
theorem k_Even {z0 o0 C : Addr} (C0 : Two01 K mg z0 o0) (mk1 : C8.Mak P w K mg base 6 "Slot" C (spSlInit K C) []) (T : Bt K mg) (D : Dfn K mg "even_slot" sEven []) : Kn P w K mg base 8 "even_slot" [] (spEven K C) := by
  refine Kn.mk' D scEven (fun vs H Q E h => ?_) (fun f cdv A outer s H vs Q E hr h => ?_)
  · obtain ⟨rfl, _⟩ := h
    rfl
  obtain ⟨rfl, k⟩ := h
  refine ⟨_, (pss_one (ps_ret (C8.pe_mk mk1 hr (by omega) (by rfl) (pa_cons (pe_ls (pa_cons (pe_tp (pa_cons (pe_glob (v := .ref z0) (by rfl) C0.g_ZERO rfl) (pa_cons (pe_glob (v := .ref z0) (by rfl) C0.g_ZERO rfl) pa_nil))) pa_nil)) pa_nil)))), ?_⟩
  refine ⟨sz2 (by show 2 ≤ 100; decide), fun p1 h1 k1 => ⟨sz2 (by show 1 ≤ 100; decide), fun p2 h2 k2 => ?_⟩⟩
  have s1 := Same.new h1 (.tup [.ref z0, .ref z0])
  have o1 := ob_new (H := H) (o := .tup [.ref z0, .ref z0]) k1
  generalize upd H p1 (.tup [.ref z0, .ref z0]) = H1 at s1 o1 h2 ⊢
  have s2 := Same.new h2 (.lst [.ref p1])
  have o2 := ob_new (H := H1) (o := .lst [.ref p1]) k2
  generalize upd H1 p2 (.lst [.ref p1]) = H2 at s2 o2 ⊢
  have o1 := ob_same s2 o1
  intro c dx hcn hdn hne
  have fz : Fq K H2 1 z0 (0, 1) := ⟨C0.oz _, nf01, sz01 (Nat.le_refl 1)⟩
  exact ⟨H2, c, dx, p2, [.ref p1], [((0, 1), (0, 1))], 1, rfl, same_make hcn hdn, hcn, upd_same, o2, ⟨rfl, fun i x k e1 e2 => by
    have l := (List.getElem?_eq_some_iff.mp e1).1
    rw [List.length_singleton] at l
    obtain rfl : i = 0 := by omega
    cases e1
    cases e2
    exact ⟨p1, z0, z0, rfl, o1, fz, fz⟩⟩, good_even, by decide, by omega, fun H' s' hs => ⟨rfl, k c H' (s1.trans (s2.trans s')) hs⟩⟩

end
end My

namespace My
open PySem PySem.Spec PyProof.Rows L2
/-- a property that may be read -/
structure PropK (P : Program) (w : World) (K : PySem.W.Frag) (mg : Str → Option Value) (base : Heap) (k : Nat) (C : Addr) (f : Str) (sp : Sp) : Prop where
  ex : ∃ (p g : Addr) (fd : FuncData), Cls K C ∧ PropOf K C f p g ∧ FnOk P w K mg base CX0 k g fd ["self"] sp ∧ Binds K fd ["self"] []
section
variable {X : Cx}
theorem pe_propK {j k : Nat} {C : Addr} {f : Str} {sp : Sp} {e : Expr} {pos : Pos} {ta : TE} (c : PropK X.prog X.w X.K X.mg X.base k C f sp) (hr : Room j X.A) (hk : k + 1 ≤ j) (he : PE X e ta) (hab : attributeBase e f X.env (eval e X.env) = eval e X.env := by rfl) : PE X (.Attribute e f pos) (tProp C sp [] E0 ta) := by
  obtain ⟨p, g, fd, cl, hp, F, b⟩ := c.ex
  exact pe_prop he cl hp F (hr.mono hk) b .nil pass0 hab
theorem pe_kn0 {j k : Nat} {x : Str} {sp : Sp} {p pos : Pos} (F : Kn X.prog X.w X.K X.mg X.base k x [] sp) (hr : Room j X.A) (hg : Gl X x) (hj : k ≤ j := by omega) (hdb : (x == ("__debug__" : Str)) = false := by decide) : PE X (.Call (.Name x p) [] [] pos) (tCall sp [] E0 L2.tNil) := by
  obtain ⟨f, fd, m, kp, b, G⟩ := F.ex
  exact pe_call0 G (hr.mono hj) hg m kp b .nil pass0 hdb
end
section
variable {P : Program} {w : World} {K : PySem.W.Frag} {mg : Str → Option Value} {base : Heap}
theorem ap_slopes {C : Addr} {H : Hp} {Q : VK} {c : Addr} {ks : List Kt} {n : Nat} (h : SlAt K C n H c ks) (g : Good ks) (l8 : ks.length ≤ 8) (n1 : 1 ≤ n) (n6 : n ≤ 600) (k : ∀ l acc H', H l = none → K.lookup l = none → H' l = some (.lst acc) → Same H H' → acc.length = ks.length → SlL K H' (4 * n + 6) acc ks → Q (.ref l) H') :
    ∃ a dx fs, V.ref c = .ref a ∧ H a = some (.ins C dx fs) ∧ fs.lookup ("slopes" : Str) = none ∧ spSlopes K C [.ref c] H Q C8.E0 := by
  obtain ⟨dx, t, us, hi, _, _⟩ := id h
  exact ⟨c, dx, _, rfl, hi, rfl, c, ks, n, rfl, h, g, l8, n1, n6, k⟩
/-- knots whose lifts are told by a rule -/
structure Lft (F : Rat → Rat → Prop) (ks rs : List Kt) : Prop where
  f : Fst ks ks.length rs
  l : ∀ (j : Nat) k r, ks[j]? = some k → rs[j]? = some r → F (qv k.2) (qv r.2)
theorem Lft.ext {F : Rat → Rat → Prop} {ks rs : List Kt} (g : Good ks) (h : Lft F ks rs) {j : Nat} {k r : Kt} (e1 : (ext ks)[j]? = some k) (e2 : (ext rs)[j]? = some r) : r.1 = k.1 ∧ F (qv k.2) (qv r.2) := by
  have hl := h.f.len
  have lj := (List.getElem?_eq_some_iff.mp e1).1
  rw [ext_len] at lj
  by_cases c : j < ks.length
  · have a1 := (ext_at c).mp e1
    have a2 := (ext_at (by omega)).mp e2
    obtain ⟨k', b1, b2⟩ := h.f.fst j r a2
    rw [a1] at b1
    cases b1
    exact ⟨b2, h.l j k r a1 a2⟩
  · have ej : j = ks.length := by omega
    have gr := good_firsts g hl h.f.fst h.f.nf
    obtain ⟨k0, a1, a2, _, _⟩ := ext_last g
    obtain ⟨r0, b1, b2, _, _⟩ := ext_last gr
    rw [ej, a2] at e1
    rw [ej, ← hl, b2] at e2
    cases e1
    cases e2
    exact ⟨rfl, h.l 0 k0 r0 a1 b1⟩
theorem Lft.slp {F : Rat → Rat → Prop} {ks rs : List Kt} (g : Good ks) (h : Lft F ks rs) {j : Nat} {y z : Qt} (h1 : Slp ks j y) (h2 : Slp rs j z) : ∃ k k' r r' : Kt, qv k.1 < qv k'.1 ∧ qv y = slp k k' ∧ qv z = slp r r' ∧ r.1 = k.1 ∧ r'.1 = k'.1 ∧ F (qv k.2) (qv r.2) ∧ F (qv k'.2) (qv r'.2) := by
  obtain ⟨_, k, k', a1, a2, e1⟩ := h1
  obtain ⟨_, r, r', b1, b2, e2⟩ := h2
  obtain ⟨c1, c2⟩ := h.ext g a1 b1
  obtain ⟨d1, d2⟩ := h.ext g a2 b2
  exact ⟨k, k', r, r', g.asc j k k' a1 a2, e1, e2, c1, d1, c2, d2⟩
def Up (c x y : Rat) : Prop := y = x + c
def Ng (x y : Rat) : Prop := y = -x
theorem val_snoc {F : Rat → Rat → Prop} {ks rs : List Kt} {m : Nat} {kk : Kt} {q : Qt} (hl : rs.length = m) (ek : ks[m]? = some kk) (h : ∀ (j : Nat) k r, ks[j]? = some k → rs[j]? = some r → F (qv k.2) (qv r.2)) (n : F (qv kk.2) (qv q)) : ∀ (j : Nat) k r, ks[j]? = some k → (rs ++ [(kk.1, q)])[j]? = some r → F (qv k.2) (qv r.2) := fun j k r e1 e2 => by
  rcases Nat.lt_or_ge j rs.length with l | l
  · rw [List.getElem?_append_left l] at e2
    exact h j k r e1 e2
  · rw [List.getElem?_append_right l] at e2
    have := (List.getElem?_eq_some_iff.mp e2).1
    rw [List.length_singleton] at this
    rw [show j - rs.length = 0 by omega] at e2
    cases e2
    rw [show j = m by omega, ek] at e1
    cases e1
    exact n
theorem up_slp {c : Rat} {k k' r r' : Kt} (h1 : r.1 = k.1) (h2 : r'.1 = k'.1) (f : Up c (qv k.2) (qv r.2)) (f' : Up c (qv k'.2) (qv r'.2)) : slp r r' = slp k k' := by
  unfold Up at f f'
  unfold slp
  rw [h1, h2, f, f', show qv k'.2 + c - (qv k.2 + c) = qv k'.2 - qv k.2 by grind]
theorem ng_slp {k k' r r' : Kt} (h1 : r.1 = k.1) (h2 : r'.1 = k'.1) (f : Ng (qv k.2) (qv r.2)) (f' : Ng (qv k'.2) (qv r'.2)) (h : qv k.1 < qv k'.1) : slp r r' = 2 - slp k k' := by
  unfold Ng at f f'
  unfold slp
  rw [h1, h2, f, f']
  have : qv k'.1 - qv k.1 ≠ 0 := by grind
  grind
theorem good_one {k : Kt} (n : Nf k.2) (z : k.1 = (0, 1)) : Good [k] := by
  refine good_firsts (ks' := [k]) good_even rfl (fun j k' e => ?_) (fun q hq => ?_)
  · have l := (List.getElem?_eq_some_iff.mp e).1
    rw [List.length_singleton] at l
    obtain rfl : j = 0 := by omega
    cases e
    exact ⟨_, rfl, z⟩
  · rw [List.mem_singleton] at hq
    subst hq
    exact n
theorem slp_one {k : Kt} (z : k.1 = (0, 1)) {y : Qt} (h : Slp [k] 0 y) : y = (1, 1) := by
  obtain ⟨n, a, b, e1, e2, e⟩ := h
  cases e1
  cases e2
  refine qv_inj n nf11 ?_
  rw [e]
  unfold slp
  show 1 + (qv k.2 - qv k.2) / (qv (1, 1) - qv k.1) = qv (1, 1)
  rw [z, qv01, qv11]
  grind
/-- two lists of the same knots -/
theorem eqv_kts {H : Hp} {a b : Addr} {n m : Nat} {xs ys : List V} {ks : List Kt} (oa : ob K H a = some (.lst xs)) (ob' : ob K H b = some (.lst ys)) (h1 : Kts K H n xs ks) (h2 : Kts K H m ys ks) (l8 : ks.length ≤ 8) : Eqv K H 3 (.ref a) (.ref b) := by
  have e1 := h1.1
  have e2 := h2.1
  refine .inr ⟨a, b, xs, ys, rfl, rfl, .inr ⟨oa, ob'⟩, by omega, by omega, fun i x y hx hy => ?_⟩
  obtain ⟨k, ek, t, a1, b1, rfl, o1, f1, g1⟩ := h1.at hx
  obtain ⟨k', ek', u, a2, b2, rfl, o2, f2, g2⟩ := h2.at hy
  rw [ek] at ek'
  cases ek'
  refine .inr ⟨t, u, _, _, rfl, rfl, .inl ⟨o1, o2⟩, rfl, by show 2 ≤ 1000; decide, fun j v w hv hw => ?_⟩
  match j, hv, hw with
  | 0, hv, hw =>
    cases hv
    cases hw
    exact eqv_fr1 f1.o f2.o
  | 1, hv, hw =>
    cases hv
    cases hw
    exact eqv_fr1 g1.o g2.o
  | j + 2, hv, _ => cases hv
theorem Kts.take1 {H : Hp} {n : Nat} {xs : List V} {ks : List Kt} {k0 : Kt} (h : Kts K H n xs ks) (e : ks[0]? = some k0) : Kts K H n (xs.take 1) [k0] := by
  have hl := h.1
  have l0 := (List.getElem?_eq_some_iff.mp e).1
  refine ⟨by rw [List.length_take]; show min 1 xs.length = 1; omega, fun i x k e1 e2 => ?_⟩
  have l := (List.getElem?_eq_some_iff.mp e2).1
  rw [List.length_singleton] at l
  obtain rfl : i = 0 := by omega
  cases e2
  rw [List.getElem?_take] at e1
  exact h.2 0 x k0 (by simpa using e1) e
def spLaw (K : PySem.W.Frag) : Sp := fun vs H Q _ => ∃ (a : Addr) (ns : List Int), vs = [.ref a] ∧ SqL K H a (ns.map V.int) ∧ ∀ H', Q (.bl true) H'
def LMid (sa s kl ol pa c1 c2 sl mo D : Addr) (H0 : Hp) (σ : L2.St) (H' : Hp) : Prop := σ = [some (V.ref sa), some (.ref s), some (.ref kl), some (.ref ol), some (.ref pa), some (.ref c1), some (.ref c2), some (.ref sl), some (.ref mo), some (.ref D), none, none, none, none] ∧ Same H0 H'
abbrev sLaw : Stmt := topS 57
theorem scLaw : FnScope ["_law_script", "_law_store_here", "_law_knots_here", "_law_others", "_law_passed", "_law_slot", "_law_other", "_law_slopes", "_law_more", "_law_raised", "_law_turned", "_law_place", "_law_lift", "_law_slope"] ["_law_script"] (defScope sLaw) := ⟨rfl, rfl, rfl, by decide +kernel, rfl, by decide +kernel, by decide +kernel⟩
theorem blk_scLaw_0 : BlkOk ["_law_script", "_law_store_here", "_law_knots_here", "_law_others", "_law_passed", "_law_slot", "_law_other", "_law_slopes", "_law_more", "_law_raised", "_law_turned", "_law_place", "_law_lift", "_law_slope"] (defScope sLaw) { kind := .function, names := [(".0", .local), ("_law_place", .local), ("_law_lift", .local), ("_law_plus", .globalImplicit), ("_law_more", .free)], isGenerator := false, isCoroutine := false, more := [] } [("_law_place", 11), ("_law_lift", 12)] := ⟨rfl, by decide +kernel, by decide +kernel, by decide +kernel, by decide +kernel⟩
theorem blk_scLaw_1 : BlkOk ["_law_script", "_law_store_here", "_law_knots_here", "_law_others", "_law_passed", "_law_slot", "_law_other", "_law_slopes", "_law_more", "_law_raised", "_law_turned", "_law_place", "_law_lift", "_law_slope"] (defScope sLaw) { kind := .function, names := [(".0", .local), ("_law_place", .local), ("_law_lift", .local)], isGenerator := false, isCoroutine := false, more := [] } [("_law_place", 11), ("_law_lift", 12)] := ⟨rfl, by decide +kernel, by decide +kernel, by decide +kernel, by decide +kernel⟩
theorem blk_scLaw_2 : BlkOk ["_law_script", "_law_store_here", "_law_knots_here", "_law_others", "_law_passed", "_law_slot", "_law_other", "_law_slopes", "_law_more", "_law_raised", "_law_turned", "_law_place", "_law_lift", "_law_slope"] (defScope sLaw) { kind := .function, names := [(".0", .local), ("_law_slope", .local), ("_law_minus", .globalImplicit)], isGenerator := false, isCoroutine := false, more := [] } [("_law_slope", 13)] := ⟨rfl, by decide +kernel, by decide +kernel, by decide +kernel, by decide +kernel⟩
theorem ok_law {C : Addr} {fa : Addr} {fd : FuncData} (F : Fun K "law" "law" sLaw fa fd) (T : Bt K mg) (mk1 : C8.Mak P w K mg base 6 "Slot" C (spSlInit K C) []) (m_slopes : C8.Met P w K mg base 5 C "slopes" (spSlopes K C) []) (pK : PropK P w K mg base 1 C "knots" (spKnots K C)) (d_even : Kn P w K mg base 8 "even_slot" [] (spEven K C)) (d_same4 : Kn P w K mg base 5 "_law_same" ["_law_told", "_law_due"] (spSame K 4)) (d__law_store : Kn P w K mg base 1 "_law_store" ["_law_script"] (spStore K)) (d__law_some_knots : Kn P w K mg base 6 "_law_some_knots" ["_law_store_here"] (spSome K)) (d__law_slopes_hold : Kn P w K mg base 7 "_law_slopes_hold" ["_law_store_here", "_law_slot", "_law_knots_here"] (spHold K C)) (d__law_no_zero : Kn P w K mg base 4 "_law_no_zero" ["_law_store_here"] (spDNz K)) (d__law_plus : Kn P w K mg base 3 "_law_plus" ["_law_left", "_law_right"] (spBin K sum2)) (d__law_minus : Kn P w K mg base 3 "_law_minus" ["_law_left", "_law_right"] (spBin K dif2)) (d__law_fits : Kn P w K mg base 4 "_law_fits" ["_law_thing"] (spFitsK K)) (d__law_same : Kn P w K mg base 4 "_law_same" ["_law_told", "_law_due"] (spSame K 3)) : FnOk P w K mg base CX0 9 fa fd ["_law_script"] (spLaw K) := by
  refine F.ok scLaw (fun vs H Q E h => ?_) (fun cdv A outer s H vs Q E hr h => ?_)
  · obtain ⟨sa, ns, rfl, _⟩ := h
    rfl
  obtain ⟨sa, ns, rfl, hsa, q⟩ := h
  refine ⟨_, (pss_cons (ps_set (i := 1) scLaw.nd rfl (.inl rfl) (pe_kn d__law_store hr (by rfl) (pa_cons (pv 0) pa_nil)))
      (pss_cons (ps_set (i := 2) scLaw.nd rfl (.inl rfl) (pe_kn d__law_some_knots hr (by rfl) (pa_cons (pv 1) pa_nil)))
      (pss_cons (ps_set (i := 3) scLaw.nd rfl (.inl rfl) (pe_kn d__law_some_knots hr (by rfl) (pa_cons (pv 1) pa_nil)))
      (pss_cons (ps_set (i := 4) scLaw.nd rfl (.inl rfl) (pe_fr (pe_callTy call_list_of (by rfl) T.b_list (by decide +kernel) (pa_cons (pv 2) pa_nil))))
      (pss_cons (ps_set (i := 5) scLaw.nd rfl (.inl rfl) (C8.pe_mk mk1 hr (by omega) (by rfl) (pa_cons (pv 4) pa_nil)))
      (pss_cons (ps_expr (pe_bm0 PySem.F.plainAttrs_list PySem.F.slot_list_reverse PySem.F.type_list_reverse mt_reverse (pv 4)))
      (pss_cons (ps_set (i := 6) scLaw.nd rfl (.inl rfl) (C8.pe_mk mk1 hr (by omega) (by rfl) (pa_cons (pe_fr (pe_callTy call_list_of (by rfl) T.b_list (by decide +kernel) (pa_cons (pv 3) pa_nil))) pa_nil)))
      (pss_cons (ps_if (PW.pt (pw_or (pt_not (pt_val (pe_kn d__law_slopes_hold hr (by rfl) (pa_cons (pv 1) (pa_cons (pv 5) (pa_cons (pv 2) pa_nil)))))) (pw_or1 (pt_not (pt_val (pe_kn d__law_slopes_hold hr (by rfl) (pa_cons (pv 1) (pa_cons (pv 6) (pa_cons (pv 3) pa_nil))))))))) (pss_one (ps_ret pe_bl)) pss_nil)
      (pss_cons (ps_set (i := 7) scLaw.nd rfl (.inl rfl) (C8.pe_mt0 m_slopes hr (by omega) (pv 5)))
      (pss_cons (ps_set (i := 8) scLaw.nd rfl (.inr rfl) (pe_kn d__law_no_zero hr (by rfl) (pa_cons (pv 1) pa_nil)))
      (pss_cons (ps_setLcF (i := 9) (own := [("_law_place", 11), ("_law_lift", 12)]) (g := gTup K 2 (gCons (gName 11) (gCons (gName 12) gNil))) (te := (tTp K (tCons (tVar 11) (tCons (tCall (spBin K sum2) [] E0 (tCons (tVar 12) (tCons (tVar 8) L2.tNil))) L2.tNil)))) rfl scLaw.nd rfl rfl (sw_true rfl rfl rfl rfl) (pi_list (pv 2)) blk_scLaw_0 (fun _ _ _ _ _ => by exact pg_tup rfl (pgs_cons (pg_name (i := 11) scLaw.nd rfl (.inl rfl)) (pgs_cons (pg_name (i := 12) scLaw.nd rfl (.inl rfl)) pgs_nil))) (fun _ _ _ _ _ => pts_nil) (fun _ _ _ _ _ => by exact (pe_tp (pa_cons (pv 11) (pa_cons (pe_kn d__law_plus hr (by rfl) (pa_cons (pv 12) (pa_cons (pv 8) pa_nil))) pa_nil)))))
      (C8.pss_cut (ps_if (PW.pt (pw_and (pt_val (pe_kn d__law_fits hr (by rfl) (pa_cons (pv 9) pa_nil))) (pw_and1 (pt_not (pt_val (pe_kn d__law_same hr (by rfl) (pa_cons (C8.pe_mt0 m_slopes hr (by omega) (C8.pe_mk mk1 hr (by omega) (by rfl) (pa_cons (pe_fr (pe_callTy call_list_of (by rfl) T.b_list (by decide +kernel) (pa_cons (pv 9) pa_nil))) pa_nil))) (pa_cons (pv 7) pa_nil)))))))) (pss_one (ps_ret pe_bl)) pss_nil)
      (pss_cons (ps_setLcF (i := 10) (own := [("_law_place", 11), ("_law_lift", 12)]) (g := gTup K 2 (gCons (gName 11) (gCons (gName 12) gNil))) (te := (tTp K (tCons (tVar 11) (tCons (tTp K (tCons (tUn (rU fun i => V.int (-i)) (tOp (rIxA K) (tVar 12) (tC (.int 0)))) (tCons (tOp (rIxA K) (tVar 12) (tC (.int 1))) L2.tNil))) L2.tNil)))) rfl scLaw.nd rfl rfl (sw_true rfl rfl rfl rfl) (pi_list (pv 2)) blk_scLaw_1 (fun _ _ _ _ _ => by exact pg_tup rfl (pgs_cons (pg_name (i := 11) scLaw.nd rfl (.inl rfl)) (pgs_cons (pg_name (i := 12) scLaw.nd rfl (.inl rfl)) pgs_nil))) (fun _ _ _ _ _ => pts_nil) (fun _ _ _ _ _ => by exact (pe_tp (pa_cons (pv 11) (pa_cons (pe_tp (pa_cons (pe_un un_neg (pe_ix ix_any (pv 12) pe_int (fun _ _ => rfl))) (pa_cons (pe_ix ix_any (pv 12) pe_int (fun _ _ => rfl)) pa_nil))) pa_nil)))))
      (pss_cons (ps_if (pt_not (pt_val (pe_kn d__law_same hr (by rfl) (pa_cons (C8.pe_mt0 m_slopes hr (by omega) (C8.pe_mk mk1 hr (by omega) (by rfl) (pa_cons (pe_fr (pe_callTy call_list_of (by rfl) T.b_list (by decide +kernel) (pa_cons (pv 10) pa_nil))) pa_nil))) (pa_cons (pe_fr (pe_lc (own := [("_law_slope", 13)]) (g := gName 13) (te := (tCall (spBin K dif2) [] E0 (tCons (tTp K (tCons (tC (.int 2)) (tCons (tC (.int 1)) L2.tNil))) (tCons (tVar 13) L2.tNil)))) rfl scLaw.nd (pi_list (pv 7)) blk_scLaw_2 (fun _ _ _ _ _ => by exact pg_name (i := 13) scLaw.nd rfl (.inl rfl)) (fun _ _ _ _ _ => pts_nil) (fun _ _ _ _ _ => by exact (pe_kn d__law_minus hr (by rfl) (pa_cons (pe_tp (pa_cons pe_int (pa_cons pe_int pa_nil))) (pa_cons (pv 13) pa_nil)))))) pa_nil))))) (pss_one (ps_ret pe_bl)) pss_nil)
      (pss_cons (ps_if (PW.pt (pw_or (pt_not (pt_val (pe_kn d__law_same hr (by rfl) (pa_cons (C8.pe_mt0 m_slopes hr (by omega) (pe_kn0 d_even hr (by rfl))) (pa_cons (pe_ls (pa_cons (pe_tp (pa_cons pe_int (pa_cons pe_int pa_nil))) pa_nil)) pa_nil))))) (pw_or1 (pt_not (pt_val (pe_kn d__law_same hr (by rfl) (pa_cons (C8.pe_mt0 m_slopes hr (by omega) (C8.pe_mk mk1 hr (by omega) (by rfl) (pa_cons (pe_fr (pe_slice sl_list (pv 2) po_none (po_some pe_int))) pa_nil))) (pa_cons (pe_ls (pa_cons (pe_tp (pa_cons pe_int (pa_cons pe_int pa_nil))) pa_nil)) pa_nil)))))))) (pss_one (ps_ret pe_bl)) pss_nil)
      (pss_one (ps_ret (pe_and (pe_kn d__law_slopes_hold hr (by rfl) (pa_cons (pv 1) (pa_cons (pv 5) (pa_cons (pv 2) pa_nil)))) (pe_one (pe_kn d_same4 hr (by rfl) (pa_cons (pe_propK pK hr (by omega) (pv 5)) (pa_cons (pv 2) pa_nil)))))))))))))))))))))), ?_⟩
  refine ⟨_, rfl, sa, ns, rfl, hsa, fun s H1 s1 st1 => ?_⟩
  refine ⟨_, rfl, s, rfl, st1, fun kl xs ks H2 hl1 kk1 h1 kt1 g1 l81 kp2 st2 => ?_⟩
  refine ⟨_, rfl, s, rfl, st2, fun ol ys os H3 hl2 kk2 h2 kt2 g2 l82 kp3 st3 => ?_⟩
  have nk1 : kl ≠ s := st1.ne' hl1
  have nk2 : ol ≠ s := st2.ne' hl2
  have h13 := kp3 _ _ nk1 h1
  have kt13 := kt1.kps kp3 st2
  refine ⟨_, rfl, kl, xs, rfl, .inl (.of h13), fun pa hP frP => ?_⟩
  have s4 := Same.new hP (.lst xs)
  have hpa : upd H3 pa (.lst xs) pa = some (.lst xs) := upd_same
  have kpa : K.lookup pa = none := frP pa (by rw [upd_same]; simp)
  generalize upd H3 pa (.lst xs) = H4 at s4 hpa ⊢
  clear frP
  refine ⟨_, rfl, fun c1 dx1 hcn hdn hne => ?_⟩
  refine ⟨H4, c1, dx1, pa, xs, ks, 134, rfl, same_make hcn hdn, hcn, upd_same, (ob_none kpa).trans hpa, kt13.same s4, g1, l81, by omega, fun H5 s5 sl1 => ⟨rfl, ?_⟩⟩
  clear hcn hdn hne
  have st5 := st3.same (s4.trans s5)
  have hpa5 := s5 _ _ hpa
  have kp35 : Kp s H3 H5 := Kp.same (s4.trans s5)
  obtain ⟨m1, m2⟩ := st3.mut (o := .lst xs.reverse) hP kp35 st5
  refine ⟨_, rfl, .inl ⟨rfl, _, .of hpa5⟩, pa, xs, rfl, rfl, hpa5, ?_⟩
  have n1p : kl ≠ pa := ne_of_none h13 hP
  have n2p : ol ≠ pa := ne_of_none h2 hP
  have h16 : upd H5 pa (.lst xs.reverse) kl = some (.lst xs) := by
    rw [upd_ne n1p]
    exact (s4.trans s5) _ _ h13
  have h26 : upd H5 pa (.lst xs.reverse) ol = some (.lst ys) := by
    rw [upd_ne n2p]
    exact (s4.trans s5) _ _ h2
  have kt16 := (kt13.same (s4.trans s5)).put (o := .lst xs.reverse) hpa5
  have kt26 := (kt2.same (s4.trans s5)).put (o := .lst xs.reverse) hpa5
  have sl16 := sl1.put (o := .lst xs.reverse) hpa5
  generalize upd H5 pa (.lst xs.reverse) = H6 at m1 m2 h16 h26 kt16 kt26 sl16 ⊢
  clear m2 kp35 hpa5 st5 sl1 s5 s4 hpa kt13 kt1 kt2 h13 h1 h2 kp2 kp3 st1 st2 st3 s1 hP
  refine ⟨_, rfl, ol, ys, rfl, .inl (.of h26), fun po hP2 frP => ?_⟩
  have s7 := Same.new hP2 (.lst ys)
  have hpo : upd H6 po (.lst ys) po = some (.lst ys) := upd_same
  have kpo : K.lookup po = none := frP po (by rw [upd_same]; simp)
  generalize upd H6 po (.lst ys) = H7 at s7 hpo ⊢
  clear frP
  intro c2 dx2 hcn hdn hne
  refine ⟨H7, c2, dx2, po, ys, os, 134, rfl, same_make hcn hdn, hcn, upd_same, (ob_none kpo).trans hpo, kt26.same s7, g2, l82, by omega, fun H8 s8 sl2 => ⟨rfl, ?_⟩⟩
  clear hcn hdn hne
  have s78 := s7.trans s8
  have st8 := m1.same s78
  have h18 := s78 _ _ h16
  have h28 := s78 _ _ h26
  have kt18 := kt16.same s78
  have kt28 := kt26.same s78
  have sl18 := sl16.same s78
  clear s7 s8 s78 h16 h26 kt16 kt26 sl16 m1 hpo
  refine ⟨_, rfl, _, rfl, _, rfl, s, c1, kl, xs, ks, 134, rfl, st8, sl18, g1, l81, by omega, by omega, h18, kk1, nk1, kt18, fun H9 kp9 st9 => ?_⟩
  have h29 := kp9 _ _ nk2 h28
  have kt29 := kt28.kps kp9 st8
  have sl29 := sl2.kps kp9 st8
  refine ⟨_, rfl, _, rfl, _, rfl, _, rfl, s, c2, ol, ys, os, 134, rfl, st9, sl29, g2, l82, by omega, by omega, h29, kk2, nk2, kt29, fun HA kpA stA => ⟨_, rfl, if_no rfl ?_⟩⟩
  have kpT := kp9.trans kpA
  have h1A := kpT _ _ nk1 h18
  have kt1A := kt18.kps kpT st8
  have sl1A := sl18.kps kpT st8
  clear kp9 kpA kpT st9 st8 h18 kt18 sl18 h28 kt28 sl2 h29 kt29 sl29
  obtain ⟨dxA, tA, usA, hiA, _, _⟩ := id sl1A
  refine ⟨_, rfl, c1, dxA, _, rfl, hiA, rfl, c1, ks, 134, rfl, sl1A, g1, l81, by omega, by omega, fun sl acc HB hlS kS hS sB la sL => ?_⟩
  have h1B := sB _ _ h1A
  have kt1B := kt1A.same sB
  have sl1B := sl1A.same sB
  have stB := stA.same sB
  refine ⟨_, rfl, s, rfl, stB, fun mo qm HC fm nz kpC stC => ?_⟩
  have h1C := kpC _ _ nk1 h1B
  have kt1C := kt1B.kps kpC stB
  have sl1C := sl1B.kps kpC stB
  have sLC := sL.kps kpC stB
  have nS : sl ≠ s := stA.ne' hlS
  have hSC := kpC _ _ nS hS
  clear h1A kt1A sl1A stA sB hlS hS sL h1B kt1B sl1B stB kpC
  have lk := kt1C.1
  refine ⟨_, rfl, kl, rfl, ⟨xs, .of h1C⟩, fun D hD => lc_list (xs := xs) (fun i H' => ∃ acc2 rs, H' D = some (.lst acc2) ∧ Fst ks i rs ∧ Kts K H' 150 acc2 rs ∧ Same HC H' ∧ ∀ (j : Nat) k r, ks[j]? = some k → rs[j]? = some r → Up (qv qm) (qv k.2) (qv r.2)) ⟨[], [], upd_same, Fst.nil ks, ⟨rfl, fun i x k e => (by simp at e)⟩, Same.new hD _, fun j k r e e2 => (by simp at e2)⟩ (fun i H' _ ⟨_, _, _, _, _, h, _⟩ => .of (h _ _ h1C)) ?_ ?_⟩
  · rintro m x H' hx ⟨acc2, rs, ha, hf, hk, sD, hv⟩
    obtain ⟨kk, ek, t, a, b, rfl, ot, fa, fb⟩ := (kt1C.same sD).at hx
    refine ⟨t, _, rfl, ob_tup ot, rfl, _, _, rfl, _, _, rfl, rfl, rfl, ?_⟩
    simp only [tYes, if_true]
    refine ⟨_, rfl, _, rfl, _, rfl, av_sum fb (fm.same sD) fun r ra H2 er s2 fr => ⟨sz2 (by show 2 ≤ 100; decide), fun p hp kp => ?_⟩⟩
    have s3 := Same.new hp (.tup [.ref a, .ref ra])
    have op := ob_new (H := H2) (o := .tup [.ref a, .ref ra]) kp
    have s23 := s2.trans s3
    have ha3 := s23 _ _ ha
    have hk3 := hk.same s23
    have fa3 := fa.same s23
    have fr3 := fr.same s3
    have sD3 := sD.trans s23
    generalize upd H2 p (.tup [.ref a, .ref ra]) = H3 at op ha3 hk3 fa3 fr3 sD3 ⊢
    have la2 := hk.1
    have lf := hf.len
    have li := (List.getElem?_eq_some_iff.mp ek).1
    refine ⟨acc2, ha3, by rw [sizeLine_eq]; omega, acc2 ++ [.ref p], rs ++ [(kk.1, r)], upd_same, hf.snoc ek fr.nf, Kts.snoc (k := (kk.1, r)) hk3 ha3 ⟨p, a, ra, rfl, op, fa3.mono (by omega), fr3.mono (by omega)⟩, fun b' o e => ?_, val_snoc lf ek hv er⟩
    rw [upd_ne (ne_of_none e hD)]
    exact sD3 _ _ e
  · rintro HD ⟨accR, rs, hR, hf, hkR, sD, hv⟩ frR
    rw [lk] at hf
    have kD : K.lookup D = none := frR D (by rw [hR]; simp)
    have gR := good_firsts g1 hf.len hf.fst hf.nf
    have lR := hf.len
    have LR : Lft (Up (qv qm)) ks rs := ⟨hf, hv⟩
    have lKR := hkR.1
    have sLD := sLC.same sD
    have hSD := sD _ _ hSC
    clear frR
    refine ⟨LMid sa s kl ol pa c1 c2 sl mo D HD, ?_, ?_⟩
    · refine ⟨_, rfl, D, accR, rs, 150, rfl, hR, kD, hkR, fun b HE sE => ⟨b, rfl, ?_⟩⟩
      cases b with
      | false => exact if_no rfl ⟨rfl, sE⟩
      | true =>
        refine if_yes rfl ?_
        refine ⟨_, rfl, D, accR, rfl, .inl (.of (sE _ _ hR)), fun l2 hl2' fr2 => ?_⟩
        have s2 := Same.new hl2' (.lst accR)
        have h2' : upd HE l2 (.lst accR) l2 = some (.lst accR) := upd_same
        have k2' : K.lookup l2 = none := fr2 l2 (by rw [upd_same]; simp)
        have sE2 := sE.trans s2
        generalize upd HE l2 (.lst accR) = HF at s2 h2' sE2 ⊢
        intro c dx hcn hdn hne
        refine ⟨HF, c, dx, l2, accR, rs, 150, rfl, same_make hcn hdn, hcn, upd_same, (ob_none k2').trans h2', hkR.same sE2, gR, by omega, by omega, fun HG sG sl3 => ⟨rfl, ?_⟩⟩
        obtain ⟨dxB, tB, usB, hiB, _, _⟩ := id sl3
        refine ⟨c, dxB, _, rfl, hiB, rfl, c, rs, 150, rfl, sl3, gR, by omega, by omega, by omega, fun l3 acc3 HI hl3 kl3 h3' sI la3 sL3 => ?_⟩
        have sAll := sE2.trans (sG.trans sI)
        refine ⟨_, rfl, _, _, rfl, eqv_frs ((ob_none kl3).trans h3') ((ob_none kS).trans (sAll _ _ hSD)) (by omega) (by omega) fun i x y ex ey => ?_, fun HJ sJ => ⟨_, rfl, if_no rfl ⟨rfl, sAll.trans sJ⟩⟩⟩
        obtain ⟨a1, z1, rfl, f1, p1⟩ := sL3 i x ex
        obtain ⟨a2, z2, rfl, f2, p2⟩ := (sLD.same sAll) i y ey
        obtain ⟨k, k', r, r', lt, e1, e2, q1, q2, q3, q4⟩ := LR.slp g1 p2 p1
        have ez : z1 = z2 := qv_inj f1.nf f2.nf (by rw [e1, e2]; exact up_slp q1 q2 q3 q4)
        exact ⟨a1, a2, z1, _, _, rfl, rfl, f1, by rw [ez]; exact f2⟩
    · rintro σ HE ⟨rfl, sE⟩
      have sDE := sD.trans sE
      have h1E := sDE _ _ h1C
      have kt1E := kt1C.same sDE
      have sl1E := sl1C.same sDE
      have sLE := sLD.same sE
      have hSE := sE _ _ hSD
      have stE := stC.same sDE
      clear hR hf hkR hv LR gR lR lKR h1C kt1C sl1C sLC hSC sLD hSD stC sD sE sDE
      refine ⟨_, rfl, kl, rfl, ⟨xs, .of h1E⟩, fun D1 hD1 => lc_list (xs := xs) (fun i H' => ∃ acc2 rs, H' D1 = some (.lst acc2) ∧ Fst ks i rs ∧ Kts K H' 150 acc2 rs ∧ Same HE H' ∧ ∀ (j : Nat) k r, ks[j]? = some k → rs[j]? = some r → Ng (qv k.2) (qv r.2)) ⟨[], [], upd_same, Fst.nil ks, ⟨rfl, fun i x k e => (by simp at e)⟩, Same.new hD1 _, fun j k r e e2 => (by simp at e2)⟩ (fun i H' _ ⟨_, _, _, _, _, h, _⟩ => .of (h _ _ h1E)) ?_ ?_⟩
      · rintro m x H' hx ⟨acc2, rs, ha, hf, hk, sD, hv⟩
        obtain ⟨kk, ek, t, a, b, rfl, ot, fa, fb⟩ := (kt1E.same sD).at hx
        refine ⟨t, _, rfl, ob_tup ot, rfl, _, _, rfl, _, _, rfl, rfl, rfl, ?_⟩
        simp only [tYes, if_true]
        refine ⟨_, rfl, _, rfl, b, 0, rfl, rfl, _, itsO_of fb.o, _, atI_0 _ _, _, rfl, _, rfl, b, 1, rfl, rfl, _, itsO_of fb.o, _, atI_1 _ _ _, sz2 (by show 2 ≤ 100; decide), fun p1 hp1 kp1 => ⟨sz2 (by show 2 ≤ 100; decide), fun p hp kp => ?_⟩⟩
        have s2 := Same.new hp1 (.tup [.int (-kk.2.1), .int kk.2.2])
        have o2 := ob_new (H := H') (o := .tup [.int (-kk.2.1), .int kk.2.2]) kp1
        have hp' : upd H' p1 (.tup [.int (-kk.2.1), .int kk.2.2]) p = none := hp
        have fr2 : Fq K (upd H' p1 (.tup [.int (-kk.2.1), .int kk.2.2])) 134 p1 (-kk.2.1, kk.2.2) := ⟨o2, nf_neg fb.nf, by show (-kk.2.1).natAbs < 2 ^ 134; rw [Int.natAbs_neg]; exact fb.sz.1, fb.sz.2⟩
        have s3 := Same.new hp' (.tup [.ref a, .ref p1])
        have op := ob_new (H := upd H' p1 (.tup [.int (-kk.2.1), .int kk.2.2])) (o := .tup [.ref a, .ref p1]) kp
        have s23 := s2.trans s3
        have ha3 := s23 _ _ ha
        have hk3 := hk.same s23
        have fa3 := fa.same s23
        have fr3 := fr2.same s3
        have sD3 := sD.trans s23
        refine ⟨acc2, ha3, by have := hk.1; have := hf.len; have := (List.getElem?_eq_some_iff.mp ek).1; rw [sizeLine_eq]; omega, acc2 ++ [.ref p], rs ++ [(kk.1, (-kk.2.1, kk.2.2))], upd_same, hf.snoc ek fr2.nf, Kts.snoc (k := (kk.1, (-kk.2.1, kk.2.2))) hk3 ha3 ⟨p, a, p1, rfl, op, fa3.mono (by omega), fr3.mono (by omega)⟩, fun b' o e => ?_, val_snoc hf.len ek hv (qv_neg kk.2)⟩
        rw [upd_ne (ne_of_none e hD1)]
        exact sD3 _ _ e
      · rintro HF ⟨accT, rs, hT, hf, hkT, sF, hv⟩ frT
        rw [lk] at hf
        have gT := good_firsts g1 hf.len hf.fst hf.nf
        have lT := hf.len
        have LT : Lft Ng ks rs := ⟨hf, hv⟩
        have lKT := hkT.1
        refine ⟨_, rfl, D1, accT, rfl, .inl (.of hT), fun l2 hl2' fr2 => ?_⟩
        have s2 := Same.new hl2' (.lst accT)
        have h2' : upd HF l2 (.lst accT) l2 = some (.lst accT) := upd_same
        have k2' : K.lookup l2 = none := fr2 l2 (by rw [upd_same]; simp)
        generalize upd HF l2 (.lst accT) = HG at s2 h2' ⊢
        clear fr2 frT
        intro c dx hcn hdn hne
        refine ⟨HG, c, dx, l2, accT, rs, 150, rfl, same_make hcn hdn, hcn, upd_same, (ob_none k2').trans h2', hkT.same s2, gT, by omega, by omega, fun HH sG sl3 => ⟨rfl, ?_⟩⟩
        clear hcn hdn hne
        obtain ⟨dxB, tB, usB, hiB, _, _⟩ := id sl3
        refine ⟨c, dxB, _, rfl, hiB, rfl, c, rs, 150, rfl, sl3, gT, by omega, by omega, by omega, fun l3 acc3 HI hl3 kl3 h3' sI la3 sL3 => ?_⟩
        have sAll := sF.trans (s2.trans (sG.trans sI))
        have hSI := sAll _ _ hSE
        have sLI := sLE.same sAll
        refine ⟨_, rfl, sl, rfl, ⟨acc, .of hSI⟩, fun D3 hD3 => lc_list (xs := acc) (fun i H' => ∃ ms, H' D3 = some (.lst ms) ∧ ms.length = i ∧ Same HI H' ∧ ∀ (j : Nat) x, ms[j]? = some x → ∃ a z zk, x = .ref a ∧ Fq K H' 700 a z ∧ Slp ks j zk ∧ qv z = 2 - qv zk) ⟨[], upd_same, rfl, Same.new hD3 _, fun j x e => (by simp at e)⟩ (fun i H' _ ⟨_, _, _, h, _⟩ => .of (h _ _ hSI)) ?_ ?_⟩
        · rintro m x H' hx ⟨ms, hms, lm, sM, hm⟩
          obtain ⟨a, z, rfl, fz, pz⟩ := (sLI.same sM) m x hx
          refine ⟨rfl, ?_⟩
          simp only [tYes, if_true]
          refine ⟨sz2 (by show 2 ≤ 100; decide), fun p hp kp => ?_⟩
          have s3 := Same.new hp (.tup [.int 2, .int 1])
          have o3 := ob_new (H := H') (o := .tup [.int 2, .int 1]) kp
          generalize upd H' p (.tup [.int 2, .int 1]) = H2 at s3 o3 ⊢
          have f2 : Fq K H2 2 p (2, 1) := ⟨o3, nf21, by decide, by decide⟩
          refine ⟨_, rfl, av_dif f2 (fz.same s3) fun d da H3 ed s4 fd => ?_⟩
          have hms3 := (s3.trans s4) _ _ hms
          have li := (List.getElem?_eq_some_iff.mp hx).1
          refine ⟨ms, hms3, by rw [sizeLine_eq]; omega, ms ++ [.ref da], upd_same, by rw [List.length_append, lm]; rfl, fun b o e => ?_, fun j x e => ?_⟩
          · rw [upd_ne (ne_of_none e hD3)]
            exact (s3.trans s4) _ _ (sM _ _ e)
          · rcases Nat.lt_or_ge j ms.length with l | l
            · rw [List.getElem?_append_left l] at e
              obtain ⟨a1, z1, zk, e1, f1, p1, e2⟩ := hm j x e
              exact ⟨a1, z1, zk, e1, (f1.same (s3.trans s4)).put hms3, p1, e2⟩
            · rw [List.getElem?_append_right l] at e
              have := (List.getElem?_eq_some_iff.mp e).1
              rw [List.length_singleton] at this
              rw [show j - ms.length = 0 by omega] at e
              cases e
              exact ⟨da, d, z, rfl, (fd.mono (by omega)).put hms3, by rw [show j = m by omega]; exact pz, by rw [ed, qv21]⟩
        · rintro HJ ⟨ms, hms, lm, sM, hm⟩ frM
          have kM : K.lookup D3 = none := frM D3 (by rw [hms]; simp)
          have sIJ := sM
          refine ⟨_, _, rfl, eqv_frs ((ob_none kl3).trans (sIJ _ _ h3')) ((ob_none kM).trans hms) (by omega) (by omega) fun i x y ex ey => ?_, fun HK sK => ⟨_, rfl, if_no rfl ?_⟩⟩
          · obtain ⟨a1, z1, rfl, f1, p1⟩ := (sL3.same sIJ) i x ex
            obtain ⟨a2, z2, zk, rfl, f2, p2, e2⟩ := hm i y ey
            obtain ⟨k, k', r, r', lt, q0, q00, q1, q2, q3, q4⟩ := LT.slp g1 p2 p1
            have ez : z1 = z2 := qv_inj f1.nf f2.nf (by rw [q00, e2, q0]; exact ng_slp q1 q2 q3 q4 lt)
            exact ⟨a1, a2, z1, _, _, rfl, rfl, f1, by rw [ez]; exact f2⟩
          have sEK := sAll.trans (sIJ.trans sK)
          have h1K := sEK _ _ h1E
          have kt1K := kt1E.same sEK
          have sl1K := sl1E.same sEK
          have stK := stE.same sEK
          clear hT hf hkT hv gT lT LT lKT s2 h2' k2' sG sl3 hiB hl3 h3' sL3 hSI sLI hms hm frM sM sIJ sK sEK h1E kt1E sl1E sLE hSE stE sAll sI sF
          obtain ⟨k0, ek0, _, _, z0'⟩ := ext_last g1
          have n0 := g1.nf k0 (List.mem_of_getElem? ek0)
          refine ⟨rfl, fun cE HL sEv slE => ?_⟩
          obtain ⟨dxE, tE, usE, hiE, _, _⟩ := id slE
          refine ⟨cE, dxE, _, rfl, hiE, rfl, cE, _, 1, rfl, slE, good_even, by decide, by omega, by omega, fun lE accE HM hlE klE hE' sM laE sLE => ?_⟩
          have laE : accE.length = 1 := laE
          clear hiE slE
          refine ⟨sz2 (by show 2 ≤ 100; decide), fun p hp kp => ⟨sz2 (by show 1 ≤ 100; decide), fun p2 hp2 kp2 => ?_⟩⟩
          have w1 := Same.new hp (.tup [.int 1, .int 1])
          have y1 := ob_new (H := HM) (o := .tup [.int 1, .int 1]) kp
          generalize upd HM p (.tup [.int 1, .int 1]) = HM1 at w1 y1 hp2 ⊢
          have w2 := Same.new hp2 (.lst [.ref p])
          have y2 := ob_new (H := HM1) (o := .lst [.ref p]) kp2
          generalize upd HM1 p2 (.lst [.ref p]) = HM2 at w2 y2 ⊢
          have fp : Fq K HM2 1 p (1, 1) := ⟨ob_same w2 y1, nf11, sz11 (Nat.le_refl 1)⟩
          have w12 := w1.trans w2
          refine ⟨_, _, rfl, eqv_frs ((ob_none klE).trans (w12 _ _ hE')) y2 laE (by have := laE; rw [this]; decide) fun i x y ex ey => ?_, fun HM3 w3 => ?_⟩
          · have li := (List.getElem?_eq_some_iff.mp ey).1
            rw [List.length_singleton] at li
            obtain rfl : i = 0 := by omega
            cases ey
            obtain ⟨a1, z1, rfl, f1, p1⟩ := (sLE.same w12) 0 x ex
            obtain rfl := slp_one (k := ((0, 1), (0, 1))) rfl p1
            exact ⟨a1, p, (1, 1), _, _, rfl, rfl, f1, fp⟩
          have sKM := sEv.trans (sM.trans (w12.trans w3))
          have h1N := sKM _ _ h1K
          have kt1N := kt1K.same sKM
          have sl1N := sl1K.same sKM
          have stN := stK.same sKM
          clear sEv sM w12 w3 w1 w2 y1 y2 fp sLE hE' h1K kt1K sl1K stK sKM hlE
          have lk1 : 1 ≤ xs.length := by have := g1.one; omega
          refine ⟨_, rfl, _, rfl, _, rfl, kl, xs, rfl, .of h1N, ?_⟩
          have ec : cutV xs none (some ((fun i => i) 1)) = xs.take 1 := cut_to xs 1 lk1
          rw [show cutV xs none (some 1) = xs.take 1 from ec]
          intro l5 hl5 fr5
          have s5' := Same.new hl5 (.lst (xs.take 1))
          have h5' : upd HM3 l5 (.lst (xs.take 1)) l5 = some (.lst (xs.take 1)) := upd_same
          have k5' : K.lookup l5 = none := fr5 l5 (by rw [upd_same]; simp)
          generalize upd HM3 l5 (.lst (xs.take 1)) = HO1 at s5' h5' ⊢
          clear fr5
          intro c dx hcn hdn hne
          refine ⟨HO1, c, dx, l5, _, [k0], 134, rfl, same_make hcn hdn, hcn, upd_same, (ob_none k5').trans h5', (kt1N.take1 ek0).same s5', good_one n0.2 z0', by show 1 ≤ 8; decide, by omega, fun HP sG sl5 => ⟨rfl, ?_⟩⟩
          clear hcn hdn hne
          obtain ⟨dx5, t5, us5, hi5, _, _⟩ := id sl5
          refine ⟨c, dx5, _, rfl, hi5, rfl, c, [k0], 134, rfl, sl5, good_one n0.2 z0', by show 1 ≤ 8; decide, by omega, by omega, fun l6 acc6 HQ hl6 kl6 h6' sQ la6 sL6 => ?_⟩
          have la6 : acc6.length = 1 := la6
          refine ⟨sz2 (by show 2 ≤ 100; decide), fun p hp kp => ⟨sz2 (by show 1 ≤ 100; decide), fun p2 hp2 kp2 => ?_⟩⟩
          have w1 := Same.new hp (.tup [.int 1, .int 1])
          have y1 := ob_new (H := HQ) (o := .tup [.int 1, .int 1]) kp
          generalize upd HQ p (.tup [.int 1, .int 1]) = HQ1 at w1 y1 hp2 ⊢
          have w2 := Same.new hp2 (.lst [.ref p])
          have y2 := ob_new (H := HQ1) (o := .lst [.ref p]) kp2
          generalize upd HQ1 p2 (.lst [.ref p]) = HQ2 at w2 y2 ⊢
          have fp : Fq K HQ2 1 p (1, 1) := ⟨ob_same w2 y1, nf11, sz11 (Nat.le_refl 1)⟩
          have w12 := w1.trans w2
          refine ⟨_, _, rfl, eqv_frs ((ob_none kl6).trans (w12 _ _ h6')) y2 la6 (by have := la6; rw [this]; decide) fun i x y ex ey => ?_, fun HQ3 w3 => ?_⟩
          · have li := (List.getElem?_eq_some_iff.mp ey).1
            rw [List.length_singleton] at li
            obtain rfl : i = 0 := by omega
            cases ey
            obtain ⟨a1, z1, rfl, f1, p1⟩ := (sL6.same w12) 0 x ex
            obtain rfl := slp_one z0' p1
            exact ⟨a1, p, (1, 1), _, _, rfl, rfl, f1, fp⟩
          have sNX := s5'.trans (sG.trans (sQ.trans (w12.trans w3)))
          have h1X := sNX _ _ h1N
          have kt1X := kt1N.same sNX
          have sl1X := sl1N.same sNX
          have stX := stN.same sNX
          clear h1N kt1N sl1N stN w12 w3 w1 w2 y1 y2 fp sL6 h6' sNX hl6 sl5 hi5 h5'
          refine ⟨_, rfl, if_no rfl ?_⟩
          refine ⟨_, rfl, _, rfl, _, rfl, s, c1, kl, xs, ks, 134, rfl, stX, sl1X, g1, l81, by omega, by omega, h1X, kk1, nk1, kt1X, fun HY kpY stY => ⟨_, rfl, if_yes rfl ?_⟩⟩
          have h1Y := kpY _ _ nk1 h1X
          have kt1Y := kt1X.kps kpY stX
          have sl1Y := sl1X.kps kpY stX
          obtain ⟨dx7, t7, us7, hi7, _, _⟩ := id sl1Y
          refine ⟨_, rfl, c1, dx7, _, rfl, hi7, c1, ks, 134, rfl, sl1Y, fun lP xsP HZ hlP klP hP' sP ktP => ?_⟩
          exact ⟨_, rfl, _, _, rfl, eqv_kts ((ob_none klP).trans hP') ((ob_none kk1).trans (sP _ _ h1Y)) ktP (kt1Y.same sP) l81, fun HW _ => q HW⟩

end
end My

namespace My
open PySem PySem.Spec PyProof.Rows L2
theorem ob_con {K : PySem.W.Frag} {z : Addr} {dd : Option Addr} {x y : Int} {t0 t1 : Tok} {n : Nat} {sl : Array (Option Value)} (h : K.lookup z = some ⟨.type "tuple", dd, .seq #[.int x t0, .int y t1] n, sl⟩) (H : Hp) : ob K H z = some (.tup [.int x, .int y]) := by
  unfold ob obK
  rw [h]
  show (if 2 ≤ sizeLine then _ else _) = _
  rw [if_pos (by rw [sizeLine_eq]; omega)]
  rfl
/-! ### the end: what the top has written -/
theorem dfn_mk {K : PySem.W.Frag} {h : Heap} {mg : Str → Option Value} {x : Str} {st : Stmt} {ps : List Str} {f : Addr} {oc kV doc pm cd ct : Value} {od an : Option Addr} {sl : Array (Option Value)} (X : K.In h) (G : h.Ns mainGlobals mg)
    (a : PySem.W.nsIn K mainGlobals x = some (some (.ref f))) (l : K.lookup f = some ⟨oc, od, .func (PySem.W.fnOf x x (defArgs st) (defBody st) (defScope st) .none kV doc pm an cd ct), sl⟩) (c : PySem.W.codeIn K cd x = true) (k : PySem.W.keepIn K (.ref f) = true)
    (hb : ∀ (kV doc pm : Value) (an : Option Addr) (cdv ct : Value) (us : List Value), us.length = ps.length → bindArgs (PySem.W.fnOf x x (defArgs st) (defBody st) (defScope st) .none kV doc pm an cdv ct) ⟨us, []⟩ = pure (ps.zip us)) : Dfn K mg x st ps :=
  ⟨f, _, fun_mk l c k, PySem.W.mg_of X G a, (fun_mk l c k).binds hb⟩
theorem all_mk {P : Program} {w : World} {K : PySem.W.Frag} {h : Heap} {mg : Str → Option Value} {fa : Addr} (X : K.In h) (G : h.Ns mainGlobals mg) (hfa : mg "law" = some (.ref fa)) {z0 : Addr} {ddZ : Option Addr} {taZ tbZ : Tok} {nnZ : Nat} {ssZ : Array (Option Value)} {o0 : Addr} {ddO : Option Addr} {taO tbO : Tok} {nnO : Nat} {ssO : Array (Option Value)} {SL : Addr} {fIN : Addr} {ocIN kVIN dcIN pmIN cdIN ctIN : Value} {odIN anIN : Option Addr} {slIN : Array (Option Value)} {fKN : Addr} {ocKN kVKN dcKN pmKN cdKN ctKN : Value} {odKN anKN : Option Addr} {slKN : Array (Option Value)} {pKN : Addr} {rKN : List Value} {fPC : Addr} {ocPC kVPC dcPC pmPC cdPC ctPC : Value} {odPC anPC : Option Addr} {slPC : Array (Option Value)} {fSP : Addr} {ocSP kVSP dcSP pmSP cdSP ctSP : Value} {odSP anSP : Option Addr} {slSP : Array (Option Value)} {fCR : Addr} {ocCR kVCR dcCR pmCR cdCR ctCR : Value} {odCR anCR : Option Addr} {slCR : Array (Option Value)} {fL : Addr} {ocL kVL dcL pmL cdvL ctL : Value} {odL anL : Option Addr} {slL : Array (Option Value)} {f0Require : Addr} {oc0Require kV0Require dc0Require pm0Require cd0Require ct0Require : Value} {od0Require an0Require : Option Addr} {sl0Require : Array (Option Value)} {tkMOST_KNOTS : Tok} {f0Are : Addr} {oc0Are kV0Are dc0Are pm0Are cd0Are ct0Are : Value} {od0Are an0Are : Option Addr} {sl0Are : Array (Option Value)} {f0ListW : Addr} {oc0ListW kV0ListW dc0ListW pm0ListW cd0ListW ct0ListW : Value} {od0ListW an0ListW : Option Addr} {sl0ListW : Array (Option Value)} {f0Knot : Addr} {oc0Knot kV0Knot dc0Knot pm0Knot cd0Knot ct0Knot : Value} {od0Knot an0Knot : Option Addr} {sl0Knot : Array (Option Value)} {f0TupOf : Addr} {oc0TupOf kV0TupOf dc0TupOf pm0TupOf cd0TupOf ct0TupOf : Value} {od0TupOf an0TupOf : Option Addr} {sl0TupOf : Array (Option Value)} {f0IsPlace : Addr} {oc0IsPlace kV0IsPlace dc0IsPlace pm0IsPlace cd0IsPlace ct0IsPlace : Value} {od0IsPlace an0IsPlace : Option Addr} {sl0IsPlace : Array (Option Value)} {f0IsFraction : Addr} {oc0IsFraction kV0IsFraction dc0IsFraction pm0IsFraction cd0IsFraction ct0IsFraction : Value} {od0IsFraction an0IsFraction : Option Addr} {sl0IsFraction : Array (Option Value)} {f0Whole : Addr} {oc0Whole kV0Whole dc0Whole pm0Whole cd0Whole ct0Whole : Value} {od0Whole an0Whole : Option Addr} {sl0Whole : Array (Option Value)} {f0Compare : Addr} {oc0Compare kV0Compare dc0Compare pm0Compare cd0Compare ct0Compare : Value} {od0Compare an0Compare : Option Addr} {sl0Compare : Array (Option Value)} {f0Slope : Addr} {oc0Slope kV0Slope dc0Slope pm0Slope cd0Slope ct0Slope : Value} {od0Slope an0Slope : Option Addr} {sl0Slope : Array (Option Value)} {f0Minus : Addr} {oc0Minus kV0Minus dc0Minus pm0Minus cd0Minus ct0Minus : Value} {od0Minus an0Minus : Option Addr} {sl0Minus : Array (Option Value)} {t0Fraction : Addr} {ocT0Fraction : Value} {odT0Fraction : Option Addr} {slT0Fraction : Array (Option Value)} {tk0Fraction : Tok} {nT0Fraction : Nat} {f0Fraction : Addr} {oc0Fraction kV0Fraction dc0Fraction pm0Fraction cd0Fraction ct0Fraction : Value} {od0Fraction an0Fraction : Option Addr} {sl0Fraction : Array (Option Value)} {f0Over : Addr} {oc0Over kV0Over dc0Over pm0Over cd0Over ct0Over : Value} {od0Over an0Over : Option Addr} {sl0Over : Array (Option Value)} {f0Plus : Addr} {oc0Plus kV0Plus dc0Plus pm0Plus cd0Plus ct0Plus : Value} {od0Plus an0Plus : Option Addr} {sl0Plus : Array (Option Value)} {f0Even : Addr} {oc0Even kV0Even dc0Even pm0Even cd0Even ct0Even : Value} {od0Even an0Even : Option Addr} {sl0Even : Array (Option Value)} {f0Same : Addr} {oc0Same kV0Same dc0Same pm0Same cd0Same ct0Same : Value} {od0Same an0Same : Option Addr} {sl0Same : Array (Option Value)} {f0LWhole : Addr} {oc0LWhole kV0LWhole dc0LWhole pm0LWhole cd0LWhole ct0LWhole : Value} {od0LWhole an0LWhole : Option Addr} {sl0LWhole : Array (Option Value)} {f0Store : Addr} {oc0Store kV0Store dc0Store pm0Store cd0Store ct0Store : Value} {od0Store an0Store : Option Addr} {sl0Store : Array (Option Value)} {f0Some : Addr} {oc0Some kV0Some dc0Some pm0Some cd0Some ct0Some : Value} {od0Some an0Some : Option Addr} {sl0Some : Array (Option Value)} {f0Take : Addr} {oc0Take kV0Take dc0Take pm0Take cd0Take ct0Take : Value} {od0Take an0Take : Option Addr} {sl0Take : Array (Option Value)} {f0Mixed : Addr} {oc0Mixed kV0Mixed dc0Mixed pm0Mixed cd0Mixed ct0Mixed : Value} {od0Mixed an0Mixed : Option Addr} {sl0Mixed : Array (Option Value)} {f0Kn : Addr} {oc0Kn kV0Kn dc0Kn pm0Kn cd0Kn ct0Kn : Value} {od0Kn an0Kn : Option Addr} {sl0Kn : Array (Option Value)} {f0Size : Addr} {oc0Size kV0Size dc0Size pm0Size cd0Size ct0Size : Value} {od0Size an0Size : Option Addr} {sl0Size : Array (Option Value)} {f0Range : Addr} {oc0Range kV0Range dc0Range pm0Range cd0Range ct0Range : Value} {od0Range an0Range : Option Addr} {sl0Range : Array (Option Value)} {f0Pick : Addr} {oc0Pick kV0Pick dc0Pick pm0Pick cd0Pick ct0Pick : Value} {od0Pick an0Pick : Option Addr} {sl0Pick : Array (Option Value)} {f0Lowest : Addr} {oc0Lowest kV0Lowest dc0Lowest pm0Lowest cd0Lowest ct0Lowest : Value} {od0Lowest an0Lowest : Option Addr} {sl0Lowest : Array (Option Value)} {f0Gcd : Addr} {oc0Gcd kV0Gcd dc0Gcd pm0Gcd cd0Gcd ct0Gcd : Value} {od0Gcd an0Gcd : Option Addr} {sl0Gcd : Array (Option Value)} {f0DFrac : Addr} {oc0DFrac kV0DFrac dc0DFrac pm0DFrac cd0DFrac ct0DFrac : Value} {od0DFrac an0DFrac : Option Addr} {sl0DFrac : Array (Option Value)} {f0LTimes : Addr} {oc0LTimes kV0LTimes dc0LTimes pm0LTimes cd0LTimes ct0LTimes : Value} {od0LTimes an0LTimes : Option Addr} {sl0LTimes : Array (Option Value)} {f0Kw : Addr} {oc0Kw kV0Kw dc0Kw pm0Kw cd0Kw ct0Kw : Value} {od0Kw an0Kw : Option Addr} {sl0Kw : Array (Option Value)} {f0DFracW : Addr} {oc0DFracW kV0DFracW dc0DFracW pm0DFracW cd0DFracW ct0DFracW : Value} {od0DFracW an0DFracW : Option Addr} {sl0DFracW : Array (Option Value)} {f0Great : Addr} {oc0Great kV0Great dc0Great pm0Great cd0Great ct0Great : Value} {od0Great an0Great : Option Addr} {sl0Great : Array (Option Value)} {f0LInt : Addr} {oc0LInt kV0LInt dc0LInt pm0LInt cd0LInt ct0LInt : Value} {od0LInt an0LInt : Option Addr} {sl0LInt : Array (Option Value)} {f0Hold : Addr} {oc0Hold kV0Hold dc0Hold pm0Hold cd0Hold ct0Hold : Value} {od0Hold an0Hold : Option Addr} {sl0Hold : Array (Option Value)} {f0LFracs : Addr} {oc0LFracs kV0LFracs dc0LFracs pm0LFracs cd0LFracs ct0LFracs : Value} {od0LFracs an0LFracs : Option Addr} {sl0LFracs : Array (Option Value)} {f0LFrac : Addr} {oc0LFrac kV0LFrac dc0LFrac pm0LFrac cd0LFrac ct0LFrac : Value} {od0LFrac an0LFrac : Option Addr} {sl0LFrac : Array (Option Value)} {f0LMinus : Addr} {oc0LMinus kV0LMinus dc0LMinus pm0LMinus cd0LMinus ct0LMinus : Value} {od0LMinus an0LMinus : Option Addr} {sl0LMinus : Array (Option Value)} {f0LPlus : Addr} {oc0LPlus kV0LPlus dc0LPlus pm0LPlus cd0LPlus ct0LPlus : Value} {od0LPlus an0LPlus : Option Addr} {sl0LPlus : Array (Option Value)} {f0Part : Addr} {oc0Part kV0Part dc0Part pm0Part cd0Part ct0Part : Value} {od0Part an0Part : Option Addr} {sl0Part : Array (Option Value)} {f0Times : Addr} {oc0Times kV0Times dc0Times pm0Times cd0Times ct0Times : Value} {od0Times an0Times : Option Addr} {sl0Times : Array (Option Value)} {f0Piece : Addr} {oc0Piece kV0Piece dc0Piece pm0Piece cd0Piece ct0Piece : Value} {od0Piece an0Piece : Option Addr} {sl0Piece : Array (Option Value)} {f0DNz : Addr} {oc0DNz kV0DNz dc0DNz pm0DNz cd0DNz ct0DNz : Value} {od0DNz an0DNz : Option Addr} {sl0DNz : Array (Option Value)} {f0DPos : Addr} {oc0DPos kV0DPos dc0DPos pm0DPos cd0DPos ct0DPos : Value} {od0DPos an0DPos : Option Addr} {sl0DPos : Array (Option Value)} {f0Fits : Addr} {oc0Fits kV0Fits dc0Fits pm0Fits cd0Fits ct0Fits : Value} {od0Fits an0Fits : Option Addr} {sl0Fits : Array (Option Value)}
    (z_int : PySem.W.nsIn K mainGlobals "int" = some none)
    (z_len : PySem.W.nsIn K mainGlobals "len" = some none)
    (z_list : PySem.W.nsIn K mainGlobals "list" = some none)
    (z_abs : PySem.W.nsIn K mainGlobals "abs" = some none)
    (z_range : PySem.W.nsIn K mainGlobals "range" = some none)
    (z_min : PySem.W.nsIn K mainGlobals "min" = some none)
    (z_max : PySem.W.nsIn K mainGlobals "max" = some none)
    (z_isinstance : PySem.W.nsIn K mainGlobals "isinstance" = some none)
    (z_bool : PySem.W.nsIn K mainGlobals "bool" = some none)
    (z_str : PySem.W.nsIn K mainGlobals "str" = some none)
    (z_dict : PySem.W.nsIn K mainGlobals "dict" = some none)
    (z_tuple : PySem.W.nsIn K mainGlobals "tuple" = some none)
    (z_gcd : PySem.W.nsIn K mainGlobals "gcd" = some (some (.builtin "math.gcd")))
    (aZ : PySem.W.nsIn K mainGlobals "ZERO" = some (some (.ref z0)))
    (o_Z : K.lookup z0 = some ⟨.type "tuple", ddZ, .seq #[.int 0 taZ, .int 1 tbZ] nnZ, ssZ⟩)
    (aO : PySem.W.nsIn K mainGlobals "ONE" = some (some (.ref o0)))
    (o_O : K.lookup o0 = some ⟨.type "tuple", ddO, .seq #[.int 1 taO, .int 1 tbO] nnO, ssO⟩)
    (aSL : PySem.W.nsIn K mainGlobals "Slot" = some (some (.ref SL)))
    (ypg : PySem.W.plainGet K SL Str.empty = true)
    (yhd : PySem.W.hasDictIn K SL = true)
    (ypo : PySem.W.plainOver K SL = true)
    (ysa : PySem.W.findIn K (.ref SL) "__setattr__" = some (some (.builtin "object.__setattr__")))
    (yn_k : PySem.W.findIn K (.ref SL) "_knots" = some none)
    (ymk : PySem.W.makesIn K SL = true)
    (ykp : PySem.W.keepIn K (.ref SL) = true)
    (y1IN : PySem.W.findIn K (.ref SL) "__init__" = some (some (.ref fIN)))
    (y2IN : PySem.W.isFn K (.ref fIN) = true)
    (lIN : K.lookup fIN = some ⟨ocIN, odIN, .func (PySem.W.fnOf "__init__" "Slot.__init__" (defArgs sSlInit) (defBody sSlInit) (defScope sSlInit) .none kVIN dcIN pmIN anIN cdIN ctIN), slIN⟩)
    (cIN : PySem.W.codeIn K cdIN "Slot.__init__" = true)
    (kIN : PySem.W.keepIn K (.ref fIN) = true)
    (p1 : PySem.W.findIn K (.ref SL) "knots" = some (some (.ref pKN)))
    (p2 : PySem.W.specialIn K (.ref pKN) "__get__" = some (some (.builtin "property.__get__")))
    (p3 : PySem.W.takesIn K (.ref pKN) = some true)
    (p4 : PySem.W.recIn K pKN "property" = some (.ref fKN :: rKN))
    (lKN : K.lookup fKN = some ⟨ocKN, odKN, .func (PySem.W.fnOf "knots" "Slot.knots" (defArgs sSlKnots) (defBody sSlKnots) (defScope sSlKnots) .none kVKN dcKN pmKN anKN cdKN ctKN), slKN⟩)
    (cKN : PySem.W.codeIn K cdKN "Slot.knots" = true)
    (kKN : PySem.W.keepIn K (.ref fKN) = true)
    (y1PC : PySem.W.findIn K (.ref SL) "_pieces" = some (some (.ref fPC)))
    (y2PC : PySem.W.isFn K (.ref fPC) = true)
    (lPC : K.lookup fPC = some ⟨ocPC, odPC, .func (PySem.W.fnOf "_pieces" "Slot._pieces" (defArgs sSlPcs) (defBody sSlPcs) (defScope sSlPcs) .none kVPC dcPC pmPC anPC cdPC ctPC), slPC⟩)
    (cPC : PySem.W.codeIn K cdPC "Slot._pieces" = true)
    (kPC : PySem.W.keepIn K (.ref fPC) = true)
    (y1SP : PySem.W.findIn K (.ref SL) "slopes" = some (some (.ref fSP)))
    (y2SP : PySem.W.isFn K (.ref fSP) = true)
    (lSP : K.lookup fSP = some ⟨ocSP, odSP, .func (PySem.W.fnOf "slopes" "Slot.slopes" (defArgs sSlSlopes) (defBody sSlSlopes) (defScope sSlSlopes) .none kVSP dcSP pmSP anSP cdSP ctSP), slSP⟩)
    (cSP : PySem.W.codeIn K cdSP "Slot.slopes" = true)
    (kSP : PySem.W.keepIn K (.ref fSP) = true)
    (y1CR : PySem.W.findIn K (.ref SL) "carried" = some (some (.ref fCR)))
    (y2CR : PySem.W.isFn K (.ref fCR) = true)
    (lCR : K.lookup fCR = some ⟨ocCR, odCR, .func (PySem.W.fnOf "carried" "Slot.carried" (defArgs sSlCar) (defBody sSlCar) (defScope sSlCar) .none kVCR dcCR pmCR anCR cdCR ctCR), slCR⟩)
    (cCR : PySem.W.codeIn K cdCR "Slot.carried" = true)
    (kCR : PySem.W.keepIn K (.ref fCR) = true)
    (aL : PySem.W.nsIn K mainGlobals "law" = some (some (.ref fL)))
    (lL : K.lookup fL = some ⟨ocL, odL, .func (PySem.W.fnOf "law" "law" (defArgs sLaw) (defBody sLaw) (defScope sLaw) .none kVL dcL pmL anL cdvL ctL), slL⟩)
    (cL : PySem.W.codeIn K cdvL "law" = true)
    (kL : PySem.W.keepIn K (.ref fL) = true)
    (a0Require : PySem.W.nsIn K mainGlobals "require" = some (some (.ref f0Require)))
    (l0Require : K.lookup f0Require = some ⟨oc0Require, od0Require, .func (PySem.W.fnOf "require" "require" (defArgs sRequire) (defBody sRequire) (defScope sRequire) .none kV0Require dc0Require pm0Require an0Require cd0Require ct0Require), sl0Require⟩)
    (c0Require : PySem.W.codeIn K cd0Require "require" = true)
    (k0Require : PySem.W.keepIn K (.ref f0Require) = true)
    (g_MOST_KNOTS : PySem.W.nsIn K mainGlobals "MOST_KNOTS" = some (some (.int 8 tkMOST_KNOTS)))
    (z_all : PySem.W.nsIn K mainGlobals "all" = some none)
    (z_zip : PySem.W.nsIn K mainGlobals "zip" = some none)
    (a0Are : PySem.W.nsIn K mainGlobals "_are_knots" = some (some (.ref f0Are)))
    (l0Are : K.lookup f0Are = some ⟨oc0Are, od0Are, .func (PySem.W.fnOf "_are_knots" "_are_knots" (defArgs sAre) (defBody sAre) (defScope sAre) .none kV0Are dc0Are pm0Are an0Are cd0Are ct0Are), sl0Are⟩)
    (c0Are : PySem.W.codeIn K cd0Are "_are_knots" = true)
    (k0Are : PySem.W.keepIn K (.ref f0Are) = true)
    (a0ListW : PySem.W.nsIn K mainGlobals "is_list_within" = some (some (.ref f0ListW)))
    (l0ListW : K.lookup f0ListW = some ⟨oc0ListW, od0ListW, .func (PySem.W.fnOf "is_list_within" "is_list_within" (defArgs sListW) (defBody sListW) (defScope sListW) .none kV0ListW dc0ListW pm0ListW an0ListW cd0ListW ct0ListW), sl0ListW⟩)
    (c0ListW : PySem.W.codeIn K cd0ListW "is_list_within" = true)
    (k0ListW : PySem.W.keepIn K (.ref f0ListW) = true)
    (a0Knot : PySem.W.nsIn K mainGlobals "_is_knot" = some (some (.ref f0Knot)))
    (l0Knot : K.lookup f0Knot = some ⟨oc0Knot, od0Knot, .func (PySem.W.fnOf "_is_knot" "_is_knot" (defArgs sKnot) (defBody sKnot) (defScope sKnot) .none kV0Knot dc0Knot pm0Knot an0Knot cd0Knot ct0Knot), sl0Knot⟩)
    (c0Knot : PySem.W.codeIn K cd0Knot "_is_knot" = true)
    (k0Knot : PySem.W.keepIn K (.ref f0Knot) = true)
    (a0TupOf : PySem.W.nsIn K mainGlobals "is_tuple_of" = some (some (.ref f0TupOf)))
    (l0TupOf : K.lookup f0TupOf = some ⟨oc0TupOf, od0TupOf, .func (PySem.W.fnOf "is_tuple_of" "is_tuple_of" (defArgs sTupOf) (defBody sTupOf) (defScope sTupOf) .none kV0TupOf dc0TupOf pm0TupOf an0TupOf cd0TupOf ct0TupOf), sl0TupOf⟩)
    (c0TupOf : PySem.W.codeIn K cd0TupOf "is_tuple_of" = true)
    (k0TupOf : PySem.W.keepIn K (.ref f0TupOf) = true)
    (a0IsPlace : PySem.W.nsIn K mainGlobals "is_place" = some (some (.ref f0IsPlace)))
    (l0IsPlace : K.lookup f0IsPlace = some ⟨oc0IsPlace, od0IsPlace, .func (PySem.W.fnOf "is_place" "is_place" (defArgs sIsPlace) (defBody sIsPlace) (defScope sIsPlace) .none kV0IsPlace dc0IsPlace pm0IsPlace an0IsPlace cd0IsPlace ct0IsPlace), sl0IsPlace⟩)
    (c0IsPlace : PySem.W.codeIn K cd0IsPlace "is_place" = true)
    (k0IsPlace : PySem.W.keepIn K (.ref f0IsPlace) = true)
    (a0IsFraction : PySem.W.nsIn K mainGlobals "is_fraction" = some (some (.ref f0IsFraction)))
    (l0IsFraction : K.lookup f0IsFraction = some ⟨oc0IsFraction, od0IsFraction, .func (PySem.W.fnOf "is_fraction" "is_fraction" (defArgs sIsFraction) (defBody sIsFraction) (defScope sIsFraction) .none kV0IsFraction dc0IsFraction pm0IsFraction an0IsFraction cd0IsFraction ct0IsFraction), sl0IsFraction⟩)
    (c0IsFraction : PySem.W.codeIn K cd0IsFraction "is_fraction" = true)
    (k0IsFraction : PySem.W.keepIn K (.ref f0IsFraction) = true)
    (a0Whole : PySem.W.nsIn K mainGlobals "is_whole" = some (some (.ref f0Whole)))
    (l0Whole : K.lookup f0Whole = some ⟨oc0Whole, od0Whole, .func (PySem.W.fnOf "is_whole" "is_whole" (defArgs sWhole) (defBody sWhole) (defScope sWhole) .none kV0Whole dc0Whole pm0Whole an0Whole cd0Whole ct0Whole), sl0Whole⟩)
    (c0Whole : PySem.W.codeIn K cd0Whole "is_whole" = true)
    (k0Whole : PySem.W.keepIn K (.ref f0Whole) = true)
    (a0Compare : PySem.W.nsIn K mainGlobals "compare" = some (some (.ref f0Compare)))
    (l0Compare : K.lookup f0Compare = some ⟨oc0Compare, od0Compare, .func (PySem.W.fnOf "compare" "compare" (defArgs sCompare) (defBody sCompare) (defScope sCompare) .none kV0Compare dc0Compare pm0Compare an0Compare cd0Compare ct0Compare), sl0Compare⟩)
    (c0Compare : PySem.W.codeIn K cd0Compare "compare" = true)
    (k0Compare : PySem.W.keepIn K (.ref f0Compare) = true)
    (a0Slope : PySem.W.nsIn K mainGlobals "_slope" = some (some (.ref f0Slope)))
    (l0Slope : K.lookup f0Slope = some ⟨oc0Slope, od0Slope, .func (PySem.W.fnOf "_slope" "_slope" (defArgs sSlope) (defBody sSlope) (defScope sSlope) .none kV0Slope dc0Slope pm0Slope an0Slope cd0Slope ct0Slope), sl0Slope⟩)
    (c0Slope : PySem.W.codeIn K cd0Slope "_slope" = true)
    (k0Slope : PySem.W.keepIn K (.ref f0Slope) = true)
    (a0Minus : PySem.W.nsIn K mainGlobals "minus" = some (some (.ref f0Minus)))
    (l0Minus : K.lookup f0Minus = some ⟨oc0Minus, od0Minus, .func (PySem.W.fnOf "minus" "minus" (defArgs sMinus) (defBody sMinus) (defScope sMinus) .none kV0Minus dc0Minus pm0Minus an0Minus cd0Minus ct0Minus), sl0Minus⟩)
    (c0Minus : PySem.W.codeIn K cd0Minus "minus" = true)
    (k0Minus : PySem.W.keepIn K (.ref f0Minus) = true)
    (a0Fraction : PySem.W.nsIn K mainGlobals "fraction" = some (some (.ref f0Fraction)))
    (l0Fraction : K.lookup f0Fraction = some ⟨oc0Fraction, od0Fraction, .func (PySem.W.fnOf "fraction" "fraction" (defArgs sFraction) (defBody sFraction) (defScope sFraction) (.ref t0Fraction) kV0Fraction dc0Fraction pm0Fraction an0Fraction cd0Fraction ct0Fraction), sl0Fraction⟩)
    (c0Fraction : PySem.W.codeIn K cd0Fraction "fraction" = true)
    (k0Fraction : PySem.W.keepIn K (.ref f0Fraction) = true)
    (lT0Fraction : K.lookup t0Fraction = some ⟨ocT0Fraction, odT0Fraction, .seq #[.int 1 tk0Fraction] nT0Fraction, slT0Fraction⟩)
    (a0Over : PySem.W.nsIn K mainGlobals "over" = some (some (.ref f0Over)))
    (l0Over : K.lookup f0Over = some ⟨oc0Over, od0Over, .func (PySem.W.fnOf "over" "over" (defArgs sOver) (defBody sOver) (defScope sOver) .none kV0Over dc0Over pm0Over an0Over cd0Over ct0Over), sl0Over⟩)
    (c0Over : PySem.W.codeIn K cd0Over "over" = true)
    (k0Over : PySem.W.keepIn K (.ref f0Over) = true)
    (a0Plus : PySem.W.nsIn K mainGlobals "plus" = some (some (.ref f0Plus)))
    (l0Plus : K.lookup f0Plus = some ⟨oc0Plus, od0Plus, .func (PySem.W.fnOf "plus" "plus" (defArgs sPlus) (defBody sPlus) (defScope sPlus) .none kV0Plus dc0Plus pm0Plus an0Plus cd0Plus ct0Plus), sl0Plus⟩)
    (c0Plus : PySem.W.codeIn K cd0Plus "plus" = true)
    (k0Plus : PySem.W.keepIn K (.ref f0Plus) = true)
    (a0Even : PySem.W.nsIn K mainGlobals "even_slot" = some (some (.ref f0Even)))
    (l0Even : K.lookup f0Even = some ⟨oc0Even, od0Even, .func (PySem.W.fnOf "even_slot" "even_slot" (defArgs sEven) (defBody sEven) (defScope sEven) .none kV0Even dc0Even pm0Even an0Even cd0Even ct0Even), sl0Even⟩)
    (c0Even : PySem.W.codeIn K cd0Even "even_slot" = true)
    (k0Even : PySem.W.keepIn K (.ref f0Even) = true)
    (a0Same : PySem.W.nsIn K mainGlobals "_law_same" = some (some (.ref f0Same)))
    (l0Same : K.lookup f0Same = some ⟨oc0Same, od0Same, .func (PySem.W.fnOf "_law_same" "_law_same" (defArgs sSame) (defBody sSame) (defScope sSame) .none kV0Same dc0Same pm0Same an0Same cd0Same ct0Same), sl0Same⟩)
    (c0Same : PySem.W.codeIn K cd0Same "_law_same" = true)
    (k0Same : PySem.W.keepIn K (.ref f0Same) = true)
    (a0LWhole : PySem.W.nsIn K mainGlobals "_law_is_whole" = some (some (.ref f0LWhole)))
    (l0LWhole : K.lookup f0LWhole = some ⟨oc0LWhole, od0LWhole, .func (PySem.W.fnOf "_law_is_whole" "_law_is_whole" (defArgs sLWhole) (defBody sLWhole) (defScope sLWhole) .none kV0LWhole dc0LWhole pm0LWhole an0LWhole cd0LWhole ct0LWhole), sl0LWhole⟩)
    (c0LWhole : PySem.W.codeIn K cd0LWhole "_law_is_whole" = true)
    (k0LWhole : PySem.W.keepIn K (.ref f0LWhole) = true)
    (a0Store : PySem.W.nsIn K mainGlobals "_law_store" = some (some (.ref f0Store)))
    (l0Store : K.lookup f0Store = some ⟨oc0Store, od0Store, .func (PySem.W.fnOf "_law_store" "_law_store" (defArgs sStore) (defBody sStore) (defScope sStore) .none kV0Store dc0Store pm0Store an0Store cd0Store ct0Store), sl0Store⟩)
    (c0Store : PySem.W.codeIn K cd0Store "_law_store" = true)
    (k0Store : PySem.W.keepIn K (.ref f0Store) = true)
    (a0Some : PySem.W.nsIn K mainGlobals "_law_some_knots" = some (some (.ref f0Some)))
    (l0Some : K.lookup f0Some = some ⟨oc0Some, od0Some, .func (PySem.W.fnOf "_law_some_knots" "_law_some_knots" (defArgs sSome) (defBody sSome) (defScope sSome) .none kV0Some dc0Some pm0Some an0Some cd0Some ct0Some), sl0Some⟩)
    (c0Some : PySem.W.codeIn K cd0Some "_law_some_knots" = true)
    (k0Some : PySem.W.keepIn K (.ref f0Some) = true)
    (a0Take : PySem.W.nsIn K mainGlobals "_law_take" = some (some (.ref f0Take)))
    (l0Take : K.lookup f0Take = some ⟨oc0Take, od0Take, .func (PySem.W.fnOf "_law_take" "_law_take" (defArgs sTake) (defBody sTake) (defScope sTake) .none kV0Take dc0Take pm0Take an0Take cd0Take ct0Take), sl0Take⟩)
    (c0Take : PySem.W.codeIn K cd0Take "_law_take" = true)
    (k0Take : PySem.W.keepIn K (.ref f0Take) = true)
    (a0Mixed : PySem.W.nsIn K mainGlobals "_law_mixed" = some (some (.ref f0Mixed)))
    (l0Mixed : K.lookup f0Mixed = some ⟨oc0Mixed, od0Mixed, .func (PySem.W.fnOf "_law_mixed" "_law_mixed" (defArgs sMixed) (defBody sMixed) (defScope sMixed) .none kV0Mixed dc0Mixed pm0Mixed an0Mixed cd0Mixed ct0Mixed), sl0Mixed⟩)
    (c0Mixed : PySem.W.codeIn K cd0Mixed "_law_mixed" = true)
    (k0Mixed : PySem.W.keepIn K (.ref f0Mixed) = true)
    (a0Kn : PySem.W.nsIn K mainGlobals "_law_knots" = some (some (.ref f0Kn)))
    (l0Kn : K.lookup f0Kn = some ⟨oc0Kn, od0Kn, .func (PySem.W.fnOf "_law_knots" "_law_knots" (defArgs sKn) (defBody sKn) (defScope sKn) .none kV0Kn dc0Kn pm0Kn an0Kn cd0Kn ct0Kn), sl0Kn⟩)
    (c0Kn : PySem.W.codeIn K cd0Kn "_law_knots" = true)
    (k0Kn : PySem.W.keepIn K (.ref f0Kn) = true)
    (a0Size : PySem.W.nsIn K mainGlobals "_law_size" = some (some (.ref f0Size)))
    (l0Size : K.lookup f0Size = some ⟨oc0Size, od0Size, .func (PySem.W.fnOf "_law_size" "_law_size" (defArgs sSize) (defBody sSize) (defScope sSize) .none kV0Size dc0Size pm0Size an0Size cd0Size ct0Size), sl0Size⟩)
    (c0Size : PySem.W.codeIn K cd0Size "_law_size" = true)
    (k0Size : PySem.W.keepIn K (.ref f0Size) = true)
    (a0Range : PySem.W.nsIn K mainGlobals "_law_range" = some (some (.ref f0Range)))
    (l0Range : K.lookup f0Range = some ⟨oc0Range, od0Range, .func (PySem.W.fnOf "_law_range" "_law_range" (defArgs sRange) (defBody sRange) (defScope sRange) .none kV0Range dc0Range pm0Range an0Range cd0Range ct0Range), sl0Range⟩)
    (c0Range : PySem.W.codeIn K cd0Range "_law_range" = true)
    (k0Range : PySem.W.keepIn K (.ref f0Range) = true)
    (a0Pick : PySem.W.nsIn K mainGlobals "_law_pick" = some (some (.ref f0Pick)))
    (l0Pick : K.lookup f0Pick = some ⟨oc0Pick, od0Pick, .func (PySem.W.fnOf "_law_pick" "_law_pick" (defArgs sPick) (defBody sPick) (defScope sPick) .none kV0Pick dc0Pick pm0Pick an0Pick cd0Pick ct0Pick), sl0Pick⟩)
    (c0Pick : PySem.W.codeIn K cd0Pick "_law_pick" = true)
    (k0Pick : PySem.W.keepIn K (.ref f0Pick) = true)
    (a0Lowest : PySem.W.nsIn K mainGlobals "_law_lowest" = some (some (.ref f0Lowest)))
    (l0Lowest : K.lookup f0Lowest = some ⟨oc0Lowest, od0Lowest, .func (PySem.W.fnOf "_law_lowest" "_law_lowest" (defArgs sLowest) (defBody sLowest) (defScope sLowest) .none kV0Lowest dc0Lowest pm0Lowest an0Lowest cd0Lowest ct0Lowest), sl0Lowest⟩)
    (c0Lowest : PySem.W.codeIn K cd0Lowest "_law_lowest" = true)
    (k0Lowest : PySem.W.keepIn K (.ref f0Lowest) = true)
    (a0Gcd : PySem.W.nsIn K mainGlobals "_law_gcd" = some (some (.ref f0Gcd)))
    (l0Gcd : K.lookup f0Gcd = some ⟨oc0Gcd, od0Gcd, .func (PySem.W.fnOf "_law_gcd" "_law_gcd" (defArgs sGcd) (defBody sGcd) (defScope sGcd) .none kV0Gcd dc0Gcd pm0Gcd an0Gcd cd0Gcd ct0Gcd), sl0Gcd⟩)
    (c0Gcd : PySem.W.codeIn K cd0Gcd "_law_gcd" = true)
    (k0Gcd : PySem.W.keepIn K (.ref f0Gcd) = true)
    (a0DFrac : PySem.W.nsIn K mainGlobals "_law_frac" = some (some (.ref f0DFrac)))
    (l0DFrac : K.lookup f0DFrac = some ⟨oc0DFrac, od0DFrac, .func (PySem.W.fnOf "_law_frac" "_law_frac" (defArgs sDFrac) (defBody sDFrac) (defScope sDFrac) .none kV0DFrac dc0DFrac pm0DFrac an0DFrac cd0DFrac ct0DFrac), sl0DFrac⟩)
    (c0DFrac : PySem.W.codeIn K cd0DFrac "_law_frac" = true)
    (k0DFrac : PySem.W.keepIn K (.ref f0DFrac) = true)
    (a0LTimes : PySem.W.nsIn K mainGlobals "_law_times" = some (some (.ref f0LTimes)))
    (l0LTimes : K.lookup f0LTimes = some ⟨oc0LTimes, od0LTimes, .func (PySem.W.fnOf "_law_times" "_law_times" (defArgs sLTimes) (defBody sLTimes) (defScope sLTimes) .none kV0LTimes dc0LTimes pm0LTimes an0LTimes cd0LTimes ct0LTimes), sl0LTimes⟩)
    (c0LTimes : PySem.W.codeIn K cd0LTimes "_law_times" = true)
    (k0LTimes : PySem.W.keepIn K (.ref f0LTimes) = true)
    (a0Kw : PySem.W.nsIn K mainGlobals "_law_knots_wide" = some (some (.ref f0Kw)))
    (l0Kw : K.lookup f0Kw = some ⟨oc0Kw, od0Kw, .func (PySem.W.fnOf "_law_knots_wide" "_law_knots_wide" (defArgs sKw) (defBody sKw) (defScope sKw) .none kV0Kw dc0Kw pm0Kw an0Kw cd0Kw ct0Kw), sl0Kw⟩)
    (c0Kw : PySem.W.codeIn K cd0Kw "_law_knots_wide" = true)
    (k0Kw : PySem.W.keepIn K (.ref f0Kw) = true)
    (a0DFracW : PySem.W.nsIn K mainGlobals "_law_frac_wide" = some (some (.ref f0DFracW)))
    (l0DFracW : K.lookup f0DFracW = some ⟨oc0DFracW, od0DFracW, .func (PySem.W.fnOf "_law_frac_wide" "_law_frac_wide" (defArgs sDFracW) (defBody sDFracW) (defScope sDFracW) .none kV0DFracW dc0DFracW pm0DFracW an0DFracW cd0DFracW ct0DFracW), sl0DFracW⟩)
    (c0DFracW : PySem.W.codeIn K cd0DFracW "_law_frac_wide" = true)
    (k0DFracW : PySem.W.keepIn K (.ref f0DFracW) = true)
    (a0Great : PySem.W.nsIn K mainGlobals "_law_great" = some (some (.ref f0Great)))
    (l0Great : K.lookup f0Great = some ⟨oc0Great, od0Great, .func (PySem.W.fnOf "_law_great" "_law_great" (defArgs sGreat) (defBody sGreat) (defScope sGreat) .none kV0Great dc0Great pm0Great an0Great cd0Great ct0Great), sl0Great⟩)
    (c0Great : PySem.W.codeIn K cd0Great "_law_great" = true)
    (k0Great : PySem.W.keepIn K (.ref f0Great) = true)
    (a0LInt : PySem.W.nsIn K mainGlobals "_law_whole" = some (some (.ref f0LInt)))
    (l0LInt : K.lookup f0LInt = some ⟨oc0LInt, od0LInt, .func (PySem.W.fnOf "_law_whole" "_law_whole" (defArgs sLInt) (defBody sLInt) (defScope sLInt) .none kV0LInt dc0LInt pm0LInt an0LInt cd0LInt ct0LInt), sl0LInt⟩)
    (c0LInt : PySem.W.codeIn K cd0LInt "_law_whole" = true)
    (k0LInt : PySem.W.keepIn K (.ref f0LInt) = true)
    (a0Hold : PySem.W.nsIn K mainGlobals "_law_slopes_hold" = some (some (.ref f0Hold)))
    (l0Hold : K.lookup f0Hold = some ⟨oc0Hold, od0Hold, .func (PySem.W.fnOf "_law_slopes_hold" "_law_slopes_hold" (defArgs sHold) (defBody sHold) (defScope sHold) .none kV0Hold dc0Hold pm0Hold an0Hold cd0Hold ct0Hold), sl0Hold⟩)
    (c0Hold : PySem.W.codeIn K cd0Hold "_law_slopes_hold" = true)
    (k0Hold : PySem.W.keepIn K (.ref f0Hold) = true)
    (a0LFracs : PySem.W.nsIn K mainGlobals "_law_is_fracs" = some (some (.ref f0LFracs)))
    (l0LFracs : K.lookup f0LFracs = some ⟨oc0LFracs, od0LFracs, .func (PySem.W.fnOf "_law_is_fracs" "_law_is_fracs" (defArgs sLFracs) (defBody sLFracs) (defScope sLFracs) .none kV0LFracs dc0LFracs pm0LFracs an0LFracs cd0LFracs ct0LFracs), sl0LFracs⟩)
    (c0LFracs : PySem.W.codeIn K cd0LFracs "_law_is_fracs" = true)
    (k0LFracs : PySem.W.keepIn K (.ref f0LFracs) = true)
    (a0LFrac : PySem.W.nsIn K mainGlobals "_law_is_frac" = some (some (.ref f0LFrac)))
    (l0LFrac : K.lookup f0LFrac = some ⟨oc0LFrac, od0LFrac, .func (PySem.W.fnOf "_law_is_frac" "_law_is_frac" (defArgs sLFrac) (defBody sLFrac) (defScope sLFrac) .none kV0LFrac dc0LFrac pm0LFrac an0LFrac cd0LFrac ct0LFrac), sl0LFrac⟩)
    (c0LFrac : PySem.W.codeIn K cd0LFrac "_law_is_frac" = true)
    (k0LFrac : PySem.W.keepIn K (.ref f0LFrac) = true)
    (a0LMinus : PySem.W.nsIn K mainGlobals "_law_minus" = some (some (.ref f0LMinus)))
    (l0LMinus : K.lookup f0LMinus = some ⟨oc0LMinus, od0LMinus, .func (PySem.W.fnOf "_law_minus" "_law_minus" (defArgs sLMinus) (defBody sLMinus) (defScope sLMinus) .none kV0LMinus dc0LMinus pm0LMinus an0LMinus cd0LMinus ct0LMinus), sl0LMinus⟩)
    (c0LMinus : PySem.W.codeIn K cd0LMinus "_law_minus" = true)
    (k0LMinus : PySem.W.keepIn K (.ref f0LMinus) = true)
    (a0LPlus : PySem.W.nsIn K mainGlobals "_law_plus" = some (some (.ref f0LPlus)))
    (l0LPlus : K.lookup f0LPlus = some ⟨oc0LPlus, od0LPlus, .func (PySem.W.fnOf "_law_plus" "_law_plus" (defArgs sLPlus) (defBody sLPlus) (defScope sLPlus) .none kV0LPlus dc0LPlus pm0LPlus an0LPlus cd0LPlus ct0LPlus), sl0LPlus⟩)
    (c0LPlus : PySem.W.codeIn K cd0LPlus "_law_plus" = true)
    (k0LPlus : PySem.W.keepIn K (.ref f0LPlus) = true)
    (a0Part : PySem.W.nsIn K mainGlobals "part_of" = some (some (.ref f0Part)))
    (l0Part : K.lookup f0Part = some ⟨oc0Part, od0Part, .func (PySem.W.fnOf "part_of" "part_of" (defArgs sPart) (defBody sPart) (defScope sPart) .none kV0Part dc0Part pm0Part an0Part cd0Part ct0Part), sl0Part⟩)
    (c0Part : PySem.W.codeIn K cd0Part "part_of" = true)
    (k0Part : PySem.W.keepIn K (.ref f0Part) = true)
    (a0Times : PySem.W.nsIn K mainGlobals "times" = some (some (.ref f0Times)))
    (l0Times : K.lookup f0Times = some ⟨oc0Times, od0Times, .func (PySem.W.fnOf "times" "times" (defArgs sTimes) (defBody sTimes) (defScope sTimes) .none kV0Times dc0Times pm0Times an0Times cd0Times ct0Times), sl0Times⟩)
    (c0Times : PySem.W.codeIn K cd0Times "times" = true)
    (k0Times : PySem.W.keepIn K (.ref f0Times) = true)
    (a0Piece : PySem.W.nsIn K mainGlobals "_law_piece_holds" = some (some (.ref f0Piece)))
    (l0Piece : K.lookup f0Piece = some ⟨oc0Piece, od0Piece, .func (PySem.W.fnOf "_law_piece_holds" "_law_piece_holds" (defArgs sPiece) (defBody sPiece) (defScope sPiece) .none kV0Piece dc0Piece pm0Piece an0Piece cd0Piece ct0Piece), sl0Piece⟩)
    (c0Piece : PySem.W.codeIn K cd0Piece "_law_piece_holds" = true)
    (k0Piece : PySem.W.keepIn K (.ref f0Piece) = true)
    (a0DNz : PySem.W.nsIn K mainGlobals "_law_no_zero" = some (some (.ref f0DNz)))
    (l0DNz : K.lookup f0DNz = some ⟨oc0DNz, od0DNz, .func (PySem.W.fnOf "_law_no_zero" "_law_no_zero" (defArgs sDNz) (defBody sDNz) (defScope sDNz) .none kV0DNz dc0DNz pm0DNz an0DNz cd0DNz ct0DNz), sl0DNz⟩)
    (c0DNz : PySem.W.codeIn K cd0DNz "_law_no_zero" = true)
    (k0DNz : PySem.W.keepIn K (.ref f0DNz) = true)
    (a0DPos : PySem.W.nsIn K mainGlobals "_law_positive" = some (some (.ref f0DPos)))
    (l0DPos : K.lookup f0DPos = some ⟨oc0DPos, od0DPos, .func (PySem.W.fnOf "_law_positive" "_law_positive" (defArgs sDPos) (defBody sDPos) (defScope sDPos) .none kV0DPos dc0DPos pm0DPos an0DPos cd0DPos ct0DPos), sl0DPos⟩)
    (c0DPos : PySem.W.codeIn K cd0DPos "_law_positive" = true)
    (k0DPos : PySem.W.keepIn K (.ref f0DPos) = true)
    (a0Fits : PySem.W.nsIn K mainGlobals "_law_fits" = some (some (.ref f0Fits)))
    (l0Fits : K.lookup f0Fits = some ⟨oc0Fits, od0Fits, .func (PySem.W.fnOf "_law_fits" "_law_fits" (defArgs sFits) (defBody sFits) (defScope sFits) .none kV0Fits dc0Fits pm0Fits an0Fits cd0Fits ct0Fits), sl0Fits⟩)
    (c0Fits : PySem.W.codeIn K cd0Fits "_law_fits" = true)
    (k0Fits : PySem.W.keepIn K (.ref f0Fits) = true) :
    ∃ fd : FuncData, (∀ (s : Shared) (v : Value), BindsTo s fd ⟨[v], []⟩ [("_law_script", v)]) ∧ ∀ base : Heap, K.In base → base.Ns mainGlobals mg → FnOk P w K mg base CX0 9 fa fd ["_law_script"] (spLaw K) := by
  have T : Bt K mg := ⟨PySem.W.mg_none_of X G z_int, PySem.W.mg_none_of X G z_len, PySem.W.mg_none_of X G z_list, PySem.W.mg_none_of X G z_abs, PySem.W.mg_none_of X G z_range, PySem.W.mg_none_of X G z_min, PySem.W.mg_none_of X G z_max, PySem.W.mg_none_of X G z_isinstance, PySem.W.mg_none_of X G z_bool, PySem.W.mg_none_of X G z_str, PySem.W.mg_none_of X G z_dict, PySem.W.mg_none_of X G z_tuple, PySem.W.mg_of X G z_gcd⟩
  have C0 : Two01 K mg z0 o0 := ⟨PySem.W.mg_of X G aZ, PySem.W.mg_of X G aO, ob_con o_Z, ob_con o_O⟩
  have YC : Cls K SL := ⟨ypg, yhd, ypo, ysa⟩
  have Y : SlC K mg SL := ⟨YC, yn_k, PySem.W.mg_of X G aSL⟩
  have FIN := fun_mk (st := sSlInit) lIN cIN kIN
  have bIN := FIN.binds (ps := ["self", "knots"]) fun _ _ _ _ _ _ us hl => match us, hl with | [_, _], _ => rfl
  have FKN := fun_mk (st := sSlKnots) lKN cKN kKN
  have bKN := FKN.binds (ps := ["self"]) fun _ _ _ _ _ _ us hl => match us, hl with | [_], _ => rfl
  have FPC := fun_mk (st := sSlPcs) lPC cPC kPC
  have bPC := FPC.binds (ps := ["self"]) fun _ _ _ _ _ _ us hl => match us, hl with | [_], _ => rfl
  have MPC : Meth K SL "_pieces" fPC := ⟨y1PC, y2PC, kPC⟩
  have FSP := fun_mk (st := sSlSlopes) lSP cSP kSP
  have bSP := FSP.binds (ps := ["self"]) fun _ _ _ _ _ _ us hl => match us, hl with | [_], _ => rfl
  have MSP : Meth K SL "slopes" fSP := ⟨y1SP, y2SP, kSP⟩
  have FCR := fun_mk (st := sSlCar) lCR cCR kCR
  have bCR := FCR.binds (ps := ["self", "turns"]) fun _ _ _ _ _ _ us hl => match us, hl with | [_, _], _ => rfl
  have MCR : Meth K SL "carried" fCR := ⟨y1CR, y2CR, kCR⟩
  have YM : L2.Mk K SL fIN := ⟨ymk, y1IN, y2IN, ykp⟩
  have DRequire : Dfn K mg "require" sRequire ["well_formed", "what"] := dfn_mk X G a0Require l0Require c0Require k0Require fun _ _ _ _ _ _ us hl => match us, hl with | [_, _], _ => rfl
  have DAre : Dfn K mg "_are_knots" sAre ["value"] := dfn_mk X G a0Are l0Are c0Are k0Are fun _ _ _ _ _ _ us hl => match us, hl with | [_], _ => rfl
  have DListW : Dfn K mg "is_list_within" sListW ["value", "least", "most"] := dfn_mk X G a0ListW l0ListW c0ListW k0ListW fun _ _ _ _ _ _ us hl => match us, hl with | [_, _, _], _ => rfl
  have DKnot : Dfn K mg "_is_knot" sKnot ["value"] := dfn_mk X G a0Knot l0Knot c0Knot k0Knot fun _ _ _ _ _ _ us hl => match us, hl with | [_], _ => rfl
  have DTupOf : Dfn K mg "is_tuple_of" sTupOf ["value", "many"] := dfn_mk X G a0TupOf l0TupOf c0TupOf k0TupOf fun _ _ _ _ _ _ us hl => match us, hl with | [_, _], _ => rfl
  have DIsPlace : Dfn K mg "is_place" sIsPlace ["value"] := dfn_mk X G a0IsPlace l0IsPlace c0IsPlace k0IsPlace fun _ _ _ _ _ _ us hl => match us, hl with | [_], _ => rfl
  have DIsFraction : Dfn K mg "is_fraction" sIsFraction ["value"] := dfn_mk X G a0IsFraction l0IsFraction c0IsFraction k0IsFraction fun _ _ _ _ _ _ us hl => match us, hl with | [_], _ => rfl
  have DWhole : Dfn K mg "is_whole" sWhole ["value"] := dfn_mk X G a0Whole l0Whole c0Whole k0Whole fun _ _ _ _ _ _ us hl => match us, hl with | [_], _ => rfl
  have DCompare : Dfn K mg "compare" sCompare ["left", "right"] := dfn_mk X G a0Compare l0Compare c0Compare k0Compare fun _ _ _ _ _ _ us hl => match us, hl with | [_, _], _ => rfl
  have DSlope : Dfn K mg "_slope" sSlope ["knot", "end"] := dfn_mk X G a0Slope l0Slope c0Slope k0Slope fun _ _ _ _ _ _ us hl => match us, hl with | [_, _], _ => rfl
  have DMinus : Dfn K mg "minus" sMinus ["left", "right"] := dfn_mk X G a0Minus l0Minus c0Minus k0Minus fun _ _ _ _ _ _ us hl => match us, hl with | [_, _], _ => rfl
  have FDFraction : FunD K "fraction" "fraction" (defArgs sFraction) (defBody sFraction) (defScope sFraction) [.int 1] [] f0Fraction _ := ⟨⟨oc0Fraction, od0Fraction, _, kV0Fraction, dc0Fraction, pm0Fraction, an0Fraction, cd0Fraction, ct0Fraction, sl0Fraction, rfl, l0Fraction, c0Fraction, .inr ⟨by simp, t0Fraction, _, [.int 1 tk0Fraction], nT0Fraction, rfl, lT0Fraction, rfl, .cons ⟨tk0Fraction, rfl⟩ .nil⟩, .inl rfl⟩, k0Fraction⟩
  have DFraction : DfnD K mg "fraction" sFraction ["numerator", "denominator"] := by
    obtain ⟨ds, hv, hb⟩ := FDFraction.binds1 (ps := ["numerator", "denominator"]) 2 1 (by simp) rfl fun T kV doc pm an cdv ct us its hu hi => match us, its, hu, hi with
      | [u0, u1], [i1], _, _ => ⟨_, rfl, rfl⟩
    cases hv
    exact ⟨f0Fraction, _, _, FDFraction, PySem.W.mg_of X G a0Fraction, hb⟩
  have DOver : Dfn K mg "over" sOver ["left", "right"] := dfn_mk X G a0Over l0Over c0Over k0Over fun _ _ _ _ _ _ us hl => match us, hl with | [_, _], _ => rfl
  have DPlus : Dfn K mg "plus" sPlus ["left", "right"] := dfn_mk X G a0Plus l0Plus c0Plus k0Plus fun _ _ _ _ _ _ us hl => match us, hl with | [_, _], _ => rfl
  have DEven : Dfn K mg "even_slot" sEven [] := dfn_mk X G a0Even l0Even c0Even k0Even fun _ _ _ _ _ _ us hl => match us, hl with | [], _ => rfl
  have DSame : Dfn K mg "_law_same" sSame ["_law_told", "_law_due"] := dfn_mk X G a0Same l0Same c0Same k0Same fun _ _ _ _ _ _ us hl => match us, hl with | [_, _], _ => rfl
  have DLWhole : Dfn K mg "_law_is_whole" sLWhole ["_law_told"] := dfn_mk X G a0LWhole l0LWhole c0LWhole k0LWhole fun _ _ _ _ _ _ us hl => match us, hl with | [_], _ => rfl
  have DStore : Dfn K mg "_law_store" sStore ["_law_script"] := dfn_mk X G a0Store l0Store c0Store k0Store fun _ _ _ _ _ _ us hl => match us, hl with | [_], _ => rfl
  have DSome : Dfn K mg "_law_some_knots" sSome ["_law_store_here"] := dfn_mk X G a0Some l0Some c0Some k0Some fun _ _ _ _ _ _ us hl => match us, hl with | [_], _ => rfl
  have DTake : Dfn K mg "_law_take" sTake ["_law_store_here", "_law_many"] := dfn_mk X G a0Take l0Take c0Take k0Take fun _ _ _ _ _ _ us hl => match us, hl with | [_, _], _ => rfl
  have DMixed : Dfn K mg "_law_mixed" sMixed ["_law_number", "_law_turn"] := dfn_mk X G a0Mixed l0Mixed c0Mixed k0Mixed fun _ _ _ _ _ _ us hl => match us, hl with | [_, _], _ => rfl
  have DKn : Dfn K mg "_law_knots" sKn ["_law_store_here", "_law_top"] := dfn_mk X G a0Kn l0Kn c0Kn k0Kn fun _ _ _ _ _ _ us hl => match us, hl with | [_, _], _ => rfl
  have DSize : Dfn K mg "_law_size" sSize ["_law_store_here", "_law_top"] := dfn_mk X G a0Size l0Size c0Size k0Size fun _ _ _ _ _ _ us hl => match us, hl with | [_, _], _ => rfl
  have DRange : Dfn K mg "_law_range" sRange ["_law_store_here", "_law_low", "_law_high"] := dfn_mk X G a0Range l0Range c0Range k0Range fun _ _ _ _ _ _ us hl => match us, hl with | [_, _, _], _ => rfl
  have DPick : Dfn K mg "_law_pick" sPick ["_law_store_here", "_law_row"] := dfn_mk X G a0Pick l0Pick c0Pick k0Pick fun _ _ _ _ _ _ us hl => match us, hl with | [_, _], _ => rfl
  have DLowest : Dfn K mg "_law_lowest" sLowest ["_law_top", "_law_bottom"] := dfn_mk X G a0Lowest l0Lowest c0Lowest k0Lowest fun _ _ _ _ _ _ us hl => match us, hl with | [_, _], _ => rfl
  have DGcd : Dfn K mg "_law_gcd" sGcd ["_law_left", "_law_right"] := dfn_mk X G a0Gcd l0Gcd c0Gcd k0Gcd fun _ _ _ _ _ _ us hl => match us, hl with | [_, _], _ => rfl
  have DDFrac : Dfn K mg "_law_frac" sDFrac ["_law_store_here"] := dfn_mk X G a0DFrac l0DFrac c0DFrac k0DFrac fun _ _ _ _ _ _ us hl => match us, hl with | [_], _ => rfl
  have DLTimes : Dfn K mg "_law_times" sLTimes ["_law_left", "_law_right"] := dfn_mk X G a0LTimes l0LTimes c0LTimes k0LTimes fun _ _ _ _ _ _ us hl => match us, hl with | [_, _], _ => rfl
  have DKw : Dfn K mg "_law_knots_wide" sKw ["_law_store_here"] := dfn_mk X G a0Kw l0Kw c0Kw k0Kw fun _ _ _ _ _ _ us hl => match us, hl with | [_], _ => rfl
  have DDFracW : Dfn K mg "_law_frac_wide" sDFracW ["_law_store_here"] := dfn_mk X G a0DFracW l0DFracW c0DFracW k0DFracW fun _ _ _ _ _ _ us hl => match us, hl with | [_], _ => rfl
  have DGreat : Dfn K mg "_law_great" sGreat ["_law_store_here"] := dfn_mk X G a0Great l0Great c0Great k0Great fun _ _ _ _ _ _ us hl => match us, hl with | [_], _ => rfl
  have DLInt : Dfn K mg "_law_whole" sLInt ["_law_store_here", "_law_reach"] := dfn_mk X G a0LInt l0LInt c0LInt k0LInt fun _ _ _ _ _ _ us hl => match us, hl with | [_, _], _ => rfl
  have DHold : Dfn K mg "_law_slopes_hold" sHold ["_law_store_here", "_law_slot", "_law_knots_here"] := dfn_mk X G a0Hold l0Hold c0Hold k0Hold fun _ _ _ _ _ _ us hl => match us, hl with | [_, _, _], _ => rfl
  have DLFracs : Dfn K mg "_law_is_fracs" sLFracs ["_law_told"] := dfn_mk X G a0LFracs l0LFracs c0LFracs k0LFracs fun _ _ _ _ _ _ us hl => match us, hl with | [_], _ => rfl
  have DLFrac : Dfn K mg "_law_is_frac" sLFrac ["_law_told"] := dfn_mk X G a0LFrac l0LFrac c0LFrac k0LFrac fun _ _ _ _ _ _ us hl => match us, hl with | [_], _ => rfl
  have DLMinus : Dfn K mg "_law_minus" sLMinus ["_law_left", "_law_right"] := dfn_mk X G a0LMinus l0LMinus c0LMinus k0LMinus fun _ _ _ _ _ _ us hl => match us, hl with | [_, _], _ => rfl
  have DLPlus : Dfn K mg "_law_plus" sLPlus ["_law_left", "_law_right"] := dfn_mk X G a0LPlus l0LPlus c0LPlus k0LPlus fun _ _ _ _ _ _ us hl => match us, hl with | [_, _], _ => rfl
  have DPart : Dfn K mg "part_of" sPart ["value"] := dfn_mk X G a0Part l0Part c0Part k0Part fun _ _ _ _ _ _ us hl => match us, hl with | [_], _ => rfl
  have DTimes : Dfn K mg "times" sTimes ["left", "right"] := dfn_mk X G a0Times l0Times c0Times k0Times fun _ _ _ _ _ _ us hl => match us, hl with | [_, _], _ => rfl
  have DPiece : Dfn K mg "_law_piece_holds" sPiece ["_law_store_here", "_law_slot", "_law_low", "_law_width", "_law_slope"] := dfn_mk X G a0Piece l0Piece c0Piece k0Piece fun _ _ _ _ _ _ us hl => match us, hl with | [_, _, _, _, _], _ => rfl
  have DDNz : Dfn K mg "_law_no_zero" sDNz ["_law_store_here"] := dfn_mk X G a0DNz l0DNz c0DNz k0DNz fun _ _ _ _ _ _ us hl => match us, hl with | [_], _ => rfl
  have DDPos : Dfn K mg "_law_positive" sDPos ["_law_store_here"] := dfn_mk X G a0DPos l0DPos c0DPos k0DPos fun _ _ _ _ _ _ us hl => match us, hl with | [_], _ => rfl
  have DFits : Dfn K mg "_law_fits" sFits ["_law_thing"] := dfn_mk X G a0Fits l0Fits c0Fits k0Fits fun _ _ _ _ _ _ us hl => match us, hl with | [_], _ => rfl
  have FL := fun_mk (st := sLaw) lL cL kL
  refine ⟨PySem.W.fnOf "law" "law" (defArgs sLaw) (defBody sLaw) (defScope sLaw) .none kVL dcL pmL anL cdvL ctL, fun s v => .of_eq rfl, fun base _ _  => ?_⟩
  have e := hfa.symm.trans (PySem.W.mg_of X G aL)
  cases e
  have kRequire := k_Require (P := P) (w := w) (base := base) T DRequire
  have kListW := k_ListW (P := P) (w := w) (base := base) T DListW
  have kTupOf := k_TupOf (P := P) (w := w) (base := base) T DTupOf
  have kWhole := k_Whole (P := P) (w := w) (base := base) T DWhole
  have kIsFraction := k_IsFraction (P := P) (w := w) (base := base) T DIsFraction kWhole
  have kIsPlace := k_IsPlace (P := P) (w := w) (base := base) T DIsPlace kIsFraction
  have kKnot := k_Knot (P := P) (w := w) (base := base) T DKnot kTupOf kIsPlace kIsFraction
  have kCompare := k_Compare (P := P) (w := w) (base := base) T DCompare kRequire kIsFraction
  have kAre := k_Are (P := P) (w := w) (base := base) C0 (PySem.W.mg_of X G g_MOST_KNOTS) (PySem.W.mg_none_of X G z_all) (PySem.W.mg_none_of X G z_zip) T DAre kListW kKnot kCompare
  have mIN : C8.Mak P w K mg base 6 "Slot" SL (spSlInit K SL) [] := ⟨fIN, _, _, [], YM, ok_SlInit T Y kRequire kAre FIN, Y.g, bIN, .nil⟩
  have mPC : C8.Met P w K mg base 1 SL "_pieces" (spPieces K SL) [] := ⟨fPC, _, _, [], YC, MPC, ok_SlPcs T Y C0 (PySem.W.mg_none_of X G z_zip) FPC, bPC, .nil⟩
  have kFraction := k_Fraction (P := P) (w := w) (base := base) T DFraction kRequire kWhole
  have kMinus := k_Minus (P := P) (w := w) (base := base) T DMinus kRequire kIsFraction kFraction
  have kOver := k_Over (P := P) (w := w) (base := base) T DOver kRequire kIsFraction kFraction
  have kPlus := k_Plus (P := P) (w := w) (base := base) T DPlus kRequire kIsFraction kFraction
  have kSlope := k_Slope (P := P) (w := w) (base := base) C0 T DSlope kMinus kOver kPlus
  have mSP : C8.Met P w K mg base 5 SL "slopes" (spSlopes K SL) [] := ⟨fSP, _, _, [], YC, MSP, ok_SlSlopes T Y mPC kSlope FSP, bSP, .nil⟩
  have mKN : PropK P w K mg base 1 SL "knots" (spKnots K SL) := ⟨pKN, fKN, _, YC, ⟨p1, p2, p3, _, p4⟩, ok_SlKnots T Y FKN, bKN⟩
  have kEven := k_Even (P := P) (w := w) (base := base) C0 mIN T DEven
  have kLWhole := k_LWhole (P := P) (w := w) (base := base) T DLWhole
  have kSame4 := k_same (P := P) (w := w) (base := base) T DSame kLWhole 4
  have kStore := k_Store (P := P) (w := w) (base := base) T DStore
  have kMixed := k_Mixed (P := P) (w := w) (base := base) T DMixed
  have kTake := k_Take (P := P) (w := w) (base := base) T DTake kMixed
  have kSize := k_Size (P := P) (w := w) (base := base) T DSize kTake
  have kRange := k_Range (P := P) (w := w) (base := base) T DRange kTake
  have kPick := k_Pick (P := P) (w := w) (base := base) T DPick kTake
  have kGcd := k_Gcd (P := P) (w := w) (base := base) T DGcd
  have kLowest := k_Lowest (P := P) (w := w) (base := base) T DLowest kGcd
  have kDFrac := k_DFrac (P := P) (w := w) (base := base) T DDFrac kTake kLowest
  have kLTimes := k_LTimes (P := P) (w := w) (base := base) T DLTimes kLowest
  have kKn := k_Kn (P := P) (w := w) (base := base) T DKn kTake kSize kRange kPick kLowest kDFrac kLTimes
  have kGreat := k_Great (P := P) (w := w) (base := base) T DGreat kTake
  have kLInt := k_LInt (P := P) (w := w) (base := base) T DLInt kTake
  have kDFracW := k_DFracW (P := P) (w := w) (base := base) T DDFracW kTake kLowest kGreat kLInt kDFrac
  have kKw := k_Kw (P := P) (w := w) (base := base) T DKw kDFracW kKn
  have kSome := k_Some (P := P) (w := w) (base := base) T DSome kTake kKn kKw
  have kLFrac := k_LFrac (P := P) (w := w) (base := base) T DLFrac kLWhole kGcd
  have kLFracs := k_LFracs (P := P) (w := w) (base := base) T DLFracs kLFrac
  have kLMinus := k_LMinus (P := P) (w := w) (base := base) T DLMinus kLowest
  have kLPlus := k_LPlus (P := P) (w := w) (base := base) T DLPlus kLowest
  have kPart := k_Part (P := P) (w := w) (base := base) T DPart kRequire kIsFraction
  have kTimes := k_Times (P := P) (w := w) (base := base) T DTimes kRequire kIsFraction kFraction
  have mCR : C8.Met P w K mg base 5 SL "carried" (spCarried K SL) [] := ⟨fCR, _, _, [], YC, MCR, ok_SlCar T Y mPC kRequire kIsFraction kPart kCompare kMinus kPlus kTimes kSlope FCR, bCR, .nil⟩
  have kPiece := k_Piece (P := P) (w := w) (base := base) mCR T DPiece kTake kLowest kRange kLInt kLPlus kLMinus kLTimes kLFracs
  have kSame3 := k_same (P := P) (w := w) (base := base) T DSame kLWhole 3
  have kHold := k_Hold (P := P) (w := w) (base := base) mSP T DHold kLFracs kLMinus kLTimes kLPlus kPiece kSame3
  have kDPos := k_DPos (P := P) (w := w) (base := base) T DDPos kTake kLowest
  have kDNz := k_DNz (P := P) (w := w) (base := base) T DDNz kTake kDPos
  have kFits := k_Fits (P := P) (w := w) (base := base) T DFits (Kn.none (P := P) (w := w) (base := base) DFits)
  have kFits2 := k_Fits2 (P := P) (w := w) (base := base) T DFits kFits
  have kFits3 := k_Fits3 (P := P) (w := w) (base := base) T DFits kFits2
  have kFits4 := k_Fits4 (P := P) (w := w) (base := base) T DFits kFits3
  exact ok_law FL T mIN mSP mKN kEven kSame4 kStore kSome kHold kDNz kLPlus kLMinus kFits4 kSame3
end My

namespace My
open PySem PySem.Spec PyProof.Rows L2
theorem walk_mk {l : PySem.W.OpenLaw} {q : Program} {loose : List Str} {XP : (Str → Option Value) → Heap → Prop} {YP : World → Heap → Prop} {d : DefRec} {K : Params → PySem.W.Frag} (hn : l.most = some 63) (hdf : d.params.defaults = [])
    (hY : ∀ (w : World) (h : Heap), YP w h → (K w.params).In h)
    (F : ∀ (w : World) (mg : Str → Option Value) (fa : Addr) (h : Heap), (K w.params).In h → h.Ns mainGlobals mg → mg d.name = some (.ref fa) →
      ∃ fd : FuncData, (∀ (s : Shared) (u : Value), BindsTo s fd ⟨[u], []⟩ [("_law_script", u)]) ∧ ∀ base : Heap, (K w.params).In base → base.Ns mainGlobals mg → FnOk l.prog w (K w.params) mg base CX0 9 fa fd ["_law_script"] (spLaw (K w.params))) :
    PySem.W.WalkO q loose XP YP l.row.toRowW d [] (fun f vs => PySem.call f vs) :=
  L2.walk_of (n := 63) (k := 9) (x := "_law_script") (CX := fun _ => CX0) (sp := fun w => spLaw (K w.params)) hn (by decide) hdf ⟨rfl, by decide, by decide⟩ hY F (fun _ _ a ns hl _ hS => ⟨a, ns, rfl, hS, fun _ => rfl⟩) fun _ _ _ _ _ z => z
end My
open PySem PySem.W PyProof.Rows
set_option maxRecDepth 100000 in
set_option maxHeartbeats 0 in
theorem PySem.Challenge.cw_wheelsky_k41_slot_slopes_holds : PySem.Challenge.rw_wheelsky_k41_slot_slopes.Holds := by
  w_on; o_law; k_head; (case hw => w_witness2)
  k_fill
  refine My.walk_mk (l := PySem.Challenge.rw_wheelsky_k41_slot_slopes) rfl rfl (fun w h Y => PySem.W.kIn_of Y) ?F
  case F =>
    intro w mg fa h KX G hmg
    refine' My.all_mk KX G hmg ?z_int ?z_len ?z_list ?z_abs ?z_range ?z_min ?z_max ?z_isinstance ?z_bool ?z_str ?z_dict ?z_tuple ?z_gcd ?aZ ?o_Z ?aO ?o_O ?aSL ?ypg ?yhd ?ypo ?ysa ?yn_k ?ymk ?ykp ?y1IN ?y2IN ?lIN ?cIN ?kIN ?p1 ?p2 ?p3 ?p4 ?lKN ?cKN ?kKN ?y1PC ?y2PC ?lPC ?cPC ?kPC ?y1SP ?y2SP ?lSP ?cSP ?kSP ?y1CR ?y2CR ?lCR ?cCR ?kCR ?aL ?lL ?cL ?kL ?a0Require ?l0Require ?c0Require ?k0Require ?g_MOST_KNOTS ?z_all ?z_zip ?a0Are ?l0Are ?c0Are ?k0Are ?a0ListW ?l0ListW ?c0ListW ?k0ListW ?a0Knot ?l0Knot ?c0Knot ?k0Knot ?a0TupOf ?l0TupOf ?c0TupOf ?k0TupOf ?a0IsPlace ?l0IsPlace ?c0IsPlace ?k0IsPlace ?a0IsFraction ?l0IsFraction ?c0IsFraction ?k0IsFraction ?a0Whole ?l0Whole ?c0Whole ?k0Whole ?a0Compare ?l0Compare ?c0Compare ?k0Compare ?a0Slope ?l0Slope ?c0Slope ?k0Slope ?a0Minus ?l0Minus ?c0Minus ?k0Minus ?a0Fraction ?l0Fraction ?c0Fraction ?k0Fraction ?lT0Fraction ?a0Over ?l0Over ?c0Over ?k0Over ?a0Plus ?l0Plus ?c0Plus ?k0Plus ?a0Even ?l0Even ?c0Even ?k0Even ?a0Same ?l0Same ?c0Same ?k0Same ?a0LWhole ?l0LWhole ?c0LWhole ?k0LWhole ?a0Store ?l0Store ?c0Store ?k0Store ?a0Some ?l0Some ?c0Some ?k0Some ?a0Take ?l0Take ?c0Take ?k0Take ?a0Mixed ?l0Mixed ?c0Mixed ?k0Mixed ?a0Kn ?l0Kn ?c0Kn ?k0Kn ?a0Size ?l0Size ?c0Size ?k0Size ?a0Range ?l0Range ?c0Range ?k0Range ?a0Pick ?l0Pick ?c0Pick ?k0Pick ?a0Lowest ?l0Lowest ?c0Lowest ?k0Lowest ?a0Gcd ?l0Gcd ?c0Gcd ?k0Gcd ?a0DFrac ?l0DFrac ?c0DFrac ?k0DFrac ?a0LTimes ?l0LTimes ?c0LTimes ?k0LTimes ?a0Kw ?l0Kw ?c0Kw ?k0Kw ?a0DFracW ?l0DFracW ?c0DFracW ?k0DFracW ?a0Great ?l0Great ?c0Great ?k0Great ?a0LInt ?l0LInt ?c0LInt ?k0LInt ?a0Hold ?l0Hold ?c0Hold ?k0Hold ?a0LFracs ?l0LFracs ?c0LFracs ?k0LFracs ?a0LFrac ?l0LFrac ?c0LFrac ?k0LFrac ?a0LMinus ?l0LMinus ?c0LMinus ?k0LMinus ?a0LPlus ?l0LPlus ?c0LPlus ?k0LPlus ?a0Part ?l0Part ?c0Part ?k0Part ?a0Times ?l0Times ?c0Times ?k0Times ?a0Piece ?l0Piece ?c0Piece ?k0Piece ?a0DNz ?l0DNz ?c0DNz ?k0DNz ?a0DPos ?l0DPos ?c0DPos ?k0DPos ?a0Fits ?l0Fits ?c0Fits ?k0Fits
    (case z_int => k_is); (case z_len => k_is); (case z_list => k_is); (case z_abs => k_is); (case z_range => k_is); (case z_min => k_is); (case z_max => k_is); (case z_isinstance => k_is)
    (case z_bool => k_is); (case z_str => k_is); (case z_dict => k_is); (case z_tuple => k_is); (case z_gcd => k_is); (case aZ => k_is); (case o_Z => k_is); (case aO => k_is)
    (case o_O => k_is); (case aSL => k_is); (case ypg => k_is); (case yhd => k_is); (case ypo => k_is); (case ysa => k_is); (case yn_k => k_is); (case ymk => k_is)
    (case ykp => k_is); (case y1IN => k_is); (case y2IN => k_is); (case lIN => k_is); (case cIN => k_is); (case kIN => k_is); (case p1 => k_is); (case p2 => k_is)
    (case p3 => k_is); (case p4 => k_is); (case lKN => k_is); (case cKN => k_is); (case kKN => k_is); (case y1PC => k_is); (case y2PC => k_is); (case lPC => k_is)
    (case cPC => k_is); (case kPC => k_is); (case y1SP => k_is); (case y2SP => k_is); (case lSP => k_is); (case cSP => k_is); (case kSP => k_is); (case y1CR => k_is)
    (case y2CR => k_is); (case lCR => k_is); (case cCR => k_is); (case kCR => k_is); (case aL => k_is); (case lL => k_is); (case cL => k_is); (case kL => k_is)
    (case a0Require => k_is); (case l0Require => k_is); (case c0Require => k_is); (case k0Require => k_is); (case g_MOST_KNOTS => k_is); (case z_all => k_is); (case z_zip => k_is); (case a0Are => k_is)
    (case l0Are => k_is); (case c0Are => k_is); (case k0Are => k_is); (case a0ListW => k_is); (case l0ListW => k_is); (case c0ListW => k_is); (case k0ListW => k_is); (case a0Knot => k_is)
    (case l0Knot => k_is); (case c0Knot => k_is); (case k0Knot => k_is); (case a0TupOf => k_is); (case l0TupOf => k_is); (case c0TupOf => k_is); (case k0TupOf => k_is); (case a0IsPlace => k_is)
    (case l0IsPlace => k_is); (case c0IsPlace => k_is); (case k0IsPlace => k_is); (case a0IsFraction => k_is); (case l0IsFraction => k_is); (case c0IsFraction => k_is); (case k0IsFraction => k_is); (case a0Whole => k_is)
    (case l0Whole => k_is); (case c0Whole => k_is); (case k0Whole => k_is); (case a0Compare => k_is); (case l0Compare => k_is); (case c0Compare => k_is); (case k0Compare => k_is); (case a0Slope => k_is)
    (case l0Slope => k_is); (case c0Slope => k_is); (case k0Slope => k_is); (case a0Minus => k_is); (case l0Minus => k_is); (case c0Minus => k_is); (case k0Minus => k_is); (case a0Fraction => k_is)
    (case l0Fraction => k_is); (case c0Fraction => k_is); (case k0Fraction => k_is); (case lT0Fraction => k_is); (case a0Over => k_is); (case l0Over => k_is); (case c0Over => k_is); (case k0Over => k_is)
    (case a0Plus => k_is); (case l0Plus => k_is); (case c0Plus => k_is); (case k0Plus => k_is); (case a0Even => k_is); (case l0Even => k_is); (case c0Even => k_is); (case k0Even => k_is)
    (case a0Same => k_is); (case l0Same => k_is); (case c0Same => k_is); (case k0Same => k_is); (case a0LWhole => k_is); (case l0LWhole => k_is); (case c0LWhole => k_is); (case k0LWhole => k_is)
    (case a0Store => k_is); (case l0Store => k_is); (case c0Store => k_is); (case k0Store => k_is); (case a0Some => k_is); (case l0Some => k_is); (case c0Some => k_is); (case k0Some => k_is)
    (case a0Take => k_is); (case l0Take => k_is); (case c0Take => k_is); (case k0Take => k_is); (case a0Mixed => k_is); (case l0Mixed => k_is); (case c0Mixed => k_is); (case k0Mixed => k_is)
    (case a0Kn => k_is); (case l0Kn => k_is); (case c0Kn => k_is); (case k0Kn => k_is); (case a0Size => k_is); (case l0Size => k_is); (case c0Size => k_is); (case k0Size => k_is)
    (case a0Range => k_is); (case l0Range => k_is); (case c0Range => k_is); (case k0Range => k_is); (case a0Pick => k_is); (case l0Pick => k_is); (case c0Pick => k_is); (case k0Pick => k_is)
    (case a0Lowest => k_is); (case l0Lowest => k_is); (case c0Lowest => k_is); (case k0Lowest => k_is); (case a0Gcd => k_is); (case l0Gcd => k_is); (case c0Gcd => k_is); (case k0Gcd => k_is)
    (case a0DFrac => k_is); (case l0DFrac => k_is); (case c0DFrac => k_is); (case k0DFrac => k_is); (case a0LTimes => k_is); (case l0LTimes => k_is); (case c0LTimes => k_is); (case k0LTimes => k_is)
    (case a0Kw => k_is); (case l0Kw => k_is); (case c0Kw => k_is); (case k0Kw => k_is); (case a0DFracW => k_is); (case l0DFracW => k_is); (case c0DFracW => k_is); (case k0DFracW => k_is)
    (case a0Great => k_is); (case l0Great => k_is); (case c0Great => k_is); (case k0Great => k_is); (case a0LInt => k_is); (case l0LInt => k_is); (case c0LInt => k_is); (case k0LInt => k_is)
    (case a0Hold => k_is); (case l0Hold => k_is); (case c0Hold => k_is); (case k0Hold => k_is); (case a0LFracs => k_is); (case l0LFracs => k_is); (case c0LFracs => k_is); (case k0LFracs => k_is)
    (case a0LFrac => k_is); (case l0LFrac => k_is); (case c0LFrac => k_is); (case k0LFrac => k_is); (case a0LMinus => k_is); (case l0LMinus => k_is); (case c0LMinus => k_is); (case k0LMinus => k_is)
    (case a0LPlus => k_is); (case l0LPlus => k_is); (case c0LPlus => k_is); (case k0LPlus => k_is); (case a0Part => k_is); (case l0Part => k_is); (case c0Part => k_is); (case k0Part => k_is)
    (case a0Times => k_is); (case l0Times => k_is); (case c0Times => k_is); (case k0Times => k_is); (case a0Piece => k_is); (case l0Piece => k_is); (case c0Piece => k_is); (case k0Piece => k_is)
    (case a0DNz => k_is); (case l0DNz => k_is); (case c0DNz => k_is); (case k0DNz => k_is); (case a0DPos => k_is); (case l0DPos => k_is); (case c0DPos => k_is); (case k0DPos => k_is)
    (case a0Fits => k_is); (case l0Fits => k_is); (case c0Fits => k_is); (case k0Fits => k_is)
